import PyProof.Rows.All
import Wide.All
import OpenK.AllK
import PySem.Challenge.RW_talkleast_k72_whole_put_together
set_option compiler.extract_closed false
set_option genSizeOf false
set_option genInjectivity false
set_option bootstrap.genMatcherCode false
set_option Elab.async false
set_option linter.all false
set_option maxRecDepth 100000
set_option maxHeartbeats 4000000
set_option hygiene false
local macro_rules|`(KE)=>`((by omega))|`(MG)=>`((by decide))|`(MI)=>`((model X.prog X.w))|`(MJ)=>`((model prog w))|`(MO)=>`((by intro z;cases z))|`(MP)=>`((by simp))|`(MR)=>`((dE X.D δ q))|`(MT)=>`((FI (flip m rows)))|`(MU)=>`(on (on Int))|`(MX)=>`((R.hid.mono s1))|`(Nb)=>`(⟨_,rfl⟩)|`(Nc)=>`((L2.wo (O++W) H))|`(Nd)=>`(Rect n m rows)|`(Ng)=>`((by decide +kernel))|`(Ni)=>`(∀(j i:Nat),fr[j]? = some i->∃y,m.N[m.np+j]? = some y/\X.N[i]? = some y/\(X.env.kindOf y=some .cell\/X.env.kindOf y=some .free))|`(Nj)=>`((bz v m n))|`(Nk)=>`((FI rows))|`(Nl)=>`((l.all λ p=>p.2 == .strong||p.2 == .fresh))|`(Nn)=>`((λ _ _=>rfl))|`(No)=>`((.ref s.heap.objs.size))|`(Np)=>`((x==("__debug__" : Str)))|`(Nq)=>`((tT rows))|`(Nr)=>`(Two A B n m p q)|`(Nt)=>`((l8 X.env.cells sc.names []))|`(Nu)=>`((Same.refl H))|`(Nv)=>`((JL rows w m (j+1)))|`(Nw)=>`((congrArg C t.2))|`(Ny)=>`((.Call (.Name x p) (e::es) [] pos))|`(Nz)=>`((RowW.records (OpenRow.toRowW (OpenLaw.row PySem.Challenge.rw_talkleast_k72_whole_put_together))))|`(NB)=>`(on (Mq×Obj))|`(NE)=>`(Nat->on DV->Mn Ou)|`(NF)=>`((w.withFollow row b))|`(NH)=>`((p4 X scope L (D+1) j a H fp))|`(NI)=>`((kl rows m n))|`(NJ)=>`((PT A B n m p q "times"))|`(NK)=>`((.inl rfl))|`(NM)=>`((Re.thn ra λ x _=>Re.thn rb λ y _=>(cmpD op x y).map λ k=>.ok (.bl k) .strong))|`(NN)=>`(X.calm=true)|`(NO)=>`((importedModules PySem.Challenge.pw_talkleast_k72_whole_put_together.main.body))|`(NP)=>`(⟨D8 sg tn fr,cp.sc.names,sg.fn,sg.bl,sg.cl,false,false⟩)|`(NQ)=>`(evEs G F es δ=some (.ok l))|`(NR)=>`(⟨D8 sg tn fr,c.sc.names,sg.fn,sg.bl,sg.cl,false,false⟩)|`(NT)=>`(A.handled=none)|`(NU)=>`((X.env.qual ++ "<lambda>"))|`(NW)=>`((d.push {cls:=.type "tuple",data:=.seq #[.int k a,x]}))|`(NX)=>`(∀y∈sc.names,y.2=NameKind.free->∃a,X.env.cells.lookup y.1=some a)|`(NY)=>`((model P w))|`(NZ)=>`((mf rest))|`(Ob)=>`((SetTable.grown c.size))
local macro_rules|`(MH $a $b $c)=>`(evE G F $a δ=some (.ok $c $b))|`(MK $a)=>`((run G T fu $a))|`(ML $a)=>`((List.range $a))|`(MM $a)=>`((.val (.int $a)))|`(MN $a)=>`(Inv X $a σ H s)|`(MQ $a)=>`((evE G F $a δ))|`(MV $a)=>`((.ok $a .strong))|`(MW $a $b)=>`((.call $a [.var $b]))|`(MY $a)=>`((.int $a))|`(MZ $a)=>`((.lst $a))|`(Na $a $b)=>`(evE G F $a δ=some $b)|`(Nf $a)=>`((L2.wo $a H))|`(Nh $a $b)=>`((.ix (.var $a) $b))|`(Nm $a)=>`((by simpa using $a))|`(NA $a)=>`(δ[i]? = some (.val $a))|`(NC $a $b)=>`((.and [.cmp .Eq (.var 5) $b,.not (.call $a [.var 1,.var 2,.var 6])]))|`(ND $a)=>`((rows.getD $a []))|`(NG $a)=>`(Hid O W $a H)|`(NL $a)=>`((d7 (d5 rfl) $a))|`(NS $a)=>`(CompScope X.N $a scope X.env.scope fr)|`(NV $a)=>`((Ne.symm $a))|`(Oa $a)=>`((sk $a ["table"] X Ns))|`(Od $a $b)=>`((.bi .len [.call $a [.var $b,.int 1]]))|`(Oe $a)=>`((.bin .LShift (.int 1) $a))
set_option hygiene true
section
open PySem PySem.Spec PyProof.Rows
abbrev on:=@List
abbrev Mn:=@Option
abbrev Mo:=@Value
abbrev Mp:=@Shared
abbrev Mq:=@Addr
abbrev Mr:=@Heap
abbrev Ms:=@Expr
abbrev Mu:=@Array
abbrev Mv:=@World
abbrev Mw:=@Program
abbrev My:=@Around
abbrev Mz:=@Stmt
abbrev MA:=@PySem.W.Frag
abbrev MB:=@Scope
abbrev MC:=@Arguments
abbrev MD:=@SetTable
abbrev MF:=@String
abbrev d4:=@wpAny_bind
abbrev d8:=@Bool.and_eq_true
abbrev d9:=@List.length_map
abbrev i8:=@List.getD_eq_getElem?_getD
abbrev i6:=@List.getElem?_eq_getElem
abbrev i5:=@Heap.get?_push_of_some
abbrev j5:=@List.mem_cons_of_mem
abbrev e8:=@wpAny_pure
abbrev e9:=@Nat.le_trans
abbrev i9:=@List.mem_cons_self
abbrev f8:=@List.mem_cons
abbrev f6:=@Nat.le_refl
abbrev i7:=@List.mem_range
abbrev f0:=@beq_iff_eq
abbrev d6:=@if_pos
abbrev g9:=@List.mem_map
abbrev m7:=@Heap.get?_push_size
abbrev o9:=@Option.map_eq_some_iff
abbrev e7:=@if_neg
abbrev l4:=@List.length_cons
abbrev j6:=@Heap.lt_size
abbrev k8:=@List.mem_filter
abbrev n7:=@List.getElem?_map
abbrev o4:=@Nat.lt_of_lt_of_le
abbrev p7:=@List.length_append
abbrev t5:=@List.getElem?_set_ne
abbrev t8:=@List.mem_append_right
abbrev k9:=@List.map_map
abbrev q9:=@List.length_range
abbrev o5:=@decide_eq_false
abbrev s9:=@List.mem_singleton
abbrev o7:=@List.map_append
abbrev w5:=@List.getElem?_eq_some_iff
abbrev o6:=@decide_eq_true
abbrev t4:=@Bool.not_eq_true'
abbrev u3:=@Array.length_toList
abbrev n9:=@Nat.ne_of_lt
abbrev t7:=@List.size_toArray
abbrev v7:=@Nat.pow_le_pow_right
abbrev w6:=@List.mem_append_left
abbrev u4:=@List.all_eq_true
abbrev z7:=@List.map_congr_left
abbrev A5:=@List.length_filter_le
abbrev w9:=@Bool.false_ne_true
abbrev x0:=@Int.natCast_nonneg
abbrev v9:=@Int.toNat_natCast
abbrev t9:=@List.map_cons
abbrev A6:=@beq_eq_false_iff_ne
abbrev A9:=@PySem.mem_of_lookup
abbrev x3:=@List.mem_append
abbrev x4:=@List.append_nil
abbrev C7:=@Bool.and_eq_true_iff
abbrev B6:=@wpAny_setField_rec
abbrev z9:=@Option.some.inj
abbrev G4:=@Option.bind_eq_some_iff
abbrev F2:=@Array.getElem?_toList
abbrev B0:=@List.lookup_cons
abbrev C8:=@List.pairwise_cons
abbrev B1:=@List.any_eq_true
abbrev A7:=@List.length_set
abbrev L6:=@Array.getElem?_eq_getElem
abbrev F3:=@Heap.SameBut.update
abbrev J6:=@List.getElem?_set_self
abbrev u9:=@Nat.zero_le
abbrev C9:=@wpAny_call_entry
abbrev E1:=@wpAny_newObj_type
abbrev B7:=@Bool.or_eq_true
abbrev E2:=@decide_eq_true_eq
abbrev L7:=@wpAny_callSpecial?_slot
abbrev J7:=@List.getElem?_eq_none
abbrev x5:=@wpAny_field
abbrev L8:=@Array.getElem?_eq_none
abbrev E3:=@Nat.le_add_right
abbrev E4:=@List.getElem_mem
abbrev B8:=@Heap.size_push
abbrev P7:=@List.getElem?_append_right
abbrev T6:=@List.exists_mem_of_length_pos
abbrev L9:=@List.length_singleton
abbrev M0:=@List.contains_iff_mem
abbrev P8:=@List.getElem?_append_left
abbrev F4:=@List.not_mem_nil
abbrev T7:=@Array.getD_eq_getD_getElem?
abbrev F5:=@Option.map_some
abbrev D0:=@wpAny_holding
abbrev G5:=@Option.getD_some
abbrev B9:=@Int.mul_comm
abbrev A8:=@wpAny_mono
abbrev P9:=@List.mem_of_getElem?
abbrev Q0:=@Bool.or_eq_false_iff
abbrev N4:=@Nat.lt_of_le_of_lt
abbrev N5:=@decide_eq_true_iff
abbrev M1:=@Nat.zero_testBit
abbrev G6:=@List.any_cons
abbrev G7:=@Int.mul_assoc
abbrev W8:=@Option.isSome_iff_exists
abbrev F6:=@Nat.zero_add
abbrev M2:=@Bool.eq_iff_iff
abbrev X0:=@List.filter_cons_of_neg
abbrev X1:=@List.filter_cons_of_pos
abbrev N6:=@Option.bind_some
abbrev J8:=@Nat.lt_irrefl
abbrev F7:=@sizeLine_eq
abbrev Q1:=@wpAny_pyIter_list
abbrev Q2:=@List.append_assoc
abbrev T9:=@List.getElem?_range
abbrev N7:=@List.nodup_cons
abbrev X2:=@Heap.get?_update_self
abbrev U0:=@wpAny_pyIter_tuple
abbrev U1:=@Bool.false_eq_true
abbrev J9:=@Nat.mul_comm
abbrev G8:=@Nat.add_mul
abbrev X3:=@Heap.get?_none_of_le
abbrev N8:=@wpAny_seqItems
abbrev bN:=@PyProof.Rows.callWith_type1
abbrev Q4:=@Nat.not_lt_zero
abbrev X4:=@List.getElem_of_mem
abbrev M3:=@Nat.ne_of_gt
abbrev N9:=@wpAny_attempt
abbrev U2:=@List.length_take
abbrev U3:=@Nat.le_of_not_lt
abbrev U4:=@beq_self_eq_true
abbrev X5:=@wpAny_Call_Name_kw
abbrev Q5:=@Nat.mul_le_mul
abbrev X6:=@List.filter_append
abbrev X7:=@Nat.pos_of_ne_zero
abbrev M4:=@Nat.le_succ
abbrev O0:=@codeAny_mono
abbrev au:=@List.pairwise_append
abbrev U5:=@Nat.testBit_xor
abbrev Q6:=@Bool.true_and
abbrev Q7:=@Nat.xor_assoc
abbrev U6:=@wpAny_setField
abbrev F8:=@or_false
abbrev X8:=@List.mem_flatMap
abbrev bO:=@Calls.callWith_builtin
abbrev bP:=@List.range_succ_eq_map
abbrev M5:=@bne_iff_ne
abbrev bQ:=@Nat.testBit_lt_two_pow
abbrev bR:=@List.length_pos_of_mem
abbrev Q8:=@Nat.le_of_lt
abbrev av:=@Obj.data_mapFields
abbrev Q9:=@Nat.pow_succ
abbrev aw:=@List.ne_nil_of_mem
abbrev X9:=@wpAny_passesOwn
abbrev bT:=@wpAny_loadPart'
abbrev Y0:=@List.range_succ
abbrev Y1:=@List.find?_cons
abbrev Y2:=@Nat.two_pow_pos
abbrev Y3:=@Nat.div_add_mod
abbrev eI:=@F.slot_tuple_iterator_next
abbrev ax:=@wpAny_setState_of
abbrev ay:=@Nat.lt_succ_of_lt
abbrev az:=@List.filter_congr
abbrev bU:=@Around.under_plainId
abbrev bV:=@Nat.mul_le_mul_right
abbrev R4:=@Int.one_mul
abbrev aA:=@wpAny_isInstance
abbrev U7:=@Nat.lt_or_ge
abbrev aB:=@Nat.lt_succ_self
abbrev aC:=@wpAny_askSetting
abbrev aD:=@List.mem_flatten
abbrev bW:=@wpAny_setEntries_of
abbrev eJ:=@List.getElem?_replicate
abbrev eK:=@List.getElem?_cons_succ
abbrev eL:=@Nat.le_mul_of_pos_right
abbrev bX:=@List.mem_filterMap
abbrev bY:=@Nat.lt_or_eq_of_le
abbrev aE:=@codeAny_builtin
abbrev iF:=@wpAny_typeNameOfWhole_itemiter
abbrev bZ:=@Int.natAbs_natCast
abbrev eM:=@PySem.W.cellsFrom_some
abbrev eN:=@Heap.get?_update_other
abbrev U8:=@Nat.one_mul
abbrev eO:=@List.filter_eq_nil_iff
abbrev eP:=@Nat.le_mul_of_pos_left
abbrev ce:=@wpAny_truthy_bool
abbrev Y4:=@Nat.lt_trans
abbrev eQ:=@List.mem_iff_getElem?
abbrev K0:=@Iff.rfl
abbrev eR:=@F.slot_enumerate_next
abbrev Y5:=@Int.mul_zero
abbrev Y6:=@Nat.xor_zero
abbrev U9:=@wpAny_rule
abbrev eS:=@Nat.eq_of_testBit_eq
abbrev cf:=@decide_eq_decide
abbrev iG:=@Nat.mod_two_eq_zero_or_one
abbrev Y7:=@Int.mul_sub
abbrev eT:=@List.filterMap_cons
abbrev iH:=@List.getElem?_eq_none_iff
abbrev iI:=@List.pairwise_iff_getElem
abbrev cj:=@List.length_nil
abbrev iJ:=@List.drop_eq_getElem_cons
abbrev iK:=@List.getElem?_zip_eq_some
abbrev iL:=@Classical.byContradiction
abbrev iM:=@Nat.ge_two_pow_of_testBit
abbrev iN:=@List.exists_mem_of_ne_nil
abbrev eU:=@List.getElem?_drop
abbrev iO:=@List.length_erase_of_mem
abbrev aF:=@Int.zero_mul
abbrev aG:=@Nat.xor_comm
abbrev aH:=@Nat.xor_self
abbrev aI:=@Int.le_trans
abbrev eV:=@Int.emod_lt_of_pos
abbrev cn:=@isSubtype_stop
abbrev cq:=@wpAny_fieldsOf
abbrev iP:=@List.length_eq_zero_iff
abbrev iQ:=@F.plain_set_update_loop
abbrev iR:=@PySem.F.plainAttrs_list
abbrev iS:=@List.pairwise_singleton
abbrev eW:=@Nat.lt_trichotomy
abbrev aJ:=@wpAny_letGo
abbrev iT:=@List.take_of_length_le
abbrev iU:=@wpAny_isOneOf_itemiter
abbrev iV:=@List.length_eq_one_iff
abbrev cr:=@wpAny_standAt
abbrev cu:=@plainId_quiet
abbrev cw:=@listUpdate_at
abbrev cA:=@List.sum_cons
abbrev oN:=@Nat.testBit_eq_decide_div_mod_eq
abbrev iW:=@List.length_replicate
abbrev iX:=@Obj.isFreed_of_fields
abbrev Y8:=@eq_of_beq
abbrev eX:=@List.of_mem_zip
abbrev iY:=@Calls.evalArgs_plain
abbrev eY:=@List.nil_append
abbrev iZ:=@wpAny_updateSeq_pair
abbrev eZ:=@F.slot_zip_next
abbrev fb:=@Int.emod_two_eq
abbrev cC:=@Nat.zero_xor
abbrev fe:=@Int.natCast_mul
abbrev ff:=@Nat.min_eq_left
abbrev fg:=@List.filter_nil
abbrev fh:=@Int.emod_nonneg
abbrev ja:=@Nat.div_lt_of_lt_mul
abbrev oO:=@F.slot_dict_itemiterator_next
abbrev jb:=@Array.toList_append
abbrev jc:=@Nat.testBit_two_pow
abbrev jd:=@List.map_eq_nil_iff
abbrev oP:=@F.args_tuple_iterator_next_1
abbrev fi:=@wpAny_newTuple
abbrev fj:=@Bool.and_false
abbrev fq:=@Bool.xor_false
abbrev cD:=@wpAny_of_eq
abbrev cF:=@Nat.log2_lt
abbrev cG:=@Int.le_refl
abbrev je:=@Calls.spliced_cons
abbrev jf:=@PySem.W.callWith_K
abbrev oQ:=@F.entry_tuple_iterator_next
abbrev jg:=@Nat.eq_zero_or_pos
abbrev jh:=@tupleKind_room_in1
abbrev ji:=@Int.lt_of_le_of_lt
abbrev oR:=@List.idxOf_lt_length_of_mem
abbrev fv:=@Paired.length
abbrev oS:=@Calls.Name_function_global
abbrev oT:=@Int.fdiv_eq_ediv_of_nonneg
abbrev fw:=@wpAny_onRaise
abbrev fx:=@List.cons.inj
abbrev oU:=@Array.perm_iff_toList_perm
abbrev jk:=@Calls.spliced_nil
abbrev jl:=@List.take_sublist
abbrev jm:=@Obj.cls_mapFields
abbrev jn:=@Nat.le_of_lt_succ
abbrev jo:=@fits_of_scanBound
abbrev jq:=@List.foldl_append
abbrev jr:=@wpAny_pyIter_slot
abbrev js:=@bne_self_eq_false
abbrev jt:=@List.ext_getElem?
abbrev ju:=@of_decide_eq_true
abbrev cH:=@wpAny_call
abbrev cI:=@Nat.mod_lt
abbrev oV:=@List.mem_of_find?_eq_some
abbrev oW:=@Option.isNone_iff_eq_none
abbrev oX:=@List.isEmpty_eq_false_iff
abbrev oY:=@List.getElem?_take_of_lt
abbrev fy:=@List.map_nil
abbrev oZ:=@wpAny_comprehension_free
abbrev pc:=@PySem.F.slot_tuple_index
abbrev jv:=@Nat.succ_le_succ
abbrev fz:=@Bool.or_true
abbrev fA:=@listItems_at
abbrev jx:=@List.ext_getElem
abbrev jy:=@List.drop_length
abbrev fB:=@List.any_map
abbrev fC:=@Nat.sub_self
abbrev fE:=@Int.zero_add
abbrev jz:=@Nat.div_eq_of_lt
abbrev jA:=@Nat.mod_eq_of_lt
abbrev pd:=@List.Pairwise.imp_of_mem
abbrev pf:=@wpAny_Call_method0_late
abbrev ph:=@PySem.F.slot_list_index
abbrev pi:=@F.entry_set_update_loop
abbrev pj:=@F.args_enumerate_next_1
abbrev pk:=@PySem.F.slot_dict_items
abbrev pq:=@Classical.axiomOfChoice
abbrev pu:=@decide_eq_false_iff_not
abbrev pv:=@Nat.testBit_div_two_pow
abbrev jC:=@wpAny_execs_nil
abbrev jD:=@List.forIn_cons
abbrev jF:=@pushCells_keeps
abbrev jG:=@wpAny_specialOf
abbrev jH:=@wpAny_ite_split
abbrev jI:=@Nat.min_le_left
abbrev jJ:=@List.foldl_cons
abbrev jK:=@Nat.mul_add_div
abbrev jL:=@Nat.mul_add_mod
abbrev pz:=@wpAny_pyNext_list_item
abbrev fF:=@Int.mul_one
abbrev pA:=@subscriptTail_builtinR
abbrev pB:=@wpAny_Call_method_late
abbrev pC:=@List.pairwise_lt_range
abbrev pE:=@List.drop_of_length_le
abbrev pF:=@F.entry_enumerate_next
abbrev pG:=@F.slot_dict_items_iter
abbrev fG:=@Nat.mul_pos
abbrev jM:=@Bool.false_and
abbrev pH:=@wpAny_pyNext_list_end
abbrev pI:=@builtinLookup_eq_fast
abbrev jN:=@isSubtype_type
abbrev jO:=@List.nodup_nil
abbrev jP:=@Nat.testBit_or
abbrev jQ:=@Nat.add_le_add
abbrev jR:=@Int.mul_nonneg
abbrev fH:=@size_push'
abbrev jS:=@Bool.or_false
abbrev jT:=@wpAny_handled
abbrev jU:=@wpAny_newList
abbrev jV:=@nums_intItems
abbrev jW:=@Bool.and_self
abbrev jX:=@seqIndex_neg
abbrev jY:=@wpAny_typeOf
abbrev jZ:=@Bool.true_or
abbrev ke:=@Int.mul_emod
abbrev kf:=@Nat.add_comm
end
noncomputable section
noncomputable section
namespace L2
open PySem
noncomputable def O3(s:Mz):MC:=match s with
 | .FunctionDef _ a _ _ _ _ _ _ _ _=>a
 | _=>{posonlyargs:=[],args:=[],vararg:=none,kwonlyargs:=[],kw_defaults:=[],kwarg:=none,defaults:=[]}
noncomputable def G9(s:Mz):on Mz:=match s with
 | .FunctionDef _ _ b _ _ _ _ _ _ _=>b
 | _=>[]
noncomputable def v3(s:Mz):MB:=match s with
 | .FunctionDef _ _ _ _ _ _ sc _ _ _=>sc
 | _=>{kind:=.function,names:=[],isGenerator:=false,isCoroutine:=false}
end L2
namespace L2
open PySem PySem.W PyProof.Rows
noncomputable def aK(tb:MF->Mn Builtin)(p:Mw)(w:Mv)(n₀:Nat)(ann:Mn Mo):Nat->SharedT->Thread->Mn SharedT
 | 0,_,_=>none
 | n+1,s,t=>match through t with
  | true=>some s
  | false=>match stepOk n₀ ann t with
   | false=>none
   | true=>match stepT (denote tb) p w s t with
    | some (s',t')=>aK tb p w n₀ ann n s' t'
    | none=>none
theorem pJ{tb:MF->Mn Builtin}{p:Mw}{w:Mv}{n₀:Nat}{ann:Mn Mo}:∀{n:Nat} {s s':SharedT} {t:Thread},aK tb p w n₀ ann n s t=some s'->topRun tb p w n₀ ann n s.abs t=some s'.abs
 | 0,_,_,_,h=>by cases h
 | n+1,s,s',t,h=>by
  unfold aK at h;unfold topRun;cases ht:through t with
  | true=>rw[ht]at h;cases h;rfl
  | false=>
   rw[ht]at h;cases hk:stepOk n₀ ann t with
   | false=>rw[hk]at h;cases h
   | true=>
    rw[hk]at h;cases hs:stepT (denote tb) p w s t with
    | none=>rw[hs]at h;cases h
    | some q=>
     obtain⟨s₂,t₂⟩:=q;rw[hs]at h;rw[stepT_spec hs];exact pJ h
noncomputable def yL(l:on Obj):BT:=l.zipIdx.foldl (λ t q=>t.ins q.2 q.1) .nil
def yM{p q:Mw}{loose:on Str}{Xt:Mp->Bool}{α:Type}{Yf:Mp->α}{Ya:Mv->α}{N:Nat}{g0:Bool}{T₀:Params->BT}{n₀:Nat}{life:Life}{d₀:Drawn}{k₀:Nat}{ann:Mn Mo}(row:MF)
  (open_:∀w:Mv,(fencedOpening treeTable p w N).map (λ s=>(s.heap,s.gens,s.drawn,s.toks))=some (absHeap (T₀ w.params) n₀ life,#[],d₀,k₀))
  (size:∀w:Mv,((absHeap (T₀ w.params) n₀ life).isNs mainGlobals,(absHeap (T₀ w.params) n₀ life).nsMap mainGlobals "__annotations__")=(true,ann))
  (run:∀(b:Bool) (w:Mv) (os:OsState),(aK treeTable p NF n₀ ann N ⟨T₀ (NF).params,n₀,life,#[],d₀,k₀,os⟩ (topStub p)).map (λ s=>
   ((staticsOk (importedModules p.main.body) (absHeap (T₀ (NF).params) n₀ life) s.abs.heap&&namesBound p s.abs.heap&&gensDone s.abs&&laidKept (absHeap (T₀ (NF).params) n₀ life) s.abs.heap),openSeen q loose (importedModules p.main.body) Xt g0 s.abs,Yf s.abs))=some (true,openGood q loose,Ya NF)):LeftO p q loose Xt Yf Ya N g0:=λ w=>by
 have key:∀b,(openEnds treeTable p NF N).map (λ s=>(openSeen q loose (importedModules p.main.body) Xt g0 s,Yf s))=some (openGood q loose,Ya NF):=λ b=>by
  obtain⟨⟨h,gs,d,k,os⟩,e,e'⟩:=o9.mp (open_ NF);obtain⟨rfl,rfl,rfl,rfl⟩:h=absHeap (T₀ (w.withFollow row b).params) n₀ life/\gs = #[]/\d=d₀/\k=k₀:=by simpa using e'
  obtain⟨z1,z2⟩:_/\_:=by simpa only[Prod.mk.injEq]using size NF
  obtain⟨s,r,l⟩:=o9.mp (run b w os);obtain⟨l1,l2,l3⟩:_/\_/\_:=by simpa only[Prod.mk.injEq]using l
  have r':=pJ r;have t:topFrom treeTable p NF N ⟨absHeap (T₀ (NF).params) n₀ life,#[],d,k,os⟩=some s.abs:=(by unfold topFrom;dsimp only;rw[z1,z2,absHeap_size];show(topRun treeTable p NF n₀ ann N (SharedT.abs ⟨T₀ (NF).params,n₀,life,#[],d,k,os⟩) (topStub p)).bind _=_;rw[r'];show(match staticsOk (importedModules p.main.body) (absHeap (T₀ (NF).params) n₀ life) s.abs.heap&&namesBound p s.abs.heap&&gensDone s.abs&&laidKept (absHeap (T₀ (NF).params) n₀ life) s.abs.heap with | true=>_ | false=>_)=_;rw[l1]);unfold openEnds;rw[e];show(topFrom treeTable p NF N _).map _=_;rw[t];exact congrArg some (Prod.ext l2 l3)
 have:=key (w.params.followText row);rw[World.withFollow_self]at this;exact this
end L2

namespace k72
open PySem PySem.W L2 PySem.Spec PyProof.Rows
noncomputable def top(i:Nat):Mz:=PySem.Challenge.pw_talkleast_k72_whole_put_together.main.body.getD i (.Pass ⟨0,0,0,0⟩)
def fo(n:Str)(i:Nat)(dV pm:Mo)(cd:Mq):Obj:=⟨.type "function",none,.func (fnOf n n (O3 (top i)) (G9 (top i)) (v3 (top i)) dV .none .none pm none (.ref cd) .none),#[]⟩
noncomputable def en(P:Params)(s:Str)(t:Nat)(v:Mo):DictEntry:=⟨PyData.keyHash P s,.str s t,v⟩
structure Rw where
 n:Str
 c:Nat
 t:Nat
 l:Int
 a:Int
 k:Bool
 q:Nat
 i:Nat
 m:Nat
noncomputable def zD:on Rw:=⟨"is_int",69,257,11,3,true,263,6,0⟩::⟨"flipped",74,272,16,1,false,275,10,1⟩::⟨"cut",81,278,18,3,true,284,11,1⟩::⟨"check_cards",88,287,22,2,true,292,12,1⟩::⟨"cards_in",93,295,25,1,false,298,13,1⟩::⟨"crossing",98,301,27,3,false,304,14,1⟩::⟨"row_kinds",103,307,29,1,false,310,15,1⟩::⟨"column_kinds",110,313,31,1,true,317,16,1⟩::⟨"trimmed",117,320,33,1,true,324,17,1⟩::⟨"is_small",124,327,35,1,true,332,18,1⟩::⟨"check_small",131,335,38,1,true,339,19,1⟩::⟨"words_in",138,342,41,1,true,348,20,1⟩::⟨"ruled",143,353,47,3,false,356,22,2⟩::⟨"together",151,368,51,3,true,381,25,3⟩::⟨"joined_word",158,384,61,3,true,390,26,3⟩::⟨"apart",163,395,68,2,false,398,28,4⟩::⟨"most_apart",168,401,75,2,false,404,29,4⟩::⟨"keep_apart",175,407,83,3,true,414,30,4⟩::⟨"widest",182,419,89,2,true,427,32,5⟩::⟨"columns_with",187,430,96,3,false,433,33,5⟩::⟨"rows_with",192,436,99,3,false,439,34,5⟩::⟨"fewest_cover",199,444,103,2,true,453,36,6⟩::⟨"entries_by_choice",204,456,113,3,false,459,37,6⟩::⟨"blocks_with",209,462,118,2,false,465,38,6⟩::⟨"contains",216,468,120,2,true,473,39,6⟩::⟨"left_bare",221,476,122,2,false,479,40,6⟩::⟨"cover_within",228,482,124,3,true,490,41,6⟩::⟨"bits_paper",235,495,135,1,true,499,43,7⟩::⟨"ends_paper",242,502,137,1,true,506,44,7⟩::⟨"paper",247,509,139,1,false,512,45,7⟩::⟨"bits_numbers",254,515,141,1,true,519,46,7⟩::⟨"ends_numbers",261,522,143,1,true,526,47,7⟩::⟨"joined_bits",268,529,145,2,true,534,48,7⟩::⟨"joined_ends",275,537,147,2,true,542,49,7⟩::⟨"least_numbers",280,545,149,3,false,548,50,7⟩::⟨"splits",285,551,161,2,false,554,51,7⟩::⟨"halves",290,557,165,1,false,560,52,7⟩::⟨"least_bits",297,565,168,1,true,569,54,8⟩::⟨"fewest_ends",304,572,170,1,true,576,55,8⟩::⟨"rank",311,581,173,1,true,585,57,9⟩::⟨"base_lines",316,588,175,1,false,591,58,9⟩::⟨"reduced",321,594,184,2,false,597,59,9⟩::⟨"leading_place",326,600,191,1,false,603,60,9⟩::⟨"rank_in_twos",333,608,194,1,true,612,62,10⟩::⟨"lines_in_twos",338,615,196,1,false,618,63,10⟩::⟨"base_indexes",343,621,198,1,false,624,64,10⟩::⟨"kept_lines",350,627,200,1,true,635,65,10⟩::⟨"reduced_in_twos",357,638,207,2,true,648,66,10⟩::⟨"_law_cell_at",371,660,218,2,true,665,69,11⟩::⟨"_law_stream",378,668,222,2,true,678,70,11⟩::⟨"_law_shaped",383,681,236,6,false,684,71,11⟩::⟨"_law_two",390,687,241,1,true,696,72,11⟩::⟨"_law_many",397,699,248,1,true,703,73,11⟩::⟨"_law_pair",404,706,250,3,true,712,74,11⟩::⟨"_law_times",411,715,256,3,true,721,75,11⟩::⟨"law",418,724,264,1,true,734,76,11⟩::[]
noncomputable def zP(j:Nat):Mo:=[.str "talkleast.checks" 255,.str "talkleast.tables" 266,.str "talkleast.named" 351,.str "talkleast.together" 359,.str "talkleast.apart" 393,.str "talkleast.blocks" 417,.str "talkleast.covers" 442,.str "talkleast.parts" 493,.str "talkleast.least" 563,.str "talkleast.ranks" 579,.str "talkleast.twos" 606,.str "law_talkleast_k72_whole_put_together" 651].getD j .none
def zO(r:Rw):Frag:=[(r.c,⟨.type "code",none,.fields #[.str r.n r.t,.str r.n (r.t+1),.str "/claim/cut.py" (r.t+2),.int r.l 0,.int r.a 0,.int 0 0,.int 0 0,.int 3 0,.ref (r.c - if r.k then 5 else 3),.bool true,.int 181 0,.ref (r.c - if r.k then 4 else 2),.none,if r.k then .ref (r.c - 3)else .none,if r.k then .ref (r.c - 2)else .none,.ref (r.c - 1),.int r.q 0,.int r.l 0,.str "/claim/cut.py" (r.q+1)],#[]⟩),(r.c+1,fo r.n r.i .none (zP r.m) r.c)]
def kK(P:Params):Frag:=let ge (r:Rw):=en P r.n (r.q+2) (.ref (r.c+1));[(3,⟨.type "dict",none,.dict ([en P "__name__" 165 (.str "law_talkleast_k72_whole_put_together" 651),en P "__doc__" 166 .none,en P "__package__" 167 .none,en P "__loader__" 168 (.builtin "__main__.__loader__#opaque"),en P "__spec__" 169 .none,en P "__annotations__" 170 (.ref 6),en P "__builtins__" 171 (.ref 4),en P "__file__" 173 (.str "/claim/cut.py" 172),en P "__cached__" 174 .none,en P "TalkError" 206 (.ref 24),en P "NoCard" 222 (.ref 37),en P "NoWord" 238 (.ref 49),en P "TooGreat" 254 (.ref 61)]++((zD.drop 0).take 1).map ge++[en P "MOST_LINES" 269 (.int 8 268),en P "SMALL_LINES" 271 (.int 5 270)]++((zD.drop 1).take 12).map ge++[en P "GREATEST_WORDS" 367 (.ref 145)]++((zD.drop 13).take 35).map ge++[en P "_law_int" 659 (.ref 365)]++((zD.drop 48).take 8).map ge).toArray 73,#[]⟩),(145,⟨.type "dict",none,.dict #[en P "pair" 361 (.int 2 362),en P "times" 363 (.int 3 364)] 2,#[]⟩)]++zD.flatMap zO
def zA:on Mq:=[3,145]++zD.flatMap λ r=>[r.c,r.c+1]
noncomputable def kT:Frag:=zD.map λ r=>(r.c - if r.k then 4 else 2,⟨.none,none,.fields #[],#[]⟩)
def kAll(P:Params):Frag:=kT++kK P
def zB:on Mq:=kT.map (·.1)++zA
def kE:∀P,zB=(kAll P).map (·.1):=λ _=>by kernel_rfl
noncomputable def kQ:Mw:=view PySem.Challenge.pw_talkleast_k72_whole_put_together [1,2,3,4,6,8,9,10,11,12,13,14,15,16,17,18,19,20,22,24,25,26,28,29,30,32,33,34,36,37,38,39,40,41,43,44,45,46,47,48,49,50,51,52,54,55,57,58,59,60,62,63,64,65,66,68,69,70,71,72,73,74,75,76]
def kL:on Str:=[("GREATEST_WORDS" : Str)]
def kT0(P:Params):BT:=yL (boot_heap P).objs.toList
def kn:Nat:=11
def V0:Life:={}
def kann:Mn Mo:=some (.ref 6)
def kAbs(P:Params):boot_heap P=absHeap (kT0 P) kn V0:=by kernel_rfl
set_option maxHeartbeats 0 in
def yN(w:Mv)(os:OsState):(aK treeTable PySem.Challenge.pw_talkleast_k72_whole_put_together (w.withFollow "special-get-raises" false) kn kann 5440 ⟨kT0 (w.withFollow "special-get-raises" false).params,kn,V0,#[],boot_drawn,boot_toks,os⟩ (topStub PySem.Challenge.pw_talkleast_k72_whole_put_together)).map (λ s=>((staticsOk NO (absHeap (kT0 (w.withFollow "special-get-raises" false).params) kn V0) s.abs.heap&&namesBound PySem.Challenge.pw_talkleast_k72_whole_put_together s.abs.heap&&gensDone s.abs&&laidKept (absHeap (kT0 (w.withFollow "special-get-raises" false).params) kn V0) s.abs.heap),openSeen kQ kL NO (λ s=>xlAt kQ [] s&&recOk Nz s) true s.abs,(kHook kAll zB kE).obs s.abs))=some (true,openGood kQ kL,(kHook kAll zB kE).val (w.withFollow "special-get-raises" false)):=by kernel_rfl
set_option maxHeartbeats 0 in
def yO(w:Mv)(os:OsState):(aK treeTable PySem.Challenge.pw_talkleast_k72_whole_put_together (w.withFollow "special-get-raises" true) kn kann 5440 ⟨kT0 (w.withFollow "special-get-raises" true).params,kn,V0,#[],boot_drawn,boot_toks,os⟩ (topStub PySem.Challenge.pw_talkleast_k72_whole_put_together)).map (λ s=>((staticsOk NO (absHeap (kT0 (w.withFollow "special-get-raises" true).params) kn V0) s.abs.heap&&namesBound PySem.Challenge.pw_talkleast_k72_whole_put_together s.abs.heap&&gensDone s.abs&&laidKept (absHeap (kT0 (w.withFollow "special-get-raises" true).params) kn V0) s.abs.heap),openSeen kQ kL NO (λ s=>xlAt kQ [] s&&recOk Nz s) true s.abs,(kHook kAll zB kE).obs s.abs))=some (true,openGood kQ kL,(kHook kAll zB kE).val (w.withFollow "special-get-raises" true)):=by kernel_rfl
def kLeft:LeftO PySem.Challenge.pw_talkleast_k72_whole_put_together kQ kL (λ s=>xlAt kQ [] s&&recOk Nz s) (kHook kAll zB kE).obs (kHook kAll zB kE).val 5440:=by
 refine yM (T₀:=kT0) (n₀:=kn) (life:=V0) (d₀:=boot_drawn) (k₀:=boot_toks) (ann:=kann) "special-get-raises" (λ w=>?_) (λ w=>?_) λ b=>?_
 ·rw[←kAbs];exact boot_open (by rfl) (by rfl) (λ _=>by rfl) w
 ·kernel_rfl
 ·cases b
  ·exact yN
  ·exact yO
end k72
end
noncomputable section
namespace L2
open PySem PySem.Spec PyProof.Rows
abbrev Key:=Sum Int Str
noncomputable def aL:Key->Mo->Bool
 | .inl k,v=>Value.isInt k v
 | .inr x,v=>Value.isStrOf x v
noncomputable def keyH(w:Mv):Key->Int
 | .inl k=>hashInt k
 | .inr x=>hashStr w x
def R5:∀{k:Key} {v:Mo},aL k v=true->(∃i t,k=Sum.inl i/\v=Value.int i t)\/(∃x t,k=Sum.inr x/\v=Value.str x t)
 | .inl i,v,h=>by obtain⟨t,e⟩:=Value.isInt_shape h;exact .inl ⟨i,t,rfl,e⟩
 | .inr x,v,h=>by obtain⟨t,e⟩:=Value.isStrOf_shape h;exact .inr ⟨x,t,rfl,e⟩
def yP(i:Int)(t:Tok):aL (.inl i) (.int i t)=true:=by simp[aL,Value.isInt]
def yQ(x:Str)(t:Tok):aL (.inr x) (.str x t)=true:=by simp[aL,Value.isStrOf]
def yR(a b:Int):decide ((Sum.inl a:Key)=Sum.inl b)=(a==b):=by
 by_cases e:a=b
 ·subst e;simp
 ·have h:¬(Sum.inl a:Key)=Sum.inl b:=λ q=>e (Sum.inl.inj q);rw[o5 h];exact(A6.mpr e).symm
def yS(a b:Str):decide ((Sum.inr a:Key)=Sum.inr b)=decide (a=b):=by
 by_cases e:a=b
 ·subst e;simp
 ·have h:¬(Sum.inr a:Key)=Sum.inr b:=λ q=>e (Sum.inr.inj q);rw[o5 h,o5 e]
def yT(a:Int)(b:Str):decide ((Sum.inl a:Key)=Sum.inr b)=false:=o5 (λ q=>nomatch q)
def yU(a:Str)(b:Int):decide ((Sum.inr a:Key)=Sum.inl b)=false:=o5 (λ q=>nomatch q)
def D1(prog:Mw)(w:Mv):PySem.KeyKind prog w Key where
 is:=aL
 hash:=keyH w
 inj:=λ v a b ha hb=>by
  rcases R5 ha with⟨i,t,rfl,rfl⟩ | ⟨x,t,rfl,rfl⟩
  ·rcases R5 hb with⟨j,u,rfl,e⟩ | ⟨y,u,rfl,e⟩
   ·injection e with e1 _;rw[e1]
   ·exact nomatch e
  ·rcases R5 hb with⟨j,u,rfl,e⟩ | ⟨y,u,rfl,e⟩
   ·exact nomatch e
   ·injection e with e1 _;rw[e1]
 byValue:=λ k v h=>by rcases R5 h with⟨i,t,rfl,rfl⟩ | ⟨x,t,rfl,rfl⟩<;>rfl
 pyHash:=λ hv h=>by
  rcases R5 hv with⟨i,t,rfl,rfl⟩ | ⟨x,t,rfl,rfl⟩
  ·exact wpAny_pyHash_int h
  ·exact wpAny_pyHash_str h
 eqBool:=λ hu hv h=>by
  rcases R5 hu with⟨i,t,rfl,rfl⟩ | ⟨x,t,rfl,rfl⟩
  ·rcases R5 hv with⟨j,u,rfl,rfl⟩ | ⟨y,u,rfl,rfl⟩
   ·rw[yR]at h;exact wpAny_eqBool_int h
   ·rw[yT]at h;exact SeqAt.EqAt.int_str i t y u _ _ _ _ h
  ·rcases R5 hv with⟨j,u,rfl,rfl⟩ | ⟨y,u,rfl,rfl⟩
   ·rw[yU]at h;exact SeqAt.EqAt.str_int x t j u _ _ _ _ h
   ·rw[yS]at h;exact wpAny_eqBool_str h
 «strs»:=λ k x t v h=>by
  rcases R5 h with⟨i,u,rfl,e⟩ | ⟨y,u,rfl,e⟩
  ·exact nomatch e
  ·injection e with e1 _
   subst e1;cases v<;>rfl
def yV(prog:Mw)(w:Mv)(i:Int)(t:Tok):(D1 prog w).is (.inl i) (.int i t)=true:=yP i t
def yW(prog:Mw)(w:Mv)(x:Str)(t:Tok):(D1 prog w).is (.inr x) (.str x t)=true:=yQ x t
end L2
namespace L2
open PySem PySem.Spec PyProof.Rows
inductive V where
 | non | bl (b:Bool) | int (i:Int) | str (x:Str) | byt (b:Array UInt8) | flt (b:UInt64) | ref (a:Addr) | ty (n:String)
 deriving DecidableEq
noncomputable def RelV:V->Mo->Prop
 | .non,u=>u=Value.none
 | .bl b,u=>u=Value.bool b
 | .int i,u=>∃t,u=Value.int i t
 | .str x,u=>∃t,u=Value.str x t
 | .byt b,u=>∃t,u=Value.bytes b t
 | .flt b,u=>∃t,u=Value.float b t
 | .ref a,u=>u=Value.ref a
 | .ty n,u=>u=Value.type n
abbrev Vals:on V->on Mo->Prop:=Paired RelV
theorem Vals.length(r:Vals a b):a.length=b.length:=fv r
theorem Vals.get:∀{a:on V} {us:on Mo} {i:Nat} {x:V},Vals a us->a[i]? = some x->∃u,us[i]? = some u/\RelV x u
 | _,_,_,_,.nil,e=>by simp at e
 | _,_,0,_,.cons r _,e=>by simp at e;subst e;exact⟨_,rfl,r⟩
 | _,_,i+1,x,.cons _ t,e=>by obtain⟨u,h1,h2⟩:=Vals.get t (Nm e);exact⟨u,by simpa using h1,h2⟩
theorem Vals.set(r:RelV x u):∀{a:on V} {us:on Mo} (i:Nat),Vals a us->Vals (a.set i x) (us.set i u)
 | _,_,_,.nil=>.nil
 | _,_,0,.cons _ t=>.cons r t
 | _,_,i+1,.cons q t=>.cons q (Vals.set r i t)
theorem Vals.append:∀{b a:on V} {us ws:on Mo},Vals b us->Vals a ws->Vals (b++a) (us++ws)
 | _,_,_,_,.nil,s=>s
 | _,_,_,_,.cons r t,s=>.cons r (Vals.append t s)
theorem Vals.take:∀{a:on V} {us:on Mo} (n:Nat),Vals a us->Vals (a.take n) (us.take n)
 | _,_,0,_=>.nil
 | _,_,_+1,.nil=>.nil
 | _,_,n+1,.cons r t=>.cons r (Vals.take n t)
theorem Vals.drop:∀{a:on V} {us:on Mo} (n:Nat),Vals a us->Vals (a.drop n) (us.drop n)
 | _,_,0,r=>r
 | _,_,_+1,.nil=>.nil
 | _,_,n+1,.cons _ t=>Vals.drop n t
def Vals.none_of:∀{a:on V} {b:on Mo} {i:Nat},Vals a b->a[i]? = none->b[i]? = none:=λ {a b i} r e=>by
 have h1:=r.length;have h2:=iH.mp e;exact iH.mpr KE
def RelO:Mn V->Mn Mo->Prop
 | some v,some u=>RelV v u
 | none,none=>True
 | _,_=>False
def KV{κ:Type}:on (κ×V)->on (κ×Mo)->Prop:=Paired λ (p:κ×V) (q:κ×Mo)=>p.1=q.1/\RelV p.2 q.2
def kV:Key->V
 | .inl i=>.int i
 | .inr x=>.str x
inductive HO where
 | lst (xs:List V)
 | tup (xs:List V)
 | dK (kvs:List (Key×V)) | dT (kvs:List (List Key×V))
 | set (S:Int->Bool) (n:Nat)
 | ins (C dx:Addr) (fs:List (Str×V))
 | own (x:Addr)
 | xd (fs:List (Str×V))
 | met (f x:Addr)
 | rng (lo hi:Int)
 | frz (o:Obj) (u:HO)
 | tbl (q:Str)
 | ext (φ:Heap->Prop)
abbrev Hp:=Mq->Mn HO
noncomputable def upd(H:Hp)(a:Mq)(o:HO):Hp:=λ b=>if b=a then some o else H b
def u5:upd H a o a=some o:=by unfold upd;rw[d6 rfl]
def j8(h:b≠a):upd H a o b=H b:=by unfold upd;rw[e7 h]
def yX{H:Hp}(h:H a=some o)(c:H b=some u)(d:o≠u):a≠b:=by
 intro e;subst e;rw[h]at c;exact d (z9 c)
def x6{H:Hp}(h:H a=some o)(c:H b=none):a≠b:=by
 intro e;subst e;rw[h]at c;cases c
def V1(h:Mr)(a:Mq)(items:Mu Mo):Prop:=∃o,h.get? a=some o/\(o.cls=.type "tuple" /\ o.dict=none)/\∃n,o.data=.seq items n
def V1.tup(x:V1 h a items):IsTup h a items:=let ⟨o,ho,hc,r⟩:=x;⟨o,ho,hc.1,r⟩
def V1.lt(x:V1 h a items):a<h.objs.size:=let ⟨_,ho,_⟩:=x;j6 ho
def V1.new(h:Mr)(items:Mu Mo):V1 (h.push {cls:=.type "tuple",data:=.seq items}) h.objs.size items:=⟨_,m7 _ rfl,⟨rfl,rfl⟩,_,rfl⟩
section
variable (P:Mw) (w:Mv)
noncomputable def aM(q:Str):Bool:=q == "plan_by.<locals>.plan_of" || q == "best_right.<locals>.plan_of"
def t6(H:Hp)(h:Mr)(a:Mq):HO->Prop
 | .lst xs=>xs.length<=sizeLine/\∃(its:on Mo) (n:Nat),Vals xs its/\h.get? a=some {cls:=.type "list",data:=.seq its.toArray n}
 | .tup xs=>xs.length<=sizeLine/\∃its:on Mo,Vals xs its/\V1 h a its.toArray
 | .dK kvs=>kvs.length<=sizeLine/\(a==sysModules)=false/\∃vs,KV kvs vs/\h.DictOf (D1 P w) a vs
 | .dT kvs=>kvs.length<=sizeLine/\(a==sysModules)=false/\∃xs:on (on Key×Mq×Mo),
   Paired (λ (p:on Key×V) (q:on Key×Mq×Mo)=>p.1=q.1/\H q.2.1=some (.tup (p.1.map kV))/\RelV p.2 q.2.2) kvs xs /\
   ∃o es ep,h.get? a=some o/\o.ExactDict/\o.data=.dict es ep/\es.toList=xs.map (entryOfKey (tupleKind (D1 P w)))/\(xs.map (·.1)).Nodup
 | .set S n=>h.SetOf (intKind P w) a S n
 | .ins C dx fs=>H dx=some (.own a)/\fs.length<=1000/\dx≠a/\h.get? a=some (PySem.W.instObj C dx) /\
   ∃mA,h.Ns1 dx mA/\(∀f,RelO (fs.lookup f) (mA f))/\PySem.Within mA (fs.map (·.1))
 | .own _=>∃o,h.get? a=some o
 | .xd fs=>∃mA,h.Ns1 a mA/\∀f,RelO (fs.lookup f) (mA f)
 | .rng lo hi=>∃t u v,h.get? a=some {cls:=.type "range",data:=.fields #[.int lo t,.int hi u,.int 1 v]}
 | .frz o u=>h.get? a=some o/\t6 H h a u
 | .tbl q=>∃ps:Mu Mo,h.get? a=some {cls:=.none,data:=.fields ps} /\ TriplesOk ps.toList/\∀pos cv,codeAmong pos ps.toList=some cv->∃c oc u vs t,cv=.ref c/\H c=some (.frz oc u)/\oc.data=.fields vs/\vs[1]? = some (.str q t)/\(aM q=true->oc.cls=.type "code" /\ ∃(T:Mq) (file:Str) (tf:Tok) (flags:Int) (tg:Tok) (inF:Bool) (text:Int) (tt:Tok),vs[11]? = some (.ref T)/\vs.getD 11 .none=.ref T/\vs.getD 18 .none=.str file tf/\vs.getD 7 .none=.int flags tg/\vs.getD 9 .none=.bool inF/\vs.getD 10 .none=.int text tt/\c≠T/\H T=some (.tbl (q ++ ".<locals>." ++ "<lambda>")))
 | .met f x=>h.get? a=some (PySem.W.methodObj (.ref f) (.ref x))
 | .ext φ=>φ h/\(∃o,h.get? a=some o)/\∀h1 h2:Mr,φ h1->(∀o,h1.get? a=some o->h2.get? a=some o)->φ h2
def HOk(H:Hp)(h:Mr):Prop:=∀a o,H a=some o->t6 P w H h a o
end
theorem t6.lt(x:t6 P w H h a o):a<h.objs.size:=by
 cases o with
 | lst c=>obtain⟨_,_,_,_,e⟩:=x;exact j6 e
 | tup c=>obtain⟨_,_,_,p⟩:=x;exact p.lt
 | dK b=>obtain⟨_,_,_,_,o,_,_,e,_⟩:=x;exact j6 e
 | dT b=>obtain⟨_,_,_,_,o,_,_,e,_⟩:=x;exact j6 e
 | set S n=>obtain⟨o,_,_,_,e,_⟩:=x;exact j6 e
 | ins C dx fs=>obtain⟨_,_,_,e,_⟩:=x;exact j6 e
 | own y=>obtain⟨_,e⟩:=x;exact j6 e
 | xd fs=>obtain⟨_,⟨_,_,_,e,_⟩,_⟩:=x;exact j6 e
 | rng lo hi=>obtain⟨_,_,_,e⟩:=x;exact j6 e
 | frz ob u=>obtain⟨e,_⟩:=x;exact j6 e
 | tbl q=>obtain⟨_,e,_⟩:=x;exact j6 e
 | met f y=>exact j6 (x)
 | ext φ=>obtain⟨_,⟨_,e⟩,_⟩:=x;exact j6 e
theorem Paired.mapP:∀{c:on g} {l₂:on d},Paired F c l₂->(∀a b,F a b->G a b)->Paired G c l₂
 | _,_,.nil,_=>.nil
 | _,_,.cons r t,f=>.cons (f _ _ r) (Paired.mapP t f)
def t6.stay{K:Mr}(x:t6 P w H h a o)(k:∀b u,(b=a\/H b=some (.own a))->h.get? b=some u->K.get? b=some u)
  (ho:∀b,H b=some (.own a)->H' b=some (.own a)) (ht:∀b s,H b=some (.tup s)->H' b=some (.tup s)) (hy:∀b q,H b=some (.tbl q)->H' b=some (.tbl q)) (hz:∀b o u vs,o.data=.fields vs->H b=some (.frz o u)->H' b=some (.frz o u)):t6 P w H' K a o:=by
 induction o with
 | lst s=>obtain⟨z,l,n,r,e⟩:=x;exact⟨z,l,n,r,k _ _ NK e⟩
 | tup s=>obtain⟨z,l,r,g,e,c⟩:=x;exact⟨z,l,r,g,k _ _ NK e,c⟩
 | dK I=>obtain⟨z,y,vs,r,g,i,j,e,c⟩:=x;exact⟨z,y,vs,r,g,i,j,k _ _ NK e,c⟩
 | dT I=>
  obtain⟨z,y,s,r,g,i,j,e,c⟩:=x;exact⟨z,y,s,Paired.mapP r λ p q z=>⟨z.1,ht _ _ z.2.1,z.2.2⟩,g,i,j,k _ _ NK e,c⟩
 | set S n=>obtain⟨g,i,j,t,e,c⟩:=x;exact⟨g,i,j,t,k _ _ NK e,c⟩
 | ins C dx fs=>
  obtain⟨d,z,ne,e,mA,⟨F,i,j,L,c⟩,r⟩:=x;exact⟨ho _ d,z,ne,k _ _ NK e,mA,⟨F,i,j,k _ _ (.inr d) L,c⟩,r⟩
 | own y=>obtain⟨g,e⟩:=x;exact⟨g,k _ _ NK e⟩
 | xd fs=>obtain⟨mA,⟨F,i,j,e,c⟩,r⟩:=x;exact⟨mA,⟨F,i,j,k _ _ NK e,c⟩,r⟩
 | rng lo hi=>obtain⟨t,u,v,e⟩:=x;exact⟨t,u,v,k _ _ NK e⟩
 | frz g u ih=>obtain⟨e,q⟩:=x;exact⟨k _ _ NK e,ih q⟩
 | tbl q=>
  obtain⟨ps,e,t,f⟩:=x;refine⟨ps,k a _ NK e,t,λ E cv z=>?_⟩;obtain⟨c,oc,u,vs,t',e1,L,M,e4,e5⟩:=f E cv z;refine⟨c,oc,u,vs,t',e1,hz _ _ _ _ M L,M,e4,λ y=>?_⟩;obtain⟨Z,T,B,tf,m,tg,J,A,tt,Y,X,W,U,R,Q,O,N⟩:=e5 y;exact⟨Z,T,B,tf,m,tg,J,A,tt,Y,X,W,U,R,Q,O,hy _ _ N⟩
 | met f y=>
  have e:=x;show K.get? a=some _;exact k a _ NK e
 | ext φ=>obtain⟨p,⟨o,e⟩,st⟩:=x;exact⟨st _ _ p λ o q=>k _ _ NK q,⟨o,k _ _ NK e⟩,st⟩
theorem HOk.lt(x:HOk P w H h)(e:H a=some o):a<h.objs.size:=(x a o e).lt
def HOk.fresh(x:HOk P w H h)(e:h.objs.size<=a):H a=none:=by
 cases q:H a with
 | none=>rfl
 | some u=>exact absurd (o4 (x.lt q) e) (J8 _)
def HOk.kept(x:HOk P w H h)(k:∀b u,h.get? b=some u->c.get? b=some u):HOk P w H c:=λ a o e=>
 (x a o e).stay (λ b u _ q=>k b u q) (λ _ q=>q) (λ _ _ q=>q) (λ _ _ q=>q) λ _ _ _ _ _ q=>q
def HOk.laid(x:HOk P w H h)(k:∀b u,h.get? b=some u->f.get? b=some u)(j:h.objs.size<=a)(new:t6 P w (upd H a o) f a o):HOk P w (upd H a o) f:=λ b u e=>by
 have d:=x.fresh j;by_cases g:b=a
 ·subst g;rw[u5]at e;cases e;exact new
 ·rw[j8 g]at e;exact(x b u e).stay (λ c v _ q=>k c v q) (λ c q=>by rw[j8 (x6 q d)];exact q) (λ c i q=>by rw[j8 (x6 q d)];exact q) (λ c i q=>by rw[j8 (x6 q d)];exact q) λ c _ _ _ _ q=>by rw[j8 (x6 q d)];exact q
def Rd(H:Hp)(a:Mq)(u:HO):Prop:=H a=some u\/∃o,H a=some (.frz o u)
def Rd.ok(r:Rd H a u)(x:HOk P w H h):t6 P w H h a u:=by
 rcases r with r | ⟨o,r⟩
 ·exact x a u r
 ·obtain⟨_,q⟩:=x a _ r;exact q
noncomputable def Mut:Mn HO->Prop
 | some (.lst _)=>True
 | some (.dK _)=>True
 | some (.dT _)=>True
 | some (.set _ _)=>True
 | some (.ins _ _ _)=>True
 | some (.ext _)=>True
 | _=>False
def HOk.write(ok:HOk P w H h)(f:Mut (H x))(A:e=x\/H e=some (.own x))(k:∀b u,b≠e->h.get? b=some u->m.get? b=some u)(p:∃u,m.get? e=some u)
  (new:t6 P w (upd H x n) m x n):HOk P w (upd H x n) m:=λ b u q=>by
 have d:∀c y,H c=some (.own y)->c≠x:=λ c y r z=>by subst z;rw[r]at f;exact f
 have i:∀c g,H c=some (.tup g)->c≠x:=λ c g r z=>by subst z;rw[r]at f;exact f
 by_cases l:b=x
 ·subst l;rw[u5]at q;cases q;exact new
 ·rw[j8 l]at q;by_cases a:b=e
  ·have s:H b=some (.own x):=by
    rcases A with z | z
    ·exact absurd (a.trans z) l
    ·rw[a];exact z
   rw[q]at s;cases s;obtain⟨v,hv⟩:=p;exact⟨v,by rw[a];exact hv⟩
  ·refine(ok b u q).stay (λ c v j r=>k c v ?_ r) (λ c r=>by rw[j8 (d c b r)];exact r) (λ c g r=>by rw[j8 (i c g r)];exact r) (λ c g r=>by rw[j8 λ z=>by subst z;rw[r]at f;exact f];exact r) λ c o v _ _ r=>by rw[j8 λ z=>by subst z;rw[r]at f;exact f];exact r
   rcases j with rfl | j
   ·exact a
   ·rintro rfl
    rcases A with z | z
    ·exact d c b j z
    ·rw[j]at z;cases z;exact l rfl
structure Un(fs ex:List Addr)(H H':Hp)(h h':Heap):Prop where
 keep:∀b o,h.get? b=some o->H b=none->b∉fs->b∉ex->h'.get? b=some o
 slot:∀b o,h.get? b=some o->H b=none->b∈fs->b∉ex->∃sl,h'.get? b=some {o with slots:=sl}
 free:∀b o,h.get? b=some o->H b=none->b∉ex->H' b=none
 there:∀b o,h.get? b=some o->b∉ex->∃o',h'.get? b=some o'
 tups:∀b xs,H b=some (.tup xs)->H' b=some (.tup xs)
 frzs:∀b o u,H b=some (.frz o u)->H' b=some (.frz o u)
 tbls:∀b q,H b=some (.tbl q)->H' b=some (.tbl q)
def Un.any(u:Un fs ex H g h h1)(q:h.get? b=some a)(n:H b=none)(c:b∉ex):∃f,h1.get? b=some {a with slots:=f}:=by
 by_cases d:b∈fs
 ·exact u.slot b a q n d c
 ·exact⟨a.slots,u.keep b a q n d c⟩
def Un.kept(k:∀b u,h.get? b=some u->c.get? b=some u):Un fs ex H H h c:=
 ⟨λ b a q _ _ _=>k b a q,λ b a q _ _ _=>⟨a.slots,k b a q⟩,λ _ _ _ n _=>n,λ b a q _=>⟨a,k b a q⟩,λ _ _ q=>q,λ _ _ _ q=>q,λ _ _ q=>q⟩
def Un.refl:Un fs ex H H h h:=Un.kept λ _ _ q=>q
def Un.laid(k:∀b u,h.get? b=some u->d.get? b=some u)(g:h.objs.size<=a)(c:H a=none):Un fs ex H (upd H a o) h d where
 keep:=λ b u q _ _ _=>k b u q
 slot:=λ b u q _ _ _=>⟨u.slots,k b u q⟩
 free:=λ b u q n _=>by rw[j8 (n9 (o4 (j6 q) g))];exact n
 there:=λ b u q _=>⟨u,k b u q⟩
 tups:=λ b f q=>by rw[j8 (x6 q c)];exact q
 frzs:=λ b u f q=>by rw[j8 (x6 q c)];exact q
 tbls:=λ b ps q=>by rw[j8 (x6 q c)];exact q
def Un.write(c:Mut (H x))(p:e=x\/H e=some (.own x))(k:∀b u,b≠e->h.get? b=some u->g.get? b=some u)(f:∃u,g.get? e=some u):Un fs ex H (upd H x o) h g:=by
 have i:∀b,H b=none->b≠x:=λ b n z=>by subst z;rw[n]at c;exact c
 have j:∀b,H b=none->b≠e:=λ b n z=>by
  subst z;rcases p with r | r
  ·exact i b n r
  ·rw[n]at r;cases r
 have d:∀b u,H b=some u->¬Mut (some u)->b≠x:=λ b u q m z=>by subst z;rw[q]at c;exact m c
 refine⟨λ b u q n _ _=>k b u (j b n) q,λ b u q n _ _=>⟨u.slots,k b u (j b n) q⟩,λ b u q n _=>by rw[j8 (i b n)];exact n,λ b u q _=>?_,
  λ b l q=>by rw[j8 (d b _ q λ z=>z)];exact q,λ b u l q=>by rw[j8 (d b _ q λ z=>z)];exact q,λ b ps q=>by rw[j8 (d b _ q λ z=>z)];exact q⟩
 by_cases a:b=e
 ·subst a;exact f
 ·exact⟨u,k b u a q⟩
noncomputable def trk(h:Mr)(H:Hp):on Mq:=(ML h.objs.size).filter λ a=>(H a).isSome
def hidT(h:Mr)(H:Hp):Mr:=PySem.W.hideAll h (trk h H)
def yY(h:Mr)(H:Hp):(hidT h H).objs.size=h.objs.size:=PySem.W.hideAll_size _ _
def yZ(e:h.get? b=some o)(n:H b=none):(hidT h H).get? b=some o:=
 PySem.W.hideAll_get _ e λ a=>by have q:=(k8.mp a).2;rw[n]at q;simp at q
def za(e:(hidT h H).get? b=some o):h.get? b=some o/\H b=none:=by
 have a:=PySem.W.of_hideAll _ e;refine⟨a,?_⟩;cases q:H b with
 | none=>rfl
 | some x=>
  have z:(hidT h H).get? b=none:=PySem.W.hideAll_none _ (k8.mpr ⟨i7.mpr (j6 a),by simp[q]⟩);rw[z]at e;cases e
noncomputable def zb(g h:Mr)(L:Mq):on (Mq×Obj):=(ML h.objs.size).filterMap λ a=>if a=L\/(g.get? a).isSome=true then none else(h.get? a).map λ o=>(a,o)
def rest(g h:Mr)(L d:Mq):on (Mq×Obj):=(zb g h L).filter λ p=>decide (p.1≠d)
end L2
namespace L2
open PySem PySem.Spec PyProof.Rows
structure Mod(K:PySem.W.Frag)(mg:Str->Option Value)(base:Heap):Prop where
 kin:K.In base
 glob:base.Ns mainGlobals mg
 blt:∃mb,base.Ns builtinsNs mb/\∀x:Str,x ≠ "__name__" -> mb x=bootBuiltins x
 nolimit:base.NoLimit
 bmod:∃bm ob,mg "__builtins__" = some (.ref bm)/\bm≠builtinsNs/\base.get? bm=some ob/\ob.cls=.type "module" /\ ob.dict=some builtinsNs/\ob.data=.plain
set_option genInjectivity true in
structure Cx where
 prog:Program
 w:World
 K:PySem.W.Frag
 mg:Str->Option Value
 base:Heap
 A:Around
 N:List Str
 s₀:Shared
 H₀:Hp
 env:Env
 outer:List Env
 stack:List Env
 ex:List Addr
 fn:Str->Bool
 calm:Bool
 pn:List (Addr×Obj)
 xe:Value->Shared->Prop
def tagQ(q:Str):Str:=if aM (q ++ ".<locals>." ++ "plan_of")then q ++ ".<locals>." ++ "plan_of" else q ++ ".<locals>." ++ "<lambda>"
def u0(K:MA):on (Mq×Str):=K.filterMap λ p=>match p.2.cls,p.2.data with
 | .type "code",.fields vs=>(match(vs[11]?:Mn Mo),(vs[1]?:Mn Mo)with
  | some (.ref P),some (.str q _)=>if(K.lookup P).isNone then some (P,tagQ q)else none
  | _,_=>none)
 | _,_=>none
def cJ(K:MA)(H:Hp):Prop:=∀p∈u0 K,H p.1=some (.tbl p.2)
def frs(l:on Env):on Mq:=l.filterMap (·.frame)
abbrev Cx.fs(X:Cx):on Mq:=frs X.outer
def Vis(sc:MB)(x:Str):Prop:=sc.names.lookup x=some .local\/sc.names.lookup x=some .cell\/sc.names.lookup x=some .free
def Loc(sc:MB)(x:Str):Prop:=sc.names.lookup x=some .local\/sc.names.lookup x=some .cell
def Look(env:Env)(h:Mr)(m:Str->Mn Mo)(x:Str)(u:Mo):Prop:=
 (env.kindOf x=some .local/\m x=some u)\/((env.kindOf x=some .cell\/env.kindOf x=some .free)/\∃c,env.cells.lookup x=some c/\h.IsCell c (some u))
structure Cx.Ok(X:Cx):Prop where
 mod:Mod X.K X.mg X.base
 kind:X.env.scope.kind=.function
 glob:X.env.globals=mainGlobals
 blt:X.env.builtins=builtinsNs
 above:X.s₀.heap.objs.size<=X.env.locals
 inj:∀x y c,X.env.cells.lookup x=some c->X.env.cells.lookup y=some c->x=y
 has:∀x,(X.env.kindOf x=some .cell\/X.env.kindOf x=some .free)->∃c,X.env.cells.lookup x=some c
 cab:∀x c,X.fn x=true->X.env.cells.lookup x=some c->X.s₀.heap.objs.size<=c
 hd:X.calm=true->X.A.handled=none
 frames:X.A.frames=some X.stack
 stk:X.stack=X.outer\/(X.stack=X.env::X.outer/\X.env.frame=some X.env.locals)
 exf:∀b∈X.ex,b≠X.env.locals/\∀x c,X.env.cells.lookup x=some c->c≠b
 bs:∀b o,X.base.get? b=some o->X.s₀.heap.get? b=some o/\X.H₀ b=none
 bsz:X.base.objs.size<=X.s₀.heap.objs.size
 noex:∀b o,X.base.get? b=some o->b∉X.ex
 exfs:∀b∈X.ex,b∉X.fs
 funs:X.s₀.heap.FunFrames X.base X.outer
 frf:(∀b∈X.fs,X.H₀ b=none)/\cJ X.K X.H₀
structure Inv(X:Cx)(pins:List (Addr×Obj))(σ:List (Option V))(H:Hp)(s:Shared):Prop where
 ok:X.Ok
 os:s.os=X.s₀.os
 bare:AllBare s.gens
 base:Un X.fs X.ex X.H₀ H X.s₀.heap s.heap
 loc:∃m,s.heap.Ns X.env.locals m/\∀(i:Nat) (x:Str) (v:V),X.N[i]? = some x->σ[i]? = some (some v)->Vis X.env.scope x->∃u,RelV v u/\Look X.env s.heap m x u
 cell:∀x c,X.env.cells.lookup x=some c->∃v,s.heap.IsCell c v
 free:H X.env.locals=none
 freeC:∀x c,X.env.cells.lookup x=some c->H c=none
 pin:∀p∈X.pn++pins,s.heap.get? p.1=some p.2/\H p.1=none/\p.1≠X.env.locals/\p.1∉X.fs/\∀v,p.2.data ≠ .cell v
 hok:HOk X.prog X.w H s.heap
 len:σ.length=X.N.length
def Cx.Ok.nofr{X:Cx}(ok:X.Ok)(e:X.base.get? b=some o):b∉X.fs:=λ a=>by
 have:=(ok.funs.mem a).1;rw[e]at this;cases this
theorem Inv.bs(I:MN a):∀b o,X.base.get? b=some o->s.heap.get? b=some o/\H b=none:=λ b o e=>
 ⟨I.base.keep b o (I.ok.bs b o e).1 (I.ok.bs b o e).2 (I.ok.nofr e) (I.ok.noex b o e),I.base.free b o (I.ok.bs b o e).1 (I.ok.bs b o e).2 (I.ok.noex b o e)⟩
def Inv.bk(I:MN a):∀b o,X.base.get? b=some o->s.heap.get? b=some o:=λ b o e=>(I.bs b o e).1
theorem Inv.mod(I:MN a):Mod X.K X.mg X.base:=I.ok.mod
def Inv.tabs(I:MN a):cJ X.K H:=λ p b=>I.base.tbls p.1 p.2 (I.ok.frf.2 p b)
def Inv.kIn(I:MN a):X.K.In s.heap:=I.ok.mod.kin.keeps I.bk
theorem Inv.lt(I:MN a):X.env.locals<s.heap.objs.size:=let ⟨_,hn,_⟩:=I.loc;hn.lt
def Inv.sz(I:MN a):X.s₀.heap.objs.size<=s.heap.objs.size:=e9 I.ok.above (Q8 I.lt)
def Inv.nofs(I:MN b)(h:s.heap.objs.size<=a):a∉X.fs:=λ d=>by
 obtain⟨_,o,c,_⟩:=I.ok.funs.mem d
 exact absurd (o4 (j6 c) (e9 I.sz h)) (J8 _)
def Inv.cne(I:MN a):∀x c,X.env.cells.lookup x=some c->c≠X.env.locals:=λ x c e z=>by
 obtain⟨v,o,f,hd⟩:=I.cell x c e;obtain⟨m,⟨o',es,ep,b,d,_⟩,_⟩:=I.loc;rw[z,b]at f;cases f;rw[d]at hd;cases hd
theorem Inv.funs(I:MN a):s.heap.FunFrames X.base X.outer:=by
 have all:∀(l:on Env),(∀b∈frs l,b∈X.fs)->X.s₀.heap.FunFrames X.base l->s.heap.FunFrames X.base l:=by
  intro l
  induction l with
  | nil=>intro _ _;trivial
  | cons n r g=>
   intro hs k;obtain⟨m,⟨L,o,c,j,i,hd⟩,h⟩:=k;have f:=hs L (by unfold frs;rw[eT,c];exact i9);obtain⟨sl,e⟩:=I.base.slot L o i (I.ok.frf.1 L f) f λ z=>I.ok.exfs L z f
   exact⟨m,⟨L,_,c,j,e,hd⟩,g (λ b d=>hs b (by unfold frs;rw[eT,c];exact j5 _ d)) h⟩
 exact all X.outer (λ _ d=>d) I.ok.funs
theorem Inv.stack(I:MN a):s.heap.FunFrames X.base X.stack:=by
 rcases I.ok.stk with e | ⟨e,hf⟩
 ·rw[e];exact I.funs
 ·rw[e];obtain⟨m,b,_⟩:=I.loc;refine .cons (by rw[I.ok.kind];decide) hf b ?_ I.funs
  exact X3 (e9 I.ok.bsz I.ok.above)
def Inv.stkSub(I:MN c):∀b∈frs X.stack,b∈X.env.locals::X.fs:=λ b a=>by
 rcases I.ok.stk with e | ⟨e,hf⟩
 ·rw[e]at a;exact j5 _ a
 ·rw[e]at a;unfold frs at a;rw[eT,hf]at a;exact a
def Inv.stkFree(I:MN a):∀b∈frs X.stack,H b=none:=λ b c=>by
 rcases f8.mp (I.stkSub b c)with e | c
 ·rw[e];exact I.free
 ·obtain⟨_,o,d,_⟩:=I.ok.funs.mem c
  exact I.base.free b o d (I.ok.frf.1 b c) λ z=>I.ok.exfs b z c
def Inv.step{ch:on Mq}(I:MN f)
  (j:∀b∈ch,(b∈X.ex\/X.s₀.heap.objs.size<=b)/\b≠X.env.locals/\(∀x c,X.env.cells.lookup x=some c->c≠b)/\∀p∈X.pn++f,p.1≠b)
  (h:∀b o,b≠X.env.locals->b∉X.fs->b∉ch->s.heap.get? b=some o->H b=none->E.get? b=some o)
  (slot:∀b o,b≠X.env.locals->b∈X.fs->b∉ch->s.heap.get? b=some o->H b=none->∃Q,E.get? b=some {o with slots:=Q}) (free:∀b o,b∉ch->s.heap.get? b=some o->H b=none->H' b=none)
  (B:∀b o,b∉ch->s.heap.get? b=some o->∃M,E.get? b=some M)
  (K:∀b A,H b=some (.tup A)->H' b=some (.tup A)) (O:∀b o u,H b=some (.frz o u)->H' b=some (.frz o u)) (L:∀b q,H b=some (.tbl q)->H' b=some (.tbl q))
  (ns:∀m,s.heap.Ns X.env.locals m->E.Ns X.env.locals m) (R:HOk X.prog X.w H' E) (hg:AllBare Z) :
  Inv X f σ H' {s with heap:=E,gens:=Z,drawn:=d',toks:=t'}:=by
 have N:∀b o,X.s₀.heap.get? b=some o->b≠X.env.locals:=λ b o e=>n9 (o4 (j6 e) I.ok.above);have y:∀b o,X.s₀.heap.get? b=some o->b∉X.ex->b∉ch:=λ b o e a C=>by
  rcases(j b C).1 with z | z
  ·exact a z
  ·exact absurd (o4 (j6 e) z) (J8 _)
 have w:∀x c,X.env.cells.lookup x=some c->∀v,s.heap.IsCell c v->E.IsCell c v:=λ x c e v ⟨o,J,hd⟩=>by
  have g:c∉ch:=λ z=>(j c z).2.2.1 x c e rfl;by_cases Y:c∈X.fs
  ·obtain⟨Q,q⟩:=slot c o (I.cne x c e) Y g J (I.freeC x c e);exact⟨_,q,hd⟩
  ·exact⟨o,h c o (I.cne x c e) Y g J (I.freeC x c e),hd⟩
 refine⟨I.ok,I.os,hg,⟨λ b o e n C a=>?_,λ b o e n C a=>?_,λ b o e n a=>?_,λ b o e a=>?_,λ b A e=>K b A (I.base.tups b A e),λ b o A e=>O b o A (I.base.frzs b o A e),λ b ps e=>?_⟩,?_,λ x c e=>?_,?_,λ x c e=>?_,λ p W=>?_,R,I.len⟩
 ·exact h b o (N b o e) C (y b o e a) (I.base.keep b o e n C a) (I.base.free b o e n a)
 ·obtain⟨Q,F⟩:=I.base.slot b o e n C a;obtain⟨P,S⟩:=slot b _ (N b o e) C (y b o e a) F (I.base.free b o e n a);exact⟨P,S⟩
 ·obtain⟨M,F⟩:=I.base.there b o e a;exact free b M (y b o e a) F (I.base.free b o e n a)
 ·obtain⟨M,F⟩:=I.base.there b o e a;exact B b M (y b o e a) F
 ·exact L b ps (I.base.tbls b ps e)
 ·obtain⟨m,hn,hl⟩:=I.loc;refine⟨m,ns m hn,λ i x v F S e3=>?_⟩;obtain⟨u,r,l⟩:=hl i x v F S e3;refine⟨u,r,?_⟩;rcases l with l | ⟨k,c,e,z⟩
  ·exact .inl l
  ·exact .inr ⟨k,c,e,w x c e _ z⟩
 ·obtain⟨v,z⟩:=I.cell x c e;exact⟨v,w x c e v z⟩
 ·obtain⟨m,⟨o,_,_,J,_⟩,_⟩:=I.loc;exact free _ o (λ z=>(j _ z).2.1 rfl) J I.free
 ·obtain⟨v,o,J,hd⟩:=I.cell x c e;exact free c o (λ z=>(j c z).2.2.1 x c e rfl) J (I.freeC x c e)
 ·obtain⟨e,n,ne,U,d⟩:=I.pin p W;have g:p.1∉ch:=λ z=>(j p.1 z).2.2.2 p W rfl
  exact⟨h p.1 p.2 ne U g e n,free p.1 p.2 g e n,ne,U,d⟩
def Inv.un(I:MN a)(u:Un X.fs [] H H' s.heap g)(d:HOk X.prog X.w H' g):Inv X a σ H' {s with heap:=g,toks:=t'}:=by
 obtain⟨m,⟨o,es,ep,j,r⟩,_⟩:=id I.loc;obtain⟨sl,p⟩:=u.any j I.free MP;exact I.step (ch:=[]) (λ _ z=>nomatch z) (λ b o _ f _ e n=>u.keep b o e n f MP) (λ b o _ f _ e n=>u.slot b o e n f MP) (λ b o _ e n=>u.free b o e n MP) (λ b o _ e=>u.there b o e MP) u.tups u.frzs u.tbls (λ m' l=>by
  obtain⟨o',h,i,c,k⟩:=l;rw[j]at c;cases c;exact⟨_,h,i,p,k⟩) d I.bare
def Inv.call(I:MN a)(u:Un (frs X.stack) ch H H' s.heap j)(h:HOk X.prog X.w H' j)(A:AllBare v)
  (g:∀b∈ch,(b∈X.ex\/X.s₀.heap.objs.size<=b)/\b≠X.env.locals/\(∀x c,X.env.cells.lookup x=some c->c≠b)/\∀p∈X.pn++a,p.1≠b) :
  Inv X a σ H' {s with heap:=j,gens:=v,drawn:=C,toks:=t'}:=by
 obtain⟨m,⟨o,es,ep,q,r⟩,_⟩:=id I.loc;obtain⟨sl,i⟩:=u.any q I.free λ z=>(g _ z).2.1 rfl
 exact I.step g (λ b o i B d e n=>u.keep b o e n (λ z=>(f8.mp (I.stkSub b z)).elim i B) d) (λ b o _ _ d e n=>u.any e n d) (λ b o d e n=>u.free b o e n d) (λ b o d e=>u.there b o e d) u.tups u.frzs u.tbls (λ m' y=>by
  obtain⟨o',k,l,f,w⟩:=y;rw[q]at f;cases f;exact⟨_,k,l,i,w⟩) h A
def Inv.turned(I:MN a)(k:∀b o,b≠it->s.heap.get? b=some o->h.get? b=some o)(j:H it=none)(g:it≠X.env.locals)
  (h1:it∈X.ex\/X.s₀.heap.objs.size<=it) (h2:∀x c,X.env.cells.lookup x=some c->c≠it) (y:∀p∈X.pn++a,p.1≠it):Inv X a σ H {s with heap:=h,toks:=t'}:=by
 have f:∀b u,H b=some u->b≠it:=λ b u e z=>by rw[z,j]at e;cases e
 refine I.step (ch:=[it]) (λ b w=>?_) (λ b o _ _ d e _=>k b o (λ z=>d (by simp[z])) e) (λ b o _ _ d e _=>⟨o.slots,k b o (λ z=>d (by simp[z])) e⟩) (λ _ _ _ _ n=>n)
  (λ b o d e=>⟨o,k b o (λ z=>d (by simp[z])) e⟩) (λ _ _ e=>e) (λ _ _ _ e=>e) (λ _ _ e=>e) (λ m l=>?_) (λ b u e=>?_) I.bare
 ·have e:b=it:=by simpa using w
  subst e;exact⟨h1,g,h2,y⟩
 ·obtain⟨o,A,B,i,r⟩:=l;exact⟨o,A,B,k _ o (NV g) i,r⟩
 ·refine(I.hok b u e).stay (λ c v d q=>k c v ?_ q) (λ _ q=>q) (λ _ _ q=>q) (λ _ _ q=>q) λ _ _ _ _ _ q=>q;rcases d with z | z
  ·rw[z];exact f b u e
  ·exact f c _ z
def Inv.tok(I:MN a)(t:Nat):Inv X a σ H {s with toks:=t}:=I.un Un.refl I.hok
theorem Inv.kept(I:MN a)(k:∀b u,s.heap.get? b=some u->c.get? b=some u):Inv X a σ H {s with heap:=c,toks:=t'}:=I.un (Un.kept k) (I.hok.kept k)
theorem Inv.laid(I:MN c)(k:∀b u,s.heap.get? b=some u->f.get? b=some u)(d:s.heap.objs.size<=a)(new:t6 X.prog X.w (upd H a o) f a o) :
  Inv X c σ (upd H a o) {s with heap:=f,toks:=t'}:=I.un (Un.laid k d (I.hok.fresh d)) (I.hok.laid k d new)
theorem Inv.write(I:MN a)(f:Mut (H x))(g:e=x\/H e=some (.own x))(k:∀b u,b≠e->s.heap.get? b=some u->d.get? b=some u)(c:∃u,d.get? e=some u)
  (new:t6 X.prog X.w (upd H x o) d x o):Inv X a σ (upd H x o) {s with heap:=d,toks:=t'}:=I.un (Un.write f g k c) (I.hok.write f g k c new)
def Inv.pins_of(I:MN b)(h:∀p∈a,s.heap.get? p.1=some p.2/\H p.1=none/\p.1≠X.env.locals/\p.1∉X.fs/\∀v,p.2.data ≠ .cell v):Inv X a σ H s:=
 ⟨I.ok,I.os,I.bare,I.base,I.loc,I.cell,I.free,I.freeC,λ p c=>(x3.mp c).elim (λ z=>I.pin p (w6 _ z)) (h p),I.hok,I.len⟩
def kg{N:on Str}(c:N.Nodup){j:Nat}(a:N[i]? = some x)(b:N[j]? = some x):i=j:=by
 obtain⟨h1,f⟩:=w5.mp a;obtain⟨h2,d⟩:=w5.mp b;exact(List.getElem_inj c).mp (f.trans d.symm)
def pK(I:MN F)(hN:X.N.Nodup)(U:X.N[i]? = some x)(w:Loc X.env.scope x)(r:RelV v u)
  (h:∀s',Inv X F (σ.set i (some v)) H s'->(∃a,Heap.SameBut a s.heap s'.heap/\(a=X.env.locals\/X.env.cells.lookup x=some a))->Q () s') (hf:X.fn x=true\/X.env.scope.names.lookup x=some .local:=by first | exact .inl rfl | exact .inr rfl | assumption):wpAny M A (storeName X.env x u) Q E s:=by
 obtain⟨m,hn,hl⟩:=id I.loc;have W:(X.env.scope.kind == .class||(X.env.scope.kind == .module&&X.env.locals != X.env.globals))=false:=by rw[I.ok.kind];rfl
 have K:i<σ.length:=by rw[I.len];exact(w5.mp U).1
 have cne:=I.cne;have f:∀{a:Mq} {P:Mr},(∃o,s.heap.get? a=some o/\H a=none)->Heap.SameBut a s.heap P->HOk X.prog X.w H P:=λ {a P} ha hs b ob e=>by
  obtain⟨_,_,B⟩:=ha;refine(I.hok b ob e).stay (λ c w' l q=>(hs.2 c ?_).trans q) (λ _ q=>q) (λ _ _ q=>q) (λ _ _ q=>q) λ _ _ _ _ _ q=>q
  rintro rfl
  rcases l with rfl | l
  ·rw[B]at e;cases e
  ·rw[B]at l;cases l
 rcases w with J | J
 ·refine wpAny_storeName_local J hn (λ P a1 hs=>?_) W;obtain⟨oL,_,_,a0,_⟩:=id hn;refine h _ ⟨I.ok,I.os,I.bare,⟨λ b o e n O w=>?_,λ b o e n O w=>?_,I.base.free,λ b o e w=>?_,I.base.tups,I.base.frzs,I.base.tbls⟩,⟨_,a1,λ j y v' g C e3=>?_⟩,λ y c e=>?_,I.free,I.freeC,λ p hp=>?_,f ⟨oL,a0,I.free⟩ hs,by simpa using I.len⟩ ⟨_,hs,.inl rfl⟩
  ·exact(hs.2 b (n9 (o4 (j6 e) I.ok.above))).trans (I.base.keep b o e n O w)
  ·obtain⟨sl,g⟩:=I.base.slot b o e n O w;exact⟨sl,(hs.2 b (n9 (o4 (j6 e) I.ok.above))).trans g⟩
  ·obtain⟨o',g⟩:=I.base.there b o e w;exact⟨o',(hs.2 b (n9 (o4 (j6 e) I.ok.above))).trans g⟩
  ·by_cases L:j=i
   ·subst L;rw[U]at g;cases g;rw[J6 K]at C;cases C;exact⟨u,r,.inl ⟨J,by simp⟩⟩
   ·rw[t5 (NV L)]at C;obtain⟨u',r',q⟩:=hl j y v' g C e3;refine⟨u',r',?_⟩;rcases q with⟨k,e⟩ | ⟨k,c,e,z⟩
    ·refine .inl ⟨k,?_⟩;have:y≠x:=λ e=>L (kg hN g (e▸U));simp[this,e]
    ·exact .inr ⟨k,c,e,z.sameBut hs (cne y c e)⟩
  ·obtain⟨w',z⟩:=I.cell y c e;exact⟨w',z.sameBut hs (cne y c e)⟩
  ·obtain⟨e,n,ne,nf,d⟩:=I.pin p hp;exact⟨(hs.2 p.1 ne).trans e,n,ne,nf,d⟩
 ·have N:X.fn x=true:=by
   rcases hf with z | z
   ·exact z
   ·rw[z]at J;cases J
  obtain⟨c,l⟩:=I.ok.has x (.inl J);obtain⟨w',z⟩:=I.cell x c l;refine wpAny_storeName_cell I.ok.kind J l z (λ P Z hs=>?_);obtain⟨oc,S,R⟩:=id z;refine h {s with heap:=P} ⟨I.ok,I.os,I.bare,⟨λ b o e n O w=>?_,λ b o e n O w=>?_,I.base.free,λ b o e w=>?_,I.base.tups,I.base.frzs,I.base.tbls⟩,⟨m,hn.sameBut hs (NV (cne x c l)),λ j y v' g C e3=>?_⟩,λ y c' e=>?_,I.free,I.freeC,λ p hp=>?_,f ⟨oc,S,I.freeC x c l⟩ hs,by simpa using I.len⟩ ⟨c,hs,.inr l⟩
  ·exact(hs.2 b (n9 (o4 (j6 e) (I.ok.cab x c N l)))).trans (I.base.keep b o e n O w)
  ·obtain⟨sl,g⟩:=I.base.slot b o e n O w;exact⟨sl,(hs.2 b (n9 (o4 (j6 e) (I.ok.cab x c N l)))).trans g⟩
  ·obtain⟨o',g⟩:=I.base.there b o e w;exact⟨o',(hs.2 b (n9 (o4 (j6 e) (I.ok.cab x c N l)))).trans g⟩
  ·by_cases L:j=i
   ·subst L;rw[U]at g;cases g;rw[J6 K]at C;cases C;exact⟨u,r,.inr ⟨.inl J,c,l,Z⟩⟩
   ·rw[t5 (NV L)]at C;obtain⟨u',r',q⟩:=hl j y v' g C e3;refine⟨u',r',?_⟩;rcases q with q | ⟨k,c',e,z'⟩
    ·exact .inl q
    ·refine .inr ⟨k,c',e,z'.sameBut hs ?_⟩
     rintro rfl
     exact L (kg hN g (I.ok.inj _ _ _ e l▸U))
  ·by_cases Y:c'=c
   ·subst Y;exact⟨_,Z⟩
   ·obtain⟨w2,z2⟩:=I.cell y c' e;exact⟨w2,z2.sameBut hs Y⟩
  ·obtain⟨e,n,ne,nf,d⟩:=I.pin p hp;refine⟨(hs.2 p.1 ?_).trans e,n,ne,nf,d⟩;intro q;rw[q,S]at e;exact d w' (by rw[←(z9 e)];exact R)
def kh(I:MN a)(g:X.N.Nodup)(d:X.N[i]? = some x)(c:Loc X.env.scope x)(r:RelV v u)
  (h:∀b,Inv X a (σ.set i (some v)) H b->Q () b) (f:X.fn x=true\/X.env.scope.names.lookup x=some .local:=by first | exact .inl rfl | exact .inr rfl | assumption):wpAny M A (storeName X.env x u) Q E s:=
 pK I g d c r (λ b j _=>h b j) f
def Inv.call'(I:MN a)(h:d.os=s.os)(u:Un (frs X.stack) ch H H' s.heap d.heap)(f:HOk X.prog X.w H' d.heap)(i:AllBare d.gens)
  (g:∀b∈ch,(b∈X.ex\/X.s₀.heap.objs.size<=b)/\b≠X.env.locals/\(∀x c,X.env.cells.lookup x=some c->c≠b)/\∀p∈X.pn++a,p.1≠b):Inv X a σ H' d:=by
 obtain⟨h',g',d',t',o'⟩:=d;have e:=h;subst e;exact I.call u f i g
abbrev XK:=Mo->Mn Mq->Hp->Prop
abbrev St:=on (Mn V)
abbrev VK:=V->Hp->Prop
abbrev TE:=St->Hp->VK->Prop
abbrev TT:=St->Hp->(Bool->Hp->Prop)->Prop
abbrev TA:=St->Hp->(on V->Hp->Prop)->Prop
structure Ends where
 nx:St->Hp->Prop
 rt:VK
 bk:St->Hp->Prop:=λ _ _=>False
 ct:St->Hp->Prop:=λ _ _=>False
abbrev TS:=Ends->St->Hp->Prop
def EP(X:Cx)(pins:NB)(σ:St)(Q:VK)(u:Mo)(s':Mp):Prop:=∃v H',Inv X pins σ H' s'/\RelV v u/\Q v H'
def TP(X:Cx)(pins:NB)(σ:St)(Q:Bool->Hp->Prop)(b:Bool)(s':Mp):Prop:=∃H',Inv X pins σ H' s'/\Q b H'
def AP(X:Cx)(pins:NB)(σ:St)(Q:on V->Hp->Prop)(us:on Mo)(s':Mp):Prop:=∃vs H',Inv X pins σ H' s'/\Vals vs us/\Q vs H'
def SP(X:Cx)(pins:NB)(D:Ends)(f:Flow)(s':Mp):Prop:=
 match f with
 | .next=>∃σ' H',Inv X pins σ' H' s'/\D.nx σ' H'
 | .brk=>∃σ' H',Inv X pins σ' H' s'/\D.bk σ' H'
 | .cont=>∃σ' H',Inv X pins σ' H' s'/\D.ct σ' H'
 | .ret u=>∃v σ' H',Inv X pins σ' H' s'/\RelV v u/\D.rt v H'
def PE(X:Cx)(e:Ms)(t:TE):Prop:=
 ∀(pins:NB) (s:Mp) (σ:St) (H:Hp) (Q:VK),Inv X pins σ H s->t σ H Q->wpAny MI X.A (eval e X.env) (EP X pins σ Q) X.xe s
def PT(X:Cx)(e:Ms)(t:TT):Prop:=
 ∀(pins:NB) (s:Mp) (σ:St) (H:Hp) (Q:Bool->Hp->Prop),Inv X pins σ H s->t σ H Q->wpAny MI X.A (isTrue e X.env (eval e X.env)) (TP X pins σ Q) X.xe s
def PW(X:Cx)(e:Ms)(t:TT):Prop:=
 ∀(whole:Sem Mo) (pins:NB) (s:Mp) (σ:St) (H:Hp) (Q:Bool->Hp->Prop),Inv X pins σ H s->t σ H Q->wpAny MI X.A (isTrue e X.env whole) (TP X pins σ Q) X.xe s
def PW.pt(h:PW X e t):PT X e t:=h _
def PA(X:Cx)(es:on Ms)(t:TA):Prop:=
 ∀(pos:Pos) (pins:NB) (s:Mp) (σ:St) (H:Hp) (Q:on V->Hp->Prop),Inv X pins σ H s->t σ H Q->wpAny MI X.A (spliced (backTo pos (starEach es X.env))) (AP X pins σ Q) X.xe s
def PS(X:Cx)(st:Mz)(t:TS):Prop:=
 ∀(pins:NB) (s:Mp) (σ:St) (H:Hp) (D:Ends),Inv X pins σ H s->t D σ H->wpAny MI X.A (exec st X.env) (SP X pins D) X.xe s
def PSs(X:Cx)(st:on Mz)(t:TS):Prop:=
 ∀(pins:NB) (s:Mp) (σ:St) (H:Hp) (D:Ends),Inv X pins σ H s->t D σ H->wpAny MI X.A (execs st X.env) (SP X pins D) X.xe s
def thn(h:wpAny M A t Q E s)(c:∀a s,Q a s->Q' a s):wpAny M A t Q' E s:=A8 h c λ _ _ x=>x
end L2
namespace L2
open PySem PySem.Spec PyProof.Rows
section
variable {X:Cx}
def bin(w:PE X a m)(r:PE X b l){R:V->V->Hp->Prop}(I:MN c)(h:m σ H λ x j=>l σ j λ y d=>R x y d)
     {Q:k->Mp->Prop} {f:Mo->Mo->Sem k}
    (q:∀v u s2 x y d,Inv X c σ d s2->RelV x v->RelV y u->R x y d->wpAny MI X.A (f v u) Q X.xe s2) :
    wpAny MI X.A (eval a X.env) (λ v i=>wpAny MI X.A (eval b X.env) (λ u g=>wpAny MI X.A (f v u) Q X.xe g) X.xe i) X.xe s:=by
  refine thn (w c s σ H _ I h) λ v s1 t0=>?_;obtain⟨x,j,A,r1,p⟩:=t0;refine thn (r c s1 σ j _ A p) λ u s2 t0=>?_;obtain⟨y,d,z,n,o⟩:=t0;exact q v u s2 x y d z r1 n o
noncomputable def tVar(i:Nat):TE:=λ σ H Q=>∃v,σ[i]? = some (some v)/\Q v H
def tC(v:V):TE:=λ _ H Q=>Q v H
def R6(o:X.N[i]? = some x)(hv:Vis X.env.scope x)(hd:Np=false:=by decide)(f:(x==("__classdict__" : Str))=false:=by decide):PE X (.Name x pos) (tVar i):=by
 intro d s g H Q I h;obtain⟨v,e,h⟩:=h;obtain⟨m,j,n⟩:=I.loc;obtain⟨u,r,l⟩:=n i x v o e hv;have b:EP X d g Q u s:=⟨v,H,I,r,h⟩;rcases l with⟨a,k⟩ | ⟨a,c,hc,hcell⟩
 ·exact wpAny_Name (wpAny_loadName_local I.ok.kind a j k b) hd
 ·rcases a with a | a
  ·exact wpAny_Name (wpAny_loadName_cell I.ok.kind a hc hcell b) hd
  ·exact wpAny_Name (wpAny_loadName_free I.ok.kind a hc hcell b f) hd
def zc:PE X (.Constant (.int i) j pos) (tC (.int i)):=λ _ _ _ H _ I h=>wpAny_Constant_int ⟨.int i,H,I.tok _,Nb,h⟩
def ze:PE X (.Constant (.bool b) j pos) (tC (.bl b)):=λ _ _ _ H _ I h=>Constant_bool ⟨.bl b,H,I,rfl,h⟩
def zf:PE X (.Constant .none j pos) (tC .non):=λ _ _ _ H _ I h=>Constant_none ⟨.non,H,I,rfl,h⟩
def zg:PE X (.Constant (.str x) j pos) (tC (.str x)):=λ _ _ _ H _ I h=>Calls.Constant_str ⟨.str x,H,I.tok _,Nb,h⟩
def Gl(X:Cx)(x:Str):Prop:=X.env.kindOf x=some .globalImplicit
def ki(I:MN a)(c:Gl X x)(b:X.mg x=some u)(h:Q u s)
  (hd:Np=false:=by decide):wpAny MI X.A (eval (.Name x pos) X.env) Q E s:=
 oS I.ok.kind c (Calls.loadGlobal_global (by rw[I.ok.glob];exact I.mod.glob.keeps I.bk) b h) hd
def V2(I:MN a)(d:Gl X x)(c:X.mg x=none)(hv:bootBuiltins x=some u)(h:Q u s)
  (b:x ≠ "__name__":=by decide) (hd:Np=false:=by decide):wpAny MI X.A (eval (.Name x pos) X.env) Q E s:=by
 obtain⟨mb,h1,h2⟩:=I.mod.blt;exact oS I.ok.kind d (Calls.loadGlobal_builtin (by rw[I.ok.glob];exact I.mod.glob.keeps I.bk) c (by rw[I.ok.blt];exact h1.keeps I.bk) ((h2 x b).trans hv) h) hd
def kj(b:Gl X x)(a:X.mg x=some u)(r:RelV v u)(hd:Np=false:=by decide):PE X (.Name x pos) (tC v):=
 λ _ _ _ H _ I h=>ki I b a ⟨v,H,I,r,h⟩ hd
def zh(c:Gl X x)(b:X.mg x=none)(hv:bootBuiltins x=some u)(r:RelV v u)(a:x ≠ "__name__":=by decide)(hd:Np=false:=by decide):PE X (.Name x pos) (tC v):=
 λ _ _ _ H _ I h=>V2 I c b hv ⟨v,H,I,r,h⟩ a hd
variable {a b:Ms} {ta tb:TE} {pos:Pos}
noncomputable def tB(t:TE):TT:=λ σ H Q=>t σ H λ x H1=>∃c,x=.bl c/\Q c H1
noncomputable def tAnd(t u:TT):TT:=λ σ H Q=>t σ H λ c H1=>if c=true then u σ H1 Q else Q false H1
noncomputable def tOr(t u:TT):TT:=λ σ H Q=>t σ H λ c H1=>if c=true then Q true H1 else u σ H1 Q
def tNot(t:TT):TT:=λ σ H Q=>t σ H λ c H1=>Q (!c) H1
def zi(f:PT X a tA):PW X (.BoolOp .And [a] pos) tA:=by
 intro wh b s d H Q I h;refine isTrue_and (thn (f b s d H Q I h) λ c s1 e=>?_);cases c with
 | true=>exact isTrue_and_nil e
 | false=>exact e
def zj(f:PT X a tA):PW X (.BoolOp .Or [a] pos) tA:=by
 intro wh b s d H Q I h;refine isTrue_or (thn (f b s d H Q I h) λ c s1 e=>?_);cases c with
 | false=>exact isTrue_or_nil e
 | true=>exact e
def pL{rest:on Ms}(n:PT X a tA)(m:PW X (.BoolOp .And (b::rest) pos) f):PW X (.BoolOp .And (a::b::rest) pos) (tAnd tA f):=by
 intro l d s g H Q I h;refine isTrue_and (thn (n d s g H _ I h) λ c s1 t0=>?_);obtain⟨k,j,i⟩:=t0;cases c with
 | true=>exact m l d s1 g k Q j i
 | false=>exact⟨k,j,i⟩
def pM{rest:on Ms}(n:PT X a tA)(m:PW X (.BoolOp .Or (b::rest) pos) f):PW X (.BoolOp .Or (a::b::rest) pos) (tOr tA f):=by
 intro l d s g H Q I h;refine isTrue_or (thn (n d s g H _ I h) λ c s1 t0=>?_);obtain⟨k,j,i⟩:=t0;cases c with
 | true=>exact⟨k,j,i⟩
 | false=>exact m l d s1 g k Q j i
def zk(d:PT X a tA):PT X (.UnaryOp .Not a pos) (tNot tA):=by
 intro b s c H Q I h;exact isTrue_not (d b s c H _ I h)
def pN(h:PE X a t):PE X (.BoolOp op [a] pos) t:=λ b s c H Q I d=>BoolOp_one (h b s c H Q I d)
noncomputable def tIf(t:TT)(ta tb:TE):TE:=λ σ H Q=>t σ H λ c H1=>if c=true then ta σ H1 Q else tb σ H1 Q
def pO(l:PT X c tA)(n:PE X a ta)(m:PE X b tb):PE X (.IfExp c a b pos) (tIf tA ta tb):=by
 intro f s g H Q I h;refine wpAny_IfExp (thn (l f s g H _ I h) λ d s1 t0=>?_);obtain⟨k,j,i⟩:=t0;cases d with
 | true=>exact n f s1 g k Q j i
 | false=>exact m f s1 g k Q j i
end
end L2
namespace L2
open PySem PySem.Spec PyProof.Rows
def SqL(K:MA)(H:Hp)(a:Mq)(xs:on V):Prop:=
 Rd H a (MZ xs) \/
  ∃(o:Obj) (its:Mu Mo) (n:Nat),K.lookup a=some o/\o.cls=.type "list" /\ o.dict=none/\o.data=.seq its n/\its.size<=sizeLine/\Vals xs its.toList
def SqT(K:MA)(H:Hp)(a:Mq)(xs:on V):Prop:=
 Rd H a (.tup xs) \/
  ∃(o:Obj) (its:Mu Mo) (n:Nat),K.lookup a=some o/\(o.cls=.type "tuple" /\ o.dict=none)/\o.data=.seq its n/\its.size<=sizeLine/\Vals xs its.toList
noncomputable def absV:Mo->Mn V
 | .none=>some .non
 | .bool b=>some (.bl b)
 | .int i _=>some (.int i)
 | .str x _=>some (.str x)
 | .bytes b _=>some (.byt b)
 | .float b _=>some (.flt b)
 | .ref a=>some (.ref a)
 | .type n=>some (.ty n)
 | _=>none
def RelV.abs(r:RelV x u):absV u=some x:=by
 cases x with
 | non=>cases r;rfl
 | bl _=>cases r;rfl
 | int _=>obtain⟨t,rfl⟩:=r;rfl
 | str _=>obtain⟨t,rfl⟩:=r;rfl
 | byt _=>obtain⟨t,rfl⟩:=r;rfl
 | flt _=>obtain⟨t,rfl⟩:=r;rfl
 | ref _=>cases r;rfl
 | ty _=>cases r;rfl
def RelV.inj(r:RelV x u)(q:RelV y u):x=y:=z9 (r.abs.symm.trans q.abs)
theorem Vals.inj(h:Vals b c):Vals a c->b=a:=by
 induction h generalizing a with
 | nil=>intro t;cases t;rfl
 | cons r _ g=>intro t;cases t with | cons f d=>rw[r.inj f,g d]
def SqL.of{K:MA}(h:H a=some (.lst b)):SqL K H a b:=.inl (.inl h)
def SqT.of{K:MA}(h:H a=some (.tup b)):SqT K H a b:=.inl (.inl h)
def Inv.list(I:MN c)(h:SqL X.K H a d):∃b:on Mo,Vals d b/\PlainL s.heap a b.toArray/\d.length<=sizeLine:=by
 rcases h with h | ⟨o,b,n,hk,hc,hd,hs,hz,r⟩
 ·obtain⟨z,b,n,r,e⟩:=h.ok I.hok;exact⟨b,r,⟨_,n,e,rfl,rfl,rfl⟩,z⟩
 ·refine⟨b.toList,r,⟨o,n,I.kIn a o hk,hc,hd,by simpa using hs⟩,?_⟩;have e:=r.length;simp only[u3]at e;omega
def Inv.tuple(I:MN c)(h:SqT X.K H a d):∃b:on Mo,Vals d b/\IsTup s.heap a b.toArray/\d.length<=sizeLine:=by
 rcases h with h | ⟨o,b,n,hk,hc,hs,hz,r⟩
 ·obtain⟨z,b,r,p⟩:=h.ok I.hok;exact⟨b,r,p.tup,z⟩
 ·refine⟨b.toList,r,⟨o,I.kIn a o hk,hc.1,n,by simpa using hs⟩,?_⟩;have e:=r.length;simp only[u3]at e;omega
def Inv.tupleN(I:MN b)(h:SqT X.K H a f):∃o,s.heap.get? a=some o/\o.cls=.type "tuple" /\ o.dict=none:=by
 rcases h with h | ⟨o,d,n,hk,hc,hs,hz,r⟩
 ·obtain⟨z,d,r,o,e,c,_⟩:=h.ok I.hok;exact⟨o,e,c.1,c.2⟩
 ·exact⟨o,I.kIn a o hk,hc.1,hc.2⟩
def Inv.list_inj(I:MN b)(h:SqL X.K H a i)(m:SqL X.K H a g):i=g:=by
 obtain⟨f,r,⟨o,n,e,_,_,d⟩,_⟩:=I.list h;obtain⟨c,l,⟨o',n',j,_,_,k⟩,_⟩:=I.list m;rw[e]at j;cases j;rw[d]at k;injection k with d1 _
 have:f=c:=by simpa using congrArg Array.toList d1
 subst this;exact r.inj l
def Inv.tuple_inj(I:MN b)(h:SqT X.K H a i)(m:SqT X.K H a g):i=g:=by
 obtain⟨f,r,⟨o,e,_,n,d⟩,_⟩:=I.tuple h;obtain⟨c,l,⟨o',j,_,n',k⟩,_⟩:=I.tuple m;rw[e]at j;cases j;rw[d]at k;injection k with d1 _
 have:f=c:=by simpa using congrArg Array.toList d1
 subst this;exact r.inj l
section
variable {X:Cx} {st:Mz} {rest:on Mz} {t u:TS} {e:Ms} {te:TE} {pos:Pos}
def zm:TS:=λ D σ H=>D.nx σ H
def tSeq(t u:TS):TS:=λ D σ H=>t {D with nx:=u D} σ H
def zn:PSs X [] zm:=λ _ _ a H _ I h=>jC ⟨a,H,I,h⟩
def pP(h1:PS X st t)(h2:PSs X rest u):PSs X (st::rest) (tSeq t u):=by
 intro a s c H D I h;refine wpAny_execs_cons (thn (h1 a s c H {D with nx:=u D} I h) λ f s1 q=>?_);cases f with
 | next=>
  obtain⟨b,g,d,q⟩:=q;exact h2 a s1 b g D d q
 | ret v=>exact q
 | brk=>exact q
 | cont=>exact q
def Inv.quiet(I:MN a):interactive X.env=false:=by simp[interactive,I.ok.kind]
noncomputable def zo(te:TE):TS:=λ D σ H=>te σ H λ _ H1=>D.nx σ H1
def kr(d:PE X e te)(hs:swapsWith e none pos.line X.env=pure false:=by rfl):PS X (.Expr e pos) (zo te):=by
 intro a s b H D I h;exact wpAny_Expr_any (thn (d a s b H _ I h) λ v s1 ⟨x,g,f,r1,c⟩=>⟨b,g,f,c⟩) I.quiet hs
def tRet(te:TE):TS:=λ D σ H=>te σ H D.rt
def pQ(d:PE X e te):PS X (.Return (some e) pos) (tRet te):=by
 intro a s b H D I h;exact wpAny_Return_some (thn (d a s b H _ I h) λ v s1 ⟨x,g,f,r1,c⟩=>⟨x,b,g,f,r1,c⟩)
noncomputable def tIfS(c:TT)(t u:TS):TS:=λ D σ H=>c σ H λ b H1=>if b=true then t D σ H1 else u D σ H1
def pR(m:PT X c i)(o:PSs X a t)(n:PSs X b u):PS X (.If c a b pos) (tIfS i t u):=by
 intro f s g H D I h;refine wpAny_If (thn (m f s g H _ I h) λ d s1 t0=>?_);obtain⟨l,k,j⟩:=t0;cases d with
 | true=>exact o f s1 g l D k j
 | false=>exact n f s1 g l D k j
def zq:TS:=λ _ _ _=>False
def kt:PSs X a zq:=λ _ _ _ _ _ _ h=>h.elim
end
abbrev TG:=V->St->Hp->(St->Hp->Prop)->Prop
abbrev TGs:=on V->St->Hp->(St->Hp->Prop)->Prop
def PG(X:Cx)(target:Ms)(t:TG):Prop:=
 ∀(pins:NB) (s:Mp) (σ:St) (H:Hp) (v:V) (u:Mo) (Q:St->Hp->Prop),Inv X pins σ H s->RelV v u->t v σ H Q ->
  wpAny MI X.A (assign target X.env u) (λ _ s'=>∃σ' H',Inv X pins σ' H' s'/\Q σ' H') X.xe s
def PGs(X:Cx)(ts:on Ms)(t:TGs):Prop:=
 ∀(pins:NB) (s:Mp) (σ:St) (H:Hp) (vs:on V) (us:on Mo) (Q:St->Hp->Prop),Inv X pins σ H s->Vals vs us->t vs σ H Q ->
  wpAny MI X.A (assignInOrder ((assignEach ts X.env).map (·.2)) us) (λ _ s'=>∃σ' H',Inv X pins σ' H' s'/\Q σ' H') X.xe s
abbrev TSet:=V->V->V->Hp->(Hp->Prop)->Prop
def PSet(X:Cx)(t:TSet):Prop:=
 ∀(pins:NB) (s:Mp) (σ:St) (H:Hp) (o i v:V) (ov iv u:Mo) (Q:Hp->Prop),Inv X pins σ H s->RelV o ov->RelV i iv->RelV v u->t o i v H Q ->
  wpAny MI X.A (setItem ov iv u) (λ _ s'=>∃H',Inv X pins σ H' s'/\Q H') X.xe s
abbrev TIp:=V->V->Hp->VK->Prop
def PIp(X:Cx)(op:Operator)(t:TIp):Prop:=
 ∀(pins:NB) (s:Mp) (σ:St) (H:Hp) (x y:V) (v u:Mo) (Q:VK),Inv X pins σ H s->RelV x v->RelV y u->t x y H Q ->
  wpAny MI X.A (inplaceOp op v u) (EP X pins σ Q) X.xe s
def cK(i:Nat):TG:=λ v σ H Q=>Q (σ.set i (some v)) H
def pS(f:X.N.Nodup)(c:X.N[i]? = some x)(b:Loc X.env.scope x)(d:X.fn x=true\/X.env.scope.names.lookup x=some .local:=by first | exact .inl rfl | exact .inr rfl | assumption):PG X (.Name x pos) (cK i):=by
 intro a s σ H v u Q I r h;exact wpAny_assign_Name (kh I f c b r (λ s' g=>⟨_,H,g,h⟩) d)
def gNil:TGs:=λ vs σ H Q=>vs=[]/\Q σ H
noncomputable def pT(t:TG)(u:TGs):TGs:=λ vs σ H Q=>∃v r,vs=v::r/\t v σ H λ σ' H'=>u r σ' H' Q
def zr:PGs X [] gNil:=by
 intro a s b H vs us Q I r h;obtain⟨e,h⟩:=h;subst e;cases r;exact assignInOrder_nil ⟨b,H,I,h⟩
def zt(h1:PG X e t)(h2:PGs X es u)
  (hs:(assignEach (e::es) X.env).map (·.2)=assign e X.env::(assignEach es X.env).map (·.2):=by rfl):PGs X (e::es) (pT t u):=by
 intro a s c H vs us Q I r h;obtain⟨v,vr,g,h⟩:=h;subst g;cases r with
 | cons r d=>
  rw[hs];refine assignInOrder_cons (thn (h1 a s c H _ _ _ I r h) λ _ s1 t0=>?_);obtain⟨b,j,i,f⟩:=t0;exact h2 a s1 b j _ _ Q i d f
noncomputable def gTup(K:MA)(n:Nat)(t:TGs):TG:=λ v σ H Q=>∃a xs,v=.ref a/\SqT K H a xs/\xs.length=n/\t xs σ H Q
def pU(y:NN)(h:PGs X es t)
  (w:(assignEach es X.env).length=n:=by rfl) (f:(assignEach es X.env).findIdx? (·.1)=none:=by rfl):PG X (.Tuple es k pos) (gTup X.K n t):=by
 intro c s i H v u Q I r d;obtain⟨a,j,z,q,x,d⟩:=d;subst z;cases r;obtain⟨l,g,p,hz⟩:=I.tuple q;refine assign_Tuple_tuple (I.ok.hd y) p (by simp[w,←x,g.length]) f λ h' m=>?_
 exact h c _ i H j _ Q (I.kept λ b o e=>m b o (n9 (j6 e)) e) (Nm g) d
noncomputable def gSub(to ti:TE)(t:TSet):TG:=λ v σ H Q=>to σ H λ o H1=>ti σ H1 λ i H2=>t o i v H2 λ H3=>Q σ H3
def zu(m:PE X o d)(n:PE X i f)(hs:PSet X t)
  (p:∀v,assign (.Subscript o i pos) X.env v=(do
   let ov ←holding [v] (eval o X.env)
   let b ←holding [v,ov] (eval i X.env)
   standAt pos
   holding [v,ov,b] (setItem ov b v)
   release [v,ov,b] []):=by intro _;rfl):PG X (.Subscript o i pos) (gSub d f t):=by
 intro a s c H v u Q I r h;rw[p];refine d4 (D0 (thn (m a s c H _ I h) λ ov s1 t0=>?_));obtain⟨x,C,z,r1,l⟩:=t0;refine d4 (D0 (thn (n a s1 c C _ z l) λ b s2 t0=>?_));obtain⟨y,B,w,g,k⟩:=t0;refine d4 (cr (d4 (D0 (thn (hs a s2 c B x y v ov b u _ w r1 g r k) λ _ s3 t0=>?_))));obtain⟨A,q,j⟩:=t0;exact wpAny_release ⟨c,A,q,j⟩
noncomputable def tAsg(te:TE)(g:TG):TS:=λ D σ H=>te σ H λ x H1=>g x σ H1 D.nx
def pV(i:PE X e c)(f:PG X tg g)(hs:swapsWithSole [tg] e pos.line X.env=pure false:=by rfl)(hw:swappedStores [tg] e X.env=pure none:=by rfl)
  (h1:(assignEach [tg] X.env).map (·.2)=[assign tg X.env]:=by rfl):PS X (.Assign [tg] e pos) (tAsg c g):=by
 intro a s b H D I h;refine wpAny_Assign_stores (thn (i a s b H _ I h) λ v s1 ⟨x,k,j,r1,d⟩=>?_) hs hw;rw[h1];exact thn (f a s1 b k x v _ j r1 d) λ _ s2 q=>q
def pW(l:X.N.Nodup)(g:X.N[i]? = some x)(f:Loc X.env.scope x)(k:PE X e b)(hs:swapsWith e (some (.Name x pos')) pos.line X.env=pure false:=by rfl)(j:X.fn x=true\/X.env.scope.names.lookup x=some .local:=by first | exact .inl rfl | exact .inr rfl | assumption) :
  PS X (.Assign [.Name x pos'] e pos) (tAsg b (cK i)):=by
 intro a s c H D I h;refine wpAny_Assign_Name (thn (k a s c H _ I h) λ v s1 ⟨y,o,n,r1,d⟩=>?_) hs;exact kh n l g f r1 (λ s2 m=>⟨_,o,m,d⟩) j
noncomputable def tAug(i:Nat)(te:TE)(ti:TIp):TS:=λ D σ H=>∃x,σ[i]? = some (some x)/\te σ H λ y H1=>ti x y H1 λ z H2=>D.nx (σ.set i (some z)) H2
def zw(O:X.N.Nodup)(q:X.N[i]? = some x)(j:Loc X.env.scope x)(N:PE X e p)(F:PIp X op o)(M:X.fn x=true\/X.env.scope.names.lookup x=some .local:=by first | exact .inl rfl | exact .inr rfl | assumption) :
  PS X (.AugAssign (.Name x pos') op e pos) (tAug i p o):=by
 intro a s n H D I h;obtain⟨v,P,h⟩:=h;obtain⟨m,J,L⟩:=I.loc;have g:Vis X.env.scope x:=by rcases j with k | k;exact .inl k;exact .inr (.inl k)
 obtain⟨u,r,l⟩:=L i x v q P g;refine wpAny_AugAssign_Name ?_;have A:wpAny MI X.A (eval e X.env) (λ w f=>wpAny MI X.A (inplaceOp op u w) (λ r d=>wpAny MI X.A (storeName X.env x r) (λ _=>SP X a D .next) X.xe d) X.xe f) X.xe s:=by refine thn (N a s n H _ I h) λ w s1 t0=>?_;obtain⟨y,W,S,r1,E⟩:=t0;refine thn (F a s1 n W v y u w _ S r r1 E) λ z s2 t0=>?_;obtain⟨zv,U,R,B,C⟩:=t0;exact kh R O q j B (λ s3 Q=>⟨_,U,Q,C⟩) M
 rcases l with⟨b,K⟩ | ⟨b,c,hc,hcell⟩
 ·exact wpAny_loadName_local I.ok.kind b J K A
 ·rcases b with b | b
  ·exact wpAny_loadName_cell I.ok.kind b hc hcell A
  ·rcases j with k | k
   ·have:X.env.scope.names.lookup x=some .free:=b;rw[k]at this;cases this
   ·have:X.env.scope.names.lookup x=some .free:=b;rw[k]at this;cases this
noncomputable def ipI(f:Int->Int->Int):TIp:=λ x y H Q=>∃i j,x=.int i/\y=.int j/\Q (MY (f i j)) H
def zx:PIp X .Add (ipI λ i j=>i+j):=by
 intro a s σ H x y v u Q I r1 b h;obtain⟨i,j,d,c,q⟩:=h;subst d;subst c;obtain⟨t,rfl⟩:=r1;obtain⟨t',rfl⟩:=b;exact iadd_int ⟨.int _,H,I.tok _,Nb,q⟩
noncomputable def zy(c:TT)(tb:TS):TS:=λ D σ H=>∃W:Nat->St->Hp->Prop,(∃m,W m σ H)/\∀m σ H,W m σ H ->
 c σ H λ b H1=>if b=true then ∃N:St->Hp->Prop,(∀σ' H',N σ' H'->∃m',m'<m/\W m' σ' H')/\tb {D with nx:=N,ct:=N,bk:=D.nx} σ H1 else D.nx σ H1
def zC(x:PassesOwn MI X.A X.env X.xe)(K:PT X c u)(L:PSs X body w):PS X (.While c body [] pos) (zy u w):=by
 intro d s C H D I h;obtain⟨W,⟨J,E⟩,i⟩:=h;refine wpAny_While (codeAny_whileLoop (λ n F=>∃g B,Inv X d g B F/\W n g B) ?_ J ⟨C,H,I,E⟩)
 rintro n s1 ⟨σ1,H1,I1,w1⟩
 refine X9 x (thn (K d s1 σ1 H1 _ I1 (i n σ1 H1 w1)) λ b s2 t0=>?_);obtain⟨A,z,l⟩:=t0;cases b with
 | true=>
  obtain⟨N,y,l⟩:=l;rw[d6 rfl];refine X9 x (thn (L d s2 σ1 A _ z l) λ f s3 k=>?_);cases f with
  | next=>
   obtain⟨a,j,r,o⟩:=k;obtain⟨p,q,m⟩:=y a j o;exact⟨p,q,a,j,r,m⟩
  | cont=>
   obtain⟨a,j,r,o⟩:=k;obtain⟨p,q,m⟩:=y a j o;exact⟨p,q,a,j,r,m⟩
  | brk=>exact k
  | ret v=>exact k
 | false=>
  rw[e7 w9];exact jC ⟨σ1,A,z,l⟩
structure It where
 go:Nat->Hp->Prop
 yld:Nat->Hp->V->Hp->Prop
 stop:Nat->Hp->Prop
def FpOk(X:Cx)(pins:NB)(H:Hp)(b:Mq):Prop:=
 H b=none/\b≠X.env.locals/\b∉X.fs/\(b∈X.ex\/X.s₀.heap.objs.size<=b)/\(∀x c,X.env.cells.lookup x=some c->c≠b)/\∀p∈X.pn++pins,p.1≠b
def Inv.fpOk(I:MN a)(d:s.heap.objs.size<=b)(g:H' b=none):FpOk X a H' b:=by
 refine⟨g,M3 (o4 I.lt d),I.nofs d,.inr (e9 I.sz d),λ x c e z=>?_,λ p f z=>?_⟩
 ·obtain⟨v,q⟩:=I.cell x c e;exact absurd (o4 q.lt (by rw[z];exact d)) (J8 _)
 ·exact absurd (o4 (j6 (I.pin p f).1) (by rw[z];exact d)) (J8 _)
structure Turn(P:Program)(w:World)(K:PySem.W.Frag)(tg:Expr)(J:It)(fp:List Addr)(it:Addr)(tn:Nat->Heap->Prop):Prop where
 mem:it∈fp
 obj:∀i h,tn i h->∀b∈fp,∃o,h.get? b=some o/\∀v,o.data ≠ .cell v
 keep:∀i h h',tn i h->(∀b∈fp,∀o,h.get? b=some o->h'.get? b=some o)->tn i h'
 item:∀(X:Cx),X.prog=P->X.w=w->X.K=K->X.calm=true->∀(i:Nat) (pins:List (Addr×Obj)) (s:Shared) (σ:St) (H:Hp) (E:Value->Shared->Prop),Inv X pins σ H s->(∀b∈fp,FpOk X pins H b)->tn i s.heap->J.go i H ->
  wpAny NY X.A (pyNext (.ref it)) (λ r s1=>∃u,r=some u /\
   wpAny NY X.A (letOwnedTupleGo tg (.ref it) u) (λ _ s2=>∃x H',Inv X pins σ H' s2/\RelV x u/\J.yld i H x H'/\tn (i+1) s2.heap/\∀b∈fp,H' b=none) E s1) E s
 done:∀(X:Cx),X.prog=P->X.w=w->X.K=K->X.calm=true->∀(i:Nat) (pins:List (Addr×Obj)) (s:Shared) (σ:St) (H:Hp) (E:Value->Shared->Prop),Inv X pins σ H s->(∀b∈fp,FpOk X pins H b)->tn i s.heap->J.stop i H ->
  wpAny NY X.A (pyNext (.ref it)) (λ r s1=>r=none/\Inv X pins σ H s1) E s
 self:∀(A:Around) (i:Nat) (s:Shared) (Q:Value->Shared->Prop) (E:Value->Shared->Prop),tn i s.heap->Q (.ref it) s->wpAny NY A (pyIter (.ref it)) Q E s
abbrev TI:=St->Hp->(It->Hp->Prop)->Prop
def PIE(X:Cx)(pins:NB)(σ:St)(tg:Ms)(R:It->Hp->Prop)(itv:Mo)(s2:Mp):Prop:=
 ∃(it:Mq) (fp:on Mq) (tn:Nat->Mr->Prop) (J:It) (H':Hp),itv=.ref it/\Inv X pins σ H' s2/\Turn X.prog X.w X.K tg J fp it tn/\tn 0 s2.heap/\(∀b∈fp,FpOk X pins H' b)/\R J H'
def PI(X:Cx)(tg iter:Ms)(wi:TI):Prop:=
 ∀(pins:NB) (s:Mp) (σ:St) (H:Hp) (R:It->Hp->Prop),Inv X pins σ H s->wi σ H R ->
  wpAny MI X.A (eval iter X.env) (λ v s1=>wpAny MI X.A (pyIter v) (PIE X pins σ tg R) X.xe s1) X.xe s
def ku(b:s.heap.get? it=some o)(d:o.cls=.type n)(hd:o.data=.fields vs)
    (c : ["enumerate","zip","dict_itemiterator","dict_reverseitemiterator","odict_iterator","itertools.zip_longest","itertools.pairwise"].contains n=false) (a:Q () s):wpAny M A (letOwnedTupleGo tg (.ref it) u) Q E s:=by
  unfold letOwnedTupleGo;cases tg<;>first
    | exact e8 a
    | (cases u<;>first
        | exact e8 a
        | (refine d4 (wpAny_load b ?_)
           rw[d,hd];show wpAny M A (if(["enumerate","zip","dict_itemiterator","dict_reverseitemiterator","odict_iterator","itertools.zip_longest","itertools.pairwise"].contains n&&vs[0]? == some _)=true then _ else _) Q E s;rw[e7 (by intro h;rw[c,jM]at h;cases h)];exact e8 a))
noncomputable def Itl(K:MA)(a:Mq):It:=
 ⟨λ i H=>∃xs x,SqL K H a xs/\xs[i]? = some x,λ i H x H'=>H'=H/\∀xs,SqL K H a xs->xs[i]? = some x,λ i H=>∃xs,SqL K H a xs/\xs.length<=i⟩
noncomputable def Itt(K:MA)(a:Mq):It:=
 ⟨λ i H=>∃xs x,SqT K H a xs/\xs[i]? = some x,λ i H x H'=>H'=H/\∀xs,SqT K H a xs->xs[i]? = some x,λ i H=>∃xs,SqT K H a xs/\xs.length<=i⟩
noncomputable def Itr(lo:Int)(n:Nat):It:=⟨λ i _=>i<n,λ i H x H'=>H'=H/\x=.int (lo+i),λ i _=>n<=i⟩
def zE{K:MA}(a it:Mq):Turn P w K tg (Itl K a) [it] it (λ i h=>h.IsListIter it a i) where
 mem:=by simp
 obj:=λ i h st b f=>by
  have e:b=it:=by simpa using f
  subst e;obtain⟨o,e,c,d⟩:=st;exact⟨o,e,λ v z=>by rw[d]at z;cases z⟩
 keep:=λ i h Q st k=>st.at λ o e=>k it MP o e
 item:=by
  intro X B y C O i j s R H E I m st A;subst B y C;obtain⟨S,x,l,r⟩:=A;obtain⟨q,n,p,Y⟩:=I.list l;obtain⟨u,hu,W⟩:=n.get r;obtain⟨N,M,f2,L,J,F⟩:=m it MP;refine pz st p.isList (Nm hu) λ Q g U=>?_
  obtain⟨o,e,c,d⟩:=id g;exact⟨u,rfl,ku e c d MG ⟨x,H,(I.turned (λ b o f e=>(U.2 b f).trans e) N M L J F),W,⟨rfl,λ ys Z=>by rw[I.list_inj Z l];exact r⟩,g,λ b f=>(m b f).1⟩⟩
 done:=by
  intro X B y C O i j s R H E I m st A;subst B y C;obtain⟨S,l,r⟩:=A;obtain⟨q,n,p,Y⟩:=I.list l;obtain⟨N,M,f2,L,J,F⟩:=m it MP;have hl:=n.length;exact pH (I.ok.hd O) st p.isList (by simp;omega) λ Q eb=>⟨rfl,I.turned (λ b o f e=>eb b o f e) N M L J F⟩
 self:=λ _ _ _ _ _ st h=>wpAny_pyIter_listiter st h
def zF{K:MA}(a it:Mq):Turn P w K tg (Itt K a) [it] it (λ i h=>h.IsTupleIter it a i) where
 mem:=by simp
 obj:=λ i h st b f=>by
  have e:b=it:=by simpa using f
  subst e;obtain⟨o,e,c,d⟩:=st;exact⟨o,e,λ v z=>by rw[d]at z;cases z⟩
 keep:=λ i h Q st k=>st.at λ o e=>k it MP o e
 item:=by
  intro X B y C O i j s R H E I m st A;subst B y C;obtain⟨S,x,l,r⟩:=A;obtain⟨q,n,p,Y⟩:=I.tuple l;obtain⟨u,hu,W⟩:=n.get r;obtain⟨N,M,f2,L,J,F⟩:=m it MP;refine wpAny_pyNext_tuple_item st (p) (Nm hu) λ Q g U=>?_
  obtain⟨o,e,c,d⟩:=id g;exact⟨u,rfl,ku e c d MG ⟨x,H,(I.turned (λ b o f e=>(U.2 b f).trans e) N M L J F),W,⟨rfl,λ ys Z=>by rw[I.tuple_inj Z l];exact r⟩,g,λ b f=>(m b f).1⟩⟩
 done:=by
  intro X B y C O i j s R H E I m st A;subst B y C;obtain⟨S,l,r⟩:=A;obtain⟨q,n,p,Y⟩:=I.tuple l;obtain⟨N,M,f2,L,J,F⟩:=m it MP;have hl:=n.length;exact wpAny_pyNext_tuple_end (I.ok.hd O) st (p) (by simp;omega) λ Q eb=>⟨rfl,I.turned (λ b o f e=>eb b o f e) N M L J F⟩
 self:=λ _ _ _ _ _ st h=>wpAny_pyIter_tupleiter st h
def zG{K:MA}(it:Mq)(f:Int)(n:Nat):Turn P w K tg (Itr f n) [it] it (λ i h=>IsRangeIter h it (f+(i:Nat)*1) ((n:Int) - (i:Nat)) 1) where
 mem:=by simp
 obj:=λ i h st b a=>by
  have e:b=it:=by simpa using a
  subst e;exact⟨_,st,λ v z=>by
   have F:=z;cases F⟩
 keep:=λ i h B st k=>k it MP _ st
 item:=by
  intro X p j q m i d s C H E I g st l;subst p j q;obtain⟨A,y,J,x,u,r⟩:=g it MP;refine (Walks.range (I.ok.hd m) it f 1 n).item i s _ _ l st λ v B tk hv c kk=>?_
  obtain⟨t,rfl⟩:=hv;refine⟨_,rfl,ku c rfl rfl MG ⟨.int (f+i),H,(I.turned (λ b o a e=>kk b o (Nm a) e) A y x u r),⟨t,?_⟩,⟨rfl,rfl⟩,c,λ b a=>(g b a).1⟩⟩;rw[fF]
 done:=by
  intro X p j q m i d s C H E I g st l;subst p j q;obtain⟨A,y,J,x,u,r⟩:=g it MP;exact wpAny_pyNext_range_end (I.ok.hd m) st (by have:n<=i:=l;omega) λ B L=>⟨rfl,I.turned (λ b o a e=>L b o a e) A y x u r⟩
 self:=λ _ _ _ _ _ st h=>wpAny_pyIter_rangeiter st h
end L2
namespace L2
open PySem PySem.Spec PyProof.Rows
def zH(K:MA)(tl:TE):TI:=λ σ H R=>tl σ H λ x H1=>∃a,x=.ref a/\(∃xs,SqL K H1 a xs)/\R (Itl K a) H1
def iTup(K:MA)(tl:TE):TI:=λ σ H R=>tl σ H λ x H1=>∃a,x=.ref a/\(∃xs,SqT K H1 a xs)/\R (Itt K a) H1
def pX(m:PE X l f):PI X tg l (zH X.K f):=by
 intro c s g H R I h;refine thn (m c s g H _ I h) λ v s1 t0=>?_;obtain⟨x,r,d,r1,i⟩:=t0
 obtain⟨a,e,⟨xs,k⟩,q⟩:=i;subst e;cases r1;obtain⟨j,rv,p,hz⟩:=d.list k;refine Q1 p.isList ?_;refine⟨s1.heap.objs.size,[s1.heap.objs.size],_,_,r,rfl,d.kept λ b o e=>i5 _ e,zE a _,⟨_,m7 _ rfl,rfl,rfl⟩,λ b n=>?_,q⟩;have e:b=s1.heap.objs.size:=by simpa using n
 subst e;exact d.fpOk (f6 _) (d.hok.fresh (f6 _))
def zI(m:PE X l f):PI X tg l (iTup X.K f):=by
 intro c s g H R I h;refine thn (m c s g H _ I h) λ v s1 t0=>?_;obtain⟨x,r,d,r1,i⟩:=t0
 obtain⟨a,e,⟨xs,k⟩,q⟩:=i;subst e;cases r1;obtain⟨j,rv,p,hz⟩:=d.tuple k;refine U0 (p) ?_;refine⟨s1.heap.objs.size,[s1.heap.objs.size],_,_,r,rfl,d.kept λ b o e=>i5 _ e,zF a _,⟨_,m7 _ rfl,rfl,rfl⟩,λ b n=>?_,q⟩;have e:b=s1.heap.objs.size:=by simpa using n
 subst e;exact d.fpOk (f6 _) (d.hok.fresh (f6 _))
def pY(I:MN c)(h1 : -(2^62)<=a)(h2:a<2^62)(i : -(2^62)<=d)(h:d<2^62)
  (q:R (Itr a (d - a).toNat) H):wpAny MI X.A (pyIter No) (PIE X c σ tg R) E {s with heap:=s.heap.push {cls:=.type "range",data:=.fields #[.int a t,.int d u,.int 1 v]},toks:=tk}:=by
 refine wpAny_pyIter_range (IsRange.new ..) (small_one h1 h2 i h) ?_;have f:Inv X c σ H {s with heap:=s.heap.push {cls:=.type "range",data:=.fields #[.int a t,.int d u,.int 1 v]},toks:=tk}:=I.kept λ b o e=>i5 _ e;refine⟨(s.heap.push {cls:=.type "range",data:=.fields #[.int a t,.int d u,.int 1 v]}).objs.size,[(s.heap.push {cls:=.type "range",data:=.fields #[.int a t,.int d u,.int 1 v]}).objs.size],_,_,H,rfl,
  f.kept λ b o e=>i5 _ e,zG _ a (d - a).toNat,?_,λ b g=>?_,q⟩
 ·have k:a+((0:Nat):Int)*1=a:=by simp
  have j:(((d - a).toNat:Nat):Int) - ((0:Nat):Int)=Builtin.Range.rangeSize a d 1:=by rw[rangeSize_one];split<;>omega
  show IsRangeIter _ _ _ _ 1;rw[k,j];exact m7 _ rfl
 ·have e:b=(s.heap.push {cls:=.type "range",data:=.fields #[.int a t,.int d u,.int 1 v]}).objs.size:=by simpa using g
  subst e;exact f.fpOk (f6 _) (f.hok.fresh (f6 _))
def zJ(ta:TA):TI:=λ σ H R=>ta σ H λ vs H1=>∃j:Int,vs=[.int j] /\ -(2^62)<=j/\j<2^62/\R (Itr 0 j.toNat) H1
def zK(ta:TA):TI:=λ σ H R=>ta σ H λ vs H1=>∃i j:Int,vs=[.int i,.int j]/\(-(2^62)<=i/\i<2^62 /\ -(2^62)<=j/\j<2^62)/\R (Itr i (j - i).toNat) H1
def zL(l:Gl X "range")(k:X.mg "range" = none)(m:PA X [a] d)(hs:starEach [a] X.env=[(false,eval a X.env)]:=by rfl):PI X tg (.Call (.Name "range" p) [a] [] pos) (zJ d):=by
 intro b s f H R I h;refine Call_ (V2 I l k boot_range (bN (thn (m pos b s f H _ I h) λ us s1 ⟨vs,H1,n,r1,c⟩=>?_) hs rfl));obtain⟨j,e,c,i,q⟩:=c;subst e;cases r1 with
 | cons r g=>
  cases g;obtain⟨t,rfl⟩:=r;exact call_range_1 (pY n KE KE c i (Nm q))
def zM(w:Gl X "range")(v:X.mg "range" = none)(x:PA X [a,b] k)(hs:starEach [a,b] X.env=[(false,eval a X.env),(false,eval b X.env)]:=by rfl)(d:starEach [b] X.env=[(false,eval b X.env)]:=by rfl) :
  PI X tg (.Call (.Name "range" p) [a,b] [] pos) (zK k):=by
 intro c s l H R I h;refine Call_ (V2 I w v boot_range (bN (thn (x pos c s l H _ I h) λ us s1 ⟨vs,H1,y,r1,g⟩=>?_) (by rw[hs,d]) (by rw[d];rfl)));obtain⟨i,j,e,⟨g,u,o,n⟩,q⟩:=g;subst e;cases r1 with
 | cons r f=>
  cases f with
  | cons m f=>
   cases f;obtain⟨t,rfl⟩:=r;obtain⟨t',rfl⟩:=m;exact call_range_2 (pY y g u o n q)
noncomputable def tFor(wi:TI)(g:TG)(tb:TS):TS:=λ D σ H=>wi σ H λ J H1=>∃W:Nat->Nat->St->Hp->Prop,(∃m,W 0 m σ H1)/\∀i m σ H,W i m σ H ->
 (J.stop i H/\D.nx σ H)\/(J.go i H/\∃N:St->Hp->Prop,(∀σ' H',N σ' H'->∃m',m'<m/\W (i+1) m' σ' H')/\∀x H',J.yld i H x H'->g x σ H' λ σ2 H2=>tb {D with nx:=N,ct:=N,bk:=D.nx} σ2 H2)
noncomputable def fI(fp:on Mq)(h:Mr):on (Mq×Obj):=fp.filterMap λ b=>(h.get? b).map λ o=>(b,o)
def aN(a:b∈fp)(e:h.get? b=some o):(b,o)∈fI fp h:=bX.mpr ⟨b,a,by rw[e];rfl⟩
def zN(a:p∈fI fp h):p.1∈fp/\h.get? p.1=some p.2:=by
 obtain⟨b,c,e⟩:=bX.mp a;cases q:h.get? b with
 | none=>rw[q]at e;cases e
 | some o=>
  rw[q]at e;have d:=z9 e;subst d;exact⟨c,q⟩
def Inv.pinned(I:MN a)(i:∀b∈fp,FpOk X a H b)(h:∀b∈fp,∃o,s.heap.get? b=some o/\∀v,o.data ≠ .cell v):Inv X (a++fI fp s.heap) σ H s:=
 I.pins_of λ p g=>(x3.mp g).elim (λ z=>I.pin p (t8 _ z)) λ z=>by obtain⟨c,e⟩:=zN z;obtain⟨l,k,j,_⟩:=i p.1 c;obtain⟨o,f,d⟩:=h p.1 c;rw[e]at f;cases f;exact⟨e,l,k,j,d⟩
def Inv.unpinned(I:MN (a++b)):Inv X a σ H s:=I.pins_of λ p c=>I.pin p (t8 _ (w6 _ c))
def zQ(K:PassesOwn MI X.A X.env X.xe)(hc:NN)(hi:PI X tg l wi)(hg:PG X tg g)(p:PSs X body Z)
  (hs:∀x,foldedSetIterable l X.env x=pure x:=by intro _;rfl):PS X (.For tg l body [] pos) (tFor wi g Z):=by
 intro c s U H D I h;refine wpAny_For (thn (hi c s U H _ I h) λ v s1 h1=>thn h1 λ itv s2 h2=>?_) hs;obtain⟨it,L,Y,J,H2,e,I2,T,O,f2,W,⟨m0,w0⟩,C⟩:=h2;subst e;have k:∀{z:Hp},(∀b∈L,z b=none)->∀b∈L,FpOk X c z b:=λ hn b p=>⟨hn b p,(f2 b p).2⟩
 refine codeAny_forLoop_any (λ n s'=>∃i j z,Inv X c j z s'/\Y i s'.heap/\(∀b∈L,z b=none)/\W i n j z) ?_ m0 ⟨0,U,H2,I2,O,λ b p=>(f2 b p).1,w0⟩
 rintro n s3 ⟨i,σ3,H3,I3,st3,fr3,w3⟩
 rcases C i n σ3 H3 w3 with⟨E,qn⟩ | ⟨go,N,hN,step⟩
 ·refine X9 K (thn (T.done X rfl rfl rfl hc i c s3 σ3 H3 X.xe I3 (k fr3) st3 E) λ r s4 t0=>?_);obtain⟨Q,I4⟩:=t0;subst Q;exact jC ⟨σ3,H3,I4,qn⟩
 ·refine X9 K (thn (T.item X rfl rfl rfl hc i c s3 σ3 H3 X.xe I3 (k fr3) st3 go) λ r s4 t0=>?_);obtain⟨u,Q,h4⟩:=t0;subst Q;refine X9 K (thn h4 λ _ s5 t0=>?_);obtain⟨x,H5,I5,r5,y5,B,R⟩:=t0;have S:=I5.pinned (k R) (T.obj _ _ B);refine X9 K (thn (hg _ s5 σ3 H5 x u _ S r5 (step x H5 y5)) λ _ s6 t0=>?_);obtain⟨M,H6,I6,q6⟩:=t0;refine X9 K (thn (p _ s6 M H6 _ I6 q6) λ f P A=>?_);have q:∀{a:St} {y:Hp},Inv X _ a y P->N a y->∃m,m<n/\∃i j z,Inv X c j z P/\Y i P.heap/\(∀b∈L,z b=none)/\W i m j z:=λ {a y} w F=>by obtain⟨m',hm,w7⟩:=hN a y F;refine⟨m',hm,i+1,a,y,w.unpinned,T.keep _ _ _ B λ b p o e=>(w.pin (b,o) (t8 _ (t8 _ (aN p e)))).1,λ b p=>?_,w7⟩;obtain⟨o,e,d⟩:=T.obj _ _ B b p;exact(w.pin (b,o) (t8 _ (t8 _ (aN p e)))).2.1
  cases f with
  | next=>obtain⟨a,y,w,F⟩:=A;exact q w F
  | cont=>obtain⟨a,y,w,F⟩:=A;exact q w F
  | brk=>obtain⟨a,y,w,A⟩:=A;exact⟨a,y,w.unpinned,A⟩
  | ret v=>obtain⟨x7,a,y,w,r7,A⟩:=A;exact⟨x7,a,y,w.unpinned,r7,A⟩
end L2
namespace L2
open PySem PySem.Spec PyProof.Rows
abbrev R2:=V->V->Hp->VK->Prop
def OpR(X:Cx)(f:Mo->Mo->Sem Mo)(r:R2):Prop:=
 ∀(pins:NB) (s:Mp) (σ:St) (H:Hp) (x y:V) (v u:Mo) (Q:VK),Inv X pins σ H s->RelV x v->RelV y u->r x y H Q ->
  wpAny MI X.A (f v u) (EP X pins σ Q) X.xe s
def UnR(X:Cx)(f:Mo->Sem Mo)(r:V->Hp->VK->Prop):Prop:=
 ∀(pins:NB) (s:Mp) (σ:St) (H:Hp) (x:V) (v:Mo) (Q:VK),Inv X pins σ H s->RelV x v->r x H Q ->
  wpAny MI X.A (f v) (EP X pins σ Q) X.xe s
def u6(X:Cx)(f:Mo)(r:on V->Hp->VK->Prop):Prop:=
 ∀(pins:NB) (s:Mp) (σ:St) (H:Hp) (xs:on V) (us:on Mo) (Q:VK),Inv X pins σ H s->Vals xs us->r xs H Q ->
  wpAny MI X.A (call f us) (EP X pins σ Q) X.xe s
def TruR(X:Cx)(r:V->Hp->(Bool->Hp->Prop)->Prop):Prop:=
 ∀(pins:NB) (s:Mp) (σ:St) (H:Hp) (x:V) (v:Mo) (Q:Bool->Hp->Prop),Inv X pins σ H s->RelV x v->r x H Q ->
  wpAny MI X.A (truthy v) (TP X pins σ Q) X.xe s
noncomputable def tOp(r:R2)(ta tb:TE):TE:=λ σ H Q=>ta σ H λ x H1=>tb σ H1 λ y H2=>r x y H2 Q
noncomputable def tUn(r:V->Hp->VK->Prop)(ta:TE):TE:=λ σ H Q=>ta σ H λ x H1=>r x H1 Q
noncomputable def rI(C:Int->Int->Prop)(g:Int->Int->V):R2:=λ x y H Q=>∃i j,x=.int i/\y=.int j/\C i j/\Q (g i j) H
noncomputable def rI0(g:Int->Int->V):R2:=λ x y H Q=>∃i j,x=.int i/\y=.int j/\Q (g i j) H
noncomputable def rU(g:Int->V):V->Hp->VK->Prop:=λ x H Q=>∃i,x=.int i/\Q (g i) H
def binT(r:PE X a l)(q:PE X b k){R:V->V->Hp->Prop}(I:MN c)
  (h:l σ H λ x j=>k σ j λ y d=>R x y d)  {f:Mo->Mo->Sem Mo}
  (p:∀v u s2 x y d,Inv X c σ d s2->RelV x v->RelV y u->R x y d->wpAny MI X.A (f v u) Q X.xe s2) :
  wpAny MI X.A (eval a X.env) (λ v i=>wpAny MI X.A (eval b X.env) (λ u g=>wpAny MI X.A (f v u) Q X.xe g) X.xe i) X.xe s:=by
 refine thn (r c s σ H _ I h) λ v s1 t0=>?_;obtain⟨x,j,z,r1,o⟩:=t0;refine thn (q c s1 σ j _ z o) λ u s2 t0=>?_;obtain⟨y,d,w,m,n⟩:=t0;exact p v u s2 x y d w r1 m n
def zR(k:OpR X (binaryOp op) r)(m:PE X a f)(l:PE X b d):PE X (.BinOp a op b pos) (tOp r f d):=by
 intro c s g H Q I h;exact wpAny_BinOp (binT m l I h λ v u s2 x y o n j i q=>k c s2 g o x y v u Q n j i q)
def zS(g:UnR X (unaryOp op) r)(i:PE X a d):PE X (.UnaryOp op a pos) (tUn r d):=by
 intro b s c H Q I h;exact UnaryOp_ (thn (i b s c H _ I h) λ v s1 ⟨x,k,j,r1,f⟩=>g b s1 c k x v Q j r1 f)
def opI{g:Int->Int->Int}
  (a:∀(i j:Int) (t u:Tok) (s:Mp) (Q:Mo->Mp->Prop) (E:Mo->Mp->Prop),C i j->Q (.int (g i j) s.toks) {s with toks:=s.toks+1} -> wpAny MI X.A (f (.int i t) (.int j u)) Q E s) :
  OpR X f (rI C λ i j=>.int (g i j)):=by
 intro b s σ H x y v u Q I k d h;obtain⟨i,j,rfl,rfl,l,q⟩:=h;obtain⟨t,rfl⟩:=k;obtain⟨c,rfl⟩:=d;exact a i j t c s _ _ l ⟨.int _,H,I.tok _,Nb,q⟩
def opI0{g:Int->Int->Int}
  (a:∀(i j:Int) (t u:Tok) (s:Mp) (Q:Mo->Mp->Prop) (E:Mo->Mp->Prop),Q (.int (g i j) s.toks) {s with toks:=s.toks+1} -> wpAny MI X.A (f (.int i t) (.int j u)) Q E s) :
  OpR X f (rI0 λ i j=>.int (g i j)):=by
 intro b s σ H x y v u Q I k d h;obtain⟨i,j,rfl,rfl,q⟩:=h;obtain⟨t,rfl⟩:=k;obtain⟨c,rfl⟩:=d;exact a i j t c s _ _ ⟨.int _,H,I.tok _,Nb,q⟩
def opB0{g:Int->Int->Bool}
  (a:∀(i j:Int) (t u:Tok) (s:Mp) (Q:Mo->Mp->Prop) (E:Mo->Mp->Prop),Q (.bool (g i j)) s->wpAny MI X.A (f (.int i t) (.int j u)) Q E s) :
  OpR X f (rI0 λ i j=>.bl (g i j)):=by
 intro b s σ H x y v u Q I k d h;obtain⟨i,j,rfl,rfl,q⟩:=h;obtain⟨t,rfl⟩:=k;obtain⟨c,rfl⟩:=d;exact a i j t c s _ _ ⟨.bl _,H,I,rfl,q⟩
def CPow(i j:Int):Prop:=0<=j/\j<=1000000/\i.natAbs<2^64
def CMul(i j:Int):Prop:=(-(2^64)<i/\i<2^64)\/(-(2^64)<j/\j<2^64)
def CMul.ok(h:CMul i j):IntMulOk i j:=by
 rcases h with⟨h1,h2⟩ | ⟨h1,h2⟩
 ·exact .of_left (intBits_le_64 h1 h2)
 ·exact .of_right (intBits_le_64 h1 h2)
def zT(k:Nat):(0:Int)<=2^k:=by
 rw[two_pow_cast];exact x0 _
def zU:OpR X (binaryOp .Add) (rI0 λ i j=>.int (i+j)):=opI0 λ _ _ _ _ _ _ _ q=>add_int q
def zV:OpR X (binaryOp .Sub) (rI0 λ i j=>.int (i - j)):=opI0 λ _ _ _ _ _ _ _ q=>sub_int q
def zW:OpR X (binaryOp .Mod) (rI (λ _ j=>0<j) λ i j=>.int (i%j)):=opI λ i j _ _ _ _ _ a q=>by
 have h1:=a;exact mod_int' KE (by rw[Int.fmod_eq_emod_of_nonneg i KE];exact q)
def zX:OpR X (binaryOp .LShift) (rI CPow λ i j=>.int (i*2^j.toNat)):=opI λ _ _ _ _ _ _ _ a q=>lshift_int_small a.1 a.2.1 a.2.2 q
def zY:OpR X (binaryOp .RShift) (rI (λ _ j=>0<=j) λ i j=>.int (i/2^j.toNat)):=opI λ i j _ _ _ _ _ a q=>
 rshift_int a (by rw[oT i (zT _)];exact q)
def Aa:OpR X (binaryOp .BitAnd) (rI0 λ i j=>.int (Builtin.bitAnd i j)):=opI0 λ _ _ _ _ _ _ _ q=>and_int q
def Ab:OpR X (binaryOp .BitOr) (rI0 λ i j=>.int (Builtin.bitOr i j)):=opI0 λ _ _ _ _ _ _ _ q=>or_int q
def Ac:OpR X (binaryOp .BitXor) (rI0 λ i j=>.int (Builtin.bitXor i j)):=opI0 λ _ _ _ _ _ _ _ q=>xor_int q
def unI{g:Int->Int}
  (a:∀(i:Int) (t:Tok) (s:Mp) (Q:Mo->Mp->Prop) (E:Mo->Mp->Prop),Q (.int (g i) s.toks) {s with toks:=s.toks+1} -> wpAny MI X.A (f (.int i t)) Q E s) :
  UnR X f (rU λ i=>.int (g i)):=by
 intro b s σ H x v Q I c h;obtain⟨i,rfl,q⟩:=h;obtain⟨t,rfl⟩:=c;exact a i t s _ _ ⟨.int (g i),H,I.tok _,Nb,q⟩
def Ad:UnR X (unaryOp .USub) (rU λ i=>.int (-i)):=unI λ _ _ _ _ _ q=>neg_int q
section
variable {X:Cx} {a b c:Ms} {ta tb tc:TE} {pos:Pos}
def pZ{a:on (Mq×Obj)}{b:Bool}(I:MN a)(q:Q (.bl k) H)(e:k=b):EP X a σ Q (.bool b) s:=by
 subst e;exact⟨.bl k,H,I,rfl,q⟩
def Ae:OpR X (compareOp .Lt) (rI0 λ i j=>.bl (decide (i<j))):=opB0 λ _ _ _ _ _ _ _ q=>lt_int q
def Af:OpR X (compareOp .LtE) (rI0 λ i j=>.bl (decide (i<=j))):=opB0 λ _ _ _ _ _ _ _ q=>le_int q
def Ag:OpR X (compareOp .Gt) (rI0 λ i j=>.bl (decide (j<i))):=opB0 λ _ _ _ _ _ _ _ q=>gt_int q
def Ah:OpR X (compareOp .GtE) (rI0 λ i j=>.bl (decide (j<=i))):=opB0 λ _ _ _ _ _ _ _ q=>ge_int q
def Ai:OpR X (compareOp .Is) (λ x y H Q=>y=.non/\Q (.bl (decide (x=.non))) H):=by
 intro b s σ H x y v u Q I a c h;obtain⟨rfl,q⟩:=h;cases c;refine is_none_gen (pZ I q ?_);cases x<;>first
  | (cases a;rfl)
  | (obtain⟨t,rfl⟩:=a;rfl)
def Aj:OpR X (compareOp .IsNot) (λ x y H Q=>y=.non/\Q (.bl (!decide (x=.non))) H):=by
 intro b s σ H x y v u Q I a c h;obtain⟨rfl,q⟩:=h;cases c;refine isnot_none_gen (pZ I q ?_);cases x<;>first
  | (cases a;rfl)
  | (obtain⟨t,rfl⟩:=a;rfl)
def OpR.or(h:OpR X f r)(i:OpR X f g):OpR X f (λ x y H Q=>r x y H Q\/g x y H Q):=by
 intro a s b H x y v u Q I d c q;rcases q with q | q
 ·exact h a s b H x y v u Q I d c q
 ·exact i a s b H x y v u Q I d c q
def qa(i:OpR X (compareOp op) r)(l:PE X a ta)(k:PE X b tb)(j:behindInMarks op b=false):PE X (.Compare a [op] [b] pos) (tOp r ta tb):=by
 intro c s d H Q I h;exact wpAny_Compare1 (binT l k I h λ v u s2 x y n m g f q=>i c s2 d n x y v u Q m g f q) j
noncomputable def qb(t:TE):TT:=λ σ H Q=>t σ H λ x H'=>∃k,x=.bl k/\Q k H'
def qc(n:OpR X (compareOp op) r)(q:PE X a ta)(p:PE X b tb)(o:behindInMarks op b=false):PT X (.Compare a [op] [b] pos) (qb (tOp r ta tb)):=by
 intro d s f H Q I h;refine wpAny_isTrue_Compare1 (thn (q d s f H _ I h) λ v s1 ⟨x,F,B,r1,m⟩=>thn (p d s1 f F _ B m) λ u s2 ⟨y,E,A,i,l⟩=>
  thn (n d s2 f E x y v u _ A r1 i l) λ c s3 ⟨z,C,w,g,k,e,j⟩=>?_) o
 subst e;cases g;exact ce ⟨C,w,j⟩
noncomputable def kx(r r':R2)(ta tb tc:TE):TE:=λ σ H Q=>ta σ H λ x H1=>tb σ H1 λ y H2=>r x y H2 λ z H3=>∃k,z=.bl k /\
 (if k=true then tc σ H3 λ w' H4=>r' y w' H4 Q else Q (.bl false) H3)
def Ak(L:OpR X (compareOp op) r)(j:OpR X (compareOp g) m)(P:PE X a ta)(O:PE X b tb)(N:PE X c tc)
  (M:lastMarks [op,g] [b,c]=false:=by with_unfolding_all rfl):PE X (.Compare a [op,g] [b,c] pos) (kx r m ta tb tc):=by
 intro f s i H Q I h;refine Compare_chain (thn (P f s i H _ I h) λ v s1 ⟨x,Z,U,r1,K⟩=>chain_link (thn (O f s1 i Z _ U K) λ u s2 ⟨y,Y,S,l,J⟩=>
  thn (L f s2 i Y x y v u _ S r1 l J) λ d B ⟨z,p,o,E,k,e,n⟩=>?_)) M
 subst e;cases E;refine ce ?_;cases k with
 | false=>exact ite_ff ⟨.bl false,p,o,rfl,n⟩
 | true=>exact ite_tt (chain_last (thn (N f B i p _ o n) λ w A ⟨q,W,R,C,F⟩=>j f A i W y q u w Q R l C F))
def Al(O:OpR X (compareOp op) r)(j:OpR X (compareOp g) m)(U:PE X a ta)(S:PE X b tb)(R:PE X c tc)
  (P:lastMarks [op,g] [b,c]=false:=by with_unfolding_all rfl):PT X (.Compare a [op,g] [b,c] pos) (qb (kx r m ta tb tc)):=by
 intro f s i H Q I h;refine isTrue_chain (thn (U f s i H _ I h) λ v s1 ⟨x,H1,I1,r1,M⟩=>test_link (thn (S f s1 i H1 _ I1 M) λ u s2 ⟨y,H2,I2,l,L⟩=>
  thn (O f s2 i H2 x y v u _ I2 r1 l L) λ d B ⟨z,p,o,F,k,e,n⟩=>?_)) P
 subst e;cases F;refine ce ?_;cases k with
 | false=>
  obtain⟨k',Y,N⟩:=n;cases Y;exact ite_ff ⟨p,o,N⟩
 | true=>
  refine ite_tt (test_last (thn (R f B i p _ o n) λ w A ⟨q,H4,I4,E,K⟩=>thn (j f A i H4 y q u w _ I4 l E K) λ d' s5 t0=>?_));obtain⟨z2,H5,Z,C,k2,W,J⟩:=t0;subst W;cases C;exact ce ⟨H5,Z,J⟩
def TruV(K:MA)(x:V)(H:Hp)(k:Bool):Prop:=
 match x with
 | .non=>k=false
 | .bl b=>k=b
 | .int i=>k=(i != 0)
 | .str y=>y.length<=sizeLine/\k=((y.length:Int) != 0)
 | .byt y=>y.size<=sizeLine/\k=((y.size:Int) != 0)
 | .ref p=>(∃xs,SqL K H p xs/\k = !xs.isEmpty)\/(∃xs,SqT K H p xs/\k = !xs.isEmpty)\/∃kvs,H p=some (.dK kvs)/\k = !kvs.isEmpty
 | _=>False
def Am{b:Type}{a:on (b×V)}{vs:on (b×Mo)}(r:KV a vs):(!vs.isEmpty) = !a.isEmpty:=by
 cases r<;>rfl
def qd{b:on V}{a:on Mo}(r:Vals b a):(!a.toArray.isEmpty) = !b.isEmpty:=by
 cases r<;>simp
def aO:(sizeLine:Nat)<2^63:=by rw[F7];decide
def fJ:TruR X (λ x H Q=>∃k,TruV X.K x H k/\Q k H):=by
 intro A s σ H x v Q I j h;obtain⟨k,e,q⟩:=h;have hl:=aO;have hs:=F7;cases x with
 | non=>
  cases j;have c:=e;subst c;exact truthy_none ⟨H,I,q⟩
 | bl b=>
  cases j;have c:=e;subst c;exact ce ⟨H,I,q⟩
 | int i=>
  obtain⟨t,rfl⟩:=j;have c:=e;subst c;exact PySem.P.truthy_int ⟨H,I,q⟩
 | str y=>
  obtain⟨t,rfl⟩:=j;obtain⟨E,c⟩:y.length<=sizeLine/\k=_:=e;subst c;exact PySem.P.truthy_str KE ⟨H,I.tok _,q⟩
 | byt y=>
  obtain⟨t,rfl⟩:=j;obtain⟨E,c⟩:y.size<=sizeLine/\k=_:=e;subst c;exact PySem.W.truthy_bytes KE ⟨H,I.tok _,q⟩
 | ref p=>
  cases j;have c:=e;rcases c with⟨C,n,c⟩ | ⟨C,n,c⟩ | ⟨l,n,c⟩
  ·subst c;obtain⟨z,r,w,B⟩:=I.list n;have g:=r.length;exact wpAny_truthy_list w.isList (by simp only[t7];omega) ⟨H,I.tok _,by rw[qd r];exact q⟩
  ·subst c;obtain⟨z,r,w,B⟩:=I.tuple n;have g:=r.length;exact truthy_tuple w (by simp only[t7];omega) ⟨H,I.tok _,by rw[qd r];exact q⟩
  ·subst c;obtain⟨B,F,u,r,m⟩:l.length<=sizeLine/\_=false/\∃u,KV l u/\s.heap.DictOf _ p u:=I.hok p _ n;have g:=fv r;exact wpAny_truthy_dict F m KE ⟨H,I.tok _,by rw[Am r];exact q⟩
 | _=>exact(e).elim
def An(j:PE X a ta)(i:∀b,isTrue a X.env b=(do let v ←b;standAt a.pos;holding [v] (truthy v))) :
  PT X a (λ d H Q=>ta d H λ x f=>∃k,TruV X.K x f k/\Q k f):=by
 intro c s d H Q I h;exact isTrue_plain (thn (j c s d H _ I h) λ v s1 ⟨x,m,l,r1,g⟩=>fJ c s1 d m x v Q l r1 g) (i _)
def H9{a:on Mo}(r:Vals [x] a):∃u,a=[u]/\RelV x u:=by
 cases r with
 | cons r1 b=>cases b;exact⟨_,rfl,r1⟩
def ky{b:on Mo}(r:Vals [x,y] b):∃u a,b=[u,a]/\RelV x u/\RelV y a:=by
 cases r with
 | cons r1 f=>
  cases f with
  | cons d c=>cases c;exact⟨_,_,rfl,r1,d⟩
def Ao(d:NN):u6 X (.builtin "max") (λ b H Q=>∃i j,b=[.int i,.int j]/\Q (MY (if j>i then j else i)) H):=by
 intro c s σ H b us Q I r h;obtain⟨i,j,rfl,q⟩:=h;obtain⟨u,w',rfl,⟨t,rfl⟩,⟨t',rfl⟩⟩:=ky r;refine max_two_ints (I.ok.hd d) λ h' tk k=>⟨_,H,I.kept k,?_,q⟩
 by_cases a:j>i
 ·rw[d6 a,d6 a];exact Nb
 ·rw[e7 a,e7 a];exact Nb
def Ap(d:NN):u6 X (.builtin "min") (λ b H Q=>∃i j,b=[.int i,.int j]/\Q (MY (if j<i then j else i)) H):=by
 intro c s σ H b us Q I r h;obtain⟨i,j,rfl,q⟩:=h;obtain⟨u,w',rfl,⟨t,rfl⟩,⟨t',rfl⟩⟩:=ky r;refine min_two_ints (I.ok.hd d) λ h' tk k=>⟨_,H,I.kept k,?_,q⟩
 by_cases a:j<i
 ·rw[d6 a,d6 a];exact Nb
 ·rw[e7 a,e7 a];exact Nb
end
end L2
namespace L2
open PySem PySem.Spec PyProof.Rows
structure ObjM(h:Heap)(x dx C:Addr)(mA:Str->Option Value):Prop where
 obj:h.get? x=some (PySem.W.instObj C dx)
 ns:h.Ns1 dx mA
 ne:dx≠x
def RelO.some_of(r:RelO (some v) o):∃u,o=some u/\RelV v u:=by
 cases o with
 | none=>exact(r).elim
 | some u=>exact⟨u,rfl,r⟩
structure Cls(K:PySem.W.Frag)(C:Addr):Prop where
 pg:PySem.W.plainGet K C Str.empty=true
 hd:PySem.W.hasDictIn K C=true
 po:PySem.W.plainOver K C=true
 sa:PySem.W.findIn K (.ref C) "__setattr__" = some (some (.builtin "object.__setattr__"))
section
variable {X:Cx} {pins:on (Mq×Obj)} {σ:St} {H:Hp} {s:Mp} {A:My} {E:Mo->Mp->Prop} {Q:Mo->Mp->Prop} {c:Mo} {b:Bool}
inductive TyOf (K:PySem.W.Frag) (H:Hp):V->Value->Prop where
 | non:TyOf K H .non (.type "NoneType")
 | bl (x:Bool):TyOf K H (.bl x) (.type "bool")
 | int (i:Int):TyOf K H (.int i) (.type "int")
 | str (x:Str):TyOf K H (.str x) (.type "str")
 | flt (x:UInt64):TyOf K H (.flt x) (.type "float")
 | lst {a:Addr} {xs:List V} (e:H a=some (.lst xs)):TyOf K H (.ref a) (.type "list")
 | frz {a:Addr} {o:Obj} {xs:List V} (e:H a=some (.frz o (.lst xs))):TyOf K H (.ref a) (.type "list")
 | tup {a:Addr} {xs:List V} (e:H a=some (.tup xs)):TyOf K H (.ref a) (.type "tuple")
 | dK {a:Addr} {kvs:List (Key×V)} (e:H a=some (.dK kvs)):TyOf K H (.ref a) (.type "dict")
 | dT {a:Addr} {kvs:List (List Key×V)} (e:H a=some (.dT kvs)):TyOf K H (.ref a) (.type "dict")
 | ins {a C dx:Addr} {fs:List (Str×V)} (e:H a=some (.ins C dx fs)) (cl:Cls K C) (ha:PySem.W.findIn K (.ref C) "__class__" = some (some (.builtin "object.__class__")))
   (hn:PySem.W.specialIn K (.builtin "object.__class__") "__get__" = some (some (.builtin "getset_descriptor.__get__"))) (htk:PySem.W.takesIn K (.builtin "object.__class__")=some true)
   (hm:PySem.W.mroIn K C (.type "object")=some true):TyOf K H (.ref a) (.ref C)
end
end L2
namespace L2
open PySem PySem.Spec PyProof.Rows
structure Room(k:Nat)(A:Around):Prop where
 hd:A.handled=none
 dp:A.depth+3*k+5<recursionLimit
 un:A.units+16*k+200<cLine
theorem Room.deeper(r:Room (k+1) A)(env:Env):Room k (A.deeper env):=
 ⟨r.hd,by have:=r.dp;show A.depth+1+3*k+5<_;omega,by have:=r.un;show A.units+3+16*k+200<_;omega⟩
theorem Room.depth(r:Room k A):A.depth<recursionLimit:=by have:=r.dp;omega
theorem Room.units(r:Room k A):A.units+64<cLine:=by have:=r.un;omega
def tNil:TA:=λ _ H Q=>Q [] H
noncomputable def aP(ta:TE)(tr:TA):TA:=λ σ H Q=>ta σ H λ x H1=>tr σ H1 λ xs H2=>Q (x::xs) H2
section
variable {X:Cx} {e:Ms} {es:on Ms} {te:TE} {t:TA} {pos:Pos}
def O4:PA X [] tNil:=λ _ _ _ _ H Q I h=>jk ⟨[],H,I,.nil,h⟩
def F9(k:PE X e te)(j:PA X es t)(hs:starEach (e::es) X.env=(false,eval e X.env)::starEach es X.env:=by rfl):PA X (e::es) (aP te t):=by
 intro b a s c H Q I h;rw[hs];show wpAny _ _ _ _ _ s;refine je (thn (k a s c H _ I h) λ u s1 t0=>?_);obtain⟨x,o,m,r1,i⟩:=t0;exact thn (j b a s1 c o _ m i) λ us s2 ⟨d,n,l,f,g⟩=>⟨x::d,n,l,.cons r1 f,g⟩
def tTup(t:TA):TE:=λ σ H Q=>t σ H λ xs H1=>xs.length<=sizeLine/\∀p,H1 p=none->Q (.ref p) (upd H1 p (.tup xs))
def tLst(t:TA):TE:=λ σ H Q=>t σ H λ xs H1=>xs.length<=sizeLine/\∀p,H1 p=none->Q (.ref p) (upd H1 p (MZ xs))
def qe(h:PA X es t):PE X (.Tuple es x1 pos) (tTup t):=by
 intro a s d H Q I g;refine wpAny_Tuple_spliced (thn (h pos a s d H _ I g) λ f s1 ⟨xs,i,c,r,z,q⟩=>⟨by rw[←r.length];exact z,?_⟩);refine⟨.ref s1.heap.objs.size,upd i s1.heap.objs.size _,c.laid (λ b u e=>i5 _ e) (f6 _) ?_,rfl,q _ (c.hok.fresh (f6 _))⟩;exact⟨z,f,r,⟨_,m7 _ rfl,⟨rfl,rfl⟩,_,rfl⟩⟩
def Aq(h:PA X es t):PE X (.List es pos) (tLst t):=by
 intro a s d H Q I g;refine wpAny_List_spliced (thn (h pos a s d H _ I g) λ f s1 ⟨xs,i,c,r,z,q⟩=>⟨by rw[←r.length];exact z,?_⟩);refine⟨.ref s1.heap.objs.size,upd i s1.heap.objs.size _,c.laid (λ b u e=>i5 _ e) (f6 _) ?_,rfl,q _ (c.hok.fresh (f6 _))⟩;exact⟨z,f,0,r,m7 _ rfl⟩
end
abbrev Sp:=on V->Hp->VK->XK->Prop
abbrev CXT:=on Env->Hp->Mp->XK->Mo->Mp->Prop
structure Env0(P:Program)(w:World)(K:PySem.W.Frag)(mg:Str->Option Value)(base:Heap)(A:Around)(outer:List Env)(s:Shared)(H:Hp):Prop where
 frames:A.frames=some outer
 mod:Mod K mg base
 bs:∀b o,base.get? b=some o->s.heap.get? b=some o/\H b=none
 bsz:base.objs.size<=s.heap.objs.size
 funs:s.heap.FunFrames base outer
 frf:(∀b∈frs outer,H b=none)/\cJ K H
 hok:HOk P w H s.heap
 bare:AllBare s.gens
def CE(outer:on Env)(P:Mw)(w:Mv)(H:Hp)(s:Mp)(Q:VK)(u:Mo)(s':Mp):Prop:=
 ∃v H',s'.os=s.os/\AllBare s'.gens/\Un (frs outer) [] H H' s.heap s'.heap/\HOk P w H' s'.heap/\RelV v u/\Q v H'
def CR(CX:CXT)(outer:on Env)(P:Mw)(w:Mv)(H:Hp)(s:Mp)(Q:VK)(E:XK)(r:Result)(s':Mp):Prop:=
 match r with
 | .ok (.ret u)=>CE outer P w H s Q u s'
 | .ok _=>False
 | .error e=>CX outer H s E e s'
structure FnOk(P:Program)(w:World)(K:PySem.W.Frag)(mg:Str->Option Value)(base:Heap)(CX:CXT)(k:Nat)(f:Addr)(fd:FuncData)(ps:List Str)(sp:Sp):Prop where
 len:∀vs H Q E,sp vs H Q E->vs.length=ps.length
 run:∀(A:Around) (outer:List Env) (s:Shared) (H:Hp) (args:Args) (us:List Value) (vs:List V) (Q:VK) (E:XK),Room k A->Env0 P w K mg base A outer s H->BindsTo s fd args (ps.zip us)->Vals vs us->sp vs H Q E ->
  codeAny NY A (.call (.ref f) args) (CR CX outer P w H s Q E) s
def Inv.env0(I:MN a):Env0 X.prog X.w X.K X.mg X.base X.A X.stack s H:=
 ⟨I.ok.frames,I.ok.mod,I.bs,e9 I.ok.bsz I.sz,I.stack,⟨I.stkFree,I.tabs⟩,I.hok,I.bare⟩
def Inv.after(I:MN a)(h:CE X.stack X.prog X.w H s Q u f):EP X a σ Q u f:=by
 obtain⟨v,l,k,c,un,j,r,q⟩:=h;obtain⟨hh,g,d,t,i⟩:=f;obtain rfl:i=s.os:=k;exact⟨v,l,I.call un j c (λ b z=>absurd z MP),r,q⟩
noncomputable def kC(sp:Sp)(dvs:on V)(E:XK)(t:TA):TE:=λ σ H Q=>t σ H λ vs H1=>sp (vs++dvs) H1 Q E
def K1(K:MA)(fd:FuncData)(ps:on Str)(ds:on Mo):Prop:=
 ∀(s:Mp) (us:on Mo),K.In s.heap->(us++ds).length=ps.length->BindsTo s fd ⟨us,[]⟩ (ps.zip (us++ds))
def K1.all{K:MA}(h:∀a:on Mo,a.length=ps.length->bindArgs fd ⟨a,[]⟩=pure (ps.zip a)):K1 K fd ps []:=λ s a _ b=>by
 rw[x4]at b ⊢;exact .of_eq (h a b)
def kF(CX:CXT)(X:Cx)(E:XK):Prop:=∀(pins:NB) (σ:St) (H:Hp) (s:Mp) (e:Mo) (s':Mp),Inv X pins σ H s->CX X.stack H s E e s'->X.xe e s'
def qf(F:FnOk X.prog X.w X.K X.mg X.base j k f fd ps g)(n:Room k X.A)(p:K1 X.K fd ps ds)(hd:Vals d ds)(m:kF j X E)
  (I:MN a) (r:Vals vs b) (h:g (vs++d) H Q E):wpAny MI X.A (call (.ref f) b) (EP X a σ Q) X.xe s:=by
 have i:=r.append hd;have o:(b++ds).length=ps.length:=by rw[←i.length];exact F.len _ _ _ _ h
 refine cH (O0 (F.run X.A X.stack s H ⟨b,[]⟩ _ _ Q E n I.env0 (p s b I.kIn o) i h) λ r l c=>?_);cases r with
 | error e=>exact m a σ H s e l I c
 | ok q=>
  cases q with
  | ret u=>exact I.after c
  | next=>exact False.elim c
  | brk=>exact False.elim c
  | cont=>exact False.elim c
def Ar(F:FnOk X.prog X.w X.K X.mg X.base j k f fd ps g)(n:Room k X.A)(v:Gl X x)(o:X.mg x=some (.ref f))(u:PySem.W.keepIn X.K (.ref f)=true)(y:K1 X.K fd ps ds)(hd:Vals b ds)(m:kF j X E)
  (z:PA X (e::es) t) (d:Np=false:=by decide) (w:starEach (e::es) X.env=(false,eval e X.env)::starEach es X.env:=by rfl) (c:(backTo pos (starEach es X.env)).any (·.1)=false:=by rfl) :
  PE X Ny (kC g b E t):=by
 intro a s l H Q I h;refine X5 (ki I v o ?_ d);refine jf I.ok.mod.kin u (thn (z pos a s l H _ I h) λ us s1 ⟨vs,H1,i,r,q⟩=>⟨i.kIn,?_⟩) w c;exact qf F n y hd m i r q
def PK(X:Cx)(kws:on Keyword)(t:TA):Prop:=
 ∀(pos:Pos) (pins:NB) (s:Mp) (σ:St) (H:Hp) (Q:on V->Hp->Prop),Inv X pins σ H s->t σ H Q->wpAny MI X.A (evalAll ((backToKw pos (keywordEach kws X.env)).map (·.2))) (AP X pins σ Q) X.xe s
def As:PK X [] tNil:=λ _ _ _ _ H Q I h=>wpAny_evalAll_nil ⟨[],H,I,.nil,h⟩
def At(m:PE X e f)(l:PK X b t):PK X (⟨nm,e,kpos⟩::b) (aP f t):=by
 intro c a s d H Q I h;show wpAny _ _ _ _ _ s;refine wpAny_evalAll_cons (d4 (thn (m a s d H _ I h) λ u s1 ⟨x,q,o,r1,k⟩=>d4 (cr (e8 ?_))));exact thn (l c a s1 d q _ o k) λ us s2 ⟨g,p,n,i,j⟩=>⟨x::g,p,n,.cons r1 i,j⟩
structure FnScope(N P:List Str)(sc:Scope):Prop where
 kind:sc.kind=.function
 co:sc.isCoroutine=false
 gen:sc.isGenerator=false
 nd:N.Nodup
 pre:N.take P.length=P
 par:∀x∈P,sc.names.lookup x=some .local\/sc.names.lookup x=some .cell
 nofree:∀y∈sc.names,y.2 ≠ .free
theorem qg:∀{a:on (Str×Mo)} {m:Str->Mn Mo},(∀v,(x,v)∉a)->bindL b a m x=m x
 | [],_,_=>rfl
 | (n,v)::r,m,h=>by
  unfold bindL;rw[qg λ w c=>h w (j5 _ c)];split
  ·have:x≠n:=by rintro rfl;exact h v i9
   simp[this]
  ·rfl
theorem qh:∀{a:on (Str×Mo)} {m:Str->Mn Mo},(∀v,(x,v)∉a)->bindC b a m x=m x
 | [],_,_=>rfl
 | (n,v)::r,m,h=>by
  unfold bindC;rw[qh λ w c=>h w (j5 _ c)];split
  ·rfl
  ·have:x≠n:=by rintro rfl;exact h v i9
   simp[this]
theorem qi:∀{P:on Str} {b:on Mo} {i:Nat} {m:Str->Mn Mo},P.Nodup->P[i]? = some x->b[i]? = some v->a x=some .local ->
  bindL a (P.zip b) m x=some v
 | [],_,_,_,_,h,_,_=>by simp at h
 | _::_,[],_,_,_,_,h,_=>by simp at h
 | p::P,w::b,0,m,c,h1,h2,d=>by simp at h1 h2;subst h1;subst h2;show bindL a ((p,w)::P.zip b) m p=_;unfold bindL;rw[qg λ v hv=>(N7.mp c).1 (eX hv).1,d6 d];simp
 | p::P,w::b,i+1,m,c,h1,h2,d=>by show bindL a _ m x=_;unfold bindL;exact qi (N7.mp c).2 (Nm h1) (Nm h2) d
theorem qj:∀{P:on Str} {b:on Mo} {i:Nat} {m:Str->Mn Mo},P.Nodup->P[i]? = some x->b[i]? = some v->a x≠some .local ->
  bindC a (P.zip b) m x=some v
 | [],_,_,_,_,h,_,_=>by simp at h
 | _::_,[],_,_,_,_,h,_=>by simp at h
 | p::P,w::b,0,m,c,h1,h2,d=>by simp at h1 h2;subst h1;subst h2;show bindC a ((p,w)::P.zip b) m p=_;unfold bindC;rw[qh λ v hv=>(N7.mp c).1 (eX hv).1,e7 d];simp
 | p::P,w::b,i+1,m,c,h1,h2,d=>by show bindC a _ m x=_;unfold bindC;exact qj (N7.mp c).2 (Nm h1) (Nm h2) d
noncomputable def start(N:on Str)(vs:on V):St:=vs.map some++List.replicate (N.length - vs.length) none
noncomputable def cxOf(CX:CXT)(P:Mw)(w:Mv)(K:MA)(mg:Str->Mn Mo)(base:Mr)(N:on Str)(qual:Str)(scope:MB)(f:Mq)(cd:Mo)(A:My)(outer:on Env)(s:Mp)(H:Hp)(E:XK):Cx where
 prog:=P
 w:=w
 K:=K
 mg:=mg
 base:=base
 A:=A.deeper (envOfC qual scope s.heap.objs.size f cd)
 N:=N
 s₀:=s
 H₀:=H
 env:=envOfC qual scope s.heap.objs.size f cd
 outer:=outer
 stack:=envOfC qual scope s.heap.objs.size f cd::outer
 ex:=[]
 calm:=true
 fn:=λ _=>true
 pn:=[]
 xe:=λ e s'=>wpAny NY (A.deeper (envOfC qual scope s.heap.objs.size f cd)) (leaving (envOfC qual scope s.heap.objs.size f cd) e) (λ _ s''=>CX outer H s E e s'') (λ e' s''=>CX outer H s E e' s'') s'
def ql{sc:MB}(h:sc.names.lookup x=some .cell):∃c,(cellsFrom n sc.names []).lookup x=some c:=by
 exact W8.mp (eM sc.names n [] (.inl h))
def Au{K:MA}
  (S:FnScope N ps scope) (hd:NT) (l:Env0 P w K mg j A d s H) (hl:vs.length=ps.length) (r:Vals vs F)
  (x:InCallC s s.heap.objs.size (bindL (envOfC g scope s.heap.objs.size f cd).kindOf (ps.zip F) λ _=>none) (cellsFrom (s.heap.objs.size+1) scope.names []) (bindC (envOfC g scope s.heap.objs.size f cd).kindOf (ps.zip F) λ _=>none) s1) :
  Inv (cxOf L P w K mg j N g scope f cd A d s H E) [] (start N vs) H s1:=by
 have O:ps.length<=N.length:=by have:=congrArg List.length S.pre;rw[U2]at this;omega
 obtain⟨h1,tk,rfl,J⟩:=x.done;have m:∀b:Mq,b∉(cxOf L P w K mg j N g scope f cd A d s H E).ex:=λ b z=>absurd (show b∈([]:on Mq)from z) MP
 refine⟨⟨l.mod,S.kind,rfl,rfl,f6 _,λ y z c h1 h2=>?_,λ y n=>?_,λ y c _ h=>?_,λ _=>hd,Around.frames_deeper l.frames,.inr ⟨rfl,rfl⟩,λ b z=>absurd z (m b),l.bs,l.bsz,λ b _ _=>m b,λ b z=>absurd z (m b),l.funs,l.frf⟩,
  rfl,l.bare,Un.kept J,⟨_,x.toInCall.ns,λ i y v h1 h2 h3=>?_⟩,λ y c h=>⟨_,x.cell y c h⟩,l.hok.fresh (f6 _),λ y c h=>?_,λ p B=>absurd (show p∈([]:on _)from B) MP,l.hok.kept J,?_⟩
 ·exact name_of_addr x.apart (A9 h1) (A9 h2)
 ·have n:=n;rcases n with n | n
  ·exact ql n
  ·exact absurd rfl (S.nofree _ (A9 n))
 ·exact Q8 (x.above y c (A9 h))
 ·have C:i<vs.length:=by
   unfold start at h2;by_cases C:i<vs.length
   ·exact C
   ·rw[P7 (Nm C)]at h2;rw[eJ]at h2;split at h2<;>cases h2
  have Q:vs[i]? = some v:=by
   unfold start at h2;rw[P8 (Nm C),n7]at h2;cases e:vs[i]? with
   | none=>rw[e]at h2;cases h2
   | some a=>rw[e]at h2;cases h2;rfl
  obtain⟨u,I,M⟩:=r.get Q;have B:ps[i]? = some y:=(by rw[←S.pre,oY KE];exact h1);have o:ps.Nodup:=by rw[←S.pre];exact S.nd.sublist (jl _ _)
  refine⟨u,M,?_⟩;rcases S.par y (P9 B)with k | k
  ·exact .inl ⟨k,qi o B I k⟩
  ·obtain⟨c,e⟩:=ql k;refine .inr ⟨.inl k,c,e,?_⟩;have q:=x.cell y c e;rw[qj o B I (by show scope.names.lookup y≠_;rw[k];decide)]at q;exact q
 ·exact l.hok.fresh (Q8 (x.above y c (A9 h)))
 ·unfold start;show _=N.length;rw[p7,d9,iW];omega
def Av{K:MA}{kV Y:Mo}
       (lk:K.lookup f=some ⟨oc,od,.func (PySem.W.fnOf j c d body scope dV kV I pm an g Y),R⟩) (W:PySem.W.codeIn K g c=true) (S:FnScope N ps scope)
    (z:∀vs H Q E,L vs H Q E->vs.length=ps.length)
    (p:∀(A:My) (a:on Env) (s:Mp) (H:Hp) (vs:on V) (Q:VK) (E:XK),Room k (A.deeper (envOfC c scope s.heap.objs.size f g))->L vs H Q E ->
      ∃t,PSs (cxOf X P w K mg h N c scope f g A a s H E) body t/\t {nx:=λ _ l=>Q .non l,rt:=Q} (start N vs) H) :
    FnOk P w K mg h X (k+1) f (PySem.W.fnOf j c d body scope dV kV I pm an g Y) ps L:=by
  refine⟨z,λ A a s H Z us vs Q E U F hb r B=>?_⟩;have hl:=z _ _ _ _ B;have KX:=F.mod.kin.keeps λ b o e=>(F.bs b o e).1;have m:∀y∈ps.zip us,scope.names.lookup y.1=some .local\/(scope.names.lookup y.1=some .cell/\((cellsFrom (s.heap.objs.size+1) scope.names []).lookup y.1).isSome=true):=λ ⟨n,v⟩ hy=>by
    rcases S.par n (eX hy).1 with q | q
    · exact .inl q
    · exact .inr ⟨q,eM _ _ _ (.inl q)⟩
  refine codeAny_call_function U.depth (KX _ _ lk) rfl S.co S.gen rfl (PySem.W.codeRec_of KX W) (hb _ _ _ _ ?_)
  refine wpAny_newFunctionEnv_cells S.kind m λ env he s1 x=>?_;subst he;refine⟨(F.mod.nolimit.keeps λ b o e=>(F.bs b o e).1).keeps x.toInCall.keep,codeAny_func ?_⟩;obtain⟨t,ht,hq⟩:=p A a s H vs Q E (U.deeper _) B;refine A8 (ht [] s1 _ H _ (Au S U.hd F hl r x) hq) (λ fl M hs=>?_) λ e M hs=>hs;have C:∀{i:St} {l:Hp} {v:V} {u:Mo},Inv (cxOf X P w K mg h N c scope f g A a s H E) [] i l M->RelV v u->Q v l->CE a P w H s Q u M:=
    λ {i l v u} J O q=>⟨v,l,J.os,J.bare,J.base,J.hok,O,q⟩
  cases fl with
  | ret u=>
    obtain⟨v,i,l,J,O,q⟩:=hs;exact C J O q
  | next=>
    obtain⟨i,l,J,q⟩:=hs;exact C (v:=V.non) J rfl q
  | brk=>
    obtain⟨_,_,_,q⟩:=hs;exact False.elim q
  | cont=>
    obtain⟨_,_,_,q⟩:=hs;exact False.elim q
end L2
namespace L2
open PySem PySem.Spec PyProof.Rows
section
variable {X:Cx} {x:Str} {p pos:Pos} {e:Ms} {es:on Ms} {t:TA} {id T:MF} {r:on V->Hp->VK->Prop}
noncomputable def tCB(r:on V->Hp->VK->Prop)(t:TA):TE:=λ σ H Q=>t σ H λ vs H1=>r vs H1 Q
def fK(n:u6 X (.builtin id) r)(l:Gl X x)(k:X.mg x=none)(hv:bootBuiltins x=some (.builtin id))(o:PA X (e::es) t)(j:x ≠ "__name__":=by decide)(c:Np=false:=by decide)
  (m:starEach (e::es) X.env=(false,eval e X.env)::starEach es X.env:=by rfl) (b:(backTo pos (starEach es X.env)).any (·.1)=false:=by rfl):PE X Ny (tCB r t):=by
 intro a s d H Q I h;refine X5 (V2 I l k hv ?_ j c);exact PyProof.Rows.callWith_builtin1 (thn (o pos a s d H _ I h) λ g s1 ⟨f,u,q,r1,i⟩=>n a s1 d u f g Q q r1 i) m b
def kG(n:u6 X (.type T) r)(l:Gl X x)(k:X.mg x=none)(hv:bootBuiltins x=some (.type T))(o:PA X (e::es) t)(j:x ≠ "__name__":=by decide)(c:Np=false:=by decide)
  (m:starEach (e::es) X.env=(false,eval e X.env)::starEach es X.env:=by rfl) (b:(backTo pos (starEach es X.env)).any (·.1)=false:=by rfl):PE X Ny (tCB r t):=by
 intro a s d H Q I h;refine X5 (V2 I l k hv ?_ j c);exact bN (thn (o pos a s d H _ I h) λ g s1 ⟨f,u,q,r1,i⟩=>n a s1 d u f g Q q r1 i) m b
end
end L2
namespace HT
open PySem PyProof.Rows
noncomputable def sIx(n d:Nat):Mn Int->Nat
 | none=>d
 | some v=>if v<0 then(v+(n:Int)).toNat else min v.toNat n
end HT
namespace L2
open PySem PySem.Spec PyProof.Rows
abbrev TO:=St->Hp->(Mn Int->Hp->Prop)->Prop
def PO(X:Cx)(e:Mn Ms)(t:TO):Prop:=
 ∀(pins:NB) (s:Mp) (σ:St) (H:Hp) (Q:Mn Int->Hp->Prop),Inv X pins σ H s->t σ H Q ->
  wpAny MI X.A (evalPart e X.env) (λ u s'=>∃o H',Inv X pins σ H' s'/\IsPart u o/\Q o H') X.xe s
def Aw:TO:=λ _ H Q=>Q none H
noncomputable def Ax(t:TE):TO:=λ σ H Q=>t σ H λ x H1=>∃i,x=.int i/\Q (some i) H1
section
variable {X:Cx} {e:Ms} {te:TE} {lo hi:Mn Ms} {tl th:TO} {pos p2:Pos}
def Ay:PO X none Aw:=by
 intro a s σ H Q I h;rw[evalPart_none];exact e8 ⟨none,H,I,.none,h⟩
def Az(h:PE X e te):PO X (some e) (Ax te):=by
 intro a s b H Q I d;rw[evalPart_some];refine thn (h a s b H _ I d) λ u s1 t0=>?_;obtain⟨x,g,f,r1,c⟩:=t0
 obtain⟨i,rfl,q⟩:=c;obtain⟨t,rfl⟩:=r1;exact⟨some i,g,f,.int i t,q⟩
def SlR(X:Cx)(r:V->Mn Int->Mn Int->Hp->VK->Prop):Prop:=
 ∀(pins:NB) (s:Mp) (σ:St) (H:Hp) (x:V) (v vl vu:Mo) (lo hi:Mn Int) (sl:Mq) (Q:VK),Inv X pins σ H s->RelV x v->s.heap.IsSliceOf sl vl vu .none->IsPart vl lo->IsPart vu hi->r x lo hi H Q ->
  ∃T id,typeLookup (.type T) "__getitem__" = pure (some (.builtin id))/\s.TypeIs v T/\wpAny MI X.A (getItem v (.ref sl)) (EP X pins σ Q) X.xe s
noncomputable def tSl(r:V->Mn Int->Mn Int->Hp->VK->Prop)(te:TE)(tl th:TO):TE:=λ σ H Q=>te σ H λ x H1=>tl σ H1 λ l H2=>th σ H2 λ u H3=>r x l u H3 Q
def qm(w:SlR X r)(A:PE X e te)(y:PO X lo tl)(o:PO X hi th):PE X (.Subscript e (.Slice lo hi none p2) pos) (tSl r te tl th):=by
 intro a s d H Q I h;refine Subscript_ (thn (A a s d H _ I h) λ v s1 t0=>?_);obtain⟨x,L,F,r1,k⟩:=t0;refine wpAny_Slice (thn (y a s1 d L _ F k) λ g s2 ⟨l,K,E,n,j⟩=>thn (o a s2 d K _ E j) λ f c t0=>?_);obtain⟨u,J,C,m,i⟩:=t0;rw[evalPart_none];refine e8 ?_;obtain⟨T,id,B,p,z⟩:=w a {c with heap:=c.heap.push {cls:=.type "slice",data:=.fields #[g,f,.none]}} d J x v g f l u c.heap.objs.size Q (C.kept λ b ob q=>i5 _ q) r1 (Heap.IsSliceOf.new ..) n m i;show wpAny _ X.A _ _ X.xe {c with heap:=c.heap.push {cls:=.type "slice",data:=.fields #[g,f,.none]}};exact tail_any p B z (by with_unfolding_all rfl)
def cutV(xs:on V)(lo hi:Mn Int):on V:=(xs.drop (HT.sIx xs.length 0 lo)).take (HT.sIx xs.length xs.length hi - HT.sIx xs.length 0 lo)
def AA(a:on V)(b c:Mn Int):(cutV a b c).length<=a.length:=by
 unfold cutV;rw[U2,List.length_drop];omega
end
end L2
namespace L2
open PySem PySem.Spec PyProof.Rows
noncomputable def ixN(n:Nat)(i:Int):Mn Nat:=if 0<=i then(if i<n then some i.toNat else none)else if -(n:Int)<=i then some (i+n).toNat else none
def atI{α:Type}(xs:on α)(i:Int):Mn α:=(ixN xs.length i).bind λ j=>xs[j]?
def qo(h:ixN n i=some j):seqIndex? i n=some j/\j<n /\ -(n:Int)<=i/\i<n:=by
 unfold ixN at h;by_cases a:0<=i
 ·rw[d6 a]at h;by_cases h1:i<n
  ·rw[d6 h1]at h;have e:=z9 h;exact⟨by rw[seqIndex_of a h1,e],by omega,by omega,h1⟩
  ·rw[e7 h1]at h;cases h
 ·rw[e7 a]at h;by_cases h1 : -(n:Int)<=i
  ·rw[d6 h1]at h;have e:=z9 h;exact⟨by rw[jX KE h1,e],by omega,h1,by omega⟩
  ·rw[e7 h1]at h;cases h
def kH(h:atI a i=some v):∃j,seqIndex? i a.length=some j/\a[j]? = some v/\j<a.length /\ -(a.length:Int)<=i/\i<a.length:=by
 unfold atI at h;cases e:ixN a.length i with
 | none=>rw[e]at h;cases h
 | some j=>
  rw[e]at h;obtain⟨h1,h2,d,c⟩:=qo e;exact⟨j,h1,h,h2,d,c⟩
def AB(b:Ms):Prop:=∀o i,subscripted b false o i=operate [o,i] (getItem o i)
def IxR(X:Cx)(r:R2):Prop:=
 ∀(value slice:Ms) (pins:NB) (s:Mp) (σ:St) (H:Hp) (x y:V) (v u:Mo) (Q:VK),Inv X pins σ H s->RelV x v->RelV y u->r x y H Q ->
  subscripted slice false v u=operate [v,u] (getItem v u)->wpAny MI X.A (subscriptTail value slice v u) (EP X pins σ Q) X.xe s
def MtR(X:Cx)(id:MF)(r:V->on V->Hp->VK->Prop):Prop:=
 ∀(pins:NB) (s:Mp) (σ:St) (H:Hp) (x:V) (xs:on V) (v:Mo) (us:on Mo) (Q:VK),Inv X pins σ H s->RelV x v->Vals xs us->r x xs H Q ->
  wpAny MI X.A (call (.builtin id) (v::us)) (EP X pins σ Q) X.xe s
section
variable {X:Cx} {a b:Ms} {ta tb:TE} {pos:Pos}
def IxR.or(h:IxR X r)(j:IxR X i):IxR X (λ x y H Q=>r x y H Q\/i x y H Q):=by
 intro a b c s d H x y v u Q I g f q hs;rcases q with q | q
 ·exact h a b c s d H x y v u Q I g f q hs
 ·exact j a b c s d H x y v u Q I g f q hs
def qp(i:IxR X r)(k:PE X a ta)(j:PE X b tb)(hs:AB b):PE X (.Subscript a b pos) (tOp r ta tb):=by
 intro c s d H Q I h;exact Subscript_ (binT k j I h λ v u s2 x y m l g f q=>i a b c s2 d m x y v u Q l g f q (hs _ _))
def rIxL(K:MA):R2:=λ x y H Q=>∃p xs i v,x=.ref p/\y=.int i/\SqL K H p xs/\atI xs i=some v/\Q v H
def rIxT(K:MA):R2:=λ x y H Q=>∃p xs i v,x=.ref p/\y=.int i/\SqT K H p xs/\atI xs i=some v/\Q v H
def rIxS:R2:=λ x y H Q=>∃z i c,x=.str z/\y=.int i/\z.length<=sizeLine/\atI z.cps.toList i=some c/\Q (.str ⟨#[c]⟩) H
def AC:IxR X (rIxL X.K):=by
 intro c d a s n H x y v u Q I A o h hs;obtain⟨p,xs,i,z,rfl,rfl,B,E,q⟩:=h;cases A;obtain⟨t,rfl⟩:=o;obtain⟨g,r,f,hz⟩:=I.list B;obtain⟨j,h1,h2,h3,J,F⟩:=kH E;obtain⟨w,m,rw'⟩:=r.get h2;have C:=r.length;have hn:=aO;have b:EP X a n Q w s:=⟨z,H,I,rw',q⟩;by_cases l:0<=i
 ·have k:i.toNat=j:=by
   rw[seqIndex_of l F]at h1;exact z9 h1
  exact item_listR f.isList l KE (by rw[k];simpa using m) b hs
 ·have k:(i+(g.toArray.size:Int)).toNat=j:=by
   rw[jX KE J]at h1;rw[t7,←C];exact z9 h1
  exact pA f.isList.typeIs slot_list_getitem.lookup
   (wpAny_getItem_list_neg f.isList KE (by rw[t7]<;>omega) KE (by rw[k];simpa using m) ⟨rfl,b⟩) hs
def AD:IxR X (rIxT X.K):=by
 intro a b d s σ H x y v u Q I g f h hs;obtain⟨p,xs,i,z,rfl,rfl,l,m,q⟩:=h;cases g;obtain⟨t,rfl⟩:=f;obtain⟨k,r,c,hz⟩:=I.tuple l;obtain⟨j,h1,h2,h3,h4,h5⟩:=kH m;obtain⟨w,n,rw'⟩:=r.get h2;have hn:=aO;exact pA c.typeIs slot_tuple_getitem.lookup
  (getItem_tuple c KE KE (by rw[t7,←r.length];exact h1) (Nm n) ⟨rfl,(⟨z,H,I,rw',q⟩)⟩) hs
def AE:IxR X rIxS:=by
 intro a b d s σ H x y v u Q I g f h hs;obtain⟨z,i,c,rfl,rfl,hz,l,q⟩:=h;obtain⟨t,rfl⟩:=g;obtain⟨t',rfl⟩:=f;obtain⟨j,h1,h2,h3,n,m⟩:=kH l;have k:z.cps.toList.length=z.length:=by simp[Str.length]
 rw[k]at h1 n m;have hn:=aO;exact tail_any (typeIs_str s z t) slot_str_getitem.lookup (getItem_str (by
  rw[(o5 KE),(o5 KE),jS]) (by rw[h1];simpa using h2) ⟨.str ⟨#[c]⟩,H,I.tok _,Nb,q⟩) hs
def rIx(K:MA):R2:=λ x y H Q=>rIxL K x y H Q\/rIxT K x y H Q\/rIxS x y H Q
def AF:IxR X (rIx X.K):=AC.or (AD.or AE)
def AG(a:on Mo)(n j:Nat)(u:Mo):Obj.mapSeq (·.setIfInBounds j u) {cls:=.type "list",data:=.seq a.toArray n} = {cls:=.type "list",data:=.seq (a.set j u).toArray n}:=by
 simp[Obj.mapSeq]
theorem Inv.lst{b:on (Mq×Obj)}(I:MN b)(h:H p=some (.lst c)) :
  ∃(a:on Mo) (n:Nat),Vals c a/\s.heap.get? p=some {cls:=.type "list",data:=.seq a.toArray n} /\ c.length<=sizeLine:=by
 obtain⟨z,a,n,r,e⟩:=I.hok p _ h;exact⟨a,n,r,e,z⟩
def Inv.lstUpd{d a:on Mo}(I:MN c)(h:H p=some (.lst k))
  (m:s.heap.get? p=some {cls:=.type "list",data:=.seq d.toArray n}) (j:f {cls:=.type "list",data:=.seq d.toArray n} = {cls:=.type "list",data:=.seq a.toArray i}) (r:Vals g a) (l:g.length<=sizeLine) (t:Nat) :
  Inv X c σ (upd H p (.lst g)) {s with heap:=s.heap.update p f,toks:=t}:=by
 have e:(s.heap.update p f).get? p=some {cls:=.type "list",data:=.seq a.toArray i}:=(by rw[X2 f m (by rw[j]<;>rfl),j]);refine I.write (by rw[h];trivial) NK (λ b u o q=>(eN _ _ (NV o)).trans q) ⟨_,e⟩ ?_;exact⟨l,a,i,r,e⟩
def AH:V->V->V->Hp->(Hp->Prop)->Prop:=λ o i v H Q=>∃p xs k j,o=.ref p/\i=.int k/\H p=some (MZ xs)/\ixN xs.length k=some j/\Q (upd H p (MZ (xs.set j v)))
def AI:PSet X AH:=by
 intro f s σ H o i v ov iv u Q I z A y h;obtain⟨p,xs,k,j,rfl,rfl,g,C,q⟩:=h;cases z;obtain⟨t,rfl⟩:=A;obtain⟨a,n,r,b,B⟩:=I.lst g;obtain⟨h1,h2,m,l⟩:=qo C;have c:=r.length;have hn:=aO;have x:=
  I.lstUpd g b (AG a n j u) (r.set y j) (by rw[A7];exact B) s.toks
 by_cases w:0<=k
 ·have d:k.toNat=j:=by
   rw[seqIndex_of w l]at h1;exact z9 h1
  exact PySem.W.ki_setAt b w KE (by rw[t7,←c];exact l) (by rw[d];exact⟨_,x,q⟩)
 ·have d:(k+(a.toArray.size:Int)).toNat=j:=by
   rw[jX KE m]at h1;rw[t7,←c];exact z9 h1
  exact PySem.W.ki_setBack b KE (by rw[t7,←c];exact m) KE (by rw[d];exact⟨_,x,q⟩)
def AJ(a b:Mn Int)(n:Nat):(sliceBounds a b none n).1=((HT.sIx n 0 a:Nat):Int)/\(sliceBounds a b none n).2.1=((HT.sIx n n b:Nat):Int)/\(sliceBounds a b none n).2.2=1:=by
 refine⟨?_,?_,rfl⟩
 ·cases a with
  | none=>simp[sliceBounds,HT.sIx]
  | some i=>
   simp only[sliceBounds,HT.sIx,Option.getD_none,show(1:Int)>0 by decide,if_true];by_cases h:i<0
   ·simp only[h,if_true]<;>omega
   ·simp only[h,if_false]<;>omega
 ·cases b with
  | none=>simp[sliceBounds,HT.sIx]
  | some i=>
   simp only[sliceBounds,HT.sIx,Option.getD_none,show(1:Int)>0 by decide,if_true];by_cases h:i<0
   ·simp only[h,if_true]<;>omega
   ·simp only[h,if_false]<;>omega
def AK(a:on Mo)(b c:Mn Int):slicePick a.toArray b c none=((a.drop (HT.sIx a.length 0 b)).take (HT.sIx a.length a.length c - HT.sIx a.length 0 b)).toArray:=by
 obtain⟨h1,h2,d⟩:=AJ b c a.toArray.size;unfold slicePick;rw[h1,h2,d];simp only[sliceRange_one,pick_run,t7]<;>rfl
def rSlL(K:MA):V->Mn Int->Mn Int->Hp->VK->Prop:=λ x lo hi H Q=>∃a xs,x=.ref a/\SqL K H a xs/\∀p,H p=none->Q (.ref p) (upd H p (MZ (cutV xs lo hi)))
def AL:SlR X (rSlL X.K):=by
 intro d s σ H x v vl vu l p sl Q I i hs k j h;obtain⟨a,g,rfl,o,q⟩:=h;cases i;obtain⟨m,r,f,n⟩:=I.list o;have c:=r.length;refine⟨"list",_,slot_list_getitem.lookup,f.isList.typeIs,?_⟩;refine wpAny_getItem_list_slice f.isList hs k j .none MP ?_ (by rw[t7]<;>omega);rw[AK,←c];refine⟨.ref s.heap.objs.size,_,I.laid (λ b ob q=>i5 _ q) (f6 _) ?_,rfl,q _ (I.hok.fresh (f6 _))⟩;exact⟨e9 (AA g l p) n,_,0,(r.drop _).take _,m7 _ rfl⟩
def kJ:u6 X (.builtin "len") (λ i H Q=>∃p b,i=[.ref p]/\(SqL X.K H p b\/SqT X.K H p b)/\Q (MY b.length) H):=by
 intro j s σ H i us Q I r h;obtain⟨p,b,rfl,c,q⟩:=h;obtain⟨u,rfl,k⟩:=H9 r;cases k;have hn:=aO;rcases c with c | c
 ·obtain⟨g,d,f,l⟩:=I.list c;have a:=d.length;exact Calls.call_len_list f.isList (by simp only[t7]<;>omega) ⟨.int b.length,H,I.tok _,⟨s.toks+1,by rw[t7,a]⟩,q⟩
 ·obtain⟨g,d,f,l⟩:=I.tuple c;have a:=d.length;exact len_tuple f (by simp only[t7]<;>omega) ⟨.int b.length,H,I.tok _,⟨s.toks+1,by rw[t7,a]⟩,q⟩
def AM:u6 X (.type "list") (λ y H Q=>∃p c,y=[.ref p]/\(SqL X.K H p c\/SqT X.K H p c)/\∀l,H l=none->Q (.ref l) (upd H l (.lst c))):=by
 intro g s z H y us Q I r h;obtain⟨p,c,rfl,j,q⟩:=h;obtain⟨u,rfl,A⟩:=H9 r;cases A;have m:∀(a:on Mo),Vals c a->c.length<=sizeLine->∀(b:Mr) (f:Nat),_ ->
   b.get? s.heap.objs.size=some {cls:=.type "list",dict:=none,data:=.seq a.toArray f,slots:=#[]} -> EP X g z Q _ {s with heap:=b}:=λ a d i b f kp e=>
  ⟨.ref s.heap.objs.size,_,I.laid kp (f6 _) (show t6 X.prog X.w _ b _ (.lst c)from⟨i,a,f,d,e⟩),rfl,q _ (I.hok.fresh (f6 _))⟩
 rcases j with j | j
 ·obtain⟨a,d,v,i⟩:=I.list j;have k:=d.length;obtain⟨o,w,x,n,hd⟩:=v.isList;exact call_list_seq p NK w x hd (λ b f kp e=>m a d i b f kp e) (by simp only[t7]<;>omega)
 ·obtain⟨a,d,v,i⟩:=I.tuple j;have k:=d.length;obtain⟨o,w,x,n,hd⟩:=v;exact call_list_seq p (.inr rfl) w x hd (λ b f kp e=>m a d i b f kp e) (by simp only[t7]<;>omega)
def AN:u6 X (.type "tuple") (λ i H Q=>∃p a,i=[.ref p]/\((SqL X.K H p a/\∀l,H l=none->Q (.ref l) (upd H l (.tup a)))\/(SqT X.K H p a/\Q (.ref p) H))):=by
 intro j s σ H i us Q I r h;obtain⟨p,a,rfl,h⟩:=h;obtain⟨u,rfl,v⟩:=H9 r;cases v;rcases h with⟨g,q⟩ | ⟨g,q⟩
 ·obtain⟨c,d,f,k⟩:=I.list g;have m:=d.length;refine call_tuple_list f.isList (λ w kp=>?_) (by simp only[t7]<;>omega);have n:=I.kept (t':=s.toks) kp;have x:=
   n.laid (t':=s.toks) (λ b o e=>i5 _ e) (f6 _) (show t6 X.prog X.w _ _ _ (.tup a)from⟨k,c,d,V1.new _ _⟩)
  exact⟨.ref w.objs.size,_,x,rfl,q _ (n.hok.fresh (f6 _))⟩
 ·obtain⟨c,d,f,k⟩:=I.tuple g;exact call_tuple_same f ⟨.ref p,H,I,rfl,q⟩
def tyV(K:MA)(T:MF)(x:V)(H:Hp):Prop:=match x with
 | .str _=>T = "str"
 | .int _=>T = "int"
 | .ref p=>(T = "list" /\ ∃xs,SqL K H p xs)\/(T = "tuple" /\ ∃o,K.lookup p=some o/\o.cls=.type "tuple" /\ o.dict=none) \/
   (T = "dict" /\ ((∃kvs,H p=some (.dK kvs))\/∃kvs,H p=some (.dT kvs)))\/(T = "set" /\ ∃S n,H p=some (.set S n))
 | _=>False
def qr(I:MN d)(r:RelV x v)(f:tyV X.K T x H) :
  s.TypeIs v T/\∀a,v=.ref a->∃k,s.heap.get? a=some k/\k.dict=none:=by
 cases x with
 | str z=>
  obtain⟨t,rfl⟩:=r;cases(f);exact⟨typeIs_str s z t,λ _ e=>nomatch e⟩
 | int i=>
  obtain⟨t,rfl⟩:=r;cases(f);exact⟨typeIs_int s i t,λ _ e=>nomatch e⟩
 | ref p=>
  cases r;rcases f with⟨rfl,xs,m⟩ | ⟨rfl,o,b,hc,hd⟩ | ⟨rfl,b⟩ | ⟨rfl,S,n,b⟩
  ·obtain⟨l,_,j,_⟩:=I.list m;refine⟨j.isList.typeIs,λ a e=>?_⟩;cases e;obtain⟨o,n,e,c,hd,_⟩:=j;exact⟨o,e,hd⟩
  ·refine⟨⟨o,I.kIn p o b,hc⟩,λ a e=>?_⟩;cases e;exact⟨o,I.kIn _ o b,hd⟩
  ·have z:∃o,s.heap.get? p=some o/\o.ExactDict:=by
    rcases b with⟨g,b⟩ | ⟨g,b⟩
    ·obtain⟨_,_,_,_,o,_,_,e,ex,_⟩:=I.hok p _ b;exact⟨o,e,ex⟩
    ·obtain⟨_,_,_,_,o,_,_,e,ex,_⟩:=I.hok p _ b;exact⟨o,e,ex⟩
   obtain⟨o,e,ex⟩:=z;refine⟨⟨o,e,ex.1⟩,λ a h=>?_⟩;cases h;exact⟨o,e,ex.2.1⟩
  ·obtain⟨o,_,_,_,e,ex,_⟩:=I.hok p _ b;refine⟨⟨o,e,ex.1⟩,λ a h=>?_⟩;cases h;exact⟨o,e,ex.2.1⟩
 | _=>exact False.elim f
noncomputable def tBM0(K:MA)(T:MF)(r:V->on V->Hp->VK->Prop)(to:TE):TE:=λ σ H Q=>to σ H λ x H1=>tyV K T x H1/\r x [] H1 Q
noncomputable def tBM(K:MA)(T:MF)(r:V->on V->Hp->VK->Prop)(to:TE)(t:TA):TE:=λ σ H Q=>to σ H λ x H1=>tyV K T x H1/\t σ H1 λ xs H2=>r x xs H2 Q
def AO{a:Str}(q:PlainAttrs T)(slot:Slot T a i)(j:typeOf (.builtin i)=pure (.type "method_descriptor"))(w:MtR X i r)(u:PE X o l)
  (g:attributeBase o a X.env (eval o X.env)=eval o X.env:=by rfl) (f:(d.endLine==c.line)=true:=by rfl):PE X (.Call (.Attribute o a d) [] [] c) (tBM0 X.K T r l):=by
 intro b s k H Q I h;refine pf g f (thn (u b s k H _ I h) λ v s1 t0=>?_);obtain⟨x,y,m,r1,n,p⟩:=t0;obtain⟨h1,h2⟩:=qr m r1 n;exact⟨T,i,q,slot,j,h1,h2,bO rfl (PySem.evalArgs_none (w b s1 k y x [] v [] Q m r1 .nil p))⟩
def qt{a:Pos}(F:PlainAttrs T)(slot:Slot T d m)(p:typeOf (.builtin m)=pure (.type "method_descriptor"))(K:MtR X m r)(J:PE X o q)(L:PA X (e::es) t)
  (j:attributeBase o d X.env (eval o X.env)=eval o X.env:=by rfl)
  (l:((backTo a (starEach (e::es) X.env)).all (λ x=>!x.1)&&(backToKw a (keywordEach [] X.env)).all (λ x=>x.1.isSome)
   && decide ((e::es).length+([]:on Keyword).length+(if([]:on Keyword).isEmpty then 0 else 1)<30))=true:=by rfl)
  (i:(g.endLine==a.line)=true:=by rfl) (hs:starEach (e::es) X.env=(false,eval e X.env)::starEach es X.env:=by rfl) (f:(backTo a (starEach es X.env)).any (·.1)=false:=by rfl) :
  PE X (.Call (.Attribute o d g) (e::es) [] a) (tBM X.K T r q t):=by
 intro c s n H Q I h;refine pB j l i rfl (thn (J c s n H _ I h) λ v s1 t0=>?_);obtain⟨x,O,w,r1,A,E⟩:=t0;obtain⟨h1,h2⟩:=qr w r1 A;refine⟨T,m,F,slot,p,h1,h2,?_⟩;have u:=L a c s1 n O _ w E;rw[hs]at u ⊢;refine bO (by show(false||(backTo a _).any (·.1))=false;rw[f]<;>rfl) (iY ?_);exact thn u λ z s2 ⟨y,N,M,B,C⟩=>K c s2 n N x y v z Q M r1 B C
end
end L2
namespace L2
open PySem PySem.Spec PyProof.Rows
def MtM(X:Cx)(id:MF)(r:V->on V->Hp->VK->Prop):Prop:=
 ∀(pins:NB) (s:Mp) (σ:St) (H:Hp) (x:V) (xs:on V) (v:Mo) (us:on Mo) (Q:VK),Inv X pins σ H s->RelV x v->Vals xs us->r x xs H Q ->
  wpAny MI X.A (call (.builtin id) (v::us)) (EP X pins σ Q) X.xe s
def Vals.unc(h:Vals (x::xs) b):∃u a,b=u::a/\RelV x u/\Vals xs a:=by
 cases h with
 | cons r t=>exact⟨_,_,rfl,r,t⟩
def Vals.nl(h:Vals [] a):a=[]:=by cases h;rfl
def Vals.one{x:V}{us:on Mo}(h:Vals [x] us):∃u,us=[u]/\RelV x u:=by
 obtain⟨u,ws,rfl,r,t⟩:=h.unc;cases t.nl;exact⟨_,rfl,r⟩
def Vals.two{x y:V}{us:on Mo}(h:Vals [x,y] us):∃u v,us=[u,v]/\RelV x u/\RelV y v:=by
 obtain⟨u,ws,rfl,r,t⟩:=h.unc;obtain⟨v,rfl,q⟩:=t.one;exact⟨_,_,rfl,r,q⟩
def Inv.lset{b:on Mo}(I:MN pins)(i:H l=some (MZ xs))
  (e:s.heap.get? l=some {cls:=.type "list",data:=.seq b.toArray n}) (g:f b.toArray=a.toArray) (hv:Vals ys a) (c:ys.length<=sizeLine) :
  Inv X pins σ (upd H l (MZ ys)) {s with heap:=s.heap.update l (Obj.mapSeq f),toks:=t'}:=by
 have q:=PySem.IsL.update e f;rw[g]at q;refine I.write (by rw[i];exact trivial) NK (λ b' u h d=>(eN s.heap _ (NV h)).trans d) ⟨_,q⟩ ?_;exact⟨c,a,_,hv,q⟩
def Inv.lnew(I:MN pins)(hv:Vals ys a)(b:ys.length<=sizeLine) :
  Inv X pins σ (upd H s.heap.objs.size (MZ ys)) {s with heap:=s.heap.push {cls:=.type "list",data:=.seq a.toArray},toks:=t'}:=
 I.laid (λ _ _ q=>i5 _ q) (f6 _) ⟨b,a,0,hv,m7 _ rfl⟩
theorem Inv.fresh(I:MN pins):H s.heap.objs.size=none:=I.hok.fresh (f6 _)
def Inv.lstM(I:MN pins)(b:H l=some (MZ xs)):xs.length<=sizeLine/\∃(a:on Mo) (n:Nat),Vals xs a/\xs.length=a.length/\s.heap.get? l=some {cls:=.type "list",data:=.seq a.toArray n}:=by
 obtain⟨z,a,n,r,e⟩:=I.hok l _ b;exact⟨z,a,n,r,r.length,e⟩
def AQ(h:n<=sizeLine):Builtin.List.listTooLong n=false:=by
 unfold Builtin.List.listTooLong;exact o5 KE
def AR:V->on V->Hp->VK->Prop:=λ x vs H Q=>∃l xs y,x=.ref l/\vs=[y]/\H l=some (MZ xs)/\xs.length<sizeLine/\Q .non (upd H l (MZ (xs++[y])))
def AS:MtM X "list.append" AR:=by
 intro b s σ H x vs v us Q I d f h;obtain⟨l,xs,y,rfl,rfl,c,hz,q⟩:=h;cases d;obtain⟨u,rfl,g⟩:=f.one;obtain⟨z,a,n,r,hl,e⟩:=I.lstM c;refine call_meets F.slot_list_append ⟨_,e,rfl⟩ F.entry_list_append (F.args_list_append_2 _ _) (PySem.list_append l a.toArray n u (by rw[t7];omega)) ⟨e,?_⟩;refine⟨.non,_,I.lset c e MP (r.append (.cons g .nil)) ?_,rfl,q⟩;rw[p7,L9];omega
def rCat:R2:=λ x y H Q=>∃l b xs zs,x=.ref l/\y=.ref b/\H l=some (MZ xs)/\H b=some (MZ zs)/\xs.length+zs.length<=sizeLine/\∀p,H p=none->Q (.ref p) (upd H p (MZ (xs++zs)))
def AT:OpR X (binaryOp .Add) rCat:=by
 intro d s σ H x y v u Q I g f h;obtain⟨l,b,xs,zs,rfl,rfl,k,m,hz,q⟩:=h;cases g;cases f;obtain⟨z,c,n,r,hl,e⟩:=I.lstM k;obtain⟨z2,a,n2,i,j,p⟩:=I.lstM m;refine PySem.P.add_list e p ?_ (by rw[t7,t7];omega);have o:c.toArray++a.toArray=(c++a).toArray:=by simp
 rw[o];exact⟨.ref _,_,I.lnew (r.append i) (by rw[p7];omega),rfl,q _ I.fresh⟩
end L2
namespace Att
open PySem PySem.W PySem.Calls PyProof.Rows
def AU:∀(c:on Int) (vs:on Mo),WellAll P h vs (c.map WData.int)->IntsAre vs c:=by
 intro c
 induction c with
 | nil=>
  intro vs w;rw[fy]at w;cases w;exact .nil
 | cons n c d=>
  intro vs w;rw[t9]at w;cases w with
  | cons a b=>
   cases a;exact .cons _ _ (d _ b)
def AV{l:OpenLaw}(v:l.most=some n)
  (f:l.row.toRowW.claim.pre args=true) (m:WellAll P h b args) :
  ∃a vs c,b=[Value.ref a]/\args=[WData.list (c.map WData.int)]/\h.get? a=some {cls:=.type "list",data:=.seq vs.toArray} /\ IntsAre vs c/\c.length<=n:=by
 have o:l.pre.holds [] {args:=args} = true:=(pre_splitW f).2;obtain⟨d,r,rfl,h1,h2⟩:=hasAllW_cons ((pre_splitW f).1);obtain rfl:=hasAllW_nil h2;obtain⟨xs,rfl,w⟩:=hasW_list h1;obtain⟨c,rfl⟩:=items_int w;have g:c.length<=n:=by
  unfold OpenLaw.pre at o;have k:(WTm.not (.lt (.lit (MY (n:Int))) (.len (.arg 0)))).holds [] {args:=[.list (c.map .int)]} = true:=by have k:=(holds_andW o).1;rw[v]at k;exact k
  have j:=condW_of k (w_not (w_lt w_lit (w_len_list (w_arg rfl))));rw[d9]at j;refine U3 λ q=>?_
  first
   | (rw[o6 (by omega)]at j;exact absurd j MG)
   | (simp at j;omega)
 cases m with
 | cons s p=>
  cases p;cases s with
  | list u i=>exact⟨_,_,c,rfl,rfl,u,AU c _ i,g⟩
def AW(l:OpenLaw)(args:on WData):l.row.toRowW.claim.post args (.bool true) args=true:=
 postW_of
  (by first | rfl | decide | simp[WShape.has,WShape.arms,WShape.armsAll])
  (show(WTm.eq .res _).value [] {args:=args,res:=some _,after:=args} = some (.bool _)from w_eq_bool (w_res rfl) w_lit) rfl
def attach_call{l:OpenLaw}
  (J:l.most=some n) (y:d.params.defaults=[])
  (call:∀(w:Mv) (c b:Mp) (mg u:Str->Mn Mo) (m:Mq) (o:Obj) (pm cd h:Mo) (a:Mq) (vs:on Mo) (s:on Int),
   Ground q loose [] XP w c mg u b.heap->YP w b.heap ->
   b.heap.get? m=some o->o.data=.func (docDef d.name d.params d.body d.scope pm cd h)->b.heap.CodeRec cd d.name->mg d.name=some (.ref m) ->
   b.heap.get? a=some {cls:=.type "list",data:=.seq vs.toArray} -> IntsAre vs s->s.length<=n->b.gens = #[] ->
   codeAny (model l.prog w) callerA (.call (.ref m) ⟨[.ref a],[]⟩) (λ r p=>r=.ok (.ret (.bool true))/\OldK b.heap p.heap/\p.os=b.os/\AllBare p.gens) b) :
  WalkO q loose XP YP l.row.toRowW d [] (λ f vs=>PySem.call f vs):=by
 intro w c b mg u G Y m o pm cd h P kV I hd z C x M E A as i B F v L;obtain rfl:P=.none:=Dflts.none C y;obtain rfl:kV=.none:=Dflts.noKw C;obtain⟨a,vs,s,rfl,rfl,j,g,k⟩:=AV J i v;refine enter_call (O0 (call w c b mg u m o pm cd h a vs s G Y I (fd_plain hd) z x j g k M) λ r p H=>?_);obtain⟨rfl,h2,O,N⟩:=H;exact⟨.inl ⟨.bool true,.bool true,[],rfl,λ _=>rfl,.bool true,AW l _,λ _=>⟨List.Pairwise.nil,λ _ K=>(nomatch K)⟩⟩,h2,O,N⟩
end Att
namespace L2
open PySem PySem.Spec PyProof.Rows
theorem qu:∀{vs:on Mo} {ns:on Int},IntsAre vs ns->Vals (ns.map V.int) vs
 | _,_,.nil=>.nil
 | _,_,.cons n t h=>.cons ⟨t,rfl⟩ (qu h)
def Only(H:Hp):Prop:=∀b,H b=none\/(∃o xs,H b=some (.frz o (MZ xs)))\/∃q,H b=some (.tbl q)
theorem cL{a:Type}:∀{l:on (Mq×a)} {c:a},l.lookup x=some c->(x,c)∈l
 | (y,v)::l,c,h=>by
  rw[B0]at h;split at h
  ·rename_i e;cases h;rw[f0.mp e];exact i9
  ·exact j5 _ (cL h)
theorem qv{a:Type}:∀{l:on (Mq×a)} {c:a},l.lookup x=none->(x,c)∉l
 | (y,v)::l,c,h,m=>by
  rw[B0]at h;split at h
  ·cases h
  ·rename_i e;rcases f8.mp m with z | z
   ·cases z;simp at e
   ·exact qv h z
def AX{l:on (f×d)}(g:(l.map (·.1)).Nodup)(h1:(p.1,q)∈l)(h2:p∈l):q=p.2:=by
 induction l with
 | nil=>cases h1
 | cons y l h=>
  rw[t9]at g;have a:=N7.mp g;rcases f8.mp h1 with c | c<;>rcases f8.mp h2 with b | b
  ·rw[b,←c]
  ·exact absurd (g9.mpr ⟨p,b,by rw[←c]⟩) a.1
  ·exact absurd (g9.mpr ⟨_,c,by rw[b]⟩) a.1
  ·exact h a.2 c b
def AY{K:MA}
  (KX:K.In c.heap) (S:c.heap.Ns mainGlobals mg) (j:c.heap.Ns builtinsNs mb) (a5:∀x:Str,x ≠ "__name__" -> mb x=bootBuiltins x) (W:c.heap.NoLimit) (hg:c.gens = #[])
  (O:c.heap.get? a=some {cls:=.type "list",data:=.seq vs.toArray}) (hi:IntsAre vs Q) (hl:Q.length<=sizeLine) (hr:Room k callerA)
  (F:∀y:Mr,K.In y->y.Ns mainGlobals mg->FnOk P w K mg y CX k fa fd [x] sp) (N:∀(s:Mp) (u:Mo),BindsTo s fd ⟨[u],[]⟩ [(x,u)])
  (a3:∀H:Hp,Only H->SqL K H a (Q.map V.int)->sp [.ref a] H (λ v _=>v=.bl true) λ _ _ _=>False)
  (i:∀p∈u0 K,K.lookup p.1=none/\c.heap.get? p.1=some {cls:=.none,data:=.fields #[]} /\ isCodeTable c.heap p.1) (a2:((u0 K).map (·.1)).Nodup)
  (a4:∃L E,mg "__builtins__" = some (.ref L)/\L≠builtinsNs/\c.heap.get? L=some E/\E.cls=.type "module" /\ E.dict=some builtinsNs/\E.data=.plain)
  (a7:∀H e l,CX [] H c (λ _ _ _=>False) e l->False) :
  codeAny NY callerA (.call (.ref fa) ⟨[.ref a],[]⟩) (λ r l=>r=.ok (.ret (.bool true))/\OldK c.heap l.heap/\l.os=c.os/\AllBare l.gens) c:=by
 have rv:=qu hi;have R:=hi.length;have J:∀H:Hp,Only H->SqL K H a (Q.map V.int)->HOk P w H c.heap->(∀b,H b≠none->b=a\/((∃q,(b,q)∈u0 K)/\∃q,H b=some (.tbl q)))->(H a≠none->K.lookup a=none)->cJ K H ->
   codeAny NY callerA (.call (.ref fa) ⟨[.ref a],[]⟩) (λ r l=>r=.ok (.ret (.bool true))/\OldK c.heap l.heap/\l.os=c.os/\AllBare l.gens) c:=by
  intro H hO hS M hA hK hT;have g:∀{b:Mq} {o:Obj},c.heap.get? b=some o->H b=none->(hidT c.heap H).get? b=some o:=λ e n=>yZ e n
  have a1:∀{b:Mq} {o:Obj} {es:Mu DictEntry} {ep:Nat},c.heap.get? b=some o->o.data=.dict es ep->H b=none:=λ {b o es ep} e d=>by
   cases q:H b with
   | none=>rfl
   | some u=>
    rcases hA b (by rw[q];simp)with e' | ⟨⟨qq,e'⟩,_⟩
    ·subst e';rw[O]at e;cases e;have d':=d;cases d'
    ·rw[(i _ e').2.1]at e;cases e;have d':=d;cases d'
  have A:∀{b:Mq} {m:Str->Mn Mo},c.heap.Ns b m->(hidT c.heap H).Ns b m:=λ {b m} ⟨o,es,ep,e,d,r⟩=>⟨o,es,ep,g e (a1 e d),d,r⟩;have X:=λ b o e=>g (KX b o e) (by
   cases q:H b with
   | none=>rfl
   | some u=>
    rcases hA b (by rw[q];simp)with e' | ⟨⟨qq,e'⟩,_⟩
    ·subst e';rw[hK (by rw[q];simp)]at e;cases e
    ·rw[(i _ e').1]at e;cases e)
  have hM:Mod K mg (hidT c.heap H):=by
   refine⟨X,A S,⟨mb,A j,a5⟩,let ⟨mc,h1,h2⟩:=W;⟨mc,A h1,h2⟩,?L⟩;obtain⟨L,E,b1,b2,b3,b4,b5,b6⟩:=a4;refine⟨L,E,b1,b2,g b3 ?_,b4,b5,b6⟩;cases q:H L with
   | none=>rfl
   | some u=>
    rcases hA L (by rw[q];simp)with e' | ⟨⟨qq,e'⟩,_⟩
    ·subst e';rw[O]at b3;cases b3;exact absurd (Value.type.inj (show Value.type "list" = Value.type "module" from b4)) MG
    ·rw[(i _ e').2.1]at b3;cases b3;cases b4
  have e0:Env0 P w K mg (hidT c.heap H) callerA [] c H:=⟨rfl,hM,λ b o e=>za e,Nat.le_of_eq (yY _ _),trivial,⟨λ b j=>absurd (show b∈([]:on Mq)from j) MP,hT⟩,M,.of_eq hg⟩;refine O0 ((F _ X (A S)).run callerA [] c H ⟨[.ref a],[]⟩ [.ref a] [.ref a] _ _ hr e0 (N c (.ref a)) (.cons rfl .nil) (a3 H hO hS)) λ r l h=>?_;cases r with
  | error e=>exact(a7 H e l h).elim
  | ok fl=>
   cases fl with
   | next=>exact False.elim h
   | brk=>exact False.elim h
   | cont=>exact False.elim h
   | ret u=>
    obtain⟨v,H',os,Z,un,I,r',q⟩:=h;have q':v=.bl true:=q;subst q';obtain rfl:u=Value.bool true:=r';refine⟨rfl,⟨λ b o e=>?_,λ b o e=>un.there b o e MP⟩,os,Z⟩;cases q:H b with
    | none=>exact .inl (un.keep b o e q (by intro z;exact absurd (show b∈([]:on Mq)from z) MP) MP)
    | some u=>
     rcases hO b with z | ⟨E,xs,z⟩ | ⟨qq,z⟩
     ·rw[q]at z;cases z
     ·have z2:=un.frzs b E _ z;obtain⟨Y,_⟩:=M b _ z;obtain⟨e2,_⟩:=I b _ z2;rw[e]at Y;cases Y;exact .inl e2
     ·rcases hA b (by rw[q];simp)with e' | ⟨⟨q2,e'⟩,_⟩
      ·subst e';obtain⟨ps,Y,_⟩:=M b _ z;rw[O]at Y;have:=congrArg Obj.data (z9 Y);cases this
      ·have t:=i _ e';rw[t.2.1]at e;cases e;obtain⟨ps,e2,_⟩:=I b _ (un.tbls b _ z);exact .inr (.inl ⟨t.2.2,rfl,#[],ps,rfl,by simpa using e2⟩)
 have C:∀f:Hp,(∀p∈u0 K,f p.1=none)->∃H:Hp,(∀b,(∃q,(b,q)∈u0 K/\H b=some (.tbl q))\/((∀q,(b,q)∉u0 K)/\H b=f b)):=λ f hf=>by
  refine⟨λ b=>match(u0 K).lookup b with | some q=>some (.tbl q) | none=>f b,λ b=>?_⟩;cases z:(u0 K).lookup b with
  | some q=>exact .inl ⟨q,cL z,by simp only[z]⟩
  | none=>exact .inr ⟨λ q hq=>qv z hq,by simp only[z]⟩
 have B:∀{H:Hp} {f:Hp},(∀b,(∃q,(b,q)∈u0 K/\H b=some (.tbl q))\/((∀q,(b,q)∉u0 K)/\H b=f b))->cJ K H:=λ {H f} h p hp=>by
  rcases h p.1 with⟨q,h1,h2⟩ | ⟨h1,_⟩
  ·rw[h2,AX a2 h1 hp]
  ·exact absurd hp (h1 p.2)
 cases hk:K.lookup a with
 | some o=>
  have e:=KX a o hk;rw[O]at e;cases e;obtain⟨H,h⟩:=C (λ _=>none) λ _ _=>rfl;refine J H (λ b=>?_) (.inr ⟨_,vs.toArray,_,hk,rfl,rfl,rfl,by rw[t7,R];exact hl,by simpa using rv⟩) (λ b u z=>?_) (λ b z=>?_) (λ z=>?_) (B h)
  ·rcases h b with⟨q,_,e⟩ | ⟨_,e⟩
   ·exact .inr (.inr ⟨q,e⟩)
   ·exact .inl e
  ·rcases h b with⟨q,m,e⟩ | ⟨_,e⟩
   ·rw[e]at z;cases z;exact⟨#[],(i _ m).2.1,trivial,λ a0 cv z=>by cases z⟩
   ·rw[e]at z;cases z
  ·rcases h b with⟨q,m,e⟩ | ⟨_,e⟩
   ·exact .inr ⟨⟨q,m⟩,q,e⟩
   ·exact absurd e z
  ·rcases h a with⟨q,m,e⟩ | ⟨_,e⟩
   ·have:=(i _ m).1;rw[hk]at this;cases this
   ·exact absurd e z
 | none=>
  have U:∀q,(a,q)∉u0 K:=λ q m=>by have:=(i _ m).2.1;rw[O]at this;have:=congrArg Obj.data (z9 this);cases this
  obtain⟨H,h⟩:=C (λ b=>if b=a then some (.frz {cls:=.type "list",data:=.seq vs.toArray} (MZ (Q.map V.int)))else none) λ p hp=>e7 λ z=>U p.2 (by rw[←z];exact hp)
  have a6:H a=some (.frz {cls:=.type "list",data:=.seq vs.toArray} (MZ (Q.map V.int))):=by
   rcases h a with⟨q,m,_⟩ | ⟨_,e⟩
   ·exact absurd m (U q)
   ·rw[e];exact d6 rfl
  refine J H (λ b=>?_) (.inl (.inr ⟨{cls:=.type "list",data:=.seq vs.toArray},a6⟩)) (λ b u z=>?_) (λ b z=>?_) (λ _=>hk) (B h)
  ·rcases h b with⟨q,_,e⟩ | ⟨_,e⟩
   ·exact .inr (.inr ⟨q,e⟩)
   ·by_cases j:b=a
    ·exact .inr (.inl ⟨_,_,e.trans (d6 j)⟩)
    ·exact .inl (e.trans (e7 j))
  ·rcases h b with⟨q,m,e⟩ | ⟨_,e⟩
   ·rw[e]at z;cases z;exact⟨#[],(i _ m).2.1,trivial,λ a0 cv z=>by cases z⟩
   ·rw[e]at z;by_cases j:b=a
    ·have z':=(d6 j).symm.trans z;cases z';subst j;exact⟨O,by rw[d9];exact hl,vs,_,rv,O⟩
    ·have z':=(e7 j).symm.trans z;cases z'
  ·rcases h b with⟨q,m,e⟩ | ⟨_,e⟩
   ·exact .inr ⟨⟨q,m⟩,q,e⟩
   ·by_cases j:b=a
    ·exact .inl j
    ·exact absurd (e.trans (e7 j)) z
end L2
namespace L2
open PySem PySem.Spec PyProof.Rows
def walk_of{l:PySem.W.OpenLaw}{K:Params->MA}{O:Mv->CXT}{M:Mv->Sp}
  (Q:l.most=some n) (B:n<=sizeLine) (E:d.params.defaults=[]) (P:Room k callerA)
  (W:∀(w:Mv) (h:Mr),YP w h->(K w.params).In h) (j:∀(w:Mv) (h:Mr),YP w h->(∀p∈u0 (K w.params),(K w.params).lookup p.1=none/\h.get? p.1=some {cls:=.none,data:=.fields #[]} /\ isCodeTable h p.1)/\((u0 (K w.params)).map (·.1)).Nodup)
  (F:∀(w:Mv) (mg:Str->Mn Mo) (y:Mq) (h:Mr),(K w.params).In h->h.Ns mainGlobals mg->mg d.name=some (.ref y) ->
   ∃fd:FuncData,(∀(s:Mp) (u:Mo),BindsTo s fd ⟨[u],[]⟩ [(x,u)]) /\
    ∀b:Mr,(K w.params).In b->b.Ns mainGlobals mg->FnOk l.prog w (K w.params) mg b (O w) k y fd [x] (M w))
  (A:∀(w:Mv) (H:Hp) (a:Mq) (r:on Int),r.length<=n->Only H->SqL (K w.params) H a (r.map V.int)->M w [.ref a] H (λ v _=>v=.bl true) λ _ _ _=>False)
  (I:∀(w:Mv) (H:Hp) (s:Mp) (e:Mo) (z:Mp),O w [] H s (λ _ _ _=>False) e z->False) :
  PySem.W.WalkO q loose XP YP l.row.toRowW d [] (λ f J=>PySem.call f J):=by
 refine Att.attach_call Q E λ w L i mg mb y o pm cd doc a J r G Y ho hd S C m g c R=>?_;have N:=W w _ Y;obtain⟨fd,U,hF⟩:=F w mg y _ N G.T.g C;exact AY N G.T.g G.T.b G.T.builtins G.T.nolimit R m g (e9 c B) P hF U (λ H Z X=>A w H a r c Z X) (j w _ Y).1 (j w _ Y).2 G.T.bmain λ H e z=>I w H i e z
end L2
namespace L2
open PySem PySem.Spec PyProof.Rows
abbrev CX0:CXT:=λ _ _ _ _ _ _=>False
abbrev E0:XK:=λ _ _ _=>False
def qw:kF CX0 X E0:=λ _ _ _ _ _ _ _ h=>h.elim
def iteF{B:Prop}(h:B):if false=true then A else B:=by
 rw[e7 w9];exact h
def iteT{B:Prop}(h:A):if true=true then A else B:=by
 rw[d6 rfl];exact h
def Same(H H':Hp):Prop:=∀b o,H b=some o->H' b=some o
def Same.refl(H:Hp):Same H H:=λ _ _ h=>h
def Same.trans(a:Same H f)(b:Same f d):Same H d:=λ c o h=>b c o (a c o h)
def Same.free(e:Same H H')(h:H' l=Option.none):H l=Option.none:=by
 cases q:H l with
 | none=>rfl
 | some o=>
  rw[e l o q]at h;cases h
def Same.seq{K:MA}(e:Same H H')(h:SqL K H a b):SqL K H' a b:=by
 rcases h with(h | ⟨o,h⟩) | h
 ·exact .inl (.inl (e _ _ h))
 ·exact .inl (.inr ⟨o,e _ _ h⟩)
 ·exact .inr h
end L2
end
noncomputable section
namespace L2
open PySem PySem.Spec PyProof.Rows
noncomputable def l8(cells:on (Str×Mq)):on (Str×NameKind)->on (Str×Mq)->on (Str×Mq)
 | [],acc=>acc
 | (n,k)::r,acc=>if(k==NameKind.free)=true then l8 cells r ((n,(cells.lookup n).getD 0)::acc)else l8 cells r acc
theorem kO:∀(d:on (Str×NameKind)) (b:on (Str×Mq)),(∀y∈d,y.2=NameKind.free->∃c,env.cells.lookup y.1=some c) ->
  (forIn d b (λ (x:Str×NameKind) (cs:on (Str×Mq))=>(match x with | (e,f)=>if(f==NameKind.free)=true then(do let a ←cellOf env e;pure (ForInStep.yield ((e,a)::cs)))else pure (ForInStep.yield cs):Sem (ForInStep (on (Str×Mq))))):Sem (on (Str×Mq)))=pure (l8 env.cells d b)
 | [],b,_=>rfl
 | (n,k)::r,b,h=>by
  have j:=λ y m=>h y (j5 _ m);rw[jD];by_cases g:(k==NameKind.free)=true
  ·obtain⟨c,l⟩:=h (n,k) i9 (f0.mp g);have o:cellOf env n=pure c:=by unfold cellOf;rw[l]
   have i:l8 env.cells ((n,k)::r) b=l8 env.cells r ((n,c)::b):=(by show(if(k==NameKind.free)=true then l8 env.cells r (_::b)else l8 env.cells r b)=_;rw[d6 g,l];rfl);rw[i,←kO r _ j];simp only[g,if_true,o];rfl
  ·have i:l8 env.cells ((n,k)::r) b=l8 env.cells r b:=by
    show(if(k==NameKind.free)=true then l8 env.cells r (_::b)else l8 env.cells r b)=_;rw[e7 g]
   rw[i,←kO r b j];simp only[g,if_false];rfl
def kR(h:∀y∈scope.names,y.2=NameKind.free->∃c,env.cells.lookup y.1=some c):closureFor scope env=pure (l8 env.cells scope.names []):=by
 unfold closureFor
 first
  | exact _.trans rfl
  | (simp only[(kO scope.names [] h)];rfl)
theorem cM:∀{a:on (Str×NameKind)} {d:on (Str×Mq)} {x:Str} {c:Mq},(∀y∈a,y.2=NameKind.free->∃c,b.lookup y.1=some c) ->
  (x,c)∈l8 b a d->(x,c)∈d\/(b.lookup x=some c/\(x,NameKind.free)∈a)
 | [],d,x,c,_,h=>.inl h
 | (n,k)::r,d,x,c,g,h=>by
  have f:=λ y i=>g y (j5 _ i);unfold l8 at h;by_cases e:(k==NameKind.free)=true
  ·rw[d6 e]at h;obtain⟨c',j⟩:=g (n,k) i9 (f0.mp e);rcases cM f h with z | ⟨z1,z2⟩
   ·rcases f8.mp z with z | z
    ·cases z;exact .inr ⟨by rw[j];rfl,by rw[←f0.mp e];exact i9⟩
    ·exact .inl z
   ·exact .inr ⟨z1,j5 _ z2⟩
  ·rw[e7 e]at h;rcases cM f h with z | ⟨z1,z2⟩
   ·exact .inl z
   ·exact .inr ⟨z1,j5 _ z2⟩
theorem kU:∀{a:on (Str×NameKind)} {c:on (Str×Mq)} {y:Str×Mq},y∈c->y∈l8 b a c
 | [],_,_,h=>h
 | (n,k)::r,c,y,h=>by
  unfold l8;split
  ·exact kU (j5 _ h)
  ·exact kU h
theorem fL:∀{a:on (Str×NameKind)} {d:on (Str×Mq)} {x:Str} {c:Mq},(x,NameKind.free)∈a->b.lookup x=some c->(x,c)∈l8 b a d
 | (n,k)::r,d,x,c,h,e=>by
  unfold l8;rcases f8.mp h with z | z
  ·cases z;rw[d6 (show(NameKind.free==NameKind.free)=true from rfl),e];exact kU i9
  ·split
   ·exact fL z e
   ·exact fL z e
theorem cN:∀(a:on (Str×NameKind)) (n:Nat) (b:on (Str×Mq)),cellsFrom n a b=cellsFrom n a []++b
 | [],_,_=>rfl
 | (x,k)::r,n,b=>by
  unfold cellsFrom;split
  ·rw[cN r _ _,cN r _ [(x,n)],Q2];rfl
  ·exact cN r n b
theorem kW:∀{a:on (Str×NameKind)} {n:Nat} {x:Str} {c:Mq},(x,c)∈cellsFrom n a []->(x,NameKind.cell)∈a
 | [],_,_,_,h=>nomatch h
 | (y,k)::r,n,x,c,h=>by
  unfold cellsFrom at h;by_cases b:(k==NameKind.cell)=true
  ·rw[d6 b,cN]at h;rcases x3.mp h with z | z
   ·exact j5 _ (kW z)
   ·have d:(x,c)=(y,n):=by simpa using z
    cases d;rw[f0.mp b];exact i9
  ·rw[e7 b]at h;exact j5 _ (kW h)
theorem cP{a:Type}:∀{l r:on (Str×a)},(l++r).lookup x=(l.lookup x).or (r.lookup x)
 | [],r=>by simp
 | (y,v)::l,r=>by
  rw[List.cons_append,B0,B0];cases hb:x==y with
  | true=>rfl
  | false=>exact cP
theorem qx{a:Type}:∀{l:on (Str×a)},(∀c,(x,c)∉l)->l.lookup x=none
 | [],_=>rfl
 | (y,v)::l,h=>by
  rw[B0];cases hb:x==y with
  | true=>exact absurd (by grind) (h v)
  | false=>exact qx λ c b=>h c (j5 _ b)
theorem kX{a:Type}:∀{l:on (Str×a)} {c:a},(x,c)∈l->∃d,l.lookup x=some d
 | (y,v)::l,c,h=>by
  rw[B0];cases b:x==y with
  | true=>exact⟨v,rfl⟩
  | false=>
   rcases f8.mp h with z | z
   ·cases z;rw[U4]at b;cases b
   ·exact kX z
theorem Y9{b:Type}:∀{l:on (Str×b)} {c:b},(l.map (·.1)).Nodup->(x,c)∈l->l.lookup x=some c
 | (y,v)::l,c,d,h=>by
  rw[B0];rw[t9]at d;have a:=N7.mp d;rcases f8.mp h with z | z
  ·cases z;rw[U4]
  ·have:x≠y:=λ e=>a.1 (by rw[←e];exact g9.mpr ⟨_,z,rfl⟩);rw[A6.mpr this];exact Y9 a.2 z
def kY:(relabel scope env).names.lookup x=(scope.names.lookup x).map λ k=>if(k==NameKind.free&&env.scope.kind == .function&&env.kindOf x==some .cell)=true then NameKind.cell else k:=by
 unfold relabel;show(scope.names.map _).lookup x=_;generalize scope.names=l
 induction l with
 | nil=>rfl
 | cons y r a=>
  obtain⟨n,k⟩:=y;rw[t9];show List.lookup x ((if _=true then _ else(n,k))::_)=_;have e:(if(k==NameKind.free&&env.scope.kind == .function&&env.kindOf n==some .cell)=true then(n,NameKind.cell)else(n,k))=(n,if(k==NameKind.free&&env.scope.kind == .function&&env.kindOf n==some .cell)=true then NameKind.cell else k):=by split<;>rfl
  rw[e,B0,B0];cases b:x==n with
  | true=>rw[f0.mp b];rfl
  | false=>exact a
def AZ
  (e:Q (newEnv scope s.heap.objs.size g (cellsFrom (s.heap.objs.size+1) scope.names cl) q none .none (some env) builtinsNs) {s with heap:=pushCells (s.heap.push {cls:=.type "dict",data:=.dict #[]}) scope.names}) :
  wpAny M A (newFunctionEnv scope g cl [] q none .none (some env)) Q E s:=by
 simp only[newFunctionEnv,Option.isSome_some,if_true];refine d4 (wpAny_alloc ?_);refine d4 (wpAny_layCells _ (λ d a c=>by cases b:a==NameKind.cell<;>simp[b]) _ _ _ _ ?_);rw[show({s with heap:=s.heap.push {cls:=.type "dict",data:=.dict #[]}}:Mp).heap.objs.size=s.heap.objs.size+1 from B8 ..];exact d4 (e8 (e8 e))
def Ba(I:Nat->Mp->Prop)
  (turn:∀n s,I n s->wpAny MJ A (pyNext it) (λ r f=>match r with
   | none=>R (.ok .next) f
   | some v=>wpAny MJ A (letOwnedTupleGo a it v) (λ _ d=>wpAny MJ A (assign a env v) (λ _ l=>
     wpAny MJ A (forIn y true λ c r=>if r=true then do let ok ←isTrue c env (eval c env);pure (ForInStep.yield ok)else pure (ForInStep.yield r)) (λ ok b=>
      if ok=true then wpAny MJ A (eval elt env) (λ x k=>
       wpAny MJ A (call (.builtin "list.append") [E,x]) (λ _ j=>∃m,m<n/\I m j) (notedBy MJ A env λ e g=>R (.error e) g) k) (notedBy MJ A env λ e g=>R (.error e) g) b
      else ∃m,m<n/\I m b) (notedBy MJ A env λ e g=>R (.error e) g) l) (notedBy MJ A env λ e g=>R (.error e) g) d) (notedBy MJ A env λ e g=>R (.error e) g) f) (notedBy MJ A env λ e g=>R (.error e) g) s)
  (n:Nat) (h:I n s) :
  codeAny MJ A (.compLoop (.ListComp elt [⟨a,u,y,0⟩] scope pos) 0 it E env) R s:=by
 refine codeAny_loop rfl I (λ n s F=>?_) n h;show wpAny _ A _ _ _ s;refine wpAny_noted ?_;rw[compTurn_list];refine d4 (cr (d4 (A8 (turn n s F) (λ r f p=>?_) λ _ _ i=>i)));cases r with
 | none=>exact e8 p
 | some v=>
  refine d4 (A8 p (λ _ d q=>?_) λ _ _ i=>i);refine d4 (A8 q (λ _ l C=>d4 (A8 C (λ ok b o=>?_) λ _ _ i=>i)) λ _ _ i=>i);cases ok with
  | false=>exact e8 ⟨rfl,o⟩
  | true=>
   exact d4 (d4 (A8 o (λ x k B=>d4 (A8 B (λ _ j z=>e8 (e8 ⟨rfl,z⟩)) λ _ _ i=>i)) λ _ _ i=>i))
def HOk.track(x:HOk P w H h)(d:H a=none)(new:t6 P w (upd H a o) h a o):HOk P w (upd H a o) h:=λ b u e=>by
 by_cases f:b=a
 ·subst f;rw[u5]at e;cases e;exact new
 ·rw[j8 f]at e;exact(x b u e).stay (λ c v _ q=>q) (λ c q=>by rw[j8 (x6 q d)];exact q) (λ c g q=>by rw[j8 (x6 q d)];exact q) (λ c g q=>by rw[j8 (x6 q d)];exact q) λ c _ _ _ _ q=>by rw[j8 (x6 q d)];exact q
def Un.track{fs ex:on Mq}{H H':Hp}{h h':Mr}{a:Mq}{o:HO}(u:Un fs ex H H' h h')(hn:H' a=none)(hh:h.get? a=none):Un fs ex H (upd H' a o) h h' where
 keep:=u.keep
 slot:=u.slot
 free:=λ b ob q n hx=>by
  have:b≠a:=λ z=>by rw[z,hh]at q;cases q
  rw[j8 this];exact u.free b ob q n hx
 there:=u.there
 tups:=λ b xs q=>by have z:=u.tups b xs q;rw[j8 (x6 z hn)];exact z
 frzs:=λ b ob xs q=>by have z:=u.frzs b ob xs q;rw[j8 (x6 z hn)];exact z
 tbls:=λ b ps q=>by have z:=u.tbls b ps q;rw[j8 (x6 z hn)];exact z
structure CompScope(N N':List Str)(sc osc:Scope)(fr:List (Option Nat)):Prop where
 kind:sc.kind=.function
 nd:N'.Nodup
 snd:(sc.names.map (·.1)).Nodup
 len:fr.length=N'.length
 fre:∀(j i:Nat),fr[j]? = some (some i)->∃x,N'[j]? = some x/\N[i]? = some x/\(x,NameKind.free)∈sc.names
 out:∀y∈sc.names,y.2=NameKind.free->osc.names.lookup y.1=some .cell\/osc.names.lookup y.1=some .free
noncomputable def inner(fr:on (Mn Nat))(σ:St):St:=fr.map λ o=>o.bind λ i=>(σ[i]?).join
noncomputable def p4(X:Cx)(scope:MB)(N':on Str)(C:Mq)(cells:on (Str×Mq))(s₂:Mp)(H₂:Hp)(fp:on Mq):Cx:=
 {X with N:=N',s₀:=s₂,H₀:=H₂,env:=compEnvC scope cells C X.env,outer:=X.stack,stack:=X.stack,ex:=fp,fn:=λ x=>scope.names.lookup x==some .cell,pn:=[],xe:=λ _ _=>False}
abbrev M6:Obj:={cls:=.type "list",dict:=none,data:=.seq ([]:on Mo).toArray}
abbrev cQ:Obj:={cls:=.type "dict",data:=.dict #[]}
def Bb(S:NS N')(I:Inv X O σ H d)(f:∀b∈fp,FpOk X O H b)(ho:∀b∈fp,@LT.lt Nat _ b d.heap.objs.size)(hC:C=d.heap.objs.size+1)(M:U=pushCells ((d.heap.push M6).push cQ) scope.names) :
  Inv (p4 X scope N' C (cellsFrom (C+1) scope.names (l8 X.env.cells scope.names [])) d H fp) [] (inner fr σ) H {d with heap:=U} /\ U.get? d.heap.objs.size=some M6/\(∀b o,d.heap.get? b=some o->U.get? b=some o):=by
 have Q:(d.heap.push M6).objs.size=d.heap.objs.size+1:=B8 ..;have P:((d.heap.push M6).push cQ).objs.size=C+1:=by rw[B8,Q,hC]
 have h:∀b o,d.heap.get? b=some o->U.get? b=some o:=λ b o e=>by rw[M];exact jF _ _ b o (i5 _ (i5 _ e))
 have hD:U.get? d.heap.objs.size=some M6:=by rw[M];exact jF _ _ _ _ (i5 _ (m7 _ rfl))
 have a4:U.Ns C λ _=>none:=by have q:=(Heap.Ns.new (d.heap.push M6) (.type "dict")).keeps (jF scope.names _);rw[Q,←hC]at q;rw[M];exact q
 have ok:=cellsFrom_ok scope.names ((d.heap.push M6).push cQ) (C+1) [] ⟨λ _ _ A=>(nomatch A),List.Pairwise.nil⟩ (by rw[P];exact f6 _);rw[P,←M]at ok;have J:∀y∈scope.names,y.2=NameKind.free->∃c,X.env.cells.lookup y.1=some c:=λ y hy hk=>I.ok.has y.1 (S.out y hy hk);generalize Z:l8 X.env.cells scope.names []=cl;have F:∀{x:Str} {c:Mq},(x,c)∈cl->X.env.cells.lookup x=some c/\(x,NameKind.free)∈scope.names:=λ {x c} A=>by
  rw[←Z]at A;rcases cM J A with z | z
  ·exact nomatch z
  ·exact z
 generalize s:cellsFrom (C+1) scope.names []=own at ok;have a6:cellsFrom (C+1) scope.names cl=own++cl:=by rw[cN,s]
 rw[a6];have L:∀{x:Str} {c:Mq},(x,c)∈own->(x,NameKind.cell)∈scope.names:=λ {x c} A=>by rw[←s]at A;exact kW A
 have L1:∀x c,(own++cl).lookup x=some c->((x,c)∈own)\/(X.env.cells.lookup x=some c/\(x,NameKind.free)∈scope.names/\own.lookup x=none):=λ x c e=>by
  rw[cP]at e;cases q:own.lookup x with
  | some c'=>rw[q]at e;cases e;exact .inl (A9 q)
  | none=>rw[q]at e;have z:=F (A9 (show cl.lookup x=some c from e));exact .inr ⟨z.1,z.2,rfl⟩
 have g:=λ {x c} A=>(ok.empty x c A).2;have n:∀{x:Str} {c:Nat},X.env.cells.lookup x=some c->@LT.lt Nat _ c d.heap.objs.size:=λ {x c} e=>by obtain⟨v,z⟩:=I.cell x c e;exact z.lt
 have K:∀{x:Str},(x,NameKind.free)∈scope.names->own.lookup x=none:=λ {x} A=>by refine qx λ c Y=>?_;have a:=Y9 S.snd A;have b:=Y9 S.snd (L Y);rw[a]at b;cases b
 have B:∀{x:Str} {c:Mq},(x,NameKind.free)∈scope.names->X.env.cells.lookup x=some c->(own++cl).lookup x=some c:=λ {x c} A Y=>by rw[cP,K A];obtain⟨c',e⟩:=kX (l:=cl) (by rw[←Z];exact fL A Y);have z:=(F (A9 e)).1;rw[Y]at z;cases z;exact e
 have hX:(p4 X scope N' C (own++cl) d H fp).Ok:=by
  refine⟨I.ok.mod,S.kind,I.ok.glob,I.ok.blt,?_,λ x y c h1 h2=>?_,λ x hx=>?_,λ x c hf Y=>?_,I.ok.hd,I.ok.frames,.inl rfl,λ b R=>⟨?_,λ x c e=>?_⟩,I.bs,e9 I.ok.bsz I.sz,λ b o e R=>?_,λ b R hs=>?_,I.stack,⟨I.stkFree,I.tabs⟩⟩
  ·show d.heap.objs.size<=C;rw[hC];exact M4 _
  ·have h1:(own++cl).lookup x=some c:=h1;have h2:(own++cl).lookup y=some c:=h2;rcases L1 x c h1 with a | ⟨a,_⟩<;>rcases L1 y c h2 with b | ⟨b,_⟩
   ·exact name_of_addr ok.apart a b
   ·exfalso;have q1:=g a;have q2:=n b;omega
   ·exfalso;have q1:=g b;have q2:=n a;omega
   ·exact I.ok.inj x y c a b
  ·have E:(relabel scope X.env).names.lookup x=some .cell\/(relabel scope X.env).names.lookup x=some .free:=hx;show ∃c,(own++cl).lookup x=some c;rw[kY]at E;cases q:scope.names.lookup x with
   | none=>rw[q]at E;rcases E with z | z<;>cases z
   | some k=>
    have km:=A9 q;by_cases k1:k=.cell
    ·subst k1;have z:=eM scope.names (C+1) [] (.inl q);rw[s]at z;obtain⟨c,z⟩:=W8.mp z;exact⟨c,by rw[cP,z];rfl⟩
    ·by_cases k2:k=.free
     ·subst k2;obtain⟨c,e⟩:=J _ km rfl;exact⟨c,B km e⟩
     ·exfalso;rw[q]at E;have e0:(k==NameKind.free)=false:=A6.mpr k2;simp only[F5,e0,jM]at E;rcases E with z | z
      ·exact k1 (Nm z)
      ·exact k2 (Nm z)
  ·have a5:(scope.names.lookup x==some .cell)=true:=hf;have q:scope.names.lookup x=some .cell:=by simpa using a5
   have z:=eM scope.names (C+1) [] (.inl q);rw[s]at z;obtain⟨c',z⟩:=W8.mp z;have a0:(own++cl).lookup x=some c:=Y;rw[cP,z]at a0;have e:c'=c:=z9 a0;subst e;have:=g (A9 z);show @LE.le Nat _ d.heap.objs.size c';omega
  ·have:=ho b R;show @Ne Nat b C;omega
  ·rcases L1 x c e with a | ⟨a,_⟩
   ·have:=g a;have:=ho b R;show @Ne Nat c b;omega
   ·exact(f b R).2.2.2.2.1 x c a
  ·rcases(f b R).2.2.2.1 with z | z
   ·exact I.ok.noex b o e z
   ·exact absurd (o4 (j6 e) (e9 I.ok.bsz z)) (J8 _)
  ·rcases f8.mp (I.stkSub b hs)with z | z
   ·exact(f b R).2.1 z
   ·exact(f b R).2.2.1 z
 refine⟨⟨hX,rfl,I.bare,Un.kept h,⟨_,a4,λ i x v e1 W e3=>?_⟩,λ x c e=>?_,I.hok.fresh (by show @LE.le Nat _ d.heap.objs.size C;omega),λ x c e=>?_,λ p hp=>absurd (show p∈([]:on (Mq×Obj))from hp) MP,I.hok.kept h,?_⟩,hD,h⟩
 ·have e1:N'[i]? = some x:=e1;unfold inner at W;rw[n7]at W;cases q:fr[i]? with
  | none=>rw[q]at W;cases W
  | some o=>
   rw[q]at W;cases o with
   | none=>cases W
   | some j=>
    have N:(σ[j]?).join=some v:=z9 W;have hv:σ[j]? = some (some v):=by
     cases z:σ[j]? with
     | none=>rw[z]at N;cases N
     | some o=>rw[z]at N;rw[show o=some v from N]
    obtain⟨x',a1,a2,a3⟩:=S.fre i j q;rw[e1]at a1;cases a1;obtain⟨m,hn,hl⟩:=I.loc;have ko:=S.out _ a3 rfl;obtain⟨u,r,l⟩:=hl j x v a2 hv (ko.elim (λ z=>.inr (.inl z)) λ z=>.inr (.inr z));rcases l with⟨k,_⟩ | ⟨k,c,e,z⟩
    ·have k':X.env.scope.names.lookup x=some .local:=k;rcases ko with w | w<;>(rw[show X.env.scope.names.lookup x=_ from w]at k';cases k')
    ·refine⟨u,r,.inr ⟨?_,c,B a3 e,z.keeps h⟩⟩;show(relabel scope X.env).names.lookup x=some .cell\/(relabel scope X.env).names.lookup x=some .free;rw[kY,Y9 S.snd a3];simp only[F5];split
     ·exact .inl rfl
     ·exact .inr rfl
 ·rcases L1 x c e with a | ⟨a,_⟩
  ·exact⟨none,(ok.empty x c a).1⟩
  ·obtain⟨v,z⟩:=I.cell x c a;exact⟨v,z.keeps h⟩
 ·rcases L1 x c e with a | ⟨a,_⟩
  ·exact I.hok.fresh (by have:=g a;show @LE.le Nat _ d.heap.objs.size c;omega)
  ·exact I.freeC x c a
 ·show(inner fr σ).length=N'.length;unfold inner;rw[d9,S.len]
def PTs(X:Cx)(ifs:on Ms)(t:TT):Prop:=
 ∀(pins:NB) (s:Mp) (σ:St) (H:Hp) (Q:Bool->Hp->Prop),Inv X pins σ H s->t σ H Q ->
  wpAny MI X.A (forIn ifs true λ c r=>if r=true then do let ok ←isTrue c X.env (eval c X.env);pure (ForInStep.yield ok)else pure (ForInStep.yield r)) (TP X pins σ Q) X.xe s
def tYes:TT:=λ _ H Q=>Q true H
def Bc:PTs X [] tYes:=λ _ _ _ H _ I h=>wpAny_tests_nil ⟨H,I,h⟩
def Be(h:PT X c t):PTs X [c] t:=λ a s b H Q I d=>wpAny_tests_one (h a s b H Q I d)
def kZ(J:It)(g:TG)(tc:TT)(te:TE)(Fin:on V->Hp->Prop)(σ:St)(H:Hp):Prop:=
 ∃W:Nat->Nat->on V->St->Hp->Prop,(∃m,W 0 m [] σ H)/\∀i m ys σ H,W i m ys σ H ->
  (J.stop i H/\Fin ys H)\/(J.go i H/\ys.length<sizeLine/\∀x H',J.yld i H x H'->g x σ H' λ σ2 H2=>tc σ2 H2 λ b H3=>
   if b=true then te σ2 H3 λ y H4=>∃m',m'<m/\W (i+1) m' (ys++[y]) σ2 H4 else ∃m',m'<m/\W (i+1) m' ys σ2 H3)
def Vals.snoc(r:Vals xs a)(q:RelV x u):Vals (xs++[x]) (a++[u]):=r.append (.cons q .nil)
def qy{K:on (Mq×Obj)}
   {RR:Mo->Mq->Result->Mp->Prop}
  (S:NS L) (hc:NN)
  (hg:∀C j a B fp,PG (p4 X scope L C j a B fp) tg g) (ht:∀C j a B fp,PTs (p4 X scope L C j a B fp) a3 tc) (he:∀C j a B fp,PE (p4 X scope L C j a B fp) elt te)
  (I:Inv X K σ H a) (T:Turn X.prog X.w X.K tg J fp it tn) (st:tn 0 a.heap) (f:∀b∈fp,FpOk X K H b) (h:kZ J g tc te c0 (inner fr σ) H)
  (c4:∀D C A P m O,Inv X K σ (upd A D (.lst O)) P->A D=none->P.heap.Ns C m->upd A D (.lst O) C=none->C≠X.env.locals->X.s₀.heap.objs.size<=C->(∀x c,X.env.cells.lookup x=some c->c≠C)->(∀p∈X.pn++K,p.1≠C)->c0 O A->RR (.ref D) C (.ok .next) P) :
  wpAny MI X.A (newList []) (λ b8 a8=>wpAny MI X.A (newFunctionEnv scope X.env.globals (l8 X.env.cells scope.names []) [] X.env.qual none .none (some X.env)) (λ a1 a7=>
   codeAny MI X.A (.compStart (.ListComp elt [⟨tg,a0,a3,0⟩] scope pos) 0 (.ref it) b8 {a1 with scope:=relabel scope X.env}) (RR b8 a1.locals) a7) E a8) E a:=by
 have ho:∀b∈fp,b<a.heap.objs.size:=λ b s=>by obtain⟨o,e,_⟩:=T.obj _ _ st b s;exact j6 e
 refine E1 (AZ ?_);have b0:(a.heap.push M6).objs.size=a.heap.objs.size+1:=B8 ..;obtain⟨I4,b6,Z⟩:=Bb (C:=a.heap.objs.size+1) S I f ho rfl rfl;show codeAny _ _ _ (RR (.ref a.heap.objs.size) (a.heap.push M6).objs.size) {a with heap:=pushCells ((a.heap.push M6).push cQ) scope.names};rw[b0];generalize b4:a.heap.objs.size=D at *;generalize cellsFrom (D+1+1) scope.names (l8 X.env.cells scope.names [])=j at *;generalize pushCells ((a.heap.push M6).push cQ) scope.names=h4 at *;have a4:∀{w:on (Mq×Obj)} {A:Hp},(∀b∈fp,A b=none)->(∀p∈w,p.1=D)->∀b∈fp,FpOk NH w A b:=λ {w A} hn N b s=>
  ⟨hn b s,(I4.ok.exf b s).1,I4.ok.exfs b s,.inl s,(I4.ok.exf b s).2,λ p R z=>by
   have R:p∈([]:on (Mq×Obj))++w:=R;rw[eY]at R;have:=ho b s;rw[←z,N p R]at this;exact J8 _ this⟩
 obtain⟨W,⟨m0,w0⟩,a6⟩:=h;have b5:D≠(NH).env.locals:=by show D≠D+1;omega
 have U:∀x c,(NH).env.cells.lookup x=some c->c≠D:=λ x c e z=>by
  obtain⟨v,o,c1,hd⟩:=I4.cell x c e;have q:h4.get? D=some o:=by rw[←z];exact c1
  rw[b6]at q;cases q;cases hd
 have b3:D∉(NH).fs:=λ z=>by
  obtain⟨_,o,c2,_⟩:=I4.ok.funs.mem z
  have:=j6 c2;have e:a.heap.objs.size=D:=b4;exact absurd this (by show ¬D<a.heap.objs.size;omega)
 have Y:codeAny MI X.A (.compLoop (.ListComp elt [⟨tg,a0,a3,0⟩] scope pos) 0 (.ref it) (.ref D) (compEnvC scope j (D+1) X.env)) (RR (.ref D) (D+1)) {a with heap:=h4}:=by
  refine Ba (λ n P=>∃i O l k a5 A,Inv NH [] a5 A P/\tn i P.heap/\(∀b∈fp,A b=none)/\A D=none /\
   P.heap.get? D=some {cls:=.type "list",data:=.seq (l:on Mo).toArray k} /\ Vals O l/\O.length<=sizeLine/\W i n O a5 A) ?_ m0
   ⟨0,[],[],_,_,H,I4,T.keep _ _ _ st λ b _ o e=>Z b o e,λ b s=>(f b s).1,I.hok.fresh KE,b6,.nil,u9 _,w0⟩
  rintro n s3 ⟨i,O,l,k,σ3,H3,I3,st3,fr3,hD3,oD3,rv,hl,w3⟩
  have b9:Inv NH [(D,{cls:=.type "list",data:=.seq l.toArray k})] σ3 H3 s3:=I3.pins_of λ p N=>by
   have e:p=(D,{cls:=.type "list",data:=.seq l.toArray k}):=by simpa using N
   subst e;exact⟨oD3,hD3,b5,b3,λ v z=>by cases z⟩
  have Q:∀p∈[((D:Mq),({cls:=.type "list",data:=.seq l.toArray k}:Obj))],p.1=D:=λ p N=>by
   have e:p=(D,{cls:=.type "list",data:=.seq l.toArray k}):=by simpa using N
   subst e;rfl
  rcases a6 i n O σ3 H3 w3 with⟨a9,c8⟩ | ⟨go,hlt,step⟩
  ·refine thn (T.done NH rfl rfl rfl hc i _ s3 σ3 H3 _ b9 (a4 fr3 Q) st3 a9) λ r s4 t0=>?_;obtain⟨hr,F⟩:=t0;subst hr;have oD:=(F.pin (D,_) (t8 _ i9)).1;have un:Un (frs X.stack) fp H H3 a.heap s4.heap:=F.base;have hn:a.heap.get? D=none:=X3 (by rw[b4];exact f6 _);obtain⟨mC,c3,_⟩:=F.loc;refine c4 D (D+1) H3 s4 mC O (I.call' F.os (un.track hD3 hn) (F.hok.track hD3 ⟨hl,l,k,rv,oD⟩) F.bare λ b s=>?_) hD3 c3 ?_ ?_ ?_ (λ x c e=>?_) (λ p N=>?_) c8
   ·obtain⟨_,f1,f2,f3,f4,f5⟩:=f b s;exact⟨f3,f1,f4,f5⟩
   ·rw[j8 (show @Ne Nat (D+1) D by omega)];exact F.free
   ·have q:@LT.lt Nat _ X.env.locals a.heap.objs.size:=I.lt;show @Ne Nat (D+1) X.env.locals;omega
   ·have q:@LE.le Nat _ X.s₀.heap.objs.size a.heap.objs.size:=I.sz;show @LE.le Nat _ X.s₀.heap.objs.size (D+1);omega
   ·obtain⟨v,z⟩:=I.cell x c e;have q:@LT.lt Nat _ c a.heap.objs.size:=z.lt;show @Ne Nat c (D+1);omega
   ·have q:@LT.lt Nat _ p.1 a.heap.objs.size:=j6 (I.pin p N).1;show @Ne Nat p.1 (D+1);omega
  ·refine thn (T.item NH rfl rfl rfl hc i _ s3 σ3 H3 _ b9 (a4 fr3 Q) st3 go) λ r s4 t0=>?_;obtain⟨u,hr,c6⟩:=t0;subst hr;refine thn c6 λ _ s5 t0=>?_;obtain⟨x,H5,I5,r5,y5,a2,c7⟩:=t0;have c9:=I5.pinned (a4 c7 Q) (T.obj _ _ a2);refine A8 (hg (D+1) j a H fp _ s5 σ3 H5 x u _ c9 r5 (step x H5 y5)) (λ _ s6 ⟨M,H6,I6,q6⟩=>?_) λ _ _ z=>z.elim;refine A8 (ht (D+1) j a H fp _ s6 M H6 _ I6 q6) (λ b s7 ⟨H7,I7,q7⟩=>?_) λ _ _ z=>z.elim;have b7:∀{A:Hp} {P:Mp},Inv NH ([(D,{cls:=.type "list",data:=.seq l.toArray k})]++fI fp s5.heap) M A P->tn (i+1) P.heap/\(∀b∈fp,A b=none)/\P.heap.get? D=some {cls:=.type "list",data:=.seq l.toArray k} /\ A D=none:=λ {A P} J'=>by
    refine⟨T.keep _ _ _ a2 λ b s o e=>(J'.pin (b,o) (t8 _ (t8 _ (aN s e)))).1,λ b s=>?_,?_,?_⟩
    ·obtain⟨o,e,d⟩:=T.obj _ _ a2 b s;exact(J'.pin (b,o) (t8 _ (t8 _ (aN s e)))).2.1
    ·exact(J'.pin (D,_) (t8 _ (w6 _ i9))).1
    ·exact(J'.pin (D,_) (t8 _ (w6 _ i9))).2.1
   cases b with
   | false=>
    rw[e7 w9]at q7 ⊢;obtain⟨m',hm,w7⟩:=q7;obtain⟨k1,k2,k3,k4⟩:=b7 I7;exact⟨m',hm,i+1,O,l,k,M,H7,I7.pins_of (λ p N=>(nomatch N)),k1,k2,k4,k3,rv,hl,w7⟩
   | true=>
    rw[d6 rfl]at q7 ⊢;refine A8 (he (D+1) j a H fp _ s7 M H7 _ I7 q7) (λ y s8 ⟨v8,H8,I8,r8,q8⟩=>?_) λ _ _ z=>z.elim
    obtain⟨m',hm,w8⟩:=q8;obtain⟨k1,k2,k3,k4⟩:=b7 I8;have b2:l.length<=sizeLine:=by rw[←rv.length];exact hl
    refine append_at k3 (λ h9 b1 c5=>?_) (by rw[t7];exact b2);have I9:Inv NH [] M H8 s8:=I8.pins_of λ p N=>(nomatch N);refine⟨m',hm,i+1,O++[v8],l++[y],k+1,M,H8,I9.turned (it:=D) (t':=s8.toks) (λ b o s e=>(b1.2 b s).trans e) k4 b5 (.inr (by show a.heap.objs.size<=D;omega)) U (λ p N=>(nomatch N)),?_,k2,k4,?_,rv.snoc r8,?_,w8⟩
    ·exact T.keep _ _ _ k1 λ b s o e=>(b1.2 b (by have q:@LT.lt Nat _ b D:=ho b s;show @Ne Nat b D;omega)).trans e
    ·rw[c5,List.push_toArray]
    ·rw[p7,L9];omega
 exact codeAny_compStart_list Y (T.self X.A 0 _ _ _ (T.keep _ _ _ st λ b _ o e=>Z b o e) Y)
def lc(fr:on (Mn Nat))(wi:TI)(g:TG)(tc:TT)(te:TE):TE:=λ σ H Q=>wi σ H λ J H1=>kZ J g tc te (λ ys H'=>∀p,H' p=none->Q (.ref p) (upd H' p (MZ ys))) (inner fr σ) H1
def Bf{K:TT}(S:NS k)(hc:NN)(Y:PI X tg f E)
  (Z:∀C a c d fp,PG (p4 X scope k C a c d fp) tg g) (P:∀C a c d fp,PTs (p4 X scope k C a c d fp) j K) (he:∀C a c d fp,PE (p4 X scope k C a c d fp) elt F)
  (R:∀x,foldedSetIterable f X.env x=pure x:=by intro _;rfl):PE X (.ListComp elt [⟨tg,f,j,0⟩] scope pos) (lc fr E g K F):=by
 intro i s L H Q I h;rw[eval_ListComp];refine oZ rfl R (kR (λ y N W=>I.ok.has y.1 (S.out y N W))) S.kind (λ x O U=>Y9 S.snd (by rw[←U];exact O)) (thn (Y i s L H _ I h) λ v s1 h1=>thn h1 λ M s2 h2=>?_);obtain⟨it,fp,tn,J,H2,e,I2,T,l,f2,w⟩:=h2;subst e;refine qy S hc Z P he I2 T l f2 w ?_;intro D C H' s' m ys I' hD p u A q z r B;exact⟨m,p,λ h' n=>⟨.ref D,_,I'.turned (λ b o hb e=>(n.2 b hb).trans e) u A (.inr q) z r,rfl,B D hD⟩⟩
def Bg(S:NS u)(hc:NN)(hN:X.N.Nodup)(L:X.N[i]? = some y)
  (r:X.env.scope.names.lookup y=some .local) (hi:PI X tg j R)
  (hg:∀C c d f fp,PG (p4 X scope u C c d f fp) tg g) (ht:∀C c d f fp,PTs (p4 X scope u C c d f fp) l W) (he:∀C c d f fp,PE (p4 X scope u C c d f fp) elt U)
  (B:swapsWith (.ListComp elt [⟨tg,j,l,0⟩] scope pos) (some (.Name y Y)) k.line X.env=pure true:=by rfl)
  (hs:∀x,foldedSetIterable j X.env x=pure x:=by intro _;rfl):PS X (.Assign [.Name y Y] (.ListComp elt [⟨tg,j,l,0⟩] scope pos) k) (tAsg (lc fr R g W U) (cK i)):=by
 intro n s Z H Dn I h;rw[exec_Assign_Name_used _ _ _ _ B];refine d4 (cr (d4 ?_));show wpAny _ _ _ _ _ s;refine d4 (A8 (oZ rfl hs (kR (λ y r hk=>I.ok.has y.1 (S.out y r hk))) S.kind (λ x hx hl=>Y9 S.snd (by rw[←hl];exact hx))
  (thn (hi n s Z H _ I h) λ v s1 h1=>thn h1 λ itv s2 h2=>?_)) (λ _ s' hq=>e8 (e8 hq)) λ _ _ e=>e)
 obtain⟨it,fp,tn,J,H2,e,I2,T,A,f2,w⟩:=h2;subst e;refine qy S hc hg ht he I2 T A f2 w ?_;intro D C H' s' m ys I' hD K O q M p N P;refine wpAny_assign_Name (pK (v:=.ref D) I' hN L (Or.inl r) rfl (λ s'' Q ⟨a,E,ha⟩=>⟨m,K.sameBut E ?_,λ h' F=>⟨_,_,Q.turned (λ b o hb e=>(F.2 b hb).trans e) O q (.inr M) p N,P D hD⟩⟩) (.inr r));rcases ha with z | z
 ·rw[z];exact q
 ·exact Ne.symm (p y a z)
abbrev cxD(P:Mw)(w:Mv)(K:MA)(mg:Str->Mn Mo)(base:Mr)(N:on Str)(qual:Str)(scope:MB)(f:Mq)(cd:Mo)(A:My)(outer:on Env)(s:Mp)(H:Hp):Cx:=cxOf CX0 P w K mg base N qual scope f cd A outer s H E0
theorem Inv.track(I:MN pins)(f:H a=none)(k:X.s₀.heap.get? a=none)(j:a≠X.env.locals)(i:∀x c,X.env.cells.lookup x=some c->c≠a)(h:∀p∈X.pn++pins,p.1≠a)(new:t6 X.prog X.w (upd H a o) s.heap a o) :
  Inv X pins σ (upd H a o) s:=
 ⟨I.ok,I.os,I.bare,I.base.track f k,I.loc,I.cell,by rw[j8 j.symm];exact I.free,λ x c e=>by rw[j8 (i x c e)];exact I.freeC x c e,λ p b=>by
  obtain⟨e,n,ne,g,d⟩:=I.pin p b;exact⟨e,by rwa [j8 (h p b)],ne,g,d⟩,I.hok.track f new,I.len⟩
structure Src(P:Program)(w:World)(ia la:Addr)(vs:Array Value)(S:Nat->Heap->Prop):Prop where
 keep:∀k h h',S k h->(∀o,h.get? ia=some o->h'.get? ia=some o)->(∀o,h.get? la=some o->h'.get? la=some o)->S k h'
 there:∀k h,S k h->∃o xs,h.get? ia=some o/\o.data=.fields xs
 step:∀{A:Around} {E:Value->Shared->Prop} {s:Shared} {Q:Value->Shared->Prop} (k:Nat) (x:Value),S k s.heap->vs[k]? = some x->(∀h',S (k+1) h'->Heap.SameBut ia s.heap h'->Q x {s with heap:=h'}) ->
  wpAny NY A (Builtin.SmallTypes.nextOf (.ref ia)) Q E s
 stop:∀{A:Around} {E:Value->Shared->Prop} {s:Shared} {Q:Value->Shared->Prop} (k:Nat),A.handled=none->S k s.heap->vs[k]? = none ->
  (∀h' e,Heap.ExtBut ia s.heap h'->(∃o,h'.get? e=some o/\o.cls=.type "StopIteration")->E (.ref e) {s with heap:=h'})->wpAny NY A (Builtin.SmallTypes.nextOf (.ref ia)) Q E s
noncomputable def sL(ia la:Mq)(vs:Mu Mo):Nat->Mr->Prop:=λ k h=>h.IsListIter ia la k/\h.IsList la vs
noncomputable def sT(ia la:Mq)(vs:Mu Mo):Nat->Mr->Prop:=λ k h=>h.IsTupleIter ia la k/\h.IsTuple la vs
def Bh(ne:a≠b):Src P w b a vs (sL b a vs) where
 keep:=λ k h i ⟨p,q⟩ n m=>⟨p.at n,q.at m⟩
 there:=λ k h ⟨p,q⟩=>by obtain⟨o,e,_,d⟩:=p;exact⟨o,_,e,d⟩
 step:=λ k x ⟨p,q⟩ c f=>wpAny_nextOf_list_item p q c λ i j g=>f i ⟨j,q.extBut g.extBut ne⟩ g
 stop:=λ k l ⟨p,q⟩ c f=>wpAny_nextOf_list_end l p q c f
def Bj(p:s.heap.IsTupleIter b a k)(q:s.heap.IsTuple a vs)(f:vs[k]? = some x)(g:∀e,e.IsTupleIter b a (k+1)->Heap.SameBut b s.heap e->Q x {s with heap:=e}) :
  wpAny NY A (Builtin.SmallTypes.nextOf (.ref b)) Q E s:=by
 obtain⟨ob,d,j,c⟩:=id p;obtain⟨ot,i,_,nn,h⟩:=q;unfold Builtin.SmallTypes.nextOf;refine d4 (L7 p.typeIs eI (C9 eI p.typeIs oQ ?_ (oP _)));show wpAny _ _ (field (.ref b) 0 >>= _) _ _ s;refine d4 (x5 d c (x:=.ref a) rfl ?_);show wpAny _ _ _ _ _ s;rw[e7 (show ¬((Value.ref a==Value.none)=true)from w9)];show wpAny _ _ (field (.ref b) 1 >>= _) _ _ s;refine d4 (x5 d c (x:=.int k 0) rfl ?_);show wpAny _ _ (seqItems? (.ref a) >>= _) _ _ s;refine d4 (N8 i h ?_);simp only[v9,f];refine d4 (U6 d c MP (e8 ⟨x,rfl,e8 (g _ ?_ (F3 ..))⟩));exact⟨_,X2 _ d (iX (av c _)),(jm ..).trans j,by rw[av c];simp[rawInt]⟩
def Bk(g:NT)(p:s.heap.IsTupleIter b a k)(q:s.heap.IsTuple a vs)(h:vs[k]? = none)(i:∀c e,Heap.ExtBut b s.heap c->(∃o,c.get? e=some o/\o.cls=.type "StopIteration")->E (.ref e) {s with heap:=c}) :
  wpAny NY A (Builtin.SmallTypes.nextOf (.ref b)) Q E s:=by
 obtain⟨ob,f,e2,d⟩:=id p;obtain⟨ot,l,_,nn,j⟩:=q;unfold Builtin.SmallTypes.nextOf;refine d4 (L7 p.typeIs eI (C9 eI p.typeIs oQ ?_ (oP _)));show wpAny _ _ (field _ 0 >>= _) _ _ s;refine d4 (x5 f d (x:=.ref a) rfl ?_);show wpAny _ _ _ _ _ s;rw[e7 (show ¬((Value.ref a==Value.none)=true)from w9)];show wpAny _ _ _ _ _ s;refine d4 (x5 f d rfl ?_);show wpAny _ _ _ _ _ s;refine d4 (N8 l j ?_);simp only[v9,h];refine d4 (U9 (d4 (U6 f d MP ?_)));show wpAny _ _ _ _ _ _;refine d4 ?_;simp only[newExc,newTuple];refine d4 (E1 ?_ (by size_fits));refine d4 (cD (by first | rfl | (simp only[firstArgMember];rfl)) ?_);refine E1 ?_ (by size_fits);refine d4 (jT ?_)
 first | rw[show A.in1.handled=none from g] | rw[g]
 refine d4 (e8 (wpAny_throw (i _ _ (((F3 ..).extBut.push _).push _) ⟨_,m7 _ rfl,rfl⟩)))
def Bl(ne:a≠b):Src P w b a vs (sT b a vs) where
 keep:=λ k h i ⟨p,q⟩ n m=>⟨by obtain⟨o,e,r⟩:=p;exact⟨o,n o e,r⟩,by obtain⟨o,e,r⟩:=q;exact⟨o,m o e,r⟩⟩
 there:=λ k h ⟨p,q⟩=>by obtain⟨o,e,_,d⟩:=p;exact⟨o,_,e,d⟩
 step:=λ k x ⟨p,q⟩ c f=>Bj p q c λ i j g=>f i ⟨j,q.extBut g.extBut ne⟩ g
 stop:=λ k l ⟨p,q⟩ c f=>Bk l p q c f
def Src.ext(R:Src P w c b vs S)(q:S k h)(hs:Heap.ExtBut e h a)(f:c≠e)(d:b≠e):S k a:=R.keep k h a q (λ o z=>hs _ _ f z) (λ o z=>hs _ _ d z)
def Bm{S1:Nat->Mr->Prop}{Q:Mo->Mp->Prop}(D:ZipApart Z U W a b l1 l2)(i:Src P w a l1 vs1 S1)(R2:Src P w b l2 vs2 S2)(u:IsZip s.heap Z U W .none)(hU:IsPair s.heap U (.ref a) (.ref b))(hW:IsPair s.heap W c d)(h1:S1 k s.heap)(h2:S2 k s.heap)(hx:vs1[k]? = some x)(hy:vs2[k]? = some y)
  (hQ:∀g,IsZip g Z U W (rawInt s.heap.objs.size)->IsPair g W x y->S1 (k+1) g->S2 (k+1) g->IsPair g s.heap.objs.size x y->g.objs.size=s.heap.objs.size+1->(∀e o,e≠Z->e≠W->e≠a->e≠b->s.heap.get? e=some o->g.get? e=some o)->Q No {s with heap:=g}) :
  wpAny NY A (Builtin.«zip.__next__» ⟨[.ref Z],[]⟩) (λ S s'=>∃v,S=.done (.ret v)/\Q v s') E s:=by
 show wpAny _ _ (field (.ref Z) 2 >>= _) _ _ _;refine d4 (x5 u rfl rfl ?_);show wpAny _ _ _ _ _ _;refine d4 (x5 u rfl rfl (d4 (N8 hU rfl ?_)));show wpAny _ _ _ _ _ _;refine d4 ?_;unfold Builtin.SmallTypes.ownedTupleIsFree;refine d4 (x5 u rfl rfl (e8 ?_));simp only[if_true];refine d4 (U9 (d4 (x5 u rfl rfl ?_)));refine d4 (B6 u MP λ g1 K r=>?_)
 replace K:IsZip g1 Z U W .ellipsis:=K
 refine d4 ?_;simp only[List.zipIdx_cons,List.zipIdx_nil,jD,List.forIn_nil];refine d4 (d4 (fw ?_));show wpAny _ _ _ _ _ _;refine d4 (i.step k x (i.ext h1 r.extBut D.i1z D.l1z) hx λ g2 r2 q=>e8 ?_);have w2:=q.extBut _ _ D.TOi1 (r.extBut _ _ D.TOz hW);refine d4 (N8 w2 rfl (d4 (iZ w2 λ g3 L p=>?_)))
 replace L:IsPair g3 W x d:=L
 refine d4 (aJ (e8 ?_));refine d4 (d4 (fw ?_));show wpAny _ _ _ _ _ _;refine d4 (R2.step k y (R2.ext (R2.ext (R2.ext h2 r.extBut D.i2z D.l2z) q.extBut D.i12.symm D.l2i1) p.extBut D.TOi2.symm D.l2TO) hy λ g4 r4 m=>e8 ?_);have Y:=m.extBut _ _ D.TOi2 L;refine d4 (N8 Y rfl (d4 (iZ Y λ f F l=>?_)))
 replace F:IsPair f W x y:=F
 refine d4 (aJ (e8 (e8 (d4 (N8 F rfl (d4 (fi ?_)))))));have sz:f.objs.size=s.heap.objs.size:=by rw[l.1,m.1,p.1,q.1,r.1]
 have X:=l.extBut _ _ D.TOz.symm (m.extBut _ _ D.i2z.symm (p.extBut _ _ D.TOz.symm (q.extBut _ _ D.i1z.symm K)));have j:=j6 X;show wpAny _ _ _ _ _ _;refine d4 ?_;unfold Builtin.SmallTypes.ownedTupleHandOut;refine d4 (B6 (i5 _ X) MP λ g7 J N=>?_)
 replace J:IsZip g7 Z U W _:=J
 refine B6 J MP λ B C M=>?_
 replace C:IsZip B Z U W _:=C
 have h:∀e o,e≠Z->f.get? e=some o->B.get? e=some o:=λ e o n z=>M.extBut _ _ n (N.extBut _ _ n (i5 _ z));have T8:=M.extBut _ _ (M3 j) (N.extBut _ _ (M3 j) (m7 _ rfl));have s8:B.objs.size=f.objs.size+1:=by rw[M.1,N.1,B8]
 rw[sz]at C T8 s8;refine e8 ⟨_,rfl,?_⟩;show Q _ _;rw[sz];exact hQ B C (h _ _ D.TOz F) (i.keep _ _ _ (i.ext (i.ext (i.ext r2 p.extBut D.TOi1.symm D.l1TO) m.extBut D.i12 D.l1i2) l.extBut D.TOi1.symm D.l1TO) (λ o z=>h _ o D.i1z z) (λ o z=>h _ o D.l1z z)) (R2.keep _ _ _ (R2.ext r4 l.extBut D.TOi2.symm D.l2TO) (λ o z=>h _ o D.i2z z) (λ o z=>h _ o D.l2z z)) T8 s8 λ e o I H R O z=>h e o I ((λ e o I H R O z=>l.extBut _ _ H (m.extBut _ _ O (p.extBut _ _ H (q.extBut _ _ R (r.extBut _ _ I z))))) e o I H R O z)
def Bn{P:Mw}{w:Mv}{A:My}{s:Mp}{k:Nat}{S1 S2:Nat->Mr->Prop}{c d:Mo}(Y:NT)(D:ZipApart Z U W a b X S)(y:Src P w a X i S1)(R2:Src P w b S g S2)(r:IsZip s.heap Z U W .none)(hU:IsPair s.heap U (.ref a) (.ref b))(hW:IsPair s.heap W c d)(h1:S1 k s.heap)(h2:S2 k s.heap)(u:i[k]? = none\/g[k]? = none)
  (hE:∀I e,(∀f o,f≠Z->f≠W->f≠a->f≠b->s.heap.get? f=some o->I.get? f=some o)->(∃o,I.get? e=some o/\o.cls=.type "StopIteration")->E (.ref e) {s with heap:=I}) :
  wpAny NY A (Builtin.«zip.__next__» ⟨[.ref Z],[]⟩) Q E s:=by
 show wpAny _ _ (field (.ref Z) 2 >>= _) _ _ _;refine d4 (x5 r rfl (x:=.bool false) rfl ?_);show wpAny _ _ (field (.ref Z) 3 >>= _) _ _ _;refine d4 (x5 r rfl (x:=.ref U) rfl (d4 (N8 hU rfl ?_)));show wpAny _ _ (Builtin.SmallTypes.ownedTupleIsFree (.ref Z) >>= _) _ _ _;refine d4 ?_;unfold Builtin.SmallTypes.ownedTupleIsFree;refine d4 (x5 r rfl (x:=.none) rfl (e8 ?_));simp only[if_true];refine d4 (U9 (d4 (x5 r rfl (x:=.ref W) rfl ?_)));refine d4 (B6 r MP λ g1 v n=>?_)
 replace v:IsZip g1 Z U W .ellipsis:=v
 refine d4 ?_;simp only[List.zipIdx_cons,List.zipIdx_nil,jD,List.forIn_nil];refine d4 (d4 (fw ?_));show wpAny _ _ (Builtin.SmallTypes.nextOf (.ref a) >>= _) _ _ _;cases F:i[k]? with
 | none=>
  refine d4 (y.stop k Y (y.ext h1 n.extBut D.i1z D.l1z) F λ J e j H=>?_);obtain⟨B,l,p⟩:=H;have M:IsZip J Z U W .ellipsis:=j _ _ D.i1z.symm v;have K:e≠Z:=λ z=>by subst z;rw[M]at l;cases l;simp at p
  exact B6 M MP λ g3 _ m=>hE g3 e (λ f o q _ C _ z=>m.extBut _ _ q (j _ _ C (n.extBut _ _ q z))) ⟨B,m.extBut _ _ K l,p⟩
 | some x=>
  have hy:g[k]? = none:=by rcases u with h | h;rw[F]at h;cases h;exact h
  refine d4 (y.step k x (y.ext h1 n.extBut D.i1z D.l1z) F λ J r2 j=>e8 ?_);have N:IsPair J W c d:=j.extBut _ _ D.TOi1 (n.extBut _ _ D.TOz hW);refine d4 (N8 N rfl (d4 (iZ N λ g3 w3 m=>?_)));refine d4 (aJ (e8 ?_));refine d4 (d4 (fw ?_));show wpAny _ _ (Builtin.SmallTypes.nextOf (.ref b) >>= _) _ _ _;refine d4 (R2.stop k Y (R2.ext (R2.ext (R2.ext h2 n.extBut D.i2z D.l2z) j.extBut D.i12.symm D.l2i1) m.extBut D.TOi2.symm D.l2TO) hy λ g4 e R H=>?_);obtain⟨B,l,p⟩:=H;have L:IsZip g4 Z U W .ellipsis:=R _ _ D.i2z.symm (m.extBut _ _ D.TOz.symm (j.extBut _ _ D.i1z.symm v));have K:e≠Z:=λ z=>by subst z;rw[L]at l;cases l;simp at p
  exact B6 L MP λ g5 _ O=>hE g5 e (λ f o q n2 C n4 z=>O.extBut _ _ q (R _ _ n4 (m.extBut _ _ n2 (j.extBut _ _ C (n.extBut _ _ q z))))) ⟨B,O.extBut _ _ K l,p⟩
def Bo{S1:Nat->Mr->Prop}(D:ZipApart Z U W a b l1 l2)(H:Src P w a l1 vs1 S1)(R2:Src P w b l2 vs2 S2)(g:IsZip s.heap Z U W .none)(l:IsPair s.heap U (.ref a) (.ref b))(j:IsPair s.heap W c d)(p:S1 k s.heap)(n:S2 k s.heap)(i:vs1[k]? = some x)(h:vs2[k]? = some y)
  (m:∀f,IsZip f Z U W (rawInt s.heap.objs.size)->IsPair f W x y->S1 (k+1) f->S2 (k+1) f->IsPair f s.heap.objs.size x y->f.objs.size=s.heap.objs.size+1->(∀e o,e≠Z->e≠W->e≠a->e≠b->s.heap.get? e=some o->f.get? e=some o)->Q (some No) {s with heap:=f}) :
  wpAny NY A (pyNext (.ref Z)) Q E s:=by
 have T:s.TypeIs (.ref Z) "zip":=⟨_,g,rfl⟩;unfold pyNext;exact d4 (N9 (L7 T eZ (C9 eZ T F.entry_zip_next (Bm D H R2 g l j p n i h λ f C B z v u r q=>e8 (m f C B z v u r q)) (F.args_zip_next_1 _))))
def Bp{S1:Nat->Mr->Prop}(n:NT)(D:ZipApart Z U W a b l1 l2)(y:Src P w a l1 vs1 S1)(R2:Src P w b l2 vs2 S2)(i:IsZip s.heap Z U W .none)(r:IsPair s.heap U (.ref a) (.ref b))(q:IsPair s.heap W c d)(x:S1 k s.heap)(v:S2 k s.heap)(g:vs1[k]? = none\/vs2[k]? = none)
  (u:∀h,(∀f o,f≠Z->f≠W->f≠a->f≠b->s.heap.get? f=some o->h.get? f=some o)->Q none {s with heap:=h}):wpAny NY A (pyNext (.ref Z)) Q E s:=by
 have T:s.TypeIs (.ref Z) "zip":=⟨_,i,rfl⟩;unfold pyNext;refine d4 (N9 (L7 T eZ (C9 eZ T F.entry_zip_next (Bn n D y R2 i r q x v g λ h e m p=>?_) (F.args_zip_next_1 _))));obtain⟨o,l,j⟩:=p;exact d4 (aA ⟨o,l,j⟩ cn (e8 (u _ m)))
def SqK(t:Bool)(h:Mr)(l:Mq)(vs:Mu Mo):Prop:=match t with | false=>h.IsList l vs | true=>h.IsTuple l vs
def sK(t:Bool)(ia la:Mq)(vs:Mu Mo):Nat->Mr->Prop:=match t with | false=>sL ia la vs | true=>sT ia la vs
def aQ(t:Bool)(ne:a≠b):Src P w b a vs (sK t b a vs):=by
 cases t
 ·exact Bh ne
 ·exact Bl ne
noncomputable def itN:Bool->MF | false=>"list_iterator" | true=>"tuple_iterator"
abbrev itO(t:Bool)(l:Mq):Obj:={cls:=.type (itN t),data:=.fields #[.ref l,.int 0 0]}
abbrev zH1(h:Mr)(t1:Bool)(l1:Mq):Mr:=h.push (itO t1 l1)
abbrev zH2(h:Mr)(t1 t2:Bool)(l1 l2:Mq):Mr:=(zH1 h t1 l1).push (itO t2 l2)
abbrev zH3(h:Mr)(t1 t2:Bool)(l1 l2:Mq):Mr:=(zH2 h t1 t2 l1 l2).push {cls:=.type "tuple",data:=.seq #[.ref h.objs.size,.ref (zH1 h t1 l1).objs.size]}
abbrev zH4(h:Mr)(t1 t2:Bool)(l1 l2:Mq):Mr:=(zH3 h t1 t2 l1 l2).push {cls:=.type "tuple",data:=.seq #[.none,.none]}
abbrev zH5(h:Mr)(t1 t2:Bool)(l1 l2:Mq):Mr:=(zH4 h t1 t2 l1 l2).push {cls:=.type "zip",data:=.fields #[.none,.bool false,.bool false,.ref (zH2 h t1 t2 l1 l2).objs.size,.ref (zH3 h t1 t2 l1 l2).objs.size]}
def Bq(t1 t2:Bool)(l1 l2:Mq)(vs1 vs2:Mu Mo):Meets (Builtin.«zip.__new__» ⟨[.type "zip",.ref l1,.ref l2],[]⟩) (λ _ R s=>SqK t1 s.heap l1 vs1/\SqK t2 s.heap l2 vs2/\R (.ok (.ret (.ref (zH4 s.heap t1 t2 l1 l2).objs.size))) {s with heap:=zH5 s.heap t1 t2 l1 l2}):=
 .of_wp λ P w A R s h=>by
  obtain⟨h0,g0,d0,k0,o0⟩:=s;obtain⟨q1,q2,h⟩:=h;have hsub:=sub_zip;cases t1<;>cases t2
  ·have e1:Heap.IsList (Shared.heap ⟨h0,g0,d0,k0,o0⟩) l1 vs1:=q1;have e2:Heap.IsList (Shared.heap ⟨h0.push {cls:=.type "list_iterator",data:=.fields #[.ref l1,.int 0 0]},g0,d0,k0,o0⟩) l2 vs2:=Heap.IsList.push q2 _
   wp_walk using Q1 e1,Q1 e2
   exact⟨_,rfl,h⟩
  ·have e1:Heap.IsList (Shared.heap ⟨h0,g0,d0,k0,o0⟩) l1 vs1:=q1;have e2:Heap.IsTuple (Shared.heap ⟨h0.push {cls:=.type "list_iterator",data:=.fields #[.ref l1,.int 0 0]},g0,d0,k0,o0⟩) l2 vs2:=Heap.IsTuple.push q2 _
   wp_walk using Q1 e1,U0 e2
   exact⟨_,rfl,h⟩
  ·have e1:Heap.IsTuple (Shared.heap ⟨h0,g0,d0,k0,o0⟩) l1 vs1:=q1;have e2:Heap.IsList (Shared.heap ⟨h0.push {cls:=.type "tuple_iterator",data:=.fields #[.ref l1,.int 0 0]},g0,d0,k0,o0⟩) l2 vs2:=Heap.IsList.push q2 _
   wp_walk using U0 e1,Q1 e2
   exact⟨_,rfl,h⟩
  ·have e1:Heap.IsTuple (Shared.heap ⟨h0,g0,d0,k0,o0⟩) l1 vs1:=q1;have e2:Heap.IsTuple (Shared.heap ⟨h0.push {cls:=.type "tuple_iterator",data:=.fields #[.ref l1,.int 0 0]},g0,d0,k0,o0⟩) l2 vs2:=Heap.IsTuple.push q2 _
   wp_walk using U0 e1,U0 e2
   exact⟨_,rfl,h⟩
def lg(e:b.get? d=some (itO t a))(q:SqK t h a vs)(k:∀c o,h.get? c=some o->b.get? c=some o):sK t d a vs 0 b:=by
 cases t
 ·exact⟨⟨_,e,rfl,rfl⟩,Heap.IsList.at q λ o z=>k _ o z⟩
 ·exact⟨⟨_,e,rfl,rfl⟩,by obtain⟨o,z,r⟩:=q;exact⟨o,k _ o z,r⟩⟩
def Br(b e:Bool)(u:SqK b s.heap a i)(r:SqK e s.heap d g)
  (h:∀f,IsZip f (s.heap.objs.size+4) (s.heap.objs.size+2) (s.heap.objs.size+3) .none->IsPair f (s.heap.objs.size+2) No (.ref (s.heap.objs.size+1))->IsPair f (s.heap.objs.size+3) .none .none->sK b s.heap.objs.size a i 0 f->sK e (s.heap.objs.size+1) d g 0 f->f.objs.size=s.heap.objs.size+5 ->
   (∀c o,s.heap.get? c=some o->f.get? c=some o)->Q (.ref (s.heap.objs.size+4)) {s with heap:=f}):wpAny NY A (call (.type "zip") [.ref a,.ref d]) Q E s:=by
 refine callType_new F.called_zip MG (F.typeCall_zip_2 _ _) (F.newCall_zip_2 _ _) (λ j=>F.args_object_init_3 j _ _) F.entry_zip_new (Bq b e a d i g) ⟨u,r,?_⟩;have n:(zH1 s.heap b a).objs.size=s.heap.objs.size+1:=B8 ..;have m:(zH2 s.heap b e a d).objs.size=s.heap.objs.size+2:=by rw[B8,n]
 have l:(zH3 s.heap b e a d).objs.size=s.heap.objs.size+3:=by rw[B8,m]
 have k:(zH4 s.heap b e a d).objs.size=s.heap.objs.size+4:=by rw[B8,l]
 have q:(zH5 s.heap b e a d).get? (zH4 s.heap b e a d).objs.size=some _:=m7 _ rfl;have v:(zH5 s.heap b e a d).get? (zH3 s.heap b e a d).objs.size=some _:=i5 _ (m7 _ rfl);have x:(zH5 s.heap b e a d).get? (zH2 s.heap b e a d).objs.size=some _:=i5 _ (i5 _ (m7 _ rfl));have y:(zH5 s.heap b e a d).get? (zH1 s.heap b a).objs.size=some _:=i5 _ (i5 _ (i5 _ (m7 _ rfl)));have p:∀c o,s.heap.get? c=some o->(zH5 s.heap b e a d).get? c=some o:=λ c o z=>i5 _ (i5 _ (i5 _ (i5 _ (i5 _ z))));show _/\_;rw[m,l,k]at q;rw[n,m]at x;rw[l]at v;rw[n]at y;rw[k];exact⟨⟨_,q,rfl⟩,h _ q x v (lg (i5 _ (i5 _ (i5 _ (i5 _ (m7 _ rfl))))) u p) (lg y r p) (by rw[B8,k]) p⟩
end L2
end
noncomputable section
namespace PySem.SeqAt
open AutoSeq1 (wpAny_loadPart')
open MeetsSeq MeetsSeq2 MeetsSeq3 SeqRoads2
def Bs(f:Nat->β->Sem (ForInStep β))(I:on Nat->β->Mp->Prop)(Q:β->Mp->Prop)
   (turn:∀x rest b s,I (x::rest) b s->wpAny M A (f x b) (λ r c=>match r with | .yield b'=>I rest b' c | .done b'=>Q b' c) E s)
  (fin:∀b s,I [] b s->Q b s) (h:I (List.range' 0 n 1) b s):wpAny M A (forIn [:n] b f) Q E s:=by
 rw[Std.Legacy.Range.forIn_eq_forIn_range'];have a:([:n]:Std.Legacy.Range).size=n:=by simp[Std.Legacy.Range.size]
 show wpAny M A _ Q E s;rw[a];exact wpAny_forIn_list f I Q turn fin _ b h
def Bt(l:Mq)(items:Mu Mo)(n:Nat)(dd:Mn Mq)(v:Mu (Mn Mo))(x:Mo)(e:Mo->Bool)(j:Nat)(hj:j<items.size)
  (p:e items[j]=true) (o:∀m (f:m<items.size),m<j->e items[m]=false) :
  Meets (Builtin.«tuple.index» ⟨[.ref l,x],[]⟩)
   (λ A R s=>s.heap.get? l=some {cls:=.type "tuple",dict:=dd,data:=.seq items n,slots:=v} /\ (∀y,y∈items->EqAt A.in1 s y x (e y))/\R (.ok (.ret (.int j s.toks))) {s with toks:=s.toks+1}):=
 .of_wp λ c w A R s h=>by
  obtain⟨B,g,d,u,z⟩:=s;obtain⟨C,E,h⟩:=h
  wp_walk using bT C,Bs _ (λ rest b k=>b.1=none/\k=⟨B,g,d,u,z⟩/\∃i,i<=j/\rest=List.range' i (items.size - i) 1) _
  case turn=>
   rintro i rest b k ⟨hb,rfl,r,hi',hr⟩
   obtain⟨m,f⟩:∃m,items.size - r=m+1:=⟨items.size - r - 1,by omega⟩;rw[f,List.range'_succ]at hr;obtain⟨rfl,rfl⟩:=fx hr;have a:i<items.size:=by omega
   rw[show items[i]? = some items[i] by simp[a]];refine d4 (E _ (Array.getElem_mem a) c w _ _ ?_);by_cases q:i=j
   ·subst q;rw[p]
    wp_walk
    exact⟨_,rfl,h⟩
   ·rw[o i a KE]
    wp_walk
    exact⟨rfl,rfl,i+1,by omega,by congr 1;omega⟩
  case fin=>
   rintro⟨b1,b2⟩ k ⟨hb,rfl,i,hi,hr⟩
   obtain⟨m,f⟩:∃m,items.size - i=m+1:=⟨items.size - i - 1,by omega⟩;rw[f,List.range'_succ]at hr;cases hr
  case h=>
   exact⟨rfl,rfl,0,u9 _,by simp⟩
def qz:∀(a:on PyData) (b:on Mo) (c:on Mq),PyData.canLayAll0 a=true->ReadsAll h b a c->b.length=a.length/\∀m (i:m<b.length) (g:m<a.length),PyData.eqv (readOf h b[m]) d=PyData.eqv a[m] d:=by
 intro a b c f r;have e:=readsAll_map a b c f r;refine⟨(by rw[←e,d9]),λ m i g=>?_⟩
 congr 1
 subst e;rw[List.getElem_map]
def index_list_reads(B:Reads s.heap c (.list xs) O)(z:Reads s.heap x d bs)(a:PyData.canLayAll0 xs=true)(K:d.canLay0=true)
  (C:A.units+1+min (PyData.depthAll xs) d.depth<cLine) (J:j<xs.length) (b:(j:Int)<2^63 - 1) (i:PyData.eqv xs[j] d=true) (f:∀m (F:m<xs.length),m<j->PyData.eqv xs[m] d=false) (h:Q (.int j s.toks) {s with toks:=s.toks+1}):wpAny MJ A (call (.builtin "list.index") [c,x]) Q E s:=by
 cases B with
 | list u r q p=>
  rename_i l o e n N;obtain⟨M,L,v,y⟩:=o;simp at r q;subst r q;obtain⟨I,k⟩:=qz xs e.toList _ a p;have H:e.size=xs.length:=by rw[←I];simp
  refine PySem.call_meets ph ⟨_,u,rfl⟩ PySem.F.entry_list_index (PySem.F.args_list_index_2 _ _)
   (list_indexAt l e _ L y x _ j KE b ?_ ?_) ⟨u,items_eqAt p z a K C,h⟩
  ·rw[←i];exact k j KE J
  ·intro m F g;rw[←f m KE g];exact k m KE KE
def index_tuple_reads(B:Reads s.heap c (.tuple xs) M)(z:Reads s.heap x d bs)(a:PyData.canLayAll0 xs=true)(J:d.canLay0=true)
  (C:A.units+1+min (PyData.depthAll xs) d.depth<cLine) (I:j<xs.length) (g:PyData.eqv xs[j] d=true) (e:∀m (i:m<xs.length),m<j->PyData.eqv xs[m] d=false) (h:Q (.int j s.toks) {s with toks:=s.toks+1}):wpAny MJ A (call (.builtin "tuple.index") [c,x]) Q E s:=by
 cases B with
 | tuple u r q p=>
  rename_i l o b n;obtain⟨L,K,v,y⟩:=o;simp only at r q;subst r q;obtain⟨H,k⟩:=qz xs b.toList _ a p;have F:b.size=xs.length:=by rw[←H];simp
  refine PySem.call_meets pc ⟨_,u,rfl⟩ PySem.F.entry_tuple_index (PySem.F.args_tuple_index_2 _ _)
   (Bt l b _ K y x _ j KE ?_ ?_) ⟨u,items_eqAt p z a J C,h⟩
  ·rw[←g];exact k j (by simpa using(by omega:j<b.size)) I
  ·intro m i f;rw[←e m KE f];exact k m (Nm i) KE
end PySem.SeqAt
end
noncomputable section
namespace L2
open PySem
set_option genInjectivity true in
inductive DKey where
 | i (n:Int) | s (x:Str) | t (l:List (Sum Int Str))
 deriving DecidableEq
inductive Bi where
 | len | min | max | sum | sset | tuple | list | all | any | lset
 deriving DecidableEq
inductive Mt where
 | bitLength | index | get
 deriving DecidableEq
inductive Tg where
 | one (i:Nat) | many (is:List Nat)
inductive ME where
  | var (i:Nat) | int (i:Int) | bl (b:Bool) | str (x:Str) | non | glb (x:Str)
  | gdx (b:ME) | gin (b:ME) | zp (a b:ME) | calll (f:Nat) (a b:ME) (N:List Str) (np:Nat) (lb:ME) (fr:List Nat)
  | bin (op:Operator) (a b:ME) | neg (a:ME)  | not (a:ME)
  | cmp (op:CmpOp) (a b:ME) | chain (op op':CmpOp) (a b c:ME)
  | and (es:List ME) | or (es:List ME)
  | lst (es:List ME) | tup (es:List ME)
  | ix (a b:ME) | sl (a lo hi:ME) | slf (a lo:ME)
   | call (f:Nat) (es:List ME)    | bi (f:Bi) (es:List ME) | isi (a:ME) (ts:List Str) | meth (m:Mt) (a:ME) (es:List ME)
  | comp (elt:ME) (tg:Tg) (it:ME) (fr:List (Option Nat)) | compi (elt:ME) (tg:Tg) (it c:ME) (fr:List (Option Nat))
  | dgp (i:Nat) (k:ME)   | callv (i:Nat) (xs:List (Str×Nat)) (es:List ME)
  | srtk (a:ME) (N:List Str) (np:Nat) (lb:ME) (fr:List Nat) | ite (c a b:ME)
  | idx (a b:ME)
  | rng (es:List ME) | enu (a:ME)  | itm (a:ME)
structure LamD where
 N:List Str
 np:Nat
 body:ME
 fn:List Str
 bl:List Str
 cl:List Str
set_option genInjectivity true in
inductive DV where
 | non | bl (b:Bool) | int (i:Int) | str (x:Str) | tup (ds:List DV) | lst (ds:List DV) | dct (ks:List DKey) (vs:List DV)
 | fn (x:Str)
 | lam (m:LamD) (ds:List DV)
 | scr (ns:List Int)
inductive Cl where
 | weak | top | strong | fresh
 deriving DecidableEq
set_option genInjectivity true in
inductive Re where
 | ok (d:DV) (c:Cl)
inductive Rs where
 | ok (l:List (DV×Cl))
inductive Rt where
 | ok (b:Bool)
inductive Sv where
 | no | val (d:DV) | own (d:DV)
 | od (d:DV)
inductive Ou where
 | v (d:DV) (fr:Bool)
inductive Out where
 | nx (δ:List Sv) | rt (d:DV) (fr:Bool)
inductive MS where
 | set (i:Nat) (own:Bool) (e:ME) | sett (is:List Nat) (e:ME) | aug (i:Nat) (e:ME)
 | app (i:Nat) (e:ME) | ext (i:Nat) (e:ME) | seti (i:Nat) (k e:ME)
 | exp (e:ME) | ret (e:ME)  | iff (c:ME) (a b:List MS) | fo (tg:Tg) (it:ME) (body:List MS) | wh (c:ME) (body:List MS)
  | retd (i:Nat)
 | sep (i:Nat) | dpp (i:Nat) (ks:List ME) (e:ME)
 | unk
structure FD where
 n:Nat
 np:Nat
 body:List MS
noncomputable def Re.thn(r:Mn Re)(k:DV->Cl->Mn Re):Mn Re:=match r with
 | none=>none
 | some (.ok d c)=>k d c
def Rs.thn(r:Mn Rs)(k:on (DV×Cl)->Mn Re):Mn Re:=match r with
 | none=>none
 | some (.ok l)=>k l
def Rt.thn(r:Mn Rt)(k:Bool->Mn Re):Mn Re:=match r with
 | none=>none
 | some (.ok b)=>k b
noncomputable def Re.thnT(r:Mn Re)(k:DV->Cl->Mn Rt):Mn Rt:=match r with
 | none=>none
 | some (.ok d c)=>k d c
mutual
noncomputable def DV.immut:DV->Bool
 | .non=>true | .bl _=>true | .int _=>true | .str _=>true | .fn _=>true | .scr _=>true
 | .tup ds=>DV.immuts ds
 | .lst _=>false
 | .lam _ _=>false
 | .dct _ vs=>DV.immuts vs
noncomputable def DV.immuts:on DV->Bool
 | []=>true
 | d::r=>d.immut&&DV.immuts r
end
mutual
noncomputable def DV.nolam:DV->Bool
 | .lam _ _=>false
 | .tup ds=>DV.nolams ds
 | .lst ds=>DV.nolams ds
 | .dct _ vs=>DV.nolams vs
 | _=>true
noncomputable def DV.nolams:on DV->Bool
 | []=>true
 | d::r=>d.nolam&&DV.nolams r
end
def stro(d:DV):Cl->Bool
 | .strong=>true | .fresh=>true | _=>d.immut
def stros(l:on (DV×Cl)):Bool:=l.all λ p=>stro p.1 p.2
def Cl.item:Cl->Cl
 | .weak=>.weak | _=>.strong
noncomputable def Cl.anew:Cl->Cl->Cl
 | .weak,_=>.weak | _,.weak=>.weak | _,_=>.fresh
def l5:Nat:=1000000
mutual
noncomputable def deq:DV->DV->Bool
 | .non,.non=>true
 | .bl a,.bl b=>a==b
 | .bl a,.int j=>(if a then 1 else 0)==j
 | .int i,.bl b=>i==(if b then 1 else 0)
 | .int i,.int j=>i==j
 | .str a,.str b=>decide (a=b)
 | .tup a,.tup b=>deqs a b
 | .lst a,.lst b=>deqs a b
 | _,_=>false
noncomputable def deqs:on DV->on DV->Bool
 | [],[]=>true
 | a::r,b::s=>deq a b&&deqs r s
 | _,_=>false
end
mutual
noncomputable def DV.plain:Nat->DV->Bool
 | _,.non=>true | _,.bl _=>true | _,.int _=>true
 | _,.str x=>x.cps.all (· < 0x110000)
 | 0,_=>false
 | n+1,.tup ds=>DV.plains n ds | n+1,.lst ds=>DV.plains n ds
 | _,_=>false
noncomputable def DV.plains:Nat->on DV->Bool
 | _,[]=>true
 | n,d::r=>d.plain n&&DV.plains n r
end
noncomputable def G0:DV->Mn Bool
 | .non=>some false
 | .bl b=>some b
 | .int i=>some (i != 0)
 | .str x=>some (x.cps.size != 0)
 | .tup ds=>some (!ds.isEmpty)
 | .lst ds=>some (!ds.isEmpty)
 | _=>none
noncomputable def A0(n:Nat)(i:Int):Mn Nat:=if 0<=i then(if i<n then some i.toNat else none)else if -(n:Int)<=i then some (i+n).toNat else none
def atD(ds:on DV)(i:Int):Mn DV:=(A0 ds.length i).bind λ j=>ds[j]?
noncomputable def Z0(k:DKey):on DKey->on DV->Mn DV
 | k'::ks,v::vs=>if k'=k then some v else Z0 k ks vs
 | _,_=>none
noncomputable def putD(k:DKey)(d:DV)(ks:on DKey)(vs:on DV):on DKey×on DV:=
 if k∈ks then(ks,(ks.zip vs).map λ p=>if p.1=k then d else p.2)else(ks++[k],vs++[d])
def ixD(a b:DV):Mn DV:=match a,b with
 | .scr ns,.int i=>((A0 ns.length i).bind λ j=>ns[j]?).map DV.int
 | .lst ds,.int i=>atD ds i
 | .tup ds,.int i=>atD ds i
 | _,_=>none
noncomputable def slIx(n d:Nat):Mn Int->Nat
 | none=>d
 | some v=>if v<0 then(v+(n:Int)).toNat else min v.toNat n
def cutD(ds:on DV)(lo hi:Mn Int):on DV:=(ds.drop (slIx ds.length 0 lo)).take (slIx ds.length ds.length hi - slIx ds.length 0 lo)
def slD(a:DV)(lo hi:Mn Int):Mn DV:=match a with
 | .lst ds=>some (MZ (cutD ds lo hi))
 | _=>none
def slCl(a:DV)(c:Cl):Cl:=Cl.anew c c
noncomputable def R7(i j:Int):Bool:=(decide (-(2^64)<i)&&decide (i<2^64))||(decide (-(2^64)<j)&&decide (j<2^64))||(decide (i.natAbs<2^2000)&&decide (j.natAbs<2^2000))
def asI:DV->Mn Int
 | .int i=>some i
 | _=>none
def asL:DV->Mn (on DV)
 | .lst i=>some i
 | _=>none
def binD(op:Operator)(a b:DV)(ca cb:Cl):Mn Re:=match op with
 | .Add=>match a with
  | .int i=>(asI b).bind λ j=>some (MV (.int (i+j)))
  | .lst x=>(asL b).bind λ y=>if x.length+y.length<=l5 then some (.ok (MZ (x++y)) (Cl.anew ca cb))else none
  | _=>none
 | .Sub=>(asI a).bind λ i=>(asI b).bind λ j=>some (MV (.int (i - j)))
 | .Mult=>match a with
  | .int i=>(asI b).bind λ j=>if R7 i j then some (MV (.int (i*j)))else none
  | _=>none
 | .Mod=>(asI a).bind λ i=>(asI b).bind λ j=>if 0<j then some (MV (.int (i%j)))else none
 | .FloorDiv=>(asI a).bind λ i=>(asI b).bind λ j=>if 0<j/\j<2^200 then some (MV (.int (i/j)))else none
 | .LShift=>(asI a).bind λ i=>(asI b).bind λ j=>if 0<=j/\j<=1000000/\i.natAbs<2^64 then some (MV (.int (i*2^j.toNat)))else none
 | .RShift=>(asI a).bind λ i=>(asI b).bind λ j=>if 0<=j then some (MV (.int (i/2^j.toNat)))else none
 | .BitOr=>(asI a).bind λ i=>(asI b).bind λ j=>some (MV (.int (Builtin.bitOr i j)))
 | .BitAnd=>(asI a).bind λ i=>(asI b).bind λ j=>some (MV (.int (Builtin.bitAnd i j)))
 | .BitXor=>(asI a).bind λ i=>(asI b).bind λ j=>some (MV (.int (Builtin.bitXor i j)))
 | _=>none
def isN:DV->Bool
 | .non=>true
 | _=>false
def cmpD(op:CmpOp)(a b:DV):Mn Bool:=match op with
 | .Lt=>(asI a).bind λ i=>(asI b).bind λ j=>some (decide (i<j))
 | .LtE=>(asI a).bind λ i=>(asI b).bind λ j=>some (decide (i<=j))
 | .Gt=>(asI a).bind λ i=>(asI b).bind λ j=>some (decide (j<i))
 | .GtE=>(asI a).bind λ i=>(asI b).bind λ j=>some (decide (j<=i))
 | .Is=>match b with
  | .non=>some (isN a)
  | _=>none
 | .IsNot=>match b with
  | .non=>some (!isN a)
  | _=>none
 | .Eq=>if a.plain 60&&b.plain 60 then some (deq a b)else none
 | .NotEq=>if a.plain 60&&b.plain 60 then some (!deq a b)else none
 | _=>none
noncomputable def ints?:on DV->Mn (on Int)
 | []=>some []
 | .int i::r=>(ints? r).map (i :: ·)
 | _=>none
noncomputable def bools?:on DV->Mn (on Bool)
 | []=>some []
 | .bl i::r=>(bools? r).map (i :: ·)
 | _=>none
noncomputable def minI:Int->on Int->Int
 | m,[]=>m
 | m,x::r=>minI (if x<m then x else m) r
noncomputable def maxI:Int->on Int->Int
 | m,[]=>m
 | m,x::r=>maxI (if m<x then x else m) r
noncomputable def insI(x:Int):on Int->on Int
 | []=>[x]
 | y::r=>if x<y then x::y::r else y::insI x r
def D2:on Int->on Int
 | []=>[]
 | x::r=>insI x (D2 r)
noncomputable def dk(σ:on Int)(k:Int):on Int:=if k∈σ then σ else σ++[k]
noncomputable def R8(i:Int):Int:=if i=0 then 0 else(i.natAbs.log2:Int)+1
noncomputable def lenD:on (DV×Cl)->Mn Re
 | [(.lst ds,_)]=>some (MV (.int ds.length))
 | [(.tup ds,_)]=>some (MV (.int ds.length))
 | [(.scr ns,_)]=>some (MV (.int ns.length))
 | _=>none
def minD:on (DV×Cl)->Mn Re
 | [(.int i,_),(.int j,_)]=>some (MV (.int (if j<i then j else i)))
 | [(.lst ds,c)]=>match ints? ds with
  | some (n::r)=>some (MV (.int (minI n r)))
  | _=>none
 | _=>none
noncomputable def kRun{α:Type}(n:Nat)(c:Nat->Nat->Bool):PySem.W.KasT α->Mn α
 | .ret a=>some a
 | .ask i j k=>if i<n/\j<n then kRun n c (k (c i j))else none
def O5(ks:on Int):Mn (on Nat):=if ks.length<2 then some (ML ks.length)else(kRun ks.length (λ i j=>decide (ks.getD i 0<ks.getD j 0)) (PySem.W.kas_sort ks.length)).map Array.toList
noncomputable def putIx{α:Type}(x:α)(ix:on Nat)(l:on α):on α:=ix.map λ i=>l.getD i x
def maxD:on (DV×Cl)->Mn Re
 | [(.int i,_),(.int j,_)]=>some (MV (.int (if j>i then j else i)))
 | [(.lst ds,_)]=>match ints? ds with
  | some (n::r)=>some (MV (.int (maxI n r)))
  | _=>none
 | _=>none
def fM:on (DV×Cl)->Mn Re
 | [(.lst ds,_)]=>match ints? ds with
  | some ns=>if ns.length<4000/\(ns.foldl dk []).length<64 then some (.ok (MZ ((D2 (ns.foldl dk [])).map DV.int)) .fresh)else none
  | none=>none
 | _=>none
def lh:on (DV×Cl)->Mn Re
 | [(.lst ds,_)]=>match ints? ds with
  | some ns=>if ns.length<4000 then some (MV (.int ((ns.foldl dk []).length:Nat)))else none
  | none=>none
 | _=>none
def sumD:on (DV×Cl)->Mn Re
 | [(.lst ds,_)]=>(ints? ds).map λ ns=>.ok (MY ns.sum) .strong
 | _=>none
def allD:on (DV×Cl)->Mn Re
 | [(.lst ds,_)]=>(bools? ds).map λ bs=>.ok (.bl (bs.all id)) .strong
 | _=>none
def anyD:on (DV×Cl)->Mn Re
 | [(.lst ds,_)]=>(bools? ds).map λ bs=>.ok (.bl (bs.any id)) .strong
 | _=>none
def li:on (DV×Cl)->Mn Re
 | [(.tup ds,c)]=>some (.ok (MZ ds) (Cl.anew c c))
 | _=>none
noncomputable def lj:on (DV×Cl)->Mn Re
 | [(.lst ds,c)]=>some (.ok (.tup ds) c.item)
 | _=>none
def biD(f:Bi)(l:on (DV×Cl)):Mn Re:=match f with
 | .len=>lenD l
 | .min=>minD l
 | .max=>maxD l
 | .tuple=>lj l
 | .list=>li l
 | .all=>allD l
 | .any=>anyD l
 | .lset=>lh l
 | .sset=>fM l
 | .sum=>sumD l
noncomputable def biOk:Bi->Bool
 | .len=>true | .min=>true | .max=>true | .tuple=>true | .list=>true | .all=>true | .any=>true | .lset=>true | .sset=>true | .sum=>true
def mtD(m:Mt)(a:DV):Mn Re:=match m,a with
 | .bitLength,.int i=>some (MV (.int (R8 i)))
 | _,_=>none
def gdN:Str:="GREATEST_WORDS"
structure Gs where
 con:List (Str×DV)
 fnl:List Str:=[]
 bll:List Str:=[]
 cll:List Str:=[]
 gk:List (Str×Option Int):=[]
def tyOf:DV->on Str
 | .int _=>["int"]
 | _=>[]
noncomputable def V3:on Str:=["int","bool","str","list","tuple","dict"]
noncomputable def isiD(G:Gs)(d:DV)(ts:on Str):Mn Bool:=match d with
 | .int i=>match ts with
  | [t]=>if V3.contains t then some ((tyOf (.int i)).contains t)else none
  | _=>none
 | _=>none
noncomputable def upTo(lo:Int)(n:Nat):on DV:=(ML n).map λ (i:Nat)=>DV.int (lo+i)
noncomputable def D3(i:Int):Bool:=decide (-(2^62)<=i)&&decide (i<2^62)
def M7(y:DV):on DV->Mn Nat
 | []=>none
 | d::r=>if deq d y then some 0 else(M7 y r).map (· + 1)
noncomputable def seqB:DV->Bool
 | .lst _=>true | .tup _=>true | _=>false
def idxD(x y:DV):Mn DV:=match x with
 | .tup ds=>if y.plain 60&&DV.plains 60 ds&&decide (ds.length<=l5)then(M7 y ds).map λ (j:Nat)=>DV.int (j:Int)else none
 | _=>none
def rngD(l:on (DV×Cl)):Mn (on DV):=match l with
 | [(.int j,_)]=>if D3 j&&decide (j<=l5)then some (upTo 0 j.toNat)else none
 | [(.int i,_),(.int j,_)]=>if D3 i&&D3 j&&decide (j - i<=l5)then some (upTo i (j - i).toNat)else none
 | _=>none
noncomputable def enuD:Nat->on DV->on DV
 | _,[]=>[]
 | k,d::r=>.tup [.int k,d]::enuD (k+1) r
noncomputable def zpD:on DV->on DV->on DV
 | a::r,b::s=>.tup [a,b]::zpD r s
 | _,_=>[]
def Cl.meet:Cl->Cl->Cl
 | .weak,_=>.weak | _,.weak=>.weak | .top,_=>.top | _,.top=>.top | _,_=>.strong
noncomputable def K2:DV->Mn (Bool×on DV)
 | .lst ds=>some (false,ds)
 | .tup ds=>some (true,ds)
 | _=>none
def cR(x:DV)(c:Cl):Mn Re:=match K2 x with
 | some (_,xs)=>some (.ok (MZ (enuD 0 xs)) (Cl.meet c c))
 | _=>none
def zipD(x y:DV)(c c':Cl):Mn Re:=match K2 x,K2 y with
 | some (_,xs),some (_,ys)=>some (.ok (MZ (zpD xs ys)) (Cl.meet c c'))
 | _,_=>none
noncomputable def kvp?:on DKey->on DV->Mn (on ((Int×Int)×Int))
 | [],[]=>some []
 | .t [.inl a,.inl b]::ks,.int v::vs=>(kvp? ks vs).map (((a,b),v) :: ·)
 | _,_=>none
def itmD(x:DV)(c:Cl):Mn Re:=match x with
 | .dct ks vs=>if c=.strong/\ks.isEmpty=false then(kvp? ks vs).map (λ l=>.ok (MZ (l.map λ p=>.tup [.tup [.int p.1.1,.int p.1.2],.int p.2])) .strong)else none
 | _=>none
def dgpD(ks:on DKey)(vs:on DV)(y:DV):Mn Re:=match y with
 | .tup [.int a,.int b]=>(match Z0 (.t [.inl a,.inl b]) ks vs with
  | some (.int v)=>some (MV (.int v))
  | _=>none)
 | _=>none
def dppD(i:Nat)(δ:on Sv)(ks:on DKey)(vs:on DV)(l:on (DV×Cl))(d:DV):Mn (on Sv):=match l,d with
 | [(.int a,_),(.int b,_)],.int z=>if ks.length<l5 then some (δ.set i (.od (.tup [.dct (putD (.t [.inl a,.inl b]) (.int z) ks vs).1 (putD (.t [.inl a,.inl b]) (.int z) ks vs).2])))else none
 | _,_=>none
def unT:DV->DV
 | .tup [d]=>d
 | d=>d
def isDc:DV->Bool
 | .tup [_]=>true
 | _=>false
noncomputable def seqD:DV->Mn (on DV)
 | .scr ns=>some (ns.map DV.int)
 | .lst ds=>some ds
 | .tup ds=>some ds
 | _=>none
noncomputable def R9(δ:on Sv):on Nat->on DV->Mn (on Sv)
 | [],[]=>some δ
 | i::is,d::ds=>R9 (δ.set i (.val d)) is ds
 | _,_=>none
def Tg.bind(tg:Tg)(d:DV)(δ:on Sv):Mn (on Sv):=match tg with
 | .one i=>some (δ.set i (.val d))
 | .many is=>match d with
  | .tup ds=>R9 δ is ds
  | _=>none
noncomputable def C3(fr:on (Mn Nat))(δ:on Sv):on Sv:=fr.map λ o=>match o with
 | some i=>δ.getD i .no
 | none=>.no
inductive Rc where
 | skip | item (d:DV)
noncomputable def x8(g:DV->Mn Rc):on DV->Mn (on DV)
 | []=>some []
 | d::r=>match g d with
  | none=>none
  | some .skip=>x8 g r
  | some (.item x)=>match x8 g r with
   | none=>none
   | some xs=>some (x::xs)
noncomputable def V4(r:Mn (on DV)):Mn Re:=match r with
 | none=>none
 | some xs=>some (.ok (MZ xs) .fresh)
def Rc.of(r:Mn Re):Mn Rc:=match r with
 | some (.ok d c)=>if stro d c then some (.item d)else none
 | _=>none
noncomputable def Rc.test(t:Mn Rt)(r:Mn Rc):Mn Rc:=match t with
 | some (.ok true)=>r
 | some (.ok false)=>some .skip
 | _=>none
inductive Ri where
 | ok (ds:List DV) (c:Cl)
def Ri.thn(r:Mn Ri)(k:on DV->Cl->Mn Re):Mn Re:=match r with
 | none=>none
 | some (.ok ds c)=>k ds c
noncomputable def Re.thnI(r:Mn Re)(k:DV->Cl->Mn Ri):Mn Ri:=match r with
 | none=>none
 | some (.ok d c)=>k d c
def Bu(d:DV)(c:Cl):Mn Ri:=(seqD d).map λ ds=>.ok ds c
def imL:DV->Bool
 | .lst ds=>DV.immuts ds
 | _=>false
def D4(F:NE)(f:Nat)(l:on (DV×Cl)):Mn Re:=match F f (l.map (·.1))with
 | none=>none
 | some (.v d fr)=>some (.ok d (if l.all λ p=>p.2 == .strong||p.2 == .fresh then(if fr then .fresh else .strong)else if fr&&imL d then .fresh else .weak))
def u7:Nat:=1001
def capD(δ:on Sv):on Nat->Mn (on DV)
 | []=>some []
 | i::r=>match δ[i]?,capD δ r with
  | some (.val d),some ds=>if d.nolam then some (d::ds)else none
  | _,_=>none
def sS:DV->Mn Str | .str i=>some i | _=>none
def tT:DV->Mn (on DV) | .tup l=>some l | _=>none
def gdxD(G:Gs):DV->Mn Re
 | .str k=>((G.gk.lookup k).bind id).map λ i=>.ok (.int i) .strong
 | _=>none
noncomputable def ginD(G:Gs):DV->Mn Re
 | .str k=>(G.gk.lookup k).map λ o=>.ok (.bl o.isSome) .strong
 | _=>none
noncomputable def Z1(F:NE)(m:LamD)(cs:on DV)(l:on (DV×Cl)):Mn Re:=if Nl=true then(match F u7 (.lam m cs::l.map (·.1))with
 | some (.v d false)=>some (MV d)
 | _=>none)else none
def aR(F:NE)(f:Nat)(l:on (DV×Cl))(m:DV):Mn Re:=if Nl=true then(match F f (l.map (·.1)++[m])with
 | some (.v d false)=>if d.nolam then some (MV d)else none
 | _=>none)else none
def fN(G:Gs)(F:NE)(f:Nat)(ra rb:Mn Re)(N:on Str)(np:Nat)(lb:ME)(o:Mn (on DV)):Mn Re:=match o with
  | some cs=>if G.fnl.isEmpty then none else Re.thn ra λ x cx=>Re.thn rb λ y cy=>aR F f [(x,cx),(y,cy)] (.lam ⟨N,np,lb,G.fnl,G.bll,G.cll⟩ cs)
  | none=>none
noncomputable def S0(F:NE)(m:DV):on DV->Mn (on Int)
 | []=>some []
 | d::r=>match F u7 [m,d]with
  | some (.v (.int k) false)=>(S0 F m r).map (k :: ·)
  | _=>none
def srtL(F:NE)(m:DV)(x:DV)(c:Cl):Mn Re:=match x with
 | .lst ds=>if(c == .strong||c == .fresh||c == .top)=true/\ds.length<64 then(S0 F m ds).bind λ ks=>(O5 ks).map λ ix=>.ok (MZ (putIx .non ix ds)) .fresh else none
 | _=>none
def cS(G:Gs)(F:NE)(ra:Mn Re)(N:on Str)(np:Nat)(lb:ME)(o:Mn (on DV)):Mn Re:=match o with
  | some cs=>if G.fnl.isEmpty then none else Re.thn (ra) λ x cx=>srtL F (.lam ⟨N,np,lb,G.fnl,G.bll,G.cll⟩ cs) x cx
  | none=>none
def andD(x:DV)(c:Cl)(r:Mn Re):Mn Re:=match G0 x with
 | none=>none
 | some true=>r
 | some false=>some (.ok x c)
def orD(x:DV)(c:Cl)(r:Mn Re):Mn Re:=match G0 x with
 | none=>none
 | some true=>some (.ok x c)
 | some false=>r
def tstD(r:Mn Re):Mn Rt:=Re.thnT r λ x _=>(G0 x).map Rt.ok
def m9(r:Mn Re):Mn Ri:=Re.thnI r λ x c=>Bu x c
def varE(o:Mn Sv):Mn Re:=match o with
  | some (.val d)=>some (MV d)
  | some (.own d)=>some (.ok d .top)
  | _=>none
def cT(G:Gs)(F:NE)(xs:on (Str×Nat))(rs:Mn Rs)(o:Mn Sv):Mn Re:=match o with
  | some (.val (.fn x))=>(match xs.lookup x with
   | some f=>Rs.thn (rs) λ l=>D4 F f l
   | none=>none)
  | some (.val (.lam m cs))=>if m.fn=G.fnl/\m.bl=G.bll/\m.cl=G.cll/\G.fnl.isEmpty=false then Rs.thn rs λ l=>Z1 F m cs l else none
  | _=>none
mutual
def evE(G:Gs)(F:NE):ME->on Sv->Mn Re
 | .var i,δ=>varE δ[i]?
 | .int i,_=>some (MV (.int i))
 | .bl i,_=>some (MV (.bl i))
 | .str i,_=>some (MV (.str i))
 | .non,_=>some (.ok .non .strong)
 | .glb x,_=>(G.con.lookup x).map λ d=>.ok d .strong
 | .bin op a b,δ=>Re.thn (MQ a) λ x cx=>Re.thn (MQ b) λ y cy=>binD op x y cx cy
 | .neg a,δ=>Re.thn (MQ a) λ x _=>match x with | .int i=>some (MV (.int (-i))) | _=>none
 | .not a,δ=>Re.thn (MQ a) λ x _=>(G0 x).map λ k=>.ok (.bl (!k)) .strong
 | .cmp op a b,δ=>Re.thn (MQ a) λ x _=>Re.thn (MQ b) λ y _=>(cmpD op x y).map λ k=>.ok (.bl k) .strong
 | .chain op op' a b c,δ=>Re.thn (MQ a) λ x _=>Re.thn (MQ b) λ y _=>match cmpD op x y with
  | none=>none
  | some false=>some (MV (.bl false))
  | some true=>Re.thn (MQ c) λ z _=>(cmpD op' y z).map λ k=>.ok (.bl k) .strong
 | .and es,δ=>I0 G F es δ
 | .or es,δ=>evOr G F es δ
 | .lst es,δ=>Rs.thn (evEs G F es δ) λ l=>if l.length<=l5 then some (.ok (.lst (l.map (·.1))) (if stros l then .fresh else .weak))else none
 | .tup es,δ=>Rs.thn (evEs G F es δ) λ l=>if l.length<=l5 then some (.ok (.tup (l.map (·.1))) (if stros l then .strong else .weak))else none
 | .ix a b,δ=>Re.thn (MQ a) λ x cx=>Re.thn (MQ b) λ y _=>(ixD x y).map λ d=>.ok d cx.item
 | .sl a lo hi,δ=>Re.thn (MQ a) λ x cx=>Re.thn (MQ lo) λ l _=>match l with
  | .int l=>Re.thn (MQ hi) λ h _=>(match h with
   | .int h=>(slD x (some l) (some h)).map λ d=>.ok d (slCl x cx)
   | _=>none)
  | _=>none
 | .slf a lo,δ=>Re.thn (MQ a) λ x cx=>Re.thn (MQ lo) λ l _=>match l with
  | .int l=>(slD x (some l) none).map λ d=>.ok d (slCl x cx)
  | _=>none
 | .call f es,δ=>Rs.thn (evEs G F es δ) λ l=>D4 F f l
 | .bi f es,δ=>if biOk f then Rs.thn (evEs G F es δ) λ l=>biD f l else none
 | .isi a ts,δ=>Re.thn (MQ a) λ x _=>(isiD G x ts).map λ k=>.ok (.bl k) .strong
 | .meth m a _,δ=>if m=.bitLength then Re.thn (MQ a) λ x _=>mtD m x else none
 | .comp elt tg it fr,δ=>Ri.thn (m9 (MQ it)) λ ds c=>if c=.weak\/l5<ds.length then none else V4 (x8 (λ d=>(tg.bind d (C3 fr δ)).bind λ δ'=>Rc.of (evE G F elt δ')) ds)
 | .compi elt tg it cd fr,δ=>Ri.thn (m9 (MQ it)) λ ds c=>if c=.weak\/l5<ds.length then none else V4 (x8 (λ d=>(tg.bind d (C3 fr δ)).bind λ δ'=>Rc.test (tstD (evE G F cd δ')) (Rc.of (evE G F elt δ'))) ds)
 | .idx a b,δ=>Re.thn (MQ a) λ x _=>if seqB x then Re.thn (MQ b) λ y _=>(idxD x y).map λ d=>.ok d .strong else none
 | .rng es,δ=>Rs.thn (evEs G F es δ) λ l=>(rngD l).map λ ds=>.ok (MZ ds) .fresh
 | .enu a,δ=>Re.thn (MQ a) λ x c=>cR x c
 | .itm a,δ=>Re.thn (MQ a) λ x c=>itmD x c
 | .dgp i k,δ=>match δ[i]? with
  | some (.od (.tup [.dct ks vs]))=>Re.thn (MQ k) λ y _=>dgpD ks vs y
  | _=>none
 | .gdx b,δ=>Re.thn (MQ b) λ y _=>gdxD G y
 | .gin b,δ=>Re.thn (MQ b) λ y _=>ginD G y
 | .zp a b,δ=>Re.thn (MQ a) λ x c=>Re.thn (MQ b) λ y c'=>zipD x y c c'
 | .calll f a b N np lb fr,δ=>fN G F f (MQ a) (MQ b) N np lb (capD δ fr)
 | .callv i xs es,δ=>cT G F xs (evEs G F es δ) δ[i]?
 | .srtk a N np lb fr,δ=>cS G F (MQ a) N np lb (capD δ fr)
 | .ite c a b,δ=>Rt.thn (tstD (MQ c)) λ k=>if k then evE G F a δ else evE G F b δ
def evEs(G:Gs)(F:NE):on ME->on Sv->Mn Rs
 | [],_=>some (.ok [])
 | e::es,δ=>match evE G F e δ with
  | none=>none
  | some (.ok d c)=>match evEs G F es δ with
   | none=>none
   | some (.ok l)=>some (.ok ((d,c)::l))
def I0(G:Gs)(F:NE):on ME->on Sv->Mn Re
 | [],_=>none
 | e::es,δ=>if es.isEmpty then evE G F e δ else Re.thn (MQ e) λ x c=>andD x c (I0 G F es δ)
def evOr(G:Gs)(F:NE):on ME->on Sv->Mn Re
 | [],_=>none
 | e::es,δ=>if es.isEmpty then evE G F e δ else Re.thn (MQ e) λ x c=>orD x c (evOr G F es δ)
end
def ll:Nat:=1000
noncomputable def Re.thnS(δ:on Sv)(r:Mn Re)(k:DV->Cl->Mn Out):Mn Out:=match r with
 | none=>none
 | some (.ok d c)=>k d c
def Rs.thnS(δ:on Sv)(r:Mn Rs)(k:on (DV×Cl)->Mn Out):Mn Out:=match r with
 | none=>none
 | some (.ok l)=>k l
def Rt.thnS(δ:on Sv)(r:Mn Rt)(k:Bool->Mn Out):Mn Out:=match r with
 | none=>none
 | some (.ok b)=>k b
def Ri.thnS(δ:on Sv)(r:Mn Ri)(k:on DV->Cl->Mn Out):Mn Out:=match r with
 | none=>none
 | some (.ok ds c)=>k ds c
def l7(tg:Tg)(body:on Sv->Mn Out):on DV->on Sv->Mn Out
 | [],δ=>some (.nx δ)
 | d::r,δ=>match tg.bind d δ with
  | none=>none
  | some δ1=>match body δ1 with
   | some (.nx δ2)=>l7 tg body r δ2
   | o=>o
def J0(test:on Sv->Mn Rt)(body:on Sv->Mn Out):Nat->on Sv->Mn Out
 | 0,_=>none
 | n+1,δ=>match test δ with
  | none=>none
  | some (.ok false)=>some (.nx δ)
  | some (.ok true)=>match body δ with
   | some (.nx δ2)=>J0 test body n δ2
   | o=>o
def frD:DV->Cl->Bool
 | .lst _,.fresh=>true | .lst _,.top=>true
 | _,_=>false
noncomputable def cU(i:Nat)(δ:on Sv)(d:DV)(c:Cl):Mn Out:=match c with
 | .fresh=>some (.nx (δ.set i (.own d)))
 | _=>match d with
  | .non=>some (.nx (δ.set i (.val .non)))
  | _=>none
def retD(d:DV)(c:Cl):Out:=.rt d (frD d c)
noncomputable def asIv:Mn Sv->Mn Int
 | some (.val d)=>asI d
 | _=>none
def appS(δ:on Sv)(i:Nat)(re:Mn Re)(o:Mn Sv):Mn Out:=match o with
  | some (.own (.lst ds))=>Re.thnS δ (re) λ d c=>if stro d c/\ds.length<l5 then some (.nx (δ.set i (.own (MZ (ds++[d])))))else none
  | _=>none
def qA(δ:on Sv)(i:Nat)(rk re:Mn Re)(o:Mn Sv):Mn Out:=match o with
  | some (.own (.lst ds))=>Re.thnS δ (re) λ d c=>Re.thnS δ (rk) λ k _=>(match k with
   | .int k=>(match A0 ds.length k with
    | some j=>if stro d c then some (.nx (δ.set i (.own (MZ (ds.set j d)))))else none
    | none=>none)
   | _=>none)
  | _=>none
mutual
def evS(G:Gs)(F:NE)(fu:Nat):MS->on Sv->Mn Out
 | .set i own e,δ=>Re.thnS δ (MQ e) λ d c=>if own then cU i δ d c else(if stro d c then some (.nx (δ.set i (.val d)))else none)
 | .sett is e,δ=>Re.thnS δ (MQ e) λ d c=>if c=.strong\/c=.fresh then(match K2 d with
  | some (_,ds)=>(R9 δ is ds).map Out.nx
  | none=>none)else none
 | .aug i e,δ=>(asIv δ[i]?).bind λ a=>Re.thnS δ (MQ e) λ d _=>(asI d).bind λ b=>some (.nx (δ.set i (MM (a+b))))
 | .app i e,δ=>appS δ i (MQ e) δ[i]?
 | .ext i e,δ=>match δ[i]? with
  | some (.own (.lst ds))=>Re.thnS δ (MQ e) λ d c=>if c=.strong\/c=.fresh then(match K2 d with
   | some (_,ys)=>if ds.length+ys.length<=l5 then some (.nx (δ.set i (.own (MZ (ds++ys)))))else none
   | none=>none)else none
  | _=>none
 | .seti i k e,δ=>qA δ i (MQ k) (MQ e) δ[i]?
 | .exp e,δ=>Re.thnS δ (MQ e) λ _ _=>some (.nx δ)
 | .ret e,δ=>Re.thnS δ (MQ e) λ d c=>some (retD d c)
 | .iff c a b,δ=>Rt.thnS δ (tstD (MQ c)) λ k=>if k then evSs G F fu a δ else evSs G F fu b δ
 | .fo tg it body,δ=>Ri.thnS δ (m9 (MQ it)) λ ds c=>if c=.strong\/c=.fresh then l7 tg (λ δ'=>evSs G F fu body δ') ds δ else none
 | .wh c body,δ=>J0 (λ δ'=>tstD (evE G F c δ')) (λ δ'=>evSs G F fu body δ') fu δ
 | .retd i,δ=>match δ[i]? with
  | some (.od d)=>if isDc d then some (.rt (unT d) false)else none
  | _=>none
 | .sep i,δ=>some (.nx (δ.set i (.od (.tup [.dct [] []]))))
 | .dpp i ks e,δ=>match δ[i]? with
  | some (.od (.tup [.dct kk vs]))=>Re.thnS δ (MQ e) λ d _=>Rs.thnS δ (evEs G F ks δ) λ l=>(dppD i δ kk vs l d).map Out.nx
  | _=>none
 | .unk,_=>none
def evSs(G:Gs)(F:NE)(fu:Nat):on MS->on Sv->Mn Out
 | [],δ=>some (.nx δ)
 | s::r,δ=>match evS G F fu s δ with
  | some (.nx δ')=>evSs G F fu r δ'
  | o=>o
end
noncomputable def k7(n:Nat)(ds:on DV):on Sv:=ds.map Sv.val++List.replicate (n - ds.length) .no
def Ou.of(o:Mn Out):Mn Ou:=match o with
 | some (.nx _)=>some (.v .non false)
 | some (.rt d fr)=>some (.v d fr)
 | none=>none
def lamR(ev:ME->on Sv->Mn Re)(ds:on DV):Mn Ou:=match ds with
 | .lam m cs::args=>if args.length=m.np/\args.length+cs.length=m.N.length/\DV.nolams args=true/\DV.nolams cs=true then(match ev m.body ((args++cs).map Sv.val)with
  | some (.ok d .strong)=>if d.nolam then some (.v d false)else none
  | _=>none)else none
 | _=>none
def run(G:Gs)(T:on FD)(fu:Nat):Nat->Nat->on DV->Mn Ou
 | 0,_,_=>none
 | k+1,f,ds=>match T[f]? with
  | none=>if f=u7 then lamR (evE G (MK k)) ds else none
  | some fd=>if ds.length=fd.np then Ou.of (evSs G (MK k) fu fd.body (k7 fd.n ds))else none
def B2:Re.thn (some (.ok d c)) k=k d c:=rfl
def cV:Rs.thn (some (.ok l)) k=k l:=rfl
def ln:Ri.thn (some (.ok ds c)) k=k ds c:=rfl
def qB:Re.thnS δ (some (.ok d c)) k=k d c:=rfl
def Bv:Ri.thnS δ (some (.ok ds c)) k=k ds c:=rfl
def Bw{G:Gs}{F:Nat->on DV->Mn Ou}{fu:Nat}{δ:on Sv}{m:MS}{r:on MS}{δ':on Sv}(h:evS G F fu m δ=some (.nx δ')):evSs G F fu (m::r) δ=evSs G F fu r δ':=by
 rw[show evSs G F fu (m::r) δ=(match evS G F fu m δ with | some (.nx δ')=>evSs G F fu r δ' | o=>o)from rfl,h]
def Bx(h:evS G F fu m δ=some (.rt d fr)):evSs G F fu (m::r) δ=some (.rt d fr):=by
 rw[show evSs G F fu _ δ=(match evS G F fu m δ with | some (.nx δ')=>evSs G F fu r δ' | o=>o)from rfl,h]
def j9(h:T[f]? = some fd)(a:ds.length=fd.np):run G T fu (k+1) f ds=Ou.of (evSs G (MK k) fu fd.body (k7 fd.n ds)):=by
 show(match T[f]? with | none=>if f=u7 then lamR _ ds else none | some fd=>if ds.length=fd.np then Ou.of (evSs G _ fu fd.body _)else none)=_;rw[h];exact d6 a
end L2
namespace L2
open PySem
theorem qC:∀{a:on DV},(∀d∈a,g d=some (if p d then .item d else .skip))->x8 g a=some (a.filter p)
 | [],_=>rfl
 | d::r,h=>by
  have b:=qC (λ d e=>h d (j5 _ e));unfold x8;rw[(h d (i9 ..))];cases c:p d with
  | false=>rw[X0 (by grind)];exact b
  | true=>
   rw[X1 c];show(match x8 g r with | none=>none | some xs=>some _)=_;rw[b]
def By(h:d∈upTo a n):∃j:Nat,j<n/\d=.int (a+j):=by
 unfold upTo at h;rw[g9]at h;obtain⟨j,b,rfl⟩:=h;exact⟨j,i7.mp b,rfl⟩
end L2
namespace L2
open PySem
def j7(h:evSs G F fu r δ=some (.rt d fr)):Ou.of (evSs G F fu r δ)=some (.v d fr):=by rw[h];rfl
def qE{G:Gs}{F:Nat->on DV->Mn Ou}{fu:Nat}{δ δ':on Sv}{r:on MS}(h:evSs G F fu r δ=some (.nx δ')):Ou.of (evSs G F fu r δ)=some (.v .non false):=by rw[h];rfl
def f9(h:evS G F fu m δ=some (.nx δ'))(a:evSs G F fu r δ'=o):evSs G F fu (m::r) δ=o:=(Bw h).trans a
def j1(h:evS G F fu m δ=some (.rt d fr)):evSs G F fu (m::r) δ=some (.rt d fr):=Bx h
def fO(d:tstD (MQ c)=some (.ok bb)):evS G F fu (.iff c a b) δ=if bb then evSs G F fu a δ else evSs G F fu b δ:=by
 show Rt.thnS δ _ _=_;rw[d];rfl
def cW(d:tstD (MQ c)=some (.ok true))(h:evSs G F fu a δ=some (.nx δ'))(e:evSs G F fu r δ'=o):evSs G F fu (.iff c a b::r) δ=o:=f9 ((fO d).trans h) e
def qF(d:tstD (MQ c)=some (.ok false))(h:evSs G F fu b δ=some (.nx δ'))(e:evSs G F fu r δ'=o):evSs G F fu (.iff c a b::r) δ=o:=f9 ((fO d).trans h) e
def O6(e:tstD (MQ c)=some (.ok true))(h:evSs G F fu a δ=some (.rt d fr)):evSs G F fu (.iff c a b::r) δ=some (.rt d fr):=j1 ((fO e).trans h)
def r9(b:tstD (MQ c)=some (.ok false))(d:evSs G F fu r δ=o):evSs G F fu (.iff c a []::r) δ=o:=qF b rfl d
def D5(b:m9 (MQ it)=some (.ok ds cl))(c:cl=.strong\/cl=.fresh)(h:l7 tg (λ δ'=>evSs G F fu body δ') ds δ=some (.nx δ'))(d:evSs G F fu r δ'=o):evSs G F fu (.fo tg it body::r) δ=o:=by
 refine f9 ?_ d;show Ri.thnS δ _ _=_;rw[b];show(if cl=.strong\/cl=.fresh then l7 tg _ ds δ else none)=_
 rwa [d6 c]
def n6(h:Na e (.ok d cl))(hs:stro d cl=true):evS G F fu (.set i false e) δ=some (.nx (δ.set i (.val d))):=by
 show Re.thnS δ _ _=_;rw[h];show(if stro d cl then some _ else none)=_;rw[d6 hs]
def E5(h:Na e (.ok d .fresh)):evS G F fu (.set i true e) δ=some (.nx (δ.set i (.own d))):=by
 show Re.thnS δ _ _=_;rw[h];rfl
def k5(h:Na e (.ok d cl)):evS G F fu (.ret e) δ=some (.rt d (frD d cl)):=by
 show Re.thnS δ _ _=_;rw[h];rfl
def fP(h:Na e (.ok d cl)):evS G F fu (.exp e) δ=some (.nx δ):=by
 show Re.thnS δ _ _=_;rw[h];rfl
def g6(a:NQ)(hs:Nl=true)(h:F f (l.map (·.1))=some (.v d fr)):evE G F (.call f es) δ=some (.ok d (if fr then .fresh else .strong)):=by
 show Rs.thn _ _=_;rw[a];show D4 F f l=_;unfold D4;rw[h,hs];rfl
def Bz(c:NQ)(a:Nl=false)(h:F f (l.map (·.1))=some (.v d fr))(b:(fr&&imL d)=false:=by rfl):evE G F (.call f es) δ=some (.ok d .weak):=by
 show Rs.thn _ _=_;rw[c];show D4 F f l=_;unfold D4;rw[h,a];show some _=_;rw[b];rfl
def qG(b:NQ)(h:F f (l.map (·.1))=some (.v (MZ ds) true))(a:DV.immuts ds=true):evE G F (.call f es) δ=some (.ok (MZ ds) .fresh):=by
 show Rs.thn _ _=_;rw[b];show D4 F f l=_;unfold D4;rw[h];show some (Re.ok _ (if Nl then .fresh else if DV.immuts ds then .fresh else .weak))=_;rw[a];cases Nl<;>rfl
def j2(h:MH e cl (.bl x)):tstD (MQ e)=some (.ok x):=by rw[h];rfl
def fQ(h:MH e cl (.bl x)):evE G F (.not e) δ=some (.ok (.bl (!x)) .strong):=by
 show Re.thn _ _=_;rw[h];rfl
end L2
namespace L2
open PySem
def v4(d:Na a (.ok x cx))(c:Na b (.ok y cy))(h:binD op x y cx cy=r):evE G F (.bin op a b) δ=r:=by
 show Re.thn _ _=_;rw[d,B2,c,B2,h]
def D6(d:Na a (.ok x cx))(c:Na b (.ok y cy))(h:cmpD op x y=some t):evE G F (.cmp op a b) δ=some (.ok (.bl t) .strong):=by
 show Re.thn _ _=_;rw[d,B2,c,B2,h];rfl
def p6(e:Na a (.ok x cx))(c:Na b (.ok y cy))(h:ixD x y=some d):evE G F (.ix a b) δ=some (.ok d cx.item):=by
 show Re.thn _ _=_;rw[e,B2,c,B2,h];rfl
def BA(d:MH a cx (.bl false))(c:evE G F b δ=o):evE G F (.or [a,b]) δ=o:=by
 show Re.thn _ _=_;rw[d];exact c
def BB(c:MH a cx (.bl true)):evE G F (.or [a,b]) δ=some (.ok (.bl true) cx):=by
 show Re.thn _ _=_;rw[c];rfl
def f7:evEs G F [] δ=some (.ok []):=rfl
def d7(b:Na a (.ok x cx))(h:NQ):evEs G F (a::es) δ=some (.ok ((x,cx)::l)):=by
 unfold evEs;rw[b,h]
end L2
namespace L2
open PySem
def cX(c:δ[i]? = some (.own (MZ ds)))(h:Na e (.ok d cl))(a:stro d cl=true)(b:ds.length<l5):evS G F fu (.app i e) δ=some (.nx (δ.set i (.own (MZ (ds++[d]))))):=by
 show appS δ i _ δ[i]? = _;rw[c];show Re.thnS δ _ _=_;rw[h];exact d6 ⟨a,b⟩
def qH(f:δ[i]? = some (.own (MZ ds)))(h:Na e (.ok d cl))(b:MH k cx (.int n))(a:stro d cl=true)(c:A0 ds.length n=some j):evS G F fu (.seti i k e) δ=some (.nx (δ.set i (.own (MZ (ds.set j d))))):=by
 show qA δ i _ _ δ[i]? = _;rw[f];show Re.thnS δ _ _=_;rw[h,qB,b,qB];show(match A0 ds.length n with | some j=>if stro d cl then some (Out.nx _)else none | none=>none)=_;rw[c];exact d6 a
def BC(h:test δ=some (.ok false)):J0 test body (n+1) δ=some (.nx δ):=by
 unfold J0;rw[h]
def BD(h:test δ=some (.ok true))(a:body δ=some (.nx δ'))(hr:J0 test body n δ'=o):J0 test body (n+1) δ=o:=by
 unfold J0
 rwa [h,a]
def BE(h:J0 (λ δ'=>tstD (evE G F c δ')) (λ δ'=>evSs G F fu body δ') fu δ=some (.nx δ'))(b:evSs G F fu r δ'=o):evSs G F fu (.wh c body::r) δ=o:=f9 h b
end L2
namespace L2
open PySem
theorem Z2{I:Nat->on Sv->Prop}:∀(n:Nat) (c:Int) {δ:on Sv},(∀j<n,∀δ,I j δ->∃b,body (δ.set i (MM (c+j)))=some (.nx b)/\I (j+1) b)->I 0 δ->∃d,l7 (.one i) body (upTo c n) δ=some (.nx d)/\I n d
 | 0,_,δ,_,g=>⟨δ,rfl,g⟩
 | n+1,c,δ,h,g=>by
  have e:upTo c (n+1)=.int c::upTo (c+1) n:=by
   unfold upTo;rw[bP,t9,k9]
   congr 1
   ·congr 1;omega
   ·apply z7;intro a _;show DV.int _=DV.int _
    congr 1
    push_cast
    omega
  obtain⟨b,k,r⟩:=h 0 KE δ g;rw[show c+_=c by omega]at k;obtain⟨d,u,p⟩:=Z2 n (c+1) (λ j hj δ q=>by
   obtain⟨f,m,l⟩:=h (j+1) KE δ q;refine⟨f,?_,l⟩;rw[show c+1+_=c+((j+1:Nat):Int) by push_cast;omega];exact m) r
  refine⟨d,?_,p⟩;rw[e];show(match body (δ.set i _)with | some (.nx b)=>l7 _ body _ b | o=>o)=_;rw[k];exact u
def BF(b:m9 (MQ it)=some (.ok ds cl))(hc:cl ≠ .weak)(hl:ds.length<=l5)
  (h:∀d∈ds,∃a,tg.bind d (C3 fr δ)=some a/\tstD (evE G F cd a)=some (.ok (p d))/\evE G F elt a=some (MV d)):evE G F (.compi elt tg it cd fr) δ=some (.ok (MZ (ds.filter p)) .fresh):=by
 show Ri.thn _ _=_;rw[b,ln,e7 (by grind),qC (λ d c=>?_)]
 ·rfl
 ·obtain⟨a,g,f,e⟩:=h d c;rw[g,N6,f,e];cases p d<;>rfl
end L2
namespace L2
open PySem
def g8:evE G F (.int i) δ=some (.ok (.int i) .strong):=rfl
def d5(h:δ[n]? = some (.val d)):evE G F (.var n) δ=some (.ok d .strong):=congrArg varE h
def B3(h:δ[n]? = some (.own d)):evE G F (.var n) δ=some (.ok d .top):=congrArg varE h
def E6(d:MH a cx (.int i))(c:MH b cy (.int j)):evE G F (.bin .Add a b) δ=some (.ok (MY (i+j)) .strong):=v4 d c rfl
def V5(d:MH a cx (.int i))(c:MH b cy (.int j)):evE G F (.bin .Sub a b) δ=some (.ok (MY (i - j)) .strong):=v4 d c rfl
def E7(d:MH a cx (.int i))(c:MH b cy (.int j))(h:R7 i j=true):evE G F (.bin .Mult a b) δ=some (.ok (MY (i*j)) .strong):=v4 d c (d6 h)
def J1(d:MH a cx (.int i))(c:MH b cy (.int j))(h:0<j):evE G F (.bin .Mod a b) δ=some (.ok (MY (i%j)) .strong):=v4 d c (d6 h)
def cY(d:MH a cx (.int i))(c:MH b cy (.int j))(h:0<j/\j<1073741824):evE G F (.bin .FloorDiv a b) δ=some (.ok (MY (i/j)) .strong):=v4 d c (d6 ⟨h.1,Int.lt_trans h.2 MG⟩)
def b_eq(d:MH a cx (.int i))(c:MH b cy (.int j)):evE G F (.cmp .Eq a b) δ=some (.ok (.bl (i==j)) .strong):=D6 d c rfl
def b_lt(d:MH a cx (.int i))(c:MH b cy (.int j)):evE G F (.cmp .Lt a b) δ=some (.ok (.bl (decide (i<j))) .strong):=D6 d c rfl
end L2
namespace L2
open PySem
def lq:evE G F (.str x) δ=some (.ok (.str x) .strong):=rfl
def S4(h:NQ)(b:l.length<=l5)(a:stros l=true):evE G F (.tup es) δ=some (.ok (.tup (l.map (·.1))) .strong):=by
 show Rs.thn _ _=_;rw[h,cV,d6 b,a];rfl
end L2
namespace L2
open PySem
theorem lr:∀{ds es:on DV} {f e:on Sv},l7 tg body ds f=some (.nx e)->l7 tg body (ds++es) f=l7 tg body es e
 | [],es,f,e,h=>by cases h;rfl
 | d::r,es,f,e,h=>by
  show(match tg.bind d f with | none=>none | some b=>(match body b with | some (.nx a)=>l7 tg body _ a | o=>o))=_;have g:(match tg.bind d f with | none=>none | some b=>(match body b with | some (.nx a)=>l7 tg body r a | o=>o))=some _:=h;cases j:tg.bind d f with
  | none=>rw[j]at g;cases g
  | some b=>
   rw[j]at g;have c:(match body b with | some (.nx a)=>l7 tg body r a | o=>o)=some _:=g;show(match body b with | some (.nx a)=>l7 tg body _ a | o=>o)=_;cases i:body b with
   | none=>rw[i]at c;cases c
   | some o=>
    rw[i]at c;cases o with
    | nx a=>exact lr c
    | rt d fr=>cases c
end L2
namespace L2
open PySem
def qI(c:tg.bind d δ=some δ1)(b:body δ1=some (.nx a)):l7 tg body [d] δ=some (.nx a):=by
 unfold l7;rw[c];simp only[b];rfl
end L2
end
noncomputable section
namespace L2
open PySem
def Rise(xs:Mu Nat):Prop:=∀(i k x y:Nat),i<k->xs[i]? = some x->xs[k]? = some y->x<y
def qJ(v:Rise xs):∀(c b a:Nat),b<=a->a<=xs.size->a - b<=c ->
  (∀i x,i<b->xs[i]? = some x->x<j)->(∀i x,a<=i->xs[i]? = some x->j<=x) ->
  (∀i x,i<SetTable.below.go xs j c b a->xs[i]? = some x->x<j)/\(∀i x,SetTable.below.go xs j c b a<=i->xs[i]? = some x->j<=x):=by
 intro c
 induction c with
 | zero=>
  intro b a z w y l k;have:b=a:=by omega
  subst this;exact⟨l,k⟩
 | succ n u=>
  intro b a z w y l k;unfold SetTable.below.go;by_cases g:b<a
  ·rw[d6 g];have hm:(b+a)/2<a:=by omega
   have o:b<=(b+a)/2:=by omega
   have m:(b+a)/2<xs.size:=by omega
   have h:=L6 m;have r:xs.getD ((b+a)/2) j=xs[(b+a)/2]:=(by rw[T7,h];rfl);dsimp only;rw[r];by_cases f:xs[(b+a)/2]<j
   ·rw[d6 f];refine u _ _ KE w KE (λ i x p d=>?_) k;rcases U7 i ((b+a)/2)with q | q
    ·exact Y4 (v i _ x _ q d h) f
    ·have e:i=(b+a)/2:=by omega
     subst e;rw[h]at d;cases d;exact f
   ·rw[e7 f];refine u _ _ o KE KE l λ i x p d=>?_
    rcases U7 ((b+a)/2) i with q | q
    ·exact e9 (U3 f) (Q8 (v _ i _ x q h d))
    ·have e:i=(b+a)/2:=by omega
     subst e;rw[h]at d;cases d;exact U3 f
  ·rw[e7 g];have:b=a:=by omega
   subst this;exact⟨l,k⟩
def lu(b:Rise xs)(h:i<SetTable.below xs j)(a:xs[i]? = some x):x<j:=
 (qJ b xs.size 0 xs.size (u9 _) (f6 _) KE (λ i x h=>by omega) λ i x h a=>by
  rw[L8 h]at a;cases a).1 i x h a
def fR(b:Rise xs)(h:SetTable.below xs j<=i)(a:xs[i]? = some x):j<=x:=
 (qJ b xs.size 0 xs.size (u9 _) (f6 _) KE (λ i x h=>by omega) λ i x h a=>by
  rw[L8 h]at a;cases a).2 i x h a
def BG:∀(a c b:Nat),c<=b->SetTable.below.go xs j a c b<=b:=by
 intro a
 induction a with
 | zero=>intro c b h;exact h
 | succ n d=>
  intro c b h;unfold SetTable.below.go;dsimp;split
  ·split
   ·exact d _ _ KE
   ·exact e9 (d _ _ KE) KE
  ·exact h
def qK:SetTable.below xs j<=xs.size:=BG _ _ _ (u9 _)
def BH(d:Rise xs)(c:xs[i]? = some x):SetTable.below xs (x+1)=i+1:=by
 have hi:i<xs.size:=by
  rcases U7 i xs.size with h | h
  ·exact h
  ·rw[L8 h]at c;cases c
 rcases eW _ _ with h | h | h
 ·have:=fR d (j:=x+1) (jn h) c;omega
 ·exact h
 ·have h2:SetTable.below xs (x+1)<=xs.size:=qK;have f:i+1<xs.size:=by omega
  have e:=L6 f;have a:=lu d h e;have b:=d i _ x _ (aB _) c e;omega
def BI(b:Rise xs):SetTable.below xs 0=0:=by
 rcases jg _ with h | h
 ·exact h
 ·have h2:SetTable.below xs 0<=xs.size:=qK;have a:=lu b h (L6 KE);omega
def Rise.empty:Rise #[]:=λ i k x y _ a=>by simp at a
theorem Rise.range(n:Nat):Rise (Array.range n):=λ i k x y h b a=>by
 rw[Array.getElem?_range]at b a;split at b
 ·split at a
  ·cases b;cases a;exact h
  ·cases a
 ·cases b
def qL{l:on Nat}(h:l.Pairwise (· < ·)):Rise l.toArray:=λ i k x y a c b=>by
 obtain⟨e,g⟩:=w5.mp (Nm c);obtain⟨d,f⟩:=w5.mp (Nm b);rw[←g,←f];exact iI.mp h i k e d a
def BJ(h:Rise xs):xs.toList.Pairwise (· < ·):=by
 refine iI.mpr λ i k c b a=>?_;exact h i k _ _ a (by rw[←F2];exact i6 c) (by rw[←F2];exact i6 b)
structure Tab(t:SetTable)(b:Bool):Prop where
 rise:Rise t.place
 dum:t.dummies = #[]
 led:t.led=b
theorem Tab.fresh(b:Bool):Tab (SetTable.fresh 0 0 b) b:=⟨Rise.empty,rfl,rfl⟩
theorem Tab.standIn(h:Tab t b)(n:Nat):Tab (t.standIn n) b:=⟨Rise.range n,rfl,h.led⟩
def qM(j:Nat):SetTable.has #[] j=false:=by
 unfold SetTable.has;simp
def BK(h:Tab t b)(f:Nat->Int)(z:Int):∀(a:Nat) (p:SetTable.Probe) (j:Nat) (d:Mn Nat),p.dummy=none->SetTable.probe.go t f z a p=some (.empty j d)->d=none/\t.slot j=.empty:=by
 intro a
 induction a with
 | zero=>intro p j d c e;cases e
 | succ n g=>
  intro p j d c e;unfold SetTable.probe.go at e;cases hs:t.slot p.j with
  | empty=>rw[hs]at e;cases e;exact⟨c,hs⟩
  | dummy=>
   unfold SetTable.slot at hs;rw[h.dum,qM]at hs;dsimp at hs;split at hs
   ·cases hs
   ·cases hs
  | live i=>
   rw[hs]at e;dsimp at e;split at e
   ·cases e
   ·refine g _ j d ?_ e;unfold SetTable.advance;split
    ·exact c
    ·exact c
def BL(h:Tab t b)(e:t.freeSlot z=some (j,w)):t.slot j=.empty:=by
 unfold SetTable.freeSlot at e;split at e
 ·rename_i j' d a;obtain⟨c,hs⟩:=BK h _ _ _ _ _ _ rfl a;subst c;cases e;exact hs
 ·cases e
theorem Tab.put(h:Tab t b)(hs:t.slot j=.empty):Tab (t.put j).1 b:=by
 have m:t.place[SetTable.below t.place j]? ≠ some j:=λ z=>by unfold SetTable.slot at hs;dsimp only at hs;rw[z]at hs;simp at hs
 refine⟨?_,?_,h.led⟩
 ·show Rise _;have g:=BJ h.rise;have:(SetTable.insertAt t.place (SetTable.below t.place j) j).toList.Pairwise (· < ·):=by
   rw[(SetTable.toList_insertAt _ _ _),au];refine⟨g.sublist (jl _ _),C8.mpr ⟨λ y f=>?_,g.sublist (List.drop_sublist _ _)⟩,λ x l y f=>?_⟩
   ·obtain⟨i,d⟩:=eQ.mp f;rw[eU,F2]at d;rcases bY (fR h.rise (E3 _ _) d)with q | q
    ·exact q
    ·exfalso;subst q;rcases jg i with z | z
     ·subst z;exact m d
     ·have n:SetTable.below t.place j<t.place.size:=by
       rcases U7 (SetTable.below t.place j+i) t.place.size with q | q
       ·omega
       ·rw[L8 q]at d;cases d
      have k:=L6 n;have a:=fR h.rise (f6 _) k;have c:=h.rise _ _ _ _ KE k d;omega
   ·have e:x<j:=by
     obtain⟨i,d⟩:=eQ.mp l;rw[List.getElem?_take]at d;split at d
     ·rw[F2]at d;exact lu h.rise KE d
     ·cases d
    rcases f8.mp f with q | q
    ·rw[q];exact e
    ·obtain⟨i,d⟩:=eQ.mp q;rw[eU,F2]at d;exact o4 e (fR h.rise (E3 _ _) d)
  have r:=qL this
  rwa [Array.toArray_toList]at r
 ·show(if SetTable.has t.dummies j then _ else t.dummies) = #[];rw[h.dum,qM];rfl
theorem Tab.orStandIn(h:Tab t b)(n:Nat):Tab (t.orStandIn n) b:=by
 unfold SetTable.orStandIn;split
 ·exact h
 ·exact h.standIn n
theorem Tab.layNew{t:MD}{b:Bool}(h:Tab t b)(es:Mu (Int×Mo))(z:Int)(x:Mo):Tab (layNew t es z x).2.1 b:=by
 unfold PySem.layNew;split
 ·rename_i j w e;exact(h.put (BL h e)).orStandIn _
 ·exact h.standIn _
theorem qN{f:Nat->Mn Nat}:∀{l:on Nat},l.Pairwise (· < ·)->((l.filterMap λ j=>(f j).map (j,·)).map (·.1)).Pairwise (· < ·)
 | [],_=>.nil
 | a::l,h=>by
  obtain⟨o,n⟩:=C8.mp h;have d:=qN (f:=f) n;rw[eT];cases e:f a with
  | none=>exact d
  | some c=>
   refine C8.mpr ⟨λ y i=>?_,d⟩;obtain⟨p,k,rfl⟩:=g9.mp i;obtain⟨j,m,b⟩:=bX.mp k;cases g:f j with
   | none=>rw[g]at b;cases b
   | some c2=>rw[g]at b;cases b;exact o j m
theorem Tab.relayAll{t:MD}{b:Bool}(h:Tab t b)(es:Mu (Int×Mo))(n:Nat):Tab (relayAll t es n).2.1 b:=by
 unfold PySem.relayAll;split
 ·rename_i t' order e;dsimp only;split
  ·show Tab t' b;unfold SetTable.relaid SetTable.laid at e;cases hl:SetTable.layClean (SetTable.sizeAbove n - 1) (es.map (·.1))with
   | none=>rw[hl]at e;cases e
   | some owner=>
    rw[hl]at e;cases e;exact⟨qL (qN (pC)),rfl,h.led⟩
  ·exact h.standIn _
 ·exact h.standIn _
theorem lv{b:Type}{x:b}:∀{l:on b} {i:Nat} (h:i<l.length),l[i]=x->(x::l.eraseIdx i).Perm l
 | [],i,h,_=>by cases h
 | a::l,0,_,e=>by have e:=e;subst e;exact .rfl
 | a::l,i+1,h,e=>by rw[List.eraseIdx_cons_succ];exact(List.Perm.swap a x _).trans (List.Perm.cons a (lv (Nm h) (Nm e)))
def BM(d:Nat->Nat):∀(c k:Nat) (b:on i) (f:Mu i),b.length<=c->(pickOrder.go d c k b f).toList.Perm (f.toList++b):=by
 intro c
 induction c with
 | zero=>
  intro k b f h;have:b=[]:=iP.mp KE;subst this;unfold pickOrder.go;rw[x4]
 | succ n j=>
  intro k b f h;unfold pickOrder.go;cases e:b[d k%b.length]? with
  | none=>
   have:b=[]:=by
    cases b with
    | nil=>rfl
    | cons a r=>
     have g:d k%(a::r).length<(a::r).length:=cI _ MP;rw[i6 g]at e;cases e
   subst this;rw[x4]
  | some x=>
   obtain⟨g,l⟩:=w5.mp e;refine(j _ _ _ ((by rw[List.length_eraseIdx,d6 g];omega))).trans ?_;rw[Array.toList_push,Q2];refine List.Perm.append_left _ ?_;exact lv g l
def qO(a:Nat->Nat)(xs:Mu b):(pickOrder a xs).toList.Perm xs.toList:=by
 unfold pickOrder;exact(BM a xs.size 0 xs.toList #[] MP).trans MP
def K4:Mo->Int
 | .int n _=>n
 | _=>0
def A1(w:Mv):Bool:=w.params.followText "set-order"
def SetI(prog:Mw)(w:Mv)(h:Mr)(a:Mq)(ks:on Int):Prop:=
 ∃o es ep t,h.get? a=some o/\o.ExactSet/\o.data=.set es ep t/\ElemsOf (intKind prog w) es.toList/\(es.toList.map λ e=>K4 e.2).Perm ks/\es.size<scanBound/\t.fits es.size=true/\Tab t (!A1 w)
def qP(h:ElemsOf (intKind prog w) es)(b:e∈es):∃t,e.2=.int (K4 e.2) t:=by
 obtain⟨⟨k,a,_⟩,_⟩:=h e b;obtain⟨t,q⟩:=Value.isInt_shape a;exact⟨t,by rw[q];rfl⟩
def qQ(h:ElemsOf (intKind prog w) es)(a:e∈es)(k:Int):(intKind prog w).is k e.2=true↔K4 e.2=k:=by
 obtain⟨t,q⟩:=qP h a;rw[q];show Value.isInt k (.int _ t)=true↔_;simp[Value.isInt,K4]
def SetI.at(x:SetI prog w h a ks)(k:∀o,h.get? a=some o->b.get? a=some o):SetI prog w b a ks:=by
 obtain⟨o,es,d,t,c,r⟩:=x;exact⟨o,es,d,t,k o c,r⟩
def qR{h:Mr}(c:h.get? a=some o)(b:o.data=.set es ep t) :
  (h.update a (Obj.putSet es' t')).get? a=some {o with data:=.set es' (ep+1) t'}:=by
 have q:=X2 (Obj.putSet es' t') c (by rw[putSet_of es' t' b];rfl)
 rwa [putSet_of es' t' b]at q
def BN{prog:Mw}{w:Mv}{A:My}{s:Mp}{a:Mq}{j:on Int}{k:Int}{tk:Tok}{o:Obj}{ep:Nat}{t:MD}(r:s.heap.get? a=some o)(q:o.ExactSet)(u:o.data=.set es ep t)
    (l:ElemsOf (intKind prog w) es.toList) (H:(es.toList.map λ e=>K4 e.2).Perm j) (hb:es.size+1<scanBound) (ht:Tab t (!A1 w))
     {d:MD} (p1:c.toList.Perm (es.toList++[(hashInt k,Value.int k tk)])) (J:d.fits c.size=true) (x:Tab d (!A1 w)) (F:Bool) {g:Bool->Sem Unit}
    (I:∀(b:Bool) (f:Mp) (Q':Unit->Mp->Prop),Q' () f->wpAny MJ A (g b) Q' E f)
    (h:∀m,Heap.SameBut a s.heap m->SetI prog w m a (j++[k])->Q (some true) {s with heap:=m}) :
    wpAny MJ A (do
      storeSet a c d
      if(!F&&d.tooFull)=true then do
        g (relayAll d c Ob).2.2
        storeSet a (relayAll d c Ob).1 (relayAll d c Ob).2.1
        pure (some true)
      else pure (some true)) Q E s:=by
  have z1:c.size=es.size+1:=(by have:=p1.length_eq;rw[p7,u3,u3]at this;exact this);have z:ElemsOf (intKind prog w) c.toList:=(l.push (intKind_is prog w k tk) rfl).perm p1;have p:(c.toList.map λ e=>K4 e.2).Perm (j++[k]):=(by refine(p1.map _).trans ?_;rw[o7];exact H.append_right _);have C:c.size<scanBound:=by omega
  refine d4 (wpAny_storeSet_of r u ?_ (jo C));have i:=qR (es':=c) (t':=d) r u;have n:=F3 s.heap a (Obj.putSet c d);split
  · have p2:=relayAll_perm d c Ob
    have y:=relayAll_fits d c Ob;have v:=x.relayAll c Ob;generalize relayAll d c Ob=R at p2 y v ⊢;have z2:R.1.size=c.size:=by
      have:=p2.length_eq
      rwa [u3,u3]at this
    have B:R.1.size<scanBound:=by omega
    refine d4 (I _ _ _ ?_);refine d4 (wpAny_storeSet_of i rfl ?_ (jo B));refine e8 (h _ (n.trans (F3 _ a _)) ?_);exact⟨_,R.1,_,R.2.1,qR i rfl,q,rfl,z.perm p2,(p2.map _).trans p,B,y,v⟩
  · refine e8 (h _ n ?_)
    exact⟨_,c,_,d,i,q,rfl,z,p,C,J,x⟩
def BO(Z:SetI prog w s.heap a ks)(hr:ks.length+1<scanBound)
  (h:∀n b,Heap.SameBut a s.heap n->SetI prog w n a (dk ks k)->Q b {s with heap:=n}) :
  wpAny MJ A (setAddHashed a (.int k tk) (hashInt k)) Q E s:=by
 obtain⟨o,es,ep,t,B,W,F,f,u,Y,P,K⟩:=id Z;have hz:es.size=ks.length:=by
  have:=u.length_eq
  rwa [d9,u3]at this
 have M:∀(b:Bool) (d:Mp) (H:Unit->Mp->Prop),H () d->wpAny MJ A (match b with | true=>rule "set.scan.the-table-gave-way" | false=>pure ()) H E d:=λ b d H q=>by
  cases b with
  | true=>exact U9 q
  | false=>exact e8 q
 unfold setAddHashed setAddHashedIn;refine D0 (d4 (ax B F P ?_));dsimp only;rw[byScan_of rfl Y f,d6 rfl];unfold setAddByScan;refine d4 (d4 (U9 (d4 ?_)));refine wpAny_setScan_of (intKind_is prog w k tk) B F P f ?_;cases O:es.toList.findIdx? _ with
 | some j=>
  obtain⟨N,X,_⟩:=List.findIdx?_eq_some_iff_getElem.mp O;have C:=u.mem_iff.mp (g9.mpr ⟨es.toList[j],E4 N,(qQ f (E4 N) k).mp X⟩);have m:dk ks k=ks:=by unfold dk;rw[d6 C]
  refine e8 (e8 ?_);have:=h s.heap false (Heap.SameBut.refl a s.heap) (by grind);exact this
 | none=>
  have C:k∉ks:=λ z=>by obtain⟨e,R,q⟩:=g9.mp (u.mem_iff.mpr z);have:=List.findIdx?_eq_none_iff.mp O e R;rw[(qQ f R k).mpr q]at this;cases this
  have m:dk ks k=ks++[k]:=(by unfold dk;rw[e7 C]);rw[m]at h;dsimp only;have p1:=layNew_perm t es (hashInt k) (.int k tk);have y:=layNew_fits t es (hashInt k) (.int k tk);have v:=K.layNew es (hashInt k) (.int k tk);show wpAny _ _ _ _ _ _
  change wpAny _ A (match layNew t es (hashInt k) (.int k tk)with | _=>_) _ _ _
  generalize layNew t es _ _=L at p1 y v ⊢;obtain⟨c,J,I,gv⟩:=L;rw[Array.toList_push]at p1;dsimp only at p1 y v ⊢;refine d4 (M gv _ _ ?_);have p:∀g:MD,g.fits c.size=true->Tab g (!A1 w)->wpAny MJ A (do
   storeSet a c g
   if(!I&&g.tooFull)=true then do
    (λ b:Bool=>match b with | true=>rule "set.scan.the-table-gave-way" | false=>pure ()) (relayAll g c Ob).2.2
    storeSet a (relayAll g c Ob).1 (relayAll g c Ob).2.1
    pure (some true)
   else pure (some true)) (λ r U=>wpAny MJ A (match r with | some l=>pure l | none=>setAddHashedIn a (.int k tk) (hashInt k) 99999) Q E U) E s:=λ g f2 g2=>
   BN B W F f u KE K p1 f2 g2 I M λ n S S'=>e8 (h n true S S')
  split
  ·refine d4 ?_;rw[hashByValue_scannable 8 rfl];refine e8 ?_;exact p J y v
  ·refine d4 (e8 ?_);exact p J y v
open PySem.Spec PyProof.Rows
def fm(val:Nat->Int)(i:Nat):on Int:=((ML i).map val).foldl dk []
def qS(a:Nat->Int)(i:Nat):fm a (i+1)=dk (fm a i) (a i):=by
 unfold fm;rw[Y0,o7,jq];rfl
def fS(σ:on Int)(k:Int):(dk σ k).length<=σ.length+1:=by
 unfold dk;split
 ·exact M4 _
 ·rw[p7];exact f6 _
theorem aS(a:Nat->Int):∀i,(fm a i).length<=i
 | 0=>f6 _
 | i+1=>by rw[qS];exact e9 (fS _ _) (jv (aS a i))
def SetI.moved(x:SetI prog w s.heap S ks)(b:Moved wr G s a)(c:S∉wr):SetI prog w a.heap S ks:=x.at λ o e=>b.heap S o c e
def BP{prog:Mw}{w:Mv}{A:My}{I:Mq}{n:Nat}{St:Nat->Mp->Prop}(W:WalksS prog w A.in1 I fp f G n P St)(S:Mq)(j:S∉fp)(val:Nat->Int)(g:∀i v,P i v->∃t,v=.int (val i) t)(d:n+1<scanBound) :
  ∀(k i:Nat) (s:Mp),i+k=n->St i s->SetI prog w s.heap S (fm val i) ->
   (∀a,Moved (S::f) G s a->SetI prog w a.heap S (fm val n)->R (.ok (.ret .none)) a)->codeAny MJ A (.builtin "set.update.loop" ⟨[.ref S,.ref I],[]⟩) R s:=by
 have u:S∉f:=λ z=>j (W.sub S z);have r:∀b∈f,b∈S::f:=λ b z=>j5 S z;intro k
 induction k with
 | zero=>
  intro i s e st hs q;have e:i=n:=e;subst e;refine aE pi ?_;rw[bU iQ];show wpAny MJ A.in1 (pyNext (.ref I) >>= _) _ _ s;refine d4 (W.done s _ _ st λ a h=>?_);show wpAny MJ A.in1 (ret Value.none) _ _ a;exact e8 (q a (h.mono r) (hs.moved h u))
 | succ k C=>
  intro i s e st hs q;have H:i<n:=by omega
  refine aE pi ?_;rw[bU iQ];show wpAny MJ A.in1 (pyNext (.ref I) >>= _) _ _ s;refine d4 (W.item i s _ _ H st λ v a J l h=>?_);obtain⟨t,E⟩:=g i v J;subst E;have m:=hs.moved h u;show wpAny MJ A.in1 _ _ _ a;refine d4 (D0 ?_);unfold setAdd;refine D0 (d4 ((intKind prog w).pyHash (k:=val i) (intKind_is prog w (val i) t) ?_));have hl:=aS val i;refine BO (s:={a with toks:=a.toks+1}) (k:=val i) (tk:=t) m KE λ x b y L=>?_;have c:∀b o,b≠S->a.heap.get? b=some o->x.get? b=some o:=λ b o d e=>by rw[y.2 b d];exact e
  refine e8 ⟨cu iQ _,C (i+1) _ KE (W.frame (i+1) a x _ l (M4 _) λ b d o e=>c b o (λ z=>j (z▸d)) e) (by rw[qS];exact L) λ B p K=>?_⟩;refine q B (Moved.trans W.gtrans ((h.mono r).then_heap (M4 _) λ b o d e=>c b o (λ z=>d (z▸i9)) e) p) K
noncomputable def set0(w:Mv):Obj:={cls:=.type "set",dict:=none,data:=.set #[] 0 (.fresh 0 0 (!A1 w))}
def BQ(e:h.get? a=some (set0 w)):SetI prog w h a []:=
 ⟨_,#[],0,_,e,⟨rfl,rfl,rfl⟩,rfl,λ _ z=>by simp at z,by simp,by decide,by rfl,Tab.fresh _⟩
def BR(v:Mo)(h:Q No {s with heap:=s.heap.push (set0 w)}) :
  codeAny MJ A (.call (.builtin "set.__new__") ⟨[.type "set",v],[]⟩) (wants Q E) s:=by
 refine codeAny_of_tree ?_;show wpAny _ A.in1 _ _ _ s;refine d4 (cD (F.newCall_set_1 v) ?_);refine e8 ⟨cu F.plain_set_new _,aE F.entry_set_new ?_⟩;rw[bU F.plain_set_new];unfold Builtin.«set.__new__» Builtin.Frozenset.newClass;have q:=sub_set_self;obtain⟨h0,g0,d0,t0,o0⟩:=s
 wp_walk
 refine aC (e8 ?_);simp[newObj];exact d4 (wpAny_alloc (e8 (e8 h)))
def BS{prog:Mw}{w:Mv}{A:My}{E:Mo->Mp->Prop}{s:Mp}{l:Mq}{items:Mu Mo}{ns:on Int}{Q:Mo->Mp->Prop}(hh:NT)(hl:s.heap.IsList l items)(hi:IntsAre items.toList ns)(hb:items.size+1<scanBound)
  (h:∀h' tk,SetI prog w h' s.heap.objs.size (fm (λ i=>ns.getD i 0) items.size)->(∀b o,s.heap.get? b=some o->h'.get? b=some o)->Q No {s with heap:=h',toks:=tk}) :
  wpAny MJ A (call (.type "set") [.ref l]) Q E s:=by
 have m0:=F.called_set.mro;obtain⟨c0,r0,m1⟩:=m0;have m2:=F.called_set.made;have m3:=F.called_set.sub;have m4:=F.called_set.notType;have m5:=F.called_set.canCreate;have m6:=F.typeCall_set_1 (.ref l);refine cH (codeAny_of_tree ?_);show wpAny MJ _ (callAny (.type "set") _) _ _ _;refine e8 ⟨Code.quiet_builtin _ Ng,aE F.entry_type_call ?_⟩;rw[Around.under_plain (weight_type_call_type "set" [.ref l] []) rfl]
 repeat (any_goals (first | assumption | wp_step))
 refine O0 (BR (.ref l) (E:=E) (Q:=λ v s1=>v=.ref s.heap.objs.size/\s1 = {s with heap:=s.heap.push (set0 w)}) ⟨rfl,rfl⟩) λ r s1 q=>?_;cases r with
 | error e=>exact q
 | ok f=>
  cases f with
  | ret v=>
   obtain⟨e1,e2⟩:=q;subst e1;subst e2;have g0:(s.heap.push (set0 w)).get? s.heap.objs.size=some (set0 w):=m7 _ rfl;have ty:Shared.TypeIs {s with heap:=s.heap.push (set0 w)} No "set":=⟨_,g0,rfl⟩;have n1:=F.called_set.init.lookup;have n2:=F.called_set.init.bind No
   repeat (any_goals (first | assumption | wp_step))
   refine O0 (codeAny_call_builtin (R:=wants (λ v s2=>v=.none/\∃h' tk,s2 = {s with heap:=h',toks:=tk} /\ SetI prog w h' s.heap.objs.size (fm (λ i=>ns.getD i 0) items.size) /\
     ∀b o,s.heap.get? b=some o->h'.get? b=some o) E) F.called_set.init.plain F.entry_set_init (check_set_init_1 ty ?_)) λ r2 s2 q2=>?_
   ·obtain⟨⟨k1,k2,k3,k4⟩,kl,kc,kn,kd⟩:=hl;dsimp only at kc kd;subst kc;subst kd;have kl':(s.heap.push (set0 w)).get? l=some {cls:=.type "list",dict:=k2,data:=.seq items kn,slots:=k4}:=i5 _ kl;have il:(s.heap.push (set0 w)).IsList l items:=⟨_,kl',rfl,kn,rfl⟩;have p1:=F.sub_list_set;have p2:=F.sub_list_frozenset;have p3:(Value.type "list" == Value.type "dict")=false:=by decide
    unfold Builtin.«set.__init__» noKeywords Builtin.Frozenset.updateFrom;generalize hP:pyIter=PI
    wp_walk
    subst hP;refine Q1 il (d4 (wpAny_runValue ?_));have l0:l<s.heap.objs.size:=j6 kl;have z1:(s.heap.push (set0 w)).objs.size=s.heap.objs.size+1:=B8 _ _;have a1:l≠(s.heap.push (set0 w)).objs.size:=by rw[z1];exact n9 (ay l0)
    have a2:s.heap.objs.size∉[(s.heap.push (set0 w)).objs.size,l]:=by
     rw[z1];intro z;rcases f8.mp z with z | z
     ·exact absurd z (n9 (aB _))
     ·exact absurd (s9.mp z) (M3 l0)
    refine BP ((Walks.list (by show A.handled=none;exact hh) _ l a1 items).toS) s.heap.objs.size a2 (λ i=>ns.getD i 0) (λ i v e=>IntsAre.int_at hi i v (by rw[F2];exact e)) hb
     items.size 0 _ (F6 _) ⟨⟨_,m7 _ rfl,rfl,rfl⟩,il.push _⟩ (BQ (i5 _ g0)) λ s3 hm S3=>?_
    obtain⟨h3,g3,d3,t3,o3⟩:=s3;have b1:g3=s.gens:=hm.gens;have b2:d3=s.drawn:=hm.drawn;have b3:o3=s.os:=hm.os;subst b1;subst b2;subst b3;show wpAny MJ _ _ _ _ _;refine e8 ?_;show wpAny MJ _ (ret Value.none) _ _ _;refine e8 ⟨rfl,h3,t3,rfl,S3,λ b o e=>?_⟩;have b4:=j6 e;refine hm.heap b o (λ z=>?_) (i5 _ (i5 _ e));rcases f8.mp z with z | z
    ·exact absurd z (n9 b4)
    ·have:=s9.mp z;rw[z1]at this;exact absurd this (n9 (ay b4))
   ·cases r2 with
    | error e=>exact q2
    | ok f2=>
     cases f2 with
     | ret v2=>
      obtain⟨c1,h',tk,c2,c3,c4⟩:=q2;subst c1;subst c2
      repeat (any_goals (first | assumption | wp_step))
      exact h h' tk c3 c4
     | _=>exact q2.elim
  | _=>exact q.elim
def B4(h:Mr)(I a:Mq)(f:Mo)(i n ep:Nat):Prop:=∃o,h.get? I=some o/\o.cls=.type "set_iterator" /\ o.data=.fields #[f,.int i 0,.ref a,.int n 0,.int ep 0]
def E8(h:Mr)(a:Mq)(es:Mu (Int×Mo))(ep:Nat)(t:MD):Prop:=∃o,h.get? a=some o/\o.ExactSet/\o.data=.set es ep t
def B4.typeIs{s:Mp}(x:B4 s.heap I a f i n ep):s.TypeIs (.ref I) "set_iterator":=let ⟨o,e,c,_⟩:=x;⟨o,e,c⟩
def B4.at(x:B4 h I a f i n ep)(k:∀o,h.get? I=some o->b.get? I=some o):B4 b I a f i n ep:=let ⟨o,e,c⟩:=x;⟨o,k o e,c⟩
def E8.at(x:E8 h a es ep t)(k:∀o,h.get? a=some o->b.get? a=some o):E8 b a es ep t:=let ⟨o,e,c⟩:=x;⟨o,k o e,c⟩
def E8.typeIs{s:Mp}(x:E8 s.heap a es ep t):s.TypeIs (.ref a) "set":=let ⟨o,e,c,_⟩:=x;⟨o,e,c.1⟩
def M8:Slot "set_iterator" "__next__" "set_iterator.__next__":=
 .of (owner:="set_iterator") (n:="__next__") (by rw[typeLookup_type,pI];kernel_rfl) Ng Ng Ng
  (by first | exact .inl (by decide +kernel) | exact .inr (by decide +kernel)) (by rw[jN];kernel_rfl)
def fT:entryFor table "set_iterator.__next__" = some Builtin.«set_iterator.__next__»:=entryFor_of_tree (by kernel_rfl)
def fU(v:Mo):argsOk "set_iterator.__next__" ⟨[v],[]⟩:=by unfold argsOk;kernel_rfl
def BU:entryFor table "set.__iter__" = some Builtin.«frozenset.__iter__»:=entryFor_alias (id':="frozenset.__iter__") (by kernel_rfl) rfl Ng (by kernel_rfl)
def qU{ep:Nat}{h:Mr}{i:Nat}{n:Nat}(e:h.get? I=some o)(c:o.cls=.type "set_iterator")(d:o.data=.fields #[f,.int i 0,.ref a,.int n 0,.int ep 0]) :
  B4 (h.update I (Obj.mapFields (·.setIfInBounds 1 (rawInt ((i:Int)+1))))) I a f (i+1) n ep:=by
 refine⟨_,X2 _ e (iX (av d _)),(jm ..).trans c,?_⟩;rw[av d];simp[rawInt]
def qV{ep:Nat}{h:Mr}(g:Mo){i:Nat}{n:Nat}(e:h.get? I=some o)(c:o.cls=.type "set_iterator")(d:o.data=.fields #[f,.int i 0,.ref a,.int n 0,.int ep 0]) :
  B4 (h.update I (Obj.mapFields (·.setIfInBounds 0 g))) I a g i n ep:=by
 refine⟨_,X2 _ e (iX (av d _)),(jm ..).trans c,?_⟩;rw[av d];simp
def qW{prog:Mw}{w:Mv}{A:My}{E:Mo->Mp->Prop}{s:Mp}{I a:Mq}{es:Mu (Int×Mo)}{ep:Nat}{t:MD}{Q:Mn Mo->Mp->Prop}{slot i j:Nat}{x:Mo}(hI:B4 s.heap I a (.int slot 0) i es.size ep)(hS:E8 s.heap a es ep t)(hf:t.fits es.size=true)
  (hn:∀(A:My) (E':Mo->Mp->Prop) (Q':Mn (Mo×Nat)->Mp->Prop),Q' (some (x,j)) s->wpAny MJ A (setNext a slot i ep) Q' E' s)
  (hQ:∀h',B4 h' I a (.int j 0) (i+1) es.size ep->Heap.SameBut I s.heap h'->Q (some x) {s with heap:=h'}):wpAny MJ A (pyNext (.ref I)) Q E s:=by
 obtain⟨o,ho,hc,hd⟩:=id hI;obtain⟨p,hp,hx,hq⟩:=id hS;unfold pyNext;refine d4 (N9 (L7 (name:=Str.ofString "__next__") hI.typeIs M8 (C9 M8 hI.typeIs fT ?_ (fU _))));unfold Builtin.«set_iterator.__next__»;refine d4 (e8 ?_);dsimp only;refine d4 (cq ho hd ?_);dsimp only;refine d4 (bW hp hq hf ?_);rw[show(((es.size:Nat):Int) != ((es.size:Nat):Int))=false by simp,e7 w9];simp only[v9];refine d4 (hn _ _ _ ?_);dsimp only;refine d4 (U6 ho hd MP ?_);have I1:=qV (ep:=ep) (rawInt j) ho hc hd;obtain⟨o1,ho1,hc1,hd1⟩:=id I1;refine d4 (U6 ho1 hd1 MP (e8 ⟨x,rfl,e8 (hQ _ (qU ho1 hc1 hd1) ?_)⟩));exact(F3 ..).trans (F3 ..)
def qX{prog:Mw}{w:Mv}{A:My}{E:Mo->Mp->Prop}{s:Mp}{I a:Mq}{es:Mu (Int×Mo)}{ep:Nat}{t:MD}{Q:Mn Mo->Mp->Prop}{slot i:Nat}(hh:NT)(hI:B4 s.heap I a (.int slot 0) i es.size ep)(hS:E8 s.heap a es ep t)(hf:t.fits es.size=true)
  (hn:∀(A:My) (E':Mo->Mp->Prop) (Q':Mn (Mo×Nat)->Mp->Prop),Q' none s->wpAny MJ A (setNext a slot i ep) Q' E' s)
  (hQ:∀h',Heap.ExtBut I s.heap h'->Q none {s with heap:=h'}):wpAny MJ A (pyNext (.ref I)) Q E s:=by
 obtain⟨o,ho,hc,hd⟩:=id hI;obtain⟨p,hp,hx,hq⟩:=id hS;unfold pyNext;refine d4 (N9 (L7 (name:=Str.ofString "__next__") hI.typeIs M8 (C9 M8 hI.typeIs fT ?_ (fU _))));unfold Builtin.«set_iterator.__next__»;refine d4 (e8 ?_);dsimp only;refine d4 (cq ho hd ?_);dsimp only;refine d4 (bW hp hq hf ?_);rw[show(((es.size:Nat):Int) != ((es.size:Nat):Int))=false by simp,e7 w9];simp only[v9];refine d4 (hn _ _ _ ?_);dsimp only;refine d4 (U6 ho hd MP ?_);refine d4 ?_;simp only[newExc,newTuple];refine d4 (E1 ?_ (by size_fits));refine d4 (m:=firstArgMember _ _) (cD (a:=Value.none) (by first | rfl | (simp only[firstArgMember];rfl)) ?_);refine E1 ?_ (by size_fits);simp only[raiseNew];refine d4 (jT ?_);rw[show A.in1.handled=none from hh];refine d4 (e8 (wpAny_throw ?_));refine d4 (aA (T:="StopIteration") (b:=true) ⟨_,m7 _ rfl,rfl⟩ cn ?_);exact e8 (hQ _ (((F3 ..).extBut.push _).push _))
def BV{k:Nat}(f:B4 s.heap I a (.ref q) i es.size ep)(B:E8 s.heap a es ep t)(l:t.fits es.size=true)(r:IsTup s.heap q ps)(u:ps[i]? = some (.int k 0))(n:es[k]? = some (z,x))
  (C:∀g,B4 g I a (.ref q) (i+1) es.size ep->Heap.SameBut I s.heap g->Q (some x) {s with heap:=g}):wpAny MJ A (pyNext (.ref I)) Q E s:=by
 obtain⟨o,c,y,e⟩:=id f;obtain⟨p,j,m,h⟩:=id B;unfold pyNext;refine d4 (N9 (L7 f.typeIs M8 (C9 M8 f.typeIs fT ?_ (fU _))));unfold Builtin.«set_iterator.__next__»;refine d4 (e8 ?_);refine d4 (cq c e ?_);refine d4 (bW j h l ?_);rw[show(_ != _)=false by simp,e7 w9];simp[v9];obtain⟨oq,b,v,nq,d⟩:=r;refine d4 (N8 b d ?_);dsimp only;rw[u];unfold setNextDrawn;simp only[v9];refine d4 (d4 (ax j h l ?_));rw[show(ep != ep)=false by simp,e7 w9];rw[n];refine e8 ?_;refine d4 (U6 c e MP (e8 ⟨x,rfl,e8 (C _ (qU c y e) (F3 ..))⟩))
def BW(v:NT)(j:B4 s.heap I a (.ref q) i es.size ep)(C:E8 s.heap a es ep t)(x:t.fits es.size=true)(l:IsTup s.heap q ps)(u:ps[i]? = none)
  (F:∀k,Heap.ExtBut I s.heap k->Q none {s with heap:=k}):wpAny MJ A (pyNext (.ref I)) Q E s:=by
 obtain⟨o,e,B,h⟩:=id j;obtain⟨p,r,hx,n⟩:=id C;unfold pyNext;refine d4 (N9 (L7 j.typeIs M8 (C9 M8 j.typeIs fT ?_ (fU _))));unfold Builtin.«set_iterator.__next__»;refine d4 (e8 ?_);dsimp only;refine d4 (cq e h ?_);dsimp only;refine d4 (bW r n x ?_);rw[show(((es.size:Nat):Int) != ((es.size:Nat):Int))=false by simp,e7 w9];simp only[v9];obtain⟨oq,c,y,nq,f⟩:=l;refine d4 (N8 c f ?_);dsimp only;rw[u];dsimp only;refine d4 (U6 e h MP ?_);obtain⟨o1,d,z,g⟩:=qV (ep:=ep) (rawInt 0) e B h;refine d4 (U6 d g MP ?_);refine d4 ?_;simp only[newExc,newTuple];refine d4 (E1 ?_ (by size_fits));refine d4 (m:=firstArgMember _ _) (cD (a:=Value.none) (by first | rfl | (simp only[firstArgMember];rfl)) ?_);refine E1 ?_ (by size_fits);simp only[raiseNew];refine d4 (jT ?_);rw[show A.in1.handled=none from v];refine d4 (e8 (wpAny_throw ?_));refine d4 (aA (T:="StopIteration") (b:=true) ⟨_,m7 _ rfl,rfl⟩ cn ?_);exact e8 (F _ ((((F3 ..).trans (F3 ..)).extBut.push _).push _))
section
variable {prog:Mw} {w:Mv} {A:My} {E:Mo->Mp->Prop} {s:Mp} {I a:Mq} {es:Mu (Int×Mo)} {ep:Nat} {t:MD}
def qY(d:A1 w=true)(g:E8 s.heap a es ep t)(f:t.fits es.size=true)
  (h:Q (((pickOrder (w.params.setOrder a ep) es)[i]?).map λ e=>(e.2,slot)) s):wpAny MJ A (setNext a slot i ep) Q E s:=by
 obtain⟨p,c,hx,b⟩:=id g;unfold setNext;refine d4 (ax c b f ?_);dsimp only;unfold setsByText;refine d4 (d4 (aC (e8 ?_)));show wpAny _ A (if A1 w=true then _ else _) Q E s;rw[d6 d];rw[show(ep != ep)=false by simp,e7 w9];refine d4 ?_;unfold setWalk;refine d4 (ax c b f ?_);dsimp only;unfold setsByText;refine d4 (d4 (aC (e8 ?_)));show wpAny MJ A (if A1 w=true then _ else _) _ E s;rw[d6 d];exact d4 (aC (e8 (e8 h)))
def qZ(d:A1 w=false)(g:(!t.plain&&decide (es.size>1))=false)(e:t.led=true)(k:E8 s.heap a es ep t)(f:t.fits es.size=true)
  (h:Q (match es[SetTable.below t.place slot]?,t.place[SetTable.below t.place slot]? with | some (_,x),some j=>some (x,j+1) | _,_=>none) s):wpAny MJ A (setNext a slot i ep) Q E s:=by
 obtain⟨p,c,hx,b⟩:=id k;unfold setNext;refine d4 (ax c b f ?_);dsimp only;unfold setsByText;refine d4 (d4 (aC (e8 ?_)));show wpAny _ A (if A1 w=true then _ else _) Q E s;rw[e7 (by rw[d];exact w9)];show wpAny _ A (if(!t.plain&&decide (es.size>1))=true then _ else _) Q E s;rw[g,e7 w9];refine d4 ?_;show wpAny MJ A (if(!t.led && !es.isEmpty)=true then _ else _) _ E s;rw[e];exact e8 (e8 h)
def BX:∀(n:Nat) (a:on e) (s:Mp),a.length=n->(∀l d,l.Perm a->Q l {s with drawn:=d})->wpAny MJ A (drawOrder n a) Q E s:=by
 intro n
 induction n generalizing Q with
 | zero=>
  intro a s c h;have:=iP.mp c;subst this;exact e8 (h [] s.drawn .rfl)
 | succ n g=>
  intro a s c h;cases a with
  | nil=>cases c
  | cons y r=>
   show wpAny _ A _ Q E s;have b:∀i,i<(y::r).length->wpAny _ A (match _[i]? with
     | some x=>do return x::(←drawOrder n ((y::r).eraseIdx i))
     | none=>unsupported "internal:drawOrder") Q E {s with drawn:=s.drawn.bump .order}:=λ i f=>by
    rw[(i6 f)];refine d4 (g _ _ (by grind) λ l d p=>e8 (h _ d ?_));exact(List.Perm.cons _ p).trans (lv f rfl)
   refine d4 λ Γ p j=>⟨by simp,?_⟩;exact b _ (cI _ MP)
noncomputable def rd(f:Mo)(a:Mq)(n ep:Nat):Obj:={cls:=.type "set_iterator",data:=.fields #[f,.int 0 0,.ref a,.int n 0,.int ep 0]}
def lw{h:Mr}:B4 (h.push (rd f a n ep)) h.objs.size a f 0 n ep:=⟨_,m7 _ rfl,rfl,rfl⟩
end
section
variable {prog:Mw} {w:Mv} {A:My} {E:Mo->Mp->Prop} {s:Mp} {I a:Mq} {es:Mu (Int×Mo)} {ep:Nat} {t:MD}
abbrev Nx(prog:Mw)(w:Mv)(I:Mq)(fp:on Mq)(n:Nat)(ws:on Mo)(St:Nat->Mr->Prop):Prop:=
 ∀A:My,A.handled=none->WalksS prog w A I fp [I] (λ a b=>b=a) n (λ i v=>ws[i]? = some v) (λ i s=>St i s.heap)
def lx {fp : on Mq} {n : Nat} {ws : on Mo} {St : Nat -> Mr -> Prop} (hI : I ∈ fp) (hz : ws.length = n)
    (fr : ∀ i h h', St i h -> (∀ b ∈ fp, ∀ o, h.get? b = some o -> h'.get? b = some o) -> St i h')
    (it : ∀ (A : My) (E : Mo -> Mp -> Prop) (Q : Mn Mo -> Mp -> Prop) (s : Mp) i v, A.handled = none -> ws[i]? = some v -> St i s.heap -> (∀ h', St (i + 1) h' -> Heap.SameBut I s.heap h' -> Q (some v) { s with heap := h' }) -> wpAny MJ A (pyNext (.ref I)) Q E s)
    (dn : ∀ (A : My) (E : Mo -> Mp -> Prop) (Q : Mn Mo -> Mp -> Prop) (s : Mp), A.handled = none -> St n s.heap -> (∀ h', Heap.ExtBut I s.heap h' -> Q none { s with heap := h' }) -> wpAny MJ A (pyNext (.ref I)) Q E s)
    (sf : ∀ (A : My) (E : Mo -> Mp -> Prop) (Q : Mo -> Mp -> Prop) (s : Mp) i, St i s.heap -> Q (.ref I) s -> wpAny MJ A (pyIter (.ref I)) Q E s) : Nx prog w I fp n ws St := λ A hh =>
  { sub := λ b hb => by rw [s9.mp hb]; exact hI
    grefl := λ _ => rfl
    gtrans := λ _ _ _ h1 h2 => h2.trans h1
    frame := λ i s h' tk st _ k => fr i s.heap h' st k
    item := λ i s Q E hi st hQ => by have hg : ws[i]? = some ws[i] := i6 KE;exact it A E Q s i _ hh hg st λ h' st' sb => hQ _ _ hg st' ⟨λ b o hb e => sb.extBut b o (λ z => hb (s9.mpr z)) e, rfl, rfl, rfl, f6 _⟩
    done := λ s Q E st hQ => dn A E Q s hh st λ h' eb => hQ _ ⟨λ b o hb e => eb b o (λ z => hb (s9.mpr z)) e, rfl, rfl, rfl, f6 _⟩
    self := λ i s Q E st hQ => sf A E Q s i st hQ }
def fV{a:Mr}(c:Heap.SameBut I h a)(d:b≠I):∀o,h.get? b=some o->a.get? b=some o:=λ o e=>c.extBut b o d e
def rf:Slot "set_iterator" "__iter__" "set_iterator.__iter__":=
 .of (owner:="set_iterator") (n:="__iter__") (by rw[typeLookup_type,pI];kernel_rfl) Ng Ng Ng
  (by first | exact .inl (by decide +kernel) | exact .inr (by decide +kernel)) (by rw[jN];kernel_rfl)
def BY:entryFor table "set_iterator.__iter__" = some Builtin.«dict_keyiterator.__iter__»:=entryFor_alias (id':="dict_keyiterator.__iter__") (by kernel_rfl) rfl Ng (by kernel_rfl)
def BZ(v:Mo):argsOk "set_iterator.__iter__" ⟨[v],[]⟩:=by unfold argsOk;kernel_rfl
def ly(b:B4 s.heap I a f i n ep)(h:Q (.ref I) s):wpAny MJ A (pyIter (.ref I)) Q E s:=by
 refine jr b.typeIs rf (C9 rf b.typeIs BY ?_ (BZ _));show wpAny _ _ _ _ _ s;exact e8 ⟨_,rfl,"set_iterator",_,b.typeIs,M8.lookup,h⟩
def Ca(l:A1 w=true)(c:t.fits es.size=true)(f:a≠I) :
  Nx prog w I [I,a] es.size ((pickOrder (w.params.setOrder a ep) es).toList.map (·.2)) (λ i h=>B4 h I a (.int (0:Nat) 0) i es.size ep/\E8 h a es ep t):=by
 have hz:(pickOrder (w.params.setOrder a ep) es).size=es.size:=by
  have:=(qO (w.params.setOrder a ep) es).length_eq
  rwa [u3,u3]at this
 refine lx MP (by grind) (λ i h n st k=>⟨st.1.at (k I MP),st.2.at (k a MP)⟩) (λ A E Q s i v m b st g=>?_) (λ A E Q s m st g=>?_) λ A E Q s i st h=>ly st.1 h
 ·obtain⟨e,he,hev⟩:∃e,(pickOrder (w.params.setOrder a ep) es)[i]? = some e/\e.2=v:=by
   rw[n7,F2]at b;cases q:(pickOrder _ es)[i]? with
   | none=>rw[q]at b;cases b
   | some e=>rw[q]at b;cases b;exact⟨e,rfl,rfl⟩
  refine qW st.1 st.2 c (λ A p o q=>qY l st.2 c (by rwa [he,F5,hev])) λ n d j=>?_;exact g n ⟨d,st.2.at (fV j f)⟩ j
 ·refine qX m st.1 st.2 c (λ A p o q=>qY l st.2 c (by grind)) g
noncomputable def cZ(t:MD):Nat->Nat
 | 0=>0
 | i+1=>t.place.getD i 0+1
def rg(a:Rise t.place):∀{i:Nat},i<=t.place.size->SetTable.below t.place (cZ t i)=i
 | 0,_=>BI a
 | i+1,h=>by have b:t.place[i]? = some t.place[i]:=L6 KE;show SetTable.below t.place (t.place.getD i 0+1)=i+1;rw[T7,b];exact BH a b
def Cb(g:A1 w=false)(y:(!t.plain&&decide (es.size>1))=false)(f:Tab t (!A1 w))(b:t.fits es.size=true)(l:a≠I) :
  Nx prog w I [I,a] es.size (es.toList.map (·.2)) (λ i h=>B4 h I a (.int (cZ t i:Nat) 0) i es.size ep/\E8 h a es ep t/\i<=es.size):=by
 have p:t.led=true:=by rw[f.led,g];rfl
 have hz:t.place.size=es.size:=(by unfold SetTable.fits at b;rw[d8]at b;exact f0.mp b.1);refine lx MP (by rw[d9,u3]) (λ i h B st k=>⟨st.1.at (k I MP),st.2.1.at (k a MP),st.2.2⟩) (λ A E Q s i v r c st n=>?_) (λ A E Q s r st n=>?_) λ A E Q s i st h=>ly st.1 h
 ·obtain⟨z,he⟩:∃z,es[i]? = some (z,v):=by
   rw[n7,F2]at c;cases q:es[i]? with
   | none=>rw[q]at c;cases c
   | some e=>rw[q]at c;cases c;exact⟨e.1,rfl⟩
  have F:i<es.size:=by
   rcases U7 i es.size with h | h
   ·exact h
   ·rw[L8 h]at he;cases he
  have u:t.place[i]? = some t.place[i]:=L6 KE;have m:=rg f.rise (i:=i) KE;have C:cZ t (i+1)=t.place[i]+1:=(by show t.place.getD i 0+1=_;rw[T7,u];rfl);refine qW (slot:=cZ t i) (j:=cZ t (i+1)) (x:=v) st.1 st.2.1 b (λ A J H q=>qZ g y p st.2.1 b (by rw[m,he,u];rw[C]at q;exact q)) λ B d o=>?_;exact n B ⟨d,st.2.1.at (fV o l),F⟩ o
 ·have m:=rg f.rise (i:=es.size) KE;refine qX r st.1 st.2.1 b (λ A J H q=>qZ g y p st.2.1 b (by rw[m,L8 (f6 _)];exact q)) n
def Cc{l:on Nat}(n:l.Perm (ML es.size))(u:t.fits es.size=true)(g:a≠I)(B:q≠I) :
  Nx prog w I [I,a,q] es.size (l.map λ i=>(es.getD i (0,.none)).2) (λ i h=>B4 h I a (.ref q) i es.size ep/\E8 h a es ep t/\IsTup h q (l.map λ (i:Nat)=>Value.int i 0).toArray):=by
 have hl:l.length=es.size:=by rw[n.length_eq,q9]
 refine lx MP (by grind) (λ i h z st k=>⟨st.1.at (k I MP),st.2.1.at (k a MP),let ⟨o,e,r⟩:=st.2.2;⟨o,k q MP o e,r⟩⟩) (λ A E Q s i v p b st m=>?_) (λ A E Q s p st m=>?_) λ A E Q s i st h=>ly st.1 h
 ·obtain⟨k,hk,hkv⟩:∃k,l[i]? = some k/\(es.getD k _).2=v:=by
   rw[n7]at b;cases q:l[i]? with
   | none=>rw[q]at b;cases b
   | some k=>rw[q]at b;cases b;exact⟨k,rfl,rfl⟩
  have j:=(by have:=n.mem_iff.mp (eQ.mpr ⟨i,hk⟩);exact i7.mp this);have y:=L6 j;have f:es[k].2=v:=(by rw[←hkv,T7,y];rfl);refine BV (x:=v) st.1 st.2.1 u st.2.2 (by rw[←F2,List.toList_toArray,n7,hk];rfl) (by rw[y,←f]) λ z c d=>?_;exact m z ⟨c,st.2.1.at (fV d g),let ⟨o,e,r⟩:=st.2.2;⟨o,fV d B o e,r⟩⟩ d
 ·refine BW p st.1 st.2.1 u st.2.2 (L8 (by grind)) m
def Cd(m:E8 s.heap a es ep t)(f:t.fits es.size=true)(r:es.size<=sizeLine)
  (B:Tab t (!A1 w)) (h:∀I h' d fp ws St,Nx prog w I fp es.size ws St->St 0 h'->ws.Perm (es.toList.map (·.2))->(∀b o,s.heap.get? b=some o->h'.get? b=some o)->(∀b∈fp,b=a\/s.heap.objs.size<=b)->s.heap.objs.size<=I->Q (.ref I) {s with heap:=h',drawn:=d}) :
  wpAny MJ A (pyIter (.ref a)) Q E s:=by
 have g:=let ⟨_,n,_⟩:=m;j6 n;obtain⟨p,n,hx,u⟩:=id m;refine jr m.typeIs F.slot_set_iter (C9 F.slot_set_iter m.typeIs BU ?_ (F.args_set_iter_1 _));unfold Builtin.«frozenset.__iter__» Builtin.Frozenset.slot0 slotArgs;simp only[List.isEmpty_nil,Bool.not_true,U1,↓reduceIte,bind_assoc,cj,js];unfold Builtin.Frozenset.addrOf Builtin.Frozenset.sizeOf;refine d4 (e8 ?_)
 try dsimp only
 refine d4 (e8 ?_);refine d4 (d4 (bW n u f (e8 ?_)));unfold setDrawn;refine d4 (d4 (ax n u f ?_));dsimp only;unfold setsByText;refine d4 (d4 (aC (e8 (e8 ?_))));show wpAny MJ _ (if(!A1 w&&(!t.plain&&decide (es.size>1)))=true then _ else _) _ _ _;by_cases q:(!A1 w&&(!t.plain&&decide (es.size>1)))=true
 ·rw[d6 q];have ho:A1 w=false:=by
   cases e:A1 w with
   | false=>rfl
   | true=>rw[e]at q;cases q
  refine d4 (BX es.size _ s (q9) λ l d v=>?_);have hl:l.length=es.size:=by rw[v.length_eq,q9]
  unfold newTuple;refine d4 (E1 ?_ (by show(l.map _).toArray.size<=_;simp;omega));refine d4 (wpAny_setEpoch_of (i5 _ n) u f ?_);refine d4 (E1 (e8 ⟨_,rfl,"set_iterator",_,⟨_,m7 _ rfl,rfl⟩,M8.lookup,?_⟩));have z:(s.heap.push {cls:=.type "tuple",data:=.seq (l.map λ (i:Nat)=>rawInt i).toArray}).objs.size=s.heap.objs.size+1:=B8 _ _;refine h _ _ d _ _ _ (Cc (ep:=ep) (t:=t) v f ?_ ?_) ⟨lw,m.at λ _ e=>i5 _ (i5 _ e),_,i5 _ (m7 _ rfl),rfl,_,rfl⟩ ?_ (λ b o e=>i5 _ (i5 _ e)) ?_ ?_
  ·rw[z];exact n9 (ay g)
  ·rw[z];exact n9 (aB _)
  ·refine(v.map _).trans (List.Perm.of_eq ?_);refine jt λ j=>?_;have H:es.toList[j]? = es[j]?:=F2;rw[n7,n7,H];by_cases y:j<es.size
   ·rw[T9 y,F5,T7,L6 y];rfl
   ·have C:(ML es.size)[j]? = none:=J7 (by rw[q9];omega);rw[C,L8 KE];rfl
  ·intro b r;simp only[f8,F4,F8]at r;rcases r with rfl | rfl | rfl
   ·exact .inr (z▸M4 _)
   ·exact .inl rfl
   ·exact .inr (f6 _)
  ·exact z▸M4 _
 ·rw[e7 q];refine d4 (e8 ?_);refine d4 (wpAny_setEpoch_of n u f ?_);refine d4 (E1 (e8 ⟨_,rfl,"set_iterator",_,⟨_,m7 _ rfl,rfl⟩,M8.lookup,?_⟩));have k:=λ b o (e:s.heap.get? b=some o)=>i5 (rd (.int 0 0) a es.size ep) e
  have x:∀b∈[s.heap.objs.size,a],b=a\/s.heap.objs.size<=b:=λ b r=>by
   simp only[f8,F4,F8]at r;rcases r with rfl | rfl
   ·exact .inr (f6 _)
   ·exact .inl rfl
  by_cases c:A1 w=true
  ·exact h _ _ s.drawn _ _ _ (Ca (t:=t) (ep:=ep) c f (n9 g)) ⟨lw,m.at λ _ e=>k _ _ e⟩ ((qO _ es).map _) k x (f6 _)
  ·have c:A1 w=false:=by simpa using c
   rw[c]at q;exact h _ _ s.drawn _ _ _ (Cb (ep:=ep) c (Nm q) B f (n9 g)) ⟨lw,m.at λ _ e=>k _ _ e,u9 _⟩ .rfl k x (f6 _)
end
def Cf(d:s.TypeIs (.ref a) "set")(h:Q false s):wpAny MJ A (Builtin.List.listLengthHint (.ref a)) Q E s:=by
 unfold Builtin.List.listLengthHint;refine d4 (jG d F.slot_set_len.lookup ?_);generalize c:("set.__len__" : MF)=id0
 wp_delta
 rw[show splitId id0=some ("set","__len__")from by subst c;decide +kernel];subst c;refine d4 (aA (b:=true) d (by rw[jN];kernel_rfl) ?_);refine jH (λ z=>absurd z MG) λ _=>?_
 refine jH (λ _=>?_) λ z=>absurd Ng z;exact d4 (jY d (e8 h))
def Cg{prog:Mw}{w:Mv}{A:My}{I a:Mq}{S:Mq}{fp:on Mq}{n c0:Nat}{ws:on Mo}{St:Nat->Mr->Prop}{c:Bool->Bool}{s1:Mp}{res:Mo}{R:Result->Mp->Prop}{EE:Mo->Mp->Prop}(W:Nx prog w I fp n ws St)(hh:NT)(hn:n<=sizeLine)(hSf:S∉fp)
  (hT:s1.TypeIs (.ref a) "set") (st:St 0 s1.heap) (hS:s1.heap.get? S=some {cls:=.type "list",data:=.seq #[] c0})
  (hR:∀h' tk acc c',(∀b o,b≠S->b≠I->s1.heap.get? b=some o->h'.get? b=some o)->h'.get? S=some {cls:=.type "list",dict:=none,data:=.seq acc c',slots:=#[]} -> acc.toList=ws->R (.ok (.ret res)) {s1 with heap:=h',toks:=tk}) (hw:ws.length=n) :
  wpAny MJ A.in1 (do
   let room ←holding [Value.ref I] (Builtin.List.listLengthHint (.ref a))
   if c room=true then do
    rule "list.extend.makes-room"
    Builtin.List.listTouch (.ref S)
    again (.builtin "list.extend.loop" ⟨[.ref S,.ref I,res],[]⟩)
   else again (.builtin "list.extend.loop" ⟨[.ref S,.ref I,res],[]⟩))
   (λ fin s'=>match fin with | .done f=>R (.ok f) s' | .again c'=>c'.quiet=true/\codeAny MJ A c' R s') EE s1:=by
 have loop:∀(h:Mr) (c1 tk:Nat),St 0 h->(∀b o,b≠S->s1.heap.get? b=some o->h.get? b=some o)->h.get? S=some {cls:=.type "list",data:=.seq #[] c1} ->
   codeAny MJ A (.builtin "list.extend.loop" ⟨[.ref S,.ref I,res],[]⟩) R {s1 with heap:=h,toks:=tk}:=λ h c1 tk st1 k e=>by
  refine codeAny_extend_loopS (W A.in1 hh) hn S hSf res n 0 _ #[] c1 rfl (u9 _) st1 e (ItemsOf.nil _) λ s' acc c' hm e' ac=>?_;have b1:s' = {s1 with heap:=s'.heap,toks:=s'.toks}:=(by have q1:s'.gens=s1.gens:=hm.gens;have q2:s'.drawn=s1.drawn:=hm.drawn;have q3:s'.os=s1.os:=hm.os;obtain⟨h',g',d',t',o'⟩:=s';dsimp only at q1 q2 q3;subst q1;subst q2;subst q3;rfl);rw[b1];refine hR s'.heap s'.toks acc c' (λ b o hb hi q=>hm.heap b o (λ z=>?_) (k b o hb q)) e' ?_
  ·rcases f8.mp z with z | z
   ·exact hb z
   ·exact hi (s9.mp z)
  ·refine jt λ j=>?_;by_cases hj:j<n
   ·have hj':j<acc.size:=by rw[ac.1];exact hj
    have q1:acc[j]? = some acc[j]:=L6 hj';rw[F2,q1];exact(ac.2 j _ q1).symm
   ·rw[J7 (by rw[u3,ac.1];omega),J7 KE]
 refine d4 (D0 (Cf hT ?_));refine jH (λ _=>?_) λ _=>e8 ⟨cu F.plain_extend_loop _,loop s1.heap c0 s1.toks st (λ b o _ e=>e) hS⟩;refine d4 (U9 (d4 ?_));show wpAny MJ A.in1 (updateSeq S (·.push .none) >>= λ _=>updateSeq S (·.pop)) _ _ _;refine d4 (wpAny_updateSeq hS rfl ?_);have e2:=X2 (Obj.mapSeq (·.push Value.none)) hS rfl;refine wpAny_updateSeq (hz:=by seq_fits) e2 rfl ?_;have e3:=X2 (Obj.mapSeq (·.pop)) e2 rfl;have oth:∀b o,b≠S->s1.heap.get? b=some o->((s1.heap.update S (Obj.mapSeq (·.push Value.none))).update S (Obj.mapSeq (·.pop))).get? b=some o:=λ b o hb e=>
  (eN _ _ (NV hb)).trans ((eN _ _ (NV hb)).trans e)
 refine e8 ⟨cu F.plain_extend_loop _,loop _ _ s1.toks ?_ oth e3⟩;exact(W A.in1 hh).frame 0 s1 _ s1.toks st (f6 _) λ b hb o e=>oth b o (λ z=>hSf (z▸hb)) e
def Ch(hh:NT)(hS:SetI prog w s.heap a ks)
  (h:∀vs h' tk d,IntsAre vs (vs.map K4)->(vs.map K4).Perm ks->(∀b o,s.heap.get? b=some o->h'.get? b=some o)->s.heap.objs.size<h'.objs.size->Q vs {s with heap:=h',toks:=tk,drawn:=d}):wpAny MJ A (collect (.ref a)) Q E s:=by
 obtain⟨o,S,ep,t,y,C,hd,J,hp,hb,hf,ht⟩:=id hS;have O:S.size<=sizeLine:=jo hb;have i:∀vs:on Mo,vs.Perm (S.toList.map (·.2))->IntsAre vs (vs.map K4)/\(vs.map K4).Perm ks:=λ vs p=>by
  refine⟨?_,(p.map _).trans (by rw[k9];exact hp)⟩;have all:∀v∈vs,∃tk,v=.int (K4 v) tk:=λ v hv=>by obtain⟨e,he,q⟩:=g9.mp (p.mem_iff.mp hv);obtain⟨tk,m⟩:=qP J he;exact⟨tk,by rw[←q];exact m⟩
  clear p
  induction vs with
  | nil=>exact .nil
  | cons v r ih=>
   obtain⟨tk,e⟩:=all v (i9 ..);rw[t9];have q:=ih λ u hu=>all u (j5 _ hu)
   generalize hn:K4 v=n at e;subst e;exact .cons n tk q
 have l:=j6 y;unfold collect;refine d4 (wpAny_runValue (aE F.entry_proto_collect ?_));rw[bU F.plain_proto_collect];show wpAny MJ A.in1 _ _ _ s;refine d4 (E1 ?_);refine e8 ⟨cu F.plain_list_iadd _,aE F.entry_list_iadd ?_⟩;rw[bU F.plain_list_iadd];show wpAny MJ A.in1 (Builtin.List.listExtendWith No (.ref a) No) _ _ _;unfold Builtin.List.listExtendWith;refine d4 (jY (T:="set") ⟨o,i5 _ y,C.1⟩ ?_);have h1:Builtin.List.listSameRef No (.ref a)=false:=(by unfold Builtin.List.listSameRef;exact A6.mpr (M3 l));have P:(Value.type "set" == Value.type "list")=false:=by decide
 have h3:(Value.type "set" == Value.type "tuple")=false:=by decide
 simp only[h1,P,h3,jS,U1,if_false];refine d4 (Cd (t:=t) (⟨o,i5 _ y,C,hd⟩) hf O ht λ I P d fp N St W U p B Z kI=>?_);rw[B8]at kI;have K:s.heap.objs.size∉fp:=λ z=>by
  rcases Z _ z with q | q
  ·exact absurd q (M3 l)
  ·rw[B8]at q;omega
 obtain⟨Y,X⟩:=i N p;refine A8 (Cg (A:=A) (a:=a) (c0:=0) (R:=λ r x=>∃h' tk c j,r=.ok (.ret No)/\x = {s with heap:=h',toks:=tk,drawn:=d} /\ h'.get? s.heap.objs.size=some {cls:=.type "list",dict:=none,data:=.seq c j,slots:=#[]} /\ Q c.toList x)
  W hh O K ⟨o,B _ _ (i5 _ y),C.1⟩ U (B _ _ (m7 _ rfl)) (λ h' tk c j k e ea=>⟨h',tk,c,j,rfl,rfl,e,by rw[ea];exact h N h' tk d Y X (λ b u q=>k b u (n9 (j6 q)) (n9 (Y4 (j6 q) kI)) (B _ _ (i5 _ q))) (j6 e)⟩) (by rw[p.length_eq,d9,u3])) ?_ λ _ _ e=>e
 intro L x g;cases L with
 | done f=>
  obtain⟨h',tk,c,j,M,m,e,H⟩:=g;cases M;subst m;exact d4 (wpAny_load e (e8 H))
 | again j=>
  refine⟨g.1,O0 g.2 λ r x hr=>?_⟩;obtain⟨h',tk,c,j,M,m,e,H⟩:=hr;subst M;subst m;exact d4 (wpAny_load e (e8 H))
def Ci(B:NT)(F:SetI prog w s.heap a ks)(H:ks.length<64)
  (h:∀k g d p c f e,(∀b o,s.heap.get? b=some o->k.get? b=some o)->s.heap.objs.size<=p->k.get? p=some (seqObj "list" c e)->IntsAre c.toList f->f.Perm ks->f.Pairwise (· <= ·)->Q (.ref p) {s with heap:=k,toks:=g,drawn:=d}) :
  wpAny MJ A (call (.builtin "sorted") [.ref a]) Q E s:=by
 refine Calls.call_function_entry kind_sorted plain_sorted entry_sorted (args_sorted1 _) ?_
 unfold Builtin.«sorted»;refine d4 (e8 ?_);refine d4 (Ch (B) F λ c n g d y p1 l r=>?_);have z:c.length<64:=by have:=p1.length_eq;rw[d9]at this;omega
 refine d4 (jU ?_ (by rw[F7];omega));have j:(n.push (seqObj "list" c.toArray 0)).get? n.objs.size=some _:=m7 _ rfl;refine d4 (D0 (C9 slot_list_sort ⟨_,j,rfl⟩ entry_list_sort (list_sort_tree j y z λ i f x v u=>⟨_,rfl,?_⟩) (args_list_sort _)));refine e8 ⟨_,rfl,?_⟩;obtain⟨e,C⟩:=sortedHeap_at j;refine h _ g d _ i f e (λ b o q=>?_) (Q8 r) C x (v.trans p1) u;have m:=j6 (l b o q);rw[sortedHeap_old (n9 m) (by rw[fH];exact ay m)];exact i5 _ (l b o q)
def Cj(b:l≠it):∀(k i:Nat) (s:Mp) (Q:on Mo->Mp->Prop),s.heap.IsListIter it l i->s.heap.IsList l items->i+k=items.size ->
  (∀h',h'.IsListIter it l items.size->Heap.SameBut it s.heap h'->Q (items.toList.drop i) {s with heap:=h'})->wpAny MJ A (draw (.ref it) k) Q E s:=by
 intro k
 induction k with
 | zero=>
  intro i s Q d c e h;show wpAny _ A _ Q E s;have e:=e;subst e;have:=h s.heap d (Heap.SameBut.refl _ _);rw[pE (by rw[u3];exact f6 _)]at this;exact e8 this
 | succ k g=>
  intro i s Q d c e h;have a:i<items.size:=by omega
  show wpAny _ A _ Q E s;refine d4 (pz d c (L6 a) λ h1 m f=>?_);refine d4 (D0 (g (i+1) _ _ m (c.extBut f.extBut b) KE λ n j o=>e8 ?_));have:=h n j (f.trans o);rw[iJ (by rw[u3];exact a)]at this;exact this
def asgL(m:NT)(c:s.heap.IsList l items)
  (k:(assignEach elts env).length=items.size) (d:(assignEach elts env).findIdx? (·.1)=none)
  (h:∀h',Heap.ExtBut s.heap.objs.size s.heap h'->wpAny MJ A (assignInOrder ((assignEach elts env).map (·.2)) items.toList) Q E {s with heap:=h'}) :
  wpAny MJ A (assign (.Tuple elts x1 pos) env (.ref l)) Q E s:=by
 have a:l≠s.heap.objs.size:=(by obtain⟨o,j,_⟩:=c;exact n9 (j6 j));rw[assign_Tuple];refine d4 (cr ?_);unfold unpack;rw[k,d];refine d4 (D0 ?_);unfold unpackItems;refine d4 ?_;unfold notIterableAtAll;refine d4 (jG c.typeIs slot_list_iter.lookup (e8 ?_));simp only[U1,if_false];refine d4 (D0 (Q1 c ?_));refine d4 (D0 (Cj a items.size 0 _ _ ⟨_,m7 _ rfl,rfl,rfl⟩ (c.push _) (F6 _) λ h1 i g=>?_));rw[List.drop_zero,e7 (by rw[u3];exact J8 _)];refine d4 (D0 (pH m i ((c.push _).extBut g.extBut a) (L8 (f6 _)) λ n p=>?_));simp only[Option.isSome_none,U1,if_false];exact e8 (h n λ b o f e=>p b o f (g.extBut b o f (i5 _ e)))
def rh{l:on Int}(h:i<l.length):l.getD i 0∈l:=by
 rw[i8,i6 h];exact E4 h
def minL(u:NT)(f:s.heap.IsList l vs.toArray)(g:IntsAre vs c)(p:c≠[])
  (h:∀m M (t:Tok) tk,(∀b o,s.heap.get? b=some o->m.get? b=some o)->M∈c->(∀a∈c,M<=a)->Q (.int M t) {s with heap:=m,toks:=tk}):wpAny MJ A (call (.builtin "min") [.ref l]) Q E s:=by
 obtain⟨d,e⟩:=g.allInts.items;have en:c=d.toList.map (·.1):=by rw[←g.numsOf,←jV,←e]
 have n:0<d.size:=by
  have q:=List.length_pos_iff.mpr p
  rwa [en,d9,u3]at q
 rw[e]at f;refine min_intList u f n λ v x tk q k=>?_
 obtain⟨t,z⟩:=intItems_at q;subst z;obtain⟨g1,y⟩:=argBest_lt (numAt d) (d.size - 1);refine h x _ t tk k ?_ λ a i=>?_
 ·rw[en,numAt_eq];exact rh (by rw[d9,u3];omega)
 ·rw[en]at i;obtain⟨j,r,B⟩:=mem_getD i;subst B;rw[d9,u3]at r;rw[←numAt_eq];exact y j KE
def maxL(r:NT)(f:s.heap.IsList l vs.toArray)(g:IntsAre vs c)(n:c≠[])
  (h:∀h' M (t:Tok) tk,(∀b o,s.heap.get? b=some o->h'.get? b=some o)->M∈c->(∀a∈c,a<=M)->Q (.int M t) {s with heap:=h',toks:=tk}):wpAny MJ A (call (.builtin "max") [.ref l]) Q E s:=by
 obtain⟨d,e⟩:=g.allInts.items;have en:c=d.toList.map (·.1):=by rw[←g.numsOf,←jV,←e]
 have m:0<d.size:=by
  have q:=List.length_pos_iff.mpr n
  rwa [en,d9,u3]at q
 rw[e]at f;refine max_intList r f m λ v u tk q k=>?_
 obtain⟨t,y⟩:=intItems_at q;subst y;obtain⟨g1,x⟩:=argBest_gt (numAt d) (d.size - 1);refine h u _ t tk k ?_ λ a i=>?_
 ·rw[en,numAt_eq];exact rh (by rw[d9,u3];omega)
 ·rw[en]at i;obtain⟨j,p,z⟩:=mem_getD i;subst z;rw[d9,u3]at p;rw[←numAt_eq];exact x j KE
def extL(e:s.heap.get? l=some {cls:=.type "list",data:=.seq items n})(m:s.heap.IsList b new\/IsTup s.heap b new)(k:items.size+new.size<=sizeLine)
  (h:Q .none {s with heap:=s.heap.update l (Obj.mapSeq (· ++ new))}):wpAny MJ A (call (.builtin "list.extend") [.ref l,.ref b]) Q E s:=by
 refine C9 F.slot_list_extend (⟨_,e,rfl⟩) F.entry_list_extend ?_ (F.args_list_extend_2 _ _);unfold Builtin.«list.extend»;refine d4 (e8 ?_);show wpAny _ _ _ _ _ _;unfold Builtin.List.listExtendWith;obtain⟨a,eb,T,hT,j,hd⟩:∃a,s.heap.get? b=some a/\∃T:MF,(a.cls=.type T/\(T = "list" \/ T = "tuple"))/\∃j,a.data=.seq new j:=by
  rcases m with⟨o,i,g,f,d⟩ | ⟨o,i,g,f,d⟩
  ·exact⟨o,i,"list",⟨g,.inl rfl⟩,f,d⟩
  ·exact⟨o,i,"tuple",⟨g,.inr rfl⟩,f,d⟩
 refine d4 (jY ⟨a,eb,hT.1⟩ ?_);have c:(Builtin.List.listSameRef (.ref l) (.ref b)||Value.type T == .type "list" || Value.type T == .type "tuple")=true:=by
  rcases hT.2 with z | z<;>subst z
  ·rw[show(Value.type "list" == Value.type "list")=true by decide,fz,jZ]
  ·rw[show(Value.type "tuple" == Value.type "tuple")=true by decide,fz]
 rw[d6 c];refine d4 (fA eb hd (d4 (fA e rfl ?_)));rw[e7 (by rw[AQ k,fj];exact w9)];refine d4 (cw e rfl ?_ KE (by grind));exact e8 ⟨_,rfl,h⟩
noncomputable def gSeq(K:MA)(n:Nat)(t:TGs):TG:=λ v σ H Q=>∃a xs,v=.ref a/\(SqL K H a xs\/SqT K H a xs)/\xs.length=n/\t xs σ H Q
def Ck(q:NN)(h:PGs X es t)(m:(assignEach es X.env).length=n)(d:(assignEach es X.env).findIdx? (·.1)=none):PG X (.Tuple es k pos) (gSeq X.K n t):=by
 intro c s i H v u Q I r g;obtain⟨a,j,w,f,p,g⟩:=g;rcases f with f | f
 ·subst w;cases r;obtain⟨x,l,pl,hz⟩:=I.list f;refine asgL (I.ok.hd q) pl.isList (by rw[m,t7,←l.length,p]) d λ h' y=>?_
  exact h c _ i H j _ Q (I.kept λ b o e=>y b o (n9 (j6 e)) e) l g
 ·exact pU q h m d c s i H v u Q I r ⟨a,j,w,f,p,g⟩
def Cm(K:MA):V->on V->Hp->VK->Prop:=λ x vs H Q=>∃l b xs zs,x=.ref l/\vs=[.ref b]/\H l=some (MZ xs)/\(SqL K H b zs\/SqT K H b zs)/\xs.length+zs.length<=sizeLine/\Q .non (upd H l (MZ (xs++zs)))
def Cn:MtM X "list.extend" (Cm X.K):=by
 intro g s σ H x vs v us Q I k m h;obtain⟨l,b,xs,j,rfl,rfl,i,d,hz,q⟩:=h;cases k;obtain⟨u,rfl,o⟩:=m.one;cases o;obtain⟨z,p,n,r,hl,e⟩:=I.lstM i;obtain⟨a,c,ob⟩:∃a:on Mo,Vals j a/\(s.heap.IsList b a.toArray\/IsTup s.heap b a.toArray):=by
  rcases d with d | d
  ·obtain⟨a,c,f,_⟩:=I.list d;exact⟨a,c,.inl f.isList⟩
  ·obtain⟨a,c,f,_⟩:=I.tuple d;exact⟨a,c,.inr f⟩
 have e2:=c.length;refine extL e ob (by grind) ?_;refine⟨.non,_,I.lset i e MP (r.append c) ?_,rfl,q⟩;rw[p7];omega
theorem de:∀{b:on Int} {a:on Mo},Vals (b.map V.int) a->IntsAre a b
 | [],a,h=>by cases h;exact .nil
 | n::b,a,h=>by
  cases h with
  | cons r t=>
   obtain⟨c,rfl⟩:=r;exact .cons n c (de t)
theorem rj:∀{a:on Int} {us:on Mo},IntsAre us a->Vals (a.map V.int) us
 | _,_,.nil=>.nil
 | _,_,.cons n t h=>.cons ⟨t,rfl⟩ (rj h)
def Co(o:NN):u6 X (.builtin "min") (λ c H Q=>∃(a:Mq) (b:on Int),c=[.ref a]/\SqL X.K H a (b.map V.int)/\b≠[]/\∀M,M∈b->(∀x∈b,M<=x)->Q (.int M) H):=by
 intro d s σ H c us Q I r h;obtain⟨a,b,rfl,n,m,q⟩:=h;obtain⟨u,rfl,f⟩:=H9 r;cases f;obtain⟨l,e,g,_⟩:=I.list n;exact minL (I.ok.hd o) g.isList (de e) m λ h' M t tk k j i=>⟨.int M,H,I.kept k,⟨t,rfl⟩,q M j i⟩
def Cp(m:NN):u6 X (.builtin "max") (λ c H Q=>∃(a:Mq) (b:on Int),c=[.ref a]/\SqL X.K H a (b.map V.int)/\b≠[]/\∀M,M∈b->(∀x∈b,x<=M)->Q (.int M) H):=by
 intro d s σ H c us Q I r h;obtain⟨a,b,rfl,l,j,q⟩:=h;obtain⟨u,rfl,r1⟩:=H9 r;cases r1;obtain⟨i,rv,e,_⟩:=I.list l;exact maxL (I.ok.hd m) e.isList (de rv) j λ h' M t tk k g f=>⟨.int M,H,I.kept k,⟨t,rfl⟩,q M g f⟩
noncomputable def setO(P:Mw)(w:Mv)(a:Mq)(ks:on Int):HO:=.ext λ h=>SetI P w h a ks
def Cq(x:SetI P w h a b):t6 P w H h a (setO P w a b):=
 ⟨x,let ⟨o,_,_,_,e,_⟩:=x;⟨o,e⟩,λ h1 h2 q k=>q.at k⟩
def Cr(a:on Int):fm (λ i=>a.getD i 0) a.length=a.foldl dk []:=by
 unfold fm
 congr 1
 refine jt λ j=>?_;rw[n7];by_cases b:j<a.length
 ·rw[T9 b,F5,i8,i6 b];rfl
 ·rw[J7 (by grind),J7 KE];rfl
def rm(n:NN):u6 X (.type "set") (λ e H Q=>∃(a:Mq) (b:on Int),e=[.ref a]/\SqL X.K H a (b.map V.int)/\b.length<4000/\∀p,H p=none->Q (.ref p) (upd H p (setO X.prog X.w p (b.foldl dk [])))):=by
 intro g s σ H e us Q I r h;obtain⟨a,b,rfl,m,hz,q⟩:=h;obtain⟨u,rfl,j⟩:=H9 r;cases j;obtain⟨c,f,l,_⟩:=I.list m;have i:c.length=b.length:=by rw[←f.length,d9]
 refine BS (I.ok.hd n) l.isList (de f) (by rw[t7,i];show _<4096;omega) λ h' tk S k=>?_;have d:c.toArray.size=b.length:=by rw[t7,i]
 rw[d,Cr]at S;exact⟨.ref s.heap.objs.size,_,I.laid k (f6 _) (Cq S),rfl,q _ I.fresh⟩
def Cs : u6 X (.builtin "len") (λ a H Q => ∃ (p : Mq) (ks : on Int), a = [.ref p] /\ H p = some (setO X.prog X.w p ks) /\ Q (MY ks.length) H) := by
  intro b s σ H a us Q I r h;obtain ⟨p, ks, rfl, f, q⟩ := h;obtain ⟨u, rfl, r1⟩ := H9 r;cases r1;obtain ⟨o, g, ep, t, e1, e2, e3, _, c, hb, hf, _⟩ : SetI X.prog X.w s.heap p ks := (I.hok p _ f).1;have d : g.size = ks.length := by rw [← c.length_eq, d9, u3]
  refine call_len_set e1 e2 e3 hf (by have : scanBound <= 2 ^ 62 := by decide +kernel
                                      omega) ⟨.int ks.length, H, I.tok _, ⟨_, by rw [d]⟩, q⟩
def Ct(z:NN):u6 X (.builtin "sorted") (λ l H Q=>∃(p:Mq) (f:on Int),l=[.ref p]/\H p=some (setO X.prog X.w p f)/\f.length<64/\∀(q:Mq) (i:on Int),H q=none->i.Perm f->i.Pairwise (· <= ·)->Q (.ref q) (upd H q (MZ (i.map V.int)))):=by
 intro m s σ H l us Q I r h;obtain⟨p,f,rfl,A,x,q⟩:=h;obtain⟨u,rfl,w⟩:=H9 r;cases w;refine Ci (I.ok.hd z) ((I.hok p _ A).1) x λ B v d c o g e k n he y b j=>?_
 have hl:g.length<=sizeLine:=(by rw[b.length_eq,F7];omega);have ok:t6 X.prog X.w (upd H c (MZ (g.map V.int))) B c (.lst _):=⟨by rwa [d9],o.toList,e,(rj y),by rwa [Array.toArray_toList]⟩;have a:=I.laid (t':=v) k n ok;refine⟨.ref c,_,?_,rfl,q c g (I.hok.fresh n) b j⟩;exact⟨a.ok,a.os,a.bare,a.base,a.loc,a.cell,a.free,a.freeC,a.pin,a.hok,a.len⟩
open PySem.W
theorem rn{G:e->Mp->Prop}(f:∀i j C,i<n->j<n->C (c i j) s->d i j C s)(g:G a s):∀(t:PySem.W.KasT e),kRun n c t=some a->t.kasWp d G s
 | .ret b,h=>by have h:=h;cases h;exact g
 | .ask i j k,h=>by
  have h:(if i<n/\j<n then kRun n c _ else none)=some a:=h;split at h
  ·rename_i z;exact f i j _ z.1 z.2 (rn f g _ h)
  ·cases h
noncomputable def AllT{α:Type}(n:Nat)(φ:α->Prop):KasT α->Prop
 | .ret a=>φ a
 | .ask i j k=>(i<n/\j<n)/\∀b,AllT n φ (k b)
theorem AllT.run:∀{t:KasT d},AllT n b t->∃a,kRun n c t=some a/\b a
 | .ret a,h=>⟨a,rfl,h⟩
 | .ask i j k,h=>by
  obtain⟨a,e,q⟩:=AllT.run (h.2 _);refine⟨a,?_,q⟩;show(if i<n/\j<n then kRun n c _ else none)=some a
  rwa [d6 h.1]
theorem AllT.bind:∀{t:KasT c},AllT n d t->(∀a,d a->AllT n e (f a))->AllT n e (t.bind f)
 | .ret a,h,g=>g a h
 | .ask i j k,h,g=>⟨h.1,λ b=>AllT.bind (h.2 b) g⟩
def x9(n:Nat)(p:Mu Nat):Prop:=p.toList.Perm (ML n)
def x9.lt(h:x9 n p)(a:0<n)(i:Nat):p.getD i 0<n:=by
 rw[T7];cases e:p[i]? with
 | none=>exact a
 | some x=>
  exact i7.mp (h.mem_iff.mp ((by rw[Array.getElem?_eq_some_iff]at e;obtain⟨c,b⟩:=e;rw[←b];exact Array.getElem_mem_toList c)))
def x9.rev(h:x9 n p)(i j:Nat):x9 n (kas_rev p i j):=by
 unfold kas_rev;exact(oU.mp (mirror_perm _ _ _ _)).trans h
def x9.bub(h:x9 n p)(k m:Nat):x9 n (bubble p k m):=(oU.mp (bubble_perm _ _ _)).trans h
theorem lz(a:0<n)(h:x9 n p):∀(f m:Nat),AllT n (λ _=>True) (kas_asc p f m)
 | 0,m=>trivial
 | f+1,m=>⟨⟨h.lt a _,h.lt a _⟩,λ b=>by
  cases b
  ·exact lz a h f _
  ·exact trivial⟩
theorem fW(a:0<n):∀(f:Nat) (p:Mu Nat) (m q:Nat),x9 n p->AllT n (λ r=>x9 n r.1) (kas_desc f p m q)
 | 0,p,m,q,h=>h
 | f+1,p,m,q,h=>⟨⟨h.lt a _,h.lt a _⟩,λ b=>by
  cases b
  ·refine⟨⟨h.lt a _,h.lt a _⟩,λ b=>?_⟩;cases b
   ·exact fW a f p _ _ h
   ·exact h
  ·show AllT n _ _;split
   ·exact fW a f _ _ 0 (h.rev _ _)
   ·exact fW a f p _ 0 h⟩
def ro(b:0<n)(h:x9 n p)(m z:Nat):AllT n (λ r=>x9 n r.2) (kas_tail3 m z p):=(lz b (h.rev _ _) _ _).bind λ a _=>h.rev _ _
def rq(a:0<n)(h:x9 n p)(m z:Nat):AllT n (λ r=>x9 n r.2) (kas_descPart m z p):=(fW a _ _ _ _ h).bind λ r b=>by
 split
 ·exact ro a (b.rev _ _) _ _
 ·exact ro a b _ _
def Cu(a:0<n)(h:x9 n p)(z:Nat):AllT n (λ r=>x9 n r.2) (kas_count z p):=(lz a h _ _).bind λ m _=>by
 split
 ·exact h
 ·split
  ·refine⟨⟨h.lt a _,h.lt a _⟩,λ b=>?_⟩;cases b
   ·exact rq a (h.rev _ _) _ _
   ·exact h
  ·exact rq a h _ _
theorem lA(a:0<n)(h:x9 n p)(k:Nat):∀(f l r:Nat),AllT n (λ _=>True) (kas_place p k f l r)
 | 0,l,r=>trivial
 | f+1,l,r=>by
  unfold kas_place;split
  ·exact trivial
  ·refine⟨⟨h.lt a _,h.lt a _⟩,λ b=>?_⟩;cases b
   ·exact lA a h k f _ _
   ·exact lA a h k f _ _
theorem rr(a:0<n):∀(f:Nat) (p:Mu Nat) (k:Nat),x9 n p->AllT n (x9 n) (kas_bin f p k)
 | 0,p,k,h=>h
 | f+1,p,k,h=>(lA a h k _ _ _).bind λ l _=>rr a f _ _ (h.bub _ _)
def Cv(b:0<n):AllT n (x9 n) (kas_sort n):=(Cu b (by unfold x9;simp) n).bind λ r a=>by
 split
 ·exact rr b _ _ _ a
 ·exact a
def Cw(ks:on Int):∃b,O5 ks=some b/\b.Perm (List.range ks.length):=by
 unfold O5;split
 ·exact⟨_,rfl,.refl _⟩
 ·obtain⟨a,e,q⟩:=(Cv (n:=ks.length) KE).run;exact⟨a.toList,by rw[e];rfl,q⟩
def Cy(h:b.Perm (ML l.length)):(putIx x b l).Perm l:=by
 have e:putIx x (ML l.length) l=l:=(by unfold putIx;apply jx MP;intro i h1 c;simp[i6 c]);have:=h.map λ i=>l.getD i x;exact this.trans (by rw[show(ML l.length).map _=l from e])
theorem Vals.getD(r:Vals vs a)(i:Nat):RelV (vs.getD i .non) (a.getD i .none):=by
 rw[i8,i8];cases h:vs[i]? with
 | none=>rw[r.none_of h];rfl
 | some v=>
  obtain⟨u,e,q⟩:=r.get h
  rwa [e]
theorem Vals.putIx{vs:on V}{us:on Mo}(r:Vals vs us):∀ix:on Nat,Vals (putIx .non ix vs) (L2.putIx .none ix us)
 | []=>.nil
 | i::l=>.cons (r.getD i) (Vals.putIx r l)
def rx{items:Mu Mo}{bs:on Bool}(e:items.toList=bs.map Value.bool):TruthOf prog w A (λ i v=>items[i]? = some v) (λ i=>bs.getD i false):=by
 intro i v s Q E hP d;have c:(bs.map Value.bool)[i]? = some v:=by rwa [←e,F2]
 rw[n7]at c;obtain⟨b,f,rfl⟩:=o9.mp c;have a:Q (bs.getD i false) s:=d;rw[i8,f]at a;exact PySem.wpAny_truthy_bool a
def Cz(bs:on Bool):(ML bs.length).all (λ i=>bs.getD i false)=bs.all id:=by
 rw[M2,u4,u4];constructor
 ·intro h x b;obtain⟨i,a,rfl⟩:=X4 b;have:=h i (i7.mpr a);rw[i8,i6 a]at this;exact this
 ·intro h i a;have a:=i7.mp a;rw[i8,i6 a];exact h _ (E4 a)
def CA(bs:on Bool):(ML bs.length).any (λ i=>bs.getD i false)=bs.any id:=by
 rw[M2,B1,B1];constructor
 ·rintro⟨i,a,h⟩
  have a:=i7.mp a;rw[i8,i6 a]at h;exact⟨_,E4 a,h⟩
 ·rintro⟨x,b,h⟩
  obtain⟨i,a,rfl⟩:=X4 b;refine⟨i,i7.mpr a,?_⟩;rw[i8,i6 a];exact h
def allL{bs:on Bool}(m:NT)(f:s.heap.IsList l items)(e:items.toList=bs.map Value.bool)
  (h:∀a c,(∀b o,s.heap.get? b=some o->a.get? b=some o)->Q (.bool (bs.all id)) {s with heap:=a,toks:=c}):wpAny MJ A (call (.builtin "all") [.ref l]) Q E s:=by
 have d:l<s.heap.objs.size:=by obtain⟨_,e,_⟩:=f;exact j6 e
 have j:items.size=bs.length:=by rw[←u3,e,d9]
 refine call_all_walk (Q1 f ⟨_,_,_,_,_,_,λ i=>bs.getD i false,rfl,Walks.list (A:=A.in1) m s.heap.objs.size l (n9 d) items,⟨⟨_,m7 _ rfl,rfl,rfl⟩,f.push _⟩,rx e,λ a c k=>?_⟩);rw[j,Cz];exact h a c λ b o g=>k b o (by simp;exact n9 (j6 g)) (i5 _ g)
def anyL{bs:on Bool}(j:NT)(c:s.heap.IsList l items)(e:items.toList=bs.map Value.bool)
  (h:∀h' tk,(∀b o,s.heap.get? b=some o->h'.get? b=some o)->Q (.bool (bs.any id)) {s with heap:=h',toks:=tk}):wpAny MJ A (call (.builtin "any") [.ref l]) Q E s:=by
 have a:l<s.heap.objs.size:=by obtain⟨_,e,_⟩:=c;exact j6 e
 have f:items.size=bs.length:=by rw[←u3,e,d9]
 refine call_any_walk (Q1 c ⟨_,_,_,_,_,_,λ i=>bs.getD i false,rfl,Walks.list (A:=A.in1) j s.heap.objs.size l (n9 a) items,⟨⟨_,m7 _ rfl,rfl,rfl⟩,c.push _⟩,rx e,λ h' tk g=>?_⟩);rw[f,CA];exact h h' tk λ b o d=>g b o (by simp;exact n9 (j6 d)) (i5 _ d)
def sumL(m:NT)(f:s.heap.IsList l vs.toArray)(g:IntsAre vs d)
  (h:∀a c t,(∀b o,s.heap.get? b=some o->a.get? b=some o)->Q (.int d.sum t) {s with heap:=a,toks:=c}):wpAny MJ A (call (.builtin "sum") [.ref l]) Q E s:=by
 obtain⟨i,e⟩:=g.allInts.items;have en:d=i.toList.map (·.1):=by rw[←g.numsOf,←jV,←e]
 rw[e]at f;refine sum_intListG m f λ a c j k=>?_
 have:=h a c j k;rw[preSum_eq,iT MP];rw[en]at this;exact this
theorem lC:∀{bs:on Bool} {us:on Mo},Vals (bs.map V.bl) us->us=bs.map Value.bool
 | [],_,h=>by cases h;rfl
 | b::bs,_,h=>by
  cases h with
  | cons r t=>
   rw[lC t];cases(r);rfl
def CB(j:NN):u6 X (.builtin "all") (λ b H Q=>∃(a:Mq) (bs:on Bool),b=[.ref a]/\SqL X.K H a (bs.map V.bl)/\Q (.bl (bs.all id)) H):=by
 intro c s σ H b us Q I r h;obtain⟨a,bs,rfl,i,q⟩:=h;obtain⟨u,rfl,e⟩:=H9 r;cases e;obtain⟨g,d,f,_⟩:=I.list i;exact allL (I.ok.hd j) f.isList (by simpa using lC d) λ h' tk k=>⟨.bl _,H,I.kept k,rfl,q⟩
def CC(i:NN):u6 X (.builtin "any") (λ b H Q=>∃(a:Mq) (bs:on Bool),b=[.ref a]/\SqL X.K H a (bs.map V.bl)/\Q (.bl (bs.any id)) H):=by
 intro c s σ H b us Q I r h;obtain⟨a,bs,rfl,g,q⟩:=h;obtain⟨u,rfl,e⟩:=H9 r;cases e;obtain⟨f,d,pl,_⟩:=I.list g;exact anyL (I.ok.hd i) pl.isList (by simpa using lC d) λ h' tk k=>⟨.bl _,H,I.kept k,rfl,q⟩
def CD(l:NN):u6 X (.builtin "sum") (λ c H Q=>∃(a:Mq) (b:on Int),c=[.ref a]/\SqL X.K H a (b.map V.int)/\Q (MY b.sum) H):=by
 intro d s σ H c us Q I r h;obtain⟨a,b,rfl,j,q⟩:=h;obtain⟨u,rfl,f⟩:=H9 r;cases f;obtain⟨i,e,g,_⟩:=I.list j;exact sumL (I.ok.hd l) g.isList (de e) λ h' tk t k=>⟨.int _,H,I.kept k,⟨t,rfl⟩,q⟩
noncomputable section
open PySem
structure Sg where
 N:List Str
 sc:List (Str×NameKind)
 fn:List Str
 bl:List Str
 cl:List Str
 top:Bool
 lp:Bool
def l9:Ms->Bool | .Starred _ _=>true | _=>false
def V6:Ms->Bool | .Slice _ _ _ _=>true | _=>false
def D7:Ms->Bool | .Set _ _ _=>true | _=>false
noncomputable def S5:Ms->Bool | .ListComp _ _ _ _=>true | .SetComp _ _ _ _=>true | .DictComp _ _ _ _ _=>true | _=>false
noncomputable def any1{α:Type}(o:Mn α)(f:α->Bool):Bool:=o.rec false f
def u8(h:any1 o f=true):∃a,o=some a/\f a=true:=by
 cases o with
 | none=>cases h
 | some a=>exact⟨a,rfl,h⟩
@[elab_as_elim] def fX{o:Mn b}(h:any1 o f=true){C:Mn b->Prop}(k:∀a,f a=true->C (some a)):C o:=let ⟨_,q,h⟩:=u8 h;Eq.mpr (congrArg C q) (k _ h)
noncomputable def inNo{α:Type}(o:Mn α)(f:Bool):Bool:=o.rec f λ _=>false
@[elab_as_elim] def Z3{o:Mn b}(h:inNo o f=true){C:Mn b->Prop}(k:f=true->C none):C o:=by
 cases o with
 | none=>exact k h
 | some a=>cases h
noncomputable def in0{α:Type}(l:on α)(f:Bool):Bool:=l.rec f λ _ _ _=>false
@[elab_as_elim] def E9{l:on b}(h:in0 l f=true){C:on b->Prop}(k:f=true->C []):C l:=by
 cases l with
 | nil=>exact k h
 | cons a r=>cases h
noncomputable def inC{α:Type}(l:on α)(f:α->on α->Bool):Bool:=l.rec false λ a r _=>f a r
@[elab_as_elim] def lD{f:b->on b->Bool}(h:inC l f=true){C:on b->Prop}(k:∀a r,f a r=true->C (a::r)):C l:=by
 cases l with
 | nil=>cases h
 | cons a r=>exact k a r h
def in1{α:Type}(l:on α)(f:α->Bool):Bool:=inC l λ a r=>in0 r (f a)
@[elab_as_elim] def K5{f:b->Bool}(h:in1 l f=true){C:on b->Prop}(k:∀a,f a=true->C [a]):C l:=lD h λ a _ h=>E9 h (k a)
def CF(h:in1 l f=true):∃a,l=[a]/\f a=true:=K5 h λ a h=>⟨a,rfl,h⟩
def in2{α:Type}(l:on α)(f:α->α->Bool):Bool:=inC l λ a r=>in1 r (f a)
@[elab_as_elim] def dg{f:c->c->Bool}(h:in2 l f=true){C:on c->Prop}(k:∀a b,f a b=true->C [a,b]):C l:=lD h λ a _ h=>K5 h (k a)
noncomputable def ry(e:Ms):Mn {t:Str×Pos // e=.Name t.1 t.2}:=match e with | .Name x p=>some ⟨(x,p),rfl⟩ | _=>none
@[irreducible] def C4(e:Ms)(f:Str->Bool):Bool:=any1 (ry e) λ t=>f t.1.1
@[elab_as_elim] def C5(h:C4 e g=true){C:Ms->Prop}(k:∀x p,g x=true->C (.Name x p)):C e:=by
 unfold C4 at h;exact let ⟨t,_,h⟩:=u8 h;Eq.mpr Nw (k _ _ h)
noncomputable def CG(e:Ms):Mn {t:Const×Nat×Pos // e=.Constant t.1 t.2.1 t.2.2}:=match e with | .Constant x k p=>some ⟨(x,k,p),rfl⟩ | _=>none
noncomputable def rA(e:Ms):Mn {t:Ms×Operator×Ms×Pos // e=.BinOp t.1 t.2.1 t.2.2.1 t.2.2.2}:=match e with | .BinOp a o b p=>some ⟨(a,o,b,p),rfl⟩ | _=>none
@[irreducible] def lE(e:Ms)(f:Ms->Operator->Ms->Bool):Bool:=any1 (rA e) λ t=>f t.1.1 t.1.2.1 t.1.2.2.1
@[elab_as_elim] def rC(h:lE e g=true){C:Ms->Prop}(k:∀a o b p,g a o b=true->C (.BinOp a o b p)):C e:=by
 unfold lE at h;exact let ⟨t,_,h⟩:=u8 h;Eq.mpr Nw (k _ _ _ _ h)
noncomputable def CH(e:Ms):Mn {t:UnaryOp×Ms×Pos // e=.UnaryOp t.1 t.2.1 t.2.2}:=match e with | .UnaryOp o a p=>some ⟨(o,a,p),rfl⟩ | _=>none
@[irreducible] def inUn(e:Ms)(f:UnaryOp->Ms->Bool):Bool:=any1 (CH e) λ t=>f t.1.1 t.1.2.1
@[elab_as_elim] def fY(h:inUn e g=true){C:Ms->Prop}(k:∀o a p,g o a=true->C (.UnaryOp o a p)):C e:=by
 unfold inUn at h;exact let ⟨t,_,h⟩:=u8 h;Eq.mpr Nw (k _ _ _ h)
noncomputable def CI(e:Ms):Mn {t:Ms×(on CmpOp)×(on Ms)×Pos // e=.Compare t.1 t.2.1 t.2.2.1 t.2.2.2}:=match e with | .Compare a os bs p=>some ⟨(a,os,bs,p),rfl⟩ | _=>none
@[irreducible] def fZ(e:Ms)(f:Ms->(on CmpOp)->(on Ms)->Bool):Bool:=any1 (CI e) λ t=>f t.1.1 t.1.2.1 t.1.2.2.1
@[elab_as_elim] def rD(h:fZ e g=true){C:Ms->Prop}(k:∀a b bs p,g a b bs=true->C (.Compare a b bs p)):C e:=by
 unfold fZ at h;exact let ⟨t,_,h⟩:=u8 h;Eq.mpr Nw (k _ _ _ _ h)
noncomputable def CJ(e:Ms):Mn {t:BoolOp×(on Ms)×Pos // e=.BoolOp t.1 t.2.1 t.2.2}:=match e with | .BoolOp o es p=>some ⟨(o,es,p),rfl⟩ | _=>none
@[irreducible] def gb(e:Ms)(f:BoolOp->(on Ms)->Bool):Bool:=any1 (CJ e) λ t=>f t.1.1 t.1.2.1
@[elab_as_elim] def gc(h:gb e g=true){C:Ms->Prop}(k:∀o a p,g o a=true->C (.BoolOp o a p)):C e:=by
 unfold gb at h;exact let ⟨t,_,h⟩:=u8 h;Eq.mpr Nw (k _ _ _ h)
noncomputable def CK(e:Ms):Mn {t:Ms×Ms×Ms×Pos // e=.IfExp t.1 t.2.1 t.2.2.1 t.2.2.2}:=match e with | .IfExp c a b p=>some ⟨(c,a,b,p),rfl⟩ | _=>none
@[irreducible] def inIf(e:Ms)(f:Ms->Ms->Ms->Bool):Bool:=any1 (CK e) λ t=>f t.1.1 t.1.2.1 t.1.2.2.1
@[elab_as_elim] def rF(h:inIf e g=true){C:Ms->Prop}(k:∀c a b p,g c a b=true->C (.IfExp c a b p)):C e:=by
 unfold inIf at h;exact let ⟨t,_,h⟩:=u8 h;Eq.mpr Nw (k _ _ _ _ h)
noncomputable def CL(e:Ms):Mn {t:(on Ms)×Pos // e=.List t.1 t.2}:=match e with | .List es p=>some ⟨(es,p),rfl⟩ | _=>none
@[irreducible] def lF(e:Ms)(f:(on Ms)->Bool):Bool:=any1 (CL e) λ t=>f t.1.1
@[elab_as_elim] def rG(h:lF e g=true){C:Ms->Prop}(k:∀a p,g a=true->C (.List a p)):C e:=by
 unfold lF at h;exact let ⟨t,_,h⟩:=u8 h;Eq.mpr Nw (k _ _ h)
noncomputable def rH(e:Ms):Mn {t:(on Ms)×Nat×Pos // e=.Tuple t.1 t.2.1 t.2.2}:=match e with | .Tuple es k p=>some ⟨(es,k,p),rfl⟩ | _=>none
@[irreducible] def gf(e:Ms)(f:(on Ms)->Bool):Bool:=any1 (rH e) λ t=>f t.1.1
@[elab_as_elim] def lG(h:gf e g=true){C:Ms->Prop}(k:∀a k p,g a=true->C (.Tuple a k p)):C e:=by
 unfold gf at h;exact let ⟨t,_,h⟩:=u8 h;Eq.mpr Nw (k _ _ _ h)
noncomputable def CM(e:Ms):Mn {t:Ms×Ms×Pos // e=.Subscript t.1 t.2.1 t.2.2}:=match e with | .Subscript a b p=>some ⟨(a,b,p),rfl⟩ | _=>none
@[irreducible] def S6(e:Ms)(f:Ms->Ms->Bool):Bool:=any1 (CM e) λ t=>f t.1.1 t.1.2.1
@[elab_as_elim] def K6(h:S6 e g=true){C:Ms->Prop}(k:∀a b p,g a b=true->C (.Subscript a b p)):C e:=by
 unfold S6 at h;exact let ⟨t,_,h⟩:=u8 h;Eq.mpr Nw (k _ _ _ h)
noncomputable def CN(e:Ms):Mn {t:(Mn Ms)×(Mn Ms)×(Mn Ms)×Pos // e=.Slice t.1 t.2.1 t.2.2.1 t.2.2.2}:=match e with | .Slice a b c p=>some ⟨(a,b,c,p),rfl⟩ | _=>none
@[irreducible] def gh(e:Ms)(f:(Mn Ms)->(Mn Ms)->(Mn Ms)->Bool):Bool:=any1 (CN e) λ t=>f t.1.1 t.1.2.1 t.1.2.2.1
@[elab_as_elim] def rJ(h:gh e g=true){C:Ms->Prop}(k:∀a b c p,g a b c=true->C (.Slice a b c p)):C e:=by
 unfold gh at h;exact let ⟨t,_,h⟩:=u8 h;Eq.mpr Nw (k _ _ _ _ h)
noncomputable def CO(e:Ms):Mn {t:Ms×(on Ms)×(on Keyword)×Pos // e=.Call t.1 t.2.1 t.2.2.1 t.2.2.2}:=match e with | .Call f as ks p=>some ⟨(f,as,ks,p),rfl⟩ | _=>none
@[irreducible] def gi(e:Ms)(f:Ms->(on Ms)->(on Keyword)->Pos->Bool):Bool:=any1 (CO e) λ t=>f t.1.1 t.1.2.1 t.1.2.2.1 t.1.2.2.2
@[elab_as_elim] def rK(h:gi e g=true){C:Ms->Prop}(k:∀f as a p,g f as a p=true->C (.Call f as a p)):C e:=by
 unfold gi at h;exact let ⟨t,_,h⟩:=u8 h;Eq.mpr Nw (k _ _ _ _ h)
noncomputable def CP(e:Ms):Mn {t:Ms×Str×Pos // e=.Attribute t.1 t.2.1 t.2.2}:=match e with | .Attribute a n p=>some ⟨(a,n,p),rfl⟩ | _=>none
@[irreducible] def Z4(e:Ms)(f:Ms->Str->Pos->Bool):Bool:=any1 (CP e) λ t=>f t.1.1 t.1.2.1 t.1.2.2
@[elab_as_elim] def dh(h:Z4 e g=true){C:Ms->Prop}(k:∀a n p,g a n p=true->C (.Attribute a n p)):C e:=by
 unfold Z4 at h;exact let ⟨t,_,h⟩:=u8 h;Eq.mpr Nw (k _ _ _ h)
noncomputable def CQ(e:Ms):Mn {t:Ms×(on Comprehension)×MB×Pos // e=.ListComp t.1 t.2.1 t.2.2.1 t.2.2.2}:=match e with | .ListComp x gs sc p=>some ⟨(x,gs,sc,p),rfl⟩ | _=>none
@[irreducible] def lH(e:Ms)(f:Ms->(on Comprehension)->MB->Bool):Bool:=any1 (CQ e) λ t=>f t.1.1 t.1.2.1 t.1.2.2.1
@[elab_as_elim] def CS(h:lH e g=true){C:Ms->Prop}(k:∀x a sc p,g x a sc=true->C (.ListComp x a sc p)):C e:=by
 unfold lH at h;exact let ⟨t,_,h⟩:=u8 h;Eq.mpr Nw (k _ _ _ _ h)
noncomputable def CT(e:Ms):Mn {t:(on (Mn Ms))×(on Ms)×Pos // e=.Dict t.1 t.2.1 t.2.2}:=match e with | .Dict ks vs p=>some ⟨(ks,vs,p),rfl⟩ | _=>none
@[irreducible] def lI(e:Ms)(f:(on (Mn Ms))->(on Ms)->Bool):Bool:=any1 (CT e) λ t=>f t.1.1 t.1.2.1
@[elab_as_elim] def CU(h:lI e g=true){C:Ms->Prop}(k:∀ks vs p,g ks vs=true->C (.Dict ks vs p)):C e:=by
 unfold lI at h;exact let ⟨t,_,h⟩:=u8 h;Eq.mpr Nw (k _ _ _ h)
noncomputable def CV(e:Ms):Mn {t:MC×Ms×MB×Pos // e=.Lambda t.1 t.2.1 t.2.2.1 t.2.2.2}:=match e with | .Lambda pr bd sc p=>some ⟨(pr,bd,sc,p),rfl⟩ | _=>none
@[irreducible] def gj(e:Ms)(f:MC->Ms->MB->Pos->Bool):Bool:=any1 (CV e) λ t=>f t.1.1 t.1.2.1 t.1.2.2.1 t.1.2.2.2
@[elab_as_elim] def rM(h:gj e g=true){C:Ms->Prop}(k:∀a b sc p,g a b sc p=true->C (.Lambda a b sc p)):C e:=by
 unfold gj at h;exact let ⟨t,_,h⟩:=u8 h;Eq.mpr Nw (k _ _ _ _ h)
noncomputable def CW(e:Mz):Mn {t:(on Ms)×Ms×Pos // e=.Assign t.1 t.2.1 t.2.2}:=match e with | .Assign t v p=>some ⟨(t,v,p),rfl⟩ | _=>none
@[irreducible] def lJ(e:Mz)(f:(on Ms)->Ms->Pos->Bool):Bool:=any1 (CW e) λ t=>f t.1.1 t.1.2.1 t.1.2.2
@[elab_as_elim] def CY(h:lJ e g=true){C:Mz->Prop}(k:∀t v p,g t v p=true->C (.Assign t v p)):C e:=by
 unfold lJ at h;exact let ⟨t,_,h⟩:=u8 h;Eq.mpr Nw (k _ _ _ h)
noncomputable def CZ(e:Mz):Mn {t:Ms×Pos // e=.Expr t.1 t.2}:=match e with | .Expr v p=>some ⟨(v,p),rfl⟩ | _=>none
@[irreducible] def di(e:Mz)(f:Ms->Pos->Bool):Bool:=any1 (CZ e) λ t=>f t.1.1 t.1.2
@[elab_as_elim] def lK(h:di e g=true){C:Mz->Prop}(k:∀v p,g v p=true->C (.Expr v p)):C e:=by
 unfold di at h;exact let ⟨t,_,h⟩:=u8 h;Eq.mpr Nw (k _ _ h)
noncomputable def Da(e:Mz):Mn {t:(Mn Ms)×Pos // e=.Return t.1 t.2}:=match e with | .Return v p=>some ⟨(v,p),rfl⟩ | _=>none
@[irreducible] def lL(e:Mz)(f:(Mn Ms)->Pos->Bool):Bool:=any1 (Da e) λ t=>f t.1.1 t.1.2
@[elab_as_elim] def Db(h:lL e g=true){C:Mz->Prop}(k:∀v p,g v p=true->C (.Return v p)):C e:=by
 unfold lL at h;exact let ⟨t,_,h⟩:=u8 h;Eq.mpr Nw (k _ _ h)
noncomputable def Dc(e:Mz):Mn {t:Ms×(on Mz)×(on Mz)×Pos // e=.If t.1 t.2.1 t.2.2.1 t.2.2.2}:=match e with | .If c a b p=>some ⟨(c,a,b,p),rfl⟩ | _=>none
@[irreducible] def lM(e:Mz)(f:Ms->(on Mz)->(on Mz)->Pos->Bool):Bool:=any1 (Dc e) λ t=>f t.1.1 t.1.2.1 t.1.2.2.1 t.1.2.2.2
@[elab_as_elim] def Dd(h:lM e g=true){C:Mz->Prop}(k:∀c a b p,g c a b p=true->C (.If c a b p)):C e:=by
 unfold lM at h;exact let ⟨t,_,h⟩:=u8 h;Eq.mpr Nw (k _ _ _ _ h)
noncomputable def De(e:Mz):Mn {t:Ms×Ms×(on Mz)×(on Mz)×Pos // e=.For t.1 t.2.1 t.2.2.1 t.2.2.2.1 t.2.2.2.2}:=match e with | .For t i b o p=>some ⟨(t,i,b,o,p),rfl⟩ | _=>none
@[irreducible] def lN(e:Mz)(f:Ms->Ms->(on Mz)->(on Mz)->Pos->Bool):Bool:=any1 (De e) λ t=>f t.1.1 t.1.2.1 t.1.2.2.1 t.1.2.2.2.1 t.1.2.2.2.2
@[elab_as_elim] def Df(h:lN e g=true){C:Mz->Prop}(k:∀t i b o p,g t i b o p=true->C (.For t i b o p)):C e:=by
 unfold lN at h;exact let ⟨t,_,h⟩:=u8 h;Eq.mpr Nw (k _ _ _ _ _ h)
noncomputable def Dg(e:Mz):Mn {t:Ms×(on Mz)×(on Mz)×Pos // e=.While t.1 t.2.1 t.2.2.1 t.2.2.2}:=match e with | .While t b o p=>some ⟨(t,b,o,p),rfl⟩ | _=>none
@[irreducible] def inWh(e:Mz)(f:Ms->(on Mz)->(on Mz)->Pos->Bool):Bool:=any1 (Dg e) λ t=>f t.1.1 t.1.2.1 t.1.2.2.1 t.1.2.2.2
@[elab_as_elim] def Dh(h:inWh e g=true){C:Mz->Prop}(k:∀t b o p,g t b o p=true->C (.While t b o p)):C e:=by
 unfold inWh at h;exact let ⟨t,_,h⟩:=u8 h;Eq.mpr Nw (k _ _ _ _ h)
noncomputable def Di(e:Mz):Mn {t:Ms×Operator×Ms×Pos // e=.AugAssign t.1 t.2.1 t.2.2.1 t.2.2.2}:=match e with | .AugAssign t o v p=>some ⟨(t,o,v,p),rfl⟩ | _=>none
@[irreducible] def lO(e:Mz)(f:Ms->Operator->Ms->Pos->Bool):Bool:=any1 (Di e) λ t=>f t.1.1 t.1.2.1 t.1.2.2.1 t.1.2.2.2
@[elab_as_elim] def Dj(h:lO e g=true){C:Mz->Prop}(k:∀t o v p,g t o v p=true->C (.AugAssign t o v p)):C e:=by
 unfold lO at h;exact let ⟨t,_,h⟩:=u8 h;Eq.mpr Nw (k _ _ _ _ h)
def lP(e:Ms)(f:Ms->CmpOp->Ms->Bool):Bool:=fZ e λ a os bs=>in1 os λ o=>in1 bs λ b=>f a o b
@[elab_as_elim] def gm(h:lP e f=true){C:Ms->Prop}(k:∀a o b p,f a o b=true->C (.Compare a [o] [b] p)):C e:=rD h λ a _ _ p h=>K5 h λ o h=>K5 h λ b h=>k a o b p h
def rN(e:Ms)(f:Ms->CmpOp->CmpOp->Ms->Ms->Bool):Bool:=fZ e λ a os bs=>in2 os λ o o2=>in2 bs λ b c=>f a o o2 b c
@[elab_as_elim] def rO(h:rN e f=true){C:Ms->Prop}(k:∀a o d b c p,f a o d b c=true->C (.Compare a [o,d] [b,c] p)):C e:=rD h λ a _ _ p h=>dg h λ o d h=>dg h λ b c h=>k a o d b c p h
def rP(e:Ms)(f:Ms->Bool):Bool:=gh e λ a b c=>inNo b (inNo c (any1 a f))
@[elab_as_elim] def Dk(h:rP e f=true){C:Ms->Prop}(k:∀x p,f x=true->C (.Slice (some x) none none p)):C e:=rJ h λ _ _ _ p h=>Z3 h λ h=>Z3 h λ h=>fX h λ x h=>k x p h
def rQ(e:Ms)(f:Ms->Ms->Bool):Bool:=gh e λ a b c=>inNo c (any1 a λ x=>any1 b (f x))
@[elab_as_elim] def Dl(h:rQ e f=true){C:Ms->Prop}(k:∀x y p,f x y=true->C (.Slice (some x) (some y) none p)):C e:=rJ h λ _ _ _ p h=>Z3 h λ h=>fX h λ x h=>fX h λ y h=>k x y p h
def inCl(e:Ms)(f:Ms->on Ms->Pos->Bool):Bool:=gi e λ g as ks p=>in0 ks (f g as p)
@[elab_as_elim] def J2(h:inCl e f=true){C:Ms->Prop}(k:∀g as p,f g as p=true->C (.Call g as [] p)):C e:=rK h λ g as _ p h=>E9 h (k g as p)
def lQ(e:Ms)(f:Ms->Pos->Bool):Bool:=inCl e λ g as p=>in0 as (f g p)
@[elab_as_elim] def lR(h:lQ e f=true){C:Ms->Prop}(k:∀g p,f g p=true->C (.Call g [] [] p)):C e:=J2 h λ g _ p h=>E9 h (k g p)
def dr(e:Ms)(f:Ms->Ms->Pos->Bool):Bool:=inCl e λ g as p=>in1 as λ a=>f g a p
@[elab_as_elim] def dt(h:dr e f=true){C:Ms->Prop}(k:∀g a p,f g a p=true->C (.Call g [a] [] p)):C e:=J2 h λ g _ p h=>K5 h λ a h=>k g a p h
def lT(e:Ms)(f:Ms->Ms->Ms->Pos->Bool):Bool:=inCl e λ g as p=>in2 as λ a b=>f g a b p
@[elab_as_elim] def lU(h:lT e f=true){C:Ms->Prop}(k:∀g a b p,f g a b p=true->C (.Call g [a,b] [] p)):C e:=J2 h λ g _ p h=>dg h λ a b h=>k g a b p h
def rR(e:Ms)(f:Ms->Ms->Ms->Ms->Pos->Bool):Bool:=inCl e λ g as p=>inC as λ a r=>in2 r λ b c=>f g a b c p
@[elab_as_elim] def rT(h:rR e f=true){C:Ms->Prop}(k:∀g a b c p,f g a b c p=true->C (.Call g [a,b,c] [] p)):C e:=J2 h λ g _ p h=>lD h λ a _ h=>dg h λ b c h=>k g a b c p h
def rV(e:Ms)(f:Bool):Bool:=lI e λ ks vs=>in0 ks (in0 vs f)
@[elab_as_elim] def Do(h:rV e f=true){C:Ms->Prop}(k:∀p,f=true->C (.Dict [] [] p)):C e:=CU h λ _ _ p h=>E9 h λ h=>E9 h λ h=>k p h
def rW(e:Ms)(f:Ms->on Ms->Mn Str->Ms->Bool):Bool:=gi e λ g as ks p=>in1 ks λ w=>f g as w.arg w.value
@[elab_as_elim] def Dp(h:rW e f=true){C:Ms->Prop}(k:∀g b a v q p,f g b a v=true->C (.Call g b [⟨a,v,q⟩] p)):C e:=rK h λ g b _ p h=>K5 h λ ⟨a,v,q⟩ h=>k g b a v q p h
def inCk(e:Ms)(f:Ms->Ms->Mn Str->Ms->Bool):Bool:=rW e λ g as a v=>in1 as λ b=>f g b a v
@[elab_as_elim] def rX(h:inCk e f=true){C:Ms->Prop}(k:∀g b a v q p,f g b a v=true->C (.Call g [b] [⟨a,v,q⟩] p)):C e:=Dp h λ g _ a v q p h=>K5 h λ b h=>k g b a v q p h
def aT(e:Mz)(f:Ms->Ms->Pos->Bool):Bool:=lJ e λ ts v p=>in1 ts λ t=>f t v p
@[elab_as_elim] def du(h:aT e f=true){C:Mz->Prop}(k:∀t v p,f t v p=true->C (.Assign [t] v p)):C e:=CY h λ _ v p h=>K5 h λ t h=>k t v p h
def lV(e:Mz)(f:Ms->Pos->Bool):Bool:=lL e λ o p=>any1 o λ v=>f v p
@[elab_as_elim] def rY(h:lV e f=true){C:Mz->Prop}(k:∀v p,f v p=true->C (.Return (some v) p)):C e:=Db h λ _ p h=>fX h λ v h=>k v p h
def rZ(e:Mz)(f:Ms->Ms->on Mz->Pos->Bool):Bool:=lN e λ t i b o p=>in0 o (f t i b p)
@[elab_as_elim] def Dq(h:rZ e f=true){C:Mz->Prop}(k:∀t i b p,f t i b p=true->C (.For t i b [] p)):C e:=Df h λ t i b _ p h=>E9 h (k t i b p)
def sd(e:Mz)(f:Ms->on Mz->Pos->Bool):Bool:=inWh e λ t b o p=>in0 o (f t b p)
@[elab_as_elim] def Dr(h:sd e f=true){C:Mz->Prop}(k:∀t b p,f t b p=true->C (.While t b [] p)):C e:=Dh h λ t b _ p h=>E9 h (k t b p)
def G1(e:Ms):Mn Str:=(ry e).map λ t=>t.1.1
def aU(e:Ms):Mn Const:=(CG e).map λ t=>t.1.1
def G2(e:Ms):Mn (on Ms):=(rH e).map λ t=>t.1.1
def se(e:Ms):Mn (Ms×Operator×Ms):=(rA e).map λ t=>(t.1.1,t.1.2.1,t.1.2.2.1)
def mpd{o:Mn d}(h:o.map f=some b):∃a,f a=b:=by
 cases o with
 | none=>cases h
 | some a=>cases h;exact⟨a,rfl⟩
def S7(h:G1 e=some x):∃p,e=.Name x p:=let ⟨t,h⟩:=mpd h;⟨_,h▸t.2⟩
def sh(h:aU e=some x):∃k p,e=.Constant x k p:=let ⟨t,h⟩:=mpd h;⟨_,_,h▸t.2⟩
def aV{e:Ms}{es:on Ms}(h:G2 e=some es):∃k p,e=.Tuple es k p:=let ⟨t,h⟩:=mpd h;⟨_,_,h▸t.2⟩
def Ds(h:se e=some (a,o,b)):∃p,e=.BinOp a o b p:=by
 obtain⟨⟨⟨_,_,_,p⟩,z⟩,h⟩:=mpd h;cases h;exact⟨p,z⟩
structure CParts where
 elt:Expr
 tg:Expr
 it:Expr
 ifs:List Expr
 sc:Scope
def inCp(e:Ms)(f:CParts->Bool):Bool:=lH e λ x gs sc=>in1 gs λ g=>decide (g.is_async=0)&&f ⟨x,g.target,g.iter,g.ifs,sc⟩
@[elab_as_elim] def gn(h:inCp e f=true){C:Ms->Prop}(k:∀c p,f c=true->C (.ListComp c.elt [⟨c.tg,c.it,c.ifs,0⟩] c.sc p)):C e:=by
 refine CS h λ x gs d p h=>K5 h λ ⟨b,g,a,w⟩ h=>?_;obtain⟨i,h⟩:=C7.mp h;obtain rfl:=ju i;exact k ⟨x,b,g,a,d⟩ p h
noncomputable def visB(sg:Sg)(x:Str):Bool:=sg.sc.lookup x==some .local||sg.sc.lookup x==some .cell||sg.sc.lookup x==some .free
noncomputable def gloB(sg:Sg)(x:Str):Bool:=sg.sc.lookup x==some .globalImplicit
noncomputable def locB(sg:Sg)(x:Str):Bool:=sg.sc.lookup x==some .local||sg.sc.lookup x==some .cell
def O7(sg:Sg)(i:Nat)(x:Str):Bool:=sg.N[i]? == some x&&visB sg x&&x != "__debug__" && x != "__classdict__"
def bltB(sg:Sg)(x:Str)(f:Ms):Bool:=G1 f==some x&&gloB sg x&&sg.bl.contains x
noncomputable def Dt:Bi->Str
 | .len=>"len" | .min=>"min" | .max=>"max" | .sum=>"sum" | .sset=>"sorted" | .tuple=>"tuple" | .list=>"list" | .any=>"any" | .lset=>"len" | .all=>"all"
noncomputable def si:Mt->Str
 | .bitLength=>"bit_length" | .index=>"index" | .get=>"get"
noncomputable def D8(sg:Sg)(tn:on Str)(fr:on (Mn Nat)):on Str:=tn++(fr.drop tn.length).map λ o=>match o with | some i=>sg.N.getD i "" | none=>""
def sj:Tg->Ms->Mn (on Str)
 | .one _,e=>(G1 e).map λ x=>[x]
 | .many is,e=>match G2 e with
  | some es=>if es.length=is.length then es.mapM G1 else none
  | none=>none
def tgOk(sg:Sg):Tg->Ms->Bool
 | .one i,e=>match G1 e with
  | some x=>sg.N[i]? == some x&&locB sg x
  | none=>false
 | .many is,e=>match G2 e with
  | some es=>es.length==is.length&&2<=es.length&&(is.zip es).all λ p=>match G1 p.2 with
   | some x=>sg.N[p.1]? == some x&&locB sg x
   | none=>false
  | none=>false
noncomputable def V7:on Str->Bool
 | []=>true
 | x::r=>!r.contains x&&V7 r
def Z5:Tg->on Nat
 | .one i=>[i]
 | .many is=>is
def Z6(sg:Sg)(N':on Str)(fr:on (Mn Nat))(sc:MB)(tg:Tg):Bool:=(Z5 tg).all (λ i=>fr[i]? == some none) &&
 sc.kind == .function&&V7 N'&&V7 (sc.names.map (·.1))&&fr.length==N'.length &&
 (fr.zip N').all (λ p=>match p.1 with | some i=>sg.N[i]? == some p.2&&sc.names.contains (p.2,.free) | none=>true) &&
 sc.names.all λ y=>if y.2 == .free then sg.sc.lookup y.1==some .cell||sg.sc.lookup y.1==some .free else true
def Du(p:MC)(ps:on Str):Bool:=match p with | ⟨po,ar,va,ko,kd,kw,df⟩=>in0 po (in2 ar λ a b=>inNo va (in0 ko (in0 kd (inNo kw (in0 df (a.arg == "r" && b.arg == "c" && ps==(["r","c"]:on Str)))))))
def Dv(p:MC)(ps:on Str):Bool:=match p with | ⟨po,ar,va,ko,kd,kw,df⟩=>in0 po (in1 ar λ a=>inNo va (in0 ko (in0 kd (inNo kw (in0 df ((["entry"]:on Str).contains a.arg&&ps==[a.arg]))))))
def dv(p:MC)(ps:on Str):Bool:=Du p ps||Dv p ps
@[elab_as_elim] def sn(h:dv p ps=true){C:MC->on Str->Prop}(k:∀x y z w,C ⟨[],[⟨"r",x,y⟩,⟨"c",z,w⟩],none,[],[],none,[]⟩ ["r","c"])
  (g:∀a x y,a∈(["entry"]:on Str)->C ⟨[],[⟨a,x,y⟩],none,[],[],none,[]⟩ [a]):C p ps:=by
 obtain⟨po,ar,va,ko,kd,kw,df⟩:=p;rcases Bool.or_eq_true_iff.mp h with h | h
 ·refine E9 h λ h=>dg h λ ⟨x,b,c⟩ ⟨y,d,f⟩ h=>Z3 h λ h=>E9 h λ h=>E9 h λ h=>Z3 h λ h=>E9 h λ h=>?_;simp only[d8,f0]at h;obtain⟨⟨rfl,rfl⟩,rfl⟩:=h;exact k b c d f
 ·refine E9 h λ h=>K5 h λ ⟨x,b,c⟩ h=>Z3 h λ h=>E9 h λ h=>E9 h λ h=>Z3 h λ h=>E9 h λ h=>?_;simp only[d8,f0,M0]at h;obtain⟨i,rfl⟩:=h;exact g x b c i
def gp(sg:Sg)(N:on Str)(np:Nat)(fr:on Nat)(pr:MC)(sc:MB):Bool:=dv pr (N.take np)&&sc.kind == .function && !sc.isCoroutine && !sc.isGenerator&&V7 N&&V7 (sc.names.map (·.1))&&decide (N.length=np+fr.length) &&
 (N.take np).all (λ x=>sc.names.lookup x==some .local)&&sc.names.all (λ y=>y.2 != .cell)&&(N.drop np).all (λ x=>sc.names.lookup x==some .free)&&(fr.zip (N.drop np)).all (λ p=>sg.N[p.1]? == some p.2) &&
 sc.names.all λ y=>if y.2 == .free then sg.sc.lookup y.1==some .cell else true
noncomputable def so:ME->Bool
 | .comp _ _ _ _=>true
 | .compi _ _ _ _ _=>true
 | _=>false
noncomputable def isZp:ME->Bool
 | .zp _ _=>true
 | .enu _=>true
 | .itm _=>true
 | _=>false
mutual
def corE(sg:Sg)(w:Bool):ME->Ms->Bool
 | .var i,e=>C4 e λ x=>O7 sg i x
 | .int i,e=>aU e==some (.int i)
 | .bl i,e=>aU e==some (.bool i)
 | .str x,e=>aU e==some (.str x)&&decide (x.length<=1000)
 | .non,e=>aU e==some .none
 | .glb x,e=>G1 e==some x&&gloB sg x&&x != "__debug__"
 | .bin op a b,e=>lE e λ ea o eb=>o==op&&corE sg false a ea&&corE sg false b eb
 | .neg a,e=>inUn e λ o ea=>o == .USub&&corE sg false a ea
 | .not a,e=>inUn e λ o ea=>o == .Not&&corE sg false a ea
 | .cmp op a b,e=>lP e λ ea o eb=>o==op&&corE sg false a ea&&corE sg false b eb && !D7 eb
 | .chain op op' a b c,e=>rN e λ ea o o' eb ec=>o==op&&o'==op'&&corE sg false a ea&&corE sg false b eb&&corE sg false c ec && !D7 ec
 | .and ms,e=>gb e λ o es=>o == .And&&r3 sg ms es
 | .or ms,e=>gb e λ o es=>o == .Or&&r3 sg ms es
 | .lst ms,e=>lF e λ es=>r3 sg ms es
 | .tup ms,e=>gf e λ es=>r3 sg ms es
 | .ix a b,e=>S6 e λ ea eb=>corE sg false a ea&&corE sg false b eb && !V6 eb
 | .sl a lo hi,e=>S6 e λ ea es=>(rQ es λ el eh=>corE sg false a ea&&corE sg false lo el&&corE sg false hi eh)
 | .slf a lo,e=>S6 e λ ea es=>(rP es λ el=>corE sg false a ea&&corE sg false lo el)
 | .call f ms,e=>inCl e λ ef es _=>(C4 ef λ x=>sg.fn[f]? == some x&&gloB sg x&&x != "__debug__") && !es.isEmpty&&r3 sg ms es
 | .bi f ms,e=>inCl e λ ef es _=>bltB sg (Dt f) ef && !es.isEmpty&&(match f with
   | .sset | .lset=>(in1 es λ e1=>inCl e1 λ ef' es' _=>bltB sg "set" ef'&&es'.length==1&&r3 sg ms es')
   | _=>r3 sg ms es)
 | .isi a ts,e=>lT e λ ef ea et _=>bltB sg "isinstance" ef&&corE sg false a ea && !l9 ea && !l9 et&&(match ts with
   | [t]=>G1 et==some t&&gloB sg t&&sg.bl.contains t&&V3.contains t
   | _=>false)
 | .meth m a ms,e=>lQ e λ ef pos=>(Z4 ef λ ea n apos=>n==si m&&corE sg false a ea&&((G1 ea).isSome||(se ea).isSome)&&apos.endLine==pos.line&&ms.isEmpty)
 | .comp elt tg it fr,e=>inCp e λ c=>c.ifs.isEmpty&&(corE sg true it c.it&&(!isZp it||(G2 c.tg).isSome)) && !D7 c.it&&(any1 (sj tg c.tg) λ tn=>Z6 sg (D8 sg tn fr) fr c.sc tg&&tgOk NR tg c.tg&&corE NR false elt c.elt)
 | .compi elt tg it cd fr,e=>inCp e λ c=>(corE sg true it c.it&&(!isZp it||(G2 c.tg).isSome)) && !D7 c.it&&(any1 (sj tg c.tg) λ tn=>in1 c.ifs λ ec=>Z6 sg (D8 sg tn fr) fr c.sc tg&&tgOk NR tg c.tg&&corE NR false elt c.elt&&corE NR false cd ec)
 | .idx a b,e=>dr e λ ef eb pos=>(Z4 ef λ ea n apos=>n == "index" && corE sg false a ea&&(G1 ea).isSome&&apos.endLine==pos.line&&corE sg false b eb && !l9 eb)
 | .rng ms,e=>w&&(inCl e λ ef es _=>bltB sg "range" ef&&r3 sg ms es&&decide (es.length<=2))
 | .enu a,e=>w&&(dr e λ ef ea _=>bltB sg "enumerate" ef&&corE sg false a ea && !l9 ea)
 | .itm a,e=>w&&(lQ e λ ef pos=>(Z4 ef λ o n apos=>n == "items" && corE sg false a o&&apos.endLine==pos.line&&(G1 o).isSome))
 | .dgp i k,e=>S6 e λ o ek=>(C4 o λ x=>O7 sg i x)&&corE sg false k ek && !V6 ek
 | .gdx b,e=>S6 e λ ea eb=>(C4 ea λ x=>x==gdN&&gloB sg x&&x != "__debug__")&&corE sg false b eb && !V6 eb
 | .gin b,e=>lP e λ ek o eo=>o == .In&&(C4 eo λ x=>x==gdN&&gloB sg x&&x != "__debug__")&&corE sg false b ek
 | .zp a b,e=>w&&(lT e λ ef ea eb _=>bltB sg "zip" ef&&corE sg false a ea&&corE sg false b eb && !l9 ea && !l9 eb)
 | .calll f a b N np lb fr,e=>sg.top&&(rR e λ ef ea eb el _=>(C4 ef λ x=>gj el λ pr bd sc _=>sg.fn[f]? == some x&&gloB sg x&&x != "__debug__" && corE sg false a ea && !l9 ea&&corE sg false b eb && !l9 eb&&gp sg N np fr pr sc&&corE ⟨N,sc.names,sg.fn,sg.bl,sg.cl,false,false⟩ false lb bd))
 | .callv i xs ms,e=>inCl e λ ef es _=>(C4 ef λ x=>O7 sg i x)&&(xs.all λ p=>sg.fn[p.2]? == some p.1) && !es.isEmpty&&r3 sg ms es
 | .srtk a N np lb fr,e=>sg.top&&(inCk e λ ef ea kn el=>bltB sg "sorted" ef&&kn==some "key" && corE sg false a ea && !l9 ea&&(gj el λ pr bd sc _=>gp sg N np fr pr sc&&corE ⟨N,sc.names,sg.fn,sg.bl,sg.cl,false,false⟩ false lb bd))
 | .ite c a b,e=>inIf e λ ec ea eb=>corE sg false c ec&&corE sg false a ea&&corE sg false b eb
def r3(sg:Sg):on ME->on Ms->Bool
 | [],[]=>true
 | m::ms,e::es=>corE sg false m e && !l9 e&&r3 sg ms es
 | _,_=>false
end
def lW(v:Ms):Bool:=match G2 v with
 | none=>true
 | some vs=>vs.all (foldedForSure 8)
mutual
def corS(sg:Sg):MS->Mz->Bool
 | .set i _ e,s=>aT s λ t v pos=>(C4 t λ x=>sg.N[i]? == some x&&locB sg x&&corE sg false e v&&(!S5 v||so e))
 | .sett is e,s=>aT s λ t v _=>tgOk sg (.many is) t&&corE sg false e v&&lW v && !S5 v
 | .aug i e,s=>lO s λ t o v _=>o == .Add&&(C4 t λ x=>sg.N[i]? == some x&&locB sg x)&&corE sg false e v
 | .app i e,s=>di s λ v _=>(dr v λ ef ea pos=>(Z4 ef λ o n apos=>n == "append" && (C4 o λ x=>O7 sg i x)&&corE sg false e ea && !l9 ea&&apos.endLine==pos.line))
 | .ext i e,s=>di s λ v _=>(dr v λ ef ea pos=>(Z4 ef λ o n apos=>n == "extend" && (C4 o λ x=>O7 sg i x)&&corE sg false e ea && !l9 ea&&apos.endLine==pos.line))
 | .seti i k e,s=>aT s λ t v _=>(S6 t λ o ek=>(C4 o λ x=>O7 sg i x)&&corE sg false k ek && !V6 ek&&corE sg false e v)
 | .exp e,s=>di s λ v _=>corE sg false e v && !S5 v
 | .ret e,s=>lV s λ v _=>corE sg false e v
 | .iff c a b,s=>lM s λ ec ea eb _=>corE sg false c ec&&K7 sg a ea&&K7 sg b eb
 | .fo tg it body,s=>rZ s λ t i b _=>sg.lp&&tgOk sg tg t&&(corE sg true it i&&(!isZp it||(G2 t).isSome)) && !D7 i&&K7 sg body b
 | .wh c body,s=>sd s λ t b _=>sg.lp&&corE sg false c t&&K7 sg body b
 | .sep i,s=>aT s λ t v _=>(C4 t λ x=>(rV v (sg.N[i]? == some x&&locB sg x)))
 | .dpp i ks e,s=>aT s λ t v _=>(S6 t λ o ek=>(C4 o λ x=>O7 sg i x)&&(gf ek λ es=>r3 sg ks es)&&corE sg false e v && !S5 v)
 | .retd i,s=>lV s λ v _=>(C4 v λ x=>O7 sg i x)
 | .unk,_=>true
def K7(sg:Sg):on MS->on Mz->Bool
 | [],[]=>true
 | m::ms,s::ss=>corS sg m s&&K7 sg ms ss
 | _,_=>false
end
end
end L2
end
noncomputable section
namespace L2
open PySem PySem.Spec PyProof.Rows
def J3(H:Hp)(q:Str)(params:MC)(body:Ms)(scope:MB)(cl:on (Str×Mq))(f:Mq):Prop:=
 ∃c' oc u vs t pm ctv,H f=some (.frz (PySem.W.kla_obj "<lambda>" q params body scope cl pm c' ctv) (.own f))/\H c'=some (.frz oc u)/\oc.data=.fields vs/\vs[1]? = some (.str q t)
def J3.mono{H H':Hp}{q:Str}{params:MC}{body:Ms}{scope:MB}{cl:on (Str×Mq)}{f:Mq}(e:Same H H')(h:J3 H q params body scope cl f):J3 H' q params body scope cl f:=by
 obtain⟨c',oc,u,vs,t,pm,ctv,e1,e2,r⟩:=h;exact⟨c',oc,u,vs,t,pm,ctv,e _ _ e1,e _ _ e2,r⟩
structure LamScope(N ps:List Str)(sc:Scope)(cl:List (Str×Addr))(l:List Addr):Prop where
 kind:sc.kind=.function
 co:sc.isCoroutine=false
 gen:sc.isGenerator=false
 nd:N.Nodup
 pre:N.take ps.length=ps
 par:∀x∈ps,sc.names.lookup x=some .local
 nocell:∀y∈sc.names,y.2 ≠ .cell
 fre:∀i x,ps.length<=i->N[i]? = some x->sc.names.lookup x=some .free
 has:∀x,sc.names.lookup x=some .free->∃c,cl.lookup x=some c
 inj:∀x y c,cl.lookup x=some c->cl.lookup y=some c->x=y
 mem:∀x c,cl.lookup x=some c->c∈l
def dw(H:Hp)(N:on Str)(np:Nat)(cl:on (Str×Mq))(l:on Mq)(ws:on V):Prop:=N.length=np+ws.length/\(∀c∈l,∃o v,H c=some (.frz o (.own c))/\o.data=.cell v) /\
 ∀(i:Nat) x v,N[np+i]? = some x->ws[i]? = some v->∃c o u,cl.lookup x=some c/\H c=some (.frz o (.own c))/\o.data=.cell (some u)/\RelV v u
def dw.mono{H H':Hp}{N:on Str}{np:Nat}{cl:on (Str×Mq)}{l:on Mq}{ws:on V}(e:Same H H')(h:dw H N np cl l ws):dw H' N np cl l ws:=
 ⟨h.1,λ c hc=>by obtain⟨o,v,e1,e2⟩:=h.2.1 c hc;exact⟨o,v,e _ _ e1,e2⟩,λ i x v h1 h2=>by obtain⟨c,o,u,e1,e2,r⟩:=h.2.2 i x v h1 h2;exact⟨c,o,u,e1,e _ _ e2,r⟩⟩
noncomputable def S8(m:LamD)(params:MC)(body:Ms)(scope:MB):Bool:=dv params (m.N.take m.np)&&corE ⟨m.N,scope.names,m.fn,m.bl,m.cl,false,false⟩ false m.body body
def Dw(h:dv c ps=true)(d:f.length=ps.length):bindArgs (PySem.W.kla_fn "<lambda>" q c b sc cl pm cd i) ⟨f,[]⟩=pure (ps.zip f):=by
 revert d;refine sn h (λ x y z w d=>?_) λ a x y g d=>?_
 ·obtain⟨u,v,rfl⟩:∃u v,f=[u,v]:=by
   cases f with
   | nil=>cases d
   | cons u r=>cases r with
    | nil=>cases d
    | cons v r=>cases r with
     | nil=>exact⟨u,v,rfl⟩
     | cons _ _=>cases d
  rfl
 ·obtain⟨u,rfl⟩:∃u,f=[u]:=by
   cases f with
   | nil=>cases d
   | cons u r=>cases r with
    | nil=>exact⟨u,rfl⟩
    | cons _ _=>cases d
  simp only[f8,F4,F8]at g;subst g;rfl
structure Dm where
 K:PySem.W.Frag
 mg:Str->Option Value
abbrev Cx.D(X:Cx):Dm:=⟨X.K,X.mg⟩
def SqS(K:MA)(H:Hp)(a:Mq)(xs:on V):Prop:=(∃o,H a=some (.frz o (MZ xs))) \/
 ∃(o:Obj) (its:Mu Mo) (n:Nat),K.lookup a=some o/\o.cls=.type "list" /\ o.dict=none/\o.data=.seq its n/\its.size<=sizeLine/\Vals xs its.toList
def SqS.sq{K:MA}(h:SqS K H a xs):SqL K H a xs:=by
 rcases h with h | h
 ·exact .inl (.inr h)
 ·exact .inr h
def SqS.of{K:MA}(b:Only H)(h:SqL K H a xs):SqS K H a xs:=by
 rcases h with(h | h) | h
 ·rcases b a with z | z
  ·rw[h]at z;cases z
  ·rcases z with⟨o,ys,z⟩ | ⟨q,z⟩<;>(rw[h]at z;cases z)
 ·exact .inl h
 ·exact .inr h
def Same.sqs{K:MA}{H H':Hp}{a:Mq}{xs:on V}(e:Same H H')(h:SqS K H a xs):SqS K H' a xs:=by
 rcases h with⟨o,h⟩ | h
 ·exact .inl ⟨o,e _ _ h⟩
 ·exact .inr h
def dKey:Key->DKey
 | .inl i=>.i i
 | .inr x=>.s x
noncomputable def mutO:HO->Bool
 | .lst _=>true
 | .dK _=>true
 | .dT _=>true
 | _=>false
mutual
noncomputable def Rep(D:Dm)(H:Hp):DV->V->Prop
 | .non,v=>v=.non
 | .bl b,v=>v=.bl b
 | .int i,v=>v=.int i
 | .str x,v=>v=.str x/\x.length<=sizeLine
 | .tup ds,v=>∃a xs,v=.ref a/\SqT D.K H a xs/\RepL D H ds xs
 | .lst ds,v=>∃a xs,v=.ref a/\H a=some (MZ xs)/\RepL D H ds xs
 | .dct ks vs,v=>(∃a o kvs,v=.ref a/\H a=some (.frz o (.dK kvs))/\kvs.map (λ p=>dKey p.1)=ks/\RepL D H vs (kvs.map (·.2)))\/∃a o kvs,v=.ref a/\H a=some (.frz o (.dT kvs))/\kvs.map (λ p=>DKey.t p.1)=ks/\RepL D H vs (kvs.map (·.2))
 | .fn x,v=>∃f,v=.ref f/\D.mg x=some (.ref f)
 | .lam m cs,v=>∃f pr bd sc q cl l ws,v=.ref f/\J3 H q pr bd sc cl f/\S8 m pr bd sc=true/\LamScope m.N (m.N.take m.np) sc cl l/\RepL D H cs ws/\dw H m.N m.np cl l ws
 | .scr ns,v=>∃a,v=.ref a/\SqS D.K H a (ns.map V.int)
noncomputable def RepL(D:Dm)(H:Hp):on DV->on V->Prop
 | [],xs=>xs=[]
 | d::ds,xs=>∃v vs,xs=v::vs/\Rep D H d v/\RepL D H ds vs
end
def Same.tseq{K:MA}{H H':Hp}{a:Mq}{xs:on V}(e:Same H H')(h:SqT K H a xs):SqT K H' a xs:=by
 rcases h with(h | ⟨o,h⟩) | h
 ·exact .inl (.inl (e _ _ h))
 ·exact .inl (.inr ⟨o,e _ _ h⟩)
 ·exact .inr h
mutual
theorem Rep.mono{D:Dm}{H H':Hp}(e:Same H H'):∀{d:DV} {v:V},Rep D H d v->Rep D H' d v
 | .non,_,h=>by unfold Rep at h ⊢;exact h
 | .bl _,_,h=>by unfold Rep at h ⊢;exact h
 | .int _,_,h=>by unfold Rep at h ⊢;exact h
 | .str _,_,h=>by unfold Rep at h ⊢;exact h
 | .tup ds,_,h=>by unfold Rep at h ⊢;obtain⟨a,xs,e1,e2,e3⟩:=h;exact⟨a,xs,e1,e.tseq e2,RepL.mono e e3⟩
 | .lst ds,_,h=>by unfold Rep at h ⊢;obtain⟨a,xs,e1,e2,e3⟩:=h;exact⟨a,xs,e1,e _ _ e2,RepL.mono e e3⟩
 | .dct _ _,_,h=>by
  unfold Rep at h ⊢;rcases h with⟨a,o,kvs,e1,e2,e3,e4⟩ | ⟨a,o,kvs,e1,e2,e3,e4⟩
  ·exact .inl ⟨a,o,kvs,e1,e _ _ e2,e3,RepL.mono e e4⟩
  ·exact .inr ⟨a,o,kvs,e1,e _ _ e2,e3,RepL.mono e e4⟩
 | .fn _,_,h=>by unfold Rep at h ⊢;exact h
 | .lam m cs,_,h=>by unfold Rep at h ⊢;obtain⟨f,pr,bd,sc,q,cl,l,ws,e1,e2,e3,e4,e5,e6⟩:=h;exact⟨f,pr,bd,sc,q,cl,l,ws,e1,e2.mono e,e3,e4,RepL.mono e e5,e6.mono e⟩
 | .scr _,_,h=>by unfold Rep at h ⊢;obtain⟨a,e1,e2⟩:=h;exact⟨a,e1,e.sqs e2⟩
theorem RepL.mono{D:Dm}{H H':Hp}(e:Same H H'):∀{ds:on DV} {xs:on V},RepL D H ds xs->RepL D H' ds xs
 | [],_,h=>by unfold RepL at h ⊢;exact h
 | d::ds,_,h=>by unfold RepL at h ⊢;obtain⟨v,vs,e1,e2,e3⟩:=h;exact⟨v,vs,e1,Rep.mono e e2,RepL.mono e e3⟩
end
def v5:Rep D H (.int i) v↔v=.int i:=by unfold Rep;exact K0
def Z7:Rep D H (.bl i) v↔v=.bl i:=by unfold Rep;exact K0
def dz:Rep D H (.str i) v↔(v=.str i/\i.length<=sizeLine):=by unfold Rep;exact K0
def S9:Rep D H .non v↔v=.non:=by unfold Rep;exact K0
def B5:Rep D H (.tup ds) v↔∃a b,v=.ref a/\SqT D.K H a b/\RepL D H ds b:=by unfold Rep;exact K0
def G3:Rep D H (MZ ds) v↔∃a b,v=.ref a/\H a=some (.lst b)/\RepL D H ds b:=by unfold Rep;exact K0
def aW:Rep D H (.lam m cs) v↔∃f pr c a q cl l b,v=.ref f/\J3 H q pr c a cl f/\S8 m pr c a=true/\LamScope m.N (m.N.take m.np) a cl l/\RepL D H cs b/\dw H m.N m.np cl l b:=by unfold Rep;exact K0
def gq:Rep D H (.fn x) v↔∃f,v=.ref f/\D.mg x=some (.ref f):=by unfold Rep;exact K0
def Z8:Rep D H (.scr b) v↔∃a,v=.ref a/\SqS D.K H a (b.map V.int):=by unfold Rep;exact K0
def aX:Rep D H (.dct ks vs) v↔((∃a o b,v=.ref a/\H a=some (.frz o (.dK b))/\b.map (λ p=>dKey p.1)=ks/\RepL D H vs (b.map (·.2)))\/∃a o b,v=.ref a/\H a=some (.frz o (.dT b))/\b.map (λ p=>DKey.t p.1)=ks/\RepL D H vs (b.map (·.2))):=by unfold Rep;exact K0
def y9:RepL D H [] a↔a=[]:=by unfold RepL;exact K0
def r6:RepL D H (d::ds) xs↔∃v a,xs=v::a/\Rep D H d v/\RepL D H ds a:=by
 constructor
 ·intro h;exact h
 ·intro h;exact h
theorem RepL.length:∀{a:on DV} {xs:on V},RepL D H a xs->xs.length=a.length
 | [],_,h=>by rw[y9.mp h];rfl
 | d::a,_,h=>by obtain⟨v,vs,c,_,b⟩:=r6.mp h;rw[c,l4,l4,RepL.length b]
theorem RepL.get:∀{ds:on DV} {xs:on V} {i:Nat} {d:DV},RepL D H ds xs->ds[i]? = some d->∃v,xs[i]? = some v/\Rep D H d v
 | [],_,_,_,_,e=>by simp at e
 | d::ds,_,i,d',h,e=>by
  obtain⟨v,vs,c,b,a⟩:=r6.mp h;subst c;cases i with
  | zero=>simp at e;subst e;exact⟨v,rfl,b⟩
  | succ i=>simpa using RepL.get a (Nm e)
theorem RepL.append:∀{a es:on DV} {xs ys:on V},RepL D H a xs->RepL D H es ys->RepL D H (a++es) (xs++ys)
 | [],_,_,_,h,b=>by rwa [y9.mp h]
 | d::a,_,_,_,h,b=>by obtain⟨v,vs,f,e,c⟩:=r6.mp h;subst f;exact r6.mpr ⟨v,_,rfl,e,RepL.append c b⟩
def RepL.one(h:Rep D H d v):RepL D H [d] [v]:=r6.mpr ⟨v,[],rfl,h,y9.mpr rfl⟩
theorem RepL.take:∀{a:on DV} {xs:on V} (n:Nat),RepL D H a xs->RepL D H (a.take n) (xs.take n)
 | _,_,0,_=>y9.mpr rfl
 | [],_,n+1,h=>by rw[y9.mp h];exact y9.mpr rfl
 | d::a,_,n+1,h=>by obtain⟨v,vs,e,c,b⟩:=r6.mp h;subst e;exact r6.mpr ⟨v,_,rfl,c,RepL.take n b⟩
theorem RepL.drop:∀{a:on DV} {xs:on V} (n:Nat),RepL D H a xs->RepL D H (a.drop n) (xs.drop n)
 | _,_,0,h=>h
 | [],_,n+1,h=>by rw[y9.mp h];exact y9.mpr rfl
 | d::a,_,n+1,h=>by obtain⟨v,vs,c,e2,b⟩:=r6.mp h;subst c;exact RepL.drop n b
theorem RepL.set(q:Rep D H d v):∀{a:on DV} {xs:on V} (n:Nat),RepL D H a xs->RepL D H (a.set n d) (xs.set n v)
 | [],_,n,h=>by rw[y9.mp h];exact y9.mpr rfl
 | _::a,_,0,h=>by obtain⟨v,f,c,e,b⟩:=r6.mp h;subst c;exact r6.mpr ⟨_,_,rfl,q,b⟩
 | _::a,_,n+1,h=>by obtain⟨v,f,c,e,b⟩:=r6.mp h;subst c;exact r6.mpr ⟨_,_,rfl,e,RepL.set q n b⟩
theorem lX:∀(a:on Int),RepL D H (a.map DV.int) (a.map V.int)
 | []=>y9.mpr rfl
 | n::a=>r6.mpr ⟨_,_,rfl,v5.mpr rfl,lX a⟩
noncomputable def wo(O:on Mq)(H:Hp):Hp:=λ b=>if b∈O then none else H b
def aY(h:b∈O):wo O H b=none:=d6 h
def j4(h:b∉O):wo O H b=H b:=e7 h
def w4(h:wo O H b=some o):b∉O/\H b=some o:=by
 by_cases a:b∈O
 ·rw[aY a]at h;cases h
 ·rw[j4 a]at h;exact⟨a,h⟩
theorem Same.wo{O:on Mq}{H H':Hp}(e:Same H H'):Same (wo O H) (wo O H'):=λ b o h=>by
 obtain⟨hb,h⟩:=w4 h;rw[j4 hb];exact e b o h
def o8:Same (Nf O) H:=λ b o h=>(w4 h).2
def D9(h:∀b∈a,b∈O):Same (Nf O) (L2.wo a H):=λ b o e=>by
 obtain⟨c,e⟩:=w4 e
 rwa [j4 λ z=>c (h b z)]
def v6(h:H p=none):Same H (upd H p o):=λ b u q=>by rwa [j8 (x6 q h)]
structure Hid(O W:List Addr)(H0 H:Hp):Prop where
 ot:∀a∈O++W,H0 a≠none
 same:Same H0 H
 wl:∀a∈W,∃o,H0 a=some o/\mutO o=true
 dj:∀a∈W,a∉O
 om:∀a∈O,∃o,H0 a=some o/\mutO o=true
def Hdn(O:on Mq)(H:Hp):Prop:=∀a∈O,∃o,H a=some o/\mutO o=true
def Hdn.ne(h:Hdn O H):∀a∈O,H a≠none:=λ a b q=>by obtain⟨o,e,_⟩:=h a b;rw[q]at e;cases e
def Hid.omS{O W:on Mq}{H0 H H':Hp}(h:NG H0)(e:Same H0 H'):Hdn O H':=λ a ha=>by obtain⟨o,q,m⟩:=h.om a ha;exact⟨o,e _ _ q,m⟩
def Hid.omW(h:NG b)(c:p∈W):Hdn O (upd b p x):=λ a d=>by
 obtain⟨o,q,m⟩:=h.om a d;exact⟨o,by rw[j8 λ z=>h.dj p c (by grind)];exact q,m⟩
def Hid.hdO(h:NG a):Hdn O H:=h.omS h.same
def Hid.hdA(h:NG c):Hdn (O++W) H:=λ a b=>by
 rcases x3.mp b with z | z
 ·exact h.hdO a z
 ·obtain⟨o,q,m⟩:=h.wl a z;exact⟨o,h.same _ _ q,m⟩
def Hid.mono{O W:on Mq}{H0 H H':Hp}(h:NG H0)(e:Same H H'):Hid O W H0 H':=⟨h.ot,h.same.trans e,h.wl,h.dj,h.om⟩
def Hid.newOut(h:NG b)(a:H p=none):p∉O++W:=λ z=>h.ot p z (h.same.free a)
mutual
theorem Rep.immut{D:Dm}{O W:on Mq}{H:Hp}(hw:∀a∈W,∃o,H a=some o/\mutO o=true):∀{d:DV} {v:V},d.immut=true->Rep D (Nf O) d v->Rep D Nc d v
 | .non,_,_,h=>by unfold Rep at h ⊢;exact h
 | .bl _,_,_,h=>by unfold Rep at h ⊢;exact h
 | .int _,_,_,h=>by unfold Rep at h ⊢;exact h
 | .str _,_,_,h=>by unfold Rep at h ⊢;exact h
 | .tup ds,_,m,h=>by
  unfold Rep at h ⊢;obtain⟨a,xs,e1,e2,e3⟩:=h;have m':DV.immuts ds=true:=by unfold DV.immut at m;exact m
  refine⟨a,xs,e1,?_,RepL.immut hw m' e3⟩;rcases e2 with(h | ⟨o,h⟩) | h
  ·obtain⟨ha,h⟩:=w4 h;refine .inl (.inl ?_);rw[j4 λ z=>?_]
   ·exact h
   ·rcases x3.mp z with z | z
    ·exact ha z
    ·obtain⟨ys,q,m⟩:=hw a z;rw[h]at q;cases q;cases m
  ·obtain⟨ha,h⟩:=w4 h;refine .inl (.inr ⟨o,?_⟩);rw[j4 λ z=>?_]
   ·exact h
   ·rcases x3.mp z with z | z
    ·exact ha z
    ·obtain⟨ys,q,m⟩:=hw a z;rw[h]at q;cases q;cases m
  ·exact .inr h
 | .lst ds,_,m,_=>by unfold DV.immut at m;cases m
 | .dct ks vs,_,m,h=>by
  have m':DV.immuts vs=true:=by unfold DV.immut at m;exact m
  have ou:∀{a:Mq} {o:Obj} {u:HO},L2.wo O H a=some (.frz o u)->L2.wo (O++W) H a=some (.frz o u):=λ {a o u} e=>by
   obtain⟨ha,h⟩:=w4 e;rw[j4 λ z=>?_]
   ·exact h
   ·rcases x3.mp z with z | z
    ·exact ha z
    ·obtain⟨ys,q,m⟩:=hw a z;rw[h]at q;cases q;cases m
  rcases aX.mp h with⟨a,o,kvs,e1,e2,e3,e4⟩ | ⟨a,o,kvs,e1,e2,e3,e4⟩
  ·exact aX.mpr (.inl ⟨a,o,kvs,e1,ou e2,e3,RepL.immut hw m' e4⟩)
  ·exact aX.mpr (.inr ⟨a,o,kvs,e1,ou e2,e3,RepL.immut hw m' e4⟩)
 | .fn _,_,_,h=>by unfold Rep at h ⊢;exact h
 | .lam _ _,_,m,_=>by unfold DV.immut at m;cases m
 | .scr ns,_,_,h=>by
  unfold Rep at h ⊢;obtain⟨a,e1,e2⟩:=h;refine⟨a,e1,?_⟩;rcases e2 with⟨o,h⟩ | h
  ·obtain⟨ha,h⟩:=w4 h;refine .inl ⟨o,?_⟩;rw[j4 λ z=>?_]
   ·exact h
   ·rcases x3.mp z with z | z
    ·exact ha z
    ·obtain⟨ys,q,m⟩:=hw a z;rw[h]at q;cases q;cases m
  ·exact .inr h
theorem RepL.immut{D:Dm}{O W:on Mq}{H:Hp}(hw:∀a∈W,∃o,H a=some o/\mutO o=true):∀{ds:on DV} {xs:on V},DV.immuts ds=true->RepL D (Nf O) ds xs->RepL D Nc ds xs
 | [],_,_,h=>by unfold RepL at h ⊢;exact h
 | d::ds,_,m,h=>by unfold RepL at h ⊢;obtain⟨v,vs,e1,e2,e3⟩:=h;unfold DV.immuts at m;rw[d8]at m;exact⟨v,vs,e1,Rep.immut hw m.1 e2,RepL.immut hw m.2 e3⟩
end
def RepT(D:Dm)(W:on Mq)(Ht H:Hp)(d:DV)(v:V):Prop:=match d with
 | .lst ds=>∃a xs,v=.ref a/\a∈W/\Ht a=some (MZ xs)/\RepL D H ds xs
 | d=>Rep D H d v
theorem RepT.mono{D:Dm}{W:on Mq}{Ht Ht' H H':Hp}{d:DV}{v:V}(et:Same Ht Ht')(e:Same H H')(h:RepT D W Ht H d v):RepT D W Ht' H' d v:=by
 cases d with
 | lst ds=>obtain⟨a,xs,e1,e0,e2,e3⟩:=h;exact⟨a,xs,e1,e0,et _ _ e2,e3.mono e⟩
 | non=>exact Rep.mono (D:=D) (d:=.non) (v:=v) e h
 | bl b=>exact Rep.mono (D:=D) (d:=.bl b) (v:=v) e h
 | int b=>exact Rep.mono (D:=D) (d:=.int b) (v:=v) e h
 | str b=>exact Rep.mono (D:=D) (d:=.str b) (v:=v) e h
 | tup b=>exact Rep.mono (D:=D) (d:=.tup b) (v:=v) e h
 | dct b c=>exact Rep.mono (D:=D) (d:=.dct b c) (v:=v) e h
 | fn b=>exact Rep.mono (D:=D) (d:=.fn b) (v:=v) e h
 | lam b c=>exact Rep.mono (D:=D) (d:=.lam b c) (v:=v) e h
 | scr b=>exact Rep.mono (D:=D) (d:=.scr b) (v:=v) e h
def RepT.rep(e:Same H f)(h:RepT D W f H d v):Rep D f d v:=by
 cases d with
 | lst ds=>obtain⟨a,g,k,e0,j,i⟩:=h;exact G3.mpr ⟨a,g,k,j,i.mono e⟩
 | non=>exact Rep.mono e h
 | bl b=>exact Rep.mono e h
 | int b=>exact Rep.mono e h
 | str b=>exact Rep.mono e h
 | tup b=>exact Rep.mono e h
 | dct b c=>exact Rep.mono e h
 | fn b=>exact Rep.mono e h
 | lam b c=>exact Rep.mono e h
 | scr b=>exact Rep.mono e h
def Got(D:Dm)(O W:on Mq)(H0 H:Hp)(d:DV)(c:Cl)(v:V):Prop:=match c with
 | .weak=>Rep D (Nf O) d v
 | .top=>RepT D W (Nf O) Nc d v
 | .strong=>Rep D Nc d v
 | .fresh=>∃p xs ds,v=.ref p/\d=.lst ds/\H0 p=none/\H p=some (MZ xs)/\RepL D (Nf (p::(O++W))) ds xs
section
variable {D:Dm} {O W:on Mq} {H0 H H':Hp} {d:DV} {ds:on DV} {c:Cl} {v:V}
def dB:∀b∈O,b∈O++W:=λ _ h=>w6 _ h
theorem Got.mono(h:Got D O W H0 H d c v)(e:Same H H'):Got D O W H0 H' d c v:=by
 cases c with
 | weak=>exact Rep.mono e.wo h
 | top=>exact RepT.mono e.wo e.wo h
 | strong=>exact Rep.mono e.wo h
 | fresh=>
  obtain⟨p,a,k,j,i,g,f,b⟩:=h;exact⟨p,a,k,j,i,g,e _ _ f,b.mono e.wo⟩
def Got.since(h:Got D O W a H d c v)(e:Same H0 a):Got D O W H0 H d c v:=by
 cases c with
 | weak=>exact h
 | top=>exact h
 | strong=>exact h
 | fresh=>
  obtain⟨p,b,l,k,j,i,g,f⟩:=h;exact⟨p,b,l,k,j,e.free i,g,f⟩
def Got.strong(h:Got D O W H0 H d .fresh v)(c:NG H0):Rep D Nc d v:=by
 obtain⟨p,a,ds,j,i,g,e4,f⟩:=h;rw[i];exact G3.mpr ⟨p,a,j,by rwa [j4 (λ z=>c.ot p z g)],f.mono (D9 λ b e=>j5 _ e)⟩
theorem Got.weak(h:Got D O W H0 H d c v)(hd:NG H0):Rep D (Nf O) d v:=by
 cases c with
 | weak=>exact h
 | top=>exact RepT.rep (D9 dB) h
 | strong=>exact Rep.mono (D9 dB) h
 | fresh=>exact Rep.mono (D9 dB) (h.strong hd)
def Got.all(h:Got D O W H0 H d c v)(a:NG H0):Rep D H d v:=Rep.mono o8 (h.weak a)
theorem Got.stro(h:Got D O W H0 H d c v)(hd:NG H0)(g:L2.stro d c=true):Rep D Nc d v:=by
 cases c with
 | strong=>exact h
 | fresh=>exact h.strong hd
 | weak=>exact Rep.immut (λ a f=>by obtain⟨b,e,m⟩:=hd.wl a f;exact⟨b,hd.same _ _ e,m⟩) g (h.weak hd)
 | top=>exact Rep.immut (λ a f=>by obtain⟨b,e,m⟩:=hd.wl a f;exact⟨b,hd.same _ _ e,m⟩) g (h.weak hd)
def Got.items(h:Got D O W H0 H (MZ ds) c v)(hd:NG H0)(f:c ≠ .weak):∃a xs,v=.ref a/\H a=some (MZ xs)/\RepL D Nc ds xs:=by
 cases c with
 | weak=>exact absurd rfl f
 | top=>
  obtain⟨a,xs,e,e0,d,b⟩:=h;exact⟨a,xs,e,o8 _ _ d,b⟩
 | strong=>
  obtain⟨a,xs,e,d,b⟩:=G3.mp h;exact⟨a,xs,e,o8 _ _ d,b⟩
 | fresh=>
  obtain⟨a,xs,e,d,b⟩:=G3.mp (h.strong hd);exact⟨a,xs,e,o8 _ _ d,b⟩
def Got.itemsT(h:Got D O W H0 H (.tup f) c v)(hd:NG H0)(g:c ≠ .weak):∃a xs,v=.ref a/\SqT D.K H a xs/\RepL D Nc f xs:=by
 cases c with
 | weak=>exact absurd rfl g
 | top=>
  obtain⟨a,xs,e,b,d⟩:=B5.mp (h);exact⟨a,xs,e,o8.tseq b,d⟩
 | strong=>
  obtain⟨a,xs,e,b,d⟩:=B5.mp h;exact⟨a,xs,e,o8.tseq b,d⟩
 | fresh=>
  obtain⟨p,xs,f,e,b,d,e4,e5⟩:=h;cases b
theorem Got.lst(h:Got D O W H0 H (MZ ds) c v)(d:NG H0):∃a b,v=.ref a/\H a=some (.lst b)/\RepL D (Nf O) ds b:=by
 obtain⟨a,b,g,f,e⟩:=G3.mp (h.weak d);exact⟨a,b,g,o8 _ _ f,e⟩
theorem Got.tup(h:Got D O W H0 H (.tup ds) c v)(d:NG H0):∃a b,v=.ref a/\SqT D.K H a b/\RepL D (Nf O) ds b:=by
 obtain⟨a,b,g,f,e⟩:=B5.mp (h.weak d);exact⟨a,b,g,o8.tseq f,e⟩
noncomputable def F0(O W:on Mq):Cl->on Mq
 | .weak=>O
 | _=>O++W
def Got.lstC(h:Got D O W H0 H (MZ ds) c v)(hd:NG H0):∃a b,v=.ref a/\H a=some (.lst b)/\RepL D (Nf (F0 O W c)) ds b:=by
 cases c with
 | weak=>exact h.lst hd
 | top=>exact h.items hd MO
 | strong=>exact h.items hd MO
 | fresh=>exact h.items hd MO
def Got.tupC(h:Got D O W H0 H (.tup ds) c v)(hd:NG H0):∃a b,v=.ref a/\SqT D.K H a b/\RepL D (Nf (F0 O W c)) ds b:=by
 cases c with
 | weak=>exact h.tup hd
 | top=>exact h.itemsT hd MO
 | strong=>exact h.itemsT hd MO
 | fresh=>exact h.itemsT hd MO
theorem Got.item(h:Rep D (Nf (F0 O W c)) d v):Got D O W H0 H d c.item v:=by
 cases c<;>exact h
def A2(a:c ≠ .fresh:=by intro z;cases z):Got D O W H0 H (.int i) c (.int i):=by
 have q:∀H,Rep D H _ (.int i):=λ H=>v5.mpr rfl;cases c with
 | fresh=>exact absurd rfl a
 | weak=>exact q (Nf O)
 | strong=>exact q Nc
 | top=>exact q Nc
def O8:Got D O W H0 H (.bl i) .strong (.bl i):=(Z7.mpr rfl:Rep D Nc _ _)
def Dx:Got D O W H0 H .non .strong .non:=(S9.mpr rfl:Rep D Nc .non .non)
theorem Got.int(h:Got D O W H0 H (.int i) c v)(a:NG H0):v=.int i:=v5.mp (h.weak a)
theorem Got.bl(h:Got D O W H0 H (.bl i) c v)(a:NG H0):v=.bl i:=Z7.mp (h.weak a)
theorem Got.str(h:Got D O W H0 H (.str x) c v)(a:NG H0):v=.str x/\x.length<=sizeLine:=dz.mp (h.weak a)
def V8(c:NG H0)(a:H p=none)(r:RepL D Nc ds xs):Got D O W H0 (upd H p (MZ xs)) (MZ ds) .fresh (.ref p):=by
 refine⟨p,xs,ds,rfl,rfl,c.same.free a,u5,r.mono λ b o e=>?_⟩;obtain⟨hb,e⟩:=w4 e
 rwa [j4 (by grind),j8 (x6 e a)]
def lY(b:NG H0)(a:H p=none)(r:RepL D (Nf O) ds xs):Got D O W H0 (upd H p (MZ xs)) (MZ ds) .weak (.ref p):=by
 exact G3.mpr ⟨p,xs,rfl,by rw[j4 (λ z=>b.newOut a (w6 _ z))];exact u5,r.mono (v6 a).wo⟩
def sr(hd:NG H0)(a:H p=none)(r:RepL D (Nf (F0 O W c)) ds xs):Got D O W H0 (upd H p (MZ xs)) (MZ ds) (Cl.anew c c) (.ref p):=by
 cases c with
 | weak=>exact lY hd a r
 | top=>exact V8 hd a r
 | strong=>exact V8 hd a r
 | fresh=>exact V8 hd a r
def gr(b:NG H0)(a:H p=none)(r:RepL D Nc ds xs):Got D O W H0 (upd H p (.tup xs)) (.tup ds) .strong (.ref p):=
 B5.mpr ⟨p,xs,rfl,SqT.of (by rw[j4 (b.newOut a)];exact u5),r.mono (v6 a).wo⟩
def su(b:NG H0)(a:H p=none)(r:RepL D (Nf O) ds xs):Got D O W H0 (upd H p (.tup xs)) (.tup ds) .weak (.ref p):=
 B5.mpr ⟨p,xs,rfl,SqT.of (by rw[j4 λ z=>b.newOut a (w6 _ z)];exact u5),r.mono (v6 a).wo⟩
def Dy(hd:NG H0)(a:H p=none)(r:RepL D (Nf (F0 O W c)) ds xs):Got D O W H0 (upd H p (.tup xs)) (.tup ds) c.item (.ref p):=by
 cases c with
 | weak=>exact su hd a r
 | top=>exact gr hd a r
 | strong=>exact gr hd a r
 | fresh=>exact gr hd a r
end
inductive GotL (D:Dm) (O W:List Addr) (H0 H:Hp):List (DV×Cl)->List V->Prop where
 | nil:GotL D O W H0 H [] []
 | cons {d:DV} {c:Cl} {v:V} {l:List (DV×Cl)} {vs:List V}:Got D O W H0 H d c v->GotL D O W H0 H l vs->GotL D O W H0 H ((d,c)::l) (v::vs)
def GotL.repL(h:GotL D O W H0 H l vs)(b:NG H0):RepL D (Nf O) (l.map (·.1)) vs:=by
 induction h with
 | nil=>exact y9.mpr rfl
 | cons h _ a=>exact r6.mpr ⟨_,_,rfl,h.weak b,a⟩
theorem GotL.stros(h:GotL D O W H0 H l vs)(b:NG H0)(hs:L2.stros l=true):RepL D Nc (l.map (·.1)) vs:=by
 induction h with
 | nil=>exact y9.mpr rfl
 | cons h _ a=>
  unfold L2.stros at hs;rw[List.all_cons,d8]at hs;exact r6.mpr ⟨_,_,rfl,h.stro b hs.1,a hs.2⟩
theorem GotL.length(h:GotL D O W H0 H l vs):vs.length=l.length:=by
 induction h with
 | nil=>rfl
 | cons _ _ a=>rw[l4,l4,a]
theorem GotL.strong(h:GotL D O W H0 H l vs)(b:NG H0)(hs:Nl=true):RepL D Nc (l.map (·.1)) vs:=by
 refine h.stros b ?_;unfold L2.stros;rw[u4]at hs ⊢;intro p a;have:=hs p a;unfold L2.stro;cases e:p.2<;>rw[e]at this<;>first | rfl | cases this
def GotL.one(h:GotL D O W H0 H [(d,c)] vs):∃v,vs=[v]/\Got D O W H0 H d c v:=by
 cases h with
 | cons h t=>cases t;exact⟨_,rfl,h⟩
def GotL.two(h:GotL D O W H0 H [(d,c),(b,f)] vs):∃v a,vs=[v,a]/\Got D O W H0 H d c v/\Got D O W H0 H b f a:=by
 cases h with
 | cons h t=>obtain⟨a,e,g⟩:=t.one;subst e;exact⟨_,_,rfl,h,g⟩
noncomputable def oeD(L:on ((Int×Int)×Int)):DV:=.dct (L.map λ p=>.t [.inl p.1.1,.inl p.1.2]) (L.map λ p=>.int p.2)
noncomputable def oeK(L:on ((Int×Int)×Int)):on (on Key×V):=L.map λ p=>([.inl p.1.1,.inl p.1.2],.int p.2)
noncomputable def dicO:HO->Bool
 | .dK _=>true
 | .dT _=>true
 | _=>false
def OdOk(D:Dm)(H:Hp)(d:DV)(o:HO):Prop:=∃L,d=.tup [oeD L]/\o=.dT (oeK L)
def OdOk.dic(h:OdOk D H d o):dicO o=true:=by obtain⟨L,_,e⟩:=h;rw[e];rfl
def OdOk.mut(h:OdOk D H d o):mutO o=true:=by obtain⟨L,_,e⟩:=h;rw[e];rfl
def OdOk.mono(h:OdOk D H d o)(e:Same H H'):OdOk D H' d o:=h
def OdAt(D:Dm)(H:Hp)(σ:St)(δ:on Sv)(O W:on Mq):Prop:=∀(i:Nat) d,δ[i]? = some (.od d)->(∃a o,OdOk D Nc d o/\σ[i]? = some (some (.ref a))/\a∈W/\H a=some o)/\∀(j:Nat) d',δ[j]? = some (.od d')->σ[j]? = σ[i]? -> j=i
def OdAt.step(h:OdAt D H σ δ O W)(e:Same Nc (L2.wo (r++l) H'))(b:∀(j:Nat) d,δ'[j]? = some (.od d)->δ[j]? = some (.od d)/\c[j]? = σ[j]?)(v:∀a∈W,(∃o,H a=some o/\dicO o=true)->a∈l)(x:∀a o,a∈W->H a=some o->dicO o=true->H' a=some o):OdAt D H' c δ' r l:=λ i d q=>by
 obtain⟨s,m⟩:=b i d q;obtain⟨⟨a,L,f,y,p,n⟩,u⟩:=h i d s;exact⟨⟨a,L,f.mono e,by rw[m];exact y,v a p ⟨_,n,f.dic⟩,x a _ p n f.dic⟩,λ j g z w=>u j g (b j g z).1 (by rw[←(b j g z).2,w,m])⟩
def lZ{σ:St}{δ:on Sv}(x:Mn V)(c:∀d,X ≠ .od d):∀(j:Nat) d,(δ.set i X)[j]? = some (.od d)->δ[j]? = some (.od d)/\(σ.set i x)[j]? = σ[j]?:=λ j d h=>by
 have b:j≠i:=λ z=>by
  subst z;have a:j<δ.length:=by have:=(w5.mp h).1;rw[A7]at this;exact this
  rw[J6 a]at h;exact c d (z9 h)
 rw[t5 b.symm]at h ⊢;exact⟨h,rfl⟩
def Dz{σ:St}{δ:on Sv}(a:∀d,X ≠ .od d):∀(j:Nat) d,(δ.set i X)[j]? = some (.od d)->δ[j]? = some (.od d)/\σ[j]? = σ[j]?:=λ j d h=>⟨(lZ (σ:=σ) none a j d h).1,rfl⟩
structure RSt(D:Dm)(H:Hp)(σ:St)(δ:List Sv)(O W:List Addr):Prop where
 val:∀(i:Nat) d,δ[i]? = some (.val d)->∃v,σ[i]? = some (some v)/\Rep D Nc d v
 own:∀(i:Nat) d,δ[i]? = some (.own d)->∃a xs ds,d=.lst ds/\σ[i]? = some (some (.ref a))/\a∈W/\H a=some (MZ xs)/\RepL D Nc ds xs
 inj:∀(i j:Nat) a d d',δ[i]? = some (.own d)->δ[j]? = some (.own d')->σ[i]? = some (some (.ref a))->σ[j]? = some (some (.ref a))->i=j
 od:OdAt D H σ δ O W
 len:σ.length=δ.length
 hid:Hid O W H H
def Hid.later{O W:on Mq}{H H':Hp}(h:Hid O W H H)(e:Same H H'):Hid O W H' H':=⟨λ a ha q=>h.ot a ha (e.free q),Same.refl _,λ a ha=>by obtain⟨xs,q,m⟩:=h.wl a ha;exact⟨xs,e _ _ q,m⟩,h.dj,h.omS e⟩
theorem RSt.mono(R:RSt D H σ δ O W)(e:Same H H'):RSt D H' σ δ O W where
 val:=λ i d h=>by obtain⟨v,c,b⟩:=R.val i d h;exact⟨v,c,b.mono e.wo⟩
 own:=λ i f h=>by obtain⟨a,g,f,o,c,b,n,m⟩:=R.own i f h;exact⟨a,g,f,o,c,b,e _ _ n,m.mono e.wo⟩
 inj:=R.inj
 od:=R.od.step e.wo (λ j d h=>⟨h,rfl⟩) (λ _ h _=>h) (λ a l _ h _=>e _ _ h)
 len:=R.len
 hid:=R.hid.later e
noncomputable def Post(D:Dm)(O W:on Mq)(H0 H:Hp)(Q:VK):Re->Prop
 | .ok d c=>∀v H',Same H H'->Got D O W H0 H' d c v->Q v H'
def dE(D:Dm)(δ:on Sv)(r:Re):TE:=λ σ H Q=>∃O W,RSt D H σ δ O W/\Post D O W H H Q r
noncomputable def DA(D:Dm)(O W:on Mq)(H0 H:Hp)(Q:on V->Hp->Prop):Rs->Prop
 | .ok l=>∀vs H',Same H H'->GotL D O W H0 H' l vs->Q vs H'
def dA(D:Dm)(δ:on Sv)(r:Rs):TA:=λ σ H Q=>∃O W,RSt D H σ δ O W/\DA D O W H H Q r
noncomputable def gu(D:Dm)(H:Hp)(Q:Bool->Hp->Prop):Rt->Prop
 | .ok b=>∀H',Same H H'->Q b H'
def dT(D:Dm)(δ:on Sv)(r:Rt):TT:=λ σ H Q=>∃O W,RSt D H σ δ O W/\gu D H Q r
def Post.step(h:Post D O W b H Q r)(e:Same H a):Post D O W b a Q r:=by
 cases r with
 | ok d c=>exact λ v f s g=>h v f (e.trans s) g
def Post.later(h:Post D O W b H Q r)(e:Same H a)(f:Same b a):Post D O W a a Q r:=by
 cases r with
 | ok d c=>exact λ v i s g=>h v i (e.trans s) (g.since f)
theorem GotL.since(h:GotL D O W a H l vs)(e:Same b a):GotL D O W b H l vs:=by
 induction h with
 | nil=>exact .nil
 | cons g _ c=>exact .cons (g.since e) c
def gu.later(h:gu D H Q r)(e:Same H a):gu D a Q r:=by
 cases r with
 | ok b=>exact λ c s=>h c (e.trans s)
def PE.weak(h:PE X e t)(k:∀a H Q,t' a H Q->t a H Q):PE X e t':=λ b s a H Q I q=>h b s a H Q I (k a H Q q)
def PT.weak(h:PT X e t)(k:∀a H Q,t' a H Q->t a H Q):PT X e t':=λ b s a H Q I q=>h b s a H Q I (k a H Q q)
def PW.weak(h:PW X e t)(k:∀b H Q,t' b H Q->t b H Q):PW X e t':=λ a c s b H Q I q=>h a c s b H Q I (k b H Q q)
def PA.weak(h:PA X e t)(k:∀a H Q,t' a H Q->t a H Q):PA X e t':=λ c b s a H Q I q=>h c b s a H Q I (k a H Q q)
def PS.weak(h:PS X e t)(k:∀D a H,t' D a H->t D a H):PS X e t':=λ b s a H D I q=>h b s a H D I (k D a H q)
def PSs.weak(h:PSs X e t)(k:∀D a H,t' D a H->t D a H):PSs X e t':=λ b s a H D I q=>h b s a H D I (k D a H q)
def sw:PW X e (λ _ _ _=>False):=λ _ _ _ _ _ _ _ h=>h.elim
def sx:PT X e (λ _ _ _=>False):=λ _ _ _ _ _ _ h=>h.elim
def dF:PE X e (λ _ _ _=>False):=λ _ _ _ _ _ _ h=>h.elim
def aZ(h:n<=l5):n<=sizeLine:=e9 h MG
def sA(g:∀j,PE X a j->PE X e (tUn r j))(m:∀q,f=some q->PE X a MR)(h:Re.thn f k=some c)
  (l:∀O W i H x Q d cx (σ:St),k d cx=some c->Hid O W i H->Got X.D O W i H d cx x->Post X.D O W i H Q c->r x H Q):PE X e (dE X.D δ c):=by
 cases b:f with
 | none=>rw[b]at h;cases h
 | some q=>
  rw[b]at h;have A:=m q b;cases q with
  | ok d cx=>
   exact(g _ A).weak λ σ H Q ⟨O,W,R,p⟩=>⟨O,W,R,λ x o s1 n=>l O W H o x Q d cx σ h MX n (p.step s1)⟩
def sB{k:DV->Cl->DV->Cl->Mn Re}(v:∀q,m=some q->PE X a MR)(u:∀q,l=some q->PE X b MR)
  (h:(Re.thn m λ x cx=>Re.thn l λ y cy=>k x cx y cy)=some e)
  (s:∀O W j H x y Q i cx g cy (σ:St),k i cx g cy=some e->Hid O W j H->Got X.D O W j H i cx x->Got X.D O W j H g cy y->Post X.D O W j H Q e->r x y H Q) :
  ∃o n,PE X a o/\PE X b n/\∀σ H Q,dE X.D δ e σ H Q->tOp r o n σ H Q:=by
 cases d:m with
 | none=>rw[d]at h;cases h
 | some q=>
  rw[d]at h;have A:=v q d;cases q with
  | ok i cx=>
   have f:=h;cases c:l with
   | none=>rw[c]at f;cases f
   | some q=>
    rw[c]at f;have B:=u q c;cases q with
    | ok g cy=>
     exact⟨_,_,A,B,λ σ H Q ⟨O,W,R,p⟩=>⟨O,W,R,λ x H1 s1 z=>⟨O,W,R.mono s1,λ y C s2 w=>
      s O W H C x y Q i cx g cy σ f ((MX).mono s2) (z.mono s2) (w.since s1) (p.step (s1.trans s2))⟩⟩⟩
def md{k:DV->Cl->DV->Cl->Mn Re}(i:∀g f,PE X a g->PE X b f->PE X e (tOp r g f))(s:∀q,l=some q->PE X a MR)(p:∀q,j=some q->PE X b MR)
  (h:(Re.thn l λ x cx=>Re.thn j λ y cy=>k x cx y cy)=some c)
  (o:∀O W d H x y Q n cx m cy (σ:St),k n cx m cy=some c->Hid O W d H->Got X.D O W d H n cx x->Got X.D O W d H m cy y->Post X.D O W d H Q c->r x y H Q):PE X e (dE X.D δ c):=by
 obtain⟨g,f,A,B,q⟩:=sB s p h o;exact(i _ _ A B).weak q
def ba(d:∀t,PA X es t->PE X e (tCB r t))(i:∀q,c=some q->PA X es (dA X.D δ q))(h:Rs.thn c k=some b)
  (g:∀O W f H vs Q l (σ:St),k l=some b->Hid O W f H->GotL X.D O W f H l vs->Post X.D O W f H Q b->r vs H Q):PE X e (dE X.D δ b):=by
 cases a:c with
 | none=>rw[a]at h;cases h
 | some q=>
  rw[a]at h;have A:=i q a;cases q with
  | ok l=>
   exact(d _ A).weak λ σ H Q ⟨O,W,R,p⟩=>⟨O,W,R,λ vs m s1 j=>g O W H m vs Q l σ h MX j (p.step s1)⟩
def DB{i:Nat}(g:X.N[i]? = some x)(hv:Vis X.env.scope x)(hd:Np=false)(c:(x==("__classdict__" : Str))=false)
  (h:varE δ[i]? = some r):PE X (.Name x pos) (dE X.D δ r):=
 (R6 g hv hd c).weak λ σ H Q ⟨O,W,R,p⟩=>by
  unfold varE at h;split at h
  ·rename_i d q;cases h;obtain⟨v,e,b⟩:=R.val i d q;exact⟨v,e,p v H Nu b⟩
  ·rename_i d q;cases h;obtain⟨a,f,ds,l,e,b,k,j⟩:=R.own i d q;subst l;refine⟨.ref a,e,p _ H Nu ⟨a,f,rfl,b,?_,j⟩⟩;rw[j4 (R.hid.dj a b)];exact k
  ·cases h
def DC:PE X (.Constant (.int i) j pos) (dE X.D δ (MV (.int i))):=zc.weak λ σ H Q ⟨O,W,R,p⟩=>p _ H Nu A2
def DD:PE X (.Constant (.bool i) j pos) (dE X.D δ (MV (.bl i))):=ze.weak λ σ H Q ⟨O,W,R,p⟩=>p _ H Nu O8
def DE(h:i.length<=sizeLine):PE X (.Constant (.str i) j pos) (dE X.D δ (MV (.str i))):=zg.weak λ σ H Q ⟨O,W,R,p⟩=>p _ H Nu (dz.mpr ⟨rfl,h⟩:Rep X.D Nc _ _)
def DF:PE X (.Constant .none j pos) (dE X.D δ (.ok .non .strong)):=zf.weak λ σ H Q ⟨O,W,R,p⟩=>p _ H Nu Dx
section
variable {X:Cx} {δ:on Sv} {a b c e:Ms} {pos:Pos} {ra rb:Mn Re} {re:Re}
def sC{a:Hp}(b:NG a)(e:Got D O W a H (.int i) h x)(d:Got D O W a H (.int j) f y)(c:C i j)(q:Q (g i j) H):rI C g x y H Q:=
 ⟨i,j,e.int b,d.int b,c,q⟩
def sD{a:Hp}{e:Cl}(b:NG a)(d:Got D O W a H (.int i) f x)(c:Got D O W a H (.int j) e y)(q:Q (g i j) H):rI0 g x y H Q:=
 ⟨i,j,d.int b,c.int b,q⟩
def DG{b a:Cl}(h:b ≠ .weak)(c:a ≠ .weak):Cl.anew b a=.fresh:=by
 cases b<;>cases a<;>first | rfl | exact absurd rfl h | exact absurd rfl c
def gw(i j:Int):Prop:=CMul i j\/(i.natAbs<2^2000/\j.natAbs<2^2000)
def sE(h:i.natAbs<2^n):Builtin.Int.intBits i<=n:=by
 unfold Builtin.Int.intBits;by_cases a:i=0
 ·subst a;exact u9 n
 ·rw[e7 (by grind)];have:=λ z=>a (Int.natAbs_eq_zero.mp z)
  exact(cF this).mpr h
theorem gw.ok(h:gw i j):IntMulOk i j:=by
 rcases h with h | ⟨h1,h2⟩
 ·exact h.ok
 ·unfold IntMulOk;have b1:=sE h1;have b2:=sE h2;have:Builtin.Int.intTooBig ((Builtin.Int.intBits i:Int)+(Builtin.Int.intBits j:Int))=false:=by
   unfold Builtin.Int.intTooBig;rw[o5];have:((bitsLine:Nat):Int)=134217728:=by decide
   omega
  rw[this,fj];exact w9
def DH:OpR X (binaryOp .Mult) (rI gw λ i j=>.int (i*j)):=opI λ _ _ _ _ _ _ _ a q=>mul_int q a.ok
def DI:OpR X (binaryOp .FloorDiv) (rI (λ _ j=>0<j/\j<2^200) λ i j=>.int (i/j)):=opI λ i j _ _ _ _ _ a q=>by
 have h1:=a.1;have b:j.natAbs<2^200:=by have:=a.2;omega
 refine floordiv_int KE (by rw[oT i KE];exact q) (.inl (PyProof.noPylong_of_log2 ?_));exact o4 ((cF KE).mpr b) MG
def binR(X:Cx):Operator->R2
 | .Add=>λ x y H Q=>rI0 (λ i j=>.int (i+j)) x y H Q\/rCat x y H Q
 | .Sub=>rI0 λ i j=>.int (i - j)
 | .Mult=>rI gw (λ i j=>.int (i*j))
 | .Mod=>λ x y H Q=>rI (λ _ j=>0<j) (λ i j=>.int (i%j)) x y H Q
 | .FloorDiv=>rI (λ _ j=>0<j/\j<2^200) λ i j=>.int (i/j)
 | .LShift=>rI CPow λ i j=>.int (i*2^j.toNat)
 | .RShift=>rI (λ _ j=>0<=j) λ i j=>.int (i/2^j.toNat)
 | .BitAnd=>rI0 λ i j=>.int (Builtin.bitAnd i j)
 | .BitOr=>rI0 λ i j=>.int (Builtin.bitOr i j)
 | .BitXor=>rI0 λ i j=>.int (Builtin.bitXor i j)
 | _=>λ _ _ _ _=>False
def DJ:OpR X (binaryOp op) (binR X op):=by
 cases op with
 | Add=>exact zU.or AT
 | Sub=>exact zV
 | Mult=>exact DH
 | Mod=>exact zW
 | FloorDiv=>exact DI
 | LShift=>exact zX
 | RShift=>exact zY
 | BitAnd=>exact Aa
 | BitOr=>exact Ab
 | BitXor=>exact Ac
 | MatMult=>exact λ _ _ _ _ _ _ _ _ _ _ _ _ h=>h.elim
 | Div=>exact λ _ _ _ _ _ _ _ _ _ _ _ _ h=>h.elim
 | Pow=>exact λ _ _ _ _ _ _ _ _ _ _ _ _ h=>h.elim
def O9(h:asI d=some i):d=.int i:=by cases d<;>cases h;rfl
def DK(h:asL d=some i):d=.lst i:=by cases d<;>cases h;rfl
def DL(h:binD op A w cx cy=some re)(hd:NG j)(d:Got X.D O W j H A cx x)(c:Got X.D O W j H w cy y)
  (p:Post X.D O W j H Q re):binR X op x y H Q:=by
 unfold binD at h;cases op
 case Add=>
  dsimp only at h;split at h
  ·rename_i l
   replace h:=G4.mp h
   obtain⟨k,a,h⟩:=h;have a:=O9 a;subst a;cases h;exact .inl (sD hd d c (p _ H Nu A2))
  ·rename_i xs
   replace h:=G4.mp h
   obtain⟨ys,a,h⟩:=h;have a:=DK a;subst a;split at h
   ·rename_i m;cases h;by_cases g:cx ≠ .weak/\cy ≠ .weak
    ·obtain⟨s,o,b,v,r1⟩:=d.items hd g.1;obtain⟨r,n,a,u,f⟩:=c.items hd g.2;refine .inr ⟨s,r,o,n,b,a,v,u,by rw[r1.length,f.length];exact aZ m,λ q i=>p _ _ (v6 i) ?_⟩;rw[DG g.1 g.2];exact V8 hd i (r1.append f)
    ·obtain⟨s,o,b,v,r1⟩:=d.lst hd;obtain⟨r,n,a,u,f⟩:=c.lst hd;refine .inr ⟨s,r,o,n,b,a,v,u,by rw[r1.length,f.length];exact aZ m,λ q i=>p _ _ (v6 i) ?_⟩;have:Cl.anew cx cy=.weak:=(by cases cx<;>cases cy<;>first | rfl | exact absurd ⟨(by intro z;cases z),MO⟩ g);rw[this];exact lY hd i (r1.append f)
   ·cases h
  ·cases h
 case Sub | BitOr | BitAnd | BitXor=>
  dsimp only at h
  replace h:=G4.mp h
  obtain⟨l,b,h⟩:=h
  replace h:=G4.mp h
  obtain⟨k,a,h⟩:=h;have b:=O9 b;have a:=O9 a;subst b a;cases h;exact sD hd d c (p _ H Nu A2)
 case Mult=>
  dsimp only at h;split at h
  ·rename_i l
   replace h:=G4.mp h
   obtain⟨k,a,h⟩:=h;have a:=O9 a;subst a;split at h
   ·rename_i m;cases h;refine sC hd d c ?_ (p _ H Nu A2);unfold R7 at m;simp only[B7,d8,E2]at m;exact m
   ·cases h
  ·cases h
 case Mod | FloorDiv | LShift | RShift=>
  dsimp only at h
  replace h:=G4.mp h
  obtain⟨l,b,h⟩:=h
  replace h:=G4.mp h
  obtain⟨k,a,h⟩:=h;have b:=O9 b;have a:=O9 a;subst b a;split at h
  ·rename_i m;cases h;exact sC hd d c m (p _ H Nu A2)
  ·cases h
 all_goals (dsimp only at h;cases h)
def DM(f:∀q,ra=some q->PE X a MR)(e:∀q,rb=some q->PE X b MR)(h:(Re.thn ra λ x d=>Re.thn rb λ y c=>binD op x y d c)=some re):PE X (.BinOp a op b pos) (dE X.D δ re):=
 md (λ _ _=>zR DJ) f e h λ O W H0 H x y Q dx d dy c σ k hd i g p=>DL k hd i g p
def DN(b:∀q,ra=some q->PE X a MR)(h:(Re.thn ra λ x _=>match x with | .int i=>some (MV (.int (-i))) | _=>none)=some re):PE X (.UnaryOp .USub a pos) (dE X.D δ re):=
 sA (λ _=>zS Ad) b h λ O W H0 H x Q dx cx σ k hd c p=>by
  split at k
  ·cases k;exact⟨_,c.int hd,p _ H Nu A2⟩
  ·cases k
def DO:atD ds i=L2.atI ds i:=rfl
theorem RepL.atI(h:RepL D H ds xs)(e:atD ds i=some d):∃v,L2.atI xs i=some v/\Rep D H d v:=by
 rw[DO]at e;unfold L2.atI at e ⊢;rw[h.length];cases q:ixN ds.length i with
 | none=>rw[q]at e;cases e
 | some j=>
  rw[q]at e;exact h.get e
def DP(h:((ixD A w).map λ d=>Re.ok d cx.item)=some re)(hd:NG k)(s:Got X.D O W k H A cx x)(r:Got X.D O W k H w cy y)
  (p:Post X.D O W k H Q re):rIx X.K x y H Q:=by
 obtain⟨d,e,F⟩:=o9.mp h;cases F;unfold ixD at e;split at e
 ·rename_i c i;obtain⟨a,g,f⟩:=Z8.mp (s.all hd);obtain⟨n,E,C⟩:=o9.mp e;cases C;have q:L2.atI (c.map V.int) i=some (.int n):=by
   unfold L2.atI;rw[d9];have b:((ixN c.length i).bind λ j=>c[j]?)=some n:=E;cases z:ixN c.length i with
   | none=>rw[z]at b;cases b
   | some j=>
    rw[z]at b;have B:c[j]? = some n:=b;show(c.map V.int)[j]? = _;rw[n7,B];rfl
  refine .inl ⟨a,_,i,_,g,r.int hd,f.sq,q,p _ H Nu ?_⟩;cases cx<;>exact A2
 ·obtain⟨a,l,g,f,u⟩:=s.lstC hd;obtain⟨v,o,m⟩:=u.atI e;exact .inl ⟨a,l,_,v,g,r.int hd,SqL.of f,o,p _ H Nu (Got.item m)⟩
 ·obtain⟨a,l,g,f,u⟩:=s.tupC hd;obtain⟨v,o,m⟩:=u.atI e;exact .inr (.inl ⟨a,l,_,v,g,r.int hd,f,o,p _ H Nu (Got.item m)⟩)
 ·cases e
def DQ(g:∀q,ra=some q->PE X a MR)(f:∀q,rb=some q->PE X b MR)(e:V6 b=false)(h:(Re.thn ra λ x c=>Re.thn rb λ y _=>(ixD x y).map λ d=>.ok d c.item)=some re):PE X (.Subscript a b pos) (dE X.D δ re):=
 md (λ _ _ j i=>qp AF j i (by cases b<;>first | (intro _ _;rfl) | cases e)) g f h λ O W H0 H x y Q dx c dy cy σ k hd m l p=>DP k hd m l p
def sF(n d:Nat)(o:Mn Int):slIx n d o=HT.sIx n d o:=by cases o<;>rfl
def RepL.cut(h:RepL D H ds xs)(a b:Mn Int):RepL D H (cutD ds a b) (cutV xs a b):=by
 unfold cutD cutV;rw[sF,sF,←h.length];exact(h.drop _).take _
def sG{b c:Mn Int}(h:((slD f b c).map λ d=>Re.ok d (slCl f cx))=some re)(hd:NG g)(k:Got X.D O W g H f cx x)
  (p:Post X.D O W g H Q re):rSlL X.K x b c H Q:=by
 obtain⟨d,h1,h2⟩:=o9.mp h;cases h2;unfold slD at h1;split at h1
 ·cases h1;obtain⟨a,j,n,m,l⟩:=k.lstC hd;exact⟨a,j,n,SqL.of m,λ q i=>p _ _ (v6 i) (sr hd i (l.cut b c))⟩
 ·cases h1
def sH:SlR X (λ x a b H Q=>rSlL X.K x a b H Q):=AL
def me(h:PE X b (dE X.D δ (.ok (.int i) cl))):PO X (some b) (λ d H Q=>∃O W,RSt X.D H d δ O W/\∀c,Same H c->Q (some i) c):=λ a s d H Q I ⟨O,W,R,p⟩=>
 Az h a s d H Q I ⟨O,W,R,λ v c s1 g=>⟨i,g.int MX,p c s1⟩⟩
def DR(j:∀q,ra=some q->PE X a MR)(i:∀q,rb=some q->PE X b MR)(h:(Re.thn ra λ x g=>Re.thn rb λ l _=>match l with
  | .int l=>(slD x (some l) none).map λ d=>.ok d (slCl x g) | _=>none)=some re):PE X (.Subscript a (.Slice (some b) none none p2) pos) (dE X.D δ re):=by
 cases e:ra with
 | none=>rw[e]at h;cases h
 | some q=>
  rw[e]at h;have A:=j q e;cases q with
  | ok n g=>
   cases c:rb with
   | none=>rw[c]at h;cases h
   | some q=>
    rw[c]at h;have B:=i q c;cases q with
    | ok m cy=>
     have f:(match(generalizing:=false) m with | .int l=>(slD n _ none).map λ d=>Re.ok d _ | _=>none)=some re:=h;split at f
     ·rename_i l;exact(qm sH A (me B) Ay).weak λ σ H Q ⟨O,W,R,p⟩=>⟨O,W,R,λ x H1 s1 k=>⟨O,W,R.mono s1,λ H2 s2=>sG f ((MX).mono s2) (k.mono s2) (p.step (s1.trans s2))⟩⟩
     ·cases f
def DS(v:∀q,ra=some q->PE X a MR)(s:∀q,rb=some q->PE X b MR)(r:∀q,j=some q->PE X c MR)(h:(Re.thn ra λ x o=>Re.thn rb λ l _=>match l with
  | .int l=>Re.thn j λ u _=>(match u with
   | .int u=>(slD x (some l) (some u)).map λ d=>.ok d (slCl x o) | _=>none) | _=>none)=some re):PE X (.Subscript a (.Slice (some b) (some c) none p2) pos) (dE X.D δ re):=by
 cases g:ra with
 | none=>rw[g]at h;cases h
 | some q=>
  rw[g]at h;have A:=v q g;cases q with
  | ok n o=>
   cases f:rb with
   | none=>rw[f]at h;cases h
   | some q=>
    rw[f]at h;have B:=s q f;cases q with
    | ok z cy=>
     have i:(match(generalizing:=false) z with | .int l=>Re.thn j λ u _=>(match u with | .int u=>(slD n (some l) (some u)).map λ d=>Re.ok d _ | _=>none) | _=>none)=some re:=h;split at i
     ·rename_i l;cases e:j with
      | none=>rw[e]at i;cases i
      | some q=>
       rw[e]at i;have C:=r q e;cases q with
       | ok y cz=>
        have m:(match(generalizing:=false) y with | .int u=>(slD n (some l) (some u)).map λ d=>Re.ok d (slCl n o) | _=>none)=some re:=i;split at m
        ·rename_i u;exact(qm sH A (me B) (me C)).weak λ σ H Q ⟨O,W,R,p⟩=>⟨O,W,R,λ x H1 s1 w=>⟨O,W,R.mono s1,λ H2 s2=>⟨O,W,(R.mono s1).mono s2,λ H3 k=>sG m (((MX).mono s2).mono k) ((w.mono s2).mono k) (p.step (s1.trans (s2.trans k)))⟩⟩⟩
        ·cases m
     ·cases i
end
section
variable {κ:Type} [DecidableEq κ]
noncomputable def valV(kvs:on (κ×V))(k:κ):Mn V:=(kvs.find? λ kv=>decide (kv.1=k)).map (·.2)
noncomputable def putK(kvs:on (κ×V))(k:κ)(v:V):on (κ×V):=
 if(kvs.any λ kv=>decide (kv.1=k))=true then kvs.map (λ kv=>if kv.1=k then(kv.1,v)else kv)else kvs++[(k,v)]
def gx{k:κ}(e:p.1=k):valV (p::r) k=some p.2:=by simp[valV,Y1,e]
def gy{k:κ}(e:¬p.1=k):valV (p::r) k=valV r k:=by simp[valV,Y1,e]
theorem sI(k:κ):∀a:on (κ×V),(a.any λ b=>decide (b.1=k))=(valV a k).isSome
 | []=>rfl
 | p::r=>by
  rw[G6];by_cases e:p.1=k
  ·simp only[gx e,o6 e,jZ,Option.isSome_some]
  ·rw[gy e,o5 e,Bool.false_or];exact sI k r
def sJ(a:on (κ×V))(k:κ)(v:V):(putK a k v).length<=a.length+1:=by
 unfold putK;split
 ·rw[d9];omega
 ·rw[p7,l4,cj];omega
def RelO.isSome_eq(r:RelO o u):o.isSome=u.isSome:=by
 cases o with
 | none=>cases u with
  | none=>rfl
  | some _=>exact(r).elim
 | some _=>cases u with
  | none=>exact(r).elim
  | some _=>rfl
def KV.val(r:KV a vs)(k:κ):RelO (valV a k) (valueAt vs k):=by
 unfold KV at r
 induction r with
 | nil=>exact True.intro
 | @cons p q ps qs h t ih=>
  obtain⟨h1,h2⟩:=h;by_cases e:p.1=k
  ·have c:=h1.symm.trans e;have b:valueAt (q::qs) k=some q.2:=by simp[valueAt,Y1,c]
   rw[gx e,b];exact h2
  ·have c:¬q.1=k:=λ z=>e (h1.trans z);have b:valueAt (q::qs) k=valueAt qs k:=by simp[valueAt,Y1,c]
   rw[gy e,b];exact ih
theorem KV.any(r:KV a vs)(k:κ):(a.any λ b=>decide (b.1=k))=vs.any λ b=>decide (b.1=k):=by
 unfold KV at r
 induction r with
 | nil=>rfl
 | cons h t c=>rw[G6,G6,c,h.1]
def KV.repl(r:KV b vs)(k:κ)(c:RelV y u) :
  KV (b.map λ a=>if a.1=k then(a.1,y)else a) (vs.map λ a=>if a.1=k then(a.1,u)else a):=by
 unfold KV at r ⊢
 induction r with
 | nil=>exact .nil
 | @cons p q ps qs h t ih=>
  rw[t9,t9];refine .cons ?_ ih;obtain⟨h1,h2⟩:=h;by_cases e:p.1=k
  ·rw[d6 e,d6 (h1.symm.trans e)];exact⟨h1,c⟩
  ·rw[e7 e,e7 (λ z=>e (h1.trans z))];exact⟨h1,h2⟩
def KV.put(r:KV a vs)(k:κ)(b:RelV y u):KV (putK a k y) (stored vs k u):=by
 unfold putK stored;rw[r.any k];by_cases e:(vs.any λ c=>decide (c.1=k))=true
 ·rw[d6 e,d6 e];exact r.repl k b
 ·rw[e7 e,e7 e];exact Paired.snoc r ⟨rfl,b⟩
theorem KV.length(r:KV a vs):a.length=vs.length:=fv r
end
def mh(r:RelV (kV k) u):(D1 P w).is k u=true:=by
 cases k with
 | inl i=>obtain⟨t,e⟩:=(r);subst e;exact yV P w i t
 | inr x=>obtain⟨t,e⟩:=(r);subst e;exact yW P w x t
theorem gz:∀{a:on Key} {us:on Mo},Vals (a.map kV) us->ItemsAre (D1 P w) a us
 | [],_,r=>by rw[fy]at r;cases r;exact .nil
 | k::a,_,r=>by
  rw[t9]at r;cases r with
  | cons h t=>exact .cons (mh h) (gz t)
abbrev KT(H:Hp):on (on Key×V)->on (on Key×Mq×Mo)->Prop:=Paired λ p q=>p.1=q.1/\H q.2.1=some (.tup (p.1.map kV))/\RelV p.2 q.2.2
def KT.val(r:KT H a d)(k:on Key):RelO (valV a k) ((atKey d k).map (·.2)):=by
 induction r with
 | nil=>exact True.intro
 | @cons p q ps qs h t ih=>
  obtain⟨h1,_,h2⟩:=h;by_cases e:p.1=k
  ·have c:=h1.symm.trans e;have b:atKey (q::qs) k=some q.2:=by simp[atKey,Y1,c]
   rw[gx e,b];exact h2
  ·have c:¬q.1=k:=λ z=>e (h1.trans z);have b:atKey (q::qs) k=atKey qs k:=by simp[atKey,Y1,c]
   rw[gy e,b];exact ih
def KT.repl(r:KT H a c)(k:on Key)(d:RelV y u) :
  KT H (a.map λ b=>if b.1=k then(b.1,y)else b) (c.map (putAt k u)):=by
 induction r with
 | nil=>exact .nil
 | @cons p q ps qs h t ih=>
  rw[t9,t9];refine .cons ?_ ih;obtain⟨h1,h2,f⟩:=h;unfold putAt;by_cases e:p.1=k
  ·rw[d6 e,d6 (h1.symm.trans e)];exact⟨h1,h2,d⟩
  ·rw[e7 e,e7 (λ z=>e (h1.trans z))];exact⟨h1,h2,f⟩
def KT.put(r:KT H a c)(k:on Key)(f:H b=some (.tup (k.map kV)))(d:RelV y u) :
  KT H (putK a k y) (storedH c k b u):=by
 have e:(a.any λ kv=>decide _)=(atKey c k).isSome:=(by rw[sI,(r.val k).isSome_eq,Option.isSome_map]);unfold putK storedH;rw[e];by_cases q:(atKey c k).isSome=true
 ·rw[d6 q,d6 q];exact r.repl k d
 ·rw[e7 q,e7 q];exact Paired.snoc r ⟨rfl,f,d⟩
def KT.keeps(r:KT H a d)(f:∀b c,H b=some (.tup c)->H' b=some (.tup c)):KT H' a d:=
 Paired.mapP r λ _ _ z=>⟨z.1,f _ _ z.2.1,z.2.2⟩
def mi(ok:HOk P w H h)(e:Rd H a u):t6 P w H h a u:=e.ok ok
def mj(ok:HOk P w H h)(e:Rd H a (.dK b)):b.length<=sizeLine/\(a==sysModules)=false/\∃vs,KV b vs/\h.DictOf (D1 P w) a vs:=
 show t6 P w H h a (.dK b)from mi ok e
def DT(ok:HOk P w H h)(e:H a=some (.dK b)):b.length<=sizeLine/\(a==sysModules)=false/\∃vs,KV b vs/\h.DictOf (D1 P w) a vs:=mj ok (.inl e)
def ml(ok:HOk P w H h)(e:H a=some (.tup (c.map kV))):(tupleKind (D1 P w)).is h c a:=by
 obtain⟨_,b,r,o,h1,h2,n,d⟩:=(show t6 P w H h a (.tup _)from ok a _ e);exact⟨o,b.toArray,n,h1,h2.1,d,by simpa using gz r⟩
def dG(ok:HOk P w H h)(e:Rd H a (.dT b)):b.length<=sizeLine/\(a==sysModules)=false /\
  ∃d,KT H b d/\h.DictOfH (tupleKind (D1 P w)) a d:=by
 obtain⟨z,y,d,r,o,j,k,h1,h2,i,g,f⟩:=(show t6 P w H h a (.dT b)from mi ok e);refine⟨z,y,d,r,o,j,k,h1,h2,i,g,λ x c=>?_,f⟩;have all:∀{l:on _} {m:on _},KT H l m->∀x∈m,(tupleKind (D1 P w)).is h x.1 x.2.1:=by
  intro l m q
  induction q with
  | nil=>intro x c;exact nomatch c
  | @cons p q ps qs hq t ih=>
   intro x c;rcases f8.mp c with e | c
   ·subst e;exact ml ok (by rw[←hq.1];exact hq.2.1)
   ·exact ih x c
 exact all r x c
def DU(ok:HOk P w H h)(e:H a=some (.dT b)):b.length<=sizeLine/\(a==sysModules)=false /\
  ∃c,KT H b c/\h.DictOfH (tupleKind (D1 P w)) a c:=dG ok (.inl e)
def DGet(H:Hp)(a:Mq)(y:V)(r:Mn V):Prop:=
 (∃kvs k,Rd H a (.dK kvs)/\y=kV k/\r=valV kvs k)\/∃kvs k b,Rd H a (.dT kvs)/\y=.ref b/\H b=some (.tup (k.map kV))/\r=valV kvs k
def DPut(H:Hp)(a:Mq)(y v:V)(H':Hp):Prop:=
 (∃kvs k,H a=some (.dK kvs)/\y=kV k/\kvs.length<sizeLine/\H'=upd H a (.dK (putK kvs k v))) \/
 ∃kvs k b,H a=some (.dT kvs)/\y=.ref b/\H b=some (.tup (k.map kV))/\kvs.length<sizeLine/\H'=upd H a (.dT (putK kvs k v))
def DPut.t{k:on Key}(e:H a=some (.dT c))(f:H b=some (.tup (k.map kV)))(d:c.length<sizeLine) :
  DPut H a (.ref b) v (upd H a (.dT (putK c k v))):=.inr ⟨c,k,b,e,rfl,f,d,rfl⟩
def Inv.big(I:MN a):sysModules<s.heap.objs.size:=by
 exact Y4 MG ((I.mod.glob.keeps I.bk).lt)
def DW(w:A.units+1<cLine)(I:MN c)(g:DGet H a y (some v))(r:RelV y u)(h:∀f q,Inv X c σ H q->RelV v f->Q f q) :
  wpAny MI A (getItem (.ref a) u) Q E s:=by
 rcases g with⟨i,k,e,n,l⟩ | ⟨i,k,b,e,n,eb,l⟩
 ·subst n;obtain⟨z,hd,vs,d,o⟩:=mj I.hok e;obtain⟨f,j,rw'⟩:=RelO.some_of (by rw[l];exact d.val k);exact wpAny_getItem_of (mh r) o.mapOf j (h f _ (I.tok _) rw')
 ·subst n;cases(r);obtain⟨z,hd,xs,d,o⟩:=dG I.hok e;obtain⟨f,j,rw'⟩:=RelO.some_of (by rw[l];exact d.val k);obtain⟨p,x,m⟩:=o9.mp j;refine wpAny_getItem_heap (jh w) (ml I.hok eb) o x ?_;rw[m];exact h f _ (I.tok _) rw'
def sM(I:MN c)(g:Mut (H a))(hs:Heap.SameBut a s.heap d)(h:∃q,d.get? a=some q)(new:t6 X.prog X.w (upd H a f) d a f) :
  Inv X c σ (upd H a f) {s with heap:=d,toks:=t'}:=
 I.write g NK (λ b q i z=>(hs.2 b i).trans z) h new
def DX(z:b.length<=sizeLine)(hd:(a==sysModules)=false)(c:KV b vs)(f:d.DictOf (D1 P w) a vs) :
  t6 P w H' d a (.dK b):=⟨z,hd,vs,c,f⟩
def DY(N:A.units+1<cLine)(I:MN j)(g:DPut H a y v H')(B:RelV y u)(C:RelV v r)(h:∀x,Inv X j σ H' x->Q () x) :
  wpAny MI A (setItem (.ref a) u r) Q E s:=by
 rcases g with⟨f,k,e,o,l,p⟩ | ⟨f,k,b,e,o,eb,l,p⟩
 ·subst o p;obtain⟨z,hd,L,d,w⟩:=DT I.hok e;have M:L.length<=sizeLine:=by rw[←d.length];exact z
  have n:(putK f k v).length<=sizeLine:=by have:=sJ f k v;omega
  refine wpAny_setItem_pairs (mh B) w λ F i hs=>h _ ?_;have O:∃q,F.get? a=some q:=let ⟨q,_,_,m,_⟩:=i;⟨q,m⟩;exact sM I (by rw[e];exact True.intro) hs O (DX n hd (d.put k C) i)
 ·subst o p;cases(B);obtain⟨z,hd,K,d,w⟩:=DU I.hok e;have M:K.length<=sizeLine:=by rw[←fv d];exact z
  have n:(putK f k v).length<=sizeLine:=by have:=sJ f k v;omega
  refine wpAny_setItem_heap (jh N) (ml I.hok eb) w λ F i hs=>h _ ?_;obtain⟨q,U,W,m,h2,S,R,_,P⟩:=i;refine sM I (by rw[e];exact True.intro) hs ⟨q,m⟩ ⟨n,hd,_,(d.put k eb C).keeps λ c ys J=>?_,q,U,W,m,h2,S,R,P⟩;rw[j8 (yX J e (λ z=>nomatch z))];exact J
def NoSl(i:Ms):Prop:=∀ov iv,subscripted i false ov iv=operate [ov,iv] (getItem ov iv)
def DZ
  (p:typeLookup (.type T) "__getitem__" = pure (some (.builtin n))) (hs:NoSl a)
  (h:wpAny MJ A (eval b env) (λ o g=>wpAny MJ A (eval a env) (λ i c=>c.TypeIs o T/\wpAny MJ A (getItem o i) Q E c) E g) E s) :
  wpAny MJ A (eval (.Subscript b a pos) env) Q E s:=by
 refine Subscript_ (A8 h (λ o g k=>A8 k (λ i c d=>?_) λ _ _ x=>x) λ _ _ x=>x);obtain⟨m,d⟩:=d;unfold subscriptTail;refine d4 ?_;rw[getitemInPython_of_ne m.not_modules];refine d4 (jG m p ?_);have l:wpAny MJ A (subscripted a false o i) (λ r f=>wpAny MJ A (letTemporaryGo b o r >>= λ _=>pure r) Q E f) E c:=by rw[hs o i];exact wpAny_operating (A8 d (λ r f j=>d4 (wpAny_letTemporaryGo (e8 j))) λ _ _ x=>x)
 first
  | exact e8 (d4 l)
  | exact d4 _
  | exact d4 l
def Ea(I:MN c)(g:DGet H a y o):s.TypeIs (.ref a) "dict":=by
 rcases g with⟨d,k,e,_,_⟩ | ⟨d,k,b,e,_,_,_⟩
 ·obtain⟨_,_,vs,_,f⟩:=mj I.hok e;exact f.typeIs
 ·obtain⟨_,_,xs,_,f⟩:=dG I.hok e;exact f.typeIs
noncomputable def Eb(td ty tv:TE):TS:=λ D σ H=>tv σ H λ v H1=>td σ H1 λ x H2=>ty σ H2 λ y H3=>∃a H4,x=.ref a/\DPut H3 a y v H4/\D.nx σ H4
def Ec(z:X.A.units+1<cLine)(A:PE X o k)(B:PE X i f)(hv:PE X b j)(hs:swapsWith b (some (.Subscript o i pos')) pos.line X.env=pure false) :
  PS X (.Assign [.Subscript o i pos'] b pos) (Eb k f j):=by
 intro c s d H D I h;refine wpAny_Assign_Subscript (thn (hv c s d H _ I h) λ r s1 ⟨v,M,J,n,w⟩=>thn (A c s1 d M _ J w) λ u s2 ⟨x,L,F,m,q⟩=>thn (B c s2 d L _ F q) λ iv s3 ⟨y,H3,E,l,a,K,ex,g,p⟩=>?_) hs;subst ex;obtain rfl:u=Value.ref a:=m;exact DY z E g l n λ s4 C=>⟨d,K,C,p⟩
def Ed(h:Mr)(a:sysModules<h.objs.size):t6 P w H (h.push {cls:=.type "dict",data:=.dict #[]}) h.objs.size (.dT []):=
 ⟨u9 _,A6.mpr (NV (n9 a)),[],.nil,_,#[],0,m7 _ rfl,⟨rfl,rfl,rfl⟩,rfl,rfl,jO⟩
def Ee:TE:=λ _ H Q=>∀p,H p=none->Q (.ref p) (upd H p (.dT []))
def Ef:PE X (.Dict [] [] pos) Ee:=λ a s σ H Q I h=>
 wpAny_Dict_empty ⟨.ref s.heap.objs.size,_,I.laid (λ _ _ q=>i5 _ q) (f6 _) (Ed s.heap I.big),rfl,h _ (I.hok.fresh (f6 _))⟩
mutual
noncomputable def toP:DV->PyData
 | .non=>.none | .bl b=>.bool b | .int i=>.int i | .str x=>.str x
 | .tup ds=>.tuple (toPs ds) | .lst ds=>.list (toPs ds)
 | _=>.none
noncomputable def toPs:on DV->on PyData
 | []=>[]
 | d::r=>toP d::toPs r
end
mutual
theorem gA:∀(n m:Nat) (d e:DV),d.plain n=true->e.plain m=true->PyData.eqv (toP d) (toP e)=deq d e
 | n,m,.non,e,_,h=>by cases e<;>first | (cases m<;>simp[DV.plain]at h;done) | (simp only[toP,PyData.eqv,deq])
 | n,m,.bl _,e,_,h=>by cases e<;>first | (cases m<;>simp[DV.plain]at h;done) | (simp only[toP,PyData.eqv,deq])
 | n,m,.int _,e,_,h=>by cases e<;>first | (cases m<;>simp[DV.plain]at h;done) | (simp only[toP,PyData.eqv,deq])
 | n,m,.str x,e,_,h=>by
  cases e with
  | str y=>simp only[toP,PyData.eqv,deq];rfl
  | non=>simp only[toP,PyData.eqv,deq]
  | bl _=>simp only[toP,PyData.eqv,deq]
  | int _=>simp only[toP,PyData.eqv,deq]
  | tup _=>simp only[toP,PyData.eqv,deq]
  | lst _=>simp only[toP,PyData.eqv,deq]
  | dct _ _=>cases m<;>simp[DV.plain]at h
  | fn _=>cases m<;>simp[DV.plain]at h
  | lam _ _=>cases m<;>simp[DV.plain]at h
  | scr _=>cases m<;>simp[DV.plain]at h
 | 0,_,.tup _,_,h,_=>by simp[DV.plain]at h
 | 0,_,.lst _,_,h,_=>by simp[DV.plain]at h
 | n+1,m,.tup ds,e,h,h'=>by
  cases e with
  | tup es=>
   cases m with
   | zero=>simp[DV.plain]at h'
   | succ m=>
    simp only[toP,PyData.eqv,deq];exact mn n m ds es (by simpa[DV.plain]using h) (by simpa[DV.plain]using h')
  | non=>simp only[toP,PyData.eqv,deq]
  | bl _=>simp only[toP,PyData.eqv,deq]
  | int _=>simp only[toP,PyData.eqv,deq]
  | str _=>simp only[toP,PyData.eqv,deq]
  | lst _=>simp only[toP,PyData.eqv,deq]
  | dct _ _=>cases m<;>simp[DV.plain]at h'
  | fn _=>cases m<;>simp[DV.plain]at h'
  | lam _ _=>cases m<;>simp[DV.plain]at h'
  | scr _=>cases m<;>simp[DV.plain]at h'
 | n+1,m,.lst ds,e,h,h'=>by
  cases e with
  | lst es=>
   cases m with
   | zero=>simp[DV.plain]at h'
   | succ m=>
    simp only[toP,PyData.eqv,deq];exact mn n m ds es (by simpa[DV.plain]using h) (by simpa[DV.plain]using h')
  | non=>simp only[toP,PyData.eqv,deq]
  | bl _=>simp only[toP,PyData.eqv,deq]
  | int _=>simp only[toP,PyData.eqv,deq]
  | str _=>simp only[toP,PyData.eqv,deq]
  | tup _=>simp only[toP,PyData.eqv,deq]
  | dct _ _=>cases m<;>simp[DV.plain]at h'
  | fn _=>cases m<;>simp[DV.plain]at h'
  | lam _ _=>cases m<;>simp[DV.plain]at h'
  | scr _=>cases m<;>simp[DV.plain]at h'
 | n,_,.dct _ _,_,h,_=>by cases n<;>simp[DV.plain]at h
 | n,_,.fn _,_,h,_=>by cases n<;>simp[DV.plain]at h
 | n,_,.lam _ _,_,h,_=>by cases n<;>simp[DV.plain]at h
 | n,_,.scr _,_,h,_=>by cases n<;>simp[DV.plain]at h
theorem mn:∀(n m:Nat) (ds es:on DV),DV.plains n ds=true->DV.plains m es=true->PyData.eqvAll (toPs ds) (toPs es)=deqs ds es
 | _,_,[],[],_,_=>by simp only[toPs,PyData.eqvAll,deqs]
 | _,_,[],_::_,_,_=>by simp only[toPs,PyData.eqvAll,deqs]
 | _,_,_::_,[],_,_=>by simp only[toPs,PyData.eqvAll,deqs]
 | n,m,d::ds,e::es,h,h'=>by simp only[DV.plains,d8]at h h';simp only[toPs,PyData.eqvAll,deqs,gA n m d e h.1 h'.1,mn n m ds es h.2 h'.2]
end
mutual
theorem gB:∀(n:Nat) (d:DV),d.plain n=true->(toP d).canLay0=true/\(toP d).depth<=n
 | n,.non,_=>by simp[toP,PyData.canLay0,PyData.depth]
 | n,.bl _,_=>by simp[toP,PyData.canLay0,PyData.depth]
 | n,.int _,_=>by simp[toP,PyData.canLay0,PyData.depth]
 | n,.str x,h=>by
  have h':(x.cps.all (· < 0x110000))=true:=by cases n<;>simpa[DV.plain]using h
  simp only[toP,PyData.canLay0,PyData.depth];exact⟨h',u9 _⟩
 | 0,.tup _,h=>by simp[DV.plain]at h
 | 0,.lst _,h=>by simp[DV.plain]at h
 | n+1,.tup ds,h=>by have q:=dH n ds (by simpa[DV.plain]using h);simp only[toP,PyData.canLay0,PyData.depth,q.1,true_and];have:=q.2;omega
 | n+1,.lst ds,h=>by have q:=dH n ds (by simpa[DV.plain]using h);simp only[toP,PyData.canLay0,PyData.depth,q.1,true_and];have:=q.2;omega
 | n,.dct _ _,h=>by cases n<;>simp[DV.plain]at h
 | n,.fn _,h=>by cases n<;>simp[DV.plain]at h
 | n,.lam _ _,h=>by cases n<;>simp[DV.plain]at h
 | n,.scr _,h=>by cases n<;>simp[DV.plain]at h
theorem dH:∀(n:Nat) (ds:on DV),DV.plains n ds=true->PyData.canLayAll0 (toPs ds)=true/\PyData.depthAll (toPs ds)<=n
 | _,[],_=>by simp[toPs,PyData.canLayAll0,PyData.depthAll]
 | n,d::ds,h=>by simp only[DV.plains,d8]at h;have q:=gB n d h.1;have q':=dH n ds h.2;simp only[toPs,PyData.canLayAll0,PyData.depthAll,q.1,q'.1,jW,true_and];have a:=q.2;have b:=q'.2;omega
end
section
variable {X:Cx} {pins:on (Mq×Obj)} {σ:St} {H:Hp} {s:Mp}
mutual
theorem T0(I:MN pins):∀(n:Nat) {d:DV} {v:V} {u:Mo},d.plain n=true->Rep X.D H d v->RelV v u->∃as,Reads s.heap u (toP d) as
 | _,.non,_,_,_,h,r=>by rw[S9.mp h]at r;cases r;exact⟨_,Reads.none⟩
 | _,.bl b,_,_,_,h,r=>by rw[Z7.mp h]at r;cases r;exact⟨_,Reads.bool b⟩
 | _,.int i,_,_,_,h,r=>by rw[v5.mp h]at r;obtain⟨t,rfl⟩:=r;exact⟨_,Reads.int i t⟩
 | _,.str x,_,_,_,h,r=>by rw[(dz.mp h).1]at r;obtain⟨t,rfl⟩:=r;exact⟨_,Reads.str x t⟩
 | 0,.tup _,_,_,p,_,_=>by simp[DV.plain]at p
 | 0,.lst _,_,_,p,_,_=>by simp[DV.plain]at p
 | n+1,.tup ds,_,_,p,h,r=>by obtain⟨a,xs,e1,e2,e3⟩:=B5.mp h;rw[e1]at r;cases r;obtain⟨its,rv,⟨o,h1,h2,k,h3⟩,_⟩:=I.tuple e2;obtain⟨as,q⟩:=mr I n (by simpa[DV.plain]using p) e3 rv;rw[toP];exact⟨as,Reads.tuple h1 h2 h3 (Nm q)⟩
 | n+1,.lst ds,_,_,p,h,r=>by obtain⟨a,xs,e1,e2,e3⟩:=G3.mp h;rw[e1]at r;cases r;obtain⟨_,its,k,rv,_,h1⟩:=I.lstM e2;obtain⟨as,q⟩:=mr I n (by simpa[DV.plain]using p) e3 rv;rw[toP];exact⟨_,Reads.list h1 rfl rfl (Nm q)⟩
 | n,.dct _ _,_,_,h,_,_=>by cases n<;>simp[DV.plain]at h
 | n,.fn _,_,_,h,_,_=>by cases n<;>simp[DV.plain]at h
 | n,.lam _ _,_,_,h,_,_=>by cases n<;>simp[DV.plain]at h
 | n,.scr _,_,_,h,_,_=>by cases n<;>simp[DV.plain]at h
theorem mr(I:MN pins):∀(n:Nat) {ds:on DV} {vs:on V} {us:on Mo},DV.plains n ds=true->RepL X.D H ds vs->Vals vs us->∃as,ReadsAll s.heap us (toPs ds) as
 | _,[],_,_,_,h,r=>by rw[y9.mp h]at r;cases r;exact⟨_,ReadsAll.nil⟩
 | n,d::ds,_,_,p,h,r=>by
  simp only[DV.plains,d8]at p;obtain⟨v,vs,e1,e2,e3⟩:=r6.mp h;subst e1;cases r with
  | cons r1 r2=>
   obtain⟨as,q⟩:=T0 I n p.1 e2 r1;obtain⟨bs,q'⟩:=mr I n p.2 e3 r2;rw[toPs];exact⟨_,ReadsAll.cons q q'⟩
end
def gC(h:d.plain 60=true):SeqAt.shaped (toP d)=true:=by
 have q:=gB 60 d h;unfold SeqAt.shaped;rw[q.1,Q6];exact o6 (e9 q.2 MG)
end
section
variable {X:Cx} {δ:on Sv} {a b c e:Ms} {pos:Pos} {ra rb rc:Mn Re} {re:Re}
def cmpR(X:Cx)(op:CmpOp):R2:=λ x y H Q=>∃dx dy k,cmpD op dx dy=some k/\Rep X.D H dx x/\Rep X.D H dy y/\Q (.bl k) H
def sN(r:Rep D H d v):decide (v=.non)=isN d:=by
 cases d with
 | non=>rw[S9.mp r];rfl
 | bl _=>rw[Z7.mp r];rfl
 | int _=>rw[v5.mp r];rfl
 | str _=>rw[(dz.mp r).1];rfl
 | tup _=>obtain⟨a,c,e,_⟩:=B5.mp r;rw[e];rfl
 | lst _=>obtain⟨a,c,e,_⟩:=G3.mp r;rw[e];rfl
 | fn _=>obtain⟨a,e,_⟩:=gq.mp r;rw[e];rfl
 | lam _ _=>obtain⟨a,_,_,_,_,_,_,_,e,_⟩:=aW.mp r;rw[e];rfl
 | scr _=>obtain⟨a,e,_⟩:=Z8.mp r;rw[e];rfl
 | dct _ _=>rcases aX.mp r with⟨a,o,b,e,_⟩ | ⟨a,o,b,e,_⟩<;>rw[e]<;>rfl
def bc(z:X.A.units+64<cLine):OpR X (compareOp op) (cmpR X op):=by
 intro b s f H x y v u Q I d c h;obtain⟨dx,dy,k,a,r1,g,q⟩:=h;have i:∀{o:Bool},o=k->EP X b f Q _ s:=λ {o} e=>⟨.bl o,H,I,rfl,by rw[e];exact q⟩
 unfold cmpD at a;cases op
 case Lt | LtE | Gt | GtE=>
  dsimp only at a
  replace a:=G4.mp a
  obtain⟨x1,w,a⟩:=a
  replace a:=G4.mp a
  obtain⟨x2,r,a⟩:=a;have w:=O9 w;have r:=O9 r;subst w r;cases a;have l:=v5.mp r1;have j:=v5.mp g
  first | exact Ae b s f H x y v u Q I d c ⟨_,_,l,j,q⟩ | exact Af b s f H x y v u Q I d c ⟨_,_,l,j,q⟩ | exact Ag b s f H x y v u Q I d c ⟨_,_,l,j,q⟩ | exact Ah b s f H x y v u Q I d c ⟨_,_,l,j,q⟩
 case Eq=>
  dsimp only at a;split at a
  ·rename_i p;rw[d8]at p;cases a;obtain⟨A,n⟩:=T0 I 60 p.1 r1 d;obtain⟨bs,m⟩:=T0 I 60 p.2 g c;exact eq_dataH n m (gC p.1) (gC p.2) z (i (gA 60 60 _ _ p.1 p.2))
  ·cases a
 case NotEq=>
  dsimp only at a;split at a
  ·rename_i p;rw[d8]at p;cases a;obtain⟨A,n⟩:=T0 I 60 p.1 r1 d;obtain⟨bs,m⟩:=T0 I 60 p.2 g c;exact ne_dataH n m (gC p.1) (gC p.2) z (i (by rw[gA 60 60 _ _ p.1 p.2]))
  ·cases a
 case Is=>
  dsimp only at a;split at a
  ·cases a;exact Ai b s f H x y v u Q I d c ⟨S9.mp g,by rw[sN r1];exact q⟩
  ·cases a
 case IsNot=>
  dsimp only at a;split at a
  ·cases a;exact Aj b s f H x y v u Q I d c ⟨S9.mp g,by rw[sN r1];exact q⟩
  ·cases a
 all_goals (cases a)
def mt(h:D7 b=false):behindInMarks op b=false:=by
 cases b<;>first | rfl | cases h
def Eg(d:X.A.units+64<cLine)(g:∀q,ra=some q->PE X a MR)(f:∀q,rb=some q->PE X b MR)(e:D7 b=false)
  (h:NM=some re):PE X (.Compare a [op] [b] pos) (dE X.D δ re):=
 md (λ _ _ j i=>qa (bc d) j i (mt e)) g f h λ O W H0 H x y Q s cx r cy σ k hd m l p=>by obtain⟨c,o,n⟩:=o9.mp k;cases n;exact⟨s,r,c,o,m.all hd,l.all hd,p _ H Nu O8⟩
def Eh(g:∀q,ra=some q->PE X a MR)(f:∀q,rb=some q->PE X b MR)
  (h:NM=some re):∃d c,PE X a d/\PE X b c/\∀σ H Q,dE X.D δ re σ H Q->tOp (cmpR X op) d c σ H Q:=
 sB g f h λ O W H0 H x y Q o cx n cy σ k hd j i p=>by obtain⟨e,m,l⟩:=o9.mp k;cases l;exact⟨o,n,e,m,j.all hd,i.all hd,p _ H Nu O8⟩
def mu(b:∀d c,re=.ok d c->∃k,d=.bl k)(h:tstD (some re)=some r)(q:dT X.D δ r σ H Q):dE X.D δ re σ H (λ x a=>∃k,x=.bl k/\Q k a):=by
 obtain⟨O,W,R,p⟩:=q;cases re with
 | ok d c=>
  obtain⟨k,rfl⟩:=b d c rfl;cases h;exact⟨O,W,R,λ v a s g=>⟨k,g.bl (R.hid.mono s),p a s⟩⟩
def Ei(h:NM=some re):∀d c,re=.ok d c->∃k,d=.bl k:=by
 intro d c e;subst e;cases ra with
 | none=>cases h
 | some q=>
  cases q with
  | ok d c=>
   cases rb with
   | none=>cases h
   | some q=>
    cases q with
    | ok d' c'=>
     obtain⟨k,_,e⟩:=o9.mp (h);cases e;exact⟨k,rfl⟩
def Ej(d:X.A.units+64<cLine)(g:∀q,ra=some q->PE X a MR)(f:∀q,rb=some q->PE X b MR)(e:D7 b=false)
  (h:tstD NM=some r):PT X (.Compare a [op] [b] pos) (dT X.D δ r):=by
 cases q:(Re.thn ra λ x _=>Re.thn rb λ y _=>(cmpD op x y).map λ k=>Re.ok _ .strong)with
 | none=>rw[q]at h;cases h
 | some re=>
  rw[q]at h;obtain⟨ta,tb,A,B,w⟩:=Eh g f q;exact(qc (bc d) A B (mt e)).weak λ c H Q z=>w c H _ (mu (Ei q) h z)
def sO{a:CmpOp}(h:D7 c=false):lastMarks [op,a] [b,c]=false:=by
 show behindInMarks a c=false;exact mt h
def sP{e:CmpOp}(I:∀q,ra=some q->PE X a MR)(F:∀q,rb=some q->PE X b MR)(E:∀q,rc=some q->PE X c MR)
  (h:(Re.thn ra λ x _=>Re.thn rb λ y _=>match cmpD op x y with
   | none=>none
   | some false=>some (MV (.bl false))
   | some true=>Re.thn rc λ z _=>(cmpD e y z).map λ k=>.ok (.bl k) .strong)=some re):∃w v u,PE X a w/\PE X b v/\PE X c u/\(∀σ H Q,dE X.D δ re σ H Q->kx (cmpR X op) (cmpR X e) w v u σ H Q)/\∀d cl,re=.ok d cl->∃k,d=.bl k:=by
 cases i:ra with
 | none=>rw[i]at h;cases h
 | some q=>
  rw[i]at h;have A:=I q i;cases q with
  | ok s cx=>
   cases g:rb with
   | none=>rw[g]at h;cases h
   | some q=>
    rw[g]at h;have B:=F q g;cases q with
    | ok l cy=>
     have j:(match(generalizing:=false) cmpD op s l with
      | none=>none
      | some false=>some (Re.ok (.bl false) .strong)
      | some true=>Re.thn rc λ z _=>(cmpD e l z).map λ k=>.ok (.bl k) .strong)=some re:=h
     split at j
     ·cases j
     ·rename_i r;cases j;exact⟨_,_,_,A,B,dF,λ σ H Q ⟨O,W,R,p⟩=>⟨O,W,R,λ x P s1 o=>⟨O,W,R.mono s1,λ y N s2 n=>
       ⟨s,l,false,r,(o.mono s2).all ((MX).mono s2),n.all ((R.mono s1).hid.mono s2),false,rfl,by rw[e7 w9];exact p _ _ (s1.trans s2) O8⟩⟩⟩,λ d cl z=>by cases z;exact Nb⟩
     ·rename_i r;cases f:rc with
      | none=>rw[f]at j;cases j
      | some q=>
       rw[f]at j;have C:=E q f;cases q with
       | ok M cz=>
        obtain⟨k,L,K⟩:=o9.mp (j);cases K;exact⟨_,_,_,A,B,C,λ σ H Q ⟨O,W,R,p⟩=>⟨O,W,R,λ x P s1 o=>⟨O,W,R.mono s1,λ y N s2 n=>
         ⟨s,l,true,r,(o.mono s2).all ((MX).mono s2),n.all ((R.mono s1).hid.mono s2),true,rfl,by
          rw[d6 rfl];exact⟨O,W,(R.mono s1).mono s2,λ z H3 m J=>⟨l,M,k,L,(n.mono m).all (((R.mono s1).hid.mono s2).mono m),J.all (((R.mono s1).mono s2).hid.mono m),p _ _ (s1.trans (s2.trans m)) O8⟩⟩⟩⟩⟩,λ d cl z=>by cases z;exact Nb⟩
def Ek(e:X.A.units+64<cLine)(j:∀q,ra=some q->PE X a MR)(i:∀q,rb=some q->PE X b MR)(g:∀q,rc=some q->PE X c MR)(f:D7 c=false)
  (h:(Re.thn ra λ x _=>Re.thn rb λ y _=>match cmpD op x y with
   | none=>none
   | some false=>some (MV (.bl false))
   | some true=>Re.thn rc λ z _=>(cmpD d y z).map λ k=>.ok (.bl k) .strong)=some re):PE X (.Compare a [op,d] [b,c] pos) (dE X.D δ re):=by
 obtain⟨ta,tb,tc,A,B,C,w,_⟩:=sP j i g h;exact(Ak (bc e) (bc e) A B C (sO f)).weak w
def El(f:X.A.units+64<cLine)(m:∀q,ra=some q->PE X a MR)(l:∀q,rb=some q->PE X b MR)(j:∀q,rc=some q->PE X c MR)(i:D7 c=false)
  (h:tstD (Re.thn ra λ x _=>Re.thn rb λ y _=>match cmpD op x y with
   | none=>none
   | some false=>some (MV (.bl false))
   | some true=>Re.thn rc λ z _=>(cmpD d y z).map λ k=>.ok (.bl k) .strong)=some r):PT X (.Compare a [op,d] [b,c] pos) (dT X.D δ r):=by
 cases q:(Re.thn ra λ x _=>Re.thn rb λ y _=>match cmpD op x y with
   | none=>none
   | some false=>some _
   | some true=>Re.thn rc λ z _=>(cmpD d y z).map λ k=>.ok _ .strong)with
 | none=>rw[q]at h;cases h
 | some re=>
  rw[q]at h;obtain⟨ta,tb,tc,A,B,C,w,e⟩:=sP m l j q;exact(Al (bc f) (bc f) A B C (sO i)).weak λ g H Q z=>w g H _ (mu e h z)
end
def be(h:G0 d=some k)(r:Rep D H d v):TruV D.K v H k:=by
 cases d with
 | non=>cases h;rw[S9.mp r];rfl
 | bl b=>cases h;rw[Z7.mp r];rfl
 | int i=>cases h;rw[v5.mp r];rfl
 | str x=>
  cases h;obtain⟨f,e⟩:=dz.mp r;rw[f];refine⟨e,?_⟩;show(x.cps.size != 0)=(((x.cps.size:Nat):Int) != 0);cases x.cps.size with
  | zero=>rfl
  | succ n=>simp only[bne,Nat.add_eq_zero_iff];rw[M2];simp;omega
 | tup j=>
  cases h;obtain⟨a,c,f,e,g⟩:=B5.mp r;rw[f];refine .inr (.inl ⟨c,e,?_⟩);have:=g.length;cases c<;>cases j<;>first | rfl | cases this
 | lst j=>
  cases h;obtain⟨a,c,f,e,g⟩:=G3.mp r;rw[f];refine .inl ⟨c,SqL.of e,?_⟩;have:=g.length;cases c<;>cases j<;>first | rfl | cases this
 | dct _ _=>cases h
 | fn _=>cases h
 | lam _ _=>cases h
 | scr _=>cases h
def Em(g:∀q,c=some q->PE X e MR)(f:∀a,isTrue e X.env a=(do let v ←a;standAt e.pos;holding [v] (truthy v)))(h:tstD c=some r):PT X e (dT X.D δ r):=by
 cases b:c with
 | none=>rw[b]at h;cases h
 | some q=>
  rw[b]at h;have A:=g q b;cases q with
  | ok d cl=>
   obtain⟨k,l,j⟩:=o9.mp (h);cases j;exact(An A f).weak λ σ H Q ⟨O,W,R,p⟩=>⟨O,W,R,λ x m s1 i=>⟨k,be l (i.all MX),p m s1⟩⟩
def En(j:PE X a f):PE X (.UnaryOp .Not a pos) (tUn (λ x H Q=>∃k,TruV X.K x H k/\Q (.bl (!k)) H) f):=by
 intro c s e H Q I h;refine UnaryOp_ (thn (j c s e H _ I h) λ v s1 t0=>?_);obtain⟨x,g,o,i,d⟩:=t0;obtain⟨k,t,d⟩:=d;exact not_of (thn (fJ c s1 e g x v (λ b q=>b=k/\q=g) o i ⟨k,t,rfl,rfl⟩) λ b s2 ⟨p,n,m,l⟩=>by
  subst m l;exact⟨.bl (!b),p,n,rfl,d⟩)
def Eo(e:∀q,d=some q->PE X a MR)(h:(Re.thn d λ x _=>(G0 x).map λ k=>.ok (.bl (!k)) .strong)=some c):PE X (.UnaryOp .Not a pos) (dE X.D δ c):=
 sA (λ _=>En) e h λ O W H0 H x Q dx cx σ k hd f p=>by obtain⟨b,i,g⟩:=o9.mp k;cases g;exact⟨b,be i (f.all hd),p _ H Nu O8⟩
def sQ(q:PE X a j)(p:PE X (.BoolOp .And (b::es) pos) i):PE X (.BoolOp .And (a::b::es) pos) (λ e H Q=>j e H λ x f=>∃k,TruV X.K x f k/\if k=true then i e f Q else Q x f):=by
 intro d s e H Q I h;refine BoolOp_and (thn (q d s e H _ I h) λ v s1 t0=>?_);obtain⟨x,f,w,l,g⟩:=t0;obtain⟨k,t,g⟩:=g;refine thn (fJ d s1 e f x v (λ b y=>b=k/\y=f) w l ⟨k,t,rfl,rfl⟩) λ c o t0=>?_;obtain⟨n,m,u,r⟩:=t0
 subst u r;cases c with
 | true=>exact p d o e n Q m g
 | false=>exact⟨x,n,m,l,g⟩
def sR(p:PE X a i)(o:PE X (.BoolOp .Or (b::es) pos) tb):PE X (.BoolOp .Or (a::b::es) pos) (λ e H Q=>i e H λ x f=>∃k,TruV X.K x f k/\if k=true then Q x f else tb e f Q):=by
 intro d s e H Q I h;refine BoolOp_or (thn (p d s e H _ I h) λ v s1 t0=>?_);obtain⟨x,f,u,j,g⟩:=t0;obtain⟨k,t,g⟩:=g;refine thn (fJ d s1 e f x v (λ b w=>b=k/\w=f) u j ⟨k,t,rfl,rfl⟩) λ c n t0=>?_;obtain⟨m,l,r,q⟩:=t0
 subst r q;cases c with
 | false=>exact o d n e m Q l g
 | true=>exact⟨x,m,l,j,g⟩
def Ep(o:∀q,k=some q->PE X a MR)(n:∀q,j=some q->PE X (.BoolOp .And (b::es) pos) MR)(h:(Re.thn k λ x c=>andD x c j)=some g):PE X (.BoolOp .And (a::b::es) pos) (dE X.D δ g):=by
 cases e:k with
 | none=>rw[e]at h;cases h
 | some q=>
  rw[e]at h;have A:=o q e;cases q with
  | ok d cl=>
   have f:andD d cl j=some g:=h;unfold andD at f;split at f
   ·cases f
   ·rename_i t;exact(sQ A (n g f)).weak λ m H Q ⟨O,W,R,p⟩=>⟨O,W,R,λ x l s1 i=>⟨true,be t (i.all MX),iteT ⟨O,W,R.mono s1,p.later s1 s1⟩⟩⟩
   ·rename_i t;cases f;exact(sQ A dF).weak λ m H Q ⟨O,W,R,p⟩=>⟨O,W,R,λ x l s1 i=>⟨false,be t (i.all MX),iteF (p _ l s1 i)⟩⟩
def Er(o:∀q,k=some q->PE X a MR)(n:∀q,j=some q->PE X (.BoolOp .Or (b::es) pos) MR)(h:(Re.thn k λ x c=>orD x c j)=some g):PE X (.BoolOp .Or (a::b::es) pos) (dE X.D δ g):=by
 cases e:k with
 | none=>rw[e]at h;cases h
 | some q=>
  rw[e]at h;have A:=o q e;cases q with
  | ok d cl=>
   have f:orD d cl j=some g:=h;unfold orD at f;split at f
   ·cases f
   ·rename_i t;cases f;exact(sR A dF).weak λ m H Q ⟨O,W,R,p⟩=>⟨O,W,R,λ x l s1 i=>⟨true,be t (i.all MX),iteT (p _ l s1 i)⟩⟩
   ·rename_i t;exact(sR A (n g f)).weak λ m H Q ⟨O,W,R,p⟩=>⟨O,W,R,λ x l s1 i=>⟨false,be t (i.all MX),iteF ⟨O,W,R.mono s1,p.later s1 s1⟩⟩⟩
def mv(h:tstD (Re.thn b k)=some r):∃d c,b=some (.ok d c)/\tstD (k d c)=some r:=by
 cases a:b with
 | none=>rw[a]at h;cases h
 | some q=>
  rw[a]at h;cases q with
  | ok d c=>exact⟨d,c,rfl,h⟩
def sU(h:tstD (some (.ok d c))=some r):∃k,G0 d=some k/\r=.ok k:=by
 obtain⟨k,b,a⟩:=o9.mp (h);exact⟨k,b,a.symm⟩
def Es(f:∀q,tstD e=some q->PT X a (dT X.D δ q))(h:tstD (Re.thn e λ x _=>(G0 x).map λ k=>.ok (.bl (!k)) .strong)=some r):PT X (.UnaryOp .Not a pos) (dT X.D δ r):=by
 obtain⟨d,c,g,b⟩:=mv h
 ·cases t:G0 d with
  | none=>rw[t]at b;cases b
  | some k=>
   rw[t]at b;cases b;have A:=f _ (by rw[g];show(G0 d).map Rt.ok=_;rw[t];rfl);exact(zk A).weak λ σ H Q ⟨O,W,R,p⟩=>⟨O,W,R,λ i s1=>p i s1⟩
def Et(n:∀q,tstD i=some q->PT X a (dT X.D δ q))(m:∀q,tstD g=some q->PW X (.BoolOp .And (b::es) pos) (dT X.D δ q))(h:tstD (Re.thn i λ x c=>andD x c g)=some r):PW X (.BoolOp .And (a::b::es) pos) (dT X.D δ r):=by
 obtain⟨d,c,o,e⟩:=mv h
 ·unfold andD at e;cases t:G0 d with
  | none=>rw[t]at e;cases e
  | some k=>
   rw[t]at e;have A:=n _ (by rw[o];show(G0 d).map Rt.ok=_;rw[t];rfl);cases k with
   | true=>exact(pL A (m r e)).weak λ l H Q ⟨O,W,R,p⟩=>⟨O,W,R,λ j s1=>iteT ⟨O,W,R.mono s1,p.later s1⟩⟩
   | false=>
    obtain⟨k,f,rfl⟩:=sU e;rw[t]at f;cases f;exact(pL A sw).weak λ l H Q ⟨O,W,R,p⟩=>⟨O,W,R,λ j s1=>iteF (p j s1)⟩
def Eu(n:∀q,tstD i=some q->PT X a (dT X.D δ q))(m:∀q,tstD g=some q->PW X (.BoolOp .Or (b::es) pos) (dT X.D δ q))(h:tstD (Re.thn i λ x c=>orD x c g)=some r):PW X (.BoolOp .Or (a::b::es) pos) (dT X.D δ r):=by
 obtain⟨d,c,o,e⟩:=mv h
 ·unfold orD at e;cases t:G0 d with
  | none=>rw[t]at e;cases e
  | some k=>
   rw[t]at e;have A:=n _ (by rw[o];show(G0 d).map Rt.ok=_;rw[t];rfl);cases k with
   | false=>exact(pM A (m r e)).weak λ l H Q ⟨O,W,R,p⟩=>⟨O,W,R,λ j s1=>iteF ⟨O,W,R.mono s1,p.later s1⟩⟩
   | true=>
    obtain⟨k,f,rfl⟩:=sU e;rw[t]at f;cases f;exact(pM A sw).weak λ l H Q ⟨O,W,R,p⟩=>⟨O,W,R,λ j s1=>iteT (p j s1)⟩
def sV(l:PT X c g)(n:PT X a t)(m:PT X b u):PT X (.IfExp c a b pos) (λ e H Q=>g e H λ k f=>if k=true then t e f Q else u e f Q):=by
 intro d s e H Q I h;refine isTrue_IfExp (thn (l d s e H _ I h) λ k s1 t0=>?_);obtain⟨f,j,i⟩:=t0;cases k with
 | true=>exact n d s1 e f Q j i
 | false=>exact m d s1 e f Q j i
def Ev(i:∀q,e=some q->PT X c (dT X.D δ q))(l:∀q,tstD f=some q->PT X a (dT X.D δ q))(j:∀q,tstD rb=some q->PT X b (dT X.D δ q))(h:tstD (Rt.thn e λ k=>if k then f else rb)=some r):PT X (.IfExp c a b pos) (dT X.D δ r):=by
 cases d:e with
 | none=>rw[d]at h;cases h
 | some q=>
  rw[d]at h;have C:=i q d;cases q with
  | ok k=>
   cases k with
   | true=>exact(sV C (l r h) sx).weak λ g H Q ⟨O,W,R,p⟩=>⟨O,W,R,λ m s1=>iteT ⟨O,W,R.mono s1,p.later s1⟩⟩
   | false=>exact(sV C sx (j r h)).weak λ g H Q ⟨O,W,R,p⟩=>⟨O,W,R,λ m s1=>iteF ⟨O,W,R.mono s1,p.later s1⟩⟩
def Ew(l:∀q,f=some q->PT X c (dT X.D δ q))(n:∀q,rb=some q->PE X a MR)(m:∀q,i=some q->PE X b MR)
  (h:(Rt.thn f λ k=>if k then rb else i)=some e):PE X (.IfExp c a b pos) (dE X.D δ e):=by
 cases d:f with
 | none=>rw[d]at h;cases h
 | some q=>
  rw[d]at h;have C:=l q d;cases q with
  | ok k=>
   cases k with
   | true=>
    have g:=h;exact(pO C (n e g) dF).weak λ j H Q ⟨O,W,R,p⟩=>⟨O,W,R,λ o s1=>iteT ⟨O,W,R.mono s1,p.later s1 s1⟩⟩
   | false=>
    have g:=h;exact(pO C dF (m e g)).weak λ j H Q ⟨O,W,R,p⟩=>⟨O,W,R,λ o s1=>iteF ⟨O,W,R.mono s1,p.later s1 s1⟩⟩
def p9(h:l9 e=false):starEach (e::es) env=(false,eval e env)::starEach es env:=by
 cases e<;>first | rfl | cases h
def Ex:PA X [] (dA X.D δ (.ok [])):=O4.weak λ σ H Q ⟨O,W,R,p⟩=>p [] H Nu .nil
def Ey(i:l9 e=false)(k:∀q,g=some q->PE X e MR)(j:∀q,f=some q->PA X es (dA X.D δ q))
  (h:(match(generalizing:=false) g with | none=>none | some (.ok d c)=>(match(generalizing:=false) f with | none=>none | some (.ok l)=>some (.ok ((d,c)::l))))=some q):PA X (e::es) (dA X.D δ q):=by
 cases b:g with
 | none=>rw[b]at h;cases h
 | some z=>
  rw[b]at h;have A:=k z b;cases z with
  | ok d cl=>
   cases a:f with
   | none=>rw[a]at h;cases h
   | some y=>
    rw[a]at h;have B:=j y a;cases y with
    | ok l=>
     cases h;exact(F9 A B (p9 i)).weak λ σ H Q ⟨O,W,R,p⟩=>⟨O,W,R,λ x H1 s1 n=>⟨O,W,R.mono s1,λ vs o s2 m=>p _ o (s1.trans s2) (.cons (n.mono s2) (m.since s1))⟩⟩
def Ez(d:∀q,b=some q->PA X es (dA X.D δ q))(h:(Rs.thn b λ l=>if l.length<=l5 then some (.ok (.lst (l.map (·.1))) (if stros l then .fresh else .weak))else none)=some c):PE X (.List es pos) (dE X.D δ c):=
 ba (λ _=>Aq) d h λ O W H0 H vs Q l σ k hd g p=>by
  split at k
  ·rename_i m;cases k;refine⟨by rw[g.length];exact aZ m,λ q a=>p _ _ (v6 a) ?_⟩;by_cases z:stros l=true
   ·rw[d6 z];exact V8 hd a (g.stros hd z)
   ·rw[e7 z];exact lY hd a (g.repL hd)
  ·cases k
def EA(e:∀q,b=some q->PA X es (dA X.D δ q))(h:(Rs.thn b λ l=>if l.length<=l5 then some (.ok (.tup (l.map (·.1))) (if stros l then .strong else .weak))else none)=some c):PE X (.Tuple es d pos) (dE X.D δ c):=
 ba (λ _=>qe) e h λ O W H0 H vs Q l σ k hd g p=>by
  split at k
  ·rename_i m;cases k;refine⟨by rw[g.length];exact aZ m,λ q a=>p _ _ (v6 a) ?_⟩;by_cases z:stros l=true
   ·rw[d6 z];exact gr hd a (g.stros hd z)
   ·rw[e7 z];exact su hd a (g.repL hd)
  ·cases k
theorem mw:∀a:on DV,toPs a=a.map toP
 | []=>by rw[toPs];rfl
 | d::r=>by rw[toPs,mw r];rfl
theorem mx:∀{a:on DV} {j:Nat},M7 y a=some j->∃h:j<a.length,deq a[j] y=true/\∀m (b:m<a.length),m<j->deq a[m] y=false
 | [],j,h=>by cases h
 | d::r,j,h=>by
  unfold M7 at h;split at h
  ·rename_i e;cases h;exact⟨Nat.succ_pos _,e,λ m _ b=>absurd b (Q4 _)⟩
  ·rename_i e;obtain⟨k,l,rfl⟩:=o9.mp h;obtain⟨f,i,g⟩:=mx l;refine⟨Nat.succ_lt_succ f,i,λ m b c=>?_⟩;cases m with
   | zero=>exact Bool.eq_false_iff.mpr e
   | succ m=>exact g m _ (Nat.lt_of_succ_lt_succ c)
theorem sW:∀{ds:on DV} {m:Nat} (h:m<ds.length),DV.plains n ds=true->(ds[m]).plain n=true
 | d::r,0,_,p=>by simp[DV.plains,d8]at p;exact p.1
 | d::r,m+1,h,p=>by simp[DV.plains,d8]at p;exact sW (ds:=r) _ p.2
section
variable {X:Cx} {pins:on (Mq×Obj)} {σ:St} {H:Hp} {s:Mp} {δ:on Sv} {o e:Ms} {to te:TE} {apos cpos:Pos} {ra rb:Mn Re} {re:Re}
def sX(p:y.plain 60=true)(q:DV.plains 60 ds=true)(h:M7 y ds=some j) :
  ∃h:j<(toPs ds).length,PyData.eqv (toPs ds)[j] (toP y)=true/\∀m (c:m<(toPs ds).length),m<j->PyData.eqv (toPs ds)[m] (toP y)=false:=by
 obtain⟨f,e,a⟩:=mx h;have hl:(toPs ds).length=ds.length:=by rw[mw,d9]
 have d:∀m _ (a:m<ds.length),PyData.eqv (toPs ds)[m] _=deq ds[m] y:=λ m e a=>by
  rw[←gA 60 60 ds[m] y (sW a q) p]
  congr 1
  simp[mw,List.getElem_map]
 exact⟨by omega,(d j KE f).trans e,λ m c b=>(d m c KE).trans (a m KE b)⟩
def EB(hu:X.A.units+64<cLine)(I:MN pins)(e:RelV x v)(d:RelV y u)(g:Rep X.D H (MZ ds) x)(f:Rep X.D H a y)(p:a.plain 60=true)(q:DV.plains 60 ds=true)(hl:ds.length<=l5)
  (h:M7 a ds=some j) (k:Q (.int j) H):wpAny MI X.A (call (.builtin "list.index") [v,u]) (EP X pins σ Q) X.xe s:=by
 obtain⟨as,i⟩:=T0 I 60 p f d;obtain⟨bs,b⟩:=T0 I 61 (by simpa[DV.plain]using q) g e;rw[toP]at b;have c:=gB 60 _ p;have l3:=c.2;obtain⟨m,o,n⟩:=sX p q h;have l:=(mx h).1;exact SeqAt.index_list_reads b i (dH 60 ds q).1 c.1 KE m (by have:l5=1000000:=rfl;omega) o n ⟨.int j,H,I.tok _,Nb,k⟩
def EC(hu:X.A.units+64<cLine)(I:MN pins)(e:RelV x v)(d:RelV y u)(g:Rep X.D H (.tup ds) x)(f:Rep X.D H a y)(p:a.plain 60=true)(q:DV.plains 60 ds=true)
  (h:M7 a ds=some j) (k:Q (.int j) H):wpAny MI X.A (call (.builtin "tuple.index") [v,u]) (EP X pins σ Q) X.xe s:=by
 obtain⟨as,i⟩:=T0 I 60 p f d;obtain⟨bs,b⟩:=T0 I 61 (by simpa[DV.plain]using q) g e;rw[toP]at b;have c:=gB 60 _ p;have l3:=c.2;obtain⟨l,n,m⟩:=sX p q h;exact SeqAt.index_tuple_reads b i (dH 60 ds q).1 c.1 KE l n m ⟨.int j,H,I.tok _,Nb,k⟩
def tIdx(X:Cx)(to te:TE):TE:=λ σ H Q=>to σ H λ x H1=>(∃ds,Rep X.D H1 (MZ ds) x/\te σ H1 λ y H2=>∃ds dy j,Rep X.D H2 (MZ ds) x/\Rep X.D H2 dy y/\dy.plain 60=true/\DV.plains 60 ds=true/\ds.length<=l5/\M7 dy ds=some j/\Q (.int j) H2) \/
 (∃ds,Rep X.D H1 (.tup ds) x/\te σ H1 λ y H2=>∃ds dy j,Rep X.D H2 (.tup ds) x/\Rep X.D H2 dy y/\dy.plain 60=true/\DV.plains 60 ds=true/\M7 dy ds=some j/\Q (.int j) H2)
def ED(M:X.A.units+64<cLine)(Z:PE X o to)(N:PE X e te)(g:attributeBase o "index" X.env (eval o X.env)=eval o X.env)(f:(apos.endLine==cpos.line)=true)(hs:starEach [e] X.env=[(false,eval e X.env)]) :
  PE X (.Call (.Attribute o "index" apos) [e] [] cpos) (tIdx X to te):=by
 intro d s m H Q I h;refine pB g (by rw[hs];rfl) f rfl (thn (Z d s m H _ I h) λ v s1 t0=>?_);obtain⟨x,O,l,F,i⟩:=t0;rcases i with⟨ds,C,i⟩ | ⟨ds,C,i⟩
 ·obtain⟨a,P,w,r,e3⟩:=G3.mp C;subst w;cases(F);obtain⟨Y,_,J,_⟩:=l.list (SqL.of r);refine⟨"list","list.index",iR,ph,PySem.F.type_list_index,J.isList.typeIs,λ b q=>?_,?_⟩
  ·cases q;obtain⟨o,n,e,c,hd,_⟩:=J;exact⟨o,e,hd⟩
  ·rw[hs];refine bO rfl (iY (je (thn (N d s1 m O _ l i) λ u R ⟨y,H2,E,p,z,dy,j,B,A,p1,p2,p3,S,k⟩=>jk ?_)));exact EB M E (show RelV (.ref a) _ from rfl) p B A p1 p2 p3 S k
 ·obtain⟨a,P,w,r,e3⟩:=B5.mp C;subst w;cases(F);obtain⟨K,L,W,U⟩:=l.tupleN r;refine⟨"tuple","tuple.index",PySem.F.plainAttrs_tuple,pc,PySem.F.type_tuple_index,⟨K,L,W⟩,λ b q=>?_,?_⟩
  ·cases q;exact⟨K,L,U⟩
  ·rw[hs];refine bO rfl (iY (je (thn (N d s1 m O _ l i) λ u R ⟨y,H2,E,p,z,dy,j,B,A,p1,p2,p3,k⟩=>jk ?_)));exact EC M E (show RelV (.ref a) _ from rfl) p B A p1 p2 p3 k
def EF(u:X.A.units+64<cLine)(w:∀q,ra=some q->PE X o MR)(v:∀q,rb=some q->PE X e MR)(f:attributeBase o "index" X.env (eval o X.env)=eval o X.env)(c:(apos.endLine==cpos.line)=true)(hs:starEach [e] X.env=[(false,eval e X.env)])
  (h:(Re.thn ra λ x _=>if seqB x then Re.thn rb λ y _=>(idxD x y).map λ d=>.ok d .strong else none)=some re):PE X (.Call (.Attribute o "index" apos) [e] [] cpos) (dE X.D δ re):=by
 cases b:ra with
 | none=>rw[b]at h;cases h
 | some q=>
  rw[b]at h;have A:=w q b;cases q with
  | ok l cx=>
   have i:(if seqB l then Re.thn rb λ y _=>(idxD l y).map λ d=>Re.ok d .strong else none)=some re:=h;have n:seqB l=true:=by
    cases z:seqB l with
    | true=>rfl
    | false=>rw[z]at i;cases i
   rw[d6 n]at i;have k:=i;cases a:rb with
   | none=>rw[a]at k;cases k
   | some q=>
    rw[a]at k;have C:=ED u A (v q a) f c hs;cases q with
    | ok I cy=>
     obtain⟨d,g,B⟩:=o9.mp k;subst B;unfold idxD at g;split at g
     ·rename_i s;split at g
      ·rename_i m;obtain⟨j,F,rfl⟩:=o9.mp g;rw[d8,d8,E2]at m;exact C.weak λ σ H Q ⟨O,W,R,p⟩=>⟨O,W,R,λ x H1 s1 r=>.inr ⟨s,r.all MX,O,W,R.mono s1,λ y J s2 E=>
        ⟨s,I,j,(r.mono s2).all ((MX).mono s2),(E.since s1).all ((MX).mono s2),m.1.1,m.1.2,F,p _ J (s1.trans s2) A2⟩⟩⟩
      ·cases g
     ·cases g
end
def GotR(D:Dm)(O:on Mq)(H0 H:Hp)(d:DV)(fr:Bool)(v:V):Prop:=match fr with
 | false=>Rep D (Nf O) d v
 | true=>∃p xs ds,v=.ref p/\d=.lst ds/\H0 p=none/\H p=some (MZ xs)/\RepL D (Nf (p::O)) ds xs
def spF(D:Dm)(n:Nat)(f:on DV->Mn Ou):Sp:=λ vs H Q E=>∃O ds o,Hdn O H/\ds.length=n/\RepL D (Nf O) ds vs/\f ds=some o /\
 (match o with | .v d fr=>∀v H',Same H H'->GotR D O H H' d fr v->Q v H')
def sY{ps:on Str}{j:St->Hp->Prop}(M:∀ds o,F f ds=some o->ds.length=ps.length)(C:∀q,n=some q->PA X U (dA X.D δ q)->PE X S (λ σ H Q=>j σ H/\kC (spF X.D ps.length (F f)) [] E0 (dA X.D δ q) σ H Q))(E:∀σ H O W,RSt X.D H σ δ O W->j σ H)(I:∀q,n=some q->PA X U (dA X.D δ q))
  (h:(Rs.thn n λ l=>D4 F f l)=some B):PE X S (dE X.D δ B):=by
 cases c:n with
 | none=>rw[c]at h;cases h
 | some q=>
  rw[c]at h;have A:=I q c
  replace C:=C q c
  cases q with
  | ok l=>
   have r:D4 F f l=some B:=h;unfold D4 at r;split at r
   ·cases r
   ·rename_i d P i;cases r;refine(C A).weak λ σ H Q ⟨O,W,R,p⟩=>⟨E _ _ _ _ R,O,W,R,λ vs Z s1 N=>?_⟩
    have hd:=R.hid.mono s1;show spF X.D ps.length (F f) _ Z Q E0;rw[x4];by_cases z:Nl=true
    ·rw[d6 z]at p;refine⟨O++W,_,_,hd.hdA,M _ _ i,N.strong hd z,i,λ v K s g=>p v K (s1.trans s) ?_⟩;cases P with
     | false=>exact g
     | true=>
      obtain⟨q,k,ds,i,J,x,w,u⟩:=g;exact⟨q,k,ds,i,J,s1.free x,w,u⟩
    ·rw[e7 z]at p;refine⟨O,_,_,hd.hdO,M _ _ i,N.repL hd,i,λ v K s g=>p v K (s1.trans s) ?_⟩;cases P with
     | false=>exact g
     | true=>
      obtain⟨q,k,ds,L,J,x,w,u⟩:=g;subst J;rw[Q6];cases y:imL (MZ ds)with
      | true=>exact⟨q,k,ds,L,rfl,s1.free x,w,RepL.immut (λ a I=>by obtain⟨o,e,m⟩:=hd.wl a I;exact⟨o,s _ _ (hd.same _ _ e),m⟩) y u⟩
      | false=>
       exact G3.mpr ⟨q,k,L,by rw[j4 (λ z=>hd.ot q (w6 _ z) (s1.free x))];exact w,u.mono (D9 λ b Y=>j5 _ Y)⟩
def EG(fo:FnOk X.prog X.w X.K X.mg X.base CX0 k c fd ps (spF X.D ps.length (F f)))(n:∀ds o,F f ds=some o->ds.length=ps.length)(m:Room k X.A)(u:Gl X x)(r:X.mg x=some (.ref c))(s:PySem.W.keepIn X.K (.ref c)=true)
  (v:K1 X.K fd ps []) (w:∀q,d=some q->PA X (e::es) (dA X.D δ q)) (b:Np=false) (j:l9 e=false) (a:es.any l9=false)
  (h:(Rs.thn d λ l=>D4 F f l)=some g):PE X Ny (dE X.D δ g):=by
 have plain:∀(es:on Ms),es.any l9=false->(backTo pos (starEach es X.env)).any (·.1)=false:=by
  intro es
  induction es with
  | nil=>intro _;rfl
  | cons y ys i=>
   intro q;rw[G6,Q0]at q;rw[p9 q.1];show(false||(backTo pos _).any (·.1))=false;rw[i q.2];rfl
 exact sY n (λ t _ z=>(Ar fo m u r s v .nil qw z b (p9 j) (plain es a)).weak λ σ H Q h=>h.2) (λ _ _ _ _ _=>trivial) w h
section
variable {X:Cx} {δ:on Sv} {e:Ms} {es:on Ms} {pos p:Pos} {re:Re} {rs:Mn Rs}
theorem Z9:∀(es:on Ms),es.any l9=false->(backTo pos (starEach es env)).any (·.1)=false
 | [],_=>rfl
 | y::a,q=>by rw[G6,Q0]at q;rw[p9 q.1];show(false||(backTo pos _).any (·.1))=false;rw[Z9 a q.2];rfl
def EH(fo:FnOk X.prog X.w X.K X.mg X.base CX0 k c fd ps j)(o:Room k X.A)(hv:PE X (.Name x p) (tVar i))(w:PySem.W.keepIn X.K (.ref c)=true)(z:K1 X.K fd ps ds)(hd:Vals d ds)
  (A:PA X (e::es) t) (y:starEach (e::es) X.env=(false,eval e X.env)::starEach es X.env:=by rfl) (f:(backTo pos (starEach es X.env)).any (·.1)=false:=by rfl) :
  PE X Ny (λ b H Q=>b[i]? = some (some (.ref c))/\kC j d E0 t b H Q):=by
 intro a s b H Q I h;obtain⟨B,h⟩:=h;refine X5 (thn (hv a s b H (λ v g=>v=.ref c/\g=H) I ⟨_,B,rfl,rfl⟩) λ u s1 t0=>?_);obtain⟨v,g,C,r1,n,m⟩:=t0;subst n m;obtain rfl:u=Value.ref c:=r1;refine jf I.ok.mod.kin w (thn (A pos a s1 b g _ C h) λ us s2 ⟨vs,H2,l,r,q⟩=>⟨l.kIn,?_⟩) y f;exact qf fo o z hd qw l r q
def EI(fo:FnOk X.prog X.w X.K X.mg X.base CX0 k b fd ps (spF X.D ps.length (F f)))(r:∀ds o,F f ds=some o->ds.length=ps.length)(n:Room k X.A)(hv:PE X (.Name x p) (tVar i))(s:X.mg y=some (.ref b))(u:PySem.W.keepIn X.K (.ref b)=true)
  (z:K1 X.K fd ps []) (w:NA (.fn y)) (A:∀q,rs=some q->PA X (e::es) (dA X.D δ q)) (m:l9 e=false) (a:es.any l9=false)
  (h:(Rs.thn rs λ l=>D4 F f l)=some re):PE X Ny (dE X.D δ re):=by
 refine sY r (λ t _ B=>EH fo n hv u z .nil B (p9 m) (Z9 es a)) (λ σ H O W R=>?_) A h;obtain⟨v,E,C⟩:=R.val i _ w;obtain⟨g,j,d⟩:=gq.mp C;have c:X.mg y=some _:=d;rw[s]at c;cases c;rw[E,j]
noncomputable def biR(X:Cx)(k:on (DV×Cl)->Mn Re):on V->Hp->VK->Prop:=λ vs H Q=>∃l re O W H0,k l=some re/\Hid O W H0 H/\GotL X.D O W H0 H l vs/\∃d c,re=.ok d c/\∀v H',Same H H'->Got X.D O W H0 H' d c v->Q v H'
def bf(r:u6 X (.builtin f) (biR X k))(o:Gl X x)(m:X.mg x=none)(hv:bootBuiltins x=some (.builtin f))(j:x ≠ "__name__")(b:Np=false)
  (s:∀q,rs=some q->PA X (e::es) (dA X.D δ q)) (i:l9 e=false) (a:es.any l9=false) (h:Rs.thn rs k=some re):PE X Ny (dE X.D δ re):=
 ba (λ _ u=>fK r o m hv u j b (p9 i) (Z9 es a)) s h λ O W v H vs Q l σ n hd g p=>by obtain⟨d,c⟩:=re;exact⟨l,_,O,W,v,n,hd,g,d,c,rfl,p⟩
def sZ(o:u6 X (.type T) (biR X k))(n:Gl X x)(j:X.mg x=none)(hv:bootBuiltins x=some (.type T))(i:x ≠ "__name__")(b:Np=false)
  (r:∀q,rs=some q->PA X (e::es) (dA X.D δ q)) (f:l9 e=false) (a:es.any l9=false) (h:Rs.thn rs k=some re):PE X Ny (dE X.D δ re):=
 ba (λ _ s=>kG o n j hv s i b (p9 f) (Z9 es a)) r h λ O W u H vs Q l σ m hd g p=>by obtain⟨d,c⟩:=re;exact⟨l,_,O,W,u,m,hd,g,d,c,rfl,p⟩
theorem bg:∀{ds:on DV} {b:on Int} {a:on V},ints? ds=some b->RepL D H ds a->a=b.map V.int
 | [],b,a,h,r=>by cases h;exact y9.mp r
 | .int i::ds,b,a,h,r=>by obtain⟨ms,g,f⟩:=o9.mp h;obtain⟨v,vs,e,d,c⟩:=r6.mp r;rw[←f,e,t9,v5.mp d,(bg g c)]
 | .non::ds,b,a,h,_=>by cases h
 | .bl _::ds,b,a,h,_=>by cases h
 | .str _::ds,b,a,h,_=>by cases h
 | .tup _::ds,b,a,h,_=>by cases h
 | .lst _::ds,b,a,h,_=>by cases h
 | .dct _ _::ds,b,a,h,_=>by cases h
 | .fn _::ds,b,a,h,_=>by cases h
 | .lam _ _::ds,b,a,h,_=>by cases h
 | .scr _::ds,b,a,h,_=>by cases h
theorem tj:∀(r:on Int) (m:Int),(minI m r=m\/minI m r∈r)/\minI m r<=m/\∀x∈r,minI m r<=x
 | [],m=>⟨.inl rfl,cG _,λ x h=>by cases h⟩
 | y::r,m=>by
  obtain⟨b,d,a⟩:=tj r (if y<m then y else m);unfold minI;by_cases q:y<m
  ·rw[d6 q]at b d a ⊢;refine⟨.inr ?_,by omega,λ x c=>?_⟩
   ·rcases b with z | z
    ·rw[z];exact i9 ..
    ·exact j5 _ z
   ·rcases f8.mp c with z | z
    ·rwa [z]
    ·exact a x z
  ·rw[e7 q]at b d a ⊢;refine⟨b.imp id (j5 _),d,λ x c=>?_⟩;rcases f8.mp c with z | z
   · omega
   ·exact a x z
theorem tm:∀(r:on Int) (m:Int),(maxI m r=m\/maxI m r∈r)/\m<=maxI m r/\∀x∈r,x<=maxI m r
 | [],m=>⟨.inl rfl,cG _,λ x h=>by cases h⟩
 | y::r,m=>by
  obtain⟨c,b,a⟩:=tm r (if m<y then y else m);unfold maxI;by_cases q:m<y
  ·rw[d6 q]at c b a ⊢;refine⟨.inr ?_,by omega,λ x d=>?_⟩
   ·rcases c with z | z
    ·rw[z];exact i9 ..
    ·exact j5 _ z
   ·rcases f8.mp d with z | z
    ·rw[z];exact b
    ·exact a x z
  ·rw[e7 q]at c b a ⊢;refine⟨c.imp id (j5 _),b,λ x d=>?_⟩;rcases f8.mp d with z | z
   ·rw[z];omega
   ·exact a x z
def EJ(g:M∈n::r)(d:∀x∈n::r,M<=x):M=minI n r:=by
 obtain⟨a,b,c⟩:=tj r n;have e:=d _ (a.elim (λ z=>by rw[z];exact i9 ..) (j5 _));have f:minI n r<=M:=by
  rcases f8.mp g with z | z
  ·rwa [z]
  ·exact c M z
 omega
def EK(g:M∈n::r)(d:∀x∈n::r,x<=M):M=maxI n r:=by
 obtain⟨a,b,c⟩:=tm r n;have e:=d _ (a.elim (λ z=>by rw[z];exact i9 ..) (j5 _));have f:M<=maxI n r:=by
  rcases f8.mp g with z | z
  ·rw[z];exact b
  ·exact c M z
 omega
theorem my(x:Int):∀l:on Int,(insI x l).Perm (x::l)
 | []=>.rfl
 | y::r=>by
  unfold insI;split
  ·exact .rfl
  ·exact(List.Perm.cons y (my x r)).trans (List.Perm.swap x y r)
theorem tq:∀l:on Int,(D2 l).Perm l
 | []=>.rfl
 | x::r=>(my x _).trans (List.Perm.cons x (tq r))
theorem tu(x:Int):∀{l:on Int},l.Pairwise (· <= ·)->(insI x l).Pairwise (· <= ·)
 | [],_=>iS _ _
 | y::r,h=>by
  obtain⟨b,c⟩:=C8.mp h;unfold insI;split
  ·rename_i q;refine C8.mpr ⟨λ z a=>?_,h⟩;rcases f8.mp a with e | e
   ·omega
   ·have:=b z e;omega
  ·rename_i q;refine C8.mpr ⟨λ z a=>?_,tu x c⟩;rcases f8.mp ((my x r).mem_iff.mp a)with e | e
   ·omega
   ·exact b z e
theorem tx:∀l:on Int,(D2 l).Pairwise (· <= ·)
 | []=>.nil
 | x::r=>tu x (tx r)
theorem tz:∀{a b:on Int},a.Perm b->a.Pairwise (· <= ·)->b.Pairwise (· <= ·)->a=b
 | [],b,p,_,_=>(List.Perm.nil_eq p)
 | x::a,b,p,f,d=>by
  cases b with
  | nil=>exact absurd p.length_eq MP
  | cons y b=>
   obtain⟨j,i⟩:=C8.mp f;obtain⟨h,g⟩:=C8.mp d;have e:x=y:=by
    rcases f8.mp (p.mem_iff.mp (i9)) with z | z
    ·exact z
    ·rcases f8.mp (p.mem_iff.mpr (i9)) with c | c
     ·exact c.symm
     ·have:=j y c;have:=h x z;omega
   subst e;rw[tz (List.Perm.cons_inv p) i g]
def EL:u6 X (.builtin "len") (biR X lenD):=by
 intro b s k H xs n Q I r h;obtain⟨l,re,O,W,H0,e,o,g,d,c,rfl,p⟩:=h;unfold lenD at e;split at e
 ·cases e;obtain⟨v,rfl,f⟩:=g.one;obtain⟨a,m,j,i,q⟩:=f.lst o;exact kJ b s k H _ n Q I r ⟨a,m,by rw[j],.inl (SqL.of i),by rw[q.length];exact p _ H Nu A2⟩
 ·cases e;obtain⟨v,rfl,f⟩:=g.one;obtain⟨a,m,j,i,q⟩:=f.tup o;exact kJ b s k H _ n Q I r ⟨a,m,by rw[j],.inr i,by rw[q.length];exact p _ H Nu A2⟩
 ·cases e;obtain⟨v,rfl,f⟩:=g.one;obtain⟨a,j,i⟩:=Z8.mp (f.all o);exact kJ b s k H _ n Q I r ⟨a,_,by rw[j],.inl i.sq,by rw[d9];exact p _ H Nu A2⟩
 ·cases e
def EM(o:NN):u6 X (.builtin "min") (biR X minD):=by
 intro b s k H xs m Q I r h;obtain⟨l,re,O,W,H0,f,hd,g,d,c,rfl,p⟩:=h;unfold minD at f;split at f
 ·cases f;obtain⟨v,v',rfl,j,i⟩:=g.two;exact Ap o b s k H _ m Q I r ⟨_,_,by rw[j.int hd,i.int hd],p _ H Nu A2⟩
 ·split at f
  ·rename_i n q x;cases f;obtain⟨v,rfl,j⟩:=g.one;obtain⟨a,ys,B,A,z⟩:=j.lst hd;have y:=bg x z;subst y;exact Co o b s k H _ m Q I r ⟨a,n::q,by rw[B],SqL.of A,by simp,λ M w u=>by rw[EJ w u];exact p _ H Nu A2⟩
  ·cases f
 ·cases f
def EN(m:NN):u6 X (.builtin "max") (biR X maxD):=by
 intro b s j H xs k Q I r h;obtain⟨l,re,O,W,H0,e,hd,g,d,c,rfl,p⟩:=h;unfold maxD at e;split at e
 ·cases e;obtain⟨v,v',rfl,i,f⟩:=g.two;exact Ao m b s j H _ k Q I r ⟨_,_,by rw[i.int hd,f.int hd],p _ H Nu A2⟩
 ·split at e
  ·rename_i n o u;cases e;obtain⟨v,rfl,i⟩:=g.one;obtain⟨a,ys,z,y,x⟩:=i.lst hd;have w:=bg u x;subst w;exact Cp m b s j H _ k Q I r ⟨a,n::o,by rw[z],SqL.of y,by simp,λ M q m2=>by rw[EK q m2];exact p _ H Nu A2⟩
  ·cases e
 ·cases e
theorem mz:∀{ds:on DV} {bs:on Bool} {a:on V},bools? ds=some bs->RepL D H ds a->a=bs.map V.bl
 | [],bs,a,h,r=>by cases h;exact y9.mp r
 | .bl i::ds,bs,a,h,r=>by obtain⟨ms,f,e⟩:=o9.mp h;obtain⟨v,vs,d,c,b⟩:=r6.mp r;have q:=mz f b;subst e d q;rw[Z7.mp c];rfl
 | .non::_,_,_,h,_=>by cases h
 | .int _::_,_,_,h,_=>by cases h
 | .str _::_,_,_,h,_=>by cases h
 | .tup _::_,_,_,h,_=>by cases h
 | .lst _::_,_,_,h,_=>by cases h
 | .fn _::_,_,_,h,_=>by cases h
 | .lam _ _::_,_,_,h,_=>by cases h
 | .scr _::_,_,_,h,_=>by cases h
 | .dct _ _::_,_,_,h,_=>by cases h
def EO(o:NN):u6 X (.builtin "sum") (biR X sumD):=by
 intro b s i H xs j Q I r h;obtain⟨l,re,O,W,H0,f,n,g,d,c,rfl,p⟩:=h;unfold sumD at f;split at f
 ·obtain⟨k,m,e⟩:=o9.mp f;cases e;obtain⟨v,rfl,q⟩:=g.one;obtain⟨a,ys,y,x,w⟩:=q.lst n;have u:=bg m w;subst u;exact CD o b s i H _ j Q I r ⟨a,k,by rw[y],SqL.of x,p _ H Nu A2⟩
 ·cases f
def EQ(n:NN):u6 X (.builtin "all") (biR X allD):=by
 intro b s i H xs j Q I r h;obtain⟨l,re,O,W,H0,f,m,g,d,c,rfl,p⟩:=h;unfold allD at f;split at f
 ·obtain⟨bs,k,e⟩:=o9.mp f;cases e;obtain⟨v,rfl,o⟩:=g.one;obtain⟨a,ys,x,w,u⟩:=o.lst m;have q:=mz k u;subst q;exact CB n b s i H _ j Q I r ⟨a,bs,by rw[x],SqL.of w,p _ H Nu O8⟩
 ·cases f
def ER(n:NN):u6 X (.builtin "any") (biR X anyD):=by
 intro b s i H xs j Q I r h;obtain⟨l,re,O,W,H0,f,m,g,d,c,rfl,p⟩:=h;unfold anyD at f;split at f
 ·obtain⟨bs,k,e⟩:=o9.mp f;cases e;obtain⟨v,rfl,o⟩:=g.one;obtain⟨a,ys,w,u,t⟩:=o.lst m;have q:=mz k t;subst q;exact CC n b s i H _ j Q I r ⟨a,bs,by rw[w],SqL.of u,p _ H Nu O8⟩
 ·cases f
def ES:bootBuiltins "sum" = some (.builtin "sum"):=by decide +kernel
def ET:bootBuiltins "all" = some (.builtin "all"):=by decide +kernel
def EU:bootBuiltins "any" = some (.builtin "any"):=by decide +kernel
def EV:bootBuiltins "sorted" = some (.builtin "sorted"):=by decide +kernel
def tE:bootBuiltins "set" = some (.type "set"):=by decide +kernel
def EW{p':Pos}{pos':Pos}(hc:NN)(hg:Gl X "sorted")(hm:X.mg "sorted" = none)(hg':Gl X "set")(hm':X.mg "set" = none)
  (ha:∀q,rs=some q->PA X [e] (dA X.D δ q)) (hs:l9 e=false) (h:Rs.thn rs fM=some re):PE X (.Call (.Name "sorted" p) [.Call (.Name "set" p') [e] [] pos'] [] pos) (dE X.D δ re):=
 ba (r:=λ vs H Q=>(∃(a:Mq) (ns:on Int),vs=[.ref a]/\SqL X.K H a (ns.map V.int)/\ns.length<4000/\∀p,H p=none->∃(p1:Mq) (ks:on Int),[V.ref p]=[.ref p1]/\upd H p (setO X.prog X.w p (ns.foldl dk [])) p1=some (setO X.prog X.w p1 ks)/\ks.length<64 /\
   ∀(q:Mq) (ms:on Int),upd H p (setO X.prog X.w p (ns.foldl dk [])) q=none->ms.Perm ks->ms.Pairwise (· <= ·)->Q (.ref q) (upd (upd H p (setO X.prog X.w p (ns.foldl dk []))) q (MZ (ms.map V.int)))))
  (λ t hA=>by
   have q1:=kG (p:=p') (pos:=pos') (rm hc) hg' hm' tE hA MG MG (p9 hs) rfl;have q2:=fK (p:=p) (pos:=pos) (Ct hc) hg hm EV (F9 q1 O4) MG MG rfl rfl;exact q2.weak λ σ H Q h=>h) ha h λ O W H0 H vs Q l σ hl hd g pp=>by
  unfold fM at hl;split at hl
  ·split at hl
   ·rename_i ds c ns hq;split at hl
    ·rename_i hb;cases hl;obtain⟨v,rfl,gv⟩:=g.one;obtain⟨a,ys,e1,e2,e3⟩:=gv.lst hd;have e4:=bg hq e3;subst e4;refine⟨a,ns,by rw[e1],SqL.of e2,hb.1,λ p1 hp1=>⟨p1,_,rfl,u5,hb.2,λ q ms hq1 pm pw=>?_⟩⟩;have e5:ms=D2 (ns.foldl dk []):=tz (pm.trans (tq _).symm) pw (tx _);subst e5;have s1:Same H (upd H p1 (setO X.prog X.w p1 (ns.foldl dk []))):=v6 hp1;exact pp _ _ (s1.trans (v6 hq1)) (V8 (hd.mono s1) hq1 (lX _))
    ·cases hl
   ·cases hl
  ·cases hl
def EX{p':Pos}{pos':Pos}(hc:NN)(hg:Gl X "len")(hm:X.mg "len" = none)(hg':Gl X "set")(hm':X.mg "set" = none)
  (ha:∀q,rs=some q->PA X [e] (dA X.D δ q)) (hs:l9 e=false) (h:Rs.thn rs lh=some re):PE X (.Call (.Name "len" p) [.Call (.Name "set" p') [e] [] pos'] [] pos) (dE X.D δ re):=
 ba (r:=λ vs H Q=>(∃(a:Mq) (ns:on Int),vs=[.ref a]/\SqL X.K H a (ns.map V.int)/\ns.length<4000/\∀p,H p=none->∃(p1:Mq) (ks:on Int),[V.ref p]=[.ref p1]/\upd H p (setO X.prog X.w p (ns.foldl dk [])) p1=some (setO X.prog X.w p1 ks)/\Q (MY ks.length) (upd H p (setO X.prog X.w p (ns.foldl dk [])))))
  (λ t hA=>by
   have q1:=kG (p:=p') (pos:=pos') (rm hc) hg' hm' tE hA MG MG (p9 hs) rfl;have q2:=fK (p:=p) (pos:=pos) Cs hg hm boot_len (F9 q1 O4) MG MG rfl rfl;exact q2.weak λ σ H Q h=>h) ha h λ O W H0 H vs Q l σ hl hd g pp=>by
  unfold lh at hl;split at hl
  ·split at hl
   ·rename_i ds c ns hq;split at hl
    ·rename_i hb;cases hl;obtain⟨v,rfl,gv⟩:=g.one;obtain⟨a,ys,e1,e2,e3⟩:=gv.lst hd;have e4:=bg hq e3;subst e4;exact⟨a,ns,by rw[e1],SqL.of e2,hb,λ p1 hp1=>⟨p1,_,rfl,u5,pp _ _ (v6 hp1) A2⟩⟩
    ·cases hl
   ·cases hl
  ·cases hl
def EY:u6 X (.type "list") (biR X li):=by
 intro b s j H xs m Q I r h;obtain⟨l,re,O,W,H0,f,hd,g,d,c,rfl,p⟩:=h;unfold li at f;split at f
 ·cases f;obtain⟨v,rfl,n⟩:=g.one;obtain⟨a,k,w,u,o⟩:=n.tupC hd;exact AM b s j H _ m Q I r ⟨a,k,by rw[w],.inr u,λ q i=>p _ _ (v6 i) (sr hd i o)⟩
 ·cases f
theorem RepL.getD(h:RepL D H ds xs)(i:Nat):Rep D H (ds.getD i .non) (xs.getD i .non):=by
 rw[i8,i8];cases e:ds[i]? with
 | none=>
  rw[J7 (by rw[h.length];exact iH.mp e)];exact S9.mpr rfl
 | some d=>
  obtain⟨v,a,q⟩:=h.get e
  rwa [a]
theorem RepL.putIx(h:RepL D H ds xs):∀a:on Nat,RepL D H (L2.putIx .non a ds) (L2.putIx .non a xs)
 | []=>y9.mpr rfl
 | i::l=>r6.mpr ⟨_,_,rfl,h.getD i,RepL.putIx h l⟩
def EZ:u6 X (.type "tuple") (biR X lj):=by
 intro b s j H xs m Q I r h;obtain⟨l,re,O,W,H0,f,hd,g,d,c,rfl,p⟩:=h;unfold lj at f;split at f
 ·cases f;obtain⟨v,rfl,n⟩:=g.one;obtain⟨a,k,w,u,o⟩:=n.lstC hd;exact AN b s j H _ m Q I r ⟨a,k,by rw[w],.inl ⟨SqL.of u,λ q i=>p _ _ (v6 i) (Dy hd i o)⟩⟩
 ·cases f
end
noncomputable def tyS:DV->Mn MF
 | .int _=>some "int"
 | _=>none
noncomputable def tF(T t:MF):Mn Bool:=if(Value.type T==Value.type t)=true then some true else if PySem.W.kitMeta t=true then(fastBuiltinMro T).map (·.contains (.type t))else none
def Fa:(["NoneType","bool","int","str","tuple","list","dict"]:on MF).all (λ T=>(["int","bool","str","list","tuple","dict"]:on MF).all λ t=>tF T t==some (T==t||(T == "bool" && t == "int")))=true:=by decide +kernel
def Fb{K:MA}(T t:MF)(b:T∈["NoneType","bool","int","str","tuple","list","dict"])(a:t∈["int","bool","str","list","tuple","dict"]) :
  PySem.W.kitOne K (.type T) (.type t)=some (T==t||(T == "bool" && t == "int")):=by
 exact(show tF T t=_ from by simpa using (u4.mp (u4.mp Fa T b) t a))
section
variable {X:Cx} {δ:on Sv} {e e':Ms} {pos p p':Pos} {re:Re} {ra:Mn Re}
def Fc(I:MN a)(r:Rep X.D H d v)(c:RelV v u)(f:tyS d=some T)(g:t∈["int","bool","str","list","tuple","dict"])
  (h:∀tk,Q (.bool (T==t||(T == "bool" && t == "int"))) {s with toks:=tk}):wpAny MI X.A (call (.builtin "isinstance") [u,.type t]) Q i s:=by
 cases d with
 | int b=>cases f;rw[v5.mp r]at c;obtain⟨tk,rfl⟩:=c;exact PySem.W.kia_one PySem.W.kitx_int I.kIn True.intro (Fb _ _ MP g) (λ z=>nomatch z) h
 | _=>cases f
def rIsi(X:Cx):on V->Hp->VK->Prop:=λ xs H Q=>∃d T t x,xs=[x,.ty t]/\Rep X.D H d x/\tyS d=some T/\t∈["int","bool","str","list","tuple","dict"]/\Q (.bl (T==t||(T == "bool" && t == "int"))) H
def Fd:u6 X (.builtin "isinstance") (rIsi X):=by
 intro b s σ H xs us Q I r h;obtain⟨d,T,t,x,rfl,f,i,g,q⟩:=h;obtain⟨u,w',rfl,e,a⟩:=ky r;cases a;exact Fc I f e i g λ c=>⟨.bl _,H,I.tok c,rfl,q⟩
noncomputable def bh:Str->Mn MF:=λ x=>(["int","bool","str","list","tuple","dict"]:on MF).find? λ t=>Str.ofString t==x
def tG(h:bh x=some t):bootBuiltins x=some (.type t)/\t∈["int","bool","str","list","tuple","dict"]/\Str.ofString t=x:=by
 unfold bh at h;have a:=oV h;have b:Str.ofString t=x:=by simpa using (List.find?_some h)
 refine⟨?_,a,b⟩;subst b;simp[f8,F4,F8]at a;rcases a with rfl | rfl | rfl | rfl | rfl | rfl
 ·exact boot_int
 ·exact boot_bool
 ·exact boot_str
 ·exact boot_list
 ·exact boot_tuple
 ·exact boot_dict
noncomputable def tH:MF->on Str
 | "NoneType"=>["NoneType"] | "bool"=>["bool","int"] | "int"=>["int"] | "str"=>["str"] | "tuple"=>["tuple"] | "list"=>["list"] | "dict"=>["dict"]
 | _=>[]
def Fe:(["NoneType","bool","int","str","tuple","list","dict"]:on MF).all (λ T=>(["int","bool","str","list","tuple","dict"]:on MF).all λ t=>(tH T).contains (Str.ofString t)==(T==t||(T == "bool" && t == "int")))=true:=by decide +kernel
def Ff(h:bh x=some t)(a:tyS d=some T):(tyOf d).contains x=(T==t||(T == "bool" && t == "int")):=by
 obtain⟨_,h2,b⟩:=tG h;subst b;cases d<;>cases a;show(tH "int").contains _=_;simpa using (u4.mp (u4.mp Fe "int" MP) t h2)
def Fg(m:bh x=some t)(z:Gl X "isinstance")(u:X.mg "isinstance" = none)(i:Gl X x)(g:X.mg x=none)(f:x ≠ "__name__")(j:Np=false)
  (B:∀q,ra=some q->PE X e MR) (n:l9 e=false) (h:(Re.thn ra λ y _=>(isiD G y [x]).map λ k=>.ok (.bl k) .strong)=some re):PE X (.Call (.Name "isinstance" p) [e,.Name x p'] [] pos) (dE X.D δ re):=by
 obtain⟨K,l,J⟩:=tG m;have T:PE X (.Name x p') (tC (.ty t)):=zh i g K rfl f j;have C:=λ r (E:PE X e r)=>fK (p:=p) (pos:=pos) Fd z u boot_isinstance (F9 E (F9 T O4) (p9 n)) MG MG (p9 n)
 cases a:ra with
 | none=>rw[a]at h;cases h
 | some q=>
  rw[a]at h;have A:=B q a;cases q with
  | ok d cl=>
   obtain⟨k,b,I⟩:=o9.mp (h);cases I;have c:∃T,tyS d=some T/\k=(tyOf d).contains x:=by
    unfold isiD at b;have s:V3.contains x=true:=by
     rw[←J];simp only[f8,F4,F8]at l;rcases l with rfl | rfl | rfl | rfl | rfl | rfl<;>decide +kernel
    cases d<;>first
     | (simp only[s,if_true]at b;cases b;exact⟨_,rfl,rfl⟩)
     | cases b
   obtain⟨T,o,w⟩:=c;exact(C _ A).weak λ σ H Q ⟨O,W,R,p⟩=>⟨O,W,R,λ v L s1 F=>⟨d,T,t,v,rfl,F.all MX,o,l,by rw[←Ff m o,←w];exact p _ L s1 O8⟩⟩
end
def Fh(a:Str):aM (a ++ "<lambda>")=false:=by
 have c:∀b:Str,b.cps.toList.getLast? = some 102->(a++_==b)=false:=λ b d=>by
  rw[A6];intro z;rw[←z]at d;have e:(a++("<lambda>" : Str)).cps.toList.getLast? = some 62:=by show(a.cps++("<lambda>" : Str).cps).toList.getLast? = _;rw[jb,List.getLast?_append];rfl
  rw[e]at d;cases d
 unfold aM;rw[c _ rfl,c _ rfl];rfl
theorem tI:∀(l:on Mo),TriplesOk l->(∃i t,a=.int i t)->(∃i t,b=.int i t)->codeAmong pos' (l++[a,b,c])=some cv->codeAmong pos' l=some cv\/cv=c
 | [],_,⟨i,t,k⟩,⟨j,u,g⟩,h=>by
  subst k g;have d:(if i==pos'.line&&j==pos'.col then some c else codeAmong pos' [])=some cv:=h;split at d
  ·exact .inr (z9 d).symm
  ·cases d
 | .int i t :: .int j u::x::r,ok,f,e,h=>by
  have d:(if i==pos'.line&&j==pos'.col then some x else codeAmong pos' _)=some cv:=h;show(if i==pos'.line&&j==pos'.col then some x else codeAmong pos' r)=some cv\/cv=c;split at d
  ·rename_i z;rw[d6 z];exact .inl d
  ·rename_i z;rw[e7 z];exact tI r ok f e d
theorem tJ(e:∃i t,a=.int i t)(d:∃i t,b=.int i t):∀(l:on Mo),TriplesOk l->TriplesOk (l++[a,b,c])
 | [],_=>by obtain⟨i,t,rfl⟩:=e;obtain⟨j,u,rfl⟩:=d;exact trivial
 | .int i t :: .int j u::x::r,ok=>tJ e d r ok
structure LamAt(X:Cx)(scope:Scope)(c P:Addr):Prop where
 code:X.env.code=.ref c
 hd:∀{pins:List (Addr×Obj)} {σ:List (Option V)} {H:Hp} {s:Shared},Inv X pins σ H s->PySem.W.CodeHd s.heap c P
 tab:∀{pins:List (Addr×Obj)} {σ:List (Option V)} {H:Hp} {s:Shared},Inv X pins σ H s->H P=some (.tbl NU)
 fre:∀y∈scope.names,y.2=NameKind.free->X.env.kindOf y.1=some .cell\/X.env.kindOf y.1=some .free
theorem LamAt.has(L:LamAt X scope c P)(ok:X.Ok):∀y∈scope.names,y.2=NameKind.free->∃a,X.env.cells.lookup y.1=some a:=λ y b d=>ok.has y.1 (L.fre y b d)
def Fi(I:MN r)(L:LamAt X scope c P)(a3:defaultsOf g X.env=([],[]))
  (h:∀f k s',Inv X r σ k s'->Same H k->H f=none->J3 k NU g body scope (l8 X.env.cells scope.names []) f->Q (.ref f) s') :
  wpAny M A (eval (.Lambda g body scope pos) X.env) Q E s:=by
 refine PySem.W.kla_eval a3 ?_;have hP:=L.tab I;obtain⟨ps,hp,ht,x⟩:=I.hok _ _ hP;have a5:=kR (scope:=scope) (env:=X.env) (L.has I.ok);have hg:s.heap.Ns mainGlobals X.mg:=I.ok.mod.glob.keeps I.bk;have c0:mainGlobals≠P:=λ z=>by obtain⟨o,es,ep,e,d,_⟩:=hg;rw[z,hp]at e;cases e;cases d
 obtain⟨bm,ob,b1,b2,b3,b4,b5,b6⟩:=I.ok.mod.bmod;have p:=I.bs _ _ b3;have c1:bm≠P:=λ z=>by rw[z,hP]at p;cases p.2
 have c3:bm≠mainGlobals:=λ z=>by obtain⟨o,es,ep,e,d,_⟩:=hg;rw[←z,p.1]at e;cases e;rw[b6]at d;cases d
 have hb:s.heap.BuiltinsAt X.mg P:=⟨bm,ob,b1,b2,c3,c1,p.1,b4,b5,b6⟩;have C:=L.hd I;cases hf:codeAmong pos ps.toList with
 | some cv=>
  obtain⟨j,N,u,vs,t,e1,e2,e3,e4⟩:=x pos cv hf;subst e1;refine PySem.W.kla_makeFunctionHit (mg:=X.mg) a5 I.ok.glob hg L.code C hp ht hf hb λ m i tk hk W=>?_
  have hn:H i.objs.size=none:=I.hok.fresh W;refine h _ (upd H i.objs.size (.frz _ (.own i.objs.size))) _ (I.laid (t':=tk) (λ b u e=>i5 _ (hk b u e)) W ⟨m7 _ rfl,_,m7 _ rfl⟩) (v6 hn) hn ?_;refine⟨j,N,u,vs,t,_,m,u5,?_,e3,e4.1⟩;rw[j8 (x6 e2 hn)];exact e2
 | none=>
  refine PySem.W.kla_makeFunction (mg:=X.mg) a5 I.ok.glob hg L.code C hp ht hf c0 hb λ j m i tk hx l B Y U=>?_;obtain⟨c5,N,vs,t,e2,Z,hd,hv⟩:=Y;cases e2;have b9:H j=none:=I.hok.fresh l;have a0:H i.objs.size=none:=I.hok.fresh (e9 l (Q8 B));have S:∀{b:Mq} {u:HO},H b=some u->b≠j/\b≠i.objs.size:=λ e=>⟨x6 e b9,x6 e a0⟩;have v:∀{b:Mq} {o:Obj},s.heap.get? b=some o->b≠j/\b≠i.objs.size:=λ {b o} e=>⟨n9 (o4 (j6 e) l),n9 (o4 (j6 e) (e9 l (Q8 B)))⟩;generalize a2:PySem.W.kla_obj "<lambda>" NU g body scope _ _ j m=fo;have a1:fo.isFreed=false:=by rw[←a2];rfl
  generalize F:upd (upd H j (.frz N (.own j))) i.objs.size (.frz fo (.own i.objs.size))=k;have a8:k i.objs.size=some (.frz fo (.own i.objs.size)):=by rw[←F];exact u5
  have at2:k j=some (.frz N (.own j)):=by rw[←F,j8 (n9 B)];exact u5
  have K:∀{b:Mq},b≠j->b≠i.objs.size->k b=H b:=λ h1 h2=>by rw[←F,j8 h2,j8 h1]
  have sm:Same H k:=λ b o e=>by rw[K (S e).1 (S e).2];exact e
  have kp:∀b o,b≠P->s.heap.get? b=some o->(i.push fo).get? b=some o:=λ b o hb e=>i5 _ (hx b o hb e);have a6:∀b,H b=none->b≠P:=λ b n z=>by rw[z,hP]at n;cases n
  have un:Un X.fs [] H k s.heap (i.push fo):=by
   refine⟨λ b o e n _ _=>kp b o (a6 b n) e,λ b o e n _ _=>⟨o.slots,kp b o (a6 b n) e⟩,λ b o e n _=>by rw[K (v e).1 (v e).2];exact n,λ b o e _=>?_,λ b xs e=>sm _ _ e,λ b o u e=>sm _ _ e,λ b q e=>sm _ _ e⟩;by_cases z:b=P
   ·subst z;exact⟨_,i5 _ U⟩
   ·exact⟨o,kp b o z e⟩
  have b8:HOk X.prog X.w k (i.push fo):=λ b u e=>by
   by_cases z1:b=i.objs.size
   ·subst z1;rw[a8]at e;cases e;exact⟨m7 _ a1,_,m7 _ a1⟩
   ·by_cases z2:b=j
    ·subst z2;rw[at2]at e;cases e;exact⟨i5 _ Z,_,i5 _ Z⟩
    ·rw[K z2 z1]at e;by_cases z3:b=P
     ·subst z3;rw[hP]at e;cases e;refine⟨_,i5 _ U,?_,λ R cv a4=>?_⟩
      ·rw[jb];exact tJ ⟨_,_,rfl⟩ ⟨_,_,rfl⟩ _ ht
      ·rw[jb]at a4;rcases tI (a:=rawInt pos.line) (b:=rawInt pos.col) (c:=.ref j) ps.toList ht ⟨_,_,rfl⟩ ⟨_,_,rfl⟩ a4 with w | w
       ·obtain⟨c2,b0,u2,a9,t2,f1,f2,f3,f4⟩:=x R cv w;refine⟨c2,b0,u2,a9,t2,f1,sm _ _ f2,f3,f4.1,λ y=>?_⟩;obtain⟨y0,T,a7,tf,J,tg,b7,O,tt,y1,y2,y3,y4,y5,y6,y7,y8⟩:=f4.2 y;exact⟨y0,T,a7,tf,J,tg,b7,O,tt,y1,y2,y3,y4,y5,y6,y7,sm _ _ y8⟩
       ·exact⟨j,N,_,vs,t,w,at2,hd,hv,λ y=>by rw[show aM NU=false from Fh _]at y;cases y⟩
     ·refine(I.hok b u e).stay (λ b' u' c4 q=>kp b' u' ?_ q) (λ b' q=>sm _ _ q) (λ b' xs q=>sm _ _ q) (λ b' xs q=>sm _ _ q) λ b' _ _ _ _ q=>sm _ _ q;rcases c4 with w | w
      ·rw[w];exact z3
      ·intro z;rw[z,hP]at w;cases w
  refine h i.objs.size k _ (I.un (t':=tk) un b8) sm a0 ⟨j,N,_,vs,t,(X.mg "__name__").getD .none,m,by rw[a8,←a2],at2,hd,hv⟩
end L2
namespace L2
open PySem PySem.Spec PyProof.Rows
noncomputable def trC(l:on Mq)(h:Mr)(H:Hp):Hp:=λ b=>if b∈l then(h.get? b).map λ o=>HO.frz o (.own b)else H b
def aa(a:b∈l)(e:h.get? b=some o):trC l h H b=some (.frz o (.own b)):=by
 unfold trC;rw[d6 a,e];rfl
def ab(a:b∉l):trC l h H b=H b:=e7 a
structure Cells(l:List Addr)(h:Heap)(H:Hp):Prop where
 none:∀c∈l,H c=none
 cel:∀c∈l,∃o v,h.get? c=some o/\o.data=.cell v
section
variable {P:Mw} {w:Mv} {K:MA} {mg:Str->Mn Mo} {base:Mr} {A:My} {outer:on Env} {s s':Mp} {H:Hp} {l:on Mq} {Q Q':VK} {u:Mo}
def Cells.same(C:Cells l s.heap H):Same H (trC l s.heap H):=λ b o e=>by
 rw[ab λ z=>by rw[C.none b z]at e;cases e];exact e
theorem HOk.trC(C:Cells l s.heap H)(x:HOk P w H s.heap):HOk P w (trC l s.heap H) s.heap:=λ b u e=>by
 by_cases hb:b∈l
 ·obtain⟨o,v,g,_⟩:=C.cel b hb;rw[aa hb g]at e;cases e;exact⟨g,o,g⟩
 ·rw[ab hb]at e;exact(x b u e).stay (λ _ _ _ q=>q) (λ _ q=>C.same _ _ q) (λ _ _ q=>C.same _ _ q) (λ _ _ q=>C.same _ _ q) λ _ _ _ _ _ q=>C.same _ _ q
theorem Env0.trC(C:Cells l s.heap H)(hb:∀c∈l,base.get? c=none)(hf:∀c∈l,c∉frs outer)(e:Env0 P w K mg base A outer s H):Env0 P w K mg base A outer s (trC l s.heap H):=
 ⟨e.frames,e.mod,λ b o q=>⟨(e.bs b o q).1,by rw[ab λ z=>by rw[hb b z]at q;cases q];exact(e.bs b o q).2⟩,e.bsz,e.funs,⟨λ b q=>by rw[ab λ z=>hf b z q];exact e.frf.1 b q,λ p hp=>C.same _ _ (e.frf.2 p hp)⟩,HOk.trC C e.hok,e.bare⟩
theorem CE.trC(C:Cells l s.heap H)(h:CE outer P w (trC l s.heap H) s Q' u s')(hq:∀v H',Same (trC l s.heap H) H'->Q' v H'->Q v (L2.wo l H'))(hs:∀v H',Q' v H'->Same (trC l s.heap H) H'):CE outer P w H s Q u s':=by
 obtain⟨v,H',os,bare,un,hok,r,q⟩:=h;have at1:∀{b:Mq},b∈l->∃o v,s.heap.get? b=some o/\o.data=.cell v/\H' b=some (.frz o (.own b))/\s'.heap.get? b=some o:=λ {b} hb=>by obtain⟨o,v,g,d⟩:=C.cel b hb;have z:=un.frzs b o _ (aa hb g);exact⟨o,v,g,d,z,(hok b _ z).1⟩
 refine⟨v,L2.wo l H',os,bare,⟨λ b o e n hf hx=>?_,λ b o e n hf hx=>?_,λ b o e n hx=>?_,un.there,λ b xs e=>?_,λ b o x e=>?_,λ b x e=>?_⟩,λ b x e=>?_,r,hq v H' (hs v H' q) q⟩
 ·by_cases hb:b∈l
  ·obtain⟨o',_,g,_,_,g'⟩:=at1 hb;rw[e]at g;cases g;exact g'
  ·exact un.keep b o e (by rw[ab hb];exact n) hf hx
 ·by_cases hb:b∈l
  ·obtain⟨o',_,g,_,_,g'⟩:=at1 hb;rw[e]at g;cases g;exact⟨o.slots,g'⟩
  ·exact un.slot b o e (by rw[ab hb];exact n) hf hx
 ·by_cases hb:b∈l
  ·exact aY hb
  ·rw[j4 hb];exact un.free b o e (by rw[ab hb];exact n) hx
 ·rw[j4 λ z=>by rw[C.none b z]at e;cases e];exact un.tups b xs (C.same _ _ e)
 ·rw[j4 λ z=>by rw[C.none b z]at e;cases e];exact un.frzs b o x (C.same _ _ e)
 ·rw[j4 λ z=>by rw[C.none b z]at e;cases e];exact un.tbls b x (C.same _ _ e)
 ·obtain⟨hb,e⟩:=w4 e;refine(hok b x e).stay (λ _ _ _ q=>q) (λ b' q=>?_) (λ b' _ q=>?_) (λ b' _ q=>?_) λ b' o' _ vs d q=>?_
  ·rw[j4 λ z=>by obtain⟨_,_,_,_,g,_⟩:=at1 z;rw[q]at g;cases g];exact q
  ·rw[j4 λ z=>by obtain⟨_,_,_,_,g,_⟩:=at1 z;rw[q]at g;cases g];exact q
  ·rw[j4 λ z=>by obtain⟨_,_,_,_,g,_⟩:=at1 z;rw[q]at g;cases g];exact q
  ·rw[j4 λ z=>by obtain⟨_,_,_,d',g,_⟩:=at1 z;rw[q]at g;cases g;rw[d]at d';cases d'];exact q
structure CellsT(l:List Addr)(h:Heap)(H:Hp):Prop where
 at_:∀c∈l,∃o v,H c=some (.frz o (.own c))/\h.get? c=some o/\o.data=.cell v
noncomputable def ov(l:on Mq)(H H':Hp):Hp:=λ b=>if b∈l then H b else H' b
def mB{H':Hp}{b:Mq}(h:b∈l):ov l H H' b=H b:=d6 h
def V9{H':Hp}{b:Mq}(h:b∉l):ov l H H' b=H' b:=e7 h
def HOk.woC(C:CellsT l s.heap H)(x:HOk P w H s.heap):HOk P w (Nf l) s.heap:=λ b u e=>by
 obtain⟨hb,e⟩:=w4 e;refine(x b u e).stay (λ _ _ _ q=>q) (λ a q=>?_) (λ a _ q=>?_) (λ a _ q=>?_) λ a o' _ vs d q=>?_
 ·rw[j4 λ z=>by obtain⟨_,_,g,_⟩:=C.at_ _ z;rw[q]at g;cases g];exact q
 ·rw[j4 λ z=>by obtain⟨_,_,g,_⟩:=C.at_ _ z;rw[q]at g;cases g];exact q
 ·rw[j4 λ z=>by obtain⟨_,_,g,_⟩:=C.at_ _ z;rw[q]at g;cases g];exact q
 ·rw[j4 λ z=>by obtain⟨_,_,g,_,c⟩:=C.at_ _ z;rw[q]at g;cases g;rw[d]at c;cases c];exact q
def CE.woC(C:CellsT l s.heap H)(m:∀b∈frs outer,H b=none)(h:CE outer P w (Nf l) s Q' u s')(J:∀v i,(∀c∈l,i c=none)->Q' v i->Q v (ov l H i)):CE outer P w H s Q u s':=by
 obtain⟨v,i,F,p,un,A,r,q⟩:=h;have I:∀c∈l,c∉frs outer:=λ c y z=>by obtain⟨_,_,g,_⟩:=C.at_ c y;rw[m c z]at g;cases g
 have f:∀c∈l,i c=none:=λ c y=>by obtain⟨o,_,_,g,_⟩:=C.at_ c y;exact un.free c o g (aY y) MP
 refine⟨v,ov l H i,F,p,⟨λ b o e n m j=>?_,λ b o e n m j=>?_,λ b o e n j=>?_,un.there,λ b E e=>?_,λ b o x e=>?_,λ b x e=>?_⟩,λ b x e=>?_,r,J v i f q⟩
 ·have a:b∉l:=λ z=>by obtain⟨_,_,g,_⟩:=C.at_ b z;rw[n]at g;cases g
  exact un.keep b o e (by rw[j4 a];exact n) m j
 ·have a:b∉l:=λ z=>by obtain⟨_,_,g,_⟩:=C.at_ b z;rw[n]at g;cases g
  exact un.slot b o e (by rw[j4 a];exact n) m j
 ·have a:b∉l:=λ z=>by obtain⟨_,_,g,_⟩:=C.at_ b z;rw[n]at g;cases g
  rw[V9 a];exact un.free b o e (by rw[j4 a];exact n) j
 ·have a:b∉l:=λ z=>by obtain⟨_,_,g,_⟩:=C.at_ b z;rw[e]at g;cases g
  rw[V9 a];exact un.tups b E (by rw[j4 a];exact e)
 ·by_cases a:b∈l
  ·rw[mB a];exact e
  ·rw[V9 a];exact un.frzs b o x (by rw[j4 a];exact e)
 ·have a:b∉l:=λ z=>by obtain⟨_,_,g,_⟩:=C.at_ b z;rw[e]at g;cases g
  rw[V9 a];exact un.tbls b x (by rw[j4 a];exact e)
 ·by_cases a:b∈l
  ·rw[mB a]at e;obtain⟨o,_,g,K,_⟩:=C.at_ b a;rw[g]at e;cases e;have k:=un.keep b o K (aY a) (I b a) MP;exact⟨k,o,k⟩
  ·rw[V9 a]at e;refine(A b x e).stay (λ _ _ _ q=>q) (λ B q=>?_) (λ B _ q=>?_) (λ B _ q=>?_) λ B o' _ vs d q=>?_
   all_goals (rw[V9 λ z=>by rw[f _ z]at q;cases q];exact q)
end
end L2
end
noncomputable section
namespace L2
open PySem PySem.Spec PyProof.Rows
noncomputable def gE(P:Mw)(w:Mv)(K:MA)(mg:Str->Mn Mo)(base:Mr)(N:on Str)(qual:Str)(scope:MB)(f:Mq)(cd:Mo)(cl:on (Str×Mq))(A:My)(outer:on Env)(s:Mp)(H:Hp):Cx where
 prog:=P
 w:=w
 K:=K
 mg:=mg
 base:=base
 A:=A.deeper (PySem.W.envX qual scope s.heap.objs.size f cd cl)
 N:=N
 s₀:=s
 H₀:=H
 env:=PySem.W.envX qual scope s.heap.objs.size f cd cl
 outer:=outer
 stack:=PySem.W.envX qual scope s.heap.objs.size f cd cl::outer
 ex:=[]
 calm:=true
 fn:=λ _=>false
 pn:=[]
 xe:=λ _ _=>False
def Fj{P:Mw}{w:Mv}{K:MA}{base:Mr}{A:My}{j:on Env}{s:Mp}{H:Hp}{l:on Mq}{N ps:on Str}{q:Str}{scope:MB}{f:Mq}{M:on Mo}{vs ws:on V}{cd:Mo}{k:Mr}{tk:Nat}(S:LamScope N ps scope cl l)(C:CellsT l s.heap H)(hd:NT)(B:Env0 P w K mg base A j s H)(hl:vs.length=ps.length)(r:Vals vs M)(Z:N.length=ps.length+ws.length)
  (hw:∀i x v,N[ps.length+i]? = some x->ws[i]? = some v->∃c u,cl.lookup x=some c/\s.heap.IsCell c (some u)/\RelV v u)
  (Y:k.Ns s.heap.objs.size (λ x=>(ps.zip M).reverse.lookup x)) (R:∀b o,s.heap.get? b=some o->k.get? b=some o) :
  Inv (gE P w K mg base N q scope f cd cl A j s (Nf l)) [] ((vs++ws).map some) (Nf l) {s with heap:=k,toks:=tk}:=by
 have nl:∀{b:Mq},H b=none->b∉l:=λ {b} n z=>by obtain⟨_,_,g,_⟩:=C.at_ b z;rw[n]at g;cases g
 have I:∀b:Mq,b∉(gE P w K mg base N q scope f cd cl A j s (Nf l)).ex:=λ b z=>absurd (show b∈([]:on Mq)from z) MP;have U:∀{b:Mq},H b=none->L2.wo l H b=none:=λ {b} n=>by rw[j4 (nl n)];exact n
 have F:∀x c,cl.lookup x=some c->∃v,k.IsCell c v:=λ x c e=>by obtain⟨o,v,_,g,d⟩:=C.at_ c (S.mem x c e);exact⟨v,o,R _ _ g,d⟩
 refine⟨⟨B.mod,S.kind,rfl,rfl,f6 _,S.inj,λ y J=>?_,λ y c z=>(nomatch z),λ _=>hd,Around.frames_deeper B.frames,.inr ⟨rfl,rfl⟩,λ b z=>absurd z (I b),λ b o e=>⟨(B.bs b o e).1,U (B.bs b o e).2⟩,B.bsz,λ b _ _=>I b,λ b z=>absurd z (I b),B.funs,λ b hb=>U (B.frf.1 b hb),λ p L=>?_⟩,
  rfl,B.bare,Un.kept R,⟨_,Y,λ i y v Q O h3=>?_⟩,F,?_,λ y c h=>aY (S.mem y c h),λ p L=>absurd (show p∈([]:on (Mq×Obj))from L) MP,(HOk.woC C B.hok).kept R,?_⟩
 ·have J:=J;rcases J with J | J
  ·exact absurd rfl (S.nocell _ (A9 J))
  ·exact S.has y J
 ·have z:=B.frf.2 p L;show L2.wo l H p.1=_;rw[j4 λ m=>by obtain⟨_,_,g,_⟩:=C.at_ _ m;rw[z]at g;cases g];exact z
 ·have Q:N[i]? = some y:=Q;rw[n7]at O;have E:(vs++ws)[i]? = some v:=by
   cases z:(vs++ws)[i]? with
   | none=>rw[z]at O;cases O
   | some a=>rw[z]at O;exact congrArg some (z9 (z9 O))
  by_cases hi:i<ps.length
  ·rw[P8 KE]at E;obtain⟨u,hu,rv⟩:=r.get E;have L:ps[i]? = some y:=by rw[←S.pre,oY hi];exact Q
   have W:ps.Nodup:=by rw[←S.pre];exact S.nd.sublist (jl _ _)
   refine⟨u,rv,.inl ⟨S.par y (P9 L),?_⟩⟩;show(ps.zip M).reverse.lookup y=some u;have X:((ps.zip M).reverse.map (·.1)).Nodup:=by rw[List.map_reverse,List.map_fst_zip (by have:=r.length;omega)];exact List.pairwise_reverse.mpr (List.Pairwise.imp (λ h=>Ne.symm h) W)
   refine Y9 X (List.mem_reverse.mpr ?_);have hz:(ps.zip M)[i]? = some (y,u):=by rw[iK];exact⟨L,hu⟩
   exact P9 hz
  ·rw[P7 KE]at E;obtain⟨c,u,e1,e2,e3⟩:=hw (i - vs.length) y v (by rw[show ps.length+(i - vs.length)=i by omega];exact Q) E;exact⟨u,e3,.inr ⟨.inr (S.fre i y KE Q),c,e1,e2.keeps R⟩⟩
 ·show L2.wo l H s.heap.objs.size=none;exact U (B.hok.fresh (f6 _))
 ·show((vs++ws).map some).length=N.length;rw[d9,p7];omega
def Fk{K:MA}(S:LamScope N ps scope cl l)(C:CellsT l s.heap H)(M:A.depth<recursionLimit/\A.handled=none)(m:Env0 P w K mg base A outer s H)(hf:J3 H q params body scope cl f)
  (h:∀B a j,bindArgs (PySem.W.kla_fn "<lambda>" q params body scope cl B (.ref a) j) ⟨us,[]⟩=pure (ps.zip us)) (hl:vs.length=ps.length) (r:Vals vs us) (p:N.length=ps.length+ws.length)
  (Y:∀i x v,N[ps.length+i]? = some x->ws[i]? = some v->∃c u,cl.lookup x=some c/\s.heap.IsCell c (some u)/\RelV v u)
  (g:∀a,∃t,PE (gE P w K mg base N q scope f (.ref a) cl A outer s (Nf l)) body t/\t ((vs++ws).map some) (Nf l) (λ v k=>(∀c∈l,k c=none)->Q v (ov l H k))) :
  codeAny NY A (.call (.ref f) ⟨us,[]⟩) (CR CX outer P w H s Q E) s:=by
 obtain⟨a,W,u,y,t,B,j,h1,h2,h3,h4⟩:=hf;refine PySem.W.kla_callFunE M.1 ((m.hok f _ h1).1) rfl S.co S.gen rfl ⟨a,W,y,t,rfl,((m.hok a _ h2).1),h3,h4⟩ ?_;show wpAny _ _ _ _ _ s;rw[h B a j];refine e8 (wpAny_newFunctionEnv S.nocell (λ x X=>S.par x.1 (eX X).1) (λ L I n=>⟨(m.mod.nolimit.keeps λ b o e=>(m.bs b o e).1).fresh _ n,?_⟩) S.kind);show codeAny _ _ _ _ _;obtain⟨t,Z,hq⟩:=g a;exact PySem.W.kla_codeExpr (A8 (Z [] _ _ _ _ (Fj S C M.2 m hl r p Y I (λ b o e=>n.extBut b o (n9 (j6 e)) (i5 _ e))) hq) (λ v R ⟨O,k,J,U,z⟩=>CE.woC (Q':=λ v k=>(∀c∈l,k c=none)->Q v (ov l H k)) C m.frf.1 ⟨O,k,J.os,J.bare,J.base,J.hok,U,z⟩ λ _ _ z q=>q z) λ e R z=>(z:False).elim)
structure RoomL(k:Nat)(A:Around):Prop where
 hd:A.handled=none
 dp:A.depth+3*k+5<recursionLimit
 un:A.units+16*k+198<cLine
def Room.toL(r:Room k A):RoomL k A:=⟨r.hd,r.dp,by have:=r.un;omega⟩
def Room.toL2(r:Room k A):RoomL k A.in1.in1:=⟨r.hd,r.dp,by have:=r.un;show A.units+1+1+16*k+198<_;omega⟩
theorem RoomL.deeper(r:RoomL (k+1) A)(env:Env):Room k (A.deeper env):=
 ⟨r.hd,by have:=r.dp;show A.depth+1+3*k+5<_;omega,by have:=r.un;show A.units+3+16*k+200<_;omega⟩
def RoomL.ok(r:RoomL k A):A.depth<recursionLimit/\A.handled=none:=⟨by have:=r.dp;omega,r.hd⟩
def ae(P:Mw)(w:Mv)(K:MA)(mg:Str->Mn Mo)(base:Mr)(fn bl cl:on Str)(k:Nat)(Fl:on DV->Mn Ou):Prop:=
 ∀(A:My) (outer:on Env) (s:Mp) (H:Hp) (us:on Mo) (vs:on V) (Q:VK) (E:XK) (O:on Mq) (f:Mq) (m:LamD) (cs ds:on DV) (d:DV),RoomL k A->Env0 P w K mg base A outer s H->Vals vs us->Hdn O H->m.fn=fn->m.bl=bl->m.cl=cl ->
  Rep ⟨K,mg⟩ (Nf O) (.lam m cs) (.ref f)->RepL ⟨K,mg⟩ (Nf O) ds vs->Fl (.lam m cs::ds)=some (.v d false)->(∀v H',Same H H'->Rep ⟨K,mg⟩ (L2.wo O H') d v->Q v H') ->
  codeAny NY A (.call (.ref f) ⟨us,[]⟩) (CR CX0 outer P w H s Q E) s
def tK{m:LamD}{cs:on DV}{X:Cx}{pins:on (Mq×Obj)}{σ:St}{H:Hp}{s:Mp}{O:on Mq}{f:Mq}(I:MN pins)(h:Rep X.D (Nf O) (.lam m cs) (.ref f)):PySem.W.FnAt f s.heap:=by
 obtain⟨f',pr,bd,sc,q,cl,l,ws,e1,⟨c',oc,u,vs,t,pm,ctv,h1,_⟩,_⟩:=aW.mp h;cases e1;exact⟨_,_,_,_,(I.hok _ _ (w4 h1).2).1⟩
def Fm{K:Mn Rs}(lo:ae X.prog X.w X.K X.mg X.base fn bl cl k (F u7))(hr:Room k X.A)(hv:PE X (.Name x p) (tVar i))(h1:m.fn=fn)(h2:m.bl=bl)(h3:m.cl=cl)(S:NA (.lam m cs))
  (ha:∀q,K=some q->PA X (e::es) (dA X.D δ q)) (hs:l9 e=false) (M:es.any l9=false) (h:(Rs.thn K λ l=>Z1 F m cs l)=some L):PE X Ny (dE X.D δ L):=by
 have C:∀{t:TA},PA X (e::es) t->PE X Ny (λ c H Q=>∃(O W:on Mq) (v:V),RSt X.D H c δ O W/\c[i]? = some (some v)/\t c H λ B b=>Same H b/\∃J d,RepL X.D (L2.wo (O++W) b) J B/\F u7 (.lam m cs::J)=some (.v d false)/\∀v y,Same b y->Rep X.D (L2.wo (O++W) y) d v->Q v y):=λ {t} A=>by
  intro a s c H Q I h;obtain⟨O,W,v,R,U,h⟩:=h;obtain⟨v',E,w⟩:=R.val i _ S;rw[U]at E;cases E;obtain⟨f,_,_,_,_,_,_,_,ev,_⟩:=aW.mp w;subst ev;refine X5 (thn (hv a s c H (λ v b=>v=.ref f/\b=H) I ⟨_,U,rfl,rfl⟩) λ u s1 t0=>?_);obtain⟨v,b,Z,r1,q1,q2⟩:=t0;subst q1 q2;obtain rfl:u=Value.ref f:=r1;refine PySem.W.callWith_F (tK Z w) (thn (A pos a s1 c b _ Z h) λ us s2 ⟨B,H2,P,r,sm,J,d,N,g2,g3⟩=>?_) (p9 hs) (Z9 es M);have Y:=w.mono sm.wo;refine⟨tK P Y,?_⟩;refine cH (O0 (lo X.A X.stack s2 H2 us B Q (λ _ _ _=>False) (O++W) f m cs J d hr.toL P.env0 r (R.hid.mono sm).hdA h1 h2 h3 Y N g2 g3) λ r s' o=>?_);cases r with
  | error e=>exact(o:False).elim
  | ok fl=>
   cases fl with
   | ret u=>exact P.after o
   | next=>exact False.elim o
   | brk=>exact False.elim o
   | cont=>exact False.elim o
 cases j:K with
 | none=>rw[j]at h;cases h
 | some q=>
  rw[j]at h;have A:=ha q j;cases q with
  | ok l=>
   have n:Z1 F m cs l=some L:=h;unfold Z1 at n;split at n
   ·rename_i z;split at n
    ·rename_i d E;cases n;exact(C A).weak λ c H Q ⟨O,W,R,p⟩=>by obtain⟨v,w,_⟩:=R.val i _ S;exact⟨O,W,v,R,w,O,W,R,λ B b s1 N=>⟨s1,_,d,N.strong MX z,E,λ v y s g=>p v y (s1.trans s) g⟩⟩
    ·cases n
   ·cases n
section
variable {D:Dm} {O l:on Mq} {H:Hp}
def bj(d:∀c∈l,∃o,H c=some (.frz o (.own c)))(h:L2.wo O H b=some u)(a:∀o c,u ≠ .frz o (.own c)):L2.wo O (Nf l) b=some u:=by
 obtain⟨f,e⟩:=w4 h;rw[j4 f,j4 λ z=>by obtain⟨o,g⟩:=d b z;rw[e]at g;cases g;exact a _ _ rfl];exact e
mutual
theorem tL(hl:∀c∈l,∃o,H c=some (.frz o (.own c))):∀{d:DV} {v:V},d.nolam=true->Rep D (Nf O) d v->Rep D (L2.wo O (Nf l)) d v
 | .non,_,_,h=>by unfold Rep at h ⊢;exact h
 | .bl _,_,_,h=>by unfold Rep at h ⊢;exact h
 | .int _,_,_,h=>by unfold Rep at h ⊢;exact h
 | .str _,_,_,h=>by unfold Rep at h ⊢;exact h
 | .tup ds,_,m,h=>by
  unfold Rep at h ⊢;obtain⟨a,xs,e1,e2,e3⟩:=h;unfold DV.nolam at m;refine⟨a,xs,e1,?_,af hl m e3⟩;rcases e2 with(h | ⟨o,h⟩) | h
  ·exact .inl (.inl (bj hl h (by intro o c z;cases z)))
  ·exact .inl (.inr ⟨o,bj hl h (by intro o c z;cases z)⟩)
  ·exact .inr h
 | .lst ds,_,m,h=>by unfold Rep at h ⊢;obtain⟨a,xs,e1,e2,e3⟩:=h;unfold DV.nolam at m;exact⟨a,xs,e1,bj hl e2 (by intro o c z;cases z),af hl m e3⟩
 | .dct _ _,_,m,h=>by
  unfold Rep at h ⊢;unfold DV.nolam at m;rcases h with⟨a,ob,kvs,e1,e2,e3,e4⟩ | ⟨a,ob,kvs,e1,e2,e3,e4⟩
  ·exact .inl ⟨a,ob,kvs,e1,bj hl e2 (by intro o c z;cases z),e3,af hl m e4⟩
  ·exact .inr ⟨a,ob,kvs,e1,bj hl e2 (by intro o c z;cases z),e3,af hl m e4⟩
 | .fn _,_,_,h=>by unfold Rep at h ⊢;exact h
 | .lam _ _,_,m,_=>by unfold DV.nolam at m;cases m
 | .scr _,_,_,h=>by
  unfold Rep at h ⊢;obtain⟨a,e1,e2⟩:=h;refine⟨a,e1,?_⟩;rcases e2 with⟨o,h⟩ | h
  ·exact .inl ⟨o,bj hl h (by intro o c z;cases z)⟩
  ·exact .inr h
theorem af(hl:∀c∈l,∃o,H c=some (.frz o (.own c))):∀{ds:on DV} {xs:on V},DV.nolams ds=true->RepL D (Nf O) ds xs->RepL D (L2.wo O (Nf l)) ds xs
 | [],_,_,h=>by unfold RepL at h ⊢;exact h
 | d::ds,_,m,h=>by unfold RepL at h ⊢;obtain⟨v,vs,e1,e2,e3⟩:=h;unfold DV.nolams at m;rw[d8]at m;exact⟨v,vs,e1,tL hl m.1 e2,af hl m.2 e3⟩
end
end
section
variable {X:Cx} {pins:on (Mq×Obj)} {σ:St} {H:Hp} {s:Mp} {sc:MB} {N ps:on Str}
def mD(d:∀y∈sc.names,y.2=NameKind.free->∃a,b.lookup y.1=some a)(h:(l8 b sc.names []).lookup x=some c):b.lookup x=some c/\(x,NameKind.free)∈sc.names:=by
 rcases cM d (A9 h)with z | z
 ·cases z
 ·exact z
def mE(g:∀y∈sc.names,y.2=NameKind.free->∃a,b.lookup y.1=some a)(f:(x,NameKind.free)∈sc.names)(d:b.lookup x=some c):(l8 b sc.names []).lookup x=some c:=by
 obtain⟨c',e⟩:=kX (fL f d);have:=(mD g e).1;rw[d]at this;cases this;exact e
structure LamTx(N ps:List Str)(sc:Scope):Prop where
 kind:sc.kind=.function
 co:sc.isCoroutine=false
 gen:sc.isGenerator=false
 nd:N.Nodup
 pre:N.take ps.length=ps
 par:∀x∈ps,sc.names.lookup x=some .local
 nocell:∀y∈sc.names,y.2 ≠ .cell
 fre:∀i x,ps.length<=i->N[i]? = some x->sc.names.lookup x=some .free
def LamTx.full(T:LamTx N ps sc)(I:MN pins)(b:NX):LamScope N ps sc Nt ((Nt).map (·.2)) where
 kind:=T.kind
 co:=T.co
 gen:=T.gen
 nd:=T.nd
 pre:=T.pre
 par:=T.par
 nocell:=T.nocell
 fre:=T.fre
 has:=λ x h=>by have d:=A9 h;obtain⟨c,e⟩:=b _ d rfl;exact⟨c,mE b d e⟩
 inj:=λ x y c g f=>I.ok.inj x y c (mD b g).1 (mD b f).1
 mem:=λ x c h=>g9.mpr ⟨_,A9 h,rfl⟩
def mF(I:MN pins)(d:NX):∀c∈(l8 X.env.cells sc.names []).map (·.2),∃x,X.env.cells.lookup x=some c/\(x,NameKind.free)∈sc.names:=λ c e=>by
 obtain⟨⟨x,c'⟩,b,rfl⟩:=g9.mp e;rcases cM d b with z | z
 ·cases z
 ·exact⟨x,z.1,z.2⟩
def Cells.of(I:MN pins)(f:NX):Cells ((Nt).map (·.2)) s.heap H where
 none:=λ c b=>by obtain⟨x,e,_⟩:=mF I f c b;exact I.freeC x c e
 cel:=λ c b=>by obtain⟨x,e,_⟩:=mF I f c b;obtain⟨v,o,g,d⟩:=I.cell x c e;exact⟨o,v,g,d⟩
def Fn(I:MN pins)(h:NX)(d:∀y∈sc.names,y.2=NameKind.free->X.fn y.1=true):∀c∈(l8 X.env.cells sc.names []).map (·.2),X.base.get? c=none/\c∉frs X.stack:=λ c i=>by
 obtain⟨x,e,g⟩:=mF I h c i;have b:=I.ok.cab x c (d _ g rfl) e;refine⟨X3 (e9 I.ok.bsz b),λ z=>?_⟩;rcases f8.mp (I.stkSub c z)with w | w
 ·exact I.cne x c e w
 ·obtain⟨_,o,f,_⟩:=I.ok.funs.mem w
  exact absurd (o4 (j6 f) b) (J8 _)
end
section
variable {X:Cx} {δ:on Sv} {ea eb bd:Ms} {pos p lp:Pos} {re:Re} {k:Nat} {x:Str} {pr:MC} {sc:MB} {c P:Mq} {m:LamD} {cs:on DV} {fr:on Nat}
def tLam(X:Cx)(pr:MC)(bd:Ms)(sc:MB):TE:=λ _ H Q=>∀f H',Same H H'->H f=none->J3 H' NU pr bd sc Nt f->Q (.ref f) H'
def tM(L:LamAt X sc c P)(a:defaultsOf pr X.env=([],[])):PE X (.Lambda pr bd sc lp) (tLam X pr bd sc):=by
 intro b s σ H Q I h;exact Fi I L a λ f d s' g sm e lf=>⟨.ref f,d,g,rfl,h f d sm e lf⟩
theorem mG(R:RSt D H σ δ O W):∀{b:on Nat} {cs:on DV},capD δ b=some cs->∃a:on V,a.length=b.length/\RepL D Nc cs a/\∀(j i:Nat) v,b[j]? = some i->a[j]? = some v->σ[i]? = some (some v)
 | [],cs,h=>by cases h;exact⟨[],rfl,by unfold RepL;rfl,λ j i v h=>by cases h⟩
 | i::r,cs,h=>by
  unfold capD at h;split at h
  ·rename_i d ds q p;split at h
   ·cases h;obtain⟨a,l,k,g⟩:=mG R p;obtain⟨v,o,n⟩:=R.val i d q;refine⟨v::a,by rw[l4,l4,l],r6.mpr ⟨v,a,rfl,n,k⟩,λ j m f e c=>?_⟩;cases j with
    | zero=>cases e;cases c;exact o
    | succ j=>exact g j m f e c
   ·cases h
  ·cases h
def Q3(X:Cx)(δ:on Sv)(F:NE)(f:Nat)(m:LamD)(cs:on DV)(pr:MC)(bd:Ms)(sc:MB)(σ:St)(Q:VK):on V->Hp->Prop:=λ vs H3=>∃va vb f' O W da db d,vs=[va,vb,.ref f']/\RSt X.D H3 σ δ O W/\f'∉O++W/\J3 H3 NU pr bd sc Nt f' /\
 RepL X.D (L2.wo (O++W) H3) [da,db] [va,vb]/\F f [da,db,.lam m cs]=some (.v d false)/\d.nolam=true/\∀v H',Same H3 H'->Rep X.D (L2.wo (O++W) H') d v->Q v H'
def Fo(fo:FnOk X.prog X.w X.K X.mg X.base (CX0) k fa fd ps (spF X.D ps.length (F f)))(hn:∀ds o,F f ds=some o->ds.length=ps.length)(hr:Room k X.A)(hg:Gl X x)(hm:X.mg x=some (.ref fa))(hk:PySem.W.keepIn X.K (.ref fa)=true)
  (hb:K1 X.K fd ps []) (b6:Np=false) (a3:l9 ea=false) (a2:l9 eb=false)
  (L:LamAt X sc c P) (a6:defaultsOf pr X.env=([],[])) (T:LamTx m.N (m.N.take m.np) sc) (a4:∀{n:on (Mq×Obj)} {Y:on (Mn V)} {H:Hp} {s:Mp},Inv X n Y H s->∀c∈(l8 X.env.cells sc.names []).map (·.2),X.base.get? c=none/\c∉frs X.stack) (a7:S8 m pr bd sc=true) (hN:m.N.length=m.np+fr.length) (a0:Ni)
  (b0:capD δ fr=some cs) (ha:PE X ea (dE X.D δ ra)) (hB:∀q,rb=some q->PE X eb MR)
  (h:(Re.thn (some ra) λ x cx=>Re.thn rb λ y cy=>aR F f [(x,cx),(y,cy)] (.lam m cs))=some re):PE X (.Call (.Name x p) [ea,eb,.Lambda pr bd sc lp] [] pos) (dE X.D δ re):=by
 have C:∀{ta tb:TE},PE X ea ta->PE X eb tb->PE X (.Call (.Name x p) [ea,eb,.Lambda pr bd sc lp] [] pos) (λ Y H Q=>aP ta (aP tb (aP (tLam X pr bd sc) tNil)) Y H (Q3 X δ F f m cs pr bd sc Y Q)):=λ {ta tb} A B=>by
  intro n s Y H Q I h;refine X5 (ki I hg hm ?_ b6);refine jf (h₀:=X.base) I.ok.mod.kin hk (thn ((F9 A (F9 B (F9 (tM L a6) (O4) (by rfl)) (p9 a2)) (p9 a3)) pos n s Y H _ I h) λ us s1 ⟨vs,H3,J,r,q⟩=>⟨J.kIn,?_⟩) (p9 a3) (by rw[p9 a2];rfl);obtain⟨va,vb,f',O,W,da,db,d,e0,R,nO,lf,rp,hF,hd,hq⟩:=q;subst e0;generalize hl:(Nt).map (·.2)=l;have U:=Cells.of (sc:=sc) J (L.has J.ok);rw[hl]at U;have nw:=a4 J;rw[hl]at nw;have S:=T.full J (L.has J.ok);rw[hl]at S;obtain⟨ws,w1,w2,w3⟩:=mG R b0;have same:=U.same;have hdA:=R.hid.hdA;have lamR:Rep X.D (L2.wo (O++W) (trC l s1.heap H3)) (.lam m cs) (.ref f'):=by
   have ou:∀{b:Mq} {o:Obj} {u:HO},H3 b=some (.frz o u)->b∉O++W:=λ {b o u} e z=>by obtain⟨o',K,q2⟩:=hdA b z;rw[e]at K;cases K;cases q2
   have oc:∀{b:Mq},b∈l->b∉O++W:=λ {b} hb z=>by obtain⟨o',K,q2⟩:=hdA b z;rw[U.none b hb]at K;cases K
   refine aW.mpr ⟨f',pr,bd,sc,X.env.qual ++ "<lambda>",l8 X.env.cells sc.names [],l,ws,rfl,?_,a7,S,w2.mono same.wo,by rw[hN,w1],λ c M=>?_,λ i y v h1 h2=>?_⟩
   ·obtain⟨c',b2,u,vs,t,pm,b9,h1,h2,h3⟩:=lf;exact⟨c',b2,u,vs,t,pm,b9,by rw[j4 (ou h1)];exact same _ _ h1,by rw[j4 (ou h2)];exact same _ _ h2,h3⟩
   ·obtain⟨o,v,g,d'⟩:=U.cel c M;exact⟨o,v,by rw[j4 (oc M)];exact aa M g,d'⟩
   ·have hi:i<fr.length:=by rw[←w1];exact(w5.mp h2).1
    have hj:fr[i]? = some fr[i]:=i6 hi;obtain⟨y',K,q2,q3⟩:=a0 i _ hj;rw[h1]at K;cases K;have hv:=w3 i _ v hj h2;obtain⟨mm,hn',b5⟩:=J.loc;obtain⟨u,rv,lk⟩:=b5 _ y v q2 hv (.inr q3);rcases lk with⟨k1,_⟩ | ⟨k1,cc,k2,o,k3,k4⟩
    ·have k1:=k1;rcases q3 with q3 | q3<;>(rw[q3]at k1;cases k1)
    ·have a5:=A9 (T.fre (m.np+i) y (by rw[U2];exact e9 (jI _ _) (E3 _ _)) h1);have a8:=mE (L.has J.ok) a5 k2;have a9:cc∈l:=S.mem y cc a8;exact⟨cc,o,u,a8,by rw[j4 (oc a9)];exact aa a9 k3,k4,rv⟩
  have sp:spF X.D ps.length (F f) ([va,vb,.ref f']++[]) (trC l s1.heap H3) (λ v H'=>Same (trC l s1.heap H3) H'/\Rep X.D (L2.wo (O++W) H') d v) (λ _ _ _=>False):=by
   rw[x4];refine⟨O++W,[da,db,.lam m cs],_,λ a ha=>?_,hn _ _ hF,?_,hF,λ v H' s g=>⟨s,g⟩⟩
   ·obtain⟨o,K,q2⟩:=hdA a ha;exact⟨o,same _ _ K,q2⟩
   ·obtain⟨v1,r1,e1,g1,g2⟩:=r6.mp rp;obtain⟨v2,r2,e2,g3,g4⟩:=r6.mp g2;cases e1;cases e2;exact r6.mpr ⟨_,_,rfl,g1.mono same.wo,r6.mpr ⟨_,_,rfl,g3.mono same.wo,r6.mpr ⟨_,_,rfl,lamR,y9.mpr rfl⟩⟩⟩
  have b4:(us++[]).length=ps.length:=by rw[x4,←r.length];exact fo.len _ _ _ _ (by rw[x4]at sp;exact sp)
  have bi:=hb s1 us J.kIn b4;rw[x4]at bi;rw[x4]at sp;refine cH (O0 (fo.run X.A X.stack s1 (trC l s1.heap H3) ⟨us,[]⟩ us [va,vb,.ref f'] _ _ hr (Env0.trC U (λ c M=>(nw c M).1) (λ c M=>(nw c M).2) J.env0) bi r sp) λ r s' E=>?_);cases r with
  | error e=>exact(E:False).elim
  | ok fl=>
   cases fl with
   | ret u=>
    refine J.after (Q:=Q) (CE.trC (Q:=Q) U E (λ v H' sm z=>?_) λ v H' z=>z.1);refine hq v _ (λ b o e=>?_) (tL (λ c M=>?_) hd z.2)
    ·rw[j4 λ w=>by rw[U.none b w]at e;cases e];exact sm _ _ (same _ _ e)
    ·obtain⟨o,v,g,_⟩:=U.cel c M;exact⟨o,sm _ _ (aa M g)⟩
   | next=>exact False.elim E
   | brk=>exact False.elim E
   | cont=>exact False.elim E
 cases ra with
 | ok dx cx=>
  cases a1:rb with
  | none=>rw[a1]at h;cases h
  | some b1=>
  have b8:=hB _ a1;rw[a1]at h;cases b1 with
  | ok dy cy=>
   have N:aR F f [(dx,cx),(dy,cy)] (.lam m cs)=some re:=h;unfold aR at N;split at N
   ·rename_i z;split at N
    ·rename_i d e1;split at N
     ·rename_i nl;cases N;refine(C ha b8).weak λ Y H Q ⟨O,W,R,p⟩=>⟨O,W,R,λ va H1 s1 g1=>⟨O,W,R.mono s1,λ vb H2 s2 g2=>λ f' H3 s3 b3 lf=>?_⟩⟩
      have Z:=(s1.trans s2).trans s3;have b7:=R.hid.mono Z;refine⟨va,vb,f',O,W,dx,dy,d,rfl,R.mono Z,λ w=>R.hid.ot f' w ((s1.trans s2).free b3),lf,?_,e1,nl,λ v H' s g=>p v H' (Z.trans s) g⟩;have gl:GotL X.D O W H H3 [(dx,cx),(dy,cy)] [va,vb]:=.cons (g1.mono (s2.trans s3)) (.cons ((g2.since s1).mono s3) .nil);exact gl.strong b7 z
     ·cases N
    ·cases N
   ·cases N
end
section
variable {X:Cx} {δ:on Sv} {v:Ms} {te:TE} {pos kpos:Pos} {i:Int} {j:Nat}
def P1(c:H p=some (.dK []))(h:L2.wo O H b=some u)(a:u ≠ .dK []):L2.wo O (upd H p o) b=some u:=by
 obtain⟨d,e⟩:=w4 h;rw[j4 d,j8 (λ z=>by rw[z,c]at e;cases e;exact a rfl)];exact e
mutual
theorem Fp{D:Dm}{O:on Mq}{H:Hp}{p:Mq}{o:HO}(hp:H p=some (.dK [])):∀{d:DV} {v:V},Rep D (Nf O) d v->Rep D (L2.wo O (upd H p o)) d v
 | .non,_,h=>by unfold Rep at h ⊢;exact h
 | .bl _,_,h=>by unfold Rep at h ⊢;exact h
 | .int _,_,h=>by unfold Rep at h ⊢;exact h
 | .str _,_,h=>by unfold Rep at h ⊢;exact h
 | .tup ds,_,h=>by
  unfold Rep at h ⊢;obtain⟨a,xs,e1,e2,e3⟩:=h;refine⟨a,xs,e1,?_,bn hp e3⟩;rcases e2 with(h | ⟨o,h⟩) | h
  ·exact .inl (.inl (P1 hp h MO))
  ·exact .inl (.inr ⟨o,P1 hp h MO⟩)
  ·exact .inr h
 | .lst ds,_,h=>by unfold Rep at h ⊢;obtain⟨a,xs,e1,e2,e3⟩:=h;exact⟨a,xs,e1,P1 hp e2 MO,bn hp e3⟩
 | .dct _ _,_,h=>by
  unfold Rep at h ⊢;rcases h with⟨a,ob,kvs,e1,e2,e3,e4⟩ | ⟨a,ob,kvs,e1,e2,e3,e4⟩
  ·exact .inl ⟨a,ob,kvs,e1,P1 hp e2 MO,e3,bn hp e4⟩
  ·exact .inr ⟨a,ob,kvs,e1,P1 hp e2 MO,e3,bn hp e4⟩
 | .fn _,_,h=>by unfold Rep at h ⊢;exact h
 | .lam m cs,_,h=>by
  unfold Rep at h ⊢;obtain⟨f,pr,bd,sc,q,cl,l,ws,e1,⟨c',oc,u,vs,t,pm,ctv,f1,f2,f3⟩,e3,e4,e5,g1,g2,g3⟩:=h;refine⟨f,pr,bd,sc,q,cl,l,ws,e1,⟨c',oc,u,vs,t,pm,ctv,P1 hp f1 MO,P1 hp f2 MO,f3⟩,e3,e4,bn hp e5,g1,λ c hc=>?_,λ i x v h1 h2=>?_⟩
  ·obtain⟨o,v,k1,k2⟩:=g2 c hc;exact⟨o,v,P1 hp k1 MO,k2⟩
  ·obtain⟨c,o,u,k1,k2,k3⟩:=g3 i x v h1 h2;exact⟨c,o,u,k1,P1 hp k2 MO,k3⟩
 | .scr _,_,h=>by
  unfold Rep at h ⊢;obtain⟨a,e1,e2⟩:=h;refine⟨a,e1,?_⟩;rcases e2 with⟨o,h⟩ | h
  ·exact .inl ⟨o,P1 hp h MO⟩
  ·exact .inr h
theorem bn{D:Dm}{O:on Mq}{H:Hp}{p:Mq}{o:HO}(hp:H p=some (.dK [])):∀{ds:on DV} {xs:on V},RepL D (Nf O) ds xs->RepL D (L2.wo O (upd H p o)) ds xs
 | [],_,h=>by unfold RepL at h ⊢;exact h
 | d::ds,_,h=>by unfold RepL at h ⊢;obtain⟨v,vs,e1,e2,e3⟩:=h;exact⟨v,vs,e1,Fp hp e2,bn hp e3⟩
end
end
structure Wk(D:Dm)(J:It)(ds:List DV)(Oc Oi:List Addr)(H1:Hp):Prop where
 go:∀i H,Same (L2.wo Oc H1) (Nf Oc)->i<ds.length->J.go i H
 same:∀i H x H',J.yld i H x H'->Same H H'
 yld:∀i H x H' d O2,Same (L2.wo Oc H1) (Nf Oc)->Same (L2.wo Oi H1) (Nf Oi)->J.yld i H x H'->ds[i]? = some d->(∀a∈O2,H a≠none/\(a∈Oi\/H1 a=none))->Rep D (L2.wo O2 H') d x
 stop:∀H,Same (L2.wo Oc H1) (Nf Oc)->J.stop ds.length H
def hidW(O W:on Mq):Cl->on Mq
 | .top=>O
 | .weak=>O
 | _=>O++W
def Fq(D:Dm)(O W:on Mq)(H:Hp)(R:It->Hp->Prop):Ri->Prop
 | .ok ds c=>∀J H',Same H H'->Wk D J ds (hidW O W c) (F0 O W c) H'->R J H'
def dI(D:Dm)(δ:on Sv)(r:Ri):TI:=λ σ H R=>∃O W,RSt D H σ δ O W/\Fq D O W H R r
def PI.weak(h:PI X tg a t)(k:∀b H R,t' b H R->t b H R):PI X tg a t':=λ c s b H R I q=>h c s b H R I (k b H R q)
def gF(s:Same (L2.wo O c) (Nf O))(h:∀a∈d,H a≠none/\(a∈O\/c a=none)):Same (L2.wo O c) (L2.wo d H):=λ b o e=>by
 have q:=s b o e;obtain⟨f,e⟩:=w4 e;obtain⟨_,q⟩:=w4 q;rw[j4 λ z=>?_]
 ·exact q
 ·rcases(h b z).2 with w | w
  ·exact f w
  ·rw[w]at e;cases e
def Wk.list(h:SqL D.K (L2.wo f b) a xs)(r:RepL D (L2.wo c b) ds xs):Wk D (Itl D.K a) ds f c b where
 go:=λ i H s hi=>⟨xs,xs[i]'(by rwa [r.length]),o8.seq (s.seq h),i6 _⟩
 same:=λ i H x n y=>by rw[y.1];exact Same.refl _
 yld:=λ i H x n d O2 s g y e l=>by obtain⟨m,y⟩:=y;subst m;obtain⟨v,k,j⟩:=r.get e;have:=y xs (o8.seq (s.seq h));rw[k]at this;cases this;exact j.mono (gF g l)
 stop:=λ H s=>⟨xs,o8.seq (s.seq h),by rw[r.length];exact f6 _⟩
def Wk.tup(h:SqT D.K (L2.wo f b) a xs)(r:RepL D (L2.wo c b) ds xs):Wk D (Itt D.K a) ds f c b where
 go:=λ i H s hi=>⟨xs,xs[i]'(by rwa [r.length]),o8.tseq (s.tseq h),i6 _⟩
 same:=λ i H x n y=>by rw[y.1];exact Same.refl _
 yld:=λ i H x n d O2 s g y e l=>by obtain⟨m,y⟩:=y;subst m;obtain⟨v,k,j⟩:=r.get e;have:=y xs (o8.tseq (s.tseq h));rw[k]at this;cases this;exact j.mono (gF g l)
 stop:=λ H s=>⟨xs,o8.tseq (s.tseq h),by rw[r.length];exact f6 _⟩
def mH(a:Int)(n:Nat):(upTo a n).length=n:=by unfold upTo;rw[d9,q9]
def Fs(h:(upTo a n)[i]? = some d):i<n/\d=.int (a+i):=by
 have b:i<n:=by have:=(w5.mp h).1;rw[mH]at this;exact this
 unfold upTo at h;rw[n7,T9 b]at h;cases h;exact⟨b,rfl⟩
def Wk.range(a:Int)(n:Nat):Wk D (Itr a n) (upTo a n) h g j where
 go:=λ i H s b=>by rw[mH]at b;exact b
 same:=λ i H x k y=>by rw[y.1];exact Same.refl _
 yld:=λ i H x k d O2 s s' y e ho=>by obtain⟨f,y⟩:=y;subst f;obtain⟨_,c⟩:=Fs e;subst c;exact v5.mpr y
 stop:=λ H s=>by rw[mH];exact f6 _
def Got.walkL(g:Got D O W f H (MZ ds) c v)(hd:NG f):∃a xs,v=.ref a/\SqL D.K (Nf (hidW O W c)) a xs/\RepL D (Nf (F0 O W c)) ds xs:=by
 cases c with
 | weak=>obtain⟨a,xs,e,d,b⟩:=G3.mp g;exact⟨a,xs,e,SqL.of d,b⟩
 | top=>obtain⟨a,xs,e,e0,d,b⟩:=g;exact⟨a,xs,e,SqL.of d,b⟩
 | strong=>obtain⟨a,xs,e,d,b⟩:=G3.mp g;exact⟨a,xs,e,SqL.of d,b⟩
 | fresh=>obtain⟨a,xs,e,d,b⟩:=G3.mp (g.strong hd);exact⟨a,xs,e,SqL.of d,b⟩
def Got.walkT(g:Got D O W b H (.tup ds) c v)(hd:NG b):∃a xs,v=.ref a/\SqT D.K (Nf (hidW O W c)) a xs/\RepL D (Nf (F0 O W c)) ds xs:=by
 cases c with
 | weak=>exact B5.mp g
 | top=>
  obtain⟨a,xs,f,e,d⟩:=B5.mp (g);exact⟨a,xs,f,(D9 dB).tseq e,d⟩
 | strong=>exact B5.mp g
 | fresh=>obtain⟨_,_,_,_,q,_⟩:=g;cases q
def Got.walkS(g:Got D O W f H (.scr e) c v)(hd:NG f):∃a,v=.ref a/\SqL D.K (Nf (hidW O W c)) a (e.map V.int):=by
 cases c with
 | weak=>obtain⟨a,d,b⟩:=Z8.mp g;exact⟨a,d,b.sq⟩
 | top=>obtain⟨a,d,b⟩:=Z8.mp (g);exact⟨a,d,(D9 dB).seq b.sq⟩
 | strong=>obtain⟨a,d,b⟩:=Z8.mp g;exact⟨a,d,b.sq⟩
 | fresh=>obtain⟨_,_,_,_,q,_⟩:=g;cases q
def tN(s:∀q,l=some q->PE X e MR)(h:m9 l=some o):PI X tg e (dI X.D δ o):=by
 cases g:l with
 | none=>rw[g]at h;cases h
 | some q=>
  rw[g]at h;have A:=s q g;cases q with
  | ok d c=>
   obtain⟨ds,b,f⟩:=o9.mp (h);cases f;unfold seqD at b;split at b
   ·cases b;exact(pX A).weak λ n H r ⟨O,W,R,p⟩=>⟨O,W,R,λ v j s1 i=>by
     obtain⟨a,b,f⟩:=i.walkS MX;exact⟨a,b,⟨_,o8.seq f⟩,p _ j s1 (.list f (lX _))⟩⟩
   ·cases b;exact(pX A).weak λ n H r ⟨O,W,R,p⟩=>⟨O,W,R,λ v j s1 i=>by
     obtain⟨a,k,b,f,m⟩:=i.walkL MX;exact⟨a,b,⟨k,o8.seq f⟩,p _ j s1 (.list f m)⟩⟩
   ·cases b;exact(zI A).weak λ n H r ⟨O,W,R,p⟩=>⟨O,W,R,λ v j s1 i=>by
     obtain⟨a,k,b,f,m⟩:=i.walkT MX;exact⟨a,b,⟨k,o8.tseq f⟩,p _ j s1 (.tup f m)⟩⟩
   ·cases b
def mI(h:D3 i=true) : -(2^62)<=i/\i<2^62:=by
 unfold D3 at h;simpa[d8]using h
def tO(h:m9 (o.map λ a=>Re.ok (.lst a) .fresh)=some b):∃a,o=some a/\b=.ok a .fresh:=by
 cases o with
 | none=>cases h
 | some a=>cases h;exact⟨a,rfl,rfl⟩
def Ft(r:Gl X "range")(n:X.mg "range" = none)(s:∀q,d=some q->PA X [e] (dA X.D δ q))(k:l9 e=false)(h:m9 (Rs.thn d λ l=>(rngD l).map λ g=>Re.ok (.lst g) .fresh)=some f)(o:∀l,d=some (.ok l)->l.length=1) :
  PI X tg (.Call (.Name "range" p) [e] [] pos) (dI X.D δ f):=by
 cases a:d with
 | none=>rw[a]at h;cases h
 | some q=>
  rw[a]at h;have A:=s q a;cases q with
  | ok l=>
   have i:=o l a;obtain⟨g,b,y⟩:=tO (h);cases y;unfold rngD at b;split at b
   ·rename_i j c;split at b
    ·rename_i m;cases b;rw[d8]at m;have q:=mI m.1;exact((λ t (u:PA X [e] t)=>zL r n u (p9 k)) _ A).weak λ σ H R' ⟨O,W,R,p⟩=>⟨O,W,R,λ vs z s1 x=>by
      obtain⟨v,rfl,w⟩:=x.one;exact⟨j,by rw[w.int MX],q.1,q.2,p _ z s1 (.range _ _)⟩⟩
    ·cases b
   ·cases i
   ·cases b
def Fv(y:Gl X "range")(w:X.mg "range" = none)(z:∀q,f=some q->PA X [e,g] (dA X.D δ q))(u:l9 e=false)(d:l9 g=false)(h:m9 (Rs.thn f λ l=>(rngD l).map λ r=>Re.ok (.lst r) .fresh)=some n)(x:∀l,f=some (.ok l)->l.length=2) :
  PI X tg (.Call (.Name "range" p) [e,g] [] pos) (dI X.D δ n):=by
 cases a:f with
 | none=>rw[a]at h;cases h
 | some q=>
  rw[a]at h;have A:=z q a;cases q with
  | ok l=>
   have s:=x l a;obtain⟨r,b,F⟩:=tO (h);cases F;unfold rngD at b;split at b
   ·cases s
   ·rename_i i c j c';split at b
    ·rename_i m;cases b;rw[d8,d8]at m;have q:=mI m.1.1;have o:=mI m.1.2;exact((λ t (B:PA X [e,g] t)=>zM y w B (by rw[p9 u,p9 d];rfl) (p9 d)) _ A).weak λ σ H R' ⟨O,W,R,p⟩=>⟨O,W,R,λ vs I s1 E=>by
      obtain⟨v,v',rfl,C,k⟩:=E.two;exact⟨i,j,by rw[C.int MX,k.int MX],⟨q.1,q.2,o.1,o.2⟩,p _ I s1 (.range _ _)⟩⟩
    ·cases b
   ·cases b
def dJ:on Nat->TGs
 | []=>gNil
 | i::is=>pT (cK i) (dJ is)
def gT(K:MA):Tg->TG
 | .one i=>cK i
 | .many is=>gTup K is.length (dJ is)
def RSt.setVal(R:RSt D H σ δ O W)(r:Rep D Nc d v)(i:Nat):RSt D H (σ.set i (some v)) (δ.set i (.val d)) O W where
 val:=λ j s h=>by
  by_cases e:j=i
  ·subst e;have c:=(by have:=(w5.mp h).1;rw[A7]at this;exact this);rw[J6 c]at h;cases h;exact⟨v,J6 (by rw[R.len];exact c),r⟩
  ·rw[t5 (NV e)]at h ⊢;exact R.val j s h
 own:=λ j l h=>by
  by_cases e:j=i
  ·subst e;have c:=(by have:=(w5.mp h).1;rw[A7]at this;exact this);rw[J6 c]at h;cases h
  ·rw[t5 (NV e)]at h ⊢;exact R.own j l h
 inj:=λ j k a f q b g n m=>by
  have ne:∀{j:Nat} {f:DV},(δ.set i (.val d))[j]? = some (.own f)->j≠i:=λ {j f} b z=>by
   subst z;have c:j<δ.length:=by have:=(w5.mp b).1;rw[A7]at this;exact this
   rw[J6 c]at b;cases b
  have p:=ne b;have o:=ne g;rw[t5 (NV p)]at b n;rw[t5 (NV o)]at g m;exact R.inj j k a f q b g n m
 od:=R.od.step (Same.refl _) (lZ _ (by intro d z;cases z)) (λ _ h _=>h) (λ _ _ _ h _=>h)
 len:=by rw[A7,A7];exact R.len
 hid:=R.hid
theorem mJ:∀{g:on Nat} {j:on DV} {f:on V} {c:St} {e a:on Sv},RSt D H c e O W->RepL D Nc j f->R9 e g j=some a->(∀b,RSt D H b a O W->Q b H)->dJ g f c H Q
 | [],[],f,c,e,a,R,r,h,q=>by cases h;exact⟨y9.mp r,q c R⟩
 | i::g,d::j,f,c,e,a,R,r,h,q=>by obtain⟨v,k,n,m,l⟩:=r6.mp r;exact⟨v,k,n,mJ (R.setVal m i) l h q⟩
 | [],_::_,_,_,_,_,_,_,h,_=>by cases h
 | _::_,[],_,_,_,_,_,_,h,_=>by cases h
theorem gG:∀{is:on Nat} {f:on DV} {e c:on Sv},R9 e is f=some c->is.length=f.length/\c.length=e.length
 | [],[],_,_,h=>by cases h;exact⟨rfl,rfl⟩
 | i::is,d::f,e,c,h=>by obtain⟨a,b⟩:=gG (is:=is) h;exact⟨by rw[l4,l4,a],by rw[b,A7]⟩
 | [],_::_,_,_,h=>by cases h
 | _::_,[],_,_,h=>by cases h
def mK{D:Dm}{H:Hp}{O W:on Mq}{Q:St->Hp->Prop}{tg:Tg}{d:DV}{x:V}{σ:St}{δ δ':on Sv}(R:RSt D H σ δ O W)(r:Rep D Nc d x)(h:tg.bind d δ=some δ')(q:∀σ',RSt D H σ' δ' O W->Q σ' H):gT D.K tg x σ H Q:=by
 cases tg with
 | one i=>cases h;exact q _ (R.setVal r i)
 | many is=>
  unfold Tg.bind at h;dsimp only at h;split at h
  ·rename_i ds;obtain⟨a,xs,e1,e2,e3⟩:=B5.mp r;exact⟨a,xs,e1,o8.tseq e2,by rw[e3.length,(gG h).1],mJ R e3 h q⟩
  ·cases h
def RSt.less(R:RSt D H σ δ' O W)(b:δ.length=δ'.length)(h:∀(i:Nat) sv,δ[i]? = some sv->sv=.no\/δ'[i]? = some sv):RSt D H σ δ O W where
 val:=λ i d e=>by
  rcases h i _ e with z | z
  ·cases z
  ·exact R.val i d z
 own:=λ i d e=>by
  rcases h i _ e with z | z
  ·cases z
  ·exact R.own i d z
 inj:=λ i j a d f e c=>by
  rcases h i _ e with z | z
  ·cases z
  ·rcases h j _ c with y | y
   ·cases y
   ·exact R.inj i j a d f z y
 od:=R.od.step (Same.refl _) (λ j d e=>by
  rcases h j _ e with z | z
  ·cases z
  ·exact⟨z,rfl⟩) (λ _ h _=>h) (λ _ _ _ h _=>h)
 len:=by rw[b];exact R.len
 hid:=R.hid
def Fw:∀{is:on Nat} {f:on DV} {b a:on Sv},R9 b is f=some a->(∀i∈is,b[i]? = some .no\/b[i]? = none)->∀(i:Nat) sv,b[i]? = some sv->sv=.no\/a[i]? = some sv
 | [],[],_,_,h,_,i,sv,e=>by cases h;exact .inr e
 | j::is,d::f,b,a,h,p,i,sv,e=>by
  by_cases c:i∈j::is
  ·rcases p i c with z | z
   ·rw[z]at e;cases e;exact .inl rfl
   ·rw[z]at e;cases e
  ·have o:j≠i:=λ z=>c (by rw[z];exact i9);have n:=λ z=>c (j5 _ z);have g:∀{is:on Nat} {f:on DV} {b a:on Sv},R9 b is f=some a->i∉is->b[i]? = some sv->a[i]? = some sv:=by
    intro is
    induction is with
    | nil=>intro f b a h _ e;cases f with
     | nil=>cases h;exact e
     | cons _ _=>cases h
    | cons k is m=>intro f b a h l e;cases f with
     | nil=>cases h
     | cons d f=>
      refine m h (λ z=>l (j5 _ z)) ?_;rw[t5 (λ z=>l (by rw[z];exact i9))];exact e
   exact .inr (g h c e)
 | [],_::_,_,_,h,_,_,_,_=>by cases h
 | _::_,[],_,_,h,_,_,_,_=>by cases h
def tQ(h:tg.bind d δ=some δ')(b:∀i∈Z5 tg,δ[i]? = some .no\/δ[i]? = none):δ.length=δ'.length/\∀(i:Nat) sv,δ[i]? = some sv->sv=.no\/δ'[i]? = some sv:=by
 cases tg with
 | one j=>
  cases h;refine⟨(A7 ..).symm,λ i sv e=>?_⟩;by_cases a:i=j
  ·subst a;rcases b i (by simp[Z5])with z | z
   ·rw[z]at e;cases e;exact .inl rfl
   ·rw[z]at e;cases e
  ·exact .inr (by rw[t5 (NV a)];exact e)
 | many is=>
  unfold Tg.bind at h;dsimp only at h;split at h
  ·exact⟨(gG h).2.symm,Fw h b⟩
  ·cases h
theorem RSt.inner(R:RSt D H σ δ O W)(fr:on (Mn Nat))(A:∀(j k i:Nat),fr[j]? = some (some i)->fr[k]? = some (some i)->j=k):RSt D H (L2.inner fr σ) (C3 fr δ) O W:=by
 have c:∀(j:Nat) sv,(C3 fr δ)[j]? = some sv->sv ≠ .no->∃i,fr[j]? = some _/\δ[i]? = some sv:=λ j sv h L=>by
  unfold C3 at h;rw[n7]at h;cases q:fr[j]? with
  | none=>rw[q]at h;cases h
  | some o=>
   rw[q]at h;cases o with
   | none=>cases h;exact absurd rfl L
   | some i=>
    refine⟨i,rfl,?_⟩;have B:δ.getD i .no=sv:=by simpa using h
    rw[i8]at B;cases z:δ[i]? with
    | none=>rw[z]at B;exact absurd B.symm L
    | some P=>
     rw[z]at B;exact congrArg some B
 have f:∀(j i:Nat) (v:V),fr[j]? = some (some i)->σ[i]? = some (some v)->(L2.inner fr σ)[j]? = some (some v):=λ j i v q e=>by unfold L2.inner;rw[n7,q];simp[e]
 refine⟨λ j d h=>?_,λ j d h=>?_,λ j k a d E S Q n s=>?_,λ j d h=>?_,?_,R.hid⟩
 ·obtain⟨i,m,p⟩:=c j _ h MO;obtain⟨v,n,s⟩:=R.val i d p;exact⟨v,f j i v m n,s⟩
 ·obtain⟨i,m,p⟩:=c j _ h MO;obtain⟨a,K,M,F,n,s⟩:=R.own i d p;exact⟨a,K,M,F,f j i _ m n,s⟩
 ·obtain⟨i,m,p⟩:=c j _ S MO;obtain⟨r,g,l⟩:=c k _ Q MO;obtain⟨b,K,M,_,I,_⟩:=R.own i d p;obtain⟨b',N,U,_,x,_⟩:=R.own r E l;have y:=f j i _ m I;have J:=f k r _ g x;rw[n]at y;rw[s]at J;cases y;cases J;have:=R.inj i r a d E p l I x;subst this;exact A j k i m g
 ·obtain⟨i,m,p⟩:=c j _ h MO;obtain⟨⟨a,o,F,n,s⟩,u⟩:=R.od i d p;refine⟨⟨a,o,F,f j i _ m n,s⟩,λ k E z w=>?_⟩;obtain⟨r,g,l⟩:=c k _ z MO;obtain⟨⟨a',_,_,C,_⟩,_⟩:=R.od r E l;rw[f k r _ g C,f j i _ m n]at w;rw[u r E l (by rw[C,n,w])]at g;exact A k j i g m
 ·unfold L2.inner C3;rw[d9,d9]
section
variable {X:Cx} {δ:on Sv} {iter elt tgE:Ms} {ifs:on Ms} {pos:Pos} {N':on Str} {scope:MB} {fr:on (Mn Nat)} {tg:Tg} {ri:Mn Ri} {re:Re}
def tR{Q:VK}(w:Wk D J ds (hidW O W c) (F0 O W c) F)(X:Hid O W H H)(hc:c ≠ .weak)(R:RSt D F σ o O W)
  (hn:∀i∈Z5 tg,o[i]? = some .no\/o[i]? = none) (hz:ds.length<=sizeLine) (hx:x8 g ds=some xs) (s1:Same H F)
  (step:∀d S,d∈ds->g d=some S->∃b,tg.bind d o=some b/\∀j l,Same F l->RSt D l j b O W->∀K:Bool->Hp->Prop,(S=.skip->∀m,Same l m->K false m)->(∀x,S=.item x->∀m,Same l m->K true m)->tc j l K)
  (C:∀d x,d∈ds->g d=some (.item x)->∀b,tg.bind d o=some b->∀j l,Same F l->RSt D l j b O W->∀K:VK,(∀v m,Same l m->Rep D (L2.wo (O++W) m) x v->K v m)->te j l K)
  (Y:∀v r,Same H r->Got D O W H r (MZ xs) .fresh v->Q v r) :
  kZ J (gT D.K tg) tc te (λ M r=>∀p,r p=none->Q (.ref p) (upd r p (.lst M))) σ F:=by
 have ci:F0 O W c=O++W:=by cases c<;>first | rfl | exact absurd rfl hc
 rw[ci]at w;refine⟨λ i n M j r=>n=ds.length - i/\i<=ds.length/\M.length<=i/\RSt D r j o O W/\Same F r/\∃f rest,x8 g (ds.drop i)=some rest/\f++rest=xs/\RepL D (L2.wo (O++W) r) f M,
  ⟨ds.length,rfl,u9 _,u9 _,R,Same.refl _,[],xs,hx,rfl,y9.mpr rfl⟩,?_⟩
 rintro i n M σ2 l ⟨rfl,hi',hy,R2,s2,f,rest,h1,h2,r2⟩
 by_cases k:i<ds.length
 ·refine .inr ⟨w.go i l s2.wo k,N4 hy (o4 k hz),λ N m y=>?_⟩;have A:=w.same i l N m y;have y3:=w.yld i l N m _ (O++W) s2.wo s2.wo y (i6 k) λ a ha=>⟨R2.hid.ot a ha,.inl ha⟩;rw[iJ k]at h1;have U:=E4 k;unfold x8 at h1;split at h1
  ·cases h1
  ·rename_i q;obtain⟨b,I,Z⟩:=step _ _ U q;refine mK (R2.mono A) y3 I λ u L=>?_
   have h:=tQ I hn;refine Z u m (s2.trans A) L _ (λ _ H4 B=>?_) (λ x z=>nomatch z);show if false=true then _ else _
   rw[e7 w9];exact⟨ds.length - (i+1),by omega,rfl,k,Nat.le_succ_of_le hy,(L.less h.1 h.2).mono B,(s2.trans A).trans B,f,rest,h1,h2,r2.mono (A.trans B).wo⟩
  ·rename_i x q;split at h1
   ·cases h1
   ·rename_i E q';cases h1;obtain⟨b,I,Z⟩:=step _ _ U q;refine mK (R2.mono A) y3 I λ u L=>?_
    have h:=tQ I hn;refine Z u m (s2.trans A) L _ (λ z=>nomatch z) (λ N z H4 B=>?_);cases z;show if true=true then _ else _
    rw[d6 rfl];refine C _ x U q b I u H4 ((s2.trans A).trans B) (L.mono B) _ λ v H5 P rv=>?_
    exact⟨ds.length - (i+1),by omega,rfl,k,by rw[p7,L9];omega,(L.less h.1 h.2).mono (B.trans P),((s2.trans A).trans B).trans P,f++[x],E,q',by rw[Q2];exact h2,
     (r2.mono ((A.trans B).trans P).wo).append (RepL.one rv)⟩
 ·have e:i=ds.length:=by omega
  subst e;rw[jy]at h1;cases h1;rw[x4]at h2;subst h2;have s0:=s1.trans s2;refine .inl ⟨w.stop l s2.wo,λ p hp=>Y _ _ (s0.trans (v6 hp)) ?_⟩;exact V8 (X.mono s0) hp r2
def PE.any{t:ι->TE}(h:∀k,PE Y e (t k)):PE Y e (λ b H Q=>∃k,t k b H Q):=λ a s b H Q I ⟨k,q⟩=>h k a s b H Q I q
def PTs.any{t:ι->TT}(h:∀k,PTs Y es (t k)):PTs Y es (λ b H Q=>∃k,t k b H Q):=λ a s b H Q I ⟨k,q⟩=>h k a s b H Q I q
def Rc.of_item(h:Rc.of r=some (.item x)):∃c,r=some (.ok x c)/\stro x c=true:=by
 unfold Rc.of at h;split at h
 ·rename_i d c;split at h
  ·rename_i m;cases h;exact⟨c,rfl,m⟩
  ·cases h
 ·cases h
def Rc.of_skip(h:Rc.of r=some .skip):False:=by
 unfold Rc.of at h;split at h
 ·split at h<;>cases h
 ·cases h
def tU{i:Nat}(h:fr[i]? = some none):(C3 fr δ)[i]? = some .no:=by
 unfold C3;rw[n7,h];rfl
def W0(X:Cx)(δ:on Sv)(tgE iter:Ms)(ifs:on Ms)(elt:Ms)(scope:MB)(N':on Str)(fr:on (Mn Nat))(tg:Tg)(re:Re):Prop:=
 ∃(wi:TI) (tc:TT) (te:TE),PI X tgE iter wi/\(∀C cells s₂ H₂ fp,PTs (p4 X scope N' C cells s₂ H₂ fp) ifs tc)/\(∀C cells s₂ H₂ fp,PE (p4 X scope N' C cells s₂ H₂ fp) elt te) /\
  ∀σ H Q,dE X.D δ re σ H Q->lc fr wi (gT X.K tg) tc te σ H Q
def mL(b:D7 a=false):∀x,foldedSetIterable a env x=pure x:=by cases a<;>first | (intro _;rfl) | cases b
def W0.pe(P:W0 X δ tgE iter ifs elt scope N' fr tg re)(S:NS N')(e:NN)(f:∀C a b d fp,PG (p4 X scope N' C a b d fp) tgE (gT X.K tg))(c:D7 iter=false) :
  PE X (.ListComp elt [⟨tgE,iter,ifs,0⟩] scope pos) (dE X.D δ re):=by
 obtain⟨wi,tc,te,j,i,h,g⟩:=P;exact(Bf S e j f i h (mL c)).weak g
def Fx{g:on Sv->Mn Re}(S:NS N')(hc:NN)(A:∀(j k i:Nat),fr[j]? = some (some i)->fr[k]? = some (some i)->j=k)(z:∀i∈Z5 tg,fr[i]? = some none)(B:∀q,ri=some q->PI X tgE iter (dI X.D δ q))
  (hG:∀C a b f fp,PG (p4 X scope N' C a b f fp) tgE (gT X.K tg)) (P:∀δ' r,g δ'=some r->∀C a b f fp,PE (p4 X scope N' C a b f fp) elt (dE X.D δ' r))
  (h:(Ri.thn ri λ u c=>if c=.weak\/l5<u.length then none else V4 (x8 (λ d=>(tg.bind d (C3 fr δ)).bind λ δ'=>Rc.of (g δ')) u))=some re):W0 X δ tgE iter [] elt scope N' fr tg re:=by
 cases l:ri with
 | none=>rw[l]at h;cases h
 | some q=>
  rw[l]at h;refine⟨_,_,_,(B q l),(λ C a b f fp=>Bc),(λ C a b f fp=>PE.any (ι:={p:on Sv×Re // g p.1=some p.2}) λ k=>P k.1.1 k.1.2 k.2 C a b f fp),?_⟩;cases q with
  | ok u c=>
   have o:(if c=.weak\/l5<u.length then none else V4 _)=some re:=h;split at o
   ·cases o
   ·rename_i m;rw[not_or]at m;unfold V4 at o;split at o
    ·cases o
    ·rename_i xs M;cases o;refine λ σ H Q ⟨O,W,R,p⟩=>⟨O,W,R,λ J H1 s1 w=>?_⟩
     refine tR w R.hid m.1 ((R.mono s1).inner fr A) (λ i B=>.inl (tU (z i B))) (aZ KE) M s1 (λ d I N n=>?_) (λ d x N n δ' s y F s2 R2 K U=>?_) p
     ·cases s:tg.bind d (C3 fr δ)with
      | none=>rw[s]at n;cases n
      | some δ'=>
       rw[s]at n;refine⟨δ',rfl,λ y F s2 R2 K k1 L=>?_⟩;cases I with
       | skip=>exact(Rc.of_skip n).elim
       | item x=>exact L x rfl F (Same.refl _)
     ·rw[s]at n;obtain⟨cl,e1,Z⟩:=Rc.of_item n;exact⟨⟨⟨δ',.ok x cl⟩,e1⟩,O,W,R2,λ v H3 E Y=>U v H3 E (Y.stro (R2.hid.mono E) Z)⟩
def Fy{f:on Sv->Mn Re}{l:on Sv->Mn Rt}(S:NS N')(hc:NN)(I:∀(j k i:Nat),fr[j]? = some (some i)->fr[k]? = some (some i)->j=k)(F:∀i∈Z5 tg,fr[i]? = some none)(L:∀q,ri=some q->PI X tgE iter (dI X.D δ q))
  (hG:∀C a b e fp,PG (p4 X scope N' C a b e fp) tgE (gT X.K tg)) (he:∀δ' r,f δ'=some r->∀C a b e fp,PE (p4 X scope N' C a b e fp) elt (dE X.D δ' r))
  (Y:∀δ' r,l δ'=some r->∀C a b e fp,PT (p4 X scope N' C a b e fp) n (dT X.D δ' r))
  (h:(Ri.thn ri λ z c=>if c=.weak\/l5<z.length then none else V4 (x8 (λ d=>(tg.bind d (C3 fr δ)).bind λ δ'=>Rc.test (l δ') (Rc.of (f δ'))) z))=some re):W0 X δ tgE iter [n] elt scope N' fr tg re:=by
 cases o:ri with
 | none=>rw[o]at h;cases h
 | some q=>
  rw[o]at h;refine⟨_,_,_,(L q o),(λ C a b e fp=>PTs.any (ι:={p:on Sv×Rt // l p.1=some p.2}) (t:=λ k=>dT X.D k.1.1 k.1.2) λ k=>Be (Y k.1.1 k.1.2 k.2 C a b e fp)),
   (λ C a b e fp=>PE.any (ι:={p:on Sv×Re // f p.1=some p.2}) (t:=λ k=>dE X.D k.1.1 k.1.2) λ k=>he k.1.1 k.1.2 k.2 C a b e fp),?_⟩
  cases q with
  | ok z c=>
   have y:(if c=.weak\/l5<z.length then none else V4 (x8 (λ d=>(tg.bind d (C3 fr δ)).bind λ δ'=>Rc.test (l δ') (Rc.of (f δ'))) z))=some re:=h;split at y
   ·cases y
   ·rename_i m;rw[not_or]at m;unfold V4 at y;split at y
    ·cases y
    ·rename_i xs U;cases y;refine λ σ H Q ⟨O,W,R,p⟩=>⟨O,W,R,λ J H1 s1 w=>?_⟩
     refine tR w R.hid m.1 ((R.mono s1).inner fr I) (λ i L=>.inl (tU (F i L))) (aZ KE) U s1 (λ d M Z s=>?_) (λ d x Z s δ' B E H2 s2 R2 K hK=>?_) p
     ·cases B:tg.bind d (C3 fr δ)with
      | none=>rw[B]at s;cases s
      | some δ'=>
       rw[B]at s;have g:Rc.test (l δ') (Rc.of (f δ'))=some M:=s;refine⟨δ',rfl,λ E H2 s2 R2 K P N=>?_⟩;unfold Rc.test at g;split at g
       ·rename_i q;refine⟨⟨⟨δ',.ok true⟩,q⟩,O,W,R2,λ A u=>?_⟩;cases M with
        | skip=>exact(Rc.of_skip g).elim
        | item x=>exact N x rfl A u
       ·rename_i q;cases g;exact⟨⟨⟨δ',.ok false⟩,q⟩,O,W,R2,λ A u=>P rfl A u⟩
       ·cases g
     ·rw[B]at s;have g:Rc.test (l δ') (Rc.of (f δ'))=some (.item x):=s;unfold Rc.test at g;split at g
      ·obtain⟨cl,e1,e2⟩:=Rc.of_item g;exact⟨⟨⟨δ',.ok x cl⟩,e1⟩,O,W,R2,λ v A u g3=>hK v A u (g3.stro (R2.hid.mono u) e2)⟩
      ·cases g
      ·cases g
end
def Inv.turnedL{ch:on Mq}(I:MN a)(k:∀b o,b∉ch->s.heap.get? b=some o->h'.get? b=some o)(g:∀b∈ch,FpOk X a H b):Inv X a σ H {s with heap:=h',toks:=t'}:=by
 have f:∀b u,H b=some u->b∉ch:=λ b u e z=>by rw[(g b z).1]at e;cases e
 refine I.step (ch:=ch) (λ b j=>?_) (λ b o _ _ d e _=>k b o d e) (λ b o _ _ d e _=>⟨o.slots,k b o d e⟩) (λ _ _ _ _ n=>n)
  (λ b o d e=>⟨o,k b o d e⟩) (λ _ _ e=>e) (λ _ _ _ e=>e) (λ _ _ e=>e) (λ m i=>?_) (λ b u e=>?_) I.bare
 ·obtain⟨_,x,_,w,p,l⟩:=g b j;exact⟨w,x,p,l⟩
 ·obtain⟨o,y,A,h,r⟩:=i;exact⟨o,y,A,k _ o (λ z=>(g _ z).2.1 rfl) h,r⟩
 ·refine(I.hok b u e).stay (λ c v d q=>k c v ?_ q) (λ _ q=>q) (λ _ _ q=>q) (λ _ _ q=>q) λ _ _ _ _ _ q=>q;rcases d with z | z
  ·rw[z];exact f b u e
  ·exact f c _ z
def SqD(t:Bool)(K:MA)(H:Hp)(a:Mq)(xs:on V):Prop:=match t with | false=>SqL K H a xs | true=>SqT K H a xs
def Same.sqd{t:Bool}{K:MA}{H H':Hp}{a:Mq}{xs:on V}(e:Same H H')(h:SqD t K H a xs):SqD t K H' a xs:=by
 cases t
 ·exact e.seq h
 ·exact e.tseq h
def Inv.sqd(I:MN c)(h:SqD t X.K H a xs):∃b:on Mo,Vals xs b/\SqK t s.heap a b.toArray:=by
 cases t
 ·obtain⟨b,d,p,_⟩:=I.list h;exact⟨b,d,p.isList⟩
 ·obtain⟨b,d,p,_⟩:=I.tuple h;exact⟨b,d,p⟩
def Inv.sqd_inj(I:MN b)(h:SqD t X.K H a xs)(d:SqD t X.K H a c):xs=c:=by
 cases t
 ·exact I.list_inj h d
 ·exact I.tuple_inj h d
def itK(t:Bool)(h:Mr)(ia la:Mq)(k:Nat):Prop:=match t with | false=>h.IsListIter ia la k | true=>h.IsTupleIter ia la k
def bo(p:itK t h b a k)(q:SqK t h a vs):sK t b a vs k h:=by
 cases t<;>exact⟨p,q⟩
def bp(p:sK t b a vs k h):itK t h b a k:=by
 cases t<;>exact p.1
def bq(p:itK t h a b k)(e:∀o,h.get? a=some o->c.get? a=some o):itK t c a b k:=by
 cases t
 ·exact Heap.IsListIter.at p e
 ·obtain⟨o,z,r⟩:=p;exact⟨o,e o z,r⟩
def br(p:itK t h a c k):∃o b,h.get? a=some o/\o.data=.fields b:=by
 cases t
 ·obtain⟨o,e,_,d⟩:=p;exact⟨o,_,e,d⟩
 ·obtain⟨o,e,_,d⟩:=p;exact⟨o,_,e,d⟩
def SqK.lt(p:SqK t h a vs):a<h.objs.size:=by
 cases t
 ·obtain⟨o,e,_⟩:=p;exact j6 e
 ·obtain⟨o,e,_⟩:=p;exact j6 e
def Itz(K:MA)(t1 t2:Bool)(a b:Mq):It:=
  ⟨λ i H=>∃xs ys x y,SqD t1 K H a xs/\SqD t2 K H b ys/\xs[i]? = some x/\ys[i]? = some y,
   λ i H x H'=>∃p v u,x=.ref p/\H p=none/\(∀xs,SqD t1 K H a xs->xs[i]? = some v)/\(∀ys,SqD t2 K H b ys->ys[i]? = some u)/\H'=upd H p (.tup [v,u]),
   λ i H=>∃xs ys,SqD t1 K H a xs/\SqD t2 K H b ys/\(xs.length<=i\/ys.length<=i)⟩
def Fz{P:Mw}{w:Mv}{K:MA}{k:Nat}{pos:Pos}{z TI TO A r l1 l2:Mq}(Q O:Bool)(D:ZipApart z TI TO A r l1 l2) :
  Turn P w K (.Tuple elts k pos) (Itz K Q O l1 l2) [z,TI,TO,A,r] z (λ i h=>IsZip h z TI TO .none/\IsPair h TI (.ref A) (.ref r)/\(∃a b,IsPair h TO a b)/\itK Q h A l1 i/\itK O h r l2 i) where
 mem:=by simp
 obj:=λ i h st b f=>by
  obtain⟨B,g,⟨a,Z,j⟩,F,C⟩:=st;simp only[f8,F4,F8]at f;rcases f with rfl | rfl | rfl | rfl | rfl
  ·exact⟨_,B,λ v q=>by cases q⟩
  ·exact⟨_,g,λ v q=>by cases q⟩
  ·exact⟨_,j,λ v q=>by cases q⟩
  ·obtain⟨o,xs,e,d⟩:=br F;exact⟨o,e,λ v q=>by rw[d]at q;cases q⟩
  ·obtain⟨o,xs,e,d⟩:=br C;exact⟨o,e,λ v q=>by rw[d]at q;cases q⟩
 keep:=λ i h h' st q=>by obtain⟨B,g,⟨a,Z,j⟩,F,C⟩:=st;exact⟨q z MP _ B,q TI MP _ g,⟨a,Z,q TO MP _ j⟩,bq F λ o e=>q A MP o e,bq C λ o e=>q r MP o e⟩
 item:=by
  intro X hP hw hK hc i m s σ H E I W st hg;subst hP hw hK;obtain⟨B,g,⟨a,Z,j⟩,F,C⟩:=st;obtain⟨xs,ys,x,y,S,R,U,hy⟩:=hg;obtain⟨a8,rv,p⟩:=I.sqd S;obtain⟨M,J,p2⟩:=I.sqd R;obtain⟨u,hu,ru⟩:=rv.get U;obtain⟨u2,b0,a0⟩:=J.get hy;refine Bo D (aQ Q D.l1i1) (aQ O D.l2i2) B g j (bo F p) (bo C p2) (x:=u) (y:=u2) (Nm hu) (Nm b0) λ h' a1 a2 a3 a4 a5 a6 Y=>⟨_,rfl,?_⟩
  refine wpAny_letOwnedTupleGo_zip a1 λ L a9 l=>?_;have N:s.heap.objs.size≠z:=M3 (j6 B);have keep:∀b o,b∉[z,TI,TO,A,r]->s.heap.get? b=some o->L.get? b=some o:=λ b o f e=>
   l.extBut _ _ (λ q=>f (by simp[q])) (Y b o (λ q=>f (by simp[q])) (λ q=>f (by simp[q])) (λ q=>f (by simp[q])) (λ q=>f (by simp[q])) e)
  have I1:Inv X m σ H {s with heap:=L}:=I.turnedL (t':=s.toks) keep W;have hn:H s.heap.objs.size=none:=I.hok.fresh (f6 _);have f5:=I.fpOk (f6 _) hn;have h0:X.s₀.heap.get? s.heap.objs.size=none:=X3 I.sz;have I2:Inv X m σ (upd H s.heap.objs.size (.tup [x,y])) {s with heap:=L}:=I1.track hn h0 f5.2.1 (λ n c e=>f5.2.2.2.2.1 n c e) (λ q hq=>f5.2.2.2.2.2 q hq)
   ⟨by show(2:Nat)<=sizeLine;decide,[u,u2],.cons ru (.cons a0 .nil),_,(l.extBut _ _ N a5),⟨rfl,rfl⟩,_,rfl⟩
  refine⟨.ref s.heap.objs.size,_,I2,rfl,⟨_,x,y,rfl,hn,λ xs' e=>by rw[I.sqd_inj e S];exact U,λ ys' e=>by rw[I.sqd_inj e R];exact hy,rfl⟩,
   ⟨a9,l.extBut _ _ D.TIz (Y _ _ D.TIz D.TITO D.TIi1 D.TIi2 g),⟨_,_,l.extBut _ _ D.TOz a2⟩,bq (bp a3) (λ o e=>l.extBut _ _ D.i1z e),bq (bp a4) (λ o e=>l.extBut _ _ D.i2z e)⟩,λ b f=>?_⟩
  have lt:∀b∈[z,TI,TO,A,r],b≠s.heap.objs.size:=λ b f=>by
   simp only[f8,F4,F8]at f;rcases f with rfl | rfl | rfl | rfl | rfl
   ·exact Ne.symm N
   ·exact n9 (j6 g)
   ·exact n9 (j6 j)
   ·obtain⟨o,_,e,_⟩:=br F;exact n9 (j6 e)
   ·obtain⟨o,_,e,_⟩:=br C;exact n9 (j6 e)
  rw[j8 (lt b f)];exact(W b f).1
 done:=by
  intro X hP hw hK hc i m s σ H E I W st hg;subst hP hw hK;obtain⟨B,g,⟨a,Z,j⟩,F,C⟩:=st;obtain⟨xs,ys,S,R,U⟩:=hg;obtain⟨a8,rv,p⟩:=I.sqd S;obtain⟨M,J,p2⟩:=I.sqd R;have e1:=rv.length;have e2:=J.length;refine Bp (I.ok.hd hc) D (aQ Q D.l1i1) (aQ O D.l2i2) B g j (bo F p) (bo C p2) (by
   rcases U with q | q
   ·left;simp;omega
   ·right;simp;omega) λ h' Y=>⟨rfl,I.turnedL (t':=s.toks) (ch:=[z,TI,TO,A,r]) (λ b o f e=>Y b o (λ q=>f (by simp[q])) (λ q=>f (by simp[q])) (λ q=>f (by simp[q])) (λ q=>f (by simp[q])) e) W⟩
 self:=λ _ _ _ _ _ st h=>wpAny_pyIter_zip st.1 h
theorem mM:∀(b a:on DV),(zpD b a).length=min b.length a.length
 | [],a=>by simp[zpD]
 | _::_,[]=>by simp[zpD]
 | x::b,y::a=>by rw[zpD,l4,mM b a,l4,l4];omega
theorem tV:∀{b a:on DV} {i:Nat} {d:DV},(zpD b a)[i]? = some d->∃x y,b[i]? = some x/\a[i]? = some y/\d=.tup [x,y]
 | [],_,_,_,h=>by simp[zpD]at h
 | _::_,[],_,_,h=>by simp[zpD]at h
 | x::b,y::a,0,d,h=>by simp[zpD]at h;exact⟨x,y,rfl,rfl,h.symm⟩
 | x::b,y::a,i+1,d,h=>by rw[zpD,eK]at h;simpa using tV h
def tW:∀b∈hidW O W (Cl.meet c d),b∈hidW O W c:=by
 cases c<;>cases d<;>intro b a<;>first | exact a | exact w6 _ a
def FA:∀b∈hidW O W (Cl.meet c a),b∈hidW O W a:=by
 cases c<;>cases a<;>intro b d<;>first | exact d | exact w6 _ d
def tX:∀b∈F0 O W (Cl.meet c d),b∈F0 O W c:=by
 cases c<;>cases d<;>intro b a<;>first | exact a | exact w6 _ a
def FB:∀b∈F0 O W (Cl.meet c a),b∈F0 O W a:=by
 cases c<;>cases a<;>intro b d<;>first | exact d | exact w6 _ d
def Wk.zip(h:SqD A D.K (L2.wo m f) a xs)(r:RepL D (L2.wo j f) ds xs)(l:SqD w D.K (L2.wo m f) b c)(k:RepL D (L2.wo j f) es c):Wk D (Itz D.K A w a b) (zpD ds es) m j f where
 go:=λ i H s O=>by rw[mM]at O;exact⟨xs,c,xs[i]'(by rw[r.length];omega),c[i]'(by rw[k.length];omega),o8.sqd (s.sqd h),o8.sqd (s.sqd l),i6 _,i6 _⟩
 same:=λ i H x R y=>by obtain⟨p,v,u,_,g,_,_,e⟩:=y;rw[e];exact v6 g
 yld:=λ i H x R d Q s L y e B=>by obtain⟨p,v,u,ex,g,K,J,P⟩:=y;obtain⟨d1,d2,N,M,rfl⟩:=tV e;obtain⟨v1,I,F⟩:=r.get N;obtain⟨v2,E,C⟩:=k.get M;have o:=K xs (o8.sqd (s.sqd h));have n:=J c (o8.sqd (s.sqd l));rw[I]at o;cases o;rw[E]at n;cases n;subst P;refine B5.mpr ⟨p,_,ex,SqT.of (by rw[j4 (λ z=>(B p z).1 g)];exact u5),?_⟩;have q:Same _ (L2.wo Q (upd H p (.tup [v,u]))):=(gF L B).trans (v6 g).wo;exact r6.mpr ⟨_,_,rfl,F.mono q,RepL.one (C.mono q)⟩
 stop:=λ H s=>by refine⟨xs,c,o8.sqd (s.sqd h),o8.sqd (s.sqd l),?_⟩;rw[mM,r.length,k.length];omega
def FC{b:Nat}(ha:a<n)(hb:b<n):ZipApart (n+4) (n+2) (n+3) n (n+1) a b:=by
 constructor<;>(show @Ne Nat _ _)<;>omega
def FE(U:Gl X "zip")(S:X.mg "zip" = none)(W:PA X [e,e'] y)(hs:l9 e=false)(o:l9 e'=false) :
  PI X (.Tuple elts k tpos) (.Call (.Name "zip" p) [e,e'] [] pos) (λ m H R=>y m H λ x l=>∃f d a b,x=[.ref a,.ref b]/\(∃w,SqD f X.K l a w)/\(∃v,SqD d X.K l b v)/\R (Itz X.K f d a b) l):=by
 intro g s m H R I h;refine Call_ (V2 I U S boot_zip (bN (thn (W pos g s m H _ I h) λ us s1 ⟨x,l,j,M,N⟩=>?_) (by rw[p9 hs]) (Z9 [e'] (by simp[o]))));obtain⟨f,d,a,b,Y,⟨w,Q⟩,⟨v,P⟩,q⟩:=N;subst Y;obtain⟨u,u',rfl,L,n⟩:=M.two;cases L;cases n;obtain⟨O,rv,p1⟩:=j.sqd Q;obtain⟨z,K,p2⟩:=j.sqd P;refine Br f d p1 p2 λ h' r J F E C z6 B=>?_
 refine wpAny_pyIter_zip r ⟨s1.heap.objs.size+4,[s1.heap.objs.size+4,s1.heap.objs.size+2,s1.heap.objs.size+3,s1.heap.objs.size,s1.heap.objs.size+1],_,_,l,rfl,(j.kept B),
  Fz f d (FC p1.lt p2.lt),⟨r,J,⟨_,_,F⟩,bp E,bp C⟩,λ c A=>?_,q⟩
 have i:s1.heap.objs.size<=c:=by
  simp[f8,F4,F8]at A;rcases A with rfl | rfl | rfl | rfl | rfl
  ·exact E3 ..
  ·exact E3 ..
  ·exact E3 ..
  ·exact f6 _
  ·exact E3 ..
 exact j.fpOk i (j.hok.fresh i)
def mN(k:K2 d=some (t,ds))(g:Got D O W f H d c v)(e:NG f):∃a b,v=.ref a/\SqD t D.K (Nf (hidW O W c)) a b/\RepL D (Nf (F0 O W c)) ds b:=by
 cases d<;>cases k
 ·exact g.walkT e
 ·exact g.walkL e
def FF(L:Gl X "zip")(K:X.mg "zip" = none)(hs:l9 e=false)(i:l9 m=false)(N:∀q,o=some q->PE X e MR)(M:∀q,rb=some q->PE X m MR)
  (h:m9 (Re.thn o λ x c=>Re.thn rb λ y c'=>zipD x y c c')=some n):PI X (.Tuple elts k g) (.Call (.Name "zip" p) [e,m] [] pos) (dI X.D δ n):=by
 cases f:o with
 | none=>rw[f]at h;cases h
 | some q=>
  rw[f]at h;have A:=N q f;cases q with
  | ok dx cx=>
   cases d:rb with
   | none=>rw[d]at h;cases h
   | some q=>
    rw[d]at h;have B:=M q d;cases q with
    | ok dy cy=>
     have l:m9 (zipD dx dy cx cy)=some n:=h;unfold zipD at l;split at l
     ·rename_i F ds1 E ds2 J I;cases l;exact((λ C z (Q:PE X e C) (P:PE X m z)=>FE L K (F9 Q (F9 P O4 (p9 i)) (p9 hs)) hs i) _ _ A B).weak λ σ H R' ⟨O,W,R,p⟩=>⟨O,W,R,λ x H1 s1 U=>⟨O,W,R.mono s1,λ y H2 s2 S=>by
       have hd:=(MX).mono s2;obtain⟨a,w,Z,u,Y⟩:=mN J (U.mono s2) hd;obtain⟨b,v,s,j,r⟩:=mN I (S.since s1) hd;refine⟨F,E,a,b,by rw[Z,s],⟨w,o8.sqd u⟩,⟨v,o8.sqd j⟩,p _ H2 (s1.trans s2) (.zip ((D9 tW).sqd u) (Y.mono (D9 tX)) ((D9 FA).sqd j) (r.mono (D9 FB)))⟩⟩⟩
     ·cases l
section
variable {P:Mw} {w:Mv} {A:My} {E:Mo->Mp->Prop} {s:Mp} {n c l:Mq} {k:Nat} {vs:Mu Mo} {S:Nat->Mr->Prop} {x old:Mo}
abbrev tY(s:Mp)(h':Mr)(n c:Mq)(k:Nat)(x:Mo)(S:Nat->Mr->Prop):Prop:=
 IsEnumOut h' n c ((k:Int)+1) x s.heap.objs.size/\S (k+1) h'/\h'.get? s.heap.objs.size=some {cls:=.type "tuple",data:=.seq #[.int k s.toks,x]} /\ h'.objs.size=s.heap.objs.size+1/\(∀b o,b≠n->b≠c->s.heap.get? b=some o->h'.get? b=some o)
def FG{Q:Mo->Mp->Prop}(R:Src P w c l vs S)(X:IsEnum s.heap n c k old)(hS:S k s.heap)(hx:vs[k]? = some x)(J:n≠c)(d2:l≠n)(hQ:∀h',tY s h' n c k x S->Q No {s with heap:=h',toks:=s.toks+1}) :
  wpAny NY A (Builtin.«enumerate.__next__» ⟨[.ref n],[]⟩) (λ Z s'=>∃v,Z=.done (.ret v)/\Q v s') E s:=by
 obtain⟨f,i,j,a,h⟩:=s;show wpAny _ _ (field (.ref n) 2 >>= _) _ _ _;refine d4 (x5 X rfl (x:=.ref c) rfl (d4 (R.step k x hS hx λ m r1 r=>?_)))
 replace r:Heap.SameBut c f m:=r
 have W:IsEnum m n c k old:=(r.2 n J).trans X;show wpAny _ _ (field (.ref n) 3 >>= _) _ _ ⟨m,i,j,a,h⟩;refine d4 (x5 W rfl (x:=rawInt k) rfl ?_);show wpAny _ _ (field (.ref n) 4 >>= _) _ _ ⟨m,i,j,a,h⟩;refine d4 (x5 W rfl (x:=.none) rfl ?_);show wpAny _ _ (mkInt k >>= _) _ _ ⟨m,i,j,a,h⟩;refine d4 (wpAny_mkInt ?_);show wpAny _ _ (setField (.ref n) 3 (rawInt ((k:Int)+1)) >>= _) _ _ ⟨m,i,j,a+1,h⟩;refine d4 (B6 W MP λ I U q=>?_)
 replace q:Heap.SameBut n m I:=q
 replace U:IsEnum I n c ((k:Int)+1) old:=U
 show wpAny _ _ (setField (.ref n) 4 .none >>= _) _ _ ⟨I,i,j,a+1,h⟩;refine d4 (B6 U MP λ d O p=>?_)
 replace p:Heap.SameBut n I d:=p
 replace O:IsEnum d n c ((k:Int)+1) old:=O
 show wpAny _ _ (newTuple [.int k a,x] >>= _) _ _ ⟨d,i,j,a+1,h⟩;refine d4 (fi ?_);have C:IsEnum NW n c ((k:Int)+1) old:=i5 _ O;have K:d.objs.size=f.objs.size:=by rw[p.1,q.1,r.1]
 have q4:(NW).get? f.objs.size=some {cls:=.type "tuple",data:=.seq #[.int k a,x]}:=by rw[←K];exact m7 _ rfl
 have z4:(NW).objs.size=f.objs.size+1:=by rw[B8,K]
 have k4:∀b o,b≠n->b≠c->f.get? b=some o->(NW).get? b=some o:=λ b o g b2 e=>
  i5 _ (p.extBut b o g (q.extBut b o g (r.extBut b o b2 e)))
 have r4:S (k+1) (d.push {cls:=.type "tuple",data:=.seq #[.int k a,x]}):=
  R.keep _ _ _ (R.ext (R.ext r1 q.extBut (NV J) d2) p.extBut (NV J) d2) (λ o e=>i5 _ e) (λ o e=>i5 _ e)
 generalize NW=g4 at C q4 z4 k4 r4 ⊢;have lt:n<f.objs.size:=j6 X;show wpAny _ _ (Builtin.SmallTypes.ownedTupleIsFree (.ref n) >>= _) _ _ ⟨g4,i,j,a+1,h⟩;rw[K];refine d4 ?_;unfold Builtin.SmallTypes.ownedTupleIsFree;refine d4 (x5 C rfl (x:=.none) rfl (e8 ?_));simp only[if_true];refine d4 (U9 (d4 (x5 C rfl (x:=old) rfl (d4 (B6 C MP λ H N B=>?_)))))
 replace B:Heap.SameBut n g4 H:=B
 replace N:IsEnum H n c ((k:Int)+1) x:=N
 show wpAny _ _ (Builtin.SmallTypes.ownedTupleHandOut (.ref n) (.ref f.objs.size) >>= _) _ _ ⟨H,i,j,a+1,h⟩;refine d4 ?_;unfold Builtin.SmallTypes.ownedTupleHandOut;refine d4 (B6 N MP λ Y M z=>?_)
 replace z:Heap.SameBut n H Y:=z
 replace M:IsEnumOut Y n c ((k:Int)+1) x f.objs.size:=M
 refine B6 M MP λ F L y=>?_
 replace y:Heap.SameBut n Y F:=y
 replace L:IsEnumOut F n c ((k:Int)+1) x f.objs.size:=L
 have u:∀b o,b≠n->g4.get? b=some o->F.get? b=some o:=λ b o g e=>y.extBut b o g (z.extBut b o g (B.extBut b o g e));exact d4 (aJ (e8 ⟨_,rfl,hQ F ⟨L,R.keep _ _ _ r4 (λ o e=>u _ o (NV J) e) (λ o e=>u _ o d2 e),u _ _ (M3 lt) q4,by rw[y.1,z.1,B.1,z4],λ b o g b2 e=>u b o g (k4 b o g b2 e)⟩⟩))
def FH(R:Src P w c l vs S)(d:IsEnum s.heap n c k old)(f:S k s.heap)(e:vs[k]? = some x)(i:n≠c)(h:l≠n)(g:∀b,tY s b n c k x S->Q (some No) {s with heap:=b,toks:=s.toks+1}) :
  wpAny NY A (pyNext (.ref n)) Q E s:=by
 have T:s.TypeIs (.ref n) "enumerate":=⟨_,d,rfl⟩;unfold pyNext;exact d4 (N9 (L7 T eR (C9 eR T pF (FG R d f e i h λ b a=>e8 (g b a)) (pj _))))
def FJ(i:NT)(R:Src P w c l vs S)(a:IsEnum s.heap n c k old)(m:S k s.heap)(h:vs[k]? = none)(p:∀b,Heap.ExtBut c s.heap b->Q none {s with heap:=b}) :
  wpAny NY A (pyNext (.ref n)) Q E s:=by
 have T:s.TypeIs (.ref n) "enumerate":=⟨_,a,rfl⟩;unfold pyNext;refine d4 (N9 (L7 T eR (C9 eR T pF ?_ (pj _))));show wpAny _ _ (field _ 2 >>= _) _ _ _;refine d4 (x5 a rfl rfl (d4 (R.stop k i m h λ g1 e d j=>?_)));obtain⟨o,g,f⟩:=j;exact d4 (aA ⟨o,g,f⟩ cn (e8 (p _ d)))
end
open AutoSeq1 (wpAny_loadPart') in
def FK(l:Mq)(vs:Mu Mo)(m:Nat)(dc:Mn Mq)(sl:Mu (Mn Mo)):Meets (Builtin.«enumerate.__new__» ⟨[.type "enumerate",.ref l],[]⟩) (λ _ R s=>s.heap.get? l=some {cls:=.type "tuple",dict:=dc,data:=.seq vs m,slots:=sl} /\
  R (.ok (.ret (.ref (zH1 s.heap true l).objs.size))) {s with heap:=(zH1 s.heap true l).push {cls:=.type "enumerate",data:=.fields #[.none,.bool false,.ref s.heap.objs.size,rawInt 0,.none,.none]}}):=
 .of_wp λ P w A R s h=>by
  obtain⟨g0,gg,gd,gt,go⟩:=s;obtain⟨q,h⟩:=h;have hsub:=sub_enumerate;have qT:Heap.IsTuple (Shared.heap ⟨g0,gg,gd,gt,go⟩) l vs:=⟨_,q,rfl,m,rfl⟩
  wp_walk using bT q
  refine wpAny_stack_any λ st=>e8 ?_;split
  ·rename_i y _ _ _ _ _;cases(y==Value.type "enumerate")
   ·wp_walk using bT q,U0 qT
    exact⟨_,rfl,h⟩
   ·wp_walk using bT q,U0 qT
    exact⟨_,rfl,h⟩
  ·wp_walk using bT q,U0 qT
   exact⟨_,rfl,h⟩
def FL         (t : Bool) (q : SqK t s.heap l vs)
    (h : ∀ a, IsEnum a (s.heap.objs.size + 1) s.heap.objs.size 0 .none -> sK t s.heap.objs.size l vs 0 a -> a.objs.size = s.heap.objs.size + 2 -> (∀ b o, s.heap.get? b = some o -> a.get? b = some o) -> Q (.ref (s.heap.objs.size + 1)) { s with heap := a }) :
    wpAny NY A (call (.type "enumerate") [.ref l]) Q E s := by
  cases t with
  | false => exact call_enumerate_list (q) λ a z x v k => h a z ⟨x, Heap.IsList.at (q) λ o e => k _ o e⟩ v k
  | true =>
    obtain⟨⟨y, u, r, n⟩, p, d, m, c⟩ := id (q)
    replace d : y = .type "tuple" := d
    replace c : r = .seq vs m := c
    subst d c;refine callType_new F.called_enumerate MG (F.typeCall_enumerate_1 _) (F.newCall_enumerate_1 _) (λ f => F.args_object_init_2 f _) F.entry_enumerate_new (FK l vs m u n) ⟨p, ?_⟩;have g : (zH1 s.heap true l).objs.size = s.heap.objs.size + 1 := B8 ..;have i := m7 (zH1 s.heap true l) (o := { cls := .type "enumerate", data := .fields #[.none, .bool false, .ref s.heap.objs.size, rawInt 0, .none, .none] }) rfl;have j : ∀ b o, s.heap.get? b = some o -> ((zH1 s.heap true l).push { cls := .type "enumerate", data := .fields #[.none, .bool false, .ref s.heap.objs.size, rawInt 0, .none, .none] }).get? b = some o := λ b o e => i5 _ (i5 _ e)
    rw [g] at i;show _ /\ _;rw [g];exact ⟨⟨_, i, rfl⟩, h _ i (lg (i5 _ (m7 _ rfl)) q j) (by rw [B8, g]) j⟩
def Ite(K:MA)(t:Bool)(a:Mq):It:=
  ⟨λ i H=>∃xs x,SqD t K H a xs/\xs[i]? = some x,
   λ i H x H'=>∃p v,x=.ref p/\H p=none/\(∀xs,SqD t K H a xs->xs[i]? = some v)/\H'=upd H p (.tup [.int i,v]),
   λ i H=>∃xs,SqD t K H a xs/\xs.length<=i⟩
def FM{K:MA}(t:Bool)(d1:n≠c)(d2:l≠n)(d3:l≠c) :
  Turn P w K (.Tuple elts k pos) (Ite K t l) [n,c] n (λ i h=>(∃f,IsEnum h n c (i:Nat) f)/\itK t h c l i) where
 mem:=by simp
 obj:=λ i h st b g=>by
  obtain⟨⟨f,m⟩,r⟩:=st;simp only[f8,F4,F8]at g;rcases g with rfl | rfl
  ·exact⟨_,m,λ v q=>by cases q⟩
  ·obtain⟨o,Y,e,d⟩:=br r;exact⟨o,e,λ v q=>by rw[d]at q;cases q⟩
 keep:=λ i h h' st q=>by obtain⟨⟨f,m⟩,r⟩:=st;exact⟨⟨f,q n MP _ m⟩,bq r λ o e=>q c MP o e⟩
 item:=by
  intro X R N S Z i j s C H E I B st Q;subst R N S;obtain⟨⟨f,m⟩,r⟩:=st;obtain⟨Y,x,A,M⟩:=Q;obtain⟨L,J,p⟩:=I.sqd A;obtain⟨u,hu,ru⟩:=J.get M;refine FH (aQ t d3) m (bo r p) (x:=u) (Nm hu) d1 d2 λ h' a=>⟨_,rfl,?_⟩
  obtain⟨a1,a2,a3,a4,a5⟩:=a;refine wpAny_letOwnedTupleGo_enum a1 λ U O F=>?_
  have z:s.heap.objs.size≠n:=M3 (j6 m);have keep:∀b o,b∉[n,c]->s.heap.get? b=some o->U.get? b=some o:=λ b o g e=>F.extBut _ _ (λ q=>g (by simp[q])) (a5 b o (λ q=>g (by simp[q])) (λ q=>g (by simp[q])) e);have I1:Inv X j C H {s with heap:=U,toks:=s.toks+1}:=I.turnedL (t':=s.toks+1) keep B;have y:H s.heap.objs.size=none:=I.hok.fresh (f6 _);have W:=I.fpOk (f6 _) y;have h0:X.s₀.heap.get? s.heap.objs.size=none:=X3 I.sz;have I2:Inv X j C (upd H s.heap.objs.size (.tup [.int i,x])) {s with heap:=U,toks:=s.toks+1}:=I1.track y h0 W.2.1 (λ n c e=>W.2.2.2.2.1 n c e) (λ q hq=>W.2.2.2.2.2 q hq)
   ⟨by show(2:Nat)<=sizeLine;decide,[.int i s.toks,u],.cons Nb (.cons ru .nil),_,(F.extBut _ _ z a3),⟨rfl,rfl⟩,_,rfl⟩
  refine⟨.ref s.heap.objs.size,_,I2,rfl,⟨_,x,rfl,y,λ xs' e=>by rw[I.sqd_inj e A];exact M,rfl⟩,⟨⟨_,by simpa using O⟩,bq (bp a2) λ o e=>F.extBut _ _ (NV d1) e⟩,λ b g=>?_⟩;have lt:b≠s.heap.objs.size:=by
   simp only[f8,F4,F8]at g;rcases g with rfl | rfl
   ·exact Ne.symm z
   ·obtain⟨o,_,e,_⟩:=br r;exact n9 (j6 e)
  rw[j8 lt];exact(B b g).1
 done:=by
  intro X R N S Z i j s C H E I B st Q;subst R N S;obtain⟨⟨f,m⟩,r⟩:=st;obtain⟨Y,A,M⟩:=Q;obtain⟨L,J,p⟩:=I.sqd A;have e1:=J.length;exact FJ (I.ok.hd Z) (aQ t d3) m (bo r p) (by simp;omega) λ h' a=>⟨rfl,I.turnedL (t':=s.toks) (ch:=[n,c]) (λ b o g e=>a b o (λ q=>g (by simp[q])) e) B⟩
 self:=λ _ _ _ _ _ st h=>by obtain⟨⟨f,m⟩,_⟩:=st;exact wpAny_pyIter_enum m h
theorem mO:∀(k:Nat) (a:on DV),(enuD k a).length=a.length
 | _,[]=>rfl
 | k,x::a=>by rw[enuD,l4,mO _ a,l4]
theorem tZ:∀{k:Nat} {a:on DV} {i:Nat} {d:DV},(enuD k a)[i]? = some d->∃x,a[i]? = some x/\d=.tup [.int ((k+i:Nat):Int),x]
 | _,[],_,_,h=>by simp[enuD]at h
 | k,x::a,0,d,h=>by simp[enuD]at h;exact⟨x,rfl,h.symm⟩
 | k,x::a,i+1,d,h=>by rw[enuD,eK]at h;obtain⟨y,c,b⟩:=tZ h;exact⟨y,by simpa using c,by rw[b,show k+1+i=k+(i+1)from by omega]⟩
def Wk.enum(h:SqD t D.K (L2.wo k c) a xs)(r:RepL D (L2.wo j c) ds xs):Wk D (Ite D.K t a) (enuD 0 ds) k j c where
 go:=λ i H s u=>by rw[mO]at u;exact⟨xs,xs[i]'(by rw[r.length];omega),o8.sqd (s.sqd h),i6 _⟩
 same:=λ i H x A y=>by obtain⟨p,v,_,b,_,e⟩:=y;rw[e];exact v6 b
 yld:=λ i H x A d O2 s o y e g=>by obtain⟨p,v,ex,b,n,w⟩:=y;obtain⟨d1,q,rfl⟩:=tZ e;obtain⟨v1,m,l⟩:=r.get q;have f:=n xs (o8.sqd (s.sqd h));rw[m]at f;cases f;subst w;refine B5.mpr ⟨p,_,ex,SqT.of (by rw[j4 (λ z=>(g p z).1 b)];exact u5),?_⟩;exact r6.mpr ⟨_,_,rfl,v5.mpr (by rw[F6]),RepL.one (l.mono ((gF o g).trans (v6 b).wo))⟩
 stop:=λ H s=>⟨xs,o8.sqd (s.sqd h),by rw[mO,r.length];exact f6 _⟩
def mP(h:a<n):n+1≠n/\a≠n+1/\a≠n:=by omega
def FN:bootBuiltins "enumerate" = some (.type "enumerate"):=by decide +kernel
def FO(E:Gl X "enumerate")(C:X.mg "enumerate" = none)(F:PA X [e] o)(hs:l9 e=false) :
  PI X (.Tuple elts k tpos) (.Call (.Name "enumerate" p) [e] [] pos) (λ i H R=>o i H λ n g=>∃t a,n=[.ref a]/\(∃m,SqD t X.K g a m)/\R (Ite X.K t a) g):=by
 intro b s i H R I h;refine Call_ (V2 I E C FN (bN (thn (F pos b s i H _ I h) λ us s1 ⟨n,g,f,y,z⟩=>?_) (by rw[p9 hs]) (Z9 [] MP)));obtain⟨t,a,J,⟨m,B⟩,q⟩:=z;subst J;obtain⟨u,rfl,x⟩:=y.one;cases x;obtain⟨A,rv,p1⟩:=f.sqd B;have j:=p1.lt;refine FL t p1 λ h' l w z6 v=>?_
 refine wpAny_pyIter_enum l ⟨s1.heap.objs.size+1,[s1.heap.objs.size+1,s1.heap.objs.size],_,_,g,rfl,(f.kept v),
  FM t (mP j).1 (mP j).2.1 (mP j).2.2,⟨⟨_,l⟩,bp w⟩,λ c r=>?_,q⟩
 have d:s1.heap.objs.size<=c:=by
  simp[f8,F4,F8]at r;rcases r with rfl | rfl
  ·exact E3 ..
  ·exact f6 _
 exact f.fpOk d (f.hok.fresh d)
def FP(u:Gl X "enumerate")(s:X.mg "enumerate" = none)(j:l9 e=false)(v:∀q,i=some q->PE X e MR)
  (h:m9 (Re.thn i λ x c=>cR x c)=some g):PI X (.Tuple elts k d) (.Call (.Name "enumerate" p) [e] [] pos) (dI X.D δ g):=by
 cases b:i with
 | none=>rw[b]at h;cases h
 | some q=>
  rw[b]at h;have A:=v q b;cases q with
  | ok C F=>
   have f:m9 (cR C F)=some g:=h;unfold cR at f;split at f
   ·rename_i o E r;cases f;exact((λ n (w:PE X e n)=>FO u s (F9 w O4 (p9 j)) j) _ A).weak λ σ H R' ⟨O,W,R,p⟩=>⟨O,W,R,λ x I s1 y=>by
     obtain⟨a,m,B,l,z⟩:=mN r y MX;exact⟨o,a,by rw[B],⟨m,o8.sqd l⟩,p _ I s1 (.enum ((D9 tW).sqd l) (z.mono (D9 tX)))⟩⟩
   ·cases f
def ua(h:IntsAre l a):∀i,i<a.length->∃t,l.getD i .none=.int (a.getD i 0) t:=by
 induction h with
 | nil=>intro i b;exact absurd b (Q4 _)
 | cons n t _ c=>
  intro i b;cases i with
  | zero=>exact⟨t,rfl⟩
  | succ i=>exact c i (Nm b)
def dL{X:Cx}{pins:on (Mq×Obj)}{H H':Hp}{b:Mq}(f:FpOk X pins H b)(h:H' b=none):FpOk X pins H' b:=⟨h,f.2⟩
def ub{st:SortSt}(I:MN pins)(u:FpOk X pins H D)(r:FpOk X pins H kS)(i:kS≠D)(n:s.heap.get? kS=some (seqObj "list" a e))(p:s.heap.get? D=some (seqObj "list" #[] l))(hz:a.size<=64)(hl:(putIx .none ix us).length<=64)
  (m:(arrOf st).map (·.2)=(putIx .none ix us).toArray) (j:failedOf st=none)
  (h:∀g c,Inv X pins σ H g->g.heap.get? D=some (seqObj "list" (putIx .none ix us).toArray c)->P (.done (.ret .none)) g):wpAny MI A (ksk_tail D false l (.ref kS) st) P E s:=by
 unfold ksk_tail;dsimp only;refine d4 (cw n rfl ?_ (by rw[F7];omega) (u9 _));have s1:=F3 s.heap kS (Obj.mapSeq λ _=>(#[]:Mu Mo));have d:=(s1.2 D i.symm).trans p;refine d4 (aJ ?_);refine d4 (seqEpoch_at d rfl ?_);rw[m];simp[U1,if_false];refine d4 (cw d rfl ?_ (u9 _) (by rw[t7,F7];omega));rw[j];simp[js,U1,if_false];refine e8 (h _ _ (I.turnedL (ch:=[kS,D]) (λ b o f q=>?_) λ b f=>?_) (get?_update_seq d λ _=>(putIx Value.none ix us).toArray))
 ·have k:b≠kS:=λ z=>f (by rw[z];exact i9 ..);rw[(F3 _ D _).2 b (λ z=>f (by rw[z];exact j5 _ (i9 ..))),s1.2 b k];exact q
 ·rcases f8.mp f with rfl | f
  ·exact r
  ·rw[s9.mp f];exact u
def FQ(I:MN pins)(F:FpOk X pins H D)(B:FpOk X pins H kS)(v:kS≠D)(y:s.heap.get? kS=some (seqObj "list" a e))(z:s.heap.get? D=some (seqObj "list" #[] L))(w:IntsAre a.toList kz)(b:kz.length=us.length)(x:us.length<64)(k:O5 kz=some ix)
  (h:∀d c,Inv X pins σ H d->d.heap.get? D=some (seqObj "list" (putIx .none ix us).toArray c)->ix.length=us.length->P (.done (.ret .none)) d):wpAny MI A (ksk_end D false us.toArray L (.ref kS) a) P E s:=by
 have o:a.toList.length=us.length:=by rw[w.length,b]
 have f:a.size=us.length:=by rw[←o,u3]
 have item:∀i,(PySem.W.kas_item (a.toList.toArray.zip us.toArray) i).2=us.getD i .none:=λ i=>by
  unfold PySem.W.kas_item;rw[T7,i8];by_cases n:i<us.length
  ·rw[L6 (by simp[f];omega)];simp[i6 n]
  ·rw[L8 (by simp;omega),J7 KE];rfl
 unfold ksk_end;dsimp only;simp only[U1,if_false];unfold O5 at k;by_cases m:us.toArray.size<2
 ·rw[d6 m,d6 m];rw[t7]at m;rw[d6 KE]at k;cases k;refine d4 (e8 ?_);rw[StateT.run_pure];refine d4 (e8 ?_);dsimp;have K:putIx Value.none (ML kz.length) us=us:=by unfold putIx;apply jx (by simp[b]);intro i R m;simp[i6 m]
  refine ub I F B v y z KE (by rw[K];omega) ?_ rfl λ d c J g=>h d c J g (by simp[b]);rw[K];show(a.zip us.toArray).map (·.2)=us.toArray;apply Array.ext (by simp[f]);intro i R m;simp
 ·rw[e7 m,e7 m];rw[t7]at m;rw[e7 KE]at k;obtain⟨p,M,r⟩:=o9.mp k;rw[ksk_kind w (by rw[f];omega)];refine d4 (e8 ?_);have W:a.zip us.toArray=a.toList.toArray.zip us.toArray:=by simp
  rw[W];refine d4 (A8 (PySem.W.kat_run (Q:=λ l d=>ix.length=us.length/\(arrOf l).map (·.2)=(putIx .none ix us).toArray/\failedOf l=none/\d=s) (G:=λ q d=>q=p/\d=s)
   o KE x (λ q l d a1 a2 Z Y=>?_) (rn (λ i j C n N O=>?_) ⟨rfl,rfl⟩ _ (by rw[←b];exact M))) ?_ λ _ _ e=>e)
  ·obtain⟨rfl,rfl⟩:=Y;refine⟨by rw[←r,u3];exact a1,?_,Z,rfl⟩;rw[a2,←r];apply Array.ext';unfold putIx;simp only[Array.toList_map,k9];exact z7 λ i _=>item i
  ·show wpAny _ A _ C _ s;obtain⟨t,U⟩:=ua w i n;obtain⟨u,S⟩:=ua w j N;rw[U,S];exact PySem.W.kat_lt_int O
  ·rintro⟨⟨⟩,l⟩ d ⟨b1,b2,b3,rfl⟩
   dsimp;exact ub I F B v y z KE (by unfold putIx;rw[d9];omega) b2 b3 λ d c J g=>h d c J g b1
def FR(I:MN pins)(fD:FpOk X pins H D)(fk:FpOk X pins H kS)(hne:kS≠D)(hk:s.heap.get? kS=some (seqObj "list" #[] 0))(hD:s.heap.get? D=some (seqObj "list" #[] e1))(rv:Vals vs us)(hlen:kz.length=us.length)(h64:us.length<64)(hix:O5 kz=some ix)
  (turn:∀(i:Nat) (v:V) (u:Mo) (k:Int),vs[i]? = some v->RelV v u->kz[i]? = some k->∀pins' s' H',Inv X pins' σ H' s'->Same H H'->wpAny MI A (call (.ref f) [u]) (EP X pins' σ (λ w H''=>w=.int k/\Same H' H'')) (λ _ _=>False) s')
  (h:∀s' H' c,Inv X pins σ H' s'->Same H H'->H' D=none->s'.heap.get? D=some (seqObj "list" (putIx .none ix us).toArray c)->ix.length=us.length->P (.done (.ret .none)) s'):wpAny MI A (ksk_rest D (.ref f) false us.toArray e1 (.ref kS)) P E s:=by
 unfold ksk_rest;refine d4 (U9 ?_)
 first
  | rw[List.forIn_toArray]
  | (rw[←Array.forIn_toList];simp only[List.toList_toArray])
  | rw[←Array.forIn_toList]
 refine d4 (ksk_fold (λ i s'=>∃H' kA e,Inv X pins σ H' s'/\Same H H'/\H' D=none/\H' kS=none/\s'.heap.get? kS=some (seqObj "list" kA e)/\s'.heap.get? D=some (seqObj "list" #[] e1)/\IntsAre kA.toList (kz.take i)) us 0 s
  ⟨H,#[],0,I,Same.refl H,fD.1,fk.1,hk,hD,by simpa using IntsAre.nil⟩ ?step ?done)
 case step=>
  rintro j x s' hx ⟨H',kA,e,I',sm,nD,nk,gk,gD,hi⟩
  simp only[F6]at hi ⊢;have hj:j<us.length:=(w5.mp hx).1;obtain⟨k,hkj⟩:∃k,kz[j]? = some k:=⟨_,i6 KE⟩;have hvj:j<vs.length:=by rw[rv.length];exact hj
  obtain⟨v,hv⟩:∃v,vs[j]? = some v:=⟨_,i6 hvj⟩;obtain⟨u,hu,ru⟩:=rv.get hv;rw[hx]at hu;cases hu;have hz:kA.size<=us.length:=by have h1:=hi.length;rw[u3,U2]at h1;omega
  have Ip:=I'.pinned (fp:=[kS,D]) (λ b hb=>by
   rcases f8.mp hb with rfl | hb
   ·exact dL fk nk
   ·rw[s9.mp hb];exact dL fD nD) (λ b hb=>by
   rcases f8.mp hb with rfl | hb
   ·exact⟨_,gk,λ v z=>by cases z⟩
   ·rw[s9.mp hb];exact⟨_,gD,λ v z=>by cases z⟩)
  refine d4 (N9 (A8 (turn j v x k hv ru hkj _ s' H' Ip sm) (λ y s'' he=>?_) λ _ _ hF=>hF.elim));obtain⟨w,H'',I'',r,rfl,sm'⟩:=he;obtain⟨t,rfl⟩:=r;dsimp only;obtain⟨qk,nk',_⟩:=I''.pin _ (t8 _ (t8 _ (aN (i9 ..) gk)));obtain⟨qD,nD',_⟩:=I''.pin _ (t8 _ (t8 _ (aN (j5 _ (i9 ..)) gD)));have s1:=F3 s''.heap kS (Obj.mapSeq (·.push (.int k t)));have ek:kz.take (j+1)=kz.take j++[k]:=by rw[List.take_add_one,hkj];simp
  have ea:(kA.push (Value.int k t)).toList=kA.toList++[Value.int k t]:=by simp
  refine d4 (cw qk rfl ?_ (by rw[F7];omega) (e9 (Nat.le_of_eq (Array.size_push ..)) (by rw[F7];omega)));refine e8 ⟨rfl,H'',kA.push (.int k t),_,I''.unpinned.turnedL (t':=s''.toks) (ch:=[kS]) (λ b o hb q=>?_) (λ b hb=>?_),sm.trans sm',nD',nk',get?_update_seq qk (·.push (.int k t)),(s1.2 D (NV hne)).trans qD,by rw[ea,ek];exact ksk_snoc hi⟩
  ·rw[s1.2 b λ z=>hb (by rw[z];exact i9 ..)];exact q
  ·rw[s9.mp hb];exact dL fk nk'
 case done=>
  rintro s' ⟨H',kA,e,I',sm,nD,nk,gk,gD,hi⟩
  have hi':IntsAre kA.toList kz:=(by rw[iT KE]at hi;exact hi);refine d4 (fA gk rfl ?_);exact FQ I' (dL fD nD) (dL fk nk) hne gk gD hi' hlen h64 hix λ s2 c J g hl=>h s2 H' c J sm nD g hl
def FT(I:MN pins)(Y:SqL X.K H a vs)(R:kz.length=vs.length)(h64:vs.length<64)(N:O5 kz=some ix)
  (turn:∀(i:Nat) (v:V) (u:Mo) (k:Int),vs[i]? = some v->RelV v u->kz[i]? = some k->∀p K y,Inv X p σ y K->Same H y->wpAny MI X.A.in1.in1 (call (.ref f) [u]) (EP X p σ (λ w P=>w=.int k/\Same y P)) (λ _ _=>False) K)
  (h:∀y q,Same H y->y q=none->Q (.ref q) (upd y q (MZ (putIx .non ix vs)))):wpAny MI X.A (call (.builtin "sorted") [.ref a] [(Str.ofString "key",.ref f)]) (EP X pins σ Q) E s:=by
 obtain⟨m,L,U,zl⟩:=I.list Y;have W:=L.length;refine call_function_entry_kw kind_sorted plain_sorted entry_sorted (ksk_s1 _ _) ?_
 unfold Builtin.«sorted»;refine d4 (e8 ?_);refine d4 (collect_list U.isList ?_ (by rw[F7];omega));refine d4 (jU ?_ (by rw[F7];omega));have z:((s.heap.push (seqObj "list" #[] 0)).update s.heap.objs.size (Obj.mapSeq (· ++ m.toArray))).objs.size=s.heap.objs.size+1:=(by rw[Heap.size_update,fH]);have r:(((s.heap.push (seqObj "list" #[] 0)).update s.heap.objs.size (Obj.mapSeq (· ++ m.toArray))).push (seqObj "list" m.toArray 0)).get? (s.heap.objs.size+1)=some (seqObj "list" m.toArray 0):=(by rw[←z];exact m7 _ rfl);have keep:∀b o,s.heap.get? b=some o->(((s.heap.push (seqObj "list" #[] 0)).update s.heap.objs.size (Obj.mapSeq (· ++ m.toArray))).push (seqObj "list" m.toArray 0)).get? b=some o:=λ b o q=>by have x:b<s.heap.objs.size:=j6 q;rw[Heap.get?_push_ne _ _ _ (by rw[z];exact n9 (ay x)),Heap.get?_update_ne _ _ _ _ (n9 x),Heap.get?_push_ne _ _ _ (n9 x)];exact q
 show wpAny _ _ _ _ _ {s with heap:=((s.heap.push (seqObj "list" #[] 0)).update s.heap.objs.size (Obj.mapSeq (· ++ m.toArray))).push _};rw[z];refine d4 (D0 (wpAny_call_entry_kw slot_list_sort ⟨_,r,rfl⟩ entry_list_sort ?body (ksk_l1 _ _)))
 case body=>
  rw[ksk_t1];unfold ksk_tree;refine d4 (fA r rfl ?_);refine d4 (cw r rfl ?_ (by rw[t7,F7];omega) (u9 _));generalize O:((s.heap.push (seqObj "list" #[] 0)).update s.heap.objs.size (Obj.mapSeq (· ++ m.toArray))).push _=C at r keep ⊢;have M:C.objs.size=s.heap.objs.size+2:=by rw[←O,fH,z]
  have s1:=F3 C (s.heap.objs.size+1) (Obj.mapSeq λ _=>(#[]:Mu Mo));obtain⟨S,A⟩:∃S,(C.update (s.heap.objs.size+1) (Obj.mapSeq λ _=>(#[]:Mu Mo))).get? (s.heap.objs.size+1)=some _:=⟨_,get?_update_seq r λ _=>#[]⟩;refine d4 (seqEpoch_at A rfl ?_);refine d4 (fi ?_ (by show m.length<=_;rw[F7];omega));refine d4 (jU ?_ (u9 _));refine D0 ?_;have B:((C.update (s.heap.objs.size+1) (Obj.mapSeq λ _=>(#[]:Mu Mo))).push (seqObj "tuple" m.toArray 0)).objs.size=s.heap.objs.size+3:=by rw[fH,Heap.size_update,M]
  have I1:Inv X pins σ H {s with heap:=((C.update (s.heap.objs.size+1) (Obj.mapSeq λ _=>(#[]:Mu Mo))).push (seqObj "tuple" m.toArray 0)).push (seqObj "list" #[] 0)}:=I.kept (t':=s.toks) λ b o q=>by have x:b<s.heap.objs.size:=j6 q;refine i5 _ (i5 _ ?_);rw[s1.2 b (n9 (ay x))];exact keep b o q
  have F:∀n,H (s.heap.objs.size+n)=none:=λ n=>I.hok.fresh (E3 _ _);refine FR I1 (I.fpOk (M4 _) (F 1)) (by rw[B];exact I.fpOk (E3 _ _) (F 3)) (by rw[B];exact M3 (Nat.add_lt_add_left MG _)) (m7 _ rfl)
   (i5 _ (i5 _ A)) L KE KE N turn λ K y c J sm nD g Z=>⟨_,rfl,?_⟩
  refine e8 ⟨_,rfl,.ref _,upd y (s.heap.objs.size+1) _,?_,rfl,h y _ sm nD⟩;refine J.track nD ?_ (I.fpOk (H':=H) (M4 _) (F 1)).2.1 (I.fpOk (H':=H) (M4 _) (F 1)).2.2.2.2.1 (I.fpOk (H':=H) (M4 _) (F 1)).2.2.2.2.2 ⟨by unfold putIx;rw[d9,Z,F7];omega,putIx .none ix m,c,L.putIx ix,g⟩;exact X3 (e9 I.sz (M4 _))
section
variable {X:Cx} {δ:on Sv} {ea bd:Ms} {pos p lp kp:Pos} {re:Re} {k:Nat} {x:Str} {pr:MC} {sc:MB} {c P:Mq} {m:LamD} {cs:on DV} {fr:on Nat} {pins:on (Mq×Obj)} {σ:St} {H:Hp} {s:Mp} {O W:on Mq} {f:Mq}
def FU(I:MN pins)(L:LamAt X sc c P)(T:LamTx m.N (m.N.take m.np) sc)(hcor:S8 m pr bd sc=true)(hN:m.N.length=m.np+fr.length)(hslot:Ni)
  (hcap:capD δ fr=some cs) (R:RSt X.D H σ δ O W) (lf:J3 H NU pr bd sc Nt f):Rep X.D (L2.wo (O++W) (trC ((Nt).map (·.2)) s.heap H)) (.lam m cs) (.ref f):=by
 generalize hl:(Nt).map (·.2)=l;have Ce:=Cells.of (sc:=sc) I (L.has I.ok);rw[hl]at Ce;have S:=T.full I (L.has I.ok);rw[hl]at S;obtain⟨ws,w1,w2,w3⟩:=mG R hcap;have same:=Ce.same;have hdA:=R.hid.hdA;have ou:∀{b:Mq} {o:Obj} {u:HO},H b=some (.frz o u)->b∉O++W:=λ {b o u} e z=>by obtain⟨o',q1,q2⟩:=hdA b z;rw[e]at q1;cases q1;cases q2
 have oc:∀{b:Mq},b∈l->b∉O++W:=λ {b} hb z=>by obtain⟨o',q1,q2⟩:=hdA b z;rw[Ce.none b hb]at q1;cases q1
 refine aW.mpr ⟨f,pr,bd,sc,X.env.qual ++ "<lambda>",l8 X.env.cells sc.names [],l,ws,rfl,?_,hcor,S,w2.mono same.wo,by rw[hN,w1],λ c hc=>?_,λ i y v h1 h2=>?_⟩
 ·obtain⟨c',oc',u,vs,t,pm,ctv,h1,h2,h3⟩:=lf;exact⟨c',oc',u,vs,t,pm,ctv,by rw[j4 (ou h1)];exact same _ _ h1,by rw[j4 (ou h2)];exact same _ _ h2,h3⟩
 ·obtain⟨o,v,g,d'⟩:=Ce.cel c hc;exact⟨o,v,by rw[j4 (oc hc)];exact aa hc g,d'⟩
 ·have hi:i<fr.length:=by rw[←w1];exact(w5.mp h2).1
  have hj:fr[i]? = some fr[i]:=i6 hi;obtain⟨y',q1,q2,q3⟩:=hslot i _ hj;rw[h1]at q1;cases q1;have hv:=w3 i _ v hj h2;obtain⟨mm,hn',hl'⟩:=I.loc;obtain⟨u,rv,lk⟩:=hl' _ y v q2 hv (.inr q3);rcases lk with⟨k1,_⟩ | ⟨k1,cc,k2,o,k3,k4⟩
  ·have k1:X.env.kindOf y=some .local:=k1;rcases q3 with q3 | q3<;>(rw[q3]at k1;cases k1)
  ·have hfre:(y,NameKind.free)∈sc.names:=A9 (T.fre (m.np+i) y (by rw[U2];exact e9 (jI _ _) (E3 _ _)) h1);have hcl:=mE (L.has I.ok) hfre k2;have hcc:cc∈l:=S.mem y cc hcl;exact⟨cc,o,u,hcl,by rw[j4 (oc hcc)];exact aa hcc k3,k4,rv⟩
def FV{F:Nat->on DV->Mn Ou}(I:MN h)(lo:ae X.prog X.w X.K X.mg X.base fn bl cl k (F u7))(hr:RoomL k A)(hA:A.frames=X.A.frames)(h1:m.fn=fn)(h2:m.bl=bl)(h3:m.cl=cl)
  (L:LamAt X sc c P) (T:LamTx m.N (m.N.take m.np) sc) (B:∀{h:on (Mq×Obj)} {σ:on (Mn V)} {H:Hp} {s:Mp},Inv X h σ H s->∀c∈(l8 X.env.cells sc.names []).map (·.2),X.base.get? c=none/\c∉frs X.stack) (C:S8 m S bd sc=true) (hN:m.N.length=m.np+fr.length) (x:Ni)
  (E:capD δ fr=some cs) (R:RSt X.D H σ δ O W) (lf:J3 H NU S bd sc Nt f) (Z:Rep X.D Nc d v) (Y:RelV v u) (hF:F u7 [.lam m cs,d]=some (.v (.int n) false)) :
  wpAny MI A (call (.ref f) [u]) (EP X h σ (λ w Q=>w=.int n/\Same H Q)) (λ _ _=>False) s:=by
 have lamR:=FU I L T C hN x E R lf;generalize U:(Nt).map (·.2)=l at lamR;have J:=Cells.of I (L.has I.ok);rw[U]at J;have M:=B I;rw[U]at M;have same:=J.same;have q:=I.env0;have e1:Env0 X.prog X.w X.K X.mg X.base A X.stack s H:=⟨hA.trans q.frames,q.mod,q.bs,q.bsz,q.funs,q.frf,q.hok,q.bare⟩;refine cH (O0 (lo A X.stack s _ [u] [v] (λ v K=>Same (trC l s.heap H) K/\v=.int n) (λ _ _ _=>False) (O++W) f m cs [d] _ hr (Env0.trC J (λ c N=>(M c N).1) (λ c N=>(M c N).2) e1) (.cons Y .nil) (λ a ha=>?_) h1 h2 h3 lamR (RepL.one (Z.mono same.wo)) hF λ v K sm g=>⟨sm,v5.mp g⟩) λ r s' p=>?_)
 ·obtain⟨o,q1,q2⟩:=R.hid.hdA a ha;exact⟨o,same _ _ q1,q2⟩
 ·cases r with
  | error e=>exact(p:False).elim
  | ok fl=>
   cases fl with
   | ret u=>
    refine I.after (CE.trC J p (λ v K sm z=>⟨z.2,λ b o e=>?_⟩) λ v K z=>z.1);rw[j4 λ w=>by rw[J.none b w]at e;cases e];exact sm _ _ (same _ _ e)
   | next=>exact False.elim p
   | brk=>exact False.elim p
   | cont=>exact False.elim p
theorem uc:∀{b:on DV} {a:on Int},S0 F mm b=some a->a.length=b.length/\∀(i:Nat) d n,b[i]? = some d->a[i]? = some n->F u7 [mm,d]=some (.v (.int n) false)
 | [],a,h=>by cases h;exact⟨rfl,λ i d n h=>by cases h⟩
 | d::r,a,h=>by
  unfold S0 at h;split at h
  ·rename_i n e;obtain⟨l,m,rfl⟩:=o9.mp h;obtain⟨j,g⟩:=uc m;refine⟨by rw[l4,l4,j],λ i o k f c=>?_⟩;cases i with
   | zero=>cases f;cases c;exact e
   | succ i=>exact g i o k f c
  ·cases h
def QK(X:Cx)(δ:on Sv)(F:NE)(m:LamD)(cs:on DV)(pr:MC)(bd:Ms)(sc:MB)(σ:St)(Q:VK):on V->Hp->Prop:=λ vs H1=>∃va,vs=[va]/\∀f H2,Same H1 H2->H1 f=none->J3 H2 NU pr bd sc Nt f ->
 ∃O W a xs ds ks ix,va=V.ref a/\RSt X.D H2 σ δ O W/\SqL X.K H2 a xs/\RepL X.D (L2.wo (O++W) H2) ds xs/\ds.length<64/\S0 F (.lam m cs) ds=some ks/\O5 ks=some ix/\∀H' q,Same H2 H'->H' q=none->Q (.ref q) (upd H' q (MZ (L2.putIx .non ix xs)))
def FW(lo:ae X.prog X.w X.K X.mg X.base fn bl cl k (F u7))(hr:Room k X.A)(h1:m.fn=fn)(h2:m.bl=bl)(h3:m.cl=cl)(hg:Gl X "sorted")(hm:X.mg "sorted" = none)(E:l9 ea=false)
  (L:LamAt X sc c P) (S:defaultsOf pr X.env=([],[])) (T:LamTx m.N (m.N.take m.np) sc) (N:∀{b:on (Mq×Obj)} {d:on (Mn V)} {H:Hp} {s:Mp},Inv X b d H s->∀c∈(l8 X.env.cells sc.names []).map (·.2),X.base.get? c=none/\c∉frs X.stack) (U:S8 m pr bd sc=true) (hN:m.N.length=m.np+fr.length) (B:Ni)
  (Y:capD δ fr=some cs) (ha:PE X ea (dE X.D δ ra)) (h:(Re.thn (some ra) λ x cx=>srtL F (.lam m cs) x cx)=some re):PE X (.Call (.Name "sorted" p) [ea] [⟨some "key",.Lambda pr bd sc lp,kp⟩] pos) (dE X.D δ re):=by
 have C:∀{ta:TE},PE X ea ta->PE X (.Call (.Name "sorted" p) [ea] [⟨some "key",.Lambda pr bd sc lp,kp⟩] pos) (λ d H Q=>aP ta tNil d H (QK X δ F m cs pr bd sc d Q)):=λ {ta} A=>by
  intro b s d H Q I h;refine X5 (V2 I hg hm boot_sorted ?_ MG MG);refine PyProof.Rows.callWith_kw (thn (F9 A (O4 (X:=X)) (p9 E) pos b s d H _ I h) λ us s1 ⟨vs,H1,I1,r1,q1⟩=>?_) (by rw[p9 E];rfl) (by rw[p9 E];rfl);obtain⟨va,rfl,q1⟩:=q1;refine thn (At (nm:=some "key") (kpos:=kp) (tM (bd:=bd) (lp:=lp) L S) (As (X:=X)) pos b s1 d H1 (λ ws g=>∃f,ws=[.ref f]/\J3 g NU pr bd sc Nt f/\∃O W a r o M K,va=V.ref a/\RSt X.D g d δ O W/\SqL X.K g a r/\RepL X.D (L2.wo (O++W) g) o r/\o.length<64/\S0 F (.lam m cs) o=some M/\O5 M=some K/\∀H' q,Same g H'->H' q=none->Q (.ref q) (upd H' q (MZ (L2.putIx .non K r)))) I1
   (λ f g sm hn lf=>⟨f,rfl,lf,q1 f g sm hn lf⟩)) λ ws s2 t0=>?_;obtain⟨zs,g,I2,rz,f,e,lf,O,W,a,r,o,M,K,e',R,sq,rl,a3,hk,J,hq⟩:=t0
  subst e e';obtain⟨u1,rfl,a1⟩:=H9 r1;obtain⟨u2,rfl,a0⟩:=H9 rz;obtain rfl:u1=Value.ref a:=a1;obtain rfl:u2=Value.ref f:=a0;show wpAny _ X.A _ _ X.xe s2;obtain⟨k1,k2⟩:=uc hk;refine FT I2 sq (by rw[k1,rl.length]) (by rw[rl.length];exact a3) J (λ i v u n hv ru hn a2 s' H' I' sm=>?_) hq;have hi:i<o.length:=by rw[←rl.length];exact(w5.mp hv).1
  have hd:=i6 hi;obtain⟨v',e1,rp⟩:=rl.get hd;rw[hv]at e1;cases e1;exact FV I' lo hr.toL2 rfl h1 h2 h3 L T N U hN B Y (R.mono sm) (lf.mono sm) (rp.mono sm.wo) ru (k2 i _ n hd hn)
 cases ra with
 | ok dx cx=>
  have l:srtL F (.lam m cs) dx cx=some re:=h;unfold srtL at l;split at l
  ·rename_i o;split at l
   ·rename_i z;obtain⟨M,hk,l⟩:=G4.mp l;obtain⟨K,J,rfl⟩:=o9.mp l;refine(C ha).weak λ d H Q ⟨O,W,R,p⟩=>⟨O,W,R,λ va H1 s1 g1=>⟨va,rfl,λ f g s2 hn lf=>?_⟩⟩
    have w:=s1.trans s2;obtain⟨a,r,e1,e2,e3⟩:=g1.lstC MX;have Z:RepL X.D (L2.wo (O++W) H1) o r:=by
     cases cx with
     | strong=>exact e3
     | fresh=>exact e3
     | weak=>cases z.1
     | top=>exact e3
    refine⟨O,W,a,r,o,M,K,e1,R.mono w,SqL.of (s2 _ _ e2),Z.mono s2.wo,z.2,hk,J,λ H' q sm hq=>p _ _ ((w.trans sm).trans (v6 hq)) ?_⟩;exact V8 (R.hid.mono (w.trans sm)) hq ((Z.mono (s2.trans sm).wo).putIx K)
   ·cases l
  ·cases l
end
noncomputable def dEnd(D:Dm)(H0:Hp)(O:on Mq)(Dn:Ends):Out->Prop
 | .nx δ=>∀σ H W,RSt D H σ δ O W->(∀a∈W,H0 a=none)->Same H0 H->Dn.nx σ H
 | .rt d fr=>∀v H,Same H0 H->GotR D O H0 H d fr v->Dn.rt v H
def dS(D:Dm)(δ:on Sv)(o:Out):TS:=λ Dn σ H=>∃H0 O W,RSt D H σ δ O W/\(∀a∈W,H0 a=none)/\(∀a∈O,H0 a≠none)/\Same H0 H/\dEnd D H0 O Dn o
def FX:PSs X [] (dS X.D δ (.nx δ)):=zn.weak λ Dn a H ⟨H0,O,W,R,b,fo,sm,k⟩=>k a H W R b sm
def FY{rest:on Mz}(g:PS X c (dS X.D δ (.nx δ1)))(f:PSs X rest (dS X.D δ1 o)):PSs X (c::rest) (dS X.D δ o):=
 (pP g f).weak λ Dn σ H ⟨d,O,W,R,h,fo,sm,k⟩=>⟨d,O,W,R,h,fo,sm,λ e H' i j b a=>⟨d,O,i,j,b,fo,a,k⟩⟩
def FZ{rest:on Mz}(b:PS X a (dS X.D δ (.rt d fr))):PSs X (a::rest) (dS X.D δ (.rt d fr)):=
 (pP b kt).weak λ Dn σ H ⟨c,O,W,R,fr,fo,sm,k⟩=>⟨c,O,W,R,fr,fo,sm,k⟩
def Ga(n:∀q,e=some q->PT X c (dT X.D δ q))(r:∀q,l=some q->PSs X body (dS X.D δ q))(p:∀q,j=some q->PSs X d (dS X.D δ q))(h:(Rt.thnS δ e λ k=>if k then l else j)=some o):PS X (.If c body d pos) (dS X.D δ o):=by
 cases a:e with
 | none=>rw[a]at h;cases h
 | some q=>
  rw[a]at h;have C:=n q a;cases q with
  | ok b=>
   cases b with
   | true=>
    have f:=h;exact(pR C (r o f) kt).weak λ u m H ⟨i,O,W,R,g,fo,sm,k⟩=>⟨O,W,R,λ s s1=>iteT ⟨i,O,W,R.mono s1,g,fo,sm.trans s1,k⟩⟩
   | false=>
    have f:=h;exact(pR C kt (p o f)).weak λ u m H ⟨i,O,W,R,g,fo,sm,k⟩=>⟨O,W,R,λ s s1=>iteF ⟨i,O,W,R.mono s1,g,fo,sm.trans s1,k⟩⟩
def Gb(w:∀q,j=some q->PE X e MR)(h:(Re.thnS δ j λ d c=>some (retD d c))=some o):PS X (.Return (some e) pos) (dS X.D δ o):=by
 cases f:j with
 | none=>rw[f]at h;cases h
 | some q=>
  rw[f]at h;have A:=w q f;cases q with
  | ok d cl=>
   have x:=h;cases x;refine(pQ A).weak λ J σ H ⟨I,O,W,R,y,fo,sm,k⟩=>⟨O,W,R,λ v F s1 g=>(k:dEnd X.D I O J _) v F (sm.trans s1) ?_⟩;cases l:frD d cl with
   | false=>exact g.weak MX
   | true=>
    unfold frD at l;split at l
    ·obtain⟨p,i,E,s,r,n,C,B⟩:=g;exact⟨p,i,E,s,r,sm.free n,C,B.mono (D9 λ b m=>by rcases f8.mp m with z | z;exact f8.mpr (.inl z);exact j5 _ (w6 _ z))⟩
    ·obtain⟨a,i,s,u,r,n⟩:=g;exact⟨a,i,_,s,rfl,y a u,o8 _ _ r,n.mono (D9 λ b m=>by rcases f8.mp m with z | z;rw[z];exact t8 _ u;exact w6 _ z)⟩
    ·cases l
def gH(h:S5 v=false):swapsWith v t l env=pure false:=by
 cases v<;>first | rfl | cases h
def Gc(i:∀q,b=some q->PE X e MR)(f:S5 e=false)(h:(Re.thnS δ b λ _ _=>some (.nx δ))=some o):PS X (.Expr e pos) (dS X.D δ o):=by
 cases a:b with
 | none=>rw[a]at h;cases h
 | some q=>
  rw[a]at h;have A:=i q a;cases q with
  | ok d cl=>cases h;exact(kr A (gH f)).weak λ Dn c H ⟨H0,O,W,R,j,fo,sm,k⟩=>⟨O,W,R,λ v l s1 g=>k c l W (R.mono s1) j (sm.trans s1)⟩
def dM:b∈O++p::W↔b∈p::(O++W):=by
 simp[x3,f8];constructor
 ·rintro(h | h | h)
  ·exact .inr (.inl h)
  ·exact .inl h
  ·exact .inr (.inr h)
 ·rintro(h | h | h)
  ·exact .inr (.inl h)
  ·exact .inl h
  ·exact .inr (.inr h)
def P3{l:on c}(h:(l.set i a)[j]? = some b)(d:a≠b):j≠i:=λ z=>by
 subst z;have e:j<l.length:=by have:=(w5.mp h).1;rw[A7]at this;exact this
 rw[J6 e]at h;exact d (z9 h)
def bt{l:on c}(h:(l.set i a)[i]? = some b):i<l.length/\a=b:=by
 have d:=(by have:=(w5.mp h).1;rw[A7]at this;exact this);rw[J6 d]at h;exact⟨d,z9 h⟩
def RSt.alloc(R:RSt D H σ δ O W)(s:Same H H')(E:H p=none)(g:H' p=some (MZ xs))(r:RepL D (L2.wo (p::(O++W)) H') ds xs)(i:Nat) :
  RSt D H' (σ.set i (some (.ref p))) (δ.set i (.own (MZ ds))) O (p::W):=by
 have f:Same _ (L2.wo (O++p::W) H'):=λ b o e=>by obtain⟨F,e⟩:=w4 e;rw[j4 (λ z=>by rcases f8.mp (dM.mp z)with z | z;exact x6 e E z;exact F z)];exact s b o e
 refine⟨λ j d h=>?_,λ j I h=>?_,λ j k a y Z S Q w u=>?_,R.od.step f (lZ _ (by intro d z;cases z)) (λ _ h _=>j5 _ h) (λ a N _ h _=>s _ _ h),by rw[A7,A7];exact R.len,⟨λ a n=>?_,Same.refl _,λ a n=>?_,λ a n=>?_,R.hid.omS s⟩⟩
 ·have c:=P3 h MO;rw[t5 (NV c)]at h ⊢;obtain⟨v,w,u⟩:=R.val j d h;exact⟨v,w,u.mono f⟩
 ·by_cases c:j=i
  ·subst c;obtain⟨P,e⟩:=bt h;cases e;exact⟨p,xs,ds,rfl,J6 (by rw[R.len];exact P),i9,g,r.mono (D9 λ b F=>dM.mp F)⟩
  ·rw[t5 (NV c)]at h ⊢;obtain⟨a,A,x,Y,w,u,X,U⟩:=R.own j I h;exact⟨a,A,x,Y,w,j5 _ u,s _ _ X,U.mono f⟩
 ·have l:∀{j:Nat} {y:DV},(δ.set i (.own (MZ ds)))[j]? = some _->(σ.set i (some (.ref p)))[j]? = some (some (V.ref a))->(j=i/\a=p)\/(j≠i/\δ[j]? = some (.own y)/\σ[j]? = some (some (V.ref a))/\a≠p):=λ {j y} h e=>by
   by_cases c:j=i
   ·subst c;obtain⟨_,z⟩:=bt e;cases z;exact .inl ⟨rfl,rfl⟩
   ·rw[t5 (NV c)]at h e;refine .inr ⟨c,h,e,λ z=>?_⟩;obtain⟨a',A,x,_,M,_,L,_⟩:=R.own j y h;rw[e]at M;cases M;rw[z,E]at L;cases L
  rcases l S w with⟨J,B⟩ | ⟨J,B,z3,z4⟩<;>rcases l Q u with⟨K,C⟩ | ⟨K,C,y3,y4⟩
  ·rw[J,K]
  ·exact absurd B y4
  ·exact absurd C z4
  ·exact R.inj j k a y Z B C z3 y3
 ·rcases f8.mp (dM.mp n)with z | z
  ·rw[z,g];intro q;cases q
  ·intro q;exact R.hid.ot a z (s.free q)
 ·rcases f8.mp n with z | z
  ·exact⟨_,by rw[z];exact g,rfl⟩
  ·obtain⟨A,q,m⟩:=R.hid.wl a z;exact⟨A,s _ _ q,m⟩
 ·rcases f8.mp n with z | z
  ·intro q;exact R.hid.ot p (w6 _ (by rw[←z];exact q)) E
  ·exact R.hid.dj a z
def RSt.write(R:RSt D H σ δ O W)(y:δ[i]? = some (.own (MZ ds)))(B:σ[i]? = some (some (.ref a)))(r:RepL D Nc l f) :
  RSt D (upd H a (.lst f)) σ (δ.set i (.own (.lst l))) O W:=by
 obtain⟨a',xs,Z,e0,K,J,Y,e4⟩:=R.own i _ y;rw[B]at K;cases K;have g:Same _ (L2.wo (O++W) (upd H a (.lst f))):=λ b o e=>by obtain⟨u,e⟩:=w4 e;rw[j4 u,j8 λ z=>u (by rw[z];exact t8 _ J)];exact e
 have hl:=(w5.mp y).1;refine⟨λ j d h=>?_,λ j p h=>?_,λ j k b I d2 X U s w=>?_,R.od.step g (Dz (by intro d z;cases z)) (λ _ h _=>h) (λ b S _ h m=>by rw[j8 (λ z=>by rw[z,Y]at h;cases h;cases m)];exact h),by rw[A7];exact R.len,⟨λ b u q=>?_,Same.refl _,λ b u=>?_,R.hid.dj,R.hid.omW (by assumption)⟩⟩
 ·have n:=P3 h MO;rw[t5 (NV n)]at h;obtain⟨v,s,w⟩:=R.val j d h;exact⟨v,s,w.mono g⟩
 ·by_cases n:j=i
  ·subst n;obtain⟨_,e⟩:=bt h;cases e;exact⟨a,f,l,rfl,B,J,u5,r.mono g⟩
  ·rw[t5 (NV n)]at h;obtain⟨b,A,C,Q,s,w,P,N⟩:=R.own j p h;refine⟨b,A,C,Q,s,w,?_,N.mono g⟩;rw[j8 λ z=>n (R.inj j i a p _ h y (by rw[←z];exact s) B)];exact P
 ·have x:∀{j:Nat} {I:DV},(δ.set i (.own (.lst l)))[j]? = some _->∃d0,δ[j]? = some (.own d0):=λ {j I} h=>by
   by_cases n:j=i
   ·subst n;exact⟨_,y⟩
   ·rw[t5 (NV n)]at h;exact⟨I,h⟩
  obtain⟨F,M⟩:=x X;obtain⟨E,L⟩:=x U;exact R.inj j k b F E M L s w
 ·by_cases c:b=a
  ·rw[c,u5]at q;cases q
  ·rw[j8 c]at q;exact R.hid.ot b u q
 ·by_cases c:b=a
  ·exact⟨_,by rw[c];exact u5,rfl⟩
  ·obtain⟨A,q,m⟩:=R.hid.wl b u;exact⟨A,by rw[j8 c];exact q,m⟩
def dN(h:Same c H)(d:c a=none):Same c (upd H a o):=λ b u e=>by
 rw[j8 (x6 e d)];exact h b u e
def ud{own:Bool}(h:(if own then cU i δ d cl else(if stro d cl then some (.nx (δ.set i (.val d)))else none))=some o)
  (R:RSt D H σ δ O W) (fr:∀a∈W,c a=none) (sm:Same c H) (k:dEnd D c O j o):∀v e,Same H e->Got D O W H e d cl v->j.nx (σ.set i (some v)) e:=λ v b s1 g=>by
 cases own with
 | true=>
  simp only[if_true]at h;unfold cU at h;split at h
  ·cases h;obtain⟨p,xs,ds,s,r,f,q,n⟩:=g;subst s r;exact k _ b (p::W) (R.alloc s1 f q n i) (λ a l=>by
    rcases f8.mp l with z | z
    ·rw[z];exact sm.free f
    ·exact fr a z) (sm.trans s1)
  ·split at h
   ·cases h;exact k _ b W ((R.mono s1).setVal (S9.mpr (S9.mp (g.weak MX))) i) fr (sm.trans s1)
   ·cases h
 | false=>
  simp only[U1,if_false]at h;split at h
  ·rename_i m;cases h;exact k _ b W ((R.mono s1).setVal (g.stro MX m) i) fr (sm.trans s1)
  ·cases h
def ue{X:Cx}{δ:on Sv}{o:Out}{e:Ms}{pos pos':Pos}{ra:Mn Re}{i:Nat}{x:Str}{own:Bool}(hN:X.N.Nodup)(hi:X.N[i]? = some x)(hx:Loc X.env.scope x)(hf:X.fn x=true\/X.env.scope.names.lookup x=some .local)(ha:∀q,ra=some q->PE X e MR)(hc:swapsWith e (some (.Name x pos')) pos.line X.env=pure false)
  (h:(Re.thnS δ ra λ d c=>if own then cU i δ d c else(if stro d c then some (.nx (δ.set i (.val d)))else none))=some o):PS X (.Assign [.Name x pos'] e pos) (dS X.D δ o):=by
 cases hra:ra with
 | none=>rw[hra]at h;cases h
 | some q=>
  rw[hra]at h;have A:=ha q hra;cases q with
  | ok d cl=>exact(pW hN hi hx A hc hf).weak λ Dn σ H ⟨H0,O,W,R,fr,fo,sm,k⟩=>⟨O,W,R,ud h R fr sm k⟩
def Gd{X:Cx}{δ:on Sv}{o:Out}{pos pos':Pos}{i:Nat}{x:Str}{own:Bool}{tgE iter elt:Ms}{ifs:on Ms}{scope:MB}{N':on Str}{fr:on (Mn Nat)}{tg:Tg}{re:Re}(S:NS N')(hc:NN)(hN:X.N.Nodup)(hi:X.N[i]? = some x)(hx:X.env.scope.names.lookup x=some .local)
  (P:W0 X δ tgE iter ifs elt scope N' fr tg re) (hG:∀C cells s₂ H₂ fp,PG (p4 X scope N' C cells s₂ H₂ fp) tgE (gT X.K tg)) (hset:D7 iter=false) {cpos:Pos} (hsw:swapsWith (.ListComp elt [⟨tgE,iter,ifs,0⟩] scope cpos) (some (.Name x pos')) pos.line X.env=pure true)
  (h:(Re.thnS δ (some re) λ d c=>if own then cU i δ d c else(if stro d c then some (.nx (δ.set i (.val d)))else none))=some o):PS X (.Assign [.Name x pos'] (.ListComp elt [⟨tgE,iter,ifs,0⟩] scope cpos) pos) (dS X.D δ o):=by
 obtain⟨wi,tc,te,h1,h2,h3,h4⟩:=P;refine(Bg S hc hN hi hx h1 hG h2 h3 hsw (mL hset)).weak λ Dn σ H ⟨H0,O,W,R,fr,fo,sm,k⟩=>?_
 unfold tAsg;refine h4 σ H _ ⟨O,W,R,?_⟩;cases re with
 | ok d cl=>exact ud h R fr sm k
def Ge(hv:PE X (.Name x b) (tVar i))(I:∀q,r=some q->PE X e MR)(s:l9 e=false)(n:(j.endLine==f.line)=true)
  (h:(match δ[i]? with
   | some (.own (.lst p))=>Re.thnS δ r λ d c=>if stro d c/\p.length<l5 then some (.nx (δ.set i (.own (MZ (p++[d])))))else none
   | _=>none)=some o):PS X (.Expr (.Call (.Attribute (.Name x b) "append" j) [e] [] f) pos) (dS X.D δ o):=by
 split at h
 ·rename_i p y;cases l:r with
  | none=>rw[l]at h;cases h
  | some q=>
   rw[l]at h;have A:=I q l;cases q with
   | ok d cl=>
    have u:(if stro d cl/\p.length<l5 then some (Out.nx (δ.set i (.own (MZ (p++[d])))))else none)=some o:=h;split at u
    ·rename_i m;cases u;exact((λ t (J:PE X e t)=>kr (qt iR PySem.F.slot_list_append PySem.F.type_list_append AS hv (F9 J O4 (p9 s)) rfl (by rw[p9 s];rfl) n (p9 s) rfl) rfl) _ A).weak λ Dn F H ⟨H0,O,W,R,z,fo,sm,k⟩=>by obtain⟨a,w,M,L,E,K,C,B⟩:=R.own i _ y;cases L;refine⟨.ref a,E,.inl ⟨rfl,w,SqL.of C⟩,O,W,R,λ v H1 s1 g=>?_⟩;refine⟨a,w,v,rfl,rfl,s1 _ _ C,by rw[B.length];exact o4 m.2 MG,?_⟩;exact k F _ W ((R.mono s1).write y E ((B.mono s1.wo).append (RepL.one (g.stro MX m.1)))) z (dN (sm.trans s1) (z a K))
    ·cases u
 ·cases h
def Gf(hv:PE X (.Name x b) (tVar i))(U:∀q,z=some q->PE X e MR)(Q:∀q,w=some q->PE X l MR)(E:V6 l=false)
  (h:(match δ[i]? with
   | some (.own (.lst s))=>Re.thnS δ z λ d c=>Re.thnS δ w λ k _=>(match k with
    | .int k=>(match A0 s.length k with
     | some j=>if stro d c then some (.nx (δ.set i (.own (MZ (s.set j d)))))else none
     | none=>none)
    | _=>none)
   | _=>none)=some o):PS X (.Assign [.Subscript (.Name x b) l f] e pos) (dS X.D δ o):=by
 have sub:∀v,assign (.Subscript (.Name x b) l f) X.env v=(do
   let ov ←holding [v] (eval (.Name x b) X.env)
   let iv ←holding [v,ov] (eval l X.env)
   standAt f
   holding [v,ov,iv] (setItem ov iv v)
   release [v,ov,iv] []):=by cases l<;>first | (intro _;rfl) | cases E
 have C:=λ t N (Z:PE X e t) (Y:PE X l N)=>pV (pos:=pos) Z (zu hv Y AI sub) (by cases e<;>rfl) (by cases e<;>rfl) rfl;split at h
 ·rename_i s F;cases p:z with
  | none=>rw[p]at h;cases h
  | some q=>
   rw[p]at h;have A:=U q p;cases q with
   | ok d cl=>
    cases n:w with
    | none=>rw[n]at h;cases h
    | some q=>
     rw[n]at h;have B:=Q q n;cases q with
     | ok dk ck=>
      have r:(match(generalizing:=false) dk with
       | .int k=>(match A0 s.length k with
        | some j=>if stro d cl then some (Out.nx (δ.set i (.own (MZ (s.set j d)))))else none
        | none=>none)
       | _=>none)=some o:=h
      split at r
      ·rename_i P;split at r
       ·rename_i j S;split at r
        ·rename_i m;cases r;exact(C _ _ A B).weak λ Dn L H ⟨H0,O,W,R,I,fo,sm,k⟩=>⟨O,W,R,λ v H1 s1 g=>by
          have u:=R.mono s1;obtain⟨a,M,ds0,e0,K,e2,e3,J⟩:=u.own i _ F;cases e0;refine⟨.ref a,K,O,W,u,λ y H2 s2 g2=>?_⟩;have R2:=u.mono s2;refine⟨a,M,P,j,rfl,g2.int (u.hid.mono s2),s2 _ _ e3,by rw[J.length];exact S,?_⟩;exact k L _ W (R2.write F K (RepL.set ((g.mono s2).stro ((MX).mono s2) m) j (J.mono s2.wo))) I (dN ((sm.trans s1).trans s2) (I a e2))⟩
        ·cases r
       ·cases r
      ·cases r
 ·cases h
def Got.seq(g:Got D O W n H d c v)(m:NG n)(o:c=.strong\/c=.fresh)(f:K2 d=some (b,k)):∃a e,v=.ref a/\(SqL D.K H a e\/SqT D.K H a e)/\RepL D Nc k e:=by
 have l:c ≠ .weak:=by rcases o with z | z<;>(rw[z];intro q;cases q)
 unfold K2 at f;split at f
 ·cases f;obtain⟨a,e,j,i,h⟩:=g.items m l;exact⟨a,e,j,.inl (SqL.of i),h⟩
 ·cases f;obtain⟨a,e,j,i,h⟩:=g.itemsT m l;exact⟨a,e,j,.inr i,h⟩
 ·cases f
def Gg(hv:PE X (.Name x f) (tVar i))(P:∀q,y=some q->PE X e MR)(z:l9 e=false)(p:(l.endLine==j.line)=true)
  (h:(match δ[i]? with
   | some (.own (.lst u))=>Re.thnS δ y λ d c=>if c=.strong\/c=.fresh then(match K2 d with
    | some (_,s)=>if u.length+s.length<=l5 then some (.nx (δ.set i (.own (MZ (u++s)))))else none
    | none=>none)else none
   | _=>none)=some o):PS X (.Expr (.Call (.Attribute (.Name x f) "extend" l) [e] [] j) pos) (dS X.D δ o):=by
 split at h
 ·rename_i u E;cases n:y with
  | none=>rw[n]at h;cases h
  | some q=>
   rw[n]at h;have A:=P q n;cases q with
   | ok d cl=>
    have r:(if cl=.strong\/cl=.fresh then(match K2 d with
     | some (_,s)=>if u.length+s.length<=l5 then some (Out.nx (δ.set i (.own (MZ (u++s)))))else none
     | none=>none)else none)=some o:=h
    split at r
    ·rename_i B;split at r
     ·rename_i b s N;split at r
      ·rename_i m;cases r;exact((λ t (Q:PE X e t)=>kr (qt iR PySem.F.slot_list_extend PySem.F.type_list_extend Cn hv (F9 Q O4 (p9 z)) rfl (by rw[p9 z];rfl) p (p9 z) rfl) rfl) _ A).weak λ Dn M H ⟨H0,O,W,R,F,fo,sm,k⟩=>by obtain⟨a,C,ds0,Z,L,Y,K,J⟩:=R.own i _ E;cases Z;refine⟨.ref a,L,.inl ⟨rfl,C,SqL.of K⟩,O,W,R,λ v H1 s1 g=>?_⟩;obtain⟨a2,w,U,S,I⟩:=g.seq MX B N;refine⟨a,a2,C,w,rfl,by rw[U],s1 _ _ K,S,by rw[J.length,I.length];exact e9 m MG,?_⟩;exact k M _ W ((R.mono s1).write E L ((J.mono s1.wo).append I)) F (dN (sm.trans s1) (F a Y))
      ·cases r
     ·cases r
    ·cases r
 ·cases h
def Gh(h:lW v=true):swappedStores [.Tuple b k p] v env=pure none:=by
 cases q:G2 v with
 | none=>cases v<;>first | rfl | cases q
 | some a=>
  obtain⟨k2,p2,rfl⟩:=aV q;have c:a.all _=true:=h;unfold swappedStores;simp only[c]
  repeat (first | rfl | split)
def Gi(B:PG X (.Tuple m kk n) (gSeq X.K is.length (dJ is)))(C:∀q,p=some q->PE X e MR)(E:S5 e=false)(y:lW e=true)
  (h:(Re.thnS δ p λ d c=>if c=.strong\/c=.fresh then(match K2 d with
   | some (_,i)=>(R9 δ is i).map Out.nx
   | none=>none)else none)=some o):PS X (.Assign [.Tuple m kk n] e pos) (dS X.D δ o):=by
 cases a:p with
 | none=>rw[a]at h;cases h
 | some q=>
  rw[a]at h;have A:=C q a;cases q with
  | ok d cl=>
   have f:(if cl=.strong\/cl=.fresh then(match K2 d with
    | some (_,i)=>(R9 δ is i).map Out.nx
    | none=>none)else none)=some o:=h
   split at f
   ·rename_i r;split at f
    ·rename_i b i z;obtain⟨w,s,x⟩:=o9.mp f;subst x;exact((λ t (F:PE X e t)=>pV F B (by show swapsWith e (some (.Tuple m kk n)) pos.line X.env=pure false;exact gH E) (Gh y) rfl) _ A).weak λ Dn σ H ⟨H0,O,W,R,I,fo,sm,k⟩=>⟨O,W,R,λ v N s1 g=>by
      obtain⟨L,l,K,J,u⟩:=g.seq MX r z;exact⟨L,l,K,J,by rw[u.length,(gG s).1],mJ (R.mono s1) u s λ j M=>k j N W M I (sm.trans s1)⟩⟩
    ·cases f
   ·cases f
def Gj(h:asIv o=some a):o=some (.val (.int a)):=by
 cases o with
 | none=>cases h
 | some sv=>cases sv with
  | val d=>rw[O9 h]
  | _=>cases h
def Gk(s:X.N.Nodup)(m:X.N[i]? = some x)(l:Loc X.env.scope x)(n:X.fn x=true\/X.env.scope.names.lookup x=some .local)(p:∀q,f=some q->PE X e MR)(hv:δ[i]? = some (MM a))(h:(Re.thnS δ f λ d _=>(asI d).bind λ b=>some (Out.nx (δ.set i (MM (a+b)))))=some o):PS X (.AugAssign (.Name x pos') .Add e pos) (dS X.D δ o):=by
 cases c:f with
 | none=>rw[c]at h;cases h
 | some q=>
  rw[c]at h;have A:=zw (pos:=pos) (pos':=pos') s m l (p q c) zx n;cases q with
  | ok d cl=>
   obtain⟨b,r,h⟩:=G4.mp (h);obtain rfl:=O9 r;cases h;refine A.weak λ Dn σ H t0=>?_;obtain⟨H0,O,W,R,u,fo,sm,k⟩:=t0
   obtain⟨v,j,w⟩:=R.val i _ hv;rw[v5.mp w]at j;exact⟨.int a,j,O,W,R,λ v y s1 g=>by
     have:=g.int MX;subst this;exact⟨a,b,rfl,rfl,k _ y W ((R.mono s1).setVal (v5.mpr rfl) i) u (sm.trans s1)⟩⟩
def PSs.any{t:ι->TS}(h:∀k,PSs X body (t k)):PSs X body (λ D b H=>∃k,t k D b H):=λ a s b H D I ⟨k,q⟩=>h k a s b H D I q
def PT.any{t:ι->TT}(h:∀k,PT X e (t k)):PT X e (λ b H Q=>∃k,t k b H Q):=λ a s b H Q I ⟨k,q⟩=>h k a s b H Q I q
structure Lp(H0 H1:Hp)(O W:List Addr):Prop where
 out:∀{H:Hp},Same (L2.wo W H1) H->Same H0 H
 outW:∀{a:Addr},L2.wo W H1 a=none->H0 a=none
 in1:∀a∈W,L2.wo W H1 a=none
 in2:∀a∈O,L2.wo W H1 a≠none
 wsame:∀{H:Hp},Same (L2.wo W H1) H->Same (L2.wo (O++W) H1) Nc
def Lp.mk'(fr:∀a∈W,d a=none)(fo:∀a∈O,d a≠none)(sm:Same d g):Lp d g O W where
 out:=λ {H} s b u e=>s b u (by
  rw[j4 λ z=>by rw[fr b z]at e;cases e];exact sm b u e)
 outW:=λ {a} q=>by
  by_cases z:a∈W
  ·exact fr a z
  ·rw[j4 z]at q;exact sm.free q
 in1:=λ a c=>aY c
 in2:=λ a c=>by rw[j4 λ z=>fo a c (fr a z)];intro q;exact fo a c (sm.free q)
 wsame:=λ {H} s b u e=>by obtain⟨f,e⟩:=w4 e;rw[j4 f];exact s b u (by rwa [j4 λ z=>f (t8 _ z)])
def Lp.gotR(L:Lp b a O W)(g:GotR D O (L2.wo W a) H d fr v):GotR D O b H d fr v:=by
 cases fr with
 | false=>exact g
 | true=>
  obtain⟨p,c,k,j,i,h,f,e⟩:=g;exact⟨p,c,k,j,i,L.outW h,f,e⟩
def Gm(hp:PassesOwn MI X.A X.env X.xe)(hc:NN)(hi:∀q,ri=some q->PI X u j (dI X.D δ q))(hG:PG X u (gT X.K tg))(hb:∀δ' o,f δ'=some o->PSs X body (dS X.D δ' o))(M:D7 j=false)
  (h:(Ri.thnS δ ri λ l c=>if c=.strong\/c=.fresh then l7 tg f l δ else none)=some o):PS X (.For u j body [] pos) (dS X.D δ o):=by
 have B:PSs X body (λ D E H=>∃k:{p:on Sv×Out // f p.1=some p.2},dS X.D k.1.1 k.1.2 D E H):=PSs.any λ k=>hb k.1.1 k.1.2 k.2;cases C:ri with
 | none=>rw[C]at h;cases h
 | some q=>
  rw[C]at h;have A:=hi q C;cases q with
  | ok l c=>
   have h':(if c=.strong\/c=.fresh then l7 tg f l δ else none)=some o:=h;split at h'
   ·rename_i m;refine(zQ hp hc A hG B (mL M)).weak λ Dn E H ⟨H0,O,W,R,fr,fo,sm,k⟩=>⟨O,W,R,λ J I s1 w=>?_⟩
    have R1:=R.mono s1;have L:=Lp.mk' fr fo (sm.trans s1);have w:Wk X.D J l (O++W) (O++W) I:=(by rcases m with m | m<;>subst m<;>exact w);refine⟨λ i n E H=>n=l.length - i/\i<=l.length/\∃b F,l7 tg f (l.drop i) b=some o/\RSt X.D H E b O F/\(∀a∈F,L2.wo W I a=none)/\Same (L2.wo W I) H,
     ⟨l.length,rfl,u9 _,δ,W,h',R1,L.in1,o8⟩,?_⟩
    rintro i n S P ⟨rfl,hi,b,W2,hgo,R2,b1,b2⟩
    by_cases s:i<l.length
    ·refine .inr ⟨w.go i P (L.wsame b2) s,λ E H=>∃b F,l7 tg f _ b=some o/\RSt X.D H E b O F/\_/\Same (L2.wo W I) H,
      λ U H' q=>⟨l.length - (i+1),by omega,rfl,s,q⟩,λ x H3 y=>?_⟩
     have Y:=w.same i P x H3 y;have y3:=w.yld i P x H3 _ (O++W2) (L.wsame b2) (L.wsame b2) y (i6 s) λ a Q=>⟨R2.hid.ot a Q,by
      rcases x3.mp Q with z | z
      ·exact .inl (w6 _ z)
      ·have q:=b1 a z;by_cases hw:a∈W
       ·exact .inl (t8 _ hw)
       ·rw[j4 hw]at q;exact .inr q⟩
     rw[iJ s]at hgo;unfold l7 at hgo;split at hgo
     ·cases hgo
     ·rename_i K a2;refine mK (R2.mono Y) y3 a2 λ σ3 R3=>?_
      split at hgo
      ·rename_i r a1;exact⟨⟨⟨K,.nx r⟩,a1⟩,L2.wo W I,O,W2,R3,b1,L.in2,b2.trans Y,λ U H' F R' N Z=>⟨r,F,hgo,R',N,Z⟩⟩
      ·rename_i a0;refine⟨⟨⟨K,o⟩,hgo⟩,L2.wo W I,O,W2,R3,b1,L.in2,b2.trans Y,?_⟩;cases o with
       | nx r=>exact absurd hgo (a0 r)
       | rt d N=>exact λ v H' s' g=>k v H' (L.out s') (L.gotR g)
    ·have e:i=l.length:=by omega
     subst e;rw[jy]at hgo;cases hgo;exact .inl ⟨w.stop P (L.wsame b2),k S P W2 R2 (λ a Q=>L.outW (b1 a Q)) (L.out b2)⟩
   ·cases h'
def Gn(J:PassesOwn MI X.A X.env X.xe)(K:∀δ' r,e δ'=some r->PT X c (dT X.D δ' r))(M:∀δ' o,f δ'=some o->PSs X body (dS X.D δ' o))(h:J0 e f n δ=some o):PS X (.While c body [] pos) (dS X.D δ o):=by
 have B:PSs X body (λ D j H=>∃k:{p:on Sv×Out // f p.1=some p.2},dS X.D k.1.1 k.1.2 D j H):=PSs.any λ k=>M k.1.1 k.1.2 k.2;have T:PT X c (λ j H Q=>∃k:{p:on Sv×Rt // e p.1=some p.2},dT X.D k.1.1 k.1.2 j H Q):=PT.any λ k=>K k.1.1 k.1.2 k.2;refine(zC J T B).weak λ Dn j H t0=>?_;obtain⟨H0,O,W,R,P,fo,sm,k⟩:=t0;have L:=Lp.mk' P fo sm;refine⟨λ m j w=>∃b u,J0 e f m b=some o/\RSt X.D w j b O u/\(∀a∈u,L2.wo W H a=none)/\Same (Nf W) w,⟨n,δ,W,h,R,L.in1,o8⟩,?_⟩
 rintro m A w ⟨b,W2,hgo,R2,b1,b2⟩
 cases m with
 | zero=>cases hgo
 | succ m=>
  unfold J0 at hgo;split at hgo
  ·cases hgo
  ·rename_i l;cases hgo;refine⟨⟨⟨b,.ok false⟩,l⟩,O,W2,R2,λ x s=>iteF ?_⟩;exact k A x W2 (R2.mono s) (λ a N=>L.outW (b1 a N)) (L.out (b2.trans s))
  ·rename_i l;refine⟨⟨⟨b,.ok true⟩,l⟩,O,W2,R2,λ x s=>iteT ?_⟩;refine⟨λ j w=>∃b u,J0 e f m b=some o/\RSt X.D w j b O u/\_/\Same _ w,λ C x q=>⟨m,aB m,q⟩,?_⟩;split at hgo
   ·rename_i i y;exact⟨⟨⟨b,.nx i⟩,y⟩,L2.wo W H,O,W2,R2.mono s,b1,L.in2,b2.trans s,λ C x u S z E=>⟨i,u,hgo,S,z,E⟩⟩
   ·rename_i F;refine⟨⟨⟨b,o⟩,hgo⟩,L2.wo W H,O,W2,R2.mono s,b1,L.in2,b2.trans s,?_⟩;cases o with
    | nx i=>exact absurd hgo (F i)
    | rt d z=>exact λ v x I g=>k v x (L.out I) (L.gotR g)
def RSt.growD(R:RSt D H σ δ O W)(l:H p=none)(w:mutO i=true):RSt D (upd H p i) σ δ O (p::W):=by
 have s:Same H (upd H p i):=v6 l;have c:Same _ (L2.wo (O++(p::W)) _):=λ b o e=>by
  obtain⟨x,e⟩:=w4 e;rw[j4 λ z=>?_]
  ·exact s b o e
  ·rcases f8.mp (dM.mp z)with z | z
   ·rw[z,l]at e;cases e
   ·exact x z
 refine⟨λ j d h=>?_,λ j d h=>?_,R.inj,R.od.step c (λ j d h=>⟨h,rfl⟩) (λ _ h _=>j5 _ h) (λ a _ _ h _=>s _ _ h),R.len,⟨λ a f=>?_,Same.refl _,λ a f=>?_,λ a f=>?_,R.hid.omS s⟩⟩
 ·obtain⟨v,r,n⟩:=R.val j d h;exact⟨v,r,n.mono c⟩
 ·obtain⟨a,g,u,B,r,n,A,y⟩:=R.own j d h;exact⟨a,g,u,B,r,j5 _ n,s _ _ A,y.mono c⟩
 ·rcases f8.mp (dM.mp f)with z | z
  ·rw[z,u5];intro q;cases q
  ·intro q;exact R.hid.ot a z (s.free q)
 ·rcases f8.mp f with z | z
  ·exact⟨_,by rw[z];exact u5,w⟩
  ·obtain⟨g,q,m⟩:=R.hid.wl a z;exact⟨g,s _ _ q,m⟩
 ·rcases f8.mp f with z | z
  ·intro q;exact R.hid.ot p (w6 _ (by rw[←z];exact q)) l
  ·exact R.hid.dj a z
def RSt.setOd(R:RSt D H σ δ O W)(E:p∈W)(s:OdOk D Nc A r)(F:H p=some r)(c:∀(j:Nat) d,δ[j]? = some (.od d)->σ[j]? ≠ some (some (.ref p))):RSt D H (σ.set i (some (.ref p))) (δ.set i (.od A)) O W:=by
 refine⟨λ j d h=>?_,λ j d h=>?_,λ j k a L K n m l g=>?_,λ j d h=>?_,by rw[A7,A7];exact R.len,R.hid⟩
 ·have b:=P3 h MO;rw[t5 (NV b)]at h ⊢;exact R.val j d h
 ·have b:=P3 h MO;rw[t5 (NV b)]at h ⊢;exact R.own j d h
 ·have C:=P3 n MO;have B:=P3 m MO;rw[t5 (NV C)]at n l;rw[t5 (NV B)]at m g;exact R.inj j k a L K n m l g
 ·by_cases b:j=i
  ·subst b;obtain⟨v,e⟩:=bt h;cases e;have y:_[j]? = some (some (V.ref p)):=J6 (by rw[R.len];exact v);refine⟨⟨p,r,s,y,E,F⟩,λ k x q w=>?_⟩;by_cases f:k=j
   ·exact f
   ·rw[t5 (NV f)]at q w;exact absurd (w.trans y) (c k x q)
  ·rw[t5 (NV b)]at h;obtain⟨⟨a,o,J,l,g,I⟩,u⟩:=R.od j d h;refine⟨⟨a,o,J,by rw[t5 (NV b)];exact l,g,I⟩,λ k x q w=>?_⟩;rw[t5 (NV b)]at w;by_cases f:k=i
   ·subst f;obtain⟨v,_⟩:=bt q;rw[J6 (by rw[R.len];exact v)]at w;exact absurd w.symm (c j d h)
   ·rw[t5 (NV f)]at q w;exact u k x q w
def RSt.writeOd(R:RSt D H σ δ O W)(U:δ[i]? = some (.od d))(X:σ[i]? = some (some (.ref p)))(F:p∈W)(hH:H p=some P)(J:dicO P=true)(y:OdOk D Nc A B):RSt D (upd H p B) σ (δ.set i (.od A)) O W:=by
 have f:Same _ (L2.wo (O++W) (upd H p B)):=λ b o e=>by obtain⟨x,e⟩:=w4 e;rw[j4 x,j8 λ z=>x (by rw[z];exact t8 _ F)];exact e
 have E:∀{b:Mq} {s:on V},H b=some (.lst s)->b≠p:=λ {b s} h z=>by rw[z,hH]at h;cases h;cases J
 refine⟨λ j d h=>?_,λ j d h=>?_,λ j k a A d2 l g C K=>?_,λ j d h=>?_,by rw[A7];exact R.len,⟨λ b x q=>?_,Same.refl _,λ b x=>?_,R.hid.dj,R.hid.omW F⟩⟩
 ·have r:=P3 h MO;rw[t5 (NV r)]at h;obtain⟨v,l,g⟩:=R.val j d h;exact⟨v,l,g.mono f⟩
 ·have r:=P3 h MO;rw[t5 (NV r)]at h;obtain⟨b,s,L,Z,l,g,N,Y⟩:=R.own j d h;exact⟨b,s,L,Z,l,g,by rw[j8 (E N)];exact N,Y.mono f⟩
 ·have n1:=P3 l MO;rw[t5 (NV n1)]at l;rw[t5 (Ne.symm (P3 g MO))]at g;exact R.inj j k a A d2 l g C K
 ·have Q:∀{k:Nat} {M:DV},(δ.set i (.od A))[k]? = some (.od M)->∃d0,δ[k]? = some (.od d0):=λ {k M} q=>by
   by_cases S:k=i
   ·subst S;exact⟨_,U⟩
   ·rw[t5 (NV S)]at q;exact⟨_,q⟩
  obtain⟨dj,n⟩:=Q h;obtain⟨⟨a,o,e0,C,K,e3⟩,u⟩:=R.od j dj n;refine⟨?_,λ k M q w=>by obtain⟨dk,I⟩:=Q q;exact u k dk I w⟩;by_cases r:j=i
  ·subst r;obtain⟨hl,e⟩:=bt h;cases e;exact⟨p,B,y.mono f,X,F,u5⟩
  ·rw[t5 (NV r)]at h;rw[n]at h;cases h;refine⟨a,o,e0.mono f,C,K,?_⟩;rw[j8 λ z=>r ((R.od i _ U).2 j _ n (by rw[C,X,z]))];exact e3
 ·by_cases c:b=p
  ·rw[c,u5]at q;cases q
  ·rw[j8 c]at q;exact R.hid.ot b x q
 ·by_cases c:b=p
  ·exact⟨_,by rw[c];exact u5,y.mut⟩
  ·obtain⟨s,q,m⟩:=R.hid.wl b x;exact⟨s,by rw[j8 c];exact q,m⟩
section
variable {X:Cx} {δ:on Sv} {o:Out} {e ek ed ea:Ms} {pos pos' npos spos apos cpos:Pos} {ra rb rc:Mn Re} {i:Nat} {x:Str} {re:Re}
def Go(L:on ((Int×Int)×Int)):(oeK L).map (λ p=>DKey.t p.1)=L.map λ p=>.t [.inl p.1.1,.inl p.1.2]:=by
 unfold oeK;rw[k9];rfl
def Gp(L:on ((Int×Int)×Int)):RepL D H (L.map λ p=>.int p.2) ((oeK L).map (·.2)):=by
 unfold oeK;rw[k9]
 induction L with
 | nil=>exact y9.mpr rfl
 | cons p r a=>exact r6.mpr ⟨_,_,rfl,v5.mpr rfl,a⟩
def dkO:HO->Bool
 | .dK _=>true
 | .dT _=>true
 | _=>false
def Gq(hv:PE X (.Name x npos) (tVar i)):PE X (.Name x npos) (λ k H Q=>∃a o,k[i]? = some (some (.ref a))/\H a=some o/\dkO o=true/\∀c,Q (.ref a) (upd H a (.frz c o))):=by
 intro g s k H Q I h;obtain⟨a,o,y,f,d,q⟩:=h;refine thn (hv g s k H (λ v j=>v=.ref a/\j=H) I ⟨_,y,rfl,rfl⟩) λ u s1 t0=>?_;obtain⟨v,j,n,r1,w,r⟩:=t0
 subst w r;have ok:=n.hok _ _ f;obtain⟨c,z5⟩:∃c,s1.heap.get? a=some c:=by
  cases o with
  | dK m=>obtain⟨_,_,_,_,c,_,_,e,_⟩:=ok;exact⟨c,e⟩
  | dT m=>obtain⟨_,_,_,_,c,_,_,e,_⟩:=ok;exact⟨c,e⟩
  | _=>cases d
 have l:t6 X.prog X.w (upd j a (.frz c o)) s1.heap a o:=by
  refine ok.stay (λ _ _ _ e=>e) (λ b e=>?_) (λ b p e=>?_) (λ b p e=>?_) λ b _ _ _ _ e=>?_
  ·rw[j8 λ z=>by rw[z,f]at e;cases e;cases d];exact e
  ·rw[j8 λ z=>by rw[z,f]at e;cases e;cases d];exact e
  ·rw[j8 λ z=>by rw[z,f]at e;cases e;cases d];exact e
  ·rw[j8 λ z=>by rw[z,f]at e;cases e;cases d];exact e
 exact⟨.ref a,upd j a (.frz c o),n.write (by rw[f];cases o<;>first | trivial | cases d) (.inl rfl) (λ b u hb e=>e) ⟨c,z5⟩ ⟨z5,l⟩,r1,q c⟩
def mQ{o:HO}(h:OdOk D H d o)(hd:isDc d=true):∃L,d=.tup [oeD L]/\o=.dT (oeK L):=h
def Gr (hv : PE X (.Name x npos) (tVar i)) (h : (match δ[i]? with
   | some (.od d) => if isDc d then some (Out.rt (unT d) false) else none
   | _ => none) = some o) : PS X (.Return (some (.Name x npos)) pos) (dS X.D δ o) := by
 split at h
 ·rename_i d g;split at h
  rotate_left
  ·cases h
  rename_i a;cases h;refine (pQ (Gq hv)).weak λ Dn σ H ⟨H0, O, W, R, j, fo, sm, k⟩ => ?_
  obtain ⟨⟨p, ob, n, m, b, l⟩, u⟩ := R.od i _ g;obtain ⟨L, e, c⟩ := mQ n a;subst e c;refine ⟨p, _, m, l, rfl, λ f => k _ _ (dN sm (j p b)) ?_⟩;show Rep X.D _ _ _;exact aX.mpr (.inr ⟨p, f, oeK L, rfl, by rw [j4 (R.hid.dj p b)]; exact u5, Go L, Gp L⟩)
 ·cases h
def Gu(h:V6 ek=false):NoSl ek:=λ ov iv=>by cases ek<;>first | rfl | cases h
def mR(K:MA)(H:Hp)(a:Mq)(y:V)(r:Mn V):Prop:=DGet H a y r\/∃kvs k b,Rd H a (.dT kvs)/\y=.ref b/\SqT K H b (k.map kV)/\r=valV kvs k
def Gv{pins:on (Mq×Obj)}{σ:St}{H:Hp}{s:Mp}{a:Mq}{ks:on Key}(I:MN pins)(e:SqT X.K H a (ks.map kV)):(tupleKind (D1 X.prog X.w)).is s.heap ks a:=by
 rcases e with h | ⟨o,its,n,h1,h2,h3,_,h5⟩
 ·obtain⟨_,its,r,o,h1,h2,n,h3⟩:=(show t6 X.prog X.w H s.heap a (.tup (ks.map kV))from mi I.hok h);exact⟨o,its.toArray,n,h1,h2.1,h3,by simpa using gz r⟩
 ·exact⟨o,its,n,I.kIn a o h1,h2.1,h3,gz h5⟩
def Gw{E:Mo->Mp->Prop}(o:A.units+1<cLine)(I:MN c)(g:mR X.K H a y (some v))(n:RelV y u)(h:∀d m,Inv X c σ H m->RelV v d->Q d m) :
  wpAny MI A (getItem (.ref a) u) Q E s:=by
 rcases g with g | ⟨kvs,k,b,e,ey,eb,l⟩
 ·exact DW o I g n h
 ·subst ey;cases(n);obtain⟨z,hd,xs,i,w⟩:=dG I.hok e;obtain⟨d,q,f⟩:=RelO.some_of (by rw[l];exact i.val k);obtain⟨p,r,j⟩:=o9.mp q;refine wpAny_getItem_heap (jh o) (Gv I eb) w r ?_;rw[j];exact h d _ (I.tok _) f
def Gx{o:Mn V}(I:MN c)(g:mR X.K H a y o):s.TypeIs (.ref a) "dict":=by
 rcases g with g | ⟨kvs,k,b,e,ey,eb,l⟩
 ·exact Ea I g
 ·obtain⟨_,_,xs,_,d⟩:=dG I.hok e;exact d.typeIs
noncomputable def Gy(K:MA)(td ty:TE):TE:=λ σ H Q=>td σ H λ x H1=>ty σ H1 λ y H2=>∃a v,x=.ref a/\mR K H2 a y (some v)/\Q v H2
def Gz{e:TE}(m:X.A.units+1<cLine)(o:PE X ea e)(p:PE X ek ty)(n:NoSl ek):PE X (.Subscript ea ek pos) (Gy X.K e ty):=by
 intro b s d H Q I h;refine DZ PySem.F.slot_dict_getitem.lookup n (thn (o b s d H _ I h) λ u s1 ⟨x,z,r,j,l⟩=>thn (p b s1 d z _ r l) λ iv s2 t0=>?_);obtain⟨y,w,f,i,a,v,ex,g,k⟩:=t0;subst ex;obtain rfl:u=Value.ref a:=j;exact⟨Gx f g,Gw m f g i λ w' s3 q c=>⟨v,w,q,c,k⟩⟩
def GA(h:Rep D H (.tup [.int a,.int b]) v):∃p,v=.ref p/\SqT D.K H p (([.inl a,.inl b]:on Key).map kV):=by
 obtain⟨p,xs,j,c,i⟩:=B5.mp h;obtain⟨v1,vs,rfl,r1,g⟩:=r6.mp i;obtain⟨v2,d,rfl,f,e⟩:=r6.mp g;rw[v5.mp r1,v5.mp f,y9.mp e]at c;exact⟨p,j,c⟩
end
def kP(p:Int×Int):on Key:=[.inl p.1,.inl p.2]
def gI(h:kP p=kP q):p=q:=by
 unfold kP at h;obtain⟨a,b⟩:=p;obtain⟨c,d⟩:=q;simp at h;rw[h.1,h.2]
noncomputable def putP(L:on ((Int×Int)×Int))(k:Int×Int)(z:Int):on ((Int×Int)×Int):=if(L.any λ p=>decide (p.1=k))=true then L.map (λ p=>if p.1=k then(p.1,z)else p)else L++[(k,z)]
def GB(L:on ((Int×Int)×Int))(k:Int×Int)(z:Int):putK (oeK L) (kP k) (.int z)=oeK (putP L k z):=by
 have e:((oeK L).any λ a=>decide (a.1=kP k))=L.any λ p=>decide (p.1=k):=by
  unfold oeK;rw[fB]
  congr 1
  funext p
  show decide (kP p.1=kP k)=decide _;by_cases h:p.1=k
  ·rw[o6 (by rw[h]),o6 h]
  ·rw[o5 (λ z=>h (gI z)),o5 h]
 unfold putK putP;rw[e];split
 ·unfold oeK;rw[k9,k9];apply z7;intro p _;show(if kP p.1=kP k then(kP p.1,V.int z)else(kP p.1,V.int p.2))=(kP (if p.1=k then(p.1,z)else p).1,V.int (if p.1=k then(p.1,z)else p).2);by_cases h:p.1=k
  ·rw[d6 (by rw[h]),d6 h]
  ·rw[e7 (λ z=>h (gI z)),e7 h]
 ·unfold oeK;rw[o7];rfl
def kD(p:Int×Int):DKey:=.t [.inl p.1,.inl p.2]
def mS(h:kD p=kD q):p=q:=gI (DKey.t.inj h)
def GC(L:on ((Int×Int)×Int))(k:Int×Int)(z:Int):putD (kD k) (.int z) (L.map λ p=>kD p.1) (L.map λ p=>.int p.2)=((putP L k z).map (λ p=>kD p.1),(putP L k z).map (λ p=>.int p.2)):=by
 have e:(kD k∈L.map λ p=>kD p.1)↔(L.any λ p=>decide (p.1=k))=true:=by
  rw[g9,B1];constructor
  ·rintro⟨p,c,b⟩;exact⟨p,c,by rw[E2];exact mS b⟩
  ·rintro⟨p,c,b⟩;exact⟨p,c,by rw[E2.mp b]⟩
 unfold putD putP;by_cases h:(L.any λ p=>decide (p.1=k))=true
 ·rw[d6 (e.mpr h),d6 h,k9,k9];refine Prod.ext ?_ ?_
  ·apply z7;intro p _;show kD p.1=kD (if p.1=k then(p.1,z)else p).1;split<;>rfl
  ·show List.map _ _=_;rw[List.zip_map_left,List.zip_map_right];have:∀(L:on ((Int×Int)×Int)),List.zip L L=L.map λ p=>(p,p):=by
    intro L
    induction L with
    | nil=>rfl
    | cons a r d=>rw[List.zip_cons_cons,d];rfl
   rw[this,k9,k9,k9];apply z7;intro p _;show(if kD p.1=kD k then DV.int z else DV.int p.2)=DV.int (if p.1=k then(p.1,z)else p).2;by_cases h:p.1=k
   ·rw[d6 (by rw[h]),d6 h]
   ·rw[e7 (λ z=>h (mS z)),e7 h]
 ·rw[e7 (λ z=>h (e.mp z)),e7 h,o7,o7];rfl
def GD(r:X.N.Nodup)(l:X.N[i]? = some x)(g:Loc X.env.scope x)(m:X.fn x=true\/X.env.scope.names.lookup x=some .local)(h:some (Out.nx (δ.set i (.od (.tup [.dct [] []]))))=some o):PS X (.Assign [.Name x b] (.Dict [] [] pos') pos) (dS X.D δ o):=by
 cases h;refine(pW r l g Ef rfl m).weak λ Dn σ H ⟨H0,O,W,R,s,fo,sm,k⟩=>λ p c=>?_
 exact k _ _ _ ((R.growD c rfl).setOd (i9 ..) ⟨[],rfl,rfl⟩ u5 λ j d q w=>by
   obtain⟨⟨a,o,_,u,_,f⟩,_⟩:=R.od j d q;rw[u]at w;cases w;rw[c]at f;cases f) (λ a n=>by
  rcases f8.mp n with z | z
  ·rw[z];exact sm.free c
  ·exact s a z) (sm.trans (v6 c))
def GE(h:Z0 (kD k) (L.map λ p=>kD p.1) (L.map λ p=>.int p.2)=some (.int v)):valV (oeK L) (kP k)=some (.int v):=by
 induction L with
 | nil=>cases h
 | cons p r c=>
  have b:(if kD p.1=kD k then some (DV.int p.2)else Z0 (kD k) _ _)=some _:=h;show valV ((kP p.1,V.int p.2)::oeK r) (kP k)=_;by_cases a:p.1=k
  ·rw[d6 (by rw[a])]at b;cases b;rw[gx (by rw[a])]
  ·rw[e7 (λ z=>a (mS z))]at b;rw[gy (λ z=>a (gI z))];exact c b
def GF(hu:X.A.units+1<cLine)(hv:PE X (.Name x f) (tVar i))(he:∀q,F=some q->PE X e MR)(hk:∀q,E=some q->PA X es (dA X.D δ q))(hc:S5 e=false)
  (h:(match δ[i]? with
   | some (.od (.tup [.dct I y]))=>Re.thnS δ F λ d _=>Rs.thnS δ E λ l=>(dppD i δ I y l d).map Out.nx
   | _=>none)=some o):PS X (.Assign [.Subscript (.Name x f) (.Tuple es x1 n) r] e pos) (dS X.D δ o):=by
 split at h
 ·rename_i I y Y;cases m:F with
  | none=>rw[m]at h;cases h
  | some q=>
   rw[m]at h;have A:=he q m;cases q with
   | ok d cl=>
    cases j:E with
    | none=>rw[j]at h;cases h
    | some S=>
     rw[j]at h;have B:=hk S j;cases S with
     | ok l=>
      obtain⟨δ',h1,h2⟩:=o9.mp h;cases h2;unfold dppD at h1;split at h1
      ·rename_i a ca b cb z;split at h1
       ·rename_i U;cases h1;refine((λ t t' (hA:PE X e t) (hB:PA X es t')=>Ec hu hv (qe hB) hA (gH hc)) _ _ A B).weak λ Dn σ H ⟨H0,O,W,R,Z,fo,sm,k⟩=>⟨O,W,R,λ v H1 s1 g=>?_⟩
        obtain⟨⟨p,ob,e0,e1,e2,e3⟩,u⟩:=R.od i _ Y;obtain⟨L,Q,eo⟩:∃L,DV.tup _=.tup _/\ob=.dT _:=mQ e0 rfl;subst eo;obtain⟨P,N⟩:I=L.map (λ p=>kD p.1)/\y=L.map _:=DV.dct.inj (fx (DV.tup.inj Q)).1;subst P N;refine⟨.ref p,e1,O,W,R.mono s1,λ vs2 H2 s2 g2=>?_⟩;have M:=g.int MX;obtain⟨w1,w2,ew,g3,g4⟩:=g2.two;have s:=(R.mono s1).hid.mono s2;have K:=g3.int s;have J:=g4.int s;subst M K J ew;refine⟨by show(2:Nat)<=sizeLine;decide,λ q hq=>?_⟩;have C:Same H2 (upd H2 q (.tup [.int a,.int b])):=v6 hq;have w:=C _ _ (s2 _ _ (s1 _ _ e3));rw[d9]at U;refine⟨p,_,rfl,DPut.t (k:=kP (a,b)) w u5 (by unfold oeK;rw[d9];exact o4 U MG),?_⟩;rw[GB];have pe:=GC L (a,b) z;unfold kD at pe k;rw[pe]at k;exact k σ _ W ((((R.mono s1).mono s2).mono C).writeOd Y e1 e2 w rfl ⟨_,rfl,rfl⟩) Z (dN (((sm.trans s1).trans s2).trans C) (Z p e2))
       ·cases h1
      ·cases h1
 ·cases h
def GG(C:X.A.units+1<cLine)(hv:PE X (.Name x a) (tVar i))(E:∀q,rb=some q->PE X l MR)(hs:V6 l=false)
  (h:(match δ[i]? with
   | some (.od (.tup [.dct j g]))=>Re.thn rb λ y _=>dgpD j g y
   | _=>none)=some m):PE X (.Subscript (.Name x a) l pos) (dE X.D δ m):=by
 split at h
 ·rename_i j g F;cases b:rb with
  | none=>rw[b]at h;cases h
  | some r=>
   rw[b]at h;have B:=E r b;cases r with
   | ok dk ck=>
    have e:dgpD j g dk=some m:=h;unfold dgpD at e;split at e
    ·rename_i U S;split at e
     ·rename_i v n;cases e;refine((λ w (I:PE X l w)=>Gz C hv I (Gu hs)) _ B).weak λ σ H Q t0=>?_;obtain⟨O,W,R,p⟩:=t0
      obtain⟨⟨s,A,P,N,e2,M⟩,u⟩:=R.od i _ F;obtain⟨L,o,K⟩:∃L,DV.tup _=.tup _/\A=.dT _:=mQ P rfl;subst K;obtain⟨d,c⟩:j=L.map _/\g=L.map _:=DV.dct.inj (fx (DV.tup.inj o)).1;subst d c;refine⟨.ref s,N,O,W,R,λ v2 Y s2 J=>?_⟩;obtain⟨z,d,c⟩:=GA (J.all (R.hid.mono s2));exact⟨s,.int v,rfl,.inr ⟨oeK L,_,z,.inl (s2 _ _ M),d,c,(GE (k:=(U,S)) n).symm⟩,p _ Y s2 A2⟩
     ·cases e
    ·cases e
 ·cases h
def Kp(a:Mq)(h h':Mr):Prop:=∀b o,b≠a->h.get? b=some o->h'.get? b=some o
def Kp.of(x:Heap.SameBut a h c):Kp a h c:=λ b o n e=>x.extBut b o n e
def Kp.trans(x:Kp a h h')(y:Kp a h' c):Kp a h c:=λ b o n e=>y b o n (x b o n e)
theorem Kp.push(x:Kp a h c)(d:Obj):Kp a h (c.push d):=λ b o n e=>i5 _ (x b o n e)
def GH(hd:(d==sysModules)=false):MeetsIn prog w (Builtin.«dict.items» ⟨[.ref d],[]⟩) (λ _ R s=>s.TypeIs (.ref d) "dict" /\
  R (.ok (.ret No)) {s with heap:=s.heap.push {cls:=.type "dict_items",data:=.fields #[.ref d]}}):=.of_wp λ A R s q=>by
 have a:¬((d==sysModules)=true):=by rw[hd];exact w9
 unfold Builtin.«dict.items» Builtin.Dict.noArgs Builtin.Dict.showsAll;refine d4 (d4 (wpAny_notOrdered_dict q.1 (e8 ?_)));show wpAny _ _ _ _ _ s;rw[e7 a];exact d4 (e8 (d4 (E1 (e8 ⟨_,rfl,q.2⟩))))
def GI(hv:s.heap.IsItemsView v d)(c:s.heap.get? d=some b)(a:b.data=.dict es ep)
  (q:Q No {s with heap:=s.heap.push {cls:=.type "dict_itemiterator",data:=.fields #[.none,.bool false,.ref d,.int 0 0,.int es.size 0,.int ep 0,.none,.none]}}):wpAny MJ A (pyIter (.ref v)) Q E s:=by
 obtain⟨_,f,_,e⟩:=id hv;refine jr hv.typeIs pG (C9 pG hv.typeIs F.entry_dict_items_iter ?_ (F.args_dict_items_iter_1 _));unfold Builtin.«dict_items.__iter__» Builtin.Dict_items.dictOf Builtin.Dict_items.newIterator;refine d4 (e8 (d4 (d4 (x5 f e rfl (e8 (d4 (d4 (wpAny_dictEntries c a (d4 (wpAny_dictEpoch c a ?_))))))))));rw[show Builtin.Dict_items.ownsTuple "dict_itemiterator" = true from by decide];exact E1 (e8 ⟨_,rfl,"dict_itemiterator",_,⟨_,m7 _ rfl,rfl⟩,F.slot_dict_itemiterator_next.lookup,q⟩) (by show(8:Nat)<=_;rw[F7];omega)
def uf{ov:Mo}(P:NT)(c:IsItemIter s.heap it d i es.size ep ok ov)(g:s.heap.get? d=some u)(k:u.data=.dict es ep)
  (e:∀en h',es[i]? = some en->IsItemIterOut h' it d (i+1) es.size ep en.key en.val s.heap.objs.size->h'.get? s.heap.objs.size=some {cls:=.type "tuple",data:=.seq #[en.key,en.val]} -> Kp it s.heap h'->Q (some No) {s with heap:=h'})
  (f:∀h',es[i]? = none->Kp it s.heap h'->Q none {s with heap:=h'}):wpAny MJ A (pyNext (.ref it)) Q E s:=by
 have ty:∀{h:Mr} {j:Nat} {x y:Mo},IsItemIter h it d j es.size ep x y->Shared.TypeIs {s with heap:=h} (.ref it) "dict_itemiterator":=λ z=>⟨_,z,rfl⟩;have o:Builtin.Dict_items.ownsTuple "dict_itemiterator" = true:=by decide
 have O:¬((Value.ref d==Value.none)=true):=w9;unfold pyNext;refine d4 (N9 (L7 (ty c) oO (C9 oO (ty c) F.entry_dict_itemiterator_next ?_ (F.args_dict_itemiterator_next_1 _))));refine d4 (e8 (d4 (d4 (d4 (iF (ty c) (e8 (d4 (cq c rfl ?_))))))));simp only[o,if_true];show wpAny _ _ (if(Value.ref d==Value.none)=true then _ else _) _ _ s;rw[e7 O];refine d4 (e8 (d4 (wpAny_dictEntries g k ?_)));rw[e7 MP];refine d4 (e8 (d4 (wpAny_dictEpoch g k ?_)));rw[e7 MP];refine e8 ?_;dsimp only;rw[e7 (show ¬((i:Int)<0) by omega),v9];cases B:es[i]? with
 | none=>
  dsimp only;refine d4 (d4 (iF (ty c) (e8 ?_)));simp only[o,if_true];refine d4 (B6 c MP λ l r s1=>d4 ?_);unfold newExc newTuple;refine d4 (E1 (d4 (m:=firstArgMember _ _) (cD (a:=Value.none) (by first | rfl | (simp only[firstArgMember];rfl)) (E1 (wpAny_raiseNew_none P (d4 (aA (T:="StopIteration") (b:=true) ⟨_,m7 _ rfl,rfl⟩ cn (e8 ?_)))) (by size_fits)))) (by size_fits));exact f _ B (((Kp.of s1).push _).push _)
 | some en=>
  dsimp only;refine d4 (d4 (iF (ty c) (e8 (d4 (iU (ty c) ?_)))));simp only[o,if_true];refine d4 (B6 c MP λ l r s1=>?_);have p:IsItemIter l it d (i+1) es.size ep ok ov:=by unfold IsItemIter;rw[show((i+1:Nat):Int)=(i:Int)+1 by omega];exact r
  refine d4 (D0 (d4 (iU (ty p) (d4 (iU (ty p) ?_)))));show wpAny _ _ _ _ _ {s with heap:=l};unfold Builtin.Dict_items.pairFromOwner Builtin.Dict_items.ownedTupleIsFree;have sz:=s1.1;have n:IsItemIter (l.push {cls:=.type "tuple",data:=.seq #[en.key,en.val]}) it d (i+1) es.size ep ok ov:=i5 _ p;have J:(l.push {cls:=.type "tuple",data:=.seq #[en.key,en.val]}).get? s.heap.objs.size=some {cls:=.type "tuple",data:=.seq #[en.key,en.val]}:=by rw[←sz];exact m7 _ rfl
  refine d4 (fi (d4 (d4 (x5 n rfl (x:=.none) rfl (e8 ?_)))));simp only[if_true];refine d4 (x5 n rfl (x:=ok) rfl (d4 (x5 n rfl (x:=ov) rfl ?_)));refine d4 (B6 n MP λ h3 I N=>d4 (B6 I MP λ h4 H M=>d4 (B6 H MP λ h5 C L=>d4 (B6 C MP λ R q K=>?_))));have v:=(((Kp.of N).trans (.of M)).trans (.of L)).trans (.of K);refine d4 (aJ (e8 (e8 ⟨_,rfl,e8 ?_⟩)));rw[sz]at q ⊢;exact e en R B q (v _ _ (NV (n9 (j6 c))) J) (((Kp.of s1).push _).trans v)
def ItP(a:Mq)(ob:Obj)(qs:on Mq)(kvs:on (on Key×V)):It:=
  ⟨λ i H=>H a=some (.frz ob (.dT kvs))/\∃k v,kvs[i]? = some (k,v),
   λ i H x H'=>∃p q k v,x=.ref p/\H p=none/\kvs[i]? = some (k,v)/\qs[i]? = some q/\H q=some (.tup (k.map kV))/\H'=upd H p (.tup [.ref q,v]),
   λ i H=>H a=some (.frz ob (.dT kvs))/\kvs.length<=i⟩
def GJ(r:KT H c xs):∀{i:Nat} {k:on Key} {v:V},c[i]? = some (k,v)->∃b u,xs[i]? = some (k,b,u)/\H b=some (.tup (k.map kV))/\RelV v u:=by
 induction r with
 | nil=>intro i k v h;cases h
 | cons p t e=>
  intro i k v h;cases i with
  | zero=>
   obtain⟨p1,p2,p3⟩:=p;rename_i a b _ _;obtain⟨a1,a2⟩:=a;obtain⟨b1,g,f⟩:=b;cases h;have d:=p1;subst d;exact⟨g,f,rfl,p2,p3⟩
  | succ i=>exact e h
theorem KT.length(r:KT H a xs):a.length=xs.length:=by
 induction r with
 | nil=>rfl
 | cons _ _ b=>rw[l4,l4,b]
def mT(I:MN b)(h:H a=some (.frz c (.dT d)))(hd:c.data=.dict es ep) :
  s.heap.get? a=some c/\(a==sysModules)=false/\c.ExactDict/\∃xs,KT H d xs/\es.toList=xs.map (entryOfKey (tupleKind (D1 X.prog X.w))):=by
 obtain⟨e,z1,j,xs,i,o,m,n,g,l,f,k,y5⟩:=(show t6 X.prog X.w H s.heap a (.frz c _)from I.hok _ _ h);rw[e]at g;cases g;rw[hd]at f;cases f;exact⟨e,j,l,xs,i,k⟩
def ug(es:Mu DictEntry)(qs:on Mq):Prop:=es.toList.map (·.key)=qs.map Value.ref
def GK{K:MA}(hd:ob.data=.dict es ep)(M:ug es C) :
  Turn P w K (.Tuple elts k pos) (ItP a ob C F) [it] it (λ i h=>∃ok ov,IsItemIter h it a i es.size ep ok ov) where
 mem:=by simp
 obj:=λ i h st b d=>by obtain⟨ok,ov,g⟩:=st;rw[s9]at d;subst d;exact⟨_,g,λ v q=>by cases q⟩
 keep:=λ i h y st q=>by obtain⟨ok,ov,g⟩:=st;exact⟨ok,ov,q it MP _ g⟩
 item:=by
  intro X S J U R i j s Z H E I x st O;subst S J U;obtain⟨ok,ov,g⟩:=st;obtain⟨W,k0,v0,r⟩:=O;obtain⟨B,z2,z4,xs,A,z⟩:=mT I W hd;obtain⟨b,u,hu,d,ru⟩:=GJ A r;have Q:es[i]? = some (entryOfKey (tupleKind (D1 X.prog X.w)) (k0,b,u)):=by rw[entry_at z,hu];rfl
  have L:C[i]? = some b:=by
   have h1:(es.toList.map (·.key))[i]? = some (.ref b):=by rw[n7,F2,Q];rfl
   rw[M,n7]at h1;obtain⟨c,e1,e2⟩:=o9.mp h1;cases e2;exact e1
  refine uf (I.ok.hd R) g B hd (λ en y f b2 b3 b5=>?_) (λ y p _=>by rw[Q]at p;cases p);rw[Q]at f;cases f;refine⟨_,rfl,?_⟩;refine wpAny_letOwnedTupleGo_items b2 λ h2 N t2=>?_;have m:=M3 (j6 g);have I1:=I.turnedL (t':=s.toks) (λ b o d e=>t2.extBut _ _ (λ q=>d (by simp[q])) (b5 b o (λ q=>d (by simp[q])) e)) x;have l:=I.hok.fresh (f6 _);have Y:=I.fpOk (f6 _) l;have I2:Inv X j Z (upd H s.heap.objs.size (.tup [.ref b,v0])) {s with heap:=h2}:=I1.track l (X3 I.sz) Y.2.1 (λ n c e=>Y.2.2.2.2.1 n c e) (λ q M=>Y.2.2.2.2.2 q M)
   ⟨by show(2:Nat)<=sizeLine;decide,[.ref b,u],.cons rfl (.cons ru .nil),_,(t2.extBut _ _ m b3),⟨rfl,rfl⟩,_,rfl⟩
  refine⟨.ref s.heap.objs.size,_,I2,rfl,⟨_,b,k0,v0,rfl,l,r,L,d,rfl⟩,⟨_,_,N⟩,λ b d=>?_⟩;rw[s9]at d;subst d;rw[j8 (NV m)];exact(x b MP).1
 done:=by
  intro X S J U R i j s Z H E I x st O;subst S J U;obtain⟨ok,ov,g⟩:=st;obtain⟨W,r⟩:=O;obtain⟨B,z2,z4,xs,A,z⟩:=mT I W hd;have hl:es.size<=i:=by rw[size_of_entries z,←A.length];exact r
  exact uf (I.ok.hd R) g B hd (λ en y f _ _ _=>by rw[L8 hl]at f;cases f) λ y _ a=>⟨rfl,I.turnedL (t':=s.toks) (ch:=[it]) (λ b o d e=>a b o (λ q=>d (by simp[q])) e) x⟩
 self:=λ _ _ _ _ _ st h=>by obtain⟨ok,ov,g⟩:=st;exact PySem.W.kcp_self g h
def Wk.itemsP{K:on Mq}(h:L2.wo K g a=some (.frz C (.dT b)))(e:b=oeK L)(P:∀q∈B,∃n,g q=some (.tup n))(R:Hdn J g):Wk D (ItP a C B b) (L.map λ p=>.tup [.tup [.int p.1.1,.int p.1.2],.int p.2]) K J g:=by
 subst e;have Q:(oeK L).length=L.length:=by unfold oeK;rw[d9]
 have c:∀(i:Nat),(oeK L)[i]? = (L[i]?).map λ p=>(kP p.1,V.int p.2):=λ i=>by unfold oeK;rw[n7];rfl
 refine⟨λ i H s I=>?_,λ i H x U y=>?_,λ i H x U d M s s' y e F=>?_,λ H s=>?_⟩
 ·rw[d9]at I;exact⟨o8 _ _ (s _ _ h),kP L[i].1,.int L[i].2,by rw[c,i6 I];rfl⟩
 ·obtain⟨p,q,k,v,_,f,_,_,_,e⟩:=y;rw[e];exact v6 f
 ·obtain⟨p,q,k,v,ex,f,j,N,r,S⟩:=y;rw[n7]at e;rw[c]at j;cases E:L[i]? with
  | none=>rw[E]at e;cases e
  | some O=>
   rw[E]at e j;cases e;cases j;have l:q∉M:=λ z=>by
    obtain⟨n,w⟩:=P q (P9 N);rcases(F q z).2 with u | u
    ·obtain⟨o,A,m⟩:=R q u;rw[w]at A;cases A;cases m
    ·rw[w]at u;cases u
   subst S;have r1:Rep D (L2.wo M (upd H p (.tup [.ref q,.int O.2]))) _ _:=
    B5.mpr ⟨q,_,rfl,SqT.of (by rw[j4 l,j8 (x6 r f)];exact r),r6.mpr ⟨_,_,rfl,v5.mpr rfl,RepL.one (v5.mpr rfl)⟩⟩
   exact B5.mpr ⟨p,_,ex,SqT.of (by rw[j4 (λ z=>(F p z).1 f)];exact u5),r6.mpr ⟨_,_,rfl,r1,RepL.one (v5.mpr rfl)⟩⟩
 ·exact⟨o8 _ _ (s _ _ h),by rw[d9,Q];exact f6 _⟩
def GL(he:PE X e S)(n:attributeBase e "items" X.env (eval e X.env)=eval e X.env)(j:(apos.endLine==pos.line)=true) :
  PI X (.Tuple elts k tpos) (.Call (.Attribute e "items" apos) [] [] pos) (λ C H R=>S C H λ x g=>∃a f d,x=.ref a/\g a=some (.frz f (.dT d))/\∀U:on Mq,(∀q∈U,∃F,g q=some (.tup F))->R (ItP a f U d) g):=by
 intro u s C H R I h;refine pf n j (thn (he u s C H _ I h) λ v s1 t0=>?_);obtain⟨x,g,B,r1,a,f,d,e1,L,q⟩:=t0;subst e1;cases r1;obtain⟨i,w,A,N,E⟩:∃i w A,s1.heap.get? a=some i/\i.data=.dict w A:=by obtain⟨r,z1,Q,xs,P,o,w,A,y1,y2,y3,y4⟩:=(show t6 X.prog X.w g s1.heap a (.frz f (.dT d))from B.hok _ _ L);exact⟨o,w,A,y1,y3⟩
 have yo:i=f:=(by obtain⟨r,_⟩:=(show t6 X.prog X.w g s1.heap a (.frz f (.dT d))from B.hok _ _ L);rw[r]at N;cases N;rfl);subst yo;obtain⟨r,Q,O,xs,P,Z⟩:=mT B L E;have J:s1.TypeIs (.ref a) "dict":=⟨i,r,O.1⟩;have nD:∀b,Value.ref a=.ref b->∃f,s1.heap.get? b=some f/\f.dict=none:=λ b q=>by cases q;exact⟨i,r,O.2.1⟩
 refine⟨"dict","dict.items",PySem.F.plainAttrs_dict,pk,PySem.F.type_dict_items,J,nD,bO rfl (PySem.evalArgs_none ?_)⟩;refine call_meetsIn pk J PySem.F.entry_dict_items (PySem.F.args_dict_items_1 _) (GH Q) ⟨J,?_⟩;have W:∀b o,s1.heap.get? b=some o->(s1.heap.push {cls:=.type "dict_items",data:=.fields #[.ref a]}).get? b=some o:=λ b o e=>i5 _ e;have M:=B.kept (t':=s1.toks) W;refine GI ⟨_,m7 _ rfl,rfl,rfl⟩ (W _ _ r) E ?_;refine⟨_,[_],_,ItP a i _ d,g,rfl,M.kept (t':=s1.toks) λ b o e=>i5 _ e,GK (elts:=elts) (k:=k) (pos:=tpos) E ((by unfold ug;rw[Z,k9,k9];rfl)),⟨.none,.none,m7 _ rfl⟩,λ c Y=>?_,q _ λ b hb=>?_⟩
 ·rw[s9]at Y;subst Y;exact M.fpOk (f6 _) (M.hok.fresh (f6 _))
 ·obtain⟨y,hy,rfl⟩:=g9.mp hb;have all:∀{l:on (on Key×V)} {m:on _},KT g l m->∀x∈m,∃F,g x.2.1=some (.tup F):=by
   intro l m q
   induction q with
   | nil=>intro x K;exact nomatch K
   | cons p t ih=>
    intro x K;rcases f8.mp K with z | z
    ·rw[z];exact⟨_,p.2.1⟩
    ·exact ih x z
  exact all P y hy
def GM(h:kvp? ks vs=some L){a:on (Key×V)}(e:a.map (λ p=>dKey p.1)=ks):L=[]/\a=[]:=by
 cases a with
 | nil=>
  subst e;cases vs with
  | nil=>cases h;exact⟨rfl,rfl⟩
  | cons _ _=>cases h
 | cons p a=>
  subst e;obtain⟨k,v⟩:=p;cases k<;>cases vs<;>cases h
def GN:∀{ks:on DKey} {d:on DV} {L:on ((Int×Int)×Int)},kvp? ks d=some L->∀{D:Dm} {H:Hp} {c:on (on Key×V)},c.map (λ p=>DKey.t p.1)=ks->RepL D H d (c.map (·.2))->c=oeK L:=by
 intro ks
 induction ks with
 | nil=>
  intro d L h D H c e r;cases c with
  | nil=>cases d with
   | nil=>cases h;rfl
   | cons _ _=>cases h
  | cons _ _=>cases e
 | cons l ks m=>
  intro d L h D H c e r;unfold kvp? at h;split at h
  ·exact absurd (by assumption:l::ks=[]) (List.cons_ne_nil _ _)
  ·rename_i a b j v g q;cases q;obtain⟨L',o,n⟩:=o9.mp h;subst n;cases c with
   | nil=>cases e
   | cons p c=>
    obtain⟨k,i⟩:=p;obtain⟨w,ws,y,x,u⟩:=r6.mp r;cases y;have f:=fx e;rw[m o f.2 u,show k=[.inl a,.inl b]from DKey.t.inj f.1,show i=.int v from v5.mp x];rfl
  ·cases h
def GO(i:attributeBase e "items" X.env (eval e X.env)=eval e X.env)(g:(d.endLine==pos.line)=true)(F:∀q,r=some q->PE X e MR)
  (h:m9 (Re.thn r λ x c=>itmD x c)=some o):PI X (.Tuple elts k j) (.Call (.Attribute e "items" d) [] [] pos) (dI X.D δ o):=by
 cases f:r with
 | none=>rw[f]at h;cases h
 | some q=>
  rw[f]at h;have A:=F q f;cases q with
  | ok K M=>
   have b:m9 (itmD K M)=some o:=h;unfold itmD at b;split at b
   ·rename_i ks B;split at b
    ·rename_i u;obtain⟨rfl,s⟩:=u;cases m:kvp? ks B with
     | none=>rw[m]at b;cases b
     | some L=>
      rw[m]at b;cases b;exact((λ C (I:PE X e C)=>GL I i g) _ A).weak λ σ H R' ⟨O,W,R,p⟩=>⟨O,W,R,λ x N s1 J=>by
       rcases aX.mp (J)with⟨a,w,l,z,v,n,y⟩ | ⟨a,w,l,z,v,n,y⟩
       ·obtain⟨rfl,rfl⟩:=GM m n;subst n;cases s
       ·exact⟨a,w,l,z,o8 _ _ v,λ qs E=>p _ N s1 (Wk.itemsP v (GN m n y) E (MX).hdA)⟩⟩
    ·cases b
   ·cases b
structure DictK(K:PySem.W.Frag)(w:World)(mg:Str->Option Value)(gk:List (Str×Option Int))(a:Addr)(es:Array DictEntry)(n:Nat):Prop where
 mg:mg gdN=some (.ref a)
 lk:K.lookup a=some ⟨.type "dict",none,.dict es n,#[]⟩
 lit:PySem.W.KeysLit w.params es.toList
 sy:(a==sysModules)=false
 ks:∀k r,gk.lookup k=some r->∃u,PySem.W.nsIn K a k=some u/\u.isSome=r.isSome/\∀i,r=some i->∃t,u=some (.int i t)
def ix_K:IxR X λ x y H Q=>∃a es n k i,x=.ref a/\y=.str k/\DictK X.K X.w X.mg g a es n/\g.lookup k=some (some i)/\Q (.int i) H:=by
 intro b c d s σ H x y v u Q I l j q hs;obtain⟨a,es,n,k,i,rfl,rfl,D,e,q⟩:=q;cases l;obtain⟨h,rfl⟩:=j;obtain⟨z,o,_,m⟩:=D.ks k _ e;obtain⟨t,rfl⟩:=m i rfl;have f:=PySem.W.mapOf_K (prog:=X.prog) I.kIn D.lk D.lit;exact tail_any f.typeIs slot_dict_getitem.lookup (wpAny_getItem_of (strKind_is X.prog X.w k h) f (PySem.W.find_K D.lk o) ⟨.int i,H,I.tok _,⟨t,rfl⟩,q⟩) hs
def in_K:OpR X (compareOp .In) λ x y H Q=>∃a es n k r,y=.ref a/\x=.str k/\DictK X.K X.w X.mg c a es n/\c.lookup k=some r/\Q (.bl r.isSome) H:=by
 intro b s σ H x y v u Q I g f q;obtain⟨a,es,n,k,r,rfl,rfl,D,e,q⟩:=q;cases f;obtain⟨d,rfl⟩:=g;obtain⟨z,i,h,_⟩:=D.ks k _ e;rw[←h]at q;exact wpAny_in_of (strKind_is X.prog X.w k d) D.sy (PySem.W.mapOf_K I.kIn D.lk D.lit) (by rw[PySem.W.find_K D.lk i];exact⟨.bl z.isSome,H,I.tok _,rfl,q⟩)
structure Good(sg:Sg)(G:Gs)(F:Nat->List DV->Option Ou)(X:Cx):Prop where
 N:X.N=sg.N
 nd:X.N.Nodup
 vis:∀x,visB sg x=true->Vis X.env.scope x
 glo:∀x,gloB sg x=true->Gl X x
 loc:∀x,locB sg x=true->Loc X.env.scope x/\(X.fn x=true\/X.env.scope.names.lookup x=some .local)
 lcl:∀x,sg.sc.lookup x=some .local->X.env.scope.names.lookup x=some .local
 cel:∀x,(sg.sc.lookup x=some .cell\/sg.sc.lookup x=some .free)->X.env.scope.names.lookup x=some .cell\/X.env.scope.names.lookup x=some .free
 calm:X.calm=true
 hu:X.A.units+64<cLine
 fns:∀f x,sg.fn[f]? = some x->∃k fa fd ps,Room k X.A/\X.mg x=some (.ref fa)/\PySem.W.keepIn X.K (.ref fa)=true/\K1 X.K fd ps []/\(∀ds o,F f ds=some o->ds.length=ps.length) /\
  FnOk X.prog X.w X.K X.mg X.base CX0 k fa fd ps (spF X.D ps.length (F f))
 blt:∀x∈sg.bl,X.mg x=none
 dk:∃a es n,G.gk=[]\/DictK X.K X.w X.mg G.gk a es n
 con:∀x d,G.con.lookup x=some d->∃u v,X.mg x=some u/\RelV v u/\∀H,Rep X.D H d v
 own:sg.lp=true->PassesOwn MI X.A X.env X.xe
 st:sg.top=true->X.stack=X.env::X.outer/\X.env.frame=some X.env.locals/\X.ex=[]
 lms:G.fnl.isEmpty=false->(G.fnl=sg.fn/\G.bll=sg.bl/\G.cll=sg.cl)/\(∃k,Room k X.A/\ae X.prog X.w X.K X.mg X.base sg.fn sg.bl sg.cl k (F u7))/\(sg.top=true->∃c P,X.env.code=.ref c/\(∀h:Heap,X.K.In h->PySem.W.CodeHd h c P)/\(P,X.env.qual ++ "<lambda>")∈u0 X.K)
theorem bu:∀{l:on Str},V7 l=true->l.Nodup
 | [],_=>jO
 | x::r,h=>by unfold V7 at h;rw[d8]at h;refine N7.mpr ⟨λ z=>?_,bu h.2⟩;have:=h.1;rw[M0.mpr z]at this;cases this
def dO(g:Good m G F X)(h:Z6 m f fr sc tg=true):CompScope X.N f sc X.env.scope fr/\(∀(j k i:Nat),fr[j]? = some (some i)->fr[k]? = some (some i)->j=k)/\∀i∈Z5 tg,fr[i]? = some none:=by
 unfold Z6 at h;simp only[d8,u4,f0]at h;obtain⟨⟨⟨⟨⟨⟨B,A⟩,o⟩,z⟩,n⟩,w⟩,v⟩:=h;have d:∀(j i:Nat),fr[j]? = some _->∃x,f[j]? = some x/\m.N[i]? = some x/\(x,NameKind.free)∈sc.names:=λ j i e=>by
  have l:j<f.length:=by rw[←n];exact (w5.mp e).1
  have r:(some i,f[j])∈fr.zip f:=(by refine P9 (i:=j) ?_;rw[iK];exact⟨e,i6 l⟩);have q:=w _ r;simp only[d8,f0,M0]at q;exact⟨_,i6 l,q.1,q.2⟩
 refine⟨⟨A,bu o,bu z,n,λ j i e=>?_,λ y s u=>?_⟩,λ j k i E C=>?_,B⟩
 ·obtain⟨x,a,b,c⟩:=d j i e;exact⟨x,a,by rw[g.N];exact b,c⟩
 ·have q:=v y s;rw[d6 u]at q;simp only[B7,f0]at q;exact g.cel _ q
 ·obtain⟨x,a,b,_⟩:=d j i E;obtain⟨x',H,p,_⟩:=d k i C;rw[b]at p;cases p;exact kg (bu o) a H
def ag(g:Good j G F X)(h:Z6 j i fr sc tg=true)(C:Mq)(b:on (Str×Mq))(c:Mp)(d:Hp)(fp:on Mq):Good ⟨i,sc.names,j.fn,j.bl,j.cl,false,false⟩ G F (p4 X sc i C b c d fp):=by
 obtain⟨S,_,_⟩:=dO g h;have f:∀x,(p4 X sc i C b c d fp).env.scope.names.lookup x=(sc.names.lookup x).map λ k=>if(k==NameKind.free&&X.env.scope.kind == .function&&X.env.kindOf x==some .cell)=true then NameKind.cell else k:=λ x=>kY
 have one:∀x k,sc.names.lookup x=some k->k ≠ .free->(p4 X sc i C b c d fp).env.scope.names.lookup x=some k:=λ x k e l=>by rw[f,e,F5,e7];intro z;simp only[d8,f0]at z;exact l z.1.1
 have two:∀x,sc.names.lookup x=some .free->(p4 X sc i C b c d fp).env.scope.names.lookup x=some .cell\/(p4 X sc i C b c d fp).env.scope.names.lookup x=some .free:=λ x e=>by
  rw[f,e,F5];split
  ·exact .inl rfl
  ·exact .inr rfl
 refine⟨rfl,S.nd,λ x a=>?_,λ x a=>?_,λ x a=>?_,λ x a=>one x _ a MO,λ x a=>?_,g.calm,g.hu,g.fns,g.blt,g.dk,g.con,(λ z=>nomatch z),(λ z=>nomatch z),(λ z=>⟨(g.lms z).1,(g.lms z).2.1,λ w=>nomatch w⟩)⟩
 ·unfold visB at a;simp only[B7,f0]at a;rcases a with(a | a) | a
  ·exact .inl (one x _ a MO)
  ·exact .inr (.inl (one x _ a MO))
  ·exact .inr (two x a)
 ·unfold gloB at a;rw[f0]at a;exact one x _ a MO
 ·unfold locB at a;simp only[B7,f0]at a;rcases a with a | a
  ·exact⟨.inl (one x _ a MO),.inr (one x _ a MO)⟩
  ·exact⟨.inr (one x _ a MO),.inl (by show(sc.names.lookup x==some .cell)=true;rw[a];rfl)⟩
 ·rcases a with a | a
  ·exact .inl (one x _ a MO)
  ·exact two x a
def W1(g:Good a G F X)(h:O7 a i x=true):X.N[i]? = some x/\Vis X.env.scope x/\Np=false/\(x==("__classdict__" : Str))=false:=by
 unfold O7 at h;simp only[d8,f0,M5,ne_eq]at h;obtain⟨⟨⟨e,d⟩,c⟩,b⟩:=h;exact⟨by rw[g.N];exact e,g.vis x d,A6.mpr c,A6.mpr b⟩
def W3(g:Good a G F X)(h:bltB a x f=true):(∃p,f=.Name x p)/\Gl X x/\X.mg x=none:=by
 unfold bltB at h;simp only[d8,f0,M0]at h;obtain⟨⟨d,c⟩,b⟩:=h;exact⟨S7 d,g.glo x c,g.blt x b⟩
theorem mU(g:Good b G F X):∀(is:on Nat) (es:on Ms),es.length=is.length->((is.zip es).all λ p=>match G1 p.2 with | some x=>b.N[p.1]? == some x&&locB b x | none=>false)=true ->
  PGs X es (dJ is)/\(assignEach es X.env).length=is.length/\(assignEach es X.env).findIdx? (·.1)=none
 | [],[],_,_=>⟨zr,rfl,rfl⟩
 | [],_::_,h,_=>by cases h
 | _::_,[],h,_=>by cases h
 | i::is,e::es,c,h=>by
  rw[List.zip_cons_cons,List.all_cons,d8]at h;obtain⟨a,d⟩:=h;obtain⟨A,B,C⟩:=mU g is es (Nm c) d;split at a
  ·rename_i x q;obtain⟨p,rfl⟩:=S7 q;simp only[d8,f0]at a;have l:=g.loc x a.2;refine⟨zt (pS g.nd (by rw[g.N];exact a.1) l.1 l.2) A rfl,?_,?_⟩
   ·show(assignEach es X.env).length+1=is.length+1;rw[B]
   ·show(_::assignEach es X.env).findIdx? (·.1)=none;rw[List.findIdx?_cons,C];rfl
  ·cases a
def dP(g:Good b G F X)(h:tgOk b tg a=true):PG X a (gT X.K tg):=by
 cases tg with
 | one i=>
  unfold tgOk at h;dsimp only at h;split at h
  ·rename_i x q;obtain⟨p,rfl⟩:=S7 q;simp only[d8,f0]at h;have l:=g.loc x h.2;exact pS g.nd (by rw[g.N];exact h.1) l.1 l.2
  ·cases h
 | many c=>
  unfold tgOk at h;dsimp only at h;split at h
  ·rename_i d q;obtain⟨k,p,rfl⟩:=aV q;rw[d8,d8,f0]at h;obtain⟨A,B,C⟩:=mU g c d h.1.1 h.2;exact pU g.calm A B C
  ·cases h
section
variable (G:Gs) (F:NE)
def SE(m:ME):Prop:=∀{sg:Sg} {X:Cx} {e:Ms} {δ:on Sv} {r:Re},Good sg G F X->corE sg false m e=true->evE G F m δ=some r->PE X e (dE X.D δ r)
def ST(m:ME):Prop:=∀{sg:Sg} {X:Cx} {e:Ms} {δ:on Sv} {r:Rt},Good sg G F X->corE sg false m e=true->tstD (MQ m)=some r->PT X e (dT X.D δ r)
def SI(m:ME):Prop:=∀{sg:Sg} {X:Cx} {e tg:Ms} {δ:on Sv} {r:Ri},Good sg G F X->corE sg true m e=true->(isZp m=true->(G2 tg).isSome=true)->m9 (MQ m)=some r->PI X tg e (dI X.D δ r)
def SEs(ms:on ME):Prop:=∀{sg:Sg} {X:Cx} {es:on Ms} {δ:on Sv} {r:Rs},Good sg G F X->r3 sg ms es=true->evEs G F ms δ=some r->PA X es (dA X.D δ r)
def SAnd(ms:on ME):Prop:=∀{sg:Sg} {X:Cx} {es:on Ms} {δ:on Sv} {pos:Pos},Good sg G F X->r3 sg ms es=true ->
 (∀r,I0 G F ms δ=some r->PE X (.BoolOp .And es pos) (dE X.D δ r))/\(∀r,tstD (I0 G F ms δ)=some r->PW X (.BoolOp .And es pos) (dT X.D δ r))
def SOr(ms:on ME):Prop:=∀{sg:Sg} {X:Cx} {es:on Ms} {δ:on Sv} {pos:Pos},Good sg G F X->r3 sg ms es=true ->
 (∀r,evOr G F ms δ=some r->PE X (.BoolOp .Or es pos) (dE X.D δ r))/\(∀r,tstD (evOr G F ms δ)=some r->PW X (.BoolOp .Or es pos) (dT X.D δ r))
def S1(m:ME):Prop:=SE G F m/\ST G F m/\SI G F m
end
def S1.of(h:SE G F m)(hw:∀b e,corE b true m e=corE b false m e)(i:∀b e env,corE b false m e=true->∀a,isTrue e env a=(do let v ←a;standAt e.pos;holding [v] (truthy v))):S1 G F m:=
 ⟨h,λ {b X e f r} g c q=>Em (λ z d=>h g c d) (i b e X.env c) q,λ {b X e tg f r} g c _ q=>tN (λ z d=>h g (by rw[←hw];exact c) d) q⟩
def S1.of2(h:SE G F m)(c:ST G F m)(hw:∀a e,corE a true m e=corE a false m e):S1 G F m:=
 ⟨h,c,λ {a X e tg δ r} g d _ q=>tN (λ z b=>h g (by rw[←hw];exact d) b) q⟩
noncomputable def uh:Ms->Bool
 | .UnaryOp .Not _ _=>false | .BoolOp _ _ _=>false | .IfExp _ _ _ _=>false | .Compare _ _ _ _=>false
 | _=>true
def z8(h:uh e=true)(env:Env):∀b,isTrue e env b=(do let v ←b;standAt e.pos;holding [v] (truthy v)):=by
 cases e with
 | UnaryOp o a p=>cases o<;>first | (intro _;rfl) | cases h
 | BoolOp _ _ _=>cases h
 | IfExp _ _ _ _=>cases h
 | Compare _ _ _ _=>cases h
 | _=>intro _;rfl
section
variable {G:Gs} {F:Nat->on DV->Mn Ou} {a b c:ME}
def GP:S1 G F (.var i):=by
 refine .of (λ {c X e δ r} g a h=>?_) Nn (λ c e b a=>?_)
 ·refine C5 a λ x p a=>?_;obtain⟨k,j,f,d⟩:=W1 g a;exact DB k j f d h
 ·exact C5 a λ x p _=>z8 rfl b
def gJ(f:∀a w e,corE a w m e=true->aU e=some k)(l:∀δ,evE G F m δ=some (MV d))(hw:∀a e,corE a true m e=corE a false m e)
  (i:∀{X:Cx} {δ:on Sv} {j:Nat} {pos:Pos} a e,corE a false m e=true->PE X (.Constant k j pos) (dE X.D δ (MV d))):S1 G F m:=by
 refine .of (λ {a X e δ r} g b h=>?_) hw (λ a e c b=>?_)
 ·obtain⟨j,p,rfl⟩:=sh (f a false e b);rw[l]at h;cases h;exact i a _ b
 ·obtain⟨j,p,rfl⟩:=sh (f a false e b);exact z8 rfl c
def GQ:S1 G F (.int i):=gJ (λ sg w e h=>f0.mp h) (λ δ=>rfl) Nn λ _ _ _=>DC
def s_bl:S1 G F (.bl i):=gJ (λ sg w e h=>f0.mp h) (λ δ=>rfl) Nn λ _ _ _=>DD
def GR:S1 G F .non:=gJ (λ sg w e h=>f0.mp h) (λ δ=>rfl) Nn λ _ _ _=>DF
def GS:S1 G F (.str i):=gJ (λ sg w e h=>f0.mp (C7.mp h).1) (λ δ=>rfl) Nn λ _ _ h=>DE (e9 (ju (C7.mp h).2) MG)
def GT:S1 G F (.glb x):=by
 refine .of (λ {c X e δ r} g a h=>?_) Nn (λ c e b a=>?_)
 ·have a:(G1 e==some x&&gloB c x&&x != "__debug__")=true:=a;simp only[d8,f0,M5,ne_eq]at a;obtain⟨p,rfl⟩:=S7 a.1.1;obtain⟨d,k,j⟩:=o9.mp h;cases j;obtain⟨u,v,m,f,i⟩:=g.con x d k;exact(kj (g.glo x a.1.2) m f (A6.mpr a.2)).weak λ σ H Q ⟨O,W,R,p⟩=>p v H Nu (i _)
 ·obtain⟨p,rfl⟩:=S7 (f0.mp (C7.mp (C7.mp a).1).1);exact z8 rfl b
def GU(k:S1 G F a)(j:S1 G F b):S1 G F (.bin op a b):=by
 refine .of (λ {i X e δ r} g c h=>?_) Nn (λ i e f c=>?_)
 ·refine rC c λ ea o eb p c=>?_;simp only[d8,f0]at c;obtain⟨⟨n,m⟩,l⟩:=c;subst n;exact DM (λ z d=>k.1 g m d) (λ z d=>j.1 g l d) h
 ·exact rC c λ _ _ _ p _=>z8 rfl f
def GV(k:S1 G F a):S1 G F (.neg a):=by
 refine .of (λ {i X e δ r} g b h=>?_) Nn (λ i e d b=>?_)
 ·refine fY b λ o ea p b=>?_;simp only[d8,f0]at b;obtain⟨c,f⟩:=b;subst c;exact DN (λ z j=>k.1 g f j) h
 ·refine fY b λ _ _ p b=>?_;simp only[d8,f0]at b;obtain⟨c,f⟩:=b;subst c;exact z8 rfl d
def GW(i:S1 G F a):S1 G F (.not a):=by
 refine .of2 (λ {k X e j r} g b h=>?_) (λ {k X e j r} g b h=>?_) Nn
 ·refine fY b λ o l p b=>?_;simp only[d8,f0]at b;obtain⟨f,d⟩:=b;subst f;exact Eo (λ z c=>i.1 g d c) h
 ·refine fY b λ o l p b=>?_;simp only[d8,f0]at b;obtain⟨f,d⟩:=b;subst f;exact Es (λ z c=>i.2.1 g d c) h
def GX(m:S1 G F a)(l:S1 G F b):S1 G F (.cmp op a b):=by
 refine .of2 (λ {q X e n r} g c h=>?_) (λ {q X e n r} g c h=>?_) Nn
 ·refine gm c λ u o s p c=>?_;simp only[d8,f0,t4]at c;obtain⟨⟨⟨k,j⟩,i⟩,f⟩:=c;subst k;exact Eg g.hu (λ z d=>m.1 g j d) (λ z d=>l.1 g i d) f h
 ·refine gm c λ u o s p c=>?_;simp only[d8,f0,t4]at c;obtain⟨⟨⟨k,j⟩,i⟩,f⟩:=c;subst k;exact Ej g.hu (λ z d=>m.1 g j d) (λ z d=>l.1 g i d) f h
def GY(v:S1 G F a)(u:S1 G F b)(j:S1 G F c):S1 G F (.chain op k a b c):=by
 refine .of2 (λ {x X e w r} g f h=>?_) (λ {x X e w r} g f h=>?_) Nn
 ·refine rO f λ C o y B A p f=>?_;simp only[d8,f0,t4]at f;obtain⟨⟨⟨⟨⟨s,i⟩,q⟩,n⟩,m⟩,l⟩:=f;subst s i;exact Ek g.hu (λ z d=>v.1 g q d) (λ z d=>u.1 g n d) (λ z d=>j.1 g m d) l h
 ·refine rO f λ C o y B A p f=>?_;simp only[d8,f0,t4]at f;obtain⟨⟨⟨⟨⟨s,i⟩,q⟩,n⟩,m⟩,l⟩:=f;subst s i;exact El g.hu (λ z d=>v.1 g q d) (λ z d=>u.1 g n d) (λ z d=>j.1 g m d) l h
def s_ix(k:S1 G F a)(j:S1 G F b):S1 G F (.ix a b):=by
 refine .of (λ {i X e δ r} g c h=>?_) Nn (λ i e f c=>?_)
 ·refine K6 c λ ea eb p c=>?_;simp only[d8,t4]at c;obtain⟨⟨n,m⟩,l⟩:=c;exact DQ (λ z d=>k.1 g n d) (λ z d=>j.1 g m d) l h
 ·exact K6 c λ _ _ p _=>z8 rfl f
def s_sl(m:S1 G F a)(l:S1 G F b)(i:S1 G F c):S1 G F (.sl a b c):=by
 refine .of (λ {k X e δ r} g d h=>?_) Nn (λ k e j d=>?_)
 ·refine K6 d λ ea es p d=>?_;refine Dl d λ _ _ p2 d=>?_;simp only[d8]at d;obtain⟨⟨q,o⟩,n⟩:=d;exact DS (λ z f=>m.1 g q f) (λ z f=>l.1 g o f) (λ z f=>i.1 g n f) h
 ·exact K6 d λ _ _ p _=>z8 rfl j
def GZ(k:S1 G F a)(j:S1 G F b):S1 G F (.slf a b):=by
 refine .of (λ {i X e δ r} g c h=>?_) Nn (λ i e f c=>?_)
 ·refine K6 c λ ea es p c=>?_;refine Dk c λ _ p2 c=>?_;simp only[d8]at c;obtain⟨m,l⟩:=c;exact DR (λ z d=>k.1 g m d) (λ z d=>j.1 g l d) h
 ·exact K6 c λ _ _ p _=>z8 rfl f
theorem ah:∀{a:Sg} {b:on ME} {es:on Ms},r3 a b es=true->es.any l9=false
 | _,[],[],_=>rfl
 | _,[],_::_,h=>by unfold r3 at h;cases h
 | _,_::_,[],h=>by unfold r3 at h;cases h
 | a,m::b,e::es,h=>by unfold r3 at h;simp[d8,t4]at h;rw[G6,h.1.2,ah h.2];rfl
def Ha{c:on ME}(i:SEs G F c):S1 G F (.lst c):=by
 refine .of (λ {d X e δ r} g a h=>?_) Nn (λ d e b a=>?_)
 ·refine rG a λ es p a=>?_;exact Ez (λ z f=>i g a f) h
 ·exact rG a λ _ p _=>z8 rfl b
def Hb{c:on ME}(i:SEs G F c):S1 G F (.tup c):=by
 refine .of (λ {d X e δ r} g a h=>?_) Nn (λ d e b a=>?_)
 ·refine lG a λ es k p a=>?_;exact EA (λ z f=>i g a f) h
 ·exact lG a λ _ k p _=>z8 rfl b
def Hc(w:SEs G F i):S1 G F (.call f i):=by
 refine .of (λ {l X e δ r} g a h=>?_) Nn (λ l e d a=>?_)
 ·refine J2 a λ ef B m a=>?_;rw[d8,d8]at a;obtain⟨⟨b,A⟩,j⟩:=a;refine C5 b λ x p b=>?_;simp only[d8,f0,M5,ne_eq]at b;obtain⟨k,fa,fd,ps,o,q,u,v,s,fo⟩:=g.fns f x b.1.1;cases B with
  | nil=>cases A
  | cons y ys=>
   have c:=ah j;rw[G6,Q0]at c;exact EG fo s o (g.glo x b.1.2) q u v (λ z n=>w g j n) (A6.mpr b.2) c.1 c.2 h
 ·exact J2 a λ _ _ _ _=>z8 rfl d
def s_bi(v:SEs G F u):S1 G F (.bi f u):=by
 refine .of (λ {C X e E r} g n h=>?_) Nn (λ C e x n=>?_)
 ·refine J2 n λ ef N L n=>?_;rw[d8,d8]at n;obtain⟨⟨h1,h2⟩,a⟩:=n;obtain⟨⟨p,rfl⟩,c,b⟩:=W3 g h1;cases N with
  | nil=>cases h2
  | cons y H=>
   have d:r3 C u _=true->(∀q,evEs G F u E=some q->PA X _ _)/\l9 y=false/\H.any l9=false:=λ z=>by have i:=ah z;rw[G6,Q0]at i;exact⟨λ w s=>v g z s,i.1,i.2⟩
   cases f with
   | len=>obtain⟨A,s1,s2⟩:=d a;exact bf EL c b boot_len MG MG A s1 s2 h
   | min=>obtain⟨A,s1,s2⟩:=d a;exact bf (EM g.calm) c b boot_min MG MG A s1 s2 h
   | max=>obtain⟨A,s1,s2⟩:=d a;exact bf (EN g.calm) c b boot_max MG MG A s1 s2 h
   | sum=>obtain⟨A,s1,s2⟩:=d a;exact bf (EO g.calm) c b ES MG MG A s1 s2 h
   | tuple=>obtain⟨A,s1,s2⟩:=d a;exact sZ EZ c b boot_tuple MG MG A s1 s2 h
   | list=>obtain⟨A,s1,s2⟩:=d a;exact sZ EY c b boot_list MG MG A s1 s2 h
   | any=>obtain⟨A,s1,s2⟩:=d a;exact bf (ER g.calm) c b EU MG MG A s1 s2 h
   | all=>obtain⟨A,s1,s2⟩:=d a;exact bf (EQ g.calm) c b ET MG MG A s1 s2 h
   | lset=>
    have a:=a
    clear d
    revert h2;refine K5 a λ O a=>J2 a λ B m o a=>λ h2=>?_
    rw[d8,d8]at a;obtain⟨⟨M,rfl⟩,l,k⟩:=W3 g a.1.1;cases m with
    | nil=>cases a.1.2
    | cons K j=>
     have i:=ah a.2;rw[G6,Q0]at i;cases j with
     | nil=>exact EX g.calm c b l k (λ w s=>v g a.2 s) i.1 h
     | cons J I=>
      have z:=f0.mp a.1.2;simp at z
   | sset=>
    have a:=a
    clear d
    revert h2;refine K5 a λ O a=>J2 a λ B m o a=>λ h2=>?_
    rw[d8,d8]at a;obtain⟨⟨M,rfl⟩,l,k⟩:=W3 g a.1.1;cases m with
    | nil=>cases a.1.2
    | cons K j=>
     have i:=ah a.2;rw[G6,Q0]at i;cases j with
     | nil=>exact EW g.calm c b l k (λ w s=>v g a.2 s) i.1 h
     | cons J I=>
      have z:=f0.mp a.1.2;simp at z
 ·exact J2 n λ _ _ _ _=>z8 rfl x
def Hd(h:V3.contains x=true):∃t,bh x=some t:=by
 have a:∀x∈V3,∃t,bh x=some t:=by
  intro x b;simp only[V3,f8,F4,F8]at b;rcases b with rfl | rfl | rfl | rfl | rfl | rfl
  ·exact⟨"int",by decide +kernel⟩
  ·exact⟨"bool",by decide +kernel⟩
  ·exact⟨"str",by decide +kernel⟩
  ·exact⟨"list",by decide +kernel⟩
  ·exact⟨"tuple",by decide +kernel⟩
  ·exact⟨"dict",by decide +kernel⟩
 exact a x (M0.mp h)
def He:∀x∈V3,x ≠ "__name__" /\ Np=false:=by
 intro x a;simp[V3,f8,F4,F8]at a;rcases a with rfl | rfl | rfl | rfl | rfl | rfl<;>exact⟨by decide +kernel,by decide +kernel⟩
def Hf:V->on V->Hp->VK->Prop:=λ x xs H Q=>∃i,x=.int i/\xs=[]/\Q (MY (R8 i)) H
def Hg(i:Int):((Builtin.Int.intBits i:Nat):Int)=R8 i:=by
 unfold Builtin.Int.intBits R8;by_cases h:i=0
 ·subst h;rfl
 ·rw[e7 (by grind),e7 h];rfl
def Hh:MtR X "int.bit_length" Hf:=by
 intro a s σ H x xs v us Q I b c h;obtain⟨i,rfl,rfl,q⟩:=h;obtain⟨t,rfl⟩:=(b);cases c;exact PyProof.Rows.call_int_bit_length ⟨.int _,H,I.tok _,by rw[←Hg];exact Nb,q⟩
def Hi(C:S1 G F a):S1 G F (.meth m a es):=by
 refine .of (λ {z X e w r} g b h=>?_) Nn (λ z e s b=>?_)
 ·refine lR b λ ef A b=>?_;refine dh b λ k n u b=>?_;simp only[d8,f0]at b;obtain⟨⟨⟨⟨K,J⟩,f⟩,I⟩,h5⟩:=b;subst K;have o:attributeBase k (si m) X.env (eval k X.env)=eval k X.env:=by
   rw[B7]at f;rcases f with f | f
   ·obtain⟨y,l⟩:=W8.mp f;obtain⟨B,rfl⟩:=S7 l;rfl
   ·obtain⟨⟨a1,o1,b1⟩,l⟩:=W8.mp f;obtain⟨B,rfl⟩:=Ds l;rfl
  have h:(if m=.bitLength then Re.thn _ (λ x _=>mtD m x)else none)=some r:=h;cases m with
  | bitLength=>
   rw[d6 rfl]at h;cases c:evE G F a w with
   | none=>rw[c]at h;cases h
   | some q=>
    rw[c]at h;cases q with
    | ok d dc=>
     have j:mtD .bitLength d=some r:=h;unfold mtD at j;split at j
     ·rename_i i _;cases j;exact((λ t (E:PE X k t)=>AO PySem.F.plainAttrs_int PySem.F.slot_int_bit_length PySem.F.type_int_bit_length Hh E o (by rw[f0];exact I)) _ (C.1 g J c)).weak λ σ H Q ⟨O,W,R,p⟩=>⟨O,W,R,λ v M s1 L=>by
       have hv:=L.int MX;subst hv;exact⟨rfl,i,rfl,rfl,p _ M s1 A2⟩⟩
     ·cases j
  | index=>rw[e7 MG]at h;cases h
  | get=>rw[e7 MG]at h;cases h
 ·exact lR b λ _ _ _=>z8 rfl s
def Hj(o:S1 G F a)(m:S1 G F b):S1 G F (.idx a b):=by
 refine .of (λ {j X e δ r} g c h=>?_) Nn (λ j e f c=>?_)
 ·refine dt c λ ef eb k c=>?_;refine dh c λ ea n i c=>?_;simp only[d8,f0,t4]at c;obtain⟨⟨⟨⟨⟨w,v⟩,u⟩,s⟩,q⟩,p⟩:=c;subst w;obtain⟨y,l⟩:=W8.mp u;obtain⟨np,rfl⟩:=S7 l;exact EF g.hu (λ z d=>o.1 g v d) (λ z d=>m.1 g q d) rfl (by rw[f0];exact s) (p9 p) h
 ·exact dt c λ _ _ _ _=>z8 rfl f
def Hk(m:S1 G F b):S1 G F (.dgp i b):=by
 refine .of (λ {f X e δ r} g a h=>?_) Nn (λ f e d a=>?_)
 ·refine K6 a λ ob ek p a=>?_;simp only[d8,t4]at a;obtain⟨⟨c,o⟩,n⟩:=a;refine C5 c λ x np c=>?_;obtain⟨s1,s2,k,j⟩:=W1 g c;exact GG (N4 KE g.hu) (R6 s1 s2 k j) (λ z l=>m.1 g o l) n h
 ·exact K6 a λ _ _ p _=>z8 rfl d
theorem ui:∀{a:on (Str×Nat)},a.lookup x=some f->(x,f)∈a
 | [],h=>by cases h
 | (y,g)::a,h=>by
  rw[B0]at h;split at h
  ·rename_i q;cases h;rw[f0.mp q];exact i9 ..
  ·exact j5 _ (ui h)
def Hl(v:SEs G F u):S1 G F (.callv i o u):=by
 refine .of (λ {H X e A r} g a h=>?_) Nn (λ H e n a=>?_)
 ·refine J2 a λ ef R I a=>?_;rw[d8,d8,d8]at a;obtain⟨⟨⟨h1,Q⟩,h2⟩,l⟩:=a;refine C5 h1 λ x p h1=>?_;obtain⟨s1,s2,s,q⟩:=W1 g h1;cases R with
  | nil=>cases h2
  | cons y ys=>
   have b:=ah l;rw[G6,Q0]at b;have h:cT G F o _ A[i]? = some r:=h;unfold cT at h;split at h
   ·rename_i J j;split at h
    ·rename_i f O;obtain⟨k,fa,fd,ps,d,L,N,P,M,fo⟩:=g.fns f J (f0.mp (u4.mp Q _ (ui O)));exact EI fo M d (R6 s1 s2 s q) L N P j (λ z c=>v g l c) b.1 b.2 h
    ·cases h
   ·rename_i m cs j;split at h
    ·rename_i w;obtain⟨⟨E,C,B⟩,⟨k,d,K⟩,_⟩:=g.lms w.2.2.2;exact Fm K d (R6 s1 s2 s q) (w.1.trans E) (w.2.1.trans C) (w.2.2.1.trans B) j (λ z c=>v g l c) b.1 b.2 h
    ·cases h
   ·cases h
 ·exact J2 a λ _ _ _ _=>z8 rfl n
def Hm{a:MC}(h:dv a ps=true):defaultsOf a env=([],[]):=sn h (λ _ _ _ _=>rfl) λ _ _ _ _=>rfl
def Hn(w:S1 G F a):S1 G F (.isi a i):=by
 refine .of (λ {j X e δ r} g b h=>?_) Nn (λ j e d b=>?_)
 ·refine lU b λ ef ea et k b=>?_;simp only[d8,t4]at b;obtain⟨⟨⟨⟨B,A⟩,y⟩,h4⟩,c⟩:=b;obtain⟨⟨p,rfl⟩,v,u⟩:=W3 g B;split at c
  ·rename_i t;simp only[d8,f0,M0]at c;obtain⟨⟨⟨q,o⟩,n⟩,f⟩:=c;obtain⟨p',rfl⟩:=S7 q;obtain⟨T,x⟩:=Hd (M0.mpr f);obtain⟨m,l⟩:=He t f;exact Fg x v u (g.glo t o) (g.blt t n) m l (λ z s=>w.1 g A s) y h
  ·cases c
 ·exact lU b λ _ _ _ _ _=>z8 rfl d
theorem mV:∀{a:on ME} {b:on Sv} {l:on (DV×Cl)},evEs G F a b=some (.ok l)->l.length=a.length
 | [],_,_,h=>by unfold evEs at h;cases h;rfl
 | m::a,b,l,h=>by
  unfold evEs at h;split at h
  ·cases h
  ·split at h
   ·cases h
   ·rename_i l' q;cases h;rw[l4,l4,mV q]
theorem uj:∀{b:Sg} {a:on ME} {es:on Ms},r3 b a es=true->a.length=es.length
 | _,[],[],_=>rfl
 | _,[],_::_,h=>by unfold r3 at h;cases h
 | _,_::_,[],h=>by unfold r3 at h;cases h
 | b,m::a,e::es,h=>by unfold r3 at h;simp[d8]at h;rw[l4,l4,uj h.2]
def Ho(s:SEs G F d):S1 G F (.rng d):=by
 refine⟨λ {n X e m r} g a h=>?_,λ {n X e m r} g a h=>?_,λ {n X e tg m r} g a _ h=>?_⟩
 ·cases(a:false=true)
 ·cases(a:false=true)
 ·refine J2 (C7.mp a).2 λ ef x w a=>?_;rw[d8,E2]at a;obtain⟨a,j⟩:=a;rw[d8]at a;obtain⟨⟨p,rfl⟩,q,o⟩:=W3 g a.1;have f:=uj a.2;have c:=ah a.2;cases x with
  | nil=>
   exfalso;cases d with
   | nil=>cases(h:none=some r)
   | cons _ _=>cases f
  | cons y v=>
   rw[G6,Q0]at c;cases v with
   | nil=>exact Ft q o (λ z i=>s g a.2 i) c.1 h λ l k=>by rw[mV k,f];rfl
   | cons z u=>
    cases u with
    | nil=>
     have b:=c.2;rw[G6,Q0]at b;exact Fv q o (λ z i=>s g a.2 i) c.1 b.1 h λ l k=>by rw[mV k,f];rfl
    | cons _ _=>simp at j
def s_zp(v:S1 G F a)(u:S1 G F b):S1 G F (.zp a b):=by
 refine⟨λ {i X e f r} g c h=>?_,λ {i X e f r} g c h=>?_,λ {i X e m f r} g c o h=>?_⟩
 ·cases(c:false=true)
 ·cases(c:false=true)
 ·refine lU (C7.mp c).2 λ ef ea eb n c=>?_;simp only[d8,t4]at c;obtain⟨⟨⟨⟨h1,h2⟩,y⟩,x⟩,w⟩:=c;obtain⟨⟨p,rfl⟩,s,q⟩:=W3 g h1;have t:=o rfl;cases j:G2 m with
  | none=>rw[j]at t;cases t
  | some l=>
   obtain⟨k,tp,rfl⟩:=aV j;exact FF s q x w (λ z d=>v.1 g h2 d) (λ z d=>u.1 g y d) h
def Hq(s:S1 G F a):S1 G F (.enu a):=by
 refine⟨λ {d X e c r} g b h=>?_,λ {d X e c r} g b h=>?_,λ {d X e j c r} g b n h=>?_⟩
 ·cases(b:false=true)
 ·cases(b:false=true)
 ·refine dt (C7.mp b).2 λ ef ea l b=>?_;simp only[d8,t4]at b;obtain⟨⟨w,v⟩,u⟩:=b;obtain⟨⟨p,rfl⟩,q,o⟩:=W3 g w;have t:=n rfl;cases f:G2 j with
  | none=>rw[f]at t;cases t
  | some i=>
   obtain⟨k,tp,rfl⟩:=aV f;exact FP q o u (λ z m=>s.1 g v m) h
def Hr(w:S1 G F a):S1 G F (.itm a):=by
 refine⟨λ {d X e c r} g b h=>?_,λ {d X e c r} g b h=>?_,λ {d X e o c r} g b u h=>?_⟩
 ·cases(b:false=true)
 ·cases(b:false=true)
 ·refine lR (C7.mp b).2 λ ef p b=>?_;refine dh b λ q n m b=>?_;simp only[d8]at b;obtain⟨⟨⟨B,A⟩,y⟩,j⟩:=b;have v:=f0.mp B;subst v;cases i:G1 q with
  | none=>rw[i]at j;cases j
  | some x=>
   obtain⟨np,rfl⟩:=S7 i;have t:=u rfl;cases f:G2 o with
   | none=>rw[f]at t;cases t
   | some l=>
    obtain⟨k,tp,rfl⟩:=aV f;exact GO rfl y (λ z s=>w.1 g A s) h
def Hs{sg:Sg}{X:Cx}{e:Ms}{δ:on Sv}{r:Re}{tg:Tg}{fr:on (Mn Nat)}{cp:CParts}{tn:on Str}(ha:S1 G F a)(hb:S1 G F b)(g:Good sg G F X)(hemp:cp.ifs=[])
  (h2:corE sg true b cp.it=true) (hz:isZp b=true->(G2 cp.tg).isSome=true) (h4:Z6 sg (D8 sg tn fr) fr cp.sc tg=true) (h5:tgOk NP tg cp.tg=true) (h6:corE NP false a cp.elt=true)
  (h:evE G F (.comp a tg b fr) δ=some r):W0 X δ cp.tg cp.it cp.ifs cp.elt cp.sc (D8 sg tn fr) fr tg r:=by
 obtain⟨S,nd,sl⟩:=dO g h4;rw[hemp];exact Fx S g.calm nd sl (λ z hz'=>hb.2.2 g h2 hz hz') (λ C cells s₂ H₂ fp=>dP (ag g h4 C cells s₂ H₂ fp) h5) (λ δ' r' hr C cells s₂ H₂ fp=>ha.1 (ag g h4 C cells s₂ H₂ fp) h6 hr) h
def Hu{sg:Sg}{X:Cx}{e cd:Ms}{δ:on Sv}{r:Re}{tg:Tg}{fr:on (Mn Nat)}{cp:CParts}{tn:on Str}(ha:S1 G F a)(hb:S1 G F b)(hcc:S1 G F c)(g:Good sg G F X)(hemp:cp.ifs=[cd])
  (h2:corE sg true b cp.it=true) (hz:isZp b=true->(G2 cp.tg).isSome=true) (h4:Z6 sg (D8 sg tn fr) fr cp.sc tg=true) (h5:tgOk NP tg cp.tg=true) (h6:corE NP false a cp.elt=true)
  (h7:corE NP false c cd=true) (h:evE G F (.compi a tg b c fr) δ=some r):W0 X δ cp.tg cp.it cp.ifs cp.elt cp.sc (D8 sg tn fr) fr tg r:=by
 obtain⟨S,nd,sl⟩:=dO g h4;rw[hemp];exact Fy S g.calm nd sl (λ z hz'=>hb.2.2 g h2 hz hz') (λ C cells s₂ H₂ fp=>dP (ag g h4 C cells s₂ H₂ fp) h5) (λ δ' r' hr C cells s₂ H₂ fp=>ha.1 (ag g h4 C cells s₂ H₂ fp) h6 hr)
  (λ δ' r' hr C cells s₂ H₂ fp=>hcc.2.1 (ag g h4 C cells s₂ H₂ fp) h7 hr) h
def ai(G:Gs)(F:NE)(m:ME):Prop:=∀{sg:Sg} {X:Cx} {e:Ms} {δ:on Sv} {r:Re},Good sg G F X->corE sg false m e=true->evE G F m δ=some r ->
 ∃(cp:CParts) (N':on Str) (fr:on (Mn Nat)) (tg:Tg) (p:Pos),e=.ListComp cp.elt [⟨cp.tg,cp.it,cp.ifs,0⟩] cp.sc p/\CompScope X.N N' cp.sc X.env.scope fr/\W0 X δ cp.tg cp.it cp.ifs cp.elt cp.sc N' fr tg r /\
  (∀C cells s₂ H₂ fp,PG (p4 X cp.sc N' C cells s₂ H₂ fp) cp.tg (gT X.K tg))/\D7 cp.it=false
def ai.s1(h:ai G F m)(hw:∀a e,corE a true m e=corE a false m e)(f:∀a e,corE a false m e=true->uh e=true):S1 G F m:=by
 refine .of (λ {a X e δ r} g b q=>?_) hw (λ a e c b=>?_)
 ·obtain⟨cp,N',fr,tg,p,rfl,S,P,i,d⟩:=h g b q;exact P.pe S g.calm i d
 ·exact z8 (f a e b) c
def uk(m:S1 G F a)(l:S1 G F b):ai G F (.comp a tg b fr):=by
 intro sg X e δ r g k h;refine gn k λ f p k=>?_
 simp only[d8,t4,B7]at k;obtain⟨⟨⟨s,q,o⟩,n⟩,c⟩:=k;obtain⟨tn,_,c⟩:=u8 c;simp only[d8]at c;refine⟨f,_,fr,tg,p,rfl,(dO g c.1.1).1,Hs (e:=.ListComp f.elt [⟨f.tg,f.it,f.ifs,0⟩] f.sc p) m l g (List.isEmpty_iff.mp s) q (λ z=>?_) c.1.1 c.1.2 c.2 h,λ C d i j u=>dP (ag g c.1.1 C d i j u) c.1.2,n⟩;rcases o with w | w
 ·rw[z]at w;cases w
 ·exact w
def ul(q:S1 G F a)(o:S1 G F b)(m:S1 G F c):ai G F (.compi a tg b c fr):=by
 intro sg X e δ r g l h;refine gn l λ i p l=>?_
 simp only[d8,t4,B7]at l;obtain⟨⟨⟨v,u⟩,s⟩,d⟩:=l;obtain⟨tn,_,d⟩:=u8 d;obtain⟨ec,n,d⟩:=CF d;simp only[d8]at d;refine⟨i,_,fr,tg,p,rfl,(dO g d.1.1.1).1,Hu (e:=.ListComp i.elt [⟨i.tg,i.it,i.ifs,0⟩] i.sc p) q o m g n v (λ z=>?_) d.1.1.1 d.1.1.2 d.1.2 d.2 h,λ C f j k x=>dP (ag g d.1.1.1 C f j k x) d.1.1.2,s⟩;rcases u with w | w
 ·rw[z]at w;cases w
 ·exact w
def Hv(g:S1 G F a)(f:S1 G F b):S1 G F (.comp a tg b fr):=ai.s1 (λ {c X e δ r}=>uk g f) Nn λ c e d=>gn d λ _ _ _=>rfl
def Hw(i:S1 G F a)(h:S1 G F b)(d:S1 G F c):S1 G F (.compi a tg b c fr):=ai.s1 (λ {f X e δ r}=>ul i h d) Nn λ f e g=>gn g λ _ _ _=>rfl
def um(g:Good m G F X)(ht:m.top=true)(x:G.fnl.isEmpty=false)(l0:gp m N d fr pr sc=true)(c9:corE ⟨N,sc.names,m.fn,m.bl,m.cl,false,false⟩ false lb bd=true):∃c P,LamAt X sc c P/\defaultsOf pr X.env=([],[])/\LamTx N (N.take d) sc/\(∀{n:on (Mq×Obj)} {σ:on (Mn V)} {H:Hp} {s:Mp},Inv X n σ H s->∀c∈(l8 X.env.cells sc.names []).map (·.2),X.base.get? c=none/\c∉frs X.stack)/\S8 ⟨N,d,lb,G.fnl,G.bll,G.cll⟩ pr bd sc=true/\N.length=d+fr.length/\∀(j i:Nat),fr[j]? = some i->∃y,N[d+j]? = some y/\X.N[i]? = some y/\(X.env.kindOf y=some .cell\/X.env.kindOf y=some .free):=by
 have A:=l0;unfold gp at A;simp only[d8,f0,t4,u4,M5,ne_eq,E2]at A;obtain⟨⟨⟨⟨⟨⟨⟨⟨⟨⟨⟨J,l2⟩,l3⟩,Z⟩,Y⟩,l6⟩,W⟩,U⟩,S⟩,o⟩,u⟩,r⟩:=A;obtain⟨⟨O,M,L⟩,_,K⟩:=g.lms x;obtain⟨c,P,k1,k2,k3⟩:=K ht;have h:∀y∈sc.names,y.2=NameKind.free->X.env.kindOf y.1=some .cell/\X.fn y.1=true:=λ y f l=>by
  have z:=r y f;rw[d6 (by rw[l])]at z;have B:=f0.mp z;have C:=g.loc y.1 (by unfold locB;rw[B];rfl);have nl:X.env.scope.names.lookup y.1≠some .local:=λ w=>by rcases g.cel y.1 (.inl B)with v | v<;>(rw[w]at v;cases v)
  refine⟨?_,C.2.elim id λ w=>absurd w nl⟩;exact C.1.elim (λ w=>absurd w nl) id
 have T:LamTx N (N.take d) sc:=by
  have E:(N.take d).length=d:=by rw[U2];omega
  refine⟨l2,l3,Z,bu Y,by rw[E],U,S,λ i y h1 h2=>o y ?_⟩;rw[E]at h1;refine P9 (i:=i - d) ?_;rw[eU,show d+_=i by omega];exact h2
 have k:∀(j i:Nat),fr[j]? = some i->∃y,N[d+j]? = some y/\X.N[i]? = some y/\X.env.kindOf y=some .cell:=λ j i q=>by
  have hjl:=(w5.mp q).1;have p:d+j<N.length:=by omega
  have f:(N.drop d)[j]? = some N[d+j]:=by rw[eU,i6 p]
  have hz:(i,N[d+j])∈fr.zip (N.drop d):=P9 (i:=j) (by rw[iK];exact⟨q,f⟩);have R:=u _ hz;have Q:=o _ (P9 f);exact⟨_,i6 p,by rw[g.N];exact R,(h _ (A9 Q) rfl).1⟩
 exact⟨c,P,⟨k1,λ I=>k2 _ I.kIn,λ I=>I.tabs _ k3,λ y f l=>.inl (h y f l).1⟩,Hm J,T,λ I=>Fn I (λ y f l=>I.ok.has y.1 (.inl (h y f l).1)) λ y f l=>(h y f l).2,((by unfold S8;rw[d8];refine⟨J,?_⟩;show corE ⟨N,sc.names,G.fnl,G.bll,G.cll,false,false⟩ false lb bd=true;rw[O,M,L];exact c9)),W,λ j i q=>let ⟨y,a,b,c⟩:=k j i q;⟨y,a,b,.inl c⟩⟩
def Hx(E:S1 G F a):S1 G F (.srtk a N p lb fr):=by
 refine .of (λ {w X e q r} g b h=>?_) Nn (λ w e o b=>?_)
 ·obtain⟨B,b⟩:=C7.mp b;refine rX b λ ef ea kn el kp x b=>?_
  simp only[d8,f0,t4]at b;obtain⟨⟨⟨⟨M,K⟩,J⟩,I⟩,b⟩:=b;refine rM b λ pr bd sc lp b=>?_
  subst K;obtain⟨⟨px,rfl⟩,n,m⟩:=W3 g M;rw[d8]at b;have h:cS G F _ N p lb _=some r:=h;unfold cS at h;split at h
  ·rename_i cs j;split at h
   ·cases h
   ·rename_i l;have d:G.fnl.isEmpty=false:=by simpa using l
    obtain⟨⟨v,u,s⟩,⟨k,C,z⟩,_⟩:=g.lms d;obtain⟨c,P,L,H,T,y,i,A,hs⟩:=um g B d b.1 b.2;cases f:evE G F a q with
    | none=>rw[f]at h;cases h
    | some ra=>
     rw[f]at h;exact FW z C v u s n m I L H T y i A hs j (E.1 g J f) h
  ·cases h
 ·obtain⟨_,b⟩:=C7.mp b;exact rX b λ _ _ _ _ _ _ _=>z8 rfl o
def Hy(J:S1 G F a)(I:S1 G F b):S1 G F (.calll f a b N o lb fr):=by
 refine .of (λ {u X e s r} g d h=>?_) Nn (λ u e n d=>?_)
 ·obtain⟨z,d⟩:=C7.mp d;refine rT d λ ef ea eb el v d=>?_
  refine C5 d λ x p d=>rM d λ pr bd sc lp d=>?_;simp only[d8,f0,M5,ne_eq,t4]at d;obtain⟨⟨⟨⟨⟨⟨⟨⟨c1,Z⟩,Y⟩,W⟩,U⟩,S⟩,R⟩,Q⟩,O⟩:=d;obtain⟨k,fa,fd,ps,A,C,H,K,E,fo⟩:=g.fns f x c1;have h:fN G F f _ _ N o lb _=some r:=h;unfold fN at h;split at h
  ·rename_i cs l;split at h
   ·cases h
   ·rename_i m;obtain⟨c,P,L,M,T,w,j,y,hs⟩:=um g z (Nm m) Q O;cases i:evE G F a s with
    | none=>rw[i]at h;cases h
    | some ra=>
     rw[i]at h;exact Fo fo E A (g.glo x Z) C H K (A6.mpr Y) U R L M T w j y hs l (J.1 g W i) (λ q B=>I.1 g S B) h
  ·cases h
 ·obtain⟨_,d⟩:=C7.mp d;exact rT d λ _ _ _ _ _ _=>z8 rfl n
def Hz(C:S1 G F b):S1 G F (.gdx b):=by
 refine .of (λ {z X e s r} g c h=>?_) Nn (λ z e l c=>?_)
 ·refine K6 c λ M m u c=>?_;simp only[d8,t4]at c;obtain⟨⟨h1,I⟩,E⟩:=c;refine C5 h1 λ x p h1=>?_;simp only[d8,f0,M5,ne_eq]at h1;obtain⟨⟨rfl,h2⟩,J⟩:=h1;have h:Re.thn _ _=some r:=h;cases j:evE G F b s with
  | none=>rw[j]at h;cases h
  | some rb=>
   rw[j]at h;obtain⟨y,cy⟩:=rb;have h:=h;cases y with
   | str k=>
    have h:=h;obtain⟨i,B,A⟩:=o9.mp h;cases A;obtain⟨o,f,d⟩:=G4.mp B;have d:=d;subst d;obtain⟨a,L,n,q | D⟩:=g.dk
    ·rw[q]at f;cases f
    ·refine(qp ix_K (kj (g.glo gdN h2) D.mg (v:=.ref a) rfl (A6.mpr J)) (C.1 g I j) (by cases m<;>first | (intro _ _;rfl) | cases E)).weak λ σ H Q ⟨O,W,R,p⟩=>⟨O,W,R,λ w N s1 K=>⟨a,L,n,k,i,rfl,(K.str MX).1,D,f,p _ N s1 A2⟩⟩
   | _=>cases h
 ·exact K6 c λ M m u _=>z8 rfl l
def uo(g:Good m G F X)(h2:gloB m gdN=true)(B:gdN ≠ "__debug__")(A:∀z,evE G F b δ=some z->PE X s (dE X.D δ z))
  (h:Re.thn (MQ b) (λ y _=>ginD G y)=some r) :
  ∃l j,PE X s l/\PE X (.Name gdN p) j/\(∀σ H Q,dE X.D δ r σ H Q->tOp (λ x y H Q=>∃a es n k r,y=.ref a/\x=.str k/\DictK X.K X.w X.mg G.gk a es n/\G.gk.lookup k=some r/\Q (.bl r.isSome) H) l j σ H Q)/\∀d c,r=.ok d c->∃k,d=.bl k:=by
 cases i:evE G F b δ with
 | none=>rw[i]at h;cases h
 | some rb=>
  rw[i]at h;obtain⟨y,cy⟩:=rb;have h:=h;cases y with
  | str k=>
   have h:=h;obtain⟨o,f,u⟩:=o9.mp h;cases u;obtain⟨a,es,n,q | D⟩:=g.dk
   ·rw[q]at f;cases f
   ·exact⟨_,_,A _ i,kj (g.glo gdN h2) D.mg (v:=.ref a) rfl (A6.mpr B),λ σ H Q ⟨O,W,R,p⟩=>⟨O,W,R,λ w E s1 C=>⟨a,es,n,k,o,rfl,(C.str MX).1,D,f,p _ E s1 O8⟩⟩,λ d c q=>by cases q;exact Nb⟩
  | _=>cases h
def HA(l:S1 G F b):S1 G F (.gin b):=by
 refine .of2 (λ {u X e k r} g c h=>?_) (λ {u X e k r} g c h=>?_) Nn
 ·refine gm c λ C o y p c=>?_;simp only[d8,f0]at c;obtain⟨⟨h1,h2⟩,j⟩:=c;subst h1;refine C5 h2 λ x v h1=>?_;simp only[d8,f0,M5,ne_eq]at h1;obtain⟨⟨rfl,f⟩,a⟩:=h1;obtain⟨s,q,A,B,w,_⟩:=uo g f a (λ z i=>l.1 g j i) h;exact(qa in_K A B rfl).weak w
 ·refine gm c λ C o y p c=>?_;simp only[d8,f0]at c;obtain⟨⟨h1,h2⟩,j⟩:=c;subst h1;refine C5 h2 λ x v h1=>?_;simp only[d8,f0,M5,ne_eq]at h1;obtain⟨⟨rfl,f⟩,a⟩:=h1;cases d:evE G F _ k with
  | none=>rw[d]at h;cases h
  | some re=>
   rw[d]at h;obtain⟨s,q,A,B,w,n⟩:=uo g f a (λ z i=>l.1 g j i) d;exact(qc in_K A B rfl).weak λ m H Q z=>w m H _ (mu n h z)
def HB(i:S1 G F c)(o:S1 G F a)(n:S1 G F b):S1 G F (.ite c a b):=by
 refine .of2 (λ {s X e q r} g f h=>?_) (λ {s X e q r} g f h=>?_) Nn
 ·refine rF f λ u w v p f=>?_;simp only[d8]at f;obtain⟨⟨m,l⟩,j⟩:=f;exact Ew (λ z d=>i.2.1 g m d) (λ z d=>o.1 g l d) (λ z d=>n.1 g j d) h
 ·refine rF f λ u w v p f=>?_;simp only[d8]at f;obtain⟨⟨m,l⟩,j⟩:=f;exact Ev (λ z d=>i.2.1 g m d) (λ z d=>o.2.1 g l d) (λ z d=>n.2.1 g j d) h
def HE:SEs G F []:=λ {sg X b δ r} g a h=>by
 cases b with
 | nil=>unfold evEs at h;cases h;exact Ex
 | cons _ _=>unfold r3 at a;cases a
def HF(j:S1 G F a)(i:SEs G F d):SEs G F (a::d):=λ {sg X f δ r} g b h=>by
 cases f with
 | nil=>unfold r3 at b;cases b
 | cons e f=>
  unfold r3 at b;simp only[d8,t4]at b;unfold evEs at h;exact Ey b.1.2 (λ z c=>j.1 g b.1.1 c) (λ z c=>i g b.2 c) h
def HG:SAnd G F []:=λ {sg X es δ a} g hc=>⟨λ r h=>(by unfold I0 at h;cases h),λ r h=>(by unfold I0 at h;cases h)⟩
def HH:SOr G F []:=λ {sg X es δ a} g hc=>⟨λ r h=>(by unfold evOr at h;cases h),λ r h=>(by unfold evOr at h;cases h)⟩
def HI(i:S1 G F a)(n:SAnd G F f):SAnd G F (a::f):=λ {l X d k j} g b=>by
 cases d with
 | nil=>unfold r3 at b;cases b
 | cons e d=>
  unfold r3 at b;simp only[d8,t4]at b;cases f with
  | nil=>
   cases d with
   | nil=>
    refine⟨λ r h=>?_,λ r h=>?_⟩
    ·unfold I0 at h;exact pN (i.1 g b.1.1 h)
    ·unfold I0 at h;exact zi (i.2.1 g b.1.1 h)
   | cons _ _=>have:=b.2;unfold r3 at this;cases this
  | cons m f=>
   cases d with
   | nil=>have:=b.2;unfold r3 at this;cases this
   | cons e' d=>
    have B:=@n l X _ k j g b.2;refine⟨λ r h=>?_,λ r h=>?_⟩
    ·unfold I0 at h;exact Ep (λ z c=>i.1 g b.1.1 c) (λ z c=>B.1 z c) h
    ·unfold I0 at h;exact Et (λ z c=>i.2.1 g b.1.1 c) (λ z c=>B.2 z c) h
def HJ(i:S1 G F a)(n:SOr G F f):SOr G F (a::f):=λ {l X d k j} g b=>by
 cases d with
 | nil=>unfold r3 at b;cases b
 | cons e d=>
  unfold r3 at b;simp only[d8,t4]at b;cases f with
  | nil=>
   cases d with
   | nil=>
    refine⟨λ r h=>?_,λ r h=>?_⟩
    ·unfold evOr at h;exact pN (i.1 g b.1.1 h)
    ·unfold evOr at h;exact zj (i.2.1 g b.1.1 h)
   | cons _ _=>have:=b.2;unfold r3 at this;cases this
  | cons m f=>
   cases d with
   | nil=>have:=b.2;unfold r3 at this;cases this
   | cons e' d=>
    have B:=@n l X _ k j g b.2;refine⟨λ r h=>?_,λ r h=>?_⟩
    ·unfold evOr at h;exact Er (λ z c=>i.1 g b.1.1 c) (λ z c=>B.1 z c) h
    ·unfold evOr at h;exact Eu (λ z c=>i.2.1 g b.1.1 c) (λ z c=>B.2 z c) h
def HK(f:SAnd G F d):S1 G F (.and d):=by
 refine .of2 (λ {j X e i r} g a h=>?_) (λ {j X e i r} g a h=>?_) Nn
 ·refine gc a λ o k p a=>?_;simp only[d8,f0]at a;obtain⟨c,b⟩:=a;subst c;exact(f g b).1 r h
 ·refine gc a λ o k p a=>?_;simp only[d8,f0]at a;obtain⟨c,b⟩:=a;subst c;exact((f g b).2 r h).pt
def s_or(f:SOr G F d):S1 G F (.or d):=by
 refine .of2 (λ {j X e i r} g a h=>?_) (λ {j X e i r} g a h=>?_) Nn
 ·refine gc a λ o k p a=>?_;simp only[d8,f0]at a;obtain⟨c,b⟩:=a;subst c;exact(f g b).1 r h
 ·refine gc a λ o k p a=>?_;simp only[d8,f0]at a;obtain⟨c,b⟩:=a;subst c;exact((f g b).2 r h).pt
end
section
variable {G:Gs} {F:Nat->on DV->Mn Ou}
mutual
theorem snd:∀m:ME,S1 G F m
 | .var _=>GP
 | .int _=>GQ
 | .bl _=>s_bl
 | .str _=>GS
 | .non=>GR
 | .glb _=>GT
 | .bin _ a b=>GU (snd a) (snd b)
 | .neg a=>GV (snd a)
 | .not a=>GW (snd a)
 | .cmp _ a b=>GX (snd a) (snd b)
 | .chain _ _ a b c=>GY (snd a) (snd b) (snd c)
 | .and es=>HK (uq es)
 | .or es=>s_or (ur es)
 | .lst es=>Ha (sndL es)
 | .tup es=>Hb (sndL es)
 | .ix a b=>s_ix (snd a) (snd b)
 | .sl a b c=>s_sl (snd a) (snd b) (snd c)
 | .slf a b=>GZ (snd a) (snd b)
 | .call _ es=>Hc (sndL es)
 | .bi _ es=>s_bi (sndL es)
 | .isi a _=>Hn (snd a)
 | .meth _ a _=>Hi (snd a)
 | .comp a _ b _=>Hv (snd a) (snd b)
 | .compi a _ b c _=>Hw (snd a) (snd b) (snd c)
 | .idx a b=>Hj (snd a) (snd b)
 | .rng es=>Ho (sndL es)
 | .enu a=>Hq (snd a)
 | .itm a=>Hr (snd a)
 | .dgp _ b=>Hk (snd b)
 | .gdx b=>Hz (snd b)
 | .gin b=>HA (snd b)
 | .zp a b=>s_zp (snd a) (snd b)
 | .calll _ a b _ _ _ _=>Hy (snd a) (snd b)
 | .callv _ _ es=>Hl (sndL es)
 | .srtk a _ _ _ _=>Hx (snd a)
 | .ite a b c=>HB (snd a) (snd b) (snd c)
theorem sndL:∀ms:on ME,SEs G F ms
 | []=>HE
 | a::ms=>HF (snd a) (sndL ms)
theorem uq:∀ms:on ME,SAnd G F ms
 | []=>HG
 | a::ms=>HI (snd a) (uq ms)
theorem ur:∀ms:on ME,SOr G F ms
 | []=>HH
 | a::ms=>HJ (snd a) (ur ms)
end
end
section
variable (G:Gs) (F:NE) (fu:Nat)
def SS(m:MS):Prop:=∀{sg:Sg} {X:Cx} {st:Mz} {δ:on Sv} {o:Out},Good sg G F X->corS sg m st=true->evS G F fu m δ=some o->PS X st (dS X.D δ o)
def SSs(ms:on MS):Prop:=∀{sg:Sg} {X:Cx} {sts:on Mz} {δ:on Sv} {o:Out},Good sg G F X->K7 sg ms sts=true->evSs G F fu ms δ=some o->PSs X sts (dS X.D δ o)
end
def HL(h:so e=true):ai G F e:=by
 cases e with
 | comp a _ b _=>exact uk (snd a) (snd b)
 | compi a _ b c _=>exact ul (snd a) (snd b) (snd c)
 | _=>cases h
def HM:SS G F fu (.set i own e):=by
 intro sg X st u o g c h;refine du c λ t v w c=>?_
 refine C5 c λ x pt c=>?_;simp only[d8,f0,B7,t4]at c;obtain⟨⟨⟨E,C⟩,s⟩,d⟩:=c;have l:=g.loc x C;have q:X.N[i]? = some x:=by rw[g.N];exact E
 have h:Re.thnS u _ _=some o:=h;cases hv:S5 v with
 | false=>exact ue g.nd q l.1 l.2 (λ z j=>(snd e).1 g s j) (gH hv) h
 | true=>
  rcases d with d | B
  ·rw[hv]at d;cases d
  ·cases m:evE G F e u with
   | none=>rw[m]at h;cases h
   | some r=>
    obtain⟨a,N',fr,tg,p,rfl,S,P,A,y⟩:=HL B g s m;cases f:(X.env.blockKind == .function&&X.env.kindOf x==some .local&&pt.line==(Expr.ListComp a.elt [⟨a.tg,a.it,a.ifs,0⟩] a.sc p).pos.line && !_)with
    | false=>
     have b:=(by show(pure (X.env.blockKind == .function&&X.env.kindOf x==some .local&&pt.line==(Expr.ListComp a.elt [⟨a.tg,a.it,a.ifs,0⟩] a.sc p).pos.line && !(a.sc.names.any λ (n,k)=>n==x&&(k == .local||k == .cell))):Sem Bool)=pure false;rw[f]);exact ue g.nd q l.1 l.2 (λ z j=>(snd e).1 g s j) b h
    | true=>
     have b:=(by show(pure (X.env.blockKind == .function&&X.env.kindOf x==some .local&&pt.line==(Expr.ListComp a.elt [⟨a.tg,a.it,a.ifs,0⟩] a.sc p).pos.line && !(a.sc.names.any λ (n,k)=>n==x&&(k == .local||k == .cell))):Sem Bool)=pure true;rw[f]);rw[m]at h;have d:X.env.kindOf x=some .local:=by simp only[d8,f0]at f;exact f.1.1.2
     exact Gd S g.calm g.nd q d P A y b h
def HN:SS G F fu (.app i e):=by
 intro sg X st δ o g a h;refine lK a λ v k a=>?_
 refine dt a λ ef ea c a=>?_;refine dh a λ ob n d a=>?_;simp only[d8,t4]at a;obtain⟨⟨⟨⟨s,b⟩,r⟩,q⟩,p⟩:=a;refine C5 b λ x np b=>?_;obtain⟨s1,s2,j,f⟩:=W1 g b;have m:=f0.mp s;subst m;exact Ge (R6 s1 s2 j f) (λ z l=>(snd e).1 g r l) q p h
def HP:SS G F fu (.ext i e):=by
 intro sg X st δ o g a h;refine lK a λ v k a=>?_
 refine dt a λ ef ea c a=>?_;refine dh a λ ob n d a=>?_;simp only[d8,t4]at a;obtain⟨⟨⟨⟨s,b⟩,r⟩,q⟩,p⟩:=a;refine C5 b λ x np b=>?_;obtain⟨s1,s2,j,f⟩:=W1 g b;have m:=f0.mp s;subst m;exact Gg (R6 s1 s2 j f) (λ z l=>(snd e).1 g r l) q p h
def HQ:SS G F fu (.retd i):=by
 intro sg X st δ o g a h;refine rY a λ v d a=>?_
 refine C5 a λ x np a=>?_;obtain⟨s1,s2,c,b⟩:=W1 g a;exact Gr (R6 s1 s2 c b) h
def HR:SS G F fu (.sett is e):=by
 intro sg X st δ o g b h;refine du b λ t v c b=>?_
 simp only[d8,t4]at b;obtain⟨⟨⟨a,j⟩,i⟩,f⟩:=b;unfold tgOk at a;dsimp only at a;split at a
 ·rename_i l q;obtain⟨kk,tp,rfl⟩:=aV q;rw[d8,d8,f0]at a;obtain⟨A,B,C⟩:=mU g is l a.1.1 a.2;exact Gi (Ck g.calm A B C) (λ z d=>(snd e).1 g j d) f i h
 ·cases a
def HU:SS G F fu (.aug i e):=by
 intro sg X st δ o g c h;refine Dj c λ t op v f c=>?_
 rw[d8,d8]at c;obtain⟨⟨n,b⟩,m⟩:=c;cases f0.mp n;refine C5 b λ x p b=>?_
 rw[d8]at b;have l:=g.loc x b.2;obtain⟨a,d,h⟩:=G4.mp h;exact Gk g.nd (by rw[g.N];exact f0.mp b.1) l.1 l.2 (λ z j=>(snd e).1 g m j) (Gj d) h
def HV:SS G F fu (.sep i):=by
 intro sg X st δ o g a h;refine du a λ t v b a=>?_
 refine C5 a λ x np a=>?_;refine Do a λ _ a=>?_;rw[d8,f0]at a;obtain⟨d,c⟩:=g.loc x a.2;exact GD g.nd (by rw[g.N];exact a.1) d c h
def HW:SS G F fu (.dpp i ks e):=by
 intro sg X st δ o g a h;refine du a λ t v k a=>?_
 refine K6 a λ ob ek sp a=>?_;simp only[d8,t4]at a;obtain⟨⟨⟨d,c⟩,m⟩,l⟩:=a;refine C5 d λ x np d=>?_;obtain⟨s1,s2,j,f⟩:=W1 g d;refine lG c λ es tk tp c=>?_;exact GF (N4 KE g.hu) (R6 s1 s2 j f) (λ z b=>(snd e).1 g m b) (λ z b=>sndL ks g c b) l h
def HX:SS G F fu (.seti i k e):=by
 intro sg X st δ o g a h;refine du a λ t v j a=>?_
 refine K6 a λ ob ek sp a=>?_;simp only[d8,t4]at a;obtain⟨⟨⟨c,n⟩,m⟩,l⟩:=a;refine C5 c λ x np c=>?_;obtain⟨s1,s2,f,d⟩:=W1 g c;exact Gf (R6 s1 s2 f d) (λ z b=>(snd e).1 g l b) (λ z b=>(snd k).1 g n b) m h
def HY:SS G F fu (.exp e):=by
 intro sg X st δ o g a h;refine lK a λ _ _ a=>?_
 simp only[d8,t4]at a;exact Gc (λ z b=>(snd e).1 g a.1 b) a.2 h
def HZ:SS G F fu (.ret e):=by
 intro sg X st δ o g a h;refine rY a λ _ _ a=>?_
 exact Gb (λ z b=>(snd e).1 g a b) h
def Ia:SS G F fu .unk:=by
 intro sg X st δ o g hc h;cases h
def Ib(i:SSs G F fu a)(f:SSs G F fu b):SS G F fu (.iff c a b):=by
 intro sg X st δ o g d h;refine Dd d λ _ _ _ _ d=>?_
 simp only[d8]at d;exact Ga (λ z e=>(snd c).2.1 g d.1.1 e) (λ z e=>i g d.1.2 e) (λ z e=>f g d.2 e) h
def t_fo(f:SSs G F fu body):SS G F fu (.fo tg e body):=by
 intro sg X st δ o g a h;refine Dq a λ _ _ _ _ a=>?_
 simp only[d8,t4,B7]at a;obtain⟨⟨⟨⟨n,m⟩,l,k⟩,j⟩,i⟩:=a;exact Gm (g.own n) g.calm (λ z c=>(snd e).2.2 g l (λ w=>by
  rcases k with q | q
  ·rw[w]at q;cases q
  ·exact q) c) (dP g m) (λ b o' d=>f g i d) j h
def t_wh(f:SSs G F fu body):SS G F fu (.wh c body):=by
 intro sg X st δ o g a h;refine Dr a λ _ _ _ a=>?_
 simp only[d8]at a;exact Gn (g.own a.1.1) (λ b r d=>(snd c).2.1 g a.1.2 d) (λ b o' e=>f g a.2 e) h
def Ic:MS->Bool
 | _=>false
def Ie:SSs G F fu []:=by
 intro sg X c δ o g d h;cases c with
 | nil=>unfold evSs at h;cases h;exact FX
 | cons a b=>unfold K7 at d;cases d
def F1(l:SS G F fu m)(p:SSs G F fu f)(k:Ic m=false):SSs G F fu (m::f):=by
 intro j X a δ o g e h;cases a with
 | nil=>
  exfalso;cases m<;>first | (cases k;done) | (unfold K7 at e;cases e)
 | cons n a=>
  have b:corS j m n=true/\K7 j f a=true:=(by cases m<;>first | (cases k;done) | (unfold K7 at e;rw[d8]at e;exact e));unfold evSs at h;split at h
  ·rename_i c q;exact FY (l g b.1 q) (p g b.2 h)
  ·rename_i i;cases o with
   | nx c=>exact absurd h (i c)
   | rt d fr=>exact FZ (l g b.1 h)
section
variable {G:Gs} {F:Nat->on DV->Mn Ou} {fu:Nat}
mutual
theorem sndS:∀m:MS,SS G F fu m
 | .set _ _ _=>HM
 | .app _ _=>HN
 | .sett _ _=>HR
 | .aug _ _=>HU
 | .ext _ _=>HP
 | .seti _ _ _=>HX
 | .exp _=>HY
 | .ret _=>HZ
 | .iff _ a b=>Ib (A3 a) (A3 b)
 | .fo _ _ body=>t_fo (A3 body)
 | .wh _ body=>t_wh (A3 body)
 | .sep _=>HV
 | .dpp _ _ _=>HW
 | .retd _=>HQ
 | .unk=>Ia
theorem A3:∀ms:on MS,SSs G F fu ms
 | []=>Ie
 | .set i o e::ms=>F1 (sndS (.set i o e)) (A3 ms) rfl
 | .app i o::ms=>F1 (sndS (.app i o)) (A3 ms) rfl
 | .sett i o::ms=>F1 (sndS (.sett i o)) (A3 ms) rfl
 | .aug i o::ms=>F1 (sndS (.aug i o)) (A3 ms) rfl
 | .ext i o::ms=>F1 (sndS (.ext i o)) (A3 ms) rfl
 | .seti i k o::ms=>F1 (sndS (.seti i k o)) (A3 ms) rfl
 | .exp e::ms=>F1 (sndS (.exp e)) (A3 ms) rfl
 | .ret e::ms=>F1 (sndS (.ret e)) (A3 ms) rfl
 | .iff c a b::ms=>F1 (sndS (.iff c a b)) (A3 ms) rfl
 | .fo t i b::ms=>F1 (sndS (.fo t i b)) (A3 ms) rfl
 | .wh c b::ms=>F1 (sndS (.wh c b)) (A3 ms) rfl
 | .retd i::ms=>F1 (sndS (.retd i)) (A3 ms) rfl
 | .sep i::ms=>F1 (sndS (.sep i)) (A3 ms) rfl
 | .dpp i k e::ms=>F1 (sndS (.dpp i k e)) (A3 ms) rfl
 | .unk::ms=>F1 (sndS .unk) (A3 ms) rfl
end
end
structure FunD(K:PySem.W.Frag)(x qual:Str)(st:Stmt)(f:Addr)(fd:FuncData):Prop where
 ex:∃(oc:Value) (od:Option Addr) (dV kV doc pm:Value) (an:Option Addr) (cdv ct:Value) (osl:Array (Option Value)),
  fd=PySem.W.fnOf x qual (O3 st) (G9 st) (v3 st) dV kV doc pm an cdv ct/\K.lookup f=some ⟨oc,od,.func fd,osl⟩/\PySem.W.codeIn K cdv qual=true
def FunD.okX{K:MA}(F:FunD K x a d f fd)(S:FnScope N ps (v3 d))(g:∀vs H Q E,e vs H Q E->vs.length=ps.length)
  (c:∀(b:Mo),fd.code=b->∀(A:My) (outer:on Env) (s:Mp) (H:Hp) (vs:on V) (Q:VK) (E:XK),Room k (A.deeper (envOfC a (v3 d) s.heap.objs.size f b))->e vs H Q E ->
   ∃t,PSs (cxD P w K mg base N a (v3 d) f b A outer s H) (G9 d) t/\t {nx:=λ _ o=>Q .non o,rt:=Q} (start N vs) H):FnOk P w K mg base CX0 (k+1) f fd ps e:=by
 obtain⟨oc,od,dV,kV,n,pm,an,b,ct,j,rfl,l,i⟩:=F.ex;exact Av l i S g λ A outer s H vs Q E m h=>c b rfl A outer s H vs Q E m h
open PySem.W PySem.Calls PySem.Builtin PySem.Builtin.ObjectAttr PySem.Builtin.Getset_descriptor
section
variable {prog:Mw} {w:Mv} {K:Frag} {x D:Mq} {M:Model} {h:Mr}
structure ClsK(K:Frag)(D:Addr):Prop where
 ga:findIn K (.ref D) "__getattribute__" = some (some (.builtin "BaseException.__getattribute__"))
 gt:findIn K (.ref D) "__getattr__" = some none
 mb:mroIn K D (.type "BaseException")=some true
 hd:hasDictIn K D=true
 fc:findIn K (.ref D) "__class__" = some (some (.builtin "object.__class__"))
 sg:specialIn K (.builtin "object.__class__") "__get__" = some (some (.builtin "getset_descriptor.__get__"))
 tk:takesIn K (.builtin "object.__class__")=some true
 mo:mroIn K D (.type "object")=some true
end
theorem RSt.start(m:n=N.length)(r:RepL D (Nf O) ds vs)(k:Hdn O H):RSt D H (L2.start N vs) (k7 n ds) O []:=by
 subst m;have c:∀(i:Nat) b,(k7 N.length ds)[i]? ≠ some (.own b):=λ i b h=>by
  unfold k7 at h;by_cases e:i<(ds.map Sv.val).length
  ·rw[P8 e,n7]at h;cases q:ds[i]? with
   | none=>rw[q]at h;cases h
   | some d=>rw[q]at h;cases h
  ·rw[P7 KE,eJ]at h;split at h<;>cases h
 have g:∀(i:Nat) b,(k7 N.length ds)[i]? ≠ some (.od b):=λ i b h=>by
  unfold k7 at h;by_cases e:i<(ds.map Sv.val).length
  ·rw[P8 e,n7]at h;cases q:ds[i]? with
   | none=>rw[q]at h;cases h
   | some d=>rw[q]at h;cases h
  ·rw[P7 KE,eJ]at h;split at h<;>cases h
 refine⟨λ i d h=>?_,λ i b h=>absurd h (c i b),λ i j a p d2 h=>absurd h (c i p),λ i d h=>absurd h (g i d),?_,⟨λ a f=>k.ne a (Nm f),Same.refl _,λ a f=>(nomatch f),λ a f=>(nomatch f),k⟩⟩
 ·unfold k7 at h;by_cases e:i<(ds.map Sv.val).length
  ·rw[P8 e,n7]at h;cases q:ds[i]? with
   | none=>rw[q]at h;cases h
   | some d'=>
    rw[q]at h;cases h;obtain⟨v,l,o⟩:=r.get q;refine⟨v,?_,by rw[x4];exact o⟩;unfold L2.start;rw[P8 (by rw[d9];exact(w5.mp l).1),n7,l];rfl
  ·rw[P7 KE,eJ]at h;split at h<;>cases h
 ·unfold L2.start k7;rw[p7,p7,d9,d9,iW,iW,r.length]
noncomputable def dqB(x:Str):Bool:=!aM (x ++ ".<locals>." ++ "plan_of")
structure Stands(K:PySem.W.Frag)(mg:Str->Option Value)(fn bl cl:List Str)(d:FD)(x:Str)(fa:Addr)(fd:FuncData)(ps:List Str):Prop where
 mg:mg x=some (.ref fa)
 kp:PySem.W.keepIn K (.ref fa)=true
 bi:K1 K fd ps []
 np:d.np=ps.length
 ex:∃qual st N,qual=x/\FunD K x qual st fa fd/\FnScope N ps (v3 st)/\d.n=N.length/\K7 ⟨N,(v3 st).names,fn,bl,cl,true,true⟩ d.body (G9 st)=true/\dqB x=true
def Ig(hd:T[f]? = some d)(e:d.np=n)(q:run G T fu k f ds=some o):ds.length=n:=by
 cases k with
 | zero=>cases q
 | succ k=>
  have b:(match T[f]? with | none=>if f=u7 then lamR _ ds else none | some c=>if ds.length=c.np then Ou.of (evSs G _ fu c.body _)else none)=some o:=q;rw[hd]at b;have a:(if ds.length=d.np then Ou.of (evSs G _ fu d.body _)else none)=some o:=b;split at a
  ·rename_i z;rw[z,e]
  ·cases a
def ut{K:MA}(v:T.length=fn.length)(r:∀(i:Nat) d x,T[i]? = some d->fn[i]? = some x->∃b fd ps,Stands K mg fn bl cl d x b fd ps)
  (m:∀(i:Nat) d x b fd ps,T[i]? = some d->fn[i]? = some x->Stands K mg fn bl cl d x b fd ps->FnOk P w K mg base CX0 k b fd ps (spF ⟨K,mg⟩ ps.length (run G T fu k i))) (s:Room k A) (f:Nat) (y:Str) (n:fn[f]? = some y) :
  ∃p b fd ps,Room p A/\mg y=some (.ref b)/\PySem.W.keepIn K (.ref b)=true/\K1 K fd ps []/\(∀ds o,run G T fu k f ds=some o->ds.length=ps.length)/\FnOk P w K mg base CX0 p b fd ps (spF ⟨K,mg⟩ ps.length (run G T fu k f)):=by
 have u:f<T.length:=by rw[v];exact(w5.mp n).1
 obtain⟨l,c⟩:∃l,T[f]? = some l:=⟨_,i6 u⟩;obtain⟨h,g,e,j⟩:=r f l y c n;exact⟨k,h,g,e,s,j.mg,j.kp,j.bi,λ ds o q=>Ig c j.np q,m f l y h g e c n j⟩
def Ih{K:MA}(hT:T.length=fn.length)(hs:∀(i:Nat) d x,T[i]? = some d->fn[i]? = some x->∃fa fd ps,Stands K mg fn bl cl d x fa fd ps)(b6:∀x∈bl,mg x=none)
  (b5:∃a es n,G.gk=[]\/DictK K w mg G.gk a es n) (a0:∀x d,G.con.lookup x=some d->∃u v,mg x=some u/\RelV v u/\∀H,Rep ⟨K,mg⟩ H d v) (Z:G.fnl=fn/\G.bll=bl/\G.cll=cl) (b7:T.length<=ll)
  (b2:∀(i:Nat) d x fa fd ps,T[i]? = some d->fn[i]? = some x->Stands K mg fn bl cl d x fa fd ps->FnOk P w K mg B CX0 k fa fd ps (spF ⟨K,mg⟩ ps.length (run G T fu k i))) (b1:ae P w K mg B fn bl cl k (run G T fu k u7)):ae P w K mg B fn bl cl (k+1) (run G T fu (k+1) u7):=by
 intro A F s H us X Q E O f m cs L d hr e0 r hO m1 m2 m3 rp rl hF hq;have a1:(match T[u7]? with | none=>if u7=u7 then lamR (evE G (MK k)) (.lam m cs::L)else none | some fd=>if(DV.lam m cs::L).length=fd.np then Ou.of (evSs G (MK k) fu fd.body (k7 fd.n (.lam m cs::L)))else none)=some (.v d false):=hF;rw[(J7 (e9 b7 MG))]at a1;have j:=a1;rw[d6 rfl]at j;unfold lamR at j;dsimp only at j;split at j
 ·rename_i a4;obtain⟨n1,n2,n3,n4⟩:=a4;split at j
  ·rename_i d' b4;split at j
   ·rename_i nl;cases j;obtain⟨f',pr,bd,sc,q,a5,l,W,e1,lf,p,S,rc,b0,a9,a8⟩:=aW.mp rp;cases e1;have a7:=lf.mono o8;have a6:∀c∈l,∃o v,H c=some (.frz o (.own c))/\s.heap.get? c=some o/\o.data=.cell v:=λ c hc=>by obtain⟨o,v,U,M⟩:=a9 c hc;have g:=(w4 U).2;exact⟨o,v,g,(e0.hok c _ g).1,M⟩
    unfold S8 at p;rw[d8]at p;have Y:=rl.length;have C:(m.N.take m.np).length=m.np:=by rw[U2];omega
    have b3:us.length=(m.N.take m.np).length:=by rw[←r.length,Y,C];exact n1
    have hlw:=rc.length;have J:∀c∈l,∃o,H c=some (.frz o (.own c)):=λ c hc=>by obtain⟨o,_,g,_⟩:=a6 c hc;exact⟨o,g⟩
    have b8:Hdn O (L2.wo l H):=λ a ha=>by obtain⟨o,U,M⟩:=hO a ha;refine⟨o,?_,M⟩;rw[j4 λ z=>by obtain⟨o',g⟩:=J a z;rw[U]at g;cases g;cases M];exact U
    refine Fk (ws:=W) (vs:=X) S (⟨a6⟩) hr.ok e0 a7 (λ pm c' ctv=>Dw p.1 b3) (by rw[Y,C];exact n1) r (by rw[C];exact b0) (λ i x v h1 h2=>?_) λ c'=>?_
    ·rw[C]at h1;obtain⟨c,o,u,U,M,g3,g4⟩:=a8 i x v h1 h2;have g:=(w4 M).2;exact⟨c,u,U,⟨o,(e0.hok c _ g).1,g3⟩,g4⟩
    ·have I:Room k (A.deeper (PySem.W.envX q sc s.heap.objs.size f (.ref c') a5)):=hr.deeper _;have g4:Good ⟨m.N,sc.names,fn,bl,cl,false,false⟩ G (MK k) (gE P w K mg B m.N q sc f (.ref c') a5 A F s (Nf l)):=by
      refine⟨rfl,S.nd,λ y h=>?_,λ y h=>?_,λ y h=>?_,λ y h=>h,λ y h=>h,rfl,I.units,ut hT hs b2 I,b6,b5,a0,(λ z=>nomatch z),(λ z=>nomatch z),(λ z=>⟨Z,⟨k,I,b1⟩,λ w=>nomatch w⟩)⟩
      ·unfold visB at h;simp only[B7,f0]at h;rcases h with(h | h) | h
       ·exact .inl h
       ·exact .inr (.inl h)
       ·exact .inr (.inr h)
      ·unfold gloB at h;rw[f0]at h;exact h
      ·unfold locB at h;simp only[B7,f0]at h;rcases h with h | h
       ·exact⟨.inl h,.inr h⟩
       ·exact absurd rfl (S.nocell _ (A9 h))
     have pe:=(snd m.body).1 g4 ((by have:=p.2;rw[m1,m2,m3]at this;exact this)) b4;refine⟨_,pe,O,[],?_,λ v H' sm gt=>λ a3=>?_⟩
     ·have R:=RSt.start (D:=⟨K,mg⟩) (N:=m.N) (ds:=L++cs) (vs:=X++W) (n:=m.N.length) rfl ((af J n3 rl).append (af J n4 rc)) b8;have e1:k7 m.N.length (L++cs)=(L++cs).map Sv.val:=(by unfold k7;rw[p7,show m.N.length - (L.length+cs.length)=0 by omega];exact x4 _);have e2:L2.start m.N (X++W)=(X++W).map some:=(by unfold L2.start;rw[p7,show m.N.length - (X.length+W.length)=0 by omega];exact x4 _);rw[e1,e2]at R;exact R
     ·have a2:Rep ⟨K,mg⟩ (L2.wo (O++[]) H') d v:=gt;rw[x4]at a2;refine hq v _ (λ b o e=>?_) (a2.mono λ b o e=>?_)
      ·by_cases hb:b∈l
       ·rw[mB hb];exact e
       ·rw[V9 hb];exact sm _ _ (by rw[j4 hb];exact e)
      ·obtain⟨hb,e⟩:=w4 e;rw[j4 hb,V9 λ z=>by rw[a3 b z]at e;cases e];exact e
   ·cases j
  ·cases j
 ·cases j
theorem uu{P:Mw}{w:Mv}{K:MA}{mg:Str->Mn Mo}{base:Mr}{G:Gs}{T:on FD}{fu:Nat}{fn bl cl:on Str}(hT:T.length=fn.length)(hs:∀(i:Nat) d x,T[i]? = some d->fn[i]? = some x->∃fa fd ps,Stands K mg fn bl cl d x fa fd ps)(hbl:∀x∈bl,mg x=none)
  (hdk:∃a es n,G.gk=[]\/DictK K w mg G.gk a es n) (hcon:∀x d,G.con.lookup x=some d->∃u v,mg x=some u/\RelV v u/\∀H,Rep ⟨K,mg⟩ H d v)
  (hlm:G.fnl.isEmpty=false->(G.fnl=fn/\G.bll=bl/\G.cll=cl)/\T.length<=ll/\∀(i:Nat) (d:FD) (x qual:Str) (st:Mz) (fa:Mq) (fd:FuncData),T[i]? = some d->fn[i]? = some x->qual=x->FunD K x qual st fa fd->∃c P,fd.code=.ref c/\(∀h:Mr,K.In h->PySem.W.CodeHd h c P)/\(P,tagQ qual)∈u0 K) :
  ∀k,(∀(i:Nat) d x fa fd ps,T[i]? = some d->fn[i]? = some x->Stands K mg fn bl cl d x fa fd ps->FnOk P w K mg base CX0 k fa fd ps (spF ⟨K,mg⟩ ps.length (run G T fu k i)))/\(G.fnl.isEmpty=false->ae P w K mg base fn bl cl k (run G T fu k u7))
 | 0=>by
  refine⟨λ i d x fa fd ps h1 h2 S=>?_,λ _=>(λ A outer s H us vs Q E O f m cs ds d _ _ _ _ _ _ _ _ _ hF _=>by cases hF)⟩;refine⟨λ vs H Q E h=>?_,λ A outer s H args us vs Q E hr he hb hv h=>?_⟩
  ·obtain⟨_,_,_,_,_,_,q,_⟩:=h;cases q
  ·obtain⟨_,_,_,_,_,_,q,_⟩:=h;cases q
 | k+1=>by
  have ih:=uu (P:=P) (w:=w) (base:=base) (fu:=fu) hT hs hbl hdk hcon hlm k;refine⟨λ i d x fa fd ps h1 h2 S=>?_,λ z=>Ih hT hs hbl hdk hcon (hlm z).1 (hlm z).2.1 ih.1 (ih.2 z)⟩;obtain⟨qual,st,N,hqx,F,FS,hn,hc,hdq⟩:=S.ex;refine F.okX FS (λ vs H Q E h=>?_) (λ cdv hcd A outer s H vs Q E hr h=>?_)
  ·obtain⟨O,ds,o,_,e1,e2,_⟩:=h;rw[e2.length,e1]
  ·obtain⟨O,ds,o,ho,e1,e2,e3,e4⟩:=h;have e3':(match T[i]? with | none=>if i=u7 then lamR (evE G (MK k)) ds else none | some fd=>if ds.length=fd.np then Ou.of (evSs G (MK k) fu fd.body (k7 fd.n ds))else none)=some o:=e3;rw[h1]at e3';have e3'':(if ds.length=d.np then Ou.of (evSs G (MK k) fu d.body (k7 d.n ds))else none)=some o:=e3';rw[d6 (e1.trans S.np.symm)]at e3'';have g:Good ⟨N,(v3 st).names,fn,bl,cl,true,true⟩ G (MK k) (cxD P w K mg base N qual (v3 st) fa cdv A outer s H):=by
    refine⟨rfl,FS.nd,λ y hy=>?_,λ y hy=>?_,λ y hy=>⟨?_,.inl rfl⟩,λ y hy=>hy,λ y hy=>hy,rfl,hr.units,ut hT hs ih.1 hr,hbl,hdk,hcon,λ _=>PassesOwn.leaving,λ _=>⟨rfl,rfl,rfl⟩,λ z=>⟨(hlm z).1,⟨k,hr,ih.2 z⟩,λ _=>by
      obtain⟨c,P,q1,q2,q3⟩:=(hlm z).2.2 i d x qual st fa fd h1 h2 hqx F;subst hqx;unfold dqB at hdq;rw[t4]at hdq;rw[show tagQ qual=(qual ++ ".<locals>.") ++ "<lambda>" from e7 (by rw[hdq];decide)]at q3;exact⟨c,P,hcd.symm.trans q1,q2,q3⟩⟩⟩
    ·unfold visB at hy;simp only[B7,f0]at hy;rcases hy with(hy | hy) | hy
     ·exact .inl hy
     ·exact .inr (.inl hy)
     ·exact .inr (.inr hy)
    ·unfold gloB at hy;rw[f0]at hy;exact hy
    ·unfold locB at hy;simp only[B7,f0]at hy;exact hy
   cases ho':evSs G (MK k) fu d.body (k7 d.n ds)with
   | none=>rw[ho']at e3'';cases e3''
   | some oo=>
    rw[ho']at e3'';refine⟨_,A3 d.body g hc ho',H,O,[],RSt.start hn e2 ho,(λ a ha=>(nomatch ha)),ho.ne,Same.refl H,?_⟩;cases oo with
    | nx δ=>cases e3'';exact λ σ' H' W R fr sm=>e4 .non H' sm (show Rep ⟨K,mg⟩ (L2.wo O H') .non .non by unfold Rep;rfl)
    | rt d fr=>cases e3'';exact λ v H' sm gt=>e4 v H' sm gt
noncomputable def okD(fn bl cl:on Str)(d:FD)(N ps:on Str)(st:Mz):Bool:=
 (v3 st).kind == .function && !(v3 st).isCoroutine && !(v3 st).isGenerator&&V7 N&&(N.take ps.length==ps) &&
 ps.all (λ x=>(v3 st).names.lookup x==some .local||(v3 st).names.lookup x==some .cell)&&(v3 st).names.all (λ y=>!(y.2 == .free)) &&
 d.n==N.length&&d.np==ps.length&&K7 ⟨N,(v3 st).names,fn,bl,cl,true,true⟩ d.body (G9 st)
section
variable {P:Mw} {w:Mv} {K:MA} {mg:Str->Mn Mo} {base h:Mr} {G:Gs} {T:on FD} {fu:Nat} {fn bl cl:on Str}
def Ii{kV j:Mo}(X:K.In h)(E:h.Ns mainGlobals mg)(ok:okD fn bl cl d N ps b=true)
  (a:PySem.W.nsIn K mainGlobals x=some (some (.ref f))) (l:K.lookup f=some ⟨p,o,.func (PySem.W.fnOf x x (O3 b) (G9 b) (v3 b) dV kV g pm m e j),i⟩)
  (c:PySem.W.codeIn K e x=true) (k:PySem.W.keepIn K (.ref f)=true)
  (q:K1 K (PySem.W.fnOf x x (O3 b) (G9 b) (v3 b) dV kV g pm m e j) ps [])
  (C:dqB x=true:=by decide +kernel) :
  Stands K mg fn bl cl d x f (PySem.W.fnOf x x (O3 b) (G9 b) (v3 b) dV kV g pm m e j) ps:=by
 unfold okD at ok;simp only[d8,f0,t4,u4,B7,A6]at ok;obtain⟨⟨⟨⟨⟨⟨⟨⟨⟨B,A⟩,z⟩,y⟩,w⟩,v⟩,u⟩,s⟩,r⟩,n⟩:=ok;exact⟨PySem.W.mg_of X E a,k,q,r,x,b,N,rfl,⟨p,o,dV,kV,g,pm,m,e,j,i,rfl,l,c⟩,⟨B,A,z,bu y,w,v,u⟩,s,n,C⟩
def gK{kV i:Mo}(X:K.In h)(s:h.Ns mainGlobals mg)(ok:okD fn bl cl d N ps g=true)
  (a:PySem.W.nsIn K mainGlobals x=some (some (.ref f))) (l:K.lookup f=some ⟨p,o,.func (PySem.W.fnOf x x (O3 g) (G9 g) (v3 g) .none kV e pm j b i),n⟩)
  (c:PySem.W.codeIn K b x=true) (k:PySem.W.keepIn K (.ref f)=true)
  (q:∀(kV e pm:Mo) (j:Mn Mq) (b i:Mo) (m:on Mo),m.length=ps.length->bindArgs (PySem.W.fnOf x x (O3 g) (G9 g) (v3 g) .none kV e pm j b i) ⟨m,[]⟩=pure (ps.zip m)) (r:dqB x=true:=by decide +kernel) :
  Stands K mg fn bl cl d x f (PySem.W.fnOf x x (O3 g) (G9 g) (v3 g) .none kV e pm j b i) ps:=
 Ii X s ok a l c k (.all (q kV e pm j b i)) r
def HS(K:MA)(mg:Str->Mn Mo)(fn bl cl:on Str)(T:on FD)(fs:on Str):Prop:=∀(i:Nat) d x,T[i]? = some d->fs[i]? = some x->∃fa fd ps,Stands K mg fn bl cl d x fa fd ps
def Ij:HS K mg fn bl cl [] fs:=λ i d x h=>by cases h
def k6(h:Stands K mg fn bl cl d x e fd ps)(t:HS K mg fn bl cl T fs):HS K mg fn bl cl (d::T) (x::fs):=λ i f c b a=>by
 cases i with
 | zero=>cases b;cases a;exact⟨_,_,_,h⟩
 | succ i=>exact t i f c b a
def Ik:L2.wo [] H=H:=by
 funext b
 unfold L2.wo;simp
def HC(K:MA)(mg:Str->Mn Mo)(c:on (Str×DV)):Prop:=∀x d,c.lookup x=some d->∃u v,mg x=some u/\RelV v u/\∀H,Rep ⟨K,mg⟩ H d v
def Il:HC K mg []:=λ x d h=>by cases h
def gL(h:∃u v,mg y=some u/\RelV v u/\∀H,Rep ⟨K,mg⟩ H d v)(t:HC K mg c):HC K mg ((y,d)::c):=λ x a q=>by
 rw[B0]at q;split at q
 ·rename_i e;cases q
  rwa [Y8 e]
 ·exact t x a q
def KsK(K:MA)(a:Mq)(l:on (Str×Mn Int)):Prop:=∀k r,l.lookup k=some r->∃u,PySem.W.nsIn K a k=some u/\u.isSome=r.isSome/\∀i,r=some i->∃t,u=some (.int i t)
def Im:KsK K a []:=λ k r h=>by cases h
def mW(h:PySem.W.nsIn K a k=some u)(e:u.isSome=r.isSome)(f:∀i,r=some i->∃t,u=some (.int i t))(t:KsK K a l):KsK K a ((k,r)::l):=λ c b q=>by
 rw[B0]at q;split at q
 ·rename_i z;cases q;rw[Y8 z];exact⟨u,h,e,f⟩
 ·exact t c b q
noncomputable def spS(K:MA):Sp:=λ vs H Q _=>∃(a:Mq) (ns:on Int),vs=[.ref a]/\ns.length<=63/\SqS K H a (ns.map V.int)/\∀H',Q (.bl true) H'
def Io(X:T.length=fn.length)(hs:HS K mg fn bl cl T fn)(C:∀x∈bl,mg x=none)
  (B:∃a es n,G.gk=[]\/DictK K w mg G.gk a es n) (l:∀x d,G.con.lookup x=some d->∃u v,mg x=some u/\RelV v u/\∀H,Rep ⟨K,mg⟩ H d v) (h1:T[i]? = some d) (h2:fn[i]? = some x) (S:Stands K mg fn bl cl d x m fd [p])
  (z:G.fnl.isEmpty=false->(G.fnl=fn/\G.bll=bl/\G.cll=cl)/\T.length<=ll/\∀(i:Nat) (d:FD) (x b:Str) (st:Mz) (m:Mq) (fd:FuncData),T[i]? = some d->fn[i]? = some x->b=x->FunD K x b st m fd->∃c P,fd.code=.ref c/\(∀h:Mr,K.In h->PySem.W.CodeHd h c P)/\(P,tagQ b)∈u0 K)
  (y:∀j:on Int,j.length<=63->run G T fu k i [.scr j]=some (.v (.bl true) false)):FnOk P w K mg base CX0 k m fd [p] (spS K):=by
 refine⟨λ J H Q E h=>?_,λ A f s H o L J Q E M R U hv h=>?_⟩
 ·obtain⟨a,j,rfl,_⟩:=h;rfl
 ·obtain⟨a,j,rfl,O,Y,N⟩:=h;refine O0 (((uu X hs C B l z k).1 i d x m fd [p] h1 h2 S).run A f s H o L _ Q E0 M R U hv ⟨[],[.scr j],_,(λ a W=>(nomatch W)),rfl,?_,y j O,λ v I _ g=>?_⟩) λ r s' q=>?_
  ·refine RepL.one (Z8.mpr ⟨a,rfl,?_⟩);rw[Ik];exact Y
  ·have F:Rep ⟨K,mg⟩ (L2.wo [] I) _ v:=g;rw[Z7]at F;subst F;exact N I
  ·cases r with
   | error e=>exact(q:False).elim
   | ok Z=>cases Z<;>first | exact False.elim q | exact q
end
def walkE{l:PySem.W.OpenLaw}{XP:(Str->Mn Mo)->Mr->Prop}{K:Params->MA}(r:l.most=some 63)(g:d.params.defaults=[])(o:Room k callerA)
  (x:∀(w:Mv) (h:Mr),YP w h->(K w.params).In h) (e:∀(w:Mv) (h:Mr),YP w h->(∀p∈u0 (K w.params),(K w.params).lookup p.1=none/\h.get? p.1=some {cls:=.none,data:=.fields #[]} /\ isCodeTable h p.1)/\((u0 (K w.params)).map (·.1)).Nodup)
  (F:∀(w:Mv) (c:Str->Mn Mo) (j:Mq) (h:Mr),(K w.params).In h->h.Ns mainGlobals c->c d.name=some (.ref j) ->
   ∃i:FuncData,(∀(s:Mp) (u:Mo),BindsTo s i ⟨[u],[]⟩ [(p,u)])/\∀b:Mr,(K w.params).In b->b.Ns mainGlobals c->FnOk l.prog w (K w.params) c b CX0 k j i [p] (spS (K w.params))) :
  PySem.W.WalkO q loose XP YP l.row.toRowW d [] (λ f m=>PySem.call f m):=
 L2.walk_of r MG g o x e F (λ _ _ a n v A y=>⟨a,n,rfl,v,SqS.of A y,λ _=>rfl⟩) λ _ _ _ _ _ z=>z
noncomputable def uv(K:MA)(o:Obj)(c:Mq):Mn Mq:=match o.cls,o.data with
 | .type "code",.fields vs=>(match(vs[11]?:Mn Mo),(vs[18]?:Mn Mo),(vs[7]?:Mn Mo),(vs[9]?:Mn Mo),(vs[10]?:Mn Mo)with
  | some (.ref P),some (.str _ _),some (.int _ _),some (.bool _),some (.int _ _)=>if(c==P)=false/\(K.lookup P).isNone=true then some P else none
  | _,_,_,_,_=>none)
 | _,_=>none
def Iq(K:MA):Bool:=K.all λ p=>match p.2.data with
 | .func fd=>(match fd.code with
  | .ref c=>(match K.lookup c with | some o=>(uv K o c).isSome | none=>true)
  | _=>true)
 | _=>true
def dQ{vs:Mu Mo}(h:vs[i]? = some v):vs.getD i .none=v:=by
 rw[T7,h];rfl
def Ir{K:MA}{st:Mz}(R:Iq K=true)(F:FunD K x f st W fd):∃c P,fd.code=.ref c/\(∀h:Mr,K.In h->PySem.W.CodeHd h c P)/\(P,tagQ f)∈u0 K:=by
 obtain⟨oc,od,dV,kV,Y,pm,an,w,ct,H,e,I,g⟩:=F.ex;have j:fd.code=w:=by rw[e]
 have q:=u4.mp R _ (cL I);dsimp only at q;unfold PySem.W.codeIn at g;split at g
 ·rename_i c;rw[j]at q;dsimp only at q;split at g
  ·rename_i cls Z y sl p;rw[p]at q;dsimp only at q;obtain⟨P,i⟩:=W8.mp q;unfold uv at i;split at i
   ·rename_i B A S;have u:=(by have:=S;injection this);subst u;split at i
    ·rename_i P' k E U m b C l o O N M L;split at i
     ·rename_i d;cases i;split at g
      ·rename_i a n t r hv;have Q:=f0.mp g;subst Q;have J:y[1]? = some (.str n t):=by rw[←F2,hv];rfl
       refine⟨c,P,j,λ h X=>⟨_,y,k,E,U,m,b,C,l,X _ _ p,A,rfl,o,dQ o,dQ O,dQ N,dQ M,dQ L,λ z=>?_⟩,?_⟩
       ·rw[z]at d;have:=d.1;simp at this
       ·unfold u0;refine bX.mpr ⟨_,cL p,?_⟩;have v:=A;subst v;simp only[o,J,d.2,if_true]
      ·cases g
     ·cases i
    ·cases i
   ·cases i
  ·cases g
 ·cases g
def Iu{K:MA}(h:p∈u0 K):∃(c:Mq) (a:Obj) (vs:Mu Mo),(c,a)∈K/\a.cls=.type "code" /\ a.data=.fields vs/\vs[11]? = some (.ref p.1)/\K.lookup p.1=none:=by
 unfold u0 at h;obtain⟨⟨c,a⟩,d,e⟩:=bX.mp h;dsimp only at e;split at e
 ·rename_i vs g f;split at e
  ·rename_i P q t b k2;split at e
   ·rename_i z;cases e;exact⟨c,a,vs,d,g,f,b,oW.mp z⟩
   ·cases e
  ·cases e
 ·cases e
def Iv{K:MA}(f:(K.map (·.1)).Nodup)(h:(c,o)∈K):K.lookup c=some o:=by
 induction K with
 | nil=>cases h
 | cons y l g=>
  rw[t9]at f;have d:=N7.mp f;obtain⟨a,b⟩:=y;rw[B0];rcases f8.mp h with z | z
  ·cases z;rw[U4]
  ·have:c≠a:=λ e=>d.1 (by rw[←e];exact g9.mpr ⟨_,z,rfl⟩);rw[A6.mpr this];exact g d.2 z
def htb_of{K T:MA}(i:K.In h)(f:T.In h)(e:(K.map (·.1)).Nodup)(j:(u0 K).map (λ p=>T.lookup p.1)=(u0 K).map λ _=>some {cls:=.none,data:=.fields #[]}) :
  ∀p∈u0 K,K.lookup p.1=none/\h.get? p.1=some {cls:=.none,data:=.fields #[]} /\ isCodeTable h p.1:=λ p a=>by
 obtain⟨c,d,b,g,n,m,l,k⟩:=Iu a;exact⟨k,f _ _ (List.map_inj_left.mp j p a),c,d,b,i _ _ (Iv e g),n,m,l⟩
def in_app{K:MA}(X:PySem.W.Frag.In (T++K) h)(f:(K.map (·.1)).all (λ a=>(T.lookup a).isNone)=true):K.In h/\T.In h:=by
 have c:∀(T K:MA) a,(T++K).lookup a=(T.lookup a).or (K.lookup a):=λ T K a=>by
  induction T with
  | nil=>simp
  | cons y l d=>
   obtain⟨b,v⟩:=y;rw[List.cons_append,B0,B0];cases hb:a==b with
   | true=>rfl
   | false=>
    exact d
 refine⟨λ a o e=>X a o ?_,λ a o e=>X a o ?_⟩
 ·rw[c,oW.mp (u4.mp f a (g9.mpr ⟨_,cL e,rfl⟩)),e];rfl
 ·rw[c,e];rfl
end L2
end
noncomputable section
namespace cv
variable {α β:Type} (h:β->α->Bool)
def wi(bs:on β)(e:α):on β:=bs.filter λ b=>h b e
def lf(es:on α)(b:β):on α:=es.filter λ e=>!h b e
noncomputable def fst1(g:β->Mn (on β)):on β->Mn (on β)
 | []=>none
 | b::bs=>match g b with
  | some c=>some (b::c)
  | none=>fst1 g bs
def cov:Nat->on α->on β->Mn (on β)
 | _,[],_=>some []
 | 0,_::_,_=>none
 | m+1,e::es,bs=>fst1 (λ b=>cov m (lf h (e::es) b) bs) (wi h bs e)
theorem uw:∀{bs:on β} {c:on β},fst1 g bs=some c->∃b r,b∈bs/\g b=some r/\c=b::r
 | [],_,q=>by cases q
 | b::bs,c,q=>by
  unfold fst1 at q;split at q
  ·rename_i r e;cases q;exact⟨b,r,i9,e,rfl⟩
  ·obtain⟨h,r,f,d,a⟩:=uw q;exact⟨h,r,j5 _ f,d,a⟩
theorem mX:∀{bs:on β},fst1 g bs=none↔∀b∈bs,g b=none
 | []=>⟨(λ _ b a=>by cases a),λ _=>rfl⟩
 | b::bs=>by
  constructor
  ·intro q c a;unfold fst1 at q;split at q
   ·cases q
   ·rename_i e;rcases f8.mp a with z | z
    ·rwa [z]
    ·exact mX.mp q c z
  ·intro q;unfold fst1;rw[q b i9];exact mX.mpr λ c a=>q c (j5 _ a)
theorem cov_ok:∀{m:Nat} {es:on α} {bs c:on β},cov h m es bs=some c->(∀b∈c,b∈bs)/\(∀e∈es,∃b∈c,h b e=true)/\c.length<=m
 | m,[],bs,c,q=>by
  have:c=[]:=by cases m<;>(unfold cov at q;cases q;rfl)
  subst this;exact⟨(λ _ z=>by cases z),(λ _ z=>by cases z),u9 _⟩
 | 0,_::_,_,_,q=>by unfold cov at q;cases q
 | m+1,e::es,bs,c,q=>by
  unfold cov at q;obtain⟨b,r,h1,h2,rfl⟩:=uw q;obtain⟨i1,i2,i3⟩:=cov_ok h2;have hb:=k8.mp h1;refine⟨λ b' z=>?_,λ e' z=>?_,jv i3⟩
  ·rcases f8.mp z with z | z
   ·rw[z];exact hb.1
   ·exact i1 b' z
  ·by_cases hh:h b e'=true
   ·exact⟨b,i9,hh⟩
   ·obtain⟨b',p1,p2⟩:=i2 e' (k8.mpr ⟨z,by simpa using hh⟩);exact⟨b',j5 _ p1,p2⟩
theorem cov_all[DecidableEq β]:∀{m:Nat} {es:on α} {bs c:on β},(∀b∈c,b∈bs)->(∀e∈es,∃b∈c,h b e=true)->c.length<=m->cov h m es bs≠none
 | m,[],bs,c,_,_,_=>by cases m<;>(unfold cov;intro z;cases z)
 | 0,e::es,bs,c,_,h2,h3=>by
  obtain⟨b,p,_⟩:=h2 e i9;cases c with
  | nil=>cases p
  | cons _ _=>cases h3
 | m+1,e::es,bs,c,h1,h2,h3=>by
  obtain⟨b,p,q⟩:=h2 e i9;unfold cov;intro z;have:=mX.mp z b (k8.mpr ⟨h1 b p,q⟩);refine cov_all (c:=c.erase b) (λ b' hb=>h1 b' (List.mem_of_mem_erase hb)) (λ e' he=>?_) ?_ this
  ·obtain⟨he1,he2⟩:=k8.mp he;obtain⟨b',p',q'⟩:=h2 e' he1;have hne:b'≠b:=λ z=>by rw[z]at q';rw[q']at he2;cases he2
   exact⟨b',(List.mem_erase_of_ne hne).mpr p',q'⟩
  ·have:=iO p;omega
def cov_least[DecidableEq β](q:cov h m es bs=some c)(l:∀k<m,cov h k es bs=none):c.length=m:=by
 obtain⟨d,b,a⟩:=cov_ok h q;rcases bY a with z | z
 ·exact absurd (l _ z) (cov_all h d b (f6 _))
 ·exact z
end cv
end
noncomputable section
namespace rk
def sm(f:Nat->Int):Nat->Int
 | 0=>0
 | n+1=>sm f n+f n
theorem z0:∀{n:Nat},(∀i,i<n->f i=g i)->sm f n=sm g n
 | 0,_=>rfl
 | n+1,h=>by show sm f n+f n=sm g n+g n;rw[z0 (λ i hi=>h i KE),h n KE]
theorem dR:∀{n:Nat} {f:Nat->Int},(∀i,i<n->f i=0)->sm f n=0
 | 0,_,_=>rfl
 | n+1,f,h=>by show sm f n+f n=0;rw[dR (λ i hi=>h i KE),h n KE];rfl
theorem J4(a:Int)(f:Nat->Int):∀n,sm (λ i=>a*f i) n=a*sm f n
 | 0=>by show(0:Int)=a*0;rw[Y5]
 | n+1=>by show sm _ n+a*f n=a*(sm f n+f n);rw[J4 a f n,Int.mul_add]
theorem mY(f g:Nat->Int):∀n,sm (λ i=>f i+g i) n=sm f n+sm g n
 | 0=>rfl
 | n+1=>by show sm _ n+(f n+g n)=(sm f n+f n)+(sm g n+g n);rw[mY f g n];omega
theorem gM(f g:Nat->Int):∀n,sm (λ i=>f i - g i) n=sm f n - sm g n
 | 0=>rfl
 | n+1=>by show sm _ n+(f n - g n)=(sm f n+f n) - (sm g n+g n);rw[gM f g n];omega
theorem ux(f:Nat->Nat->Int)(m:Nat):∀n,sm (λ i=>sm (f i) m) n=sm (λ j=>sm (λ i=>f i j) n) m
 | 0=>by symm;exact dR λ _ _=>rfl
 | n+1=>by show sm _ n+sm (f n) m=sm (λ j=>sm _ n+f n j) m;rw[ux f m n,mY _ _]
def sk(p i:Nat):Nat:=if i<p then i else i+1
def usk(p i:Nat):Nat:=if i<p then i else i - 1
def uy(p i:Nat):sk p i≠p:=by unfold sk;split<;>omega
def uz(p i:Nat):usk p (sk p i)=i:=by
 unfold usk sk;by_cases h:i<p
 ·rw[d6 h,d6 h]
 ·rw[e7 h,e7 KE];omega
def Iw(h:i<r):sk p i<r+1:=by unfold sk;split<;>omega
theorem uA(f:Nat->Int)(p:Nat):∀r,p<=r->sm f (r+1)=f p+sm (λ i=>f (sk p i)) r
 | 0,h=>by
  have:p=0:=by omega
  subst this;show 0+f 0=f 0+0;omega
 | r+1,h=>by
  show sm f (r+1)+f (r+1)=f p+(sm _ r+f _);by_cases q:p=r+1
  ·subst q;have e:sm (λ i=>f (sk (r+1) i)) r=sm f r:=z0 λ i hi=>by show f _=f i;unfold sk;rw[d6 KE]
   have a:sk (r+1) r=r:=by unfold sk;rw[d6 KE]
   rw[e,a];show sm f r+f r+f (r+1)=_;omega
  ·have a:sk p r=r+1:=by unfold sk;rw[e7 KE]
   rw[uA f p r KE,a];omega
theorem dep:∀(k r:Nat) (A:Nat->Nat->Int),k<r->∃c:Nat->Int,(∃i,i<r/\c i≠0)/\∀j,j<k->sm (λ i=>c i*A i j) r=0
 | 0,r,A,h=>⟨λ _=>1,⟨0,h,by decide⟩,λ j d=>absurd d (Q4 j)⟩
 | k+1,r,A,h=>by
  by_cases q:∃p,p<r/\A p k≠0
  ·obtain⟨p,hp,l⟩:=q;obtain⟨a,rfl⟩:∃a,r=a+1:=⟨r - 1,by omega⟩;obtain⟨c,⟨i,f,g⟩,hs⟩:=dep k a _ KE;have b:∀j,sm (λ i=>(if i=p then -(sm (λ i=>c i*A (sk p i) k) a)else A p k*c (usk p i))*A i j) (a+1)=sm (λ i=>c i*(A p k*A (sk p i) j - A (sk p i) k*A p j)) a:=λ j=>by
    rw[uA _ p a KE];rw[d6 rfl];have e:∀i,(if sk p i=p then -(sm (λ i=>c i*A (sk p i) k) a)else A p k*c (usk p (sk p i)))=A p k*c i:=λ i=>by rw[e7 (uy p i),uz]
    rw[show(λ i=>(if sk p i=p then -(sm (λ i=>c i*A (sk p i) k) a)else A p k*c (usk p (sk p i)))*A (sk p i) j)=λ i=>A p k*c i*A _ j from funext λ i=>by rw[e i]];rw[show(λ i=>c i*(A p k*A (sk p i) j - A (sk p i) k*A p j))=λ i=>A p k*c i*A _ j - A p j*(c i*A (sk p i) k)from funext λ i=>by
     rw[Y7]
     congr 1
     ·rw[←G7,B9 (c i)]
     ·rw[←G7,B9]]
    rw[gM _ _,J4 _ _,Int.neg_mul,B9 _ _];omega
   refine⟨λ i=>if i=p then -(sm (λ i=>c i*A (sk p i) k) a)else A p k*c (usk p i),⟨sk p i,Iw f,?_⟩,λ j d=>?_⟩
   ·show(if sk p i=p then _ else A p k*c (usk p (sk p i)))≠0;rw[e7 (uy p i),uz];exact Int.mul_ne_zero l g
   ·rw[b j];by_cases z:j<k
    ·exact hs j z
    ·have:j=k:=by omega
     subst this;exact dR λ i _=>by show c i*_=0;rw[B9 (A p j),Int.sub_self,Y5]
  ·obtain⟨c,g,hs⟩:=dep k r A KE;refine⟨c,g,λ j d=>?_⟩;by_cases z:j<k
   ·exact hs j z
   ·have:j=k:=by omega
    subst this;exact dR λ i f=>by have:=iL λ n=>q ⟨i,f,n⟩;show c i*A i j=0;rw[this,Y5]
theorem uB(r k:Nat)(A:Nat->Nat->Int):∀(n:Nat) (c:Nat->Int) (i:Nat),i<r->c i≠0->(c i).natAbs<=n->(∀j,j<k->sm (λ i=>c i*A i j) r=0)->∃c:Nat->Int,(∃i,i<r/\c i%2=1)/\∀j,j<k->sm (λ i=>c i*A i j) r=0
 | 0,c,i,a,b,f,hs=>absurd (Int.natAbs_eq_zero.mp KE) b
 | n+1,c,i,a,b,f,hs=>by
  by_cases q:∃i,i<r/\c i%2=1
  ·exact⟨c,q,hs⟩
  ·have d:∀i,i<r->c i=2*(c i/2):=λ i a=>by
    have:¬c i%2=1:=λ z=>q ⟨i,a,z⟩;omega
   refine uB r k A n (λ i=>c i/2) i a ?_ ?_ λ j g=>?_
   ·have:=d i a;intro z;rw[z]at this;exact b KE
   ·have:=d i a;show(c i/2).natAbs<=n;omega
   ·have e:sm (λ i=>c i*A i j) r=2*sm (λ i=>c i/2*A i j) r:=by
     rw[←J4 2 _];exact z0 λ i a=>by show c i*A i j=2*_;rw[←G7,←d i a]
    have:=hs j g;rw[e]at this;show sm _ r=0;omega
def Ix(A:Nat->Nat->Int)(h:k<r):∃c:Nat->Int,(∃i,i<r/\c i%2=1)/\∀j,j<k->sm (λ i=>c i*A i j) r=0:=by
 obtain⟨c,⟨i,a,b⟩,hs⟩:=dep k r A h;exact uB r k A _ c i a b (f6 _) hs
structure Pr(P:Int->Prop):Prop where
 zero:P 0
 add:∀{a b},P a->P b->P (a+b)
 mul:∀c {a},P a->P (c*a)
 prime:∀{a b},P (a*b)->P a\/P b
 one:¬P 1
 dep:∀(k r:Nat) (A:Nat->Nat->Int),k<r->∃c:Nat->Int,(∃i,i<r/\¬P (c i))/\∀j,j<k->P (sm (λ i=>c i*A i j) r)
def P0(a:Int):Prop:=a=0
def P2(a:Int):Prop:=a%2=0
def pr0:Pr P0 where
 zero:=rfl
 add:=λ h g=>by show _=_;rw[show _=(0:Int)from h,show _=(0:Int)from g];rfl
 mul:=λ c a h=>by show c*a=0;rw[show a=0 from h,Y5]
 prime:=λ h=>Int.mul_eq_zero.mp h
 one:=by intro h;cases h
 dep:=λ k r A h=>by obtain⟨c,⟨i,b,d⟩,hs⟩:=rk.dep k r A h;exact⟨c,⟨i,b,d⟩,hs⟩
def pr2:Pr P2 where
 zero:=rfl
 add:=λ {a b} h g=>by have d:a%2=0:=h;have g':b%2=0:=g;show(a+b)%2=0;omega
 mul:=λ c {a} h=>by show c*a%2=0;rw[ke,show a%2=0 from h,Y5];rfl
 prime:=λ {a b} h=>by
  have d:a*b%2=0:=h;rw[ke]at d;rcases fb a with p | p
  ·exact .inl p
  ·rcases fb b with q | q
   ·exact .inr q
   ·rw[p,q]at d;cases d
 one:=by intro h;cases h
 dep:=λ k r A h=>by
  obtain⟨c,⟨i,l,hc⟩,hs⟩:=Ix A h;refine⟨c,⟨i,l,λ z=>?_⟩,λ j f=>?_⟩
  ·have z':c i%2=0:=z;omega
  ·show _%2=0;rw[hs j f];rfl
section
variable {P:Int->Prop} (R:Pr P)
include R
theorem Pr.neg(h:P a):P (-a):=by have:=R.mul (-1) h;rw[Int.neg_mul,R4]at this;exact this
theorem Pr.sub(h:P a)(g:P b):P (a - b):=by rw[Int.sub_eq_add_neg];exact R.add h (R.neg g)
theorem Pr.sum(h:∀i,i<n->P (f i)):P (sm f n):=by
 induction n with
 | zero=>exact R.zero
 | succ n a=>exact R.add (a λ i hi=>h i KE) (h n KE)
end
def Ind(P:Int->Prop)(v:Nat->Nat->Int)(n m:Nat):Prop:=∀c:Nat->Int,(∀j,j<m->P (sm (λ i=>c i*v i j) n))->∀i,i<n->P (c i)
def InSp(P:Int->Prop)(w:Nat->Nat->Int)(k m:Nat)(x:Nat->Int):Prop:=∃(d:Int) (a:Nat->Int),¬P d/\∀j,j<m->P (d*x j - sm (λ s=>a s*w s j) k)
section
variable {P:Int->Prop} (R:Pr P)
include R
theorem exch(hv:Ind P v c m)(hw:∀i,i<c->InSp P w k m (v i)):c<=k:=by
 refine U3 λ lt=>?_;have p:∀i,∃l:Int×(Nat->Int),i<c->¬P l.1/\∀j,j<m->P (l.1*v i j - sm (λ s=>l.2 s*w s j) k):=λ i=>by
  by_cases h:i<c
  ·obtain⟨d,a,q⟩:=hw i h;exact⟨(d,a),λ _=>q⟩
  ·exact⟨(0,λ _=>0),λ z=>absurd z h⟩
 obtain⟨l,n⟩:=pq p;obtain⟨d,hd⟩:∃d:Nat->Int,d=λ i=>(l i).1:=Nb
 obtain⟨a,y⟩:∃a:Nat->Nat->Int,a=λ i=>(l i).2:=Nb
 have o:∀i,i<c->¬P (d i)/\∀j,j<m->P (d i*v i j - sm (λ s=>a i s*w s j) k):=λ i g=>by rw[hd,y];exact n i g
 obtain⟨z,⟨i,g,u⟩,hs⟩:=R.dep k c _ lt;have q:=hv (λ i=>z i*d i) (λ j x=>?_) i g
 ·rcases R.prime q with q | q
  ·exact u q
  ·exact(o i g).1 q
 ·have e:sm (λ i=>z i*d i*v i j) c=sm (λ i=>z i*(d i*v i j - sm (λ s=>a i s*w s j) k)) c+sm (λ s=>w s j*sm (λ i=>z i*a i s) c) k:=by
   have A:sm (λ s=>w s j*sm (λ i=>z i*a i s) c) k=sm (λ i=>z i*sm (λ s=>a i s*w s j) k) c:=by
    rw[z0 (λ s _=>(J4 (w s j) (λ i=>z i*a i s) c).symm)];rw[z0 (λ i _=>(J4 (z i) (λ s=>a i s*w s j) k).symm)];rw[ux _ k c];refine z0 λ s _=>z0 λ i _=>?_
    rw[B9 _,G7]
   rw[A,←mY];refine z0 λ i _=>?_
   rw[Y7,Int.sub_add_cancel,G7]
  show P _;rw[e];exact R.add (R.sum λ i g=>R.mul _ ((o i g).2 j x)) (R.sum λ s r=>R.mul _ (hs s r))
end
abbrev Rw:=Nat->Int
noncomputable def comb:on Int->on Rw->Rw
 | a::z,r::rs=>λ c=>a*r c+comb z rs c
 | _,_=>λ _=>0
section
variable {P:Int->Prop} (R:Pr P)
include R
end
def elim(c:Nat)(x y:Rw):Rw:=λ d=>x c*y d + -(y c)*x d
section
variable {P:Int->Prop} (R:Pr P)
include R
end
noncomputable def stz(q:Nat×Rw)(x:Rw):Rw:=λ j=>x j*q.2 q.1 - x q.1*q.2 j
def rz(K:on (Nat×Rw))(x:Rw):Rw:=K.foldl (λ x q=>stz q x) x
def Iy(q:Nat×Rw)(K:on (Nat×Rw))(x:Rw):rz (q::K) x=rz K (stz q x):=rfl
def uC(q:Nat×Rw)(K:on (Nat×Rw))(x:Rw):rz (K++[q]) x=stz q (rz K x):=by unfold rz;rw[jq];rfl
def Iz(q:Nat×Rw)(c:Nat->Int)(v:Nat->Rw)(n:Nat):stz q (λ j=>sm (λ i=>c i*v i j) n)=λ j=>sm (λ i=>c i*stz q (v i) j) n:=by
 funext j
 show sm _ n*q.2 q.1 - sm _ n*q.2 j=sm (λ i=>c i*(v i j*q.2 q.1 - v i q.1*q.2 j)) n;rw[B9,←J4 _ _,B9 _,←J4 _ _,←gM];refine z0 λ i _=>?_
 rw[Y7,Int.mul_left_comm,B9 (q.2 q.1),Int.mul_left_comm (q.2 j),B9 (q.2 j)]
def IA(K:on (Nat×Rw)):∀(c:Nat->Int) (v:Nat->Rw) (n:Nat),rz K (λ j=>sm (λ i=>c i*v i j) n)=λ j=>sm (λ i=>c i*rz K (v i) j) n:=by
 induction K with
 | nil=>intro c v n;rfl
 | cons q K a=>
  intro c v n;rw[Iy,Iz,a];rfl
def Nil(m:Nat)(x:Rw):Prop:=∀j,j<m->x j=0
def uD(a:q.1<m)(h:Nil m x):Nil m (stz q x):=λ j b=>by
 show x j*_ - x q.1*_=0;rw[h j b,h q.1 a,aF,aF];rfl
def IB:Nil m (stz q q.2):=λ j _=>by
 show q.2 j*q.2 q.1 - q.2 q.1*q.2 j=0;rw[B9,Int.sub_self]
noncomputable def ld(m:Nat)(x:Rw):Nat:=((ML m).find? λ j=>decide (x j≠0)).getD 0
def ld_ok(h:¬Nil m x):ld m x<m/\x (ld m x)≠0:=by
 cases q:(ML m).find? λ j=>decide (x j≠0)with
 | none=>
  refine absurd (λ j a=>?_) h;have:=List.find?_eq_none.mp q j (i7.mpr a);simpa using this
 | some j=>
  have e:ld m x=j:=by unfold ld;rw[q];rfl
  rw[e];refine⟨i7.mp (oV q),?_⟩;have:=List.find?_some q;simpa using this
instance (m:Nat) (x:Rw):Decidable (Nil m x):=inferInstanceAs (Decidable (∀j,j<m->x j=0))
def kz(v:Nat->Rw)(m:Nat):Nat->on (Nat×(Nat×Rw))
 | 0=>[]
 | n+1=>
  let y:=rz ((kz v m n).map (·.2)) (v n)
  if Nil m y then kz v m n else kz v m n++[(n,(ld m y,y))]
def rkz(v:Nat->Rw)(m n:Nat)(x:Rw):Rw:=rz ((kz v m n).map (·.2)) x
def bz(v:Nat->Rw)(m n:Nat):on Nat:=(kz v m n).map (·.1)
def kz_succ(v:Nat->Rw)(m n:Nat):kz v m (n+1)=if Nil m (rkz v m n (v n))then kz v m n else kz v m n++[(n,(ld m (rkz v m n (v n)),rkz v m n (v n)))]:=rfl
def gN(v:Nat->Rw)(m n:Nat):bz v m (n+1)=if Nil m (rkz v m n (v n))then bz v m n else bz v m n++[n]:=by
 unfold bz;rw[kz_succ];split
 ·rfl
 ·rw[o7];rfl
structure Kz(v:Nat->Rw)(m n:Nat):Prop where
 ld:∀q∈kz v m n,q.2.1<m/\q.2.2 q.2.1≠0
 all:∀i,i<n->Nil m (rkz v m n (v i))
 lt:∀i∈bz v m n,i<n
 up:(Nj).Pairwise (· < ·)
theorem dU(v:Nat->Rw)(m:Nat):∀n,Kz v m n
 | 0=>⟨λ q h=>absurd h (by simp[kz]),λ i h=>absurd h (Q4 i),λ i h=>absurd h (by simp[bz,kz]),.nil⟩
 | n+1=>by
  have I:=dU v m n;by_cases z:Nil m (rkz v m n (v n))
  ·have e:kz v m (n+1)=kz v m n:=by rw[kz_succ,d6 z]
   have d:bz v m (n+1)=bz v m n:=by unfold bz;rw[e]
   have f:∀x,rkz v m (n+1) x=rkz v m n x:=λ x=>by unfold rkz;rw[e]
   refine⟨by rw[e];exact I.ld,λ i c=>?_,λ i c=>?_,by rw[d];exact I.up⟩
   ·rw[f];by_cases q:i<n
    ·exact I.all i q
    ·have:i=n:=by omega
     subst this;exact z
   ·rw[d]at c;have:=I.lt i c;omega
  ·have e:kz v m (n+1)=kz v m n++[(n,(rk.ld m (rkz v m n (v n)),rkz v m n (v n)))]:=by rw[kz_succ,e7 z]
   have d:bz v m (n+1)=bz v m n++[n]:=by rw[gN,e7 z]
   have f:∀x,rkz v m (n+1) x=stz _ _:=λ x=>by unfold rkz;rw[e,o7];exact uC ..
   refine⟨λ q g=>?_,λ i c=>?_,λ i c=>?_,?_⟩
   ·rw[e]at g;rcases x3.mp g with w | w
    ·exact I.ld q w
    ·have:=s9.mp w;subst this;exact ld_ok z
   ·rw[f];by_cases q:i<n
    ·exact uD (ld_ok z).1 (I.all i q)
    ·have:i=n:=by omega
     subst this;exact IB
   ·rw[d]at c;rcases x3.mp c with w | w
    ·have:=I.lt i w;omega
    ·have:=s9.mp w;omega
   ·rw[d,au];exact⟨I.up,iS ..,λ a k b j=>by
     have:=s9.mp j;subst this;exact I.lt a k⟩
theorem uE(v:Nat->Rw)(m:Nat):∀n,Ind P0 (λ t=>v ((Nj).getD t 0)) (Nj).length m
 | 0=>λ c _ i l=>absurd l (Q4 i)
 | n+1=>by
  have I:=uE v m n;have K:=dU v m n;by_cases z:Nil m (rkz v m n (v n))
  ·rw[gN,d6 z];exact I
  ·rw[gN,e7 z];intro c hs;have u:∀t,t<(Nj).length->(bz v m n++[n]).getD t 0=(Nj).getD t 0:=λ t a=>by rw[i8,i8,P8 a]
   have l:(bz v m n++[n]).getD (Nj).length 0=n:=(by rw[i8,P7 (f6 _),fC];rfl);have f:=λ j d=>by have:=hs j d;rw[p7,L9]at this;have q:sm (λ t=>c t*v ((bz v m n++[n]).getD t 0) j) (Nj).length+c (Nj).length*v ((bz v m n++[n]).getD (Nj).length 0) j=0:=this;rw[l,z0 λ t a=>by rw[u t a]]at q;exact q
   have b:c (Nj).length=0:=by
    have F:Nil m (rkz v m n λ j=>sm (λ t=>c t*v (if t<(Nj).length then(Nj).getD t 0 else n) j) ((Nj).length+1)):=by
     have:Nil m (λ j=>sm (λ t=>c t*v (if t<(Nj).length then(Nj).getD t 0 else n) j) ((Nj).length+1)):=λ j d=>by show sm _ (Nj).length+c (Nj).length*v _ j=0;rw[e7 (J8 _),z0 λ t a=>by rw[d6 a]];exact f j d
     have o:∀(K:on (Nat×Rw)) (x:Rw),(∀q∈K,q.1<m)->Nil m x->Nil m (rz K x):=by
      intro K
      induction K with
      | nil=>intro x _ h;exact h
      | cons q K y=>intro x g h;exact y _ (λ r A=>g r (j5 _ A)) (uD (g q i9) h)
     exact o _ _ (λ q g=>by
      obtain⟨s,h1,rfl⟩:=g9.mp g;exact(K.ld s h1).1) this
    have E:=IA ((kz v m n).map (·.2)) c (λ t=>v (if t<(Nj).length then(Nj).getD t 0 else n)) ((Nj).length+1);have C:=λ j d=>by
     have:=F j d;unfold rkz at this;rw[E]at this;have q:sm (λ t=>c t*rz ((kz v m n).map (·.2)) (v (if t<(Nj).length then(Nj).getD t 0 else n)) j) (Nj).length+c (Nj).length*rz ((kz v m n).map (·.2)) (v (if(Nj).length<(Nj).length then(Nj).getD (Nj).length 0 else n)) j=0:=this;rw[e7 (J8 _),dR λ t a=>?_,fE]at q
     ·exact q
     ·rw[d6 a];have B:(Nj).getD t 0∈bz v m n:=by rw[i8,i6 a];exact E4 a
      have:=K.all _ (K.lt _ B) j d;unfold rkz at this;rw[this,Y5]
    have p:=ld_ok z;rcases Int.mul_eq_zero.mp (C _ p.1)with w | w
    ·exact w
    ·exact absurd w p.2
   intro i k;rw[p7,L9]at k;by_cases q:i<(Nj).length
   ·refine I c (λ j d=>?_) i q;have:=f j d;rw[b,aF,Int.add_zero]at this;exact this
   ·have:i=(Nj).length:=by omega
    rw[this];exact b
def uF(a:t<l.length):(l++[n]).getD t 0=l.getD t 0:=by
 rw[i8,i8,P8 a]
def uG:(l++[n]).getD l.length 0=n:=by
 rw[i8,P7 (f6 _),fC];rfl
def IC(c:Nat->Int)(v:Nat->Rw)(j:Nat):sm (λ t=>c t*v ((l++[n]).getD t 0) j) (l++[n]).length=sm (λ t=>c t*v (l.getD t 0) j) l.length+c l.length*v n j:=by
 rw[p7,L9];show sm _ l.length+c l.length*v _ j=_;rw[uG,z0 λ t a=>by rw[uF a]]
theorem gO(v:Nat->Rw)(m:Nat):∀(n:Nat) (x:Rw),∃(D:Int) (b:Nat->Int),D≠0/\∀j,rkz v m n x j=D*x j - sm (λ t=>b t*v ((Nj).getD t 0) j) (Nj).length
 | 0,x=>⟨1,λ _=>0,by decide,λ j=>by show x j=1*x j - 0;omega⟩
 | n+1,x=>by
  by_cases z:Nil m (rkz v m n (v n))
  ·have e:kz v m (n+1)=kz v m n:=by rw[kz_succ,d6 z]
   obtain⟨D,b,f,h⟩:=gO v m n x;refine⟨D,b,f,λ j=>?_⟩;unfold rkz bz;rw[e];exact h j
  ·have e:kz v m (n+1)=kz v m n++[(n,(rk.ld m (rkz v m n (v n)),rkz v m n (v n)))]:=by rw[kz_succ,e7 z]
   have i:rkz v m (n+1) x=stz (rk.ld m (rkz v m n (v n)),rkz v m n (v n)) (rkz v m n x):=by unfold rkz;rw[e,o7];exact uC ..
   obtain⟨D,b,f,h⟩:=gO v m n x;obtain⟨l,a,u,w⟩:=gO v m n (v n);obtain⟨p,q⟩:∃p,rk.ld m (rkz v m n (v n))=p:=Nb;have c:=(ld_ok z).2;rw[q]at i c;obtain⟨Y,g⟩:∃Y,rkz v m n (v n) p=Y:=Nb;obtain⟨U,r⟩:∃U,rkz v m n x p=U:=Nb;rw[g]at c;refine⟨Y*D,λ t=>if t<(Nj).length then Y*b t - U*a t else U*l,Int.mul_ne_zero c f,λ j=>?_⟩;rw[i];show rkz v m n x j*rkz v m n (v n) p - rkz v m n x p*rkz v m n (v n) j=_;rw[g,r,h j,w j,gN,e7 z,IC,e7 (J8 _)];have y:sm (λ t=>(if t<(Nj).length then Y*b t - U*a t else U*l)*v ((Nj).getD t 0) j) (Nj).length=Y*sm (λ t=>b t*v ((Nj).getD t 0) j) (Nj).length - U*sm (λ t=>a t*v ((Nj).getD t 0) j) (Nj).length:=by
    rw[←J4 Y _,←J4 U _,←gM];exact z0 λ t o=>by rw[d6 o,Int.sub_mul,G7,G7]
   rw[y];obtain⟨S,s⟩:∃S,sm (λ t=>b t*v ((Nj).getD t 0) j) (Nj).length=S:=Nb;obtain⟨k,d⟩:∃k,sm (λ t=>a t*v ((Nj).getD t 0) j) (Nj).length=k:=Nb;rw[s,d,Int.sub_mul,Y7,B9 (D*x j),B9 S,←G7,←G7 U];omega
def ID(v:Nat->Rw)(m n i:Nat)(c:i<n):InSp P0 (λ s=>v ((Nj).getD s 0)) (Nj).length m (v i):=by
 obtain⟨D,b,d,h⟩:=gO v m n (v i);exact⟨D,b,d,λ j a=>by rw[←h j];exact(dU v m n).all i c j a⟩
structure Bas(P:Int->Prop)(v:Nat->Rw)(n m:Nat)(b:List Nat):Prop where
 lt:∀i∈b,i<n
 up:b.Pairwise (· < ·)
 ind:Ind P (λ t=>v (b.getD t 0)) b.length m
 sp:∀i,i<n->InSp P (λ s=>v (b.getD s 0)) b.length m (v i)
def bas0(v:Nat->Rw)(n m:Nat):Bas P0 v n m (bz v m n):=⟨(dU v m n).lt,(dU v m n).up,uE v m n,λ i a=>ID v m n i a⟩
section
variable {P:Int->Prop} (R:Pr P)
include R
theorem Bas.at(B:Bas P v n m b):∀t,t<b.length->b.getD t 0<n:=λ t a=>B.lt _ (by
 rw[i8,i6 a];exact E4 a)
end
abbrev N2:=Nat×Nat
def px(a b:N2):N2:=(a.1 ^^^ b.1,a.2 ^^^ b.2)
noncomputable def st(p:N2)(q:N2):N2:=if p.1.testBit q.1.log2 then px p q else p
def red(K:on N2)(p:N2):N2:=K.foldl st p
def IE(a:N2):px a (0,0)=a:=by unfold px;rw[Y6,Y6]
def uH(a b:N2):px a b=px b a:=by unfold px;rw[aG a.1,aG a.2]
def bv(a b c:N2):px (px a b) c=px a (px b c):=by unfold px;simp only[Q7]
def IF(a:N2):px a a=(0,0):=by unfold px;rw[aH,aH]
def IG(a b q:N2):st (px a b) q=px (st a q) (st b q):=by
 have t:(px a b).1.testBit q.1.log2=_:=U5 ..;unfold st;rw[t];cases a.1.testBit q.1.log2<;>cases b.1.testBit q.1.log2
 ·rfl
 ·exact bv a b q
 ·show px _ q=px (px a q) b;rw[bv,uH b q,←bv]
 ·show px a b=px (px a q) (px b q);rw[bv,←bv q b q,uH q b,bv b q q,IF,IE]
def IH(K:on N2):∀a b:N2,red K (px a b)=px (red K a) (red K b):=by
 induction K with
 | nil=>intro a b;rfl
 | cons q K c=>
  intro a b;show red K _=px (red K _) (red K _);rw[IG,c]
def uI(t:Nat)(q:N2):st (0,t) q=(0,t):=by
 unfold st;rw[e7];show ¬_;rw[M1];decide
def uJ(K:on N2)(t:Nat):red K (0,t)=(0,t):=by
 induction K with
 | nil=>rfl
 | cons q K a=>show red K _=_;rw[uI,a]
def II(K:on N2)(q:N2)(p:N2):red (K++[q]) p=st (red K p) q:=by
 unfold red;rw[jq];rfl
noncomputable def xo(L:Nat->Nat)(m:Nat):Nat->Nat
 | 0=>0
 | n+1=>if m.testBit n then xo L m n ^^^ L n else xo L m n
theorem dW(L:Nat->Nat):∀n,xo L 0 n=0
 | 0=>rfl
 | n+1=>by unfold xo;rw[M1,e7 MG,dW L n]
theorem dX(L:Nat->Nat)(a b:Nat):∀n,xo L (a ^^^ b) n=xo L a n ^^^ xo L b n
 | 0=>by show 0=0 ^^^ 0;rw[Y6]
 | n+1=>by
  unfold xo;rw[U5,dX L a b n];cases a.testBit n<;>cases b.testBit n
  ·rfl
  ·show(xo L a n ^^^ xo L b n) ^^^ L n=xo L a n ^^^ (xo L b n ^^^ L n);rw[Q7]
  ·show(xo L a n ^^^ xo L b n) ^^^ L n=(xo L a n ^^^ L n) ^^^ xo L b n;rw[Q7,aG (xo L b n),←Q7]
  ·show xo L a n ^^^ xo L b n=(xo L a n ^^^ L n) ^^^ (xo L b n ^^^ L n);rw[Q7,aG _ (L n),←Q7 (L n),aH,cC]
def bit1(i j:Nat):(1<<<i).testBit j=decide (i=j):=by
 rw[Nat.one_shiftLeft,jc]
theorem gP(L:Nat->Nat)(i:Nat):∀n,xo L (1<<<i) n=if i<n then L i else 0
 | 0=>rfl
 | n+1=>by
  unfold xo;rw[bit1,gP L i n];by_cases h:i=n
  ·subst h;rw[d6 MP,e7 KE,d6 KE,cC]
  ·rw[e7 (by simp[h])];by_cases q:i<n
   ·rw[d6 q,d6 KE]
   ·rw[e7 q,e7 KE]
def kp(L:Nat->Nat):Nat->on (Nat×N2)
 | 0=>[]
 | n+1=>
  let p:=red ((kp L n).map (·.2)) (L n,0)
  if p.1=0 then kp L n else kp L n++[(n,(p.1,p.2 ||| 1<<<n))]
def rk(L:Nat->Nat)(n:Nat)(p:N2):N2:=red ((kp L n).map (·.2)) p
def bs(L:Nat->Nat)(n:Nat):on Nat:=(kp L n).map (·.1)
def kp_succ(L:Nat->Nat)(n:Nat):kp L (n+1)=if(rk L n (L n,0)).1=0 then kp L n else kp L n++[(n,((rk L n (L n,0)).1,(rk L n (L n,0)).2 ||| 1<<<n))]:=rfl
def IJ(h:r≠0):r.testBit r.log2=true:=by
 rw[oN,E2];have h1:=Nat.log2_self_le h;have h2:=Nat.lt_log2_self (n:=r);have:r/2^r.log2=1:=by refine Nat.div_eq_of_lt_le KE ?_;rw[Q9]at h2;omega
 rw[this]
def IK(h:a.testBit i=false):a ^^^ (a ||| 1<<<i)=1<<<i:=by
 apply eS;intro j;rw[U5,jP,bit1];by_cases q:i=j
 ·subst q;rw[h];simp
 ·simp[q]
structure Kp(L:Nat->Nat)(n N:Nat):Prop where
 bs:∀i∈bs L n,i<n/\rk L n (L i,0)=(0,1<<<i)
 all:∀i,i<n->(rk L n (L i,0)).1=0
 sub:∀i j,i<n->(rk L n (L i,0)).2.testBit j=true->j<=i/\j∈rk.bs L n
 mak:∀q∈kp L n,q.2.1=xo L q.2.2 N/\(∀j,q.2.2.testBit j=true->j<=q.1/\j∈rk.bs L n)/\q.1<n
def uK(L:Nat->Nat)(N:Nat):∀(K:on N2) (p:N2),(∀q∈K,q.1=xo L q.2 N)->(red K p).1 ^^^ xo L (red K p).2 N=p.1 ^^^ xo L p.2 N:=by
 intro K
 induction K with
 | nil=>intro p _;rfl
 | cons q K b=>
  intro p h;show(red K _).1 ^^^ xo L (red K _).2 N=_;rw[b _ (λ a c=>h a (j5 _ c))];unfold st;split
  ·show(p.1 ^^^ q.1) ^^^ xo L (p.2 ^^^ q.2) N=_;rw[dX,h q i9,Q7,aG (xo L p.2 N),←Q7 (xo L q.2 N),aH,cC]
  ·rfl
def IL(P:Nat->Prop):∀(K:on N2) (p:N2),(∀q∈K,∀j,q.2.testBit j=true->P j)->(∀j,p.2.testBit j=true->P j)->∀j,(red K p).2.testBit j=true->P j:=by
 intro K
 induction K with
 | nil=>intro p _ h;exact h
 | cons q K f=>
  intro p h c;refine f _ (λ d g=>h d (j5 _ g)) λ j b=>?_
  unfold st at b;split at b
  ·have e:(px p q).2.testBit j=_:=U5 ..;rw[e]at b;cases a:p.2.testBit j with
   | true=>exact c j a
   | false=>
    rw[a,Bool.false_xor]at b;exact h q i9 j b
  ·exact c j b
def mZ(L:Nat->Nat)(n j:Nat)(h:j∈bs L n):j∈bs L (n+1):=by
 unfold bs at h ⊢;rw[kp_succ];split
 ·exact h
 ·rw[o7];exact w6 _ h
theorem gQ(L:Nat->Nat)(N:Nat):∀n,n<=N->Kp L n N
 | 0,_=>⟨λ i h=>absurd h (by simp[bs,kp]),λ i h=>absurd h (Q4 i),λ i j h=>absurd h (Q4 i),λ q h=>absurd h (by simp[kp])⟩
 | n+1,hN=>by
  have I:=gQ L N n KE;have sub:∀j,(rk L n (L n,0)).2.testBit j=true->j<n/\j∈bs L n:=by
   intro j c;refine IL (λ j=>j<n/\j∈bs L n) _ (L n,0) (λ q k j c=>?_) (λ j c=>?_) j c
   ·obtain⟨o,h1,rfl⟩:=g9.mp k;obtain⟨_,h2,y⟩:=I.mak o h1;have:=h2 j c;exact⟨by omega,this.2⟩
   ·rw[M1]at c;cases c
  have v:=uK L N _ (L n,0) (λ q k=>by
   obtain⟨o,h1,rfl⟩:=g9.mp k;exact(I.mak o h1).1)
  have m:(rk L n (L n,0)).1 ^^^ xo L (rk L n (L n,0)).2 N=L n:=(by have:(rk L n (L n,0)).1 ^^^ xo L (rk L n (L n,0)).2 N=L n ^^^ xo L 0 N:=v;rw[this,dW,Y6]);by_cases z:(rk L n (L n,0)).1=0
  ·have e:kp L (n+1)=kp L n:=by rw[kp_succ,d6 z]
   have u:∀p,rk L (n+1) p=rk L n p:=λ p=>by unfold rk;rw[e]
   have s:bs L (n+1)=bs L n:=by unfold bs;rw[e]
   refine⟨λ i f=>?_,λ i f=>?_,λ i j f c=>?_,λ q k=>?_⟩
   ·rw[s]at f;rw[u];exact⟨by have:=(I.bs i f).1;omega,(I.bs i f).2⟩
   ·rw[u];by_cases q:i<n
    ·exact I.all i q
    ·have:i=n:=by omega
     subst this;exact z
   ·rw[u]at c;rw[s];by_cases q:i<n
    ·exact I.sub i j q c
    ·have:i=n:=by omega
     subst this;have:=sub j c;exact⟨by omega,this.2⟩
   ·rw[e]at k;rw[s];obtain⟨h1,h2,y⟩:=I.mak q k;exact⟨h1,h2,by omega⟩
  ·obtain⟨l,g,w⟩:∃l g,rk L n (L n,0)=(l,g):=⟨_,_,rfl⟩;rw[w]at z sub m;have e:kp L (n+1)=kp L n++[(n,(l,g ||| 1<<<n))]:=by rw[kp_succ,w,e7 z]
   have u:∀p,rk L (n+1) p=st (rk L n p) (l,g ||| 1<<<n):=λ p=>by unfold rk;rw[e,o7];exact II ..
   have s:bs L (n+1)=bs L n++[n]:=by unfold bs;rw[e,o7];rfl
   have new:rk L (n+1) (L n,0)=(0,1<<<n):=by
    rw[u,w];unfold st;rw[d6 (IJ z)];show(l ^^^ l,g ^^^ (g ||| 1<<<n))=_;rw[aH,IK];cases q:g.testBit n with
    | false=>rfl
    | true=>have:=(sub n q).1;omega
   have r:∀i,i<n->rk L (n+1) (L i,0)=rk L n (L i,0):=λ i f=>by rw[u];have:=I.all i f;obtain⟨a,b,x⟩:∃a b,rk L n (L i,0)=(a,b):=⟨_,_,rfl⟩;rw[x]at this ⊢;have:a=0:=this;subst this;exact uI ..
   refine⟨λ i f=>?_,λ i f=>?_,λ i j f c=>?_,λ q k=>?_⟩
   ·rw[s]at f;rcases x3.mp f with q | q
    ·have:=I.bs i q;rw[r i this.1];exact⟨by omega,this.2⟩
    ·have:=s9.mp q;subst this;exact⟨by omega,new⟩
   ·by_cases q:i<n
    ·rw[r i q];exact I.all i q
    ·have:i=n:=by omega
     subst this;rw[new]
   ·by_cases q:i<n
    ·rw[r i q]at c;have:=I.sub i j q c;exact⟨this.1,mZ L n j this.2⟩
    ·have:i=n:=by omega
     subst this;rw[new]at c;have d:=c;rw[bit1,E2]at d;subst d;exact⟨f6 _,by rw[s];exact t8 _ (s9.mpr rfl)⟩
   ·rw[e]at k;rcases x3.mp k with o | o
    ·obtain⟨h1,h2,y⟩:=I.mak q o;exact⟨h1,λ j c=>⟨(h2 j c).1,mZ L n j (h2 j c).2⟩,by omega⟩
    ·have:=s9.mp o;subst this;refine⟨?_,λ j c=>?_,aB n⟩
     ·show l=xo L (g ||| 1<<<n) N;have A:g ||| 1<<<n=g ^^^ 1<<<n:=by
       apply eS;intro j;rw[U5,jP,bit1];by_cases q:n=j
       ·subst q;cases q:g.testBit n with
        | false=>simp
        | true=>have:=(sub n q).1;omega
       ·simp[q]
      rw[A,dX,gP,d6 KE,←m,aG l,←Q7,aH,cC]
     ·have d:=c;rw[jP,bit1]at d;by_cases q:n=j
      ·subst q;exact⟨f6 _,by rw[s];exact t8 _ (s9.mpr rfl)⟩
      ·rw[show decide (n=j)=false from o5 q,jS]at d;have:=sub j d;exact⟨by show j<=n;omega,mZ L n j this.2⟩
noncomputable def xb(f:Nat->Bool):Nat->Bool
 | 0=>false
 | n+1=>xb f n ^^ f n
theorem gR:∀{n:Nat},(∀i,i<n->f i=g i)->xb f n=xb g n
 | 0,_=>rfl
 | n+1,h=>by show(xb f n ^^ f n)=(xb g n ^^ g n);rw[gR (λ i hi=>h i KE),h n KE]
theorem nc:∀{n:Nat},(∀i,i<n->f i=false)->xb f n=false
 | 0,_=>rfl
 | n+1,h=>by show(xb f n ^^ f n)=false;rw[nc (λ i hi=>h i KE),h n KE];rfl
theorem uL:∀{n:Nat},t<n->f t=true->(∀i,i<n->i≠t->f i=false)->xb f n=true
 | 0,h,_,_=>absurd h (Q4 t)
 | n+1,h,b,a=>by
  show(xb f n ^^ f n)=true;by_cases q:t=n
  ·subst q;rw[nc (λ i c=>a i KE KE),b];rfl
  ·rw[uL KE b (λ i c ne=>a i KE ne),a n KE KE];rfl
theorem par(f:Nat->Int):∀n,decide (sm f n%2=1)=xb (λ i=>decide (f i%2=1)) n
 | 0=>rfl
 | n+1=>by
  show decide ((sm f n+f n)%2=1)=(xb _ n ^^ decide _);rw[←par f n];by_cases a:sm f n%2=1<;>by_cases b:f n%2=1
  ·rw[o6 a,o6 b,o5 KE];rfl
  ·rw[o6 a,o5 b,o6 KE];rfl
  ·rw[o5 a,o6 b,o6 KE];rfl
  ·rw[o5 a,o5 b,o5 KE];rfl
def uM(a b:Int):decide (a*b%2=1)=(decide (a%2=1)&&decide (b%2=1)):=by
 rcases fb a with p | p<;>rcases fb b with q | q<;>rw[(ke a b 2),p,q]<;>rfl
noncomputable def SS(z:Nat->Bool)(b:Nat->Nat):Nat->Nat
 | 0=>0
 | t+1=>if z t then SS z b t ^^^ 1<<<b t else SS z b t
theorem uN(z:Nat->Bool)(b:Nat->Nat)(i:Nat):∀c,(SS z b c).testBit i=xb (λ t=>z t&&decide (b t=i)) c
 | 0=>M1 i
 | c+1=>by
  show(if z c then SS z b c ^^^ 1<<<b c else SS z b c).testBit i=(xb _ c ^^ (z c&&decide _));rw[←uN z b i c];cases z c with
  | false=>show _=(_ ^^ false);rw[fq];rfl
  | true=>show(SS z b c ^^^ 1<<<b c).testBit i=_;rw[U5,bit1];rfl
theorem uO(L:Nat->Nat)(z:Nat->Bool)(b:Nat->Nat)(n j:Nat):∀c,(∀t,t<c->b t<n)->(xo L (SS z b c) n).testBit j=xb (λ t=>z t&&(L (b t)).testBit j) c
 | 0,_=>by show(xo L 0 n).testBit j=false;rw[dW,M1]
 | c+1,h=>by
  show(xo L (if z c then SS z b c ^^^ 1<<<b c else SS z b c) n).testBit j=(xb _ c ^^ (z c&&(L (b c)).testBit j));rw[←uO L z b n j c (λ t ht=>h t KE)];cases z c with
  | false=>show _=(_ ^^ false);rw[fq];rfl
  | true=>
   show(xo L (SS z b c ^^^ 1<<<b c) n).testBit j=_;rw[dX,gP,d6 (h c KE),U5];rfl
theorem uP(L:Nat->Nat)(n:Nat)(z:Nat->Bool)(b:Nat->Nat):∀c,(∀t,t<c->b t∈bs L n)->rk L n (xo L (SS z b c) n,0)=(0,SS z b c)
 | 0,_=>by show rk L n (xo L 0 n,0)=(0,0);rw[dW];exact uJ ..
 | c+1,h=>by
  have I:=uP L n z b c (λ t ht=>h t KE);show rk L n (xo L (if z c then SS z b c ^^^ 1<<<b c else SS z b c) n,0)=(0,if z c then SS z b c ^^^ 1<<<b c else SS z b c);cases z c with
  | false=>exact I
  | true=>
   show rk L n (xo L (SS z b c ^^^ 1<<<b c) n,0)=(0,SS z b c ^^^ 1<<<b c);have K:=(gQ L n n (f6 _)).bs (b c) (h c KE);rw[dX,gP,d6 K.1];have e:=IH ((kp L n).map (·.2)) (xo L (SS z b c) n,0) (L (b c),0);have a:px (xo L (SS z b c) n,0) (L (b c),0)=(xo L (SS z b c) n ^^^ L (b c),0):=by unfold px;rw[Y6]
   rw[a]at e;show red _ _=_;rw[e];show px (rk L n _) (rk L n (L (b c),0))=_;rw[I,K.2];show(0 ^^^ 0,_)=_;rw[Y6]
def bw(L:Nat->Nat)(n:Nat):∀i∈bs L n,i<n:=λ i h=>((gQ L n n (f6 _)).bs i h).1
theorem gS(L:Nat->Nat):∀n,(bs L n).Pairwise (· < ·)
 | 0=>.nil
 | n+1=>by
  have I:=gS L n;unfold bs at I ⊢;rw[kp_succ];split
  ·exact I
  ·rw[o7,au];refine⟨I,iS ..,λ a d b c=>?_⟩;have:=s9.mp c;subst this;exact bw L b a d
def IM{z:Nat->Bool}(l:∀i,i<n->L i<2^m)(g:∃t,t<(bs L n).length/\z t=true)(h:∀j,j<m->xb (λ t=>z t&&(L ((bs L n).getD t 0)).testBit j) (bs L n).length=false):False:=by
 obtain⟨t,a,f⟩:=g;have c:∀t,t<(bs L n).length->(bs L n).getD t 0∈bs L n:=λ t a=>by rw[i8,i6 a];exact E4 a
 have k:xo L (SS z (λ t=>(bs L n).getD t 0) (bs L n).length) n=0:=by
  apply eS;intro j;rw[M1,uO L z _ n j _ (λ t a=>bw L n _ (c t a))];by_cases q:j<m
  ·exact h j q
  ·refine nc λ t a=>?_;have:(L ((bs L n).getD t 0)).testBit j=false:=bQ (o4 (l _ (bw L n _ (c t a))) (v7 MG KE));rw[this,fj]
 have e:=uP L n z _ (bs L n).length c;rw[k]at e;have p:rk L n (0,0)=(0,0):=uJ ..;rw[p]at e;have o:SS z (λ t=>(bs L n).getD t 0) (bs L n).length=0:=(congrArg Prod.snd e).symm;have d:=uN z (λ t=>(bs L n).getD t 0) ((bs L n).getD t 0) (bs L n).length;rw[o,M1]at d;rw[uL a (by show(z t&&decide ((bs L n).getD t 0=(bs L n).getD t 0))=true;rw[f];simp) (λ i b ne=>?_)]at d
 ·cases d
 ·have:(bs L n).getD i 0≠(bs L n).getD t 0:=by
   rw[i8,i8,i6 b,i6 a];show(bs L n)[i]≠_[t];have P:=iI.mp (gS L n);rcases Nat.lt_or_gt_of_ne ne with q | q
   ·have:=P i t b a q;omega
   ·have:=P t i a b q;omega
  show(z i&&decide ((bs L n).getD i 0=(bs L n).getD t 0))=false;rw[o5 this,fj]
def uQ(a:Int):P2 a↔decide (a%2=1)=false:=by
 show a%2=0↔_;rw[pu];omega
theorem uR(L:Nat->Nat)(k j:Nat):∀n,(xo L k n).testBit j=xb (λ i=>k.testBit i&&(L i).testBit j) n
 | 0=>M1 j
 | n+1=>by
  show(if k.testBit n then xo L k n ^^^ L n else xo L k n).testBit j=(xb _ n ^^ (k.testBit n&&(L n).testBit j));rw[←uR L k j n];cases k.testBit n with
  | false=>show _=(_ ^^ false);rw[fq];rfl
  | true=>show(xo L k n ^^^ L n).testBit j=_;rw[U5];rfl
def IN(f:Nat->Bool)(n:Nat):∀(b:on Nat),b.Pairwise (· < ·)->(∀i∈b,i<n)->(∀i,i<n->f i=true->i∈b)->xb f n=xb (λ t=>f (b.getD t 0)) b.length:=by
 induction n with
 | zero=>
  intro b _ h _;cases b with
  | nil=>rfl
  | cons x b=>exact absurd (h x i9) (Q4 x)
 | succ n k=>
  intro b d h j;show(xb f n ^^ f n)=_;by_cases q:n∈b
  ·-- the last one
   obtain⟨c,rfl⟩:∃c,b=c++[n]:=by
    obtain⟨A,C,rfl⟩:=List.append_of_mem q;cases C with
    | nil=>exact⟨A,rfl⟩
    | cons y C=>
     have h2:=(C8.mp ((au.mp d).2.1)).1 y i9;have h3:=h y (t8 _ (j5 _ i9));omega
   have g:=λ i a=>(au.mp d).2.2 i a n (s9.mpr rfl);rw[k c ((au.mp d).1) g (λ i a q=>by
    rcases x3.mp (j i KE q)with w | w
    ·exact w
    ·have:=s9.mp w;omega)]
   rw[p7,L9];show _=(xb _ c.length ^^ f _);rw[uG,gR (f:=λ t=>f ((c++[n]).getD t 0)) λ t l=>by rw[uF l]]
  ·have fn:f n=false:=by
    cases w:f n with
    | false=>rfl
    | true=>exact absurd (j n KE w) q
   rw[fn,fq];refine k b d (λ i a=>?_) (λ i a w=>j i KE w);have:=h i a;rcases U7 i n with w | w
   ·exact w
   ·have:i=n:=by omega
    subst this;exact absurd a q
def bas2(E:∀i,i<n->L i<2^m)(h:∀i,i<n->∀j,j<m->(L i).testBit j=decide (v i j%2=1)):Bas P2 v n m (bs L n):=by
 have u:∀t,t<(bs L n).length->(bs L n).getD t 0<n:=λ t d=>bw L n _ (by
  rw[i8,i6 d];exact E4 d)
 refine⟨bw L n,gS L n,λ c hs i g=>?_,λ i g=>?_⟩
 ·refine iL λ y=>?_;refine IM E ⟨i,g,by show decide _=true;rw[E2];exact (by have:¬c i%2=0:=y;omega)⟩ (z:=λ t=>decide (c t%2=1)) λ j f=>?_;have p:=par (λ t=>c t*v ((bs L n).getD t 0) j) (bs L n).length;rw[(uQ _).mp (hs j f)]at p;rw[p];exact gR λ t d=>by rw[uM,h _ (u t d) j f]
 ·have K:=gQ L n n (f6 _);have l:=uK L n _ (L i,0) (λ q B=>by
   obtain⟨x,h1,rfl⟩:=g9.mp B;exact(K.mak x h1).1)
  have b:(rk L n (L i,0)).1 ^^^ xo L (rk L n (L i,0)).2 n=L i ^^^ xo L 0 n:=l;rw[K.all i g,cC,dW,Y6]at b;obtain⟨k,r⟩:∃k,(rk L n (L i,0)).2=k:=Nb;rw[r]at b;refine⟨1,λ s=>if k.testBit ((bs L n).getD s 0)then 1 else 0,pr2.one,λ j f=>?_⟩;rw[uQ,R4];have F:decide (v i j%2=1)=decide (sm (λ s=>(if k.testBit ((bs L n).getD s 0)then 1 else 0)*v ((bs L n).getD s 0) j) (bs L n).length%2=1):=by
   rw[←h i g j f,←b,uR,par,IN _ n (bs L n) (gS L n) (bw L n) (λ A C w=>by
    rw[d8]at w;exact(K.sub i A g (by rw[r];exact w.1)).2)]
   refine gR λ t d=>?_;rw[uM,h _ (u t d) j f];cases k.testBit _<;>rfl
  have o:∀a S:Int,(a%2=1↔S%2=1)->decide ((a - S)%2=1)=false:=(by intro a S q;rw[pu];omega);exact o _ _ (cf.mp F)
end rk
end
noncomputable section
namespace k72
open PySem L2
noncomputable def uS:FD:=⟨3,3,[.ret (.and [.isi (.var 0) ["int"],.not (.isi (.var 0) ["bool"]),.chain .LtE .LtE (.var 1) (.var 0) (.var 2)])]⟩
noncomputable def uT:FD:=⟨1,1,[.ret (.bi .tuple [.comp (.bi .tuple [.comp (Nh 0 (.var 1)) (.one 0) (.var 1) [none,some 0]]) (.one 0) (.rng [.bi .len [.ix (.var 0) (.int 0)]]) [none,some 0]])]⟩
noncomputable def uU:FD:=⟨3,3,[.exp (.call 3 [.var 1,.bi .len [.var 0]]),.exp (.call 3 [.var 2,.bi .len [.ix (.var 0) (.int 0)]]),.ret (.call 5 [.var 0,.call 4 [.var 1],.call 4 [.var 2]])]⟩
noncomputable def uV:FD:=⟨2,2,[.iff (.not (.call 0 [.var 0,.int 1,.bin .Sub (Oe (.var 1)) (.int 1)])) [.unk] []]⟩
noncomputable def ng:FD:=⟨1,1,[.ret (.compi (.var 0) (.one 0) (.rng [.meth .bitLength (.var 0) []]) (.bin .BitAnd (.bin .RShift (.var 1) (.var 0)) (.int 1)) [none,some 0])]⟩
noncomputable def uW:FD:=⟨3,3,[.ret (.bi .tuple [.comp (.bi .tuple [.comp (.ix (Nh 1 (.var 2)) (.var 0)) (.one 0) (.var 1) [none,some 2,some 0]]) (.one 0) (.var 1) [none,some 2,some 0]])]⟩
noncomputable def uX:FD:=⟨1,1,[.ret (.comp (.idx (.var 1) (.var 0)) (.one 0) (.var 0) [none,some 0])]⟩
noncomputable def uY:FD:=⟨1,1,[.ret (.call 6 [.call 1 [.var 0]])]⟩
noncomputable def uZ:FD:=⟨1,1,[.ret (.call 5 [.var 0,.bi .sset [.call 6 [.var 0]],.bi .sset [.call 7 [.var 0]]])]⟩
noncomputable def vc:FD:=⟨2,1,[.set 1 false (MW 8 0),.ret (.and [.cmp .LtE (.bi .len [.var 1]) (.glb "SMALL_LINES"),.cmp .LtE (.bi .len [.ix (.var 1) (.int 0)]) (.glb "SMALL_LINES")])]⟩
noncomputable def vd:FD:=⟨1,1,[.iff (.not (MW 9 0)) [.unk] []]⟩
def nh:FD:=⟨3,1,[.set 1 true (.lst []),.fo (.one 2) (.var 0) [.ext 1 (.var 2)],.ret (.bi .sset [.var 1])]⟩
noncomputable def ve:FD:=⟨3,3,[.ret (.bi .tuple [.comp (.bi .tuple [.comp (.callv 1 [("joined_bits",32),("joined_ends",33)] [.var 2,.var 0]) (.one 0) (.rng [.var 1]) [none,some 2,some 0]]) (.one 0) (.rng [.var 0]) [none,some 1,some 2]])]⟩
noncomputable def IP:FD:=⟨7,3,[.set 3 false (.bi .len [.var 1]),.set 4 false (.bi .len [.ix (.var 1) (.int 0)]),.set 5 false (.bin .Mult (.bi .len [.var 0]) (.var 3)),.set 6 false (.bin .Mult (.bi .len [.ix (.var 0) (.int 0)]) (.var 4)),.iff (.or [.cmp .Gt (.var 5) (.glb "MOST_LINES"),.cmp .Gt (.var 6) (.glb "MOST_LINES")]) [.unk] [],.iff (.and [.gin (.var 2),.cmp .Gt (.bi .max [.bin .Add (MW 11 0) (MW 11 1)]) (.gdx (.var 2))]) [.unk] [],.ret (.calll 12 (.var 5) (.var 6) ["r","c","rule","one","tall","wide","other"] 2 (.call 14 [.var 2,.ix (Nh 3 (.bin .FloorDiv (.var 0) (.var 4))) (.bin .FloorDiv (.var 1) (.var 5)),.ix (Nh 6 (.bin .Mod (.var 0) (.var 4))) (.bin .Mod (.var 1) (.var 5))]) [2,0,3,4,1])]⟩
noncomputable def vf:FD:=⟨3,3,[.iff (.cmp .Eq (.var 0) (.str "pair")) [.ret (.bin .Add (.bin .Mult (.int 3) (.var 1)) (.var 2))] [],.iff (.cmp .Eq (.var 0) (.str "times")) [.ret (.bin .Mult (.var 1) (.var 2))] [],.ret (.bin .Mod (.bin .Add (.var 1) (.var 2)) (.int 2))]⟩
def vg:FD:=⟨5,2,[.exp (MW 10 0),.set 2 false (.bi .sset [.call 7 [.var 0]]),.set 3 true (.lst []),.fo (.one 4) (.bi .sset [.call 6 [.var 0]]) [.ext 3 (.compi (.tup [.var 1,.var 0]) (.one 0) (.var 2) (.cmp .Eq (.ix (Nh 2 (.var 1)) (.var 0)) (.var 3)) [none,some 4,some 0,some 1])],.ret (.call 16 [.var 0,.var 3])]⟩
noncomputable def dY:FD:=⟨6,2,[.iff (.cmp .Eq (.var 1) (.lst [])) [.ret (.lst [])] [],.set 2 false (Nh 1 (.int 0)),.set 3 false (.slf (.var 1) (.int 1)),.set 4 true (.bin .Add (.lst [.var 2]) (.call 16 [.var 0,.compi (.var 0) (.one 0) (.var 3) (.call 17 [.var 1,.var 2,.var 0]) [none,some 0,some 2]])),.set 5 true (.call 16 [.var 0,.var 3]),.ret (.ite (.cmp .GtE (.bi .len [.var 4]) (.bi .len [.var 5])) (.var 4) (.var 5))]⟩
noncomputable def vh:FD:=⟨4,3,[.set 3 false (.ix (.ix (.var 0) (Nh 1 (.int 0))) (.ix (.var 1) (.int 1))),.iff (.cmp .NotEq (.ix (.ix (.var 0) (Nh 2 (.int 0))) (Nh 2 (.int 1))) (.var 3)) [.ret (.bl false)] [],.ret (.or [.cmp .NotEq (.ix (.ix (.var 0) (Nh 1 (.int 0))) (Nh 2 (.int 1))) (.var 3),.cmp .NotEq (.ix (.ix (.var 0) (Nh 2 (.int 0))) (.ix (.var 1) (.int 1))) (.var 3)])]⟩
def ni:FD:=⟨5,2,[.set 2 true (.lst []),.fo (.one 3) (.rng [.int 1,.bin .LShift (.int 1) (.bi .len [.var 0])]) [.set 4 false (.call 19 [.var 0,.var 3,.var 1]),.iff (.and [.cmp .NotEq (.var 4) (.int 0),.cmp .Eq (.call 20 [.var 0,.var 4,.var 1]) (.var 3)]) [.app 2 (.tup [.var 3,.var 4])] []],.ret (.var 2)]⟩
noncomputable def vi:FD:=⟨4,3,[.set 3 false (MW 4 1),.ret (.bi .sum [.compi (Oe (.var 0)) (.one 0) (.rng [.bi .len [.ix (.var 0) (.int 0)]]) (.bi .all [.comp (.cmp .Eq (.ix (Nh 1 (.var 0)) (.var 2)) (.var 3)) (.one 0) (.var 1) [none,some 2,some 0,some 3]]) [none,some 3,some 0,some 2]])]⟩
noncomputable def vj:FD:=⟨4,3,[.set 3 false (MW 4 1),.ret (.bi .sum [.compi (Oe (.var 0)) (.one 0) (.rng [.bi .len [.var 0]]) (.bi .all [.comp (.cmp .Eq (.ix (Nh 1 (.var 2)) (.var 0)) (.var 3)) (.one 0) (.var 1) [none,some 2,some 0,some 3]]) [none,some 3,some 0,some 2]])]⟩
noncomputable def vk:FD:=⟨6,2,[.exp (MW 10 0),.set 2 false (.call 18 [.var 0,.var 1]),.set 3 false (.call 22 [.var 0,.var 1,.var 2]),.set 4 false (.int 0),.set 5 true (.call 26 [.var 3,.var 2,.var 4]),.wh (.cmp .Is (.var 5) (.non)) [.aug 4 (.int 1),.set 5 true (.call 26 [.var 3,.var 2,.var 4])],.ret (.var 5)]⟩
def vm:FD:=⟨6,3,[.set 3 true (.lst []),.fo (.many [4,5]) (.enu (.var 0)) [.ext 3 (.compi (.tup [.var 1,.var 0]) (.one 0) (.rng [.bi .len [.var 5]]) (.cmp .Eq (Nh 2 (.var 0)) (.var 3)) [none,some 4,some 5,some 1])],.ret (.srtk (.var 3) ["entry","blocks"] 1 (.bi .len [.call 23 [.var 1,.var 0]]) [2])]⟩
noncomputable def vn:FD:=⟨2,2,[.ret (.compi (.var 0) (.one 0) (.var 0) (.call 24 [.var 0,.var 1]) [none,some 1])]⟩
noncomputable def vo:FD:=⟨2,2,[.ret (.cmp .Eq (.bin .BitAnd (.bin .BitAnd (.bin .RShift (.ix (.var 0) (.int 0)) (Nh 1 (.int 0))) (.bin .RShift (Nh 0 (.int 1)) (.ix (.var 1) (.int 1)))) (.int 1)) (.int 1))]⟩
noncomputable def vp:FD:=⟨2,2,[.ret (.compi (.var 0) (.one 0) (.var 0) (.not (.call 24 [.var 1,.var 0])) [none,some 1])]⟩
def aj:FD:=⟨5,3,[.iff (.cmp .Eq (.var 0) (.lst [])) [.ret (.lst [])] [],.iff (.cmp .Eq (.var 2) (.int 0)) [.ret (.non)] [],.fo (.one 3) (.call 23 [.var 1,.ix (.var 0) (.int 0)]) [.set 4 false (.call 26 [.call 25 [.var 0,.var 3],.var 1,.bin .Sub (.var 2) (.int 1)]),.iff (.cmp .IsNot (.var 4) (.non)) [.ret (.bin .Add (.lst [.var 3]) (.var 4))] []],.ret (.non)]⟩
noncomputable def vq:FD:=⟨1,1,[.ret (.call 29 [.call 30 [.var 0]])]⟩
noncomputable def vt:FD:=⟨1,1,[.ret (.call 29 [.call 31 [.var 0]])]⟩
noncomputable def vw:FD:=⟨1,1,[.ret (.comp (.tup [.ix (.var 0) (.int 0),.ix (.var 0) (.int 1),.var 1]) (.many [0,1]) (.itm (.var 0)) [none,none])]⟩
noncomputable def vx:FD:=⟨1,1,[.ret (.call 34 [.var 0,.int 0,.glb "joined_bits"])]⟩
noncomputable def vy:FD:=⟨1,1,[.ret (.call 34 [.var 0,.int 1,.glb "joined_ends"])]⟩
noncomputable def nj:FD:=⟨2,2,[.ret (.bin .Add (.int 1) (.bi .max [.var 0,.var 1]))]⟩
noncomputable def vz:FD:=⟨2,2,[.ret (.bin .Add (.var 0) (.var 1))]⟩
def IQ:FD:=⟨8,3,[.exp (MW 10 0),.set 3 false (MW 8 0),.sep 4,.fo (.one 5) (.rng [.int 1,.bin .LShift (.int 1) (.bi .len [.var 3])]) [.fo (.one 6) (.rng [.int 1,.bin .LShift (.int 1) (.bi .len [.ix (.var 3) (.int 0)])]) [.iff (.cmp .Eq (.bi .len [.call 11 [.call 2 [.var 3,.var 5,.var 6]]]) (.int 1)) [.dpp 4 [.var 5,.var 6] (.var 1)] [.set 7 false (.call 35 [.var 5,.var 6]),.dpp 4 [.var 5,.var 6] (.bi .min [.comp (.callv 4 [("joined_bits",32),("joined_ends",33)] [.dgp 5 (.var 2),.dgp 5 (.var 3)]) (.many [0,1,2,3]) (.var 7) [none,none,none,none,some 2,some 4]])]]],.retd 4]⟩
noncomputable def nr:FD:=⟨4,2,[.set 2 false (.comp (.tup [.str "row",.var 0,.tup [.bin .Sub (.var 1) (.var 0),.var 2],.tup [.var 0,.var 2]]) (.one 0) (MW 36 0) [none,some 0,some 1]),.set 3 false (.comp (.tup [.str "column",.var 0,.tup [.var 1,.bin .Sub (.var 2) (.var 0)],.tup [.var 1,.var 0]]) (.one 0) (MW 36 1) [none,some 0,some 1]),.ret (.bin .Add (.var 2) (.var 3))]⟩
noncomputable def vA:FD:=⟨1,1,[.ret (.compi (.var 0) (.one 0) (.rng [.int 1,.var 0]) (.and [.cmp .Eq (.bin .BitAnd (.var 0) (.var 1)) (.var 0),.cmp .Lt (.var 0) (.bin .Sub (.var 1) (.var 0))]) [none,some 0])]⟩
noncomputable def vB:FD:=⟨1,1,[.ret (.ix (.ix (MW 27 0) (.neg (.int 1))) (.int 2))]⟩
noncomputable def vC:FD:=⟨1,1,[.ret (.ix (.ix (MW 28 0) (.neg (.int 1))) (.int 2))]⟩
noncomputable def IR:FD:=⟨1,1,[.ret (.bi .len [.call 40 [.var 0]])]⟩
def IS:FD:=⟨6,1,[.set 1 true (.lst []),.set 2 true (.lst []),.fo (.many [3,4]) (.enu (.var 0)) [.set 5 false (.call 41 [.var 4,.var 2]),.iff (.bi .any [.comp (.cmp .NotEq (.var 0) (.int 0)) (.one 0) (.var 5) [none]]) [.app 1 (.var 3),.app 2 (.var 5)] []],.ret (.var 1)]⟩
def IT:FD:=⟨6,2,[.set 2 true (.bi .list [.var 0]),.fo (.one 3) (.var 1) [.set 4 false (MW 42 3),.set 5 false (Nh 2 (.var 4)),.set 2 true (.comp (.bin .Sub (.bin .Mult (.var 0) (Nh 2 (.var 3))) (.bin .Mult (.var 4) (.var 1))) (.many [0,1]) (.zp (.var 2) (.var 3)) [none,none,some 3,some 4,some 5])],.ret (.var 2)]⟩
noncomputable def IU:FD:=⟨1,1,[.ret (.ix (.compi (.var 0) (.many [0,1]) (.enu (.var 0)) (.cmp .NotEq (.var 1) (.int 0)) [none,none]) (.int 0))]⟩
noncomputable def IV:FD:=⟨1,1,[.ret (.bi .len [.call 45 [.call 44 [.var 0]]])]⟩
noncomputable def IW:FD:=⟨1,1,[.ret (.comp (.bi .sum [.comp (.bin .LShift (.bin .Mod (.var 1) (.int 2)) (.var 0)) (.many [0,1]) (.enu (.var 0)) [none,none]]) (.one 0) (.var 0) [none])]⟩
noncomputable def IX:FD:=⟨1,1,[.ret (.comp (.var 0) (.many [0,1,2]) (MW 46 0) [none,none,none])]⟩
def IY:FD:=⟨5,1,[.set 1 true (.lst []),.fo (.many [2,3]) (.enu (.var 0)) [.set 4 false (.call 47 [.var 3,.var 1]),.iff (.cmp .NotEq (Nh 4 (.int 0)) (.int 0)) [.app 1 (.tup [.var 2,.ix (.var 4) (.int 0),.bin .BitOr (Nh 4 (.int 1)) (Oe (.var 2))])] []],.ret (.var 1)]⟩
def IZ:FD:=⟨7,2,[.set 2 false (.var 0),.set 3 false (.int 0),.fo (.many [4,5,6]) (.var 1) [.iff (.cmp .Eq (.bin .BitAnd (.bin .RShift (.var 2) (.bin .Sub (.meth .bitLength (.var 5) []) (.int 1))) (.int 1)) (.int 1)) [.set 2 false (.bin .BitXor (.var 2) (.var 5)),.set 3 false (.bin .BitXor (.var 3) (.var 6))] []],.ret (.tup [.var 2,.var 3])]⟩
noncomputable def vD:FD:=⟨2,2,[.iff (.cmp .Lt (.var 1) (.bi .len [.var 0])) [.ret (Nh 0 (.var 1))] [],.ret (.int 0)]⟩
def vE:FD:=⟨7,2,[.set 2 true (.lst []),.set 3 false (.var 0),.fo (.one 4) (.rng [.var 1]) [.app 2 (.bin .Mod (.var 3) (MY 306783379)),.set 3 false (.bin .FloorDiv (.var 3) (MY 306783379))],.iff (.cmp .Gt (.var 3) (.int 0)) [.ret (.var 2)] [],.set 5 false (.bin .Add (.bin .Mod (.var 0) (MY 2147483647)) (MY 48271)),.fo (.one 4) (.rng [.var 1]) [.set 5 false (.bin .Mod (.bin .Add (.bin .Add (.bin .Mult (.var 5) (MY 48271)) (.bin .Mult (.var 4) (.var 4))) (MY 11)) (MY 2147483647)),.set 6 false (.bin .Add (.bin .Add (.bin .Mult (.bin .FloorDiv (.var 5) (MY 977)) (MY 16807)) (.bin .Mult (.var 5) (.bin .Add (.bin .Mult (.var 4) (.var 4)) (.int 7)))) (.var 4)),.seti 2 (.var 4) (.bin .FloorDiv (.bin .Mod (.var 6) (MY 2147483587)) (.int 7))],.ret (.var 2)]⟩
def vF:FD:=⟨8,6,[.set 6 true (.comp (.bin .Mod (.var 0) (.var 1)) (.one 0) (.var 5) [none,some 4]),.fo (.one 7) (.rng [.bi .min [.bin .Mult (.var 2) (.var 3),.bi .max [.int 0,.bin .Sub (.bi .len [.var 0]) (.var 1)]]]) [.seti 6 (.var 7) (.bin .Mod (Nh 0 (.bin .Add (.var 1) (.var 7))) (.var 4))],.ret (.bi .tuple [.comp (.bi .tuple [.sl (.var 1) (.bin .Mult (.var 0) (.var 2)) (.bin .Add (.bin .Mult (.var 0) (.var 2)) (.var 2))]) (.one 0) (.rng [.var 2]) [none,some 6,some 3]])]⟩
noncomputable def Ja:FD:=⟨6,1,[.set 1 false (.call 50 [.call 49 [.var 0,.int 0],.int 4]),.set 2 false (.ix (.lst [.tup [.int 2,.int 2],.tup [.int 2,.int 2],.tup [.int 1,.int 4],.tup [.int 4,.int 1],.tup [.int 1,.int 3],.tup [.int 5,.int 1],.tup [.int 2,.int 1],.tup [.int 1,.int 5]]) (.bin .Mod (Nh 1 (.int 0)) (.int 8))),.set 3 false (.ix (.lst [.tup [.int 2,.int 2],.tup [.int 2,.int 2],.tup [.int 1,.int 4],.tup [.int 4,.int 1],.tup [.int 3,.int 1],.tup [.int 1,.int 5],.tup [.int 1,.int 2],.tup [.int 5,.int 1]]) (.bin .Mod (.ix (.var 1) (.int 1)) (.int 8))),.set 4 false (.bin .Add (.int 2) (.bin .Mod (Nh 1 (.int 2)) (.int 2))),.set 5 false (.call 51 [.var 0,.int 3,.ix (.var 2) (.int 0),.ix (.var 3) (.int 0),.var 4,.call 50 [.call 49 [.var 0,.int 1],.int 25]]),.ret (.lst [.var 5,.call 51 [.var 0,.int 33,.ix (.var 2) (.int 1),.ix (.var 3) (.int 1),.var 4,.call 50 [.call 49 [.var 0,.int 2],.int 25]]])]⟩
noncomputable def Jb:FD:=⟨1,1,[.ret (.bi .lset [.var 0])]⟩
noncomputable def Jc:FD:=⟨3,3,[.iff (.cmp .NotEq (.call 53 [.call 6 [.var 2]]) (.bin .Mult (.call 53 [.call 6 [.var 0]]) (.call 53 [.call 6 [.var 1]]))) [.ret (.bl false)] [],.iff (.cmp .NotEq (.call 53 [.call 7 [.var 2]]) (.bin .Mult (.call 53 [.call 7 [.var 0]]) (.call 53 [.call 7 [.var 1]]))) [.ret (.bl false)] [],.ret (.cmp .Eq (.bi .len [.call 11 [.var 2]]) (.bin .Mult (.bi .len [.call 11 [.var 0]]) (.bi .len [.call 11 [.var 1]])))]⟩
noncomputable def Jd:FD:=⟨3,3,[.iff (.cmp .NotEq (MW 39 2) (.bin .Mult (MW 39 0) (MW 39 1))) [.ret (.bl false)] [],.iff (.cmp .Gt (.bi .max [.bin .Add (MW 11 0) (MW 11 1)]) (.int 1)) [.ret (.bl true)] [],.iff (.cmp .Lt (Od 15 2) (.bin .Mult (Od 15 0) (.bi .len [.call 15 [.var 1,.int 1]]))) [.ret (.bl false)] [],.ret (.cmp .LtE (Od 21 2) (.bin .Mult (Od 21 0) (.bi .len [.call 21 [.var 1,.int 1]])))]⟩
def vG:FD:=⟨7,1,[.sett [1,2] (MW 52 0),.set 3 false (.bin .Add (MW 37 1) (MW 37 2)),.set 4 false (.bin .Mult (MW 38 1) (MW 38 2)),.fo (.one 5) (.lst [.str "pair",.str "times",.str "parity"]) [.set 6 false (.call 13 [.var 1,.var 2,.var 5]),.iff (.or [.cmp .Gt (MW 37 6) (.var 3),.cmp .Gt (MW 38 6) (.var 4)]) [.ret (.bl false)] [],.iff (NC 54 (.str "pair")) [.ret (.bl false)] [],.iff (NC 55 (.str "times")) [.ret (.bl false)] [],.iff (.and [.cmp .Eq (.var 5) (.str "parity"),.cmp .Gt (MW 43 6) (.bin .Add (MW 43 1) (MW 43 2))]) [.ret (.bl false)] []],.ret (.bl true)]⟩
def T:on FD:=[uS,uT,uU,uV,ng,uW,uX,uY,uZ,vc,vd,nh,ve,IP,vf,vg,dY,vh,ni,vi,vj,vk,vm,vn,vo,vp,aj,vq,vt,vw,vx,vy,nj,vz,IQ,nr,vA,vB,vC,IR,IS,IT,IU,IV,IW,IX,IY,IZ,uS,vD,vE,vF,Ja,Jb,Jc,Jd,vG]
noncomputable def fnl:on Str:="is_int" :: "flipped" :: "cut" :: "check_cards" :: "cards_in" :: "crossing" :: "row_kinds" :: "column_kinds" :: "trimmed" :: "is_small" :: "check_small" :: "words_in" :: "ruled" :: "together" :: "joined_word" :: "apart" :: "most_apart" :: "keep_apart" :: "widest" :: "columns_with" :: "rows_with" :: "fewest_cover" :: "entries_by_choice" :: "blocks_with" :: "contains" :: "left_bare" :: "cover_within" :: "bits_paper" :: "ends_paper" :: "paper" :: "bits_numbers" :: "ends_numbers" :: "joined_bits" :: "joined_ends" :: "least_numbers" :: "splits" :: "halves" :: "least_bits" :: "fewest_ends" :: "rank" :: "base_lines" :: "reduced" :: "leading_place" :: "rank_in_twos" :: "lines_in_twos" :: "base_indexes" :: "kept_lines" :: "reduced_in_twos" :: "is_int" :: "_law_cell_at" :: "_law_stream" :: "_law_shaped" :: "_law_two" :: "_law_many" :: "_law_pair" :: "_law_times" :: "law" :: []
noncomputable def bll:on Str:="isinstance" :: "int" :: "bool" :: "tuple" :: "range" :: "len" :: "sorted" :: "set" :: "max" :: "sum" :: "all" :: "enumerate" :: "min" :: "any" :: "list" :: "zip" :: []
noncomputable def cll:on Str:="TalkError" :: "NoCard" :: "NoWord" :: "TooGreat" :: []
def G:Gs:={gk:=[("pair",some 2),("times",some 3),("parity",none)],con:=[("MOST_LINES",.int 8),("SMALL_LINES",.int 5),("joined_bits",.fn "joined_bits"),("joined_ends",.fn "joined_ends")],fnl:=fnl,bll:=bll,cll:=cll}
end k72
namespace k72
open PySem L2
def nt(a:on Int)(j:Nat):∃v:Int,run G T fu (k+1) 49 [.scr a,.int j]=some (.v (.int v) false):=by
 rw[j9 rfl rfl];unfold vD;have c:∀F,evE G F (.cmp .Lt (.var 1) (.bi .len [.var 0])) _=some _:=λ F=>b_lt (d5 rfl) (rfl:evE G F _ [.val (.scr a),.val (.int j)]=some _)
 by_cases h:j<a.length
 ·refine⟨a[j],j7 (O6 (j2 ((c _).trans (by rw[o6 KE]))) (j1 (k5 (p6 (d5 rfl) (d5 rfl) ?_))))⟩;show((A0 a.length (j:Int)).bind λ j=>a[j]?).map DV.int=_;unfold A0;rw[d6 (x0 j),d6 KE,v9];show(a[j]?).map DV.int=_;rw[i6 h];rfl
 ·exact⟨0,j7 (r9 (j2 ((c _).trans (by rw[o5 KE]))) (j1 rfl))⟩
def bx{n:Nat}(h:MH e cl (.int n))(hn:n<=1000):m9 (MQ (.rng [e]))=some (.ok (upTo 0 n) .fresh):=by
 show m9 (Rs.thn _ _)=_;rw[d7 h f7,cV];have hs:(D3 (n:Int)&&decide ((n:Int)<=(l5:Int)))=true:=by rw[d8,N5];refine⟨?_,aI (show(n:Int)<=1000 by omega) MG⟩;unfold D3;rw[d8,N5,N5];exact⟨aI MG (x0 n),ji (show(n:Int)<=1000 by omega) MG⟩
 show m9 ((if D3 (n:Int)&&decide ((n:Int)<=(l5:Int))then some (upTo 0 (n:Int).toNat)else none).map λ a=>.ok _ .fresh)=_;rw[d6 hs,v9];rfl
def W4(h:MH e c (.lst ds)):evE G F (.bi .tuple [e]) δ=some (.ok (.tup ds) c.item):=by
 show Rs.thn _ _=_;rw[d7 h f7];rfl
def T1(h:MH e c (.lst ds)):evE G F (.bi .len [e]) δ=some (.ok (MY ds.length) .strong):=by
 show Rs.thn _ _=_;rw[d7 h f7];rfl
def K8(h:MH e c (.tup ds)):evE G F (.bi .len [e]) δ=some (.ok (MY ds.length) .strong):=by
 show Rs.thn _ _=_;rw[d7 h f7];rfl
def iD(r:on Int):on DV:=r.map DV.int
noncomputable def rL(rows:MU):DV:=.lst (rows.map λ r=>.lst (iD r))
noncomputable def tT(rows:MU):DV:=.tup (rows.map λ r=>.tup (iD r))
def Rect(n m:Nat)(rows:MU):Prop:=rows.length=n/\∀r∈rows,r.length=m
noncomputable def col(rows:MU)(j:Nat):on Int:=rows.map λ r=>r.getD j 0
def flip(m:Nat)(rows:MU):on (on Int):=(ML m).map (col rows)
def dZ{j:Nat}(h:j<r.length):ixD (.tup (iD r)) (.int j)=some (.int (r.getD j 0)):=by
 have a:(j:Int)<((r.map DV.int).length:Int):=by rw[d9];exact_mod_cast h
 unfold iD;simp only[ixD,atD,A0,d6 (x0 j),d6 a,N6,v9,n7,i6 h,F5,i8,G5]
def gU{j:Nat}(h:j<r.length):ixD (MZ (iD r)) (.int j)=some (.int (r.getD j 0)):=by
 have a:(j:Int)<((r.map DV.int).length:Int):=by rw[d9];exact_mod_cast h
 unfold iD;simp only[ixD,atD,A0,d6 (x0 j),d6 a,N6,v9,n7,i6 h,F5,i8,G5]
noncomputable def sub(rows:MU)(I J:on Nat):on (on Int):=I.map λ i=>J.map λ j=>(ND i).getD j 0
def T2{i:Nat}(h:i<rows.length):ixD Nq (.int i)=some (.tup (iD (ND i))):=by
 have a:(i:Int)<((rows.map λ r=>DV.tup (iD r)).length:Int):=by rw[d9];exact_mod_cast h
 simp only[tT,ixD,atD,A0,d6 (x0 i),d6 a,N6,v9,n7,i6 h,F5,i8,G5]
def C6{rows:on (on Int)}(h:i<rows.length):rows.getD i []∈rows:=by
 rw[i8,i6 h];exact E4 h
theorem vH(n:Nat):∀r:on Int,DV.plains n (iD r)=true
 | []=>by unfold iD;simp[DV.plains]
 | a::r=>by have q:=vH n r;unfold iD at q ⊢;rw[t9];unfold DV.plains;rw[q];cases n<;>rfl
def Je(h:MH e cl (.int i))(a:i<=1000)(b : -1000<=i):m9 (MQ (.rng [e]))=some (.ok (upTo 0 i.toNat) .fresh):=by
 show m9 (Rs.thn _ _)=_;rw[d7 h f7,cV];have hs:(D3 i&&decide (i<=(l5:Int)))=true:=by rw[d8,N5];refine⟨?_,aI a MG⟩;unfold D3;rw[d8,N5,N5];exact⟨aI MG b,ji a MG⟩
 show m9 ((if D3 i&&decide _ then some _ else none).map λ ds=>.ok _ .fresh)=_;rw[d6 hs];rfl
noncomputable def ee(n m:Nat)(ws:on Int):on (on Int):=(ML n).map λ j=>(ws.drop (j*m)).take m
def Jf(g:MH a c (.lst ds))(e:MH b c1 (.int l))(f:MH d i (.int h)):evE G F (.sl a b d) δ=some (.ok (MZ (cutD ds (some l) (some h))) (Cl.anew c c)):=by
 show Re.thn _ _=_;rw[g,B2];show Re.thn _ _=_;rw[e,B2];show Re.thn _ _=_;rw[f];rfl
def nu(h:j<n):A0 n (j:Int)=some j:=by
 unfold A0;rw[d6 (x0 j),d6 KE,v9]
def vI{es:on ME}(h:NQ):evE G F (.bi .min es) δ=minD l:=by
 have e:evE G F (.bi .min es) δ=Rs.thn _ _:=rfl;rw[e,h];rfl
def K9(R:Nd):Rect m n (flip m rows):=by
 unfold flip;refine⟨by rw[d9,q9],λ r a=>?_⟩;obtain⟨j,hj,rfl⟩:=g9.mp a;unfold col;rw[d9,R.1]
def bA{es:on ME}(h:NQ)(a:l.length<=l5)(hs:stros l=true):evE G F (MZ es) δ=some (.ok (.lst (l.map (·.1))) .fresh):=by
 have e:evE G F (MZ es) δ=Rs.thn _ _:=rfl;rw[e,h,cV,d6 a,hs];rfl
noncomputable def nD(l:on Nat):on DV:=l.map λ (j:Nat)=>DV.int (j:Int)
theorem vJ{c:Type}[BEq c][LawfulBEq c]{f:c->DV}(d:∀a b,deq (f a) (f b)=(a==b))(r:c):∀{l:on c},r∈l->M7 (f r) (l.map f)=some (l.idxOf r)
 | a::l,g=>by
  rw[t9];unfold M7;rw[d,List.idxOf_cons];cases h:(a==r)with
  | true=>rfl
  | false=>
   have i:r∈l:=by
    rcases f8.mp g with e | e
    ·subst e;simp at h
    ·exact e
   rw[vJ d r i];rfl
theorem vK:∀a b:on Int,deqs (iD a) (iD b)=(a==b)
 | [],[]=>rfl
 | [],_::_=>rfl
 | _::_,[]=>rfl
 | x::a,y::b=>by have c:=vK a b;unfold iD at c ⊢;rw[t9,t9];unfold deqs;rw[c];unfold deq;rfl
def Jg(a b:on Int):deq (.tup (iD a)) (.tup (iD b))=(a==b):=vK a b
theorem nv:∀{l:on DV},(∀d∈l,d.plain n=true)->DV.plains n l=true
 | [],_=>by unfold DV.plains;rfl
 | d::r,h=>by unfold DV.plains;rw[h d (i9 ..),nv λ x a=>h x (j5 _ a)];rfl
def vL(n:Nat)(a:on Int):DV.plain (n+1) (.tup (iD a))=true:=vH n a
def Jh(n:Nat)(rows:MU):DV.plains (n+1) (rows.map λ r=>.tup (iD r))=true:=nv λ d a=>by
 obtain⟨r,_,rfl⟩:=g9.mp a;exact vL n r
def Ji{rows:on (on Int)}(h:r∈rows)(a:rows.length<=1000):idxD (.tup (rows.map λ r=>.tup (iD r))) (.tup (iD r))=some (.int (rows.idxOf r:Nat)):=by
 unfold idxD;dsimp;rw[vL 59,Jh 59,o6 (by rw[d9];exact e9 a MG),vJ Jg r h];rfl
def Jj(e:Na a (.ok x cx))(hs:seqB x=true)(c:Na b (.ok y cy))(h:idxD x y=some d):evE G F (.idx a b) δ=some (.ok d .strong):=by
 show Re.thn _ _=_;rw[e,B2,d6 hs,c,B2,h];rfl
theorem vM{b:Type}{h f:b->DV}:∀{l:on b},(∀a∈l,g (h a)=some (.item (f a)))->x8 g (l.map h)=some (l.map f)
 | [],_=>rfl
 | a::r,q=>by rw[t9,t9];unfold x8;rw[q a (i9 ..)];show(match x8 g _ with | none=>none | some xs=>some _)=_;rw[vM λ x c=>q x (j5 _ c)]
def A4{d:Type}{l:on d}{h f:d->DV}(e:m9 (MQ it)=some (.ok (l.map h) cl))(hc:cl ≠ .weak)(hl:l.length<=l5)
  (q:∀a∈l,∃b c,tg.bind (h a) (C3 fr δ)=some b/\evE G F elt b=some (.ok (f a) c)/\stro (f a) c=true):evE G F (.comp elt tg it fr) δ=some (.ok (MZ (l.map f)) .fresh):=by
 show Ri.thn _ _=_;rw[e,ln,e7 (by grind),vM (λ a g=>?_)]
 ·rfl
 ·obtain⟨b,c,k,j,i⟩:=q a g;rw[k,N6,j];show(if stro (f a) c then some _ else none)=_;rw[d6 i]
def Jk{j:Nat}(b:rows.length<=1000)(w:m9 (evE G F (.var 1) [.val (MY (j:Int)),.val d])=some (MV (rows.map h)))(c:∀r∈rows,ixD (h r) (.int j)=some (MY (r.getD j 0))):evE G F (.comp (Nh 0 (.var 1)) (.one 0) (.var 1) [none,some 0]) [.val (.int j),.val d]=some (.ok (MZ (iD (col rows j))) .fresh):=by
 rw[A4 w MG (e9 b MG) λ r a=>⟨[.val (h r),.val _],.strong,rfl,p6 (d5 rfl) (d5 rfl) (c r a),rfl⟩];unfold iD col;rw[k9];rfl
def Jl(rows:MU)(m j:Nat)(b:∀r∈rows,r.length=m)(d:j<m)(c:rows.length<=1000):evE G F (.comp (Nh 0 (.var 1)) (.one 0) (.var 1) [none,some 0]) [.val (.int j),.val Nq]=some (.ok (MZ (iD (col rows j))) .fresh):=Jk c rfl λ r a=>dZ (by rw[b r a];exact d)
def gV{n:Nat}(h:MH e c (.int (n:Int)))(a:n<=1000):m9 (MQ (.rng [e]))=some (.ok ((ML n).map λ (j:Nat)=>DV.int (j:Int)) .fresh):=by
 rw[bx h a];unfold L2.upTo
 congr 2
 apply z7;intro j _
 congr 1
 omega
def Jm(rows:MU)(n m:Nat)(R:Nd)(g:0<n)(d:n<=1000)(c:m<=1000):run G T fu (k+1) 1 [tT rows]=some (.v (tT (flip m rows)) false):=by
 rw[j9 rfl rfl];have e:0<rows.length:=by rw[R.1];exact g
 have f:=K8 (F:=run G T fu k) (δ:=k7 1 [tT rows]) (p6 (a:=.var 0) (b:=.int 0) (cx:=.strong) (d5 rfl) (g8 (i:=((0:Nat):Int))) (T2 e));rw[show(iD (ND 0)).length=m by unfold iD;rw[d9];exact R.2 _ (C6 e)]at f;have l:=A4 (tg:=.one 0) (fr:=[none,some 0]) (gV f c) MG (by rw[q9];exact e9 c MG) λ j h=>
  ⟨[.val _,.val _],.strong,rfl,W4 (Jl rows m j R.2 (i7.mp h) (by rw[R.1];exact d)),rfl⟩
 unfold uT;refine j7 (j1 (k5 (cl:=.strong) ((W4 l).trans ?_)));unfold tT flip;rw[k9];rfl
def vN(rows:MU)(n m:Nat)(R:Nd)(I J:on Nat)(o:∀i∈I,i<n)(h:∀j∈J,j<m)(d:I.length<=1000)(b:J.length<=1000):run G T fu (k+1) 5 [tT rows,.lst (nD I),.lst (nD J)]=some (.v (tT (sub rows I J)) false):=by
 rw[j9 rfl rfl];have p:=A4 (F:=run G T fu k) (δ:=k7 3 [tT rows,.lst (nD I),.lst (nD J)]) (l:=I) (f:=λ i=>.tup (iD (J.map λ j=>(ND i).getD j 0))) (elt:=.bi .tuple [.comp (.ix (Nh 1 (.var 2)) (.var 0)) (.one 0) (.var 1) [none,some 2,some 0]]) (tg:=.one 0) (it:=.var 1) (fr:=[none,some 2,some 0]) rfl MG (e9 d MG) λ i g=>by
  refine⟨[.val (MY (i:Int)),.val (MZ (nD J)),.val Nq],.strong,rfl,W4 (c:=.fresh) ?_,rfl⟩;have a:i<rows.length:=by rw[R.1];exact o i g
  rw[A4 (l:=J) rfl MG (e9 b MG) λ j e=>⟨[.val (MY (j:Int)),.val Nq,.val (MY (i:Int))],.strong,rfl,p6 (p6 (cx:=.strong) (d5 rfl) (d5 rfl) (T2 a)) (d5 rfl) (dZ (by rw[R.2 _ (C6 a)];exact h j e)),rfl⟩];unfold iD;rw[k9];rfl
 unfold uW;refine j7 (j1 (k5 (cl:=.strong) ((W4 p).trans ?_)));unfold tT sub;rw[k9];rfl
noncomputable def kI(rows:MU):on Int:=rows.map λ r=>((rows.idxOf r:Nat):Int)
def gW(rows:MU)(a:rows.length<=1000):run G T fu (k+1) 6 [tT rows]=some (.v (MZ (iD (kI rows))) true):=by
 rw[j9 rfl rfl];unfold uX;have e:=A4 (F:=run G T fu k) (δ:=k7 1 [tT rows]) (elt:=.idx (.var 1) (.var 0)) (tg:=.one 0) (it:=.var 0) (fr:=[none,some 0]) rfl MG (e9 a MG) (λ r b=>⟨[.val (.tup (iD r)),.val Nq],.strong,rfl,Jj (d5 rfl) rfl (d5 rfl) (Ji b a),rfl⟩);have c:(rows.map λ r=>DV.int ((rows.idxOf r:Nat):Int))=iD (kI rows):=by unfold iD kI;rw[k9];rfl
 rw[c]at e;exact j7 (j1 (k5 e))
theorem ny:∀{l:on Int},y∈insI x l↔y=x\/y∈l
 | []=>by simp[insI]
 | z::l=>by
  unfold insI;split
  ·simp
  ·rw[f8,ny,f8];constructor<;>(rintro(h | h | h)<;>simp[h])
theorem gX:∀{l:on Int},y∈D2 l↔y∈l
 | []=>K0
 | z::l=>by unfold D2;rw[ny,gX,f8]
theorem nz{y:Int}:∀{l σ:on Int},y∈l.foldl dk σ↔y∈σ\/y∈l
 | [],σ=>by simp
 | z::l,σ=>by
  rw[jJ,nz,f8];unfold dk;split
  ·rename_i h;constructor
   ·rintro(q | q)
    ·exact .inl q
    ·exact .inr (.inr q)
   ·rintro(q | q | q)
    ·exact .inl q
    ·rw[q];exact .inl h
    ·exact .inr q
  ·rw[x3,s9,or_assoc]
theorem fS:∀{l σ:on Int},(l.foldl dk σ).length<=σ.length+l.length
 | [],σ=>by simp
 | z::l,σ=>by
  rw[jJ,l4];have:=fS (l:=l) (σ:=dk σ z);have h2:(dk σ z).length<=σ.length+1:=by unfold dk;split<;>simp
  omega
theorem bC:∀r:on Int,ints? (iD r)=some r
 | []=>rfl
 | x::r=>by show(ints? (iD r)).map _=_;rw[bC r];rfl
def gY(h:evE G F e δ=some (.ok (MZ (iD r)) c))(hl:r.length<=60):evE G F (.bi .sset [e]) δ=some (.ok (MZ (iD (D2 (r.foldl dk [])))) .fresh):=by
 show Rs.thn _ _=_;rw[d7 h f7];show(match ints? (iD r)with
  | some a=>if a.length<4000/\(a.foldl dk []).length<64 then some _ else none
  | none=>none)=_
 rw[bC];have:=fS (l:=r) (σ:=[]);rw[cj]at this;exact d6 ⟨by omega,by omega⟩
def M9{F:Nat->on DV->Mn Ou}{δ:on Sv}{G:Gs}{a b:ME}{r:on ME}{cx:Cl}{o:Mn Re}(ha:MH a cx (.bl true))(hb:evE G F (.and (b::r)) δ=o):evE G F (.and (a::b::r)) δ=o:=by
 have e:evE G F (.and (a::b::r)) δ=Re.thn (MQ a) (λ x c=>andD x c (I0 G F (b::r) δ)):=rfl;have e2:evE G F (.and (b::r)) δ=I0 G F (b::r) δ:=rfl;rw[e,ha,B2,←e2,hb];rfl
def P4{F:Nat->on DV->Mn Ou}{δ:on Sv}{G:Gs}{a b:ME}{r:on ME}{cx:Cl}(ha:MH a cx (.bl false)):evE G F (.and (a::b::r)) δ=some (.ok (.bl false) cx):=by
 have e:evE G F (.and (a::b::r)) δ=Re.thn (MQ a) (λ x c=>andD x c (I0 G F (b::r) δ)):=rfl;rw[e,ha,B2];rfl
def P5{F:Nat->on DV->Mn Ou}{δ:on Sv}{G:Gs}{a:ME}{o:Mn Re}(ha:evE G F a δ=o):evE G F (.and [a]) δ=o:=by
 have e:evE G F (.and [a]) δ=evE G F a δ:=rfl;rw[e,ha]
def T3(c:tg.bind d δ=some δ1)(b:body δ1=some (.nx a)):l7 tg body (d::r) δ=l7 tg body r a:=by
 show(match tg.bind d δ with | none=>none | some δ1=>match body δ1 with | some (.nx a)=>l7 tg body r a | o=>o)=_;rw[c];show(match body δ1 with | some (.nx a)=>l7 tg body r a | o=>o)=_;rw[b]
theorem vO:∀{a b:on Int},a.Pairwise (· < ·)->b.Pairwise (· < ·)->(∀x,x∈a↔x∈b)->a=b
 | [],[],_,_,_=>rfl
 | [],y::b,_,_,h=>absurd ((h y).mpr (i9 ..)) MP
 | x::a,[],_,_,h=>absurd ((h x).mp (i9 ..)) MP
 | x::a,y::b,d,c,h=>by
  rw[C8]at d c;have e:x=y:=by
   rcases f8.mp ((h x).mp (i9 ..))with z | z
   ·exact z
   ·rcases f8.mp ((h y).mpr (i9 ..))with w | w
    ·exact w.symm
    ·have h1:=d.1 y w;have h2:=c.1 x z;omega
  subst e;rw[vO d.2 c.2 λ z=>?_];constructor
  ·intro q;rcases f8.mp ((h z).mp (j5 _ q))with w | w
   · exact absurd (d.1 _ q) KE
   ·exact w
  ·intro q;rcases f8.mp ((h z).mpr (j5 _ q))with w | w
   · exact absurd (c.1 _ q) KE
   ·exact w
theorem vP:∀{l:on Int},l.Pairwise (· < ·)->x∉l->(insI x l).Pairwise (· < ·)
 | [],_,_=>by simp[insI]
 | y::l,h,b=>by
  rw[C8]at h;unfold insI;split
  ·rename_i q;rw[C8];refine⟨λ z a=>?_,C8.mpr h⟩;rcases f8.mp a with w | w
   ·rwa [w]
   ·have:=h.1 z w;omega
  ·rename_i q;rw[C8];refine⟨λ z a=>?_,vP h.2 λ w=>b (j5 _ w)⟩;rcases ny.mp a with w | w
   ·subst w;have:z≠y:=λ e=>b (by grind)
    omega
   ·exact h.1 z w
theorem vQ:∀{l:on Int},l.Nodup->(D2 l).Pairwise (· < ·)
 | [],_=>List.Pairwise.nil
 | x::l,h=>by
  rw[N7]at h;exact vP (vQ h.2) λ z=>h.1 (gX.mp z)
theorem vR:∀{l c:on Int},c.Nodup->(l.foldl dk c).Nodup
 | [],_,h=>h
 | x::l,c,h=>by
  rw[jJ];refine vR ?_;unfold dk;split
  ·exact h
  ·rename_i q;rw[List.nodup_append];refine⟨h,by simp,λ a f b d e=>?_⟩;rw[s9]at d;subst d e;exact q f
def vS{l:on Int}(a:t.Pairwise (· < ·))(h:∀x,x∈l↔x∈t):D2 (l.foldl dk [])=t:=
 vO (vQ (vR jO)) a λ x=>by rw[gX,nz,←h];simp
def nI(l:on Nat):on Int:=l.map λ (j:Nat)=>(j:Int)
def bD(l:on Nat):iD (nI l)=nD l:=by unfold iD nI nD;rw[k9];rfl
def vT(p:Nat->Bool)(n:Nat):(nI ((ML n).filter p)).Pairwise (· < ·):=by
 unfold nI;rw[List.pairwise_map];refine List.Pairwise.filter _ (List.Pairwise.imp ?_ pC);intro a b h;omega
def vU:x∈nI l↔∃j∈l,(j:Int)=x:=by unfold nI;rw[g9]
noncomputable def FI(rows:MU):on Nat:=(ML rows.length).filter λ r=>rows.idxOf (ND r)==r
def vV{rows:on (on Int)}(h:r∈rows):rows.idxOf r<rows.length:=oR h
def vW{rows:on (on Int)}(h:r∈rows):rows.getD (rows.idxOf r) []=r:=by
 have a:=vV h;rw[i8,i6 a,G5];exact List.getElem_idxOf a
def gZ(rows:MU):D2 ((kI rows).foldl dk [])=nI (FI rows):=by
 refine vS (vT _ _) λ x=>?_;rw[vU];unfold kI FI;rw[g9];constructor
 ·rintro⟨r,a,rfl⟩
  refine⟨rows.idxOf r,k8.mpr ⟨i7.mpr (vV a),?_⟩,rfl⟩;rw[vW a,f0]
 ·rintro⟨j,b,rfl⟩
  obtain⟨d,c⟩:=k8.mp b;exact⟨rows.getD j [],C6 (i7.mp d),by rw[f0.mp c]⟩
def N0(h:i∈FI rows):i<rows.length:=i7.mp (k8.mp h).1
def bE(rows:MU):(Nk).length<=rows.length:=by
 unfold FI;have:=A5 (λ r=>rows.idxOf (ND r)==r) (ML rows.length)
 rwa [q9]at this
def L0(h:0<rows.length):0<(Nk).length:=by
 refine bR (k8.mpr ⟨i7.mpr h,?_⟩);cases rows with
 | nil=>cases h
 | cons r rs=>simp
def eg(rows:MU):(kI rows).length=rows.length:=by unfold kI;rw[d9]
def nA(rows:MU)(n m:Nat)(R:Nd)(c:0<n)(b:n<=1000)(a:m<=1000):run G T fu (k+2) 7 [tT rows]=some (.v (MZ (iD (kI (flip m rows)))) true):=by
 rw[j9 rfl rfl];unfold uY;exact j7 (j1 (k5 (g6 (d7 (g6 rfl rfl (Jm rows n m R c b a)) f7) rfl (gW _ (by rw[(K9 R).1];exact a)))))
def vX(rows:MU)(n m:Nat)(R:Nd)(g:0<n)(a:n<=60)(b:m<=60):run G T fu (k+3) 8 [tT rows]=some (.v (tT (sub rows Nk MT)) false):=by
 rw[j9 rfl rfl];unfold uZ;have c:=K9 R;have f:=gY (F:=run G T fu (k+2)) (δ:=[.val Nq]) (e:=.call 6 [.var 0]) (g6 rfl rfl (gW rows (by rw[R.1];omega))) (by rw[eg,R.1];exact a);have d:=gY (F:=run G T fu (k+2)) (δ:=[.val Nq]) (e:=.call 7 [.var 0]) (g6 rfl rfl (nA rows n m R g KE KE)) (by rw[eg,c.1];exact b);rw[gZ,bD]at f d;have p:=vN (fu:=fu) (k:=k+1) rows n m R Nk MT (λ i o=>by have:=N0 o;rw[R.1]at this;exact this) (λ j h=>by have:=N0 h;rw[c.1]at this;exact this) (by have:=bE rows;rw[R.1]at this;omega) (by have:=bE (flip m rows);rw[c.1]at this;omega);exact j7 (j1 (k5 (g6 (l:=[(tT rows,.strong),(.lst (nD Nk),.fresh),(.lst (nD MT),.fresh)]) (NL (d7 f (d7 d f7))) rfl p)))
def b_le(d:MH a cx (.int i))(c:MH b cy (.int j)):evE G F (.cmp .LtE a b) δ=some (.ok (.bl (decide (i<=j))) .strong):=D6 d c rfl
def sm(a b:Nat):Bool:=decide (a<6)&&decide (b<6)
def Jn(h:0<I.length):∃r a,sub rows I J=r::a/\r.length=J.length:=by
 cases I with
 | nil=>cases h
 | cons i I=>exact⟨_,_,rfl,by simp⟩
def Jo(rows:MU)(n m:Nat)(R:Nd)(o:0<n)(f:n<=60)(g:m<=60):run G T fu (k+4) 9 [tT rows]=some (.v (.bl (sm (Nk).length (MT).length)) false):=by
 rw[j9 rfl rfl];unfold vc;have v:=vX (fu:=fu) (k:=k) rows n m R o f g;obtain⟨r,a,y,z⟩:=Jn (L0 (by rw[R.1];exact o));have p:(sub rows Nk MT).length=(Nk).length:=by unfold sub;rw[d9]
 rw[y]at v p;have x:evE G (MK (k+3)) (.bi .len [.var 1]) [.val Nq,.val (tT (r::a))]=some (.ok (.int (Nk).length) .strong):=by have t:=K8 (F:=run G T fu (k+3)) (δ:=[.val Nq,.val (tT (r::a))]) (e:=.var 1) (ds:=(r::a).map λ r=>.tup (iD r)) (c:=.strong) rfl;rw[d9,p]at t;exact t
 have w:evE G (MK (k+3)) (.bi .len [.ix (.var 1) (.int 0)]) [.val Nq,.val (tT (r::a))]=some (.ok (.int (MT).length) .strong):=(by have t:=K8 (F:=run G T fu (k+3)) (δ:=[.val Nq,.val (tT (r::a))]) (p6 (d5 (n:=1) (d:=tT (r::a)) rfl) (g8 (i:=0)) (T2 (rows:=r::a) (i:=0) MP));rw[show(iD ((r::a).getD 0 [])).length=(MT).length by unfold iD;rw[d9];exact z]at t;exact t);have u:∀h:on Sv,evE G (MK (k+3)) (.glb "SMALL_LINES") h=some (.ok (.int 5) .strong):=λ h=>rfl;refine j7 (f9 (n6 (d:=tT (r::a)) (cl:=.strong) (g6 (l:=[(tT rows,.strong)]) rfl rfl v) rfl) (j1 (k5 (cl:=.strong) ?_)));have b:=b_le x (u _);have j:=b_le w (u _);have B:decide (((Nk).length:Int)<=5)=decide ((Nk).length<6):=by rw[cf];omega
 have A:decide (((MT).length:Int)<=5)=decide ((MT).length<6):=by rw[cf];omega
 rw[B]at b;rw[A]at j;unfold sm;cases q:decide ((Nk).length<6)with
 | true=>rw[q]at b;exact M9 b (P5 j)
 | false=>rw[q]at b;exact P4 b
theorem vY{i:Type}{h f:i->DV}{p:i->Bool}:∀{l:on i},(∀a∈l,g (h a)=some (if p a then .item (f a)else .skip))->x8 g (l.map h)=some ((l.filter p).map f)
 | [],_=>rfl
 | a::l,q=>by
  have d:=q a (i9 ..);have j:=vY (g:=g) (h:=h) (f:=f) (p:=p) (l:=l) λ b k=>q b (j5 _ k);cases e:p a with
  | true=>
   rw[e]at d;show(match g (h a)with | none=>none | some .skip=>x8 g _ | some (.item x)=>match x8 g (l.map h)with | none=>none | some c=>some (x::c))=_;rw[d,X1 e,t9];show(match x8 g (l.map h)with | none=>none | some c=>some (f a::c))=_;rw[j]
  | false=>
   rw[e]at d;show(match g (h a)with | none=>none | some .skip=>x8 g (l.map h) | some (.item x)=>match x8 g (l.map h)with | none=>none | some c=>some (x::c))=_;rw[d,X0 (by rw[e];simp)];exact j
def T4{d:Type}{l:on d}{h f:d->DV}{p:d->Bool}(e:m9 (MQ it)=some (.ok (l.map h) cl))(hc:cl ≠ .weak)(hl:l.length<=l5)
  (q:∀a∈l,∃b,tg.bind (h a) (C3 fr δ)=some b/\tstD (evE G F cd b)=some (.ok (p a))/\∃c,evE G F elt b=some (.ok (f a) c)/\stro (f a) c=true):evE G F (.compi elt tg it cd fr) δ=some (.ok (MZ ((l.filter p).map f)) .fresh):=by
 show Ri.thn _ _=_;rw[e,ln,e7 (by grind),vY (λ a g=>?_)]
 ·rfl
 ·obtain⟨b,m,k,c,j,i⟩:=q a g;rw[m,N6,k,j];cases p a with
  | false=>rfl
  | true=>
   show(if stro (f a) c then some _ else none)=_;rw[d6 i];rfl
noncomputable def WI(rows:MU):on Nat:=(ML 10).filter λ w=>rows.any λ r=>r.any λ x=>x==(w:Int)
def nB(rows:MU)(e:∀r∈rows,∀x∈r,0<=x/\x<=9):D2 (rows.flatten.foldl dk [])=nI (WI rows):=by
 refine vS (vT _ _) λ x=>?_;rw[vU,aD];unfold WI;constructor
 ·rintro⟨r,b,a⟩
  have:=e r b x a;refine⟨x.toNat,k8.mpr ⟨i7.mpr KE,B1.mpr ⟨r,b,B1.mpr ⟨x,a,?_⟩⟩⟩,by omega⟩;rw[f0];omega
 ·rintro⟨j,d,rfl⟩
  obtain⟨_,g⟩:=k8.mp d;obtain⟨r,b,f⟩:=B1.mp g;obtain⟨x,a,c⟩:=B1.mp f;rw[f0]at c;exact⟨r,b,by rw[←c];exact a⟩
def Jp(c:δ[i]? = some (.own (MZ ds)))(h:evE G F e δ=some (MV (.tup a)))(b:ds.length+a.length<=l5):evS G F fu (.ext i e) δ=some (.nx (δ.set i (.own (MZ (ds++a))))):=by
 show(match δ[i]? with | some (.own (.lst ds))=>Re.thnS δ _ _ | _=>none)=_;rw[c];show Re.thnS δ _ _=_;rw[h];show(if Cl.strong=.strong\/Cl.strong=.fresh then(if ds.length+a.length<=l5 then some (Out.nx _)else none)else none)=_;rw[d6 NK,d6 b]
theorem vZ(t:Sv)(j:m<=8):∀(rows:MU) (a:on Int) (c:Sv),(∀r∈rows,r.length=m)->a.length+rows.length*m<=1000->∃e,l7 (.one 2) (λ b=>evSs G F fu [.ext 1 (.var 2)] b) (rows.map λ r=>.tup (iD r)) [t,.own (MZ (iD a)),c]=some (.nx [t,.own (MZ (iD (a++rows.flatten))),e])
 | [],a,c,_,_=>⟨c,by rw[List.flatten_nil,x4];rfl⟩
 | r::rows,a,c,h,k=>by
  have i:=h r (i9 ..);rw[l4,G8,U8]at k;obtain⟨e,g⟩:=vZ t j rows (a++r) _ (λ f d=>h f (j5 _ d)) (by rw[p7,i];omega);refine⟨e,?_⟩;rw[List.flatten_cons,←Q2,←g];refine T3 rfl (f9 (Jp rfl (d5 rfl) ?_) ?_)
  ·unfold iD;rw[d9,d9];exact e9 (show a.length+r.length<=1000 by omega) MG
  ·unfold iD;rw[o7];rfl
theorem wa(m:Nat):∀n,(List.replicate n m).sum=n*m
 | 0=>by simp
 | n+1=>by rw[List.replicate_succ,cA,wa m n,G8,U8,kf]
theorem wb:∀{l:on Int},(insI x l).length=l.length+1
 | []=>rfl
 | z::l=>by unfold insI;split<;>simp[wb]
theorem nC:∀{l:on Int},(D2 l).length=l.length
 | []=>rfl
 | z::l=>by unfold D2;rw[wb,nC,l4]
def hL(rows:MU)(n m:Nat)(R:Nd)(i:n<=8)(c:m<=8)(j:∀r∈rows,∀x∈r,0<=x/\x<=9):run G T fu (k+1) 11 [tT rows]=some (.v (MZ (nD (WI rows))) true):=by
 rw[j9 (fd:=nh) rfl rfl];unfold nh;have nm:n*m<=8*8:=Q5 i c;obtain⟨p,e⟩:=vZ (fu:=fu) (.val Nq) c rows [] .no R.2 (by rw[R.1];simp;omega);rw[eY]at e;have o:∀x∈rows.flatten,0<=x/\x<=9:=λ x g=>by obtain⟨r,h,g⟩:=aD.mp g;exact j r h x g
 have a:(rows.flatten.foldl dk []).length<64/\rows.flatten.length<4000:=by
  have u:=nB rows j;have q:=nC (l:=rows.flatten.foldl dk []);rw[u]at q;have l2:(nI (WI rows)).length<=10:=(by unfold nI WI;rw[d9];exact e9 (A5 _ _) MP);have l3:rows.flatten.length=n*m:=by
   rw[List.length_flatten];have:rows.map List.length=List.replicate n m:=by rw[List.eq_replicate_iff];refine⟨by rw[d9];exact R.1,λ b o=>?_⟩;obtain⟨r,h,rfl⟩:=g9.mp o;exact R.2 r h
   rw[this,wa]
  omega
 have s1:evE G (MK k) (.bi .sset [.var 1]) [.val Nq,.own (MZ (iD rows.flatten)),p]=some (.ok (MZ (nD (WI rows))) .fresh):=by
  show Rs.thn (evEs G (MK k) [.var 1] [.val Nq,.own (MZ (iD rows.flatten)),p]) (λ l=>fM l)=_;rw[d7 (B3 (d:=.lst (iD rows.flatten)) rfl) f7];show(match ints? (iD rows.flatten)with
   | some f=>if f.length<4000/\(f.foldl dk []).length<64 then some (Re.ok (MZ ((D2 (f.foldl dk [])).map DV.int)) .fresh)else none
   | none=>none)=_
  rw[bC];show(if rows.flatten.length<4000/\(rows.flatten.foldl dk []).length<64 then some (Re.ok (MZ (iD (D2 (rows.flatten.foldl dk [])))) .fresh)else none)=_;rw[d6 ⟨a.2,a.1⟩,nB rows j,bD]
 exact j7 (f9 (E5 rfl) (D5 (ds:=rows.map λ r=>.tup (iD r)) (cl:=.strong) rfl NK e (j1 (k5 s1))))
def wc:run G T fu (k+1) 0 [.int x,.int a,.int b]=some (.v (.bl (decide (a<=x)&&decide (x<=b))) false):=by
 rw[j9 rfl rfl];have e:evE G (MK k) (.chain .LtE .LtE (.var 1) (.var 0) (.var 2)) [.val (.int x),.val (.int a),.val (.int b)]=some (.ok (.bl (decide (a<=x)&&decide (x<=b))) .strong):=by show(match some (decide (a<=x))with | none=>none | some false=>some (Re.ok _ .strong) | some true=>(some _).map λ k=>.ok _ .strong)=_;cases decide (a<=x)<;>rfl
 exact j7 (j1 (k5 (M9 rfl (M9 rfl (P5 e)))))
def ei(r o:Nat):Builtin.bitAnd r o=((r &&& o:Nat):Int):=by
 unfold Builtin.bitAnd;rw[o6 (x0 r),o6 (x0 o)];rfl
def wd(o i:Nat):Builtin.bitAnd ((o:Int)/2^((i:Int).toNat)) 1=if o.testBit i then 1 else 0:=by
 have e:(o:Int)/2^((i:Int).toNat)=((o/2^i:Nat):Int):=(by rfl);rw[e,show(1:Int)=((1:Nat):Int)from rfl,ei,Nat.and_one_is_mod,oN];have:o/2^i%2=0\/o/2^i%2=1:=by omega
 rcases this with h | h<;>rw[h]<;>rfl
noncomputable def cs(c:Nat):on Nat:=(ML (c.log2+1)).filter c.testBit
def hV(c:Nat)(h0:0<c)(h:c<2^64):run G T fu (k+1) 4 [.int c]=some (.v (MZ (nD (cs c))) true):=by
 rw[j9 (fd:=ng) rfl rfl];have f:R8 (c:Int)=((c.log2+1:Nat):Int):=by unfold R8;rw[e7 KE,bZ];push_cast;rfl
 have hl:c.log2<64:=(cF KE).mpr h;have a:=BF (G:=G) (F:=run G T fu k) (δ:=k7 1 [.int c]) (elt:=.var 0) (tg:=.one 0) (it:=.rng [.meth .bitLength (.var 0) []]) (fr:=[none,some 0]) (p:=λ d=>match d with | .int i=>c.testBit i.toNat | _=>false) (cl:=.fresh)
  (bx ((by rw[←f];rfl)) KE) MG (by unfold L2.upTo;rw[d9,q9];exact e9 (show c.log2+1<=64 by omega) MG) (λ d hd=>by
   obtain⟨j,hj,rfl⟩:=By hd;rw[show(0:Int)+(j:Int)=j by omega];refine⟨[.val (.int j),.val (.int c)],rfl,?_,rfl⟩;have l:evE G (MK k) (.bin .RShift (.var 1) (.var 0)) [.val (.int j),.val (.int c)]=some (.ok (MY ((c:Int)/2^((j:Int).toNat))) .strong):=v4 (d5 rfl) (d5 rfl) (show(if 0<=(j:Int)then some (Re.ok (MY ((c:Int)/2^((j:Int).toNat))) Cl.strong)else none)=_ from d6 (x0 j));have g:evE G (MK k) (.bin .BitAnd (.bin .RShift (.var 1) (.var 0)) (.int 1)) [.val (.int j),.val (.int c)]=some (.ok (MY (if c.testBit j then 1 else 0)) .strong):=v4 l g8 (by rw[←wd];rfl);have b:∀t:Bool,tstD (some (Re.ok (DV.int (if t=true then 1 else 0)) Cl.strong))=some (Rt.ok t):=λ t=>by cases t<;>rfl
   rw[g];refine(b _).trans ?_;show _=some (Rt.ok (c.testBit (j:Int).toNat));rw[v9])
 have e:(upTo 0 (c.log2+1)).filter (λ d=>match d with | .int i=>c.testBit i.toNat | _=>false)=nD (cs c):=by
  unfold L2.upTo nD cs;rw[List.filter_map];have:((λ d=>match d with | DV.int i=>c.testBit i.toNat | _=>false) ∘ λ (i:Nat)=>DV.int (0+(i:Int)))=c.testBit:=by
   funext j
   show c.testBit ((0:Int)+(j:Int)).toNat=_;rw[show((0:Int)+(j:Int)).toNat=j by omega]
  rw[this];apply z7;intro j _;show DV.int _=DV.int _
  congr 1
  omega
 rw[e]at a;unfold ng;exact j7 (j1 (k5 a))
def Jq{n:Nat}(hn:n<=1000)(h:MH e cl (.int n)):evE G F (.bin .Sub (Oe e) (.int 1)) δ=some (.ok (MY (((2^n:Nat):Int) - 1)) .strong):=by
 refine V5 (cx:=.strong) (v4 g8 h ?_) g8;show(if 0<=_/\_<=1000000/\(1:Int).natAbs<2^64 then some (Re.ok _ Cl.strong)else none)=_;rw[d6 ⟨x0 n,by omega,by decide⟩,v9,R4]
 push_cast
 rfl
def we{n:Nat}(a:n<=1000)(h:run G T fu (k+1) 0 [d,.int 1,.int (((2^n:Nat):Int) - 1)]=some (.v (.bl t) false)):run G T fu (k+2) 3 [d,.int n]=if t then some (.v .non false)else none:=by
 rw[j9 rfl rfl];unfold uV;have q:=fQ (g6 (δ:=k7 2 [d,.int n]) (es:=[.var 0,.int 1,.bin .Sub (Oe (.var 1)) _]) (NL (d7 g8 (d7 (Jq a (d5 rfl)) f7))) rfl h);cases t with
 | true=>exact qE (r9 (j2 q) rfl)
 | false=>
  show Ou.of _=_;unfold evSs;rw[(fO (j2 q))];rfl
def ej(h:c<2^n)(a:j∈cs c):j<n:=by
 unfold cs at a;rw[k8]at a;by_cases q:j<n
 ·exact q
 ·have z:=bQ (o4 h (v7 MG (show n<=j by omega)));rw[z]at a;cases a.2
def hY(h0:0<c)(h:c<2^64):(cs c).length<=1000:=by
 have hl:=(cF KE).mpr h;unfold cs;exact e9 (A5 _ _) (by rw[q9];omega)
def Jr(rows:MU)(n m a b:Nat)(R:Nd)(hn:0<n)(f:n<=64)(h:m<=64)(v:0<a)(u:a<2^n)(p:0<b)(o:b<2^m):run G T fu (k+3) 2 [tT rows,.int a,.int b]=some (.v (tT (sub rows (cs a) (cs b))) false):=by
 rw[j9 rfl rfl];obtain⟨c,rest,rfl⟩:∃c rest,rows=c::rest:=by
  cases rows with
  | nil=>have:=R.1;simp at this;omega
  | cons a b=>exact⟨a,b,rfl⟩
 have r:a<2^64:=o4 u (v7 MG f);have l:b<2^64:=o4 o (v7 MG h);have z:=(by have q:=K8 (F:=run G T fu (k+2)) (δ:=k7 3 [tT (c::rest),.int a,.int b]) (e:=.var 0) rfl;rw[d9,R.1]at q;exact q);have w:=(by have e:evE G (MK (k+2)) (.ix (.var 0) (.int 0)) (k7 3 [tT (c::rest),.int a,.int b])=some (.ok (.tup (iD c)) .strong):=p6 (x:=tT (c::rest)) (y:=.int 0) (d5 rfl) g8 (T2 (rows:=c::rest) (i:=0) MP);have q:=K8 e;rw[show(iD c).length=m by unfold iD;rw[d9,(R.2 c (i9 ..))]]at q;exact q);have E:=we (fu:=fu) (k:=k) (d:=.int a) (n:=n) (t:=true) KE (by rw[wc,o6 KE,o6 KE];rfl);have C:=we (fu:=fu) (k:=k) (d:=.int b) (n:=m) (t:=true) KE (by rw[wc,o6 KE,o6 KE];rfl);have g:=vN (fu:=fu) (k:=k+1) (c::rest) n m R (cs a) (cs b) (λ i B=>ej u B) (λ j A=>ej o A) (hY v r) (hY p l);unfold uU;exact j7 (f9 (fP (g6 (NL (d7 z f7)) rfl E)) (f9 (fP (g6 (NL (d7 w f7)) rfl C)) (j1 (k5 (g6 (d7 (d5 rfl) (d7 (g6 (NL f7) rfl (hV a v r)) (d7 (g6 (NL f7) rfl (hV b p l)) f7))) rfl g)))))
noncomputable def cd(n:Nat):Nat->on Int
 | 0=>[]
 | l+1=>((n/2^l%2:Nat):Int)::cd n l
def wf(h:MH e cl (.int i)):evE G F (.neg e) δ=some (.ok (MY (-i)) .strong):=by
 show Re.thn _ _=_;rw[h];rfl
noncomputable def hd(l:on Nat):DV:=match l with | []=>.non | c::_=>.int c
end k72
end
noncomputable section
namespace k72
open PySem L2
theorem wg{c:Type}{p q:c->Bool}:∀{l:on c},(∀x∈l,p x=true->q x=true)->(l.filter p).length<=(l.filter q).length
 | [],_=>f6 _
 | a::l,h=>by
  have e:=wg λ x f=>h x (j5 _ f);cases b:p a with
  | false=>
   rw[X0 (by rw[b];decide)];cases d:q a with
   | false=>rw[X0 (by rw[d];decide)];exact e
   | true=>rw[X1 d,l4];omega
  | true=>
   rw[X1 b,X1 (h a (i9 ..) b),l4,l4];omega
def wj:∀t,t<10->((ML 10).filter λ w=>w==t).length<=1:=by decide
def N1(h:j∈cs c):c.testBit j=true:=(k8.mp h).2
def P6(h:c.testBit j=true):j∈cs c:=by
 refine k8.mpr ⟨i7.mpr ?_,h⟩;have a:c≠0:=by intro z;rw[z,M1]at h;cases h
 have:=(Nat.le_log2 a).mpr (iM h);omega
def tb5(hc:c<32)(h:c.testBit j=true):j<5:=by
 have h1:=iM h;rcases U7 j 5 with z | z
 ·exact z
 ·have:2^5<=2^j:=v7 MG z;omega
def Sb(h C:Nat):Prop:=0<h/\h<C/\h &&& C=h
def nE:∀C,C<32->∀h,h<32->h &&& C=h->∀j,j<5->(C - h).testBit j=(C.testBit j && !h.testBit j)/\(h.testBit j=true->C.testBit j=true):=by decide +kernel
def Sb.lt(s:Sb h C)(a:C<32):h<32:=Y4 s.2.1 a
def L3(s:Sb h C)(b:C<32)(c:j∈cs (C - h)):j∈cs C/\j∉cs h:=by
 have a:=N1 c;have d:=tb5 KE a;rw[(nE C b h (s.lt b) s.2.2 j d).1,d8]at a;refine⟨P6 a.1,λ z=>?_⟩;rw[N1 z]at a;exact absurd a.2 MG
def Js:∀e d c b a:Bool,∃h∈List.range 32,h.testBit 0=e/\h.testBit 1=d/\h.testBit 2=c/\h.testBit 3=b/\h.testBit 4=a:=by decide +kernel
def Ju(q:Nat->Bool):∃h,h<32/\∀j,j<5->h.testBit j=q j:=by
 obtain⟨h,b,g,f,e,d,c⟩:=Js (q 0) (q 1) (q 2) (q 3) (q 4);refine⟨h,i7.mp b,λ j a=>?_⟩
 match j,a with
 | 0,_=>exact g
 | 1,_=>exact f
 | 2,_=>exact e
 | 3,_=>exact d
 | 4,_=>exact c
def Jv:∀C,C<32->∀h,h<32->(∀j,j<5->h.testBit j=true->C.testBit j=true)->h &&& C=h/\h<=C:=by decide +kernel
def W5:∀c,c<32->0<c->0<(cs c).length:=by decide +kernel
abbrev Mx:=Nat->Nat->Int
def wp(f:Mx)(R C:Nat)(w:Nat):Bool:=(cs R).any λ i=>(cs C).any λ j=>f i j==(w:Int)
def wn(f:Mx)(R C:Nat):Nat:=((ML 10).filter (wp f R C)).length
def em:wp f R C w=true↔∃i j,i∈cs R/\j∈cs C/\f i j=(w:Int):=by
 unfold wp;rw[B1];constructor
 ·rintro⟨i,b,h⟩
  obtain⟨j,a,h⟩:=B1.mp h;exact⟨i,j,b,a,f0.mp h⟩
 ·rintro⟨i,j,b,a,h⟩
  exact⟨i,b,B1.mpr ⟨j,a,f0.mpr h⟩⟩
noncomputable def hv(R:Nat):on Nat:=((ML (R - 1)).map (· + 1)).filter λ h=>h &&& R==h&&decide (h<R - h)
def Jw:∀R,R<32->∀h,h<32->0<h->h<R->h &&& R=h->((hv R).contains h||((hv R).contains (R - h)&&decide (R - (R - h)=h)))=true:=by decide +kernel
def wk(R:Nat)(b:R<32)(h:Nat)(a:h<32)(s:Sb h R):h∈hv R\/(R - h∈hv R/\R - (R - h)=h):=by
 have:=Jw R b h a s.1 s.2.1 s.2.2;rw[B7,d8,E2]at this;rcases this with z | z
 ·exact .inl (M0.mp z)
 ·exact .inr ⟨M0.mp z.1,z.2⟩
def bF(q:h∈hv R):Sb h R/\h<R - h:=by
 obtain⟨c,a⟩:=k8.mp q;obtain⟨i,b,rfl⟩:=g9.mp c;rw[d8,f0,E2]at a;have:=i7.mp b;exact⟨⟨by omega,by omega,a.1⟩,a.2⟩
def wm:∀R,R<32->0<R->hv R=[]->(cs R).length=1:=by decide +kernel
def Jx(n:R<32)(o:C<32)(r:0<R)(s:0<C)(h2:2<=wn f R C):hv R≠[]\/hv C≠[]:=by
 by_cases h:hv R=[]
 ·refine .inr λ p=>?_;obtain⟨i,m⟩:=iV.mp (wm R n r h);obtain⟨j,l⟩:=iV.mp (wm C o s p);have le:wn f R C<=((ML 10).filter λ w=>w==(f i j).toNat).length:=wg λ w _ q=>by obtain⟨a,b,d,c,e⟩:=em.mp q;rw[m,s9]at d;rw[l,s9]at c;subst d c;rw[f0];omega
  by_cases g:(f i j).toNat<10
  ·have:=wj _ g;omega
  ·have:((ML 10).filter λ w=>w==(f i j).toNat)=[]:=eO.mpr λ w k z=>g (by rw[←Y8 z];exact i7.mp k);rw[this]at le;have:wn f R C<=0:=le;omega
 ·exact .inl h
end k72
end
noncomputable section
namespace k72
open PySem L2
variable {fu k:Nat} {F:Nat->on DV->Mn Ou} {δ:on Sv} {ds:on DV} {cl:Cl} {N M:Nat} {R C:Nat}
def hZ{n:Nat}(c:MH b cx (.int n))(hn:n<=1000):m9 (MQ (.rng [.int 1,b]))=some (.ok (upTo 1 (n - 1)) .fresh):=by
 show m9 (Rs.thn (evEs G F [.int 1,b] δ) (λ l=>(rngD l).map λ a=>.ok (.lst a) .fresh))=_;rw[d7 g8 (d7 c f7),cV];have hs:(D3 1&&D3 (n:Int)&&decide ((n:Int) - 1<=(l5:Int)))=true:=by rw[d8,d8,N5];refine⟨⟨by decide,?_⟩,aI (show(n:Int) - 1<=1000 by omega) MG⟩;unfold D3;rw[d8,N5,N5];exact⟨aI MG (x0 n),ji (show(n:Int)<=1000 by omega) MG⟩
 show m9 ((if D3 1&&D3 (n:Int)&&decide ((n:Int) - 1<=(l5:Int))then some (upTo 1 ((n:Int) - 1).toNat)else none).map λ a=>.ok (.lst a) .fresh)=_;rw[d6 hs,show((n:Int) - 1).toNat=n - 1 by omega];rfl
def Jy(n:Nat):upTo 1 n=((ML n).map (· + 1)).map λ (h:Nat)=>DV.int (h:Int):=by
 unfold L2.upTo;rw[k9];apply z7;intro j _;show DV.int _=DV.int _
 congr 1
 simp only[Function.comp];omega
def Jz{i j:Nat}(d:MH a cx (.int i))(c:MH b cy (.int j)):evE G F (.bin .BitAnd a b) δ=some (.ok (MY ((i &&& j:Nat):Int)) .strong):=v4 d c (by show some _=_;rw[ei])
def wq{i j:Nat}(d:MH a cx (.int i))(c:MH b cy (.int j)):evE G F (.cmp .Eq a b) δ=some (.ok (.bl (i==j)) .strong):=by
 rw[b_eq d c]
 congr 3
 rw[M2,f0,f0];omega
def wt(hR:R<32):run G T fu (k+1) 36 [.int R]=some (.v (MZ (nD (hv R))) true):=by
 rw[j9 rfl rfl];unfold vA;have w:=hZ (F:=run G T fu k) (δ:=k7 1 [.int R]) (b:=.var 0) (n:=R) (d5 rfl) KE;rw[Jy]at w;refine j7 (j1 (k5 (T4 w MG (by rw[d9,q9];exact e9 (show R - 1<=1000 by omega) MG) λ h g=>?_)));refine⟨[.val (.int h),.val (.int R)],rfl,?_,.strong,d5 rfl,rfl⟩;obtain⟨i,f,rfl⟩:=g9.mp g;have:=i7.mp f;have c:=wq (F:=run G T fu k) (δ:=[.val (MY ((i+1:Nat):Int)),.val (.int R)]) (Jz (a:=.var 0) (b:=.var 1) (d5 rfl) (d5 rfl)) (d5 (n:=0) rfl);have d:=b_lt (G:=G) (F:=run G T fu k) (δ:=[.val (MY ((i+1:Nat):Int)),.val (.int R)]) (d5 (n:=0) rfl) (V5 (a:=.var 1) (b:=.var 0) (d5 rfl) (d5 rfl));have j:decide (((i+1:Nat):Int)<(R:Int) - ((i+1:Nat):Int))=decide (i+1<R - (i+1)):=by rw[cf];omega
 rw[j]at d;cases q:((i+1) &&& R==i+1)with
 | true=>
  rw[q]at c;rw[M9 c (P5 d)];rfl
 | false=>
  rw[q]at c;rw[P4 c];rfl
def le4m{l:on a}(h:l.length<=4):l.length<=l5:=e9 h MG
abbrev Wy:=DV×Nat×(Nat×Nat)×(Nat×Nat)
noncomputable def wD(a:Wy):DV:=.tup [a.1,.int a.2.1,.tup [.int a.2.2.1.1,.int a.2.2.1.2],.tup [.int a.2.2.2.1,.int a.2.2.2.2]]
def wl(R C:Nat):on Wy:=(hv R).map (λ h=>(.str "row",h,(R - h,C),(h,C)))++(hv C).map (λ h=>(.str "column",h,(R,C - h),(R,h)))
def bG(h:R<32):(hv R).length<=31:=by
 unfold hv;refine e9 (A5 ..) ?_;rw[d9,q9];omega
def wu{b:Nat}(h:b<a):(a:Int) - (b:Int)=((a - b:Nat):Int):=by omega
def JA(d:R<32)(g:C<32):run G T fu (k+2) 35 [.int R,.int C]=some (.v (MZ ((wl R C).map wD)) true):=by
 rw[j9 (fd:=nr) rfl rfl];unfold nr;have r:=g6 (G:=G) (F:=run G T fu (k+1)) (δ:=k7 4 [.int R,.int C]) (f:=36) (es:=[.var 0]) (l:=[(.int R,.strong)]) rfl rfl (wt (k:=k) (fu:=fu) d);have q:=g6 (G:=G) (F:=run G T fu (k+1)) (δ:=[.val (.int R),.val (.int C),.val (MZ ((hv R).map λ h=>wD (.str "row",h,(R - h,C),(h,C)))),.no]) (f:=36) (es:=[.var 1]) (l:=[(.int C,.strong)]) rfl rfl (wt (k:=k) (fu:=fu) g);have n:m9 (evE G (MK (k+1)) (MW 36 0) (k7 4 [.int R,.int C]))=some (.ok ((hv R).map λ (h:Nat)=>DV.int (h:Int)) .fresh):=by rw[r];rfl
 have m:m9 (evE G (MK (k+1)) (MW 36 1) [.val (.int R),.val (.int C),.val (MZ ((hv R).map λ h=>wD (.str "row",h,(R - h,C),(h,C)))),.no])=some (.ok ((hv C).map λ (h:Nat)=>DV.int (h:Int)) .fresh):=by rw[q];rfl
 have p:=A4 (elt:=.tup [.str "row",.var 0,.tup [.bin .Sub (.var 1) (.var 0),.var 2],.tup [.var 0,.var 2]]) (tg:=.one 0) (fr:=[none,some 0,some 1]) n MG (e9 (bG d) MG) λ h c=>
  ⟨[.val (.int h),.val (.int R),.val (.int C)],.strong,rfl,by
   have s:=V5 (G:=G) (F:=run G T fu (k+1)) (δ:=[.val (.int h),.val (.int R),.val (.int C)]) (a:=.var 1) (b:=.var 0) (i:=R) (j:=h) (d5 rfl) (d5 rfl);rw[wu (bF c).1.2.1]at s;exact S4 (d7 lq (d7 (d5 rfl) (d7 (S4 (d7 s (NL f7)) (le4m MP) rfl) (d7 (S4 (d7 (d5 rfl) (NL f7)) (le4m MP) rfl) f7)))) (le4m MP) rfl,rfl⟩
 have o:=A4 (elt:=.tup [.str "column",.var 0,.tup [.var 1,.bin .Sub (.var 2) (.var 0)],.tup [.var 1,.var 0]]) (tg:=.one 0) (fr:=[none,some 0,some 1]) m MG (e9 (bG g) MG) λ h c=>
  ⟨[.val (.int h),.val (.int R),.val (.int C)],.strong,rfl,by
   have s:=V5 (G:=G) (F:=run G T fu (k+1)) (δ:=[.val (.int h),.val (.int R),.val (.int C)]) (a:=.var 2) (b:=.var 0) (i:=C) (j:=h) (d5 rfl) (d5 rfl);rw[wu (bF c).1.2.1]at s;exact S4 (d7 lq (d7 (d5 rfl) (d7 (S4 (NL (d7 s f7)) (le4m MP) rfl) (d7 (S4 (d7 (d5 rfl) (NL f7)) (le4m MP) rfl) f7)))) (le4m MP) rfl,rfl⟩
 refine j7 (f9 (n6 p rfl) (f9 (n6 o rfl) (j1 (k5 (cl:=.fresh) ?_))));refine(v4 (d5 rfl) (d5 rfl) (show binD .Add _ _ .strong .strong=some (.ok (MZ ((wl R C).map wD)) .fresh)from ?_));show(if((hv R).map λ h=>wD (.str "row",h,(R - h,C),(h,C))).length+((hv C).map λ h=>wD (.str "column",h,(R,C - h),(R,h))).length<=l5 then _ else none)=_;rw[d6]
 ·unfold wl;rw[o7,k9,k9];rfl
 ·rw[d9,d9];exact e9 (jQ (bG d) (bG g)) MG
abbrev Tb:=on ((Nat×Nat)×Nat)
def kk(p:Nat×Nat):DKey:=.t [.inl (p.1:Int),.inl (p.2:Int)]
noncomputable def dC(L:Tb):DV:=.dct (L.map λ p=>kk p.1) (L.map λ p=>.int (p.2:Int))
def dD(L:Tb):DV:=.tup [dC L]
def ww(h:kk p=kk q):p=q:=by
 unfold kk at h;obtain⟨a,b⟩:=p;obtain⟨c,d⟩:=q;simp at h;obtain⟨f,e⟩:=h;rw[Int.ofNat.inj f,Int.ofNat.inj e]
theorem wx(q:Nat×Nat):∀L:Tb,Z0 (kk q) (L.map λ p=>kk p.1) (L.map λ p=>.int (p.2:Int))=(L.lookup q).map λ z=>DV.int ((z:Nat):Int)
 | []=>rfl
 | (p,z)::L=>by
  show(if kk p=kk q then some (DV.int _)else Z0 (kk q) _ _)=_;rw[B0];by_cases h:p=q
  ·rw[d6 (by rw[h]),h,U4];rfl
  ·rw[e7 (λ e=>h (ww e)),wx q L,show(q==p)=false from A6.mpr (NV h)]
theorem wy:∀{L:Tb},L.lookup q=none->kk q∉L.map λ p=>kk p.1
 | [],_,h=>by cases h
 | (p,z)::L,e,h=>by
  rw[B0]at e;split at e
  ·cases e
  ·rename_i a;rcases f8.mp h with w | w
   ·rw[ww w,U4]at a;cases a
   ·exact wy e w
def wz{r c z:Nat}(b:δ[i]? = some (.od (dD L)))(h:evE G F e δ=some (.ok (.tup [.int r,.int c]) cx))(a:L.lookup (r,c)=some z):evE G F (.dgp i e) δ=some (.ok (.int z) .strong):=by
 have d:evE G F (.dgp i e) δ=(match δ[i]? with
  | some (.od (.tup [.dct ks vs]))=>Re.thn _ λ y _=>dgpD ks vs y
  | _=>none):=rfl
 rw[d,b];show Re.thn _ _=_;rw[h,B2];show(match Z0 (kk (r,c)) _ (L.map λ p=>.int _)with | some (.int v)=>some _ | _=>none)=_;rw[wx,a];rfl
def wA{r c z:Nat}(m:δ[i]? = some (.od (dD L)))(h:MH e o (.int z))(k:MH a cx (.int r))(j:MH b cy (.int c))(f:L.lookup (r,c)=none)(g:L.length<100000):evS G F fu (.dpp i [a,b] e) δ=some (.nx (δ.set i (.od (dD (L++[((r,c),z)]))))):=by
 have n:evS G F fu (.dpp i [a,b] e) δ=(match δ[i]? with
  | some (.od (.tup [.dct kk vs]))=>Re.thnS δ _ λ d _=>Rs.thnS δ _ λ l=>(dppD i δ kk vs l d).map Out.nx
  | _=>none):=rfl
 rw[n,m];show Re.thnS δ _ _=_;rw[h];show Rs.thnS δ _ _=_;rw[d7 k (d7 j f7)];show((if(L.map λ p=>kk p.1).length<l5 then some (δ.set i (.od (.tup [.dct (putD (kk (r,c)) (.int z) (L.map λ p=>kk p.1) (L.map λ p=>.int (p.2:Int))).1 (putD (kk (r,c)) (.int z) (L.map λ p=>kk p.1) (L.map λ p=>.int (p.2:Int))).2])))else none).map Out.nx)=_;rw[d6 (by rw[d9];exact Y4 g MG)];unfold putD;rw[e7 (wy f)];unfold dD dC;rw[o7,o7];rfl
def wC(e:NA (.fn x))(a:xs.lookup x=some f)(c:NQ)(b:Nl=true)(h:F f (l.map (·.1))=some (.v d false)):evE G F (.callv i xs es) δ=some (.ok d .strong):=by
 show cT G F xs _ δ[i]? = _;rw[e,c];show(match xs.lookup x with
   | some f=>D4 F f l
   | none=>none)=_
 rw[a];show D4 F f l=_;unfold D4;rw[h,b];rfl
theorem wE:∀(r:on Int) (m:Int),(minI m r=m\/minI m r∈r)/\minI m r<=m/\∀x∈r,minI m r<=x
 | [],m=>⟨.inl rfl,cG _,λ x a=>nomatch a⟩
 | y::r,m=>by
  show(minI _ r=m\/minI _ r∈y::r)/\minI _ r<=m/\∀x∈y::r,minI _ r<=x;obtain⟨d,c,b⟩:=wE r (if y<m then y else m);by_cases q:y<m
  ·rw[d6 q]at d c b ⊢;refine⟨.inr ?_,by omega,λ x a=>?_⟩
   ·rcases d with z | z
    ·rw[z];exact i9 ..
    ·exact j5 _ z
   ·rcases f8.mp a with z | z
    ·rw[z];exact c
    ·exact b x z
  ·rw[e7 q]at d c b ⊢;refine⟨?_,c,λ x a=>?_⟩
   ·rcases d with z | z
    ·exact .inl z
    ·exact .inr (j5 _ z)
   ·rcases f8.mp a with z | z
    ·rw[z];omega
    ·exact b x z
theorem wF:∀l:on Nat,ints? (nD l)=some (l.map λ (j:Nat)=>(j:Int))
 | []=>rfl
 | a::l=>by show(ints? (nD l)).map _=_;rw[wF l];rfl
def JB(h:evE G F e δ=some (.ok (MZ (nD l)) cl))(f:l≠[]):∃z∈l,(∀x∈l,z<=x)/\evE G F (.bi .min [e]) δ=some (.ok (MY (z:Nat)) .strong):=by
 cases l with
 | nil=>exact absurd rfl f
 | cons a l=>
  obtain⟨i,g,c⟩:=wE _ a;have k:evE G F (.bi .min [e]) δ=some (.ok (MY (minI a (l.map λ (j:Nat)=>(j:Int)))) .strong):=by rw[vI (d7 h f7)];show(match ints? (nD (a::l))with | some (n::r)=>some _ | _=>_)=_;rw[wF];rfl
  obtain⟨z,b,ez⟩:∃z∈a::l,minI a _=((z:Nat):Int):=by
   rcases i with q | q
   ·exact⟨a,i9 ..,q⟩
   ·obtain⟨z,b,q⟩:=g9.mp q;exact⟨z,j5 _ b,q.symm⟩
  refine⟨z,b,λ x d=>?_,by rw[k,ez]⟩;rw[ez]at g c;rcases f8.mp d with q | q
  ·rw[q];omega
  ·have:=c _ (g9.mpr ⟨x,q,rfl⟩);omega
end k72
end
noncomputable section
namespace k72
open PySem L2
def JC(a b:Nat):run G T fu (k+1) 32 [.int a,.int b]=some (.v (MY ((1+max a b:Nat):Int)) false):=by
 rw[j9 rfl rfl];unfold nj;have m:evE G (MK k) (.bi .max [.var 0,.var 1]) (k7 2 [.int a,.int b])=some (.ok (MY ((max a b:Nat):Int)) .strong):=by
  show some _=_
  congr 3
  by_cases h:(b:Int)>(a:Int)
  ·rw[d6 h];omega
  ·rw[e7 h];omega
 have s:=E6 (g8 (G:=G) (i:=1)) m;rw[show(1:Int)+_=((1+max a b:Nat):Int) by omega]at s;exact j7 (j1 (k5 s))
end k72
end
noncomputable section
namespace k72
open PySem L2
variable {fu k:Nat} {F:Nat->on DV->Mn Ou} {δ:on Sv} {ds:on DV} {cl:Cl} {R C a b:Nat} {rest:on (on Int)} {L:Tb}
def mf(rest:MU):Mx:=λ i j=>(rest.getD i []).getD j 0
def JD(rest:MU)(R C:Nat):WI (sub rest (cs R) (cs C))=(ML 10).filter (wp NZ R C):=by
 unfold WI sub wp mf
 congr 1
 funext w
 rw[fB]
 congr 1
 funext i
 show((cs C).map λ j=>(rest.getD i []).getD j 0).any _=_;rw[fB];rfl
def W9(rest:MU):Prop:=∀r∈rest,∀x∈r,0<=x/\x<=9
def W6{r:on Int}(h:j<r.length):r.getD j 0∈r:=by
 rw[i8,i6 h];exact E4 h
def bH(c:Rect a b rest)(e:W9 rest)(g:i<a)(f:j<b):0<=mf rest i j/\mf rest i j<=9:=by
 have d:=C6 (by rw[c.1];exact g);exact e _ d _ (W6 (by rw[c.2 _ d];exact f))
def er(a:c<2^n)(h:i∈cs c):i<n:=by
 exact(Nat.pow_lt_pow_iff_right (by decide:1<2)).mp (N4 (iM (N1 h)) a)
def p32(h:n<=5):2^n<=32:=v7 MG h
def cs5:∀c,c<32->(cs c).length<=5:=by decide +kernel
def JE(f:Rect a b rest)(e:W9 rest)(h:a<=5)(g:b<=5)(l:0<R)(k:R<2^a)(n:0<C)(m:C<2^b):0<wn NZ R C:=by
 have pa:=p32 h;have pb:=p32 g;obtain⟨i,d⟩:=T6 (W5 R KE l);obtain⟨j,c⟩:=T6 (W5 C KE n);have q:=bH f e (er k d) (er m c);unfold wn;refine bR (a:=(mf rest i j).toNat) (k8.mpr ⟨i7.mpr KE,em.mpr ⟨i,j,d,c,by omega⟩⟩)
def JF(e:Rect a b rest)(h:W9 rest)(A:0<a)(u:a<=5)(q:b<=5)(B:0<R)(f:R<2^a)(E:0<C)(g:C<2^b)(y:δ[3]? = some (.val (tT rest)))(w:δ[5]? = some (MM R))(v:δ[6]? = some (MM C)) :
  evE G (MK (k+3)) (.bi .len [.call 11 [.call 2 [.var 3,.var 5,.var 6]]]) δ=some (.ok (MY (wn (mf rest) R C:Nat)) .strong):=by
 have pa:=p32 u;have pb:=p32 q;have m:Rect (cs R).length (cs C).length (sub rest (cs R) (cs C)):=(by refine⟨by unfold sub;rw[d9],λ r d=>?_⟩;obtain⟨i,_,rfl⟩:=g9.mp d;rw[d9]);have c:W9 (sub rest (cs R) (cs C)):=λ r d x n=>by obtain⟨i,p,rfl⟩:=g9.mp d;obtain⟨j,o,rfl⟩:=g9.mp n;exact bH e h (er f p) (er g o)
 have z:=g6 (G:=G) (d7 (d5 y) (d7 (d5 w) (d7 (d5 v) f7))) rfl (Jr (fu:=fu) (k:=k) rest a b R C e A KE KE B f E g);have l:=T1 (g6 (d7 z f7) rfl (hL _ _ _ m (e9 (cs5 R KE) MG) (e9 (cs5 C KE) MG) c));rw[JD]at l;unfold nD at l;rw[d9]at l;exact l
noncomputable def lnB:on MS:=[.iff (.cmp .Eq (.bi .len [.call 11 [.call 2 [.var 3,.var 5,.var 6]]]) (.int 1)) [.dpp 4 [.var 5,.var 6] (.var 1)] [.set 7 false (.call 35 [.var 5,.var 6]),.dpp 4 [.var 5,.var 6] (.bi .min [.comp (.callv 4 [("joined_bits",32),("joined_ends",33)] [.dgp 5 (.var 2),.dgp 5 (.var 3)]) (.many [0,1,2,3]) (.var 7) [none,none,none,none,some 2,some 4]])]]
structure Jt where
 g:Nat
 j:Nat->Nat->Nat
 nm:Str
abbrev jE:Jt:=⟨1,λ a b=>a+b,"joined_ends"⟩
abbrev jB:Jt:=⟨0,λ a b=>1+max a b,"joined_bits"⟩
abbrev JOk(J:Jt):Prop:=J=jB\/J=jE
def JOk.comm(h:JOk J)(a b:Nat):J.j a b=J.j b a:=by
 rcases h with rfl | rfl
 ·show 1+max a b=1+max b a;omega
 ·exact kf ..
def JG(h:JOk J)(f:NA (.fn J.nm))(c:evEs G (MK (k+1)) es δ=some (.ok [(.int a,.strong),(.int b,.strong)])):evE G (MK (k+1)) (.callv i [("joined_bits",32),("joined_ends",33)] es) δ=some (.ok (MY ((J.j a b:Nat):Int)) .strong):=by
 rcases h with rfl | rfl
 ·exact wC f rfl c rfl (JC a b)
 refine wC f rfl c rfl ?_;rw[j9 rfl rfl];exact j7 (j1 (k5 (E6 (d5 (d:=.int a) rfl) (d5 (d:=.int b) rfl))))
def lnD(J:Jt)(t:DV)(rest:MU)(L:Tb)(x y w:Sv):on Sv:=[.val t,.val (MY J.g),.val (.fn J.nm),.val (tT rest),.od (dD L),x,y,w]
end k72
end
noncomputable section
namespace k72
open PySem L2
def wG{n:Nat}(h:MH e cx (.int n))(hn:n<=1000):evE G F (Oe e) δ=some (.ok (MY ((2^n:Nat):Int)) .strong):=v4 g8 h (by
 show(if 0<=_/\_<=1000000/\(1:Int).natAbs<2^64 then some (Re.ok _ .strong)else none)=_;rw[d6 ⟨by omega,by omega,by decide⟩,v9,R4]
 congr 3)
def lnF:MS:=.fo (.one 6) (.rng [.int 1,.bin .LShift (.int 1) (.bi .len [.ix (.var 3) (.int 0)])]) lnB
def JH:evS G F fu (.sep i) δ=some (.nx (δ.set i (.od (dD [])))):=rfl
def JI(h:δ[i]? = some (.od (dD L))):evS G F fu (.retd i) δ=some (.rt (dC L) false):=by
 have a:evS G F fu (.retd i) δ=(match δ[i]? with
  | some (.od d)=>if isDc d then some (.rt _ false)else none
  | _=>none):=rfl
 rw[a,h];rfl
def nF(rows:MU)(n m:Nat)(d:Nd)(e:0<n)(a:n<=60)(b:m<=60)(h1:(Nk).length<=5)(h2:(MT).length<=5):run G T fu (k+5) 10 [tT rows]=some (.v .non false):=by
 rw[j9 rfl rfl];unfold vd;have c:=g6 (G:=G) (δ:=k7 1 [tT rows]) (es:=[.var 0]) rfl rfl (Jo (fu:=fu) (k:=k) rows n m d e a b);have s:sm (Nk).length (MT).length=true:=by unfold sm;rw[d8,E2,E2];omega
 rw[s]at c;have q:=fQ c;exact qE (r9 (j2 q) rfl)
def rst(m:Nat)(rows:MU):on (on Int):=sub rows Nk MT
theorem wH:∀L:Tb,kvp? (L.map λ p=>kk p.1) (L.map λ p=>.int (p.2:Int))=some (L.map λ p=>(((p.1.1:Int),(p.1.2:Int)),(p.2:Int)))
 | []=>rfl
 | p::L=>by show(kvp? _ _).map _=_;rw[wH L];rfl
noncomputable def tD(p:(Nat×Nat)×Nat):DV:=.tup [.int p.1.1,.int p.1.2,.int p.2]
def wI(L:Tb)(h:L≠[])(a:L.length<=100000):run G T fu (k+1) 29 [dC L]=some (.v (MZ (L.map tD)) true):=by
 rw[j9 rfl rfl];unfold vw;have w:m9 (evE G (MK k) (.itm (.var 0)) (k7 1 [dC L]))=some (.ok (L.map λ p=>.tup [.tup [.int p.1.1,.int p.1.2],.int p.2]) .strong):=by have b:evE G (MK k) (.itm (.var 0)) (k7 1 [dC L])=Re.thn (evE G (MK k) (.var 0) (k7 1 [dC L])) (λ x c=>itmD x c):=rfl;rw[b,d5 rfl,B2];show m9 (if Cl.strong=.strong/\(L.map λ p=>kk p.1).isEmpty=false then(kvp? _ _).map (λ l=>.ok _ .strong)else none)=_;rw[d6 ⟨rfl,by cases L with | nil=>exact absurd rfl h | cons _ _=>rfl⟩,wH];show some _=_;rw[k9];rfl
 refine j7 (j1 (k5 (A4 w MG (e9 a MG) λ p hp=>?_)));refine⟨[.val _,.val _],.strong,rfl,?_,rfl⟩;exact S4 (d7 (p6 (cx:=.strong) (d5 rfl) (g8 (i:=0)) rfl) (d7 (p6 (cx:=.strong) (d5 rfl) (g8 (i:=1)) rfl) (NL f7))) (le4m MP) rfl
def wJ(xs:on DV)(x:DV):ixD (MZ (xs++[x])) (MY (-1))=some x:=by
 show(A0 (xs++[x]).length (-1)).bind _=_;have e:A0 (xs++[x]).length (-1)=some xs.length:=by
  unfold A0;rw[e7 MG,d6 (by rw[p7];simp;omega)];rw[p7]
  congr 1
  simp;omega
 rw[e,N6,P7 (f6 _),fC];rfl
def b_gt{G:Gs}{F:Nat->on DV->Mn Ou}{δ:on Sv}{a b:ME}{i j:Int}{cx cy:Cl}(ha:MH a cx (.int i))(hb:MH b cy (.int j)):evE G F (.cmp .Gt a b) δ=some (.ok (.bl (decide (j<i))) .strong):=D6 ha hb rfl
def N3(h1 : -(2^62)<j)(h2:j<2^62):R7 i j=true:=by
 unfold R7;have e1:(2:Int)^62=4611686018427387904:=MG;have e2:(2:Int)^64=18446744073709551616:=MG;rw[o6 (show -(2^64)<j by omega),o6 (show j<2^64 by omega)];rw[jW,fz,jZ]
abbrev sS(c n:Int)(xs:on Int)(a b d e:Sv):on Sv:=[.val (.int c),.val (.int n),.own (MZ (iD xs)),a,b,d,e]
def JJ(a:on Int)(x:Int):iD a++[DV.int x]=iD (a++[x]):=by unfold iD;rw[o7];rfl
noncomputable def s1:on MS:=[.app 2 (.bin .Mod (.var 3) (MY 306783379)),.set 3 false (.bin .FloorDiv (.var 3) (MY 306783379))]
noncomputable def s2:on MS:=[.set 5 false (.bin .Mod (.bin .Add (.bin .Add (.bin .Mult (.var 5) (MY 48271)) (.bin .Mult (.var 4) (.var 4))) (MY 11)) (MY 2147483647)),.set 6 false (.bin .Add (.bin .Add (.bin .Mult (.bin .FloorDiv (.var 5) (MY 977)) (MY 16807)) (.bin .Mult (.var 5) (.bin .Add (.bin .Mult (.var 4) (.var 4)) (.int 7)))) (.var 4)),.seti 2 (.var 4) (.bin .FloorDiv (.bin .Mod (.var 6) (MY 2147483587)) (.int 7))]
def nG(c:Int)(n:Nat)(hn:n<=100):∃h:on Int,h.length=n/\run G T fu (k+1) 50 [.int c,.int (n:Int)]=some (.v (MZ (iD h)) true):=by
 rw[j9 (fd:=vE) rfl rfl];have w:∀(h:on Int) (a b d e:Sv),m9 (evE G (MK k) (.rng [.var 1]) (sS c n h a b d e))=some (.ok (upTo 0 n) .fresh):=λ h a b d e=>bx (d5 rfl) KE
 have S:∃g,l7 (.one 4) (λ g=>evSs G (MK k) fu s1 g) (upTo 0 n) (sS c n [] (MM c) .no .no .no)=some (.nx g)/\∃h r b,h.length=n/\g=sS c n h (MM r) b .no .no:=(by refine Z2 (i:=4) (I:=λ j v=>∃h r b,h.length=j/\v=sS c n h (MM r) b .no .no) n 0 (λ j L v E=>?_) ⟨[],c,.no,rfl,rfl⟩;obtain⟨h,r,b,o,rfl⟩:=E;refine⟨sS c n (h++[r%306783379]) (MM (r/306783379)) (MM (0+(j:Int))) .no .no,?_,h++[r%306783379],_,_,by rw[p7,o];rfl,rfl⟩;refine f9 (δ':=sS c n (h++[r%306783379]) (MM r) (MM (0+(j:Int))) .no .no) ?_ (f9 (n6 (cY (d5 rfl) g8 MG) rfl) rfl);have:=cX (fu:=fu) (G:=G) (F:=run G T fu k) (i:=2) (δ:=sS c n h (MM r) (MM (0+(j:Int))) .no .no) (ds:=iD h) rfl (J1 (d5 (n:=3) (d:=.int r) rfl) (g8 (i:=306783379)) MG) rfl (by unfold iD;rw[d9,o];exact o4 (show j<1000 by omega) MG);rw[JJ]at this;exact this);obtain⟨g,N,h,r,b,K,rfl⟩:=S;have A:=b_gt (G:=G) (F:=run G T fu k) (δ:=sS c n h (MM r) b .no .no) (d5 (n:=3) (d:=.int r) rfl) (g8 (i:=0));by_cases z:0<r
 ·rw[o6 z]at A;exact⟨h,K,j7 (f9 (E5 (d:=.lst []) rfl) (f9 (n6 (d5 rfl) rfl) (D5 (w [] _ _ _ _) (.inr rfl) N (O6 (j2 A) (j1 (k5 (cl:=.top) (B3 rfl)))))))⟩
 ·rw[o5 z]at A;have R:∃g,l7 (.one 4) (λ g=>evSs G (MK k) fu s2 g) (upTo 0 n) (sS c n h (MM r) b (MM (c%2147483647+48271)) .no)=some (.nx g)/\∃h b q e,h.length=n/\g=sS c n h (MM r) b q e:=by
   have:=Z2 (i:=4) (body:=λ g=>evSs G (MK k) fu s2 g) (I:=λ _ v=>∃h b q e,h.length=n/\v=sS c n h (MM r) b (MM q) e) n 0 (λ j L v E=>?_) (δ:=sS c n h (MM r) b (MM (c%2147483647+48271)) .no) ⟨h,b,_,.no,K,rfl⟩
   ·obtain⟨g,h1,l,C,q,s,o,h2⟩:=this;exact⟨g,h1,l,C,_,s,o,h2⟩
   ·obtain⟨l,C,q,s,o,rfl⟩:=E;rw[fE];have M:(2:Int)^62=4611686018427387904:=MG;have jj:((j:Int)*(j:Int))<=10000:=by
     have h1:j*j<=100*100:=Q5 KE KE;have:((j*j:Nat):Int)<=10000:=by omega
     rw[fe]at this;exact this
    have j0:0<=(j:Int)*(j:Int):=jR (x0 j) (x0 j);obtain⟨D,y⟩:∃D,sS c n l (.val (.int r)) (.val (.int (j:Int))) (.val (.int q)) s=D:=Nb;have J:evE G (MK k) (.var 4) D=some (.ok (MY (j:Int)) .strong):=by rw[←y];exact d5 rfl
    have Q:evE G (MK k) (.var 5) D=some (.ok (.int q) .strong):=by rw[←y];exact d5 rfl
    have P:=J1 (E6 (E6 (E7 Q (g8 (i:=48271)) (N3 KE KE)) (E7 J J (N3 KE KE))) (g8 (i:=11))) (g8 (i:=2147483647)) MG;obtain⟨p,X⟩:∃p,(q*48271+(j:Int)*(j:Int)+11)%2147483647=p:=Nb;rw[X]at P;obtain⟨x,m⟩:∃x,sS c n l (.val (.int r)) (.val (.int (j:Int))) (.val (.int p)) s=x:=Nb;have B:evE G (MK k) (.var 4) x=some (.ok (MY (j:Int)) .strong):=by rw[←m];exact d5 rfl
    have H:evE G (MK k) (.var 5) x=some (.ok (.int p) .strong):=by rw[←m];exact d5 rfl
    have O:=E6 (E6 (E7 (cY H (g8 (i:=977)) MG) (g8 (i:=16807)) (N3 KE KE)) (E7 H (E6 (E7 B B (N3 KE KE)) (g8 (i:=7))) (N3 KE KE))) B;obtain⟨u,W⟩:∃u,p/977*16807+p*((j:Int)*(j:Int)+7)+(j:Int)=u:=Nb;rw[W]at O;refine⟨sS c n (l.set j (u%2147483587/7)) (MM r) (MM (j:Int)) (MM p) (MM u),?_,l.set j (u%2147483587/7),_,_,_,by rw[A7];exact o,rfl⟩;show evSs G (MK k) fu s2 (sS c n l (MM r) (MM (j:Int)) (MM q) s)=_;rw[y];refine f9 (δ':=x) (by rw[n6 P rfl,←y,←m];rfl) (f9 (δ':=sS c n l (MM r) (MM (j:Int)) (MM p) (MM u)) (by rw[n6 O rfl,←m];rfl) (f9 ?_ rfl));have st:=qH (fu:=fu) (G:=G) (F:=run G T fu k) (i:=2) (k:=.var 4) (δ:=sS c n l (MM r) (MM (j:Int)) (MM p) (MM u)) (ds:=iD l) (j:=j) rfl (cY (J1 (d5 (n:=6) (d:=.int u) rfl) (g8 (i:=2147483587)) MG) (g8 (i:=7)) MG) (d5 rfl) rfl (nu (by unfold iD;rw[d9,o];exact L));have Y:(iD l).set j (DV.int (u%2147483587/7))=iD (l.set j (u%2147483587/7)):=by unfold iD;rw[List.map_set]
    rw[Y]at st;exact st
  obtain⟨g,M,l,C,q,s,U,rfl⟩:=R;exact⟨l,U,j7 (f9 (E5 (d:=.lst []) rfl) (f9 (n6 (d5 rfl) rfl) (D5 (w [] _ _ _ _) (.inr rfl) N (r9 (j2 A) (f9 (n6 (E6 (J1 (d5 rfl) g8 MG) g8) rfl) (D5 (w h _ _ _ _) (.inr rfl) M (j1 (k5 (cl:=.top) (B3 rfl)))))))))⟩
end k72
end
noncomputable section
namespace k72
open PySem L2
variable {fu k:Nat} {F:Nat->on DV->Mn Ou} {δ:on Sv} {ds:on DV} {cl:Cl} {n m:Nat} {f:Nat->Nat->Int} {d:DV}
def Look(d:DV)(n m:Nat)(f:Nat->Nat->Int):Prop:=∀i,i<n->∃x,ixD d (MY (i:Int))=some x/\∀j,j<m->ixD x (MY (j:Int))=some (MY (f i j))
noncomputable def at2(rows:MU)(i j:Nat):Int:=(ND i).getD j 0
def ib(R:Nd)(h:i<n):(ND i).length=m:=R.2 _ (C6 (by rw[R.1];exact h))
def nH(R:Nd):Look Nq n m (at2 rows):=λ i a=>⟨_,T2 (by rw[R.1];exact a),λ j b=>dZ (by rw[ib R a];exact b)⟩
def ak{i j:Nat}(L:Look d n m f)(l:evE G F a δ=some (MV d))(k:MH b r (.int (i:Int)))(h:MH e q (.int (j:Int)))(g:i<n)(c:j<m):evE G F (.ix (.ix a b) e) δ=some (.ok (MY (f i j)) .strong):=by
 obtain⟨x,p,o⟩:=L i g;exact p6 (p6 l k p) h (o j c)
def b_ne(d:MH a cx (.int i))(c:MH b cy (.int j)):evE G F (.cmp .NotEq a b) δ=some (.ok (.bl (i != j)) .strong):=D6 d c rfl
def JK(ds:on DV)(h:Nat):cutD ds (some (h:Int)) none=ds.drop h:=by
 unfold cutD slIx;dsimp only;rw[e7 KE,v9];by_cases q:h<=ds.length
 ·rw[ff q,iT (by grind)]
 ·rw[Nat.min_eq_right KE,jy,List.take_nil,pE KE]
def JM{h:Nat}(e:MH a c (.lst ds))(d:MH b c1 (.int (h:Int))):evE G F (.slf a b) δ=some (.ok (MZ (ds.drop h)) (Cl.anew c c)):=by
 show Re.thn _ _=_;rw[e,B2];show Re.thn _ _=_;rw[d,B2,←JK];rfl
def wK(d:MH a cx (.lst x))(c:MH b cy (.lst y))(h:x.length+y.length<=1000):evE G F (.bin .Add a b) δ=some (.ok (MZ (x++y)) (Cl.anew cx cy)):=
 v4 d c (d6 (e9 h MG))
theorem nJ:∀{l:on (on Int)} {j:Nat},l[j]? = some a->l.idxOf a<=j
 | [],j,h=>by simp at h
 | x::l,0,h=>by
  have:x=a:=by simpa using h
  subst this;rw[List.idxOf_cons_self];exact f6 _
 | x::l,j+1,h=>by
  rw[eK]at h;have q:=nJ h;rw[List.idxOf_cons];cases x==a with
  | true=>exact u9 _
  | false=>show l.idxOf a+1<=j+1;omega
def JN(h:j<m):(flip m rows).getD j []=col rows j:=by
 unfold flip;rw[i8,n7,T9 h];rfl
def am:(flip m rows).length=m:=by unfold flip;rw[d9,q9]
def JO{i j:Nat}(d:MH a cx (.int (i:Int)))(c:MH b cy (.int (j:Int))):evE G F (.cmp .Eq a b) δ=some (.ok (.bl (i==j)) .strong):=by
 have q:=b_eq d c;rw[show(_==_)=(i==j) by rw[M2,f0,f0];omega]at q;exact q
def or_f{F:Nat->on DV->Mn Ou}{δ:on Sv}{G:Gs}{a b:ME}{r:on ME}{cx:Cl}{o:Mn Re}(ha:MH a cx (.bl false))(hb:evE G F (.or (b::r)) δ=o):evE G F (.or (a::b::r)) δ=o:=by
 show Re.thn (MQ a) (λ x c=>orD x c (MQ (.or (b::r))))=o;rw[ha];exact hb
def or_1{F:Nat->on DV->Mn Ou}{δ:on Sv}{G:Gs}{a:ME}{o:Mn Re}(ha:evE G F a δ=o):evE G F (.or [a]) δ=o:=by
 exact ha
theorem wL{b:Type}[BEq b][LawfulBEq b]:∀{l S:on b},l.Nodup->(∀x∈l,x∈S)->l.length<=S.length
 | [],_,_,_=>u9 _
 | a::l,S,h,hs=>by
  obtain⟨g,f⟩:=N7.mp h;have c:=hs a (i9 ..);have q:=wL (S:=S.erase a) f λ x d=>(List.mem_erase_of_ne (λ e=>g (by grind))).mpr (hs x (j5 _ d))
  rw[iO c]at q;have:=bR c;rw[l4];omega
def JP(g:Nat->Nat->Int):Rect n m ((ML n).map λ r=>(ML m).map (g r)):=by
 refine⟨by rw[d9,q9],λ r a=>?_⟩;obtain⟨i,_,rfl⟩:=g9.mp a;rw[d9,q9]
def lst1(h:Na e (.ok d c))(hs:stro d c=true):evE G F (.lst [e]) δ=some (.ok (.lst [d]) .fresh):=bA (d7 h f7) (show 1<=l5 by decide) (by unfold stros;simp[hs])
def wM(e:MH a cx (.int i))(d:MH b cy (.int j))(c:0<=j):evE G F (.bin .RShift a b) δ=some (.ok (MY (i/2^j.toNat)) .strong):=
 v4 e d (d6 c)
def lenT(R:Nd)(h:evE G F e δ=some (MV (tT rows))):evE G F (.bi .len [e]) δ=some (.ok (MY (n:Int)) .strong):=by
 have q:=K8 h;rw[d9,R.1]at q;exact q
def wO(R:Nd)(b:0<n)(h:evE G F e δ=some (MV (tT rows))):evE G F (.bi .len [.ix e (.int 0)]) δ=some (.ok (MY (m:Int)) .strong):=by
 have a:0<rows.length:=by rw[R.1];exact b
 have t:=K8 (p6 h (g8) (T2 a));rw[show(iD _).length=m by unfold iD;rw[d9];exact R.2 _ (C6 a)]at t;exact t
end k72
end
noncomputable section
namespace k72
open PySem L2
noncomputable def minN:on Nat->Nat
 | []=>0
 | x::r=>if r.isEmpty then x else min x (minN r)
theorem ic:∀{l:on Nat},l≠[]->minN l∈l/\∀x∈l,minN l<=x
 | [],h=>absurd rfl h
 | [x],_=>⟨by simp[minN],by simp[minN]⟩
 | x::y::r,_=>by
  obtain⟨c,b⟩:=ic (l:=y::r) MP;have e:minN (x::y::r)=min x _:=rfl;rw[e];refine⟨?_,λ z a=>?_⟩
  ·by_cases q:x<=minN (y::r)
   ·rw[ff q];exact i9
   ·rw[Nat.min_eq_right KE];exact j5 _ c
  ·rcases f8.mp a with q | q
   ·rw[q];exact jI ..
   ·exact e9 (Nat.min_le_right ..) (b z q)
def JQ(c:z∈l)(d:∀x∈l,z<=x):z=minN l:=by
 obtain⟨a,b⟩:=ic (l:=l) (by rintro rfl;cases c);exact Nat.le_antisymm (d _ a) (b _ c)
def stp(J:Jt)(f:Mx)(V:Nat->Nat->Nat)(R C:Nat):Nat:=if wn f R C=1 then J.g else minN ((wl R C).map λ w=>J.j (V w.2.2.1.1 w.2.2.1.2) (V w.2.2.2.1 w.2.2.2.2))
def zZ(J:Jt)(f:Mx):Nat->Nat->Nat->Nat
 | 0,_,_=>0
 | n+1,R,C=>stp J f (zZ J f n) R C
def ie(h:w∈wl R C):(∃g,Sb g R/\g<R - g/\w.2.2=((R - g,C),(g,C)))\/∃g,Sb g C/\g<C - g/\w.2.2=((R,C - g),(R,g)):=by
 unfold wl at h;rcases x3.mp h with q | q
 ·obtain⟨g,a,rfl⟩:=g9.mp q;exact .inl ⟨g,(bF a).1,(bF a).2,rfl⟩
 ·obtain⟨g,a,rfl⟩:=g9.mp q;exact .inr ⟨g,(bF a).1,(bF a).2,rfl⟩
def wP(h:w∈wl R C):w.2.2.1.1+w.2.2.1.2<R+C/\w.2.2.2.1+w.2.2.2.2<R+C:=by
 rcases ie h with⟨g,s,_,e⟩ | ⟨g,s,_,e⟩
 ·rw[e];have:=s.1;have:=s.2.1;dsimp only;omega
 ·rw[e];have:=s.1;have:=s.2.1;dsimp only;omega
def wQ{V:Nat->Nat->Nat}(h:∀r c,r+c<R+C->V r c=W r c):stp J f V R C=stp J f W R C:=by
 unfold stp;split
 ·rfl
 ·congr 1
  apply z7;intro w d;obtain⟨a,b⟩:=wP d;rw[h _ _ a,h _ _ b]
theorem nK(f:Mx):∀(N n R C:Nat),n<=N->R+C<=n->zZ J f n R C=zZ J f (R+C) R C
 | 0,n,R,C,b,a=>by rw[show R+C=n by omega]
 | N+1,n,R,C,b,a=>by
  by_cases e:R+C=n
  ·rw[e]
  ·obtain⟨m,rfl⟩:∃m,n=m+1:=⟨n - 1,by omega⟩;cases hk:R+C with
   | zero=>
    obtain rfl:R=0:=by omega
    obtain rfl:C=0:=by omega
    show stp J f _ 0 0=0;unfold stp;split
    ·rename_i h;have:wn f 0 0=0:=rfl;omega
    ·rfl
   | succ k=>
    show stp J f _ R C=stp J f _ R C;exact wQ λ r c h=>by rw[nK f N m r c KE KE,nK f N k r c KE KE]
def V(J:Jt)(f:Mx)(R C:Nat):Nat:=zZ J f (R+C) R C
def V_eq(f:Mx)(h:0<R+C):V J f R C=stp J f (V J f) R C:=by
 unfold V;cases hk:R+C with
 | zero=>omega
 | succ k=>
  show stp J f _ R C=_;exact wQ λ r c h=>nK f k k r c (f6 _) KE
def r1(n:Nat):on Nat:=(ML (n - 1)).map (· + 1)
def bI:j∈r1 n↔0<j/\j<n:=by
 unfold r1;rw[g9];constructor
 ·rintro⟨i,h,rfl⟩;have:=i7.mp h;omega
 ·rintro⟨h1,h2⟩;exact⟨j - 1,i7.mpr KE,by omega⟩
def wR(h:0<c):r1 (c+1)=r1 c++[c]:=by
 unfold r1;obtain⟨d,rfl⟩:∃d,c=d+1:=⟨c - 1,by omega⟩;rw[show d+1+1 - 1=d+1 by omega,show d+1 - 1=d by omega,Y0,o7];rfl
noncomputable def ps(b r c:Nat):on (Nat×Nat):=(r1 r).flatMap (λ i=>(r1 (2^b)).map λ j=>(i,j))++(r1 c).map λ j=>(r,j)
def eu:q∈ps b r c↔(0<q.1/\q.1<r/\0<q.2/\q.2<2^b)\/(q.1=r/\0<q.2/\q.2<c):=by
 unfold ps;rw[x3,X8,g9];constructor
 ·rintro(⟨i,h1,h2⟩ | ⟨j,h,rfl⟩)
  ·obtain⟨j,a,rfl⟩:=g9.mp h2;have:=bI.mp h1;have:=bI.mp a;exact .inl ⟨by omega,by omega,by omega,by omega⟩
  ·exact .inr ⟨rfl,bI.mp h⟩
 ·rintro(⟨h1,h2,a,h4⟩ | ⟨h1,h2,a⟩)
  ·exact .inl ⟨q.1,bI.mpr ⟨h1,h2⟩,g9.mpr ⟨q.2,bI.mpr ⟨a,h4⟩,rfl⟩⟩
  ·exact .inr ⟨q.2,bI.mpr ⟨h2,a⟩,by rw[←h1]⟩
def JR(h:0<c):ps b r (c+1)=ps b r c++[(r,c)]:=by
 unfold ps;rw[wR h,o7,Q2];rfl
def nL(h:0<r):ps b (r+1) 1=ps b r (2^b):=by
 unfold ps;rw[wR h,List.flatMap_append];show _++[]=_;rw[x4]
 congr 1
 simp
def JS(b:Nat):ps b 1 1=[]:=rfl
def wT(n:Nat):(r1 n).length=n - 1:=by unfold r1;rw[d9,q9]
theorem nM(b:Nat):∀d,(ps b (d+1) 1).length=d*(2^b - 1)
 | 0=>by rw[JS];simp
 | d+1=>by
  have e:ps b (d+1) (2^b)=ps b (d+1) 1++(r1 (2^b)).map λ j=>(d+1,j):=by unfold ps;rw[Q2];rfl
  rw[nL KE,e,p7,d9,wT,nM b d,Nat.succ_mul]
def tbl(J:Jt)(f:Mx)(b r c:Nat):Tb:=(ps b r c).map λ p=>(p,V J f p.1 p.2)
theorem wU{V:Nat×Nat->Nat}:∀l:on (Nat×Nat),(l.map λ p=>(p,V p)).lookup q=if q∈l then some (V q)else none
 | []=>rfl
 | p::l=>by
  rw[t9,B0];by_cases e:q=p
  ·subst e;simp
  ·rw[show(q==p)=false from A6.mpr e];show(l.map λ p=>_).lookup q=_;rw[wU l];simp[e]
def nN(q:Nat×Nat):(tbl J f b r c).lookup q=if q∈ps b r c then some (V J f q.1 q.2)else none:=wU _
def wV(f:Mx)(b r c:Nat):(tbl J f b r c).length=(ps b r c).length:=d9 ..
def wW(a:b<=5)(R0:0<R)(hR:R<=32)(hC:C<=32):(ps b R C).length<=1000:=by
 have e:ps b R C=ps b R 1++(r1 C).map λ j=>(R,j):=by unfold ps;rw[Q2];rfl
 obtain⟨d,rfl⟩:∃d,R=d+1:=⟨R - 1,by omega⟩;rw[e,p7,d9,wT,nM];have pb:=p32 a;have:d*(2^b - 1)<=31*31:=Q5 KE KE;omega
def JT(c:0<C)(a:C<2^b)(R0:0<R)(h:w∈wl R C):w.2.2.1∈ps b R C/\w.2.2.2∈ps b R C:=by
 rcases ie h with⟨g,s,_,e⟩ | ⟨g,s,_,e⟩
 ·have:=s.1;have:=s.2.1;rw[e];exact⟨eu.mpr (.inl ⟨by dsimp only;omega,by dsimp only;omega,c,a⟩),eu.mpr (.inl ⟨by dsimp only;omega,by dsimp only;omega,c,a⟩)⟩
 ·have:=s.1;have:=s.2.1;rw[e];exact⟨eu.mpr (.inr ⟨rfl,by dsimp only;omega,by dsimp only;omega⟩),eu.mpr (.inr ⟨rfl,by dsimp only;omega,by dsimp only;omega⟩)⟩
def wv(J:Jt)(f:Mx)(w:Wy):Nat:=J.j (V J f w.2.2.1.1 w.2.2.1.2) (V J f w.2.2.2.1 w.2.2.2.2)
def wX(h:0<C):tbl J f b R (C+1)=tbl J f b R C++[((R,C),V J f R C)]:=by
 unfold tbl;rw[JR h,o7];rfl
def wY(d:R<32)(e:C<32)(h:0<R)(i:0<C)(g:2<=wn f R C):wl R C≠[]:=by
 intro a;unfold wl at a;obtain⟨c,b⟩:=List.append_eq_nil_iff.mp a;rcases Jx d e h i g with q | q
 ·exact q (jd.mp c)
 ·exact q (jd.mp b)
def JU{rest:on (on Int)}(O:JOk J)(t:DV)(v:Rect a b rest)(u:W9 rest)(Q:0<a)(n:a<=5)(m:b<=5)(g:0<R)(A:R<2^a)(j:0<C)(s:C<2^b)(w:Sv) :
  ∃E,evSs G (MK (k+3)) fu lnB (lnD J t rest (tbl J NZ b R C) (MM R) (MM C) w)=some (.nx (lnD J t rest (tbl J NZ b R (C+1)) (MM R) (MM C) E)):=by
 have pa:=p32 n;have pb:=p32 m;have o:R<32:=by omega
 have p:C<32:=by omega
 have f:(tbl J NZ b R C).length<100000:=by rw[wV];have:=wW (b:=b) (R:=R) (C:=C) m g KE KE;omega
 have x:(tbl J NZ b R C).lookup (R,C)=none:=by
  rw[nN,e7 λ z=>?_];rcases eu.mp z with q | q
  ·have:=q.2.1;dsimp only at this;omega
  ·have:=q.2.2;dsimp only at this;omega
 have r:=JF (fu:=fu) (k:=k) (δ:=lnD J t rest (tbl J NZ b R C) (MM R) (MM C) w) v u Q n m g A j s rfl rfl rfl;have c:=wq r (g8 (i:=((1:Nat):Int)));have B:=JE v u n m g A j s;have d:=V_eq (J:=J) NZ (R:=R) (C:=C) KE;unfold stp at d;rw[wX j];by_cases h1:wn NZ R C=1
 ·rw[h1]at c;rw[d6 h1]at d;rw[d];exact⟨w,cW (j2 c) (f9 (wA (z:=J.g) rfl (d5 rfl) (d5 rfl) (d5 rfl) x f) rfl) rfl⟩
 ·have H:=A6.mpr h1;rw[H]at c;rw[e7 h1]at d;have h2:2<=wn NZ R C:=by omega
  have P:=A4 (F:=run G T fu (k+3)) (δ:=lnD J t rest (tbl J NZ b R C) (MM R) (MM C) (.val (MZ ((wl R C).map wD)))) (l:=wl R C) (h:=wD) (elt:=.callv 4 [("joined_bits",32),("joined_ends",33)] [.dgp 5 (.var 2),.dgp 5 (.var 3)]) (tg:=.many [0,1,2,3]) (it:=.var 7) (fr:=[none,none,none,none,some 2,some 4]) (cl:=.strong) rfl MG
   (by unfold wl;rw[p7,d9,d9];exact e9 (jQ (bG o) (bG p)) MG) λ w M=>by obtain⟨K,I⟩:=JT j s g M;refine⟨[.val w.1,.val (MY w.2.1),.val _,.val _,.val (.fn J.nm),.od _],.strong,rfl,?_,rfl⟩;exact JG (k:=k+2) O rfl (d7 (wz rfl (d5 rfl) (by rw[nN,d6 K])) (d7 (wz rfl (d5 rfl) (by rw[nN,d6 I])) f7))
  have ne:(wl R C).map (wv J NZ)≠[]:=λ z=>wY o p g j h2 (jd.mp z);obtain⟨z,L,N,y⟩:=JB ((by rw[P];unfold nD;rw[k9];rfl)) ne;rw[JQ L N,show minN ((wl R C).map (wv J NZ))=V J NZ R C from d.symm]at y;exact⟨_,qF (j2 c) (f9 (n6 (g6 rfl rfl (JA o p)) rfl) (f9 (wA (z:=V J NZ R C) rfl y (d5 rfl) (d5 rfl) x f) rfl)) rfl⟩
def JV{rest:on (on Int)}(m:JOk J)(t:DV)(g:Rect a b rest)(f:W9 rest)(o:0<a)(l:a<=5)(i:b<=5)(q:0<R)(p:R<2^a)(y w:Sv) :
  ∃δ',l7 (.one 6) (λ δ'=>evSs G (MK (k+3)) fu lnB δ') (upTo 1 (2^b - 1)) (lnD J t rest (tbl J NZ b R 1) (MM R) y w)=some (.nx δ')/\∃d c,δ'=lnD J t rest (tbl J NZ b R (2^b - 1+1)) (MM R) d c:=by
 refine Z2 (I:=λ j δ'=>∃d c,δ'=lnD J t rest (tbl J NZ b R (j+1)) (MM R) d c) _ 1 (λ j hj δ h=>?_) ⟨y,w,rfl⟩;obtain⟨d,c,rfl⟩:=h;obtain⟨w2,e⟩:=JU m t g f o l i q p (C:=j+1) KE KE c;have n:(lnD J t rest (tbl J NZ b R (j+1)) (MM R) d c).set 6 (MM (1+(j:Int)))=lnD J t rest (tbl J NZ b R (j+1)) (MM R) (MM ((j+1:Nat):Int)) c:=by show lnD J t rest _ (MM R) (MM (1+(j:Int))) c=_;rw[show(1:Int)+_=((j+1:Nat):Int) by omega]
 exact⟨_,by rw[n];exact e,_,_,rfl⟩
def JW{rest:on (on Int)}(s:JOk J)(t:DV)(g:Rect a b rest)(q:W9 rest)(o:0<a)(r:a<=5)(n:b<=5)(x y w:Sv) :
  ∃δ',l7 (.one 5) (λ δ'=>evSs G (MK (k+3)) fu [lnF] δ') (upTo 1 (2^a - 1)) (lnD J t rest [] x y w)=some (.nx δ')/\∃f c d,δ'=lnD J t rest (tbl J NZ b (2^a - 1+1) 1) f c d:=by
 have pb:=p32 n;have b1:=Y2 b;refine Z2 (I:=λ j δ'=>∃f c d,δ'=lnD J t rest (tbl J NZ b (j+1) 1) f c d) _ 1 (λ j hj δ h=>?_) ⟨x,y,w,rfl⟩;obtain⟨f,c,d,rfl⟩:=h;obtain⟨p,e,y2,w2,rfl⟩:=JV s t g q o r n (R:=j+1) KE KE c d;rw[show 2^b - 1+1=2^b by omega]at e;have v:(lnD J t rest (tbl J NZ b (j+1) 1) f c d).set 5 (MM (1+(j:Int)))=lnD J t rest (tbl J NZ b (j+1) 1) (MM ((j+1:Nat):Int)) c d:=(by show lnD J t rest (tbl J NZ b (j+1) 1) (MM (1+(j:Int))) c d=_;rw[show(1:Int)+(j:Int)=((j+1:Nat):Int) by omega]);have u:tbl J NZ b (j+1) (2^b)=tbl J NZ b (j+1+1) 1:=by unfold tbl;rw[nL KE]
 rw[u]at e;have l:0<rest.length:=by rw[g.1];exact o
 have m:=K8 (F:=run G T fu (k+3)) (δ:=lnD J t rest (tbl J NZ b (j+1) 1) (MM ((j+1:Nat):Int)) c d) (p6 (a:=.var 3) (b:=.int 0) (cx:=.strong) (d5 rfl) (g8 (i:=((0:Nat):Int))) (T2 l));rw[show(iD (rest.getD 0 [])).length=b by unfold iD;rw[d9];exact g.2 _ (C6 l)]at m;exact⟨_,by rw[v];exact D5 (hZ (wG m KE) KE) (.inr rfl) e rfl,_,_,_,rfl⟩
def ft(J:Jt)(m:Nat)(rows:MU):Tb:=tbl J (mf (rst m rows)) (MT).length (2^(Nk).length) 1
def wZ:Rect (Nk).length (MT).length (rst m rows):=by
 refine⟨by unfold rst sub;rw[d9],λ r a=>?_⟩;obtain⟨i,_,rfl⟩:=g9.mp a;rw[d9]
def xa(a:Nd)(b:W9 rows):W9 (rst m rows):=λ r d x c=>by
 obtain⟨i,f,rfl⟩:=g9.mp d;obtain⟨j,e,rfl⟩:=g9.mp c;have:=N0 f;have:=N0 e;rw[(K9 a).1]at this;exact bH a b (by rw[←a.1];omega) this
def xc(j:JOk J)(rows:MU)(n m:Nat)(d:Nd)(i:W9 rows)(f:0<n)(b:n<=60)(c:m<=60)(h1:(Nk).length<=5)(h2:(MT).length<=5) :
  run G T fu (k+6) 34 [tT rows,.int J.g,.fn J.nm]=some (.v (dC (ft J m rows)) false):=by
 have a:=wZ (m:=m) (rows:=rows);obtain⟨h,e,x',y',w',rfl⟩:=JW j _ a (xa d i) (L0 (by rw[d.1];exact f)) h1 h2 .no .no .no;have a1:=Y2 (Nk).length;rw[show 2^(Nk).length - 1+1=2^(Nk).length by omega]at e;have pa:=p32 h1;rw[j9 rfl rfl];have g:=K8 (F:=run G T fu (k+5)) (δ:=lnD J Nq (rst m rows) [] .no .no .no) (e:=.var 3) rfl;rw[d9,a.1]at g;show Ou.of _=_;exact j7 (f9 (fP (g6 rfl rfl (nF rows n m d f b c h1 h2))) (f9 (n6 (g6 rfl rfl (vX rows n m d f b c)) rfl) (f9 JH (D5 (hZ (wG g KE) KE) (.inr rfl) e (j1 (JI rfl))))))
def ig(d:0<(Nk).length)(c:0<(MT).length):∃L,ft J m rows=L++[((2^(Nk).length - 1,2^(MT).length - 1),V J (mf (rst m rows)) (2^(Nk).length - 1) (2^(MT).length - 1))]:=by
 unfold ft;generalize (Nk).length=A at *;generalize (FI _).length=B at *;have a1:=e9 (by decide:2<=2^1) (v7 MG d);have b1:=e9 (by decide:2<=2^1) (v7 MG c);have e:=wX (J:=J) (f:=mf (rst m rows)) (b:=B) (R:=2^A - 1) (C:=2^B - 1) KE;rw[show 2^B - 1+1=2^B by omega]at e;have a:tbl J (mf (rst m rows)) B (2^A) 1=tbl J (mf (rst m rows)) B (2^A - 1) (2^B):=by have:=nL (b:=B) (r:=2^A - 1) KE;rw[show 2^A - 1+1=2^A by omega]at this;unfold tbl;rw[this]
 exact⟨_,a.trans e⟩
def xf(b:(Nk).length<=5)(a:(MT).length<=5):(ft J m rows).length=(2^(Nk).length - 1)*(2^(MT).length - 1)/\(ft J m rows).length<=1000:=by
 unfold ft;rw[wV];have c:=Y2 (Nk).length;refine⟨?_,wW a c (p32 b) KE⟩;have:=nM (MT).length (2^(Nk).length - 1)
 rwa [show 2^(Nk).length - 1+1=2^(Nk).length by omega]at this
def JX(rows:MU)(n m:Nat)(a:Nd)(h:W9 rows)(g:0<n)(b:n<=60)(i:0<m)(d:m<=60)(h1:(Nk).length<=5)(h2:(MT).length<=5) :
  run G T fu (k+8) 28 [tT rows]=some (.v (MZ ((ft jE m rows).map tD)) true):=by
 have e:=xc (fu:=fu) (k:=k) (.inr rfl) rows n m a h g b d h1 h2;rw[j9 rfl rfl];unfold vt;have c:=g6 (G:=G) (F:=run G T fu (k+7)) (δ:=k7 1 [tT rows]) (f:=31) (es:=[.var 0]) rfl rfl ((by rw[j9 rfl rfl];unfold vy;exact j7 (j1 (k5 (g6 rfl rfl e)))));obtain⟨L,j⟩:=ig (L0 (by rw[a.1];exact g)) (L0 (by rw[(K9 a).1];exact i));exact j7 (j1 (k5 (g6 (d7 c f7) rfl (wI _ (by rw[j];simp) (by have:=(xf (J:=jE) (m:=m) h1 h2).2;omega)))))
def JY(rows:MU)(n m:Nat)(a:Nd)(j:W9 rows)(f:0<n)(b:n<=60)(g:0<m)(d:m<=60)(h1:(Nk).length<=5)(h2:(MT).length<=5) :
  run G T fu (k+9) 38 [tT rows]=some (.v (.int (V jE (mf (rst m rows)) (2^(Nk).length - 1) (2^(MT).length - 1):Nat)) false):=by
 have h:=JX (fu:=fu) (k:=k) rows n m a j f b g d h1 h2;obtain⟨L,l⟩:=ig (L0 (by rw[a.1];exact f)) (L0 (by rw[(K9 a).1];exact g));rw[l]at h;rw[j9 rfl rfl];unfold vC;generalize 2^(Nk).length - 1=A at *;generalize 2^(FI _).length - 1=B at *;have c:=g6 (G:=G) (δ:=k7 1 [tT rows]) (es:=[.var 0]) rfl rfl h;rw[o7]at c;exact j7 (j1 (k5 (p6 (cx:=.strong) (p6 c (wf (g8 (i:=1))) (wJ _ _)) (g8 (i:=2)) rfl)))
def JZ(rows:MU)(n m:Nat)(a:Nd)(h:W9 rows)(g:0<n)(b:n<=60)(i:0<m)(d:m<=60)(h1:(Nk).length<=5)(h2:(MT).length<=5) :
  run G T fu (k+8) 27 [tT rows]=some (.v (MZ ((ft jB m rows).map tD)) true):=by
 have e:=xc (fu:=fu) (k:=k) NK rows n m a h g b d h1 h2;rw[j9 rfl rfl];unfold vq;have c:=g6 (G:=G) (F:=run G T fu (k+7)) (δ:=k7 1 [tT rows]) (f:=30) (es:=[.var 0]) rfl rfl ((by rw[j9 rfl rfl];unfold vx;exact j7 (j1 (k5 (g6 rfl rfl e)))));obtain⟨L,j⟩:=ig (L0 (by rw[a.1];exact g)) (L0 (by rw[(K9 a).1];exact i));exact j7 (j1 (k5 (g6 (d7 c f7) rfl (wI _ (by rw[j];simp) (by have:=(xf (J:=jB) (m:=m) h1 h2).2;omega)))))
def Ka(rows:MU)(n m:Nat)(a:Nd)(j:W9 rows)(f:0<n)(b:n<=60)(g:0<m)(d:m<=60)(h1:(Nk).length<=5)(h2:(MT).length<=5) :
  run G T fu (k+9) 37 [tT rows]=some (.v (.int (V jB (mf (rst m rows)) (2^(Nk).length - 1) (2^(MT).length - 1):Nat)) false):=by
 have h:=JZ (fu:=fu) (k:=k) rows n m a j f b g d h1 h2;obtain⟨L,l⟩:=ig (L0 (by rw[a.1];exact f)) (L0 (by rw[(K9 a).1];exact g));rw[l]at h;rw[j9 rfl rfl];unfold vB;generalize 2^(Nk).length - 1=A at *;generalize 2^(FI _).length - 1=B at *;have c:=g6 (G:=G) (δ:=k7 1 [tT rows]) (es:=[.var 0]) rfl rfl h;rw[o7]at c;exact j7 (j1 (k5 (p6 (cx:=.strong) (p6 c (wf (g8 (i:=1))) (wJ _ _)) (g8 (i:=2)) rfl)))
def Kb(a b:Int):cmpD .NotEq (.int a) (.int b)=some (!(a==b)):=rfl
def Kc(b:tg.bind d δ=some δ1)(a:body δ1=some (.rt v fr)):l7 tg body (d::r) δ=some (.rt v fr):=by
 show(match tg.bind d δ with | none=>none | some δ1=>match body δ1 with | some (.nx δ2)=>l7 tg body r δ2 | o=>o)=_;rw[b];show(match body δ1 with | some (.nx δ2)=>l7 tg body r δ2 | o=>o)=_;rw[a]
def Kd{G:Gs}{F:Nat->on DV->Mn Ou}{δ:on Sv}{fu:Nat}{tg:Tg}{it:ME}{ds:on DV}{cl:Cl}{body r:on MS}{d:DV}{fr:Bool}(hw:m9 (MQ it)=some (.ok ds cl))(hc:cl=.strong\/cl=.fresh)(h:l7 tg (λ δ'=>evSs G F fu body δ') ds δ=some (.rt d fr)):evSs G F fu (.fo tg it body::r) δ=some (.rt d fr):=by
 refine j1 ?_;have e:evS G F fu (.fo tg it body) δ=Ri.thnS δ (m9 (MQ it)) (λ ds c=>if c=.strong\/c=.fresh then l7 tg (λ δ'=>evSs G F fu body δ') ds δ else none):=rfl;rw[e,hw,Bv,d6 hc,h]
def xg(a0:0<a)(h:a<2^n):cs a=(ML n).filter a.testBit:=by
 unfold cs
 have hl:=(cF KE).mpr h
 obtain⟨d,rfl⟩:∃d,n=a.log2+1+d:=⟨n - (a.log2+1),by omega⟩
 conv=>rhs;rw[List.range_add,X6]
 have:((ML d).map (λ x=>a.log2+1+x)).filter a.testBit=[]:=by
  rw[eO]
  intro j b
  obtain⟨x,_,rfl⟩:=g9.mp b
  rw[bQ (o4 Nat.lt_log2_self (v7 MG (E3 _ _)))]
  exact w9
 rw[this,x4]
def Ke(r:on Int):(iD r).length=r.length:=by unfold iD;rw[d9]
def Kf(R:Nd)(b:0<n)(h:MH x c (tT rows)):evE G F (.bi .len [.ix x (.int 0)]) δ=some (.ok (MY (m:Nat)) .strong):=by
 have a:0<rows.length:=by rw[R.1];exact b
 have q:=K8 (p6 h g8 (T2 a));rw[Ke,R.2 _ (C6 a)]at q;exact q
def xh(R:Nd)(h:MH x c (tT rows)):evE G F (.bi .len [x]) δ=some (.ok (MY (n:Nat)) .strong):=by
 have q:=K8 h;rw[d9,R.1]at q;exact q
def bs(l:on Nat):Nat:=(l.map λ c=>2^c).sum
def Kg(a b:on Nat):bs (a++b)=bs a+bs b:=by unfold bs;rw[o7,List.sum_append]
theorem bs_f(p:Nat->Bool):∀n,bs ((ML n).filter p)<2^n/\∀j,(bs ((ML n).filter p)).testBit j=(decide (j<n)&&p j)
 | 0=>⟨by simp[bs],λ j=>by simp[bs]⟩
 | n+1=>by
  obtain⟨h1,b⟩:=bs_f p n;rw[Y0,X6,Kg];by_cases a:p n=true
  ·have e:bs ([n].filter p)=2^n:=by simp[bs,a]
   rw[e];refine⟨by rw[Q9];omega,λ j=>?_⟩;rw[kf];rcases eW j n with h | h | h
   ·rw[Nat.testBit_two_pow_add_gt h,b j];simp[show j<n by omega,show j<n+1 by omega]
   ·subst h;rw[Nat.testBit_two_pow_add_eq,b j];simp[a]
   ·have:2^n+bs ((ML n).filter p)<2^j:=by
     refine o4 KE (v7 MG h)
    rw[bQ this];simp[show ¬j<n+1 by omega]
  ·have e:bs ([n].filter p)=0:=by simp[bs,a]
   rw[e];refine⟨by rw[Q9];omega,λ j=>?_⟩;rw[Nat.add_zero,b j];rcases eW j n with h | h | h
   ·simp[show j<n by omega,show j<n+1 by omega]
   ·subst h;simp[a]
   ·simp[show ¬j<n by omega,show ¬j<n+1 by omega]
def eC:bs l=0↔l=[]:=by
 cases l with
 | nil=>simp[bs]
 | cons a l=>
  have:0<2^a:=Nat.pow_pos MG;simp only[bs,t9,cA];constructor
  ·intro h;omega
  ·intro h;cases h
def nP(h:(ML n).filter p≠[]):cs (bs ((ML n).filter p))=(ML n).filter p:=by
 rw[xg (X7 λ z=>h (eC.mp z)) (bs_f p n).1];apply az;intro j a;rw[(bs_f p n).2 j,o6 (i7.mp a),Q6]
def Kh(b:0<S)(h:S<2^n):bs (cs S)=S:=by
 rw[xg b h];apply eS;intro j;rw[(bs_f _ n).2 j];by_cases a:j<n
 ·rw[o6 a,Q6]
 ·rw[o5 a,jM,bQ (o4 h (v7 MG KE))]
def Ki(a:0<S)(h:S<2^n):cs S≠[]:=λ z=>by
 have:=Kh a h;rw[z]at this;simp[bs]at this;omega
section
variable (rows:MU) (w:Int) (n m:Nat)
def jp(I:on Nat)(c:Nat):Bool:=I.all λ r=>mf rows r c==w
def rp(J:on Nat)(r:Nat):Bool:=J.all λ c=>mf rows r c==w
def JL(S:Nat):on Nat:=(ML m).filter (jp rows w (cs S))
def RL(J:on Nat):on Nat:=(ML n).filter (rp rows w J)
def good(S:Nat):Bool:=!(JL rows w m S).isEmpty&&bs (RL rows w n (JL rows w m S))==S
def pr(S:Nat):Int×Int:=((S:Int),((bs (JL rows w m S):Nat):Int))
def al:on Nat:=(ML (2^n - 1)).map (· + 1)
def wdl:on (Int×Int):=((al n).filter (good rows w n m)).map (pr rows w m)
def mp(S:Nat):Int×Int:=(((bs (RL rows w n (JL rows w m S)):Nat):Int),((bs (JL rows w m S):Nat):Int))
end
def nQ:S∈al n↔0<S/\S<2^n:=by
 unfold al;rw[g9];constructor
 ·rintro⟨j,h,rfl⟩;rw[i7]at h;omega
 ·intro h;exact⟨S - 1,i7.mpr KE,by omega⟩
def xi(f:0<S)(h:S<2^n)(hJ:JL rows w m S≠[]):∃b,0<b/\b<2^n/\bs (RL rows w n (JL rows w m S))=b/\JL rows w m b=JL rows w m S:=by
 have sub:∀r∈cs S,r∈RL rows w n (JL rows w m S):=λ r a=>by refine k8.mpr ⟨i7.mpr (ej h a),u4.mpr λ c d=>?_⟩;exact u4.mp (k8.mp d).2 r a
 have ne:RL rows w n _≠[]:=λ z=>by obtain⟨r,a⟩:=iN _ (Ki f h);have:=sub r a;rw[z]at this;cases this
 refine⟨_,X7 λ z=>ne (eC.mp z),(bs_f _ n).1,rfl,?_⟩;have e:cs (bs (RL rows w n _))=RL rows w n _:=nP ne;unfold JL at e ⊢;rw[e];apply az;intro c d;rw[M2];constructor
 ·intro z;refine u4.mpr λ r a=>u4.mp z r (sub r a)
 ·intro z;refine u4.mpr λ r a=>?_
  exact u4.mp (k8.mp a).2 c (k8.mpr ⟨d,z⟩)
def nR:good rows w n m S=true↔JL rows w m S≠[]/\bs (RL rows w n (JL rows w m S))=S:=by
 unfold good;rw[d8,f0,t4,oX]
theorem xj{b:Type}{p:b->Bool}:∀l:on b,bools? (l.map λ w=>DV.bl (p w))=some (l.map p)
 | []=>rfl
 | a::r=>by show bools? (DV.bl (p a)::r.map λ w=>DV.bl (p w))=_;unfold bools?;rw[(xj r)];rfl
def xk{a:Type}{p:a->Bool}{l:on a}(h:evE G F e δ=some (.ok (MZ (l.map λ w=>DV.bl (p w))) cl)):evE G F (.bi .all [e]) δ=some (.ok (.bl (l.all p)) .strong):=by
 show Rs.thn _ _=_;rw[d7 h f7];show(bools? _).map _=_;rw[xj];show some (Re.ok _ .strong)=_;rw[List.all_map];rfl
theorem xl:∀l:on Nat,ints? (l.map λ (x:Nat)=>DV.int (x:Int))=some (l.map λ (x:Nat)=>(x:Int))
 | []=>rfl
 | a::l=>by show(ints? _).map _=_;rw[(xl l)];rfl
theorem xm:∀l:on Nat,(l.map λ (x:Nat)=>(x:Int)).sum=((l.sum:Nat):Int)
 | []=>rfl
 | a::l=>by rw[t9,cA,cA,xm l];rfl
def xn{l:on Nat}(h:evE G F e δ=some (.ok (MZ (l.map λ (x:Nat)=>DV.int (x:Int))) c)):evE G F (.bi .sum [e]) δ=some (.ok (MY ((l.sum:Nat):Int)) .strong):=by
 show Rs.thn _ _=_;rw[d7 h f7];show(ints? _).map _=_;rw[xl,F5,xm]
def xp(R:Nd)(d:r<n)(f:c<m)(h:MH a c1 (tT rows))(g:MH b l (.int (r:Int)))(e:MH x j (.int (c:Int))):∃i,evE G F (.ix (.ix a b) x) δ=some (.ok (MY (mf rows r c)) i):=
 ⟨_,p6 (p6 h g (T2 (by rw[R.1];exact d))) e (dZ (by rw[R.2 _ (C6 (by rw[R.1];exact d))];exact f))⟩
def nS{j:Nat}(hj:j<=1000)(h:MH e c (.int (j:Int))):evE G F (Oe e) δ=some (.ok (MY ((2^j:Nat):Int)) .strong):=by
 refine v4 g8 h ?_;show(if 0<=_/\_<=1000000/\(1:Int).natAbs<2^64 then some _ else none)=_;rw[d6 ⟨x0 j,by omega,by decide⟩,v9,R4]
 push_cast
 rfl
def two8(hn:n<=8)(h:S<2^n):S<2^64:=o4 h (v7 MG KE)
def Kj(R:Nd)(f:0<n)(i:n<=8)(o:m<=8){S:Nat}(h:0<S)(s1:S<2^n):run G T fu (k+2) 19 [tT rows,.int S,.int w]=some (.v (MY ((bs (JL rows w m S):Nat):Int)) false):=by
 rw[j9 rfl rfl];have st:=hV (fu:=fu) (k:=k) S h (two8 i s1);unfold vi;refine j7 (f9 (n6 (d:=.lst (nD (cs S))) (cl:=.fresh) (g6 (d7 (d5 (n:=1) (d:=.int S) rfl) f7) rfl st) rfl) (j1 (k5 (cl:=.strong) ?_)));have s:=T4 (F:=run G T fu (k+1)) (δ:=[.val Nq,.val (.int S),.val (.int w),.val (MZ (nD (cs S)))]) (p:=jp rows w (cs S)) (elt:=.bin .LShift (.int 1) (.var 0)) (tg:=.one 0) (it:=.rng [.bi .len [.ix (.var 0) (.int 0)]])
  (cd:=.bi .all [.comp (.cmp .Eq (.ix (Nh 1 (.var 0)) (.var 2)) (.var 3)) (.one 0) (.var 1) [none,some 2,some 0,some 3]]) (fr:=[none,some 3,some 0,some 2]) (cl:=.fresh)
  (gV (Kf R f (d5 rfl)) KE) MG (by rw[q9];exact e9 o MG) (λ c q=>by
   have g:=i7.mp q;refine⟨[.val (.int c),.val _,.val Nq,.val (.int w)],rfl,?_,.strong,nS KE (d5 rfl),rfl⟩;refine j2 (xk (cl:=.fresh) (l:=cs S) ?_);refine A4 (l:=cs S) (cl:=.strong) rfl MG (e9 (hY h (two8 i s1)) MG) (λ r j=>?_);obtain⟨c4,e⟩:=xp (δ:=[.val (.int r),.val Nq,.val (.int c),.val (.int w)]) R (ej s1 j) g (a:=.var 1) (b:=.var 0) (x:=.var 2) (d5 rfl) (d5 rfl) (d5 rfl);exact⟨_,.strong,rfl,b_eq e (d5 rfl),rfl⟩)
 have:=xn (c:=.fresh) (by rw[k9];exact s);exact this
def Kk(R:Nd)(j:0<n)(o:n<=8)(h:m<=8){C:Nat}(g:0<C)(s1:C<2^m):run G T fu (k+2) 20 [tT rows,.int C,.int w]=some (.v (MY ((bs (RL rows w n (cs C)):Nat):Int)) false):=by
 rw[j9 rfl rfl];have st:=hV (fu:=fu) (k:=k) C g (two8 h s1);unfold vj;refine j7 (f9 (n6 (d:=.lst (nD (cs C))) (cl:=.fresh) (g6 (d7 (d5 (n:=1) (d:=.int C) rfl) f7) rfl st) rfl) (j1 (k5 (cl:=.strong) ?_)));have s:=T4 (F:=run G T fu (k+1)) (δ:=[.val Nq,.val (.int C),.val (.int w),.val (MZ (nD (cs C)))]) (p:=rp rows w (cs C)) (elt:=.bin .LShift (.int 1) (.var 0)) (tg:=.one 0) (it:=.rng [.bi .len [.var 0]])
  (cd:=.bi .all [.comp (.cmp .Eq (.ix (Nh 1 (.var 2)) (.var 0)) (.var 3)) (.one 0) (.var 1) [none,some 2,some 0,some 3]]) (fr:=[none,some 3,some 0,some 2]) (cl:=.fresh)
  (gV (xh R (d5 rfl)) KE) MG (by rw[q9];exact e9 o MG) (λ r i=>by
   have f:=i7.mp i;refine⟨[.val (.int r),.val (MZ (nD (cs C))),.val Nq,.val (.int w)],rfl,?_,.strong,nS KE (d5 rfl),rfl⟩;refine j2 (xk (cl:=.fresh) (l:=cs C) ?_);refine A4 (l:=cs C) (cl:=.strong) rfl MG (e9 (hY g (two8 h s1)) MG) (λ c q=>?_);obtain⟨c4,e⟩:=xp (δ:=[.val (.int c),.val Nq,.val (.int r),.val (.int w)]) R f (ej s1 q) (a:=.var 1) (b:=.var 2) (x:=.var 0) (d5 rfl) (d5 rfl) (d5 rfl);exact⟨_,.strong,rfl,b_eq e (d5 rfl),rfl⟩)
 have:=xn (c:=.fresh) (by rw[k9];exact s);exact this
noncomputable def pD(l:on (Int×Int)):on DV:=l.map λ p=>.tup [.int p.1,.int p.2]
noncomputable def wB:on MS:=[.set 4 false (.call 19 [.var 0,.var 3,.var 1]),.iff (.and [.cmp .NotEq (.var 4) (.int 0),.cmp .Eq (.call 20 [.var 0,.var 4,.var 1]) (.var 3)]) [.app 2 (.tup [.var 3,.var 4])] []]
def Km(j:Nat):(ML (j+1)).map (· + 1)=(ML j).map (· + 1)++[j+1]:=by rw[Y0,o7];rfl
def Kn(R:Nd)(p:0<n)(y:n<=8)(K:m<=8):run G T fu (k+3) 18 [tT rows,.int w]=some (.v (MZ (pD (wdl rows w n m))) true):=by
 rw[j9 (fd:=ni) rfl rfl];have h8:2^n<=2^8:=v7 MG y;obtain⟨M,h1,h,g,rfl⟩:=Z2 (i:=3) (I:=λ j J=>∃h g:Sv,J=[.val Nq,.val (.int w),.own (.lst (pD ((((ML j).map (· + 1)).filter (good rows w n m)).map (pr rows w m)))),h,g])
  (body:=λ x=>evSs G (MK (k+2)) fu wB x) (2^n - 1) 1
  (λ j hj J I=>by
   obtain⟨h,g,rfl⟩:=I;rw[show(1:Int)+(j:Int)=((j+1:Nat):Int) by omega];have s1:j+1<2^n:=by omega
   have Q:=Kj (fu:=fu) (k:=k) (w:=w) R p y K (S:=j+1) KE s1;obtain⟨L,B⟩:∃L,(((List.range j).map (· + 1)).filter (good rows w n m)).map (pr rows w m)=L:=Nb;have A:L.length<=255:=(by rw[←B,d9];refine e9 (A5 ..) ?_;rw[d9,q9];omega);rw[B,Km,X6,o7,B];have s:∀z:Sv,evE G (MK (k+2)) (.cmp .NotEq (.var 4) (.int 0)) [.val Nq,.val (.int w),.own (MZ (pD L)),.val (MY ((j+1:Nat):Int)),.val (MY ((bs (JL rows w m (j+1)):Nat):Int))]=some (.ok (.bl (!(Nv).isEmpty)) .strong):=λ z=>by have E:(((bs Nv:Nat):Int)==0)=(Nv).isEmpty:=(by rw[M2,f0,List.isEmpty_iff];rw[show(((bs Nv:Nat):Int)=0↔bs Nv=0) by omega];exact eC);refine D6 (d5 rfl) g8 ?_;rw[Kb,E]
   have l:∃b,evSs G (MK (k+2)) fu [.iff (.and [.cmp .NotEq (.var 4) (.int 0),.cmp .Eq (.call 20 [.var 0,.var 4,.var 1]) (.var 3)]) [.app 2 (.tup [.var 3,.var 4])] []] [.val Nq,.val (.int w),.own (MZ (pD L)),.val (MY ((j+1:Nat):Int)),.val (MY ((bs (JL rows w m (j+1)):Nat):Int))]=some (.nx b)/\∃h g:Sv,b=[.val Nq,.val (.int w),.own (MZ (pD (L++([j+1].filter (good rows w n m)).map (pr rows w m)))),h,g]:=by
    have u:=s .no;by_cases r:JL rows w m (j+1)=[]
    ·have c:good rows w n m (j+1)=false:=by unfold good;rw[r];rfl
     have N:(Nv).isEmpty=true:=by rw[r];rfl
     rw[N]at u;refine⟨_,r9 (j2 (P4 u)) rfl,.val (MY ((j+1:Nat):Int)),.val (MY ((bs (JL rows w m (j+1)):Nat):Int)),?_⟩;rw[X0 (by rw[c];decide),fg,fy,x4]
    ·have o:(Nv).isEmpty=false:=oX.mpr r;rw[o]at u;have U:0<bs (JL rows w m (j+1)):=X7 λ z=>r (eC.mp z);have H:bs Nv<2^m:=(bs_f _ m).1;have r1:=Kk (fu:=fu) (k:=k) (w:=w) R p y K U H;have C:cs (bs Nv)=JL rows w m (j+1):=nP r;rw[C]at r1;have v:evE G (MK (k+2)) (.cmp .Eq (.call 20 [.var 0,.var 4,.var 1]) (.var 3)) [.val Nq,.val (.int w),.own (MZ (pD L)),.val (MY ((j+1:Nat):Int)),.val (MY ((bs (JL rows w m (j+1)):Nat):Int))]=some (.ok (.bl (good rows w n m (j+1))) .strong):=(by have q:=b_eq (g6 (G:=G) (F:=run G T fu (k+2)) (δ:=[.val Nq,.val (.int w),.own (MZ (pD L)),.val (MY ((j+1:Nat):Int)),.val (MY ((bs (JL rows w m (j+1)):Nat):Int))]) (f:=20) (d7 (d5 (n:=0) (d:=tT rows) rfl) (d7 (d5 (n:=4) (d:=.int ((bs Nv:Nat):Int)) rfl) (d7 (d5 (n:=1) (d:=.int w) rfl) f7))) rfl r1) (d5 (n:=3) (d:=.int ((j+1:Nat):Int)) rfl);have E:(((bs (RL rows w n Nv):Nat):Int)==((j+1:Nat):Int))=good rows w n m (j+1):=(by unfold good;rw[o,Bool.not_false,Q6,M2,f0,f0];omega);rw[q,E]);cases c:good rows w n m (j+1)with
     | false=>
      rw[c]at v;refine⟨_,r9 (j2 (M9 u (P5 v))) rfl,.val (MY ((j+1:Nat):Int)),.val (MY ((bs (JL rows w m (j+1)):Nat):Int)),?_⟩;rw[X0 (by rw[c];decide),fg,fy,x4]
     | true=>
      rw[c]at v;refine⟨_,cW (j2 (M9 u (P5 v))) (f9 (cX (cl:=.strong) (ds:=pD L) rfl rfl rfl (by unfold pD;rw[d9];exact N4 A MG)) rfl) rfl,.val (MY ((j+1:Nat):Int)),.val (MY ((bs (JL rows w m (j+1)):Nat):Int)),?_⟩;rw[X1 c,fg];unfold pD;rw[o7];rfl
   obtain⟨b,P,O⟩:=l;exact⟨b,f9 (n6 (d:=.int ((bs Nv:Nat):Int)) (cl:=.strong) (g6 (d7 (d5 (n:=0) (d:=tT rows) rfl) (d7 (d5 (n:=3) (d:=.int ((j+1:Nat):Int)) rfl) (d7 (d5 (n:=1) (d:=.int w) rfl) f7))) rfl Q) rfl) P,O⟩) ⟨.no,.no,rfl⟩
 unfold ni;exact j7 (f9 (E5 (d:=.lst []) rfl) (D5 (hZ (n:=2^n) (nS (j:=n) KE (xh R (d5 rfl))) KE) (.inr rfl) h1 (j1 rfl)))
def xq(h:DV.plains 59 ds=true):cmpD .Eq (MZ ds) (.lst [])=some ds.isEmpty/\cmpD .NotEq (MZ ds) (.lst [])=some (!ds.isEmpty):=by
 have p:DV.plain 60 (MZ ds)=true:=h;have d:deq (MZ ds) (.lst [])=ds.isEmpty:=by cases ds<;>rfl
 refine⟨?_,?_⟩
 ·show(if _=true then some _ else none)=_;rw[p,d];rfl
 ·show(if _=true then some _ else none)=_;rw[p,d];rfl
def qD(p:Nat×Nat):DV:=.tup [.int (p.1:Int),.int (p.2:Int)]
def hs(b e:Nat×Nat):Bool:=b.1.testBit e.1&&b.2.testBit e.2
def xr(o i:Nat):(o:Int)/2^((i:Int).toNat)=((o/2^i:Nat):Int):=by
   rfl
def Ko(x y r c:Nat):(Builtin.bitAnd (Builtin.bitAnd ((x:Int)/2^((r:Int).toNat)) ((y:Int)/2^((c:Int).toNat))) 1==1)=(x.testBit r&&y.testBit c):=by
 rw[xr,xr,ei];have:Builtin.bitAnd ((x/2^r &&& y/2^c:Nat):Int) 1=_:=ei _ 1;rw[this,Nat.and_one_is_mod];have h:=Nat.testBit_zero (x/2^r &&& y/2^c);rw[Nat.testBit_and,pv,pv,F6,F6]at h;rw[h];rcases iG _ with z | z<;>rw[z]<;>rfl
def xt(b e:Nat×Nat):run G T fu (k+1) 24 [qD b,qD e]=some (.v (.bl (hs b e)) false):=by
 rw[j9 rfl rfl];unfold vo;have d:=wM (F:=run G T fu k) (δ:=k7 2 [qD b,qD e]) (a:=.ix (.var 0) (.int 0)) (b:=.ix (.var 1) (.int 0)) (j:=(e.1:Int)) (cx:=.strong) (cy:=.strong) rfl rfl (x0 _);have c:=wM (F:=run G T fu k) (δ:=k7 2 [qD b,qD e]) (a:=.ix (.var 0) (.int 1)) (b:=.ix (.var 1) (.int 1)) (i:=(b.2:Int)) (j:=(e.2:Int)) (cx:=.strong) (cy:=.strong) rfl rfl (x0 _);have q:=b_eq (v4 (op:=.BitAnd) (v4 (op:=.BitAnd) d c rfl) (g8 (i:=1)) rfl) (g8 (i:=1));rw[Ko]at q;exact j7 (j1 (k5 q))
def xu(bl:on (Nat×Nat))(e:Nat×Nat)(a:bl.length<=1000):run G T fu (k+2) 23 [.lst (bl.map qD),qD e]=some (.v (MZ ((cv.wi hs bl e).map qD)) true):=by
 rw[j9 rfl rfl];unfold vn;exact j7 (j1 (k5 (T4 rfl MG (e9 a MG) λ b _=>⟨[.val (qD b),.val (qD e)],rfl,j2 (g6 rfl rfl (xt b e)),.strong,rfl,rfl⟩)))
def Kq(es:on (Nat×Nat))(b:Nat×Nat)(a:es.length<=1000):run G T fu (k+2) 25 [.lst (es.map qD),qD b]=some (.v (MZ ((cv.lf hs es b).map qD)) true):=by
 rw[j9 rfl rfl];unfold vp;exact j7 (j1 (k5 (T4 rfl MG (e9 a MG) λ e _=>⟨[.val (qD e),.val (qD b)],rfl,j2 (fQ (g6 rfl rfl (xt b e))),.strong,rfl,rfl⟩)))
noncomputable def cO:Mn (on (Nat×Nat))->Ou
 | some c=>.v (MZ (c.map qD)) true
 | none=>.v .non false
noncomputable def cB:on MS:=[.set 4 false (.call 26 [.call 25 [.var 0,.var 3],.var 1,.bin .Sub (.var 2) (.int 1)]),.iff (.cmp .IsNot (.var 4) (.non)) [.ret (.bin .Add (.lst [.var 3]) (.var 4))] []]
noncomputable def S5c(es bl:on (Nat×Nat))(m:Nat)(z3 z4:Sv):on Sv:=[.val (MZ (es.map qD)),.val (MZ (bl.map qD)),.val (MY (m:Int)),z3,z4]
def Kr(es:on (Nat×Nat))(b:Nat×Nat):(cv.lf hs es b).length<=es.length:=A5 ..
theorem xv{fu k:Nat}{es bl:on (Nat×Nat)}{m:Nat}(he:es.length<=1000){g:Nat×Nat->Mn (on (Nat×Nat))}(hg:∀b c,g b=some c->c.length<=999):∀(bs:on (Nat×Nat)) (z3 z4:Sv),
  (∀b∈bs,run G T fu (k+2) 26 [.lst ((cv.lf hs es b).map qD),.lst (bl.map qD),.int (m:Int)]=some (cO (g b))) ->
  match cv.fst1 g bs with
  | some c=>l7 (.one 3) (λ δ'=>evSs G (MK (k+2)) fu cB δ') (bs.map qD) (S5c es bl (m+1) z3 z4)=some (.rt (MZ (c.map qD)) true)
  | none=>∃z3' z4',l7 (.one 3) (λ δ'=>evSs G (MK (k+2)) fu cB δ') (bs.map qD) (S5c es bl (m+1) z3 z4)=some (.nx (S5c es bl (m+1) z3' z4'))
 | [],z3,z4,_=>⟨z3,z4,rfl⟩
 | b::bs,z3,z4,h=>by
  have hb:=h b (i9 ..);have ih:=xv (fu:=fu) (k:=k) (bl:=bl) (m:=m) he hg bs;have l:=g6 (G:=G) (F:=run G T fu (k+2)) (δ:=S5c es bl (m+1) (.val (qD b)) z4) (f:=25) (es:=[.var 0,.var 3]) (l:=[(.lst (es.map qD),.strong),(qD b,.strong)]) rfl rfl (Kq es b he);have m1:=V5 (d5 (G:=G) (F:=run G T fu (k+2)) (δ:=S5c es bl (m+1) (.val (qD b)) z4) (n:=2) (d:=.int ((m+1:Nat):Int)) rfl) (g8 (i:=1));rw[show((m+1:Nat):Int) - 1=(m:Int) by omega]at m1;unfold cv.fst1;cases q:g b with
  | some c=>
   rw[q]at hb;have cc:=g6 (f:=26) (d7 l (d7 (d5 (n:=1) (d:=.lst (bl.map qD)) rfl) (d7 m1 f7))) rfl hb;refine Kc (δ1:=S5c es bl (m+1) (.val (qD b)) z4) rfl (f9 (n6 cc rfl) (O6 (j2 (x:=true) (cl:=.strong) rfl) (j1 (k5 (wK (lst1 (d5 (n:=3) rfl) rfl) (d5 (n:=4) rfl) ?_)))));rw[d9];have:=hg b c q;show 1+c.length<=1000;omega
  | none=>
   rw[q]at hb;have cc:=g6 (f:=26) (d7 l (d7 (d5 (n:=1) (d:=.lst (bl.map qD)) rfl) (d7 m1 f7))) rfl hb;have st:∀δ2,l7 (.one 3) (λ δ'=>evSs G (MK (k+2)) fu cB δ') (bs.map qD) (S5c es bl (m+1) (.val (qD b)) (.val .non))=δ2->l7 (.one 3) (λ δ'=>evSs G (MK (k+2)) fu cB δ') ((b::bs).map qD) (S5c es bl (m+1) z3 z4)=δ2:=λ δ2 e=>by rw[←e];exact T3 (δ1:=S5c es bl (m+1) (.val (qD b)) z4) rfl (f9 (n6 cc rfl) (r9 (j2 (x:=false) (cl:=.strong) rfl) rfl))
   have:=ih (.val (qD b)) (.val .non) λ b' hb'=>h b' (j5 _ hb');dsimp only;cases e':cv.fst1 g bs with
   | some c'=>rw[e']at this;exact st _ this
   | none=>
    rw[e']at this;obtain⟨z3',z4',e⟩:=this;exact⟨z3',z4',st _ e⟩
def ix0:ixD (MZ (d::ds)) (.int 0)=some d:=by
 show atD _ 0=some d;unfold atD A0;rw[d6 MG,d6 (by grind)];rfl
def nT(l:on (Nat×Nat)):DV.plains 59 (l.map qD)=true:=nv λ d a=>by
 obtain⟨p,_,rfl⟩:=g9.mp a;rfl
theorem xw:∀(m:Nat) (es bl:on (Nat×Nat)),es.length<=1000->bl.length<=1000->m<=900->run G T fu (k+m+3) 26 [.lst (es.map qD),.lst (bl.map qD),.int (m:Int)]=some (cO (cv.cov hs m es bl))
 | m,[],bl,_,_,_=>by
  rw[j9 (fd:=aj) rfl rfl];unfold aj;have:cv.cov hs m [] bl=some []:=by cases m<;>rfl
  rw[this];exact j7 (O6 (j2 (x:=true) (cl:=.strong) rfl) (j1 (k5 (bA f7 MG rfl))))
 | 0,e::es,bl,_,_,_=>by rw[j9 (fd:=aj) rfl rfl];unfold aj;have q:evE G (MK (k+0+2)) (.cmp .Eq (.var 0) (.lst [])) (k7 5 [.lst ((e::es).map qD),.lst (bl.map qD),.int ((0:Nat):Int)])=some (.ok (.bl false) .strong):=D6 (d5 rfl) (bA f7 MG rfl) (xq (nT (e::es))).1;exact j7 (r9 (j2 q) (O6 (j2 (x:=true) (cl:=.strong) rfl) (j1 (k5 (d:=.non) (cl:=.strong) rfl))))
 | m+1,e::es,bl,h,j,hm=>by
  rw[show k+(m+1)+3=(k+m+3)+1 by omega,j9 (fd:=aj) rfl rfl];unfold aj;have q:evE G (MK (k+m+3)) (.cmp .Eq (.var 0) (.lst [])) (k7 5 [.lst ((e::es).map qD),.lst (bl.map qD),.int ((m+1:Nat):Int)])=some (.ok (.bl false) .strong):=D6 (d5 rfl) (bA f7 MG rfl) (xq (nT (e::es))).1;have g:evE G (MK (k+m+3)) (.cmp .Eq (.var 2) (.int 0)) (k7 5 [.lst ((e::es).map qD),.lst (bl.map qD),.int ((m+1:Nat):Int)])=some (.ok (.bl false) .strong):=by have:=b_eq (d5 (G:=G) (F:=run G T fu (k+m+3)) (δ:=k7 5 [.lst ((e::es).map qD),.lst (bl.map qD),.int ((m+1:Nat):Int)]) (n:=2) (d:=.int ((m+1:Nat):Int)) rfl) (g8 (i:=0));rw[this,A6.mpr KE]
  have w:m9 (evE G (MK (k+m+3)) (.call 23 [.var 1,.ix (.var 0) (.int 0)]) (k7 5 [.lst ((e::es).map qD),.lst (bl.map qD),.int ((m+1:Nat):Int)]))=some (.ok ((cv.wi hs bl e).map qD) .fresh):=(by rw[g6 (f:=23) (d7 (d5 rfl) (d7 (p6 (cx:=.strong) (d5 (n:=0) (d:=.lst (qD e::es.map qD)) rfl) (g8 (i:=0)) ix0) f7)) rfl (xu (fu:=fu) (k:=k+m+1) bl e j)];rfl);have a:=xv (fu:=fu) (k:=k+m+1) (es:=e::es) (bl:=bl) (m:=m) h (λ b c o=>e9 (cv.cov_ok hs o).2.2 KE) (cv.wi hs bl e) .no .no λ b _=>xw m (cv.lf hs (e::es) b) bl (e9 (Kr ..) h) j KE;show _=some (cO (cv.fst1 (λ b=>cv.cov hs m (cv.lf hs (e::es) b) bl) (cv.wi hs bl e)));cases l:cv.fst1 _ (cv.wi hs bl e)with
  | some c=>
   rw[l]at a;exact j7 (r9 (j2 q) (r9 (j2 g) (Kd w (.inr rfl) a)))
  | none=>
   rw[l]at a;obtain⟨z3,z4,a⟩:=a;exact j7 (r9 (j2 q) (r9 (j2 g) (D5 w (.inr rfl) a (j1 (k5 (d:=.non) (cl:=.strong) rfl)))))
section
variable {rows:on (on Int)} {w:Int} {n m:Nat}
def rE(rows:MU)(w:Int)(m r:Nat):on (Nat×Nat):=((ML m).filter λ c=>mf rows r c==w).map λ c=>(r,c)
def eE(rows:MU)(w:Int)(m:Nat)(l:on Nat):on (Nat×Nat):=l.flatMap (rE rows w m)
def xx(r:Nat):(rE rows w m r).length<=m:=by
 unfold rE;rw[d9];refine e9 (A5 ..) ?_;rw[q9];exact f6 _
def Ks(l:on Nat):(eE rows w m l).length<=l.length*m:=by
 induction l with
 | nil=>exact u9 _
 | cons r l ih=>
  have h:=xx (rows:=rows) (w:=w) (m:=m) r;show(rE rows w m r++eE rows w m l).length<=_;rw[p7,l4,Nat.succ_mul];omega
def rE_D(r:Nat):(rE rows w m r).map qD=((ML m).filter λ c=>mf rows r c==w).map λ (c:Nat)=>DV.tup [.int (r:Int),.int (c:Int)]:=by
 unfold rE;rw[k9];rfl
def xy:p∈eE rows w m l↔p.1∈l/\p.2<m/\mf rows p.1 p.2=w:=by
 unfold eE rE;rw[X8];constructor
 ·rintro⟨r,d,h⟩
  obtain⟨c,e,rfl⟩:=g9.mp h;obtain⟨b,a⟩:=k8.mp e;exact⟨d,i7.mp b,by simpa using a⟩
 ·rintro⟨b,a,f⟩
  exact⟨p.1,b,g9.mpr ⟨p.2,k8.mpr ⟨i7.mpr a,by simpa using f⟩,rfl⟩⟩
end
def xz(c:δ[i]? = some (.own (MZ ds)))(h:Na e (.ok (.lst a) .fresh))(b:ds.length+a.length<=1000):evS G F fu (.ext i e) δ=some (.nx (δ.set i (.own (MZ (ds++a))))):=by
 show(match δ[i]? with | some (.own (.lst ds))=>Re.thnS δ _ _ | _=>none)=_;rw[c];dsimp only;rw[h];show(if Cl.fresh=.strong\/Cl.fresh=.fresh then(if ds.length+a.length<=l5 then some (Out.nx _)else none)else none)=_;rw[d6 (.inr rfl),d6 (e9 b MG)]
def xA{fu k:Nat}{m:LamD}{cs args:on DV}{d:DV}(h1:args.length=m.np/\args.length+cs.length=m.N.length/\DV.nolams args=true/\DV.nolams cs=true)(h:evE G (MK k) m.body ((args++cs).map Sv.val)=some (MV d))(hd:d.nolam=true):run G T fu (k+1) u7 (.lam m cs::args)=some (.v d false):=by
 have e1:run G T fu (k+1) u7 (.lam m cs::args)=lamR (evE G (MK k)) (.lam m cs::args):=rfl;rw[e1];show(if args.length=m.np/\args.length+cs.length=m.N.length/\DV.nolams args=true/\DV.nolams cs=true then(match evE G (MK k) m.body ((args++cs).map Sv.val)with
  | some (.ok d .strong)=>if d.nolam then some (Ou.v d false)else none
  | _=>none)else none)=_
 rw[d6 h1,h];exact d6 hd
theorem nl_q:∀l:on (Nat×Nat),DV.nolams (l.map qD)=true
 | []=>rfl
 | p::l=>by show((qD p).nolam&&DV.nolams _)=true;rw[nl_q l];rfl
theorem xC:∀(l:MU) (j:Nat),enuD j (l.map λ r=>.tup (iD r))=(ML l.length).map λ (i:Nat)=>DV.tup [.int ((j+i:Nat):Int),.tup (iD (l.getD i []))]
 | [],_=>rfl
 | r::l,j=>by
  show DV.tup _::enuD _ _=_;rw[xC l _,l4,bP,t9,k9]
  congr 1
  apply z7;intro i _;show DV.tup _=DV.tup [.int _,.tup (iD (l.getD i []))];rw[show j+1+i=j+(i+1) by omega]
noncomputable def xB:on MS:=[.ext 3 (.compi (.tup [.var 1,.var 0]) (.one 0) (.rng [.bi .len [.var 5]]) (.cmp .Eq (Nh 2 (.var 0)) (.var 3)) [none,some 4,some 5,some 1])]
theorem xD(R:Nd)(v:m<=8):∀(l:on Nat) (a:on (Nat×Nat)) (o g:Sv),(∀r∈l,r<n)->a.length+l.length*8<=900 ->
  ∃d b,l7 (.many [4,5]) (λ q=>evSs G F fu xB q) (l.map λ (j:Nat)=>DV.tup [.int (j:Int),.tup (iD (ND j))]) [.val Nq,.val (.int w),.val x,.own (MZ (a.map qD)),o,g]=some (.nx [.val Nq,.val (.int w),.val x,.own (MZ ((a++eE rows w m l).map qD)),d,b])
 | [],a,o,g,_,_=>⟨o,g,by unfold eE;rw[List.flatMap_nil,x4];rfl⟩
 | r::l,a,o,g,h,B=>by
  have A:=h r (i9 ..);have rl:=xx (rows:=rows) (w:=w) (m:=m) r;rw[l4]at B;obtain⟨d,b,e⟩:=xD (x:=x) R v l (a++rE rows w m r) _ _ (λ x z=>h x (j5 _ z)) (by rw[p7];omega);refine⟨d,b,?_⟩;rw[show a++eE rows w m (r::l)=a++rE rows w m r++eE rows w m l by rw[Q2];rfl,←e];have y:=R.2 _ (C6 (by rw[R.1];exact A));have u:=K8 (F:=F) (δ:=[.val Nq,.val (.int w),.val x,.own (MZ (a.map qD)),.val (MY (r:Int)),.val (.tup (iD (ND r)))]) (e:=.var 5) (c:=.strong) rfl;rw[show(iD (ND r)).length=m by unfold iD;rw[d9];exact y]at u;have c:=T4 (F:=F) (f:=λ (c:Nat)=>DV.tup [.int (r:Int),.int (c:Int)]) (p:=λ c=>mf rows r c==w) (elt:=.tup [.var 1,.var 0]) (tg:=.one 0)
   (fr:=[none,some 4,some 5,some 1]) (cl:=.fresh) (gV u KE) MG (by rw[q9];exact e9 v MG) (λ c C=>by
    have s:=i7.mp C;refine⟨[.val (.int c),.val (.int r),.val _,.val (.int w)],rfl,?_,.strong,rfl,rfl⟩;exact j2 (b_eq (p6 (d5 (n:=2) rfl) (d5 (n:=0) rfl) (dZ (by rw[y];exact s))) (d5 (n:=3) rfl)))
  rw[←rE_D]at c;have ex:=xz (fu:=fu) (i:=3) (ds:=a.map qD) rfl c (by rw[d9,d9];omega);rw[←o7]at ex;exact T3 rfl (f9 ex rfl)
theorem xE(h:∀p,F u7 [mm,qD p]=some (.v (MY (g p)) false)):∀l:on (Nat×Nat),S0 F mm (l.map qD)=some (l.map g)
 | []=>rfl
 | p::l=>by
  show(match F u7 _ with
   | some (.v (.int k) false)=>(S0 F mm _).map _
   | _=>none)=_
  rw[h p,xE h l];rfl
def Kt(h:∀i∈a,i<l.length):putIx DV.non a (l.map qD)=(putIx (0,0) a l).map qD:=by
 unfold putIx;rw[k9];apply z7;intro i b;have:=h i b;simp[i8,n7,i6 this]
def Ku(R:Nd)(x:0<n)(hn:n<=8)(y:m<=8){bl:on (Nat×Nat)}(C:bl.length<=1000)(c:(eE rows w m (ML n)).length<64):∃es':on (Nat×Nat),es'.Perm (eE rows w m (ML n))/\run G T fu (k+4) 22 [tT rows,.int w,.lst (bl.map qD)]=some (.v (MZ (es'.map qD)) true):=by
 obtain⟨o,j,e⟩:=xD (fu:=fu) (w:=w) R y (ML n) [] .no .no (λ r v=>i7.mp v) (by rw[q9];show 0+n*8<=900;omega);rw[eY]at e;obtain⟨b,h⟩:∃b,b=eE rows w m (List.range n):=Nb;rw[←h]at e c ⊢;obtain⟨d,u,g⟩:=Cw _;rw[d9]at g;refine⟨putIx (0,0) d b,Cy g,?_⟩;rw[j9 rfl rfl];unfold vm;have A:=xE (F:=run G T fu (k+3)) (mm:=.lam ⟨["entry","blocks"],1,.bi .len [.call 23 [.var 1,.var 0]],G.fnl,G.bll,G.cll⟩ [.lst (bl.map qD)]) (λ p=>by
  refine xA (k:=k+2) (args:=[qD p]) ⟨rfl,rfl,rfl,?_⟩ ?_ rfl
  ·show(DV.nolams (bl.map qD)&&true)=true;rw[nl_q];rfl
  ·have:=T1 (g6 (G:=G) (F:=run G T fu (k+2)) (δ:=[.val (qD p),.val (MZ (bl.map qD))]) (f:=23) (es:=[.var 1,.var 0]) (l:=[(.lst (bl.map qD),.strong),(qD p,.strong)]) rfl rfl (xu bl p C));rw[d9]at this;exact this) b
 have q:evE G (MK (k+3)) (.srtk (.var 3) ["entry","blocks"] 1 (.bi .len [.call 23 [.var 1,.var 0]]) [2]) [.val Nq,.val (.int w),.val (MZ (bl.map qD)),.own (MZ (b.map qD)),o,j]=some (.ok (MZ ((putIx (0,0) d b).map qD)) .fresh):=by
  show cS G (MK (k+3)) _ ["entry","blocks"] 1 _ (capD _ [2])=_;have E:capD [.val Nq,.val (.int w),.val (MZ (bl.map qD)),.own (MZ (b.map qD)),o,j] [2]=some [.lst (bl.map qD)]:=by show(if(DV.lst (bl.map qD)).nolam then some [DV.lst (bl.map qD)]else none)=_;rw[show(DV.lst (bl.map qD)).nolam=DV.nolams (bl.map qD)from rfl,nl_q];rfl
  rw[E];unfold cS;dsimp only;rw[e7 MO,B3 rfl];show(if(true=true)/\(b.map qD).length<64 then(S0 _ _ (b.map qD)).bind λ s=>(O5 s).map λ d=>Re.ok (MZ (putIx .non d (b.map qD))) .fresh else none)=_;rw[d6 ⟨rfl,by rw[d9];exact c⟩,A,N6,u,F5,Kt λ i B=>i7.mp (g.mem_iff.mp B)]
 refine j7 (f9 (E5 (bA f7 MG rfl)) (D5 (cl:=.strong) ?_ NK e (j1 (k5 q))));show some _=_;rw[xC,R.1];simp only[F6];rfl
section
variable {rows:on (on Int)} {w:Int} {n m:Nat}
def wN(rows:MU)(w:Int)(n m:Nat):on (Nat×Nat):=((al n).filter (good rows w n m)).map λ S=>(S,bs (JL rows w m S))
def Kv:pD (wdl rows w n m)=(wN rows w n m).map qD:=by
 unfold pD wdl wN;rw[k9,k9];rfl
def Kw(a:n<=8):(wN rows w n m).length<=1000:=by
 unfold wN;rw[d9];refine e9 (A5 ..) ?_;unfold al;rw[d9,q9];have:2^n<=2^8:=v7 MG a;omega
def rb(rows:MU)(w:Int)(n m i:Nat):Nat×Nat:=(bs (RL rows w n (JL rows w m (2^i))),bs (JL rows w m (2^i)))
def Kx(h:r∈cs (2^i)):i=r:=by
 have a:=(k8.mp h).2;rw[jc]at a;exact ju a
def xF(b:j<m)(h:mf rows i j=w):j∈JL rows w m (2^i):=by
 refine k8.mpr ⟨i7.mpr b,u4.mpr λ r a=>?_⟩;rw[←Kx a,h];exact U4 _
def Ky(e:i<n)(d:j<m)(h:mf rows i j=w):rb rows w n m i∈wN rows w n m:=by
 have b:JL rows w m (2^i)≠[]:=λ q=>by have:=xF d h;rw[q]at this;cases this
 obtain⟨l,g,f,c,a⟩:=xi (Nat.pow_pos MG) (Nat.pow_lt_pow_right MG e) b;refine g9.mpr ⟨l,k8.mpr ⟨nQ.mpr ⟨g,f⟩,nR.mpr ⟨by rw[a];exact b,by rw[a];exact c⟩⟩,?_⟩;unfold rb;rw[a,c]
def KA(b:i<n)(a:j<m)(h:mf rows i j=w):hs (rb rows w n m i) (i,j)=true:=by
 unfold hs rb;rw[d8];constructor
 ·show(bs _).testBit i=true;unfold RL;rw[(bs_f _ n).2,o6 b,Q6];refine u4.mpr λ c d=>?_
  have h2:0<2^i:=Nat.pow_pos MG;exact u4.mp (k8.mp d).2 i (k8.mpr ⟨i7.mpr (by rw[Nat.log2_two_pow];omega),by rw[jc];exact o6 rfl⟩)
 ·show(bs _).testBit j=true;unfold JL;rw[(bs_f _ m).2,o6 a,Q6];exact(k8.mp (xF a h)).2
def xG(f:∀p∈es,p∈eE rows w m (ML n)):cv.cov hs n es (wN rows w n m)≠none:=by
 refine cv.cov_all hs (c:=((ML n).filter λ i=>(ML m).any λ j=>mf rows i j==w).map (rb rows w n m)) (λ b o=>?_) (λ p h=>?_) ?_
 ·obtain⟨i,l,rfl⟩:=g9.mp o;obtain⟨d,a⟩:=k8.mp l;obtain⟨j,g,q⟩:=B1.mp a;exact Ky (i7.mp d) (i7.mp g) (Nm q)
 ·obtain⟨d,a,e⟩:=xy.mp (f p h);exact⟨_,g9.mpr ⟨p.1,k8.mpr ⟨d,B1.mpr ⟨p.2,i7.mpr a,by simpa using e⟩⟩,rfl⟩,KA (i7.mp d) a e⟩
 ·rw[d9];refine e9 (A5 ..) ?_;rw[q9];exact f6 _
end
def KB(h:Na e (.ok .non .strong)):evS G F fu (.set i true e) δ=some (.nx (δ.set i (.val .non))):=by
 have a:evS G F fu (.set i true e) δ=Re.thnS δ _ _:=rfl;rw[a,h];rfl
def KC(f:δ[i]? = some (MM a))(h:MH e c (.int b)):evS G F fu (.aug i e) δ=some (.nx (δ.set i (MM (a+b)))):=by
 have g:evS G F fu (.aug i e) δ=(asIv δ[i]?).bind λ a=>Re.thnS δ _ λ d _=>(asI d).bind λ b=>some _:=rfl;rw[g,f,h];rfl
noncomputable def sv:Mn (on (Nat×Nat))->Sv
 | some c=>.own (MZ (c.map qD))
 | none=>.val .non
def cE:ME:=.call 26 [.var 3,.var 2,.var 4]
def wB':on MS:=[.aug 4 (.int 1),.set 5 true cE]
noncomputable def S6c(x:DV)(w:Int)(bl es:on (Nat×Nat))(j:Nat)(z:Sv):on Sv:=[.val x,.val (.int w),.val (MZ (bl.map qD)),.val (MZ (es.map qD)),.val (MY (j:Int)),z]
def xH(hj:j<=8)(a:es.length<=1000)(b:bl.length<=1000):evS G (MK (k+11)) fu (.set 5 true cE) (S6c x w bl es j z)=some (.nx (S6c x w bl es j (sv (cv.cov hs j es bl)))):=by
 have q:=xw (fu:=fu) (k:=k+(8 - j)) j es bl a b KE;rw[show k+_+j+3=k+11 by omega]at q;cases z:cv.cov hs j es bl with
 | some c=>
  rw[z]at q;exact E5 (g6 (l:=[(.lst _,.strong),(.lst _,.strong),(.int _,.strong)]) rfl rfl q)
 | none=>
  rw[z]at q;exact KB (g6 (l:=[(.lst _,.strong),(.lst _,.strong),(.int _,.strong)]) rfl rfl q)
theorem xI(m:n<=8)(g:es.length<=1000)(l:bl.length<=1000)(h:cv.cov hs n es bl≠none):∀(d j f:Nat),j+d=n->d<f->(∀i<j,cv.cov hs i es bl=none) ->
  ∃t c,t<=n/\cv.cov hs t es bl=some c/\(∀i<t,cv.cov hs i es bl=none)/\J0 (λ a=>tstD (evE G (MK (k+11)) (.cmp .Is (.var 5) (.non)) a)) (λ a=>evSs G (MK (k+11)) fu wB' a) f (S6c x w bl es j (sv (cv.cov hs j es bl)))=some (.nx (S6c x w bl es t (sv (some c))))
 | d,j,0,_,e,_=>by cases e
 | d,j,f+1,hd,e,b=>by
  cases z:cv.cov hs j es bl with
  | some c=>
   refine⟨j,c,by omega,z,b,?_⟩;have t:tstD (evE G (MK (k+11)) (.cmp .Is (.var 5) (.non)) (S6c x w bl es j (sv (some c))))=some _:=j2 rfl;exact BC t
  | none=>
   cases d with
   | zero=>
    have:j=n:=by omega
    subst this;exact absurd z h
   | succ d=>
    obtain⟨t,c,u,s,r,p⟩:=xI m g l h d (j+1) f KE KE (λ i o=>by
     rcases bY (jn o)with q | q
     ·exact b i q
     ·rw[q];exact z)
    refine⟨t,c,u,s,r,?_⟩;have v:=KC (F:=run G T fu (k+11)) (fu:=fu) (δ:=S6c x w bl es j (sv none)) (i:=4) rfl (g8 (i:=1));exact BD (j2 rfl) (f9 v (f9 (xH (j:=j+1) (z:=sv none) KE g l) rfl)) p
def xJ{es:on (Nat×Nat)}(h:∀p∈es,p∈a)(q:cv.cov hs m es bl=none):cv.cov hs m a bl=none:=by
 cases z:cv.cov hs m a bl with
 | none=>rfl
 | some c=>
  obtain⟨f,e,d⟩:=cv.cov_ok hs z;exact absurd q (cv.cov_all hs f (λ p b=>e p (h p b)) d)
def KD(R:Nd)(a:0<n)(b:n<=8)(r:m<=8)(h1:(Nk).length<=5)(h2:(MT).length<=5)(h:(eE rows w m (ML n)).length<64)(hf:100<=fu):∃(es' c:on (Nat×Nat)) (t:Nat),es'.Perm (eE rows w m (ML n))/\cv.cov k72.hs t es' (wN rows w n m)=some c/\(∀i<t,cv.cov k72.hs i es' (wN rows w n m)=none)/\t<=n/\run G T fu (k+12) 21 [tT rows,.int w]=some (.v (MZ (c.map qD)) true):=by
 have g:=Kw (rows:=rows) (w:=w) (m:=m) b;obtain⟨es',p,E⟩:=Ku (w:=w) R a b r g h;have s:es'.length<=1000:=by rw[p.length_eq];omega
 obtain⟨t,c,y,x,v,u⟩:=xI (k:=k) (w:=w) b s g (xG λ q z=>p.mem_iff.mp z) n 0 fu KE KE (λ i A=>by cases A);refine⟨es',c,t,p,x,v,y,?_⟩;have o:=Kn (fu:=fu) (k:=k+8) (w:=w) R a b r;rw[Kv]at o;rw[j9 rfl rfl];unfold vk;have C:evS G (MK (k+11)) fu (.exp (MW 10 0)) (k7 6 [tT rows,.int w])=some (.nx (k7 6 [tT rows,.int w])):=by have B:evS G (MK (k+11)) fu (.exp (MW 10 0)) (k7 6 [tT rows,.int w])=Re.thnS (k7 6 [tT rows,.int w]) (evE G (MK (k+11)) (MW 10 0) (k7 6 [tT rows,.int w])) λ _ _=>some (.nx (k7 6 [tT rows,.int w])):=rfl;rw[B,g6 rfl rfl (nF rows n m R a KE KE h1 h2)];rfl
 refine j7 (f9 C (f9 (n6 (g6 (f:=18) (l:=[(tT rows,.strong),(.int w,.strong)]) rfl rfl o) rfl) (f9 (n6 (g6 (f:=22) (l:=[(tT rows,.strong),(.int w,.strong),(.lst ((wN rows w n m).map qD),.strong)]) rfl rfl E) rfl) (f9 (n6 (d:=.int 0) (cl:=.strong) rfl rfl) (f9 (xH (k:=k) (j:=0) KE s g) (BE u (j1 (k5 (B3 rfl)))))))))
def Lst(E bl:on (Nat×Nat))(t:Nat):Prop:=cv.cov hs t E bl≠none/\∀i<t,cv.cov hs i E bl=none
def Lst.uniq(h:Lst E bl t)(g:Lst E bl u):t=u:=by
 rcases eW t u with z | z | z
 ·exact absurd (g.2 t z) h.1
 ·exact z
 ·exact absurd (h.2 u z) g.1
def Lst.perm(h:Lst E bl t)(p:E.Perm b):Lst b bl t:=
 ⟨λ z=>h.1 (xJ (λ q a=>p.mem_iff.mpr a) z),λ i c=>xJ (λ q a=>p.mem_iff.mp a) (h.2 i c)⟩
def KF(R:Nd)(a:0<n)(l:n<=8)(o:m<=8)(h1:(Nk).length<=5)(h2:(MT).length<=5)(d:(eE rows w m (ML n)).length<64)(q:100<=fu)(j:Lst (eE rows w m (ML n)) (wN rows w n m) t) :
  ∃c:on (Nat×Nat),c.length=t/\(∀b∈c,b∈wN rows w n m)/\(∀e∈eE rows w m (List.range n),∃b∈c,hs b e=true)/\run G T fu (k+12) 21 [tT rows,.int w]=some (.v (MZ (c.map qD)) true):=by
 obtain⟨f,c,u,p,h1,h2,_,s⟩:=KD R a l o h1 h2 d q;have i:Lst f _ u:=⟨(λ z=>by rw[z]at h1;cases h1),h2⟩;have:=(i.perm p).uniq j;subst this;obtain⟨h,g,_⟩:=cv.cov_ok hs h1;exact⟨c,cv.cov_least hs h1 h2,h,λ e r=>g e (p.mem_iff.mpr r),s⟩
def KG(hn:n<=8):∃t,t<=n/\Lst (eE rows w m (ML n)) (wN rows w n m) t:=by
 have g:∀d j,j+d=n->(∀i<j,cv.cov hs i (eE rows w m (ML n)) (wN rows w n m)=none)->∃t,t<=n/\Lst (eE rows w m (ML n)) (wN rows w n m) t:=by
  intro d
  induction d with
  | zero=>
   intro j f a;have:j=n:=by omega
   subst this;exact⟨j,f6 _,(xG λ _ h=>h),a⟩
  | succ d e=>
   intro j f a;cases z:cv.cov hs j _ _ with
   | some c=>exact⟨j,by omega,(λ q=>by rw[z]at q;cases q),a⟩
   | none=>
    refine e (j+1) KE λ i b=>?_;rcases bY (jn b)with q | q
    ·exact a i q
    ·rw[q];exact z
 exact g n 0 KE λ i b=>by cases b
section
variable {α β:Type}
noncomputable def mA(ap:α->α->Bool):on α->on α
 | []=>[]
 | e::l=>if(mA ap l).length<=(e::mA ap (l.filter (ap e))).length then e::mA ap (l.filter (ap e))else mA ap l
termination_by l=>l.length
decreasing_by
 all_goals simp only[l4]
 all_goals first | exact aB _ | exact Nat.lt_succ_of_le (A5 ..) | exact Nat.lt_succ_of_le (by rw[List.length_unattach];exact e9 (A5 ..) (by rw[List.length_attach];exact f6 _))
def nU:mA a []=[]:=by unfold mA;rfl
def ii:mA a (e::l)=if(mA a l).length<=(e::mA a (l.filter (a e))).length then e::mA a (l.filter (a e))else mA a l:=by
 rw[mA]
theorem ao(a:α->α->Bool):∀(n:Nat) (l:on α),l.length<=n->(mA a l).Sublist l
 | _,[],_=>by rw[nU];exact List.Sublist.refl _
 | 0,_::_,h=>by simp at h
 | n+1,e::l,h=>by
  rw[l4]at h;rw[ii];split
  ·exact((ao a n _ (e9 (A5 ..) KE)).trans List.filter_sublist).cons₂ _
  ·exact(ao a n l KE).cons _
theorem nV(c:α->α->Bool):∀(n:Nat) (l:on α),l.length<=n->(mA c l).Pairwise λ a b=>c a b=true
 | _,[],_=>by rw[nU];exact List.Pairwise.nil
 | 0,_::_,h=>by simp at h
 | n+1,e::l,h=>by
  rw[l4]at h;rw[ii];have d:(l.filter (c e)).length<=n:=e9 (A5 ..) KE;split
  ·refine C8.mpr ⟨λ x f=>?_,nV c n _ d⟩;exact(k8.mp ((ao c n _ d).subset f)).2
  ·exact nV c n l KE
end
noncomputable def kp(f:Nat->Nat->Int)(p q:(Nat×Nat)):Bool:=if f q.1 q.2 != f p.1 p.2 then false else(f p.1 q.2 != f p.1 p.2||f q.1 p.2 != f p.1 p.2)
noncomputable def L4(f:Nat->Nat->Int)(w:Int)(J:on Nat)(I:on Nat):on (Nat×Nat):=I.flatMap λ r=>(J.filter λ c=>f r c==w).map λ c=>(r,c)
def ij(h:p∈L4 f w J I):p.1∈I/\p.2∈J/\f p.1 p.2=w:=by
 obtain⟨r,a,b⟩:=X8.mp h;obtain⟨c,d,rfl⟩:=g9.mp b;obtain⟨g,e⟩:=k8.mp d;exact⟨a,g,Y8 e⟩
def ik(h:evE G F e δ=some (MV (qD p))):evE G F (.ix e (.int 0)) δ=some (.ok (MY (p.1:Int)) .strong):=p6 h g8 rfl
def im(h:evE G F e δ=some (MV (qD p))):evE G F (.ix e (.int 1)) δ=some (.ok (MY (p.2:Int)) .strong):=p6 h g8 rfl
def KH{F:Nat->on DV->Mn Ou}{δ:on Sv}{a b:ME}{x y:Bool}{cx:Cl}(ha:evE G F a δ=some (MV (.bl x)))(hb:evE G F b δ=some (MV (.bl y))):evE G F (.or [a,b]) δ=some (.ok (.bl (x||y)) .strong):=by
 cases x with
 | true=>exact BB ha
 | false=>rw[Bool.false_or];exact BA ha hb
def KI{F:Nat->on DV->Mn Ou}{δ:on Sv}{n m:Nat}{f:Nat->Nat->Int}{d:DV}{p q:(Nat×Nat)}{w:Int}{wv:ME}(L:Look d n m f)(h0:evE G F (.var 0) δ=some (MV d))(h1:evE G F (.var 1) δ=some (MV (qD p)))(h2:evE G F (.var 2) δ=some (MV (qD q)))(h3:evE G F (.var 3) δ=some (MV (.int w)))(p1:p.1<n)(p2:p.2<m)(q1:q.1<n)(q2:q.2<m) :
  evE G F (.or [.cmp .NotEq (.ix (.ix (.var 0) (Nh 1 (.int 0))) (Nh 2 (.int 1))) (.var 3),.cmp .NotEq (.ix (.ix (.var 0) (Nh 2 (.int 0))) (.ix (.var 1) (.int 1))) (.var 3)]) δ=some (.ok (.bl (f p.1 q.2 != w||f q.1 p.2 != w)) .strong):=
 KH (cx:=.strong) (b_ne (ak L h0 (ik h1) (im h2) p1 q2) h3) (b_ne (ak L h0 (ik h2) (im h1) q1 p2) h3)
def KJ(L:Look d n m f)(l:p.1<n)(j:p.2<m)(i:q.1<n)(g:q.2<m):run G T fu (k+1) 17 [d,qD p,qD q]=some (.v (.bl (kp f p q)) false):=by
 rw[j9 rfl rfl];unfold vh kp;have c:=b_ne (F:=run G T fu k) (δ:=[.val d,.val (qD p),.val (qD q),.val (MY (f p.1 p.2))]) (ak (a:=.var 0) (b:=.ix (.var 2) (.int 0)) (e:=.ix (.var 2) (.int 1)) L (d5 rfl) (ik (d5 rfl)) (im (d5 rfl)) i g) (d5 (n:=3) rfl);refine j7 (f9 (n6 (ak L (d5 rfl) (ik (d5 rfl)) (im (d5 rfl)) l j) rfl) ?_);cases h:f q.1 q.2 != f p.1 p.2 with
 | true=>
  rw[h]at c;rw[d6 rfl];exact O6 (j2 c) (j1 rfl)
 | false=>
  rw[h]at c;rw[e7 w9];exact r9 (j2 c) (j1 (k5 (KI (wv:=.var 3) L (d5 rfl) (d5 rfl) (d5 rfl) (d5 rfl) l j i g)))
def KL(h:tstD (MQ c)=some (.ok true))(d:evE G F a δ=o):evE G F (.ite c a b) δ=o:=by
 show Rt.thn _ _=o;rw[h];exact d
def KM(h:tstD (MQ c)=some (.ok false))(d:evE G F b δ=o):evE G F (.ite c a b) δ=o:=by
 show Rt.thn _ _=o;rw[h];exact d
def xK(l:on (Nat×Nat)):cmpD .Eq (MZ (l.map qD)) (.lst [])=some (l==[]):=by
 have b:DV.plain 60 (.lst _)=true:=nT l;show(if(DV.plain 60 _&&DV.plain 60 _)=true then some (deq _ _)else none)=_;rw[b];cases l with
 | nil=>rfl
 | cons a r=>rfl
def b_ge(d:MH a cx (.int i))(c:MH b cy (.int j)):evE G F (.cmp .GtE a b) δ=some (.ok (.bl (decide (j<=i))) .strong):=D6 d c rfl
def KN{l:on (Nat×Nat)}{cd:ME}(hw:m9 (MQ it)=some (.ok (l.map qD) cl))(c:cl ≠ .weak)(b:l.length<=1000)
  (h:∀a∈l,∃δ',(Tg.one 0).bind (qD a) (C3 fr δ)=some δ'/\tstD (evE G F cd δ')=some (.ok (p a))/\evE G F (.var 0) δ'=some (MV (qD a))):evE G F (.compi (.var 0) (.one 0) it cd fr) δ=some (.ok (MZ ((l.filter p).map qD)) .fresh):=
 T4 hw c (e9 b MG) λ a d=>by obtain⟨δ',g,f,e⟩:=h a d;exact⟨δ',g,f,.strong,e,rfl⟩
theorem nW{fu n m:Nat}{f:Nat->Nat->Int}{d:DV}(L:Look d n m f):∀(N:Nat) (l:on (Nat×Nat)) (k:Nat),l.length<=N->N<=900->N+2<=k->(∀p∈l,p.1<n/\p.2<m)->run G T fu k 16 [d,.lst (l.map qD)]=some (.v (MZ ((mA (kp f) l).map qD)) true)
 | N,[],k+1,_,_,_,_=>by rw[j9 (fd:=dY) rfl rfl,nU];unfold dY;exact j7 (O6 (j2 (D6 (x:=.lst []) (y:=.lst []) (cx:=.strong) (cy:=.fresh) (d5 rfl) rfl (xK []))) (j1 rfl))
 | 0,_::_,_,h,_,_,_=>by simp at h
 | N+1,e::l,k+1,h,h9,hk,hr=>by
  rw[l4]at h;rw[j9 (fd:=dY) rfl rfl];unfold dY;have rl:∀p∈l,p.1<n/\p.2<m:=λ p hp=>hr p (j5 _ hp)
  have re:=hr e (i9 ..);have hfl:(l.filter (kp f e)).length<=N:=e9 (A5 ..) KE;have r1:=nW (fu:=fu) (k:=k) L N (l.filter (kp f e)) hfl KE KE λ p hp=>rl p (k8.mp hp).1;have r2:=nW (fu:=fu) (k:=k) L N l KE KE KE rl;have t0:tstD (evE G (MK k) (.cmp .Eq (.var 1) (.lst [])) (k7 6 [d,.lst ((e::l).map qD)]))=some (.ok false):=j2 (D6 (cx:=.strong) (cy:=.fresh) (x:=.lst ((e::l).map qD)) (y:=.lst []) (d5 rfl) rfl (xK (e::l)));have s1:evE G (MK k) (Nh 1 (.int 0)) (k7 6 [d,.lst ((e::l).map qD)])=some (.ok (qD e) .strong):=p6 (cx:=.strong) (x:=.lst ((e::l).map qD)) (y:=.int 0) (d5 rfl) g8 (by
   have h0:(0:Int)<(((e::l).map qD).length:Int):=by simp
   simp only[ixD,atD,A0,d6 (cG 0),d6 h0,N6];rfl)
  have s2:evE G (MK k) (.slf (.var 1) (.int 1)) [.val d,.val (MZ ((e::l).map qD)),.val (qD e),.no,.no,.no]=some (.ok (MZ (l.map qD)) .fresh):=JM (c:=.strong) (c1:=.strong) (ds:=(e::l).map qD) (h:=1) (d5 rfl) g8;have cm:=KN (F:=run G T fu k) (δ:=[.val d,.val (MZ ((e::l).map qD)),.val (qD e),.val (MZ (l.map qD)),.no,.no]) (l:=l) (p:=kp f e) (it:=.var 3) (cd:=.call 17 [.var 1,.var 2,.var 0]) (fr:=[none,some 0,some 2]) (cl:=.strong) rfl MG KE
   λ a ha=>⟨[.val (qD a),.val d,.val (qD e)],rfl,j2 (cl:=.strong) (g6 (fr:=false) (l:=[(d,.strong),(qD e,.strong),(qD a,.strong)]) rfl rfl (by
    obtain⟨k',rfl⟩:∃k',k=k'+1:=⟨k - 1,by omega⟩;exact KJ (fu:=fu) (k:=k') L re.1 re.2 (rl a ha).1 (rl a ha).2)),d5 rfl⟩
  have lt:∀l:on (Nat×Nat),((mA (kp f) l).map qD).length<=l.length:=λ l=>by rw[d9];exact(ao (kp f) _ l (f6 _)).length_le
  have s3:evE G (MK k) (.bin .Add (.lst [.var 2]) (.call 16 [.var 0,.compi (.var 0) (.one 0) (.var 3) (.call 17 [.var 1,.var 2,.var 0]) [none,some 0,some 2]])) [.val d,.val (MZ ((e::l).map qD)),.val (qD e),.val (MZ (l.map qD)),.no,.no]=some (.ok (MZ ((e::mA (kp f) (l.filter (kp f e))).map qD)) .fresh):=
   wK (x:=[qD e]) (cx:=.fresh) (cy:=.fresh) rfl (g6 (NL (d7 cm f7)) rfl r1) (by have:=lt (l.filter (kp f e));simp only[L9];omega)
  have s4:evE G (MK k) (.call 16 [.var 0,.var 3]) [.val d,.val (MZ ((e::l).map qD)),.val (qD e),.val (MZ (l.map qD)),.own (MZ ((e::mA (kp f) (l.filter (kp f e))).map qD)),.no]=some (.ok (MZ ((mA (kp f) l).map qD)) .fresh):=g6 (d7 (d5 rfl) (NL f7)) rfl r2;have t1:=b_ge (F:=run G T fu k) (δ:=[.val d,.val (MZ ((e::l).map qD)),.val (qD e),.val (MZ (l.map qD)),.own (MZ ((e::mA (kp f) (l.filter (kp f e))).map qD)),.own (MZ ((mA (kp f) l).map qD))]) (T1 (B3 (n:=4) rfl)) (T1 (B3 (n:=5) rfl));rw[d9,d9]at t1;refine j7 (r9 t0 (f9 (n6 s1 rfl) (f9 (n6 s2 rfl) (f9 (E5 s3) (f9 (E5 s4) (j1 ?_))))));rw[ii];by_cases hle:(mA (kp f) l).length<=(e::mA (kp f) (l.filter (kp f e))).length
  ·rw[d6 hle];rw[o6 KE]at t1;exact k5 (cl:=.top) (KL (j2 t1) (B3 rfl))
  ·rw[e7 hle];rw[o5 KE]at t1;exact k5 (cl:=.top) (KM (j2 t1) (B3 rfl))
end k72
end
noncomputable section
namespace k72
open PySem L2
variable {fu k:Nat} {F:Nat->on DV->Mn Ou} {δ:on Sv} {ds:on DV} {cl:Cl} {n m:Nat} {f:Nat->Nat->Int} {d:DV}
variable {rows:on (on Int)}
theorem nX(f:Nat->Nat->Int)(w:Int)(J:on Nat):∀I:on Nat,(L4 f w J I).length<=I.length*J.length
 | []=>by simp[L4]
 | r::I=>by have q:=nX f w J I;show((_++L4 f w J I)).length<=_;rw[p7,d9,l4,G8,U8];have:=A5 (λ c=>f r c==w) J;omega
def KO(L:Look d n m f)(e:r<n)(h:∀j∈J,j<m)(b:J.length<=8)(a:Sv):evE G F (.compi (.tup [.var 1,.var 0]) (.one 0) (.var 2) (.cmp .Eq (.ix (Nh 2 (.var 1)) (.var 0)) (.var 3)) [none,some 4,some 0,some 1]) [.val d,.val (.int w),.val (MZ (nD J)),a,.val (MY (r:Int))]=some (.ok (MZ (((J.filter λ c=>f r c==w).map λ c=>(r,c)).map qD)) .fresh):=by
 rw[k9];exact T4 rfl MG (e9 b MG) λ j g=>
  ⟨[.val _,.val _,.val d,.val _],rfl,j2 (b_eq (ak L (d5 rfl) (d5 rfl) (d5 rfl) e (h j g)) (d5 rfl)),.strong,rfl,rfl⟩
theorem xL(L:Look d n m f)(l:∀j∈J,j<m)(g:J.length<=8):∀(I:on Nat) (a:on (Nat×Nat)) (z:Sv),(∀i∈I,i<n)->a.length+I.length*J.length<=900->∃e,l7 (.one 4) (λ b=>evSs G F fu [.ext 3 (.compi (.tup [.var 1,.var 0]) (.one 0) (.var 2) (.cmp .Eq (.ix (Nh 2 (.var 1)) (.var 0)) (.var 3)) [none,some 4,some 0,some 1])] b) (nD I) [.val d,.val (.int w),.val (MZ (nD J)),.own (MZ (a.map qD)),z]=some (.nx [.val d,.val (.int w),.val (MZ (nD J)),.own (MZ ((a++L4 f w J I).map qD)),e])
 | [],a,z,_,_=>⟨z,by rw[show L4 f w J []=[]from rfl,x4];rfl⟩
 | r::I,a,z,o,p=>by rw[l4,G8,U8]at p;have cl:=A5 (λ c=>f r c==w) J;obtain⟨e,h⟩:=xL L l g I (a++(J.filter λ c=>f r c==w).map λ c=>(r,c)) _ (λ i q=>o i (j5 _ q)) (by rw[p7,d9];omega);refine⟨e,?_⟩;show l7 _ _ (.int _::nD I) _=_;rw[T3 rfl (f9 (xz rfl (KO L (o r (i9 ..)) l g (.own (MZ (a.map qD)))) (by rw[d9,d9,d9];omega)) rfl),←o7];rw[show L4 f w J (r::I)=_++L4 f w J I from rfl,←Q2];exact h
def tell(rows:MU)(m:Nat)(w:Int):on (Nat×Nat):=mA (kp (at2 rows)) (L4 (at2 rows) w MT Nk)
theorem im_q:∀l:on (Nat×Nat),DV.immuts (l.map qD)=true
 | []=>rfl
 | _::l=>im_q l
def KP(R:Nd)(d:0<n)(n8:n<=8)(m8:m<=8)(h1:(Nk).length<=5)(h2:(MT).length<=5)(w:Int):run G T fu (k+40) 15 [tT rows,.int w]=some (.v (MZ ((tell rows m w).map qD)) true):=by
 have h:=K9 R;have g:∀i∈FI rows,i<n:=λ i v=>by have:=N0 v;rw[R.1]at this;exact this
 have f:∀j∈FI (flip m rows),j<m:=λ j u=>by have:=N0 u;rw[h.1]at this;exact this
 have o:=Q5 h1 h2;have L:=nH R;have z:=nF (fu:=fu) (k:=k+34) rows n m R d KE KE h1 h2;have y:evE G (MK (k+39)) (.bi .sset [.call 7 [.var 0]]) (k7 5 [tT rows,.int w])=some (.ok (.lst (nD MT)) .fresh):=(by have q:=gY (F:=run G T fu (k+39)) (δ:=k7 5 [tT rows,.int w]) (e:=.call 7 [.var 0]) (r:=kI (flip m rows)) (g6 (l:=[(tT rows,.strong)]) rfl rfl (nA (k:=k+37) rows n m R d KE KE)) (by rw[eg,h.1];omega);rw[gZ,bD]at q;exact q);have x:evE G (MK (k+39)) (.bi .sset [.call 6 [.var 0]]) [.val Nq,.val (.int w),.val (.lst (nD MT)),.own (.lst []),.no]=some (.ok (MZ (nD (FI rows))) .fresh):=(by have q:=gY (F:=run G T fu (k+39)) (δ:=[.val Nq,.val (.int w),.val (.lst (nD MT)),.own (.lst []),.no]) (e:=.call 6 [.var 0]) (r:=kI rows) (g6 (l:=[(tT rows,.strong)]) rfl rfl (gW (k:=k+38) rows (by rw[R.1];omega))) (by rw[eg,R.1];omega);rw[gZ,bD]at q;exact q);have a:m9 (evE G (MK (k+39)) (.bi .sset [.call 6 [.var 0]]) [.val Nq,.val (.int w),.val (.lst (nD MT)),.own (.lst []),.no])=some (.ok (nD Nk) .fresh):=by rw[x];rfl
 obtain⟨z',b⟩:=xL (fu:=fu) (w:=w) L f KE Nk [] .no g (by rw[cj];omega);rw[eY]at b;have el:=nX (at2 rows) w MT Nk;have s:=nW (fu:=fu) L 25 (L4 (at2 rows) w MT Nk) (k+39) KE KE KE λ p c=>⟨g _ (ij c).1,f _ (ij c).2.1⟩
 rw[j9 rfl rfl];unfold vg;refine j7 (f9 (fP (g6 (l:=[(tT rows,.strong)]) rfl rfl z)) (f9 (n6 y rfl) (f9 (E5 rfl) (D5 a (.inr rfl) b (j1 (k5 (cl:=.fresh) ?_))))));exact qG (NL (d7 (B3 rfl) f7)) s (im_q _)
end k72
end
noncomputable section
namespace k72
open PySem L2
def KQ(h:MH e cl (.int i)):evE G F (.meth .bitLength e []) δ=some (.ok (MY (R8 i)) .strong):=by
 show(if Mt.bitLength=.bitLength then Re.thn _ (λ x _=>mtD .bitLength x)else none)=_;rw[d6 rfl,h];rfl
abbrev rw'(r:on Int):rk.Rw:=λ j=>r.getD j 0
def io(h:b->DV):∀(l:on b) (n:Nat),enuD n (l.map h)=(ML l.length).map λ i=>.tup [.int ((n+i:Nat):Int),(l.map h).getD i .non]:=by
 intro l
 induction l with
 | nil=>intro n;rfl
 | cons a l c=>
  intro n;rw[l4,bP,t9,t9,k9];show .tup _::enuD (n+1) _=_;rw[c (n+1)]
  congr 1
  refine z7 λ i _=>?_;show _=DV.tup _;rw[show n+1+i=n+(i+1) by omega];rfl
def KR{G:Gs}{F:Nat->on DV->Mn Ou}{δ:on Sv}{e:ME}{r:on Int}(h:evE G F e δ=some (MV (.lst (iD r)))):m9 (MQ (.enu e))=some (.ok ((ML r.length).map λ (i:Nat)=>.tup [.int (i:Int),.int (r.getD i 0)]) .strong):=by
 have q:evE G F (.enu e) δ=Re.thn (MQ e) (λ x c=>cR x c):=rfl;rw[q,h];show some (Ri.ok (enuD 0 (iD r)) .strong)=_;unfold iD;rw[io]
 congr 2
 refine z7 λ i hi=>?_;have:=i7.mp hi;rw[F6,i8,i8,n7,i6 this];rfl
def KS:∀{l:on Nat} {a:Nat} {r:on Nat},l.filter p=a::r->l.find? p=some a:=by
 intro l
 induction l with
 | nil=>intro a r h;cases h
 | cons x l b=>
  intro a r h;rw[Y1];cases q:p x with
  | true=>rw[X1 q]at h;cases h;rfl
  | false=>rw[X0 (by rw[q];decide)]at h;exact b h
def KU(c:r.length<=1000)(d:¬rk.Nil r.length (rw' r)):run k72.G T fu (k+1) 42 [.lst (iD r)]=some (.v (MY (rk.ld r.length (rw' r):Nat)) false):=by
 have f:∀F:Nat->on DV->Mn Ou,evE k72.G F (.compi (.var 0) (.many [0,1]) (.enu (.var 0)) (.cmp .NotEq (.var 1) (.int 0)) [none,none]) [.val (MZ (iD r))]=some (.ok (.lst (((ML r.length).filter λ j=>decide (rw' r j≠0)).map λ (j:Nat)=>DV.int (j:Int))) .fresh):=λ F=>
  T4 (KR (d5 rfl)) MG (by rw[q9];exact e9 c MG) λ i hi=>⟨[.val _,.val _],rfl,by
   rw[j2 (D6 (d5 rfl) g8 ?_)];show some (!decide (r.getD i 0=0))=some _;rw[decide_not],.strong,d5 rfl,rfl⟩
 obtain⟨h1,h2⟩:=rk.ld_ok d;have b:rk.ld r.length (rw' r)∈(ML r.length).filter λ j=>decide (rw' r j≠0):=k8.mpr ⟨i7.mpr h1,by rw[E2];exact h2⟩
 cases q:(ML r.length).filter λ j=>decide (rw' r j≠0)with
 | nil=>rw[q]at b;cases b
 | cons a t=>
  have e:rk.ld r.length (rw' r)=a:=by unfold rk.ld;rw[KS q];rfl
  rw[j9 rfl rfl];refine j7 (j1 (k5 (p6 (f _) g8 ?_)));rw[q,e];have:=gU (r:=(a::t).map λ (j:Nat)=>(j:Int)) (j:=0) (by rw[d9,l4];omega);unfold iD at this;rw[k9]at this;exact this
def nY(h1:i.natAbs<2^2000)(h2:j.natAbs<2^2000):R7 i j=true:=by
 unfold R7;rw[o6 h1,o6 h2,jW,fz]
def stL(w x:on Int):on Int:=(ML x.length).map λ j=>rk.stz (rk.ld w.length (rw' w),rw' w) (rw' x) j
def rdL(K:MU)(x:on Int):on Int:=K.foldl (λ x w=>stL w x) x
def eD(w x:on Int):(stL w x).length=x.length:=by unfold stL;rw[d9,q9]
def KW:∀(x w:on Int),x.length=w.length->zpD (iD x) (iD w)=(ML x.length).map λ (i:Nat)=>DV.tup [.int (x.getD i 0),.int (w.getD i 0)]:=by
 intro x
 induction x with
 | nil=>intro w h;rfl
 | cons a x c=>
  intro w h;cases w with
  | nil=>cases h
  | cons b w=>
   rw[l4,bP,t9,k9];show DV.tup _::zpD (iD x) (iD w)=_;rw[c w (Nat.succ.inj h)];rfl
def Bd(e:Nat)(x:on Int):Prop:=∀a∈x,a.natAbs<2^e
def Bd.at(h:Bd e x)(j:Nat):(x.getD j 0).natAbs<2^e:=by
 rw[i8];cases q:x[j]? with
 | none=>exact Y2 e
 | some a=>exact h a (P9 q)
def KY{d:Int}(i:a.natAbs<2^e)(h:b.natAbs<2^f)(g:c.natAbs<2^e)(hd:d.natAbs<2^f):(a*b - c*d).natAbs<2^(e+f+1):=by
 have h1:(a*b).natAbs<=2^(e+f):=(by rw[Int.natAbs_mul,Nat.pow_add];exact Q5 (Q8 i) (Q8 h));have h2:(c*d).natAbs<2^(e+f):=(by rw[Int.natAbs_mul,Nat.pow_add];exact Nat.mul_lt_mul'' g hd);have h3:=Int.natAbs_sub_le (a*b) (c*d);rw[Q9];omega
def KZ(hw:Bd f w)(b:Bd e x):Bd (e+f+1) (stL w x):=λ a c=>by
 obtain⟨j,_,rfl⟩:=g9.mp c;exact KY (b.at j) (hw.at _) (b.at _) (hw.at j)
def RdOk:on (on Int)->on Int->Prop
 | [],_=>True
 | w::K,x=>(w.length=x.length/\¬rk.Nil w.length (rw' w)/\Bd 2000 x/\Bd 2000 w)/\RdOk K (stL w x)
def La{G:Gs}{F:Nat->on DV->Mn Ou}{δ:on Sv}{e:ME}{ds:on DV}(h:evE G F e δ=some (MV (.tup ds))):evE G F (.bi .list [e]) δ=some (.ok (MZ ds) .fresh):=by
 show Rs.thn (evEs G F [e] δ) (λ l=>biD .list l)=_;rw[d7 h f7];rfl
def zp_w{G:Gs}{F:Nat->on DV->Mn Ou}{δ:on Sv}{a b:ME}{x w:on Int}(ha:evE G F a δ=some (.ok (MZ (iD x)) .top))(hb:evE G F b δ=some (MV (.lst (iD w))))(h:x.length=w.length):m9 (MQ (.zp a b))=some (.ok ((ML x.length).map λ (i:Nat)=>DV.tup [.int (x.getD i 0),.int (w.getD i 0)]) .top):=by
 have q:evE G F (.zp a b) δ=Re.thn (MQ a) (λ x c=>Re.thn (MQ b) λ y c'=>zipD x y c c'):=rfl;rw[q,ha,B2,hb,B2];show some (Ri.ok (zpD (iD x) (iD w)) .top)=_;rw[KW x w h]
abbrev rS(l:DV)(K:MU)(x:on Int)(a b c:Sv):on Sv:=[.val l,.val (rL K),.own (MZ (iD x)),a,b,c]
noncomputable def rB:on MS:=[.set 4 false (MW 42 3),.set 5 false (Nh 2 (.var 4)),.set 2 true (.comp (.bin .Sub (.bin .Mult (.var 0) (Nh 2 (.var 3))) (.bin .Mult (.var 4) (.var 1))) (.many [0,1]) (.zp (.var 2) (.var 3)) [none,none,some 3,some 4,some 5])]
def r_in(j:x.length<=1000)(h:w.length=x.length/\¬rk.Nil w.length (rw' w)/\Bd 2000 x/\Bd 2000 w):∃q o,evSs k72.G (run k72.G T fu (k+1)) fu rB (rS l K x (.val (MZ (iD w))) b c)=some (.nx (rS l K (stL w x) (.val (MZ (iD w))) q o)):=by
 obtain⟨h1,h2,g,f⟩:=h;obtain⟨p,a⟩:∃p,rk.ld w.length (rw' w)=p:=Nb;have d:=rk.ld_ok h2;rw[a]at d;have n:evE k72.G (run k72.G T fu (k+1)) (MW 42 3) (rS l K x (.val (MZ (iD w))) b c)=some (.ok (MY (p:Nat)) .strong):=by have:=KU (fu:=fu) (k:=k) (r:=w) KE h2;rw[a]at this;exact g6 (NL f7) rfl this
 have m:evE k72.G (run k72.G T fu (k+1)) (.comp (.bin .Sub (.bin .Mult (.var 0) (Nh 2 (.var 3))) (.bin .Mult (.var 4) (.var 1))) (.many [0,1]) (.zp (.var 2) (.var 3)) [none,none,some 3,some 4,some 5]) (rS l K x (.val (MZ (iD w))) (MM (p:Nat)) (MM (x.getD p 0)))=some (.ok (MZ (iD (stL w x))) .fresh):=(by have:=A4 (F:=run k72.G T fu (k+1)) (it:=.zp (.var 2) (.var 3)) (δ:=rS l K x (.val (MZ (iD w))) (MM (p:Nat)) (MM (x.getD p 0))) (elt:=.bin .Sub (.bin .Mult (.var 0) (Nh 2 (.var 3))) (.bin .Mult (.var 4) (.var 1))) (tg:=.many [0,1]) (fr:=[none,none,some 3,some 4,some 5]) (zp_w (B3 rfl) (d5 rfl) h1.symm) MG (by rw[q9];exact e9 j MG) λ i hi=>⟨[.val _,.val _,.val (MZ (iD w)),.val (MY (p:Nat)),.val (MY (x.getD p 0))],.strong,rfl,V5 (E7 (d5 rfl) (p6 (d5 rfl) (d5 rfl) (gU d.1)) (nY (g.at i) (f.at p))) (E7 (d5 rfl) (d5 rfl) (nY (g.at p) (f.at i))),rfl⟩;rw[this];unfold stL iD;rw[a,k9];rfl);exact⟨_,_,f9 (n6 n rfl) (f9 (n6 (p6 (B3 rfl) (d5 rfl) (gU KE)) rfl) (f9 (E5 m) rfl))⟩
theorem xM:∀(K:MU) (x:on Int) (a b c:Sv),x.length<=1000->RdOk K x->∃i g f,l7 (.one 3) (λ d=>evSs k72.G (run k72.G T fu (k+1)) fu rB d) (K.map λ w=>.lst (iD w)) (rS l m x a b c)=some (.nx (rS l m (rdL K x) i g f))
 | [],x,a,b,c,_,_=>⟨a,b,c,rfl⟩
 | w::K,x,a,b,c,j,h=>by obtain⟨p,o,e⟩:=r_in j h.1;obtain⟨i,g,f,n⟩:=xM K _ _ p o (by rw[eD];exact j) h.2;refine⟨i,g,f,?_⟩;show l7 _ _ (.lst (iD w)::K.map λ w=>.lst (iD w)) _=_;rw[T3 rfl e];exact n
def Lb(a:x.length<=1000)(h:RdOk K x):run k72.G T fu (k+2) 41 [.tup (iD x),rL K]=some (.v (MZ (iD (rdL K x))) true):=by
 obtain⟨a',b',c',e⟩:=xM K x .no .no .no a h;rw[j9 rfl rfl];refine j7 (f9 (E5 (La (d5 rfl))) ?_);exact D5 rfl NK e (j1 (k5 (B3 rfl)))
def Lc(h:w.length=x.length):rw' (stL w x)=rk.stz (rk.ld w.length (rw' w),rw' w) (rw' x):=by
 funext j
 show(stL w x).getD j 0=rk.stz _ _ j;by_cases q:j<x.length
 ·rw[i8];unfold stL;rw[n7,T9 q];rfl
 ·have c:(stL w x).getD j 0=0:=by rw[i8,J7 (by rw[eD];omega)];rfl
  have b:x.getD j 0=0:=by rw[i8,J7 KE];rfl
  have a:w.getD j 0=0:=by rw[i8,J7 KE];rfl
  rw[c];show 0=x.getD j 0*_ - _*w.getD j 0;rw[b,a,aF,Y5];rfl
theorem ip:∀(K:MU) (x:on Int),(rdL K x).length=x.length
 | [],x=>rfl
 | w::K,x=>by show(rdL K _).length=_;rw[ip K,eD]
def kq(w:on Int):Nat×rk.Rw:=(rk.ld w.length (rw' w),rw' w)
theorem xN:∀(K:MU) (x:on Int),(∀w∈K,w.length=x.length)->rw' (rdL K x)=rk.rz (K.map kq) (rw' x)
 | [],x,_=>rfl
 | w::K,x,h=>by show rw' (rdL K _)=rk.rz _ _;rw[xN K _ λ a b=>by rw[eD];exact h a (j5 _ b),Lc (h w i9)];rfl
def ex(s:Nat):Nat:=5*2^s - 1
def Ld(s:Nat):ex s+ex s+1=ex (s+1):=by
 unfold ex;have:=Y2 s;rw[Q9];omega
def xO(h:s<=8):ex s<=2000:=by
 unfold ex;have:2^s<=2^8:=v7 MG h;have e:2^8=256:=by decide
 omega
def Bd.mono(h:Bd e x)(q:e<=f):Bd f x:=λ a b=>o4 (h a b) (v7 MG q)
theorem xP:∀(K:MU) (s:Nat) (x:on Int),Bd (ex s) x->(∀i w,K[i]? = some w->w.length=x.length/\¬rk.Nil w.length (rw' w)/\Bd (ex (s+i)) w)->s+K.length<=8->RdOk K x/\Bd (ex (s+K.length)) (rdL K x)
 | [],s,x,a,_,_=>⟨trivial,a⟩
 | w::K,s,x,a,h,hs=>by
  obtain⟨h1,h2,b⟩:=h 0 w rfl;rw[l4]at hs;have I:=xP K (s+1) _ (by rw[←Ld];exact KZ b a) (λ i c j=>by
   obtain⟨g,f,d⟩:=h (i+1) c j;rw[eD];exact⟨g,f,by rw[show s+1+i=s+(i+1) by omega];exact d⟩) KE
  refine⟨⟨⟨h1,h2,a.mono (xO KE),b.mono (xO KE)⟩,I.1⟩,?_⟩;have:=I.2;rw[l4,show s+_=s+1+K.length by omega];exact this
def kl(rows:MU)(m:Nat):Nat->on (Nat×on Int)
 | 0=>[]
 | n+1=>
  let y:=rdL ((NI).map (·.2)) (ND n)
  if rk.Nil m (rw' y)then kl rows m n else kl rows m n++[(n,y)]
noncomputable def vv(rows:MU):Nat->rk.Rw:=λ i=>rw' (ND i)
structure Kl(rows:List (List Int))(m n:Nat):Prop where
 len:(NI).length<=n
 ok:∀(i:Nat) q,NI[i]? = some q->q.2.length=m/\¬rk.Nil m (rw' q.2)/\Bd (ex i) q.2
 eq:rk.kz (vv rows) m n=(NI).map λ q=>(q.1,kq q.2)
def Kl.all(I:Kl rows m n):∀q∈kl rows m n,q.2.length=m:=λ q a=>by
 obtain⟨i,b,e⟩:=X4 a;exact(I.ok i q (by rw[i6 b,e])).1
def iq(R:Rect N m rows)(h:n<N):rows.getD n []∈rows/\(ND n).length=m:=by
 have a:n<rows.length:=by rw[R.1];exact h
 have:rows.getD n []∈rows:=by rw[i8,i6 a];exact E4 a
 exact⟨this,R.2 _ this⟩
def Kl.red(R:Rect N m rows)(l:∀r∈rows,∀x∈r,0<=x/\x<=9)(I:Kl rows m n)(j:n<N)(h8:N<=8):RdOk ((NI).map (·.2)) (ND n)/\Bd (ex (NI).length) (rdL ((NI).map (·.2)) (ND n))/\rw' (rdL ((NI).map (·.2)) (ND n))=rk.rkz (vv rows) m n (vv rows n):=by
 obtain⟨r1,d⟩:=iq R j;have:=xP ((NI).map (·.2)) 0 _ (λ a k=>by
  have:=l _ r1 a k;show a.natAbs<2^4;have e:2^4=16:=by decide
  omega) (λ i w b=>by
   rw[n7]at b;obtain⟨q,c,rfl⟩:=o9.mp b;obtain⟨f,h,g⟩:=I.ok i q c;rw[d,F6];exact⟨f,by rw[f];exact h,g⟩) (by rw[d9];have:=I.len;omega)
 rw[d9,F6]at this;refine⟨this.1,this.2,?_⟩;rw[xN _ _ λ w b=>by
  obtain⟨q,c,rfl⟩:=g9.mp b;rw[d];exact I.all q c]
 unfold rk.rkz;rw[I.eq,k9,k9];rfl
def ir(rows:MU)(m n:Nat):kl rows m (n+1)=if rk.Nil m (rw' (rdL ((NI).map (·.2)) (ND n)))then kl rows m n else kl rows m n++[(n,rdL ((NI).map (·.2)) (ND n))]:=rfl
theorem nZ(R:Rect N m rows)(d:∀r∈rows,∀x∈r,0<=x/\x<=9)(f:N<=8):∀n,n<=N->Kl rows m n
 | 0,_=>⟨f6 _,λ i q h=>(by have g:([]:on _)[i]? = some q:=h;rw[List.getElem?_nil]at g;cases g),rfl⟩
 | n+1,hn=>by
  have I:=nZ R d f n KE;obtain⟨_,b,e⟩:=I.red R d KE f;obtain⟨_,c⟩:=iq (n:=n) R KE;by_cases z:rk.Nil m (rw' (rdL ((NI).map (·.2)) (ND n)))
  ·have a:kl rows m (n+1)=kl rows m n:=by rw[ir,d6 z]
   refine⟨by rw[a];have:=I.len;omega,by rw[a];exact I.ok,?_⟩;rw[a,rk.kz_succ,d6 (by rw[←e];exact z)];exact I.eq
  ·have a:kl rows m (n+1)=kl rows m n++[(n,rdL ((NI).map (·.2)) (ND n))]:=by rw[ir,e7 z]
   refine⟨by rw[a,p7,L9];have:=I.len;omega,λ i q h=>?_,?_⟩
   ·rw[a]at h;by_cases w:i<(NI).length
    ·rw[P8 w]at h;exact I.ok i q h
    ·rw[P7 KE]at h;have j:i=(NI).length:=by
      refine iL λ ne=>?_;rw[J7 (by rw[L9];omega)]at h;cases h
     subst j;rw[fC]at h;cases h;exact⟨by rw[ip,c],z,b⟩
   ·rw[a,rk.kz_succ,e7 (by rw[←e];exact z),o7,I.eq,←e];show _++[_]=_++[(n,kq _)];unfold kq;rw[ip,c]
theorem xQ:∀(y:on Int),DV.immuts (iD y)=true
 | []=>rfl
 | a::y=>by show(DV.immut _&&DV.immuts (iD y))=true;rw[xQ y];rfl
theorem xR{b:Type}(f:b->Bool):∀(l:on b),bools? (l.map λ a=>DV.bl (f a))=some (l.map f)
 | []=>rfl
 | a::l=>by show(bools? _).map _=_;rw[xR f l];rfl
def Le{b:Type}{f:b->Bool}{l:on b}(h:evE G F e δ=some (.ok (MZ (l.map λ a=>.bl (f a))) c)):evE G F (.bi .any [e]) δ=some (.ok (.bl (l.any f)) .strong):=by
 show Rs.thn _ _=_;rw[d7 h f7];show(bools? _).map _=_;rw[xR];show some (Re.ok _ .strong)=_;rw[fB];rfl
def Lf(hy:y.length=m):y.any (λ a=>decide (a≠0)) = !decide (rk.Nil m (rw' y)):=by
 by_cases z:rk.Nil m (rw' y)
 ·rw[o6 z];show _=false;rw[List.any_eq_false];intro a c;obtain⟨j,b,e⟩:=X4 c;have:=z j KE;have this:y.getD j 0=0:=this;rw[i8,i6 b]at this;have:y[j]=0:=this;rw[e]at this;simp[this]
 ·rw[o5 z];show _=true;rw[B1];obtain⟨h1,h2⟩:=rk.ld_ok z;have b:rk.ld m (rw' y)<y.length:=by omega
  refine⟨y[rk.ld m _],E4 b,?_⟩;rw[E2];have h2:y.getD _ 0≠0:=h2;rw[i8,i6 b]at h2;exact h2
abbrev bS(rows:MU)(m n:Nat)(a b c:Sv):on Sv:=[.val Nq,.own (.lst (nD ((NI).map (·.1)))),.own (rL ((NI).map (·.2))),a,b,c]
noncomputable def bB:on MS:=[.set 5 false (.call 41 [.var 4,.var 2]),.iff (.bi .any [.comp (.cmp .NotEq (.var 0) (.int 0)) (.one 0) (.var 5) [none]]) [.app 1 (.var 3),.app 2 (.var 5)] []]
def b_in(R:Rect N m rows)(j:∀r∈rows,∀x∈r,0<=x/\x<=9)(o:N<=8)(g:m<=1000)(i:n<N)(c:Sv):∃A,evSs G (MK (k+2)) fu bB (bS rows m n (MM (n:Int)) (.val (.tup (iD (ND n)))) c)=some (.nx (bS rows m (n+1) (MM (n:Int)) (.val (.tup (iD (ND n)))) A)):=by
 have I:=nZ R j o n KE;obtain⟨r1,_,_⟩:=I.red R j i o;obtain⟨_,f⟩:=iq R i;have p:=I.len;obtain⟨y,b⟩:∃y,rdL ((kl rows m n).map (·.2)) (rows.getD n [])=y:=Nb;have h:y.length=m:=by rw[←b,ip,f]
 have w:evE G (MK (k+2)) (.call 41 [.var 4,.var 2]) (bS rows m n (MM (n:Int)) (.val (.tup (iD (ND n)))) c)=some (.ok (MZ (iD y)) .fresh):=(by have e:=Lb (fu:=fu) (k:=k) (by rw[f];exact g) r1;rw[b]at e;exact qG (NL (d7 (B3 rfl) f7)) e (xQ y));have d:evE G (MK (k+2)) (.bi .any [.comp (.cmp .NotEq (.var 0) (.int 0)) (.one 0) (.var 5) [none]]) (bS rows m n (MM (n:Int)) (.val (.tup (iD (ND n)))) (.val (MZ (iD y))))=some (.ok (.bl (!decide (rk.Nil m (rw' y)))) .strong):=(by rw[←Lf h];refine Le (l:=y) (A4 rfl MG (by rw[h];exact e9 g MG) λ a _=>⟨[.val (.int a)],.strong,rfl,D6 (d5 rfl) g8 ?_,rfl⟩);show some (!decide (a=0))=some _;rw[decide_not]);refine⟨.val (MZ (iD y)),f9 (n6 w rfl) ?_⟩;by_cases z:rk.Nil m (rw' y)
 ·rw[o6 z]at d;refine r9 (j2 d) ?_;have e:kl rows m (n+1)=kl rows m n:=by rw[ir,b,d6 z]
  show _=some _;unfold bS;rw[e];rfl
 ·rw[o5 z]at d;have e:kl rows m (n+1)=kl rows m n++[(n,y)]:=by rw[ir,b,e7 z]
  have v:nD ((kl rows m (n+1)).map (·.1))=nD ((NI).map (·.1))++[.int (n:Int)]:=(by unfold nD;rw[e,o7,o7];rfl);have u:rL ((kl rows m (n+1)).map (·.2))=.lst (((NI).map (·.2)).map (λ r=>DV.lst (iD r))++[.lst (iD y)]):=(by unfold rL;rw[e,o7,o7];rfl);have s:(nD ((NI).map (·.1))).length<l5:=(by unfold nD;rw[d9,d9];exact N4 (show _<=8 by omega) MG);have q:(((NI).map (·.2)).map (λ r=>DV.lst (iD r))).length<l5:=(by rw[d9,d9];exact N4 (show _<=8 by omega) MG);refine cW (j2 d) (f9 (cX (ds:=nD ((NI).map (·.1))) rfl (d5 rfl) rfl s) (f9 (cX (ds:=((NI).map (·.2)).map λ r=>DV.lst (iD r)) rfl (d5 rfl) rfl q) rfl)) ?_;show _=some _;unfold bS;rw[v,u];rfl
theorem xS(R:Rect N m rows)(g:∀r∈rows,∀x∈r,0<=x/\x<=9)(h:N<=8)(f:m<=1000):∀n,n<=N->∃a b c,l7 (.many [3,4]) (λ d=>evSs G (MK (k+2)) fu bB d) ((ML n).map λ (i:Nat)=>DV.tup [.int (i:Int),.tup (iD (ND i))]) (bS rows m 0 .no .no .no)=some (.nx (bS rows m n a b c))
 | 0,_=>⟨_,_,_,rfl⟩
 | n+1,hn=>by obtain⟨a,b,c,e⟩:=xS R g h f n KE;obtain⟨l,j⟩:=b_in R g h f (n:=n) KE c;refine⟨.val (MY (n:Int)),.val (.tup (iD (ND n))),l,?_⟩;rw[Y0,o7,lr e];exact qI rfl j
def Lg(h:evE G F e δ=some (MV (tT rows))):m9 (MQ (.enu e))=some (.ok ((ML rows.length).map λ (i:Nat)=>DV.tup [.int (i:Int),.tup (iD (ND i))]) .strong):=by
 have q:evE G F (.enu e) δ=Re.thn _ _:=rfl;rw[q,h];show some _=_;rw[io]
 congr 2
 refine z7 λ i a=>?_;have:=i7.mp a;rw[F6,i8,i8,n7,i6 this];rfl
def bl0(rows:MU)(m:Nat):on Nat:=rk.bz (vv rows) m rows.length
def Lh(R:Rect N m rows)(d:∀r∈rows,∀x∈r,0<=x/\x<=9)(f:N<=8)(g:m<=1000):run G T fu (k+3) 40 [tT rows]=some (.v (MZ (nD (bl0 rows m))) true):=by
 obtain⟨a,b,c,e⟩:=xS R d f g N (f6 _);have h:bl0 rows m=(kl rows m N).map (·.1):=by unfold bl0 rk.bz;rw[R.1,(nZ R d f N (f6 _)).eq,k9];rfl
 rw[j9 rfl rfl,h];refine j7 (f9 (E5 rfl) (f9 (E5 rfl) ?_));refine D5 ?_ NK e (j1 (k5 (cl:=.top) (B3 rfl)));have:=Lg (F:=run G T fu (k+2)) (δ:=bS rows m 0 .no .no .no) (e:=.var 0) (d5 rfl);rw[R.1]at this;exact this
def Li(R:Nd)(b:W9 rows)(c:n<=8)(a:m<=1000):run G T fu (k+4) 39 [tT rows]=some (.v (MY ((bl0 rows m).length:Nat)) false):=by
 rw[j9 rfl rfl];have e:=T1 (δ:=[.val _]) (g6 (d7 (d5 (n:=0) rfl) f7) rfl (Lh (fu:=fu) (k:=k) R b c a));have l:(nD (bl0 rows m)).length=(bl0 rows m).length:=by unfold nD;rw[d9]
 rw[l]at e;exact j7 (j1 (k5 e))
def bnot(i:Int):Builtin.bitNot i = -i - 1:=by unfold Builtin.bitNot;omega
def xT(a b:Nat):Builtin.bitOr (a:Int) (b:Int)=((a ||| b:Nat):Int):=by
 unfold Builtin.bitOr Builtin.bitAnd;rw[bnot (a:Int),bnot (b:Int),o5 KE,o5 KE];show Builtin.bitNot (Builtin.bitNot _)=_;rw[bnot (-_ - 1),bnot (-_ - 1),show(-(-(a:Int) - 1) - 1).toNat=a by omega,show(-(-(b:Int) - 1) - 1).toNat=b by omega,bnot,bnot];omega
theorem xU:∀(n a b:Nat),a<2^n->b<2^n->a ||| b=(a ^^^ b)+(a &&& b)
 | 0,a,b,d,c=>by
  have:a=0:=by rw[Nat.pow_zero]at d;omega
  have:b=0:=by rw[Nat.pow_zero]at c;omega
  subst a;subst b;rfl
 | n+1,a,b,d,c=>by
  have e:∀x:Nat,x=2*(x/2)+x%2:=λ x=>by omega
  rw[e (a ||| b),e (a ^^^ b),e (a &&& b),Nat.or_div_two,Nat.xor_div_two,Nat.and_div_two,(xU n (a/2) (b/2) (by rw[Q9]at d;omega) (by rw[Q9]at c;omega))];have m:(a ||| b)%2=(a ^^^ b)%2+(a &&& b)%2:=by
   have h1:=Nat.or_mod_two_pow (a:=a) (b:=b) (n:=1);have h2:=Nat.xor_mod_two_pow (a:=a) (b:=b) (n:=1);have f:=Nat.and_mod_two_pow (a:=a) (b:=b) (n:=1);rw[Nat.pow_one]at h1 h2 f;rw[h1,h2,f];rcases iG a with p | p<;>rcases iG b with q | q<;>rw[p,q]<;>rfl
  omega
def xV(a b:Nat):Builtin.bitXor (a:Int) (b:Int)=((a ^^^ b:Nat):Int):=by
 unfold Builtin.bitXor;rw[xT,ei];have:=xU (a+b) a b (o4 Nat.lt_two_pow_self (v7 MG KE)) (o4 Nat.lt_two_pow_self (v7 MG KE));omega
abbrev K3:=Nat×rk.N2
noncomputable def k3(q:K3):DV:=.tup [.int (q.1:Nat),.int (q.2.1:Nat),.int (q.2.2:Nat)]
abbrev tS(l kd:DV)(p:rk.N2)(a b c:Sv):on Sv:=[.val l,.val kd,.val (MY (p.1:Nat)),.val (MY (p.2:Nat)),a,b,c]
noncomputable def tB:on MS:=[.iff (.cmp .Eq (.bin .BitAnd (.bin .RShift (.var 2) (.bin .Sub (.meth .bitLength (.var 5) []) (.int 1))) (.int 1)) (.int 1)) [.set 2 false (.bin .BitXor (.var 2) (.var 5)),.set 3 false (.bin .BitXor (.var 3) (.var 6))] []]
def t_in{q:K3}(hq:q.2.1≠0):evSs G F fu tB (tS l b p (MM (q.1:Nat)) (MM (q.2.1:Nat)) (MM (q.2.2:Nat)))=some (.nx (tS l b (rk.st p q.2) (MM (q.1:Nat)) (MM (q.2.1:Nat)) (MM (q.2.2:Nat)))):=by
 have f:R8 ((q.2.1:Nat):Int)=((q.2.1.log2+1:Nat):Int):=(by unfold R8;rw[e7 KE,bZ];rfl);have j:∀a:on Sv,a[5]? = some (MM (q.2.1:Nat))->evE G F (.bin .Sub (.meth .bitLength (.var 5) []) (.int 1)) a=some (.ok (MY ((q.2.1.log2:Nat):Int)) .strong):=λ a h=>by have:=V5 (KQ (d5 h)) (g8 (G:=G) (F:=F) (δ:=a) (i:=1));rw[f,show((q.2.1.log2+1:Nat):Int) - 1=((q.2.1.log2:Nat):Int) by omega]at this;exact this
 have g:evE G F (.bin .RShift (.var 2) (.bin .Sub (.meth .bitLength (.var 5) []) (.int 1))) (tS l b p (MM (q.1:Nat)) (MM (q.2.1:Nat)) (MM (q.2.2:Nat)))=some (.ok (MY (((p.1:Nat):Int)/2^(((q.2.1.log2:Nat):Int).toNat))) .strong):=v4 (d5 rfl) (j _ rfl) (show(if 0<=((q.2.1.log2:Nat):Int)then some (Re.ok (MY (((p.1:Nat):Int)/2^(((q.2.1.log2:Nat):Int).toNat))) Cl.strong)else none)=_ from d6 (x0 _));have c:evE G F _ _=some (.ok (.bl (p.1.testBit q.2.1.log2)) .strong):=(by have:=b_eq (v4 g g8 (show binD .BitAnd _ _ _ _=some (Re.ok (MY (if p.1.testBit q.2.1.log2 then 1 else 0)) .strong) by rw[←wd];rfl)) (g8 (G:=G) (F:=F) (i:=1));rw[this];cases p.1.testBit q.2.1.log2<;>rfl);have d:evE G F (.bin .BitXor (.var 3) (.var 6)) (tS l b (p.1 ^^^ q.2.1,p.2) (MM (q.1:Nat)) (MM (q.2.1:Nat)) (MM (q.2.2:Nat)))=some (.ok (MY ((p.2 ^^^ q.2.2:Nat):Int)) .strong):=(by rw[←xV];exact v4 (d5 rfl) (d5 rfl) rfl);unfold rk.st;cases z:p.1.testBit q.2.1.log2 with
 | false=>
  rw[z]at c;exact r9 (j2 c) rfl
 | true=>
  rw[z]at c;exact cW (j2 c) (f9 (n6 ((by rw[←xV];exact v4 (d5 rfl) (d5 rfl) rfl)) rfl) (f9 (n6 d rfl) rfl)) rfl
theorem xW:∀(K:on K3) (p:rk.N2) (a b c:Sv),(∀q∈K,q.2.1≠0)->∃i g f,l7 (.many [4,5,6]) (λ d=>evSs G F fu tB d) (K.map k3) (tS l j p a b c)=some (.nx (tS l j (rk.red (K.map (·.2)) p) i g f))
 | [],p,a,b,c,_=>⟨a,b,c,rfl⟩
 | q::K,p,a,b,c,h=>by
  obtain⟨i,g,f,e⟩:=xW K _ _ _ _ λ r k=>h r (j5 _ k)
  refine⟨i,g,f,?_⟩;show l7 _ _ (k3 q::K.map k3) _=_;rw[T3 rfl (t_in (h q i9))];exact e
def Lj{K:on K3}(h:∀q∈K,q.2.1≠0):run G T fu (k+1) 47 [.int (x:Nat),.lst (K.map k3)]=some (.v (.tup [.int ((rk.red (K.map (·.2)) (x,0)).1:Nat),.int ((rk.red (K.map (·.2)) (x,0)).2:Nat)]) false):=by
 obtain⟨a',b',c',e⟩:=xW K (x,0) .no .no .no h;rw[j9 rfl rfl];refine j7 (f9 (n6 (d5 rfl) rfl) (f9 (n6 (g8) rfl) ?_));exact D5 rfl NK e (j1 (k5 (S4 (d7 (d5 rfl) (NL f7)) (show(2:Nat)<=l5 by decide) rfl)))
theorem oa(L:Nat->Nat):∀n,∀q∈rk.kp L n,q.2.1≠0
 | 0,q,h=>absurd h (by simp[rk.kp])
 | n+1,q,h=>by
  rw[rk.kp_succ]at h;split at h
  ·exact oa L n q h
  ·rename_i z;rcases x3.mp h with w | w
   ·exact oa L n q w
   ·have:=s9.mp w;subst this;exact z
theorem oe(L:Nat->Nat):∀n,(rk.kp L n).length<=n
 | 0=>f6 _
 | n+1=>by
  rw[rk.kp_succ];have:=oe L n;split
  ·omega
  ·rw[p7,L9];omega
abbrev LL(ls:on Nat):Nat->Nat:=λ i=>ls.getD i 0
abbrev kS(ls:on Nat)(n:Nat)(a b c:Sv):on Sv:=[.val (MZ (nD ls)),.own (MZ ((rk.kp (LL ls) n).map k3)),a,b,c]
noncomputable def kB:on MS:=[.set 4 false (.call 47 [.var 3,.var 1]),.iff (.cmp .NotEq (Nh 4 (.int 0)) (.int 0)) [.app 1 (.tup [.var 2,.ix (.var 4) (.int 0),.bin .BitOr (Nh 4 (.int 1)) (Oe (.var 2))])] []]
def k_in(m:n<64)(c:Sv):∃o,evSs G (MK (k+1)) fu kB (kS ls n (MM (n:Nat)) (MM (ls.getD n 0:Nat)) c)=some (.nx (kS ls (n+1) (MM (n:Nat)) (MM (ls.getD n 0:Nat)) o)):=by
 obtain⟨p,f⟩:∃p,rk.rk (LL ls) n (LL ls n,0)=p:=Nb;have g:=Lj (fu:=fu) (k:=k) (x:=ls.getD n 0) (oa (LL ls) n);have g:run G T fu (k+1) 47 [.int (ls.getD n 0:Nat),.lst ((rk.kp (LL ls) n).map k3)]=some (.v (.tup [.int (p.1:Nat),.int (p.2:Nat)]) false):=by rw[g];show some (Ou.v (.tup [.int ((rk.rk (LL ls) n (LL ls n,0)).1:Nat),.int ((rk.rk (LL ls) n (LL ls n,0)).2:Nat)]) false)=_;rw[f]
 obtain⟨d,hd⟩:∃d,kS ls n (.val (.int (n:Nat))) (.val (.int (ls.getD n 0:Nat))) (.val (.tup [.int (p.1:Nat),.int (p.2:Nat)]))=d:=Nb;have h:evE G (MK (k+1)) (.var 4) d=some (.ok (.tup [.int (p.1:Nat),.int (p.2:Nat)]) .strong):=by rw[←hd];exact d5 rfl
 have i:evE G (MK (k+1)) (.var 2) d=some (.ok (MY (n:Nat)) .strong):=by rw[←hd];exact d5 rfl
 have j:evE G (MK (k+1)) (Nh 4 (.int 0)) d=some (.ok (MY (p.1:Nat)) .strong):=p6 h g8 rfl;have b:evE G (MK (k+1)) (.cmp .NotEq (Nh 4 (.int 0)) (.int 0)) d=some (.ok (.bl (!decide (((p.1:Nat):Int)=0))) .strong):=D6 j g8 rfl;have l:evE G (MK (k+1)) (Oe (.var 2)) d=some (.ok (MY ((1<<<n:Nat):Int)) .strong):=(by refine(v4 g8 i (show binD .LShift (.int 1) (MY (n:Nat)) .strong .strong=some (Re.ok (MY (1*2^((n:Int).toNat))) .strong)from d6 ⟨x0 n,by omega,by decide⟩)).trans ?_;rw[v9,R4,Nat.one_shiftLeft,Int.natCast_pow];rfl);have q:evE G (MK (k+1)) (.bin .BitOr (Nh 4 (.int 1)) (Oe (.var 2))) d=some (.ok (MY ((p.2 ||| 1<<<n:Nat):Int)) .strong):=(by rw[←xT];exact v4 (p6 h g8 rfl) l rfl);refine⟨.val (.tup [.int (p.1:Nat),.int (p.2:Nat)]),f9 (n6 (Bz (NL (d7 (B3 rfl) f7)) rfl g) rfl) ?_⟩;show evSs G (MK (k+1)) fu _ (kS ls n (MM (n:Nat)) (MM (ls.getD n 0:Nat)) (.val (.tup [.int (p.1:Nat),.int (p.2:Nat)])))=_;by_cases z:p.1=0
 ·rw[o6 KE]at b;rw[hd];refine r9 (j2 b) ?_;have e:rk.kp (LL ls) (n+1)=rk.kp (LL ls) n:=by rw[rk.kp_succ,f,d6 z]
  rw[←hd];unfold kS;rw[e];rfl
 ·rw[o5 KE]at b;have e:rk.kp (LL ls) (n+1)=rk.kp (LL ls) n++[(n,(p.1,p.2 ||| 1<<<n))]:=by rw[rk.kp_succ,f,e7 z]
  rw[hd];refine cW (j2 b) (f9 (cX (by rw[←hd];rfl) (S4 (d7 i (d7 j (d7 q f7))) (show(3:Nat)<=l5 by decide) rfl) rfl ((by rw[d9];exact N4 (oe (LL ls) n) (o4 m MG)))) rfl) ?_;rw[←hd];unfold kS;rw[e,o7];rfl
theorem xX:∀n,n<=64->∃a b c,l7 (.many [2,3]) (λ d=>evSs G (MK (k+1)) fu kB d) ((ML n).map λ (i:Nat)=>DV.tup [.int (i:Int),.int ((ls.getD i 0:Nat):Int)]) (kS ls 0 .no .no .no)=some (.nx (kS ls n a b c))
 | 0,_=>⟨_,_,_,rfl⟩
 | n+1,hn=>by obtain⟨a,b,c,e⟩:=xX n KE;obtain⟨g,f⟩:=k_in (n:=n) KE c;refine⟨.val (MY (n:Nat)),.val (MY (ls.getD n 0:Nat)),g,?_⟩;rw[Y0,o7,lr e];exact qI rfl f
def Lk(h:evE G F e δ=some (MV (.lst (nD ls)))):m9 (MQ (.enu e))=some (.ok ((ML ls.length).map λ (i:Nat)=>DV.tup [.int (i:Int),.int ((ls.getD i 0:Nat):Int)]) .strong):=by
 have q:evE G F (.enu e) δ=Re.thn _ _:=rfl;rw[q,h];show some (Ri.ok (enuD 0 (ls.map λ _=>DV.int _)) .strong)=_;rw[io]
 congr 2
 refine z7 λ i a=>?_;have:=i7.mp a;rw[F6,i8,i8,n7,i6 this];rfl
def Ll(d:ls.length<=64):run G T fu (k+2) 46 [.lst (nD ls)]=some (.v (MZ ((rk.kp (LL ls) ls.length).map k3)) true):=by
 obtain⟨a,b,c,e⟩:=xX ls.length d;rw[j9 rfl rfl];refine j7 (f9 (E5 rfl) ?_);exact D5 (Lk (d5 rfl)) NK e (j1 (k5 (B3 rfl)))
def Lm(a:ls.length<=64):run G T fu (k+3) 45 [.lst (nD ls)]=some (.v (MZ (nD (rk.bs (LL ls) ls.length))) true):=by
 rw[j9 rfl rfl];have b:=A4 (F:=run G T fu (k+2)) (δ:=[.val _]) (it:=.call 46 [.var 0]) (elt:=.var 0) (tg:=.many [0,1,2]) (fr:=[none,none,none]) (by rw[(g6 (NL f7) rfl (Ll a))];rfl) MG (e9 (oe _ _) (e9 a MG)) λ q _=>⟨[.val _,.val _,.val _],.strong,rfl,d5 rfl,rfl⟩
 have e:(rk.kp (LL ls) ls.length).map (λ q=>DV.int (q.1:Nat))=nD (rk.bs (LL ls) ls.length):=(by unfold nD rk.bs;rw[k9];rfl);rw[e]at b;exact j7 (j1 (k5 b))
def tw:on Int->Nat
 | []=>0
 | a::r=>(a%2).toNat+2*tw r
theorem xY:∀(r:on Int) (j:Nat),(tw r).testBit j=decide (r.getD j 0%2=1)
 | [],j=>by show Nat.testBit 0 j=_;rw[M1];rfl
 | a::r,j=>by
  have h0:0<=a%2:=fh a MG;have h1:a%2<2:=eV a MG;cases j with
  | zero=>
   rw[Nat.testBit_zero];show decide ((((a%2).toNat+2*tw r)%2)=1)=decide (a%2=1);rw[cf];omega
  | succ j=>
   rw[Nat.testBit_succ];have e:tw (a::r)/2=tw r:=by show((a%2).toNat+2*tw r)/2=tw r;omega
   rw[e,xY r j];rfl
theorem xZ:∀(r:on Int),tw r<2^r.length
 | []=>by decide
 | a::r=>by have:=xZ r;have h1:a%2<2:=eV a MG;rw[l4,Q9];show(a%2).toNat+2*tw r<_;omega
noncomputable def tws(r:on Int)(o:Nat):on Int:=(ML r.length).map λ j=>r.getD j 0%2*2^(o+j)
def Ln(a:Int)(r:on Int)(o:Nat):tws (a::r) o=(a%2*2^o)::tws r (o+1):=by
 unfold tws;rw[l4,bP,t9,k9]
 congr 1
 refine z7 λ j _=>?_;show(a::r).getD (j+1) 0%2*2^_=r.getD j 0%2*2^_;rw[show o+(j+1)=o+1+j by omega];rfl
theorem ya:∀(r:on Int) (o:Nat),(tws r o).sum=(tw r:Int)*2^o
 | [],o=>by show(0:Int)=0*2^o;rw[aF]
 | a::r,o=>by
  rw[Ln,cA,ya r (o+1)];have h0:0<=a%2:=fh a MG;have e:((tw (a::r):Nat):Int)=a%2+2*(tw r:Int):=by show(((a%2).toNat+2*tw r:Nat):Int)=_;omega
  rw[e,Int.add_mul,Int.pow_succ,B9 _ 2,←G7,B9 _ 2]
def Lo(h:evE G F e δ=some (.ok (MZ (iD r)) c)):evE G F (.bi .sum [e]) δ=some (.ok (MY r.sum) .strong):=by
 show Rs.thn _ _=_;rw[d7 h f7];show(ints? (iD r)).map _=_;rw[bC];rfl
def Lq(h:evE G F e δ=some (MV (.tup (iD r)))):m9 (MQ (.enu e))=some (.ok ((ML r.length).map λ (i:Nat)=>.tup [.int (i:Int),.int (r.getD i 0)]) .strong):=by
 have q:evE G F (.enu e) δ=Re.thn _ _:=rfl;rw[q,h];show some _=_;unfold iD;rw[io]
 congr 2
 refine z7 λ i a=>?_;have:=i7.mp a;rw[F6,i8,i8,n7,i6 this];rfl
def Lr(b:r.length<=64):evE G F (.bi .sum [.comp (.bin .LShift (.bin .Mod (.var 1) (.int 2)) (.var 0)) (.many [0,1]) (.enu (.var 0)) [none,none]]) [.val (.tup (iD r))]=some (.ok (MY (tw r:Nat)) .strong):=by
 have a:=A4 (F:=F) (δ:=[.val (.tup (iD r))]) (it:=.enu (.var 0)) (f:=λ (i:Nat)=>DV.int (r.getD i 0%2*2^(0+i))) (elt:=.bin .LShift (.bin .Mod (.var 1) (.int 2)) (.var 0)) (tg:=.many [0,1]) (fr:=[none,none]) (Lq (d5 rfl)) MG (by rw[q9];exact e9 b MG) λ i d=>⟨[.val _,.val _],.strong,rfl,by
  have c:=i7.mp d;have h0:0<=r.getD i 0%2:=fh _ MG;have h1:r.getD i 0%2<2:=eV _ MG;refine(v4 (J1 (d5 rfl) g8 MG) (d5 rfl) (show binD .LShift _ (MY (i:Int)) .strong .strong=some (Re.ok (MY (r.getD i 0%2*2^((i:Int).toNat))) .strong)from d6 ⟨x0 i,by omega,o4 (show(r.getD i 0%2).natAbs<2 by omega) MG⟩)).trans ?_;rw[v9,F6],rfl⟩
 have e:(ML r.length).map (λ (i:Nat)=>DV.int (r.getD i 0%2*2^(0+i)))=iD (tws r 0):=(by unfold tws iD;rw[k9];rfl);rw[e]at a;have s:=Lo a;rw[ya,Int.pow_zero,fF]at s;exact s
def Ls(R:Nd)(b:n<=64)(d:m<=64):run G T fu (k+1) 44 [tT rows]=some (.v (MZ (nD (rows.map tw))) true):=by
 rw[j9 rfl rfl];have c:=A4 (F:=run G T fu k) (δ:=[.val Nq]) (it:=.var 0) (tg:=.one 0) (fr:=[none]) rfl MG (by rw[R.1];exact e9 b MG) λ r a=>⟨[.val _],.strong,rfl,Lr (by rw[R.2 r a];exact d),rfl⟩
 have e:rows.map (λ r=>DV.int (tw r:Nat))=nD (rows.map tw):=by unfold nD;rw[k9];rfl
 rw[e]at c;exact j7 (j1 (k5 c))
def bl2(rows:MU):on Nat:=rk.bs (LL (rows.map tw)) rows.length
def Lu(R:Nd)(a:n<=64)(b:m<=64)(h:evE G (MK (k+3)) e δ=some (MV (tT rows))):evE G (MK (k+3)) (.call 45 [.call 44 [e]]) δ=some (.ok (MZ (nD (bl2 rows))) .fresh):=by
 have:=Lm (fu:=fu) (k:=k) (ls:=rows.map tw) (by rw[d9,R.1];exact a);rw[d9]at this;exact g6 (d7 (g6 (d7 h f7) rfl (Ls R a b)) f7) rfl this
def Lv(R:Nd)(a:n<=64)(b:m<=64):run G T fu (k+4) 43 [tT rows]=some (.v (MY ((bl2 rows).length:Nat)) false):=by
 rw[j9 rfl rfl];have e:=T1 (Lu (fu:=fu) (k:=k) (δ:=[.val _]) (e:=.var 0) R a b (d5 rfl));have l:(nD (bl2 rows)).length=(bl2 rows).length:=by unfold nD;rw[d9]
 rw[l]at e;exact j7 (j1 (k5 e))
def iu(R:Nd):rk.Bas rk.P0 (vv rows) n m (bl0 rows m):=by
 unfold bl0;rw[R.1];exact rk.bas0 ..
def og(R:Nd):rk.Bas rk.P2 (vv rows) n m (bl2 rows):=by
 have b:∀i,i<n->LL _ i=tw (rows.getD i []):=λ i a=>by
  have c:i<rows.length:=by rw[R.1];exact a
  show(rows.map tw).getD i 0=_;rw[i8,i8,n7,i6 c];rfl
 unfold bl2;rw[R.1];refine rk.bas2 (λ i a=>?_) λ i a j hj=>?_
 ·rw[b i a];have:=xZ (ND i);rw[(iq R a).2]at this;exact this
 ·rw[b i a];exact xY _ j
def yb{R C:Nat}{f:Mx}(h9:∀i∈cs R,∀j∈cs C,0<=f i j/\f i j<=9){i0 j0:Nat}(hi0:i0∈cs R)(hj0:j0∈cs C):wn f R C=1↔∀i∈cs R,∀j∈cs C,f i j=f i0 j0:=by
 unfold wn;have inF:∀i∈cs R,∀j∈cs C,(f i j).toNat∈(ML 10).filter (wp f R C):=λ i hi j hj=>by have:=h9 i hi j hj;exact k8.mpr ⟨i7.mpr KE,em.mpr ⟨i,j,hi,hj,by omega⟩⟩
 constructor
 ·intro h i hi j hj;obtain⟨w,hw⟩:=iV.mp h;have q1:=inF i hi j hj;have q2:=inF i0 hi0 j0 hj0;rw[hw]at q1 q2;have:=s9.mp q1;have:=s9.mp q2;have:=h9 i hi j hj;have:=h9 i0 hi0 j0 hj0;omega
 ·intro h;have b0:=h9 i0 hi0 j0 hj0;have e:(ML 10).filter (wp f R C)=(ML 10).filter λ w=>w==(f i0 j0).toNat:=by
   apply az;intro w _;rw[M2,em,f0];constructor
   ·rintro⟨i,j,hi,hj,q⟩;have:=h i hi j hj;omega
   ·rintro rfl;exact⟨i0,j0,hi0,hj0,by omega⟩
  have q:=inF i0 hi0 j0 hj0;rw[e]at q ⊢;have:=wj (f i0 j0).toNat KE;have:=bR q;omega
def eF(R0:0<R)(a:wn f R C=1):V J f R C=J.g:=by
 rw[V_eq f KE];exact d6 a
def yc(R0:0<R)(a:wn f R C≠1)(hw:w∈wl R C):V J f R C<=J.j (V J f w.2.2.1.1 w.2.2.1.2) (V J f w.2.2.2.1 w.2.2.2.2):=by
 rw[V_eq f KE];unfold stp;rw[e7 a];exact(ic (aw (g9.mpr ⟨w,hw,rfl⟩))).2 _ (g9.mpr ⟨w,hw,rfl⟩)
section
variable {f:Mx} {R C g:Nat}
def oh(s:Sb g R)(a:R<32)(d:i∈cs R):i∈cs (R - g)\/i∈cs g:=by
 have c:=N1 d;cases b:g.testBit i with
 | true=>exact .inr (P6 b)
 | false=>exact .inl (P6 (by rw[(nE R a g (s.lt a) s.2.2 i (tb5 a c)).1,c,b];rfl))
def W7(s:Sb g R)(a:R<32)(c:i∈cs g):i∈cs R:=by
 have b:=N1 c;exact P6 ((nE R a g (s.lt a) s.2.2 i (tb5 (s.lt a) b)).2 b)
def oi(g:0<R)(b:R<32)(h:0<C)(c:C<32)(d:wn f R C≠1)(hp:0<wn f R C):∃w∈wl R C,V J f R C=J.j (V J f w.2.2.1.1 w.2.2.1.2) (V J f w.2.2.2.1 w.2.2.2.2):=by
 rw[V_eq f KE];unfold stp;rw[e7 d];obtain⟨w,a,e⟩:=g9.mp (ic (aw (g9.mpr ⟨_,List.head_mem (wY (f:=f) b c g h KE),rfl⟩))).1;exact⟨w,a,e.symm⟩
def In9(f:Mx)(R C:Nat):Prop:=∀i∈cs R,∀j∈cs C,0<=f i j/\f i j<=9
def wn_p(e:In9 f R C)(g:0<R)(c:R<32)(h:0<C)(d:C<32):0<wn f R C:=by
 obtain⟨i,b⟩:=T6 (W5 R c g);obtain⟨j,a⟩:=T6 (W5 C d h);have:=e i b j a;exact bR (k8.mpr ⟨i7.mpr (show(f i j).toNat<10 by omega),em.mpr ⟨i,j,b,a,by omega⟩⟩)
def yd{w:Wy}(h:w∈wl R C)(R0:0<R)(hR:R<32)(C0:0<C)(hC:C<32){P:Nat->Nat->Prop}{Q:Prop}
  (k:∀R1 C1 R2 C2,w.2.2=((R1,C1),(R2,C2))->(R1+C1<R+C/\R2+C2<R+C)->(0<R1/\R1<32/\0<C1/\C1<32)->(0<R2/\R2<32/\0<C2/\C2<32)->(∀i∈cs R1,i∈cs R)->(∀i∈cs C1,i∈cs C)->(∀i∈cs R2,i∈cs R)->(∀i∈cs C2,i∈cs C)->(∀i∈cs R,∀j∈cs C,(i∈cs R1/\j∈cs C1)\/(i∈cs R2/\j∈cs C2))->Q):Q:=by
 have l:=wP h;rcases ie h with⟨g,s,_,e⟩ | ⟨g,s,_,e⟩<;>rw[e]at l
 ·have s1:=s.1;have s2:=s.2.1;exact k _ _ _ _ e l ⟨by omega,by omega,C0,hC⟩ ⟨s1,s.lt hR,C0,hC⟩ (λ i hi=>(L3 s hR hi).1) (λ _ h=>h) (λ i hi=>W7 s hR hi) (λ _ h=>h) λ i hi j hj=>(oh s hR hi).imp (⟨·,hj⟩) (⟨·,hj⟩)
 ·have s1:=s.1;have s2:=s.2.1;exact k _ _ _ _ e l ⟨R0,hR,by omega,by omega⟩ ⟨R0,hR,s1,s.lt hC⟩ (λ _ h=>h) (λ i hi=>(L3 s hC hi).1) (λ _ h=>h) (λ i hi=>W7 s hC hi) λ i hi j hj=>(oh s hC hj).imp (⟨hi,·⟩) (⟨hi,·⟩)
end
def ye:b∈wN rows w n m↔∃S,(0<S/\S<2^n)/\(JL rows w m S≠[]/\bs (RL rows w n (JL rows w m S))=S)/\b=(S,bs (JL rows w m S)):=by
 unfold wN;rw[g9];constructor
 ·rintro⟨S,h,rfl⟩
  obtain⟨c,a⟩:=k8.mp h;exact⟨S,nQ.mp c,nR.mp a,rfl⟩
 ·rintro⟨S,c,a,rfl⟩
  exact⟨S,k8.mpr ⟨nQ.mpr c,nR.mpr a⟩,rfl⟩
def yf:(bs (JL rows w m S)).testBit j=(decide (j<m)&&jp rows w (cs S) j):=(bs_f _ m).2 j
def Lw:(bs (RL rows w n J)).testBit i=(decide (i<n)&&rp rows w J i):=(bs_f _ n).2 i
def yg(h:b∈wN rows w n m)(c:b.1.testBit i=true)(a:b.2.testBit j=true):mf rows i j=w:=by
 obtain⟨S,h1,h2,rfl⟩:=ye.mp h;rw[yf,d8]at a;exact Y8 (u4.mp a.2 i (P6 c))
def wide(p:∀i∈I,i<n)(s:∀j∈J,j<m)(C:I≠[])(B:J≠[])(h:∀i∈I,∀j∈J,mf rows i j=w):∃b∈wN rows w n m,(∀i∈I,b.1.testBit i=true)/\∀j∈J,b.2.testBit j=true:=by
 have ne:(ML n).filter (λ i=>I.contains i)≠[]:=(by obtain⟨i,e⟩:=iN _ C;exact aw (k8.mpr ⟨i7.mpr (p i e),M0.mpr e⟩));obtain⟨S,o⟩:∃S,S=bs ((List.range n).filter λ i=>I.contains i):=Nb;have x:cs S=(ML n).filter λ i=>I.contains i:=by rw[o];exact nP ne
 have S1:S<2^n:=by rw[o];exact(bs_f _ n).1
 have g:∀i,i∈cs S↔i∈I:=λ i=>by rw[x,k8,M0];exact⟨λ z=>z.2,λ z=>⟨i7.mpr (p i z),z⟩⟩
 have f:=λ j d=>u4.mpr λ i e=>f0.mpr (h i ((g i).mp e) j d);have l:JL rows w m S≠[]:=(by obtain⟨j,d⟩:=iN _ B;exact aw (k8.mpr ⟨i7.mpr (s j d),f j d⟩));obtain⟨r,A,y,u,q⟩:=xi (w:=w) (m:=m) (X7 λ z=>ne (eC.mp (by rw[←o];exact z))) S1 l;refine⟨_,ye.mpr ⟨r,⟨A,y⟩,⟨by rw[q];exact l,by rw[q];exact u⟩,rfl⟩,λ i e=>?_,λ j d=>?_⟩
 ·show r.testBit i=true;rw[←u,Lw,o6 (p i e),Q6];exact u4.mpr λ c v=>u4.mp (k8.mp v).2 i ((g i).mpr e)
 ·show(bs (JL rows w m r)).testBit j=true;rw[q,yf,o6 (s j d),Q6];exact f j d
theorem yh{g:Type}{E bl:on (Nat×Nat)}{P:g->Nat×Nat->Prop}:∀{L:on g},(∀s∈L,(∃e∈E,P s e)->∃b∈bl,∀e∈E,P s e->hs b e=true)->∃c:on (Nat×Nat),c.length<=L.length/\(∀b∈c,b∈bl)/\∀e∈E,(∃s∈L,P s e)->∃b∈c,hs b e=true
 | [],_=>⟨[],f6 _,λ _ h=>(nomatch h),λ e _ ⟨s,hs,_⟩=>(nomatch hs)⟩
 | s::L,h=>by
  obtain⟨c,l,j,i⟩:=yh λ d a=>h d (j5 _ a)
  by_cases q:∃e∈E,P s e
  ·obtain⟨b,u,r⟩:=h s (i9 ..) q;refine⟨b::c,jv l,λ x o=>(f8.mp o).elim (λ z=>z▸u) (j x),λ e f ⟨d,a,p⟩=>?_⟩;rcases f8.mp a with z | z
   ·subst z;exact⟨b,i9 ..,r e f p⟩
   ·obtain⟨v,n,m⟩:=i e f ⟨d,z,p⟩;exact⟨v,j5 _ n,m⟩
  ·refine⟨c,Nat.le_succ_of_le l,j,λ e f ⟨d,a,p⟩=>?_⟩;rcases f8.mp a with z | z
   ·subst z;exact absurd ⟨e,f,p⟩ q
   ·exact i e f ⟨d,z,p⟩
def Lst.le{c:on (Nat×Nat)}(h:Lst E bl t)(d:∀b∈c,b∈bl)(a:∀e∈E,∃b∈c,hs b e=true):t<=c.length:=by
 rcases U7 c.length t with z | z
 ·exact absurd (h.2 _ z) (cv.cov_all hs d a (f6 _))
 ·exact z
theorem Lst.by{a:Type}(h:Lst E bl t){P:a->Nat×Nat->Prop}{L:on a}(g:∀e∈E,∃s∈L,P s e)(f:∀s∈L,(∃e∈E,P s e)->∃b∈bl,∀e∈E,P s e->hs b e=true):t<=L.length:=by
 obtain⟨c,l,j,i⟩:=yh f;exact e9 (h.le j λ e d=>i e d (g e d)) l
section
variable {rows:on (on Int)} {w:Int} {n m t:Nat}
def rep(h:r<rows.length):∃f∈FI rows,rows.getD f []=rows.getD r []:=by
 have a:=oR (C6 h);have e:rows.getD (rows.idxOf _) []=rows.getD r []:=(by rw[i8,i6 a,List.getElem_idxOf a];rfl);exact⟨_,k8.mpr ⟨i7.mpr a,by rw[e];exact U4 _⟩,e⟩
def Lx(h:rows.getD i []=rows.getD f []):mf rows i j=mf rows f j:=by unfold mf;rw[h]
def oj(R:Nd)(b:j<m)(a:i<n):mf rows i j=((flip m rows).getD j []).getD i 0:=by
 rw[JN b];unfold col mf;rw[i8 (l:=rows.map _),n7,i6 (by rw[R.1];exact a),i8 (l:=rows),i6 (by rw[R.1];exact a)];rfl
def Ly(R:Nd)(b:j<m)(c:f<m)(a:i<n)(h:(flip m rows).getD j []=(flip m rows).getD f []):mf rows i j=mf rows i f:=by
 rw[oj R b a,oj R c a,h]
def Lz(p q:Nat->Prop)(u:∃i,i<n/\p i)(s:∃j,j<m/\q j)(h:∀i j,i<n->j<m->p i->q j->mf rows i j=w):∃b∈wN rows w n m,∀i j,i<n->j<m->p i->q j->hs b (i,j)=true:=by
 classical
 obtain⟨i0,r,o⟩:=u;obtain⟨j0,l,g⟩:=s;have a:∀{N:Nat} {p:Nat->Prop} {i:Nat},i∈(ML N).filter (λ i=>decide (p i))↔i<N/\p i:=λ {N p i}=>by rw[k8,i7,N5]
 obtain⟨b,y,x,v⟩:=wide (λ i d=>(a.mp d).1) (λ j c=>(a.mp c).1) (aw (a.mpr ⟨r,o⟩)) (aw (a.mpr ⟨l,g⟩)) λ i d j c=>h i j (a.mp d).1 (a.mp c).1 (a.mp d).2 (a.mp c).2
 exact⟨b,y,λ i j d c f e=>by show(b.1.testBit i&&b.2.testBit j)=true;rw[x i (a.mpr ⟨d,f⟩),v j (a.mpr ⟨c,e⟩)];rfl⟩
def iw:e∈eE rows w m (ML n)↔e.1<n/\e.2<m/\mf rows e.1 e.2=w:=by rw[xy,i7]
abbrev LE(rows:MU)(w:Int)(n m t:Nat):Prop:=Lst (eE rows w m (ML n)) (wN rows w n m) t
def yi(R:Nd)(h:p∈tell rows m w):p.1<n/\p.2<m/\mf rows p.1 p.2=w:=by
 obtain⟨a,b,c⟩:=ij ((ao _ _ _ (f6 _)).subset h);have e:=N0 a;have d:=N0 b;rw[R.1]at e;rw[am]at d;exact⟨e,d,c⟩
def yj:(tell rows m w).Pairwise λ p q=>kp (at2 rows) p q=true:=nV _ _ _ (f6 _)
end
def yk(b:i<(Nk).length)(a:j<(MT).length):mf (rst m rows) i j=mf rows ((Nk).getD i 0) ((MT).getD j 0):=by
 unfold mf rst sub;rw[i8 (l:=List.map _ _),n7,i6 b,F5,G5,i8,n7,i6 a,F5,G5,i8 (l:=FI rows),i6 b,G5,i8 (l:=FI _),i6 a,G5]
def LA(h:r<rows.length):∃a,a<(Nk).length/\rows.getD ((Nk).getD a 0) []=rows.getD r []:=by
 obtain⟨f,e,d⟩:=rep h;obtain⟨a,b,c⟩:=X4 e;exact⟨a,b,by rw[i8 (l:=FI rows),i6 b,G5,c];exact d⟩
def FIx(h:a<(Nk).length):(Nk).getD a 0<rows.length:=by
 rw[i8,i6 h];exact N0 (E4 h)
def iy(h:i<a):i∈cs (2^a - 1):=P6 (by rw[Nat.testBit_two_pow_sub_one,o6 h])
def Ru(r:Str):Prop:=r = "pair" \/ r = "times" \/ r = "parity"
noncomputable def jw(r:Str)(a b:Int):Int:=if r = "pair" then 3*a+b else if r = "times" then a*b else(a+b)%2
def eq_s(a:NA (.str x))(h:cmpD .Eq (.str x) (.str y)=some t):evE G F (.cmp .Eq (.var i) (.str y)) δ=some (.ok (.bl t) .strong):=D6 (d5 a) lq h
def LB(g:T[N]? = some d)(hd:d=vf)(f:Ru c)(a0:0<=a)(a9:a<=9)(b0:0<=b)(b9:b<=9):run G T fu (k+1) N [.str c,.int a,.int b]=some (.v (MY (jw c a b)) false):=by
 subst hd;rw[j9 g rfl];have h:(2:Int)^62=4611686018427387904:=MG
 let S:on Sv:=[.val (.str c),.val (.int a),.val (.int b)]
 rcases f with rfl | rfl | rfl
 ·exact j7 (O6 (j2 (eq_s rfl Ng)) (j1 (k5 (E6 (E7 (g8) (d5 rfl) (N3 KE KE)) (d5 rfl)))))
 ·exact j7 (r9 (j2 (eq_s rfl Ng)) (O6 (j2 (eq_s rfl Ng)) (j1 (k5 (E7 (d5 rfl) (d5 rfl) (N3 KE KE))))))
 ·exact j7 (r9 (j2 (eq_s rfl Ng)) (r9 (j2 (eq_s rfl Ng)) (j1 (k5 (J1 (E6 (d5 (n:=1) (d:=.int a) rfl) (d5 (n:=2) (d:=.int b) rfl)) (g8 (i:=2)) MG)))))
def e_jw(d:Ru c)(g:0<=a)(a9:a<=9)(f:0<=b)(b9:b<=9):run G T fu (k+1) 14 [.str c,.int a,.int b]=some (.v (MY (jw c a b)) false):=LB rfl rfl d g a9 f b9
def LC{cs:on DV}(f:NA (.lam m cs))(b:m.fn=G.fnl/\m.bl=G.bll/\m.cl=G.cll/\G.fnl.isEmpty=false)(c:NQ)(hs:Nl=true)(h:F u7 (.lam m cs::l.map (·.1))=some (.v d false)):evE G F (.callv i a es) δ=some (.ok d .strong):=by
 show cT G F a _ δ[i]? = _;rw[f];show(if m.fn=G.fnl/\m.bl=G.bll/\m.cl=G.cll/\G.fnl.isEmpty=false then Rs.thn _ λ l=>Z1 F m cs l else none)=_;rw[d6 b,c];show Z1 F m cs l=_;unfold Z1;rw[d6 hs,h]
def LD{cs:on DV}(g:capD δ fr=some cs)(j:evE G F a δ=some (MV x))(i:evE G F b δ=some (MV y))(h:F f [x,y,.lam ⟨N,c,lb,G.fnl,G.bll,G.cll⟩ cs]=some (.v d false))(hd:d.nolam=true):evE G F (.calll f a b N c lb fr) δ=some (.ok d .strong):=by
 show fN G F f _ _ N c lb _=_;rw[g,j,i];show aR F f [(x,.strong),(y,.strong)] _=_;unfold aR;rw[d6 (show([_,(y,Cl.strong)].all λ p=>p.2 == .strong||p.2 == .fresh)=true from rfl)];show(match F f [x,y,.lam ⟨N,c,lb,G.fnl,G.bll,G.cll⟩ cs]with
  | some (.v d false)=>if d.nolam then some (Re.ok d .strong)else none
  | _=>none)=_
 rw[h];exact d6 hd
noncomputable def tab(h w:Nat)(g:Nat->Nat->Int):on (on Int):=(ML h).map λ r=>(ML w).map λ c=>g r c
def LF{h w:Nat}(f:h<=1000)(hw:w<=1000){cs:on DV}(j:m.fn=G.fnl/\m.bl=G.bll/\m.cl=G.cll/\G.fnl.isEmpty=false)(H:∀r<h,∀c<w,run G T fu k u7 [.lam m cs,.int (r:Int),.int (c:Int)]=some (.v (MY (g r c)) false)) :
  run G T fu (k+1) 12 [.int (h:Int),.int (w:Int),.lam m cs]=some (.v (tT (tab h w g)) false):=by
 rw[j9 (fd:=ve) rfl rfl];have o:=A4 (δ:=[.val (MY (h:Int)),.val (MY (w:Int)),.val (.lam m cs)]) (tg:=.one 0) (it:=.rng [.var 0]) (fr:=[none,some 1,some 2]) (cl:=.fresh) (bx (d5 rfl) f) MG (by rw[q9];exact e9 f MG) (λ r a=>by
  have a:=i7.mp a;refine⟨[.val (MY (r:Int)),.val (MY (w:Int)),.val (.lam m cs)],.strong,by rw[fE];rfl,?_,rfl⟩;have i:=A4 (δ:=[.val (MY (r:Int)),.val (MY (w:Int)),.val (.lam m cs)]) (elt:=.callv 1 [("joined_bits",32),("joined_ends",33)] [.var 2,.var 0]) (tg:=.one 0) (it:=.rng [.var 1]) (fr:=[none,some 2,some 0]) (l:=List.range w) (cl:=.fresh) (bx (d5 rfl) hw) MG (by rw[q9];exact e9 hw MG) (λ c b=>by
   have b:=i7.mp b;exact⟨[.val (MY (c:Int)),.val (.lam m cs),.val (MY (r:Int))],.strong,by rw[fE];rfl,LC rfl j (d7 (d5 (n:=2) (d:=.int (r:Int)) rfl) (d7 (d5 (n:=0) (d:=.int (c:Int)) rfl) f7)) rfl (H r a c b),rfl⟩)
  have e:(ML w).map (λ c=>DV.int (g r c))=iD ((ML w).map λ c=>g r c):=by unfold iD;rw[k9];rfl
  rw[e]at i;exact W4 i)
 have p:(ML h).map (λ r=>DV.tup (iD ((ML w).map λ c=>g r c)))=(tab h w g).map λ r=>.tup (iD r):=by unfold tab;rw[k9];rfl
 rw[p]at o;exact j7 (j1 (k5 (W4 o)))
theorem yl:∀r:on Int,DV.nolams (iD r)=true
 | []=>rfl
 | x::r=>by show(DV.nolam _&&DV.nolams (iD r))=true;rw[yl r];rfl
theorem ym:∀A:on (on Int),DV.nolams (A.map λ r=>.tup (iD r))=true
 | []=>rfl
 | r::A=>by show(DV.nolams (iD r)&&DV.nolams _)=true;rw[yl r,ym A];rfl
def iz(A:MU):(tT A).nolam=true:=ym A
def put(A B:MU)(p q:Nat)(rule:Str)(r c:Nat):Int:=jw rule (mf A (r/p) (c/q)) (mf B (r%p) (c%q))
noncomputable def lb:ME:=.call 14 [.var 2,.ix (Nh 3 (.bin .FloorDiv (.var 0) (.var 4))) (.bin .FloorDiv (.var 1) (.var 5)),.ix (Nh 6 (.bin .Mod (.var 0) (.var 4))) (.bin .Mod (.var 1) (.var 5))]
def lm:LamD:=⟨["r","c","rule","one","tall","wide","other"],2,lb,G.fnl,G.bll,G.cll⟩
def LG(w:Ru a)(s:Rect n m A)(F:W9 A)(o:Rect p q B)(E:W9 B)(v:0<p)(p8:p<=8)(u:0<q)(q8:q<=8)(h1:r<n*p)(h2:c<m*q) :
  run G T fu (k+2) u7 [.lam lm [.str a,tT A,.int (p:Int),.int (q:Int),tT B],.int (r:Int),.int (c:Int)]=some (.v (MY (put A B p q a r c)) false):=by
 have l:r/p<n:=ja (by rw[J9];exact h1);have j:c/q<m:=ja (by rw[J9];exact h2);have i:r%p<p:=cI _ v;have h:c%q<q:=cI _ u;have g:=bH s F l j;have b:=bH o E i h;refine xA ⟨rfl,rfl,rfl,?_⟩ ?_ rfl
 ·show(true&&((tT A).nolam&&(true&&(true&&((tT B).nolam&&true)))))=true;rw[iz,iz];rfl
 ·let S:on Sv:=[.val (MY (r:Int)),.val (MY (c:Int)),.val (.str a),.val (tT A),.val (MY (p:Int)),.val (MY (q:Int)),.val (tT B)]
  have C:evE G (MK (k+1)) (.bin .FloorDiv (.var 0) (.var 4)) S=some (.ok (MY ((r/p:Nat):Int)) .strong):=(by rw[Int.natCast_ediv];exact cY (d5 rfl) (d5 rfl) KE);have z:evE G (MK (k+1)) (.bin .FloorDiv (.var 1) (.var 5)) S=some (.ok (MY ((c/q:Nat):Int)) .strong):=(by rw[Int.natCast_ediv];exact cY (d5 rfl) (d5 rfl) KE);have y:evE G (MK (k+1)) (.bin .Mod (.var 0) (.var 4)) S=some (.ok (MY ((r%p:Nat):Int)) .strong):=(by rw[Int.natCast_emod];exact J1 (d5 rfl) (d5 rfl) KE);have x:evE G (MK (k+1)) (.bin .Mod (.var 1) (.var 5)) S=some (.ok (MY ((c%q:Nat):Int)) .strong):=(by rw[Int.natCast_emod];exact J1 (d5 rfl) (d5 rfl) KE);exact g6 (G:=G) (δ:=S) (f:=14) (d7 (d5 (n:=2) (d:=.str a) rfl) (d7 (ak (nH s) (d5 (n:=3) rfl) C z l j) (d7 (ak (nH o) (d5 (n:=6) rfl) y x i h) f7))) rfl (e_jw w g.1 g.2 b.1 b.2)
theorem yn:∀(r:on Int) (m:Int),(maxI m r=m\/maxI m r∈r)/\m<=maxI m r/\∀x∈r,x<=maxI m r
 | [],m=>⟨.inl rfl,cG _,λ x a=>nomatch a⟩
 | y::r,m=>by
  show(maxI _ r=m\/maxI _ r∈y::r)/\m<=maxI _ r/\∀x∈y::r,x<=maxI _ r;obtain⟨h1,h2,b⟩:=yn r (if m<y then y else m);by_cases q:m<y
  ·rw[d6 q]at h1 h2 b ⊢;refine⟨.inr ?_,by omega,λ x a=>?_⟩
   ·rcases h1 with z | z
    ·rw[z];exact i9 ..
    ·exact j5 _ z
   ·rcases f8.mp a with z | z
    ·rw[z];exact h2
    ·exact b x z
  ·rw[e7 q]at h1 h2 b ⊢;refine⟨?_,h2,λ x a=>?_⟩
   ·rcases h1 with z | z
    ·exact .inl z
    ·exact .inr (j5 _ z)
   ·rcases f8.mp a with z | z
    ·rw[z];omega
    ·exact b x z
def LH(h:evE G F e δ=some (.ok (MZ (iD l)) c))(f:l≠[]):∃M,M∈l/\(∀x∈l,x<=M)/\evE G F (.bi .max [e]) δ=some (.ok (.int M) .strong):=by
 cases l with
 | nil=>exact absurd rfl f
 | cons n r=>
  obtain⟨a,b,g⟩:=yn r n;refine⟨maxI n r,?_,λ x d=>?_,?_⟩
  ·rcases a with z | z
   ·rw[z];exact i9 ..
   ·exact j5 _ z
  ·rcases f8.mp d with z | z
   ·rw[z];exact b
   ·exact g x z
  ·show Rs.thn _ _=_;rw[d7 h f7];show(match ints? (iD (n::r))with | some (n::r)=>some _ | _=>none)=_;rw[bC]
def yp(W:W9 A)(x:Int):x∈nI (WI A)↔x∈A.flatten:=by
 rw[←nB A W,gX,nz];simp
structure Two(A B:List (List Int))(n m p q:Nat):Prop where
 n0:0<n
 m0:0<m
 p0:0<p
 q0:0<q
 np:n*p<=5
 mq:m*q<=5
 RA:Rect n m A
 RB:Rect p q B
 WA:∀r∈A,∀x∈r,0<=x/\x<=2
 WB:∀r∈B,∀x∈r,0<=x/\x<=2
variable {A B:on (on Int)} {n m p q:Nat} {rule:Str}
def Two.sz(t:Nr):n<=5/\m<=5/\p<=5/\q<=5:=by
 have a:=eL n t.p0;have b:=eL m t.q0;have c:=eP p t.n0;have d:=eP q t.m0;have:=t.np;have:=t.mq;omega
def Two.a9(t:Nr):W9 A:=λ r b x a=>by have:=t.WA r b x a;omega
def Two.b9(t:Nr):W9 B:=λ r b x a=>by have:=t.WB r b x a;omega
def yq(t:Nr)(o:S[i]? = some (.val (tT A)))(h1:S[j]? = some (.val (tT B))):∃M,(∃x∈A.flatten++B.flatten,x=M)/\(∀x∈A.flatten++B.flatten,x<=M)/\evE G (MK (k+1)) (.bi .max [.bin .Add (MW 11 i) (MW 11 j)]) S=some (.ok (.int M) .strong):=by
 obtain⟨n5,m5,p5,q5⟩:=t.sz;have g:=g6 (G:=G) (F:=run G T fu (k+1)) (δ:=S) (f:=11) (d7 (d5 (n:=j) (d:=tT B) h1) f7) rfl (hL B p q t.RB KE KE t.b9);have a:∀X,(nD (WI X)).length<=10:=λ X=>by unfold nD WI;rw[d9];exact e9 (A5 _ _) MP
 have a1:=a A;have a2:=a B;have s:=v4 (op:=.Add) (g6 (d7 (d5 o) f7) rfl (hL A n m t.RA KE KE t.a9)) g (d6 (e9 (show(nD (WI A)).length+(nD (WI B)).length<=1000 by omega) MG));rw[←bD,←bD,show iD _++iD _=iD _ by unfold iD;rw[o7]]at s;have b:∀x,x∈nI (WI A)++nI (WI B)↔x∈A.flatten++B.flatten:=λ x=>by rw[x3,x3,yp t.a9,yp t.b9]
 have ne:nI (WI A)++nI (WI B)≠[]:=λ z=>by have c:=C6 (rows:=A) (i:=0) (by rw[t.RA.1];exact t.n0);have:=(b _).mpr (w6 _ (aD.mpr ⟨_,c,W6 (by rw[t.RA.2 _ c];exact t.m0)⟩));rw[z]at this;cases this
 obtain⟨M,h1,h2,l⟩:=LH s ne;exact⟨M,⟨M,(b M).mp h1,rfl⟩,λ x h=>h2 x ((b x).mpr h),l⟩
def Two.two(t:Nr)(h:x∈A.flatten++B.flatten):0<=x/\x<=2:=by
 rcases x3.mp h with h | h
 ·obtain⟨r,h1,h2⟩:=aD.mp h;exact t.WA r h1 x h2
 ·obtain⟨r,h1,h2⟩:=aD.mp h;exact t.WB r h1 x h2
abbrev tSg(A B:MU)(rule:Str)(n m p q:Nat):on Sv:=[.val (tT A),.val (tT B),.val (.str rule),.val (MY (p:Int)),.val (MY (q:Int)),.val (MY ((n*p:Nat):Int)),.val (MY ((m*q:Nat):Int))]
def LI(t:Nr)(f:Ru rule):run G T fu (k+4) 13 [tT A,tT B,.str rule]=some (.v (tT (tab (n*p) (m*q) (put A B p q rule))) false):=by
 obtain⟨n5,m5,p5,q5⟩:=t.sz;have np:=t.np;have mq:=t.mq;rw[j9 rfl rfl];have s:(2:Int)^62=4611686018427387904:=MG
 let S:=tSg A B rule n m p q
 have l:evE G (MK (k+3)) (.glb "MOST_LINES") S=some (.ok (.int 8) .strong):=rfl;have o:=b_gt (d5 (G:=G) (F:=run G T fu (k+3)) (δ:=S) (n:=5) (d:=.int ((n*p:Nat):Int)) rfl) l;have a:=b_gt (d5 (G:=G) (F:=run G T fu (k+3)) (δ:=S) (n:=6) (d:=.int ((m*q:Nat):Int)) rfl) l;rw[o5 KE]at o;rw[o5 KE]at a;have c:=or_f (r:=[]) o (or_1 a);have u:tstD (evE G (MK (k+3)) (.and [.gin (.var 2),.cmp .Gt (.bi .max [.bin .Add (MW 11 0) (MW 11 1)]) (.gdx (.var 2))]) S)=some (.ok false):=by
  obtain⟨M,⟨x,h1,rfl⟩,_,g⟩:=yq (fu:=fu) (k:=k+2) (i:=0) (j:=1) (S:=S) t rfl rfl;have h2:=(t.two h1).2;rcases f with rfl | rfl | rfl
  ·have a:=b_gt (j:=2) (cy:=.strong) (b:=.gdx (.var 2)) g (by rfl);rw[o5 KE]at a;exact j2 (M9 (cx:=.strong) (by rfl) (P5 a))
  ·have a:=b_gt (j:=3) (cy:=.strong) (b:=.gdx (.var 2)) g (by rfl);rw[o5 KE]at a;exact j2 (M9 (cx:=.strong) (by rfl) (P5 a))
  ·exact j2 (P4 (cx:=.strong) (by rfl))
 refine j7 (f9 (n6 ((λ h=>lenT t.RB (d5 h)) rfl) rfl) (f9 (n6 ((λ h=>wO t.RB t.p0 (d5 h)) rfl) rfl) (f9 (n6 (cl:=.strong) ?_ rfl) (f9 (n6 (cl:=.strong) ?_ rfl) (r9 (j2 c) (r9 u (j1 (k5 (LD (cs:=[.str rule,tT A,.int (p:Int),.int (q:Int),tT B]) ?_ (d5 (n:=5) (d:=.int ((n*p:Nat):Int)) rfl) (d5 (n:=6) (d:=.int ((m*q:Nat):Int)) rfl) ?_ (iz _))))))))))
 ·rw[fe];exact E7 ((λ h=>lenT t.RA (d5 h)) rfl) (d5 (n:=3) (d:=.int (p:Int)) rfl) (N3 KE KE)
 ·rw[fe];exact E7 ((λ h=>wO t.RA t.n0 (d5 h)) rfl) (d5 (n:=4) (d:=.int (q:Int)) rfl) (N3 KE KE)
 ·show capD S [2,0,3,4,1]=_;simp only[S,tSg,capD,eK,List.getElem?_cons_zero,iz,DV.nolam,if_true]
 ·exact LF (m:=lm) KE KE ⟨rfl,rfl,rfl,rfl⟩ λ r h1 c h2=>LG f t.RA t.a9 t.RB t.b9 t.p0 KE t.q0 KE h1 h2
def yr(i:JOk J)(d:0<R)(hw:∃w∈wl R C,w.2.2=(a,b)\/w.2.2=(b,a))(h:J.g<=J.j (V J f a.1 a.2) (V J f b.1 b.2)):V J f R C<=J.j (V J f a.1 a.2) (V J f b.1 b.2):=by
 by_cases h1:wn f R C=1
 ·rw[eF d h1];exact h
 ·obtain⟨w,g,c | c⟩:=hw
  ·have:=yc (J:=J) d h1 g;rw[c]at this;exact this
  ·have:=yc (J:=J) d h1 g;rw[c]at this;rw[i.comm];exact this
theorem V_g(k:JOk J):∀N R C,R+C<=N->0<R->R<32->0<C->C<32->In9 f R C->J.g<=V J f R C
 | 0,R,C,h,a,_,_,_,_=>by omega
 | N+1,R,C,h,a,c,g,d,m=>by
  by_cases h1:wn f R C=1
  ·rw[eF a h1];exact f6 _
  ·obtain⟨w,p,e⟩:=oi a c g d h1 (wn_p m a c g d);rw[e];refine yd (P:=λ _ _=>True) p a c g d λ u v R2 C2 s l b p2 o n i3 i4 _=>?_
   have:=V_g k N u v KE b.1 b.2.1 b.2.2.1 b.2.2.2 λ i r j q=>m i (o i r) j (n j q);rw[s];rcases k with rfl | rfl
   ·exact u9 _
   ·exact e9 this (E3 _ _)
def J_g(a:JOk J)(h:J.g<=x):J.g<=J.j x y:=by
 rcases a with rfl | rfl
 ·exact u9 _
 ·exact e9 h (E3 _ _)
def LJ(d:JOk J)(n:In9 f R C)(o:0<R)(c:R<32)(p:0<C)(m:C<32)(s:Sb g R):V J f R C<=J.j (V J f (R - g) C) (V J f g C):=by
 have s1:=s.1;have s2:=s.2.1;refine yr (a:=(R - g,C)) (b:=(g,C)) d o ?_ (J_g d (V_g d _ _ _ (f6 _) KE KE p m λ i l j k=>n i (L3 s c l).1 j k));rcases wk R c g (s.lt c) s with h | ⟨h,e⟩
 ·exact⟨_,w6 _ (g9.mpr ⟨g,h,rfl⟩),.inl rfl⟩
 ·exact⟨_,w6 _ (g9.mpr ⟨R - g,h,rfl⟩),.inr (by rw[e])⟩
def LK(c:JOk J)(o:In9 f R C)(k:0<R)(n:R<32)(C0:0<C)(d:C<32)(s:Sb g C):V J f R C<=J.j (V J f R (C - g)) (V J f R g):=by
 have s1:=s.1;have s2:=s.2.1;refine yr (a:=(R,C - g)) (b:=(R,g)) c k ?_ (J_g c (V_g c _ _ _ (f6 _) k n KE KE λ i m j l=>o i m j (L3 s d l).1));rcases wk C d g (s.lt d) s with h | ⟨h,e⟩
 ·exact⟨_,t8 _ (g9.mpr ⟨g,h,rfl⟩),.inl rfl⟩
 ·exact⟨_,t8 _ (g9.mpr ⟨C - g,h,rfl⟩),.inr (by rw[e])⟩
def yt{al:Nat->Nat}(f:R<32)(l:d<32)(s:Sb g d)(h:∀i∈cs R,al i∈cs d):(∀i∈cs R,al i∈cs (d - g))\/(∀i∈cs R,al i∈cs g)\/∃b,Sb b R/\(∀i∈cs b,al i∈cs g)/\∀i∈cs (R - b),al i∈cs (d - g):=by
 obtain⟨b,r1,m⟩:=Ju λ i=>R.testBit i&&g.testBit (al i)
 have in1:∀i∈cs b,i∈cs R/\al i∈cs g:=λ i a=>by have c:=N1 a;rw[m i (tb5 r1 c),d8]at c;exact⟨P6 c.1,P6 c.2⟩
 have in2:∀i∈cs R,i∉cs b->al i∈cs _:=λ i a o=>by
  rcases oh s l (h i a)with q | q
  ·exact q
  ·exact absurd (P6 (by rw[m i (tb5 f (N1 a)),N1 a,N1 q];rfl)) o
 obtain⟨k,n⟩:=Jv R f b r1 λ j hj c=>N1 (in1 j (P6 c)).1
 rcases jg b with z | z
 ·refine .inl λ i a=>in2 i a λ w=>?_;have:=N1 w;rw[z,M1]at this;cases this
 ·rcases Nat.eq_or_lt_of_le n with w | w
  ·exact .inr (.inl λ i a=>(in1 i (by rw[w];exact a)).2)
  ·exact .inr (.inr ⟨b,⟨z,w,k⟩,λ i a=>(in1 i a).2,λ i a=>in2 i (L3 ⟨z,w,k⟩ f a).1 (L3 ⟨z,w,k⟩ f a).2⟩)
structure Op(J:Jt)(o:Nat->Nat->Nat):Prop where
 g:∀K,K<=o J.g K
 up:∀a b K,o a K<=o (J.j a b) K
 j:∀a b K x y,x<=o a K->y<=o b K->J.j x y<=o (J.j a b) K
def LM:Op jB (· + ·) where
 g:=λ K=>by show K<=0+K;omega
 up:=λ a b K=>by show a+K<=1+max a b+K;omega
 j:=λ a b K x y h g=>by have h:=h;have g:=g;show 1+max x y<=1+max a b+K;omega
def LN:Op jE (· * ·) where
 g:=λ K=>by show K<=1*K;omega
 up:=λ a b K=>bV K (E3 a b)
 j:=λ a b K x y h g=>by show x+y<=(a+b)*K;rw[G8];exact jQ h g
theorem comb(y:JOk J)(O:Op J o){al ga:Nat->Nat}:∀(N v x:Nat),v+x<=N->0<v->v<32->0<x->x<32->In9 f v x->∀R C,0<R->R<32->0<C->C<32->In9 h R C->(∀i∈cs R,al i∈cs v)->(∀j∈cs C,ga j∈cs x) ->
  (∀L M w,0<L->L<32->0<M->M<32->(∀i∈cs L,i∈cs R)->(∀j∈cs M,j∈cs C)->(∀i∈cs L,∀j∈cs M,f (al i) (ga j)=w)->V J h L M<=K)->V J h R C<=o (V J f v x) K
 | 0,_,_,l,A,_,_,_,_,_,_,_,_,_,_,_,_,_,_=>by omega
 | N+1,v,x,l,U,E,Y,B,X,R,C,A,n,H,p,F,u,r,I=>by
  obtain⟨i0,a2⟩:=T6 (W5 R n A);obtain⟨j0,a1⟩:=T6 (W5 C p H);by_cases h1:wn f v x=1
  ·rw[eF U h1];refine e9 (I R C (f (al i0) (ga j0)) A n H p (λ _ z=>z) (λ _ z=>z) λ i k j m=>?_) (O.g K);exact(yb X (u i0 a2) (r j0 a1)).mp h1 _ (u i k) _ (r j m)
  ·obtain⟨w,hw,e⟩:=oi (J:=J) U E Y B h1 (wn_p X U E Y B);rcases ie hw with⟨g,s,_,q⟩ | ⟨g,s,_,q⟩
   ·rw[q]at e;have e:=e;have s1:=s.1;have s2:=s.2.1;have Z:=s.lt E;have n1:=λ i k j m=>X i (L3 s E k).1 j m
    have n2:In9 f g x:=λ i k j m=>X i (W7 s E k) j m;rw[e];rcases yt n E s u with z | z | ⟨L,t,z1,z2⟩
    ·exact e9 (comb y O N (v - g) x KE KE KE Y B n1 R C A n H p F z r I) (O.up _ _ _)
    ·rw[y.comm];exact e9 (comb y O N g x KE s1 Z Y B n2 R C A n H p F z r I) (O.up _ _ _)
    ·have t1:=t.1;have t2:=t.2.1;refine e9 (LJ y F A n H p t) (O.j _ _ _ _ _ ?_ ?_)
     ·exact comb y O N (v - g) x KE KE KE Y B n1 (R - L) C KE KE H p (λ i k j m=>F i (L3 t n k).1 j m) z2 r λ R2 W w a b c d S Q P=>I R2 W w a b c d (λ i k=>(L3 t n (S i k)).1) Q P
     ·exact comb y O N g x KE s1 Z Y B n2 L C t1 (t.lt n) H p (λ i k j m=>F i (W7 t n k) j m) z1 r λ R2 W w a b c d S Q P=>I R2 W w a b c d (λ i k=>W7 t n (S i k)) Q P
   ·rw[q]at e;have s1:=s.1;have s2:=s.2.1;have Z:=s.lt B;have n1:=λ i k j m=>X i k j (L3 s B m).1
    have n2:In9 f v g:=λ i k j m=>X i k j (W7 s B m);rw[e];rcases yt p B s r with z | z | ⟨M,t,z1,z2⟩
    ·exact e9 (comb y O N v (x - g) KE U E KE KE n1 R C A n H p F u z I) (O.up _ _ _)
    ·rw[y.comm];exact e9 (comb y O N v g KE U E s1 Z n2 R C A n H p F u z I) (O.up _ _ _)
    ·have t1:=t.1;have t2:=t.2.1;refine e9 (LK y F A n H p t) (O.j _ _ _ _ _ ?_ ?_)
     ·exact comb y O N v (x - g) KE U E KE KE n1 R (C - M) A n KE KE (λ i k j m=>F i k j (L3 t p m).1) u z2 λ R2 W w a b c d S Q P=>I R2 W w a b c d S (λ i k=>(L3 t p (Q i k)).1) P
     ·exact comb y O N v g KE U E s1 Z n2 R M A n t1 (t.lt p) (λ i k j m=>F i k j (W7 t p m)) u z1 λ R2 W w a b c d S Q P=>I R2 W w a b c d S (λ i k=>W7 t p (Q i k)) P
def LO(a:r<h):(tab h w g).getD r []=(ML w).map (g r):=by
 unfold tab;rw[i8,n7,T9 a];rfl
def yu(a:r<h)(b:c<w):mf (tab h w g) r c=g r c:=by
 unfold mf;rw[LO a,i8,n7,T9 b];rfl
def aq:Rect h w (tab h w g):=JP g
def LP(H:∀r<h,∀c<w,0<=g r c/\g r c<=9):W9 (tab h w g):=λ r b x a=>by
 obtain⟨i,f,rfl⟩:=g9.mp b;obtain⟨j,d,rfl⟩:=g9.mp a;exact H i (i7.mp f) j (i7.mp d)
def LQ:flip w (tab h w g)=tab w h λ c r=>g r c:=by
 unfold flip;refine z7 λ c a=>?_
 unfold col tab;rw[k9];refine z7 λ r hr=>?_
 show((ML w).map (g r)).getD c 0=g r c;rw[i8,n7,T9 (i7.mp a)];rfl
section
variable {A B:on (on Int)} {n m p q:Nat} {rule:Str}
def iA(R:Rect n m X):∃b:Nat->Nat,∀r,r<n->b r<(FI X).length/\X.getD ((FI X).getD (b r) 0) []=X.getD r []:=by
 have h:∀r,∃a,r<n->a<(FI X).length/\X.getD _ []=X.getD r []:=λ r=>by
  by_cases c:r<n
  ·obtain⟨a,h⟩:=LA (by rw[R.1];exact c);exact⟨a,λ _=>h⟩
  ·exact⟨0,λ z=>absurd z c⟩
 exact pq h
def yv(R:Rect n m X){f a:Nat->Nat}(h:∀r,r<n->f r<(FI X).length/\X.getD ((FI X).getD (f r) 0) []=X.getD r [])(g:∀r,r<m->a r<(FI (flip m X)).length/\(flip m X).getD ((FI (flip m X)).getD (a r) 0) []=(flip m X).getD r [])(b:r<n)(d:c<m):mf (rst m X) (f r) (a c)=mf X r c:=by
 have j:=FIx (h r b).1;have i:=FIx (g c d).1;rw[R.1]at j;rw[am]at i;rw[yk (h r b).1 (g c d).1,Lx (h r b).2];exact Ly R i d b (g c d).2
def jw_9(hr:Ru rule)(d:0<=a/\a<=2)(c:0<=b/\b<=2):0<=jw rule a b/\jw rule a b<=9:=by
 have:0<=a*b/\a*b<=2*2:=⟨jR d.1 c.1,Int.mul_le_mul d.2 c.2 c.1 MG⟩;unfold jw;split
 ·omega
 ·split
  ·omega
  ·omega
def Two.at1(t:Nr)(a:r<n)(b:c<m):0<=mf A r c/\mf A r c<=2:=by
 have h1:=C6 (by rw[t.RA.1];exact a);exact t.WA _ h1 _ (W6 (by rw[t.RA.2 _ h1];exact b))
def Two.at2(t:Nr)(a:r<p)(b:c<q):0<=mf B r c/\mf B r c<=2:=by
 have h1:=C6 (by rw[t.RB.1];exact a);exact t.WB _ h1 _ (W6 (by rw[t.RB.2 _ h1];exact b))
def dm(h:r<n*p)(a:0<p):r/p<n/\r%p<p:=⟨ja (by rw[J9];exact h),cI _ a⟩
abbrev PT(A B:MU)(n m p q:Nat)(rule:Str):on (on Int):=tab (n*p) (m*q) (put A B p q rule)
def yw(t:Nr)(d:Ru rule):W9 (PT A B n m p q rule):=LP λ r h1 c h2=>by
 have a:=dm h1 t.p0;have b:=dm h2 t.q0;exact jw_9 d (t.at1 a.1 b.1) (t.at2 a.2 b.2)
def full(b:0<n)(a:n<=5):0<2^n - 1/\2^n - 1<32:=by
 have h1:2^1<=2^n:=v7 MG b;have h2:2^n<=2^5:=v7 MG a;omega
def bJ(h:i∈cs (2^n - 1)):i<n:=er (by have:=Y2 n;omega) h
def vv1(J:Jt)(m:Nat)(X:MU):Nat:=V J (mf (rst m X)) (2^(FI X).length - 1) (2^(FI (flip m X)).length - 1)
structure Fu(m:Nat)(X:List (List Int)):Prop where
 a:0<2^(FI X).length - 1/\2^(FI X).length - 1<32
 b:0<2^(FI (flip m X)).length - 1/\2^(FI (flip m X)).length - 1<32
 n:In9 (mf (rst m X)) (2^(FI X).length - 1) (2^(FI (flip m X)).length - 1)
def iB(R:Rect n m X)(W:W9 X)(c:0<n)(d:0<m)(n5:n<=5)(m5:m<=5):Fu m X:=by
 have a:=bE X;have b:=bE (flip m X);rw[R.1]at a;rw[am]at b;exact⟨full (L0 (by rw[R.1];exact c)) KE,full (L0 (by rw[am];exact d)) KE,λ i g j f=>bH wZ (xa R W) (bJ g) (bJ f)⟩
def yx(R:JOk J)(O:Op J o)(t:Nr)(hr:Ru c):vv1 J (m*q) (PT A B n m p q c)<=o (vv1 J m A) (o (vv1 J q B) J.g):=by
 obtain⟨n5,m5,Z,Y⟩:=t.sz;have S:Rect (n*p) (m*q) (PT A B n m p q c):=aq;obtain⟨ka,v⟩:=iA t.RA;obtain⟨la,r⟩:=iA (K9 t.RA);obtain⟨kb,s⟩:=iA t.RB;obtain⟨lb,l⟩:=iA (K9 t.RB);have K:=fG t.n0 t.p0;have L:=fG t.m0 t.q0;have C:=iB t.RA t.a9 t.n0 t.m0 n5 m5;have z:=iB t.RB t.b9 t.p0 t.q0 Z Y;have k:=iB S (yw t hr) K L t.np t.mq;obtain⟨X,P⟩:∃X,PT A B n m p q c=X:=Nb;have E:∀i∈cs (2^(FI X).length - 1),(FI X).getD i 0<n*p:=λ i f=>by have:=FIx (bJ f);rw[←P]at this ⊢;rw[S.1]at this;exact this
 have I:∀j∈cs (2^(FI (flip (m*q) X)).length - 1),(FI (flip (m*q) X)).getD j 0<m*q:=λ j d=>by have:=FIx (bJ d);rw[am]at this;exact this
 have en:∀i∈cs (2^(FI X).length - 1),∀j∈cs (2^(FI (flip (m*q) X)).length - 1),mf (rst (m*q) X) i j=jw c (mf (rst m A) (ka ((FI X).getD i 0/p)) (la ((FI (flip (m*q) X)).getD j 0/q))) (mf (rst q B) (kb ((FI X).getD i 0%p)) (lb ((FI (flip (m*q) X)).getD j 0%q))):=λ i f j d=>by have a:=dm (E i f) t.p0;have b:=dm (I j d) t.q0;rw[yk (bJ f) (bJ d),yv t.RA v r a.1 b.1,yv t.RB s l a.2 b.2];have:=yu (h:=n*p) (w:=m*q) (g:=put A B p q c) (E i f) (I j d);rw[show tab (n*p) (m*q) _=X from P]at this;exact this
 rw[P]at k ⊢;unfold vv1;refine comb R O _ _ _ (f6 _) C.a.1 C.a.2 C.b.1 C.b.2 C.n _ _ k.a.1 k.a.2 k.b.1 k.b.2 k.n (λ i f=>iy (v _ (dm (E i f) t.p0).1).1) (λ j d=>iy (r _ (dm (I j d) t.q0).1).1) λ R1 C1 w W r1 c0 c1 H F hw=>?_
 refine comb R O _ _ _ (f6 _) z.a.1 z.a.2 z.b.1 z.b.2 z.n R1 C1 W r1 c0 c1 (λ i f j d=>k.n i (H i f) j (F j d)) (λ i f=>iy (s _ (dm (E i (H i f)) t.p0).2).1) (λ j d=>iy (l _ (dm (I j (F j d)) t.q0).2).1) λ R2 U u Q s1 d0 d1 N M hu=>?_;obtain⟨i0,y⟩:=T6 (W5 R2 s1 Q);obtain⟨j0,x⟩:=T6 (W5 U d1 d0);have hv:∀i∈cs R2,∀j∈cs U,mf (rst (m*q) X) i j=jw c w u:=λ i f j d=>by rw[en i (H i (N i f)) j (F j (M j d)),hw i (N i f) j (M j d),hu i f j d]
 rw[eF Q ((yb (λ i f j d=>k.n i (H i (N i f)) j (F j (M j d))) y x).mpr λ i f j d=>by rw[hv i f j d,hv i0 y j0 x])];exact f6 _
end
def bK(R:Rect n m X)(a:i<n)(b:j<n):X.getD i []=X.getD j []↔∀x,x<m->mf X i x=mf X j x:=by
 refine⟨λ h x _=>by unfold mf;rw[h],λ h=>jx (by rw[ib R a,ib R b]) λ x h1 h2=>?_⟩;have e:=h x (by rw[←ib R a];exact h1);unfold mf at e;rw[i8,i6 h1,G5,i8 (l:=X.getD j []),i6 h2,G5]at e;exact e
def bL{X:on (on Int)}(h:r<X.length):(X.idxOf (X.getD r [])==r)=true↔∀i,i<r->X.getD i []≠X.getD r []:=by
 rw[f0];constructor
 ·intro e i hi z;have:X[i]? = some (X.getD r []):=by rw[←z,i8,i6 KE];rfl
  have:=nJ this;omega
 ·intro H;have h1:X[r]? = some (X.getD r []):=by rw[i8,i6 h];rfl
  have:=nJ h1;rcases bY this with z | z
  ·exact absurd (vW (C6 h)) (H _ z)
  ·exact z
theorem ol(P Q:Nat->Bool)(p:Nat):∀n,((ML (n*p)).filter λ r=>P (r/p)&&Q (r%p)).length=((ML n).filter P).length*((ML p).filter Q).length
 | 0=>by rw[Nat.zero_mul];simp
 | n+1=>by
  rw[G8,U8,List.range_add,X6,p7,ol P Q p n,Y0,X6,p7,G8]
  congr 1
  rw[List.filter_map,d9,List.filter_cons,fg];have e:(ML p).filter ((λ r=>P (r/p)&&Q (r%p)) ∘ λ x=>n*p+x)=(ML p).filter λ x=>P n&&Q x:=by refine az λ x a=>?_;have a:=i7.mp a;show(P _&&Q _)=_;rw[J9 n p,jK KE,jz a,jL,jA a];rfl
  rw[e];cases P n
  ·rw[e7 w9];simp
  ·rw[d6 rfl];simp
def L5{q:Nat}(b:x<m)(a:y<q):x*q+y<m*q/\(x*q+y)/q=x/\(x*q+y)%q=y:=by
 refine⟨?_,by rw[J9 x q,jK KE,jz a];rfl,by rw[J9 x q,jL,jA a]⟩;have:(x+1)*q<=m*q:=bV q b;rw[G8]at this;omega
def LR{a b c d:Int}(h1:0<=a/\a<=2)(h2:0<=b/\b<=2)(h3:0<=c/\c<=2)(h4:0<=d/\d<=2)(h:3*a+b=3*c+d):a=c/\b=d:=by omega
def bM:put A B p q "pair" r c=3*mf A (r/p) (c/q)+mf B (r%p) (c%q):=rfl
def J5(b:r<n*p)(d:c<m*q):mf (PT A B n m p q a) r c=put A B p q a r c:=yu b d
def yy(t:Nr):(FI (PT A B n m p q "pair")).length=(FI A).length*(FI B).length:=by
 have J:Rect (n*p) (m*q) (PT A B n m p q "pair"):=aq;have g:∀r s,r<n*p->s<n*p->((PT A B n m p q "pair").getD r []=(PT A B n m p q "pair").getD s []↔A.getD (r/p) []=A.getD (s/p) []/\B.getD (r%p) []=B.getD (s%p) []):=λ r s f hs=>by
  have a:=dm f t.p0;have b:=dm hs t.p0;rw[bK J f hs,bK t.RA a.1 b.1,bK t.RB a.2 b.2];constructor
  ·intro H;have j:∀x y,x<m->y<q->mf A (r/p) x=mf A (s/p) x/\mf B (r%p) y=mf B (s%p) y:=λ x y l k=>by obtain⟨h,u,o⟩:=L5 l k;have e:=H _ h;rw[J5 f h,J5 hs h,bM,bM,u,o]at e;exact LR (t.at1 a.1 l) (t.at2 a.2 k) (t.at1 b.1 l) (t.at2 b.2 k) e
   exact⟨λ x l=>(j x 0 l t.q0).1,λ y k=>(j 0 y t.m0 k).2⟩
  ·rintro⟨E,C⟩ c hc
   have d:=dm hc t.q0;rw[J5 f hc,J5 hs hc,bM,bM,E _ d.1,C _ d.2]
 have I:=t.RA.1;have lB:=t.RB.1;have F:=J.1;show(List.filter _ _).length=(List.filter _ _).length*(List.filter _ _).length;rw[I,lB,F,←ol]
 congr 1
 refine az λ r f=>?_;have f:=i7.mp f;have a:=dm f t.p0;rw[M2,d8,bL (by rw[F];exact f),bL (by rw[I];exact a.1),bL (by rw[lB];exact a.2)];constructor
 ·intro H;constructor
  ·intro i v z;obtain⟨h,u,o⟩:=L5 (show i<n by omega) a.2;have lt:i*p+r%p<r:=by have h1:=Y3 r p;have h2:(i+1)*p<=(r/p)*p:=bV p v;have p0:=t.p0;rw[G8]at h2;rw[J9]at h1;omega
   exact H _ lt ((g _ _ h f).mpr ⟨by rw[u];exact z,by rw[o]⟩)
  ·intro i v z;obtain⟨h,u,o⟩:=L5 a.1 (show i<p by omega);have lt:r/p*p+i<r:=by have h1:=Y3 r p;rw[J9]at h1;omega
   exact H _ lt ((g _ _ h f).mpr ⟨by rw[u],by rw[o];exact z⟩)
 ·rintro⟨E,C⟩ i v z
  obtain⟨L,K⟩:=(g _ _ (Y4 v f) f).mp z;have h1:=Y3 r p;have h2:=Y3 i p;have d2:r%p<=i%p:=U3 λ w=>C _ w K
  have d3:=Nat.mul_le_mul_left p (U3 λ w=>E _ w L);omega
def eG(R:Rect n m X)(a:r<n)(b:c<m):mf (flip m X) c r=mf X r c:=(oj R b a).symm
theorem Two.flip{A B:on (on Int)}{n m p q:Nat}(t:Nr):Two (flip m A) (flip q B) m n q p:=by
 refine⟨t.m0,t.n0,t.q0,t.p0,t.mq,t.np,K9 t.RA,K9 t.RB,λ r hr x hx=>?_,λ r hr x hx=>?_⟩
 ·obtain⟨c,hc,rfl⟩:=g9.mp hr;obtain⟨l,hl,rfl⟩:=g9.mp hx;exact t.WA l hl _ (W6 (by rw[t.RA.2 _ hl];exact i7.mp hc))
 ·obtain⟨c,hc,rfl⟩:=g9.mp hr;obtain⟨l,hl,rfl⟩:=g9.mp hx;exact t.WB l hl _ (W6 (by rw[t.RB.2 _ hl];exact i7.mp hc))
def yz(t:Nr):flip (m*q) (PT A B n m p q d)=PT (flip m A) (flip q B) m n q p d:=by
 rw[LQ];refine z7 λ c g=>z7 λ r f=>?_
 have a:=dm (i7.mp f) t.p0;have b:=dm (i7.mp g) t.q0;show jw d _ _=jw d _ _;rw[eG t.RA a.1 b.1,eG t.RB a.2 b.2]
def iC(R:Rect n m X):(X.any λ r=>r.any λ x=>x==(w:Int))=true↔∃i j,i<n/\j<m/\mf X i j=(w:Int):=by
 rw[B1];constructor
 ·rintro⟨r,d,h⟩
  obtain⟨x,f,e⟩:=B1.mp h;obtain⟨i,b,rfl⟩:=X4 d;obtain⟨j,a,rfl⟩:=X4 f;have c:i<n:=by rw[←R.1];exact b
  refine⟨i,j,c,by rw[←R.2 _ d];exact a,?_⟩;unfold mf;rw[i8 (l:=X),i6 b,G5,i8,i6 a,G5];exact Y8 e
 ·rintro⟨i,j,b,a,e⟩
  have h1:=C6 (by rw[R.1];exact b);exact⟨_,h1,B1.mpr ⟨_,W6 (by rw[R.2 _ h1];exact a),by rw[f0];exact e⟩⟩
def WI_3(h:∀r∈X,∀x∈r,0<=x/\x<=2):WI X=(ML 3).filter λ (w:Nat)=>X.any λ r=>r.any λ x=>x==(w:Int):=by
 unfold WI;rw[show List.range 10=List.range 3++[3,4,5,6,7,8,9]from rfl,X6,eO (l:=[3,4,5,6,7,8,9]).mpr,x4];intro w b z;obtain⟨r,c,h2⟩:=B1.mp z;obtain⟨x,a,e⟩:=B1.mp h2;have:=h r c x a;have e:=Y8 e;simp only[f8,F4,F8]at b;omega
def LS(t:Nr):(WI (PT A B n m p q "pair")).length=(WI A).length*(WI B).length:=by
 rw[WI_3 t.WA,WI_3 t.WB,←ol];unfold WI;rw[show List.range 10=List.range (3*3)++[9]from rfl,X6,p7];have e:∀w:Nat,((PT A B n m p q "pair").any λ r=>r.any λ x=>x==(w:Int))=true↔((A.any λ r=>r.any λ x=>x==((w/3:Nat):Int))&&(B.any λ r=>r.any λ x=>x==((w%3:Nat):Int)))=true:=λ w=>by
  rw[d8,iC aq,iC t.RA,iC t.RB];constructor
  ·rintro⟨i,j,d,c,e⟩
   have a:=dm d t.p0;have b:=dm c t.q0;rw[J5 d c,bM]at e;have:=t.at1 a.1 b.1;have:=t.at2 a.2 b.2;exact⟨⟨_,_,a.1,b.1,by omega⟩,_,_,a.2,b.2,by omega⟩
  ·rintro⟨⟨i,j,d,c,v⟩,i',j',g,f,u⟩
   obtain⟨s,F,E⟩:=L5 d g;obtain⟨o,C,y⟩:=L5 c f;refine⟨_,_,s,o,?_⟩;rw[J5 s o,bM,F,E,C,y,v,u];omega
 rw[eO (l:=[9]).mpr,cj,Nat.add_zero]
 ·congr 1
  exact az λ w _=>M2.mpr (e w)
 ·intro w k z;rw[s9]at k;subst k;obtain⟨i,j,d,c,h⟩:=(iC t.RA).mp (C7.mp ((e 9).mp z)).1;have:=t.at1 d c;omega
def LU(h:evE G F e δ=some (.ok (MZ (iD w)) c))(hw:w.length<4000):evE G F (.bi .lset [e]) δ=some (.ok (MY ((w.foldl dk []).length:Nat)) .strong):=by
 show Rs.thn _ _=_;rw[d7 h f7];show(match ints? (iD w)with
  | some a=>if a.length<4000 then some (Re.ok _ .strong)else none
  | none=>none)=_
 rw[bC];exact d6 hw
def yA(hw:w.length<4000):run G T fu (k+1) 53 [.lst (iD w)]=some (.v (MY ((w.foldl dk []).length:Nat)) false):=by
 rw[j9 rfl rfl];exact j7 (j1 (k5 (LU (d5 rfl) hw)))
def yB(X:MU):((kI X).foldl dk []).length=(FI X).length:=by
 rw[←nC,gZ];unfold nI;rw[d9]
end k72
end
noncomputable section
namespace rk
open k72 (dm L5)
theorem ow(f:Nat->Int)(a:Nat):∀b,sm f (a+b)=sm f a+sm (λ i=>f (a+i)) b
 | 0=>by show sm f a=sm f a+0;omega
 | b+1=>by show sm f (a+b)+f (a+b)=_+(sm _ b+f (a+b));rw[ow f a b];omega
theorem ox(f:Nat->Nat->Int)(k:Nat):∀n,sm (λ u=>f (u/k) (u%k)) (n*k)=sm (λ s=>sm (f s) k) n
 | 0=>by rw[Nat.zero_mul];rfl
 | n+1=>by
  rw[G8,U8,ow,ox f k n];show _=sm _ n+sm (f n) k
  congr 1
  refine z0 λ i a=>?_;rw[J9 n k,jK KE,jz a,jL,jA a];rfl
def yC(a:Int)(f:Nat->Int)(n:Nat):sm (λ i=>f i*a) n=sm f n*a:=by
 rw[B9,←J4];exact z0 λ i _=>B9 ..
section
variable {a b:Nat->Rw} {na nb ma mb:Nat}
abbrev ten(a b:Nat->Rw)(nb mb:Nat):Nat->Rw:=λ u j=>a (u/nb) (j/mb)*b (u%nb) (j%mb)
def LV(p:Ind P0 a na ma)(o:Ind P0 b nb mb):Ind P0 (ten a b nb mb) (na*nb) (ma*mb):=λ c h u g=>by
 have k:0<nb:=X7 λ z=>by rw[z]at g;omega
 have z:=λ s hs y f=>by
  refine p (λ s=>sm (λ t=>c (s*nb+t)*b t y) nb) (λ x j=>?_) s hs;obtain⟨n,m,l⟩:=L5 j f;show _=_;rw[←show sm _ _=0 from (h _ n)];rw[show sm _ _=sm (λ u=>c (u/nb*nb+u%nb)*_) (na*nb)from z0 λ i _=>by
   show c i*(a (i/nb) _*b (i%nb) _)=_;rw[m,l,J9 (i/nb) nb,Y3],(ox (λ s t=>c (s*nb+t)*(a s x*b t y)) nb na)]
  refine z0 λ s _=>?_;rw[←yC];exact z0 λ t _=>by rw[B9 (a s x),G7]
 have d:=dm g k;have:=o _ (λ y f=>z _ d.1 y f) _ d.2;rw[J9 (u/nb) nb,Y3]at this;exact this
def LW(h:InSp P0 a na ma x)(g:InSp P0 b nb mb y):InSp P0 (ten a b nb mb) (na*nb) (ma*mb) λ j=>x (j/mb)*y (j%mb):=by
 obtain⟨d,al,m,h1⟩:=h;obtain⟨e,c,l,h2⟩:=g;refine⟨d*e,λ u=>al (u/nb)*c (u%nb),λ z=>(pr0.prime z).elim m l,λ j f=>?_⟩;have i:0<mb:=X7 λ z=>by rw[z]at f;omega
 have q:=dm f i;have h1:d*x (j/mb) - _=0:=h1 _ q.1;have h2:e*y (j%mb) - _=0:=h2 _ q.2;show d*e*_ - sm _ _=0;rw[ox (λ s t=>al s*c t*(a s (j/mb)*b t (j%mb))) nb na];have k:sm (λ s=>sm (λ t=>al s*c t*(a s (j/mb)*b t (j%mb))) nb) na=sm (λ s=>al s*a s (j/mb)) na*sm (λ t=>c t*b t (j%mb)) nb:=by
  rw[←yC];refine z0 λ s _=>?_
  rw[←J4];exact z0 λ t _=>by ac_rfl
 rw[show sm _ na=_ from k,←show d*x (j/mb)=sm _ na by omega,←show e*y (j%mb)=sm _ nb by omega];rw[show d*e*_=d*x (j/mb)*(e*y (j%mb)) by ac_rfl];omega
end
def InSp.cg(h:InSp P w k m x)(e:∀j,j<m->x j=y j):InSp P w k m y:=by
 obtain⟨d,a,h1,h2⟩:=h;exact⟨d,a,h1,λ j b=>by rw[←e j b];exact h2 j b⟩
def rank_ten(B:Bas P0 v n m b)(o:Bas P0 k f a g)(C:Bas P0 w (n*f) (m*a) c)(m0:0<a)(x:0<f)(h:∀i,i<n*f->∀j,j<m*a->w i j=v (i/f) (j/a)*k (i%f) (j%a)):c.length=b.length*g.length:=by
 refine Nat.le_antisymm (exch pr0 (w:=ten (λ s=>v (b.getD s 0)) (λ s=>k (g.getD s 0)) g.length a) C.ind λ i A=>?_) (exch pr0 (w:=λ s=>w (c.getD s 0)) (LV B.ind o.ind) λ u p=>?_)
 ·have q:=C.at pr0 i A;have d:=dm q x;exact InSp.cg (LW (B.sp _ d.1) (o.sp _ d.2)) λ j l=>(h _ q j l).symm
 ·have y:0<g.length:=X7 λ z=>by rw[z]at p;omega
  have d:=dm p y;obtain⟨r,F,E⟩:=L5 (B.at pr0 _ d.1) (o.at pr0 _ d.2);exact InSp.cg (C.sp _ r) λ j l=>by rw[h _ r j l,F,E]
def rank_sum(B:Bas P2 v n m b)(R:Bas P2 p l g o)(C:Bas P2 w (n*l) (m*g) c)(N:0<g)(M:0<l)(h:∀i,i<n*l->∀j,j<m*g->w i j=(v (i/l) (j/g)+p (i%l) (j%g))%2):c.length<=b.length+o.length:=by
 refine exch pr2 (w:=λ u=>if u<b.length then λ j=>v (b.getD u 0) (j/g)else λ j=>p (o.getD (u - b.length) 0) (j%g)) C.ind λ i P=>?_;have I:=C.at pr2 i P;have d:=dm I M;obtain⟨f,al,L,h1⟩:=B.sp _ d.1;obtain⟨a,J,K,h2⟩:=R.sp _ d.2;refine⟨f*a,λ u=>if u<b.length then a*al u else f*J (u - b.length),λ z=>(pr2.prime z).elim L K,λ j F=>?_⟩;have q:=dm F N;have h1:=h1 _ q.1;have h2:=h2 _ q.2;dsimp only at h1 h2 ⊢;rw[ow,h _ I j F];rw[show sm _ b.length=a*sm _ b.length by
  rw[←J4];exact z0 λ s hs=>by rw[d6 hs,d6 hs,G7]]
 rw[show sm _ o.length=f*sm _ o.length by
  rw[←J4];exact z0 λ s hs=>by rw[e7 KE,e7 KE,Nat.add_sub_cancel_left,G7]]
 obtain⟨x,E⟩:∃x,v (c.getD i 0/l) (j/g)=x:=Nb;obtain⟨y,A⟩:∃y,p (c.getD i 0%l) (j%g)=y:=Nb;obtain⟨S,H⟩:∃S,sm (λ s=>al s*v (b.getD s 0) (j/g)) b.length=S:=Nb;obtain⟨Q,r⟩:∃S,sm (λ s=>J s*p (o.getD s 0) (j%g)) o.length=S:=Nb;rw[E,H]at h1;rw[A,r]at h2;rw[E,A,H,r];have e:(x+y)%2=x+y - 2*((x+y)/2):=by omega
 have k:=pr2.sub (pr2.add (pr2.mul a h1) (pr2.mul f h2)) (pr2.mul (f*a*((x+y)/2)) (show P2 2 from rfl));rw[e];rw[show f*a*_ - _=a*(f*x - S)+f*(a*y - Q) - f*a*((x+y)/2)*2 by
  obtain⟨z,O⟩:∃z,(x+y)/2=z:=Nb;rw[O,Y7,Int.mul_add,Y7,Y7];rw[show a*(f*x)=f*a*x by ac_rfl,show f*(a*y)=f*a*y by ac_rfl,show f*a*z*2=f*a*(2*z) by ac_rfl];omega]
 exact k
end rk
namespace k72
open PySem L2
def LX(t:Nr):(bl0 NJ (m*q)).length=(bl0 A m).length*(bl0 B q).length:=
 rk.rank_ten (iu t.RA) (iu t.RB) (iu aq) t.q0 t.p0 λ i b j a=>J5 b a
def LY(t:Nr):(bl2 (PT A B n m p q "parity")).length<=(bl2 A).length+(bl2 B).length:=
 rk.rank_sum (og t.RA) (og t.RB) (og aq) t.q0 t.p0 λ i b j a=>J5 b a
end k72
end
noncomputable section
namespace k72
open PySem L2
theorem yD{c:Type}{R:c->c->Prop}(d:∀a b,R a b->R b a):∀{l:on c},l.Pairwise R->∀{a b:c},a∈l->b∈l->a≠b->R a b
 | [],_,_,_,h,_,_=>by cases h
 | x::l,P,a,b,j,i,ne=>by
  rw[C8]at P;rcases f8.mp j with g | h1<;>rcases f8.mp i with f | h2
  ·exact absurd (g.trans f.symm) ne
  ·rw[g];exact P.1 b h2
  ·rw[f];exact d _ _ (P.1 a h1)
  ·exact yD d P.2 h1 h2 ne
theorem oy[DecidableEq d](g:∀a b,c a b=true->c b a=true):∀(n:Nat) (l:on d),l.length<=n->∀S:on d,S.Nodup->(∀x∈S,x∈l)->S.Pairwise (λ a b=>c a b=true)->S.length<=(mA c l).length
 | _,[],_,S,_,hs,_=>by
  cases S with
  | nil=>exact u9 _
  | cons x r=>exact absurd (hs x (i9 ..)) MP
 | 0,e::l,h,_,_,_,_=>by simp at h
 | n+1,e::l,h,S,i,hs,P=>by
  have o:l.length<=n:=by simpa using h
  rw[ii];by_cases j:e∈S
  ·have h1:(S.erase e).length<=(mA c (l.filter (c e))).length:=oy g n _ (e9 (A5 _ _) o) _ (i.erase e) (λ x f=>by
    obtain⟨m,k⟩:=i.mem_erase_iff.mp f;refine k8.mpr ⟨(f8.mp (hs x k)).resolve_left m,yD g P j k (NV m)⟩) (List.Pairwise.sublist List.erase_sublist P)
   rw[iO j]at h1;split
   ·rw[l4];omega
   ·rename_i z;rw[l4]at z;omega
  ·have h1:=oy g n _ o _ i (λ x f=>(f8.mp (hs x f)).resolve_left λ z=>j (z▸f)) P;split
   ·omega
   ·exact h1
def LZ(h:kp f a b=true):kp f b a=true:=by
 unfold kp at h ⊢;split at h
 ·cases h
 ·rename_i z;have z:f b.1 b.2=f a.1 a.2:=by simpa using z
  rw[e7 (by rw[z];simp),z,Bool.or_comm];exact h
def Ma:kp f a a=false:=by
 unfold kp;simp
def Mb(h1:p.1∈I)(h2:p.2∈J)(a:f p.1 p.2=w):p∈L4 f w J I:=
 X8.mpr ⟨p.1,h1,g9.mpr ⟨p.2,k8.mpr ⟨h2,by rw[f0];exact a⟩,rfl⟩⟩
theorem aS{c b d:Type}(f:c->b->d)(M:on b):∀L:on c,(L.flatMap λ a=>M.map (f a)).length=L.length*M.length
 | []=>by simp
 | a::L=>by rw[List.flatMap_cons,p7,d9,aS f M L,l4,G8];omega
section
variable {A B:on (on Int)} {n m p q:Nat}
def O1(X:MU)(n m:Nat):Prop:=∀i j,i<n->j<m->mf X i j=0\/mf X i j=1
def eH:put A B p q "times" r c=mf A (r/p) (c/q)*mf B (r%p) (c%q):=rfl
theorem O1.flip{X:on (on Int)}{n m:Nat}(R:Rect n m X)(h:O1 X n m):O1 (flip m X) m n:=λ i j hi hj=>by rw[eG R hj hi];exact h j i hj hi
def oz{b:Int}(c:a=0\/a=1)(hb:b=0\/b=1)(h:a*b=1):a=1/\b=1:=by
 rcases c with rfl | rfl
 ·rw[aF]at h;cases h
 ·rw[R4]at h;exact⟨rfl,h⟩
def yE(t:Nr)(L:O1 A n m)(K:O1 B p q)(u:x∈FI A)(s:y∈FI B)(f:cx<m)(d:cy<q)(E:mf A x cx=1)(C:mf B y cy=1):x*p+y∈FI (PT A B n m p q "times"):=by
 have r:Rect (n*p) (m*q) (PT A B n m p q "times"):=aq;have k:=N0 u;have j:=N0 s;have P:=(bL k).mp (k8.mp u).2;have O:=(bL j).mp (k8.mp s).2;rw[t.RA.1]at k;rw[t.RB.1]at j;obtain⟨h,R,Q⟩:=L5 k j;refine k8.mpr ⟨i7.mpr (by rw[r.1];exact h),(bL (by rw[r.1];exact h)).mpr λ i v z=>?_⟩;have c:=Y4 v h;have a:=dm c t.p0;have b:∀X Y,X<m->Y<q->mf A (i/p) X*mf B (i%p) Y=mf A x X*mf B y Y:=λ X Y o l=>by obtain⟨g,I,H⟩:=L5 o l;have e:=(bK r c h).mp z _ g;rw[J5 c g,J5 h g,eH,eH,R,Q,I,H]at e;exact e
 have F:=b cx cy f d;rw[E,C]at F;obtain⟨N,M⟩:=oz (L _ _ a.1 f) (K _ _ a.2 d) F;have J:=(bK t.RA a.1 k).mpr λ X o=>by have:=b X cy o d;rw[M,C,fF,fF]at this;exact this
 have rB:=(bK t.RB a.2 j).mpr λ Y l=>by have:=b cx Y f l;rw[N,E,R4,R4]at this;exact this
 have g:=U3 λ w=>P _ w J;have I:=U3 λ w=>O _ w rB;have H:=Nat.mul_le_mul_left p g;have h1:=Y3 i p;rw[J9 x p]at v;omega
def iE(h:e∈tell X m w):e.1∈FI X/\e.2∈FI (flip m X)/\mf X e.1 e.2=w:=ij ((ao _ _ _ (f6 _)).subset h)
abbrev pt(p q:Nat)(a b:Nat×Nat):Nat×Nat:=(a.1*p+b.1,a.2*q+b.2)
def Mc(t:Nr)(I:O1 A n m)(H:O1 B p q):(tell A m 1).length*(tell B q 1).length<=(tell NJ (m*q) 1).length:=by
 have C:∀a∈tell A m 1,(a.1∈FI A/\a.2∈FI (flip m A))/\a.1<n/\a.2<m/\mf A a.1 a.2=1:=λ a c=>⟨⟨(iE c).1,(iE c).2.1⟩,yi t.RA c⟩;have s:∀a∈tell B q 1,(a.1∈FI B/\a.2∈FI (flip q B))/\a.1<p/\a.2<q/\mf B a.1 a.2=1:=λ a c=>⟨⟨(iE c).1,(iE c).2.1⟩,yi t.RB c⟩;have val:∀{i j U S},i<n->j<m->U<p->S<q->mf NJ (i*p+U) (j*q+S)=mf A i j*mf B U S:=λ h1 h2 h3 h4=>by obtain⟨c1,c2,c3⟩:=L5 h1 h3;obtain⟨d1,d2,d3⟩:=L5 h2 h4;rw[J5 c1 d1,eH,c2,c3,d2,d3]
 have M:∀{a g b d},a∈tell A m 1->g∈tell A m 1->b∈tell B q 1->d∈tell B q 1->(kp (at2 A) a g=true\/kp (at2 B) b d=true)->kp (at2 NJ) (pt p q a b) (pt p q g d)=true:=λ {a g b d} c F E f h=>by
  obtain⟨_,r,o,K⟩:=C a c;obtain⟨_,R,Q,a6⟩:=C g F;obtain⟨_,l,k,J⟩:=s b E;obtain⟨_,P,O,b6⟩:=s d f;have f1:at2 NJ (pt p q a b).1 (pt p q a b).2=1:=(val r o l k).trans (by rw[K,J];rfl);have f2:at2 NJ (pt p q g d).1 (pt p q g d).2=1:=(val R Q P O).trans (by rw[a6,b6];rfl);have f3:at2 NJ (pt p q a b).1 (pt p q g d).2=mf A a.1 g.2*mf B b.1 d.2:=val r Q l O;have f4:at2 NJ (pt p q g d).1 (pt p q a b).2=mf A g.1 a.2*mf B d.1 b.2:=val R o P k;unfold kp;rw[f1,f2,f3,f4,e7 MP];have z:∀{x y:Int},(x=0\/x=1)->(y=0\/y=1)->(x≠1\/y≠1)->(x*y != 1)=true:=λ hx hy h=>by
   rw[M5];intro e;obtain⟨e1,e2⟩:=oz hx hy e;rcases h with h | h
   ·exact h e1
   ·exact h e2
  have w:∀{X:on (on Int)} {u v:Nat×Nat},mf X u.1 u.2=1->mf X v.1 v.2=1->kp (at2 X) u v=true->mf X u.1 v.2≠1\/mf X v.1 u.2≠1:=λ {X u v} h1 h2 h=>by unfold kp at h;rw[show at2 X u.1 u.2=1 from h1,show at2 X v.1 v.2=1 from h2,e7 MP,B7,M5,M5]at h;exact h
  rw[B7];rcases h with h | h
  ·exact(w K a6 h).imp (λ h=>z (I _ _ r Q) (H _ _ l O) (.inl h)) λ h=>z (I _ _ R o) (H _ _ P k) (.inl h)
  ·exact(w J b6 h).imp (λ h=>z (I _ _ r Q) (H _ _ l O) (.inr h)) λ h=>z (I _ _ R o) (H _ _ P k) (.inr h)
 have L:((tell A m 1).flatMap λ a=>(tell B q 1).map (pt p q a)).Pairwise λ e Y=>kp (at2 NJ) e Y=true:=by
  rw[List.pairwise_flatMap];refine⟨λ a c=>?_,?_⟩
  ·rw[List.pairwise_map];exact pd (λ E f h=>M c c E f (.inr h)) (yj (rows:=B) (m:=q) (w:=1))
  ·refine pd (λ c F h e N Y W=>?_) (yj (rows:=A) (m:=m) (w:=1));obtain⟨b,E,rfl⟩:=g9.mp N;obtain⟨d,f,rfl⟩:=g9.mp W;exact M c F E f (.inl h)
 rw[←aS (pt p q)];refine oy (λ _ _ h=>LZ h) _ _ (f6 _) _ (L.imp λ {e Y} h z=>?_) (λ e N=>?_) L
 ·rw[z,Ma]at h;cases h
 ·obtain⟨a,c,N⟩:=X8.mp N;obtain⟨b,E,rfl⟩:=g9.mp N;obtain⟨⟨a0,a7⟩,r,o,K⟩:=C a c;obtain⟨⟨b0,Z⟩,l,k,J⟩:=s b E;refine Mb (yE t I H a0 b0 o k K J) ?_ ((val r o l k).trans (by rw[K,J];rfl));rw[yz t];exact yE t.flip (I.flip t.RA) (H.flip t.RB) a7 Z r l ((eG t.RA r o).trans K) ((eG t.RB l k).trans J)
def yF(h:LE X 1 n m u):∃c:on (Nat×Nat),c.length<=u/\(∀b∈c,b∈wN X 1 n m)/\∀i j,i<n->j<m->mf X i j=1->∃b∈c,hs b (i,j)=true:=by
 cases e:cv.cov hs u _ (wN X 1 n m)with
 | none=>exact absurd e h.1
 | some c=>
  obtain⟨h1,h2,f⟩:=cv.cov_ok hs e;exact⟨c,f,h1,λ i j d a hv=>h2 _ (iw.mpr ⟨d,a,hv⟩)⟩
def Md(t:Nr)(O:O1 A n m)(N:O1 B p q)(X:LE NJ 1 (n*p) (m*q) u)(ha:LE A 1 n m a)(Z:LE B 1 p q b):u<=a*b:=by
 obtain⟨ca,a1,a2,a3⟩:=yF ha;obtain⟨cb,b1,b2,b3⟩:=yF Z;have one:∀{i j},i<n*p->j<m*q->mf _ i j=1->mf A (i/p) (j/q)=1/\mf B (i%p) (j%q)=1:=λ o l e=>by have x:=dm o t.p0;have y:=dm l t.q0;rw[J5 o l,eH]at e;exact oz (O _ _ x.1 y.1) (N _ _ x.2 y.2) e
 refine e9 (X.by (L:=ca.flatMap λ a=>cb.map λ b=>(a,b)) (P:=λ s e=>hs s.1 (e.1/p,e.2/q)=true/\hs s.2 (e.1%p,e.2%q)=true) (λ e F=>?_) λ s C W=>?_) (by rw[aS];exact Q5 a1 b1)
 ·obtain⟨k,h,H⟩:=iw.mp F;have x:=dm k t.p0;have y:=dm h t.q0;obtain⟨R,Q⟩:=one k h H;obtain⟨b,h1,h2⟩:=a3 _ _ x.1 y.1 R;obtain⟨M,h3,h4⟩:=b3 _ _ x.2 y.2 Q;exact⟨(b,M),X8.mpr ⟨b,h1,g9.mpr ⟨M,h3,rfl⟩⟩,h2,h4⟩
 ·obtain⟨x,z,v⟩:=X8.mp C;obtain⟨y,r,rfl⟩:=g9.mp v;obtain⟨e,F,g,f⟩:=W;obtain⟨k,h,H⟩:=iw.mp F;unfold hs at g f;rw[d8]at g f;obtain⟨b,g1,g2⟩:=Lz (w:=1) (λ i=>x.1.testBit (i/p)=true/\y.1.testBit (i%p)=true) (λ j=>x.2.testBit (j/q)=true/\y.2.testBit (j%q)=true) ⟨e.1,k,g.1,f.1⟩ ⟨e.2,h,g.2,f.2⟩ λ i j o l J I=>by rw[J5 o l,eH,yg (a2 x z) J.1 I.1,yg (b2 y r) J.2 I.2];rfl
  refine⟨b,g1,λ K E Y=>?_⟩;obtain⟨U,S,j3⟩:=iw.mp E;obtain⟨d,c⟩:=Y;unfold hs at d c;rw[d8]at d c;exact g2 K.1 K.2 U S ⟨d.1,c.1⟩ ⟨d.2,c.2⟩
end
def Me(h:n*m<=ws.length):Rect n m (ee n m ws):=by
 unfold ee;refine⟨by rw[d9,q9],λ r a=>?_⟩;obtain⟨j,b,rfl⟩:=g9.mp a;rw[U2,List.length_drop];have:(j+1)*m<=n*m:=bV m (i7.mp b);rw[G8,U8]at this;omega
def Mf{m:Nat}(h:n*m<=ws.length)(b:j<n):cutD (iD ws) (some ((j:Int)*m)) (some ((j:Int)*m+m))=iD ((ws.drop (j*m)).take m):=by
 have d:((j:Int)*m)=((j*m:Nat):Int):=by push_cast;rfl
 have c:((j:Int)*m+m)=((j*m+m:Nat):Int):=by push_cast;rfl
 have le:j*m+m<=ws.length:=(by have:(j+1)*m<=n*m:=bV m b;rw[G8,U8]at this;omega);have a:(iD ws).length=ws.length:=by unfold iD;rw[d9]
 unfold cutD slIx;rw[c,d];simp only[a];rw[e7 KE,e7 KE,v9,v9,ff le,ff KE,show j*m+m - j*m=m by omega];unfold iD;rw[←List.map_drop,←List.map_take]
abbrev wS(ns:on Int)(s n m:Nat)(tp:Int)(xs:on Int)(x y:Sv):on Sv:=[.val (.scr ns),.val (MY (s:Int)),.val (MY (n:Int)),.val (MY (m:Int)),.val (MY tp),.val (MZ (iD xs)),x,y]
def Mg(h:NQ):evE G F (.bi .max es) δ=maxD l:=by
 have e:evE G F (.bi .max es) δ=Rs.thn _ _:=rfl;rw[e,h];rfl
def yG(a:on Int)(S:a.length<=63)(s n m:Nat)(hs:s<=100)(M:n<=5)(U:m<=5)(c:Int)(u:0<c)(J:c<=3)(g:on Int)(p:g.length=25) :
  ∃rows,Rect n m rows/\(∀r∈rows,∀x∈r,0<=x/\x<=2)/\run G T fu (k+1) 51 [.scr a,.int (s:Int),.int (n:Int),.int (m:Int),.int c,.lst (iD g)]=some (.v Nq false):=by
 have L:∀x:Int,0<=x%c/\x%c<=2:=λ x=>⟨fh x KE,by have:=eV x u;omega⟩;have nm:n*m<=25:=Q5 M U;have Y:(2:Int)^62=4611686018427387904:=MG;have B:R7 (n:Int) (m:Int)=true:=N3 KE KE;have O:=A4 (F:=run G T fu k) (δ:=wS a s n m c g .no .no) (elt:=.bin .Mod (.var 0) (.var 1)) (tg:=.one 0) (it:=.var 5) (fr:=[none,some 4]) (l:=g) (h:=DV.int) (f:=λ x=>.int (x%c)) (cl:=.strong) rfl MG (by rw[p];decide) (λ x _=>⟨[.val (.int x),.val (.int c)],.strong,rfl,J1 (d5 rfl) (d5 rfl) u,rfl⟩);have E:g.map (λ x=>DV.int (x%c))=iD (g.map λ x=>x%c):=by unfold iD;rw[k9];rfl
 rw[E]at O;obtain⟨b,hb,hb0,hb1,hb2⟩:∃b:Int,(if(if(a.length:Int) - s>0 then(a.length:Int) - s else 0)<(n:Int)*m then(if(a.length:Int) - s>0 then(a.length:Int) - s else 0)else(n:Int)*m)=b/\0<=b/\b<=((n*m:Nat):Int)/\(b=0\/b<=(a.length:Int) - s):=by have h0:(0:Int)<=(n:Int)*m:=jR (x0 n) (x0 m);refine⟨_,rfl,?_,?_,?_⟩<;>split<;>push_cast<;>split<;>omega
 obtain⟨P,Q,o,z,C,q,rfl⟩:=Z2 (i:=7) (I:=λ _ H=>∃(o:on Int) (z:Sv),o.length=25/\(∀x∈o,0<=x/\x<=2)/\H=wS a s n m c g (.own (MZ (iD o))) z)
  (body:=λ A=>evSs G (MK k) fu [.seti 6 (.var 7) (.bin .Mod (Nh 0 (.bin .Add (.var 1) (.var 7))) (.var 4))] A) b.toNat 0
  (λ j w H I=>by
   obtain⟨o,z,C,q,rfl⟩:=I;rw[show(0:Int)+(j:Int)=j by omega];have N:s+j<a.length:=by omega
   have hv:ixD (.scr a) (MY ((s:Int)+(j:Int)))=some (.int a[s+j]):=(by rw[show(s:Int)+(j:Int)=((s+j:Nat):Int) by push_cast;rfl];show((A0 a.length ((s+j:Nat):Int)).bind λ j=>a[j]?).map DV.int=_;rw[nu N,N6,i6 N];rfl);refine⟨_,f9 (qH (ds:=iD o) (d:=.int (a[s+j]%c)) (cl:=.strong) (n:=j) (cx:=.strong) (j:=j) rfl (J1 (p6 (d5 rfl) (E6 (d5 rfl) (d5 rfl)) hv) (d5 rfl) u) (d5 rfl) rfl (nu (by unfold iD;rw[d9,C];omega))) rfl,o.set j (a[s+j]%c),.val (.int j),by rw[A7];exact C,λ x p=>(List.mem_or_eq_of_mem_set p).elim (q x) (λ e=>by rw[e];exact L _),?_⟩;unfold iD;rw[List.map_set];rfl) ⟨g.map λ x=>x%c,.no,by rw[d9];exact p,λ x p=>by obtain⟨y,_,rfl⟩:=g9.mp p;exact L y,rfl⟩
 have X:evE G (MK k) (.bi .min [.bin .Mult (.var 2) (.var 3),.bi .max [.int 0,.bin .Sub (.bi .len [.var 0]) (.var 1)]]) (wS a s n m c g (.own (MZ (iD (g.map λ x=>x%c)))) .no)=some (.ok (.int b) .strong):=(by have e1:evE G (MK k) (.bi .len [.var 0]) (wS a s n m c g (.own (MZ (iD (g.map λ x=>x%c)))) .no)=some (.ok (MY a.length) .strong):=rfl;have Z:=Mg (d7 (g8 (i:=0)) (d7 (V5 e1 (d5 (n:=1) (d:=.int s) rfl)) f7));rw[vI (d7 (E7 (d5 (n:=2) (d:=.int n) rfl) (d5 (n:=3) (d:=.int m) rfl) B) (d7 (x:=.int (if(a.length:Int) - s>0 then(a.length:Int) - s else 0)) (cx:=.strong) Z f7)),←hb];rfl);have K:=A4 (F:=run G T fu k) (δ:=wS a s n m c g (.own (MZ (iD o))) z) (elt:=.bi .tuple [.sl (.var 1) (.bin .Mult (.var 0) (.var 2)) (.bin .Add (.bin .Mult (.var 0) (.var 2)) (.var 2))]) (tg:=.one 0) (it:=.rng [.var 2]) (fr:=[none,some 6,some 3]) (l:=List.range n) (h:=λ j=>.int (0+(j:Int))) (f:=λ j=>.tup (iD ((o.drop (j*m)).take m))) (cl:=.fresh)
  (bx (d5 rfl) KE) MG (by rw[q9];exact e9 M MG) (λ j w=>by
   have w:=i7.mp w;have v:R7 (j:Int) (m:Int)=true:=N3 KE KE;refine⟨[.val (.int j),.own (MZ (iD o)),.val (.int m)],.strong,by rw[show(0:Int)+(j:Int)=j by omega];rfl,?_,rfl⟩;rw[←Mf (n:=n) KE w];exact W4 (Jf (B3 rfl) (E7 (d5 rfl) (d5 rfl) v) (E6 (E7 (d5 rfl) (d5 rfl) v) (d5 rfl))))
 have W:(ML n).map (λ j=>DV.tup (iD ((o.drop (j*m)).take m)))=(ee n m o).map λ r=>.tup (iD r):=by unfold ee;rw[k9];rfl
 rw[W]at K;refine⟨ee n m o,Me KE,λ r R x p=>by
  obtain⟨j,_,rfl⟩:=g9.mp R;exact q x (List.mem_of_mem_drop (List.mem_of_mem_take p)),?_⟩
 rw[j9 (fd:=vF) rfl rfl];exact j7 (f9 (E5 O) (D5 (Je X KE KE) (.inr rfl) Q (j1 (k5 (W4 K)))))
def Mh(x:Int):∃n p:Nat,0<n/\0<p/\n*p<=5/\ixD (.lst [.tup [.int 2,.int 2],.tup [.int 2,.int 2],.tup [.int 1,.int 4],.tup [.int 4,.int 1],.tup [.int 1,.int 3],.tup [.int 5,.int 1],.tup [.int 2,.int 1],.tup [.int 1,.int 5]]) (MY (x%8))=some (.tup [.int (n:Int),.int (p:Int)]):=by
 have q:x%8=0\/x%8=1\/x%8=2\/x%8=3\/x%8=4\/x%8=5\/x%8=6\/x%8=7:=by omega
 rcases q with q | q | q | q | q | q | q | q<;>rw[q]<;>exact⟨_,_,by decide,by decide,by decide,rfl⟩
def Mi(x:Int):∃n p:Nat,0<n/\0<p/\n*p<=5/\ixD (.lst [.tup [.int 2,.int 2],.tup [.int 2,.int 2],.tup [.int 1,.int 4],.tup [.int 4,.int 1],.tup [.int 3,.int 1],.tup [.int 1,.int 5],.tup [.int 1,.int 2],.tup [.int 5,.int 1]]) (MY (x%8))=some (.tup [.int (n:Int),.int (p:Int)]):=by
 have q:x%8=0\/x%8=1\/x%8=2\/x%8=3\/x%8=4\/x%8=5\/x%8=6\/x%8=7:=by omega
 rcases q with q | q | q | q | q | q | q | q<;>rw[q]<;>exact⟨_,_,by decide,by decide,by decide,rfl⟩
def Mj(o:on Int)(u:o.length<=63):∃(n m p q:Nat) (A B:MU),Two A B n m p q/\run G T fu (k+2) 52 [.scr o]=some (.v (.lst [tT A,tT B]) true):=by
 obtain⟨K,c0⟩:=nt (fu:=fu) (k:=k) o 0;obtain⟨J,c1⟩:=nt (fu:=fu) (k:=k) o 1;obtain⟨I,c2⟩:=nt (fu:=fu) (k:=k) o 2;obtain⟨s,hx,y⟩:=nG (fu:=fu) (k:=k) K 4 KE;obtain⟨Q,Z,x⟩:=nG (fu:=fu) (k:=k) J 25 KE;obtain⟨H,Y,w⟩:=nG (fu:=fu) (k:=k) I 25 KE;have F:∀j,j<4->∀(f:on Sv),f[1]? = some (.val (MZ (iD s)))->evE G (MK (k+1)) (.ix (.var 1) (MY ((j:Nat):Int))) f=some (.ok (MY (s.getD j 0)) .strong):=λ j hj f h=>p6 (d5 h) g8 (gU KE)
 obtain⟨n,p,N,M,z,e1⟩:=Mh (s.getD 0 0);obtain⟨m,q,O,L,C,e2⟩:=Mi (s.getD 1 0);have W:n<=5:=e9 (eL n M) z;have U:p<=5:=e9 (eP p N) z;have X:m<=5:=e9 (eL m L) C;have R:q<=5:=e9 (eP q O) C;obtain⟨r,E⟩:∃r,2+s.getD 2 0%2=r:=Nb;obtain⟨A,RA,WA,eA⟩:=yG (fu:=fu) (k:=k) o u 3 n m KE W X r KE KE Q Z;obtain⟨B,RB,WB,eB⟩:=yG (fu:=fu) (k:=k) o u 33 p q KE U R r KE KE H Y;refine⟨n,m,p,q,A,B,⟨N,O,M,L,z,C,RA,RB,WA,WB⟩,?_⟩;rw[j9 rfl rfl]
 let S (a b c d:Sv):on Sv:=[.val (.scr o),.val (MZ (iD s)),a,b,c,d]
 let P (a b:Nat):DV:=.tup [.int (a:Int),.int (b:Int)]
 have l:∀(f:on Sv) (j:Nat) (v:Int),f[0]? = some (.val (.scr o))->run G T fu (k+1) 49 [.scr o,.int (j:Int)]=some (.v (.int v) false)->evE G (MK (k+1)) (.call 49 [.var 0,.int (j:Int)]) f=some (.ok (.int v) .strong):=λ f j v h0 h=>g6 (fr:=false) (d7 (d5 h0) (d7 g8 f7)) rfl h;have g:∀{a b:Nat} {i:Nat} {f:on Sv},f[i]? = some (.val (P a b))->evE G (MK (k+1)) (Nh i (.int 0)) f=some (MV (.int (a:Int)))/\evE G (MK (k+1)) (Nh i (.int 1)) f=some (.ok (MY (b:Int)) .strong):=λ h=>⟨p6 (d5 h) g8 rfl,p6 (d5 h) g8 rfl⟩;have s2:∀d,evE G (MK (k+1)) (.call 50 [.call 49 [.var 0,.int 2],.int 25]) (S (.val (P n p)) (.val (P m q)) (MM r) d)=some (.ok (MZ (iD H)) .fresh):=λ d=>g6 (fr:=true) (d7 (l _ 2 I rfl c2) (d7 (g8 (i:=25)) f7)) rfl w;have tA:evE G (MK (k+1)) (.call 51 [.var 0,.int 3,.ix (.var 2) (.int 0),.ix (.var 3) (.int 0),.var 4,.call 50 [.call 49 [.var 0,.int 1],.int 25]]) (S (.val (P n p)) (.val (P m q)) (MM r) .no)=some (.ok (tT A) .strong):=g6 (fr:=false) (d7 (d5 rfl) (d7 (g8 (i:=3)) (d7 (g rfl).1 (d7 (g rfl).1 (d7 (d5 rfl) (d7 ((λ d=>g6 (d7 (l _ 1 J rfl c1) (d7 (g8) f7)) rfl x) _) f7)))))) rfl eA;have tB:∀d,evE G (MK (k+1)) (.call 51 [.var 0,.int 33,.ix (.var 2) (.int 1),.ix (.var 3) (.int 1),.var 4,.call 50 [.call 49 [.var 0,.int 2],.int 25]]) (S (.val (P n p)) (.val (P m q)) (MM r) d)=some (.ok (tT B) .strong):=λ d=>g6 (fr:=false) (d7 (d5 rfl) (d7 (g8 (i:=33)) (d7 (g rfl).2 (d7 (g rfl).2 (NL (d7 (s2 _) f7)))))) rfl eB;exact j7 (f9 (n6 (g6 (d7 (l _ 0 K rfl c0) (d7 (g8) f7)) rfl y) rfl) (f9 (n6 (p6 rfl (J1 (F 0 MG _ rfl) (g8) MG) e1) rfl) (f9 (n6 (p6 rfl (J1 (F 1 MG _ rfl) (g8) MG) e2) rfl) (f9 (n6 ((by rw[←E];exact E6 g8 (J1 (F 2 MG _ rfl) (g8) MG))) rfl) (f9 (n6 tA rfl) (j1 (k5 (bA (NL (d7 (tB _) f7)) (e9 (show 2<=1000 by decide) MG) rfl))))))))
theorem V_2:∀N R C,R+C<=N->0<R->R<32->0<C->C<32->In9 f R C->V jE f R C<=2^(R+C)
 | 0,R,C,h,a,_,_,_,_=>by omega
 | N+1,R,C,h,a,k,r,m,n=>by
  by_cases h1:wn f R C=1
  ·rw[eF a h1];exact Y2 _
  ·obtain⟨w,y,e⟩:=oi a k r m h1 (wn_p n a k r m);rw[e];refine yd (P:=λ _ _=>True) y a k r m λ o q R2 p z l c b x v u s _=>?_
   have u1:=V_2 N o q KE c.1 c.2.1 c.2.2.1 c.2.2.2 λ i g j d=>n i (x i g) j (v j d);have u2:=V_2 N R2 p KE b.1 b.2.1 b.2.2.1 b.2.2.2 λ i g j d=>n i (u i g) j (s j d);have w1:2^(o+q)<=2^(R+C - 1):=v7 MG KE;have w2:2^(R2+p)<=2^(R+C - 1):=v7 MG KE;have w3:2^(R+C)=2^(R+C - 1)*2:=by rw[←Q9];congr 1;omega
   rw[z];show V jE f o q+V jE f R2 p<=_;omega
structure Tb1(X:List (List Int))(n m:Nat):Prop where
 R:Rect n m X
 w:W9 X
 n0:0<n
 m0:0<m
 n5:n<=5
 m5:m<=5
def Tb1.h1(t:Tb1 X n m):(FI X).length<=5:=by have:=bE X;rw[t.R.1]at this;exact e9 this t.n5
def Tb1.h2(t:Tb1 X n m):(FI (flip m X)).length<=5:=by have:=bE (flip m X);rw[am]at this;exact e9 this t.m5
def Tb1.e(t:Tb1 X n m):vv1 jE m X<2^2000:=by
 have f:=iB t.R t.w t.n0 t.m0 t.n5 t.m5;have:=V_2 _ _ _ (f6 _) f.a.1 f.a.2 f.b.1 f.b.2 f.n;refine N4 this (Nat.pow_lt_pow_right MG ?_);have:=f.a.2;have:=f.b.2;omega
def oA(t:Tb1 X n m)(h:NA (tT X)):evE G (run G T 100 (K+9)) (MW 37 i) δ=some (.ok (MY (vv1 jB m X:Nat)) .strong):=g6 (d7 (d5 h) f7) rfl (Ka X n m t.R t.w t.n0 (by have:=t.n5;omega) t.m0 (by have:=t.m5;omega) t.h1 t.h2)
def oB(t:Tb1 X n m)(h:NA (tT X)):evE G (run G T 100 (K+9)) (MW 38 i) δ=some (.ok (MY (vv1 jE m X:Nat)) .strong):=g6 (d7 (d5 h) f7) rfl (JY X n m t.R t.w t.n0 (by have:=t.n5;omega) t.m0 (by have:=t.m5;omega) t.h1 t.h2)
def oC(t:Tb1 X n m)(h:NA (tT X)):evE G (run G T 100 (K+4)) (MW 39 i) δ=some (.ok (MY ((bl0 X m).length:Nat)) .strong):=g6 (d7 (d5 h) f7) rfl (Li t.R t.w (by have:=t.n5;omega) (by have:=t.m5;omega))
def oE(t:Tb1 X n m)(h:NA (tT X)):evE G (run G T 100 (K+4)) (MW 43 i) δ=some (.ok (MY ((bl2 X).length:Nat)) .strong):=g6 (d7 (d5 h) f7) rfl (Lv t.R (by have:=t.n5;omega) (by have:=t.m5;omega))
def yH(X:MU)(h:X.length<=5):(kI X).length<4000:=by rw[eg];omega
def oF(t:Tb1 X n m)(h:NA (tT X)):evE G (run G T 100 (K+1)) (.call 53 [.call 6 [.var i]]) δ=some (.ok (MY ((FI X).length:Nat)) .strong):=by
 have l:X.length<=5:=by rw[t.R.1];exact t.n5
 rw[←yB];exact g6 (d7 (g6 (d7 (d5 h) f7) rfl (gW X KE)) f7) rfl (yA (yH X l))
def oG(t:Tb1 X n m)(h:NA (tT X)):evE G (run G T 100 (K+2)) (.call 53 [.call 7 [.var i]]) δ=some (.ok (MY ((FI (flip m X)).length:Nat)) .strong):=by
 have a:=t.n5;have b:=t.m5;rw[←yB];exact g6 (d7 (g6 (d7 (d5 h) f7) rfl (nA X n m t.R t.n0 KE KE)) f7) rfl (yA (yH _ (by rw[am];exact b)))
def oH(t:Tb1 X n m)(h:NA (tT X)):evE G (run G T 100 (K+1)) (.bi .len [.call 11 [.var i]]) δ=some (.ok (MY ((WI X).length:Nat)) .strong):=by
 have e:=T1 (g6 (d7 (d5 h) f7) rfl (hL (fu:=100) (k:=K) X n m t.R (by have:=t.n5;omega) (by have:=t.m5;omega) t.w));rw[show(nD (WI X)).length=(WI X).length from d9 ..]at e;exact e
def oI(t:Tb1 X n m)(h:NA (tT X)):evE G (run G T 100 (K+40)) (Od 15 i) δ=some (.ok (MY ((tell X m 1).length:Nat)) .strong):=by
 have e:=T1 (g6 (d7 (d5 h) (d7 (g8) f7)) rfl (KP (fu:=100) (k:=K) t.R t.n0 (by have:=t.n5;omega) (by have:=t.m5;omega) t.h1 t.h2 1));rw[d9]at e;exact e
def oJ(t:Tb1 X n m)(h:NA (tT X)):∃u,u<=5/\LE X 1 n m u/\evE G (run G T 100 (K+12)) (Od 21 i) δ=some (.ok (MY (u:Nat)) .strong):=by
 have b:=t.n5;have f:=t.m5;obtain⟨u,d,a⟩:=KG (w:=1) (n:=n) KE;have nm:=Q5 b f;have l:=Ks (rows:=X) (w:=1) (m:=m) (ML n);rw[q9]at l;obtain⟨c,j,_,_,g⟩:=KF t.R t.n0 KE KE t.h1 t.h2 KE (f6 _) a;have e:=T1 (g6 (d7 (d5 h) (d7 (g8) f7)) rfl g);rw[d9,j]at e;exact⟨u,e9 d b,a,e⟩
def T5(h:a<=1000):((a:Nat):Int).natAbs<2^2000:=by
 rw[bZ];exact N4 h (o4 (show 1000<2^10 by decide) (v7 MG MG))
def m_of(h1:evE G F x δ=some (MV (.int (a:Nat))))(h2:evE G F y δ=some (MV (.int (b:Nat))))(d:((a:Nat):Int).natAbs<2^2000)(c:((b:Nat):Int).natAbs<2^2000):evE G F (.bin .Mult x y) δ=some (.ok (MY ((a*b:Nat):Int)) .strong):=by
 rw[fe];exact E7 h1 h2 (nY d c)
def yI(t:Tb1 X n m):(tell X m 1).length<=25:=by
 have a:=(ao (kp (at2 X)) _ (L4 (at2 X) 1 (FI (flip m X)) (FI X)) (f6 _)).length_le;have b:=nX (at2 X) 1 (FI (flip m X)) (FI X);have c:=Q5 t.h1 t.h2;unfold tell;omega
def yJ(t:Tb1 X n m):(bl0 X m).length<=n:=by
 have B:=iu t.R;have:=wL (B.up.imp λ h=>n9 h) λ x a=>i7.mpr (B.lt x a)
 rwa [q9]at this
section
variable {A B:on (on Int)} {n m p q:Nat} {rule:Str}
def Two.tA(t:Nr):Tb1 A n m:=⟨t.RA,t.a9,t.n0,t.m0,t.sz.1,t.sz.2.1⟩
def Two.tB(t:Nr):Tb1 B p q:=⟨t.RB,t.b9,t.p0,t.q0,t.sz.2.2.1,t.sz.2.2.2⟩
def Two.tP(t:Nr)(a:Ru rule):Tb1 (PT A B n m p q rule) (n*p) (m*q):=⟨aq,yw t a,fG t.n0 t.p0,fG t.m0 t.q0,t.np,t.mq⟩
def oK(d:evE G F a δ=some (MV (.int (x:Nat))))(c:evE G F b δ=some (MV (.int (y:Nat))))(e:x=y):tstD (MQ (.cmp .NotEq a b))=some (.ok false):=by
 have:=b_ne d c;rw[e,js]at this;exact j2 this
def Mk(t:Nr):run G T 100 59 54 [tT A,tT B,tT (PT A B n m p q "pair")]=some (.v (.bl true) false):=by
 have tA:=t.tA;have tB:=t.tB;have tP:=t.tP NK;have c:=yy t.flip;rw[←yz t]at c;rw[j9 rfl rfl];have b:∀{Y:on (on Int)},(FI Y).length<=5->(((FI Y).length:Nat):Int).natAbs<2^2000:=λ h=>T5 KE;have a:∀Y,(WI Y).length<=1000:=λ Y=>e9 (A5 _ _) MP
 let S:on Sv:=[.val (tT A),.val (tT B),.val (tT (PT A B n m p q "pair"))]
 have d:=JO (oH (K:=57) (δ:=S) (i:=2) tP rfl) (m_of (oH (δ:=S) (i:=0) tA rfl) (oH (δ:=S) (i:=1) tB rfl) (T5 (a A)) (T5 (a B)));rw[LS t,U4]at d;exact j7 (r9 (oK (oF tP rfl) (m_of (oF tA rfl) (oF tB rfl) (b tA.h1) (b tB.h1)) (yy t)) (r9 (oK (oG tP rfl) (m_of (oG tA rfl) (oG tB rfl) (b tA.h2) (b tB.h2)) c) (j1 (k5 d))))
def yK(R:Rect n m X)(h:∀r∈X,∀x∈r,0<=x/\x<=2)(M:∀x∈X.flatten,x<=1):O1 X n m:=λ i j d c=>by
 have h1:=C6 (by rw[R.1];exact d);have h2:=W6 (by rw[R.2 _ h1];exact c);have a:=h _ h1 _ h2;have b:=M _ (aD.mpr ⟨_,h1,h2⟩);show(X.getD i []).getD j 0=0\/(X.getD i []).getD j 0=1;omega
def Ml(t:Nr):run G T 100 59 55 [tT A,tT B,tT NJ]=some (.v (.bl true) false):=by
 have tA:=t.tA;have tB:=t.tB;have tP:=t.tP (.inr NK);obtain⟨n5,m5,p5,q5⟩:=t.sz;rw[j9 rfl rfl]
 let S:on Sv:=[.val (tT A),.val (tT B),.val (tT NJ)]
 have r1:=yJ tA;have r2:=yJ tB;have h1:=oK (oC (K:=54) (δ:=S) (i:=2) tP rfl) (m_of (oC (δ:=S) (i:=0) tA rfl) (oC (δ:=S) (i:=1) tB rfl) (T5 KE) (T5 KE)) (LX t);obtain⟨M,_,g,r⟩:=yq (i:=0) (j:=1) (S:=S) t rfl rfl;have h2:=b_gt r (g8 (i:=1));by_cases z:1<M
 ·rw[o6 z]at h2;exact j7 (r9 h1 (O6 (j2 h2) (j1 rfl)))
 ·rw[o5 z]at h2;have f:=yK t.RA t.WA λ x c=>by have:=g x (w6 _ c);omega
  have d:=yK t.RB t.WB λ x c=>by have:=g x (t8 _ c);omega
  have a1:=yI tA;have a2:=yI tB;have k:=b_lt (oI (K:=18) (δ:=S) (i:=2) tP rfl) (m_of (oI (δ:=S) (i:=0) tA rfl) (oI (δ:=S) (i:=1) tB rfl) (T5 KE) (T5 KE));have ta:=Mc t f d;rw[o5 KE]at k;obtain⟨u,u1,o,l⟩:=oJ (δ:=S) (i:=2) tP rfl;obtain⟨a,b1,y,w⟩:=oJ (K:=46) (δ:=S) (i:=0) tA rfl;obtain⟨b,d1,v,s⟩:=oJ (K:=46) (δ:=S) (i:=1) tB rfl;have h:evE G (run G T 100 58) (.cmp .LtE (Od 21 2) (.bin .Mult (Od 21 0) (.bi .len [.call 21 [.var 1,.int 1]]))) S=some (.ok (.bl (decide ((u:Int)<=((a*b:Nat):Int)))) .strong):=D6 l (m_of w s (T5 KE) (T5 KE)) rfl;have tc:=Md t f d o y v;rw[o6 KE]at h;exact j7 (r9 h1 (r9 (j2 h2) (r9 (j2 k) (j1 (k5 h)))))
abbrev lS(ns:on Int)(A B:MU)(m q:Nat)(x y:Sv):on Sv:=[.val (.scr ns),.val (tT A),.val (tT B),.val (MY ((vv1 jB m A+vv1 jB q B:Nat):Int)),.val (MY ((vv1 jE m A*vv1 jE q B:Nat):Int)),x,y]
noncomputable def lB:on MS:=[.set 6 false (.call 13 [.var 1,.var 2,.var 5]),.iff (.or [.cmp .Gt (MW 37 6) (.var 3),.cmp .Gt (MW 38 6) (.var 4)]) [.ret (.bl false)] [],.iff (NC 54 (.str "pair")) [.ret (.bl false)] [],.iff (NC 55 (.str "times")) [.ret (.bl false)] [],.iff (.and [.cmp .Eq (.var 5) (.str "parity"),.cmp .Gt (MW 43 6) (.bin .Add (MW 43 1) (MW 43 2))]) [.ret (.bl false)] []]
def oM(t:Nr)(a:Ru rule):evSs G (run G T 100 59) 100 lB (lS b A B m q (.val (.str rule)) y)=some (.nx (lS b A B m q (.val (.str rule)) (.val (tT (PT A B n m p q rule))))):=by
 have tP:=t.tP a
 let S:=lS b A B m q (.val (.str rule)) (.val (tT (PT A B n m p q rule)))
 have k:=b_gt (oA (K:=50) (δ:=S) (i:=6) tP rfl) (d5 (n:=3) (d:=.int ((vv1 jB m A+vv1 jB q B:Nat):Int)) rfl);have j:=b_gt (oB (K:=50) (δ:=S) (i:=6) tP rfl) (d5 (n:=4) (d:=.int ((vv1 jE m A*vv1 jE q B:Nat):Int)) rfl);have v1:vv1 jB (m*q) (PT A B n m p q rule)<=vv1 jB m A+(vv1 jB q B+0):=yx (J:=jB) NK LM t a;have l:=yx (J:=jE) (.inr rfl) LN t a;rw[Nat.mul_one]at l;rw[o5 KE]at k;rw[o5 KE]at j;have w:=or_f (r:=[]) k (or_1 j);have c:∀{s:Str} {f:Nat},rule=s->run G T 100 59 f [tT A,tT B,tT (PT A B n m p q s)]=some (.v (.bl true) false)->evE G (run G T 100 59) (.not (.call f [.var 1,.var 2,.var 6])) S=some (.ok (.bl false) .strong):=λ {s f} e h=>by subst e;exact fQ (g6 (fr:=false) (d7 (d5 (n:=1) (d:=tT A) rfl) (d7 (d5 (n:=2) (d:=tT B) rfl) (d7 (d5 (n:=6) (d:=tT (PT A B n m p q rule)) rfl) f7))) rfl h)
 have v:tstD (evE G (run G T 100 59) (NC 54 (.str "pair")) S)=some (.ok false):=by
  rcases a with z | z | z<;>subst z
  ·exact j2 (M9 (eq_s (t:=true) rfl Ng) (P5 (c rfl (Mk t))))
  ·exact j2 (P4 (eq_s (t:=false) rfl Ng))
  ·exact j2 (P4 (eq_s (t:=false) rfl Ng))
 have u:tstD (evE G (run G T 100 59) (NC 55 (.str "times")) S)=some (.ok false):=by
  rcases a with z | z | z<;>subst z
  ·exact j2 (P4 (eq_s (t:=false) rfl Ng))
  ·exact j2 (M9 (eq_s (t:=true) rfl Ng) (P5 (c rfl (Ml t))))
  ·exact j2 (P4 (eq_s (t:=false) rfl Ng))
 have o:tstD (evE G (run G T 100 59) (.and [.cmp .Eq (.var 5) (.str "parity"),.cmp .Gt (MW 43 6) (.bin .Add (MW 43 1) (MW 43 2))]) S)=some (.ok false):=by
  rcases a with z | z | z<;>subst z
  ·exact j2 (P4 (eq_s (t:=false) rfl Ng))
  ·exact j2 (P4 (eq_s (t:=false) rfl Ng))
  ·have g:=b_gt (oE (K:=55) (δ:=S) (i:=6) tP rfl) (E6 (oE (δ:=S) (i:=1) t.tA rfl) (oE (δ:=S) (i:=2) t.tB rfl));have:=LY t;rw[o5 KE]at g;exact j2 (M9 (eq_s (t:=true) rfl Ng) (P5 g))
 exact f9 (n6 (g6 (d7 (d5 rfl) (d7 (d5 rfl) (NL f7))) rfl (LI t a)) rfl) (r9 (j2 w) (r9 v (r9 u (r9 o rfl))))
end
def Mm(g:on Int)(h:g.length<=63):run G T 100 60 56 [.scr g]=some (.v (.bl true) false):=by
 obtain⟨n,m,p,q,A,B,t,e⟩:=Mj g h;rw[j9 rfl rfl];have s1:evS G (run G T 100 59) 100 (.sett [1,2] (MW 52 0)) [.val (.scr g),.no,.no,.no,.no,.no,.no]=some (.nx [.val (.scr g),.val (tT A),.val (tT B),.no,.no,.no,.no]):=by have c:=g6 (G:=G) (F:=run G T 100 59) (δ:=[.val (.scr g),.no,.no,.no,.no,.no,.no]) (f:=52) (fr:=true) (d7 (d5 (n:=0) (d:=.scr g) rfl) f7) rfl e;show Re.thnS [.val (.scr g),.no,.no,.no,.no,.no,.no] _ _=_;rw[c];rfl
 let S (a b:Sv):on Sv:=[.val (.scr g),.val (tT A),.val (tT B),a,b,.no,.no]
 have j:=E6 (oA (K:=50) (δ:=S .no .no) (i:=1) t.tA rfl) (oA (δ:=S .no .no) (i:=2) t.tB rfl);rw[←Int.natCast_add]at j;refine j7 (f9 s1 (f9 (n6 j rfl) (f9 (n6 (m_of (oB t.tA rfl) (oB t.tB rfl) (by rw[bZ];exact t.tA.e) (by rw[bZ];exact t.tB.e)) rfl) (D5 (δ':=lS g A B m q (.val (.str "parity")) (.val (tT (PT A B n m p q "parity")))) rfl (.inr rfl) ?_ (j1 rfl)))));exact(T3 rfl (oM t NK)).trans ((T3 rfl (oM t (.inr NK))).trans ((T3 rfl (oM t (.inr (.inr rfl)))).trans rfl))
open PySem.W PySem.Spec PyProof.Rows
def lnS(h:b.length=n+1):∃a r,b=a::r/\r.length=n:=by cases b with | nil=>cases h | cons a r=>exact⟨a,r,rfl,Nat.succ.inj h⟩
def ln0(h:a.length=0):a=[]:=iP.mp h
def ln1{α:Type}{us:on α}(h:us.length=1):∃a0,us=[a0]:=by obtain⟨_,_,rfl,h0⟩:=lnS h;obtain rfl:=ln0 h0;exact Nb
def ln2{α:Type}{us:on α}(h:us.length=2):∃a0 a1,us=[a0,a1]:=by obtain⟨_,_,rfl,h0⟩:=lnS h;obtain⟨_,_,rfl,h1⟩:=lnS h0;obtain rfl:=ln0 h1;exact⟨_,_,rfl⟩
def ln3{α:Type}{us:on α}(h:us.length=3):∃a0 a1 a2,us=[a0,a1,a2]:=by obtain⟨_,_,rfl,h0⟩:=lnS h;obtain⟨_,_,rfl,h1⟩:=lnS h0;obtain⟨_,_,rfl,h2⟩:=lnS h1;obtain rfl:=ln0 h2;exact⟨_,_,_,rfl⟩
def ln6{α:Type}{us:on α}(h:us.length=6):∃a0 a1 a2 a3 a4 a5,us=[a0,a1,a2,a3,a4,a5]:=by obtain⟨_,_,rfl,h0⟩:=lnS h;obtain⟨_,_,rfl,h1⟩:=lnS h0;obtain⟨_,_,rfl,h2⟩:=lnS h1;obtain⟨_,_,rfl,h3⟩:=lnS h2;obtain⟨_,_,rfl,h4⟩:=lnS h3;obtain⟨_,_,rfl,h5⟩:=lnS h4;obtain rfl:=ln0 h5;exact⟨_,_,_,_,_,_,rfl⟩
def fn:on Str:=fnl
def bl:on Str:=bll
def cl:on Str:=cll
def ok32:okD fn bl cl nj ["no","yes"] ["no","yes"] (top 48)=true:=by decide +kernel
def ok33:okD fn bl cl vz ["no","yes"] ["no","yes"] (top 49)=true:=by decide +kernel
def ok56:okD fn bl cl vG ["_law_script","_law_one","_law_other","_law_bits","_law_ends","_law_rule","_law_both"] ["_law_script"] (top 76)=true:=by decide +kernel
abbrev ck(P:Params)(x:Str)(f:Mq)(i:Nat)(dV pm:Mo)(cd:Mq):Prop:=(nsIn (kK P) mainGlobals x,(kK P).lookup f,codeIn (kK P) (.ref cd) x,keepIn (kK P) (.ref f))=(some (some (.ref f)),some (fo x i dV pm cd),true,true)
def ck4{P:Params}{x:Str}{f:Mq}{i:Nat}{dV pm:Mo}{cd:Mq}(q:ck P x f i dV pm cd):nsIn (kK P) mainGlobals x=some (some (.ref f))/\(kK P).lookup f=some (fo x i dV pm cd)/\codeIn (kK P) (.ref cd) x=true/\keepIn (kK P) (.ref f)=true:=by
 obtain⟨a,b⟩:=Prod.mk.inj q;obtain⟨b,c⟩:=Prod.mk.inj b;exact⟨a,b,Prod.mk.inj c⟩
def kN(P:Params):((kK P).map (·.1)).Nodup:=by rw[show(kK P).map (·.1)=zA by kernel_rfl];decide +kernel
def kM(P:Params):((u0 (kK P)).map (·.1)).Nodup:=by rw[show(u0 (kK P)).map (·.1)=kT.map (·.1) by kernel_rfl];decide +kernel
def zz(P:Params):bl.map (nsIn (kK P) mainGlobals)=bl.map λ _=>some none:=by kernel_rfl
abbrev zd(j:Nat):Rw:=zD.getD j ⟨"",0,0,0,0,false,0,0,0⟩
def sk{w:Mv}{h:Mr}{mg:Str->Mn Mo}(j:Nat){d:FD}(N:on Str)(X:(kK w.params).In h)(Ns:h.Ns mainGlobals mg)(ok:okD fn bl cl d N (N.take d.np) (top (zd j).i)=true:=by decide +kernel)(q:ck w.params (zd j).n ((zd j).c+1) (zd j).i .none (zP (zd j).m) (zd j).c:=by kernel_rfl)(hb:∀(kV doc pm:Mo) (an:Mn Mq) (cdv ct:Mo) (us:on Mo),us.length=(N.take d.np).length->bindArgs (fnOf (zd j).n (zd j).n (O3 (top (zd j).i)) (G9 (top (zd j).i)) (v3 (top (zd j).i)) .none kV doc pm an cdv ct) ⟨us,[]⟩=pure ((N.take d.np).zip us):=by(intro _ _ _ _ _ _ us hl;first | (obtain⟨_,rfl⟩:=ln1 hl;rfl) | (obtain⟨_,_,rfl⟩:=ln2 hl;rfl) | (obtain⟨_,_,_,rfl⟩:=ln3 hl;rfl) | (obtain⟨_,_,_,_,_,_,rfl⟩:=ln6 hl;rfl)))(dq:dqB (zd j).n=true:=by decide +kernel):Stands (kK w.params) mg fn bl cl d (zd j).n ((zd j).c+1) (fnOf (zd j).n (zd j).n (O3 (top (zd j).i)) (G9 (top (zd j).i)) (v3 (top (zd j).i)) .none .none .none (zP (zd j).m) none (.ref (zd j).c) .none) (N.take d.np):=by
 obtain⟨a,l,c,k⟩:=ck4 q;exact gK X Ns ok a l c k hb dq
open PySem.W
def all_mk{l:OpenLaw}{w:Mv}{h:Mr}{mg:Str->Mn Mo}{fa:Mq}(X:(kK w.params).In h)(Ns:h.Ns mainGlobals mg)(hfa:mg "law" = some (.ref fa)):∃fd:FuncData,(∀(s:Mp) (v:Mo),BindsTo s fd ⟨[v],[]⟩ [("_law_script",v)])/\∀base:Mr,(kK w.params).In base->base.Ns mainGlobals mg->FnOk l.prog w (kK w.params) mg base CX0 60 fa fd ["_law_script"] (spS (kK w.params)):=by
 obtain⟨a32,l32,c32,k32⟩:=ck4 (P:=w.params) (x:="joined_bits") (f:=269) (i:=48) (dV:=.none) (pm:=(.str "talkleast.parts" 493)) (cd:=268) (by kernel_rfl);have S32:=gK X Ns ok32 a32 l32 c32 k32 λ _ _ _ _ _ _ us hl=>by obtain⟨_,_,rfl⟩:=ln2 hl;rfl
 obtain⟨a33,l33,c33,k33⟩:=ck4 (P:=w.params) (x:="joined_ends") (f:=276) (i:=49) (dV:=.none) (pm:=(.str "talkleast.parts" 493)) (cd:=275) (by kernel_rfl);have S33:=gK X Ns ok33 a33 l33 c33 k33 λ _ _ _ _ _ _ us hl=>by obtain⟨_,_,rfl⟩:=ln2 hl;rfl
 obtain⟨a56,l56,c56,k56⟩:=ck4 (P:=w.params) (x:="law") (f:=419) (i:=76) (dV:=.none) (pm:=(.str "law_talkleast_k72_whole_put_together" 651)) (cd:=418) (by kernel_rfl);have S56:=gK X Ns ok56 a56 l56 c56 k56 λ _ _ _ _ _ _ us hl=>by obtain⟨_,rfl⟩:=ln1 hl;rfl
 have e:=hfa.symm.trans (mg_of X Ns a56);cases e;have HC:∀x d,G.con.lookup x=some d->∃u v,mg x=some u/\RelV v u/\∀H,Rep ⟨kK w.params,mg⟩ H d v:=by
  intro x d h;have g0:nsIn (kK w.params) mainGlobals "MOST_LINES" = some (some (.int 8 268)):=by kernel_rfl
  have g1:nsIn (kK w.params) mainGlobals "SMALL_LINES" = some (some (.int 5 270)):=by kernel_rfl
  exact gL ⟨_,.int _,mg_of X Ns g0,Nb,λ H=>v5.mpr rfl⟩ (gL ⟨_,.int _,mg_of X Ns g1,Nb,λ H=>v5.mpr rfl⟩ (gL ⟨_,.ref _,S32.mg,rfl,λ H=>gq.mpr ⟨_,rfl,S32.mg⟩⟩ (gL ⟨_,.ref _,S33.mg,rfl,λ H=>gq.mpr ⟨_,rfl,S33.mg⟩⟩ (Il)))) x d h
 have da:nsIn (kK w.params) mainGlobals "GREATEST_WORDS" = some (some (.ref 145)):=by kernel_rfl
 have dl:(kK w.params).lookup 145=some ⟨.type "dict",none,.dict #[en w.params "pair" 361 (.int 2 362),en w.params "times" 363 (.int 3 364)] 2,#[]⟩:=by kernel_rfl
 have dv0:nsIn (kK w.params) 145 "pair" = some (some (.int 2 362)):=by kernel_rfl
 have dv1:nsIn (kK w.params) 145 "times" = some (some (.int 3 364)):=by kernel_rfl
 have dv2:nsIn (kK w.params) 145 "parity" = some none:=by kernel_rfl
 have HD:∃a es n,G.gk=[]\/DictK (kK w.params) w mg G.gk a es n:=⟨_,_,_,.inr ⟨mg_of X Ns da,dl,⟨⟨_,_,rfl,rfl⟩,⟨_,_,rfl,rfl⟩,trivial⟩,by decide,mW dv0 rfl (λ _ e=>by cases e;exact Nb) (mW dv1 rfl (λ _ e=>by cases e;exact Nb) (mW dv2 rfl (λ _ e=>by cases e) (Im)))⟩⟩;have HSS:HS (kK w.params) mg fn bl cl T fn:=(k6 (sk 0 ["thing","least","most"] X Ns) (k6 (Oa 1) (k6 (sk 2 ["table","rows","columns"] X Ns) (k6 (sk 3 ["cards","size"] X Ns) (k6 (sk 4 ["cards"] X Ns) (k6 (sk 5 ["table","rows","columns"] X Ns) (k6 (Oa 6) (k6 (Oa 7) (k6 (Oa 8) (k6 (sk 9 ["table","rest"] X Ns) (k6 (Oa 10) (k6 (sk 11 ["table","words","row"] X Ns) (k6 (sk 12 ["height","width","rule"] X Ns) (k6 (sk 13 ["one","other","rule","tall","wide","height","width"] X Ns) (k6 (sk 14 ["rule","a","b"] X Ns) (k6 (sk 15 ["table","word","columns","entries","row"] X Ns) (k6 (sk 16 ["table","entries","first","later","taken","passed"] X Ns) (k6 (sk 17 ["table","one","other","word"] X Ns) (k6 (sk 18 ["table","word","found","rows","columns"] X Ns) (k6 (sk 19 ["table","rows","word","inside"] X Ns) (k6 (sk 20 ["table","columns","word","inside"] X Ns) (k6 (sk 21 ["table","word","blocks","bare","most","cover"] X Ns) (k6 (sk 22 ["table","word","blocks","entries","row","words"] X Ns) (k6 (sk 23 ["blocks","entry"] X Ns) (k6 (sk 24 ["block","entry"] X Ns) (k6 (sk 25 ["bare","block"] X Ns) (k6 (sk 26 ["bare","blocks","most","block","others"] X Ns) (k6 (Oa 27) (k6 (Oa 28) (k6 (sk 29 ["numbers"] X Ns) (k6 (Oa 30) (k6 (Oa 31) (k6 S32 (k6 S33 (k6 (sk 34 ["table","ground","joined","rest","numbers","rows","columns","ways"] X Ns) (k6 (sk 35 ["rows","columns","by_rows","by_columns"] X Ns) (k6 (sk 36 ["cards"] X Ns) (k6 (Oa 37) (k6 (Oa 38) (k6 (Oa 39) (k6 (sk 40 ["lines","found","kept","index","line","rest"] X Ns) (k6 (sk 41 ["line","kept","rest","other","place","taken"] X Ns) (k6 (sk 42 ["line"] X Ns) (k6 (Oa 43) (k6 (Oa 44) (k6 (sk 45 ["lines"] X Ns) (k6 (sk 46 ["lines","kept","index","line","rest"] X Ns) (k6 (sk 47 ["line","kept","left","taken","index","rest","makers"] X Ns) (k6 (sk 0 ["thing","least","most"] X Ns) (k6 (sk 48 ["_law_script","_law_k"] X Ns) (k6 (sk 49 ["_law_cell","_law_many_here","_law_found","_law_rest","_law_k","_law_number","_law_mixed"] X Ns) (k6 (sk 50 ["_law_script","_law_start","_law_many_here","_law_wide","_law_top","_law_xs","_law_words","_law_k"] X Ns) (k6 (sk 51 ["_law_script","_law_xs","_law_rows","_law_columns","_law_top","_law_one"] X Ns) (k6 (sk 52 ["_law_some"] X Ns) (k6 (sk 53 ["_law_one","_law_other","_law_both"] X Ns) (k6 (sk 54 ["_law_one","_law_other","_law_both"] X Ns) (k6 S56 Ij)))))))))))))))))))))))))))))))))))))))))))))))))))))))));refine⟨_,λ s v=>.of_eq rfl,λ base _ _=>Io (T:=T) (G:=G) (fu:=100) rfl HSS (λ x hx=>mg_none_of X Ns (List.map_inj_left.mp (zz _) x hx)) HD HC (i:=56) rfl rfl S56 (λ _=>⟨⟨rfl,rfl,rfl⟩,by decide,λ i d x qual st fa fd _ _ _ F=>Ir (K:=kK w.params) (by kernel_rfl) F⟩) Mm⟩
end k72
open PySem PySem.W PyProof.Rows
set_option maxRecDepth 100000 in
set_option maxHeartbeats 0 in
theorem PySem.Challenge.cw_talkleast_k72_whole_put_together_holds : PySem.Challenge.rw_talkleast_k72_whole_put_together.Holds := by
 refine holds_law (by kernel_rfl) λ said => ?_
 refine holds_open (q := k72.kQ) (loose := k72.kL) (Xt := λ s => xlAt k72.kQ [] s && recOk Nz s) (XP := XL k72.kQ []) (Yf := (kHook k72.kAll k72.zB k72.kE).obs) (Ya := (kHook k72.kAll k72.zB k72.kE).val) (YP := (kHook k72.kAll k72.zB k72.kE).says) (N := 5440) k72.kLeft (kHook k72.kAll k72.zB k72.kE).of (kHook k72.kAll k72.zB k72.kE).keeps (λ s e => xl_of s (C7.mp e).1) XL.keeps (by rfl) (by rfl) (by rfl) (λ s e => recFacts_of (C7.mp e).2) (by rfl) said Ng ⟨rfl, rfl, rfl, rfl, rfl, by decide +kernel⟩ ?hw ?hc
 case hw => w_witness2
 exact L2.walkE (l := PySem.Challenge.rw_talkleast_k72_whole_put_together) (k := 60) (p := "_law_script") rfl rfl ⟨rfl, by decide, by decide⟩ (λ w h Y => (L2.in_app (kIn_of Y) (by kernel_rfl)).1) (λ w h Y => ⟨L2.htb_of (T := k72.kT) (L2.in_app (kIn_of Y) (by kernel_rfl)).1 (L2.in_app (kIn_of Y) (by kernel_rfl)).2 (k72.kN _) (by kernel_rfl), k72.kM _⟩) λ w mg fa h KX G hmg => k72.all_mk KX G hmg
end

import PyProof.Rows.All
import Wide.All
import OpenK.AllK
import Wide.FinOn
import Lean
import PyProof.EqAt
import PyProof.EqKinds
import PyProof.TupleCall
import PyProof.ExcAttrAll.ValueError
import PyProof.ZipIter
import PyProof.TupleIter
import PyProof.P3In
import PyProof.Rows.SeqMore2
import PyProof.FactsAll.tuple_3
import PyProof.FactsAll.list_3
import PyProof.Rows.Range3
import KE.KRevIter
import PyProof.Rows.FactsT2
import PySem.Builtin.Int.W1All
import KE.KSortAsk
import PyProof.SetScanFacts
import PyProof.SetKind
import PyProof.DictKinds
import PyProof.DictStraight
import PyProof.Rows.SetFrom
import PyProof.CollectWalk
import PyProof.Seq
import PyProof.DictIter
import PyProof.Rows.Tup
import PyProof.FactsAll.set_1
import PyProof.FactsAll.set_2
import PyProof.Rows.SortWalk
import PyProof.ConsumeWalk
import PyProof.Rows.SumAny
import PySem.Syntax
import PySem.Eval
import KE.KLam
import PyProof.StrWalks
import PyProof.StrOps
import PyProof.StrCalls2
import PyProof.StrLawsTight
import PyProof.StrLawsFirst
import PyProof.StrLawsChain
import PyProof.StrLawsIn
import PyProof.Rows.StrJoin2
import PyProof.Rows.StrItems
import PyProof.CallStr
import KE.KIntText
import PyProof.SliceStr2
import PyProof.StrLaws
import PyProof.StrLawsIdx
import PyProof.DictTable
import PyProof.ListRange
import PyProof.EnumMake
import PyProof.DictItems
import PyProof.DictItemsLoops
import PyProof.MeetsDict
import PyProof.DictWalks
import PyProof.RulesTry
import PyProof.Rows.SortShell
import KE.KDictSum
import KE.KPairComp
import PySem.Challenge.RW_talkleast_k86_questions_refused
set_option compiler.extract_closed false
set_option genSizeOf false
set_option genInjectivity false
set_option bootstrap.genMatcherCode false
set_option Elab.async false
set_option linter.all false
set_option maxRecDepth 100000
set_option maxHeartbeats 4000000
section
open PySem PySem.Spec PyProof.Rows
abbrev ge:=@List
abbrev EC:=@Option
abbrev ED:=@Value
abbrev EF:=@Shared
abbrev EG:=@Addr
abbrev EH:=@Heap
abbrev EI:=@Expr
abbrev EJ:=@Array
abbrev EK:=@World
abbrev EL:=@Program
abbrev EM:=@Around
abbrev EN:=@Stmt
abbrev EO:=@FuncData
abbrev EQ:=@PySem.W.Frag
abbrev ER:=@Scope
abbrev ES:=@Arguments
abbrev ET:=@SetTable
abbrev EU:=@String
abbrev EV:=@Params
abbrev g6:=@wpAny_bind
abbrev g9:=@Bool.and_eq_true
abbrev i5:=@Heap.get?_push_of_some
abbrev i9:=@List.getElem?_set_ne
abbrev i0:=@wpAny_pure
abbrev i1:=@beq_iff_eq
abbrev i6:=@List.mem_cons
abbrev j7:=@Option.map_eq_some_iff
abbrev m7:=@Option.bind_eq_some_iff
abbrev n7:=@List.getElem?_eq_some_iff
abbrev j6:=@List.mem_cons_of_mem
abbrev i8:=@Heap.lt_size
abbrev k6:=@Heap.get?_push_size
abbrev o4:=@List.getElem?_eq_getElem
abbrev j0:=@Nat.le_refl
abbrev m9:=@Bool.not_eq_true'
abbrev o9:=@beq_eq_false_iff_ne
abbrev o8:=@List.mem_cons_self
abbrev i3:=@if_pos
abbrev q5:=@Nat.lt_of_lt_of_le
abbrev u8:=@List.mem_append_left
abbrev q9:=@List.mem_singleton
abbrev j5:=@Nat.ne_of_lt
abbrev o5:=@List.length_cons
abbrev r9:=@List.size_toArray
abbrev i4:=@if_neg
abbrev n8:=@List.length_map
abbrev y8:=@List.mem_append_right
abbrev A4:=@List.getElem?_set_self
abbrev u9:=@List.getElem?_map
abbrev k7:=@wpAny_mono
abbrev A5:=@Array.length_toList
abbrev v3:=@List.append_nil
abbrev o6:=@Nat.le_trans
abbrev v5:=@Option.some.inj
abbrev v6:=@List.length_set
abbrev v7:=@Bool.or_eq_true
abbrev y9:=@List.all_eq_true
abbrev x5:=@List.mem_append
abbrev B6:=@Bool.false_ne_true
abbrev B7:=@List.length_append
abbrev F4:=@Option.isSome_iff_exists
abbrev x6:=@decide_eq_true
abbrev t4:=@wpAny_field
abbrev C9:=@PySem.mem_of_lookup
abbrev E7:=@Array.getElem?_toList
abbrev E8:=@List.contains_iff_mem
abbrev x8:=@wpAny_holding
abbrev A0:=@Heap.size_push
abbrev B8:=@List.lookup_cons
abbrev A8:=@decide_eq_false
abbrev F5:=@Bool.and_eq_true_iff
abbrev K5:=@wpAny_callSpecial?_slot
abbrev M8:=@Array.getElem?_eq_getElem
abbrev K6:=@Heap.get?_update_self
abbrev E9:=@List.mem_filter
abbrev P0:=@List.getElem?_append_left
abbrev F6:=@wpAny_call_entry
abbrev F7:=@List.not_mem_nil
abbrev I0:=@wpAny_newObj_type
abbrev J0:=@decide_eq_true_eq
abbrev M9:=@List.mem_of_getElem?
abbrev P3:=@Heap.get?_update_other
abbrev K7:=@wpAny_setField_rec
abbrev P4:=@Array.getElem?_eq_none
abbrev N0:=@Heap.SameBut.update
abbrev P5:=@List.getElem?_eq_none
abbrev W4:=@List.getElem?_append_right
abbrev W5:=@List.getD_eq_getElem?_getD
abbrev N1:=@List.mem_filterMap
abbrev P6:=@Bool.or_eq_false_iff
abbrev E2:=@Nat.zero_le
abbrev P7:=@PySem.W.hideAll_get
abbrev N2:=@Nat.lt_succ_of_lt
abbrev J1:=@wpAny_setField
abbrev Z6:=@Array.getD_eq_getD_getElem?
abbrev W6:=@List.length_eq_zero_iff
abbrev J2:=@List.map_cons
abbrev G6:=@List.mem_map
abbrev J3:=@List.any_cons
abbrev P8:=@wpAny_pyIter_list
abbrev P9:=@Int.toNat_natCast
abbrev Z7:=@List.drop_eq_getElem_cons
abbrev S8:=@wpAny_pyIter_tuple
abbrev Q0:=@Nat.lt_succ_self
abbrev J4:=@codeAny_mono
abbrev S9:=@wpAny_Call_Name_kw
abbrev T4:=@Obj.data_mapFields
abbrev T5:=@List.pairwise_cons
abbrev K8:=@wpAny_attempt
abbrev W7:=@Around.under_plainId
abbrev N3:=@wpAny_seqItems
abbrev F8:=@bne_iff_ne
abbrev Z8:=@List.getElem?_replicate
abbrev Q2:=@codeAny_builtin
abbrev W8:=@List.replicate_succ
abbrev N4:=@Nat.lt_irrefl
abbrev T6:=@List.length_take
abbrev T7:=@List.cons_append
abbrev T9:=@Nat.le_add_right
abbrev Z9:=@List.take_append_drop
abbrev N5:=@Nat.ne_of_gt
abbrev U0:=@List.nodup_cons
abbrev U1:=@List.mem_range
abbrev W9:=@List.getElem_mem
abbrev cF:=@PyProof.Rows.callWith_type1
abbrev X0:=@wpAny_passesOwn
abbrev aO:=@List.length_replicate
abbrev aP:=@Obj.isFreed_of_fields
abbrev X1:=@Option.map_some
abbrev aQ:=@wpAny_loadPart'
abbrev U2:=@wpAny_standAt
abbrev cG:=@F.slot_tuple_iterator_next
abbrev G7:=@or_false
abbrev ac:=@List.flatten_cons
abbrev ae:=@List.append_assoc
abbrev af:=@wpAny_setState_of
abbrev ag:=@List.length_range
abbrev aR:=@Heap.get?_none_of_le
abbrev aS:=@Calls.evalArgs_plain
abbrev ah:=@wpAny_askSetting
abbrev aT:=@wpAny_setEntries_of
abbrev X2:=@plainId_quiet
abbrev ai:=@wpAny_execs_nil
abbrev aU:=@PySem.W.callWith_K
abbrev Q4:=@wpAny_rule
abbrev aV:=@Bool.false_eq_true
abbrev aj:=@PySem.W.kia_one
abbrev cH:=@PySem.W.cellsFrom_some
abbrev cI:=@Calls.callWith_builtin
abbrev aW:=@wpAny_truthy_bool
abbrev aX:=@of_decide_eq_true
abbrev X3:=@Nat.le_of_lt
abbrev cJ:=@List.length_singleton
abbrev cK:=@List.mem_iff_getElem?
abbrev cL:=@F.slot_enumerate_next
abbrev aY:=@wpAny_isInstance
abbrev E3:=@ne_eq
abbrev K9:=@Iff.rfl
abbrev cM:=@List.filterMap_cons
abbrev cN:=@Array.toList_append
abbrev fA:=@List.getElem?_zip_eq_some
abbrev cO:=@PySem.W.of_hideAll
abbrev cP:=@Calls.spliced_cons
abbrev cQ:=@List.getElem?_drop
abbrev X4:=@typeIs_str
abbrev fB:=@F.plain_set_update_loop
abbrev cR:=@Calls.spliced_nil
abbrev cS:=@wpAny_loadPart_at
abbrev ak:=@Nat.le_succ
abbrev cT:=@List.length_drop
abbrev cU:=@List.drop_length
abbrev cV:=@List.isEmpty_iff
abbrev jP:=@PyProof.Rows.slot_tuple_getitem
abbrev cW:=@List.of_mem_zip
abbrev al:=@call_meets
abbrev cX:=@List.nil_append
abbrev fC:=@List.mem_of_mem_drop
abbrev fD:=@List.mem_of_mem_take
abbrev fE:=@codeAny_call_builtin
abbrev fF:=@wpAny_updateSeq_pair
abbrev cY:=@F.slot_zip_next
abbrev aZ:=@Nat.lt_or_ge
abbrev fG:=@PySem.W.plainGet_of
abbrev fH:=@List.getElem?_range
abbrev fI:=@List.getElem_of_mem
abbrev fJ:=@ne_true_of_eq_false
abbrev jQ:=@F.args_tuple_iterator_next_1
abbrev cZ:=@isSubtype_stop
abbrev de:=@wpAny_fieldsOf
abbrev ba:=@sizeLine_eq
abbrev bc:=@wpAny_of_eq
abbrev jR:=@F.entry_tuple_iterator_next
abbrev fK:=@F.args_str_split_2
abbrev jS:=@Calls.Name_function_global
abbrev jT:=@Int.fdiv_eq_ediv_of_nonneg
abbrev dg:=@wpAny_handled
abbrev dh:=@wpAny_onRaise
abbrev di:=@List.cons.inj
abbrev dm:=@strLen_append
abbrev fL:=@List.take_sublist
abbrev fM:=@Obj.cls_mapFields
abbrev fN:=@fits_of_scanBound
abbrev fO:=@List.ext_getElem?
abbrev fP:=@F.entry_str_split
abbrev fQ:=@List.map_inj_left
abbrev be:=@wpAny_load
abbrev bf:=@wpAny_call
abbrev jU:=@List.pairwise_iff_getElem
abbrev jV:=@Option.isNone_iff_eq_none
abbrev fR:=@wpAny_execs_cons
abbrev jW:=@List.getElem?_take_of_lt
abbrev jX:=@PySem.F.args_tuple_add_2
abbrev fS:=@Nat.le_of_not_lt
abbrev fT:=@beq_self_eq_true
abbrev fU:=@wpAny_comp_letGo
abbrev jY:=@PySem.F.slot_tuple_index
abbrev fV:=@F.slot_str_split
abbrev jZ:=@PySem.F.entry_tuple_add
abbrev ka:=@PySem.F.slot_list_index
abbrev ke:=@F.entry_set_update_loop
abbrev kh:=@PySem.F.plainAttrs_list
abbrev ki:=@List.getElem?_cons_succ
abbrev kj:=@F.args_enumerate_next_1
abbrev fW:=@List.forIn_cons
abbrev fX:=@pushCells_keeps
abbrev fY:=@wpAny_looks_onW
abbrev fZ:=@List.length_nil
abbrev gb:=@wpAny_ite_split
abbrev gc:=@boot_isinstance
abbrev kq:=@wpAny_pyNext_list_item
abbrev kr:=@PySem.F.slot_tuple_add
abbrev ku:=@subscriptTail_builtinR
abbrev ky:=@wpAny_Call_method_late
abbrev kz:=@PySem.W.funFrames_hide
abbrev dq:=@wpAny_letGo
abbrev dr:=@Nat.log2_lt
abbrev kD:=@F.entry_enumerate_next
abbrev kI:=@List.drop_eq_nil_of_le
abbrev du:=@Prod.mk.inj
abbrev kJ:=@wpAny_pyNext_list_end
abbrev kP:=@codeAny_handlers_test
abbrev gf:=@wpAny_runValue
abbrev kR:=@builtinLookup_eq_fast
abbrev gh:=@isSubtype_type
abbrev kS:=@PySem.W.methodCall_KW
abbrev gi:=@List.drop_drop
abbrev gj:=@wpAny_typeOf
abbrev dw:=@eq_of_beq
abbrev gk:=@wpAny_landsW
abbrev gm:=@Sem.wp_throw
abbrev gn:=@Nat.zero_add
end
noncomputable section
noncomputable section
namespace L2
open PySem
noncomputable def z0(s:EN):ES:=match s with
 | .FunctionDef _ a _ _ _ _ _ _ _ _=>a
 | _=>{posonlyargs:=[],args:=[],vararg:=none,kwonlyargs:=[],kw_defaults:=[],kwarg:=none,defaults:=[]}
noncomputable def t6(s:EN):ge EN:=match s with
 | .FunctionDef _ _ b _ _ _ _ _ _ _=>b
 | _=>[]
noncomputable def j4(s:EN):ER:=match s with
 | .FunctionDef _ _ _ _ _ _ sc _ _ _=>sc
 | _=>{kind:=.function,names:=[],isGenerator:=false,isCoroutine:=false}
end L2
namespace L2
open PySem PySem.W PyProof.Rows
noncomputable def bg(tb:EU->EC Builtin)(p:EL)(w:EK)(n₀:Nat)(ann:EC ED):Nat->SharedT->Thread->EC SharedT
 | 0,_,_=>none
 | n+1,s,t=>match through t with
  | true=>some s
  | false=>match stepOk n₀ ann t with
   | false=>none
   | true=>match stepT (denote tb) p w s t with
    | some (s',t')=>bg tb p w n₀ ann n s' t'
    | none=>none
theorem kU:∀{n:Nat} {s c:SharedT} {t:Thread},bg tb p w a b n s t=some c->topRun tb p w a b n s.abs t=some c.abs
 | 0,_,_,_,h=>by cases h
 | n+1,s,c,t,h=>by
  unfold bg at h;unfold topRun;cases g:through t with
  | true=>rw[g]at h;cases h;rfl
  | false=>
   rw[g]at h;cases i:stepOk a b t with
   | false=>rw[i]at h;cases h
   | true=>
    rw[i]at h;cases d:stepT _ p w s t with
    | none=>rw[d]at h;cases h
    | some q=>
     obtain⟨f,e⟩:=q;rw[d]at h;rw[stepT_spec d];exact kU h
noncomputable def evs:ge Obj->ge Obj
 | a::_::r=>a::evs r
 | l=>l
noncomputable def ods:ge Obj->ge Obj
 | _::b::r=>b::ods r
 | _=>[]
def A9:Nat->ge Obj->BT
 | k+1,o::r=>.node o (A9 k (evs r)) (A9 k (ods r))
 | _,_=>.nil
abbrev sT(T:BT)(n k:Nat)(d:Drawn)(os:OsState):SharedT:=⟨T,n,{},#[],d,k,os⟩
theorem qR{Ta T1 T2 T3:EV->BT}{K n:Nat}{H₀ H₁:EV->EH}(a:EU)
  (j:∀w:EK,(fencedOpening treeTable p w N).map (λ s=>(s.heap,s.gens,s.drawn,s.toks))=some (H₀ w.params,#[],d,i))
  (m:∀w:EK,((H₀ w.params).isNs mainGlobals,(H₀ w.params).objs.size,(H₀ w.params).nsMap mainGlobals "__annotations__")=(true,f,g))
  (B:∀(w:EK) (c:OsState),topGo treeTable p w f g y ⟨H₀ w.params,#[],d,i,c⟩ (topStub p)=some ((sT (Ta w.params) o r d c).abs,⟨denote treeTable (.body (behindTheImports p) env),.body (behindTheImports p) env,z,[topFrame z]⟩))
  (F:∀(w:EK) (c:OsState),segRunT treeTable p w f g 1 1 (sT (Ta w.params) o r d c) (blockOf (behindTheImports p) env (.body (behindTheImports p) env) z [topFrame z])=some (.next,sT (Ta w.params) o r d c,.body (behindTheImports p) env,z))
  (S:∀(w:EK) (c:OsState),segRunT treeTable p w f g 1 x (sT (Ta w.params) o r d c) (piecesOf ((behindTheImports p).take H) env (.body (behindTheImports p) env) z [topFrame z])=some (.next,sT (T1 w.params) K k1 d c,.body (behindTheImports p) env,p1))
  (R:∀(w:EK) (c:OsState),segRunT treeTable p w f g 1 v (sT (T1 w.params) K k1 d c) (piecesOf (((behindTheImports p).drop H).take O) env (.body (behindTheImports p) env) p1 [topFrame z])=some (.next,sT (T2 w.params) J k2 d c,.body (behindTheImports p) env,p2))
  (Q:∀(b:Bool) (w:EK) (c:OsState),segRunT treeTable p (w.withFollow a b) f g 1 u (sT (T2 (w.withFollow a b).params) J k2 d c) (piecesOf (((behindTheImports p).drop H).drop O) env (.body (behindTheImports p) env) p2 [topFrame z])=some (.next,sT (T3 (w.withFollow a b).params) n k3 d c,.body (behindTheImports p) env,p3))
  (fin:∀(w:EK) (c:OsState),bg treeTable p w f g 9 (sT (T3 w.params) n k3 d c) ⟨doneF .next,.body (behindTheImports p) env,p3,[topFrame z]⟩=some (sT (T3 w.params) n k3 d c))
  (le:y+(1+(x+(v+(u+9))))<=N) (Y:∀P:EV,absHeap (T3 P) n {} = H₁ P)
  (X:∀(w:EK) (c:OsState),(staticsOk (importedModules p.main.body) (H₀ w.params) (H₁ w.params)&&namesBound p (H₁ w.params)&&gensDone ⟨H₁ w.params,#[],d,k3,c⟩&&laidKept (H₀ w.params) (H₁ w.params))=true)
  (W:∀(w:EK) (c:OsState),openSeen q loose (importedModules p.main.body) Xt E ⟨H₁ w.params,#[],d,k3,c⟩=openGood q loose)
  (U:∀(w:EK) (c:OsState),Yf ⟨H₁ w.params,#[],d,k3,c⟩=Ya w):LeftO p q loose Xt Yf Ya N E:=λ w=>by
 have C:∀b,(openEnds treeTable p (w.withFollow a b) N).map (λ s=>(openSeen q loose (importedModules p.main.body) Xt E s,Yf s))=some (openGood q loose,Ya (w.withFollow a b)):=λ b=>by
  obtain⟨⟨h,Z,l,k,c⟩,e,e'⟩:=j7.mp (j (w.withFollow a b));obtain⟨rfl,rfl,rfl,rfl⟩:h=H₀ (w.withFollow a b).params/\Z = #[]/\l=d/\k=i:=by simpa using e'
  obtain⟨z1,z2,z3⟩:_/\_/\_:=by simpa only[Prod.mk.injEq]using m (w.withFollow a b)
  have c3:=piece_app (rest:=[]) (segRun_of (Q b w c)) (piece_nil (kU (fin (w.withFollow a b) c)));rw[v3]at c3;have L:=piece_app (segRun_of (R (w.withFollow a b) c)) c3;rw[Z9]at L;have M:=piece_app (segRun_of (S (w.withFollow a b) c)) L;rw[Z9]at M;have c0:=go_top (B (w.withFollow a b) c) (piece_block (segRun_of (F (w.withFollow a b) c)) M);have A:=topRun_mono (N - (y+(1+(x+(v+(u+9)))))) _ _ _ _ c0;rw[show y+(1+(x+(v+(u+9))))+_=N by omega]at A;have e3:(sT (T3 (w.withFollow a b).params) n k3 l c).abs=⟨H₁ (w.withFollow a b).params,#[],l,k3,c⟩:=(by rw[←Y];rfl);rw[e3]at A;have t:topFrom treeTable p (w.withFollow a b) N ⟨H₀ (w.withFollow a b).params,#[],l,k,c⟩=some ⟨H₁ (w.withFollow a b).params,#[],l,k3,c⟩:=by unfold topFrom;dsimp only;rw[z1,z2,z3,A];show(match staticsOk _ _ _&&namesBound p _&&gensDone ⟨H₁ (w.withFollow a b).params,#[],l,k3,c⟩&&laidKept _ (H₁ (w.withFollow a b).params)with | true=>_ | false=>_)=_;rw[X (w.withFollow a b) c]
  unfold openEnds;rw[e];show(topFrom treeTable p (w.withFollow a b) N _).map _=_;rw[t];exact congrArg some (Prod.ext (W (w.withFollow a b) c) (U (w.withFollow a b) c))
 have:=C (w.params.followText a);rw[World.withFollow_self]at this;exact this
end L2
namespace k86
open PySem PySem.W L2 PySem.Spec PyProof.Rows
noncomputable def top(i:Nat):EN:=PySem.Challenge.pw_talkleast_k86_questions_refused.main.body.getD i (.Pass ⟨0,0,0,0⟩)
noncomputable def cbod(s:EN):ge EN:=match s with
 | .ClassDef _ _ _ b _ _ _ _ _ _ _=>b
 | _=>[]
def meth(j:Nat):EN:=(cbod (top 107)).getD j (.Pass ⟨0,0,0,0⟩)
def fo(n:Str)(i:Nat)(dV pm:ED)(cd:EG):Obj:=⟨.type "function",none,.func (fnOf n n (z0 (top i)) (t6 (top i)) (j4 (top i)) dV .none .none pm none (.ref cd) .none),#[]⟩
def fm(n q:Str)(j:Nat)(pm:ED)(cd:EG):Obj:=⟨.type "function",none,.func (fnOf n q (z0 (meth j)) (t6 (meth j)) (j4 (meth j)) .none .none .none pm none (.ref cd) .none),#[]⟩
noncomputable def en(P:EV)(s:Str)(t:Nat)(v:ED):DictEntry:=⟨PyData.keyHash P s,.str s t,v⟩
noncomputable def co(n:Str)(t:Nat)(ln na fl:Int)(a b c d e:ED)(q:Int)(r:Nat):Obj:=⟨.type "code",none,.fields #[.str n t,.str n (t+1),.str "/claim/cut.py" (t+2),.int ln 0,.int na 0,.int 0 0,.int 0 0,.int fl 0,a,.bool true,.int 181 0,b,.none,c,d,e,.int q 0,.int ln 0,.str "/claim/cut.py" r],#[]⟩
def kG(P:EV):ge DictEntry:=let e:=λ n t a=>en P n t (.ref a);[en P "__doc__" 166 .none,en P "__package__" 167 .none,en P "__loader__" 168 (.builtin "__main__.__loader__#opaque"),en P "__spec__" 169 .none,e "__annotations__" 170 6,e "__builtins__" 171 4,en P "__file__" 173 (.str "/claim/cut.py" 172),en P "__cached__" 174 .none,e "TalkError" 206 24,e "NoTable" 222 37,e "NoCard" 238 49,e "NoPlan" 254 61,e "NoWord" 270 73,e "TooGreat" 286 85,e "NoText" 302 97,e "NoAsk" 318 109,e "is_int" 329 118,en P "MOST_LINES" 333 (.int 8 332),en P "GREATEST_WORD" 335 (.int 9 334),en P "SMALL_LINES" 337 (.int 5 336),e "made_table" 343 123,e "is_line" 350 130,e "is_row" 356 135,e "flipped" 362 140,e "cut" 371 147,e "check_cards" 379 154,e "check_card" 387 161,e "cards_in" 393 166,e "crossing" 399 171,e "row_kinds" 405 176,e "column_kinds" 412 183,e "trimmed" 419 190,e "is_small" 427 197,e "check_small" 434 204,e "words_in" 443 211,e "codes" 451 216,e "alone_bits" 460 224,e "lines_of" 468 231,e "digits" 474 236,e "apart" 482 241,e "most_apart" 488 246,e "keep_apart" 498 253,e "widest" 511 260,e "columns_with" 517 265,e "rows_with" 523 270,e "fewest_cover" 537 277,e "entries_by_choice" 543 282,e "blocks_with" 549 287,e "contains" 557 294,e "left_bare" 563 299,e "cover_within" 574 306,e "bits_paper" 583 313,e "ends_paper" 590 320,e "paper" 596 325,e "bits_numbers" 603 332,e "ends_numbers" 610 339,e "joined_bits" 618 346,e "joined_ends" 626 353,e "least_numbers" 632 358,e "splits" 638 363,e "halves" 644 368,e "least_bits" 653 375,e "fewest_ends" 660 382,e "least_plan" 667 389,e "plan_by" 681 396,e "sets_of_kinds" 687 401,e "widened" 693 406,e "rank" 702 413,e "base_lines" 708 418,e "reduced" 714 423,e "leading_place" 720 428,e "run" 731 435,e "way" 744 442,e "reached" 753 449,e "settles" 765 456,en P "GREATEST_MODULUS" 769 (.int 10 768),en P "MOST_BITS" 771 (.int 3 770),e "alike" 778 463,e "less" 786 470,e "sums" 797 478,e "shared" 804 485,e "pick" 811 492,e "check_number" 820 499,e "ruled" 826 504,en P "MOST_ASKS_DEEP" 830 (.int 12 829),en P "MOST_ASKS" 832 (.int 300 831),en P "ALL_CARDS" 834 (.int 255 833),e "made_plan" 841 511,e "is_plan" 849 518,e "is_end" 856 525,e "is_ask" 863 532,e "is_tuple" 871 539,e "is_text" 879 546,e "outcomes_of" 886 553,en P "DIGITS" 890 (.str "0123456789" 889),e "show_table" 896 558,e "read_table" 902 563,e "table_named" 908 568,e "read_number" 914 573,e "show_plan" 920 578,e "read_plan" 929 585,e "Reader" 1017 651,e "rank_in_twos" 1026 662,e "lines_in_twos" 1032 667,e "base_indexes" 1038 672,e "kept_lines" 1049 679,e "reduced_in_twos" 1062 686,e "FORMS" 1106 687,e "ask" 1112 704,e "read_as" 1120 711,e "read_digit" 1127 718,e "answer_of_table" 1135 725,e "answer_of_several" 1143 732,e "answer_of_run" 1149 737,e "_law_cell_at" 1159 744,e "_law_no_asks" 1166 751,e "_law_no_texts" 1173 758,e "_law_deeds" 1179 763,e "_law_refused" 1185 768,e "law" 1191 773]
def kg(P:EV)(m:Nat)(v:ED):Obj:=⟨.type "dict",none,.dict (en P "__name__" 165 v::(kG P).take m).toArray (m+1),#[]⟩
noncomputable def kf(l:ge (Nat×Nat)):Obj:=⟨.none,none,.fields (l.flatMap λ q=>[.int q.1 0,.int 0 0,.ref q.2]).toArray,#[]⟩
noncomputable def kt:Obj:=⟨.type "tuple",none,.seq #[] 0,#[]⟩
noncomputable def kv(l:ge Str)(t:Nat):Obj:=⟨.type "tuple",none,.seq ((l.zipIdx t).map λ q=>.str q.1 q.2).toArray 0,#[]⟩
def kd(n q:Str)(s:EN)(a t ln na:Nat)(m dV:ED)(vs us:ge Str):ge Obj:=let v:=vs.isEmpty;let c:=if v then a+2 else a+4;let l:=vs.length+us.length;kt::kf []::(if v then[]else[kv vs (t+3),kv us (t+3+vs.length)])++[⟨.none,none,.func ⟨n,q,z0 s,.stmts (t6 s),j4 s,0,[],.none,.none,.none,.none,none,.none,.none,0⟩,#[]⟩,⟨.type "code",none,.fields #[.str n t,.str q (t+1),.str "/claim/cut.py" (t+2),.int ln 0,.int na 0,.int 0 0,.int 0 0,.int 3 0,.ref a,.bool true,.int 181 0,.ref (a+1),.none,if v then .none else .ref (a+2),if v then .none else .ref (a+3),.ref c,.int (t+3+l:Nat) 0,.int ln 0,.str "/claim/cut.py" (t+4+l)],#[]⟩,⟨.type "function",none,.func (fnOf n q (z0 s) (t6 s) (j4 s) dV .none .none m none (.ref (c+1)) .none),#[]⟩]
noncomputable def kcd(n:Str)(t ln a:Nat):Obj:=⟨.type "code",none,.fields #[.str n t,.str n (t+1),.str "/claim/cut.py" (t+2),.int ln 0,.int 0 0,.int 0 0,.int 0 0,.int 0 0,.ref a,.bool false,.int 181 0,.ref (a+1),.none,.none,.none,.none,.int (t+3:Nat) 0,.int ln 0,.str "/claim/cut.py" (t+4)],#[]⟩
noncomputable def kbp:Obj:=⟨.type "builtin_function_or_method",none,.fields #[.builtin "type.__prepare__",.type "type"],#[]⟩
noncomputable def km:ED:=.str "talkleast.errors" 187
def kcl(P:EV)(n:Str)(a t ln:Nat):ge Obj:=[⟨.type "tuple",none,.seq #[.ref 24] 0,#[]⟩,kbp,⟨.type "dict",none,.dict #[en P "__module__" (t+7) km,en P "__qualname__" (t+9) (.str n (t+8)),en P "__firstlineno__" (t+11) (.int ln (t+10)),en P "__static_attributes__" (t+12) (.ref (a+7))] 4,#[]⟩,kt,kf [],kcd n (t+2) ln (a+3),⟨.type "frame",none,.plain,#[some (.ref (a+5)),some (.ref 3),some (.ref (a+2)),none,some km,none,some (.ref 0)]⟩,kt,⟨.type "dict",none,.dict #[en P "__module__" (t+7) km,en P "__firstlineno__" (t+11) (.int ln (t+10)),en P "__static_attributes__" (t+12) (.ref (a+7)),en P "__doc__" (t+13) .none] 2,#[]⟩,⟨.type "type",none,.cls ⟨n,[.ref 24],[.ref (a+9),.ref 24,.type "ValueError",.type "Exception",.type "BaseException",.type "object"],a+8,n,true,[],[],false,none,false⟩,#[some (.ref a),none,some (.str n t),some (.str n (t+8)),some (.builtin "ValueError.__new__"),some (.bool true)]⟩,⟨.type "super",none,.fields #[.ref (a+9),.ref (a+9),.ref (a+9)],#[]⟩,⟨.type "builtin_function_or_method",none,.fields #[.builtin "object.__init_subclass__",.ref (a+9)],#[]⟩]
def k0(P:EV)(g h:Obj):ge Obj:=(boot_heap P).objs.toList.set 3 g++[kt,h,kcd "<module>" 182 1 11,⟨.type "frame",none,.plain,#[some (.ref 13),some (.ref 3),some (.ref 3),none,some (.str "__main__" 164),none,some (.ref 0)]⟩]
noncomputable def kC:ge (Nat×Nat):=[(2,20),(4,33),(6,45),(8,57),(10,69),(12,81),(14,93),(16,105),(19,117),(25,122),(31,129),(33,134),(35,139),(37,146),(41,153),(44,160),(47,165),(49,170),(51,175),(53,182),(55,189),(57,196),(60,203),(63,210),(69,215),(74,223),(76,230),(78,235),(81,240),(88,245),(96,252),(102,259),(109,264),(112,269),(116,276),(126,281),(131,286),(133,293),(135,298),(137,305),(148,312),(150,319),(152,324),(154,331),(156,338),(158,345),(160,352),(162,357),(174,362),(178,367),(181,374),(183,381),(185,388),(187,395),(200,400),(202,405),(205,412),(207,417),(216,422),(223,427),(226,434),(230,441),(239,448),(241,455),(250,462),(253,469),(257,477),(262,484),(265,491),(268,498),(271,503),(277,510),(283,517),(287,524),(289,531),(293,538),(295,545),(297,552),(303,557),(305,562),(314,567),(328,572),(332,577),(340,584),(351,591),(405,661),(407,666),(409,671),(411,678),(418,685),(428,703),(439,710),(445,717),(449,724),(465,731),(473,736),(476,743),(480,750),(485,757),(491,762),(499,767),(510,772)]
def kCl(P:EV):ge Obj:=[⟨.type "tuple",none,.seq #[.type "ValueError"] 0,#[]⟩,kbp,⟨.type "dict",none,.dict #[en P "__module__" 196 (.str "talkleast.errors" 187),en P "__qualname__" 198 (.str "TalkError" 197),en P "__firstlineno__" 200 (.int 2 199),en P "__static_attributes__" 201 (.ref 22)] 4,#[]⟩,kt,kf [],⟨.type "code",none,.fields #[.str "TalkError" 191,.str "TalkError" 192,.str "/claim/cut.py" 193,.int 2 0,.int 0 0,.int 0 0,.int 0 0,.int 0 0,.ref 18,.bool false,.int 181 0,.ref 19,.none,.none,.none,.none,.int 194 0,.int 2 0,.str "/claim/cut.py" 195],#[]⟩,⟨.type "frame",none,.plain,#[some (.ref 20),some (.ref 3),some (.ref 17),none,some (.str "talkleast.errors" 187),none,some (.ref 0)]⟩,kt,⟨.type "dict",none,.dict #[en P "__module__" 196 (.str "talkleast.errors" 187),en P "__firstlineno__" 200 (.int 2 199),en P "__static_attributes__" 201 (.ref 22),en P "__weakref__" 203 (.ref 25),en P "__doc__" 204 .none] 3,#[]⟩,⟨.type "type",none,.cls ⟨"TalkError",[.type "ValueError"],[.ref 24,.type "ValueError",.type "Exception",.type "BaseException",.type "object"],23,"TalkError",true,[],[.ref 37,.ref 49,.ref 61,.ref 73,.ref 85,.ref 97,.ref 109],false,none,false⟩,#[some (.ref 15),none,some (.str "TalkError" 189),some (.str "TalkError" 197),some (.builtin "ValueError.__new__"),some (.bool true)]⟩,⟨.type "getset_descriptor",none,.fields #[.str "__weakref__" 202,.ref 24,.builtin "ExceptionGroup.__weakref__",.none],#[]⟩,⟨.type "super",none,.fields #[.ref 24,.ref 24,.ref 24],#[]⟩,⟨.type "builtin_function_or_method",none,.fields #[.builtin "object.__init_subclass__",.ref 24],#[]⟩]++(kcl P "NoTable" 28 207 4++(kcl P "NoCard" 40 223 6++(kcl P "NoPlan" 52 239 8++(kcl P "NoWord" 64 255 10++(kcl P "TooGreat" 76 271 12++(kcl P "NoText" 88 287 14++(kcl P "NoAsk" 100 303 16)))))))
noncomputable def km0:ED:=.str "talkleast.checks" 319
noncomputable def km1:ED:=.str "talkleast.tables" 330
noncomputable def km2:ED:=.str "talkleast.alone" 444
noncomputable def km3:ED:=.str "talkleast.apart" 475
noncomputable def km4:ED:=.str "talkleast.blocks" 499
noncomputable def km5:ED:=.str "talkleast.covers" 524
noncomputable def km6:ED:=.str "talkleast.parts" 575
noncomputable def km7:ED:=.str "talkleast.least" 645
noncomputable def km8:ED:=.str "talkleast.ranks" 694
noncomputable def km9:ED:=.str "talkleast.runs" 721
noncomputable def km10:ED:=.str "talkleast.named" 766
noncomputable def km11:ED:=.str "talkleast.plans" 827
noncomputable def km12:ED:=.str "talkleast.texts" 887
noncomputable def km13:ED:=.str "talkleast.twos" 1018
noncomputable def km14:ED:=.str "talkleast.asks" 1063
noncomputable def km15:ED:=.str "law_talkleast_k86_questions_refused" 1150
def kF(P:EV):ge DictEntry:=[en P "show" 1065 (.ref 688),en P "trim" 1067 (.ref 689),en P "bits" 1069 (.ref 690),en P "ends" 1071 (.ref 691),en P "cover" 1073 (.ref 692),en P "apart" 1076 (.ref 693),en P "rank" 1079 (.ref 694),en P "twos" 1081 (.ref 695),en P "alone" 1083 (.ref 696),en P "run" 1085 (.ref 697),en P "settles" 1089 (.ref 698),en P "plan" 1092 (.ref 699)]
def kx(n:Str)(i a t ln na:Nat)(m:ED)(vs:ge Str):ge Obj:=kd n n (top i) a t ln na m .none vs []
def kD1:ge Obj:=kx "is_int" 10 112 321 19 3 km0 ["thing","least","most"]++(kx "made_table" 15 119 338 25 1 km1 []++(kx "is_line" 16 124 344 31 1 km1 ["thing"]++(kx "is_row" 17 131 351 33 1 km1 []++(kx "flipped" 18 136 357 35 1 km1 []++(kx "cut" 19 141 363 37 3 km1 ["table","rows","columns"]++(kx "check_cards" 20 148 372 41 2 km1 ["cards","size"]++(kx "check_card" 21 155 380 44 2 km1 ["card","size"]++(kx "cards_in" 22 162 388 47 1 km1 []++(kx "crossing" 23 167 394 49 3 km1 []++(kx "row_kinds" 24 172 400 51 1 km1 []++(kx "column_kinds" 25 177 406 53 1 km1 ["table"]++(kx "trimmed" 26 184 413 55 1 km1 ["table"]++(kx "is_small" 27 191 420 57 1 km1 ["table","rest"]++(kx "check_small" 28 198 428 60 1 km1 ["table"]++(kx "words_in" 29 205 435 63 1 km1 ["table","words","row"]++(kx "codes" 31 212 446 69 2 km2 []++([⟨.type "tuple",none,.seq #[.str "row" 452] 0,#[]⟩]++kd "alone_bits" "alone_bits" (top 32) 218 453 74 2 km2 (.ref 217) ["table","side"] []++(kx "lines_of" 33 225 461 76 2 km2 ["table","side"]++(kx "digits" 34 232 469 78 2 km2 []++(kx "apart" 36 237 477 81 2 km3 []++(kx "most_apart" 37 242 483 88 2 km3 []++(kx "keep_apart" 38 247 489 96 3 km3 ["table","one","other","word"]++(kx "widest" 40 254 501 102 2 km4 ["table","word","found","rows","columns"]++(kx "columns_with" 41 261 512 109 3 km4 []++(kx "rows_with" 42 266 518 112 3 km4 []++(kx "fewest_cover" 44 271 526 116 2 km5 ["table","word","blocks","bare","most","cover"]++(kx "entries_by_choice" 45 278 538 126 3 km5 []++(kx "blocks_with" 46 283 544 131 2 km5 []++(kx "contains" 47 288 550 133 2 km5 ["block","entry"]++(kx "left_bare" 48 295 558 135 2 km5 []++(kx "cover_within" 49 300 564 137 3 km5 ["bare","blocks","most","block","others"]++(kx "bits_paper" 51 307 577 148 1 km6 ["table"]++(kx "ends_paper" 52 314 584 150 1 km6 ["table"]++(kx "paper" 53 321 591 152 1 km6 []++(kx "bits_numbers" 54 326 597 154 1 km6 ["table"]++(kx "ends_numbers" 55 333 604 156 1 km6 ["table"]++(kx "joined_bits" 56 340 611 158 2 km6 ["no","yes"]++(kx "joined_ends" 57 347 619 160 2 km6 ["no","yes"]++(kx "least_numbers" 58 354 627 162 3 km6 []++(kx "splits" 59 359 633 174 2 km6 []++(kx "halves" 60 364 639 178 1 km6 []++(kx "least_bits" 62 369 647 181 1 km7 ["table"]++(kx "fewest_ends" 63 376 654 183 1 km7 ["table"]++(kx "least_plan" 64 383 661 185 1 km7 ["table"]++(kd "plan_by" "plan_by" (top 65) 390 668 187 3 km7 .none ["table","numbers","joined"] ["numbers","joined","own","plan_of","rest"]++(kx "sets_of_kinds" 66 397 682 200 1 km7 []++(kx "widened" 67 402 688 202 2 km7 []++(kx "rank" 69 407 696 205 1 km8 ["table"]++(kx "base_lines" 70 414 703 207 1 km8 []++(kx "reduced" 71 419 709 216 2 km8 []++(kx "leading_place" 72 424 715 223 1 km8 []++(kx "run" 74 429 723 226 3 km9 ["plan","row","column"]++(kx "way" 75 436 732 230 3 km9 ["plan","row","column","bits","place","card","bit"]++(kx "reached" 76 443 745 239 3 km9 ["plan","row","column"]++(kx "settles" 77 450 754 241 2 km9 ["plan","table","row","words","column","word"])))))))))))))))))))))))))))))))))))))))))))))))))))))))
def kD2(P:EV):ge Obj:=kx "alike" 81 457 772 250 1 km10 ["n"]++(kx "less" 82 464 779 253 2 km10 ["n","m"]++([⟨.type "tuple",none,.seq #[.int 2 787] 0,#[]⟩]++kd "sums" "sums" (top 83) 472 788 257 3 km10 (.ref 471) ["n","m","k"] ["k"]++(kx "shared" 84 479 798 262 1 km10 ["n"]++(kx "pick" 85 486 805 265 1 km10 ["n"]++(kx "check_number" 86 493 812 268 3 km10 ["number","least","most"]++(kx "ruled" 87 500 821 271 3 km10 []++(kx "made_plan" 92 505 835 277 1 km11 ["thing"]++(kx "is_plan" 93 512 842 283 2 km11 ["thing","deep"]++(kx "is_end" 94 519 850 287 1 km11 ["thing"]++(kx "is_ask" 95 526 857 289 1 km11 ["thing"]++(kx "is_tuple" 96 533 864 293 2 km11 ["thing","size"]++(kx "is_text" 97 540 872 295 2 km11 ["thing","text"]++(kx "outcomes_of" 98 547 880 297 1 km11 ["plan"]++(kx "show_table" 101 554 891 303 1 km12 []++(kx "read_table" 102 559 897 305 1 km12 []++(kx "table_named" 103 564 903 314 1 km12 []++(kx "read_number" 104 569 909 328 1 km12 []++(kx "show_plan" 105 574 915 332 1 km12 []++(kx "read_plan" 106 579 921 340 1 km12 ["text","reader","plan"]++([kt,kbp,⟨.type "dict",none,.dict #[en P "__module__" 937 (.str "talkleast.texts" 887),en P "__qualname__" 939 (.str "Reader" 938),en P "__firstlineno__" 941 (.int 351 940),en P "__init__" 949 (.ref 599),en P "sign" 956 (.ref 606),en P "at_digit" 963 (.ref 613),en P "take" 971 (.ref 620),en P "take_digit" 979 (.ref 627),en P "take_plan" 990 (.ref 634),en P "take_side" 997 (.ref 641),en P "take_cards" 1007 (.ref 648),en P "__static_attributes__" 1010 (.ref 649)] 12,#[]⟩,kt,⟨.none,none,.fields #[.int 353 0,.int 4 0,.ref 598,.int 357 0,.int 4 0,.ref 605,.int 360 0,.int 4 0,.ref 612,.int 363 0,.int 4 0,.ref 619,.int 368 0,.int 4 0,.ref 626,.int 375 0,.int 4 0,.ref 633,.int 387 0,.int 4 0,.ref 640,.int 394 0,.int 4 0,.ref 647],#[]⟩,⟨.type "code",none,.fields #[.str "Reader" 932,.str "Reader" 933,.str "/claim/cut.py" 934,.int 351 0,.int 0 0,.int 0 0,.int 0 0,.int 0 0,.ref 589,.bool false,.int 181 0,.ref 590,.none,.none,.none,.none,.int 935 0,.int 351 0,.str "/claim/cut.py" 936],#[]⟩,⟨.type "frame",none,.plain,#[some (.ref 591),some (.ref 3),some (.ref 588),none,some (.str "talkleast.texts" 887),none,some (.ref 0)]⟩]++(kd "__init__" "Reader.__init__" (meth 0) 593 942 353 2 km12 .none ["self","text"] []++(kd "sign" "Reader.sign" (meth 1) 600 950 357 1 km12 .none ["self"] []++(kd "at_digit" "Reader.at_digit" (meth 2) 607 957 360 1 km12 .none ["self"] []++(kd "take" "Reader.take" (meth 3) 614 964 363 2 km12 .none ["self","wanted"] []++(kd "take_digit" "Reader.take_digit" (meth 4) 621 972 368 1 km12 .none ["self","digit"] []++(kd "take_plan" "Reader.take_plan" (meth 5) 628 980 375 1 km12 .none ["self","side","cards","no","yes"] []++(kd "take_side" "Reader.take_side" (meth 6) 635 991 387 1 km12 .none ["self"] []++(kd "take_cards" "Reader.take_cards" (meth 7) 642 998 394 1 km12 .none ["self","last","cards","card"] []++([⟨.type "tuple",none,.seq #[.str "place" 1008,.str "text" 1009] 0,#[]⟩,⟨.type "dict",none,.dict #[en P "__module__" 937 (.str "talkleast.texts" 887),en P "__firstlineno__" 941 (.int 351 940),en P "__init__" 949 (.ref 599),en P "sign" 956 (.ref 606),en P "at_digit" 963 (.ref 613),en P "take" 971 (.ref 620),en P "take_digit" 979 (.ref 627),en P "take_plan" 990 (.ref 634),en P "take_side" 997 (.ref 641),en P "take_cards" 1007 (.ref 648),en P "__static_attributes__" 1010 (.ref 649),en P "__dict__" 1012 (.ref 652),en P "__weakref__" 1014 (.ref 653),en P "__doc__" 1015 .none] 4,#[]⟩,⟨.type "type",none,.cls ⟨"Reader",[.type "object"],[.ref 651,.type "object"],650,"Reader",true,[],[],false,none,false⟩,#[none,none,some (.str "Reader" 930),some (.str "Reader" 938),some (.builtin "object.__new__"),some (.bool true)]⟩,⟨.type "getset_descriptor",none,.fields #[.str "__dict__" 1011,.ref 651,.builtin "function.__dict__",.builtin "function.__dict__#set"],#[]⟩,⟨.type "getset_descriptor",none,.fields #[.str "__weakref__" 1013,.ref 651,.builtin "ExceptionGroup.__weakref__",.none],#[]⟩,⟨.type "super",none,.fields #[.ref 651,.ref 651,.ref 651],#[]⟩,⟨.type "builtin_function_or_method",none,.fields #[.builtin "object.__init_subclass__",.ref 651],#[]⟩]++(kx "rank_in_twos" 109 656 1020 405 1 km13 ["table"]++(kx "lines_in_twos" 110 663 1027 407 1 km13 []++(kx "base_indexes" 111 668 1033 409 1 km13 []++(kx "kept_lines" 112 673 1039 411 1 km13 ["lines","kept","index","line","rest"]++(kx "reduced_in_twos" 113 680 1050 418 2 km13 ["line","kept","left","taken","index","rest","makers"]++([⟨.type "dict",none,.dict (kF P).toArray 12,#[]⟩,kv ["TABLE"] 1066,kv ["TABLE"] 1068,kv ["TABLE"] 1070,kv ["TABLE"] 1072,kv ["TABLE","WORD"] 1074,kv ["TABLE","WORD"] 1077,kv ["TABLE"] 1080,kv ["TABLE"] 1082,kv ["TABLE"] 1084,kv ["PLAN","CARD","CARD"] 1086,kv ["PLAN","TABLE"] 1090,kv ["TABLE"] 1093]++(kx "ask" 116 700 1107 428 1 km14 []++(kx "read_as" 117 705 1113 439 2 km14 ["form","word"]++(kx "read_digit" 118 712 1121 445 1 km14 ["word"]++(kx "answer_of_table" 119 719 1128 449 2 km14 ["name","table"]++(kx "answer_of_several" 120 726 1136 465 2 km14 ["name","things"]++(kx "answer_of_run" 121 733 1144 473 1 km14 []++(kx "_law_cell_at" 123 738 1152 476 2 km15 ["_law_script","_law_k"]++(kx "_law_no_asks" 124 745 1160 480 0 km15 ["_law_some"]++(kx "_law_no_texts" 125 752 1167 485 0 km15 ["_law_some"]++(kx "_law_deeds" 126 759 1174 491 0 km15 []++(kx "_law_refused" 127 764 1180 499 2 km15 []++(kx "law" 128 769 1186 510 1 km15 [])))))))))))))))))))))))))))))))))))))))))))))))
def kS0(P:EV):ge Obj:=k0 P (kg P 8 (.str "__main__" 164)) (kf (kC.take 0))
def kS1(P:EV):ge Obj:=k0 P (kg P 16 (.str "talkleast.errors" 187)) (kf (kC.take 8))++kCl P
def kS2(P:EV):ge Obj:=k0 P (kg P 77 (.str "talkleast.named" 766)) (kf (kC.take 64))++(kCl P++kD1)
def kS3(P:EV):ge Obj:=k0 P (kg P 120 (.str "law_talkleast_k86_questions_refused" 1150)) (kf (kC.take 102))++(kCl P++(kD1++kD2 P))
noncomputable def kA:ge EG:=[2,3,23,24,25,36,37,48,49,60,61,72,73,84,85,96,97,108,109,117,118,122,123,129,130,134,135,139,140,160,161,165,166,170,171,175,176,182,183,189,190,196,197,203,204,240,241,276,277,312,313,319,320,324,325,331,332,338,339,345,346,352,353,357,358,374,375,381,382,388,389,395,396,412,413,417,418,422,423,427,428,434,435,441,442,462,463,469,470,471,477,478,484,485,491,492,498,499,503,504,510,511,517,518,524,525,531,532,538,539,545,546,552,553,562,563,567,568,572,573,577,578,584,585,598,599,605,606,612,613,619,620,626,627,633,634,640,641,647,648,650,651,652,653,687,688,689,690,691,692,693,694,695,696,697,698,699,703,704,710,711,717,718,724,725,731,732,736,737,743,744,750,751,757,758,762,763,767,768,772,773]
def kK(P:EV):Frag:=kA.map λ a=>(a,(kS3 P).getD a kt)
noncomputable def kT:Frag:=[(113,⟨.none,none,.fields #[],#[]⟩),(120,⟨.none,none,.fields #[],#[]⟩),(125,⟨.none,none,.fields #[],#[]⟩),(132,⟨.none,none,.fields #[],#[]⟩),(137,⟨.none,none,.fields #[],#[]⟩),(156,⟨.none,none,.fields #[],#[]⟩),(163,⟨.none,none,.fields #[],#[]⟩),(168,⟨.none,none,.fields #[],#[]⟩),(173,⟨.none,none,.fields #[],#[]⟩),(178,⟨.none,none,.fields #[],#[]⟩),(185,⟨.none,none,.fields #[],#[]⟩),(192,⟨.none,none,.fields #[],#[]⟩),(199,⟨.none,none,.fields #[],#[]⟩),(238,⟨.none,none,.fields #[],#[]⟩),(272,⟨.none,none,.fields #[],#[]⟩),(308,⟨.none,none,.fields #[],#[]⟩),(315,⟨.none,none,.fields #[],#[]⟩),(322,⟨.none,none,.fields #[],#[]⟩),(327,⟨.none,none,.fields #[],#[]⟩),(334,⟨.none,none,.fields #[],#[]⟩),(341,⟨.none,none,.fields #[],#[]⟩),(348,⟨.none,none,.fields #[],#[]⟩),(355,⟨.none,none,.fields #[],#[]⟩),(370,⟨.none,none,.fields #[],#[]⟩),(377,⟨.none,none,.fields #[],#[]⟩),(384,⟨.none,none,.fields #[],#[]⟩),(391,⟨.none,none,.fields #[],#[]⟩),(408,⟨.none,none,.fields #[],#[]⟩),(415,⟨.none,none,.fields #[],#[]⟩),(420,⟨.none,none,.fields #[],#[]⟩),(425,⟨.none,none,.fields #[],#[]⟩),(430,⟨.none,none,.fields #[],#[]⟩),(437,⟨.none,none,.fields #[],#[]⟩),(458,⟨.none,none,.fields #[],#[]⟩),(465,⟨.none,none,.fields #[],#[]⟩),(473,⟨.none,none,.fields #[],#[]⟩),(480,⟨.none,none,.fields #[],#[]⟩),(487,⟨.none,none,.fields #[],#[]⟩),(494,⟨.none,none,.fields #[],#[]⟩),(501,⟨.none,none,.fields #[],#[]⟩),(506,⟨.none,none,.fields #[],#[]⟩),(513,⟨.none,none,.fields #[],#[]⟩),(520,⟨.none,none,.fields #[],#[]⟩),(527,⟨.none,none,.fields #[],#[]⟩),(534,⟨.none,none,.fields #[],#[]⟩),(541,⟨.none,none,.fields #[],#[]⟩),(548,⟨.none,none,.fields #[],#[]⟩),(560,⟨.none,none,.fields #[],#[]⟩),(565,⟨.none,none,.fields #[],#[]⟩),(570,⟨.none,none,.fields #[],#[]⟩),(575,⟨.none,none,.fields #[],#[]⟩),(580,⟨.none,none,.fields #[],#[]⟩),(594,⟨.none,none,.fields #[],#[]⟩),(601,⟨.none,none,.fields #[],#[]⟩),(608,⟨.none,none,.fields #[],#[]⟩),(615,⟨.none,none,.fields #[],#[]⟩),(622,⟨.none,none,.fields #[],#[]⟩),(629,⟨.none,none,.fields #[],#[]⟩),(636,⟨.none,none,.fields #[],#[]⟩),(643,⟨.none,none,.fields #[],#[]⟩),(701,⟨.none,none,.fields #[],#[]⟩),(706,⟨.none,none,.fields #[],#[]⟩),(713,⟨.none,none,.fields #[],#[]⟩),(720,⟨.none,none,.fields #[],#[]⟩),(727,⟨.none,none,.fields #[],#[]⟩),(734,⟨.none,none,.fields #[],#[]⟩),(739,⟨.none,none,.fields #[],#[]⟩),(746,⟨.none,none,.fields #[],#[]⟩),(753,⟨.none,none,.fields #[],#[]⟩),(760,⟨.none,none,.fields #[],#[]⟩),(765,⟨.none,none,.fields #[],#[]⟩),(770,⟨.none,none,.fields #[],#[]⟩)]
def kAll(P:EV):Frag:=kT++kK P
noncomputable def kB:ge EG:=[113,120,125,132,137,156,163,168,173,178,185,192,199,238,272,308,315,322,327,334,341,348,355,370,377,384,391,408,415,420,425,430,437,458,465,473,480,487,494,501,506,513,520,527,534,541,548,560,565,570,575,580,594,601,608,615,622,629,636,643,701,706,713,720,727,734,739,746,753,760,765,770,2,3,23,24,25,36,37,48,49,60,61,72,73,84,85,96,97,108,109,117,118,122,123,129,130,134,135,139,140,160,161,165,166,170,171,175,176,182,183,189,190,196,197,203,204,240,241,276,277,312,313,319,320,324,325,331,332,338,339,345,346,352,353,357,358,374,375,381,382,388,389,395,396,412,413,417,418,422,423,427,428,434,435,441,442,462,463,469,470,471,477,478,484,485,491,492,498,499,503,504,510,511,517,518,524,525,531,532,538,539,545,546,552,553,562,563,567,568,572,573,577,578,584,585,598,599,605,606,612,613,619,620,626,627,633,634,640,641,647,648,650,651,652,653,687,688,689,690,691,692,693,694,695,696,697,698,699,703,704,710,711,717,718,724,725,731,732,736,737,743,744,750,751,757,758,762,763,767,768,772,773]
theorem kE:∀P,kB=(kAll P).map (·.1):=λ _=>by kernel_rfl
noncomputable def kQ:EL:=view PySem.Challenge.pw_talkleast_k86_questions_refused [1,2,3,4,5,6,7,8,10,12,13,14,15,16,17,18,19,20,21,22,23,24,25,26,27,28,29,31,33,34,36,37,38,40,41,42,44,45,46,47,48,49,51,52,53,54,55,56,57,58,59,60,62,63,64,65,66,67,69,70,71,72,74,75,76,77,79,80,81,82,84,85,86,87,89,90,91,92,93,94,95,96,97,98,100,101,102,103,104,105,106,107,109,110,111,112,113,115,116,117,118,119,120,121,123,124,125,126,127,128]
noncomputable def kL:ge Str:=[("alone_bits" : Str),("sums" : Str),("FORMS" : Str)]
abbrev kp:EL:=PySem.Challenge.pw_talkleast_k86_questions_refused
noncomputable def kann:EC ED:=some (.ref 6)
noncomputable def kenv:Env:={scope:=kp.main.scope,locals:=mainNs,globals:=mainNs,cells:=[],code:=.ref 13,frame:=some 14}
abbrev kb:ge EN:=behindTheImports kp
abbrev kc:Code:=.body kb kenv
set_option maxHeartbeats 0 in
theorem kr0(w:EK)(os:OsState):topGo treeTable kp w 11 kann 12 ⟨boot_heap w.params,#[],boot_drawn,boot_toks,os⟩ (topStub kp)=some ((sT (A9 11 (kS0 w.params)) 15 187 boot_drawn os).abs,⟨denote treeTable kc,kc,⟨0,0,0,0⟩,[topFrame ⟨0,0,0,0⟩]⟩):=by kernel_rfl
set_option maxHeartbeats 0 in
theorem krb(w:EK)(os:OsState):segRunT treeTable kp w 11 kann 1 1 (sT (A9 11 (kS0 w.params)) 15 187 boot_drawn os) (blockOf kb kenv kc ⟨0,0,0,0⟩ [topFrame ⟨0,0,0,0⟩])=some (.next,sT (A9 11 (kS0 w.params)) 15 187 boot_drawn os,kc,⟨0,0,0,0⟩):=by kernel_rfl
set_option maxHeartbeats 0 in
theorem kr1(w:EK)(os:OsState):segRunT treeTable kp w 11 kann 1 1687 (sT (A9 11 (kS0 w.params)) 15 187 boot_drawn os) (piecesOf (kb.take 9) kenv kc ⟨0,0,0,0⟩ [topFrame ⟨0,0,0,0⟩])=some (.next,sT (A9 11 (kS1 w.params)) 112 319 boot_drawn os,kc,⟨16,0,17,8⟩):=by kernel_rfl
set_option maxHeartbeats 0 in
theorem kr2(w:EK)(os:OsState):segRunT treeTable kp w 11 kann 1 1751 (sT (A9 11 (kS1 w.params)) 112 319 boot_drawn os) (piecesOf ((kb.drop 9).take 72) kenv kc ⟨16,0,17,8⟩ [topFrame ⟨0,0,0,0⟩])=some (.next,sT (A9 11 (kS2 w.params)) 457 772 boot_drawn os,kc,⟨249,0,249,9⟩):=by kernel_rfl
set_option maxHeartbeats 0 in
theorem qS(w:EK)(os:OsState):segRunT treeTable kp (w.withFollow "special-get-raises" false) 11 kann 1 1811 (sT (A9 11 (kS2 (w.withFollow "special-get-raises" false).params)) 457 772 boot_drawn os) (piecesOf ((kb.drop 9).drop 72) kenv kc ⟨249,0,249,9⟩ [topFrame ⟨0,0,0,0⟩])=some (.next,sT (A9 11 (kS3 (w.withFollow "special-get-raises" false).params)) 774 1192 boot_drawn os,kc,⟨510,0,518,93⟩):=by kernel_rfl
set_option maxHeartbeats 0 in
theorem qU(w:EK)(os:OsState):segRunT treeTable kp (w.withFollow "special-get-raises" true) 11 kann 1 1811 (sT (A9 11 (kS2 (w.withFollow "special-get-raises" true).params)) 457 772 boot_drawn os) (piecesOf ((kb.drop 9).drop 72) kenv kc ⟨249,0,249,9⟩ [topFrame ⟨0,0,0,0⟩])=some (.next,sT (A9 11 (kS3 (w.withFollow "special-get-raises" true).params)) 774 1192 boot_drawn os,kc,⟨510,0,518,93⟩):=by kernel_rfl
set_option maxHeartbeats 0 in
theorem krf(w:EK)(os:OsState):bg treeTable kp w 11 kann 9 (sT (A9 11 (kS3 w.params)) 774 1192 boot_drawn os) ⟨doneF .next,kc,⟨510,0,518,93⟩,[topFrame ⟨0,0,0,0⟩]⟩=some (sT (A9 11 (kS3 w.params)) 774 1192 boot_drawn os):=by kernel_rfl
def kH(P:EV):EH:=⟨(kS3 P).toArray,{}⟩
abbrev kZ(P:EV)(os:OsState):EF:=⟨kH P,#[],boot_drawn,1192,os⟩
abbrev kO(w:EK)(os:OsState):=openSeen kQ kL (importedModules kp.main.body) (λ s=>xlAt kQ [] s&&recOk (RowW.records (OpenRow.toRowW (OpenLaw.row PySem.Challenge.rw_talkleast_k86_questions_refused))) s) true (kZ w.params os)
set_option maxHeartbeats 0 in
theorem krh(P:EV):absHeap (A9 11 (kS3 P)) 774 {} = kH P:=by kernel_rfl
set_option maxHeartbeats 0 in
theorem kl1(w:EK)(os:OsState):(staticsOk (importedModules kp.main.body) (boot_heap w.params) (kH w.params)&&namesBound kp (kH w.params)&&gensDone (kZ w.params os)&&laidKept (boot_heap w.params) (kH w.params))=true:=by kernel_rfl
set_option maxHeartbeats 0 in
theorem kl2a(w:EK)(os:OsState):(kO w os).1=(openGood kQ kL).1:=by kernel_rfl
set_option maxHeartbeats 0 in
theorem kl2b(w:EK)(os:OsState):(kO w os).2=(openGood kQ kL).2:=by kernel_rfl
set_option maxHeartbeats 0 in
theorem kl3(w:EK)(os:OsState):(kHook kAll kB kE).obs (kZ w.params os)=(kHook kAll kB kE).val w:=by kernel_rfl
theorem kLeft:LeftO PySem.Challenge.pw_talkleast_k86_questions_refused kQ kL (λ s=>xlAt kQ [] s&&recOk (RowW.records (OpenRow.toRowW (OpenLaw.row PySem.Challenge.rw_talkleast_k86_questions_refused))) s) (kHook kAll kB kE).obs (kHook kAll kB kE).val 10618:=by
 refine qR (Ta:=λ P=>A9 11 (kS0 P)) (T1:=λ P=>A9 11 (kS1 P)) (T2:=λ P=>A9 11 (kS2 P)) (T3:=λ P=>A9 11 (kS3 P)) (H₀:=boot_heap) (H₁:=kH) "special-get-raises" (λ w=>boot_open (by rfl) (by rfl) (λ _=>by rfl) w) (λ w=>by kernel_rfl) kr0 krb kr1 kr2 (λ b=>by cases b;exact qS;exact qU) krf (by decide) krh kl1 (λ w os=>Prod.ext (kl2a w os) (kl2b w os)) kl3
set_option maxHeartbeats 0 in
theorem kH0(H:(OpenLaw.row PySem.Challenge.rw_talkleast_k86_questions_refused).wellSaid=true->(OpenLaw.row PySem.Challenge.rw_talkleast_k86_questions_refused).Holds):(PySem.Challenge.rw_talkleast_k86_questions_refused).Holds:=by
 refine holds_law ?_ H;unfold OpenLaw.wellSaid;repeat' with_reducible apply look_both
 all_goals decide +kernel
set_option maxHeartbeats 0 in
theorem kok:(chainsOk kQ&&opensWell (OpenLaw.row PySem.Challenge.rw_talkleast_k86_questions_refused).prog&&(frees (OpenRow.toRowW (OpenLaw.row PySem.Challenge.rw_talkleast_k86_questions_refused))&&(OpenLaw.row PySem.Challenge.rw_talkleast_k86_questions_refused).within.isEmpty))=true:=by decide +kernel
theorem khw:(OpenRow.toRowW (OpenLaw.row PySem.Challenge.rw_talkleast_k86_questions_refused)).promised:=by w_witness2
set_option maxHeartbeats 0 in
theorem khb:(OpenLaw.row PySem.Challenge.rw_talkleast_k86_questions_refused).prog.bare:=⟨rfl,rfl,rfl,rfl,rfl,by decide +kernel⟩
set_option maxHeartbeats 0 in
theorem khd:∃d:DefRec,defOf kQ (OpenLaw.row PySem.Challenge.rw_talkleast_k86_questions_refused).name=some (d,[])/\d.params.defaults=[]/\d.name="law"/\(OpenLaw.row PySem.Challenge.rw_talkleast_k86_questions_refused).prog.theDef (OpenLaw.row PySem.Challenge.rw_talkleast_k86_questions_refused).name=some (d.params,d.body,d.scope)/\kwWritten? d.params.kwonlyargs d.params.kw_defaults=some []:=⟨_,by rfl,by rfl,by rfl,by rfl,by rfl⟩
end k86
end
noncomputable section
namespace L2
open PySem PySem.Spec PyProof.Rows
abbrev Key:=Sum Int Str
noncomputable def kW:Key->ED->Bool
 | .inl k,v=>Value.isInt k v
 | .inr x,v=>Value.isStrOf x v
noncomputable def keyH(w:EK):Key->Int
 | .inl k=>hashInt k
 | .inr x=>hashStr w x
theorem Q5:∀{k:Key} {v:ED},kW k v=true->(∃i t,k=Sum.inl i/\v=Value.int i t)\/(∃x t,k=Sum.inr x/\v=Value.str x t)
 | .inl i,v,h=>by obtain⟨t,e⟩:=Value.isInt_shape h;exact .inl ⟨i,t,rfl,e⟩
 | .inr x,v,h=>by obtain⟨t,e⟩:=Value.isStrOf_shape h;exact .inr ⟨x,t,rfl,e⟩
theorem qV(a b:Int):decide ((Sum.inl a:Key)=Sum.inl b)=(a==b):=by
 by_cases e:a=b
 ·subst e;simp
 ·have h:¬(Sum.inl a:Key)=Sum.inl b:=λ q=>e (Sum.inl.inj q);rw[A8 h];exact(o9.mpr e).symm
theorem qW(a b:Str):decide ((Sum.inr a:Key)=Sum.inr b)=decide (a=b):=by
 by_cases e:a=b
 ·subst e;simp
 ·have h:¬(Sum.inr a:Key)=Sum.inr b:=λ q=>e (Sum.inr.inj q);rw[A8 h,A8 e]
theorem qX(a:Int)(b:Str):decide ((Sum.inl a:Key)=Sum.inr b)=false:=A8 (λ q=>nomatch q)
theorem qY(a:Str)(b:Int):decide ((Sum.inr a:Key)=Sum.inl b)=false:=A8 (λ q=>nomatch q)
def kX(prog:EL)(w:EK):PySem.KeyKind prog w Key where
 is:=kW
 hash:=keyH w
 inj:=λ v a b ha hb=>by
  rcases Q5 ha with⟨i,t,rfl,rfl⟩ | ⟨x,t,rfl,rfl⟩
  ·rcases Q5 hb with⟨j,u,rfl,e⟩ | ⟨y,u,rfl,e⟩
   ·injection e with e1 _;rw[e1]
   ·exact nomatch e
  ·rcases Q5 hb with⟨j,u,rfl,e⟩ | ⟨y,u,rfl,e⟩
   ·exact nomatch e
   ·injection e with e1 _;rw[e1]
 byValue:=λ k v h=>by rcases Q5 h with⟨i,t,rfl,rfl⟩ | ⟨x,t,rfl,rfl⟩<;>rfl
 pyHash:=λ hv h=>by
  rcases Q5 hv with⟨i,t,rfl,rfl⟩ | ⟨x,t,rfl,rfl⟩
  ·exact wpAny_pyHash_int h
  ·exact wpAny_pyHash_str h
 eqBool:=λ hu hv h=>by
  rcases Q5 hu with⟨i,t,rfl,rfl⟩ | ⟨x,t,rfl,rfl⟩
  ·rcases Q5 hv with⟨j,u,rfl,rfl⟩ | ⟨y,u,rfl,rfl⟩
   ·rw[qV]at h;exact wpAny_eqBool_int h
   ·rw[qX]at h;exact SeqAt.EqAt.int_str i t y u _ _ _ _ h
  ·rcases Q5 hv with⟨j,u,rfl,rfl⟩ | ⟨y,u,rfl,rfl⟩
   ·rw[qY]at h;exact SeqAt.EqAt.str_int x t j u _ _ _ _ h
   ·rw[qW]at h;exact wpAny_eqBool_str h
 «strs»:=λ k x t v h=>by
  rcases Q5 h with⟨i,u,rfl,e⟩ | ⟨y,u,rfl,e⟩
  ·exact nomatch e
  ·injection e with e1 _
   subst e1;cases v<;>rfl
end L2
namespace L2
open PySem PySem.Spec PyProof.Rows
inductive V where
 | non | bl (b:Bool) | int (i:Int) | str (x:Str) | byt (b:Array UInt8) | flt (b:UInt64) | ref (a:Addr) | ty (n:String)
 deriving DecidableEq
noncomputable def RelV:V->ED->Prop
 | .non,u=>u=Value.none
 | .bl b,u=>u=Value.bool b
 | .int i,u=>∃t,u=Value.int i t
 | .str x,u=>∃t,u=Value.str x t
 | .byt b,u=>∃t,u=Value.bytes b t
 | .flt b,u=>∃t,u=Value.float b t
 | .ref a,u=>u=Value.ref a
 | .ty n,u=>u=Value.type n
abbrev Vals:ge V->ge ED->Prop:=Paired RelV
theorem Vals.length(r:Vals a b):a.length=b.length:=Paired.length r
theorem Vals.get:∀{a:ge V} {us:ge ED} {i:Nat} {x:V},Vals a us->a[i]? = some x->∃u,us[i]? = some u/\RelV x u
 | _,_,_,_,.nil,e=>by simp at e
 | _,_,0,_,.cons r _,e=>by simp at e;subst e;exact⟨_,rfl,r⟩
 | _,_,i+1,x,.cons _ t,e=>by obtain⟨u,c,b⟩:=Vals.get t (by simpa using e);exact⟨u,by simpa using c,b⟩
theorem Vals.append:∀{b a:ge V} {us ws:ge ED},Vals b us->Vals a ws->Vals (b++a) (us++ws)
 | _,_,_,_,.nil,s=>s
 | _,_,_,_,.cons r t,s=>.cons r (Vals.append t s)
theorem Vals.take:∀{a:ge V} {us:ge ED} (n:Nat),Vals a us->Vals (a.take n) (us.take n)
 | _,_,0,_=>.nil
 | _,_,_+1,.nil=>.nil
 | _,_,n+1,.cons r t=>.cons r (Vals.take n t)
theorem Vals.drop:∀{a:ge V} {us:ge ED} (n:Nat),Vals a us->Vals (a.drop n) (us.drop n)
 | _,_,0,r=>r
 | _,_,_+1,.nil=>.nil
 | _,_,n+1,.cons _ t=>Vals.drop n t
def RelO:EC V->EC ED->Prop
 | some v,some u=>RelV v u
 | none,none=>True
 | _,_=>False
def KV{κ:Type}:ge (κ×V)->ge (κ×ED)->Prop:=Paired λ (p:κ×V) (q:κ×ED)=>p.1=q.1/\RelV p.2 q.2
noncomputable def kV:Key->V
 | .inl i=>.int i
 | .inr x=>.str x
inductive HO where
 | lst (xs:List V)
 | tup (xs:List V)
 | dK (kvs:List (Key×V)) | dT (kvs:List (List Key×V))
 | set (S:Int->Bool) (n:Nat)
 | ins (C dx:Addr) (fs:List (Str×V))
 | own (x:Addr)
 | xd (fs:List (Str×V))
 | met (f x:Addr)
 | rng (lo hi:Int)
 | frz (o:Obj) (u:HO)
 | tbl (q:Str)
 | ext (φ:Heap->Prop)
abbrev Hp:=EG->EC HO
noncomputable def upd(H:Hp)(a:EG)(o:HO):Hp:=λ b=>if b=a then some o else H b
theorem o7{a:EG}:upd H a o a=some o:=by unfold upd;rw[i3 rfl]
theorem j1{b:EG}(h:b≠a):upd H a o b=H b:=by unfold upd;rw[i4 h]
theorem B2{H:Hp}{b:EG}(h:H a=some o)(h':H b=none):a≠b:=by
 intro e;subst e;rw[h]at h';cases h'
def N6(h:EH)(a:EG)(items:EJ ED):Prop:=∃o,h.get? a=some o/\(o.cls=.type "tuple" /\ o.dict=none)/\∃n,o.data=.seq items n
theorem N6.tup(x:N6 h a items):IsTup h a items:=let ⟨o,ho,hc,r⟩:=x;⟨o,ho,hc.1,r⟩
theorem N6.lt(x:N6 h a items):a<h.objs.size:=let ⟨_,ho,_⟩:=x;i8 ho
theorem N6.new(h:EH)(items:EJ ED):N6 (h.push {cls:=.type "tuple",data:=.seq items}) h.objs.size items:=⟨_,k6 _ rfl,⟨rfl,rfl⟩,_,rfl⟩
section
variable (P:EL) (w:EK)
def z5(H:Hp)(h:EH)(a:EG):HO->Prop
 | .lst xs=>xs.length<=sizeLine/\∃(its:ge ED) (n:Nat),Vals xs its/\h.get? a=some {cls:=.type "list",data:=.seq its.toArray n}
 | .tup xs=>xs.length<=sizeLine/\∃its:ge ED,Vals xs its/\N6 h a its.toArray
 | .dK kvs=>kvs.length<=sizeLine/\(a==sysModules)=false/\∃vs,KV kvs vs/\h.DictOf (kX P w) a vs
 | .dT kvs=>kvs.length<=sizeLine/\(a==sysModules)=false/\∃xs:ge (ge Key×EG×ED),
   Paired (λ (p:ge Key×V) (q:ge Key×EG×ED)=>p.1=q.1/\H q.2.1=some (.tup (p.1.map kV))/\RelV p.2 q.2.2) kvs xs /\
   ∃o es ep,h.get? a=some o/\o.ExactDict/\o.data=.dict es ep/\es.toList=xs.map (entryOfKey (tupleKind (kX P w)))/\(xs.map (·.1)).Nodup
 | .set S n=>h.SetOf (intKind P w) a S n
 | .ins C dx fs=>H dx=some (.own a)/\fs.length<=1000/\dx≠a/\h.get? a=some (PySem.W.instObj C dx) /\
   ∃mA,h.Ns1 dx mA/\(∀f,RelO (fs.lookup f) (mA f))/\PySem.Within mA (fs.map (·.1))
 | .own _=>∃o,h.get? a=some o
 | .xd fs=>∃mA,h.Ns1 a mA/\∀f,RelO (fs.lookup f) (mA f)
 | .rng lo hi=>∃t u v,h.get? a=some {cls:=.type "range",data:=.fields #[.int lo t,.int hi u,.int 1 v]}
 | .frz o u=>h.get? a=some o/\z5 H h a u
 | .tbl q=>∃ps:EJ ED,h.get? a=some {cls:=.none,data:=.fields ps} /\ TriplesOk ps.toList/\∀pos cv,codeAmong pos ps.toList=some cv->∃c oc u vs t,cv=.ref c/\H c=some (.frz oc u)/\oc.data=.fields vs/\vs[1]? = some (.str q t)
 | .met f x=>h.get? a=some (PySem.W.methodObj (.ref f) (.ref x))
 | .ext φ=>φ h/\(∃o,h.get? a=some o)/\∀h1 h2:EH,φ h1->(∀o,h1.get? a=some o->h2.get? a=some o)->φ h2
def HOk(H:Hp)(h:EH):Prop:=∀a o,H a=some o->z5 P w H h a o
end
theorem z5.lt(x:z5 P w H h a o):a<h.objs.size:=by
 cases o with
 | lst c=>obtain⟨_,_,_,_,e⟩:=x;exact i8 e
 | tup c=>obtain⟨_,_,_,p⟩:=x;exact p.lt
 | dK b=>obtain⟨_,_,_,_,o,_,_,e,_⟩:=x;exact i8 e
 | dT b=>obtain⟨_,_,_,_,o,_,_,e,_⟩:=x;exact i8 e
 | set S n=>obtain⟨o,_,_,_,e,_⟩:=x;exact i8 e
 | ins C dx fs=>obtain⟨_,_,_,e,_⟩:=x;exact i8 e
 | own y=>obtain⟨_,e⟩:=x;exact i8 e
 | xd fs=>obtain⟨_,⟨_,_,_,e,_⟩,_⟩:=x;exact i8 e
 | rng lo hi=>obtain⟨_,_,_,e⟩:=x;exact i8 e
 | frz ob u=>obtain⟨e,_⟩:=x;exact i8 e
 | tbl q=>obtain⟨_,e,_⟩:=x;exact i8 e
 | met f y=>exact i8 (x)
 | ext φ=>obtain⟨_,⟨_,e⟩,_⟩:=x;exact i8 e
theorem Paired.mapP{G:e->d->Prop}:∀{c:ge e} {l₂:ge d},Paired F c l₂->(∀a b,F a b->G a b)->Paired G c l₂
 | _,_,.nil,_=>.nil
 | _,_,.cons r t,f=>.cons (f _ _ r) (Paired.mapP t f)
theorem z5.stay(x:z5 P w H h a o)(k:∀b u,(b=a\/H b=some (.own a))->h.get? b=some u->h'.get? b=some u)
  (U:∀b,H b=some (.own a)->A b=some (.own a)) (R:∀b m,H b=some (.tup m)->A b=some (.tup m)) (Q:∀b o u vs,o.data=.fields vs->H b=some (.frz o u)->A b=some (.frz o u)):z5 P w A h' a o:=by
 induction o with
 | lst m=>obtain⟨z,l,n,r,e⟩:=x;exact⟨z,l,n,r,k _ _ (.inl rfl) e⟩
 | tup m=>obtain⟨z,l,r,g,e,c⟩:=x;exact⟨z,l,r,g,k _ _ (.inl rfl) e,c⟩
 | dK I=>obtain⟨z,y,vs,r,g,i,j,e,c⟩:=x;exact⟨z,y,vs,r,g,i,j,k _ _ (.inl rfl) e,c⟩
 | dT I=>
  obtain⟨z,y,m,r,g,i,j,e,c⟩:=x;exact⟨z,y,m,Paired.mapP r λ p q z=>⟨z.1,R _ _ z.2.1,z.2.2⟩,g,i,j,k _ _ (.inl rfl) e,c⟩
 | set S n=>obtain⟨g,i,j,t,e,c⟩:=x;exact⟨g,i,j,t,k _ _ (.inl rfl) e,c⟩
 | ins C dx fs=>
  obtain⟨d,z,ne,e,F,⟨E,i,j,J,c⟩,r⟩:=x;exact⟨U _ d,z,ne,k _ _ (.inl rfl) e,F,⟨E,i,j,k _ _ (.inr d) J,c⟩,r⟩
 | own y=>obtain⟨g,e⟩:=x;exact⟨g,k _ _ (.inl rfl) e⟩
 | xd fs=>obtain⟨F,⟨E,i,j,e,c⟩,r⟩:=x;exact⟨F,⟨E,i,j,k _ _ (.inl rfl) e,c⟩,r⟩
 | rng lo hi=>obtain⟨t,u,v,e⟩:=x;exact⟨t,u,v,k _ _ (.inl rfl) e⟩
 | frz g u O=>obtain⟨e,q⟩:=x;exact⟨k _ _ (.inl rfl) e,O q⟩
 | tbl q=>
  obtain⟨M,e,t,f⟩:=x;refine⟨M,k a _ (.inl rfl) e,t,λ B Y z=>?_⟩;obtain⟨c,N,u,vs,L,X,J,K,W⟩:=f B Y z;exact⟨c,N,u,vs,L,X,Q _ _ _ _ K J,K,W⟩
 | met f y=>
  have e:=x;show h'.get? a=some _;exact k a _ (.inl rfl) e
 | ext φ=>obtain⟨p,⟨o,e⟩,st⟩:=x;exact⟨st _ _ p λ o q=>k _ _ (.inl rfl) q,⟨o,k _ _ (.inl rfl) e⟩,st⟩
theorem HOk.lt(x:HOk P w H h)(e:H a=some o):a<h.objs.size:=(x a o e).lt
theorem HOk.fresh(x:HOk P w H h)(e:h.objs.size<=a):H a=none:=by
 cases q:H a with
 | none=>rfl
 | some u=>exact absurd (q5 (x.lt q) e) (N4 _)
theorem HOk.kept(x:HOk P w H h)(k:∀b u,h.get? b=some u->h'.get? b=some u):HOk P w H h':=λ a o e=>
 (x a o e).stay (λ b u _ q=>k b u q) (λ _ q=>q) (λ _ _ q=>q) λ _ _ _ _ _ q=>q
theorem HOk.laid(x:HOk P w H h)(k:∀b u,h.get? b=some u->h'.get? b=some u)(g:h.objs.size<=a)(new:z5 P w (upd H a o) h' a o):HOk P w (upd H a o) h':=λ b u e=>by
 have d:=x.fresh g;by_cases f:b=a
 ·subst f;rw[o7]at e;cases e;exact new
 ·rw[j1 f]at e;exact(x b u e).stay (λ c v _ q=>k c v q) (λ c q=>by rw[j1 (B2 q d)];exact q) (λ c xs q=>by rw[j1 (B2 q d)];exact q) λ c _ _ _ _ q=>by rw[j1 (B2 q d)];exact q
def Rd(H:Hp)(a:EG)(u:HO):Prop:=H a=some u\/∃o,H a=some (.frz o u)
theorem Rd.ok(r:Rd H a u)(x:HOk P w H h):z5 P w H h a u:=by
 rcases r with r | ⟨o,r⟩
 ·exact x a u r
 ·obtain⟨_,q⟩:=x a _ r;exact q
noncomputable def Mut:EC HO->Prop
 | some (.lst _)=>True
 | some (.dK _)=>True
 | some (.dT _)=>True
 | some (.set _ _)=>True
 | some (.ins _ _ _)=>True
 | some (.ext _)=>True
 | _=>False
theorem HOk.write(ok:HOk P w H h)(f:Mut (H x))(t:e=x\/H e=some (.own x))(k:∀b u,b≠e->h.get? b=some u->h'.get? b=some u)(n:∃u,h'.get? e=some u)
  (new:z5 P w (upd H x m) h' x m):HOk P w (upd H x m) h':=λ b u q=>by
 have d:∀c y,H c=some (.own y)->c≠x:=λ c y r z=>by subst z;rw[r]at f;exact f
 have g:∀c i,H c=some (.tup i)->c≠x:=λ c i r z=>by subst z;rw[r]at f;exact f
 by_cases l:b=x
 ·subst l;rw[o7]at q;cases q;exact new
 ·rw[j1 l]at q;by_cases a:b=e
  ·have p:H b=some (.own x):=by
    rcases t with z | z
    ·exact absurd (a.trans z) l
    ·rw[a];exact z
   rw[q]at p;cases p;obtain⟨v,A⟩:=n;exact⟨v,by rw[a];exact A⟩
  ·refine(ok b u q).stay (λ c v j r=>k c v ?_ r) (λ c r=>by rw[j1 (d c b r)];exact r) (λ c i r=>by rw[j1 (g c i r)];exact r) λ c o v _ _ r=>by rw[j1 λ z=>by subst z;rw[r]at f;exact f];exact r
   rcases j with rfl | j
   ·exact a
   ·rintro rfl
    rcases t with z | z
    ·exact d c b j z
    ·rw[j]at z;cases z;exact l rfl
structure Un(fs ex:List Addr)(H H':Hp)(h h':Heap):Prop where
 keep:∀b o,h.get? b=some o->H b=none->b∉fs->b∉ex->h'.get? b=some o
 slot:∀b o,h.get? b=some o->H b=none->b∈fs->b∉ex->∃sl,h'.get? b=some {o with slots:=sl}
 free:∀b o,h.get? b=some o->H b=none->b∉ex->H' b=none
 there:∀b o,h.get? b=some o->b∉ex->∃o',h'.get? b=some o'
 tups:∀b xs,H b=some (.tup xs)->H' b=some (.tup xs)
 frzs:∀b o u,H b=some (.frz o u)->H' b=some (.frz o u)
 tbls:∀b q,H b=some (.tbl q)->H' b=some (.tbl q)
theorem Un.any(u:Un fs ex H g h e)(q:h.get? b=some a)(n:H b=none)(c:b∉ex):∃f,e.get? b=some {a with slots:=f}:=by
 by_cases d:b∈fs
 ·exact u.slot b a q n d c
 ·exact⟨a.slots,u.keep b a q n d c⟩
theorem Un.kept(k:∀b u,h.get? b=some u->h'.get? b=some u):Un fs ex H H h h':=
 ⟨λ b a q _ _ _=>k b a q,λ b a q _ _ _=>⟨a.slots,k b a q⟩,λ _ _ _ n _=>n,λ b a q _=>⟨a,k b a q⟩,λ _ _ q=>q,λ _ _ _ q=>q,λ _ _ q=>q⟩
theorem Un.refl:Un fs ex H H h h:=Un.kept λ _ _ q=>q
theorem Un.laid(k:∀b u,h.get? b=some u->h'.get? b=some u)(e:h.objs.size<=a)(c:H a=none):Un fs ex H (upd H a o) h h' where
 keep:=λ b u q _ _ _=>k b u q
 slot:=λ b u q _ _ _=>⟨u.slots,k b u q⟩
 free:=λ b u q n _=>by rw[j1 (j5 (q5 (i8 q) e))];exact n
 there:=λ b u q _=>⟨u,k b u q⟩
 tups:=λ b d q=>by rw[j1 (B2 q c)];exact q
 frzs:=λ b u d q=>by rw[j1 (B2 q c)];exact q
 tbls:=λ b ps q=>by rw[j1 (B2 q c)];exact q
theorem Un.write(c:Mut (H x))(m:e=x\/H e=some (.own x))(k:∀b u,b≠e->h.get? b=some u->h'.get? b=some u)(f:∃u,h'.get? e=some u):Un fs ex H (upd H x o) h h':=by
 have g:∀b,H b=none->b≠x:=λ b n z=>by subst z;rw[n]at c;exact c
 have i:∀b,H b=none->b≠e:=λ b n z=>by
  subst z;rcases m with r | r
  ·exact g b n r
  ·rw[n]at r;cases r
 have d:∀b u,H b=some u->¬Mut (some u)->b≠x:=λ b u q l z=>by subst z;rw[q]at c;exact l c
 refine⟨λ b u q n _ _=>k b u (i b n) q,λ b u q n _ _=>⟨u.slots,k b u (i b n) q⟩,λ b u q n _=>by rw[j1 (g b n)];exact n,λ b u q _=>?_,
  λ b j q=>by rw[j1 (d b _ q λ z=>z)];exact q,λ b u j q=>by rw[j1 (d b _ q λ z=>z)];exact q,λ b ps q=>by rw[j1 (d b _ q λ z=>z)];exact q⟩
 by_cases a:b=e
 ·subst a;exact f
 ·exact⟨u,k b u a q⟩
noncomputable def trk(h:EH)(H:Hp):ge EG:=(List.range h.objs.size).filter λ a=>(H a).isSome
def hidT(h:EH)(H:Hp):EH:=PySem.W.hideAll h (trk h H)
theorem qZ(h:EH)(H:Hp):(hidT h H).objs.size=h.objs.size:=PySem.W.hideAll_size _ _
theorem rf(e:h.get? b=some o)(n:H b=none):(hidT h H).get? b=some o:=
 P7 _ e λ a=>by have q:=(E9.mp a).2;rw[n]at q;simp at q
theorem rg(e:(hidT h H).get? b=some o):h.get? b=some o/\H b=none:=by
 have a:=cO _ e;refine⟨a,?_⟩;cases q:H b with
 | none=>rfl
 | some x=>
  have z:(hidT h H).get? b=none:=PySem.W.hideAll_none _ (E9.mpr ⟨U1.mpr (i8 a),by simp[q]⟩);rw[z]at e;cases e
noncomputable def rh(g h:EH)(L:EG):ge (EG×Obj):=(List.range h.objs.size).filterMap λ a=>if a=L\/(g.get? a).isSome=true then none else(h.get? a).map λ o=>(a,o)
def rest(g h:EH)(L d:EG):ge (EG×Obj):=(rh g h L).filter λ p=>decide (p.1≠d)
end L2
namespace L2
open PySem PySem.Spec PyProof.Rows
structure Mod(K:PySem.W.Frag)(mg:Str->Option Value)(base:Heap):Prop where
 kin:K.In base
 glob:base.Ns mainGlobals mg
 blt:∃mb,base.Ns builtinsNs mb/\∀x:Str,x ≠ "__name__" -> mb x=bootBuiltins x
 nolimit:base.NoLimit
 bmod:∃bm ob,mg "__builtins__" = some (.ref bm)/\bm≠builtinsNs/\base.get? bm=some ob/\ob.cls=.type "module" /\ ob.dict=some builtinsNs/\ob.data=.plain
set_option genInjectivity true in
structure Cx where
 prog:Program
 w:World
 K:PySem.W.Frag
 mg:Str->Option Value
 base:Heap
 A:Around
 N:List Str
 s₀:Shared
 H₀:Hp
 env:Env
 outer:List Env
 stack:List Env
 ex:List Addr
 fn:Str->Bool
 calm:Bool
 pn:List (Addr×Obj)
 xe:Value->Shared->Prop
noncomputable def u0(K:EQ):ge (EG×Str):=K.filterMap λ p=>match p.2.cls,p.2.data with
 | .type "code",.fields vs=>(match(vs[11]?:EC ED),(vs[1]?:EC ED)with
  | some (.ref P),some (.str q _)=>if(K.lookup P).isNone then some (P,q ++ ".<locals>." ++ "<lambda>")else none
  | _,_=>none)
 | _,_=>none
def bh(K:EQ)(H:Hp):Prop:=∀p∈u0 K,H p.1=some (.tbl p.2)
noncomputable def frs(l:ge Env):ge EG:=l.filterMap (·.frame)
abbrev Cx.fs(X:Cx):ge EG:=frs X.outer
def Vis(sc:ER)(x:Str):Prop:=sc.names.lookup x=some .local\/sc.names.lookup x=some .cell\/sc.names.lookup x=some .free
def Loc(sc:ER)(x:Str):Prop:=sc.names.lookup x=some .local\/sc.names.lookup x=some .cell
def Look(env:Env)(h:EH)(m:Str->EC ED)(x:Str)(u:ED):Prop:=
 (env.kindOf x=some .local/\m x=some u)\/((env.kindOf x=some .cell\/env.kindOf x=some .free)/\∃c,env.cells.lookup x=some c/\h.IsCell c (some u))
structure Cx.Ok(X:Cx):Prop where
 mod:Mod X.K X.mg X.base
 kind:X.env.scope.kind=.function
 glob:X.env.globals=mainGlobals
 blt:X.env.builtins=builtinsNs
 above:X.s₀.heap.objs.size<=X.env.locals
 inj:∀x y c,X.env.cells.lookup x=some c->X.env.cells.lookup y=some c->x=y
 has:∀x,(X.env.kindOf x=some .cell\/X.env.kindOf x=some .free)->∃c,X.env.cells.lookup x=some c
 cab:∀x c,X.fn x=true->X.env.cells.lookup x=some c->X.s₀.heap.objs.size<=c
 hd:X.calm=true->X.A.handled=none
 frames:X.A.frames=some X.stack
 stk:X.stack=X.outer\/(X.stack=X.env::X.outer/\X.env.frame=some X.env.locals)
 exf:∀b∈X.ex,b≠X.env.locals/\∀x c,X.env.cells.lookup x=some c->c≠b
 bs:∀b o,X.base.get? b=some o->X.s₀.heap.get? b=some o/\X.H₀ b=none
 bsz:X.base.objs.size<=X.s₀.heap.objs.size
 noex:∀b o,X.base.get? b=some o->b∉X.ex
 exfs:∀b∈X.ex,b∉X.fs
 funs:X.s₀.heap.FunFrames X.base X.outer
 frf:(∀b∈X.fs,X.H₀ b=none)/\bh X.K X.H₀
structure Inv(X:Cx)(pins:List (Addr×Obj))(σ:List (Option V))(H:Hp)(s:Shared):Prop where
 ok:X.Ok
 os:s.os=X.s₀.os
 bare:AllBare s.gens
 base:Un X.fs X.ex X.H₀ H X.s₀.heap s.heap
 loc:∃m,s.heap.Ns X.env.locals m/\∀(i:Nat) (x:Str) (v:V),X.N[i]? = some x->σ[i]? = some (some v)->Vis X.env.scope x->∃u,RelV v u/\Look X.env s.heap m x u
 cell:∀x c,X.env.cells.lookup x=some c->∃v,s.heap.IsCell c v
 free:H X.env.locals=none
 freeC:∀x c,X.env.cells.lookup x=some c->H c=none
 pin:∀p∈X.pn++pins,s.heap.get? p.1=some p.2/\H p.1=none/\p.1≠X.env.locals/\p.1∉X.fs/\∀v,p.2.data ≠ .cell v
 hok:HOk X.prog X.w H s.heap
 len:σ.length=X.N.length
theorem Cx.Ok.nofr{X:Cx}(ok:X.Ok)(e:X.base.get? b=some o):b∉X.fs:=λ a=>by
 have:=(ok.funs.mem a).1;rw[e]at this;cases this
theorem Inv.bs(I:Inv X a σ H s):∀b o,X.base.get? b=some o->s.heap.get? b=some o/\H b=none:=λ b o e=>
 ⟨I.base.keep b o (I.ok.bs b o e).1 (I.ok.bs b o e).2 (I.ok.nofr e) (I.ok.noex b o e),I.base.free b o (I.ok.bs b o e).1 (I.ok.bs b o e).2 (I.ok.noex b o e)⟩
theorem Inv.bk(I:Inv X a σ H s):∀b o,X.base.get? b=some o->s.heap.get? b=some o:=λ b o e=>(I.bs b o e).1
theorem Inv.mod(I:Inv X a σ H s):Mod X.K X.mg X.base:=I.ok.mod
theorem Inv.tabs(I:Inv X a σ H s):bh X.K H:=λ p b=>I.base.tbls p.1 p.2 (I.ok.frf.2 p b)
theorem Inv.kIn(I:Inv X a σ H s):X.K.In s.heap:=I.ok.mod.kin.keeps I.bk
theorem Inv.lt(I:Inv X a σ H s):X.env.locals<s.heap.objs.size:=let ⟨_,hn,_⟩:=I.loc;hn.lt
theorem Inv.sz(I:Inv X a σ H s):X.s₀.heap.objs.size<=s.heap.objs.size:=o6 I.ok.above (X3 I.lt)
theorem Inv.nofs(I:Inv X b σ H s)(h:s.heap.objs.size<=a):a∉X.fs:=λ d=>by
 obtain⟨_,o,c,_⟩:=I.ok.funs.mem d
 exact absurd (q5 (i8 c) (o6 I.sz h)) (N4 _)
theorem Inv.cne(I:Inv X a σ H s):∀x c,X.env.cells.lookup x=some c->c≠X.env.locals:=λ x c e z=>by
 obtain⟨v,o,f,g⟩:=I.cell x c e;obtain⟨m,⟨o',es,ep,b,d,_⟩,_⟩:=I.loc;rw[z,b]at f;cases f;rw[d]at g;cases g
theorem Inv.funs(I:Inv X a σ H s):s.heap.FunFrames X.base X.outer:=by
 have all:∀(l:ge Env),(∀b∈frs l,b∈X.fs)->X.s₀.heap.FunFrames X.base l->s.heap.FunFrames X.base l:=by
  intro l
  induction l with
  | nil=>intro _ _;trivial
  | cons q r h=>
   intro g m;obtain⟨n,⟨L,o,c,k,j,p⟩,i⟩:=m;have f:=g L (by unfold frs;rw[cM,c];exact o8);obtain⟨sl,e⟩:=I.base.slot L o j (I.ok.frf.1 L f) f λ z=>I.ok.exfs L z f
   exact⟨n,⟨L,_,c,k,e,p⟩,h (λ b d=>g b (by unfold frs;rw[cM,c];exact j6 _ d)) i⟩
 exact all X.outer (λ _ d=>d) I.ok.funs
theorem Inv.stack(I:Inv X a σ H s):s.heap.FunFrames X.base X.stack:=by
 rcases I.ok.stk with e | ⟨e,hf⟩
 ·rw[e];exact I.funs
 ·rw[e];obtain⟨m,b,_⟩:=I.loc;refine .cons (by rw[I.ok.kind];decide) hf b ?_ I.funs
  exact aR (o6 I.ok.bsz I.ok.above)
theorem Inv.stkSub(I:Inv X c σ H s):∀b∈frs X.stack,b∈X.env.locals::X.fs:=λ b a=>by
 rcases I.ok.stk with e | ⟨e,hf⟩
 ·rw[e]at a;exact j6 _ a
 ·rw[e]at a;unfold frs at a;rw[cM,hf]at a;exact a
theorem Inv.stkFree(I:Inv X a σ H s):∀b∈frs X.stack,H b=none:=λ b c=>by
 rcases i6.mp (I.stkSub b c)with e | c
 ·rw[e];exact I.free
 ·obtain⟨_,o,d,_⟩:=I.ok.funs.mem c
  exact I.base.free b o d (I.ok.frf.1 b c) λ z=>I.ok.exfs b z c
theorem Inv.step{X:Cx}{pins:ge (EG×Obj)}{σ:ge (EC V)}{H H':Hp}{s:EF}{h':EH}{g':EJ GenState}{t':Nat}{d':Drawn}{ch:ge EG}(I:Inv X pins σ H s)
  (hch:∀b∈ch,(b∈X.ex\/X.s₀.heap.objs.size<=b)/\b≠X.env.locals/\(∀x c,X.env.cells.lookup x=some c->c≠b)/\∀p∈X.pn++pins,p.1≠b)
  (keep:∀b o,b≠X.env.locals->b∉X.fs->b∉ch->s.heap.get? b=some o->H b=none->h'.get? b=some o)
  (slot:∀b o,b≠X.env.locals->b∈X.fs->b∉ch->s.heap.get? b=some o->H b=none->∃sl,h'.get? b=some {o with slots:=sl}) (free:∀b o,b∉ch->s.heap.get? b=some o->H b=none->H' b=none)
  (there:∀b o,b∉ch->s.heap.get? b=some o->∃o',h'.get? b=some o')
  (tups:∀b xs,H b=some (.tup xs)->H' b=some (.tup xs)) (frzs:∀b o u,H b=some (.frz o u)->H' b=some (.frz o u)) (tbls:∀b q,H b=some (.tbl q)->H' b=some (.tbl q))
  (ns:∀m,s.heap.Ns X.env.locals m->h'.Ns X.env.locals m) (hok:HOk X.prog X.w H' h') (hg:AllBare g') :
  Inv X pins σ H' {s with heap:=h',gens:=g',drawn:=d',toks:=t'}:=by
 have neL:∀b o,X.s₀.heap.get? b=some o->b≠X.env.locals:=λ b o e=>j5 (q5 (i8 e) I.ok.above);have neC:∀b o,X.s₀.heap.get? b=some o->b∉X.ex->b∉ch:=λ b o e hx hb=>by
  rcases(hch b hb).1 with z | z
  ·exact hx z
  ·exact absurd (q5 (i8 e) z) (N4 _)
 have cellK:∀x c,X.env.cells.lookup x=some c->∀v,s.heap.IsCell c v->h'.IsCell c v:=λ x c e v ⟨o,ho,hd⟩=>by
  have nch:c∉ch:=λ z=>(hch c z).2.2.1 x c e rfl;by_cases hc:c∈X.fs
  ·obtain⟨sl,q⟩:=slot c o (I.cne x c e) hc nch ho (I.freeC x c e);exact⟨_,q,hd⟩
  ·exact⟨o,keep c o (I.cne x c e) hc nch ho (I.freeC x c e),hd⟩
 refine⟨I.ok,I.os,hg,⟨λ b o e n hb hx=>?_,λ b o e n hb hx=>?_,λ b o e n hx=>?_,λ b o e hx=>?_,λ b xs e=>tups b xs (I.base.tups b xs e),λ b o xs e=>frzs b o xs (I.base.frzs b o xs e),λ b ps e=>?_⟩,?_,λ x c e=>?_,?_,λ x c e=>?_,λ p hp=>?_,hok,I.len⟩
 ·exact keep b o (neL b o e) hb (neC b o e hx) (I.base.keep b o e n hb hx) (I.base.free b o e n hx)
 ·obtain⟨sl,e1⟩:=I.base.slot b o e n hb hx;obtain⟨sl',e2⟩:=slot b _ (neL b o e) hb (neC b o e hx) e1 (I.base.free b o e n hx);exact⟨sl',e2⟩
 ·obtain⟨o',e1⟩:=I.base.there b o e hx;exact free b o' (neC b o e hx) e1 (I.base.free b o e n hx)
 ·obtain⟨o',e1⟩:=I.base.there b o e hx;exact there b o' (neC b o e hx) e1
 ·exact tbls b ps (I.base.tbls b ps e)
 ·obtain⟨m,hn,hl⟩:=I.loc;refine⟨m,ns m hn,λ i x v e1 e2 e3=>?_⟩;obtain⟨u,r,l⟩:=hl i x v e1 e2 e3;refine⟨u,r,?_⟩;rcases l with l | ⟨k,c,e,z⟩
  ·exact .inl l
  ·exact .inr ⟨k,c,e,cellK x c e _ z⟩
 ·obtain⟨v,z⟩:=I.cell x c e;exact⟨v,cellK x c e v z⟩
 ·obtain⟨m,⟨o,_,_,ho,_⟩,_⟩:=I.loc;exact free _ o (λ z=>(hch _ z).2.1 rfl) ho I.free
 ·obtain⟨v,o,ho,hd⟩:=I.cell x c e;exact free c o (λ z=>(hch c z).2.2.1 x c e rfl) ho (I.freeC x c e)
 ·obtain⟨e,n,ne,nf,d⟩:=I.pin p hp;have nch:p.1∉ch:=λ z=>(hch p.1 z).2.2.2 p hp rfl
  exact⟨keep p.1 p.2 ne nf nch e n,free p.1 p.2 nch e n,ne,nf,d⟩
theorem Inv.un(I:Inv X a σ H s)(u:Un X.fs [] H i s.heap h')(d:HOk X.prog X.w i h'):Inv X a σ i {s with heap:=h',toks:=t'}:=by
 obtain⟨m,⟨o,es,ep,j,r⟩,_⟩:=id I.loc;obtain⟨sl,p⟩:=u.any j I.free (by simp);exact I.step (ch:=[]) (λ _ z=>nomatch z) (λ b o _ f _ e n=>u.keep b o e n f (by simp)) (λ b o _ f _ e n=>u.slot b o e n f (by simp)) (λ b o _ e n=>u.free b o e n (by simp)) (λ b o _ e=>u.there b o e (by simp)) u.tups u.frzs u.tbls (λ m' l=>by
  obtain⟨o',g,h,c,k⟩:=l;rw[j]at c;cases c;exact⟨_,g,h,p,k⟩) d I.bare
theorem Inv.call(I:Inv X a σ H s)(u:Un (frs X.stack) ch H l s.heap h')(h:HOk X.prog X.w l h')(y:AllBare t)
  (g:∀b∈ch,(b∈X.ex\/X.s₀.heap.objs.size<=b)/\b≠X.env.locals/\(∀x c,X.env.cells.lookup x=some c->c≠b)/\∀p∈X.pn++a,p.1≠b) :
  Inv X a σ l {s with heap:=h',gens:=t,drawn:=B,toks:=t'}:=by
 obtain⟨m,⟨o,es,ep,q,r⟩,_⟩:=id I.loc;obtain⟨sl,i⟩:=u.any q I.free λ z=>(g _ z).2.1 rfl
 exact I.step g (λ b o i A d e n=>u.keep b o e n (λ z=>(i6.mp (I.stkSub b z)).elim i A) d) (λ b o _ _ d e n=>u.any e n d) (λ b o d e n=>u.free b o e n d) (λ b o d e=>u.there b o e d) u.tups u.frzs u.tbls (λ m' w=>by
  obtain⟨o',j,k,f,v⟩:=w;rw[q]at f;cases f;exact⟨_,j,k,i,v⟩) h y
theorem Inv.turned(I:Inv X a σ H s)(k:∀b o,b≠it->s.heap.get? b=some o->h'.get? b=some o)(i:H it=none)(g:it≠X.env.locals)
  (y:it∈X.ex\/X.s₀.heap.objs.size<=it) (w:∀x c,X.env.cells.lookup x=some c->c≠it) (t:∀p∈X.pn++a,p.1≠it):Inv X a σ H {s with heap:=h',toks:=t'}:=by
 have f:∀b u,H b=some u->b≠it:=λ b u e z=>by rw[z,i]at e;cases e
 refine I.step (ch:=[it]) (λ b l=>?_) (λ b o _ _ d e _=>k b o (λ z=>d (by simp[z])) e) (λ b o _ _ d e _=>⟨o.slots,k b o (λ z=>d (by simp[z])) e⟩) (λ _ _ _ _ n=>n)
  (λ b o d e=>⟨o,k b o (λ z=>d (by simp[z])) e⟩) (λ _ _ e=>e) (λ _ _ _ e=>e) (λ _ _ e=>e) (λ m j=>?_) (λ b u e=>?_) I.bare
 ·have e:b=it:=by simpa using l
  subst e;exact⟨y,g,w,t⟩
 ·obtain⟨o,A,B,h,r⟩:=j;exact⟨o,A,B,k _ o (Ne.symm g) h,r⟩
 ·refine(I.hok b u e).stay (λ c v d q=>k c v ?_ q) (λ _ q=>q) (λ _ _ q=>q) λ _ _ _ _ _ q=>q;rcases d with z | z
  ·rw[z];exact f b u e
  ·exact f c _ z
theorem Inv.tok(I:Inv X a σ H s)(t:Nat):Inv X a σ H {s with toks:=t}:=I.un Un.refl I.hok
theorem Inv.kept(I:Inv X a σ H s)(k:∀b u,s.heap.get? b=some u->h'.get? b=some u):Inv X a σ H {s with heap:=h',toks:=t'}:=I.un (Un.kept k) (I.hok.kept k)
theorem Inv.laid(I:Inv X c σ H s)(k:∀b u,s.heap.get? b=some u->h'.get? b=some u)(d:s.heap.objs.size<=a)(new:z5 X.prog X.w (upd H a o) h' a o) :
  Inv X c σ (upd H a o) {s with heap:=h',toks:=t'}:=I.un (Un.laid k d (I.hok.fresh d)) (I.hok.laid k d new)
theorem Inv.write(I:Inv X a σ H s)(d:Mut (H x))(f:e=x\/H e=some (.own x))(k:∀b u,b≠e->s.heap.get? b=some u->h'.get? b=some u)(c:∃u,h'.get? e=some u)
  (new:z5 X.prog X.w (upd H x o) h' x o):Inv X a σ (upd H x o) {s with heap:=h',toks:=t'}:=I.un (Un.write d f k c) (I.hok.write d f k c new)
theorem Inv.pins_of(I:Inv X a σ H s)(h:∀p∈pins',s.heap.get? p.1=some p.2/\H p.1=none/\p.1≠X.env.locals/\p.1∉X.fs/\∀v,p.2.data ≠ .cell v):Inv X pins' σ H s:=
 ⟨I.ok,I.os,I.bare,I.base,I.loc,I.cell,I.free,I.freeC,λ p b=>(x5.mp b).elim (λ z=>I.pin p (u8 _ z)) (h p),I.hok,I.len⟩
theorem dz{N:ge Str}(c:N.Nodup){j:Nat}(a:N[i]? = some x)(b:N[j]? = some x):i=j:=by
 obtain⟨h1,e⟩:=n7.mp a;obtain⟨h2,d⟩:=n7.mp b;exact(List.getElem_inj c).mp (e.trans d.symm)
theorem kY(I:Inv X F σ H s)(hN:X.N.Nodup)(U:X.N[i]? = some x)(w:Loc X.env.scope x)(r:RelV v u)
  (h:∀s',Inv X F (σ.set i (some v)) H s'->(∃a,Heap.SameBut a s.heap s'.heap/\(a=X.env.locals\/X.env.cells.lookup x=some a))->Q () s') (hf:X.fn x=true\/X.env.scope.names.lookup x=some .local:=by first | exact .inl rfl | exact .inr rfl | assumption):wpAny M A (storeName X.env x u) Q E s:=by
 obtain⟨m,hn,hl⟩:=id I.loc;have W:(X.env.scope.kind == .class||(X.env.scope.kind == .module&&X.env.locals != X.env.globals))=false:=by rw[I.ok.kind];rfl
 have K:i<σ.length:=by rw[I.len];exact(n7.mp U).1
 have cne:=I.cne;have g:∀{a:EG} {P:EH},(∃o,s.heap.get? a=some o/\H a=none)->Heap.SameBut a s.heap P->HOk X.prog X.w H P:=λ {a P} ha f b ob e=>by
  obtain⟨_,_,B⟩:=ha;refine(I.hok b ob e).stay (λ c w' t q=>(f.2 c ?_).trans q) (λ _ q=>q) (λ _ _ q=>q) λ _ _ _ _ _ q=>q
  rintro rfl
  rcases t with rfl | t
  ·rw[B]at e;cases e
  ·rw[B]at t;cases t
 rcases w with J | J
 ·refine wpAny_storeName_local J hn (λ P a1 f=>?_) W;obtain⟨oL,_,_,a0,_⟩:=id hn;refine h _ ⟨I.ok,I.os,I.bare,⟨λ b o e n O w=>?_,λ b o e n O w=>?_,I.base.free,λ b o e w=>?_,I.base.tups,I.base.frzs,I.base.tbls⟩,⟨_,a1,λ j y v' l C e3=>?_⟩,λ y c e=>?_,I.free,I.freeC,λ p hp=>?_,g ⟨oL,a0,I.free⟩ f,by simpa using I.len⟩ ⟨_,f,.inl rfl⟩
  ·exact(f.2 b (j5 (q5 (i8 e) I.ok.above))).trans (I.base.keep b o e n O w)
  ·obtain⟨sl,l⟩:=I.base.slot b o e n O w;exact⟨sl,(f.2 b (j5 (q5 (i8 e) I.ok.above))).trans l⟩
  ·obtain⟨o',l⟩:=I.base.there b o e w;exact⟨o',(f.2 b (j5 (q5 (i8 e) I.ok.above))).trans l⟩
  ·by_cases L:j=i
   ·subst L;rw[U]at l;cases l;rw[A4 K]at C;cases C;exact⟨u,r,.inl ⟨J,by simp⟩⟩
   ·rw[i9 (Ne.symm L)]at C;obtain⟨u',r',q⟩:=hl j y v' l C e3;refine⟨u',r',?_⟩;rcases q with⟨k,e⟩ | ⟨k,c,e,z⟩
    ·refine .inl ⟨k,?_⟩;have:y≠x:=λ e=>L (dz hN l (e▸U));simp[this,e]
    ·exact .inr ⟨k,c,e,z.sameBut f (cne y c e)⟩
  ·obtain⟨w',z⟩:=I.cell y c e;exact⟨w',z.sameBut f (cne y c e)⟩
  ·obtain⟨e,n,ne,nf,d⟩:=I.pin p hp;exact⟨(f.2 p.1 ne).trans e,n,ne,nf,d⟩
 ·have N:X.fn x=true:=by
   rcases hf with z | z
   ·exact z
   ·rw[z]at J;cases J
  obtain⟨c,t⟩:=I.ok.has x (.inl J);obtain⟨w',z⟩:=I.cell x c t;refine wpAny_storeName_cell I.ok.kind J t z (λ P Z f=>?_);obtain⟨oc,S,R⟩:=id z;refine h {s with heap:=P} ⟨I.ok,I.os,I.bare,⟨λ b o e n O w=>?_,λ b o e n O w=>?_,I.base.free,λ b o e w=>?_,I.base.tups,I.base.frzs,I.base.tbls⟩,⟨m,hn.sameBut f (Ne.symm (cne x c t)),λ j y v' l C e3=>?_⟩,λ y c' e=>?_,I.free,I.freeC,λ p hp=>?_,g ⟨oc,S,I.freeC x c t⟩ f,by simpa using I.len⟩ ⟨c,f,.inr t⟩
  ·exact(f.2 b (j5 (q5 (i8 e) (I.ok.cab x c N t)))).trans (I.base.keep b o e n O w)
  ·obtain⟨sl,l⟩:=I.base.slot b o e n O w;exact⟨sl,(f.2 b (j5 (q5 (i8 e) (I.ok.cab x c N t)))).trans l⟩
  ·obtain⟨o',l⟩:=I.base.there b o e w;exact⟨o',(f.2 b (j5 (q5 (i8 e) (I.ok.cab x c N t)))).trans l⟩
  ·by_cases L:j=i
   ·subst L;rw[U]at l;cases l;rw[A4 K]at C;cases C;exact⟨u,r,.inr ⟨.inl J,c,t,Z⟩⟩
   ·rw[i9 (Ne.symm L)]at C;obtain⟨u',r',q⟩:=hl j y v' l C e3;refine⟨u',r',?_⟩;rcases q with q | ⟨k,c',e,z'⟩
    ·exact .inl q
    ·refine .inr ⟨k,c',e,z'.sameBut f ?_⟩
     rintro rfl
     exact L (dz hN l (I.ok.inj _ _ _ e t▸U))
  ·by_cases Y:c'=c
   ·subst Y;exact⟨_,Z⟩
   ·obtain⟨w2,z2⟩:=I.cell y c' e;exact⟨w2,z2.sameBut f Y⟩
  ·obtain⟨e,n,ne,nf,d⟩:=I.pin p hp;refine⟨(f.2 p.1 ?_).trans e,n,ne,nf,d⟩;intro q;rw[q,S]at e;exact d w' (by rw[←(v5 e)];exact R)
theorem gp(I:Inv X a σ H s)(f:X.N.Nodup)(d:X.N[i]? = some x)(c:Loc X.env.scope x)(r:RelV v u)
  (h:∀b,Inv X a (σ.set i (some v)) H b->Q () b) (e:X.fn x=true\/X.env.scope.names.lookup x=some .local:=by first | exact .inl rfl | exact .inr rfl | assumption):wpAny M A (storeName X.env x u) Q E s:=
 kY I f d c r (λ b g _=>h b g) e
theorem Inv.call'(I:Inv X a σ H s)(i:d.os=s.os)(u:Un (frs X.stack) ch H h s.heap d.heap)(f:HOk X.prog X.w h d.heap)(j:AllBare d.gens)
  (g:∀b∈ch,(b∈X.ex\/X.s₀.heap.objs.size<=b)/\b≠X.env.locals/\(∀x c,X.env.cells.lookup x=some c->c≠b)/\∀p∈X.pn++a,p.1≠b):Inv X a σ h d:=by
 obtain⟨h',g',d',t',o'⟩:=d;have e:=i;subst e;exact I.call u f j g
abbrev XK:=ED->EC EG->Hp->Prop
abbrev St:=ge (EC V)
abbrev VK:=V->Hp->Prop
abbrev TE:=St->Hp->VK->Prop
abbrev TT:=St->Hp->(Bool->Hp->Prop)->Prop
abbrev TA:=St->Hp->(ge V->Hp->Prop)->Prop
structure Ends where
 nx:St->Hp->Prop
 rt:VK
 bk:St->Hp->Prop:=λ _ _=>False
 ct:St->Hp->Prop:=λ _ _=>False
abbrev TS:=Ends->St->Hp->Prop
def EP(X:Cx)(pins:ge (EG×Obj))(σ:St)(Q:VK)(u:ED)(s':EF):Prop:=∃v H',Inv X pins σ H' s'/\RelV v u/\Q v H'
def TP(X:Cx)(pins:ge (EG×Obj))(σ:St)(Q:Bool->Hp->Prop)(b:Bool)(s':EF):Prop:=∃H',Inv X pins σ H' s'/\Q b H'
def AP(X:Cx)(pins:ge (EG×Obj))(σ:St)(Q:ge V->Hp->Prop)(us:ge ED)(s':EF):Prop:=∃vs H',Inv X pins σ H' s'/\Vals vs us/\Q vs H'
def SP(X:Cx)(pins:ge (EG×Obj))(D:Ends)(f:Flow)(s':EF):Prop:=
 match f with
 | .next=>∃σ' H',Inv X pins σ' H' s'/\D.nx σ' H'
 | .brk=>∃σ' H',Inv X pins σ' H' s'/\D.bk σ' H'
 | .cont=>∃σ' H',Inv X pins σ' H' s'/\D.ct σ' H'
 | .ret u=>∃v σ' H',Inv X pins σ' H' s'/\RelV v u/\D.rt v H'
def PE(X:Cx)(e:EI)(t:TE):Prop:=
 ∀(pins:ge (EG×Obj)) (s:EF) (σ:St) (H:Hp) (Q:VK),Inv X pins σ H s->t σ H Q->wpAny (model X.prog X.w) X.A (eval e X.env) (EP X pins σ Q) X.xe s
def PT(X:Cx)(e:EI)(t:TT):Prop:=
 ∀(pins:ge (EG×Obj)) (s:EF) (σ:St) (H:Hp) (Q:Bool->Hp->Prop),Inv X pins σ H s->t σ H Q->wpAny (model X.prog X.w) X.A (isTrue e X.env (eval e X.env)) (TP X pins σ Q) X.xe s
def PW(X:Cx)(e:EI)(t:TT):Prop:=
 ∀(whole:Sem ED) (pins:ge (EG×Obj)) (s:EF) (σ:St) (H:Hp) (Q:Bool->Hp->Prop),Inv X pins σ H s->t σ H Q->wpAny (model X.prog X.w) X.A (isTrue e X.env whole) (TP X pins σ Q) X.xe s
theorem PW.pt(h:PW X e t):PT X e t:=h _
def PA(X:Cx)(es:ge EI)(t:TA):Prop:=
 ∀(pos:Pos) (pins:ge (EG×Obj)) (s:EF) (σ:St) (H:Hp) (Q:ge V->Hp->Prop),Inv X pins σ H s->t σ H Q->wpAny (model X.prog X.w) X.A (spliced (backTo pos (starEach es X.env))) (AP X pins σ Q) X.xe s
def PS(X:Cx)(st:EN)(t:TS):Prop:=
 ∀(pins:ge (EG×Obj)) (s:EF) (σ:St) (H:Hp) (D:Ends),Inv X pins σ H s->t D σ H->wpAny (model X.prog X.w) X.A (exec st X.env) (SP X pins D) X.xe s
def PSs(X:Cx)(st:ge EN)(t:TS):Prop:=
 ∀(pins:ge (EG×Obj)) (s:EF) (σ:St) (H:Hp) (D:Ends),Inv X pins σ H s->t D σ H->wpAny (model X.prog X.w) X.A (execs st X.env) (SP X pins D) X.xe s
theorem thn(h:wpAny M A t Q E s)(c:∀a s,Q a s->Q' a s):wpAny M A t Q' E s:=k7 h c λ _ _ x=>x
end L2
namespace L2
open PySem PySem.Spec PyProof.Rows
section
variable {X:Cx}
theorem bin(t:PE X a l)(r:PE X b tb){R:V->V->Hp->Prop}(I:Inv X c σ H s)(h:l σ H λ x j=>tb σ j λ y d=>R x y d)
     {Q:k->EF->Prop} {f:ED->ED->Sem k}
    (q:∀v u i x y d,Inv X c σ d i->RelV x v->RelV y u->R x y d->wpAny (model X.prog X.w) X.A (f v u) Q X.xe i) :
    wpAny (model X.prog X.w) X.A (eval a X.env) (λ v g=>wpAny (model X.prog X.w) X.A (eval b X.env) (λ u e=>wpAny (model X.prog X.w) X.A (f v u) Q X.xe e) X.xe g) X.xe s:=by
  refine thn (t c s σ H _ I h) λ v s1 ⟨x,j,z,n,p⟩=>?_;refine thn (r c s1 σ j _ z p) λ u i ⟨y,d,w,m,o⟩=>?_;exact q v u i x y d w n m o
noncomputable def tVar(i:Nat):TE:=λ σ H Q=>∃v,σ[i]? = some (some v)/\Q v H
noncomputable def tC(v:V):TE:=λ _ H Q=>Q v H
theorem F9(q:X.N[i]? = some x)(k:Vis X.env.scope x)(f:(x==("__debug__" : Str))=false:=by decide)(g:(x==("__classdict__" : Str))=false:=by decide):PE X (.Name x pos) (tVar i):=by
 intro d s j H Q I h;obtain⟨v,e,h⟩:=h;obtain⟨m,n,p⟩:=I.loc;obtain⟨u,r,l⟩:=p i x v q e k;have b:EP X d j Q u s:=⟨v,H,I,r,h⟩;rcases l with⟨a,o⟩ | ⟨a,c,hc,hcell⟩
 ·exact wpAny_Name (wpAny_loadName_local I.ok.kind a n o b) f
 ·rcases a with a | a
  ·exact wpAny_Name (wpAny_loadName_cell I.ok.kind a hc hcell b) f
  ·exact wpAny_Name (wpAny_loadName_free I.ok.kind a hc hcell b g) f
theorem lc:PE X (.Constant (.int i) j pos) (tC (.int i)):=λ _ _ _ H _ I h=>wpAny_Constant_int ⟨.int i,H,I.tok _,⟨_,rfl⟩,h⟩
theorem rj:PE X (.Constant (.bool b) j pos) (tC (.bl b)):=λ _ _ _ H _ I h=>Constant_bool ⟨.bl b,H,I,rfl,h⟩
theorem rm:PE X (.Constant .none j pos) (tC .non):=λ _ _ _ H _ I h=>Constant_none ⟨.non,H,I,rfl,h⟩
theorem rn:PE X (.Constant (.str x) j pos) (tC (.str x)):=λ _ _ _ H _ I h=>Calls.Constant_str ⟨.str x,H,I.tok _,⟨_,rfl⟩,h⟩
def Gl(X:Cx)(x:Str):Prop:=X.env.kindOf x=some .globalImplicit
theorem Q6(I:Inv X a σ H s)(c:Gl X x)(b:X.mg x=some u)(h:Q u s)
  (d:(x==("__debug__" : Str))=false:=by decide):wpAny (model X.prog X.w) X.A (eval (.Name x pos) X.env) Q E s:=
 jS I.ok.kind c (Calls.loadGlobal_global (by rw[I.ok.glob];exact I.mod.glob.keeps I.bk) b h) d
theorem am(I:Inv X a σ H s)(e:Gl X x)(d:X.mg x=none)(b:bootBuiltins x=some u)(h:Q u s)
  (c:x ≠ "__name__":=by decide) (f:(x==("__debug__" : Str))=false:=by decide):wpAny (model X.prog X.w) X.A (eval (.Name x pos) X.env) Q E s:=by
 obtain⟨mb,i,g⟩:=I.mod.blt;exact jS I.ok.kind e (Calls.loadGlobal_builtin (by rw[I.ok.glob];exact I.mod.glob.keeps I.bk) d (by rw[I.ok.blt];exact i.keeps I.bk) ((g x c).trans b) h) f
theorem dB(b:Gl X x)(a:X.mg x=some u)(r:RelV v u)(c:(x==("__debug__" : Str))=false:=by decide):PE X (.Name x pos) (tC v):=
 λ _ _ _ H _ I h=>Q6 I b a ⟨v,H,I,r,h⟩ c
theorem dC(d:Gl X x)(c:X.mg x=none)(a:bootBuiltins x=some u)(r:RelV v u)(b:x ≠ "__name__":=by decide)(e:(x==("__debug__" : Str))=false:=by decide):PE X (.Name x pos) (tC v):=
 λ _ _ _ H _ I h=>am I d c a ⟨v,H,I,r,h⟩ b e
variable {a b:EI} {ta tb:TE} {pos:Pos}
noncomputable def tAnd(t u:TT):TT:=λ σ H Q=>t σ H λ c H1=>if c=true then u σ H1 Q else Q false H1
noncomputable def tOr(t u:TT):TT:=λ σ H Q=>t σ H λ c H1=>if c=true then Q true H1 else u σ H1 Q
noncomputable def tNot(t:TT):TT:=λ σ H Q=>t σ H λ c H1=>Q (!c) H1
theorem ro(g:PT X a d):PW X (.BoolOp .And [a] pos) d:=by
 intro wh b s f H Q I h;refine isTrue_and (thn (g b s f H Q I h) λ c s1 e=>?_);cases c with
 | true=>exact isTrue_and_nil e
 | false=>exact e
theorem rq(g:PT X a d):PW X (.BoolOp .Or [a] pos) d:=by
 intro wh b s f H Q I h;refine isTrue_or (thn (g b s f H Q I h) λ c s1 e=>?_);cases c with
 | false=>exact isTrue_or_nil e
 | true=>exact e
theorem gq{rest:ge EI}(n:PT X a g)(m:PW X (.BoolOp .And (b::rest) pos) e):PW X (.BoolOp .And (a::b::rest) pos) (tAnd g e):=by
 intro l d s f H Q I h;refine isTrue_and (thn (n d s f H _ I h) λ c s1 ⟨k,j,i⟩=>?_);cases c with
 | true=>exact m l d s1 f k Q j i
 | false=>exact⟨k,j,i⟩
theorem gr{rest:ge EI}(n:PT X a g)(m:PW X (.BoolOp .Or (b::rest) pos) e):PW X (.BoolOp .Or (a::b::rest) pos) (tOr g e):=by
 intro l d s f H Q I h;refine isTrue_or (thn (n d s f H _ I h) λ c s1 ⟨k,j,i⟩=>?_);cases c with
 | true=>exact⟨k,j,i⟩
 | false=>exact m l d s1 f k Q j i
theorem lg(e:PT X a c):PT X (.UnaryOp .Not a pos) (tNot c):=by
 intro b s d H Q I h;exact isTrue_not (e b s d H _ I h)
theorem lh(h:PE X a t):PE X (.BoolOp op [a] pos) t:=λ b s c H Q I d=>BoolOp_one (h b s c H Q I d)
noncomputable def tIf(t:TT)(ta tb:TE):TE:=λ σ H Q=>t σ H λ c H1=>if c=true then ta σ H1 Q else tb σ H1 Q
theorem gu(l:PT X c g)(n:PE X a ta)(m:PE X b tb):PE X (.IfExp c a b pos) (tIf g ta tb):=by
 intro e s f H Q I h;refine wpAny_IfExp (thn (l e s f H _ I h) λ d s1 ⟨k,j,i⟩=>?_);cases d with
 | true=>exact n e s1 f k Q j i
 | false=>exact m e s1 f k Q j i
end
end L2
namespace L2
open PySem PySem.Spec PyProof.Rows
def SqL(K:EQ)(H:Hp)(a:EG)(xs:ge V):Prop:=
 Rd H a (.lst xs) \/
  ∃(o:Obj) (its:EJ ED) (n:Nat),K.lookup a=some o/\o.cls=.type "list" /\ o.dict=none/\o.data=.seq its n/\its.size<=sizeLine/\Vals xs its.toList
def SqT(K:EQ)(H:Hp)(a:EG)(xs:ge V):Prop:=
 Rd H a (.tup xs) \/
  ∃(o:Obj) (its:EJ ED) (n:Nat),K.lookup a=some o/\(o.cls=.type "tuple" /\ o.dict=none)/\o.data=.seq its n/\its.size<=sizeLine/\Vals xs its.toList
noncomputable def absV:ED->EC V
 | .none=>some .non
 | .bool b=>some (.bl b)
 | .int i _=>some (.int i)
 | .str x _=>some (.str x)
 | .bytes b _=>some (.byt b)
 | .float b _=>some (.flt b)
 | .ref a=>some (.ref a)
 | .type n=>some (.ty n)
 | _=>none
theorem RelV.abs(r:RelV x u):absV u=some x:=by
 cases x with
 | non=>cases r;rfl
 | bl _=>cases r;rfl
 | int _=>obtain⟨t,rfl⟩:=r;rfl
 | str _=>obtain⟨t,rfl⟩:=r;rfl
 | byt _=>obtain⟨t,rfl⟩:=r;rfl
 | flt _=>obtain⟨t,rfl⟩:=r;rfl
 | ref _=>cases r;rfl
 | ty _=>cases r;rfl
theorem RelV.inj(r:RelV x u)(q:RelV y u):x=y:=v5 (r.abs.symm.trans q.abs)
theorem Vals.inj(h:Vals b c):Vals a c->b=a:=by
 induction h generalizing a with
 | nil=>intro t;cases t;rfl
 | cons r _ f=>intro t;cases t with | cons e d=>rw[r.inj e,f d]
theorem SqL.of{K:EQ}(h:H a=some (.lst b)):SqL K H a b:=.inl (.inl h)
theorem SqT.of{K:EQ}(h:H a=some (.tup b)):SqT K H a b:=.inl (.inl h)
theorem Inv.list(I:Inv X c σ H s)(h:SqL X.K H a d):∃b:ge ED,Vals d b/\PlainL s.heap a b.toArray/\d.length<=sizeLine:=by
 rcases h with h | ⟨o,b,n,hk,hc,hd,hs,hz,r⟩
 ·obtain⟨z,b,n,r,e⟩:=h.ok I.hok;exact⟨b,r,⟨_,n,e,rfl,rfl,rfl⟩,z⟩
 ·refine⟨b.toList,r,⟨o,n,I.kIn a o hk,hc,hd,by simpa using hs⟩,?_⟩;have e:=r.length;simp only[A5]at e;omega
theorem Inv.tuple(I:Inv X c σ H s)(h:SqT X.K H a d):∃b:ge ED,Vals d b/\IsTup s.heap a b.toArray/\d.length<=sizeLine:=by
 rcases h with h | ⟨o,b,n,hk,hc,hs,hz,r⟩
 ·obtain⟨z,b,r,p⟩:=h.ok I.hok;exact⟨b,r,p.tup,z⟩
 ·refine⟨b.toList,r,⟨o,I.kIn a o hk,hc.1,n,by simpa using hs⟩,?_⟩;have e:=r.length;simp only[A5]at e;omega
theorem Inv.tupleN(I:Inv X b σ H s)(h:SqT X.K H a f):∃o,s.heap.get? a=some o/\o.cls=.type "tuple" /\ o.dict=none:=by
 rcases h with h | ⟨o,d,n,hk,hc,hs,hz,r⟩
 ·obtain⟨z,d,r,o,e,c,_⟩:=h.ok I.hok;exact⟨o,e,c.1,c.2⟩
 ·exact⟨o,I.kIn a o hk,hc.1,hc.2⟩
theorem Inv.list_inj(I:Inv X b σ H s)(h:SqL X.K H a i)(h':SqL X.K H a g):i=g:=by
 obtain⟨f,r,⟨o,n,e,_,_,d⟩,_⟩:=I.list h;obtain⟨c,l,⟨o',n',j,_,_,k⟩,_⟩:=I.list h';rw[e]at j;cases j;rw[d]at k;injection k with d1 _
 have:f=c:=by simpa using congrArg Array.toList d1
 subst this;exact r.inj l
theorem Inv.tuple_inj(I:Inv X b σ H s)(h:SqT X.K H a i)(h':SqT X.K H a g):i=g:=by
 obtain⟨f,r,⟨o,e,_,n,d⟩,_⟩:=I.tuple h;obtain⟨c,l,⟨o',j,_,n',k⟩,_⟩:=I.tuple h';rw[e]at j;cases j;rw[d]at k;injection k with d1 _
 have:f=c:=by simpa using congrArg Array.toList d1
 subst this;exact r.inj l
section
variable {X:Cx} {st:EN} {rest:ge EN} {t u:TS} {e:EI} {te:TE} {pos:Pos}
noncomputable def rr:TS:=λ D σ H=>D.nx σ H
noncomputable def tSeq(t u:TS):TS:=λ D σ H=>t {D with nx:=u D} σ H
theorem li:PSs X [] rr:=λ _ _ a H _ I h=>ai ⟨a,H,I,h⟩
theorem X5(e:PS X st t)(d:PSs X rest u):PSs X (st::rest) (tSeq t u):=by
 intro a s c H D I h;refine fR (thn (e a s c H {D with nx:=u D} I h) λ f s1 q=>?_);cases f with
 | next=>
  obtain⟨b,i,g,q⟩:=q;exact d a s1 b i D g q
 | ret v=>exact q
 | brk=>exact q
 | cont=>exact q
theorem ry(c:PS X st t):PSs X [st] t:=by
 intro a s b H D I h;refine fR (thn (c a s b H D I h) λ f s1 q=>?_);cases f with
 | next=>exact ai q
 | ret v=>exact q
 | brk=>exact q
 | cont=>exact q
theorem Inv.quiet(I:Inv X a σ H s):interactive X.env=false:=by simp[interactive,I.ok.kind]
noncomputable def rz(te:TE):TS:=λ D σ H=>te σ H λ _ H1=>D.nx σ H1
theorem dD(f:PE X e te)(d:swapsWith e none pos.line X.env=pure false:=by rfl):PS X (.Expr e pos) (rz te):=by
 intro a s b H D I h;exact wpAny_Expr_any (thn (f a s b H _ I h) λ v s1 ⟨x,i,g,r1,c⟩=>⟨b,i,g,c⟩) I.quiet d
noncomputable def tRet(te:TE):TS:=λ D σ H=>te σ H D.rt
theorem X6(f:PE X e te):PS X (.Return (some e) pos) (tRet te):=by
 intro a s b H D I h;exact wpAny_Return_some (thn (f a s b H _ I h) λ v s1 ⟨x,i,g,c,d⟩=>⟨x,b,i,g,c,d⟩)
noncomputable def tIfS(c:TT)(t u:TS):TS:=λ D σ H=>c σ H λ b H1=>if b=true then t D σ H1 else u D σ H1
theorem gw(l:PT X c g)(n:PSs X a t)(m:PSs X b u):PS X (.If c a b pos) (tIfS g t u):=by
 intro e s f H D I h;refine wpAny_If (thn (l e s f H _ I h) λ d s1 ⟨k,j,i⟩=>?_);cases d with
 | true=>exact n e s1 f k D j i
 | false=>exact m e s1 f k D j i
noncomputable def rA:TS:=λ _ _ _=>False
theorem U3:PSs X a rA:=λ _ _ _ _ _ _ h=>h.elim
end
abbrev TG:=V->St->Hp->(St->Hp->Prop)->Prop
abbrev TGs:=ge V->St->Hp->(St->Hp->Prop)->Prop
def PG(X:Cx)(target:EI)(t:TG):Prop:=
 ∀(pins:ge (EG×Obj)) (s:EF) (σ:St) (H:Hp) (v:V) (u:ED) (Q:St->Hp->Prop),Inv X pins σ H s->RelV v u->t v σ H Q ->
  wpAny (model X.prog X.w) X.A (assign target X.env u) (λ _ s'=>∃σ' H',Inv X pins σ' H' s'/\Q σ' H') X.xe s
def PGs(X:Cx)(ts:ge EI)(t:TGs):Prop:=
 ∀(pins:ge (EG×Obj)) (s:EF) (σ:St) (H:Hp) (vs:ge V) (us:ge ED) (Q:St->Hp->Prop),Inv X pins σ H s->Vals vs us->t vs σ H Q ->
  wpAny (model X.prog X.w) X.A (assignInOrder ((assignEach ts X.env).map (·.2)) us) (λ _ s'=>∃σ' H',Inv X pins σ' H' s'/\Q σ' H') X.xe s
noncomputable def bj(i:Nat):TG:=λ v σ H Q=>Q (σ.set i (some v)) H
theorem lj(e:X.N.Nodup)(c:X.N[i]? = some x)(b:Loc X.env.scope x)(d:X.fn x=true\/X.env.scope.names.lookup x=some .local:=by first | exact .inl rfl | exact .inr rfl | assumption):PG X (.Name x pos) (bj i):=by
 intro a s σ H v u Q I r h;exact wpAny_assign_Name (gp I e c b r (λ s' f=>⟨_,H,f,h⟩) d)
noncomputable def gNil:TGs:=λ vs σ H Q=>vs=[]/\Q σ H
noncomputable def ll(t:TG)(u:TGs):TGs:=λ vs σ H Q=>∃v r,vs=v::r/\t v σ H λ σ' H'=>u r σ' H' Q
theorem rB:PGs X [] gNil:=by
 intro a s b H vs us Q I r h;obtain⟨e,h⟩:=h;subst e;cases r;exact assignInOrder_nil ⟨b,H,I,h⟩
theorem rC(k:PG X e t)(j:PGs X b u)
  (i:(assignEach (e::b) X.env).map (·.2)=assign e X.env::(assignEach b X.env).map (·.2):=by rfl):PGs X (e::b) (ll t u):=by
 intro a s d H vs us Q I r h;obtain⟨v,vr,l,h⟩:=h;subst l;cases r with
 | cons r f=>
  rw[i];refine assignInOrder_cons (thn (k a s d H _ _ _ I r h) λ _ s1 ⟨c,n,m,g⟩=>?_);exact j a s1 c n _ _ Q m f g
noncomputable def gTup(K:EQ)(n:Nat)(t:TGs):TG:=λ v σ H Q=>∃a xs,v=.ref a/\SqT K H a xs/\xs.length=n/\t xs σ H Q
theorem lm(z:X.calm=true)(h:PGs X d t)
  (x:(assignEach d X.env).length=n:=by rfl) (g:(assignEach d X.env).findIdx? (·.1)=none:=by rfl):PG X (.Tuple d k pos) (gTup X.K n t):=by
 intro c s j H v u Q I r f;obtain⟨a,l,A,w,y,f⟩:=f;subst A;cases r;obtain⟨m,i,q,hz⟩:=I.tuple w;refine assign_Tuple_tuple (I.ok.hd z) q (by simp[x,←y,i.length]) g λ h' p=>?_
 exact h c _ j H l _ Q (I.kept λ b o e=>p b o (j5 (i8 e)) e) (by simpa using i) f
noncomputable def tAsg(te:TE)(g:TG):TS:=λ D σ H=>te σ H λ x H1=>g x σ H1 D.nx
theorem rD(k:PE X e c)(j:PG X tg g)(i:swapsWithSole [tg] e pos.line X.env=pure false:=by rfl)(hw:swappedStores [tg] e X.env=pure none:=by rfl)
  (l:(assignEach [tg] X.env).map (·.2)=[assign tg X.env]:=by rfl):PS X (.Assign [tg] e pos) (tAsg c g):=by
 intro a s b H D I h;refine wpAny_Assign_stores (thn (k a s b H _ I h) λ v s1 ⟨x,n,m,d,f⟩=>?_) i hw;rw[l];exact thn (j a s1 b n x v _ m d f) λ _ s2 q=>q
theorem X7(o:X.N.Nodup)(l:X.N[i]? = some x)(j:Loc X.env.scope x)(n:PE X e c)(k:swapsWith e (some (.Name x a)) pos.line X.env=pure false:=by rfl)(m:X.fn x=true\/X.env.scope.names.lookup x=some .local:=by first | exact .inl rfl | exact .inr rfl | assumption) :
  PS X (.Assign [.Name x a] e pos) (tAsg c (bj i)):=by
 intro b s d H D I h;refine wpAny_Assign_Name (thn (n b s d H _ I h) λ v s1 ⟨y,r,q,f,g⟩=>?_) k;exact gp q o l j f (λ s2 p=>⟨_,r,p,g⟩) m
noncomputable def rE(c:TT)(tb:TS):TS:=λ D σ H=>∃W:Nat->St->Hp->Prop,(∃m,W m σ H)/\∀m σ H,W m σ H ->
 c σ H λ b H1=>if b=true then ∃N:St->Hp->Prop,(∀σ' H',N σ' H'->∃m',m'<m/\W m' σ' H')/\tb {D with nx:=N,ct:=N,bk:=D.nx} σ H1 else D.nx σ H1
theorem rF(t:PassesOwn (model X.prog X.w) X.A X.env X.xe)(F:PT X c r)(J:PSs X body tb):PS X (.While c body [] pos) (rE r tb):=by
 intro d s z H D I h;obtain⟨W,⟨E,A⟩,g⟩:=h;refine wpAny_While (codeAny_whileLoop (λ n C=>∃e y,Inv X d e y C/\W n e y) ?_ E ⟨z,H,I,A⟩)
 rintro n s1 ⟨σ1,H1,I1,w1⟩
 refine X0 t (thn (F d s1 σ1 H1 _ I1 (g n σ1 H1 w1)) λ b B ⟨x,w,k⟩=>?_);cases b with
 | true=>
  obtain⟨N,u,k⟩:=k;rw[i3 rfl];refine X0 t (thn (J d B σ1 x _ w k) λ f s3 j=>?_);cases f with
  | next=>
   obtain⟨a,i,q,m⟩:=j;obtain⟨o,p,l⟩:=u a i m;exact⟨o,p,a,i,q,l⟩
  | cont=>
   obtain⟨a,i,q,m⟩:=j;obtain⟨o,p,l⟩:=u a i m;exact⟨o,p,a,i,q,l⟩
  | brk=>exact j
  | ret v=>exact j
 | false=>
  rw[i4 B6];exact ai ⟨σ1,x,w,k⟩
structure It where
 go:Nat->Hp->Prop
 yld:Nat->Hp->V->Hp->Prop
 stop:Nat->Hp->Prop
def FpOk(X:Cx)(pins:ge (EG×Obj))(H:Hp)(b:EG):Prop:=
 H b=none/\b≠X.env.locals/\b∉X.fs/\(b∈X.ex\/X.s₀.heap.objs.size<=b)/\(∀x c,X.env.cells.lookup x=some c->c≠b)/\∀p∈X.pn++pins,p.1≠b
theorem Inv.fpOk(I:Inv X a σ H s)(d:s.heap.objs.size<=b)(h:f b=none):FpOk X a f b:=by
 refine⟨h,N5 (q5 I.lt d),I.nofs d,.inr (o6 I.sz d),λ x c e z=>?_,λ p g z=>?_⟩
 ·obtain⟨v,q⟩:=I.cell x c e;exact absurd (q5 q.lt (by rw[z];exact d)) (N4 _)
 ·exact absurd (q5 (i8 (I.pin p g).1) (by rw[z];exact d)) (N4 _)
structure Turn(P:Program)(w:World)(K:PySem.W.Frag)(tg:Expr)(J:It)(fp:List Addr)(it:Addr)(tn:Nat->Heap->Prop):Prop where
 mem:it∈fp
 obj:∀i h,tn i h->∀b∈fp,∃o,h.get? b=some o/\∀v,o.data ≠ .cell v
 keep:∀i h h',tn i h->(∀b∈fp,∀o,h.get? b=some o->h'.get? b=some o)->tn i h'
 item:∀(X:Cx),X.prog=P->X.w=w->X.K=K->X.calm=true->∀(i:Nat) (pins:List (Addr×Obj)) (s:Shared) (σ:St) (H:Hp) (E:Value->Shared->Prop),Inv X pins σ H s->(∀b∈fp,FpOk X pins H b)->tn i s.heap->J.go i H ->
  wpAny (model P w) X.A (pyNext (.ref it)) (λ r s1=>∃u,r=some u /\
   wpAny (model P w) X.A (letOwnedTupleGo tg (.ref it) u) (λ _ s2=>∃x H',Inv X pins σ H' s2/\RelV x u/\J.yld i H x H'/\tn (i+1) s2.heap/\∀b∈fp,H' b=none) E s1) E s
 done:∀(X:Cx),X.prog=P->X.w=w->X.K=K->X.calm=true->∀(i:Nat) (pins:List (Addr×Obj)) (s:Shared) (σ:St) (H:Hp) (E:Value->Shared->Prop),Inv X pins σ H s->(∀b∈fp,FpOk X pins H b)->tn i s.heap->J.stop i H ->
  wpAny (model P w) X.A (pyNext (.ref it)) (λ r s1=>r=none/\Inv X pins σ H s1) E s
 self:∀(A:Around) (i:Nat) (s:Shared) (Q:Value->Shared->Prop) (E:Value->Shared->Prop),tn i s.heap->Q (.ref it) s->wpAny (model P w) A (pyIter (.ref it)) Q E s
abbrev TI:=St->Hp->(It->Hp->Prop)->Prop
def PIE(X:Cx)(pins:ge (EG×Obj))(σ:St)(tg:EI)(R:It->Hp->Prop)(itv:ED)(s2:EF):Prop:=
 ∃(it:EG) (fp:ge EG) (tn:Nat->EH->Prop) (J:It) (H':Hp),itv=.ref it/\Inv X pins σ H' s2/\Turn X.prog X.w X.K tg J fp it tn/\tn 0 s2.heap/\(∀b∈fp,FpOk X pins H' b)/\R J H'
def PI(X:Cx)(tg iter:EI)(wi:TI):Prop:=
 ∀(pins:ge (EG×Obj)) (s:EF) (σ:St) (H:Hp) (R:It->Hp->Prop),Inv X pins σ H s->wi σ H R ->
  wpAny (model X.prog X.w) X.A (eval iter X.env) (λ v s1=>wpAny (model X.prog X.w) X.A (pyIter v) (PIE X pins σ tg R) X.xe s1) X.xe s
theorem bn(b:s.heap.get? it=some o)(e:o.cls=.type n)(d:o.data=.fields vs)
    (c : ["enumerate","zip","dict_itemiterator","dict_reverseitemiterator","odict_iterator","itertools.zip_longest","itertools.pairwise"].contains n=false) (a:Q () s):wpAny M A (letOwnedTupleGo tg (.ref it) u) Q E s:=by
  unfold letOwnedTupleGo;cases tg<;>first
    | exact i0 a
    | (cases u<;>first
        | exact i0 a
        | (refine g6 (be b ?_)
           rw[e,d];show wpAny M A (if(["enumerate","zip","dict_itemiterator","dict_reverseitemiterator","odict_iterator","itertools.zip_longest","itertools.pairwise"].contains n&&vs[0]? == some _)=true then _ else _) Q E s;rw[i4 (by intro h;rw[c,Bool.false_and]at h;cases h)];exact i0 a))
noncomputable def Itl(K:EQ)(a:EG):It:=
 ⟨λ i H=>∃xs x,SqL K H a xs/\xs[i]? = some x,λ i H x H'=>H'=H/\∀xs,SqL K H a xs->xs[i]? = some x,λ i H=>∃xs,SqL K H a xs/\xs.length<=i⟩
noncomputable def Itt(K:EQ)(a:EG):It:=
 ⟨λ i H=>∃xs x,SqT K H a xs/\xs[i]? = some x,λ i H x H'=>H'=H/\∀xs,SqT K H a xs->xs[i]? = some x,λ i H=>∃xs,SqT K H a xs/\xs.length<=i⟩
noncomputable def Itr(lo:Int)(n:Nat):It:=⟨λ i _=>i<n,λ i H x H'=>H'=H/\x=.int (lo+i),λ i _=>n<=i⟩
theorem rG{K:EQ}(a it:EG):Turn P w K tg (Itl K a) [it] it (λ i h=>h.IsListIter it a i) where
 mem:=by simp
 obj:=λ i h st b f=>by
  have e:b=it:=by simpa using f
  subst e;obtain⟨o,e,c,d⟩:=st;exact⟨o,e,λ v z=>by rw[d]at z;cases z⟩
 keep:=λ i h O st k=>st.at λ o e=>k it (by simp) o e
 item:=by
  intro X A t B N i j s Q H E I m st y;subst A t B;obtain⟨R,x,l,r⟩:=y;obtain⟨q,n,p,W⟩:=I.list l;obtain⟨u,Z,U⟩:=n.get r;obtain⟨M,L,f2,J,F,C⟩:=m it (by simp);refine kq st p.isList (by simpa using Z) λ O g S=>?_
  obtain⟨o,e,c,d⟩:=id g;exact⟨u,rfl,bn e c d (by decide) ⟨x,H,(I.turned (λ b o f e=>(S.2 b f).trans e) M L J F C),U,⟨rfl,λ ys Y=>by rw[I.list_inj Y l];exact r⟩,g,λ b f=>(m b f).1⟩⟩
 done:=by
  intro X A t B N i j s Q H E I m st y;subst A t B;obtain⟨R,l,r⟩:=y;obtain⟨q,n,p,W⟩:=I.list l;obtain⟨M,L,f2,J,F,C⟩:=m it (by simp);have hl:=n.length;exact kJ (I.ok.hd N) st p.isList (by simp;omega) λ O eb=>⟨rfl,I.turned (λ b o f e=>eb b o f e) M L J F C⟩
 self:=λ _ _ _ _ _ st h=>wpAny_pyIter_listiter st h
theorem rH{K:EQ}(a it:EG):Turn P w K tg (Itt K a) [it] it (λ i h=>h.IsTupleIter it a i) where
 mem:=by simp
 obj:=λ i h st b f=>by
  have e:b=it:=by simpa using f
  subst e;obtain⟨o,e,c,d⟩:=st;exact⟨o,e,λ v z=>by rw[d]at z;cases z⟩
 keep:=λ i h O st k=>st.at λ o e=>k it (by simp) o e
 item:=by
  intro X A t B N i j s Q H E I m st y;subst A t B;obtain⟨R,x,l,r⟩:=y;obtain⟨q,n,p,W⟩:=I.tuple l;obtain⟨u,Z,U⟩:=n.get r;obtain⟨M,L,f2,J,F,C⟩:=m it (by simp);refine wpAny_pyNext_tuple_item st (p) (by simpa using Z) λ O g S=>?_
  obtain⟨o,e,c,d⟩:=id g;exact⟨u,rfl,bn e c d (by decide) ⟨x,H,(I.turned (λ b o f e=>(S.2 b f).trans e) M L J F C),U,⟨rfl,λ ys Y=>by rw[I.tuple_inj Y l];exact r⟩,g,λ b f=>(m b f).1⟩⟩
 done:=by
  intro X A t B N i j s Q H E I m st y;subst A t B;obtain⟨R,l,r⟩:=y;obtain⟨q,n,p,W⟩:=I.tuple l;obtain⟨M,L,f2,J,F,C⟩:=m it (by simp);have hl:=n.length;exact wpAny_pyNext_tuple_end (I.ok.hd N) st (p) (by simp;omega) λ O eb=>⟨rfl,I.turned (λ b o f e=>eb b o f e) M L J F C⟩
 self:=λ _ _ _ _ _ st h=>wpAny_pyIter_tupleiter st h
theorem rJ{K:EQ}(it:EG)(f:Int)(n:Nat):Turn P w K tg (Itr f n) [it] it (λ i h=>IsRangeIter h it (f+(i:Nat)*1) ((n:Int) - (i:Nat)) 1) where
 mem:=by simp
 obj:=λ i h st b a=>by
  have e:b=it:=by simpa using a
  subst e;exact⟨_,st,λ v z=>by
   have F:=z;cases F⟩
 keep:=λ i h B st k=>k it (by simp) _ st
 item:=by
  intro X p j q m i d s C H E I g st l;subst p j q;obtain⟨A,y,M,x,u,r⟩:=g it (by simp);refine (Walks.range (I.ok.hd m) it f 1 n).item i s _ _ l st λ v B tk L c J=>?_
  obtain⟨t,rfl⟩:=L;refine⟨_,rfl,bn c rfl rfl (by decide) ⟨.int (f+i),H,(I.turned (λ b o a e=>J b o (by simpa using a) e) A y x u r),⟨t,?_⟩,⟨rfl,rfl⟩,c,λ b a=>(g b a).1⟩⟩;rw[Int.mul_one]
 done:=by
  intro X p j q m i d s C H E I g st l;subst p j q;obtain⟨A,y,M,x,u,r⟩:=g it (by simp);exact wpAny_pyNext_range_end (I.ok.hd m) st (by have:n<=i:=l;omega) λ B N=>⟨rfl,I.turned (λ b o a e=>N b o a e) A y x u r⟩
 self:=λ _ _ _ _ _ st h=>wpAny_pyIter_rangeiter st h
end L2
namespace L2
open PySem PySem.Spec PyProof.Rows
def rK(K:EQ)(tl:TE):TI:=λ σ H R=>tl σ H λ x H1=>∃a,x=.ref a/\(∃xs,SqL K H1 a xs)/\R (Itl K a) H1
def iTup(K:EQ)(tl:TE):TI:=λ σ H R=>tl σ H λ x H1=>∃a,x=.ref a/\(∃xs,SqT K H1 a xs)/\R (Itt K a) H1
theorem gz(n:PE X l f):PI X tg l (rK X.K f):=by
 intro c s g H R I h;refine thn (n c s g H _ I h) λ v s1 ⟨x,t,d,i,j⟩=>?_
 obtain⟨a,e,⟨xs,m⟩,q⟩:=j;subst e;cases i;obtain⟨k,rv,p,hz⟩:=d.list m;refine P8 p.isList ?_;refine⟨s1.heap.objs.size,[s1.heap.objs.size],_,_,t,rfl,d.kept λ b o e=>i5 _ e,rG a _,⟨_,k6 _ rfl,rfl,rfl⟩,λ b r=>?_,q⟩;have e:b=s1.heap.objs.size:=by simpa using r
 subst e;exact d.fpOk (j0 _) (d.hok.fresh (j0 _))
theorem rL(n:PE X l f):PI X tg l (iTup X.K f):=by
 intro c s g H R I h;refine thn (n c s g H _ I h) λ v s1 ⟨x,t,d,i,j⟩=>?_
 obtain⟨a,e,⟨xs,m⟩,q⟩:=j;subst e;cases i;obtain⟨k,rv,p,hz⟩:=d.tuple m;refine S8 (p) ?_;refine⟨s1.heap.objs.size,[s1.heap.objs.size],_,_,t,rfl,d.kept λ b o e=>i5 _ e,rH a _,⟨_,k6 _ rfl,rfl,rfl⟩,λ b r=>?_,q⟩;have e:b=s1.heap.objs.size:=by simpa using r
 subst e;exact d.fpOk (j0 _) (d.hok.fresh (j0 _))
theorem rM(I:Inv X c σ H s)(k : -(2^62)<=a)(j:a<2^62)(i : -(2^62)<=d)(h:d<2^62)
  (q:R (Itr a (d - a).toNat) H):wpAny (model X.prog X.w) X.A (pyIter (.ref s.heap.objs.size)) (PIE X c σ tg R) E {s with heap:=s.heap.push {cls:=.type "range",data:=.fields #[.int a t,.int d u,.int 1 v]},toks:=tk}:=by
 refine wpAny_pyIter_range (IsRange.new ..) (small_one k j i h) ?_;have f:Inv X c σ H {s with heap:=s.heap.push {cls:=.type "range",data:=.fields #[.int a t,.int d u,.int 1 v]},toks:=tk}:=I.kept λ b o e=>i5 _ e;refine⟨(s.heap.push {cls:=.type "range",data:=.fields #[.int a t,.int d u,.int 1 v]}).objs.size,[(s.heap.push {cls:=.type "range",data:=.fields #[.int a t,.int d u,.int 1 v]}).objs.size],_,_,H,rfl,
  f.kept λ b o e=>i5 _ e,rJ _ a (d - a).toNat,?_,λ b g=>?_,q⟩
 ·have m:a+((0:Nat):Int)*1=a:=by simp
  have l:(((d - a).toNat:Nat):Int) - ((0:Nat):Int)=Builtin.Range.rangeSize a d 1:=by rw[rangeSize_one];split<;>omega
  show IsRangeIter _ _ _ _ 1;rw[m,l];exact k6 _ rfl
 ·have e:b=(s.heap.push {cls:=.type "range",data:=.fields #[.int a t,.int d u,.int 1 v]}).objs.size:=by simpa using g
  subst e;exact f.fpOk (j0 _) (f.hok.fresh (j0 _))
def rN(ta:TA):TI:=λ σ H R=>ta σ H λ vs H1=>∃j:Int,vs=[.int j] /\ -(2^62)<=j/\j<2^62/\R (Itr 0 j.toNat) H1
theorem rO(n:Gl X "range")(m:X.mg "range" = none)(o:PA X [a] d)(l:starEach [a] X.env=[(false,eval a X.env)]:=by rfl):PI X tg (.Call (.Name "range" p) [a] [] pos) (rN d):=by
 intro b s f H R I h;refine Call_ (am I n m boot_range (cF (thn (o pos b s f H _ I h) λ us s1 ⟨vs,H1,u,i,c⟩=>?_) l rfl));obtain⟨j,e,c,k,q⟩:=c;subst e;cases i with
 | cons r g=>
  cases g;obtain⟨t,rfl⟩:=r;exact call_range_1 (rM u (by omega) (by omega) c k (by simpa using q))
noncomputable def tFor(wi:TI)(g:TG)(tb:TS):TS:=λ D σ H=>wi σ H λ J H1=>∃W:Nat->Nat->St->Hp->Prop,(∃m,W 0 m σ H1)/\∀i m σ H,W i m σ H ->
 (J.stop i H/\D.nx σ H)\/(J.go i H/\∃N:St->Hp->Prop,(∀σ' H',N σ' H'->∃m',m'<m/\W (i+1) m' σ' H')/\∀x H',J.yld i H x H'->g x σ H' λ σ2 H2=>tb {D with nx:=N,ct:=N,bk:=D.nx} σ2 H2)
noncomputable def dF(fp:ge EG)(h:EH):ge (EG×Obj):=fp.filterMap λ b=>(h.get? b).map λ o=>(b,o)
theorem dG(c:b∈a)(e:h.get? b=some o):(b,o)∈dF a h:=N1.mpr ⟨b,c,by rw[e];rfl⟩
theorem rQ(c:p∈dF a h):p.1∈a/\h.get? p.1=some p.2:=by
 obtain⟨b,d,e⟩:=N1.mp c;cases q:h.get? b with
 | none=>rw[q]at e;cases e
 | some o=>
  rw[q]at e;have f:=v5 e;subst f;exact⟨d,q⟩
theorem Inv.pinned(I:Inv X a σ H s)(j:∀b∈c,FpOk X a H b)(i:∀b∈c,∃o,s.heap.get? b=some o/\∀v,o.data ≠ .cell v):Inv X (a++dF c s.heap) σ H s:=
 I.pins_of λ p h=>(x5.mp h).elim (λ z=>I.pin p (y8 _ z)) λ z=>by obtain⟨f,e⟩:=rQ z;obtain⟨m,l,k,_⟩:=j p.1 f;obtain⟨o,g,d⟩:=i p.1 f;rw[e]at g;cases g;exact⟨e,m,l,k,d⟩
theorem Inv.unpinned(I:Inv X (a++pl) σ H s):Inv X a σ H s:=I.pins_of λ p b=>I.pin p (y8 _ (u8 _ b))
theorem lq(F:PassesOwn (model X.prog X.w) X.A X.env X.xe)(hc:X.calm=true)(hi:PI X tg l U)(hg:PG X tg g)(p:PSs X body tb)
  (hs:∀x,foldedSetIterable l X.env x=pure x:=by intro _;rfl):PS X (.For tg l body [] pos) (tFor U g tb):=by
 intro c s S H D I h;refine wpAny_For (thn (hi c s S H _ I h) λ v s1 h1=>thn h1 λ itv s2 h2=>?_) hs;obtain⟨it,K,Y,J,H2,e,I2,T,M,f2,W,⟨m0,w0⟩,B⟩:=h2;subst e;have k:∀{y:Hp},(∀b∈K,y b=none)->∀b∈K,FpOk X c y b:=λ hn b p=>⟨hn b p,(f2 b p).2⟩
 refine codeAny_forLoop_any (λ n s'=>∃i j y,Inv X c j y s'/\Y i s'.heap/\(∀b∈K,y b=none)/\W i n j y) ?_ m0 ⟨0,S,H2,I2,M,λ b p=>(f2 b p).1,w0⟩
 rintro n Z ⟨i,σ3,H3,I3,st3,fr3,w3⟩
 rcases B i n σ3 H3 w3 with⟨C,qn⟩ | ⟨go,N,hN,step⟩
 ·refine X0 F (thn (T.done X rfl rfl rfl hc i c Z σ3 H3 X.xe I3 (k fr3) st3 C) λ r s4 ⟨P,I4⟩=>?_);subst P;exact ai ⟨σ3,H3,I4,qn⟩
 ·refine X0 F (thn (T.item X rfl rfl rfl hc i c Z σ3 H3 X.xe I3 (k fr3) st3 go) λ r s4 ⟨u,P,h4⟩=>?_);subst P;refine X0 F (thn h4 λ _ s5 ⟨x,H5,I5,r5,y5,A,Q⟩=>?_);have R:=I5.pinned (k Q) (T.obj _ _ A);refine X0 F (thn (hg _ s5 σ3 H5 x u _ R r5 (step x H5 y5)) λ _ s6 ⟨L,H6,I6,q6⟩=>?_);refine X0 F (thn (p _ s6 L H6 _ I6 q6) λ f O z=>?_);have q:∀{a:St} {w:Hp},Inv X _ a w O->N a w->∃m,m<n/\∃i j y,Inv X c j y O/\Y i O.heap/\(∀b∈K,y b=none)/\W i m j y:=λ {a w} t E=>by obtain⟨m',hm,w7⟩:=hN a w E;refine⟨m',hm,i+1,a,w,t.unpinned,T.keep _ _ _ A λ b p o e=>(t.pin (b,o) (y8 _ (y8 _ (dG p e)))).1,λ b p=>?_,w7⟩;obtain⟨o,e,d⟩:=T.obj _ _ A b p;exact(t.pin (b,o) (y8 _ (y8 _ (dG p e)))).2.1
  cases f with
  | next=>obtain⟨a,w,t,E⟩:=z;exact q t E
  | cont=>obtain⟨a,w,t,E⟩:=z;exact q t E
  | brk=>obtain⟨a,w,t,z⟩:=z;exact⟨a,w,t.unpinned,z⟩
  | ret v=>obtain⟨x7,a,w,t,r7,z⟩:=z;exact⟨x7,a,w,t.unpinned,r7,z⟩
end L2
namespace L2
open PySem PySem.Spec PyProof.Rows
abbrev R2:=V->V->Hp->VK->Prop
def OpR(X:Cx)(f:ED->ED->Sem ED)(r:R2):Prop:=
 ∀(pins:ge (EG×Obj)) (s:EF) (σ:St) (H:Hp) (x y:V) (v u:ED) (Q:VK),Inv X pins σ H s->RelV x v->RelV y u->r x y H Q ->
  wpAny (model X.prog X.w) X.A (f v u) (EP X pins σ Q) X.xe s
def UnR(X:Cx)(f:ED->Sem ED)(r:V->Hp->VK->Prop):Prop:=
 ∀(pins:ge (EG×Obj)) (s:EF) (σ:St) (H:Hp) (x:V) (v:ED) (Q:VK),Inv X pins σ H s->RelV x v->r x H Q ->
  wpAny (model X.prog X.w) X.A (f v) (EP X pins σ Q) X.xe s
def v9(X:Cx)(f:ED)(r:ge V->Hp->VK->Prop):Prop:=
 ∀(pins:ge (EG×Obj)) (s:EF) (σ:St) (H:Hp) (xs:ge V) (us:ge ED) (Q:VK),Inv X pins σ H s->Vals xs us->r xs H Q ->
  wpAny (model X.prog X.w) X.A (call f us) (EP X pins σ Q) X.xe s
def TruR(X:Cx)(r:V->Hp->(Bool->Hp->Prop)->Prop):Prop:=
 ∀(pins:ge (EG×Obj)) (s:EF) (σ:St) (H:Hp) (x:V) (v:ED) (Q:Bool->Hp->Prop),Inv X pins σ H s->RelV x v->r x H Q ->
  wpAny (model X.prog X.w) X.A (truthy v) (TP X pins σ Q) X.xe s
noncomputable def tOp(r:R2)(ta tb:TE):TE:=λ σ H Q=>ta σ H λ x H1=>tb σ H1 λ y H2=>r x y H2 Q
noncomputable def tUn(r:V->Hp->VK->Prop)(ta:TE):TE:=λ σ H Q=>ta σ H λ x H1=>r x H1 Q
noncomputable def rI(C:Int->Int->Prop)(g:Int->Int->V):R2:=λ x y H Q=>∃i j,x=.int i/\y=.int j/\C i j/\Q (g i j) H
noncomputable def rI0(g:Int->Int->V):R2:=λ x y H Q=>∃i j,x=.int i/\y=.int j/\Q (g i j) H
noncomputable def rU(g:Int->V):V->Hp->VK->Prop:=λ x H Q=>∃i,x=.int i/\Q (g i) H
theorem binT(r:PE X a k)(q:PE X b tb){R:V->V->Hp->Prop}(I:Inv X c σ H s)
  (h:k σ H λ x j=>tb σ j λ y d=>R x y d)  {f:ED->ED->Sem ED}
  (p:∀v u i x y d,Inv X c σ d i->RelV x v->RelV y u->R x y d->wpAny (model X.prog X.w) X.A (f v u) Q X.xe i) :
  wpAny (model X.prog X.w) X.A (eval a X.env) (λ v g=>wpAny (model X.prog X.w) X.A (eval b X.env) (λ u e=>wpAny (model X.prog X.w) X.A (f v u) Q X.xe e) X.xe g) X.xe s:=by
 refine thn (r c s σ H _ I h) λ v s1 ⟨x,j,w,m,o⟩=>?_;refine thn (q c s1 σ j _ w o) λ u i ⟨y,d,t,l,n⟩=>?_;exact p v u i x y d t m l n
theorem lr(j:OpR X (binaryOp op) r)(l:PE X a d)(k:PE X b tb):PE X (.BinOp a op b pos) (tOp r d tb):=by
 intro c s e H Q I h;exact wpAny_BinOp (binT l k I h λ v u f x y n m i g q=>j c f e n x y v u Q m i g q)
theorem rR(g:UnR X (unaryOp op) r)(i:PE X a d):PE X (.UnaryOp op a pos) (tUn r d):=by
 intro b s c H Q I h;exact UnaryOp_ (thn (i b s c H _ I h) λ v s1 ⟨x,k,j,e,f⟩=>g b s1 c k x v Q j e f)
theorem opI{g:Int->Int->Int}
  (a:∀(i j:Int) (t u:Tok) (s:EF) (Q:ED->EF->Prop) (E:ED->EF->Prop),C i j->Q (.int (g i j) s.toks) {s with toks:=s.toks+1} -> wpAny (model X.prog X.w) X.A (f (.int i t) (.int j u)) Q E s) :
  OpR X f (rI C λ i j=>.int (g i j)):=by
 intro b s σ H x y v u Q I e d h;obtain⟨i,j,rfl,rfl,k,q⟩:=h;obtain⟨t,rfl⟩:=e;obtain⟨c,rfl⟩:=d;exact a i j t c s _ _ k ⟨.int _,H,I.tok _,⟨_,rfl⟩,q⟩
theorem opI0{g:Int->Int->Int}
  (a:∀(i j:Int) (t u:Tok) (s:EF) (Q:ED->EF->Prop) (E:ED->EF->Prop),Q (.int (g i j) s.toks) {s with toks:=s.toks+1} -> wpAny (model X.prog X.w) X.A (f (.int i t) (.int j u)) Q E s) :
  OpR X f (rI0 λ i j=>.int (g i j)):=by
 intro b s σ H x y v u Q I e d h;obtain⟨i,j,rfl,rfl,q⟩:=h;obtain⟨t,rfl⟩:=e;obtain⟨c,rfl⟩:=d;exact a i j t c s _ _ ⟨.int _,H,I.tok _,⟨_,rfl⟩,q⟩
theorem opB0{g:Int->Int->Bool}
  (a:∀(i j:Int) (t u:Tok) (s:EF) (Q:ED->EF->Prop) (E:ED->EF->Prop),Q (.bool (g i j)) s->wpAny (model X.prog X.w) X.A (f (.int i t) (.int j u)) Q E s) :
  OpR X f (rI0 λ i j=>.bl (g i j)):=by
 intro b s σ H x y v u Q I e d h;obtain⟨i,j,rfl,rfl,q⟩:=h;obtain⟨t,rfl⟩:=e;obtain⟨c,rfl⟩:=d;exact a i j t c s _ _ ⟨.bl _,H,I,rfl,q⟩
def CPow(i j:Int):Prop:=0<=j/\j<=1000000/\i.natAbs<2^64
def CMul(i j:Int):Prop:=(-(2^64)<i/\i<2^64)\/(-(2^64)<j/\j<2^64)
theorem CMul.ok(h:CMul i j):IntMulOk i j:=by
 rcases h with⟨b,a⟩ | ⟨b,a⟩
 ·exact .of_left (intBits_le_64 b a)
 ·exact .of_right (intBits_le_64 b a)
theorem rS(k:Nat):(0:Int)<=2^k:=by
 rw[two_pow_cast];exact Int.natCast_nonneg _
theorem rV:OpR X (binaryOp .Add) (rI0 λ i j=>.int (i+j)):=opI0 λ _ _ _ _ _ _ _ q=>add_int q
theorem rW:OpR X (binaryOp .Sub) (rI0 λ i j=>.int (i - j)):=opI0 λ _ _ _ _ _ _ _ q=>sub_int q
theorem rX:OpR X (binaryOp .Mod) (rI (λ _ j=>0<j) λ i j=>.int (i%j)):=opI λ i j _ _ _ _ _ a q=>by
 have h1:=a;exact mod_int' (by omega) (by rw[Int.fmod_eq_emod_of_nonneg i (by omega)];exact q)
theorem rY:OpR X (binaryOp .Mod) (rI (λ _ j=>j≠0) λ i j=>.int (i.fmod j)):=opI λ _ _ _ _ _ _ _ a q=>mod_int' a q
theorem rZ:OpR X (binaryOp .LShift) (rI CPow λ i j=>.int (i*2^j.toNat)):=opI λ _ _ _ _ _ _ _ a q=>lshift_int_small a.1 a.2.1 a.2.2 q
theorem sd:OpR X (binaryOp .RShift) (rI (λ _ j=>0<=j) λ i j=>.int (i/2^j.toNat)):=opI λ i j _ _ _ _ _ a q=>
 rshift_int a (by rw[jT i (rS _)];exact q)
theorem se:OpR X (binaryOp .BitAnd) (rI0 λ i j=>.int (Builtin.bitAnd i j)):=opI0 λ _ _ _ _ _ _ _ q=>and_int q
theorem sf:OpR X (binaryOp .BitOr) (rI0 λ i j=>.int (Builtin.bitOr i j)):=opI0 λ _ _ _ _ _ _ _ q=>or_int q
theorem unI{g:Int->Int}
  (a:∀(i:Int) (t:Tok) (s:EF) (Q:ED->EF->Prop) (E:ED->EF->Prop),Q (.int (g i) s.toks) {s with toks:=s.toks+1} -> wpAny (model X.prog X.w) X.A (f (.int i t)) Q E s) :
  UnR X f (rU λ i=>.int (g i)):=by
 intro b s σ H x v Q I c h;obtain⟨i,rfl,q⟩:=h;obtain⟨t,rfl⟩:=c;exact a i t s _ _ ⟨.int (g i),H,I.tok _,⟨_,rfl⟩,q⟩
theorem sh:UnR X (unaryOp .USub) (rU λ i=>.int (-i)):=unI λ _ _ _ _ _ q=>neg_int q
section
variable {X:Cx} {a b c:EI} {ta tb tc:TE} {pos:Pos}
theorem si{a:ge (EG×Obj)}{b:Bool}(I:Inv X a σ H s)(q:Q (.bl k) H)(e:k=b):EP X a σ Q (.bool b) s:=by
 subst e;exact⟨.bl k,H,I,rfl,q⟩
theorem sj:OpR X (compareOp .Lt) (rI0 λ i j=>.bl (decide (i<j))):=opB0 λ _ _ _ _ _ _ _ q=>lt_int q
theorem sr:OpR X (compareOp .LtE) (rI0 λ i j=>.bl (decide (i<=j))):=opB0 λ _ _ _ _ _ _ _ q=>le_int q
theorem su:OpR X (compareOp .Gt) (rI0 λ i j=>.bl (decide (j<i))):=opB0 λ _ _ _ _ _ _ _ q=>gt_int q
theorem sw:OpR X (compareOp .Is) (λ x y H Q=>y=.non/\Q (.bl (decide (x=.non))) H):=by
 intro b s σ H x y v u Q I a c h;obtain⟨rfl,q⟩:=h;cases c;refine is_none_gen (si I q ?_);cases x<;>first
  | (cases a;rfl)
  | (obtain⟨t,rfl⟩:=a;rfl)
theorem OpR.or(h:OpR X f r)(h':OpR X f e):OpR X f (λ x y H Q=>r x y H Q\/e x y H Q):=by
 intro a s b H x y v u Q I d c q;rcases q with q | q
 ·exact h a s b H x y v u Q I d c q
 ·exact h' a s b H x y v u Q I d c q
theorem ls(i:OpR X (compareOp op) r)(l:PE X a ta)(k:PE X b tb)(j:behindInMarks op b=false):PE X (.Compare a [op] [b] pos) (tOp r ta tb):=by
 intro c s d H Q I h;exact wpAny_Compare1 (binT l k I h λ v u e x y n m g f q=>i c e d n x y v u Q m g f q) j
noncomputable def lu(t:TE):TT:=λ σ H Q=>t σ H λ x H'=>∃k,x=.bl k/\Q k H'
theorem lw(p:OpR X (compareOp op) r)(w:PE X a ta)(t:PE X b tb)(q:behindInMarks op b=false):PT X (.Compare a [op] [b] pos) (lu (tOp r ta tb)):=by
 intro d s f H Q I h;refine wpAny_isTrue_Compare1 (thn (w d s f H _ I h) λ v s1 ⟨x,J,C,l,o⟩=>thn (t d s1 f J _ C o) λ u g ⟨y,F,B,j,n⟩=>
  thn (p d g f F x y v u _ B l j n) λ c s3 ⟨z,E,A,i,k,e,m⟩=>?_) q
 subst e;cases i;exact aW ⟨E,A,m⟩
noncomputable def gA(r r':R2)(ta tb tc:TE):TE:=λ σ H Q=>ta σ H λ x H1=>tb σ H1 λ y H2=>r x y H2 λ z H3=>∃k,z=.bl k /\
 (if k=true then tc σ H3 λ w' H4=>r' y w' H4 Q else Q (.bl false) H3)
theorem sy(M:OpR X (compareOp op) r)(j:OpR X (compareOp g) m)(R:PE X a ta)(P:PE X b tb)(O:PE X c tc)
  (N:lastMarks [op,g] [b,c]=false:=by with_unfolding_all rfl):PE X (.Compare a [op,g] [b,c] pos) (gA r m ta tb tc):=by
 intro f s i H Q I h;refine Compare_chain (thn (R f s i H _ I h) λ v s1 ⟨x,H1,W,F,L⟩=>chain_link (thn (P f s1 i H1 _ W L) λ u B ⟨y,Z,U,l,K⟩=>
  thn (M f B i Z x y v u _ U F l K) λ d A ⟨z,p,o,E,k,e,n⟩=>?_)) N
 subst e;cases E;refine aW ?_;cases k with
 | false=>exact ite_ff ⟨.bl false,p,o,rfl,n⟩
 | true=>exact ite_tt (chain_last (thn (O f A i p _ o n) λ t w ⟨q,Y,S,C,J⟩=>j f w i Y y q u t Q S l C J))
theorem sA(P:OpR X (compareOp op) r)(j:OpR X (compareOp g) m)(W:PE X a ta)(U:PE X b tb)(S:PE X c tc)
  (R:lastMarks [op,g] [b,c]=false:=by with_unfolding_all rfl):PT X (.Compare a [op,g] [b,c] pos) (lu (gA r m ta tb tc)):=by
 intro f s i H Q I h;refine isTrue_chain (thn (W f s i H _ I h) λ v s1 ⟨x,H1,I1,J,N⟩=>test_link (thn (U f s1 i H1 _ I1 N) λ u B ⟨y,H2,I2,l,M⟩=>
  thn (P f B i H2 x y v u _ I2 J l M) λ d A ⟨z,p,o,F,k,e,n⟩=>?_)) R
 subst e;cases F;refine aW ?_;cases k with
 | false=>
  obtain⟨k',Z,O⟩:=n;cases Z;exact ite_ff ⟨p,o,O⟩
 | true=>
  refine ite_tt (test_last (thn (S f A i p _ o n) λ t w ⟨q,H4,I4,E,L⟩=>thn (j f w i H4 y q u t _ I4 l E L) λ d' s5 ⟨z2,H5,I5,C,k2,Y,K⟩=>?_));subst Y;cases C;exact aW ⟨H5,I5,K⟩
def TruV(K:EQ)(x:V)(H:Hp)(k:Bool):Prop:=
 match x with
 | .non=>k=false
 | .bl b=>k=b
 | .int i=>k=(i != 0)
 | .str y=>y.length<=sizeLine/\k=((y.length:Int) != 0)
 | .byt y=>y.size<=sizeLine/\k=((y.size:Int) != 0)
 | .ref p=>(∃xs,SqL K H p xs/\k = !xs.isEmpty)\/(∃xs,SqT K H p xs/\k = !xs.isEmpty)\/∃kvs,H p=some (.dK kvs)/\k = !kvs.isEmpty
 | _=>False
theorem sB{b:Type}{a:ge (b×V)}{vs:ge (b×ED)}(r:KV a vs):(!vs.isEmpty) = !a.isEmpty:=by
 cases r<;>rfl
theorem lx{b:ge V}{a:ge ED}(r:Vals b a):(!a.toArray.isEmpty) = !b.isEmpty:=by
 cases r<;>simp
theorem ao:(sizeLine:Nat)<2^63:=by rw[ba];decide
theorem dH:TruR X (λ x H Q=>∃k,TruV X.K x H k/\Q k H):=by
 intro z s σ H x v Q I j h;obtain⟨k,e,q⟩:=h;have hl:=ao;have hs:=ba;cases x with
 | non=>
  cases j;have c:=e;subst c;exact truthy_none ⟨H,I,q⟩
 | bl b=>
  cases j;have c:=e;subst c;exact aW ⟨H,I,q⟩
 | int i=>
  obtain⟨t,rfl⟩:=j;have c:=e;subst c;exact PySem.P.truthy_int ⟨H,I,q⟩
 | str y=>
  obtain⟨t,rfl⟩:=j;obtain⟨C,c⟩:y.length<=sizeLine/\k=_:=e;subst c;exact PySem.P.truthy_str (by omega) ⟨H,I.tok _,q⟩
 | byt y=>
  obtain⟨t,rfl⟩:=j;obtain⟨C,c⟩:y.size<=sizeLine/\k=_:=e;subst c;exact PySem.W.truthy_bytes (by omega) ⟨H,I.tok _,q⟩
 | ref p=>
  cases j;have c:=e;rcases c with⟨B,n,c⟩ | ⟨B,n,c⟩ | ⟨l,n,c⟩
  ·subst c;obtain⟨w,r,pl,A⟩:=I.list n;have g:=r.length;exact wpAny_truthy_list pl.isList (by simp only[r9];omega) ⟨H,I.tok _,by rw[lx r];exact q⟩
  ·subst c;obtain⟨w,r,pl,A⟩:=I.tuple n;have g:=r.length;exact truthy_tuple pl (by simp only[r9];omega) ⟨H,I.tok _,by rw[lx r];exact q⟩
  ·subst c;obtain⟨A,E,u,r,m⟩:l.length<=sizeLine/\_=false/\∃u,KV l u/\s.heap.DictOf _ p u:=I.hok p _ n;have g:=Paired.length r;exact wpAny_truthy_dict E m (by omega) ⟨H,I.tok _,by rw[sB r];exact q⟩
 | _=>exact(e).elim
theorem ly(j:PE X a ta)(i:∀b,isTrue a X.env b=(do let v ←b;standAt a.pos;holding [v] (truthy v))) :
  PT X a (λ d H Q=>ta d H λ x e=>∃k,TruV X.K x e k/\Q k e):=by
 intro c s d H Q I h;exact isTrue_plain (thn (j c s d H _ I h) λ v s1 ⟨x,m,l,f,g⟩=>dH c s1 d m x v Q l f g) (i _)
theorem sC:OpR X (binaryOp .Add) (λ x y H Q=>∃i j,x=.str i/\y=.str j/\i.length+j.length<=sizeLine/\Q (.str (i++j)) H):=by
 intro a s σ H x y v u Q I d c h;obtain⟨i,j,rfl,rfl,e,q⟩:=h;obtain⟨t,rfl⟩:=d;obtain⟨b,rfl⟩:=c;exact add_str (λ b tk=>⟨.str (i++j),H,I.tok _,⟨_,rfl⟩,q⟩) e
theorem F0{a:ge ED}(r:Vals [x] a):∃u,a=[u]/\RelV x u:=by
 cases r with
 | cons c b=>cases b;exact⟨_,rfl,c⟩
theorem dJ{b:ge ED}(r:Vals [x,y] b):∃u a,b=[u,a]/\RelV x u/\RelV y a:=by
 cases r with
 | cons f e=>
  cases e with
  | cons d c=>cases c;exact⟨_,_,rfl,f,d⟩
theorem lz:v9 X (.type "int") (λ a H Q=>(∃i,a=[.int i]/\Q (.int i) H)\/∃k,a=[.bl k]/\Q (.int (if k then 1 else 0)) H):=by
 intro b s σ H a us Q I r h;rcases h with⟨i,rfl,q⟩ | ⟨k,rfl,q⟩
 ·obtain⟨u,rfl,t,rfl⟩:=F0 r;exact call_int_int ⟨.int i,H,I,⟨_,rfl⟩,q⟩
 ·obtain⟨u,rfl,c⟩:=F0 r;cases c;exact call_int_bool ⟨.int _,H,I.tok _,⟨_,rfl⟩,q⟩
theorem sD:v9 X (.type "str") (λ a H Q=>∃i,a=[.int i]/\i.natAbs.log2<1920/\Q (.str (toString i)) H):=by
 intro b s σ H a us Q I r h;obtain⟨i,rfl,c,q⟩:=h;obtain⟨u,rfl,t,rfl⟩:=F0 r;exact PySem.P.str_of_int c ⟨.str _,H,I.tok _,⟨_,rfl⟩,q⟩
end
end L2
namespace L2
open PySem PySem.Spec PyProof.Rows
structure ObjM(h:Heap)(x dx C:Addr)(mA:Str->Option Value):Prop where
 obj:h.get? x=some (PySem.W.instObj C dx)
 ns:h.Ns1 dx mA
 ne:dx≠x
theorem sE{h:EH}(n:h.Ns1 dx f):∃d,h.get? dx=some d/\∀b,PySem.W.lookIn b d=some (f b):=by
 obtain⟨o,g,ep,j,m,l,_,k⟩:=n;refine⟨o,j,λ b=>?_⟩;have e:=k b;unfold nsFind findBy at e;rw[←Array.find?_toList]at e;unfold PySem.W.lookIn;rw[m];dsimp only;split
 ·rename_i y q;rw[q]at e;exact congrArg some e
 ·rename_i q;rw[q]at e;have a:g.toList.any (·.refKey)=false:=by rw[List.any_eq_false];intro y i;obtain⟨z,t,c⟩:=l y (Array.mem_toList_iff.mp i);simp[DictEntry.refKey,c]
  have p:¬g.toList.any (·.refKey)=true:=by rw[a];exact B6
  rw[i4 p];exact congrArg some e
theorem ObjM.look(I:ObjM h x dx C c):∃b,PySem.W.InstAt h x (PySem.W.instObj C dx) C (some b)/\∀a,PySem.W.lookIn a b=some (c a):=
 let ⟨b,ho,hl⟩:=sE I.ns
 ⟨b,⟨I.obj,rfl,rfl,ho⟩,hl⟩
theorem sF{K:EQ}(X:K.In s.heap)(I:ObjM s.heap x dx C d)(i:PySem.W.plainGet K C a=true)(g:PySem.W.hasDictIn K C=true)
  (j:PySem.W.findIn K (.ref C) a=some none) (e:d a=some v) (c:PySem.W.handedIn v=true) (h:Q v {s with toks:=s.toks+1}) :
  wpAny (model prog w) A (getAttr (.ref x) a b) Q E s:=by
 obtain⟨od,J,f⟩:=I.look;exact PySem.W.get_value X J (fG i).1 (PySem.W.findObj_own g j rfl (by rw[f,e])) c h
theorem sG{K:EQ}(X:K.In s.heap)(I:ObjM s.heap x dx C b)(c:PySem.W.plainGet K C a=true)
  (j:PySem.W.findIn K (.ref C) a=some (some (.ref f))) (g:PySem.W.isFn K (.ref f)=true) (e:b a=none) (h:Q (.ref f,[.ref x]) s) :
  wpAny (model prog w) A (getMethod (.ref x) a pl) Q E s:=by
 obtain⟨d,J,i⟩:=I.look;exact PySem.W.method_fn X J (fG c).1 (fG c).2 j (i1.mp g) (by show(PySem.W.lookIn a d).map _=some false;rw[i,e];rfl) h
theorem sH{K:EQ}(X:K.In s.heap)(I:ObjM s.heap x dx C e)
  (n:PySem.W.findIn K (.ref C) "__setattr__" = some (some (.builtin "object.__setattr__"))) (o:PySem.W.plainOver K C=true) (l:PySem.W.takerIn K C a=some none) (p:PySem.W.hasDictIn K C=true)
  (hw:PySem.Within e k) (m:k.length<=sizeLine)
  (h:∀h',ObjM h' x dx C (λ y=>if y=a then some v else e y)->Heap.SameBut dx s.heap h'->Q () {s with heap:=h',toks:=s.toks+2}) :
  wpAny (model prog w) A (setAttr (.ref x) a v) Q E s:=by
 obtain⟨od,J,hl⟩:=I.look;refine PySem.W.set_plain X J n (PySem.W.osa_open X J o l λ b=>?_);obtain⟨cd,q,i⟩:=PySem.W.any_some p;refine g6 (i0 (g6 (g6 (wpAny_loadPart I.obj (g6 (PySem.W.Looks.here (PySem.W.looks_clsIn X q) ?_))))));rw[i];refine i0 (g6 (i0 (g6 ?_)));refine wpAny_nsSet1 I.ns λ h' d c=>?_
 obtain⟨oD,r,t,f,g,j⟩:=d.count (PySem.Within.cons a v hw);refine g6 (wpAny_lookBehind f (by rw[g];exact pastItsLine_dict (o6 j (by rw[o5];omega))) ?_);exact i0 (h _ ⟨(c.2 _ (Ne.symm I.ne)).trans I.obj,d,I.ne⟩ c)
theorem sI{K:EQ}(X:K.In s.heap)(c:PySem.W.makesIn K C=true)
  (e:PySem.W.findIn K (.ref C) "__init__" = some (some (.ref f))) (i:PySem.W.typeIn K (.ref f)=some (.type "function"))
  (h:codeAny (model prog w) (A.under (.builtin "type.__call__" ⟨.ref C::vs,b⟩)) (.call (.ref f) ⟨.ref (s.heap.objs.size+1)::vs,b⟩) (PySem.W.InitBack (s.heap.objs.size+1) R)
   {s with heap:=(s.heap.push PySem.W.emptyDict).push (PySem.W.instObj C s.heap.objs.size)}) :
  codeAny (model prog w) A (.call (.ref C) ⟨vs,b⟩) R s:=by
 obtain⟨hh,g,d,t,os⟩:=s;exact PySem.W.make_core (PySem.W.makes_of X c) (PySem.W.looks_findIn X e) (λ a=>PySem.W.bind_fn X a i) (.inl rfl) h
noncomputable def putF(f:Str)(v:V):ge (Str×V)->ge (Str×V)
 | []=>[(f,v)]
 | (g,x)::r=>if g=f then(g,v)::r else(g,x)::putF f v r
theorem lA(f g:Str)(v:V):∀fs:ge (Str×V),(putF f v fs).lookup g=if g=f then some v else fs.lookup g
 | []=>by
  show List.lookup g [(f,v)]=_;by_cases h:g=f
  ·have a:=i1.mpr h;simp only[List.lookup,a,i3 h]
  ·have a:=o9.mpr h;simp only[List.lookup,a,i4 h]
 | (k,x)::r=>by
  rw[show putF f v _=(if k=f then(k,v)::r else(k,x)::putF f v r)from rfl];by_cases b:k=f
  ·rw[i3 b];by_cases h:g=k
   ·have a:=i1.mpr h;simp only[List.lookup,a,i3 (h.trans b)]
   ·have a:=o9.mpr h;simp only[List.lookup,a,i4 (λ e:g=f=>h (e.trans b.symm))]
  ·rw[i4 b];by_cases h:g=k
   ·have a:=i1.mpr h;simp only[List.lookup,a,i4 (λ e:g=f=>b (h.symm.trans e))]
   ·have a:=o9.mpr h;simp only[List.lookup,a];exact lA f g v r
theorem gB(f:Str)(v:V):∀fs:ge (Str×V),f∈(putF f v fs).map (·.1)/\∀g,g∈fs.map (·.1)->g∈(putF f v fs).map (·.1)
 | []=>⟨by simp[putF],λ g h=>by simp at h⟩
 | (k,x)::r=>by
  obtain⟨c,b⟩:=gB f v r;rw[show putF f v _=(if k=f then(k,v)::r else(k,x)::putF f v r)from rfl];by_cases a:k=f
  ·rw[i3 a];subst a;exact⟨by simp,λ g h=>by simpa using h⟩
  ·rw[i4 a];refine⟨?_,λ g h=>?_⟩
   ·rw[J2];exact j6 _ c
   ·rw[J2]at h ⊢;rcases i6.mp h with e | e
    ·exact i6.mpr (.inl e)
    ·exact j6 _ (b g e)
theorem lB(f:Str)(v:V):∀fs:ge (Str×V),(putF f v fs).length<=fs.length+1
 | []=>by simp[putF]
 | (k,x)::r=>by
  have ih:=lB f v r;rw[show putF f v _=(if k=f then(k,v)::r else(k,x)::putF f v r)from rfl];by_cases a:k=f
  ·rw[i3 a,o5,o5];omega
  ·rw[i4 a,o5,o5];omega
theorem RelO.some_of(r:RelO (some v) o):∃u,o=some u/\RelV v u:=by
 cases o with
 | none=>exact(r).elim
 | some u=>exact⟨u,rfl,r⟩
theorem RelO.none_of(r:RelO none o):o=none:=by
 cases o with
 | none=>rfl
 | some u=>exact(r).elim
theorem sJ(r:RelV v u):PySem.W.handedIn u=true:=by
 cases v with
 | non=>cases(r);rfl
 | bl b=>cases(r);rfl
 | int i=>obtain⟨t,e⟩:=(r);cases e;rfl
 | str x=>obtain⟨t,e⟩:=(r);cases e;rfl
 | byt b=>obtain⟨t,e⟩:=(r);cases e;rfl
 | flt b=>obtain⟨t,e⟩:=(r);cases e;rfl
 | ref a=>cases(r);rfl
 | ty n=>cases(r);rfl
theorem gC(c:HOk P w H h)(e:H a=some (.ins C dx fs)):∃b,ObjM h a dx C b/\(∀f,RelO (fs.lookup f) (b f))/\PySem.Within b (fs.map (·.1))/\fs.length<=1000/\H dx=some (.own a):=by
 obtain⟨d,z,ne,g,b,n,r,q⟩:=(show z5 P w H h a (.ins C dx fs)from c a _ e);exact⟨b,⟨g,n,ne⟩,r,q,z,d⟩
structure Cls(K:PySem.W.Frag)(C:Addr):Prop where
 pg:PySem.W.plainGet K C Str.empty=true
 hd:PySem.W.hasDictIn K C=true
 po:PySem.W.plainOver K C=true
 sa:PySem.W.findIn K (.ref C) "__setattr__" = some (some (.builtin "object.__setattr__"))
theorem Cls.get{K:EQ}(c:Cls K C)(f:Str):PySem.W.plainGet K C f=true:=c.pg
def B9(K:EQ)(C:EG)(f:Str):Prop:=PySem.W.findIn K (.ref C) f=some none
theorem B9.taker{K:EQ}(n:B9 K C f):PySem.W.takerIn K C f=some none:=by
 unfold PySem.W.takerIn;rw[show PySem.W.findIn K _ f=some none from n];rfl
structure Meth(K:PySem.W.Frag)(C:Addr)(m:Str)(f:Addr):Prop where
 at_:PySem.W.findIn K (.ref C) m=some (some (.ref f))
 fn:PySem.W.isFn K (.ref f)=true
 kp:PySem.W.keepIn K (.ref f)=true
theorem lC(I:Inv X d σ H s)(e:H a=some (.ins C dx fs))(c:Cls X.K C)(n:B9 X.K C f)(l:fs.lookup f=some v)
  (h:∀u g,Inv X d σ H g->RelV v u->Q u g):wpAny (model X.prog X.w) A (getAttr (.ref a) f b) Q E s:=by
 obtain⟨mA,O,r,_,_,_⟩:=gC I.hok e;obtain⟨u,j,i⟩:=RelO.some_of (by rw[←l];exact r f);exact sF I.kIn O (c.get f) c.hd n j (sJ i) (h u _ (I.tok _) i)
theorem lD(I:Inv X b σ H s)(e:H a=some (.ins C dx fs))(c:Cls X.K C)(k:Meth X.K C m g)(l:fs.lookup m=none)
  (h:Q (.ref g,[.ref a]) s):wpAny (model X.prog X.w) A (getMethod (.ref a) m pl) Q E s:=by
 obtain⟨mA,O,r,_,_,_⟩:=gC I.hok e;exact sG I.kIn O (c.get m) k.at_ k.fn (RelO.none_of (by rw[←l];exact r m)) h
theorem lE(I:Inv X d σ H s)(e:H a=some (.ins C dx fs))(c:Cls X.K C)(n:B9 X.K C f)(hl:fs.length<1000)(p:RelV y u)
  (h:∀k,Inv X d σ (upd H a (.ins C dx (putF f y fs))) k->Q () k):wpAny (model X.prog X.w) A (setAttr (.ref a) f u) Q E s:=by
 obtain⟨t,O,r,j,_,l⟩:=gC I.hok e;have v:(fs.map (·.1)).length<=sizeLine:=by rw[n8,ba];omega
 refine sH I.kIn O c.sa c.po n.taker c.hd j v λ F i m=>h _ ?_;have x:∃o,F.get? dx=some o:=let ⟨o,_,_,e',_⟩:=i.ns;⟨o,e'⟩;refine I.write (by rw[e];exact True.intro) (.inr l) (λ b q B z=>(m.2 b B).trans z) x ?_;refine⟨by rw[j1 O.ne];exact l,?_,O.ne,i.obj,_,i.ns,λ g=>?_,λ g w=>?_⟩
 ·have:=lB f y fs;omega
 ·show RelO _ _;rw[lA];by_cases q:g=f
  ·rw[i3 q,i3 q];exact p
  ·rw[i4 q,i4 q];exact r g
 ·by_cases q:g=f
  ·rw[q];exact(gB f y fs).1
  ·refine(gB f y fs).2 g (j g λ z=>w ?_);show(if g=f then some u else t g)=none;rw[i4 q];exact z
theorem Inv.made(I:Inv X c σ H s):Inv X c σ (upd (upd H s.heap.objs.size (.own (s.heap.objs.size+1))) (s.heap.objs.size+1) (.ins C s.heap.objs.size []))
  {s with heap:=(s.heap.push PySem.W.emptyDict).push (PySem.W.instObj C s.heap.objs.size)}:=by
 have d:(s.heap.push PySem.W.emptyDict).get? s.heap.objs.size=some PySem.W.emptyDict:=k6 s.heap rfl;have h:((s.heap.push PySem.W.emptyDict).push (PySem.W.instObj C s.heap.objs.size)).get? (s.heap.objs.size+1)=some (PySem.W.instObj C s.heap.objs.size):=by
  have:=k6 (s.heap.push PySem.W.emptyDict) (o:=PySem.W.instObj C s.heap.objs.size) rfl
  rwa [A0]at this
 have i:=I.laid (a:=s.heap.objs.size) (o:=.own (s.heap.objs.size+1)) (t':=s.toks) (λ b u q=>i5 _ q) (j0 _) ⟨_,d⟩;refine i.laid (λ b u q=>i5 _ q) (Nat.le_of_eq (A0 _ _)) ?_;have ne:s.heap.objs.size≠s.heap.objs.size+1:=j5 (Q0 _);refine⟨by rw[j1 ne,o7],E2 _,ne,h,λ _=>none,(Heap.Ns1.of_empty (⟨PySem.W.emptyDict,#[],_,d,rfl,(λ e g=>absurd g (by simp)),λ _=>rfl⟩)).at λ o q=>i5 _ q,λ _=>True.intro,λ y f=>absurd rfl f⟩
theorem sM(b:attributeBase e f env (eval e env)=eval e env)
  (h:wpAny (model prog w) A (eval e env) (λ o a=>wpAny (model prog w) A (getAttr o f true) Q E a) E s):wpAny (model prog w) A (eval (.Attribute e f pos) env) Q E s:=
 Attribute_any_ h (by rw[arm_eval_Attribute,b])
noncomputable def tFld(K:EQ)(ta:TE)(f:Str):TE:=λ σ H Q=>ta σ H λ x H1=>∃a C dx fs v,x=.ref a/\H1 a=some (.ins C dx fs)/\Cls K C/\B9 K C f/\fs.lookup f=some v/\Q v H1
def sFld(K:EQ)(ta tv:TE)(f:Str):TS:=λ D σ H=>tv σ H λ y H1=>ta σ H1 λ x H2=>∃a C dx fs,x=.ref a/\H2 a=some (.ins C dx fs)/\Cls K C/\B9 K C f/\fs.length<1000 /\
 D.nx σ (upd H2 a (.ins C dx (putF f y fs)))
def InOp(X:Cx)(op:Operator)(rd:V->V->Hp->VK->Prop):Prop:=
 ∀(pins:ge (EG×Obj)) (s:EF) (σ:St) (H:Hp) (x y:V) (u v:ED) (Q:VK),Inv X pins σ H s->RelV x u->RelV y v->rd x y H Q->wpAny (model X.prog X.w) X.A (inplaceOp op u v) (EP X pins σ Q) X.xe s
def sN(K:EQ)(ta tv:TE)(rd:V->V->Hp->VK->Prop)(f:Str):TS:=λ D σ H=>ta σ H λ x H1=>∃a C dx fs v,x=.ref a/\H1 a=some (.ins C dx fs)/\Cls K C/\B9 K C f/\fs.lookup f=some v /\
 tv σ H1 λ y H2=>rd v y H2 λ z H3=>∃dx' fs',H3 a=some (.ins C dx' fs')/\fs'.length<1000/\D.nx σ (upd H3 a (.ins C dx' (putF f z fs')))
theorem sO(k:PE X e d)(m:attributeBase e f X.env (eval e X.env)=eval e X.env):PE X (.Attribute e f pos) (tFld X.K d f):=by
 intro b s g H Q I h;refine sM m (thn (k b s g H _ I h) λ u s1 ⟨x,t,r,i,a,C,dx,fs,v,ex,o,c,n,l,q⟩=>?_);subst ex;obtain rfl:u=Value.ref a:=i;exact lC r o c n l λ u' s2 p j=>⟨v,t,p,j,q⟩
theorem lF(v:PE X o j)(r:PE X b i)(t:swapsWith b (some (.Attribute o f d)) pos.line X.env=pure false):PS X (.Assign [.Attribute o f d] b pos) (sFld X.K j i f):=by
 intro e s g H D I h;refine plainObj_wpAny_Assign_Attribute (thn (r e s g H _ I h) λ u s1 ⟨y,E,B,k,q⟩=>thn (v e s1 g E _ B q) λ ov s2 ⟨x,H2,A,m,a,C,dx,fs,ex,w,c,n,l,p⟩=>?_) t;subst ex;obtain rfl:ov=Value.ref a:=m;exact lE A w c n l k λ s3 z=>⟨g,_,z,p⟩
theorem lG(M:PE X o k)(L:PE X b j)(g:InOp X op m):PS X (.AugAssign (.Attribute o f tpos) op b pos) (sN X.K k j m f):=by
 intro d s e H D I h;refine wpAny_AugAssign_AttributeAny (thn (M d s e H _ I h) λ ov s1 ⟨x,Z,W,B,a,C,dx,fs,v,ex,O,c,n,l,q⟩=>?_);subst ex;obtain rfl:ov=Value.ref a:=B;refine lC W O c n l λ u t U E=>thn (L d t e Z _ U q) λ p r ⟨y,Y,S,A,J⟩=>thn (g d r e Y v y u p _ S E A J) λ w4 s4 ⟨z,H3,R,w,P,N,i,K,F⟩=>?_
 exact lE R i c n K w λ s5 Q=>⟨e,_,Q,F⟩
noncomputable def rAdd:V->V->Hp->VK->Prop:=λ x y H Q=>∃i j,x=.int i/\y=.int j/\Q (.int (i+j)) H
theorem lH:InOp X .Add rAdd:=by
 rintro a s σ H x y u v Q I c b ⟨i,j,rfl,rfl,q⟩
 obtain⟨t,rfl⟩:=(c);obtain⟨t',rfl⟩:=(b);exact PyProof.Rows.iadd_int ⟨.int (i+j),H,I.tok _,⟨_,rfl⟩,q⟩
end L2
namespace L2
open PySem PySem.Spec PyProof.Rows
structure Room(k:Nat)(A:Around):Prop where
 hd:A.handled=none
 dp:A.depth+3*k+5<recursionLimit
 un:A.units+16*k+200<cLine
theorem Room.mono(r:Room k A)(h:j<=k):Room j A:=⟨r.hd,by have:=r.dp;omega,by have:=r.un;omega⟩
theorem Room.deeper(r:Room (k+1) A)(env:Env):Room k (A.deeper env):=
 ⟨r.hd,by have:=r.dp;show A.depth+1+3*k+5<_;omega,by have:=r.un;show A.units+3+16*k+200<_;omega⟩
theorem sP{A:EM}:(A.under (.builtin "type.__call__" ⟨.ref C::a,b⟩)).depth=A.depth+1:=by
 first | rfl | simp[Around.under,Code.weight,Code.isCreation,Code.isGuard,Code.isCaller,Code.frames,Code.isFrame,guardIds]
theorem sQ{A:EM}:(A.under (.builtin "type.__call__" ⟨.ref C::a,b⟩)).units=A.units+1:=by
 first | rfl | simp[Around.under,Code.cUnits,Code.frames,Code.isFrame]
theorem Room.make(r:Room (k+1) A)(C:EG)(a:ge ED)(b:ge (Str×ED)):Room k (A.under (.builtin "type.__call__" ⟨.ref C::a,b⟩)):=
 ⟨r.hd,by have:=r.dp;rw[sP];omega,by have:=r.un;rw[sQ];omega⟩
theorem Room.depth(r:Room k A):A.depth<recursionLimit:=by have:=r.dp;omega
theorem Room.units(r:Room k A):A.units+64<cLine:=by have:=r.un;omega
noncomputable def tNil:TA:=λ _ H Q=>Q [] H
noncomputable def dL(ta:TE)(tr:TA):TA:=λ σ H Q=>ta σ H λ x H1=>tr σ H1 λ xs H2=>Q (x::xs) H2
section
variable {X:Cx} {e:EI} {es:ge EI} {te:TE} {t:TA} {pos:Pos}
theorem D0:PA X [] tNil:=λ _ _ _ _ H Q I h=>cR ⟨[],H,I,.nil,h⟩
theorem x9(m:PE X e te)(l:PA X es t)(k:starEach (e::es) X.env=(false,eval e X.env)::starEach es X.env:=by rfl):PA X (e::es) (dL te t):=by
 intro b a s c H Q I h;rw[k];show wpAny _ _ _ _ _ s;refine cP (thn (m a s c H _ I h) λ u s1 ⟨x,q,o,g,j⟩=>?_);exact thn (l b a s1 c q _ o j) λ us s2 ⟨d,p,n,f,i⟩=>⟨x::d,p,n,.cons g f,i⟩
def tTup(t:TA):TE:=λ σ H Q=>t σ H λ xs H1=>xs.length<=sizeLine/\∀p,H1 p=none->Q (.ref p) (upd H1 p (.tup xs))
def tLst(t:TA):TE:=λ σ H Q=>t σ H λ xs H1=>xs.length<=sizeLine/\∀p,H1 p=none->Q (.ref p) (upd H1 p (.lst xs))
theorem bo(h:PA X es t):PE X (.Tuple es x1 pos) (tTup t):=by
 intro a s d H Q I g;refine wpAny_Tuple_spliced (thn (h pos a s d H _ I g) λ f s1 ⟨xs,i,c,r,z,q⟩=>⟨by rw[←r.length];exact z,?_⟩);refine⟨.ref s1.heap.objs.size,upd i s1.heap.objs.size _,c.laid (λ b u e=>i5 _ e) (j0 _) ?_,rfl,q _ (c.hok.fresh (j0 _))⟩;exact⟨z,f,r,⟨_,k6 _ rfl,⟨rfl,rfl⟩,_,rfl⟩⟩
theorem sR(h:PA X es t):PE X (.List es pos) (tLst t):=by
 intro a s d H Q I g;refine wpAny_List_spliced (thn (h pos a s d H _ I g) λ f s1 ⟨xs,i,c,r,z,q⟩=>⟨by rw[←r.length];exact z,?_⟩);refine⟨.ref s1.heap.objs.size,upd i s1.heap.objs.size _,c.laid (λ b u e=>i5 _ e) (j0 _) ?_,rfl,q _ (c.hok.fresh (j0 _))⟩;exact⟨z,f,0,r,k6 _ rfl⟩
end
abbrev Sp:=ge V->Hp->VK->XK->Prop
abbrev CXT:=ge Env->Hp->EF->XK->ED->EF->Prop
structure Env0(P:Program)(w:World)(K:PySem.W.Frag)(mg:Str->Option Value)(base:Heap)(A:Around)(outer:List Env)(s:Shared)(H:Hp):Prop where
 frames:A.frames=some outer
 mod:Mod K mg base
 bs:∀b o,base.get? b=some o->s.heap.get? b=some o/\H b=none
 bsz:base.objs.size<=s.heap.objs.size
 funs:s.heap.FunFrames base outer
 frf:(∀b∈frs outer,H b=none)/\bh K H
 hok:HOk P w H s.heap
 bare:AllBare s.gens
def CE(outer:ge Env)(P:EL)(w:EK)(H:Hp)(s:EF)(Q:VK)(u:ED)(s':EF):Prop:=
 ∃v H',s'.os=s.os/\AllBare s'.gens/\Un (frs outer) [] H H' s.heap s'.heap/\HOk P w H' s'.heap/\RelV v u/\Q v H'
def CR(CX:CXT)(outer:ge Env)(P:EL)(w:EK)(H:Hp)(s:EF)(Q:VK)(E:XK)(r:Result)(s':EF):Prop:=
 match r with
 | .ok (.ret u)=>CE outer P w H s Q u s'
 | .ok _=>False
 | .error e=>CX outer H s E e s'
structure FnOk(P:Program)(w:World)(K:PySem.W.Frag)(mg:Str->Option Value)(base:Heap)(CX:CXT)(k:Nat)(f:Addr)(fd:FuncData)(ps:List Str)(sp:Sp):Prop where
 len:∀vs H Q E,sp vs H Q E->vs.length=ps.length
 run:∀(A:Around) (outer:List Env) (s:Shared) (H:Hp) (args:Args) (us:List Value) (vs:List V) (Q:VK) (E:XK),Room k A->Env0 P w K mg base A outer s H->BindsTo s fd args (ps.zip us)->Vals vs us->sp vs H Q E ->
  codeAny (model P w) A (.call (.ref f) args) (CR CX outer P w H s Q E) s
theorem Env0.make{K:EQ}(e:Env0 P w K mg base A a s H)(C:EG)(b:ge ED)(c:ge (Str×ED)) :
  Env0 P w K mg base (A.under (.builtin "type.__call__" ⟨.ref C::b,c⟩)) a s H:=⟨by first | exact e.frames | (simpa[Around.under,Code.envs,Code.isFrame,pushEnvs]using e.frames),e.mod,e.bs,e.bsz,e.funs,e.frf,e.hok,e.bare⟩
theorem Inv.env0(I:Inv X a σ H s):Env0 X.prog X.w X.K X.mg X.base X.A X.stack s H:=
 ⟨I.ok.frames,I.ok.mod,I.bs,o6 I.ok.bsz I.sz,I.stack,⟨I.stkFree,I.tabs⟩,I.hok,I.bare⟩
theorem Inv.after(I:Inv X a σ H s)(h:CE X.stack X.prog X.w H s Q u e):EP X a σ Q u e:=by
 obtain⟨v,k,j,c,un,i,r,q⟩:=h;obtain⟨hh,g,d,t,f⟩:=e;obtain rfl:f=s.os:=j;exact⟨v,k,I.call un i c (λ b z=>absurd z (by simp)),r,q⟩
def sU(C:EG)(sp:Sp)(dvs:ge V)(E:XK)(t:TA):TE:=λ σ H Q=>t σ H λ vs H1=>∀x dx,H1 x=none->H1 dx=none->dx≠x ->
 sp (.ref x::(vs++dvs)) (upd (upd H1 dx (.own x)) x (.ins C dx [])) (λ v H2=>v=.non/\Q (.ref x) H2) E
def u7(K:EQ)(fd:EO)(ps:ge Str)(ds:ge ED):Prop:=
 ∀(s:EF) (us:ge ED),K.In s.heap->(us++ds).length=ps.length->BindsTo s fd ⟨us,[]⟩ (ps.zip (us++ds))
theorem u7.all{K:EQ}(h:∀a:ge ED,a.length=b.length->bindArgs fd ⟨a,[]⟩=pure (b.zip a)):u7 K fd b []:=λ s a _ c=>by
 rw[v3]at c ⊢;exact .of_eq (h a c)
def aq(CX:CXT)(X:Cx)(E:XK):Prop:=∀(pins:ge (EG×Obj)) (σ:St) (H:Hp) (s:EF) (e:ED) (s':EF),Inv X pins σ H s->CX X.stack H s E e s'->X.xe e s'
section
variable {X:Cx} {CX:CXT} {k:Nat} {f C:EG} {fd:EO} {ps:ge Str} {sp:Sp} {dvs:ge V} {ds:ge ED} {E:XK} {x m:Str} {p pos apos:Pos} {e o:EI} {es:ge EI} {ta:TE} {t:TA}
structure Mk(K:PySem.W.Frag)(C f:Addr):Prop where
 makes:PySem.W.makesIn K C=true
 init:PySem.W.findIn K (.ref C) "__init__" = some (some (.ref f))
 fn:PySem.W.isFn K (.ref f)=true
 kp:PySem.W.keepIn K (.ref C)=true
theorem sV(M:Mk X.K C f)(F:FnOk X.prog X.w X.K X.mg X.base CX k f fd ps sp)(o:Room (k+1) X.A)(t:u7 X.K fd ps ds)(q:Vals dvs ds)
  (n:aq CX X E) (I:Inv X a σ H s) (r:Vals vs c)
  (h:∀x dx,H x=none->H dx=none->dx≠x->sp (.ref x::(vs++dvs)) (upd (upd H dx (.own x)) x (.ins C dx [])) (λ v A=>v=.non/\Q (.ref x) A) E) :
  wpAny (model X.prog X.w) X.A (call (.ref C) c) (EP X a σ Q) X.xe s:=by
 have i:=h _ s.heap.objs.size (I.hok.fresh (ak _)) (I.hok.fresh (j0 _)) (j5 (Q0 _));have d:=Inv.made (C:=C) I;have g:Vals (V.ref (s.heap.objs.size+1)::(vs++dvs)) _:=.cons rfl (r.append q);have p:=(by have e:=g.length;rw[F.len _ _ _ _ i]at e;exact e.symm);refine bf (sI I.kIn M.makes M.init (i1.mp M.fn) (J4 (F.run _ X.stack _ _ ⟨Value.ref _::c,[]⟩ _ _ _ E (o.make C c [])
  (d.env0.make C c []) (t _ (Value.ref (s.heap.objs.size+1)::c) d.kIn p) g i) λ r j b=>?_))
 cases r with
 | error e=>exact n a σ _ _ e j d b
 | ok w=>
  cases w with
  | ret u=>
   obtain⟨v,B,z,l,y,m⟩:=d.after b;subst y;exact⟨l,⟨V.ref _,B,z,rfl,m⟩⟩
  | next=>exact False.elim b
  | brk=>exact False.elim b
  | cont=>exact False.elim b
theorem sW(M:Mk X.K C f)(F:FnOk X.prog X.w X.K X.mg X.base CX k f fd ps sp)(j:Room (k+1) X.A)(m:Gl X x)(l:X.mg x=some (.ref C))(u:u7 X.K fd ps ds)(o:Vals dvs ds)(i:aq CX X E)
  (v:PA X (e::es) t) (c:(x==("__debug__" : Str))=false:=by decide) (n:starEach (e::es) X.env=(false,eval e X.env)::starEach es X.env:=by rfl) (b:(backTo pos (starEach es X.env)).any (·.1)=false:=by rfl) :
  PE X (.Call (.Name x p) (e::es) [] pos) (sU C sp dvs E t):=by
 intro a s g H Q I h;refine S9 (Q6 I m l ?_ c);refine aU I.ok.mod.kin M.kp (thn (v pos a s g H _ I h) λ us s1 ⟨vs,H1,d,r,q⟩=>⟨d.kIn,?_⟩) n b;exact sV M F j u o i d r q
end
section
variable {X:Cx} {CX:CXT} {k:Nat} {f C:EG} {fd:EO} {ps ks:ge Str} {sp:Sp} {E:XK} {x m:Str} {p pos apos kpos:Pos} {e o:EI} {es:ge EI} {kws:ge Keyword} {te ta:TE} {t tk:TA} {nm:EC Str}
structure KBinds(K:PySem.W.Frag)(fd:FuncData)(ps ks:List Str)(g:List Value->List Value->List Value)(gV:List V->List V->List V):Prop where
 to:∀(s:Shared) (us ws:List Value),K.In s.heap->(g us ws).length=ps.length->BindsTo s fd ⟨us,ks.zip ws⟩ (ps.zip (g us ws))
 rel:∀{vs:List V} {us:List Value} {zs:List V} {ws:List Value},Vals vs us->Vals zs ws->Vals (gV vs zs) (g us ws)
end
structure FnScope(N P:List Str)(sc:Scope):Prop where
 kind:sc.kind=.function
 co:sc.isCoroutine=false
 gen:sc.isGenerator=false
 nd:N.Nodup
 pre:N.take P.length=P
 par:∀x∈P,sc.names.lookup x=some .local\/sc.names.lookup x=some .cell
 nofree:∀y∈sc.names,y.2 ≠ .free
theorem lI:∀{a:ge (Str×ED)} {m:Str->EC ED},(∀v,(x,v)∉a)->bindL b a m x=m x
 | [],_,_=>rfl
 | (n,v)::r,m,h=>by
  unfold bindL;rw[lI λ w c=>h w (j6 _ c)];split
  ·have:x≠n:=by rintro rfl;exact h v o8
   simp[this]
  ·rfl
theorem lJ:∀{a:ge (Str×ED)} {m:Str->EC ED},(∀v,(x,v)∉a)->bindC b a m x=m x
 | [],_,_=>rfl
 | (n,v)::r,m,h=>by
  unfold bindC;rw[lJ λ w c=>h w (j6 _ c)];split
  ·rfl
  ·have:x≠n:=by rintro rfl;exact h v o8
   simp[this]
theorem lK:∀{P:ge Str} {b:ge ED} {i:Nat} {m:Str->EC ED},P.Nodup->P[i]? = some x->b[i]? = some v->a x=some .local ->
  bindL a (P.zip b) m x=some v
 | [],_,_,_,_,h,_,_=>by simp at h
 | _::_,[],_,_,_,_,h,_=>by simp at h
 | p::P,w::b,0,m,e,d,c,f=>by simp at d c;subst d;subst c;show bindL a ((p,w)::P.zip b) m p=_;unfold bindL;rw[lI λ v g=>(U0.mp e).1 (cW g).1,i3 f];simp
 | p::P,w::b,i+1,m,e,d,c,f=>by show bindL a _ m x=_;unfold bindL;exact lK (U0.mp e).2 (by simpa using d) (by simpa using c) f
theorem lL:∀{P:ge Str} {b:ge ED} {i:Nat} {m:Str->EC ED},P.Nodup->P[i]? = some x->b[i]? = some v->a x≠some .local ->
  bindC a (P.zip b) m x=some v
 | [],_,_,_,_,h,_,_=>by simp at h
 | _::_,[],_,_,_,_,h,_=>by simp at h
 | p::P,w::b,0,m,e,d,c,f=>by simp at d c;subst d;subst c;show bindC a ((p,w)::P.zip b) m p=_;unfold bindC;rw[lJ λ v g=>(U0.mp e).1 (cW g).1,i4 f];simp
 | p::P,w::b,i+1,m,e,d,c,f=>by show bindC a _ m x=_;unfold bindC;exact lL (U0.mp e).2 (by simpa using d) (by simpa using c) f
noncomputable def start(N:ge Str)(vs:ge V):St:=vs.map some++List.replicate (N.length - vs.length) none
noncomputable def cxOf(CX:CXT)(P:EL)(w:EK)(K:EQ)(mg:Str->EC ED)(base:EH)(N:ge Str)(qual:Str)(scope:ER)(f:EG)(cd:ED)(A:EM)(outer:ge Env)(s:EF)(H:Hp)(E:XK):Cx where
 prog:=P
 w:=w
 K:=K
 mg:=mg
 base:=base
 A:=A.deeper (envOfC qual scope s.heap.objs.size f cd)
 N:=N
 s₀:=s
 H₀:=H
 env:=envOfC qual scope s.heap.objs.size f cd
 outer:=outer
 stack:=envOfC qual scope s.heap.objs.size f cd::outer
 ex:=[]
 calm:=true
 fn:=λ _=>true
 pn:=[]
 xe:=λ e s'=>wpAny (model P w) (A.deeper (envOfC qual scope s.heap.objs.size f cd)) (leaving (envOfC qual scope s.heap.objs.size f cd) e) (λ _ s''=>CX outer H s E e s'') (λ e' s''=>CX outer H s E e' s'') s'
theorem lM{sc:ER}(h:sc.names.lookup x=some .cell):∃c,(cellsFrom n sc.names []).lookup x=some c:=by
 exact F4.mp (cH sc.names n [] (.inl h))
theorem sX{K:EQ}
  (S:FnScope N m scope) (R:A.handled=none) (l:Env0 P w K mg base A d s H) (hl:vs.length=m.length) (r:Vals vs I)
  (x:InCallC s s.heap.objs.size (bindL (envOfC g scope s.heap.objs.size f cd).kindOf (m.zip I) λ _=>none) (cellsFrom (s.heap.objs.size+1) scope.names []) (bindC (envOfC g scope s.heap.objs.size f cd).kindOf (m.zip I) λ _=>none) s1) :
  Inv (cxOf M P w K mg base N g scope f cd A d s H E) [] (start N vs) H s1:=by
 have Q:m.length<=N.length:=by have:=congrArg List.length S.pre;rw[T6]at this;omega
 obtain⟨F,tk,rfl,L⟩:=x.done;have n:∀b:EG,b∉(cxOf M P w K mg base N g scope f cd A d s H E).ex:=λ b z=>absurd (show b∈([]:ge EG)from z) (by simp)
 refine⟨⟨l.mod,S.kind,rfl,rfl,j0 _,λ y z c F j=>?_,λ y o=>?_,λ y c _ h=>?_,λ _=>R,Around.frames_deeper l.frames,.inr ⟨rfl,rfl⟩,λ b z=>absurd z (n b),l.bs,l.bsz,λ b _ _=>n b,λ b z=>absurd z (n b),l.funs,l.frf⟩,
  rfl,l.bare,Un.kept L,⟨_,x.toInCall.ns,λ i y v F j h3=>?_⟩,λ y c h=>⟨_,x.cell y c h⟩,l.hok.fresh (j0 _),λ y c h=>?_,λ p B=>absurd (show p∈([]:ge _)from B) (by simp),l.hok.kept L,?_⟩
 ·exact name_of_addr x.apart (C9 F) (C9 j)
 ·have o:=o;rcases o with o | o
  ·exact lM o
  ·exact absurd rfl (S.nofree _ (C9 o))
 ·exact X3 (x.above y c (C9 h))
 ·have C:i<vs.length:=by
   unfold start at j;by_cases C:i<vs.length
   ·exact C
   ·rw[W4 (by simpa using C)]at j;rw[Z8]at j;split at j<;>cases j
  have U:vs[i]? = some v:=by
   unfold start at j;rw[P0 (by simpa using C),u9]at j;cases e:vs[i]? with
   | none=>rw[e]at j;cases j
   | some a=>rw[e]at j;cases j;rfl
  obtain⟨u,J,O⟩:=r.get U;have B:m[i]? = some y:=(by rw[←S.pre,jW (by omega)];exact F);have t:m.Nodup:=by rw[←S.pre];exact S.nd.sublist (fL _ _)
  refine⟨u,O,?_⟩;rcases S.par y (M9 B)with k | k
  ·exact .inl ⟨k,lK t B J k⟩
  ·obtain⟨c,e⟩:=lM k;refine .inr ⟨.inl k,c,e,?_⟩;have q:=x.cell y c e;rw[lL t B J (by show scope.names.lookup y≠_;rw[k];decide)]at q;exact q
 ·exact l.hok.fresh (X3 (x.above y c (C9 h)))
 ·unfold start;show _=N.length;rw[B7,n8,aO];omega
theorem sY{K:EQ}{kV Z:ED}
       (lk:K.lookup f=some ⟨oc,od,.func (PySem.W.fnOf i c d body scope dV kV I pm an g Z),U⟩) (X:PySem.W.codeIn K g c=true) (S:FnScope N L scope)
    (z:∀vs H Q E,M vs H Q E->vs.length=L.length)
    (m:∀(A:EM) (a:ge Env) (s:EF) (H:Hp) (vs:ge V) (Q:VK) (E:XK),Room k (A.deeper (envOfC c scope s.heap.objs.size f g))->M vs H Q E ->
      ∃t,PSs (cxOf Y P w K mg base N c scope f g A a s H E) body t/\t {nx:=λ _ j=>Q .non j,rt:=Q} (start N vs) H) :
    FnOk P w K mg base Y (k+1) f (PySem.W.fnOf i c d body scope dV kV I pm an g Z) L M:=by
  refine⟨z,λ A a s H a0 us vs Q E W F hb r B=>?_⟩;have hl:=z _ _ _ _ B;have KX:=F.mod.kin.keeps λ b o e=>(F.bs b o e).1;have l:∀y∈L.zip us,scope.names.lookup y.1=some .local\/(scope.names.lookup y.1=some .cell/\((cellsFrom (s.heap.objs.size+1) scope.names []).lookup y.1).isSome=true):=λ ⟨n,v⟩ hy=>by
    rcases S.par n (cW hy).1 with q | q
    · exact .inl q
    · exact .inr ⟨q,cH _ _ _ (.inl q)⟩
  refine codeAny_call_function W.depth (KX _ _ lk) rfl S.co S.gen rfl (PySem.W.codeRec_of KX X) (hb _ _ _ _ ?_)
  refine wpAny_newFunctionEnv_cells S.kind l λ env he s1 x=>?_;subst he;refine⟨(F.mod.nolimit.keeps λ b o e=>(F.bs b o e).1).keeps x.toInCall.keep,codeAny_func ?_⟩;obtain⟨t,ht,hq⟩:=m A a s H vs Q E (W.deeper _) B;refine k7 (ht [] s1 _ H _ (sX S W.hd F hl r x) hq) (λ fl O p=>?_) λ e O p=>p;have C:∀{h:St} {j:Hp} {v:V} {u:ED},Inv (cxOf Y P w K mg base N c scope f g A a s H E) [] h j O->RelV v u->Q v j->CE a P w H s Q u O:=
    λ {h j v u} J R q=>⟨v,j,J.os,J.bare,J.base,J.hok,R,q⟩
  cases fl with
  | ret u=>
    obtain⟨v,h,j,J,R,q⟩:=p;exact C J R q
  | next=>
    obtain⟨h,j,J,q⟩:=p;exact C (v:=V.non) J rfl q
  | brk=>
    obtain⟨_,_,_,q⟩:=p;exact False.elim q
  | cont=>
    obtain⟨_,_,_,q⟩:=p;exact False.elim q
end L2
namespace L2
open PySem PySem.Spec PyProof.Rows
section
variable {X:Cx} {x:Str} {p pos:Pos} {e:EI} {es:ge EI} {t:TA} {id T:EU} {r:ge V->Hp->VK->Prop}
noncomputable def tCB(r:ge V->Hp->VK->Prop)(t:TA):TE:=λ σ H Q=>t σ H λ vs H1=>r vs H1 Q
theorem bp(q:v9 X (.builtin id) r)(n:Gl X x)(m:X.mg x=none)(k:bootBuiltins x=some (.builtin id))(u:PA X (e::es) t)(l:x ≠ "__name__":=by decide)(c:(x==("__debug__" : Str))=false:=by decide)
  (o:starEach (e::es) X.env=(false,eval e X.env)::starEach es X.env:=by rfl) (b:(backTo pos (starEach es X.env)).any (·.1)=false:=by rfl):PE X (.Call (.Name x p) (e::es) [] pos) (tCB r t):=by
 intro a s d H Q I h;refine S9 (am I n m k ?_ l c);exact PyProof.Rows.callWith_builtin1 (thn (u pos a s d H _ I h) λ g s1 ⟨f,w,v,i,j⟩=>q a s1 d w f g Q v i j) o b
theorem lN(q:v9 X (.type T) r)(n:Gl X x)(m:X.mg x=none)(k:bootBuiltins x=some (.type T))(u:PA X (e::es) t)(l:x ≠ "__name__":=by decide)(c:(x==("__debug__" : Str))=false:=by decide)
  (o:starEach (e::es) X.env=(false,eval e X.env)::starEach es X.env:=by rfl) (b:(backTo pos (starEach es X.env)).any (·.1)=false:=by rfl):PE X (.Call (.Name x p) (e::es) [] pos) (tCB r t):=by
 intro a s d H Q I h;refine S9 (am I n m k ?_ l c);exact cF (thn (u pos a s d H _ I h) λ g s1 ⟨f,w,v,i,j⟩=>q a s1 d w f g Q v i j) o b
end
end L2
namespace HT
open PySem PyProof.Rows
theorem cat_tup(x:IsTup s.heap t vs.toArray)(y:IsTup s.heap b ws.toArray)(o:vs≠[])
  (B:ws=[]->Q (.ref t) s) (z:ws≠[]->Q (.ref s.heap.objs.size) {s with heap:=s.heap.push {cls:=.type "tuple",data:=.seq (vs++ws).toArray}})
  (j:vs.length+ws.length<=sizeLine):wpAny (model prog w) A (binaryOp .Add (.ref t) (.ref b)) Q E s:=by
 obtain⟨⟨C,r,u,l⟩,i,q,n,p⟩:=id x;obtain⟨⟨v,g,k,c⟩,a,f,m,d⟩:=id y;simp only at q p f d;subst q p f d;have e:vs.toArray++ws.toArray=(vs++ws).toArray:=by simp
 by_cases h:ws=[]
 ·exact concat_meets ⟨_,i,rfl⟩ ⟨_,a,rfl⟩ noFill_tuple_add seq_tuple_add kr jZ (jX _ _)
   (tuple_addW1 t b vs.toArray ws.toArray n m r g l c (by simpa using o) (by simp[h])) ⟨i,a,B h⟩
 ·refine concat_meets ⟨_,i,rfl⟩ ⟨_,a,rfl⟩ noFill_tuple_add seq_tuple_add kr jZ (jX _ _)
   (tuple_addW2 t b vs.toArray ws.toArray n m r g l c (by simpa using o) (by simpa using h) (by rw[r9,r9];exact j)) ⟨i,a,?_⟩
  rw[e];exact z h
noncomputable def sIx(n d:Nat):EC Int->Nat
 | none=>d
 | some v=>if v<0 then(v+(n:Int)).toNat else min v.toNat n
theorem sZ(n d:Nat)(b:d<=n)(o:EC Int):sIx n d o<=n:=by
 cases o with
 | none=>exact b
 | some v=>
  show(if v<0 then(v+_).toNat else min v.toNat n)<=n;by_cases a:v<0
  ·rw[i3 a];omega
  ·rw[i4 a];exact Nat.min_le_right _ _
theorem lP(v:Int)(n d:Nat):(if v<0 then max (v+(n:Int)) 0 else min v (n:Int))=((sIx n d (some v):Nat):Int):=by
 show(if v<0 then max _ 0 else min v _)=(((if v<0 then(v+_).toNat else min v.toNat n):Nat):Int);by_cases a:v<0
 ·simp only[i3 a];omega
 ·simp only[i4 a];omega
theorem td(a b:EC Int)(n:Nat):Builtin.Slice.sliceAdjust a b 1 (n:Int)=(((sIx n 0 a:Nat):Int),((sIx n n b:Nat):Int)):=by
 have c:¬((1:Int)<0):=by omega
 unfold Builtin.Slice.sliceAdjust;simp only[c,if_false];refine Prod.ext ?_ ?_
 ·cases a with
  | none=>rfl
  | some v=>exact lP v n 0
 ·cases b with
  | none=>rfl
  | some v=>exact lP v n n
theorem tf(i j:Nat):Builtin.Slice.slicePlaces (i:Int) (j:Int) 1=j - i:=by
 unfold Builtin.Slice.slicePlaces;have a:(1:Int)>0:=by omega
 simp only[a,if_true,Int.ediv_one];split<;>omega
theorem lQ(p:IsPart v o)(h:Q o s):wpAny (model prog w) A (Builtin.Slice.slicePartIndex v) Q E s:=by
 cases p with
 | none=>exact slicePart_none h
 | int i t=>exact slicePart_int h
theorem ti{n:Nat}(j:s.heap.IsSliceOf g f e .none)(pl:IsPart f a)(i:IsPart e d)
  (h:Q (((sIx n 0 a:Nat):Int),1,sIx n n d - sIx n 0 a) s):wpAny (model prog w) A (Builtin.Slice.sliceApplied (.ref g) (pure (n:Int))) Q E s:=by
 obtain⟨os,b,k,c⟩:=id j;unfold Builtin.Slice.sliceApplied Builtin.Slice.sliceFields;refine g6 (g6 (t4 b c rfl (g6 (t4 b c rfl (g6 (t4 b c rfl (i0 ?_)))))));refine g6 (slicePart_none ?_);show wpAny _ _ _ _ _ s;rw[i4 (by decide)];refine g6 (lQ pl (g6 (lQ i (g6 (i0 ?_)))));show wpAny _ _ (match Builtin.Slice.sliceAdjust a d 1 (n:Int)with | (a,d)=>pure (a,_,Builtin.Slice.slicePlaces a d 1)) _ _ s;rw[td a d n];show wpAny _ _ (pure _) _ _ s;rw[tf];exact i0 h
theorem tj(a:EJ ED)(i k:Nat):((List.range k).filterMap λ (m:Nat)=>a[((i:Int)+(m:Int)*1).toNat]?).toArray=((a.toList.drop i).take k).toArray:=by
 have e:(λ (m:Nat)=>a[((i:Int)+(m:Int)*1).toNat]?)=λ m=>a[i+m]?:=by
  funext m
  have:((i:Int)+(m:Int)*1).toNat=i+m:=by omega
  rw[this]
 rw[e];have:=pick_run a i k;rw[List.filterMap_map]at this;have b:(_ ∘ λ x=>i+x)=λ m=>a[i+m]?:=rfl
 rw[b]at this;rw[this]
theorem getItem_tuple_cut(d:IsTup s.heap t items)(l:s.heap.IsSliceOf k j i .none)(pl:IsPart j a)(m:IsPart i b)
  (hw:¬(sIx items.size 0 a=0/\sIx items.size items.size b=items.size))
  (h:Q (.ref s.heap.objs.size) {s with heap:=s.heap.push {cls:=.type "tuple",data:=.seq ((items.toList.drop (sIx items.size 0 a)).take (sIx items.size items.size b - sIx items.size 0 a)).toArray}})
  (o:items.size<=sizeLine):wpAny (model prog w) A (getItem (.ref t) (.ref k)) Q E s:=by
 have c:=(by show((items.toList.drop (sIx items.size 0 a)).take (sIx items.size items.size b - sIx items.size 0 a)).toArray.size<=sizeLine;rw[r9,T6,cT,A5];omega);have hj:sIx items.size items.size b<=items.size:=sZ _ _ (j0 _) b;obtain⟨n,e,g,p⟩:=id l;unfold getItem
 try with_reducible refine x8 ?_
 first | refine g6 (i0 ?_) | skip
 refine g6 (wpAny_sequenceKey d.typeIs (by decide) ?_);refine g6 (K5 d.typeIs jP
  (F6 jP d.typeIs entry_tuple_getitem ?_ (args_tuple_getitem _ _)))
 show wpAny _ _ (Builtin.Tuple.tupleItemsOf _ >>= _) _ _ s;refine g6 (tupleItemsOf_ d ?_);refine g6 (gj (⟨n,e,g⟩) ?_);rw[i3 (by decide)];refine g6 (ti l pl m ?_);have f:¬((((sIx items.size 0 a:Nat):Int)==0&&(1:Int)==1&&(sIx items.size items.size b - sIx items.size 0 a)==items.size)=true):=by intro q;rw[g9,g9]at q;have q1:=dw q.1.1;have q2:=dw q.2;exact hw ⟨by omega,by omega⟩
 show wpAny _ _ (if(((sIx items.size 0 a:Nat):Int)==0&&(1:Int)==1&&(sIx items.size items.size b - sIx items.size 0 a)==items.size)=true then _ else _) _ _ s;rw[i4 f,tj]
 first
  | exact g6 (I0 (i0 ⟨_,rfl,i0 h⟩) c)
  | exact g6 _
  | exact g6 _
  | exact g6 _
end HT
namespace L2
open PySem PySem.Spec PyProof.Rows
abbrev TO:=St->Hp->(EC Int->Hp->Prop)->Prop
def PO(X:Cx)(e:EC EI)(t:TO):Prop:=
 ∀(pins:ge (EG×Obj)) (s:EF) (σ:St) (H:Hp) (Q:EC Int->Hp->Prop),Inv X pins σ H s->t σ H Q ->
  wpAny (model X.prog X.w) X.A (evalPart e X.env) (λ u s'=>∃o H',Inv X pins σ H' s'/\IsPart u o/\Q o H') X.xe s
noncomputable def tm:TO:=λ _ H Q=>Q none H
noncomputable def tq(t:TE):TO:=λ σ H Q=>t σ H λ x H1=>∃i,x=.int i/\Q (some i) H1
section
variable {X:Cx} {e:EI} {te:TE} {lo hi:EC EI} {tl th:TO} {pos p2:Pos}
theorem au:PO X none tm:=by
 intro a s σ H Q I h;rw[evalPart_none];exact i0 ⟨none,H,I,.none,h⟩
theorem lR(h:PE X e te):PO X (some e) (tq te):=by
 intro a s b H Q I f;rw[evalPart_some];refine thn (h a s b H _ I f) λ u s1 ⟨x,j,g,c,d⟩=>?_
 obtain⟨i,rfl,q⟩:=d;obtain⟨t,rfl⟩:=c;exact⟨some i,j,g,.int i t,q⟩
def SlR(X:Cx)(r:V->EC Int->EC Int->Hp->VK->Prop):Prop:=
 ∀(pins:ge (EG×Obj)) (s:EF) (σ:St) (H:Hp) (x:V) (v vl vu:ED) (lo hi:EC Int) (sl:EG) (Q:VK),Inv X pins σ H s->RelV x v->s.heap.IsSliceOf sl vl vu .none->IsPart vl lo->IsPart vu hi->r x lo hi H Q ->
  ∃T id,typeLookup (.type T) "__getitem__" = pure (some (.builtin id))/\s.TypeIs v T/\wpAny (model X.prog X.w) X.A (getItem v (.ref sl)) (EP X pins σ Q) X.xe s
theorem SlR.or(h:SlR X r)(h':SlR X j):SlR X (λ x b c H Q=>r x b c H Q\/j x b c H Q):=by
 intro a s d H x v f e b c g Q I i l pl k q;rcases q with q | q
 ·exact h a s d H x v f e b c g Q I i l pl k q
 ·exact h' a s d H x v f e b c g Q I i l pl k q
noncomputable def tSl(r:V->EC Int->EC Int->Hp->VK->Prop)(te:TE)(tl th:TO):TE:=λ σ H Q=>te σ H λ x H1=>tl σ H1 λ l H2=>th σ H2 λ u H3=>r x l u H3 Q
theorem Q7(w:SlR X r)(A:PE X e te)(y:PO X lo tl)(p:PO X hi th):PE X (.Subscript e (.Slice lo hi none p2) pos) (tSl r te tl th):=by
 intro a s d H Q I h;refine Subscript_ (thn (A a s d H _ I h) λ v s1 ⟨x,L,F,j,n⟩=>?_);refine wpAny_Slice (thn (y a s1 d L _ F n) λ g i ⟨l,K,E,pl,m⟩=>thn (p a i d K _ E m) λ f c ⟨u,J,C,o,k⟩=>?_);rw[evalPart_none];refine i0 ?_;obtain⟨T,id,B,t,z⟩:=w a {c with heap:=c.heap.push {cls:=.type "slice",data:=.fields #[g,f,.none]}} d J x v g f l u c.heap.objs.size Q (C.kept λ b ob q=>i5 _ q) j (Heap.IsSliceOf.new ..) pl o k;show wpAny _ X.A _ _ X.xe {c with heap:=c.heap.push {cls:=.type "slice",data:=.fields #[g,f,.none]}};exact tail_any t B z (by with_unfolding_all rfl)
def cutV(xs:ge V)(lo hi:EC Int):ge V:=(xs.drop (HT.sIx xs.length 0 lo)).take (HT.sIx xs.length xs.length hi - HT.sIx xs.length 0 lo)
theorem lS(a:ge V)(b c:EC Int):(cutV a b c).length<=a.length:=by
 unfold cutV;rw[T6,cT];omega
def rSlT(K:EQ):V->EC Int->EC Int->Hp->VK->Prop:=λ x lo hi H Q=>∃a xs,x=.ref a/\SqT K H a xs /\
 ¬(HT.sIx xs.length 0 lo=0/\HT.sIx xs.length xs.length hi=xs.length)/\∀p,H p=none->Q (.ref p) (upd H p (.tup (cutV xs lo hi)))
theorem tu:SlR X (rSlT X.K):=by
 intro f s σ H x v vl vu l p sl Q I j o pl k h;obtain⟨a,e,rfl,m,n,q⟩:=h;cases j;obtain⟨d,r,i,g⟩:=I.tuple m;have c:d.toArray.size=e.length:=by rw[r9];exact r.length.symm
 refine⟨"tuple",_,PyProof.Rows.slot_tuple_getitem.lookup,i.typeIs,?_⟩;refine HT.getItem_tuple_cut i o pl k (by rw[c];exact n) ?_ (by rw[c];exact g);rw[c];refine⟨.ref s.heap.objs.size,_,I.laid (λ b ob q=>i5 _ q) (j0 _) ?_,rfl,q _ (I.hok.fresh (j0 _))⟩;exact⟨o6 (lS e l p) g,_,(r.drop _).take _,N6.new _ _⟩
def lT(K:EQ):R2:=λ x y H Q=>∃a b xs ys,x=.ref a/\y=.ref b/\SqT K H a xs/\SqT K H b ys/\xs≠[]/\xs.length+ys.length<=sizeLine /\
 (ys=[]->Q (.ref a) H)/\(ys≠[]->∀p,H p=none->Q (.ref p) (upd H p (.tup (xs++ys))))
theorem Vals.nil_iff(r:Vals a b):b=[]↔a=[]:=by
 cases r with
 | nil=>simp
 | cons _ _=>simp
theorem tw:OpR X (binaryOp .Add) (lT X.K):=by
 intro e s σ H x y v u Q I j i h;obtain⟨a,b,xs,ys,rfl,rfl,p,o,n,g,l,k⟩:=h;cases j;cases i;obtain⟨m,d,p1,_⟩:=I.tuple p;obtain⟨f,c,p2,_⟩:=I.tuple o;refine HT.cat_tup p1 p2 (λ z=>n (d.nil_iff.mp z)) (λ z=>⟨.ref a,H,I,rfl,l (c.nil_iff.mp z)⟩) (λ z=>?_) (by rw[←d.length,←c.length];exact g);refine⟨.ref s.heap.objs.size,_,I.laid (λ b ob q=>i5 _ q) (j0 _) ?_,rfl,k (λ w=>z (c.nil_iff.mpr w)) _ (I.hok.fresh (j0 _))⟩;exact⟨by rw[B7];exact g,_,d.append c,N6.new _ _⟩
end
end L2
namespace L2
open PySem PySem.Spec PyProof.Rows
noncomputable def ixN(n:Nat)(i:Int):EC Nat:=if 0<=i then(if i<n then some i.toNat else none)else if -(n:Int)<=i then some (i+n).toNat else none
def atI{α:Type}(xs:ge α)(i:Int):EC α:=(ixN xs.length i).bind λ j=>xs[j]?
theorem tx(h:ixN n i=some j):seqIndex? i n=some j/\j<n /\ -(n:Int)<=i/\i<n:=by
 unfold ixN at h;by_cases b:0<=i
 ·rw[i3 b]at h;by_cases a:i<n
  ·rw[i3 a]at h;have e:=v5 h;exact⟨by rw[seqIndex_of b a,e],by omega,by omega,a⟩
  ·rw[i4 a]at h;cases h
 ·rw[i4 b]at h;by_cases a : -(n:Int)<=i
  ·rw[i3 a]at h;have e:=v5 h;exact⟨by rw[seqIndex_neg (by omega) a,e],by omega,a,by omega⟩
  ·rw[i4 a]at h;cases h
theorem gD(h:atI a i=some v):∃j,seqIndex? i a.length=some j/\a[j]? = some v/\j<a.length /\ -(a.length:Int)<=i/\i<a.length:=by
 unfold atI at h;cases e:ixN a.length i with
 | none=>rw[e]at h;cases h
 | some j=>
  rw[e]at h;obtain⟨g,f,d,c⟩:=tx e;exact⟨j,g,h,f,d,c⟩
def tz(b:EI):Prop:=∀o i,subscripted b false o i=operate [o,i] (getItem o i)
def IxR(X:Cx)(r:R2):Prop:=
 ∀(value slice:EI) (pins:ge (EG×Obj)) (s:EF) (σ:St) (H:Hp) (x y:V) (v u:ED) (Q:VK),Inv X pins σ H s->RelV x v->RelV y u->r x y H Q ->
  subscripted slice false v u=operate [v,u] (getItem v u)->wpAny (model X.prog X.w) X.A (subscriptTail value slice v u) (EP X pins σ Q) X.xe s
def MtR(X:Cx)(id:EU)(r:V->ge V->Hp->VK->Prop):Prop:=
 ∀(pins:ge (EG×Obj)) (s:EF) (σ:St) (H:Hp) (x:V) (xs:ge V) (v:ED) (us:ge ED) (Q:VK),Inv X pins σ H s->RelV x v->Vals xs us->r x xs H Q ->
  wpAny (model X.prog X.w) X.A (call (.builtin id) (v::us)) (EP X pins σ Q) X.xe s
section
variable {X:Cx} {a b:EI} {ta tb:TE} {pos:Pos}
theorem IxR.or(h:IxR X r)(h':IxR X g):IxR X (λ x y H Q=>r x y H Q\/g x y H Q):=by
 intro a b c s d H x y v u Q I f e q i;rcases q with q | q
 ·exact h a b c s d H x y v u Q I f e q i
 ·exact h' a b c s d H x y v u Q I f e q i
theorem lU(j:IxR X r)(l:PE X a ta)(k:PE X b tb)(i:tz b):PE X (.Subscript a b pos) (tOp r ta tb):=by
 intro c s d H Q I h;exact Subscript_ (binT l k I h λ v u e x y n m g f q=>j a b c e d n x y v u Q m g f q (i _ _))
def rIxL(K:EQ):R2:=λ x y H Q=>∃p xs i v,x=.ref p/\y=.int i/\SqL K H p xs/\atI xs i=some v/\Q v H
def rIxT(K:EQ):R2:=λ x y H Q=>∃p xs i v,x=.ref p/\y=.int i/\SqT K H p xs/\atI xs i=some v/\Q v H
def rIxS:R2:=λ x y H Q=>∃z i c,x=.str z/\y=.int i/\z.length<=sizeLine/\atI z.cps.toList i=some c/\Q (.str ⟨#[c]⟩) H
theorem tA:IxR X (rIxL X.K):=by
 intro d e a s o H x y v u Q I B A h l;obtain⟨p,xs,i,z,rfl,rfl,C,F,q⟩:=h;cases B;obtain⟨t,rfl⟩:=A;obtain⟨g,r,pl,hz⟩:=I.list C;obtain⟨j,c,L,h3,K,J⟩:=gD F;obtain⟨w,n,f⟩:=r.get L;have E:=r.length;have hn:=ao;have b:EP X a o Q w s:=⟨z,H,I,f,q⟩;by_cases m:0<=i
 ·have k:i.toNat=j:=by
   rw[seqIndex_of m J]at c;exact v5 c
  exact item_listR pl.isList m (by omega) (by rw[k];simpa using n) b l
 ·have k:(i+(g.toArray.size:Int)).toNat=j:=by
   rw[seqIndex_neg (by omega) K]at c;rw[r9,←E];exact v5 c
  exact ku pl.isList.typeIs slot_list_getitem.lookup
   (wpAny_getItem_list_neg pl.isList (by omega) (by rw[r9]<;>omega) (by omega) (by rw[k];simpa using n) ⟨rfl,b⟩) l
theorem tB:IxR X (rIxT X.K):=by
 intro a b d s σ H x y v u Q I f e h k;obtain⟨p,xs,i,z,rfl,rfl,l,m,q⟩:=h;cases f;obtain⟨t,rfl⟩:=e;obtain⟨g,r,pl,hz⟩:=I.tuple l;obtain⟨j,o,n,h3,h4,h5⟩:=gD m;obtain⟨w,A,c⟩:=r.get n;have hn:=ao;exact ku pl.typeIs slot_tuple_getitem.lookup
  (getItem_tuple pl (by omega) (by omega) (by rw[r9,←r.length];exact o) (by simpa using A) ⟨rfl,(⟨z,H,I,c,q⟩)⟩) k
theorem tD:IxR X rIxS:=by
 intro a b d s σ H x y v u Q I g f h k;obtain⟨z,i,c,rfl,rfl,hz,m,q⟩:=h;obtain⟨t,rfl⟩:=g;obtain⟨t',rfl⟩:=f;obtain⟨j,e,p,h3,o,n⟩:=gD m;have l:z.cps.toList.length=z.length:=by simp[Str.length]
 rw[l]at e o n;have hn:=ao;exact tail_any (X4 s z t) slot_str_getitem.lookup (getItem_str (by
  rw[(A8 (by omega)),(A8 (by omega)),Bool.or_false]) (by rw[e];simpa using p) ⟨.str ⟨#[c]⟩,H,I.tok _,⟨_,rfl⟩,q⟩) k
def rIx(K:EQ):R2:=λ x y H Q=>rIxL K x y H Q\/rIxT K x y H Q\/rIxS x y H Q
theorem tE:IxR X (rIx X.K):=tA.or (tB.or tD)
theorem tF(a b:EC Int)(n:Nat):(sliceBounds a b none n).1=((HT.sIx n 0 a:Nat):Int)/\(sliceBounds a b none n).2.1=((HT.sIx n n b:Nat):Int)/\(sliceBounds a b none n).2.2=1:=by
 refine⟨?_,?_,rfl⟩
 ·cases a with
  | none=>simp[sliceBounds,HT.sIx]
  | some i=>
   simp only[sliceBounds,HT.sIx,Option.getD_none,show(1:Int)>0 by decide,if_true];by_cases h:i<0
   ·simp only[h,if_true]<;>omega
   ·simp only[h,if_false]<;>omega
 ·cases b with
  | none=>simp[sliceBounds,HT.sIx]
  | some i=>
   simp only[sliceBounds,HT.sIx,Option.getD_none,show(1:Int)>0 by decide,if_true];by_cases h:i<0
   ·simp only[h,if_true]<;>omega
   ·simp only[h,if_false]<;>omega
theorem tG(a:ge ED)(b c:EC Int):slicePick a.toArray b c none=((a.drop (HT.sIx a.length 0 b)).take (HT.sIx a.length a.length c - HT.sIx a.length 0 b)).toArray:=by
 obtain⟨f,e,d⟩:=tF b c a.toArray.size;unfold slicePick;rw[f,e,d];simp only[sliceRange_one,pick_run,r9]<;>rfl
def rSlL(K:EQ):V->EC Int->EC Int->Hp->VK->Prop:=λ x lo hi H Q=>∃a xs,x=.ref a/\SqL K H a xs/\∀p,H p=none->Q (.ref p) (upd H p (.lst (cutV xs lo hi)))
theorem tH:SlR X (rSlL X.K):=by
 intro d s σ H x v vl vu j o sl Q I g n pl i h;obtain⟨a,f,rfl,m,q⟩:=h;cases g;obtain⟨k,r,e,l⟩:=I.list m;have c:=r.length;refine⟨"list",_,slot_list_getitem.lookup,e.isList.typeIs,?_⟩;refine wpAny_getItem_list_slice e.isList n pl i .none (by simp) ?_ (by rw[r9]<;>omega);rw[tG,←c];refine⟨.ref s.heap.objs.size,_,I.laid (λ b ob q=>i5 _ q) (j0 _) ?_,rfl,q _ (I.hok.fresh (j0 _))⟩;exact⟨o6 (lS f j o) l,_,0,(r.drop _).take _,k6 _ rfl⟩
theorem gE:v9 X (.builtin "len") (λ f H Q=>∃p b,f=[.ref p]/\(SqL X.K H p b\/SqT X.K H p b)/\Q (.int b.length) H):=by
 intro g s σ H f us Q I r h;obtain⟨p,b,rfl,c,q⟩:=h;obtain⟨u,rfl,i⟩:=F0 r;cases i;have hn:=ao;rcases c with c | c
 ·obtain⟨e,d,pl,j⟩:=I.list c;have a:=d.length;exact Calls.call_len_list pl.isList (by simp only[r9]<;>omega) ⟨.int b.length,H,I.tok _,⟨s.toks+1,by rw[r9,a]⟩,q⟩
 ·obtain⟨e,d,pl,j⟩:=I.tuple c;have a:=d.length;exact len_tuple pl (by simp only[r9]<;>omega) ⟨.int b.length,H,I.tok _,⟨s.toks+1,by rw[r9,a]⟩,q⟩
theorem tI:v9 X (.builtin "len") (λ a H Q=>∃z,a=[.str z]/\z.length<=sizeLine/\Q (.int z.length) H):=by
 intro b s σ H a us Q I r h;obtain⟨z,rfl,hz,q⟩:=h;obtain⟨u,rfl,t,rfl⟩:=F0 r;have hn:=ao;exact len_str (by omega) ⟨.int z.length,H,I.tok _,⟨_,rfl⟩,q⟩
theorem gF:v9 X (.type "list") (λ x H Q=>∃p c,x=[.ref p]/\(SqL X.K H p c\/SqT X.K H p c)/\∀l,H l=none->Q (.ref l) (upd H l (.lst c))):=by
 intro g s y H x us Q I r h;obtain⟨p,c,rfl,j,q⟩:=h;obtain⟨u,rfl,z⟩:=F0 r;cases z;have m:∀(a:ge ED),Vals c a->c.length<=sizeLine->∀(b:EH) (f:Nat),_ ->
   b.get? s.heap.objs.size=some {cls:=.type "list",dict:=none,data:=.seq a.toArray f,slots:=#[]} -> EP X g y Q _ {s with heap:=b}:=λ a d i b f kp e=>
  ⟨.ref s.heap.objs.size,_,I.laid kp (j0 _) (show z5 X.prog X.w _ b _ (.lst c)from⟨i,a,f,d,e⟩),rfl,q _ (I.hok.fresh (j0 _))⟩
 rcases j with j | j
 ·obtain⟨a,d,pl,i⟩:=I.list j;have k:=d.length;obtain⟨o,t,w,n,v⟩:=pl.isList;exact call_list_seq p (.inl rfl) t w v (λ b f kp e=>m a d i b f kp e) (by simp only[r9]<;>omega)
 ·obtain⟨a,d,pl,i⟩:=I.tuple j;have k:=d.length;obtain⟨o,t,w,n,v⟩:=pl;exact call_list_seq p (.inr rfl) t w v (λ b f kp e=>m a d i b f kp e) (by simp only[r9]<;>omega)
theorem lV:v9 X (.type "tuple") (λ g H Q=>∃p a,g=[.ref p]/\((SqL X.K H p a/\∀l,H l=none->Q (.ref l) (upd H l (.tup a)))\/(SqT X.K H p a/\Q (.ref p) H))):=by
 intro i s σ H g us Q I r h;obtain⟨p,a,rfl,h⟩:=h;obtain⟨u,rfl,n⟩:=F0 r;cases n;rcases h with⟨f,q⟩ | ⟨f,q⟩
 ·obtain⟨c,d,pl,j⟩:=I.list f;have k:=d.length;refine call_tuple_list pl.isList (λ t kp=>?_) (by simp only[r9]<;>omega);have m:=I.kept (t':=s.toks) kp;have v:=
   m.laid (t':=s.toks) (λ b o e=>i5 _ e) (j0 _) (show z5 X.prog X.w _ _ _ (.tup a)from⟨j,c,d,N6.new _ _⟩)
  exact⟨.ref t.objs.size,_,v,rfl,q _ (m.hok.fresh (j0 _))⟩
 ·obtain⟨c,d,pl,j⟩:=I.tuple f;exact call_tuple_same pl ⟨.ref p,H,I,rfl,q⟩
def tyV(K:EQ)(T:EU)(x:V)(H:Hp):Prop:=match x with
 | .str _=>T = "str"
 | .int _=>T = "int"
 | .ref p=>(T = "list" /\ ∃xs,SqL K H p xs)\/(T = "tuple" /\ ∃o,K.lookup p=some o/\o.cls=.type "tuple" /\ o.dict=none) \/
   (T = "dict" /\ ((∃kvs,H p=some (.dK kvs))\/∃kvs,H p=some (.dT kvs)))\/(T = "set" /\ ∃S n,H p=some (.set S n))
 | _=>False
theorem lW(I:Inv X d σ H s)(r:RelV x v)(ty:tyV X.K T x H) :
  s.TypeIs v T/\∀a,v=.ref a->∃j,s.heap.get? a=some j/\j.dict=none:=by
 cases x with
 | str z=>
  obtain⟨t,rfl⟩:=r;cases(ty);exact⟨X4 s z t,λ _ e=>nomatch e⟩
 | int i=>
  obtain⟨t,rfl⟩:=r;cases(ty);exact⟨typeIs_int s i t,λ _ e=>nomatch e⟩
 | ref p=>
  cases r;rcases ty with⟨rfl,xs,l⟩ | ⟨rfl,o,b,hc,g⟩ | ⟨rfl,b⟩ | ⟨rfl,S,n,b⟩
  ·obtain⟨k,_,pl,_⟩:=I.list l;refine⟨pl.isList.typeIs,λ a e=>?_⟩;cases e;obtain⟨o,n,e,c,g,_⟩:=pl;exact⟨o,e,g⟩
  ·refine⟨⟨o,I.kIn p o b,hc⟩,λ a e=>?_⟩;cases e;exact⟨o,I.kIn _ o b,g⟩
  ·have z:∃o,s.heap.get? p=some o/\o.ExactDict:=by
    rcases b with⟨f,b⟩ | ⟨f,b⟩
    ·obtain⟨_,_,_,_,o,_,_,e,ex,_⟩:=I.hok p _ b;exact⟨o,e,ex⟩
    ·obtain⟨_,_,_,_,o,_,_,e,ex,_⟩:=I.hok p _ b;exact⟨o,e,ex⟩
   obtain⟨o,e,ex⟩:=z;refine⟨⟨o,e,ex.1⟩,λ a h=>?_⟩;cases h;exact⟨o,e,ex.2.1⟩
  ·obtain⟨o,_,_,_,e,ex,_⟩:=I.hok p _ b;refine⟨⟨o,e,ex.1⟩,λ a h=>?_⟩;cases h;exact⟨o,e,ex.2.1⟩
 | _=>exact False.elim ty
noncomputable def tBM0(K:EQ)(T:EU)(r:V->ge V->Hp->VK->Prop)(to:TE):TE:=λ σ H Q=>to σ H λ x H1=>tyV K T x H1/\r x [] H1 Q
noncomputable def tBM(K:EQ)(T:EU)(r:V->ge V->Hp->VK->Prop)(to:TE)(t:TA):TE:=λ σ H Q=>to σ H λ x H1=>tyV K T x H1/\t σ H1 λ xs H2=>r x xs H2 Q
theorem tJ{a:Str}(m:PlainAttrs T)(slot:Slot T a e)(f:typeOf (.builtin e)=pure (.type "method_descriptor"))(p:MtR X e r)(n:PE X o i)
  (d:attributeBase o a X.env (eval o X.env)=eval o X.env:=by rfl) (c:(apos.endLine==cpos.line)=true:=by rfl):PE X (.Call (.Attribute o a apos) [] [] cpos) (tBM0 X.K T r i):=by
 intro b s g H Q I h;refine wpAny_Call_method0_late d c (thn (n b s g H _ I h) λ v s1 ⟨x,u,k,j,ty,l⟩=>?_);obtain⟨t,q⟩:=lW k j ty;exact⟨T,e,m,slot,f,t,q,cI rfl (PySem.evalArgs_none (p b s1 g u x [] v [] Q k j .nil l))⟩
theorem lX(F:PlainAttrs T)(slot:Slot T c l)(n:typeOf (.builtin l)=pure (.type "method_descriptor"))(L:MtR X l r)(K:PE X o p)(M:PA X (e::i) t)
  (g:attributeBase o c X.env (eval o X.env)=eval o X.env:=by rfl)
  (k:((backTo cpos (starEach (e::i) X.env)).all (λ x=>!x.1)&&(backToKw cpos (keywordEach [] X.env)).all (λ x=>x.1.isSome)
   && decide ((e::i).length+([]:ge Keyword).length+(if([]:ge Keyword).isEmpty then 0 else 1)<30))=true:=by rfl)
  (f:(apos.endLine==cpos.line)=true:=by rfl) (J:starEach (e::i) X.env=(false,eval e X.env)::starEach i X.env:=by rfl) (d:(backTo cpos (starEach i X.env)).any (·.1)=false:=by rfl) :
  PE X (.Call (.Attribute o c apos) (e::i) [] cpos) (tBM X.K T r p t):=by
 intro b s m H Q I h;refine ky g k f rfl (thn (K b s m H _ I h) λ v s1 ⟨x,S,w,q,ty,E⟩=>?_);obtain⟨O,N⟩:=lW w q ty;refine⟨T,l,F,slot,n,O,N,?_⟩;have u:=M cpos b s1 m S _ w E;rw[J]at u ⊢;refine cI (by show(false||(backTo cpos _).any (·.1))=false;rw[d]<;>rfl) (aS ?_);exact thn u λ z A ⟨y,R,P,B,C⟩=>L b A m R x y v z Q P q B C
end
end L2
namespace L2
open PySem PySem.Spec PyProof.Rows
def MtM(X:Cx)(id:EU)(r:V->ge V->Hp->VK->Prop):Prop:=
 ∀(pins:ge (EG×Obj)) (s:EF) (σ:St) (H:Hp) (x:V) (xs:ge V) (v:ED) (us:ge ED) (Q:VK),Inv X pins σ H s->RelV x v->Vals xs us->r x xs H Q ->
  wpAny (model X.prog X.w) X.A (call (.builtin id) (v::us)) (EP X pins σ Q) X.xe s
theorem Vals.unc(h:Vals (x::xs) b):∃u a,b=u::a/\RelV x u/\Vals xs a:=by
 cases h with
 | cons r t=>exact⟨_,_,rfl,r,t⟩
theorem Vals.nl(h:Vals [] a):a=[]:=by cases h;rfl
theorem Vals.one{x:V}{us:ge ED}(h:Vals [x] us):∃u,us=[u]/\RelV x u:=by
 obtain⟨u,ws,rfl,r,t⟩:=h.unc;cases t.nl;exact⟨_,rfl,r⟩
theorem Vals.two{x y:V}{us:ge ED}(h:Vals [x,y] us):∃u v,us=[u,v]/\RelV x u/\RelV y v:=by
 obtain⟨u,ws,rfl,r,t⟩:=h.unc;obtain⟨v,rfl,q⟩:=t.one;exact⟨_,_,rfl,r,q⟩
theorem Vals.rep(h:Vals a b):∀k:Nat,Vals (List.replicate k a).flatten (List.replicate k b).flatten
 | 0=>.nil
 | k+1=>by rw[W8,W8,ac,ac];exact Vals.append h (Vals.rep h k)
theorem lY(a:ge ED):∀(k:Nat) (b:ge ED),
  List.foldl (λ d c=>d++c) b.toArray (List.replicate k a.toArray)=(b++(List.replicate k a).flatten).toArray
 | 0,b=>by simp
 | k+1,b=>by
  have e:b.toArray++a.toArray=(b++a).toArray:=by simp
  have f:_++(List.replicate k a).flatten=b++(List.replicate (k+1) a).flatten:=(by rw[W8,ac,ae]);rw[←f,←lY a k _,←e,W8,List.foldl_cons]
theorem Inv.lset{c:ge ED}(I:Inv X b σ H s)(o:H l=some (.lst g))
  (e:s.heap.get? l=some {cls:=.type "list",data:=.seq c.toArray n}) (k:f c.toArray=a.toArray) (i:Vals d a) (h:d.length<=sizeLine) :
  Inv X b σ (upd H l (.lst d)) {s with heap:=s.heap.update l (Obj.mapSeq f),toks:=t'}:=by
 have q:=PySem.IsL.update e f;rw[k]at q;refine I.write (by rw[o];exact trivial) (.inl rfl) (λ b' u m j=>(P3 s.heap _ (Ne.symm m)).trans j) ⟨_,q⟩ ?_;exact⟨h,a,_,i,q⟩
theorem Inv.lnew(I:Inv X a σ H s)(e:Vals c b)(d:c.length<=sizeLine) :
  Inv X a σ (upd H s.heap.objs.size (.lst c)) {s with heap:=s.heap.push {cls:=.type "list",data:=.seq b.toArray},toks:=t'}:=
 I.laid (λ _ _ q=>i5 _ q) (j0 _) ⟨d,b,0,e,k6 _ rfl⟩
theorem Inv.fresh(I:Inv X a σ H s):H s.heap.objs.size=none:=I.hok.fresh (j0 _)
theorem Inv.lstM(I:Inv X b σ H s)(d:H l=some (.lst c)):c.length<=sizeLine/\∃(a:ge ED) (n:Nat),Vals c a/\c.length=a.length/\s.heap.get? l=some {cls:=.type "list",data:=.seq a.toArray n}:=by
 obtain⟨z,a,n,r,e⟩:=I.hok l _ d;exact⟨z,a,n,r,r.length,e⟩
theorem tK(h:n<=sizeLine):Builtin.List.listTooLong n=false:=by
 unfold Builtin.List.listTooLong;exact A8 (by omega)
def tL:V->ge V->Hp->VK->Prop:=λ x vs H Q=>∃l xs y,x=.ref l/\vs=[y]/\H l=some (.lst xs)/\xs.length<sizeLine/\Q .non (upd H l (.lst (xs++[y])))
theorem tM:MtM X "list.append" tL:=by
 intro b s σ H x vs v us Q I d f h;obtain⟨l,xs,y,rfl,rfl,c,hz,q⟩:=h;cases d;obtain⟨u,rfl,g⟩:=f.one;obtain⟨z,a,n,r,hl,e⟩:=I.lstM c;refine al F.slot_list_append ⟨_,e,rfl⟩ F.entry_list_append (F.args_list_append_2 _ _) (PySem.list_append l a.toArray n u (by rw[r9];omega)) ⟨e,?_⟩;refine⟨.non,_,I.lset c e (by simp) (r.append (.cons g .nil)) ?_,rfl,q⟩;rw[B7,cJ];omega
def rCat:R2:=λ x y H Q=>∃l b xs zs,x=.ref l/\y=.ref b/\H l=some (.lst xs)/\H b=some (.lst zs)/\xs.length+zs.length<=sizeLine/\∀p,H p=none->Q (.ref p) (upd H p (.lst (xs++zs)))
theorem tN:OpR X (binaryOp .Add) rCat:=by
 intro d s σ H x y v u Q I g f h;obtain⟨l,b,xs,zs,rfl,rfl,k,m,hz,q⟩:=h;cases g;cases f;obtain⟨z,c,n,r,hl,e⟩:=I.lstM k;obtain⟨z2,a,n2,i,j,p⟩:=I.lstM m;refine PySem.P.add_list e p ?_ (by rw[r9,r9];omega);have o:c.toArray++a.toArray=(c++a).toArray:=by simp
 rw[o];exact⟨.ref _,_,I.lnew (r.append i) (by rw[B7];omega),rfl,q _ I.fresh⟩
def rRep:R2:=λ x y H Q=>∃l k xs,x=.ref l/\y=.int k/\H l=some (.lst xs) /\ -(2^63)<=k/\k<2^63/\xs.length*k.toNat<=sizeLine /\
 ∀p,H p=none->Q (.ref p) (upd H p (.lst (List.replicate k.toNat xs).flatten))
theorem tO(a:ge b)(k:Nat):(List.replicate k a).flatten.length=k*a.length:=by
 induction k with
 | zero=>simp
 | succ k c=>rw[W8,ac,B7,c,Nat.succ_mul,Nat.add_comm]
theorem tP:OpR X (binaryOp .Mult) rRep:=by
 intro g s σ H x y v u Q I A w h;obtain⟨l,k,xs,rfl,rfl,C,J,E,i,q⟩:=h;cases A;obtain⟨t,rfl⟩:=w;obtain⟨z,b,n,r,B,e⟩:=I.lstM C;have d:b.toArray.size*k.toNat<=sizeLine:=by rw[r9,←B];exact i
 have f:¬b.toArray.size*k.toNat>(2^63 - 1)/8:=by
  have:(sizeLine:Nat)<=(2^63 - 1)/8:=by decide
  omega
 have c:List.foldl (λ o j=>o++j) #[] (List.replicate (if b.toArray.isEmpty=true then 0 else k.toNat) b.toArray)=(List.replicate k.toNat b).flatten.toArray:=by
  have K:=λ m=>by have:=lY b m [];rw[cX]at this;exact this
  rw[K];cases b with
  | nil=>simp
  | cons a r'=>rw[i4 (by simp)]
 refine wpAny_binaryOp_repeat_ref (by decide) ⟨_,e,rfl⟩ (λ p=>typeIs_int p k t) noFill_list_mul F.fills_int_mul F.slot_int_rmul repeat_list F.slot_int_index.lookup
  (al F.slot_int_rmul (typeIs_int s k t) F.entry_int_rmul (F.args_int_rmul_2 _ _) (int___rmul___int_list k t l b.toArray n)
   ⟨e,rfl,⟨_,e,rfl⟩,al F.slot_list_mul ⟨_,e,rfl⟩ F.entry_list_mul (F.args_list_mul_2 _ _) (AutoListH.list___mul___list_int_3 l b.toArray n k t ((by rw[fitsIndex_both J E];exact B6)) f ((by rw[tK d];exact B6))) ⟨e,?_⟩⟩)
 rw[c];exact⟨.ref _,_,I.lnew (r.rep k.toNat) (by rw[tO,Nat.mul_comm];exact i),rfl,q _ I.fresh⟩
end L2
namespace Att
open PySem PySem.W PySem.Calls PyProof.Rows
theorem tQ:∀(c:ge Int) (vs:ge ED),WellAll P h vs (c.map WData.int)->IntsAre vs c:=by
 intro c
 induction c with
 | nil=>
  intro vs w;rw[List.map_nil]at w;cases w;exact .nil
 | cons n c d=>
  intro vs w;rw[J2]at w;cases w with
  | cons a b=>
   cases a;exact .cons _ _ (d _ b)
theorem tR{l:OpenLaw}(v:l.most=some n)
  (f:l.row.toRowW.claim.pre b=true) (m:WellAll P h c b) :
  ∃a vs e,c=[Value.ref a]/\b=[WData.list (e.map WData.int)]/\h.get? a=some {cls:=.type "list",data:=.seq vs.toArray} /\ IntsAre vs e/\e.length<=n:=by
 have o:l.pre.holds [] {args:=b} = true:=(pre_splitW f).2;obtain⟨d,r,rfl,y,x⟩:=hasAllW_cons ((pre_splitW f).1);obtain rfl:=hasAllW_nil x;obtain⟨xs,rfl,w⟩:=hasW_list y;obtain⟨e,rfl⟩:=items_int w;have g:e.length<=n:=by
  unfold OpenLaw.pre at o;have k:(WTm.not (.lt (.lit (.int (n:Int))) (.len (.arg 0)))).holds [] {args:=[.list (e.map .int)]} = true:=by have k:=(holds_andW o).1;rw[v]at k;exact k
  have j:=condW_of k (w_not (w_lt w_lit (w_len_list (w_arg rfl))));rw[n8]at j;refine fS λ q=>?_
  first
   | (rw[x6 (by omega)]at j;exact absurd j (by decide))
   | (simp at j;omega)
 cases m with
 | cons t p=>
  cases p;cases t with
  | list u i=>exact⟨_,_,e,rfl,rfl,u,tQ e _ i,g⟩
theorem tS(l:OpenLaw)(a:ge WData):l.row.toRowW.claim.post a (.bool true) a=true:=
 postW_of
  (by first | rfl | decide | simp[WShape.has,WShape.arms,WShape.armsAll])
  (show(WTm.eq .res _).value [] {args:=a,res:=some _,after:=a} = some (.bool _)from w_eq_bool (w_res rfl) w_lit) rfl
theorem attach_call{l:OpenLaw}
  (I:l.most=some n) (x:d.params.defaults=[])
  (call:∀(w:EK) (c b:EF) (mg t:Str->EC ED) (k:EG) (o:Obj) (pm cd g:ED) (a:EG) (vs:ge ED) (p:ge Int),
   Ground q loose [] XP w c mg t b.heap->YP w b.heap ->
   b.heap.get? k=some o->o.data=.func (docDef d.name d.params d.body d.scope pm cd g)->b.heap.CodeRec cd d.name->mg d.name=some (.ref k) ->
   b.heap.get? a=some {cls:=.type "list",data:=.seq vs.toArray} -> IntsAre vs p->p.length<=n->b.gens = #[] ->
   codeAny (model l.prog w) callerA (.call (.ref k) ⟨[.ref a],[]⟩) (λ r m=>r=.ok (.ret (.bool true))/\OldK b.heap m.heap/\m.os=b.os/\AllBare m.gens) b) :
  WalkO q loose XP YP l.row.toRowW d [] (λ f vs=>PySem.call f vs):=by
 intro w c b mg t G Y k o pm cd g Q kV H M y B v L C z as h A E u K;obtain rfl:Q=.none:=Dflts.none B x;obtain rfl:kV=.none:=Dflts.noKw B;obtain⟨a,vs,p,rfl,rfl,i,e,j⟩:=tR I h u;refine enter_call (J4 (call w c b mg t k o pm cd g a vs p G Y H (fd_plain M) y v i e j L) λ r m F=>?_);obtain⟨rfl,P,O,N⟩:=F;exact⟨.inl ⟨.bool true,.bool true,[],rfl,λ _=>rfl,.bool true,tS l _,λ _=>⟨List.Pairwise.nil,λ _ J=>(nomatch J)⟩⟩,P,O,N⟩
noncomputable def EB(h:EH)(L d:EG):ge (EG×Obj):=(List.range h.objs.size).filterMap λ a=>if a=L\/a=d then none else(h.get? a).map λ o=>(a,o)
end Att
namespace L2
open PySem PySem.Spec PyProof.Rows
theorem lZ:∀{vs:ge ED} {ns:ge Int},IntsAre vs ns->Vals (ns.map V.int) vs
 | _,_,.nil=>.nil
 | _,_,.cons n t h=>.cons ⟨t,rfl⟩ (lZ h)
def Only(H:Hp):Prop:=∀b,H b=none\/(∃o xs,H b=some (.frz o (.lst xs)))\/∃q,H b=some (.tbl q)
theorem bq{a:Type}:∀{l:ge (EG×a)} {c:a},l.lookup x=some c->(x,c)∈l
 | (y,v)::l,c,h=>by
  rw[B8]at h;split at h
  ·rename_i e;cases h;rw[i1.mp e];exact o8
  ·exact j6 _ (bq h)
theorem ma{a:Type}:∀{l:ge (EG×a)} {c:a},l.lookup x=none->(x,c)∉l
 | (y,v)::l,c,h,m=>by
  rw[B8]at h;split at h
  ·cases h
  ·rename_i e;rcases i6.mp m with z | z
   ·cases z;simp at e
   ·exact ma h z
theorem tU{l:ge (e×d)}(f:(l.map (·.1)).Nodup)(g:(p.1,q)∈l)(i:p∈l):q=p.2:=by
 induction l with
 | nil=>cases g
 | cons y l h=>
  rw[J2]at f;have a:=U0.mp f;rcases i6.mp g with c | c<;>rcases i6.mp i with b | b
  ·rw[b,←c]
  ·exact absurd (G6.mpr ⟨p,b,by rw[←c]⟩) a.1
  ·exact absurd (G6.mpr ⟨_,c,by rw[b]⟩) a.1
  ·exact h a.2 c b
theorem tV{K:EQ}
  (KX:K.In c.heap) (Q:c.heap.Ns mainGlobals mg) (j:c.heap.Ns builtinsNs mb) (a5:∀x:Str,x ≠ "__name__" -> mb x=bootBuiltins x) (S:c.heap.NoLimit) (hg:c.gens = #[])
  (M:c.heap.get? a=some {cls:=.type "list",data:=.seq vs.toArray}) (hi:IntsAre vs N) (hl:N.length<=sizeLine) (hr:Room k callerA)
  (F:∀base:EH,K.In base->base.Ns mainGlobals mg->FnOk P w K mg base CX k fa fd [x] sp) (L:∀(s:EF) (u:ED),BindsTo s fd ⟨[u],[]⟩ [(x,u)])
  (a3:∀H:Hp,Only H->SqL K H a (N.map V.int)->sp [.ref a] H (λ v _=>v=.bl true) λ _ _ _=>False)
  (i:∀p∈u0 K,K.lookup p.1=none/\c.heap.get? p.1=some {cls:=.none,data:=.fields #[]} /\ isCodeTable c.heap p.1) (a2:((u0 K).map (·.1)).Nodup)
  (a4:∃bm C,mg "__builtins__" = some (.ref bm)/\bm≠builtinsNs/\c.heap.get? bm=some C/\C.cls=.type "module" /\ C.dict=some builtinsNs/\C.data=.plain)
  (a7:∀H e l,CX [] H c (λ _ _ _=>False) e l->False) :
  codeAny (model P w) callerA (.call (.ref fa) ⟨[.ref a],[]⟩) (λ r l=>r=.ok (.ret (.bool true))/\OldK c.heap l.heap/\l.os=c.os/\AllBare l.gens) c:=by
 have rv:=lZ hi;have O:=hi.length;have I:∀H:Hp,Only H->SqL K H a (N.map V.int)->HOk P w H c.heap->(∀b,H b≠none->b=a\/((∃q,(b,q)∈u0 K)/\∃q,H b=some (.tbl q)))->(H a≠none->K.lookup a=none)->bh K H ->
   codeAny (model P w) callerA (.call (.ref fa) ⟨[.ref a],[]⟩) (λ r l=>r=.ok (.ret (.bool true))/\OldK c.heap l.heap/\l.os=c.os/\AllBare l.gens) c:=by
  intro H hO hS J hA hK hT;have g:∀{b:EG} {o:Obj},c.heap.get? b=some o->H b=none->(hidT c.heap H).get? b=some o:=λ e n=>rf e n
  have a1:∀{b:EG} {o:Obj} {es:EJ DictEntry} {ep:Nat},c.heap.get? b=some o->o.data=.dict es ep->H b=none:=λ {b o es ep} e d=>by
   cases q:H b with
   | none=>rfl
   | some u=>
    rcases hA b (by rw[q];simp)with e' | ⟨⟨qq,e'⟩,_⟩
    ·subst e';rw[M]at e;cases e;have d':=d;cases d'
    ·rw[(i _ e').2.1]at e;cases e;have d':=d;cases d'
  have y:∀{b:EG} {m:Str->EC ED},c.heap.Ns b m->(hidT c.heap H).Ns b m:=λ {b m} ⟨o,es,ep,e,d,r⟩=>⟨o,es,ep,g e (a1 e d),d,r⟩;have U:=λ b o e=>g (KX b o e) (by
   cases q:H b with
   | none=>rfl
   | some u=>
    rcases hA b (by rw[q];simp)with e' | ⟨⟨qq,e'⟩,_⟩
    ·subst e';rw[hK (by rw[q];simp)]at e;cases e
    ·rw[(i _ e').1]at e;cases e)
  have hM:Mod K mg (hidT c.heap H):=by
   refine⟨U,y Q,⟨mb,y j,a5⟩,let ⟨mc,W,h2⟩:=S;⟨mc,y W,h2⟩,?bm⟩;obtain⟨bm,C,b1,b2,Z,b4,b5,b6⟩:=a4;refine⟨bm,C,b1,b2,g Z ?_,b4,b5,b6⟩;cases q:H bm with
   | none=>rfl
   | some u=>
    rcases hA bm (by rw[q];simp)with e' | ⟨⟨qq,e'⟩,_⟩
    ·subst e';rw[M]at Z;cases Z;exact absurd (Value.type.inj (show Value.type "list" = Value.type "module" from b4)) (by decide)
    ·rw[(i _ e').2.1]at Z;cases Z;cases b4
  have e0:Env0 P w K mg (hidT c.heap H) callerA [] c H:=⟨rfl,hM,λ b o e=>rg e,Nat.le_of_eq (qZ _ _),trivial,⟨λ b j=>absurd (show b∈([]:ge EG)from j) (by simp),hT⟩,J,.of_eq hg⟩;refine J4 ((F _ U (y Q)).run callerA [] c H ⟨[.ref a],[]⟩ [.ref a] [.ref a] _ _ hr e0 (L c (.ref a)) (.cons rfl .nil) (a3 H hO hS)) λ r l h=>?_;cases r with
  | error e=>exact(a7 H e l h).elim
  | ok fl=>
   cases fl with
   | next=>exact False.elim h
   | brk=>exact False.elim h
   | cont=>exact False.elim h
   | ret u=>
    obtain⟨v,H',os,Y,un,E,r',q⟩:=h;have q':v=.bl true:=q;subst q';obtain rfl:u=Value.bool true:=r';refine⟨rfl,⟨λ b o e=>?_,λ b o e=>un.there b o e (by simp)⟩,os,Y⟩;cases q:H b with
    | none=>exact .inl (un.keep b o e q (by intro z;exact absurd (show b∈([]:ge EG)from z) (by simp)) (by simp))
    | some u=>
     rcases hO b with z | ⟨C,xs,z⟩ | ⟨qq,z⟩
     ·rw[q]at z;cases z
     ·have z2:=un.frzs b C _ z;obtain⟨X,_⟩:=J b _ z;obtain⟨e2,_⟩:=E b _ z2;rw[e]at X;cases X;exact .inl e2
     ·rcases hA b (by rw[q];simp)with e' | ⟨⟨q2,e'⟩,_⟩
      ·subst e';obtain⟨ps,X,_⟩:=J b _ z;rw[M]at X;have:=congrArg Obj.data (v5 X);cases this
      ·have t:=i _ e';rw[t.2.1]at e;cases e;obtain⟨ps,e2,_⟩:=E b _ (un.tbls b _ z);exact .inr (.inl ⟨t.2.2,rfl,#[],ps,rfl,by simpa using e2⟩)
 have B:∀f:Hp,(∀p∈u0 K,f p.1=none)->∃H:Hp,(∀b,(∃q,(b,q)∈u0 K/\H b=some (.tbl q))\/((∀q,(b,q)∉u0 K)/\H b=f b)):=λ f hf=>by
  refine⟨λ b=>match(u0 K).lookup b with | some q=>some (.tbl q) | none=>f b,λ b=>?_⟩;cases z:(u0 K).lookup b with
  | some q=>exact .inl ⟨q,bq z,by simp only[z]⟩
  | none=>exact .inr ⟨λ q hq=>ma z hq,by simp only[z]⟩
 have A:∀{H:Hp} {f:Hp},(∀b,(∃q,(b,q)∈u0 K/\H b=some (.tbl q))\/((∀q,(b,q)∉u0 K)/\H b=f b))->bh K H:=λ {H f} h p hp=>by
  rcases h p.1 with⟨q,W,h2⟩ | ⟨W,_⟩
  ·rw[h2,tU a2 W hp]
  ·exact absurd hp (W p.2)
 cases hk:K.lookup a with
 | some o=>
  have e:=KX a o hk;rw[M]at e;cases e;obtain⟨H,h⟩:=B (λ _=>none) λ _ _=>rfl;refine I H (λ b=>?_) (.inr ⟨_,vs.toArray,_,hk,rfl,rfl,rfl,by rw[r9,O];exact hl,by simpa using rv⟩) (λ b u z=>?_) (λ b z=>?_) (λ z=>?_) (A h)
  ·rcases h b with⟨q,_,e⟩ | ⟨_,e⟩
   ·exact .inr (.inr ⟨q,e⟩)
   ·exact .inl e
  ·rcases h b with⟨q,m,e⟩ | ⟨_,e⟩
   ·rw[e]at z;cases z;exact⟨#[],(i _ m).2.1,trivial,λ a0 cv z=>by cases z⟩
   ·rw[e]at z;cases z
  ·rcases h b with⟨q,m,e⟩ | ⟨_,e⟩
   ·exact .inr ⟨⟨q,m⟩,q,e⟩
   ·exact absurd e z
  ·rcases h a with⟨q,m,e⟩ | ⟨_,e⟩
   ·have:=(i _ m).1;rw[hk]at this;cases this
   ·exact absurd e z
 | none=>
  have R:∀q,(a,q)∉u0 K:=λ q m=>by have:=(i _ m).2.1;rw[M]at this;have:=congrArg Obj.data (v5 this);cases this
  obtain⟨H,h⟩:=B (λ b=>if b=a then some (.frz {cls:=.type "list",data:=.seq vs.toArray} (.lst (N.map V.int)))else none) λ p hp=>i4 λ z=>R p.2 (by rw[←z];exact hp)
  have a6:H a=some (.frz {cls:=.type "list",data:=.seq vs.toArray} (.lst (N.map V.int))):=by
   rcases h a with⟨q,m,_⟩ | ⟨_,e⟩
   ·exact absurd m (R q)
   ·rw[e];exact i3 rfl
  refine I H (λ b=>?_) (.inl (.inr ⟨{cls:=.type "list",data:=.seq vs.toArray},a6⟩)) (λ b u z=>?_) (λ b z=>?_) (λ _=>hk) (A h)
  ·rcases h b with⟨q,_,e⟩ | ⟨_,e⟩
   ·exact .inr (.inr ⟨q,e⟩)
   ·by_cases j:b=a
    ·exact .inr (.inl ⟨_,_,e.trans (i3 j)⟩)
    ·exact .inl (e.trans (i4 j))
  ·rcases h b with⟨q,m,e⟩ | ⟨_,e⟩
   ·rw[e]at z;cases z;exact⟨#[],(i _ m).2.1,trivial,λ a0 cv z=>by cases z⟩
   ·rw[e]at z;by_cases j:b=a
    ·have z':=(i3 j).symm.trans z;cases z';subst j;exact⟨M,by rw[n8];exact hl,vs,_,rv,M⟩
    ·have z':=(i4 j).symm.trans z;cases z'
  ·rcases h b with⟨q,m,e⟩ | ⟨_,e⟩
   ·exact .inr ⟨⟨q,m⟩,q,e⟩
   ·by_cases j:b=a
    ·exact .inl j
    ·exact absurd (e.trans (i4 j)) z
end L2
namespace L2
open PySem PySem.Spec PyProof.Rows
theorem walk_of{l:PySem.W.OpenLaw}{XP:(Str->EC ED)->EH->Prop}{K:EV->EQ}{M:EK->CXT}{J:EK->Sp}
  (O:l.most=some n) (z:n<=sizeLine) (B:d.params.defaults=[]) (N:Room k callerA)
  (S:∀(w:EK) (h:EH),YP w h->(K w.params).In h) (i:∀(w:EK) (h:EH),YP w h->(∀p∈u0 (K w.params),(K w.params).lookup p.1=none/\h.get? p.1=some {cls:=.none,data:=.fields #[]} /\ isCodeTable h p.1)/\((u0 (K w.params)).map (·.1)).Nodup)
  (F:∀(w:EK) (mg:Str->EC ED) (r:EG) (h:EH),(K w.params).In h->h.Ns mainGlobals mg->mg d.name=some (.ref r) ->
   ∃fd:EO,(∀(s:EF) (u:ED),BindsTo s fd ⟨[u],[]⟩ [(x,u)]) /\
    ∀base:EH,(K w.params).In base->base.Ns mainGlobals mg->FnOk l.prog w (K w.params) mg base (M w) k r fd [x] (J w))
  (y:∀(w:EK) (H:Hp) (a:EG) (m:ge Int),m.length<=n->Only H->SqL (K w.params) H a (m.map V.int)->J w [.ref a] H (λ v _=>v=.bl true) λ _ _ _=>False)
  (C:∀(w:EK) (H:Hp) (s:EF) (e:ED) (t:EF),M w [] H s (λ _ _ _=>False) e t->False) :
  PySem.W.WalkO q loose XP YP l.row.toRowW d [] (λ f E=>PySem.call f E):=by
 refine Att.attach_call O B λ w I g mg mb r o pm cd Z a E m G Y ho hd Q A j c b P=>?_;have L:=S w _ Y;obtain⟨fd,R,X⟩:=F w mg r _ L G.T.g A;exact tV L G.T.g G.T.b G.T.builtins G.T.nolimit P j c (o6 b z) N X R (λ H W U=>y w H a m b W U) (i w _ Y).1 (i w _ Y).2 G.T.bmain λ H e t=>C w H g e t
end L2
namespace L2
open PySem PySem.Spec PyProof.Rows
abbrev CX0:CXT:=λ _ _ _ _ _ _=>False
abbrev E0:XK:=λ _ _ _=>False
theorem iteF{B:Prop}(h:B):if false=true then A else B:=by
 rw[i4 B6];exact h
theorem iteT{B:Prop}(h:A):if true=true then A else B:=by
 rw[i3 rfl];exact h
def Same(H H':Hp):Prop:=∀b o,H b=some o->H' b=some o
theorem Same.refl(H:Hp):Same H H:=λ _ _ h=>h
theorem Same.trans(a:Same H e)(b:Same e d):Same H d:=λ c o h=>b c o (a c o h)
theorem Same.free(e:Same H a)(h:a l=Option.none):H l=Option.none:=by
 cases q:H l with
 | none=>rfl
 | some o=>
  rw[e l o q]at h;cases h
theorem Same.seq{K:EQ}(e:Same H c)(h:SqL K H a b):SqL K c a b:=by
 rcases h with(h | ⟨o,h⟩) | h
 ·exact .inl (.inl (e _ _ h))
 ·exact .inl (.inr ⟨o,e _ _ h⟩)
 ·exact .inr h
end L2
end
noncomputable section
namespace L2
open PySem PySem.Spec PyProof.Rows
noncomputable def F2(o:Obj):EC ED:=match o.data with
 | .fields vs=>vs[2]?
 | _=>none
theorem F2.freed(h:F2 o=some c):o.isFreed=false:=by
 unfold F2 at h;split at h
 ·rename_i vs e;exact aP e
 ·cases h
def St2(h h':EH):Prop:=∀a o c,h.get? a=some o->F2 o=some c->∃o',h'.get? a=some o'/\F2 o'=some c
theorem St2.refl(h:EH):St2 h h:=λ a o c e q=>⟨o,e,q⟩
theorem St2.trans(x:St2 h d)(y:St2 d b):St2 h b:=λ a o c e q=>by
 obtain⟨g,i,f⟩:=x a o c e q;exact y a g c i f
theorem St2.of_keeps{h h':EH}(k:∀b o,h.get? b=some o->h'.get? b=some o):St2 h h':=λ a o c e q=>⟨o,k a o e,q⟩
theorem St2.push(h:EH)(o:Obj):St2 h (h.push o):=.of_keeps λ b o e=>i5 _ e
theorem St2.upd(d:∀o,F2 (f o)=F2 o):St2 h (h.update a f):=λ b o c e q=>by
 by_cases z:a=b
 ·subst z;exact⟨f o,K6 f e (F2.freed (by rwa [d])),by rwa [d]⟩
 ·exact⟨o,by rwa [P3 _ _ z],q⟩
inductive Kp2:{α:Type} -> Sem α->Prop
 | pure {α:Type} (a:α):Kp2 (.pure a)
 | raise {α:Type} (e:Value):Kp2 (.raise e:Sem α)
 | unsupported {α:Type} (w:String):Kp2 (.unsupported w:Sem α)
 | rule {α:Type} (t:String) (k:Unit->Sem α):Kp2 (k ())->Kp2 (.rule t k)
 | at{α:Type} (p:Pos) (k:Unit->Sem α):Kp2 (k ())->Kp2 (.at p k)
 | load {α:Type} (a:Addr) (p:Option Value) (k:Obj->Sem α):(∀o,Kp2 (k o))->Kp2 (.load a p k)
 | update {α:Type} (a:Addr) (p:Option Value) (f:Obj->Obj) (k:Unit->Sem α):(∀o,F2 (f o)=F2 o)->Kp2 (k ())->Kp2 (.update a p f k)
 | alloc {α:Type} (o:Obj) (k:Addr->Sem α):(∀a,Kp2 (k a))->Kp2 (.alloc o k)
 | point {α:Type} (l:List Value) (k:Unit->Sem α):Kp2 (k ())->Kp2 (.point l k)
 | ask {α:Type} (k:Setting->Sem α):(∀a,Kp2 (k a))->Kp2 (.ask k)
 | stack {α:Type} (k:List (Code×Pos)->Sem α):(∀a,Kp2 (k a))->Kp2 (.stack k)
theorem Kp2.wp{m:Sem i}(k:Kp2 m):∀{Q:i->Pos->EF->Prop} {E:ED->Pos->EF->Prop} {p:Pos} {s:EF},Sem.wp M g m Q E p s->Sem.wp M g m (λ a c d=>Q a c d/\St2 s.heap d.heap) (λ e c d=>E e c d/\St2 s.heap d.heap) p s:=by
 induction k with
 | pure a=>intro Q E p s h;exact⟨h,.refl _⟩
 | raise e=>intro Q E p s h;exact⟨h,.refl _⟩
 | unsupported w=>intro Q E p s h;exact h
 | rule t k _ b=>intro Q E p s h;exact b h
 | «at» c k _ b=>intro Q E p s h;exact b h
 | load a c k _ b=>intro Q E p s h;obtain⟨o,e,q⟩:=h;exact⟨o,e,b o q⟩
 | update a c f k j _ b=>
  intro Q E p s h;rw[Sem.wp]at h ⊢;refine⟨h.1,?_⟩;have st:St2 s.heap (s.heap.update a f):=.upd j;have:=b h.2;exact Sem.wp_mono M g _ (λ a c d q=>⟨q.1,st.trans q.2⟩) (λ e c d q=>⟨q.1,st.trans q.2⟩) _ _ this
 | alloc o k _ b=>
  intro Q E p s h;rw[Sem.wp]at h ⊢;have st:St2 s.heap (s.heap.push o):=.push _ _;have:=b _ h;exact Sem.wp_mono M g _ (λ a c d q=>⟨q.1,st.trans q.2⟩) (λ e c d q=>⟨q.1,st.trans q.2⟩) _ _ this
 | point l k _ b=>intro Q E p s h;exact b h
 | ask k _ b=>intro Q E p s h;exact b _ h
 | stack k _ b=>intro Q E p s h;exact b _ h
theorem Kp2.any(k:Kp2 m)(h:wpAny M A m Q E s):wpAny M A m (λ a b=>Q a b/\St2 s.heap b.heap) (λ e b=>E e b/\St2 s.heap b.heap) s:=
 λ f p c=>k.wp (h f p c)
theorem Kp2.bind(h:Kp2 m)(j:∀a,Kp2 (f a)):Kp2 (m.bind f):=by
 induction h with
 | pure a=>exact j a
 | raise e=>exact .raise e
 | unsupported w=>exact .unsupported w
 | rule t k _ b=>exact .rule t _ b
 | «at» p k _ b=>exact .at p _ b
 | load a p k _ b=>exact .load a p _ b
 | update a p g k i _ b=>exact .update a p g _ i b
 | alloc o k _ b=>exact .alloc o _ b
 | point l k _ b=>exact .point l _ b
 | ask k _ b=>exact .ask _ b
 | stack k _ b=>exact .stack _ b
theorem F2.fields(b:i≠2)(o:Obj):F2 (Obj.mapFields (·.setIfInBounds i x) o)=F2 o:=by
 obtain⟨c,d,e,sl⟩:=o;cases e with
 | fields a=>
  show _[2]? = a[2]?;rw[Array.getElem?_setIfInBounds_ne b]
 | _=>rfl
theorem gG(a:EG):Kp2 (PySem.load a):=.load a none _ λ o=>.pure o
theorem tW(v:ED):Kp2 (fieldsOf v):=by
 unfold fieldsOf;split
 ·refine .bind (gG _) λ o=>?_;split
  ·exact .pure _
  ·exact .unsupported _
 ·exact .unsupported _
theorem br(v:ED)(i:Nat):Kp2 (field v i):=by
 unfold field;refine .bind (tW v) λ vs=>?_
 split
 ·exact .pure _
 ·exact .unsupported _
theorem gH(v:ED)(a:i≠2)(x:ED):Kp2 (setField v i x):=by
 unfold setField;split
 ·unfold updateField;refine .bind (gG _) λ o=>?_
  split
  ·split
   ·exact .update _ _ _ _ (F2.fields a) (.pure _)
   ·exact .unsupported _
  ·exact .unsupported _
 ·exact .unsupported _
theorem av(e:ED)(fr:EC EG):Kp2 (setFlight e fr):=by
 unfold setFlight;refine .bind (br e 1) λ a=>?_
 split
 ·exact gH a (by decide) _
 ·exact .pure _
theorem tX(env:Env)(a:ge Env):Kp2 (behindIsImport env a):=by
 unfold behindIsImport;split
 ·exact .pure _
 ·split
  ·exact .pure _
  ·exact .bind (br _ _) λ _=>.pure _
theorem gI:Kp2 PySem.stack:=.stack _ λ a=>.pure a
theorem tY:Kp2 underTheClaimsCaller:=by
 unfold underTheClaimsCaller
 repeat (first | exact .pure _ | exact .unsupported _ | refine .bind gI λ _=>?_ | split)
theorem tZ(env:Env)(i:Bool)(l:ge Env):Kp2 (keptBack env i l):=by
 cases l with
 | nil=>
  show Kp2 (if env.scope.isGenerator||env.scope.isCoroutine then _ else do return if ←underTheClaimsCaller then Value.notImplemented else Value.none);split
  ·exact .pure _
  ·exact .bind tY λ _=>.pure _
 | cons c r=>exact .pure _
theorem md:∀l:ge Env,Kp2 (readyFrames l)
 | []=>.pure _
 | d::a=>by
  unfold readyFrames;split
  ·refine .bind (gG _) λ o=>?_;split
   ·exact .pure _
   ·refine .bind (tX _ _) λ b=>.bind (tZ _ _ _) λ c=>?_;exact .update _ _ _ _ (λ o=>rfl) (md a)
  ·exact .unsupported _
theorem ua(l:ge Env):Kp2 (frameObject l):=by
 cases l with
 | nil=>exact .pure _
 | cons e r=>
  unfold frameObject;exact .bind (md _) λ _=>.pure _
theorem ub(env:Env):Kp2 (PySem.frameOf env):=by
 unfold PySem.frameOf frameEnvs;refine .bind (.bind gI λ _=>.pure _) λ l=>.bind (ua _) λ o=>?_
 split
 ·exact .pure _
 ·exact .unsupported _
theorem uc(f:EG)(b:Bool):Kp2 (entryPlaceOf f b):=by
 unfold entryPlaceOf;refine .bind gI λ a=>?_
 split<;>exact .pure _
theorem ud(ty:EU)(vs:ge ED):Kp2 (newFields ty vs):=by
 unfold newFields newObj;dsimp;split
 ·exact .unsupported _
 ·unfold newObjAsIs;exact .bind (.alloc _ _ λ a=>.pure a) λ _=>.pure _
theorem ue(a b c d e:ED)(p:ge ED):Kp2 (EntryCells.newEntry a b c d e p):=ud _ _
theorem dM(e:ED)(env:Env):Kp2 (noteFrame e env):=by
 unfold noteFrame;split
 ·refine .bind (br e 1) λ a=>?_;have b:∀f:EG,Kp2 (do setField e 1 (←EntryCells.newEntry a (←PySem.frameOf env) .none (rawInt f) .none (←entryPlaceOf f (a != .none)))):=λ f=>
   .bind (ub env) λ _=>.bind (uc _ _) λ _=>.bind (ue _ _ _ _ _ _) λ _=>gH e (by decide) _
  split
  ·refine .bind (br a 3) λ fl=>?_;split
   ·exact .pure _
   ·exact .bind (gH a (by decide) _) λ _=>b _
  ·exact b _
 ·exact .unsupported _
theorem gJ(env:Env)(e:ED):Kp2 (leaving env e):=by
 unfold leaving;exact .bind (dM e env) λ _=>av e none
def Cx2(h:EH):Nat->EG->Prop
 | 0,a=>∃o,h.get? a=some o/\F2 o=some .none
 | n+1,a=>∃o,h.get? a=some o/\(F2 o=some .none\/∃b,F2 o=some (.ref b)/\Cx2 h n b)
theorem Cx2.st{h h':EH}(x:St2 h h'):∀{n:Nat} {a:EG},Cx2 h n a->Cx2 h' n a
 | 0,a,c=>by obtain⟨o,e,q⟩:=c;exact x a o _ e q
 | n+1,a,c=>by
  obtain⟨o,e,q⟩:=c;rcases q with q | ⟨b,q,c⟩
  ·obtain⟨o',e',q'⟩:=x a o _ e q;exact⟨o',e',.inl q'⟩
  ·obtain⟨o',e',q'⟩:=x a o _ e q;exact⟨o',e',.inr ⟨b,q',c.st x⟩⟩
def Ctxd(h:EH)(a:EG):Prop:=∃n,Cx2 h n a
theorem Ctxd.st{h h':EH}{a:EG}(c:Ctxd h a)(x:St2 h h'):Ctxd h' a:=let ⟨n,q⟩:=c;⟨n,q.st x⟩
theorem Ctxd.made{h h':EH}{e:EG}{C:ED}{vs:ge ED}(hx:Heap.MadeExcOf h h' e C vs):Ctxd h' e:=by
 obtain⟨t,he,_⟩:=hx.there;exact⟨0,_,he,rfl⟩
theorem z5.there(x:z5 P w H h a o):∃b,h.get? a=some b:=by
 cases o with
 | lst d=>obtain⟨_,_,_,_,e⟩:=x;exact⟨_,e⟩
 | tup d=>obtain⟨_,_,_,b,e,_⟩:=x;exact⟨_,e⟩
 | dK c=>obtain⟨_,_,_,_,o,_,_,e,_⟩:=x;exact⟨_,e⟩
 | dT c=>obtain⟨_,_,_,_,o,_,_,e,_⟩:=x;exact⟨_,e⟩
 | set S n=>obtain⟨o,_,_,_,e,_⟩:=x;exact⟨_,e⟩
 | ins C dx fs=>obtain⟨_,_,_,e,_⟩:=x;exact⟨_,e⟩
 | own y=>obtain⟨_,e⟩:=x;exact⟨_,e⟩
 | xd fs=>obtain⟨_,⟨_,_,_,e,_⟩,_⟩:=x;exact⟨_,e⟩
 | rng lo hi=>obtain⟨_,_,_,e⟩:=x;exact⟨_,e⟩
 | frz b u=>obtain⟨e,_⟩:=x;exact⟨_,e⟩
 | tbl q=>obtain⟨_,e,_⟩:=x;exact⟨_,e⟩
 | met f y=>exact⟨_,(x)⟩
 | ext φ=>obtain⟨_,⟨_,e⟩,_⟩:=x;exact⟨_,e⟩
structure Fly(P:Program)(w:World)(base:Heap)(l:List Env)(ea:Addr)(C:Value)(H:Hp)(B h:Heap):Prop where
 fly:∃a0,Heap.FlyingW B l ea C a0 h
 bas:∀b o,base.get? b=some o->B.get? b=some o
 hok:HOk P w H B
 ctx:Ctxd h ea
theorem Fly.stays(F:Fly P w base l a C H B h):∀b o,B.get? b=some o->h.get? b=some o:=by
 obtain⟨a0,f⟩:=F.fly;exact f.1
theorem Fly.newE(F:Fly P w base l a C H B h):B.get? a=none:=by
 obtain⟨a0,f⟩:=F.fly;exact f.2.1
theorem Fly.untr(F:Fly P w base l a C H B h):H a=none:=by
 cases q:H a with
 | none=>rfl
 | some o=>
  obtain⟨ob,e⟩:=(F.hok a o q).there;rw[F.newE]at e;cases e
def CXx(P:EL)(w:EK)(base:EH):CXT:=λ outer H s E e s'=>∃(ea:EG) (C:ED) (H':Hp) (B:EH),e=.ref ea/\s'.os=s.os/\AllBare s'.gens/\Un (frs outer) [] H H' s.heap s'.heap /\
 Fly P w base outer ea C H' B s'.heap/\(∀b o,s.heap.get? b=some o->b∉frs outer->∃o',B.get? b=some o')/\E C none H'
noncomputable def n5(cells:ge (Str×EG)):ge (Str×NameKind)->ge (Str×EG)->ge (Str×EG)
 | [],acc=>acc
 | (n,k)::r,acc=>if(k==NameKind.free)=true then n5 cells r ((n,(cells.lookup n).getD 0)::acc)else n5 cells r acc
theorem gK:∀(d:ge (Str×NameKind)) (b:ge (Str×EG)),(∀y∈d,y.2=NameKind.free->∃c,env.cells.lookup y.1=some c) ->
  (forIn d b (λ (x:Str×NameKind) (cs:ge (Str×EG))=>(match x with | (e,f)=>if(f==NameKind.free)=true then(do let a ←cellOf env e;pure (ForInStep.yield ((e,a)::cs)))else pure (ForInStep.yield cs):Sem (ForInStep (ge (Str×EG))))):Sem (ge (Str×EG)))=pure (n5 env.cells d b)
 | [],b,_=>rfl
 | (n,k)::r,b,h=>by
  have j:=λ y m=>h y (j6 _ m);rw[fW];by_cases g:(k==NameKind.free)=true
  ·obtain⟨c,l⟩:=h (n,k) o8 (i1.mp g);have o:cellOf env n=pure c:=by unfold cellOf;rw[l]
   have i:n5 env.cells ((n,k)::r) b=n5 env.cells r ((n,c)::b):=(by show(if(k==NameKind.free)=true then n5 env.cells r (_::b)else n5 env.cells r b)=_;rw[i3 g,l];rfl);rw[i,←gK r _ j];simp only[g,if_true,o];rfl
  ·have i:n5 env.cells ((n,k)::r) b=n5 env.cells r b:=by
    show(if(k==NameKind.free)=true then n5 env.cells r (_::b)else n5 env.cells r b)=_;rw[i4 g]
   rw[i,←gK r b j];simp only[g,if_false];rfl
theorem gL(h:∀y∈scope.names,y.2=NameKind.free->∃c,env.cells.lookup y.1=some c):closureFor scope env=pure (n5 env.cells scope.names []):=by
 unfold closureFor
 first
  | exact _.trans rfl
  | (simp only[(gK scope.names [] h)];rfl)
theorem bt:∀{a:ge (Str×NameKind)} {d:ge (Str×EG)} {x:Str} {c:EG},(∀y∈a,y.2=NameKind.free->∃c,b.lookup y.1=some c) ->
  (x,c)∈n5 b a d->(x,c)∈d\/(b.lookup x=some c/\(x,NameKind.free)∈a)
 | [],d,x,c,_,h=>.inl h
 | (n,k)::r,d,x,c,g,h=>by
  have f:=λ y i=>g y (j6 _ i);unfold n5 at h;by_cases e:(k==NameKind.free)=true
  ·rw[i3 e]at h;obtain⟨c',j⟩:=g (n,k) o8 (i1.mp e);rcases bt f h with z | ⟨z1,z2⟩
   ·rcases i6.mp z with z | z
    ·cases z;exact .inr ⟨by rw[j];rfl,by rw[←i1.mp e];exact o8⟩
    ·exact .inl z
   ·exact .inr ⟨z1,j6 _ z2⟩
  ·rw[i4 e]at h;rcases bt f h with z | ⟨z1,z2⟩
   ·exact .inl z
   ·exact .inr ⟨z1,j6 _ z2⟩
theorem gM:∀{a:ge (Str×NameKind)} {c:ge (Str×EG)} {y:Str×EG},y∈c->y∈n5 b a c
 | [],_,_,h=>h
 | (n,k)::r,c,y,h=>by
  unfold n5;split
  ·exact gM (j6 _ h)
  ·exact gM h
theorem dN:∀{a:ge (Str×NameKind)} {d:ge (Str×EG)} {x:Str} {c:EG},(x,NameKind.free)∈a->b.lookup x=some c->(x,c)∈n5 b a d
 | (n,k)::r,d,x,c,h,e=>by
  unfold n5;rcases i6.mp h with z | z
  ·cases z;rw[i3 (show(NameKind.free==NameKind.free)=true from rfl),e];exact gM o8
  ·split
   ·exact dN z e
   ·exact dN z e
theorem bu:∀(a:ge (Str×NameKind)) (n:Nat) (b:ge (Str×EG)),cellsFrom n a b=cellsFrom n a []++b
 | [],_,_=>rfl
 | (x,k)::r,n,b=>by
  unfold cellsFrom;split
  ·rw[bu r _ _,bu r _ [(x,n)],ae];rfl
  ·exact bu r n b
theorem gN:∀{a:ge (Str×NameKind)} {n:Nat} {x:Str} {c:EG},(x,c)∈cellsFrom n a []->(x,NameKind.cell)∈a
 | [],_,_,_,h=>nomatch h
 | (y,k)::r,n,x,c,h=>by
  unfold cellsFrom at h;by_cases b:(k==NameKind.cell)=true
  ·rw[i3 b,bu]at h;rcases x5.mp h with z | z
   ·exact j6 _ (gN z)
   ·have d:(x,c)=(y,n):=by simpa using z
    cases d;rw[i1.mp b];exact o8
  ·rw[i4 b]at h;exact j6 _ (gN h)
theorem bv{a:Type}:∀{l r:ge (Str×a)},(l++r).lookup x=(l.lookup x).or (r.lookup x)
 | [],r=>by simp
 | (y,v)::l,r=>by
  rw[T7,B8,B8];cases hb:x==y with
  | true=>rfl
  | false=>exact bv
theorem mf{a:Type}:∀{l:ge (Str×a)},(∀c,(x,c)∉l)->l.lookup x=none
 | [],_=>rfl
 | (y,v)::l,h=>by
  rw[B8];cases hb:x==y with
  | true=>exact absurd (by grind) (h v)
  | false=>exact mf λ c b=>h c (j6 _ b)
theorem gO{a:Type}:∀{l:ge (Str×a)} {c:a},(x,c)∈l->∃d,l.lookup x=some d
 | (y,v)::l,c,h=>by
  rw[B8];cases b:x==y with
  | true=>exact⟨v,rfl⟩
  | false=>
   rcases i6.mp h with z | z
   ·cases z;rw[fT]at b;cases b
   ·exact gO z
theorem X8{b:Type}:∀{l:ge (Str×b)} {c:b},(l.map (·.1)).Nodup->(x,c)∈l->l.lookup x=some c
 | (y,v)::l,c,d,h=>by
  rw[B8];rw[J2]at d;have a:=U0.mp d;rcases i6.mp h with z | z
  ·cases z;rw[fT]
  ·have:x≠y:=λ e=>a.1 (by rw[←e];exact G6.mpr ⟨_,z,rfl⟩);rw[o9.mpr this];exact X8 a.2 z
theorem gP:(relabel scope env).names.lookup x=(scope.names.lookup x).map λ k=>if(k==NameKind.free&&env.scope.kind == .function&&env.kindOf x==some .cell)=true then NameKind.cell else k:=by
 unfold relabel;show(scope.names.map _).lookup x=_;generalize scope.names=l
 induction l with
 | nil=>rfl
 | cons y r a=>
  obtain⟨n,k⟩:=y;rw[J2];show List.lookup x ((if _=true then _ else(n,k))::_)=_;have e:(if(k==NameKind.free&&env.scope.kind == .function&&env.kindOf n==some .cell)=true then(n,NameKind.cell)else(n,k))=(n,if(k==NameKind.free&&env.scope.kind == .function&&env.kindOf n==some .cell)=true then NameKind.cell else k):=by split<;>rfl
  rw[e,B8,B8];cases b:x==n with
  | true=>rw[i1.mp b];rfl
  | false=>exact a
theorem uf
  (e:Q (newEnv scope s.heap.objs.size g (cellsFrom (s.heap.objs.size+1) scope.names cl) q none .none (some env) builtinsNs) {s with heap:=pushCells (s.heap.push {cls:=.type "dict",data:=.dict #[]}) scope.names}) :
  wpAny M A (newFunctionEnv scope g cl [] q none .none (some env)) Q E s:=by
 simp only[newFunctionEnv,Option.isSome_some,if_true];refine g6 (wpAny_alloc ?_);refine g6 (wpAny_layCells _ (λ d a c=>by cases b:a==NameKind.cell<;>simp[b]) _ _ _ _ ?_);rw[show({s with heap:=s.heap.push {cls:=.type "dict",data:=.dict #[]}}:EF).heap.objs.size=s.heap.objs.size+1 from A0 ..];exact g6 (i0 (i0 e))
theorem ug(I:Nat->EF->Prop)
  (turn:∀n s,I n s->wpAny (model prog w) A (pyNext it) (λ r f=>match r with
   | none=>R (.ok .next) f
   | some v=>wpAny (model prog w) A (letOwnedTupleGo a it v) (λ _ d=>wpAny (model prog w) A (assign a env v) (λ _ l=>
     wpAny (model prog w) A (forIn y true λ c r=>if r=true then do let ok ←isTrue c env (eval c env);pure (ForInStep.yield ok)else pure (ForInStep.yield r)) (λ ok b=>
      if ok=true then wpAny (model prog w) A (eval elt env) (λ x k=>
       wpAny (model prog w) A (call (.builtin "list.append") [E,x]) (λ _ j=>∃m,m<n/\I m j) (notedBy (model prog w) A env λ e g=>R (.error e) g) k) (notedBy (model prog w) A env λ e g=>R (.error e) g) b
      else ∃m,m<n/\I m b) (notedBy (model prog w) A env λ e g=>R (.error e) g) l) (notedBy (model prog w) A env λ e g=>R (.error e) g) d) (notedBy (model prog w) A env λ e g=>R (.error e) g) f) (notedBy (model prog w) A env λ e g=>R (.error e) g) s)
  (n:Nat) (h:I n s) :
  codeAny (model prog w) A (.compLoop (.ListComp elt [⟨a,u,y,0⟩] scope pos) 0 it E env) R s:=by
 refine codeAny_loop rfl I (λ n s F=>?_) n h;show wpAny _ A _ _ _ s;refine wpAny_noted ?_;rw[compTurn_list];refine g6 (U2 (g6 (k7 (turn n s F) (λ r f p=>?_) λ _ _ i=>i)));cases r with
 | none=>exact i0 p
 | some v=>
  refine g6 (k7 p (λ _ d q=>?_) λ _ _ i=>i);refine g6 (k7 q (λ _ l C=>g6 (k7 C (λ ok b o=>?_) λ _ _ i=>i)) λ _ _ i=>i);cases ok with
  | false=>exact i0 ⟨rfl,o⟩
  | true=>
   exact g6 (g6 (k7 o (λ x k B=>g6 (k7 B (λ _ j z=>i0 (i0 ⟨rfl,z⟩)) λ _ _ i=>i)) λ _ _ i=>i))
theorem HOk.track(x:HOk P w H h)(d:H a=none)(new:z5 P w (upd H a o) h a o):HOk P w (upd H a o) h:=λ b u e=>by
 by_cases f:b=a
 ·subst f;rw[o7]at e;cases e;exact new
 ·rw[j1 f]at e;exact(x b u e).stay (λ c v _ q=>q) (λ c q=>by rwa [j1 (B2 q d)]) (λ c xs q=>by rwa [j1 (B2 q d)]) λ c _ _ _ _ q=>by rwa [j1 (B2 q d)]
theorem Un.track{fs ex:ge EG}{H H':Hp}{h h':EH}{a:EG}{o:HO}(u:Un fs ex H H' h h')(hn:H' a=none)(hh:h.get? a=none):Un fs ex H (upd H' a o) h h' where
 keep:=u.keep
 slot:=u.slot
 free:=λ b ob q n hx=>by
  have:b≠a:=λ z=>by rw[z,hh]at q;cases q
  rw[j1 this];exact u.free b ob q n hx
 there:=u.there
 tups:=λ b xs q=>by have z:=u.tups b xs q;rw[j1 (B2 z hn)];exact z
 frzs:=λ b ob xs q=>by have z:=u.frzs b ob xs q;rw[j1 (B2 z hn)];exact z
 tbls:=λ b ps q=>by have z:=u.tbls b ps q;rw[j1 (B2 z hn)];exact z
structure CompScope(N N':List Str)(sc osc:Scope)(fr:List (Option Nat)):Prop where
 kind:sc.kind=.function
 nd:N'.Nodup
 snd:(sc.names.map (·.1)).Nodup
 len:fr.length=N'.length
 fre:∀(j i:Nat),fr[j]? = some (some i)->∃x,N'[j]? = some x/\N[i]? = some x/\(x,NameKind.free)∈sc.names
 out:∀y∈sc.names,y.2=NameKind.free->osc.names.lookup y.1=some .cell\/osc.names.lookup y.1=some .free
noncomputable def inner(fr:ge (EC Nat))(σ:St):St:=fr.map λ o=>o.bind λ i=>(σ[i]?).join
noncomputable def mh(X:Cx)(scope:ER)(N':ge Str)(C:EG)(cells:ge (Str×EG))(s₂:EF)(H₂:Hp)(fp:ge EG):Cx:=
 {X with N:=N',s₀:=s₂,H₀:=H₂,env:=compEnvC scope cells C X.env,outer:=X.stack,stack:=X.stack,ex:=fp,fn:=λ x=>scope.names.lookup x==some .cell,pn:=[],xe:=λ _ _=>False}
def k8 (X : Cx) (scope : ER) (N' : ge Str) (C : EG) (cells : ge (Str × EG)) (s₂ : EF) (H₂ : Hp) (fp : ge EG) (x1 : XK) : Cx :=
  { X with N := N', s₀ := s₂, H₀ := H₂, env := compEnvC scope cells C X.env, outer := X.stack, stack := X.stack, ex := fp, fn := λ x => scope.names.lookup x == some .cell, pn := [],
           xe := λ e s' => ∃ pins σ H s, Inv (mh X scope N' C cells s₂ H₂ fp) pins σ H s /\ CXx X.prog X.w X.base X.stack H s x1 e s' }
theorem Inv.comp0(I:Inv (k8 X scope f C a b d e x1) c σ H s):Inv (mh X scope f C a b d e) c σ H s:=
 ⟨⟨I.ok.mod,I.ok.kind,I.ok.glob,I.ok.blt,I.ok.above,I.ok.inj,I.ok.has,I.ok.cab,I.ok.hd,I.ok.frames,I.ok.stk,I.ok.exf,I.ok.bs,I.ok.bsz,I.ok.noex,I.ok.exfs,I.ok.funs,I.ok.frf⟩,I.os,I.bare,I.base,I.loc,I.cell,I.free,I.freeC,I.pin,I.hok,I.len⟩
abbrev gQ:EU:="comprehension.variables-let-go"
def aw(X:Cx)(E:St->XK):Prop:=∀(scope:ER) (N':ge Str) (cells:ge (Str×EG)) (C:Nat) (pins:ge (EG×Obj)) (σ:St) (H:Hp) (s₂:EF) (fp:ge EG) (e:ED) (s':EF),
 Inv X pins σ H s₂->(∀b∈fp,FpOk X pins H b)->C=s₂.heap.objs.size+1->(k8 X scope N' C cells s₂ H fp (E σ)).xe e s' ->
 notedBy (model X.prog X.w) X.A (compEnvC scope cells C X.env) (λ e s'=>∃m,s'.heap.Ns C m/\∀h',Heap.SameBut C s'.heap h'->∀cenv:Env,cenv.locals=C->cenv.frame=X.env.frame->wpAny (model X.prog X.w) X.A (passOn gQ e cenv:Sem ED) (λ _ _=>False) X.xe {s' with heap:=h'}) e s'
theorem mi:aw X λ _ _ _ _=>False:=by
 intro a N' b C d σ H c fp e s' I f hC z;obtain⟨_,_,_,_,_,_,_,_,_,_,_,_,_,_,_,q⟩:=z;exact q.elim
abbrev G0:Obj:={cls:=.type "list",dict:=none,data:=.seq ([]:ge ED).toArray}
abbrev bw:Obj:={cls:=.type "dict",data:=.dict #[]}
theorem uh(S:CompScope X.N N' scope X.env.scope fr)(I:Inv X O σ H d)(f:∀b∈fp,FpOk X O H b)(ho:∀b∈fp,@LT.lt Nat _ b d.heap.objs.size)(hC:C=d.heap.objs.size+1)(M:U=pushCells ((d.heap.push G0).push bw) scope.names) :
  Inv (k8 X scope N' C (cellsFrom (C+1) scope.names (n5 X.env.cells scope.names [])) d H fp x1) [] (inner fr σ) H {d with heap:=U} /\ U.get? d.heap.objs.size=some G0/\(∀b o,d.heap.get? b=some o->U.get? b=some o):=by
 have Q:(d.heap.push G0).objs.size=d.heap.objs.size+1:=A0 ..;have P:((d.heap.push G0).push bw).objs.size=C+1:=by rw[A0,Q,hC]
 have keep:∀b o,d.heap.get? b=some o->U.get? b=some o:=λ b o e=>by rw[M];exact fX _ _ b o (i5 _ (i5 _ e))
 have hD:U.get? d.heap.objs.size=some G0:=by rw[M];exact fX _ _ _ _ (i5 _ (k6 _ rfl))
 have a4:U.Ns C λ _=>none:=by have q:=(Heap.Ns.new (d.heap.push G0) (.type "dict")).keeps (fX scope.names _);rw[Q,←hC]at q;rw[M];exact q
 have ok:=cellsFrom_ok scope.names ((d.heap.push G0).push bw) (C+1) [] ⟨λ _ _ A=>(nomatch A),List.Pairwise.nil⟩ (by rw[P];exact j0 _);rw[P,←M]at ok;have J:∀y∈scope.names,y.2=NameKind.free->∃c,X.env.cells.lookup y.1=some c:=λ y hy hk=>I.ok.has y.1 (S.out y hy hk);generalize Z:n5 X.env.cells scope.names []=cl;have F:∀{x:Str} {c:EG},(x,c)∈cl->X.env.cells.lookup x=some c/\(x,NameKind.free)∈scope.names:=λ {x c} A=>by
  rw[←Z]at A;rcases bt J A with z | z
  ·exact nomatch z
  ·exact z
 generalize n:cellsFrom (C+1) scope.names []=own at ok;have a6:cellsFrom (C+1) scope.names cl=own++cl:=by rw[bu,n]
 rw[a6];have L:∀{x:Str} {c:EG},(x,c)∈own->(x,NameKind.cell)∈scope.names:=λ {x c} A=>by rw[←n]at A;exact gN A
 have L1:∀x c,(own++cl).lookup x=some c->((x,c)∈own)\/(X.env.cells.lookup x=some c/\(x,NameKind.free)∈scope.names/\own.lookup x=none):=λ x c e=>by
  rw[bv]at e;cases q:own.lookup x with
  | some c'=>rw[q]at e;cases e;exact .inl (C9 q)
  | none=>rw[q]at e;have z:=F (C9 (show cl.lookup x=some c from e));exact .inr ⟨z.1,z.2,rfl⟩
 have g:∀{x:Str} {c:Nat},(x,c)∈own->@LE.le Nat _ (C+1) c:=λ {x c} A=>(ok.empty x c A).2;have h:∀{x:Str} {c:Nat},X.env.cells.lookup x=some c->@LT.lt Nat _ c d.heap.objs.size:=λ {x c} e=>by obtain⟨v,z⟩:=I.cell x c e;exact z.lt
 have K:∀{x:Str},(x,NameKind.free)∈scope.names->own.lookup x=none:=λ {x} A=>by refine mf λ c Y=>?_;have a:=X8 S.snd A;have b:=X8 S.snd (L Y);rw[a]at b;cases b
 have B:∀{x:Str} {c:EG},(x,NameKind.free)∈scope.names->X.env.cells.lookup x=some c->(own++cl).lookup x=some c:=λ {x c} A Y=>by rw[bv,K A];obtain⟨c',e⟩:=gO (l:=cl) (by rw[←Z];exact dN A Y);have z:=(F (C9 e)).1;rw[Y]at z;cases z;exact e
 have hX:(k8 X scope N' C (own++cl) d H fp x1).Ok:=by
  refine⟨I.ok.mod,S.kind,I.ok.glob,I.ok.blt,?_,λ x y c h1 h2=>?_,λ x hx=>?_,λ x c hf Y=>?_,I.ok.hd,I.ok.frames,.inl rfl,λ b R=>⟨?_,λ x c e=>?_⟩,I.bs,o6 I.ok.bsz I.sz,λ b o e R=>?_,λ b R hs=>?_,I.stack,⟨I.stkFree,I.tabs⟩⟩
  ·show d.heap.objs.size<=C;rw[hC];exact ak _
  ·have h1:(own++cl).lookup x=some c:=h1;have h2:(own++cl).lookup y=some c:=h2;rcases L1 x c h1 with a | ⟨a,_⟩<;>rcases L1 y c h2 with b | ⟨b,_⟩
   ·exact name_of_addr ok.apart a b
   ·exfalso;have q1:=g a;have q2:=h b;omega
   ·exfalso;have q1:=g b;have q2:=h a;omega
   ·exact I.ok.inj x y c a b
  ·have E:(relabel scope X.env).names.lookup x=some .cell\/(relabel scope X.env).names.lookup x=some .free:=hx;show ∃c,(own++cl).lookup x=some c;rw[gP]at E;cases q:scope.names.lookup x with
   | none=>rw[q]at E;rcases E with z | z<;>cases z
   | some k=>
    have km:=C9 q;by_cases k1:k=.cell
    ·subst k1;have z:=cH scope.names (C+1) [] (.inl q);rw[n]at z;obtain⟨c,z⟩:=F4.mp z;exact⟨c,by rw[bv,z];rfl⟩
    ·by_cases k2:k=.free
     ·subst k2;obtain⟨c,e⟩:=J _ km rfl;exact⟨c,B km e⟩
     ·exfalso;rw[q]at E;have e0:(k==NameKind.free)=false:=o9.mpr k2;simp only[X1,e0,Bool.false_and]at E;rcases E with z | z
      ·exact k1 (by simpa using z)
      ·exact k2 (by simpa using z)
  ·have a5:(scope.names.lookup x==some .cell)=true:=hf;have q:scope.names.lookup x=some .cell:=by simpa using a5
   have z:=cH scope.names (C+1) [] (.inl q);rw[n]at z;obtain⟨c',z⟩:=F4.mp z;have a0:(own++cl).lookup x=some c:=Y;rw[bv,z]at a0;have e:c'=c:=v5 a0;subst e;have:=g (C9 z);show @LE.le Nat _ d.heap.objs.size c';omega
  ·have:=ho b R;show @Ne Nat b C;omega
  ·rcases L1 x c e with a | ⟨a,_⟩
   ·have:=g a;have:=ho b R;show @Ne Nat c b;omega
   ·exact(f b R).2.2.2.2.1 x c a
  ·rcases(f b R).2.2.2.1 with z | z
   ·exact I.ok.noex b o e z
   ·exact absurd (q5 (i8 e) (o6 I.ok.bsz z)) (N4 _)
  ·rcases i6.mp (I.stkSub b hs)with z | z
   ·exact(f b R).2.1 z
   ·exact(f b R).2.2.1 z
 refine⟨⟨hX,rfl,I.bare,Un.kept keep,⟨_,a4,λ i x v e1 W e3=>?_⟩,λ x c e=>?_,I.hok.fresh (by show @LE.le Nat _ d.heap.objs.size C;omega),λ x c e=>?_,λ p hp=>absurd (show p∈([]:ge (EG×Obj))from hp) (by simp),I.hok.kept keep,?_⟩,hD,keep⟩
 ·have e1:N'[i]? = some x:=e1;unfold inner at W;rw[u9]at W;cases q:fr[i]? with
  | none=>rw[q]at W;cases W
  | some o=>
   rw[q]at W;cases o with
   | none=>cases W
   | some j=>
    have N:(σ[j]?).join=some v:=v5 W;have hv:σ[j]? = some (some v):=by
     cases z:σ[j]? with
     | none=>rw[z]at N;cases N
     | some o=>rw[z]at N;rw[show o=some v from N]
    obtain⟨x',a1,a2,a3⟩:=S.fre i j q;rw[e1]at a1;cases a1;obtain⟨m,hn,hl⟩:=I.loc;have ko:=S.out _ a3 rfl;obtain⟨u,r,l⟩:=hl j x v a2 hv (ko.elim (λ z=>.inr (.inl z)) λ z=>.inr (.inr z));rcases l with⟨k,_⟩ | ⟨k,c,e,z⟩
    ·have k':X.env.scope.names.lookup x=some .local:=k;rcases ko with w | w<;>(rw[show X.env.scope.names.lookup x=_ from w]at k';cases k')
    ·refine⟨u,r,.inr ⟨?_,c,B a3 e,z.keeps keep⟩⟩;show(relabel scope X.env).names.lookup x=some .cell\/(relabel scope X.env).names.lookup x=some .free;rw[gP,X8 S.snd a3];simp only[X1];split
     ·exact .inl rfl
     ·exact .inr rfl
 ·rcases L1 x c e with a | ⟨a,_⟩
  ·exact⟨none,(ok.empty x c a).1⟩
  ·obtain⟨v,z⟩:=I.cell x c a;exact⟨v,z.keeps keep⟩
 ·rcases L1 x c e with a | ⟨a,_⟩
  ·exact I.hok.fresh (by have:=g a;show @LE.le Nat _ d.heap.objs.size c;omega)
  ·exact I.freeC x c a
 ·show(inner fr σ).length=N'.length;unfold inner;rw[n8,S.len]
def PTs(X:Cx)(ifs:ge EI)(t:TT):Prop:=
 ∀(pins:ge (EG×Obj)) (s:EF) (σ:St) (H:Hp) (Q:Bool->Hp->Prop),Inv X pins σ H s->t σ H Q ->
  wpAny (model X.prog X.w) X.A (forIn ifs true λ c r=>if r=true then do let ok ←isTrue c X.env (eval c X.env);pure (ForInStep.yield ok)else pure (ForInStep.yield r)) (TP X pins σ Q) X.xe s
noncomputable def tYes:TT:=λ _ H Q=>Q true H
theorem mj:PTs X [] tYes:=λ _ _ _ H _ I h=>wpAny_tests_nil ⟨H,I,h⟩
theorem ui(h:PT X c t):PTs X [c] t:=λ a s b H Q I d=>wpAny_tests_one (h a s b H Q I d)
def dO(J:It)(g:TG)(tc:TT)(te:TE)(Fin:ge V->Hp->Prop)(σ:St)(H:Hp):Prop:=
 ∃W:Nat->Nat->ge V->St->Hp->Prop,(∃m,W 0 m [] σ H)/\∀i m ys σ H,W i m ys σ H ->
  (J.stop i H/\Fin ys H)\/(J.go i H/\ys.length<sizeLine/\∀x H',J.yld i H x H'->g x σ H' λ σ2 H2=>tc σ2 H2 λ b H3=>
   if b=true then te σ2 H3 λ y H4=>∃m',m'<m/\W (i+1) m' (ys++[y]) σ2 H4 else ∃m',m'<m/\W (i+1) m' ys σ2 H3)
theorem Vals.snoc(r:Vals xs a)(q:RelV x u):Vals (xs++[x]) (a++[u]):=r.append (.cons q .nil)
theorem ml{X:Cx}{M:ge (EG×Obj)}{σ:St}{H:Hp}{a:EF}{K:ge Str}{scope:ER}{fr:ge (EC Nat)}{fp:ge EG}{Z elt tg:EI}{a2:ge EI}{pos:Pos}{g:TG}{te:TE}{tc:TT}{it:EG}{tn:Nat->EH->Prop}{J:It}
     {b9:ge V->Hp->Prop} {RR:ED->Env->Result->EF->Prop} {x1:XK}
    (S:CompScope X.N K scope X.env.scope fr) (hc:X.calm=true)
    (hg:∀C j a F fp,PG (k8 X scope K C j a F fp x1) tg g) (ht:∀C j a F fp,PTs (k8 X scope K C j a F fp x1) a2 tc) (he:∀C j a F fp,PE (k8 X scope K C j a F fp x1) elt te)
    (I:Inv X M σ H a) (T:Turn X.prog X.w X.K tg J fp it tn) (st:tn 0 a.heap) (f:∀b∈fp,FpOk X M H b) (h:dO J g tc te b9 (inner fr σ) H)
    (hX:∀j (C:Nat) e A,C=a.heap.objs.size+1->(k8 X scope K C j a H fp x1).xe e A->notedBy (model X.prog X.w) X.A (compEnvC scope j C X.env) (λ e A=>RR (.ref a.heap.objs.size) (compEnvC scope j C X.env) (.error e) A) e A)
    (c3:∀D C j H' A m P,Inv X M σ (upd H' D (.lst P)) A->H' D=none->A.heap.Ns C m->upd H' D (.lst P) C=none->C≠X.env.locals->X.s₀.heap.objs.size<=C->(∀x c,X.env.cells.lookup x=some c->c≠C)->(∀p∈X.pn++M,p.1≠C)->b9 P H'->RR (.ref D) (compEnvC scope j C X.env) (.ok .next) A) :
    wpAny (model X.prog X.w) X.A (newList []) (λ b7 a7=>wpAny (model X.prog X.w) X.A (newFunctionEnv scope X.env.globals (n5 X.env.cells scope.names []) [] X.env.qual none .none (some X.env)) (λ a0 a6=>
      codeAny (model X.prog X.w) X.A (.compStart (.ListComp elt [⟨tg,Z,a2,0⟩] scope pos) 0 (.ref it) b7 {a0 with scope:=relabel scope X.env}) (RR b7 {a0 with scope:=relabel scope X.env}) a6) E a7) E a:=by
  have ho:∀b∈fp,b<a.heap.objs.size:=λ b w=>by obtain⟨o,e,_⟩:=T.obj _ _ st b w;exact i8 e
  refine I0 (uf ?_);have a9:(a.heap.push G0).objs.size=a.heap.objs.size+1:=A0 ..;obtain⟨I4,b5,keep⟩:=uh (x1:=x1) (C:=a.heap.objs.size+1) S I f ho rfl rfl;show codeAny _ _ (.compStart _ 0 (.ref it) (.ref a.heap.objs.size) (compEnvC scope (cellsFrom ((a.heap.push G0).objs.size+1) scope.names (n5 X.env.cells scope.names [])) (a.heap.push G0).objs.size X.env)) (RR (.ref a.heap.objs.size) (compEnvC scope (cellsFrom ((a.heap.push G0).objs.size+1) scope.names (n5 X.env.cells scope.names [])) (a.heap.push G0).objs.size X.env)) {a with heap:=pushCells ((a.heap.push G0).push bw) scope.names};rw[a9];have a4:=λ j e A=>hX j _ e A rfl
  clear hX
  generalize b3:a.heap.objs.size=D at *;generalize cellsFrom (D+1+1) scope.names (n5 X.env.cells scope.names [])=j at *;generalize pushCells ((a.heap.push G0).push bw) scope.names=h4 at *;have a3:∀{B:ge (EG×Obj)} {H':Hp},(∀b∈fp,H' b=none)->(∀p∈B,p.1=D)->∀b∈fp,FpOk (k8 X scope K (D+1) j a H fp x1) B H' b:=λ {B H'} hn O b w=>
    ⟨hn b w,(I4.ok.exf b w).1,I4.ok.exfs b w,.inl w,(I4.ok.exf b w).2,λ p R z=>by
      have R:p∈([]:ge (EG×Obj))++B:=R;rw[cX]at R;have:=ho b w;rw[←z,O p R]at this;exact N4 _ this⟩
  obtain⟨W,⟨m0,w0⟩,turn⟩:=h;have b4:D≠(k8 X scope K (D+1) j a H fp x1).env.locals:=by show D≠D+1;omega
  have U:∀x c,(k8 X scope K (D+1) j a H fp x1).env.cells.lookup x=some c->c≠D:=λ x c e z=>by
    obtain⟨v,o,c0,hd⟩:=I4.cell x c e;have q:h4.get? D=some o:=by rw[←z];exact c0
    rw[b5]at q;cases q;cases hd
  have b2:D∉(k8 X scope K (D+1) j a H fp x1).fs:=λ z=>by
    obtain⟨_,o,c1,_⟩:=I4.ok.funs.mem z
    have:=i8 c1;have e:a.heap.objs.size=D:=b3;exact absurd this (by show ¬D<a.heap.objs.size;omega)
  have Y:codeAny (model X.prog X.w) X.A (.compLoop (.ListComp elt [⟨tg,Z,a2,0⟩] scope pos) 0 (.ref it) (.ref D) (compEnvC scope j (D+1) X.env)) (RR (.ref D) (compEnvC scope j (D+1) X.env)) {a with heap:=h4}:=by
    refine ug (λ n A=>∃i P l k a5 H',Inv (k8 X scope K (D+1) j a H fp x1) [] a5 H' A/\tn i A.heap/\(∀b∈fp,H' b=none)/\H' D=none /\
      A.heap.get? D=some {cls:=.type "list",data:=.seq (l:ge ED).toArray k} /\ Vals P l/\P.length<=sizeLine/\W i n P a5 H') ?_ m0
      ⟨0,[],[],_,_,H,I4,T.keep _ _ _ st λ b _ o e=>keep b o e,λ b w=>(f b w).1,I.hok.fresh (by omega),b5,.nil,E2 _,w0⟩
    rintro n s3 ⟨i,P,l,k,σ3,H3,I3,st3,fr3,hD3,oD3,rv,hl,w3⟩
    have b8:Inv (k8 X scope K (D+1) j a H fp x1) [(D,{cls:=.type "list",data:=.seq l.toArray k})] σ3 H3 s3:=I3.pins_of λ p O=>by
      have e:p=(D,{cls:=.type "list",data:=.seq l.toArray k}):=by simpa using O
      subst e;exact⟨oD3,hD3,b4,b2,λ v z=>by cases z⟩
    have Q:∀p∈[((D:EG),({cls:=.type "list",data:=.seq l.toArray k}:Obj))],p.1=D:=λ p O=>by
      have e:p=(D,{cls:=.type "list",data:=.seq l.toArray k}):=by simpa using O
      subst e;rfl
    rcases turn i n P σ3 H3 w3 with⟨a8,c7⟩ | ⟨go,hlt,step⟩
    · refine thn (T.done (k8 X scope K (D+1) j a H fp x1) rfl rfl rfl hc i _ s3 σ3 H3 _ b8 (a3 fr3 Q) st3 a8) λ r s4 ⟨hr,L⟩=>?_
      subst hr;have oD:=(L.pin (D,_) (y8 _ o8)).1;have un:Un (frs X.stack) fp H H3 a.heap s4.heap:=L.base;have hn:a.heap.get? D=none:=aR (by rw[b3];exact j0 _);obtain⟨mC,c2,_⟩:=L.loc;refine c3 D (D+1) j H3 s4 mC P (I.call' L.os (un.track hD3 hn) (L.hok.track hD3 ⟨hl,l,k,rv,oD⟩) L.bare λ b w=>?_) hD3 c2 ?_ ?_ ?_ (λ x c e=>?_) (λ p O=>?_) c7
      · obtain⟨_,f1,f2,f3,f4,f5⟩:=f b w
        exact⟨f3,f1,f4,f5⟩
      · rw[j1 (show @Ne Nat (D+1) D by omega)];exact L.free
      · have q:@LT.lt Nat _ X.env.locals a.heap.objs.size:=I.lt
        show @Ne Nat (D+1) X.env.locals;omega
      · have q:@LE.le Nat _ X.s₀.heap.objs.size a.heap.objs.size:=I.sz
        show @LE.le Nat _ X.s₀.heap.objs.size (D+1);omega
      · obtain⟨v,z⟩:=I.cell x c e
        have q:@LT.lt Nat _ c a.heap.objs.size:=z.lt;show @Ne Nat c (D+1);omega
      · have q:@LT.lt Nat _ p.1 a.heap.objs.size:=i8 (I.pin p O).1
        show @Ne Nat p.1 (D+1);omega
    · refine thn (T.item (k8 X scope K (D+1) j a H fp x1) rfl rfl rfl hc i _ s3 σ3 H3 _ b8 (a3 fr3 Q) st3 go) λ r s4 ⟨u,hr,c5⟩=>?_
      subst hr;refine thn c5 λ _ s5 ⟨x,H5,I5,r5,y5,a1,c6⟩=>?_
      have c8:=I5.pinned (a3 c6 Q) (T.obj _ _ a1);refine k7 (hg (D+1) j a H fp _ s5 σ3 H5 x u _ c8 r5 (step x H5 y5)) (λ _ s6 ⟨N,H6,I6,q6⟩=>?_) λ e' s9 z=>a4 j e' s9 z;refine k7 (ht (D+1) j a H fp _ s6 N H6 _ I6 q6) (λ b s7 ⟨H7,I7,q7⟩=>?_) λ e' s9 z=>a4 j e' s9 z;have b6:∀{H':Hp} {A:EF},Inv (k8 X scope K (D+1) j a H fp x1) ([(D,{cls:=.type "list",data:=.seq l.toArray k})]++dF fp s5.heap) N H' A->tn (i+1) A.heap/\(∀b∈fp,H' b=none)/\A.heap.get? D=some {cls:=.type "list",data:=.seq l.toArray k} /\ H' D=none:=λ {H' A} J'=>by
        refine⟨T.keep _ _ _ a1 λ b w o e=>(J'.pin (b,o) (y8 _ (y8 _ (dG w e)))).1,λ b w=>?_,?_,?_⟩
        · obtain⟨o,e,d⟩:=T.obj _ _ a1 b w
          exact(J'.pin (b,o) (y8 _ (y8 _ (dG w e)))).2.1
        · exact(J'.pin (D,_) (y8 _ (u8 _ o8))).1
        · exact(J'.pin (D,_) (y8 _ (u8 _ o8))).2.1
      cases b with
      | false=>
        rw[i4 B6]at q7 ⊢;obtain⟨m',hm,w7⟩:=q7;obtain⟨k1,k2,k3,k4⟩:=b6 I7;exact⟨m',hm,i+1,P,l,k,N,H7,I7.pins_of (λ p O=>(nomatch O)),k1,k2,k4,k3,rv,hl,w7⟩
      | true=>
        rw[i3 rfl]at q7 ⊢;refine k7 (he (D+1) j a H fp _ s7 N H7 _ I7 q7) (λ y s8 ⟨v8,H8,I8,r8,q8⟩=>?_) λ e' s9 z=>a4 j e' s9 z
        obtain⟨m',hm,w8⟩:=q8;obtain⟨k1,k2,k3,k4⟩:=b6 I8;have b1:l.length<=sizeLine:=by rw[←rv.length];exact hl
        refine append_at k3 (λ h9 b0 c4=>?_) (by rw[r9];exact b1);have I9:Inv (k8 X scope K (D+1) j a H fp x1) [] N H8 s8:=I8.pins_of λ p O=>(nomatch O);refine⟨m',hm,i+1,P++[v8],l++[y],k+1,N,H8,I9.turned (it:=D) (t':=s8.toks) (λ b o w e=>(b0.2 b w).trans e) k4 b4 (.inr (by show a.heap.objs.size<=D;omega)) U (λ p O=>(nomatch O)),?_,k2,k4,?_,rv.snoc r8,?_,w8⟩
        · exact T.keep _ _ _ k1 λ b w o e=>(b0.2 b (by have q:@LT.lt Nat _ b D:=ho b w;show @Ne Nat b D;omega)).trans e
        · rw[c4,List.push_toArray]
        · rw[B7,cJ];omega
  exact codeAny_compStart_list Y (T.self X.A 0 _ _ _ (T.keep _ _ _ st λ b _ o e=>keep b o e) Y)
def uj(M:Model)(A:EM)(E:ED->EF->Prop)(use:EC (ED->Sem Unit))(Q:ED->EF->Prop)(acc:ED)(cenv:Env)(r:Result)(s':EF):Prop:=
 match r,use with
 | .ok _,none=>∃m,s'.heap.Ns cenv.locals m/\∀h',Heap.SameBut cenv.locals s'.heap h'->Q acc {s' with heap:=h'}
 | .ok _,some u=>wpAny M A (u acc) (λ _ s''=>∃m,s''.heap.Ns cenv.locals m/\∀h',Heap.SameBut cenv.locals s''.heap h'->Q .none {s'' with heap:=h'}) E s'
 | .error x,_=>∃m,s'.heap.Ns cenv.locals m/\∀h',Heap.SameBut cenv.locals s'.heap h'->wpAny M A (passOn gQ x cenv:Sem ED) (λ _ _=>False) E {s' with heap:=h'}
theorem mn
     (hcl:clausesOf e=g::gs) (hs:∀x,foldedSetIterable g.iter env x=pure x) (hclos:closureFor scope env=pure cl)
    (hkind:scope.kind=.function) (hnames:∀x∈scope.names,x.2=NameKind.local->scope.names.lookup x.1=some NameKind.local)
    (h:wpAny M A fst1 (λ x s₁=>wpAny M A (pyIter x) (λ it s₂=>wpAny M A newAcc (λ acc s₃=>
      wpAny M A (newFunctionEnv scope env.globals cl [] env.qual none .none (some env)) (λ cenv s₄=>
        codeAny M A (.compStart e 0 it acc {cenv with scope:=relabel scope env}) (uj M A E use Q acc {cenv with scope:=relabel scope env}) s₄) E s₃) E s₂) E s₁) E s) :
    wpAny M A (comprehension e scope env pos newAcc false fst1 use) Q E s:=by
  unfold comprehension;rw[hclos,hcl];refine g6 (k7 h (λ x s₁ h₁=>g6 (U2 (g6 (bc (hs x) (g6 (x8 (k7 h₁ (λ it s₂ h₂=>
    wpAny_standIf (g6 (k7 h₂ (λ acc s₃ h₃=>g6 (i0 (g6 (k7 h₃ (λ cenv s₄ h₄=>?_) λ _ _ z=>z)))) λ _ _ z=>z)))
      λ _ _ z=>z))))))) λ _ _ z=>z)
  dsimp only;have rel:∀{l:ge (Str×NameKind)},(∀x∈l,x∈scope.names)->∀x∈l,x.2=NameKind.local->Env.kindOf {cenv with scope:=relabel scope env} x.1=some NameKind.local:=λ hl x hx hq=>lookup_relabel_local (hnames x (hl x hx) hq)
  have in0:∀x∈(scope.names.filter λ x=>(x.2==NameKind.local||x.2==NameKind.cell)&&x.1 != (".0" : Str)).reverse,x∈scope.names:=λ x hx=>(E9.mp (List.mem_reverse.mp hx)).1;have hv:=rel in0;have hv':=rel (l:=(scope.names.filter λ x=>(x.2==NameKind.local||x.2==NameKind.cell)&&x.1 != (".0" : Str)).reverse.drop 1++(scope.names.filter λ x=>(x.2==NameKind.local||x.2==NameKind.cell)&&x.1 != (".0" : Str)).reverse.take 1) λ x hx=>
    (x5.mp hx).elim (λ z=>in0 x (fC z)) λ z=>in0 x (fD z)
  refine x8 (g6 (K8 (x8 (wpAny_run (J4 h₄ λ r s' hr=>?_)))));cases r with
  | ok f=>
    cases use with
    | none=>
      obtain⟨m,hn,hr⟩:=hr;exact g6 (x8 (fU (cenv:={cenv with scope:=relabel scope env}) hkind _ s' m hv hn λ h' m' _ hs'=>i0 (hr h' hs')))
    | some u=>
      refine g6 (Q4 (g6 (x8 (k7 hr (λ _ s'' ⟨m,hn,hr'⟩=>?_) λ _ _ z=>z))));exact g6 (fU (cenv:={cenv with scope:=relabel scope env}) hkind _ s'' m hv' hn λ h' m' _ hs'=>i0 (hr' h' hs'))
  | error x=>
    have hr':∃m,s'.heap.Ns cenv.locals m/\∀h',Heap.SameBut cenv.locals s'.heap h'->wpAny M A (passOn gQ x {cenv with scope:=relabel scope env}:Sem ED) (λ _ _=>False) E {s' with heap:=h'}:=by cases use<;>exact hr
    obtain⟨m,hn,hr⟩:=hr';exact g6 (x8 (fU (cenv:={cenv with scope:=relabel scope env}) hkind _ s' m hv hn λ h' m' _ hs'=>k7 (hr h' hs') (λ _ _ f=>f.elim) λ _ _ y=>y))
def gR(fr:ge (EC Nat))(wi:TI)(g:TG)(tc:TT)(te:TE):TE:=λ σ H Q=>wi σ H λ J H1=>dO J g tc te (λ ys H'=>∀p,H' p=none->Q (.ref p) (upd H' p (.lst ys))) (inner fr σ) H1
theorem uk{U:XK->TE}(S:CompScope X.N u scope X.env.scope fr)(hc:X.calm=true)(Z:aw X E)(hi:PI X tg i wi)
  (hg:∀C a c d f p,PG (k8 X scope u C a c d f p) tg g) (ht:∀C a c d f p,PTs (k8 X scope u C a c d f p) r W) (he:∀C a c d f p,PE (k8 X scope u C a c d f p) elt (U p))
  (hs:∀x,foldedSetIterable i X.env x=pure x:=by intro _;rfl):PE X (.ListComp elt [⟨tg,i,r,0⟩] scope pos) (λ k=>gR fr wi g W (U (E k)) k):=by
 intro l s k H Q I h;rw[eval_ListComp];refine mn rfl hs (gL (λ y hy hk=>I.ok.has y.1 (S.out y hy hk))) S.kind (λ x Z hl=>X8 S.snd (by grind)) (thn (hi l s k H _ I h) λ v s1 h1=>thn h1 λ itv s2 h2=>?_);obtain⟨it,f,tn,J,H2,e,I2,T,B,f2,w⟩:=h2;subst e;refine ml S hc (λ C a c d f=>hg C a c d f (E k)) (λ C a c d f=>ht C a c d f (E k)) (λ C a c d f=>he C a c d f (E k)) I2 T B f2 w (λ a C e Y hC z=>?_) ?_
 ·refine k7 (Z scope u a C l k H2 s2 f e Y I2 f2 hC z) (λ _ F ⟨m,n,q⟩=>⟨m,n,λ A j=>q A j _ rfl rfl⟩) λ e' F ⟨m,n,q⟩=>⟨m,n,λ A j=>q A j _ rfl rfl⟩
 intro D C a H' Y m ys I' hD K N P L O M R;exact⟨m,K,λ A j=>⟨.ref D,_,I'.turned (λ b o hb e=>(j.2 b hb).trans e) N P (.inr L) O M,rfl,R D hD⟩⟩
theorem ul{te:XK->TE}(S:CompScope X.N M scope X.env.scope fr)(hc:X.calm=true)(hx:aw X E)(hN:X.N.Nodup)(Y:X.N[i]? = some y)
  (N:X.env.scope.names.lookup y=some .local) (hi:PI X tg j wi)
  (hg:∀C c d f k F,PG (k8 X scope M C c d f k F) tg g) (ht:∀C c d f k F,PTs (k8 X scope M C c d f k F) B tc) (he:∀C c d f k F,PE (k8 X scope M C c d f k F) elt (te F))
  (R:swapsWith (.ListComp elt [⟨tg,j,B,0⟩] scope pos) (some (.Name y py)) r.line X.env=pure true:=by rfl)
  (hs:∀x,foldedSetIterable j X.env x=pure x:=by intro _;rfl):PS X (.Assign [.Name y py] (.ListComp elt [⟨tg,j,B,0⟩] scope pos) r) (tAsg (λ p=>gR fr wi g tc (te (E p)) p) (bj i)):=by
 intro u s p H Dn I h;rw[exec_Assign_Name_used _ _ _ _ R];refine g6 (U2 (g6 ?_));show wpAny _ _ _ _ _ s;refine g6 (k7 (mn rfl hs (gL (λ y N hk=>I.ok.has y.1 (S.out y N hk))) S.kind (λ x hx hl=>X8 S.snd (by grind))
  (thn (hi u s p H _ I h) λ v s1 h1=>thn h1 λ itv s2 h2=>?_)) (λ _ Q hq=>i0 (i0 hq)) λ _ _ e=>e)
 obtain⟨it,k,tn,J,H2,e,I2,T,P,f2,w⟩:=h2;subst e;refine ml S hc (λ C c d f k=>hg C c d f k (E p)) (λ C c d f k=>ht C c d f k (E p)) (λ C c d f k=>he C c d f k (E p)) I2 T P f2 w (λ c C e Q hC z=>?_) ?_
 ·refine k7 (hx scope M c C u p H2 s2 k e Q I2 f2 hC z) (λ _ A ⟨m,n,q⟩=>⟨m,n,λ O l=>q O l _ rfl rfl⟩) λ e' A ⟨m,n,q⟩=>⟨m,n,λ O l=>q O l _ rfl rfl⟩
 intro D C c H' Q m ys I' hD W a1 L Z K a0 a2;refine wpAny_assign_Name (kY (v:=.ref D) I' hN Y (Or.inl N) rfl (λ A a3 ⟨a,U,ha⟩=>⟨m,W.sameBut U ?_,λ O l=>⟨_,_,a3.turned (λ b o hb e=>(l.2 b hb).trans e) a1 L (.inr Z) K a0,a2 D hD⟩⟩) (.inr N));rcases ha with z | z
 ·rw[z];exact L
 ·exact Ne.symm (K y a z)
theorem Un.flown{B:EH}(u:Un fs ex H r g k)(cov:∀b o,g.get? b=some o->b∉fs->b∉ex->∃f,B.get? b=some f)(s1:∀b o,B.get? b=some o->k.get? b=some o)(m:∀b o,B.get? b=some o->h.get? b=some o)
  (w:k.UpToSlots h) (fd:∀b∈fs,b∉ex/\H b=none/\∀o,g.get? b=some o->∀v,o.data ≠ .fields v):Un fs ex H r g h:=by
 have keep:∀b o,g.get? b=some o->H b=none->b∉fs->b∉ex->h.get? b=some o:=λ b o e n a d=>by have l:=u.keep b o e n a d;obtain⟨f,q⟩:=cov b o e a d;have p:=s1 b f q;rw[l]at p;cases p;exact m b o q
 have c:∀b o,g.get? b=some o->H b=none->b∈fs->b∉ex->∃j,h.get? b=some {o with slots:=j}:=λ b o e n a d=>by obtain⟨j,l⟩:=u.slot b o e n a d;obtain⟨i,x⟩:=w b _ l ((fd b a).2.2 o e);exact⟨i,x⟩
 refine⟨keep,c,u.free,λ b o e d=>?_,u.tups,u.frzs,u.tbls⟩;by_cases a:b∈fs
 ·obtain⟨j,q⟩:=c b o e (fd b a).2.1 a d;exact⟨_,q⟩
 ·obtain⟨f,q⟩:=cov b o e a d;exact⟨f,m b f q⟩
theorem Inv.frameData(I:Inv X pins σ H s):∀b∈X.fs,b∉X.ex/\X.H₀ b=none/\∀o,X.s₀.heap.get? b=some o->∀f,o.data ≠ .fields f:=λ b a=>by
 refine⟨λ z=>I.ok.exfs b z a,I.ok.frf.1 b a,λ o e=>?_⟩;obtain⟨_,o',c,d⟩:=I.ok.funs.mem a
 rw[e]at c;cases c;exact d
theorem Inv.notStk(I:Inv X pins σ H s)(e:X.s₀.heap.get? b=some o)(a:b∉X.fs):b∉frs X.stack:=λ z=>by
 rcases i6.mp (I.stkSub b z)with q | q
 ·exact absurd (q5 (i8 e) I.ok.above) (by grind)
 ·exact a q
theorem Inv.flown{X:Cx}{pins:ge (EG×Obj)}{σ:St}{H:Hp}{s:EF}{h':EH}{t':Nat}{l:ge Env}{ea:EG}{C:ED}{B:EH}(I:Inv X pins σ H s)(F:Fly X.prog X.w X.base l ea C H B s.heap)(cov:∀b o,X.s₀.heap.get? b=some o->b∉frs X.stack->b∉X.ex->∃o',B.get? b=some o')
  (pc:∀p∈X.pn++pins,∃o',B.get? p.1=some o') (st:∀b o,B.get? b=some o->h'.get? b=some o) (up:s.heap.UpToSlots h'):Inv X pins σ H {s with heap:=h',toks:=t'}:=by
 have cellK:∀c v,s.heap.IsCell c v->h'.IsCell c v:=λ c v ⟨o,ho,hd⟩=>by obtain⟨sl,q⟩:=up c o ho (λ vs z=>by rw[hd]at z;cases z);exact⟨_,q,hd⟩
 refine⟨I.ok,I.os,I.bare,I.base.flown (λ b o e hb hx=>cov b o e (I.notStk e hb) hx) F.stays st up I.frameData,?_,λ x c e=>?_,I.free,I.freeC,λ p hp=>?_,F.hok.kept st,I.len⟩
 ·obtain⟨m,hn,hl⟩:=I.loc;refine⟨m,up.ns hn,λ i x v e1 e2 e3=>?_⟩;obtain⟨u,r,l⟩:=hl i x v e1 e2 e3;refine⟨u,r,?_⟩;rcases l with l | ⟨k,c,e,z⟩
  ·exact .inl l
  ·exact .inr ⟨k,c,e,cellK c _ z⟩
 ·obtain⟨v,z⟩:=I.cell x c e;exact⟨v,cellK c v z⟩
 ·obtain⟨e,n,ne,nf,d⟩:=I.pin p hp;obtain⟨o',q⟩:=pc p hp;have q1:=F.stays _ _ q;rw[e]at q1;cases q1;exact⟨st _ _ q,n,ne,nf,d⟩
section
variable {P:EL} {w:EK} {K:EQ} {mg:Str->EC ED} {base:EH} {N:ge Str} {qual:Str} {scope:ER} {f:EG} {cd:ED} {A:EM} {outer:ge Env} {s:EF} {H:Hp} {E:XK}
abbrev cxD(P:EL)(w:EK)(K:EQ)(mg:Str->EC ED)(base:EH)(N:ge Str)(qual:Str)(scope:ER)(f:EG)(cd:ED)(A:EM)(outer:ge Env)(s:EF)(H:Hp)(E:XK):Cx:=
 cxOf (CXx P w base) P w K mg base N qual scope f cd A outer s H E
theorem um{pins:ge (EG×Obj)}{σ:St}{H1:Hp}{s1:EF}{h':EH}{ea:EG}{C:ED}{vs:ge ED}(I:Inv (cxD P w K mg base N qual scope f cd A outer s H E) pins σ H1 s1)(hx:Heap.MadeExcOf s1.heap h' ea C vs)(hE:E C none H1) :
  (cxD P w K mg base N qual scope f cd A outer s H E).xe (.ref ea) {s1 with heap:=h'}:=by
 have hstk:=I.stack;have hin:∀env∈(cxD P w K mg base N qual scope f cd A outer s H E).stack,∀a,env.frame=some a->a∈frs (cxD P w K mg base N qual scope f cd A outer s H E).stack:=λ env he b hb=>N1.mpr ⟨env,he,hb⟩;have hB1:∀b o,(PySem.W.hideAll s1.heap (frs (cxD P w K mg base N qual scope f cd A outer s H E).stack)).get? b=some o->s1.heap.get? b=some o:=λ b o q=>cO _ q;have hHid:∀b u,H1 b≠none->s1.heap.get? b=some u->(PySem.W.hideAll s1.heap (frs (cxD P w K mg base N qual scope f cd A outer s H E).stack)).get? b=some u:=λ b u hb q=>P7 _ q λ z=>hb (I.stkFree b z);refine k7 ((gJ _ _).any (wpAny_leaves_madeW (Q:=λ _ s'=>∃h2 t,s' = {s1 with heap:=h2} /\ Heap.FlyingW (PySem.W.hideAll s1.heap (frs (cxD P w K mg base N qual scope f cd A outer s H E).stack)) outer ea C (.ref t) h2/\h'.UpToSlots h2) (E:=λ _ _=>False) (base:=PySem.W.hideAll s1.heap (frs (cxD P w K mg base N qual scope f cd A outer s H E).stack)) (h:=s1.heap) I.ok.frames rfl hB1 (kz hstk hin) hx λ h2 t fl tup nt up=>⟨h2,t,rfl,fl,up⟩)) (λ _ s' ⟨⟨h2,t,e0,fl,up⟩,st⟩=>?_) (λ _ _ q=>q.1.elim);subst e0;have hcov:∀b o,s.heap.get? b=some o->b∉frs outer->∃o',(PySem.W.hideAll s1.heap (frs (cxD P w K mg base N qual scope f cd A outer s H E).stack)).get? b=some o':=λ b o e hb=>by obtain⟨o1,e1⟩:=I.base.there b o e (by intro z;exact nomatch z);exact⟨o1,P7 _ e1 (I.notStk e hb)⟩
 refine⟨ea,C,H1,_,rfl,I.os,I.bare,I.base.flown (λ b o e hb _=>hcov b o e hb) hB1 fl.1 ((Heap.UpToSlots.of_keeps hx.keeps).trans up) I.frameData,⟨⟨_,fl⟩,λ b o e=>?_,λ a o q=>?_,(Ctxd.made hx).st st⟩,hcov,hE⟩
 ·refine P7 _ (I.bk b o e) λ z=>?_;have q:base.get? b=none:=(hstk.mem z).1;rw[q]at e;cases e
 ·refine(I.hok a o q).stay (λ b u hc e=>hHid b u ?_ e) (λ _ z=>z) (λ _ _ z=>z) λ _ _ _ _ _ z=>z;rcases hc with z | z
  ·subst z;rw[q];intro z;cases z
  ·rw[z];intro z;cases z
theorem uo(I:Inv (cxD P w K mg base N qual scope f cd A outer s H E) g σ i s1)(F:Fly P w base (cxD P w K mg base N qual scope f cd A outer s H E).stack h C i B s1.heap)
  (cov:∀b o,s.heap.get? b=some o->b∉frs (cxD P w K mg base N qual scope f cd A outer s H E).stack->∃m,B.get? b=some m) (n:E C none i):(cxD P w K mg base N qual scope f cd A outer s H E).xe (.ref h) s1:=by
 obtain⟨u,p⟩:=F.fly;refine k7 ((gJ _ _).any (wpAny_leaves_onW (Q:=λ _ l=>∃d,l = {s1 with heap:=d} /\ Heap.FlyingW B outer h C u d/\s1.heap.UpToSlots d) (E:=λ _ _=>False) I.ok.frames rfl p λ d a j=>⟨d,rfl,a,j⟩)) (λ _ l ⟨⟨d,r,a,j⟩,st⟩=>?_) (λ _ _ q=>q.1.elim);subst r;have c:=λ b o e k=>cov b o e (I.notStk e k)
 exact⟨h,C,i,B,rfl,I.os,I.bare,I.base.flown (λ b o e k _=>c b o e k) F.stays a.1 j I.frameData,⟨⟨_,a⟩,F.bas,F.hok,F.ctx.st st⟩,c,n⟩
theorem mq:aq (CXx P w base) (cxD P w K mg base N qual scope f cd A outer s H E) E:=by
 intro g σ H0 s0 e s' I c;obtain⟨ea,C,H',B,rfl,h,a,un,F,cov,j⟩:=c;refine uo (I.call' h un (F.hok.kept F.stays) a λ b d=>nomatch d) F (λ b o e d=>?_) j;obtain⟨i,k⟩:=I.base.there b o e (by intro z;exact nomatch z);exact cov b i k d
end
noncomputable def excO(ea:EG)(C:ED):HO:=.ext λ h=>∃oe vs,h.get? ea=some oe/\oe.cls=C/\oe.data=.fields vs
theorem uq(x:∃a b,h.get? f=some a/\a.cls=C/\a.data=.fields b):z5 P w H h f (excO f C):=by
 refine⟨x,?_,λ h1 h2 p k=>?_⟩
 ·obtain⟨a,_,e,_⟩:=x;exact⟨a,e⟩
 ·obtain⟨a,b,e,c,d⟩:=p;exact⟨a,b,k a e,c,d⟩
def XP(X:Cx)(pins:ge (EG×Obj))(E:St->ED->Hp->Prop)(e:ED)(s':EF):Prop:=∃(ea:EG) (C:ED) (σ':St) (H':Hp) (B:EH),e=.ref ea/\Inv X pins σ' H' s'/\Fly X.prog X.w X.base X.stack ea C H' B s'.heap /\
 (∀b o,X.s₀.heap.get? b=some o->b∉frs X.stack->b∉X.ex->∃o',B.get? b=some o')/\(∀p∈X.pn++pins,∃o',B.get? p.1=some o')/\E σ' C H'
abbrev Cx.tryIn(X:Cx)(pins:ge (EG×Obj))(E:St->ED->Hp->Prop):Cx:={X with pn:=X.pn++pins,xe:=XP X pins E}
abbrev Cx.inExc(X:Cx)(ea:EG):Cx:={X with A:=X.A.mark (some (.ref ea)),calm:=false,xe:=λ _ _=>False}
theorem Cx.Ok.tryIn{X:Cx}(k:X.Ok):(X.tryIn pins E).Ok:=⟨k.mod,k.kind,k.glob,k.blt,k.above,k.inj,k.has,k.cab,k.hd,k.frames,k.stk,k.exf,k.bs,k.bsz,k.noex,k.exfs,k.funs,k.frf⟩
theorem Cx.Ok.untry{X:Cx}(k:(X.tryIn pins E).Ok):X.Ok:=⟨k.mod,k.kind,k.glob,k.blt,k.above,k.inj,k.has,k.cab,k.hd,k.frames,k.stk,k.exf,k.bs,k.bsz,k.noex,k.exfs,k.funs,k.frf⟩
theorem Cx.Ok.inExc{X:Cx}(k:X.Ok):(X.inExc ea).Ok:=⟨k.mod,k.kind,k.glob,k.blt,k.above,k.inj,k.has,k.cab,nofun,k.frames,k.stk,k.exf,k.bs,k.bsz,k.noex,k.exfs,k.funs,k.frf⟩
theorem Inv.tryIn(I:Inv X (a++pins') σ H s):Inv (X.tryIn a E) pins' σ H s:=
 ⟨I.ok.tryIn,I.os,I.bare,I.base,I.loc,I.cell,I.free,I.freeC,λ p b=>I.pin p (by have b:=b;rw[ae]at b;exact b),I.hok,I.len⟩
theorem Inv.untry(I:Inv (X.tryIn pins E) pins' σ H s):Inv X (pins++pins') σ H s:=
 ⟨I.ok.untry,I.os,I.bare,I.base,I.loc,I.cell,I.free,I.freeC,λ p hp=>I.pin p (by grind),I.hok,I.len⟩
theorem Inv.inExc(I:Inv X a σ H s):Inv (X.inExc b) a σ H s:=⟨I.ok.inExc,I.os,I.bare,I.base,I.loc,I.cell,I.free,I.freeC,I.pin,I.hok,I.len⟩
theorem Inv.unExc(I:Inv (X.inExc b) a σ H s)(k:X.Ok):Inv X a σ H s:=⟨k,I.os,I.bare,I.base,I.loc,I.cell,I.free,I.freeC,I.pin,I.hok,I.len⟩
theorem Inv.track(I:Inv X pins σ H s)(f:H a=none)(k:X.s₀.heap.get? a=none)(j:a≠X.env.locals)(i:∀x c,X.env.cells.lookup x=some c->c≠a)(h:∀p∈X.pn++pins,p.1≠a)(new:z5 X.prog X.w (upd H a o) s.heap a o) :
  Inv X pins σ (upd H a o) s:=
 ⟨I.ok,I.os,I.bare,I.base.track f k,I.loc,I.cell,by rw[j1 j.symm];exact I.free,λ x c e=>by rw[j1 (i x c e)];exact I.freeC x c e,λ p b=>by
  obtain⟨e,n,ne,g,d⟩:=I.pin p b;exact⟨e,by rwa [j1 (h p b)],ne,g,d⟩,I.hok.track f new,I.len⟩
theorem dP(I:Inv X pins σ H s)(hN:X.N.Nodup)(L:X.N[i]? = some x)(f:X.env.scope.names.lookup x=some .local)
  (h:∀K,Inv X pins (σ.set i none) H K->Q () K):wpAny M A (do bindName X.env x .none;unbindBehindTheSuite X.env x pos) Q EE s:=by
 obtain⟨m,Z,hl⟩:=id I.loc;have r:(X.env.scope.kind == .class||(X.env.scope.kind == .module&&X.env.locals != X.env.globals))=false:=by rw[I.ok.kind];rfl
 have l:i<σ.length:=by rw[I.len];exact(n7.mp L).1
 have cne:=I.cne;have a:∀{w:EH},Heap.SameBut X.env.locals s.heap w->HOk X.prog X.w H w:=λ {w} hs b S e=>by
  refine(I.hok b S e).stay (λ c J u q=>(hs.2 c ?_).trans q) (λ _ q=>q) (λ _ _ q=>q) λ _ _ _ _ _ q=>q
  rintro rfl
  rcases u with rfl | u
  ·rw[I.free]at e;cases e
  ·rw[I.free]at u;cases u
 refine wpAny_nameGoes_keeps f Z r λ w v C hs=>?_;refine h _ ⟨I.ok,I.os,I.bare,⟨λ b o e n F f=>?_,λ b o e n F f=>?_,I.base.free,λ b o e f=>?_,I.base.tups,I.base.frzs,I.base.tbls⟩,⟨_,C,λ j y N g B e3=>?_⟩,λ y c e=>?_,I.free,I.freeC,λ p Y=>?_,a hs,by simpa using I.len⟩
 ·exact(hs.2 b (j5 (q5 (i8 e) I.ok.above))).trans (I.base.keep b o e n F f)
 ·obtain⟨P,g⟩:=I.base.slot b o e n F f;exact⟨P,(hs.2 b (j5 (q5 (i8 e) I.ok.above))).trans g⟩
 ·obtain⟨U,g⟩:=I.base.there b o e f;exact⟨U,(hs.2 b (j5 (q5 (i8 e) I.ok.above))).trans g⟩
 ·by_cases E:j=i
  ·subst E;rw[A4 l]at B;cases B
  ·rw[i9 (Ne.symm E)]at B;obtain⟨O,R,q⟩:=hl j y N g B e3;refine⟨O,R,?_⟩;rcases q with⟨k,e⟩ | ⟨k,c,e,z⟩
   ·refine .inl ⟨k,?_⟩;have:y≠x:=λ e=>E (dz hN g (e▸L));simp[this,e]
   ·exact .inr ⟨k,c,e,z.sameBut hs (cne y c e)⟩
 ·obtain⟨J,z⟩:=I.cell y c e;exact⟨J,z.sameBut hs (cne y c e)⟩
 ·obtain⟨e,n,ne,W,d⟩:=I.pin p Y;exact⟨(hs.2 p.1 ne).trans e,n,ne,W,d⟩
def G8(CX:CXT)(X:Cx)(E:St->XK):Prop:=∀(pins:ge (EG×Obj)) (σ:St) (H:Hp) (s:EF) (e:ED) (s':EF),Inv X pins σ H s->CX X.stack H s (E σ) e s'->X.xe e s'
theorem aq.s(h:aq b X E):G8 b X λ _=>E:=λ a c H s e d I q=>h a c H s e d I q
theorem ur{X:Cx}:G8 (CXx X.prog X.w X.base) (X.tryIn a E) (λ f C _ H=>E f C H):=by
 intro g f H0 s0 e s' I i;obtain⟨u,C,x,B,rfl,k,c,un,F,cov,r⟩:=i;have w:=I.call' k un (F.hok.kept F.stays) c λ b j=>nomatch j
 have J:=w.untry;refine⟨u,C,f,x,B,rfl,J.pins_of λ p h=>J.pin p (y8 _ (u8 _ h)),F,λ b o e j q=>?_,λ p h=>?_,r⟩
 ·obtain⟨l,v⟩:=I.base.there b o e q;exact cov b l v j
 ·obtain⟨e,n,ne,m,d⟩:=I.pin p (u8 _ h);exact cov p.1 p.2 e λ z=>(i6.mp (I.stkSub _ z)).elim ne m
section
variable {X:Cx} {CX:CXT} {k:Nat} {f C:EG} {fd:EO} {ps:ge Str} {sp:Sp} {dvs:ge V} {ds:ge ED} {E:St->XK} {x m:Str} {p pos apos:Pos} {e o:EI} {es:ge EI} {ta:TE} {t:TA}
theorem bx(F:FnOk X.prog X.w X.K X.mg X.base CX k f fd ps sp)(j:Room k X.A)(n:u7 X.K fd ps ds)(m:Vals dvs ds)(i:G8 CX X E)
  (I:Inv X a σ H s) (r:Vals vs b) (h:sp (vs++dvs) H Q (E σ)):wpAny (model X.prog X.w) X.A (call (.ref f) b) (EP X a σ Q) X.xe s:=by
 have d:=r.append m;have l:(b++ds).length=ps.length:=by rw[←d.length];exact F.len _ _ _ _ h
 refine bf (J4 (F.run X.A X.stack s H ⟨b,[]⟩ _ _ Q (E σ) j I.env0 (n s b I.kIn l) d h) λ r g c=>?_);cases r with
 | error e=>exact i a σ H s e g I c
 | ok o=>
  cases o with
  | ret u=>exact I.after c
  | next=>exact False.elim c
  | brk=>exact False.elim c
  | cont=>exact False.elim c
noncomputable def dQ(sp:Sp)(dvs:ge V)(E:St->XK)(t:TA):TE:=λ σ H Q=>t σ H λ vs H1=>sp (vs++dvs) H1 Q (E σ)
theorem ut(F:FnOk X.prog X.w X.K X.mg X.base CX k f fd ps sp)(j:Room k X.A)(n:Gl X x)(l:X.mg x=some (.ref f))(m:PySem.W.keepIn X.K (.ref f)=true)(v:u7 X.K fd ps ds)(u:Vals dvs ds)(i:G8 CX X E)
  (w:PA X (e::es) t) (c:(x==("__debug__" : Str))=false:=by decide) (o:starEach (e::es) X.env=(false,eval e X.env)::starEach es X.env:=by rfl) (b:(backTo pos (starEach es X.env)).any (·.1)=false:=by rfl) :
  PE X (.Call (.Name x p) (e::es) [] pos) (dQ sp dvs E t):=by
 intro a s g H Q I h;refine S9 (Q6 I n l ?_ c);refine aU I.ok.mod.kin m (thn (w pos a s g H _ I h) λ us s1 ⟨vs,H1,d,r,q⟩=>⟨d.kIn,?_⟩) o b;exact bx F j v u i d r q
end
def tTry(K:EQ)(cv:ED)(i:Nat)(tb:(St->ED->Hp->Prop)->TS)(ts:TS):TS:=λ D σ H=>
 tb (λ σ' C H'=>PySem.W.exmOne K C cv=some true/\∀ea,H' ea=none->ts {nx:=λ σ2 H2=>D.nx (σ2.set i none) H2,rt:=D.rt,bk:=λ σ2 H2=>D.bk (σ2.set i none) H2,ct:=λ σ2 H2=>D.ct (σ2.set i none) H2} (σ'.set i (some (.ref ea))) (upd H' ea (excO ea C))) D σ H
theorem uu(a1:X.stack=X.env::X.outer)(b4:X.env.frame=some X.env.locals)(b5:X.ex=[])(b3:Gl X c)(hm:X.mg c=some cv)
  (hN:X.N.Nodup) (hi:X.N[i]? = some n) (Z:X.env.scope.names.lookup n=some .local) (hb:∀a E,PSs (X.tryIn a E) body (tb E)) (hs:∀g,PSs (X.inExc g) (N::r) ts) (hd:(c==("__debug__" : Str))=false:=by decide) :
  PS X (.Try body [.ExceptHandler (some (.Name c np)) (some n) (N::r) a2] [] [] pos) (tTry X.K cv i tb ts):=by
 intro a s σ H D I h;refine wpAny_Try_except ?_;have un:∀{b:St} {k:Hp} {s1:EF} {E:St->ED->Hp->Prop},Inv (X.tryIn a E) [] b k s1->Inv X a b k s1:=λ {b k s1 E} J=>by have q:=J.untry;rw[v3]at q;exact q
 refine k7 (hb a _ [] s σ H D (Inv.tryIn (pins':=[]) (by rw[v3];exact I)) h) (λ f s1 q=>?_) (λ e s1 q=>?_)
 ·cases f with
  | next=>obtain⟨b,k,A,Q⟩:=q;exact ai ⟨b,k,un A,Q⟩
  | brk=>obtain⟨b,k,A,Q⟩:=q;exact⟨b,k,un A,Q⟩
  | cont=>obtain⟨b,k,A,Q⟩:=q;exact⟨b,k,un A,Q⟩
  | ret u=>obtain⟨v,b,k,A,r1,Q⟩:=q;exact⟨v,b,k,un A,r1,Q⟩
 ·obtain⟨g,C,b,k,B,rfl,A,F,cov,pc,hE,L⟩:=q;obtain⟨a0,fl⟩:=F.fly;have b6:Heap.FlyingW B (X.env::X.outer) g C a0 s1.heap:=by rw[←a1];exact fl
  refine fY (by rw[←a1];exact A.ok.frames) b4 b6 λ h4 a4 b0=>?_;refine gk a4 λ h5 S a9=>?_;have up:=b0.trans a9;have I5:Inv X a b k {s1 with heap:=h5}:=A.flown (t':=s1.toks) F cov pc S.1 up;have J5:Inv (X.inExc g) a b k {s1 with heap:=h5}:=I5.inExc;obtain⟨oe,ws,b2,a3,b7,b8⟩:=S.first
  refine wpAny_handleBy_cons (kP ?_) (by intro q;cases q);refine Q6 J5 b3 hm ?_ hd;have LT:PySem.W.Looks (model X.prog X.w) h5 (typeOf (.ref g)) C:=a3▸(PySem.W.Looks.ld b2).andThen .now;refine(PySem.W.exm_one (M:=model X.prog X.w) (K:=X.K) (h:=h5) J5.kIn LT hE).here ?_;show codeAny _ _ _ _ _;refine codeAny_handlers_suite_as ?_;refine lands_againW S λ h6 a5 a8=>?_;have I6:Inv X a b k {s1 with heap:=h6}:=A.flown (t':=s1.toks) F cov pc a5.1 (up.trans a8);obtain⟨b1,a7,l,R,j,_⟩:=a5.first
  have hn:k g=none:=F.untr;have h0:X.s₀.heap.get? g=none:=by
   cases q:X.s₀.heap.get? g with
   | none=>rfl
   | some o=>
    exfalso;by_cases hf:g∈frs X.stack
    ·obtain⟨_,o',e',d⟩:=I6.stack.mem hf;have a6:h6.get? g=some o':=e';rw[l]at a6;cases a6;exact d _ j
    ·obtain⟨o',z⟩:=cov g o q hf (by rw[b5];intro z;exact nomatch z);rw[F.newE]at z;cases z
  have hL:g≠X.env.locals:=λ z=>by
   obtain⟨m,⟨o,es,ep,ho,y,_⟩,_⟩:=I6.loc;have w:h6.get? g=some o:=by rw[z];exact ho
   rw[l]at w;cases w;rw[j]at y;cases y
  have hc:∀x c,X.env.cells.lookup x=some c->c≠g:=λ x c e z=>by
   obtain⟨v,o,ho,y⟩:=I6.cell x c e;have w:h6.get? g=some o:=by rw[←z];exact ho
   rw[l]at w;cases w;rw[j]at y;cases y
  have hp:∀p∈X.pn++a,p.1≠g:=λ p hp z=>by obtain⟨o',q⟩:=pc p hp;rw[z,F.newE]at q;cases q
  refine gp (X:=X.inExc g) (i:=i) (v:=.ref g) ((I6.track hn h0 hL hc hp (uq ⟨b1,a7,l,R,j⟩)).inExc) hN hi (Or.inl Z) rfl (λ s7 I7=>?_) (.inr Z);refine k7 (hs g a s7 _ _ _ I7 (L g hn)) (λ f s8 q=>?_) λ _ _ z=>z.elim;cases f with
  | next=>obtain⟨O,Y,W,P⟩:=q;exact dP (W.unExc I.ok) hN hi Z λ s9 U=>⟨_,Y,U,P⟩
  | brk=>obtain⟨O,Y,W,P⟩:=q;exact dP (W.unExc I.ok) hN hi Z λ s9 U=>⟨_,Y,U,P⟩
  | cont=>obtain⟨O,Y,W,P⟩:=q;exact dP (W.unExc I.ok) hN hi Z λ s9 U=>⟨_,Y,U,P⟩
  | ret u=>obtain⟨v,O,Y,W,r8,P⟩:=q;exact dP (W.unExc I.ok) hN hi Z λ s9 U=>⟨v,_,Y,U,r8,P⟩
theorem mr{K:EQ}{h₀:EH}{mg:Str->EC ED}{x:Str}{C:EG}{bmB:ge ED}{newId:EU}(X:K.In h₀)(hm:mg x=some (.ref C))(q:PySem.W.excIn K C bmB newId=true):OwnCls x C bmB newId mg h₀:=by
 refine⟨hm,?_⟩;unfold PySem.W.excIn at q;split at q
 ·rename_i dd cd sl ho;split at q
  ·rename_i C' bm k0 k1 k2 k3 n k5 hm hs;simp only[g9,i1,m9]at q;obtain⟨⟨⟨⟨⟨rfl,rfl⟩,hdel⟩,ht⟩,hok⟩,hni⟩:=q;obtain⟨nm,bs,mro,ns,qn,hd,sn,sub,ab,col,del⟩:=cd;dsimp only at hm hdel hok hni;subst hm hdel;have hsl:sl = #[k0,k1,k2,k3,some (.builtin n),k5]:=by obtain⟨l⟩:=sl;simp only at hs;rw[hs]
   subst hsl;exact⟨bm,ns,nm,qn,bs,hd,sn,sub,ab,col,dd,k0,k1,k2,k3,k5,_,X _ _ ho,.of_isNs (PySem.W.isNs_of_in X hok),PySem.W.nsMap_none_of_in X hok hni,PySem.W.tail_of_in X ht⟩
  ·cases q
 ·cases q
def dR(X:Cx)(E:St->XK):Prop:=∀(pins:ge (EG×Obj)) (σ:St) (H:Hp) (s:EF) (h':EH) (ea:EG) (C:ED) (vs:ge ED),Inv X pins σ H s->Heap.MadeExcOf s.heap h' ea C vs->E σ C none H->X.xe (.ref ea) {s with heap:=h'}
theorem mt{K:EQ} :
  dR (cxD P w K mg base N b scope f cd A a s H E) λ _=>E:=λ c σ H1 s1 h' ea C vs I d e=>um I d e
noncomputable def uv(C:EG)(E:St->XK)(t:TA):TS:=λ _ σ H=>t σ H λ vs H1=>vs.length<=sizeLine/\E σ (.ref C) none H1
theorem uw{X:Cx}{x:Str}{C:EG}{bmB:ge ED}{B newId initId:EU}{np cpos pos:Pos}{e₀:EI}{rest:ge EI}{t:TA}{E:St->XK}(FB:ExcBaseFacts B newId initId bmB)(hc:X.calm=true)(hg:Gl X x)(hm:X.mg x=some (.ref C))(hx:PySem.W.excIn X.K C bmB newId=true)
  (hR:dR X E) (ha:PA X (e₀::rest) t) (hd:(x==("__debug__" : Str))=false:=by decide) (he:starEach (e₀::rest) X.env=(false,eval e₀ X.env)::starEach rest X.env:=by rfl) (hpl:(backTo cpos (starEach rest X.env)).any (·.1)=false:=by rfl) :
  PS X (.Raise (some (.Call (.Name x np) (e₀::rest) [] cpos)) none pos) (uv C E t):=by
 intro pins s σ H D I h;obtain⟨tl,N,nm,q,bs,hdct,sn,sub,ab,col,dd,k0,k1,k2,k3,k5,mN,hC,hN,hni,T⟩:=(mr I.mod.kin hm hx).obj;refine wpAny_Raise_call_subT (C:=C) (nm:=nm) (q:=q) (N:=N) (bs:=bs) (bm:=tl) (hdct:=hdct) (sn:=sn) (sub:=sub) (ab:=ab) (col:=col) (dd:=dd) (k0:=k0) (k1:=k1) (k2:=k2) (k3:=k3) (k5:=k5)
  FB (mN:=mN) (T.hasType FB.hasBase) (I.ok.hd hc) (by rw[he];show(false||(backTo cpos (starEach rest X.env)).any (·.1))=false;rw[hpl];rfl) hni (Q6 I hg hm ⟨rfl,?_⟩ hd)
 have hq:=ha cpos pins s σ H _ I h;rw[he]at hq ⊢;exact aS (thn hq λ vs s₂ ⟨xs,H2,I2,r2,hl,hE⟩=>⟨rfl,by show vs.length<=sizeLine;rw[←r2.length];exact hl,I2.bk _ _ hC,hN.keeps I2.bk,T.keeps I2.bk,λ h' e hm'=>hR pins σ H2 s₂ h' e _ _ I2 hm' hE⟩)
theorem mu:entryFor table "proto.unchain" = some Builtin.«proto.unchain»:=entryFor_of_fast (by kernel_rfl)
theorem dU:plainId "proto.unchain" = true:=by decide +kernel
def Pth(h:EH):Nat->EG->EG->Prop
 | 0,a,b=>a=b
 | k+1,a,b=>∃o c,h.get? a=some o/\F2 o=some (.ref c)/\Pth h k c b
theorem Pth.snoc(e:h.get? b=some o)(q:F2 o=some (.ref c)):∀{k:Nat} {a:EG},Pth h k a b->Pth h (k+1) a c
 | 0,a,p=>by have f:=p;subst f;exact⟨o,c,e,q,rfl⟩
 | k+1,a,p=>by obtain⟨g,j,i,d,p1⟩:=p;exact⟨g,j,i,d,p1.snoc e q⟩
theorem F2.at(h:F2 o=some c):∃vs,o.data=.fields vs/\vs[2]? = some c:=by
 unfold F2 at h;split at h
 ·rename_i vs e;exact⟨vs,e,h⟩
 ·cases h
theorem Cx2.there(c:Cx2 h n a):∃o,h.get? a=some o:=by
 cases n with
 | zero=>obtain⟨o,e,_⟩:=c;exact⟨o,e⟩
 | succ n=>obtain⟨o,e,_⟩:=c;exact⟨o,e⟩
theorem mv(g:s.heap.get? o=some a)(q:F2 a=some .none)(d:R (.ok (.ret .none)) s) :
  codeAny (model prog w) A (.builtin "proto.unchain" ⟨[.ref e,.ref o,.ref b,.bool tg],[]⟩) R s:=by
 obtain⟨vs,c,f⟩:=F2.at q;refine Q2 mu ?_;rw[W7 dU _];unfold Builtin.«proto.unchain»;refine g6 (t4 g c f ?_);exact i0 d
theorem ux(C:t.get? e=none):∀(n:Nat) {A:EM} {R:Result->EF->Prop} {s:EF} {o g:EG} {h:Bool} {k:Nat},Cx2 t n o->St2 t s.heap->Pth s.heap k g o->R (.ok (.ret .none)) s ->
  codeAny (model prog w) A (.builtin "proto.unchain" ⟨[.ref e,.ref o,.ref g,.bool h],[]⟩) R s:=by
 intro n
 induction n with
 | zero=>
  intro A R s o g h k c st p d;obtain⟨i,j,q⟩:=c;obtain⟨u,f,a⟩:=st o i _ j q;exact mv f a d
 | succ n v=>
  intro A R s o g h k c st p d;obtain⟨i,j,q⟩:=c;rcases q with q | ⟨b,q,c⟩
  ·obtain⟨u,f,a⟩:=st o i _ j q;exact mv f a d
  ·obtain⟨u,f,a⟩:=st o i _ j q;obtain⟨vs,E,F⟩:=F2.at a;have m:b≠e:=λ z=>by obtain⟨o2,x⟩:=c.there;rw[z,C]at x;cases x
   have p2:=p.snoc f a;refine Q2 mu ?_;rw[W7 dU _];unfold Builtin.«proto.unchain»;refine g6 (t4 f E F ?_);rw[i4 (by simp),i4 (by simpa using m)];by_cases z:b=g
   ·rw[i3 (by simpa using z)];exact g6 (Q4 (i0 d))
   ·rw[i4 (by simpa using z)];cases h with
    | false=>
     refine g6 (i0 ?_);exact i0 ⟨X2 dU _,v c st p2 d⟩
    | true=>
     obtain⟨o1,c1,H,B,p1⟩:=p2;obtain⟨y,l,r⟩:=F2.at B;refine g6 (t4 H l r ?_);exact i0 ⟨X2 dU _,v c st p1 d⟩
noncomputable def mw(C:ED)(t ea:EG):Obj:={cls:=C,data:=.fields #[.ref t,.none,.ref ea,.none,.bool true,.none]}
theorem uy(m:A.handled=some (.ref a))(b:a≠e)(l:d.get? e=none)(c:Cx2 d n a)(st:St2 d s.heap)
  (o:s.heap.get? e=some g) (q:g.data=.fields vs) (j:2<vs.size) (h:E (.ref e) {s with heap:=s.heap.update e (Obj.mapFields (·.setIfInBounds 2 (.ref a)))}):wpAny (model prog w) A (raiseNew (.ref e):Sem f) Q E s:=by
 unfold raiseNew;refine g6 (dg ?_);rw[m];dsimp only;rw[i3 (by simpa using b)];refine g6 (x8 (gf (ux (k:=0) l n c st rfl ?_)));refine g6 (J1 o q j ?_);exact λ Γ p i=>by rw[gm];exact h
theorem uz(a:bm.contains (.type "BaseException")=true)(j:s.heap.get? C=some (excClassObj nm q C N bs bm hdct sn sub ab col dd k0 k1 k2 k3 k5 newId))
  (k:s.heap.get? e=some c) (b:c.cls=.ref C) (f:∃vs,c.data=.fields vs) (l:Q (.ref e) s):wpAny M A (excFromValue (.ref e) h) Q E s:=by
 have i:(Value.ref C::bm).contains (.type "BaseException")=true:=by rw[List.contains_cons,a,Bool.or_true]
 obtain⟨vs,f⟩:=f;obtain⟨oc,od,dt,sl⟩:=c;simp only at b f;subst b f;obtain⟨hp,g,d,tk,os⟩:=s;unfold excFromValue
 repeat (first | with_reducible refine cS k ?_ | with_reducible refine cS j ?_ | (with_reducible refine wpAny_isSubtype_exc j ?_;rw[i]) | exact l | wp_step)
theorem uA(j:s.heap.get? C=some (excClassObj nm q C N bs bm hdct sn sub ab col dd k0 k1 k2 k3 k5 newId))
  (c:s.heap.get? e=some b) (a:b.cls=.ref C) (f:b.data=.fields vs) (k:vs[1]? = some .none) (h:wpAny M A (raiseNew (.ref e):Sem Flow) Q E s) :
  wpAny M A (do
   let e' ←if ←isType (.ref e)then holding [.ref e] (raisedFor (.ref e) (.ref e))else raisedInstance (.ref e)
   setFlight e' none
   raiseNew e':Sem Flow) Q E s:=by
 have i:=c;obtain⟨oc,od,dt,sl⟩:=b;simp only at a f;subst a f;obtain⟨hp,g,d,tk,os⟩:=s
 repeat (first | with_reducible refine cS c ?_ | with_reducible refine cS j ?_ | exact (by unfold setFlight;refine g6 (t4 c rfl k ?_);exact i0 h) | wp_step)
theorem uB(f:bm.contains (.type "BaseException")=true)(I:A.handled=some (.ref p))(J:∀(Q:ED->EF->Prop) (s:EF),Q .none s->wpAny (model prog w) A c Q E s)
  (h:wpAny (model prog w) A x (λ v a=>∃e t o n,v=.ref e/\a.heap.get? C=some (excClassObj nm q C N bs bm hdct sn sub ab col dd k0 k1 k2 k3 k5 newId) /\
   a.heap.get? e=some {cls:=.ref C,data:=.fields #[.ref t,.none,.none,.none,.bool false,.none]} /\ p≠e/\o.get? e=none/\Cx2 o n p/\St2 o a.heap /\
   ∀F:EH,F.get? e=some (mw (.ref C) t p)->(∀b,b≠e->F.get? b=a.heap.get? b)->E (.ref e) {a with heap:=F}) E s) :
  wpAny (model prog w) A (raiseStmt env (some x) (some c)) Q E s:=by
 unfold raiseStmt;refine g6 (k7 h (λ v a i=>?_) λ _ _ x=>x);obtain⟨e,t,o,n,rfl,m,l,u,H,y,r,K⟩:=i;refine g6 (x8 (J _ _ (g6 (i0 ?_))));refine g6 (x8 (uz f m l rfl ⟨_,rfl⟩ ?_));have B:C≠e:=λ z=>by rw[z,l]at m;cases m
 dsimp only;rw[i3 (by rfl)];refine g6 (i0 ?_);refine g6 (J1 l rfl (show 3<6 by decide) ?_);have j:=K6 (Obj.mapFields (·.setIfInBounds 3 Value.none)) l rfl;refine g6 (J1 j rfl (show 4<6 by decide) ?_);have d:=K6 (Obj.mapFields (·.setIfInBounds 4 (.bool true))) j rfl;have g:∀b,b≠e->((a.heap.update e (Obj.mapFields (·.setIfInBounds 3 Value.none))).update e (Obj.mapFields (·.setIfInBounds 4 (.bool true)))).get? b=a.heap.get? b:=λ b k=>by rw[P3 _ _ (Ne.symm k),P3 _ _ (Ne.symm k)]
 refine uA (C:=C) (q:=q) (N:=N) ((g C B).trans m) d rfl rfl rfl ?_;refine uy I u H y (r.trans ((St2.upd (F2.fields (by decide))).trans (St2.upd (F2.fields (by decide))))) d rfl (show 2<6 by decide) (K _ ?_ λ b k=>?_)
 ·exact K6 _ d rfl
 ·exact(P3 _ _ (Ne.symm k)).trans (g b k)
theorem uC(F:ExcBaseFacts B newId p L)
  (H:bm.contains (.type "BaseException")=true) (hh:A.handled=some (.ref M)) (r:(backTo cpos (starEach l env)).any (·.1)=false) (O:mN "__init__" = none)
  (h:wpAny (model prog w) A (eval (.Name x np) env) (λ f u=>f=.ref C/\wpAny (model prog w) A (evalArgs (.ref C) true (backTo cpos (starEach l env)) [])
   (λ a c=>a.kw=[]/\a.pos.length<=sizeLine/\c.heap.get? C=some (excClassObj nm q C N bs bm hdct sn sub ab col dd k0 k1 k2 k3 k5 newId)/\c.heap.Ns N mN/\OwnTail c.heap L bm/\(∃n,Cx2 c.heap n M) /\
    ∀(K:EH) e t,c.heap.get? e=none->K.get? e=some (mw (.ref C) t M)->(∀b o,c.heap.get? b=some o->K.get? b=some o)->E (.ref e) {c with heap:=K}) E u) E s) :
  wpAny (model prog w) A (exec (.Raise (some (.Call (.Name x np) l [] cpos)) (some (.Constant .none j cp)) pos) env) Q E s:=by
 rw[arm_exec_Raise];refine g6 (U2 ?_);refine uB (C:=C) (nm:=nm) (q:=q) (N:=N) (bs:=bs) (hdct:=hdct) (sn:=sn) (sub:=sub) (ab:=ab) (col:=col) (dd:=dd) (k0:=k0) (k1:=k1) (k2:=k2) (k3:=k3) (k5:=k5) (newId:=newId) H hh (λ Q' s' h'=>?_) ?_
 ·show wpAny _ _ _ _ _ _;exact g6 (i0 (g6 (U2 (i0 h'))))
 ·refine g6 (k7 (wpAny_Call_ofName (k7 h (λ f u k=>?_) λ _ _ x=>x)) (λ v Y I=>g6 (U2 (i0 I))) λ _ _ x=>x);obtain⟨rfl,k⟩:=k;unfold callWith;refine g6 (x8 (k7 k (λ a c i=>g6 (U2 ?_)) λ _ _ x=>x));obtain⟨a0,X⟩:=a;obtain⟨R,Z,W,hn,T,⟨m,J⟩,i⟩:=i;obtain rfl:X=[]:=R;obtain⟨hp,g,d,tk,os⟩:=c;simp only[r];refine g6 (wpAny_keeperOf_exc W ?_);refine g6 (wpAny_call_exc_subT F T W hn O λ h' e y=>g6 (x8 (wpAny_point (i0 ?_))));obtain⟨t,ht,_,_⟩:=y.there;obtain⟨oe,eo⟩:=J.there;have P:M≠e:=λ z=>by rw[z,y.new]at eo;cases eo
  refine⟨e,t,hp,m,rfl,y.keeps _ _ W,ht,P,y.new,J,.of_keeps y.keeps,λ K g1 g2=>i K e t y.new g1 λ b o U=>?_⟩;have S:b≠e:=λ z=>by rw[z,y.new]at U;cases U
  rw[g2 b S];exact y.keeps b o U
theorem gS{prog:EL}{w:EK}{A:EM}{E:ED->EF->Prop}{s:EF}{base:EH}{l:ge Env}{e L:EG}{cls a0 fl:ED}{Q:Unit->EF->Prop}(f1:base.StaysIn s.heap)(f2:base.get? e=none)(f3:s.heap.FunFrames base l)(ht:s.heap.TracedAtW base e cls a0 fl)
  (hQ:∀h',Heap.HeldW base l e cls a0 L h'->s.heap.UpToSlots h'->Q () {s with heap:=h'}):wpAny (model prog w) A (setFlight (.ref e) (some L)) Q E s:=by
 obtain⟨oe,vs,T,oT,ts,he,hcls,hd,h1,hnT,hTe,hT,hdT,h3⟩:=ht;unfold setFlight;refine g6 (t4 he hd h1 ?_);rw[i3 (show(Value.ref T != Value.none)=true by simp)];have hsz:=(Array.getElem?_eq_some_iff.mp h3).1;refine J1 hT hdT hsz (hQ _ ?_ ?_)
 ·have other:∀b,b≠T->(s.heap.update T (Obj.mapFields (·.setIfInBounds 3 (rawInt L)))).get? b=s.heap.get? b:=λ b hb=>P3 _ _ (Ne.symm hb);have noRec:∀b o,s.heap.get? b=some o->(∀vs,o.data ≠ .fields vs)->b≠T:=λ b o hb hnf q=>by
   rw[q,hT]at hb;injection hb with hb;subst hb;exact hnf ts hdT
  refine⟨λ b o hbo=>(other b λ q=>by rw[q,hnT]at hbo;cases hbo).trans (f1 b o hbo),f2,f3.of_keeps λ b o hb hnf=>⟨o,(other b (noRec b o hb hnf)).trans hb,rfl⟩,?_⟩;refine⟨oe,vs,T,_,_,(other e (Ne.symm hTe)).trans he,hcls,hd,h1,hnT,hTe,K6 _ hT (aP (T4 hdT _)),T4 hdT _,?_⟩;show(ts.setIfInBounds 3 (rawInt L))[3]? = some (rawInt L);rw[Array.getElem?_setIfInBounds_self_of_lt hsz]
 ·intro b o hb hnf;have hbT:b≠T:=λ q=>by rw[q,hT]at hb;injection hb with hb;subst hb;exact hnf ts hdT
  exact⟨o.slots,(P3 _ _ (Ne.symm hbT)).trans hb⟩
theorem uD{prog:EL}{w:EK}{A:EM}{E:ED->EF->Prop}{s:EF}{base:EH}{l:ge Env}{e L:EG}{cls a0 fl:ED}{Q:Unit->EF->Prop}(f1:base.StaysIn s.heap)(f2:base.get? e=none)(f3:s.heap.FunFrames base l)(ht:s.heap.TracedAtW base e cls a0 fl)
  (hQ:∀h',Heap.HeldW base l e cls a0 L h'->s.heap.UpToSlots h'->Q () {s with heap:=h'}):wpAny (model prog w) A (do
   if(←field (.ref e) 1) == .none then unsupported "frame.own-activation:exception-without-traceback"
   setFlight (.ref e) (some L)) Q E s:=by
 have ht':=ht;obtain⟨oe,vs,T,oT,ts,he,hcls,hd,h1,hnT,hTe,hT,hdT,h3⟩:=ht;refine g6 (t4 he hd h1 ?_);rw[i4 (show ¬((Value.ref T==Value.none)=true) by simp)];exact gS f1 f2 f3 ht' hQ
theorem uE (x : ED) (fr : EC EG) : Kp2 (do
   if (← field x 1) == .none then unsupported "frame.own-activation:exception-without-traceback"
   setFlight x fr : Sem Unit) := by
 refine .bind (br x 1) λ v => ?_;split
 ·exact .unsupported _
 ·exact av x fr
def bz(X:Cx)(E:St->XK):Prop:=∀(pins:ge (EG×Obj)) (σ:St) (H:Hp) (s:EF) (ea:EG) (C a0:ED) (B:EH),Inv X pins σ H s->Heap.HeldW B X.stack ea C a0 X.env.locals s.heap->(∀b o,X.base.get? b=some o->B.get? b=some o)->HOk X.prog X.w H B->Ctxd s.heap ea ->
 (∀b o,X.s₀.heap.get? b=some o->b∉frs X.stack->∃o',B.get? b=some o')->E σ C none H->X.xe (.ref ea) s
theorem mx{P:EL}{w:EK}{K:EQ}{mg:Str->EC ED}{base:EH}{N:ge Str}{qual:Str}{scope:ER}{f:EG}{cd:ED}{A:EM}{outer:ge Env}{s:EF}{H:Hp}{E:XK}:bz (cxD P w K mg base N qual scope f cd A outer s H E) λ _=>E:=by
 intro pins σ H1 s1 ea C a0 B I hh bas hok ctx cov hE;have lv:wpAny (model P w) (A.deeper (envOfC qual scope s.heap.objs.size f cd)) (leaving (envOfC qual scope s.heap.objs.size f cd) (.ref ea)) (λ _ s'=>∃h2,s' = {s1 with heap:=h2} /\ Heap.FlyingW B outer ea C a0 h2/\s1.heap.UpToSlots h2) (λ _ _=>False) s1:=by
  unfold leaving;refine g6 (wpAny_noteFrame_againW rfl hh.2.2.2 ?_);refine gk hh λ h' hfl up=>⟨h',rfl,?_,up⟩
  obtain⟨k1,k2,⟨_,_,k3⟩,k4⟩:=hfl;exact⟨k1,k2,k3,k4⟩
 refine k7 ((gJ _ _).any lv) (λ _ s' ⟨⟨h2,e0,fl2,up⟩,st⟩=>?_) (λ _ _ q=>q.1.elim);subst e0;have hcov:∀b o,s.heap.get? b=some o->b∉frs outer->∃o',B.get? b=some o':=λ b o e hb=>cov b o e (I.notStk e hb);exact⟨ea,C,H1,B,rfl,I.os,I.bare,I.base.flown (λ b o e hb _=>hcov b o e hb) hh.1 fl2.1 up I.frameData,⟨⟨_,fl2⟩,bas,hok,ctx.st st⟩,hcov,hE⟩
theorem Inv.flown0(I:Inv X a σ H s)(y:∀b o,B.get? b=some o->s.heap.get? b=some o)(j:HOk X.prog X.w H B)(t:∀b o,X.s₀.heap.get? b=some o->b∉frs X.stack->b∉X.ex->∃g,B.get? b=some g)
  (E:∀p∈X.pn++a,∃g,B.get? p.1=some g) (st:∀b o,B.get? b=some o->h'.get? b=some o) (h:s.heap.UpToSlots h'):Inv X a σ H {s with heap:=h',toks:=t'}:=by
 have f:∀c v,s.heap.IsCell c v->h'.IsCell c v:=λ c v ⟨o,K,C⟩=>by obtain⟨sl,q⟩:=h c o K (λ vs z=>by rw[C]at z;cases z);exact⟨_,q,C⟩
 refine⟨I.ok,I.os,I.bare,I.base.flown (λ b o e N J=>t b o e (I.notStk e N) J) y st h I.frameData,?_,λ x c e=>?_,I.free,I.freeC,λ p A=>?_,j.kept st,I.len⟩
 ·obtain⟨m,L,M⟩:=I.loc;refine⟨m,h.ns L,λ i x v Q P O=>?_⟩;obtain⟨u,r,l⟩:=M i x v Q P O;refine⟨u,r,?_⟩;rcases l with l | ⟨k,c,e,z⟩
  ·exact .inl l
  ·exact .inr ⟨k,c,e,f c _ z⟩
 ·obtain⟨v,z⟩:=I.cell x c e;exact⟨v,f c v z⟩
 ·obtain⟨e,n,ne,F,d⟩:=I.pin p A;obtain⟨g,q⟩:=E p A;have w:=y _ _ q;rw[e]at w;cases w;exact⟨st _ _ q,n,ne,F,d⟩
noncomputable def uF(K:EQ)(cv:ED)(C':EG)(E:St->XK)(tb:(St->ED->Hp->Prop)->TS):TS:=λ D σ H=>
 tb (λ σ' C H'=>∃b,PySem.W.exmOne K C cv=some b/\E σ' (if b then .ref C' else C) none H') D σ H
theorem uG
  (W:X.stack=X.env::X.outer) (a1:X.env.frame=some X.env.locals) (c7:X.ex=[]) (f0:Gl X c) (hm:X.mg c=some cv)
  (FB:ExcBaseFacts B newId a3 d2) (f1:Gl X x) (c6:X.mg x=some (.ref C')) (hx:PySem.W.excIn X.K C' d2 newId=true) (hR:bz X E)
  (Y:∀g E,PSs (X.tryIn g E) body (tb E)) (hd:(c==("__debug__" : Str))=false) (b4:(x==("__debug__" : Str))=false) :
  PS X (.Try body [.ExceptHandler (some (.Name c np)) none [.Raise (some (.Call (.Name x d8) [.Constant (.str c1) j2 mp] [] cpos)) (some (.Constant .none j cp)) c0] c2] [] [] pos) (uF X.K cv C' E tb):=by
 intro g s σ H D I h;refine wpAny_Try_except ?_;have un:∀{i:St} {l:Hp} {s1:EF} {E:St->ED->Hp->Prop},Inv (X.tryIn g E) [] i l s1->Inv X g i l s1:=λ {i l s1 E} J=>by have q:=J.untry;rw[v3]at q;exact q
 refine k7 (Y g _ [] s σ H D (Inv.tryIn (pins':=[]) (by rw[v3];exact I)) h) (λ f s1 q=>?_) (λ e s1 q=>?_)
 ·cases f with
  | next=>obtain⟨i,l,I1,q1⟩:=q;exact ai ⟨i,l,un I1,q1⟩
  | brk=>obtain⟨i,l,I1,q1⟩:=q;exact⟨i,l,un I1,q1⟩
  | cont=>obtain⟨i,l,I1,q1⟩:=q;exact⟨i,l,un I1,q1⟩
  | ret u=>obtain⟨v,i,l,I1,r1,q1⟩:=q;exact⟨v,i,l,un I1,r1,q1⟩
 ·obtain⟨O,C,i,l,B0,rfl,I1,F,a4,pc,b,hE,S⟩:=q;obtain⟨a0,fl⟩:=F.fly;have f6:Heap.FlyingW B0 (X.env::X.outer) O C a0 s1.heap:=by rw[←W];exact fl
  refine k7 ((dM _ _).any (fY (Q:=λ _ y=>∃h4,y = {s1 with heap:=h4} /\ Heap.HeldW B0 (X.env::X.outer) O C a0 X.env.locals h4/\s1.heap.UpToSlots h4) (E:=λ _ _=>False) (by rw[←W];exact I1.ok.frames) a1 f6 λ h4 a2 b0=>⟨h4,rfl,a2,b0⟩)) (λ _ y ⟨⟨h4,e4,a2,b0⟩,b9⟩=>?_) (λ _ _ q=>q.1.elim);subst e4;refine k7 ((av _ _).any (gk (Q:=λ _ y=>∃Z,y = {s1 with heap:=Z} /\ Heap.FlyingW B0 (X.env::X.outer) O C a0 Z/\h4.UpToSlots Z) (E:=λ _ _=>False) a2 λ Z r a9=>⟨Z,rfl,r,a9⟩)) (λ _ y ⟨⟨Z,e5,r,a9⟩,b8⟩=>?_) (λ _ _ q=>q.1.elim);subst e5;have up:=b0.trans a9;have I5:Inv X g i l {s1 with heap:=Z}:=I1.flown (t':=s1.toks) F a4 pc r.1 up;have J5:Inv (X.inExc O) g i l {s1 with heap:=Z}:=I5.inExc;obtain⟨oe,ws,e0,c4,g0,g1⟩:=r.first
  refine wpAny_handleBy_cons (kP ?_) (by intro q;cases q);refine Q6 J5 f0 hm ?_ hd;have LT:PySem.W.Looks (model X.prog X.w) Z (typeOf (.ref O)) C:=c4▸(PySem.W.Looks.ld e0).andThen .now;refine(PySem.W.exm_one (M:=model X.prog X.w) (K:=X.K) (h:=Z) J5.kIn LT hE).here ?_;cases b with
  | false=>
   show wpAny (model X.prog X.w) X.A (handleBy (.ref O) X.env []) _ _ _;refine wpAny_handleBy_nil ?_;have tr:=r.2.2.2;obtain⟨oe',vs',T',oT',ts',f2,f4,b4,f5,_⟩:=tr;unfold PySem.passOn;refine g6 (t4 f2 b4 f5 ?_);rw[i4 (show ¬((Value.ref T'==Value.none)=true) by simp),a1];refine g6 (k7 ((av _ _).any (gS (s:={s1 with heap:=Z}) (L:=X.env.locals) (Q:=λ _ y=>∃A,y = {s1 with heap:=A} /\ Heap.HeldW B0 (X.env::X.outer) O C a0 X.env.locals A/\Z.UpToSlots A) (E:=λ _ _=>False) r.1 r.2.1 r.2.2.1 r.2.2.2.at λ A b3 P=>⟨A,rfl,b3,P⟩)) (λ _ y ⟨⟨A,e9,k,P⟩,b1⟩=>?_) (λ _ _ q=>q.1.elim));subst e9;have I9:Inv X g i l {s1 with heap:=A}:=I1.flown (t':=s1.toks) F a4 pc k.1 (up.trans P);have d9:X.xe (.ref O) {s1 with heap:=A}:=hR g i l _ O C a0 B0 I9 (by rw[W];exact k) F.bas F.hok (F.ctx.st ((b9.trans b8).trans b1)) (λ b o e Y=>a4 b o e Y (by rw[c7];intro z;exact nomatch z)) S;exact λ Γ p hΓ=>by rw[gm];exact d9
  | true=>
  show codeAny _ _ _ _ _;refine codeAny_handlers_suite ?_;refine k7 ((av _ _).any (lands_againW (Q:=λ _ y=>∃U,y = {s1 with heap:=U} /\ Heap.FlyingW B0 (X.env::X.outer) O C a0 U/\Z.UpToSlots U) (E:=λ _ _=>False) r λ U b5 a8=>⟨U,rfl,b5,a8⟩)) (λ _ y ⟨⟨U,e6,b5,a8⟩,d6⟩=>?_) (λ _ _ q=>q.1.elim);subst e6;have I6:Inv X g i l {s1 with heap:=U}:=I1.flown (t':=s1.toks) F a4 pc b5.1 (up.trans a8);have J6:Inv (X.inExc O) g i l {s1 with heap:=U}:=I6.inExc;obtain⟨m,f3⟩:=F.ctx;have a6:Cx2 U m O:=f3.st ((b9.trans b8).trans d6);refine fR ?_;obtain⟨tl,N,nm,q,bs,c8,sn,d4,ab,f9,dd,k0,k1,k2,k3,k5,mN,hC,hN,e3,T⟩:=(mr I.mod.kin c6 hx).obj;refine uC (C:=C') (nm:=nm) (q:=q) (N:=N) (bs:=bs) (bm:=tl) (hdct:=c8) (sn:=sn) (sub:=d4) (ab:=ab) (col:=f9) (dd:=dd) (k0:=k0) (k1:=k1) (k2:=k2) (k3:=k3) (k5:=k5)
   FB (mN:=mN) (T.hasType FB.hasBase) rfl rfl e3 (Q6 J6 f1 c6 ⟨rfl,?_⟩ b4)
  refine aS ?_;show wpAny _ _ (spliced ((false,eval (.Constant (.str c1) j2 mp) X.env)::backTo cpos (starEach [] X.env))) _ _ _;refine cP (Calls.Constant_str (cR ?_));refine⟨rfl,by show 1<=sizeLine;decide,I6.bk _ _ hC,hN.keeps I6.bk,T.keeps I6.bk,⟨m,a6⟩,λ h3 e2 t c5 b2 R=>?_⟩;have I7:Inv X g i l {s1 with heap:=h3,toks:=s1.toks+1}:=I6.kept (t':=s1.toks+1) R;have J7:Inv (X.inExc O) g i l {s1 with heap:=h3,toks:=s1.toks+1}:=I7.inExc;have e7:U.get? e2=none:=c5
  let B:=PySem.W.hideAll U (frs X.stack)
  have d1:∀b o,B.get? b=some o->U.get? b=some o:=λ b o q=>cO _ q;have d0:B.get? e2=none:=by
   cases z:B.get? e2 with
   | none=>rfl
   | some o=>have:=d1 _ _ z;rw[e7]at this;cases this
  have f7:U.FunFrames B X.stack:=kz I6.stack (λ f8 he b Y=>N1.mpr ⟨f8,he,Y⟩)
  have ff:h3.FunFrames B X.stack:=f7.of_keeps λ b o Y _=>⟨o,R b o Y,rfl⟩;have c9:∀b u,l b≠none->U.get? b=some u->B.get? b=some u:=λ b u Y q=>P7 _ q λ z=>Y (I6.stkFree b z);have a5:HOk X.prog X.w l B:=λ a o q=>by
   refine(I6.hok a o q).stay (λ b u hc e=>c9 b u ?_ e) (λ _ z=>z) (λ _ _ z=>z) λ _ _ _ _ _ z=>z;rcases hc with z | z
   ·subst z;rw[q];intro z;cases z
   ·rw[z];intro z;cases z
  have d3:∀b o,X.base.get? b=some o->B.get? b=some o:=λ b o e=>by refine P7 _ (I6.bk b o e) λ z=>?_;have q:X.base.get? b=none:=(I6.stack.mem z).1;rw[q]at e;cases e
  have a7:∀b o,X.s₀.heap.get? b=some o->b∉frs X.stack->b∉X.ex->∃o',B.get? b=some o':=λ b o e Y hx=>by obtain⟨o1,e1⟩:=I6.base.there b o e hx;exact⟨o1,P7 _ e1 Y⟩
  have d7:∀p∈X.pn++g,∃o',B.get? p.1=some o':=λ p hp=>by obtain⟨e,n,ne,nf,d⟩:=I6.pin p hp;exact⟨_,P7 _ e λ z=>(i6.mp (I6.stkSub _ z)).elim ne nf⟩
  have b7:∀b o,B.get? b=some o->h3.get? b=some o:=λ b o q=>R b o (d1 b o q);have nt:wpAny (model X.prog X.w) (X.A.mark (some (.ref O))) (noteFrame (.ref e2) X.env) (λ _ y=>∃h8,y = {s1 with heap:=h8,toks:=s1.toks+1} /\ Heap.NotedW B (X.env::X.outer) e2 (.ref C') (.ref t) (rawInt X.env.locals) h3 h8) (λ _ _=>False) {s1 with heap:=h3,toks:=s1.toks+1}:=(by unfold noteFrame;simp only[a1];refine g6 (t4 (x:=.none) b2 rfl rfl ?_);rw[i4 (by decide)];exact wpAny_entryW (by rw[←W];exact J7.ok.frames) (by rw[←W];exact ff) a1 b2 b7 d0 rfl (show 1<6 by decide) rfl λ h8 hN=>⟨h8,rfl,hN⟩);show wpAny (model X.prog X.w) (X.A.mark (some (.ref O))) (noteFrame (.ref e2) X.env) _ _ _;refine k7 ((dM _ _).any nt) (λ _ y ⟨⟨h8,e8,n1,n2,n3,n4⟩,d5⟩=>?_) (λ _ _ q=>q.1.elim);subst e8;have w:Heap.HeldW B (X.env::X.outer) e2 (.ref C') (.ref t) X.env.locals h8:=⟨n1,d0,n2,n3⟩;show cameBackBy (model X.prog X.w) X.A X.env X.xe (.ref e2) {s1 with heap:=h8,toks:=s1.toks+1};unfold cameBackBy;rw[a1];refine k7 ((uE _ _).any (uD (Q:=λ _ y=>∃A,y = {s1 with heap:=A,toks:=s1.toks+1} /\ Heap.HeldW B (X.env::X.outer) e2 (.ref C') (.ref t) X.env.locals A/\h8.UpToSlots A) (E:=λ _ _=>False) w.1 w.2.1 w.2.2.1 w.2.2.2 λ A b3 P=>⟨A,rfl,b3,P⟩)) (λ _ y ⟨⟨A,e9,k,P⟩,b1⟩=>?_) (λ _ _ q=>q.1.elim);subst e9;have b6:h3.UpToSlots A:=Heap.UpToSlots.trans n4 P;have c3:Cx2 h3 (m+1) e2:=⟨_,b2,.inr ⟨O,rfl,a6.st (.of_keeps R)⟩⟩;exact hR g i l _ e2 (.ref C') (.ref t) B (I7.flown0 b7 a5 a7 d7 k.1 b6) (by rw[W];exact k) d3 a5 ⟨m+1,c3.st (d5.trans b1)⟩ (λ b o e Y=>a7 b o e Y (by rw[c7];intro z;exact nomatch z)) S
theorem uH(e:ED)(h:env.frame=env'.frame):noteFrame e env=noteFrame e env':=by
 unfold noteFrame PySem.frameOf;rw[h]
theorem my{h h' e:EH}(d:∀L,B.get? L=none->e.get? L=none):∀{l:ge Env},(∀L∈frs l,h'.get? L=h.get? L)->h.FunFrames B l->h'.FunFrames e l
 | [],_,_=>trivial
 | a::r,b,j=>by obtain⟨k,⟨L,o,c,i,g,n⟩,f⟩:=j;refine⟨k,⟨L,o,c,d L i,(b L (N1.mpr ⟨a,o8,c⟩)).trans g,n⟩,my d (λ t h'=>b t ?_) f⟩;obtain⟨p,m,q⟩:=N1.mp h';exact N1.mpr ⟨p,j6 _ m,q⟩
theorem uI(J:X.stack=X.env::X.outer)(a5:X.env.frame=some X.env.locals)(c2:X.ex=[])(hR:bz X E):aw X E:=by
 intro S N' a1 C h σ H i fp e s1 I f hC z;obtain⟨b6,σ',H',s,I',ea,Cl,H1,B,rfl,os,b2,un,F,b1,hE⟩:=z;have I1:=I'.call' os un (F.hok.kept F.stays) b2 λ b l=>nomatch l
 have IO:Inv X h σ H1 s1:=I.call' I1.os I1.base I1.hok I1.bare λ b l=>by obtain⟨_,f1,f2,f3,f4,f5⟩:=f b l;exact⟨f3,f1,f4,f5⟩
 obtain⟨mC,a3,_⟩:=I1.loc;have c1:s1.heap.Ns C mC:=a3;have U:∀(b:Nat) o,i.heap.get? b=some o->b≠C:=λ b o e z=>by have q:@LT.lt Nat _ b i.heap.objs.size:=i8 e;omega
 have Y:H1 C=none:=I1.free;have d0:C≠X.env.locals:=(by have q:@LT.lt Nat _ X.env.locals i.heap.objs.size:=I.lt;show @Ne Nat C X.env.locals;omega);have a8:X.s₀.heap.objs.size<=C:=(by have q:=I.sz;omega);have c9:∀x c,X.env.cells.lookup x=some c->c≠C:=λ x c e=>by obtain⟨v,z⟩:=I.cell x c e;have q:@LT.lt Nat _ c i.heap.objs.size:=z.lt;show @Ne Nat c C;omega
 have a9:∀p∈X.pn++h,p.1≠C:=λ p W=>U _ _ (I.pin p W).1;have c8:∀L∈frs X.stack,L≠C:=λ L hL=>by obtain⟨_,o,ho,_⟩:=I.stack.mem hL;exact U L o ho
 obtain⟨a0,fl⟩:=F.fly;have d3:Heap.FlyingW B (X.env::X.outer) ea Cl a0 s1.heap:=by rw[←J];exact fl
 show wpAny (model X.prog X.w) X.A _ _ _ s1;rw[uH (env:=compEnvC S a1 C X.env) (env':=X.env) _ rfl];refine k7 ((dM _ _).any (fY (Q:=λ _ s'=>∃w,s' = {s1 with heap:=w} /\ Heap.HeldW B (X.env::X.outer) ea Cl a0 X.env.locals w/\s1.heap.UpToSlots w) (E:=λ _ _=>False) (by rw[←J];exact I.ok.frames) a5 d3 λ w k A=>⟨w,rfl,k,A⟩)) (λ _ s' ⟨⟨w,e4,k,A⟩,b5⟩=>?_) (λ _ _ q=>q.1.elim);subst e4;have a4:w.Ns C mC:=A.ns c1;refine⟨mC,a4,λ h5 sb d4 hl hf=>?_⟩;have r:∀b o vs,w.get? b=some o->o.data=.fields vs->b≠C:=λ b o vs e d z=>by obtain⟨j,es,ep,e',d',_⟩:=a4;rw[z,e']at e;cases e;rw[d']at d;cases d
 let m:=PySem.W.hideAll B [C]
 have b0:∀b o,m.get? b=some o->B.get? b=some o:=λ b o q=>cO _ q;have K:∀b o,B.get? b=some o->b≠C->m.get? b=some o:=λ b o q l=>P7 _ q λ z=>l (q9.mp z);have d1:∀b o,m.get? b=some o->b≠C:=λ b o q z=>by have:m.get? C=none:=PySem.W.hideAll_none _ (q9.mpr rfl);rw[z,this]at q;cases q
 have Z:∀b,B.get? b=none->m.get? b=none:=λ b q=>by
  cases y:m.get? b with
  | none=>rfl
  | some o=>rw[b0 b o y]at q;cases q
 have g:Heap.HeldW m (X.env::X.outer) ea Cl a0 X.env.locals h5:=(by obtain⟨g1,g2,g3,oe,vs,T,oT,ts,he,a7,hd,h1,c0,c7,hT,a6,h3⟩:=k;refine⟨λ b o q=>(sb.2 b (d1 b o q)).trans (g1 b o (b0 b o q)),Z _ g2,my Z (λ L hL=>sb.2 L (c8 L (by rw[J];exact hL))) g3,oe,vs,T,oT,ts,(sb.2 _ (r _ _ _ he hd)).trans he,a7,hd,h1,Z _ c0,c7,(sb.2 _ (r _ _ _ hT a6)).trans hT,a6,h3⟩);have P:∀b o,X.s₀.heap.get? b=some o->b∉frs X.stack->b∉X.ex->∃j,B.get? b=some j:=λ b o e l hx=>by
  obtain⟨o1,e1⟩:=I.base.there b o e hx;have hf:b∉fp:=λ z=>by
   rcases(f b z).2.2.2.1 with q | q
   ·exact hx q
   ·exact absurd (i8 e) (Nat.not_lt.mpr q)
  obtain⟨o2,e2⟩:=I'.base.there b o1 e1 hf;exact b1 b o2 e2 l
 have a2:∀p∈X.pn++h,∃j,B.get? p.1=some j:=λ p W=>by
  obtain⟨e,n,ne,nf,d⟩:=I.pin p W;obtain⟨o2,e2⟩:=I'.base.there p.1 _ e (λ z=>(f _ z).2.2.2.2.2 p W rfl);exact b1 p.1 o2 e2 λ z=>(i6.mp (I.stkSub _ z)).elim ne nf
 have I4:Inv X h σ H1 {s1 with heap:=w}:=IO.flown0 (t':=s1.toks) F.stays F.hok P a2 k.1 A;have I5:Inv X h σ H1 {s1 with heap:=h5}:=Inv.turned (s:={s1 with heap:=w}) (h':=h5) (it:=C) (t':=s1.toks) I4 (λ b o l e=>(sb.2 b l).trans e) Y d0 (.inr a8) c9 a9;have M:HOk X.prog X.w H1 m:=λ a o q=>by
  refine(F.hok a o q).stay (λ b u hc e=>K b u e λ z=>?_) (λ _ z=>z) (λ _ _ z=>z) λ _ _ _ _ _ z=>z;rcases hc with y | y
  ·rw[←y,z,Y]at q;cases q
  ·rw[z,Y]at y;cases y
 have b8:∀b o,X.s₀.heap.get? b=some o->b≠C:=λ b o e z=>by have q:@LT.lt Nat _ b X.s₀.heap.objs.size:=i8 e;rw[z]at q;exact absurd q (Nat.not_lt.mpr a8)
 have O:∀b o,X.s₀.heap.get? b=some o->b∉frs X.stack->b∉X.ex->∃j,m.get? b=some j:=λ b o e l hx=>by obtain⟨j,q⟩:=P b o e l hx;exact⟨j,K b j q (b8 b o e)⟩
 have b7:∀p∈X.pn++h,∃j,m.get? p.1=some j:=λ p W=>by obtain⟨j,q⟩:=a2 p W;exact⟨j,K _ j q (a9 p W)⟩
 obtain⟨oe',vs',T',oT',ts',c3,c6,c5,d2,_⟩:=g.2.2.2;unfold PySem.passOn;refine g6 (t4 c3 c5 d2 ?_);rw[i4 (show ¬((Value.ref T'==Value.none)=true) by simp),hf,a5];refine g6 (k7 ((av _ _).any (gS (s:={s1 with heap:=h5}) (L:=X.env.locals) (Q:=λ _ s'=>∃N,s' = {s1 with heap:=N} /\ Heap.HeldW m (X.env::X.outer) ea Cl a0 X.env.locals N/\h5.UpToSlots N) (E:=λ _ _=>False) g.1 g.2.1 g.2.2.1 g.2.2.2 λ N c4 R=>⟨N,rfl,c4,R⟩)) (λ _ s' ⟨⟨N,e9,t,R⟩,b4⟩=>?_) (λ _ _ q=>q.1.elim));subst e9;have I9:Inv X h σ H1 {s1 with heap:=N}:=I5.flown0 (t':=s1.toks) g.1 M O b7 t.1 R;have b3:St2 w h5:=λ a o c e q=>by
  by_cases ha:a=C
  ·obtain⟨vs,d,_⟩:=F2.at q;exact absurd ha (r a o vs e d)
  ·exact⟨o,(sb.2 a ha).trans e,q⟩
 have b9:X.xe (.ref ea) {s1 with heap:=N}:=hR h σ H1 _ ea Cl a0 m I9 (by rw[J];exact t) (λ b o e=>K b o (F.bas b o e) (U b o (I.bk b o e))) M (F.ctx.st ((b5.trans b3).trans b4)) (λ b o e l=>O b o e l (by rw[c2];intro z;exact nomatch z)) hE;exact λ Γ p hΓ=>by rw[gm];exact b9
open PySem.W PySem.Calls PySem.Builtin PySem.Builtin.ObjectAttr PySem.Builtin.Getset_descriptor
def U4(x D:EG)(h:EH):Prop:=∃o,h.get? x=some o/\o.cls=.ref D
section
variable {prog:EL} {w:EK} {K:Frag} {x D:EG} {M:Model} {h:EH}
theorem U4.ty(p:U4 x D h):Looks M h (typeOf (.ref x)) (.ref D):=by
 obtain⟨o,e,c⟩:=p;exact c▸(Looks.ld e).andThen .now
theorem uJ(X:K.In h)(d:findIn K (.ref D) n=some (some a))(c:specialIn K a "__get__" = some (some g))(b:takesIn K a=some true):Looks M h (find (.ref x) (.ref D) n) (.bind g a):=by
 have T:Looks M h (dataDescriptor? (some a) (some g)) _:=(looks_takesIn X b).andThen .now;exact(looks_findIn X d).andThen ((looks_specialIn X c).andThen (T.andThen (Looks.tag .now)))
structure ClsK(K:Frag)(D:Addr):Prop where
 ga:findIn K (.ref D) "__getattribute__" = some (some (.builtin "BaseException.__getattribute__"))
 gt:findIn K (.ref D) "__getattr__" = some none
 mb:mroIn K D (.type "BaseException")=some true
 hd:hasDictIn K D=true
 fc:findIn K (.ref D) "__class__" = some (some (.builtin "object.__class__"))
 sg:specialIn K (.builtin "object.__class__") "__get__" = some (some (.builtin "getset_descriptor.__get__"))
 tk:takesIn K (.builtin "object.__class__")=some true
 mo:mroIn K D (.type "object")=some true
theorem uK(X:K.In s.heap)(p:U4 x D s.heap)(b:mroIn K D (.type "object")=some true)(q:R (.ok (.ret (.ref D))) s) :
  codeAny (model prog w) A (.call (.builtin "getset_descriptor.__get__") ⟨[.builtin "object.__class__",.ref x,a],[]⟩) R s:=by
 obtain⟨h0,g0,d0,t0,o0⟩:=s;have T0:=p.ty (M:=model prog w);have T1:=looks_mroIn (M:=model prog w) X b;refine fE KF.slot_gs.plain KF.entry_gs (KF.slot_gs.check _ _ _ _ _ _ _ _ KF.type_class (KF.args_gs _ _ _) ?_);unfold Builtin.«getset_descriptor.__get__»;unfold descrGet;rw[dga_obj];refine g6 (i0 ?_);unfold descrGetter;unfold descrCheckInstance;unfold descrNameAndClass;unfold isInstance;simp only[KF.owner_class]
 repeat lk
 refine⟨Code.quiet_builtin _ (by decide +kernel),Q2 KF.entry_class ?_⟩;unfold Builtin.«object.__class__»;unfold shownTypeOf
 repeat lk
 exact q
theorem uL(C:ClsK K D)(X:K.In s.heap)(p:U4 x D s.heap)(q:Q () s):wpAny (model prog w) A (checkBuiltinCall "BaseException.__getattribute__" ⟨[.ref x,nm],[]⟩) Q E s:=by
 obtain⟨h0,g0,d0,t0,o0⟩:=s;have b:builtinKind "BaseException.__getattribute__" = some .slot:=by decide +kernel
 have a:splitId "BaseException.__getattribute__" = some ("BaseException","__getattribute__"):=by decide +kernel
 have c:=looks_mroIn (M:=model prog w) X C.mb;have ha:=F.args_bexc_ga (.ref x) nm;simp[checkBuiltinCall,b,a];refine g6 (((p.ty).andThen c).at ?_)
 repeat (any_goals (first | assumption | wp_step))
theorem uM(C:ClsK K D)(X:K.In s.heap)(p:U4 x D s.heap)(q:Q (.done (.ret (.ref D))) s):wpAny (model prog w) A (Builtin.«object.__getattribute__» ⟨[.ref x,.str "__class__" tk],[]⟩) Q E s:=by
 obtain⟨h0,g0,d0,t0,o0⟩:=s;unfold Builtin.«object.__getattribute__»
 repeat (any_goals (first | assumption | with_reducible refine (p.ty).at ?_ | with_reducible refine (uJ X C.fc C.sg C.tk).at ?_ | wp_step))
 refine uK X p C.mo ?_
 repeat (any_goals (first | assumption | wp_step))
theorem uN(C:ClsK K D)(X:K.In s.heap)(p:U4 x D s.heap)(q:Q (some (.ref D)) {s with toks:=s.toks+1}):wpAny (model prog w) A (getAttr? (.ref x) "__class__") Q E s:=by
 obtain⟨h0,g0,d0,t0,o0⟩:=s;have f3:=F.attr_ValueError.ga.bind (.ref x);unfold getAttr?;unfold getAttrBy?;unfold getAttrBy;refine g6 (wpAny_mkText (g6 (K8 (x8 (g6 ((p.ty).at (g6 ((looks_findIn X C.ga).at ?_))))))));dsimp only;have ne:(onTheHeap (Value.ref D)&&Value.builtin "BaseException.__getattribute__" == Value.builtin "object.__getattribute__")=false:=(by rw[show(Value.builtin "BaseException.__getattribute__" == Value.builtin "object.__getattribute__")=false by decide +kernel,Bool.and_false]);rw[i4 (by grind)];unfold getAttrByItsOwn;unfold hookBefore;rw[i3 (show onTheHeap _=true from rfl)];refine g6 ((looks_findIn X C.gt).at ?_);refine g6 (K8 (x8 ?_));unfold callGetattribute;rw[i4 (by decide)]
 repeat (any_goals (first | assumption | wp_step))
 refine fE F.attr_ValueError.ga.plain F.entry_bexc_ga (uL C X p (uM C X p ?_));exact handed_on rfl (i0 q)
theorem uO(C:ClsK K D):KitX K (.ref x) (.ref D) (U4 x D) where
 ty:=λ _ _ _ p=>p.ty
 it:=λ M h X _=>by
  obtain⟨i,e,_⟩:=any_some C.hd;unfold clsIn at e;split at e
  ·rename_i a;intro A1 Q1 E1 s1 c b;unfold isType;unfold loadHead;exact g6 (wpAny_loadPart (c _ _ (X _ _ a)) (i0 b))
  ·cases e
 ne:=λ h tp dd d n sl X f=>by
  obtain⟨i,e,_⟩:=any_some C.hd;rw[Bool.eq_false_iff];intro z;have g:=Value.ref.inj (i1.mp z);subst g;unfold clsIn at e;split at e
  ·rename_i a;cases(X _ _ a).symm.trans f
  ·cases e
 ca:=λ X p k=>uN C X p k
theorem uP(C:ClsK K D)(X:K.In s.heap)(p:U4 x D s.heap)(e:kitOne K (.ref D) c=some b)(q:∀a,Q (.bool b) {s with toks:=a}):wpAny (model prog w) A (call (.builtin "isinstance") [.ref x,c]) Q E s:=
 kia_one (uO C) X p e nofun q
end
structure Src(P:Program)(w:World)(ia la:Addr)(vs:Array Value)(S:Nat->Heap->Prop):Prop where
 keep:∀k h h',S k h->(∀o,h.get? ia=some o->h'.get? ia=some o)->(∀o,h.get? la=some o->h'.get? la=some o)->S k h'
 there:∀k h,S k h->∃o xs,h.get? ia=some o/\o.data=.fields xs
 step:∀{A:Around} {E:Value->Shared->Prop} {s:Shared} {Q:Value->Shared->Prop} (k:Nat) (x:Value),S k s.heap->vs[k]? = some x->(∀h',S (k+1) h'->Heap.SameBut ia s.heap h'->Q x {s with heap:=h'}) ->
  wpAny (model P w) A (Builtin.SmallTypes.nextOf (.ref ia)) Q E s
 stop:∀{A:Around} {E:Value->Shared->Prop} {s:Shared} {Q:Value->Shared->Prop} (k:Nat),A.handled=none->S k s.heap->vs[k]? = none ->
  (∀h' e,Heap.ExtBut ia s.heap h'->(∃o,h'.get? e=some o/\o.cls=.type "StopIteration")->E (.ref e) {s with heap:=h'})->wpAny (model P w) A (Builtin.SmallTypes.nextOf (.ref ia)) Q E s
noncomputable def sL(ia la:EG)(vs:EJ ED):Nat->EH->Prop:=λ k h=>h.IsListIter ia la k/\h.IsList la vs
noncomputable def sTz(ia la:EG)(vs:EJ ED):Nat->EH->Prop:=λ k h=>h.IsTupleIter ia la k/\h.IsTuple la vs
theorem uQ(ne:a≠b):Src P w b a vs (sL b a vs) where
 keep:=λ k h i ⟨p,q⟩ n m=>⟨p.at n,q.at m⟩
 there:=λ k h ⟨p,q⟩=>by obtain⟨o,e,_,d⟩:=p;exact⟨o,_,e,d⟩
 step:=λ k x ⟨p,q⟩ c f=>wpAny_nextOf_list_item p q c λ i j g=>f i ⟨j,q.extBut g.extBut ne⟩ g
 stop:=λ k l ⟨p,q⟩ c f=>wpAny_nextOf_list_end l p q c f
theorem uR(p:s.heap.IsTupleIter b a k)(q:s.heap.IsTuple a vs)(f:vs[k]? = some x)(g:∀e,e.IsTupleIter b a (k+1)->Heap.SameBut b s.heap e->Q x {s with heap:=e}) :
  wpAny (model P w) A (Builtin.SmallTypes.nextOf (.ref b)) Q E s:=by
 obtain⟨ob,d,j,c⟩:=id p;obtain⟨ot,i,_,nn,h⟩:=q;unfold Builtin.SmallTypes.nextOf;refine g6 (K5 p.typeIs cG (F6 cG p.typeIs jR ?_ (jQ _)));show wpAny _ _ (field (.ref b) 0 >>= _) _ _ s;refine g6 (t4 d c (x:=.ref a) rfl ?_);show wpAny _ _ _ _ _ s;rw[i4 (show ¬((Value.ref a==Value.none)=true)from B6)];show wpAny _ _ (field (.ref b) 1 >>= _) _ _ s;refine g6 (t4 d c (x:=.int k 0) rfl ?_);show wpAny _ _ (seqItems? (.ref a) >>= _) _ _ s;refine g6 (N3 i h ?_);simp only[P9,f];refine g6 (J1 d c (by simp) (i0 ⟨x,rfl,i0 (g _ ?_ (N0 ..))⟩));exact⟨_,K6 _ d (aP (T4 c _)),(fM ..).trans j,by rw[T4 c];simp[rawInt]⟩
theorem uS(g:A.handled=none)(p:s.heap.IsTupleIter b a k)(q:s.heap.IsTuple a vs)(h:vs[k]? = none)(i:∀c e,Heap.ExtBut b s.heap c->(∃o,c.get? e=some o/\o.cls=.type "StopIteration")->E (.ref e) {s with heap:=c}) :
  wpAny (model P w) A (Builtin.SmallTypes.nextOf (.ref b)) Q E s:=by
 obtain⟨ob,f,e2,d⟩:=id p;obtain⟨ot,l,_,nn,j⟩:=q;unfold Builtin.SmallTypes.nextOf;refine g6 (K5 p.typeIs cG (F6 cG p.typeIs jR ?_ (jQ _)));show wpAny _ _ (field _ 0 >>= _) _ _ s;refine g6 (t4 f d (x:=.ref a) rfl ?_);show wpAny _ _ _ _ _ s;rw[i4 (show ¬((Value.ref a==Value.none)=true)from B6)];show wpAny _ _ _ _ _ s;refine g6 (t4 f d rfl ?_);show wpAny _ _ _ _ _ s;refine g6 (N3 l j ?_);simp only[P9,h];refine g6 (Q4 (g6 (J1 f d (by simp) ?_)));show wpAny _ _ _ _ _ _;refine g6 ?_;simp only[newExc,newTuple];refine g6 (I0 ?_ (by size_fits));refine g6 (bc (by first | rfl | (simp only[firstArgMember];rfl)) ?_);refine I0 ?_ (by size_fits);refine g6 (dg ?_)
 first | rw[show A.in1.handled=none from g] | rw[g]
 refine g6 (i0 (wpAny_throw (i _ _ (((N0 ..).extBut.push _).push _) ⟨_,k6 _ rfl,rfl⟩)))
theorem uT(ne:a≠b):Src P w b a vs (sTz b a vs) where
 keep:=λ k h i ⟨p,q⟩ n m=>⟨by obtain⟨o,e,r⟩:=p;exact⟨o,n o e,r⟩,by obtain⟨o,e,r⟩:=q;exact⟨o,m o e,r⟩⟩
 there:=λ k h ⟨p,q⟩=>by obtain⟨o,e,_,d⟩:=p;exact⟨o,_,e,d⟩
 step:=λ k x ⟨p,q⟩ c f=>uR p q c λ i j g=>f i ⟨j,q.extBut g.extBut ne⟩ g
 stop:=λ k l ⟨p,q⟩ c f=>uS l p q c f
theorem Src.ext{P:EL}{w:EK}{k:Nat}{ia la:EG}{vs:EJ ED}{S:Nat->EH->Prop}{h h':EH}{e:EG}(R:Src P w ia la vs S)(q:S k h)(hs:Heap.ExtBut e h h')(n1:ia≠e)(n2:la≠e):S k h':=R.keep k h h' q (λ o z=>hs _ _ n1 z) (λ o z=>hs _ _ n2 z)
theorem uU{S1:Nat->EH->Prop}{Q:ED->EF->Prop}(D:ZipApart Z U W a b l1 l2)(i:Src P w a l1 vs1 S1)(R2:Src P w b l2 vs2 S2)(u:IsZip s.heap Z U W .none)(hU:IsPair s.heap U (.ref a) (.ref b))(hW:IsPair s.heap W c d)(h1:S1 k s.heap)(h2:S2 k s.heap)(hx:vs1[k]? = some x)(hy:vs2[k]? = some y)
  (hQ:∀g,IsZip g Z U W (rawInt s.heap.objs.size)->IsPair g W x y->S1 (k+1) g->S2 (k+1) g->IsPair g s.heap.objs.size x y->g.objs.size=s.heap.objs.size+1->(∀e o,e≠Z->e≠W->e≠a->e≠b->s.heap.get? e=some o->g.get? e=some o)->Q (.ref s.heap.objs.size) {s with heap:=g}) :
  wpAny (model P w) A (Builtin.«zip.__next__» ⟨[.ref Z],[]⟩) (λ S s'=>∃v,S=.done (.ret v)/\Q v s') E s:=by
 show wpAny _ _ (field (.ref Z) 2 >>= _) _ _ _;refine g6 (t4 u rfl rfl ?_);show wpAny _ _ _ _ _ _;refine g6 (t4 u rfl rfl (g6 (N3 hU rfl ?_)));show wpAny _ _ _ _ _ _;refine g6 ?_;unfold Builtin.SmallTypes.ownedTupleIsFree;refine g6 (t4 u rfl rfl (i0 ?_));simp only[if_true];refine g6 (Q4 (g6 (t4 u rfl rfl ?_)));refine g6 (K7 u (by simp) λ g1 K r=>?_)
 replace K:IsZip g1 Z U W .ellipsis:=K
 refine g6 ?_;simp only[List.zipIdx_cons,List.zipIdx_nil,fW,List.forIn_nil];refine g6 (g6 (dh ?_));show wpAny _ _ _ _ _ _;refine g6 (i.step k x (i.ext h1 r.extBut D.i1z D.l1z) hx λ g2 r2 q=>i0 ?_);have w2:=q.extBut _ _ D.TOi1 (r.extBut _ _ D.TOz hW);refine g6 (N3 w2 rfl (g6 (fF w2 λ g3 L p=>?_)))
 replace L:IsPair g3 W x d:=L
 refine g6 (dq (i0 ?_));refine g6 (g6 (dh ?_));show wpAny _ _ _ _ _ _;refine g6 (R2.step k y (R2.ext (R2.ext (R2.ext h2 r.extBut D.i2z D.l2z) q.extBut D.i12.symm D.l2i1) p.extBut D.TOi2.symm D.l2TO) hy λ g4 r4 m=>i0 ?_);have Y:=m.extBut _ _ D.TOi2 L;refine g6 (N3 Y rfl (g6 (fF Y λ f F l=>?_)))
 replace F:IsPair f W x y:=F
 refine g6 (dq (i0 (i0 (g6 (N3 F rfl (g6 (wpAny_newTuple ?_)))))));have sz:f.objs.size=s.heap.objs.size:=by rw[l.1,m.1,p.1,q.1,r.1]
 have X:=l.extBut _ _ D.TOz.symm (m.extBut _ _ D.i2z.symm (p.extBut _ _ D.TOz.symm (q.extBut _ _ D.i1z.symm K)));have j:=i8 X;show wpAny _ _ _ _ _ _;refine g6 ?_;unfold Builtin.SmallTypes.ownedTupleHandOut;refine g6 (K7 (i5 _ X) (by simp) λ g7 J N=>?_)
 replace J:IsZip g7 Z U W _:=J
 refine K7 J (by simp) λ B C M=>?_
 replace C:IsZip B Z U W _:=C
 have h:∀e o,e≠Z->f.get? e=some o->B.get? e=some o:=λ e o n z=>M.extBut _ _ n (N.extBut _ _ n (i5 _ z));have T8:=M.extBut _ _ (N5 j) (N.extBut _ _ (N5 j) (k6 _ rfl));have s8:B.objs.size=f.objs.size+1:=by rw[M.1,N.1,A0]
 rw[sz]at C T8 s8;refine i0 ⟨_,rfl,?_⟩;show Q _ _;rw[sz];exact hQ B C (h _ _ D.TOz F) (i.keep _ _ _ (i.ext (i.ext (i.ext r2 p.extBut D.TOi1.symm D.l1TO) m.extBut D.i12 D.l1i2) l.extBut D.TOi1.symm D.l1TO) (λ o z=>h _ o D.i1z z) (λ o z=>h _ o D.l1z z)) (R2.keep _ _ _ (R2.ext r4 l.extBut D.TOi2.symm D.l2TO) (λ o z=>h _ o D.i2z z) (λ o z=>h _ o D.l2z z)) T8 s8 λ e o I H R O z=>h e o I ((λ e o I H R O z=>l.extBut _ _ H (m.extBut _ _ O (p.extBut _ _ H (q.extBut _ _ R (r.extBut _ _ I z))))) e o I H R O z)
theorem uV{P:EL}{w:EK}{A:EM}{s:EF}{k:Nat}{S1 S2:Nat->EH->Prop}{c d:ED}(Y:A.handled=none)(D:ZipApart Z U W a b X S)(y:Src P w a X i S1)(R2:Src P w b S g S2)(r:IsZip s.heap Z U W .none)(hU:IsPair s.heap U (.ref a) (.ref b))(hW:IsPair s.heap W c d)(h1:S1 k s.heap)(h2:S2 k s.heap)(u:i[k]? = none\/g[k]? = none)
  (hE:∀I e,(∀f o,f≠Z->f≠W->f≠a->f≠b->s.heap.get? f=some o->I.get? f=some o)->(∃o,I.get? e=some o/\o.cls=.type "StopIteration")->E (.ref e) {s with heap:=I}) :
  wpAny (model P w) A (Builtin.«zip.__next__» ⟨[.ref Z],[]⟩) Q E s:=by
 show wpAny _ _ (field (.ref Z) 2 >>= _) _ _ _;refine g6 (t4 r rfl (x:=.bool false) rfl ?_);show wpAny _ _ (field (.ref Z) 3 >>= _) _ _ _;refine g6 (t4 r rfl (x:=.ref U) rfl (g6 (N3 hU rfl ?_)));show wpAny _ _ (Builtin.SmallTypes.ownedTupleIsFree (.ref Z) >>= _) _ _ _;refine g6 ?_;unfold Builtin.SmallTypes.ownedTupleIsFree;refine g6 (t4 r rfl (x:=.none) rfl (i0 ?_));simp only[if_true];refine g6 (Q4 (g6 (t4 r rfl (x:=.ref W) rfl ?_)));refine g6 (K7 r (by simp) λ g1 v n=>?_)
 replace v:IsZip g1 Z U W .ellipsis:=v
 refine g6 ?_;simp only[List.zipIdx_cons,List.zipIdx_nil,fW,List.forIn_nil];refine g6 (g6 (dh ?_));show wpAny _ _ (Builtin.SmallTypes.nextOf (.ref a) >>= _) _ _ _;cases F:i[k]? with
 | none=>
  refine g6 (y.stop k Y (y.ext h1 n.extBut D.i1z D.l1z) F λ J e j H=>?_);obtain⟨B,l,p⟩:=H;have M:IsZip J Z U W .ellipsis:=j _ _ D.i1z.symm v;have K:e≠Z:=λ z=>by subst z;rw[M]at l;cases l;simp at p
  exact K7 M (by simp) λ g3 _ m=>hE g3 e (λ f o q _ C _ z=>m.extBut _ _ q (j _ _ C (n.extBut _ _ q z))) ⟨B,m.extBut _ _ K l,p⟩
 | some x=>
  have hy:g[k]? = none:=by rcases u with h | h;rw[F]at h;cases h;exact h
  refine g6 (y.step k x (y.ext h1 n.extBut D.i1z D.l1z) F λ J r2 j=>i0 ?_);have N:IsPair J W c d:=j.extBut _ _ D.TOi1 (n.extBut _ _ D.TOz hW);refine g6 (N3 N rfl (g6 (fF N λ g3 w3 m=>?_)));refine g6 (dq (i0 ?_));refine g6 (g6 (dh ?_));show wpAny _ _ (Builtin.SmallTypes.nextOf (.ref b) >>= _) _ _ _;refine g6 (R2.stop k Y (R2.ext (R2.ext (R2.ext h2 n.extBut D.i2z D.l2z) j.extBut D.i12.symm D.l2i1) m.extBut D.TOi2.symm D.l2TO) hy λ g4 e R H=>?_);obtain⟨B,l,p⟩:=H;have L:IsZip g4 Z U W .ellipsis:=R _ _ D.i2z.symm (m.extBut _ _ D.TOz.symm (j.extBut _ _ D.i1z.symm v));have K:e≠Z:=λ z=>by subst z;rw[L]at l;cases l;simp at p
  exact K7 L (by simp) λ g5 _ O=>hE g5 e (λ f o q n2 C n4 z=>O.extBut _ _ q (R _ _ n4 (m.extBut _ _ n2 (j.extBut _ _ C (n.extBut _ _ q z))))) ⟨B,O.extBut _ _ K l,p⟩
theorem uW{S1:Nat->EH->Prop}(D:ZipApart Z U W a b l1 l2)(H:Src P w a l1 vs1 S1)(R2:Src P w b l2 vs2 S2)(g:IsZip s.heap Z U W .none)(l:IsPair s.heap U (.ref a) (.ref b))(j:IsPair s.heap W c d)(p:S1 k s.heap)(n:S2 k s.heap)(i:vs1[k]? = some x)(h:vs2[k]? = some y)
  (m:∀f,IsZip f Z U W (rawInt s.heap.objs.size)->IsPair f W x y->S1 (k+1) f->S2 (k+1) f->IsPair f s.heap.objs.size x y->f.objs.size=s.heap.objs.size+1->(∀e o,e≠Z->e≠W->e≠a->e≠b->s.heap.get? e=some o->f.get? e=some o)->Q (some (.ref s.heap.objs.size)) {s with heap:=f}) :
  wpAny (model P w) A (pyNext (.ref Z)) Q E s:=by
 have T:s.TypeIs (.ref Z) "zip":=⟨_,g,rfl⟩;unfold pyNext;exact g6 (K8 (K5 T cY (F6 cY T F.entry_zip_next (uU D H R2 g l j p n i h λ f C B z v u r q=>i0 (m f C B z v u r q)) (F.args_zip_next_1 _))))
theorem uX{S1:Nat->EH->Prop}(n:A.handled=none)(D:ZipApart Z U W a b l1 l2)(y:Src P w a l1 vs1 S1)(R2:Src P w b l2 vs2 S2)(i:IsZip s.heap Z U W .none)(r:IsPair s.heap U (.ref a) (.ref b))(q:IsPair s.heap W c d)(x:S1 k s.heap)(v:S2 k s.heap)(g:vs1[k]? = none\/vs2[k]? = none)
  (u:∀h,(∀f o,f≠Z->f≠W->f≠a->f≠b->s.heap.get? f=some o->h.get? f=some o)->Q none {s with heap:=h}):wpAny (model P w) A (pyNext (.ref Z)) Q E s:=by
 have T:s.TypeIs (.ref Z) "zip":=⟨_,i,rfl⟩;unfold pyNext;refine g6 (K8 (K5 T cY (F6 cY T F.entry_zip_next (uV n D y R2 i r q x v g λ h e m p=>?_) (F.args_zip_next_1 _))));obtain⟨o,l,j⟩:=p;exact g6 (aY ⟨o,l,j⟩ cZ (i0 (u _ m)))
def SqK(t:Bool)(h:EH)(l:EG)(vs:EJ ED):Prop:=match t with | false=>h.IsList l vs | true=>h.IsTuple l vs
def sK(t:Bool)(ia la:EG)(vs:EJ ED):Nat->EH->Prop:=match t with | false=>sL ia la vs | true=>sTz ia la vs
theorem ax(t:Bool)(ne:a≠b):Src P w b a vs (sK t b a vs):=by
 cases t
 ·exact uQ ne
 ·exact uT ne
noncomputable def itN:Bool->EU | false=>"list_iterator" | true=>"tuple_iterator"
abbrev itO(t:Bool)(l:EG):Obj:={cls:=.type (itN t),data:=.fields #[.ref l,.int 0 0]}
abbrev zH1(h:EH)(t1:Bool)(l1:EG):EH:=h.push (itO t1 l1)
abbrev zH2(h:EH)(t1 t2:Bool)(l1 l2:EG):EH:=(zH1 h t1 l1).push (itO t2 l2)
abbrev zH3(h:EH)(t1 t2:Bool)(l1 l2:EG):EH:=(zH2 h t1 t2 l1 l2).push {cls:=.type "tuple",data:=.seq #[.ref h.objs.size,.ref (zH1 h t1 l1).objs.size]}
abbrev zH4(h:EH)(t1 t2:Bool)(l1 l2:EG):EH:=(zH3 h t1 t2 l1 l2).push {cls:=.type "tuple",data:=.seq #[.none,.none]}
abbrev zH5(h:EH)(t1 t2:Bool)(l1 l2:EG):EH:=(zH4 h t1 t2 l1 l2).push {cls:=.type "zip",data:=.fields #[.none,.bool false,.bool false,.ref (zH2 h t1 t2 l1 l2).objs.size,.ref (zH3 h t1 t2 l1 l2).objs.size]}
theorem uY(t1 t2:Bool)(l1 l2:EG)(vs1 vs2:EJ ED):Meets (Builtin.«zip.__new__» ⟨[.type "zip",.ref l1,.ref l2],[]⟩) (λ _ R s=>SqK t1 s.heap l1 vs1/\SqK t2 s.heap l2 vs2/\R (.ok (.ret (.ref (zH4 s.heap t1 t2 l1 l2).objs.size))) {s with heap:=zH5 s.heap t1 t2 l1 l2}):=
 .of_wp λ P w A R s h=>by
  obtain⟨h0,g0,d0,k0,o0⟩:=s;obtain⟨q1,q2,h⟩:=h;have hsub:=sub_zip;cases t1<;>cases t2
  ·have e1:Heap.IsList (Shared.heap ⟨h0,g0,d0,k0,o0⟩) l1 vs1:=q1;have e2:Heap.IsList (Shared.heap ⟨h0.push {cls:=.type "list_iterator",data:=.fields #[.ref l1,.int 0 0]},g0,d0,k0,o0⟩) l2 vs2:=Heap.IsList.push q2 _
   wp_walk using P8 e1,P8 e2
   exact⟨_,rfl,h⟩
  ·have e1:Heap.IsList (Shared.heap ⟨h0,g0,d0,k0,o0⟩) l1 vs1:=q1;have e2:Heap.IsTuple (Shared.heap ⟨h0.push {cls:=.type "list_iterator",data:=.fields #[.ref l1,.int 0 0]},g0,d0,k0,o0⟩) l2 vs2:=Heap.IsTuple.push q2 _
   wp_walk using P8 e1,S8 e2
   exact⟨_,rfl,h⟩
  ·have e1:Heap.IsTuple (Shared.heap ⟨h0,g0,d0,k0,o0⟩) l1 vs1:=q1;have e2:Heap.IsList (Shared.heap ⟨h0.push {cls:=.type "tuple_iterator",data:=.fields #[.ref l1,.int 0 0]},g0,d0,k0,o0⟩) l2 vs2:=Heap.IsList.push q2 _
   wp_walk using S8 e1,P8 e2
   exact⟨_,rfl,h⟩
  ·have e1:Heap.IsTuple (Shared.heap ⟨h0,g0,d0,k0,o0⟩) l1 vs1:=q1;have e2:Heap.IsTuple (Shared.heap ⟨h0.push {cls:=.type "tuple_iterator",data:=.fields #[.ref l1,.int 0 0]},g0,d0,k0,o0⟩) l2 vs2:=Heap.IsTuple.push q2 _
   wp_walk using S8 e1,S8 e2
   exact⟨_,rfl,h⟩
theorem gU{t:Bool}{ia la:EG}{vs:EJ ED}{h h':EH}(e:h'.get? ia=some (itO t la))(q:SqK t h la vs)(k:∀c o,h.get? c=some o->h'.get? c=some o):sK t ia la vs 0 h':=by
 cases t
 ·exact⟨⟨_,e,rfl,rfl⟩,Heap.IsList.at q λ o z=>k _ o z⟩
 ·exact⟨⟨_,e,rfl,rfl⟩,by obtain⟨o,z,r⟩:=q;exact⟨o,k _ o z,r⟩⟩
theorem uZ(b e:Bool)(u:SqK b s.heap a i)(r:SqK e s.heap d g)
  (h:∀f,IsZip f (s.heap.objs.size+4) (s.heap.objs.size+2) (s.heap.objs.size+3) .none->IsPair f (s.heap.objs.size+2) (.ref s.heap.objs.size) (.ref (s.heap.objs.size+1))->IsPair f (s.heap.objs.size+3) .none .none->sK b s.heap.objs.size a i 0 f->sK e (s.heap.objs.size+1) d g 0 f->f.objs.size=s.heap.objs.size+5 ->
   (∀c o,s.heap.get? c=some o->f.get? c=some o)->Q (.ref (s.heap.objs.size+4)) {s with heap:=f}):wpAny (model P w) A (call (.type "zip") [.ref a,.ref d]) Q E s:=by
 refine callType_new F.called_zip (by decide) (F.typeCall_zip_2 _ _) (F.newCall_zip_2 _ _) (λ j=>F.args_object_init_3 j _ _) F.entry_zip_new (uY b e a d i g) ⟨u,r,?_⟩;have n:(zH1 s.heap b a).objs.size=s.heap.objs.size+1:=A0 ..;have m:(zH2 s.heap b e a d).objs.size=s.heap.objs.size+2:=by rw[A0,n]
 have l:(zH3 s.heap b e a d).objs.size=s.heap.objs.size+3:=by rw[A0,m]
 have k:(zH4 s.heap b e a d).objs.size=s.heap.objs.size+4:=by rw[A0,l]
 have q:(zH5 s.heap b e a d).get? (zH4 s.heap b e a d).objs.size=some _:=k6 _ rfl;have v:(zH5 s.heap b e a d).get? (zH3 s.heap b e a d).objs.size=some _:=i5 _ (k6 _ rfl);have x:(zH5 s.heap b e a d).get? (zH2 s.heap b e a d).objs.size=some _:=i5 _ (i5 _ (k6 _ rfl));have y:(zH5 s.heap b e a d).get? (zH1 s.heap b a).objs.size=some _:=i5 _ (i5 _ (i5 _ (k6 _ rfl)));have p:∀c o,s.heap.get? c=some o->(zH5 s.heap b e a d).get? c=some o:=λ c o z=>i5 _ (i5 _ (i5 _ (i5 _ (i5 _ z))));show _/\_;rw[m,l,k]at q;rw[n,m]at x;rw[l]at v;rw[n]at y;rw[k];exact⟨⟨_,q,rfl⟩,h _ q x v (gU (i5 _ (i5 _ (i5 _ (i5 _ (k6 _ rfl))))) u p) (gU y r p) (by rw[A0,k]) p⟩
end L2
end
noncomputable section
namespace PySem.SeqAt
open AutoSeq1 (wpAny_loadPart')
open MeetsSeq MeetsSeq2 MeetsSeq3 SeqRoads2
theorem vc(f:Nat->β->Sem (ForInStep β))(I:ge Nat->β->EF->Prop)(Q:β->EF->Prop)
   (turn:∀x rest b s,I (x::rest) b s->wpAny M A (f x b) (λ r c=>match r with | .yield b'=>I rest b' c | .done b'=>Q b' c) E s)
  (fin:∀b s,I [] b s->Q b s) (h:I (List.range' 0 n 1) b s):wpAny M A (forIn [:n] b f) Q E s:=by
 rw[Std.Legacy.Range.forIn_eq_forIn_range'];have a:([:n]:Std.Legacy.Range).size=n:=by simp[Std.Legacy.Range.size]
 show wpAny M A _ Q E s;rw[a];exact wpAny_forIn_list f I Q turn fin _ b h
theorem vd(l:EG)(items:EJ ED)(n:Nat)(dd:EC EG)(v:EJ (EC ED))(x:ED)(e:ED->Bool)(j:Nat)(hj:j<items.size)
  (p:e items[j]=true) (o:∀m (f:m<items.size),m<j->e items[m]=false) :
  Meets (Builtin.«tuple.index» ⟨[.ref l,x],[]⟩)
   (λ A R s=>s.heap.get? l=some {cls:=.type "tuple",dict:=dd,data:=.seq items n,slots:=v} /\ (∀y,y∈items->EqAt A.in1 s y x (e y))/\R (.ok (.ret (.int j s.toks))) {s with toks:=s.toks+1}):=
 .of_wp λ c w A R s h=>by
  obtain⟨B,g,d,u,z⟩:=s;obtain⟨C,E,h⟩:=h
  wp_walk using aQ C,vc _ (λ rest b k=>b.1=none/\k=⟨B,g,d,u,z⟩/\∃i,i<=j/\rest=List.range' i (items.size - i) 1) _
  case turn=>
   rintro i rest b k ⟨hb,rfl,r,hi',hr⟩
   obtain⟨m,f⟩:∃m,items.size - r=m+1:=⟨items.size - r - 1,by omega⟩;rw[f,List.range'_succ]at hr;obtain⟨rfl,rfl⟩:=di hr;have a:i<items.size:=by omega
   rw[show items[i]? = some items[i] by simp[a]];refine g6 (E _ (Array.getElem_mem a) c w _ _ ?_);by_cases q:i=j
   ·subst q;rw[p]
    wp_walk
    exact⟨_,rfl,h⟩
   ·rw[o i a (by omega)]
    wp_walk
    exact⟨rfl,rfl,i+1,by omega,by congr 1;omega⟩
  case fin=>
   rintro⟨b1,b2⟩ k ⟨hb,rfl,i,hi,hr⟩
   obtain⟨m,f⟩:∃m,items.size - i=m+1:=⟨items.size - i - 1,by omega⟩;rw[f,List.range'_succ]at hr;cases hr
  case h=>
   exact⟨rfl,rfl,0,E2 _,by simp⟩
theorem mz:∀(a:ge PyData) (b:ge ED) (c:ge EG),PyData.canLayAll0 a=true->ReadsAll h b a c->b.length=a.length/\∀m (i:m<b.length) (g:m<a.length),PyData.eqv (readOf h b[m]) d=PyData.eqv a[m] d:=by
 intro a b c f r;have e:=readsAll_map a b c f r;refine⟨(by rw[←e,n8]),λ m i g=>?_⟩
 congr 1
 subst e;rw[List.getElem_map]
theorem index_list_reads{prog:EL}{w:EK}{A:EM}{E:ED->EF->Prop}{s:EF}{c x:ED}{xs:ge PyData}{d:PyData}{as bs:ge EG}{Q:ED->EF->Prop}{j:Nat}(rc:Reads s.heap c (.list xs) as)(rx:Reads s.heap x d bs)(hxs:PyData.canLayAll0 xs=true)(hd:d.canLay0=true)
  (hu:A.units+1+min (PyData.depthAll xs) d.depth<cLine) (hj:j<xs.length) (hj63:(j:Int)<2^63 - 1) (hit:PyData.eqv xs[j] d=true) (hno:∀m (hm:m<xs.length),m<j->PyData.eqv xs[m] d=false) (h:Q (.int j s.toks) {s with toks:=s.toks+1}):wpAny (model prog w) A (call (.builtin "list.index") [c,x]) Q E s:=by
 cases rc with
 | list h1 h2 h3 h4=>
  rename_i l o vs n as';obtain⟨cls,dd,data,sl⟩:=o;simp only at h2 h3;subst h2 h3;obtain⟨hl,ha⟩:=mz (d:=d) xs vs.toList _ hxs h4;have hl':vs.size=xs.length:=by rw[←hl];simp
  refine PySem.call_meets ka ⟨_,h1,rfl⟩ PySem.F.entry_list_index (PySem.F.args_list_index_2 _ _)
   (list_indexAt l vs _ dd sl x (λ y=>PyData.eqv (readOf s.heap y) d) j (by omega) hj63 ?_ ?_) ⟨h1,items_eqAt h4 rx hxs hd hu,h⟩
  ·rw[←hit];exact ha j (by simpa using(by omega:j<vs.size)) hj
  ·intro m hm hlt;rw[←hno m (by omega) hlt];exact ha m (by simpa using hm) (by omega)
theorem index_tuple_reads{prog:EL}{w:EK}{A:EM}{E:ED->EF->Prop}{s:EF}{c x:ED}{xs:ge PyData}{d:PyData}{as bs:ge EG}{Q:ED->EF->Prop}{j:Nat}(rc:Reads s.heap c (.tuple xs) as)(rx:Reads s.heap x d bs)(hxs:PyData.canLayAll0 xs=true)(hd:d.canLay0=true)
  (hu:A.units+1+min (PyData.depthAll xs) d.depth<cLine) (hj:j<xs.length) (hit:PyData.eqv xs[j] d=true) (hno:∀m (hm:m<xs.length),m<j->PyData.eqv xs[m] d=false) (h:Q (.int j s.toks) {s with toks:=s.toks+1}):wpAny (model prog w) A (call (.builtin "tuple.index") [c,x]) Q E s:=by
 cases rc with
 | tuple h1 h2 h3 h4=>
  rename_i l o vs n;obtain⟨cls,dd,data,sl⟩:=o;simp only at h2 h3;subst h2 h3;obtain⟨hl,ha⟩:=mz (d:=d) xs vs.toList _ hxs h4;have hl':vs.size=xs.length:=by rw[←hl];simp
  refine PySem.call_meets jY ⟨_,h1,rfl⟩ PySem.F.entry_tuple_index (PySem.F.args_tuple_index_2 _ _)
   (vd l vs _ dd sl x (λ y=>PyData.eqv (readOf s.heap y) d) j (by omega) ?_ ?_) ⟨h1,items_eqAt h4 rx hxs hd hu,h⟩
  ·rw[←hit];exact ha j (by simpa using(by omega:j<vs.size)) hj
  ·intro m hm hlt;rw[←hno m (by omega) hlt];exact ha m (by simpa using hm) (by omega)
end PySem.SeqAt
end
noncomputable section
namespace L2
open PySem
set_option genInjectivity true in
inductive DKey where
 | i (n:Int) | s (x:Str) | t (l:List (Sum Int Str))
 deriving DecidableEq
inductive Bi where
 | len | any | all | sset | int | list | tuple | str
 deriving DecidableEq
inductive Mt where
 | bitLength | index | get
 deriving DecidableEq
inductive Tg where
 | one (i:Nat) | many (is:List Nat)
inductive ME where
  | var (i:Nat) | int (i:Int) | bl (b:Bool) | str (x:Str) | non | glb (x:Str)
  | bin (op:Operator) (a b:ME) | neg (a:ME)  | not (a:ME)
  | cmp (op:CmpOp) (a b:ME) | chain (op op':CmpOp) (a b c:ME)
  | and (es:List ME) | or (es:List ME) | ite (c a b:ME)
  | lst (es:List ME) | tup (es:List ME)
  | ix (a b:ME)  | slf (a lo:ME) | slt (a hi:ME)
  | call0 (f:Nat) | call (f:Nat) (es:List ME)    | bi (f:Bi) (es:List ME) | isi (a:ME) (ts:List Str) | isx (a:ME) (t:Str) | meth (m:Mt) (a:ME) (es:List ME)
  | comp (elt:ME) (tg:Tg) (it:ME) (fr:List (Option Nat)) | compi (elt:ME) (tg:Tg) (it c:ME) (fr:List (Option Nat)) | compx (elt:ME) (tg:Tg) (it:ME) (fr:List (Option Nat)) | scat (a b:ME)   | stm (a lo hi:ME)
  | fld (i:Nat) (b:Bool) | mth (i m:Nat)
  | gdx (x:Str) (b:ME)
  | gno (x:Str) (b:ME)
  | fmt (a:ME) | fst (es:List ME)
  | fnd (a b:ME) | spl (a b:ME) | joi (a b:ME)
     | callv (i:Nat) (xs:List (Str×Nat)) (es:List ME)
  | calll (f:Nat) (a b:ME) (N:List Str) (np:Nat) (lb:ME) (fr:List Nat)
  | idx (a b:ME)
  | rng (es:List ME) | enu (a:ME) | zp (a b:ME)
structure LamD where
 N:List Str
 np:Nat
 body:ME
 fn:List Str
 bl:List Str
 cl:List Str
set_option genInjectivity true in
inductive DV where
 | non | bl (b:Bool) | int (i:Int) | str (x:Str) | tup (ds:List DV) | lst (ds:List DV) | dct (ks:List DKey) (vs:List DV)
 | exc (c:Str) | fn (x:Str)
 | lam (m:LamD) (ds:List DV)
 | scr (ns:List Int)
inductive Cl where
 | weak | top | strong | fresh | ft
 deriving DecidableEq
set_option genInjectivity true in
inductive Re where
 | ok (d:DV) (c:Cl) | ex (c:Str)
inductive Rs where
 | ok (l:List (DV×Cl)) | ex (c:Str)
inductive Rt where
 | ok (b:Bool) | ex (c:Str)
set_option genInjectivity true in
inductive Sv where
 | no | val (d:DV) | own (d:DV) | ot (d:DV)
 | od (d:DV)
noncomputable def otD:DV->DV
 | .dct _ ds=>.tup ds
 | d=>d
set_option genInjectivity true in
inductive Ou where
 | v (d:DV) (fr:Bool) | x (c:Str) | t (d:DV)
inductive Out where
 | nx (δ:List Sv) | rt (d:DV) (fr:Bool) | ex (c:Str) (δ:List Sv) | rtt (d:DV)
 | rtm (d s:DV)
inductive MS where
 | set (i:Nat) (own:Bool) (e:ME) | sett (is:List Nat) (e:ME)
 | app (i:Nat) (e:ME)
 | exp (e:ME) | ret (e:ME)  | iff (c:ME) (a b:List MS) | fo (tg:Tg) (it:ME) (body:List MS) | wh (c:ME) (body:List MS)
 | ret0 (es:List ME)
 | fau (i:Nat) (e:ME) | msx (i m:Nat) (es:List ME) | mst (j i m:Nat) (es:List ME) | rtm (i:Nat) (e:ME) | rtd (i m:Nat) (x:Str) | mkr (i:Nat) (e:ME) | rdp (j i:Nat)
 | rse (c:Str) (e:ME) | tryc (body:List MS) (c:Str) (ie ic:Nat) | tryr (body:List MS) (c cr msg:Str)
 | unk
 | frz (i:Nat)
structure FD where
 n:Nat
 np:Nat
 dfl:List DV:=[]
 kn:Option (List Str):=none
 body:List MS
noncomputable def Re.thn(r:EC Re)(k:DV->Cl->EC Re):EC Re:=match r with
 | none=>none
 | some (.ex c)=>some (.ex c)
 | some (.ok d c)=>k d c
def Rs.thn(r:EC Rs)(k:ge (DV×Cl)->EC Re):EC Re:=match r with
 | none=>none
 | some (.ex c)=>some (.ex c)
 | some (.ok l)=>k l
def Rt.thn(r:EC Rt)(k:Bool->EC Re):EC Re:=match r with
 | none=>none
 | some (.ex c)=>some (.ex c)
 | some (.ok b)=>k b
noncomputable def Re.thnT(r:EC Re)(k:DV->Cl->EC Rt):EC Rt:=match r with
 | none=>none
 | some (.ex c)=>some (.ex c)
 | some (.ok d c)=>k d c
mutual
noncomputable def DV.immut:DV->Bool
 | .non=>true | .bl _=>true | .int _=>true | .str _=>true | .exc _=>true | .fn _=>true | .scr _=>true
 | .tup ds=>DV.immuts ds
 | .lst _=>false
 | .lam _ _=>false
 | .dct _ vs=>DV.immuts vs
noncomputable def DV.immuts:ge DV->Bool
 | []=>true
 | d::r=>d.immut&&DV.immuts r
end
mutual
noncomputable def DV.nolam:DV->Bool
 | .lam _ _=>false
 | .tup ds=>DV.nolams ds
 | .lst ds=>DV.nolams ds
 | .dct _ vs=>DV.nolams vs
 | _=>true
noncomputable def DV.nolams:ge DV->Bool
 | []=>true
 | d::r=>d.nolam&&DV.nolams r
end
def stro(d:DV):Cl->Bool
 | .strong=>true | .fresh=>true | .ft=>true | _=>d.immut
def stros(l:ge (DV×Cl)):Bool:=l.all λ p=>stro p.1 p.2
noncomputable def Cl.item:Cl->Cl
 | .weak=>.weak | _=>.strong
noncomputable def Cl.anew:Cl->Cl->Cl
 | .weak,_=>.weak | _,.weak=>.weak | _,_=>.fresh
noncomputable def Cl.notF:Cl->Cl
 | .fresh=>.strong | c=>c
def k9:Nat:=1000000
mutual
noncomputable def deq:DV->DV->Bool
 | .non,.non=>true
 | .bl a,.bl b=>a==b
 | .bl a,.int j=>(if a then 1 else 0)==j
 | .int i,.bl b=>i==(if b then 1 else 0)
 | .int i,.int j=>i==j
 | .str a,.str b=>decide (a=b)
 | .tup a,.tup b=>deqs a b
 | .lst a,.lst b=>deqs a b
 | _,_=>false
noncomputable def deqs:ge DV->ge DV->Bool
 | [],[]=>true
 | a::r,b::s=>deq a b&&deqs r s
 | _,_=>false
end
mutual
noncomputable def DV.plain:Nat->DV->Bool
 | _,.non=>true | _,.bl _=>true | _,.int _=>true
 | _,.str x=>x.cps.all (· < 0x110000)
 | 0,_=>false
 | n+1,.tup ds=>DV.plains n ds | n+1,.lst ds=>DV.plains n ds
 | _,_=>false
noncomputable def DV.plains:Nat->ge DV->Bool
 | _,[]=>true
 | n,d::r=>d.plain n&&DV.plains n r
end
noncomputable def G1:DV->EC Bool
 | .non=>some false
 | .bl b=>some b
 | .int i=>some (i != 0)
 | .str x=>some (x.cps.size != 0)
 | .tup ds=>some (!ds.isEmpty)
 | .lst ds=>some (!ds.isEmpty)
 | _=>none
noncomputable def U5(n:Nat)(i:Int):EC Nat:=if 0<=i then(if i<n then some i.toNat else none)else if -(n:Int)<=i then some (i+n).toNat else none
def atD(ds:ge DV)(i:Int):EC DV:=(U5 ds.length i).bind λ j=>ds[j]?
def ixD(a b:DV):EC DV:=match a,b with
 | .scr ns,.int i=>((U5 ns.length i).bind λ j=>ns[j]?).map DV.int
 | .lst ds,.int i=>atD ds i
 | .tup ds,.int i=>atD ds i
 | .str z,.int i=>(U5 z.cps.size i).bind λ j=>(z.cps[j]?).map λ c=>.str ⟨#[c]⟩
 | _,_=>none
noncomputable def slIx(n d:Nat):EC Int->Nat
 | none=>d
 | some v=>if v<0 then(v+(n:Int)).toNat else min v.toNat n
def cutD(ds:ge DV)(lo hi:EC Int):ge DV:=(ds.drop (slIx ds.length 0 lo)).take (slIx ds.length ds.length hi - slIx ds.length 0 lo)
def slD(a:DV)(lo hi:EC Int):EC DV:=match a with
 | .scr ns=>some (.lst (cutD (ns.map DV.int) lo hi))
 | .lst ds=>some (.lst (cutD ds lo hi))
 | .tup ds=>if slIx ds.length 0 lo=0/\slIx ds.length ds.length hi=ds.length then none else some (.tup (cutD ds lo hi))
 | _=>none
def slCl(a:DV)(c:Cl):Cl:=match a with
 | .scr _=>.fresh
 | .lst _=>Cl.anew c c
 | _=>c.item
noncomputable def bA(i j:Int):Bool:=(decide (-(2^64)<i)&&decide (i<2^64))||(decide (-(2^64)<j)&&decide (j<2^64))||(decide (i.natAbs<2^2000)&&decide (j.natAbs<2^2000))
noncomputable def asI:DV->EC Int
 | .int i=>some i
 | _=>none
noncomputable def asL:DV->EC (ge DV)
 | .lst i=>some i
 | _=>none
noncomputable def asTp:DV->EC (ge DV)
 | .tup i=>some i
 | _=>none
def binD(op:Operator)(a b:DV)(ca cb:Cl):EC Re:=match op with
 | .Add=>match a with
  | .int i=>(asI b).bind λ j=>some (.ok (.int (i+j)) .strong)
  | .lst x=>(asL b).bind λ y=>if x.length+y.length<=k9 then some (.ok (.lst (x++y)) (Cl.anew ca cb))else none
  | .tup x=>(asTp b).bind λ y=>if x.length+y.length<=k9/\x≠[]then some (.ok (.tup (x++y)) (Cl.anew ca cb).notF)else none
  | _=>none
 | .Sub=>(asI a).bind λ i=>(asI b).bind λ j=>some (.ok (.int (i - j)) .strong)
 | .Mult=>match a with
  | .int i=>(asI b).bind λ j=>if bA i j then some (.ok (.int (i*j)) .strong)else none
  | .lst x=>(asI b).bind λ k=>if x.length*k.toNat<=k9 /\ -(2^63)<=k/\k<2^63 then some (.ok (.lst (List.replicate k.toNat x).flatten) (Cl.anew ca ca))else none
  | _=>none
 | .Mod=>(asI a).bind λ i=>(asI b).bind λ j=>if 0<j then some (.ok (.int (i%j)) .strong)else if j≠0 then some (.ok (.int (i.fmod j)) .strong)else none
 | .FloorDiv=>(asI a).bind λ i=>(asI b).bind λ j=>if 0<j/\j<2^200 then some (.ok (.int (i/j)) .strong)else none
 | .LShift=>(asI a).bind λ i=>(asI b).bind λ j=>if 0<=j/\j<=1000000/\i.natAbs<2^64 then some (.ok (.int (i*2^j.toNat)) .strong)else none
 | .RShift=>(asI a).bind λ i=>(asI b).bind λ j=>if 0<=j then some (.ok (.int (i/2^j.toNat)) .strong)else none
 | .BitAnd=>(asI a).bind λ i=>(asI b).bind λ j=>some (.ok (.int (Builtin.bitAnd i j)) .strong)
 | .BitOr=>(asI a).bind λ i=>(asI b).bind λ j=>some (.ok (.int (Builtin.bitOr i j)) .strong)
 | _=>none
noncomputable def isN:DV->Bool
 | .non=>true
 | _=>false
noncomputable def inS(x y:Str):EC Bool:=match y.cps.toList with
 | [c]=>some (decide (c∈x.cps.toList))
 | _=>none
noncomputable def splL(c:Nat):ge Nat->ge (ge Nat)
 | []=>[[]]
 | a::r=>if a=c then[]::splL c r else match splL c r with
  | x::t=>(a::x)::t
  | []=>[[a]]
noncomputable def ay(c:Nat)(l:ge Nat):Int:=if l.idxOf c<l.length then(l.idxOf c:Nat)else -1
noncomputable def strB:DV->Bool
 | .str _=>true
 | _=>false
def fndD(x y:DV):EC DV:=match x,y with
 | .str x,.str y=>(match y.cps.toList with | [c]=>some (.int (ay c x.cps.toList)) | _=>none)
 | _,_=>none
def splD(x y:DV):EC DV:=match x,y with
 | .str x,.str y=>(match y.cps.toList with | [c]=>if x.length<=k9 then some (.lst ((splL c x.cps.toList).map λ p=>.str ⟨p.toArray⟩))else none | _=>none)
 | _,_=>none
noncomputable def strs?:ge DV->EC (ge Str)
 | []=>some []
 | .str x::r=>(strs? r).map (x :: ·)
 | _=>none
def joiD(x y:DV):EC DV:=match x,y with
 | .str s,.lst ds=>(match strs? ds with | some ys=>if(ys.map (·.length)).sum+ys.length*s.length<=k9 then some (.str (Str.join s ys))else none | none=>none)
 | _,_=>none
noncomputable def cutS(z:Str)(i j:Nat):Str:=⟨((z.cps.toList.drop i).take (j - i)).toArray⟩
noncomputable def B3(n:Nat)(v:Int):Int:=max 0 (min (if v<0 then v+n else v) n)
def stmD(x y w:DV):EC DV:=match x,y,w with
 | .str z,.int i,.int v=>if 0<=i/\i<=B3 z.length v then some (.str (cutS z i.toNat (B3 z.length v).toNat))else none
 | _,_,_=>none
noncomputable def catS(x y:DV):EC DV:=match x,y with
 | .str i,.str j=>if i.length+j.length<=k9 then some (.str (i++j))else none
 | _,_=>none
noncomputable def asS:DV->EC Str
 | .str i=>some i
 | _=>none
def cmpD(op:CmpOp)(a b:DV):EC Bool:=match op with
 | .Lt=>(asI a).bind λ i=>(asI b).bind λ j=>some (decide (i<j))
 | .LtE=>(asI a).bind λ i=>(asI b).bind λ j=>some (decide (i<=j))
 | .Gt=>(asI a).bind λ i=>(asI b).bind λ j=>some (decide (j<i))
 | .Eq=>if a.plain 60&&b.plain 60 then some (deq a b)else none
 | .NotEq=>if a.plain 60&&b.plain 60 then some (!deq a b)else none
 | .Is=>match b with
  | .non=>some (isN a)
  | _=>none
 | .In=>match b with
  | .lst ds=>if a.plain 60&&DV.plains 60 ds then some (ds.any λ d=>deq d a)else none
  | .tup ds=>if a.plain 60&&DV.plains 60 ds then some (ds.any λ d=>deq d a)else none
  | .str x=>(asS a).bind λ y=>inS x y
  | _=>none
 | .NotIn=>match b with
  | .lst ds=>if a.plain 60&&DV.plains 60 ds then some (!ds.any λ d=>deq d a)else none
  | .tup ds=>if a.plain 60&&DV.plains 60 ds then some (!ds.any λ d=>deq d a)else none
  | .str x=>(asS a).bind λ y=>(inS x y).map λ b=>!b
  | _=>none
 | _=>none
noncomputable def ints?:ge DV->EC (ge Int)
 | []=>some []
 | .int i::r=>(ints? r).map (i :: ·)
 | _=>none
noncomputable def bools?:ge DV->EC (ge Bool)
 | []=>some []
 | .bl i::r=>(bools? r).map (i :: ·)
 | _=>none
noncomputable def insI(x:Int):ge Int->ge Int
 | []=>[x]
 | y::r=>if x<y then x::y::r else y::insI x r
def dW:ge Int->ge Int
 | []=>[]
 | x::r=>insI x (dW r)
noncomputable def dk(σ:ge Int)(k:Int):ge Int:=if k∈σ then σ else σ++[k]
noncomputable def dX(i:Int):Int:=if i=0 then 0 else(i.natAbs.log2:Int)+1
noncomputable def lenD:ge (DV×Cl)->EC Re
 | [(.lst ds,_)]=>some (.ok (.int ds.length) .strong)
 | [(.tup ds,_)]=>some (.ok (.int ds.length) .strong)
 | [(.scr ns,_)]=>some (.ok (.int ns.length) .strong)
 | [(.str z,_)]=>some (.ok (.int z.length) .strong)
 | _=>none
def gW:ge (DV×Cl)->EC Re
 | [(.lst ds,_)]=>match ints? ds with
  | some ns=>if ns.length<4000/\(ns.foldl dk []).length<64 then some (.ok (.lst ((dW (ns.foldl dk [])).map DV.int)) .fresh)else none
  | none=>none
 | _=>none
def allD:ge (DV×Cl)->EC Re
 | [(.lst ds,_)]=>(bools? ds).map λ bs=>.ok (.bl (bs.all id)) .strong
 | _=>none
def anyD:ge (DV×Cl)->EC Re
 | [(.lst ds,_)]=>(bools? ds).map λ bs=>.ok (.bl (bs.any id)) .strong
 | _=>none
noncomputable def dnum(x:Str):EC Int:=match x.cps.toList with
 | [a]=>if 48<=a/\a<=57 then some ((a - 48:Nat):Int)else none
 | [a,b]=>if 48<=a/\a<=57/\48<=b/\b<=57 then some (((a - 48)*10+(b - 48):Nat):Int)else none
 | _=>none
def intD:ge (DV×Cl)->EC Re
 | [(.int i,_)]=>some (.ok (.int i) .strong)
 | [(.bl b,_)]=>some (.ok (.int (if b then 1 else 0)) .strong)
 | [(.str x,_)]=>(dnum x).map λ n=>.ok (.int n) .strong
 | _=>none
noncomputable def strD:ge (DV×Cl)->EC Re
 | [(.int i,_)]=>if i.natAbs<2^64 then some (.ok (.str (Str.ofString (toString i))) .strong)else none
 | _=>none
def bB:ge (DV×Cl)->EC Re
 | [(.scr ns,_)]=>some (.ok (.lst (ns.map DV.int)) .fresh)
 | [(.lst ds,c)]=>some (.ok (.lst ds) (Cl.anew c c))
 | [(.tup ds,c)]=>some (.ok (.lst ds) (Cl.anew c c))
 | _=>none
def bC:ge (DV×Cl)->EC Re
 | [(.lst ds,c)]=>some (.ok (.tup ds) c.item)
 | [(.tup ds,c)]=>some (.ok (.tup ds) c)
 | _=>none
def biD(f:Bi)(l:ge (DV×Cl)):EC Re:=match f with
 | .len=>lenD l
 | .int=>intD l
 | .str=>strD l
 | .list=>bB l
 | .tuple=>bC l
 | .sset=>gW l
 | .all=>allD l
 | .any=>anyD l
noncomputable def biOk:Bi->Bool
 | .len=>true | .int=>true | .str=>true | .list=>true | .tuple=>true | .sset=>true | .all=>true | .any=>true
def mtD(m:Mt)(a:DV):EC Re:=match m,a with
 | .bitLength,.int i=>some (.ok (.int (dX i)) .strong)
 | _,_=>none
structure Gs where
 dcs:List (Str×List (Str×Option DV)):=[]
 con:List (Str×DV)
 cls:List (Str×List Str)
 dfl:List (Nat×List DV):=[]
 kws:List (Nat×List Str):=[]
 fnl:List Str:=[]
 bll:List Str:=[]
 cll:List Str:=[]
 rdc:Int:=-1
 mtx:Bool:=false
 prs:Nat->List DV->Option Ou:=λ _ _=>none
noncomputable def D2(G:Gs)(c c':Str):Bool:=c==c'||((G.cls.lookup c).getD []).contains c'
noncomputable def gdxD(G:Gs)(x:Str)(d:DV):EC DV:=match G.dcs.lookup x,d with
 | some kvs,.str k=>(kvs.lookup k).bind id
 | _,_=>none
noncomputable def fmtD:DV->EC Str
 | .int i=>if i.natAbs<2^64 then some (Str.ofString (toString i))else none
 | .str x=>some x
 | _=>none
noncomputable def fstG(acc:Str):ge (DV×Cl)->EC Str
 | []=>some acc
 | (.str x,_)::r=>if acc.length+x.length<=k9 then fstG (acc++x) r else none
 | _=>none
noncomputable def ginD(G:Gs)(x:Str)(d:DV):EC Bool:=match G.dcs.lookup x,d with
 | some kvs,.str k=>(kvs.lookup k).map Option.isSome
 | _,_=>none
def isxD(G:Gs)(d:DV)(t:Str):EC Bool:=match d with
 | .exc c=>if(G.cls.lookup c).isSome then some (D2 G c t)else none
 | _=>none
noncomputable def tyOf:DV->ge Str
 | .non=>["NoneType"]
 | .bl _=>["bool","int"]
 | .int _=>["int"]
 | .str _=>["str"]
 | .tup _=>["tuple"]
 | .lst _=>["list"]
 | .dct _ _=>["dict"]
 | _=>[]
noncomputable def G3:ge Str:=["int","bool","str","list","tuple","dict"]
def isiD(G:Gs)(d:DV)(ts:ge Str):EC Bool:=match d with
 | .scr _=>none
 | .exc _=>none
 | .fn _=>none
 | .lam _ _=>none
 | d=>match ts with
  | [t]=>if G3.contains t then some ((tyOf d).contains t)else none
  | [t,u]=>if G3.contains t&&G3.contains u then some ((tyOf d).contains t||(tyOf d).contains u)else none
  | _=>none
noncomputable def upTo(lo:Int)(n:Nat):ge DV:=(List.range n).map λ (i:Nat)=>DV.int (lo+i)
noncomputable def gX(i:Int):Bool:=decide (-(2^62)<=i)&&decide (i<2^62)
def N7(y:DV):ge DV->EC Nat
 | []=>none
 | d::r=>if deq d y then some 0 else(N7 y r).map (· + 1)
noncomputable def seqB:DV->Bool
 | .lst _=>true | .tup _=>true | _=>false
def idxD(x y:DV):EC DV:=match x with
 | .lst ds=>if y.plain 60&&DV.plains 60 ds&&decide (ds.length<=k9)then(N7 y ds).map λ (j:Nat)=>DV.int (j:Int)else none
 | .tup ds=>if y.plain 60&&DV.plains 60 ds&&decide (ds.length<=k9)then(N7 y ds).map λ (j:Nat)=>DV.int (j:Int)else none
 | _=>none
def rngD(l:ge (DV×Cl)):EC (ge DV):=match l with
 | [(.int j,_)]=>if gX j&&decide (j<=k9)then some (upTo 0 j.toNat)else none
 | _=>none
noncomputable def enuD:Nat->ge DV->ge DV
 | _,[]=>[]
 | k,d::r=>.tup [.int k,d]::enuD (k+1) r
noncomputable def zpD:ge DV->ge DV->ge DV
 | a::r,b::s=>.tup [a,b]::zpD r s
 | _,_=>[]
def Cl.meet:Cl->Cl->Cl
 | .weak,_=>.weak | _,.weak=>.weak | .top,_=>.top | _,.top=>.top | _,_=>.strong
noncomputable def N8:DV->EC (Bool×ge DV)
 | .lst ds=>some (false,ds)
 | .tup ds=>some (true,ds)
 | _=>none
def dY(x:DV)(c:Cl):EC Re:=match N8 x with
 | some (_,xs)=>some (.ok (.lst (enuD 0 xs)) (Cl.meet c c))
 | _=>none
def zipD(x y:DV)(c c':Cl):EC Re:=match N8 x,N8 y with
 | some (_,xs),some (_,ys)=>some (.ok (.lst (zpD xs ys)) (Cl.meet c c'))
 | _,_=>none
noncomputable def seqD:DV->EC (ge DV)
 | .scr ns=>some (ns.map DV.int)
 | .lst ds=>some ds
 | .tup ds=>some ds
 | .str x=>some (x.cps.toList.map λ c=>.str ⟨#[c]⟩)
 | _=>none
noncomputable def N9(δ:ge Sv):ge Nat->ge DV->EC (ge Sv)
 | [],[]=>some δ
 | i::is,d::ds=>N9 (δ.set i (.val d)) is ds
 | _,_=>none
def Tg.bind(tg:Tg)(d:DV)(δ:ge Sv):EC (ge Sv):=match tg with
 | .one i=>some (δ.set i (.val d))
 | .many is=>match d with
  | .tup ds=>N9 δ is ds
  | _=>none
def Sv.plain:Sv->Sv
 | .ot _=>.no
 | s=>s
def D3(fr:ge (EC Nat))(δ:ge Sv):ge Sv:=fr.map λ o=>match o with
 | some i=>(δ.getD i .no).plain
 | none=>.no
inductive Rc where
 | skip | item (d:DV)
def O0(g:DV->EC Rc):ge DV->EC (ge DV)
 | []=>some []
 | d::r=>match g d with
  | none=>none
  | some .skip=>O0 g r
  | some (.item x)=>match O0 g r with
   | none=>none
   | some xs=>some (x::xs)
def X9(g:DV->EC Re):ge DV->ge DV->EC Re
 | [],done=>some (.ok (.lst done) .fresh)
 | d::r,done=>match g d with
  | none=>none
  | some (.ex c)=>some (.ex c)
  | some (.ok x c)=>if stro x c then X9 g r (done++[x])else none
noncomputable def U6(r:EC (ge DV)):EC Re:=match r with
 | none=>none
 | some xs=>some (.ok (.lst xs) .fresh)
def Rc.of(r:EC Re):EC Rc:=match r with
 | some (.ok d c)=>if stro d c then some (.item d)else none
 | _=>none
noncomputable def Rc.test(t:EC Rt)(r:EC Rc):EC Rc:=match t with
 | some (.ok true)=>r
 | some (.ok false)=>some .skip
 | _=>none
inductive Ri where
 | ok (ds:List DV) (c:Cl) | ex (c:Str)
def Ri.thn(r:EC Ri)(k:ge DV->Cl->EC Re):EC Re:=match r with
 | none=>none
 | some (.ex c)=>some (.ex c)
 | some (.ok ds c)=>k ds c
noncomputable def Re.thnI(r:EC Re)(k:DV->Cl->EC Ri):EC Ri:=match r with
 | none=>none
 | some (.ex c)=>some (.ex c)
 | some (.ok d c)=>k d c
def ve(d:DV)(c:Cl):EC Ri:=(seqD d).map λ ds=>.ok ds c
def imL:DV->Bool
 | .lst ds=>DV.immuts ds
 | _=>false
def L0(F:Nat->ge DV->EC Ou)(f:Nat)(l:ge (DV×Cl)):EC Re:=match F f (l.map (·.1))with
 | none=>none
 | some (.x c)=>some (.ex c)
 | some (.t (.dct _ ds))=>some (.ok (.tup ds) .strong)
 | some (.t d)=>some (.ok d (if l.all λ p=>p.2 == .strong||p.2 == .fresh then(match d with | .lst _=>.fresh | _=>.ft)else .weak))
 | some (.v d fr)=>some (.ok d (if l.all λ p=>p.2 == .strong||p.2 == .fresh then(if fr then .fresh else .strong)else if fr&&imL d then .fresh else .weak))
def D4:Nat:=1001
def capD(δ:ge Sv):ge Nat->EC (ge DV)
 | []=>some []
 | i::r=>match δ[i]?,capD δ r with
  | some (.val d),some ds=>if d.nolam then some (d::ds)else none
  | _,_=>none
def stmG(x l:DV)(r:EC Re):EC Re:=match l,r with
 | .int i,some (.ok h _)=>(stmD x (.int i) h).map λ d=>.ok d .strong
 | _,_=>none
noncomputable def rdD(C a dx:Nat)(t:Str)(k:Int):DV:=.tup [.int C,.int a,.int dx,.str t,.int k]
noncomputable def fldD(G:Gs)(b:Bool):DV->EC DV
 | .tup [.int c,_,_,.str t,.int k]=>if c=G.rdc/\0<=c then some (if b then .int k else .str t)else none
 | _=>none
noncomputable def iI:DV->EC Int | .int i=>some i | _=>none
noncomputable def sS:DV->EC Str | .str i=>some i | _=>none
noncomputable def rd5:ge DV->EC (DV×DV×DV×DV×DV) | [a,b,c,d,e]=>some (a,b,c,d,e) | _=>none
noncomputable def tT:DV->EC (ge DV) | .tup l=>some l | _=>none
def rdK(d:DV):EC (Int×Int×Int×Str×Int):=(tT d).bind λ l=>(rd5 l).bind λ q=>(iI q.1).bind λ c=>(iI q.2.1).bind λ a=>(iI q.2.2.1).bind λ x=>(sS q.2.2.2.1).bind λ t=>(iI q.2.2.2.2).bind λ k=>some (c,a,x,t,k)
def rdB(G:Gs)(s:DV):Bool:=match rdK s with
 | some q=>decide (q.1=G.rdc)&&decide (0<=q.2.1)&&decide (0<=q.2.2.1)&&decide (0<=q.1)
 | none=>false
def eqRd(s s':DV):Bool:=match rdK s with
 | some q=>decide (rdK s'=some q)
 | none=>false
def Y0(s s':DV):Bool:=match rdK s with
 | some q=>(match rdK s' with
  | some q'=>decide (q.1=q'.1)&&decide (q.2.1=q'.2.1)&&decide (q.2.2.1=q'.2.2.1)&&decide (q.2.2.2.1=q'.2.2.2.1)
  | none=>false)
 | none=>false
set_option genInjectivity true in
inductive Rm where
 | ok (d s:DV) | ex (c:Str)
def Rm.of(o:EC Ou):EC Rm:=match o with
 | some (.v (.tup [r,s]) _)=>some (.ok r s)
 | some (.x c)=>some (.ex c)
 | _=>none
noncomputable def dZ(F:Nat->ge DV->EC Ou)(m:LamD)(cs:ge DV)(l:ge (DV×Cl)):EC Re:=if(l.all λ p=>p.2 == .strong||p.2 == .fresh)=true then(match F D4 (.lam m cs::l.map (·.1))with
 | some (.v d false)=>some (.ok d .strong)
 | _=>none)else none
def ed(F:Nat->ge DV->EC Ou)(f:Nat)(l:ge (DV×Cl))(m:DV):EC Re:=if(l.all λ p=>p.2 == .strong||p.2 == .fresh)=true then(match F f (l.map (·.1)++[m])with
 | some (.v d false)=>if d.nolam then some (.ok d .strong)else none
 | _=>none)else none
def andD(x:DV)(c:Cl)(r:EC Re):EC Re:=match G1 x with
 | none=>none
 | some true=>r
 | some false=>some (.ok x c)
def orD(x:DV)(c:Cl)(r:EC Re):EC Re:=match G1 x with
 | none=>none
 | some true=>some (.ok x c)
 | some false=>r
def tstD(r:EC Re):EC Rt:=Re.thnT r λ x _=>(G1 x).map Rt.ok
def G4(r:EC Re):EC Ri:=Re.thnI r λ x c=>ve x c
mutual
def evE(G:Gs)(F:Nat->ge DV->EC Ou):ME->ge Sv->EC Re
 | .var i,δ=>match δ[i]? with
  | some (.val d)=>some (.ok d .strong)
  | some (.own d)=>some (.ok d .top)
  | some (.ot d)=>some (.ok (otD d) .weak)
  | _=>none
 | .int i,_=>some (.ok (.int i) .strong)
 | .bl i,_=>some (.ok (.bl i) .strong)
 | .str i,_=>some (.ok (.str i) .strong)
 | .non,_=>some (.ok .non .strong)
 | .glb x,_=>(G.con.lookup x).map λ d=>.ok d .strong
 | .bin op a b,δ=>Re.thn (evE G F a δ) λ x cx=>Re.thn (evE G F b δ) λ y cy=>binD op x y cx cy
 | .neg a,δ=>Re.thn (evE G F a δ) λ x _=>match x with | .int i=>some (.ok (.int (-i)) .strong) | _=>none
 | .not a,δ=>Re.thn (evE G F a δ) λ x _=>(G1 x).map λ k=>.ok (.bl (!k)) .strong
 | .cmp op a b,δ=>Re.thn (evE G F a δ) λ x _=>Re.thn (evE G F b δ) λ y _=>(cmpD op x y).map λ k=>.ok (.bl k) .strong
 | .chain op op' a b c,δ=>Re.thn (evE G F a δ) λ x _=>Re.thn (evE G F b δ) λ y _=>match cmpD op x y with
  | none=>none
  | some false=>some (.ok (.bl false) .strong)
  | some true=>Re.thn (evE G F c δ) λ z _=>(cmpD op' y z).map λ k=>.ok (.bl k) .strong
 | .and es,δ=>J8 G F es δ
 | .or es,δ=>evOr G F es δ
 | .ite c a b,δ=>Rt.thn (tstD (evE G F c δ)) λ k=>if k then evE G F a δ else evE G F b δ
 | .lst es,δ=>Rs.thn (evEs G F es δ) λ l=>if l.length<=k9 then some (.ok (.lst (l.map (·.1))) (if stros l then .fresh else .weak))else none
 | .tup es,δ=>Rs.thn (evEs G F es δ) λ l=>if l.length<=k9 then some (.ok (.tup (l.map (·.1))) (if stros l then .strong else .weak))else none
 | .ix a b,δ=>Re.thn (evE G F a δ) λ x cx=>Re.thn (evE G F b δ) λ y _=>(ixD x y).map λ d=>.ok d cx.item
 | .slf a lo,δ=>Re.thn (evE G F a δ) λ x cx=>Re.thn (evE G F lo δ) λ l _=>match l with
  | .int l=>(slD x (some l) none).map λ d=>.ok d (slCl x cx)
  | _=>none
 | .slt a hi,δ=>Re.thn (evE G F a δ) λ x cx=>Re.thn (evE G F hi δ) λ h _=>match h with
  | .int h=>(slD x none (some h)).map λ d=>.ok d (slCl x cx)
  | _=>none
 | .call0 f,δ=>L0 F f []
 | .call f es,δ=>Rs.thn (evEs G F es δ) λ l=>L0 F f l
 | .bi f es,δ=>if biOk f then Rs.thn (evEs G F es δ) λ l=>biD f l else none
 | .isi a ts,δ=>Re.thn (evE G F a δ) λ x _=>(isiD G x ts).map λ k=>.ok (.bl k) .strong
 | .isx a t,δ=>Re.thn (evE G F a δ) λ x _=>(isxD G x t).map λ k=>.ok (.bl k) .strong
 | .meth m a _,δ=>if m=.bitLength then Re.thn (evE G F a δ) λ x _=>mtD m x else none
 | .comp elt tg it fr,δ=>Ri.thn (G4 (evE G F it δ)) λ ds c=>if c=.weak\/k9<ds.length then none else U6 (O0 (λ d=>(tg.bind d (D3 fr δ)).bind λ δ'=>Rc.of (evE G F elt δ')) ds)
 | .compx elt tg it fr,δ=>Ri.thn (G4 (evE G F it δ)) λ ds c=>if c=.weak\/k9<ds.length then none else X9 (λ d=>(tg.bind d (D3 fr δ)).bind λ δ'=>evE G F elt δ') ds []
 | .compi elt tg it cd fr,δ=>Ri.thn (G4 (evE G F it δ)) λ ds c=>if c=.weak\/k9<ds.length then none else U6 (O0 (λ d=>(tg.bind d (D3 fr δ)).bind λ δ'=>Rc.test (tstD (evE G F cd δ')) (Rc.of (evE G F elt δ'))) ds)
 | .gdx x b,δ=>if(G.dcs.lookup x).isSome then Re.thn (evE G F b δ) λ y _=>(gdxD G x y).map λ d=>.ok d .strong else none
 | .scat a b,δ=>Re.thn (evE G F a δ) λ x _=>Re.thn (evE G F b δ) λ y _=>(catS x y).map λ d=>.ok d .strong
 | .stm a lo hi,δ=>Re.thn (evE G F a δ) λ x _=>Re.thn (evE G F lo δ) λ l _=>stmG x l (evE G F hi δ)
 | .fld i b,δ=>match δ[i]? with
  | some (.od s)=>(fldD G b s).map λ d=>.ok d .strong
  | _=>none
 | .mth i m,δ=>match δ[i]? with
  | some (.od s)=>if G.mtx=true/\rdB G s=true then(match Rm.of (F m [s])with
   | some (.ok d s')=>if eqRd s s' then some (.ok d .strong)else none
   | _=>none)else none
  | _=>none
 | .fnd a b,δ=>Re.thn (evE G F a δ) λ x _=>if strB x then Re.thn (evE G F b δ) λ y _=>(fndD x y).map λ d=>.ok d .strong else none
 | .spl a b,δ=>Re.thn (evE G F a δ) λ x _=>if strB x then Re.thn (evE G F b δ) λ y _=>(splD x y).map λ d=>.ok d .fresh else none
 | .joi a b,δ=>Re.thn (evE G F a δ) λ x _=>if strB x then Re.thn (evE G F b δ) λ y _=>(joiD x y).map λ d=>.ok d .strong else none
 | .fmt a,δ=>Re.thn (evE G F a δ) λ d _=>(fmtD d).map λ x=>.ok (.str x) .strong
 | .fst es,δ=>match evEs G F es δ with
  | some (.ok l)=>(fstG Str.empty l).map λ x=>.ok (.str x) .strong
  | _=>none
 | .gno x b,δ=>if(G.dcs.lookup x).isSome then Re.thn (evE G F b δ) λ y _=>(ginD G x y).map λ k=>.ok (.bl (!k)) .strong else none
 | .idx a b,δ=>Re.thn (evE G F a δ) λ x _=>if seqB x then Re.thn (evE G F b δ) λ y _=>(idxD x y).map λ d=>.ok d .strong else none
 | .rng es,δ=>Rs.thn (evEs G F es δ) λ l=>(rngD l).map λ ds=>.ok (.lst ds) .fresh
 | .zp a b,δ=>Re.thn (evE G F a δ) λ x c=>Re.thn (evE G F b δ) λ y c'=>zipD x y c c'
 | .enu a,δ=>Re.thn (evE G F a δ) λ x c=>dY x c
 | .callv i xs es,δ=>match δ[i]? with
  | some (.val (.fn x))=>(match xs.lookup x with
   | some f=>Rs.thn (evEs G F es δ) λ l=>L0 F f l
   | none=>none)
  | some (.val (.lam m cs))=>if m.fn=G.fnl/\m.bl=G.bll/\m.cl=G.cll/\G.fnl.isEmpty=false then Rs.thn (evEs G F es δ) λ l=>dZ F m cs l else none
  | _=>none
 | .calll f a b N np lb fr,δ=>match capD δ fr with
  | some cs=>if G.fnl.isEmpty then none else Re.thn (evE G F a δ) λ x cx=>Re.thn (evE G F b δ) λ y cy=>ed F f [(x,cx),(y,cy)] (.lam ⟨N,np,lb,G.fnl,G.bll,G.cll⟩ cs)
  | none=>none
def evEs(G:Gs)(F:Nat->ge DV->EC Ou):ge ME->ge Sv->EC Rs
 | [],_=>some (.ok [])
 | e::es,δ=>match evE G F e δ with
  | none=>none
  | some (.ex c)=>some (.ex c)
  | some (.ok d c)=>match evEs G F es δ with
   | none=>none
   | some (.ex c)=>some (.ex c)
   | some (.ok l)=>some (.ok ((d,c)::l))
def J8(G:Gs)(F:Nat->ge DV->EC Ou):ge ME->ge Sv->EC Re
 | [],_=>none
 | e::es,δ=>if es.isEmpty then evE G F e δ else Re.thn (evE G F e δ) λ x c=>andD x c (J8 G F es δ)
def evOr(G:Gs)(F:Nat->ge DV->EC Ou):ge ME->ge Sv->EC Re
 | [],_=>none
 | e::es,δ=>if es.isEmpty then evE G F e δ else Re.thn (evE G F e δ) λ x c=>orD x c (evOr G F es δ)
end
def Y1:Nat:=1000
noncomputable def Re.thnS(δ:ge Sv)(r:EC Re)(k:DV->Cl->EC Out):EC Out:=match r with
 | none=>none
 | some (.ex c)=>some (.ex c δ)
 | some (.ok d c)=>k d c
def Rs.thnS(δ:ge Sv)(r:EC Rs)(k:ge (DV×Cl)->EC Out):EC Out:=match r with
 | none=>none
 | some (.ex c)=>some (.ex c δ)
 | some (.ok l)=>k l
def Rt.thnS(δ:ge Sv)(r:EC Rt)(k:Bool->EC Out):EC Out:=match r with
 | none=>none
 | some (.ex c)=>some (.ex c δ)
 | some (.ok b)=>k b
def Ri.thnS(δ:ge Sv)(r:EC Ri)(k:ge DV->Cl->EC Out):EC Out:=match r with
 | none=>none
 | some (.ex c)=>some (.ex c δ)
 | some (.ok ds c)=>k ds c
def J9(tg:Tg)(body:ge Sv->EC Out):ge DV->ge Sv->EC Out
 | [],δ=>some (.nx δ)
 | d::r,δ=>match tg.bind d δ with
  | none=>none
  | some δ1=>match body δ1 with
   | some (.nx δ2)=>J9 tg body r δ2
   | o=>o
def C6(test:ge Sv->EC Rt)(body:ge Sv->EC Out):Nat->ge Sv->EC Out
 | 0,_=>none
 | n+1,δ=>match test δ with
  | none=>none
  | some (.ex c)=>some (.ex c δ)
  | some (.ok false)=>some (.nx δ)
  | some (.ok true)=>match body δ with
   | some (.nx δ2)=>C6 test body n δ2
   | o=>o
def frD:DV->Cl->Bool
 | .lst _,.fresh=>true | .lst _,.top=>true
 | _,_=>false
noncomputable def noOt(i:Nat)(δ:ge Sv):Bool:=(List.range δ.length).all λ j=>j==i||(match δ[j]? with | some (.ot _)=>false | some (.od _)=>false | _=>true)
def bD(i:Nat)(δ:ge Sv)(d:DV)(c:Cl):EC Out:=match c with
 | .fresh=>some (.nx (δ.set i (.own d)))
 | .ft=>if noOt i δ then some (.nx (δ.set i (.ot d)))else none
 | _=>match d with
  | .non=>some (.nx (δ.set i (.val .non)))
  | _=>none
def retD(d:DV)(c:Cl):Out:=match c with
 | .ft=>.rtt d
 | _=>.rt d (frD d c)
noncomputable def c3(c:Int×Int×ge DV):DV:=.tup [.int c.1,.int c.2.1,.lst c.2.2]
def ee(l:ge (DV×Cl)):EC Out:=match l with
 | (.lst ds,.top)::l'=>if l'.length<k9/\stros l' then some (.rtt (.tup (.lst ds::l'.map (·.1))))else none
 | _=>none
def tryD(G:Gs)(c:Str)(ie ic:Nat)(r:EC Out):EC Out:=match r with
 | some (.ex c' δ')=>if(G.cls.lookup c').isSome/\D2 G c' c/\ie<δ'.length/\ie≠ic then some (.nx ((δ'.set ic (.val (.exc c'))).set ie .no))else none
 | o=>o
def mB(G:Gs)(c cr:Str)(r:EC Out):EC Out:=match r with
 | some (.ex c' δ')=>if(G.cls.lookup c').isSome/\(G.cls.lookup cr).isSome then some (.ex (if D2 G c' c then cr else c') δ')else none
 | o=>o
noncomputable def noS(δ:ge Sv):ge Sv:=δ.map λ _=>.no
def rdIx:Nat:=1002
def Y2(G:Gs)(F:Nat->ge DV->EC Ou)(i m:Nat)(δ:ge Sv)(l:EC Rs)(k:DV->DV->EC Out):EC Out:=match δ[i]? with
 | some (.od s)=>if G.mtx=true/\rdB G s=true then(match l with
  | some (.ok l)=>if stros l then(match Rm.of (F m (s::l.map (·.1)))with
   | some (.ok d s')=>k d s'
   | some (.ex c)=>some (.ex c (noS δ))
   | none=>none)else none
  | _=>none)else none
 | _=>none
mutual
def evS(G:Gs)(F:Nat->ge DV->EC Ou)(fu:Nat):MS->ge Sv->EC Out
 | .set i own e,δ=>Re.thnS δ (evE G F e δ) λ d c=>if own then bD i δ d c else(if stro d c then some (.nx (δ.set i (.val d)))else none)
 | .sett is e,δ=>Re.thnS δ (evE G F e δ) λ d c=>if c=.strong\/c=.fresh then(match N8 d with
  | some (_,ds)=>(N9 δ is ds).map Out.nx
  | none=>none)else none
 | .app i e,δ=>match δ[i]? with
  | some (.own (.lst ds))=>Re.thnS δ (evE G F e δ) λ d c=>if stro d c/\ds.length<k9 then some (.nx (δ.set i (.own (.lst (ds++[d])))))else none
  | _=>none
 | .exp e,δ=>Re.thnS δ (evE G F e δ) λ _ _=>some (.nx δ)
 | .ret e,δ=>Re.thnS δ (evE G F e δ) λ d c=>some (retD d c)
 | .ret0 es,δ=>Rs.thnS δ (evEs G F es δ) λ l=>ee l
 | .iff c a b,δ=>Rt.thnS δ (tstD (evE G F c δ)) λ k=>if k then evSs G F fu a δ else evSs G F fu b δ
 | .fo tg it body,δ=>Ri.thnS δ (G4 (evE G F it δ)) λ ds c=>if c=.strong\/c=.fresh then J9 tg (λ δ'=>evSs G F fu body δ') ds δ else none
 | .wh c body,δ=>C6 (λ δ'=>tstD (evE G F c δ')) (λ δ'=>evSs G F fu body δ') fu δ
 | .unk,_=>none
 | .fau i e,δ=>match δ[i]? with
  | some (.od (.tup [c,a,x,t,.int k]))=>(match fldD G true (.tup [c,a,x,t,.int k])with
   | some _=>Re.thnS δ (evE G F e δ) λ d _=>(match d with
    | .int j=>some (.nx (δ.set i (.od (.tup [c,a,x,t,.int (k+j)]))))
    | _=>none)
   | none=>none)
  | _=>none
 | .msx i m es,δ=>Y2 G F i m δ (evEs G F es δ) λ _ s=>some (.nx (δ.set i (.od s)))
 | .mst j i m es,δ=>Y2 G F i m δ (evEs G F es δ) λ d s=>if j≠i then some (.nx ((δ.set i (.od s)).set j (.val d)))else none
 | .rtm i e,δ=>match δ[i]? with
  | some (.od s)=>(match evE G F e δ with
   | some (.ok d c)=>if stro d c then some (.rtm d s)else none
   | _=>none)
  | _=>none
 | .rtd i m x,δ=>Y2 G F i m δ (some (.ok [])) λ d s=>some (.rtm (.tup [.str x,d]) s)
 | .mkr i e,δ=>if 0<=G.rdc/\G.mtx=false then(match evE G F e δ with
  | some (.ok (.str t) _)=>if noOt i δ=true/\(Rm.of (F rdIx [.str t,.int 0])).isSome=true then some (.nx (δ.set i (.od (.tup [.int G.rdc,.non,.non,.str t,.int 0]))))else none
  | _=>none)else none
 | .rdp j i,δ=>match δ[i]? with
  | some (.od (.tup [.int c,.non,.non,.str t,.int k]))=>if c=G.rdc/\G.mtx=false/\0<=G.rdc then(match Rm.of (F rdIx [.str t,.int k])with
   | some (.ok d (.int k'))=>if j≠i then some (.nx ((δ.set i (.od (.tup [.int c,.non,.non,.str t,.int k']))).set j (.val d)))else none
   | some (.ex c)=>some (.ex c (noS δ))
   | _=>none)else none
  | _=>none
 | .rse c e,δ=>if(G.cls.lookup c).isSome then Re.thnS δ (evE G F e δ) λ _ _=>some (.ex c δ)else none
 | .tryc body c ie ic,δ=>tryD G c ie ic (evSs G F fu body δ)
 | .tryr body c cr _,δ=>if(G.cls.lookup cr).isSome then mB G c cr (evSs G F fu body δ)else none
 | .frz i,δ=>match δ[i]? with
  | some (.own d)=>some (.nx (δ.set i (.val d)))
  | _=>some (.nx δ)
def evSs(G:Gs)(F:Nat->ge DV->EC Ou)(fu:Nat):ge MS->ge Sv->EC Out
 | [],δ=>some (.nx δ)
 | s::r,δ=>match evS G F fu s δ with
  | some (.nx δ')=>evSs G F fu r δ'
  | o=>o
end
noncomputable def y0(n:Nat)(ds:ge DV):ge Sv:=ds.map Sv.val++List.replicate (n - ds.length) .no
def Ou.of(o:EC Out):EC Ou:=match o with
 | some (.nx _)=>some (.v .non false)
 | some (.rt d fr)=>some (.v d fr)
 | some (.rtt d)=>some (.t d)
 | some (.ex c _)=>some (.x c)
 | some (.rtm _ _)=>none
 | none=>none
def Ou.ofM(s0:DV)(o:EC Out):EC Ou:=match o with
 | some (.nx (.od s::_))=>if Y0 s0 s then some (.v (.tup [.non,s]) false)else none
 | some (.rtm d s)=>if Y0 s0 s then some (.v (.tup [d,s]) false)else none
 | some (.ex c _)=>some (.x c)
 | _=>none
noncomputable def xR(G:Gs)(k:Nat)(f:Nat)(ds:ge DV):EC Ou:=if f=rdIx then G.prs k ds else none
def lamR(ev:ME->ge Sv->EC Re)(ds:ge DV):EC Ou:=match ds with
 | .lam m cs::args=>if args.length=m.np/\args.length+cs.length=m.N.length/\DV.nolams args=true/\DV.nolams cs=true then(match ev m.body ((args++cs).map Sv.val)with
  | some (.ok d .strong)=>if d.nolam then some (.v d false)else none
  | _=>none)else none
 | _=>none
def run(G:Gs)(T:ge FD)(fu:Nat):Nat->Nat->ge DV->EC Ou
 | 0,_,_=>none
 | k+1,f,ds=>match T[f]? with
  | none=>if f=D4 then lamR (evE G (run G T fu k)) ds else xR G (k+1) f ds
  | some fd=>if ds.length=fd.np then Ou.of (evSs G (run G T fu k) fu fd.body (y0 fd.n ds))else none
def runM(G:Gs)(T:ge FD)(fu:Nat):Nat->Nat->ge DV->EC Ou
 | 0,_,_=>none
 | k+1,m,ds=>match T[m]?,ds with
  | some fd,s::r=>if ds.length=fd.np then Ou.ofM s (evSs G (runM G T fu k) fu fd.body (.od s::(r.map Sv.val++List.replicate (fd.n - ds.length) .no)))else none
  | _,_=>none
theorem L3:Re.thn (some (.ok d c)) k=k d c:=rfl
theorem gY:Rs.thn (some (.ok l)) k=k l:=rfl
theorem vf:Re.thnS δ (some (.ok d c)) k=k d c:=rfl
theorem vg(h:evS G F fu m δ=some (.nx a)):evSs G F fu (m::r) δ=evSs G F fu r a:=by
 rw[show evSs G F fu _ δ=(match evS G F fu m δ with | some (.nx a)=>evSs G F fu r a | o=>o)from rfl,h]
theorem vh(h:evS G F fu m δ=some (.rt d fr)):evSs G F fu (m::r) δ=some (.rt d fr):=by
 rw[show evSs G F fu _ δ=(match evS G F fu m δ with | some (.nx δ')=>evSs G F fu r δ' | o=>o)from rfl,h]
theorem mD(h:T[f]? = some fd)(a:ds.length=fd.np):run G T fu (k+1) f ds=Ou.of (evSs G (run G T fu k) fu fd.body (y0 fd.n ds)):=by
 show(match T[f]? with | none=>if f=D4 then lamR _ ds else xR G _ f ds | some fd=>if ds.length=fd.np then Ou.of _ else none)=_;rw[h];exact i3 a
end L2
namespace L2
open PySem
theorem mE{I:ge Sv->Prop}:∀{ds:ge DV} {δ:ge Sv},(∀d∈ds,∀δ,I δ->∃b a,tg.bind d δ=some b/\body b=some (.nx a)/\I a)->I δ->∃c,J9 tg body ds δ=some (.nx c)/\I c
 | [],δ,_,i=>⟨δ,rfl,i⟩
 | d::r,δ,h,i=>by obtain⟨b,a,l,k,f⟩:=h d (o8 ..) δ i;obtain⟨c,j,e⟩:=mE (λ d g=>h d (j6 _ g)) f;refine⟨c,?_,e⟩;show(match tg.bind d δ with | none=>none | some b=>(match body b with | some (.nx a)=>J9 tg body r a | o=>o))=_;rw[l];show(match body b with | some (.nx a)=>J9 tg body r a | o=>o)=_;rw[k];exact j
end L2
namespace L2
open PySem
theorem gZ(h:evSs G F fu r δ=some (.rt d fr)):Ou.of (evSs G F fu r δ)=some (.v d fr):=by rw[h];rfl
theorem u3(h:evS G F fu m δ=some (.nx δ'))(a:evSs G F fu r δ'=o):evSs G F fu (m::r) δ=o:=(vg h).trans a
theorem eg(h:evS G F fu m δ=some (.rt d fr)):evSs G F fu (m::r) δ=some (.rt d fr):=vh h
theorem mF(d:tstD (evE G F c δ)=some (.ok bb)):evS G F fu (.iff c a b) δ=if bb then evSs G F fu a δ else evSs G F fu b δ:=by
 show Rt.thnS δ _ _=_;rw[d];rfl
theorem vi(d:tstD (evE G F c δ)=some (.ok false))(h:evSs G F fu b δ=some (.nx δ'))(e:evSs G F fu r δ'=o):evSs G F fu (.iff c a b::r) δ=o:=u3 ((mF d).trans h) e
theorem vj(e:tstD (evE G F c δ)=some (.ok true))(h:evSs G F fu a δ=some (.rt d fr)):evSs G F fu (.iff c a b::r) δ=some (.rt d fr):=eg ((mF e).trans h)
theorem L4(b:tstD (evE G F c δ)=some (.ok false))(d:evSs G F fu r δ=o):evSs G F fu (.iff c a []::r) δ=o:=vi b rfl d
theorem vk(b:G4 (evE G F it δ)=some (.ok ds cl))(c:cl=.strong\/cl=.fresh)(h:J9 tg (λ δ'=>evSs G F fu body δ') ds δ=some (.nx δ'))(d:evSs G F fu r δ'=o):evSs G F fu (.fo tg it body::r) δ=o:=by
 refine u3 ?_ d;show Ri.thnS δ _ _=_;rw[b];show(if cl=.strong\/cl=.fresh then J9 tg _ ds δ else none)=_
 rwa [i3 c]
theorem az(h:evE G F e δ=some (.ok d cl))(hs:stro d cl=true):evS G F fu (.set i false e) δ=some (.nx (δ.set i (.val d))):=by
 show Re.thnS δ _ _=_;rw[h];show(if stro d cl then some _ else none)=_;rw[i3 hs]
theorem vm(h:evE G F e δ=some (.ok d cl))(a:cl ≠ .ft:=by first | decide | (intro z;cases z)):evS G F fu (.ret e) δ=some (.rt d (frD d cl)):=by
 show Re.thnS δ _ _=_;rw[h];show some _=_;cases cl<;>first | rfl | exact absurd rfl a
theorem mG(a:evEs G F es δ=some (.ok l))(hs:(l.all λ p=>p.2 == .strong||p.2 == .fresh)=true)(h:F f (l.map (·.1))=some (.v d fr)):evE G F (.call f es) δ=some (.ok d (if fr then .fresh else .strong)):=by
 show Rs.thn _ _=_;rw[a];show L0 F f l=_;unfold L0;rw[h,hs];rfl
theorem A6(h:evE G F e δ=some (.ok (.bl x) cl)):tstD (evE G F e δ)=some (.ok x):=by rw[h];rfl
theorem hJ(h:evE G F e δ=some (.ok (.bl x) cl)):evE G F (.not e) δ=some (.ok (.bl (!x)) .strong):=by
 show Re.thn _ _=_;rw[h];rfl
end L2
namespace L2
open PySem
theorem aA(d:evE G F a δ=some (.ok x cx))(c:evE G F b δ=some (.ok y cy))(h:binD op x y cx cy=r):evE G F (.bin op a b) δ=r:=by
 show Re.thn _ _=_;rw[d,L3,c,L3,h]
theorem bE(d:evE G F a δ=some (.ok x cx))(c:evE G F b δ=some (.ok y cy))(h:cmpD op x y=some t):evE G F (.cmp op a b) δ=some (.ok (.bl t) .strong):=by
 show Re.thn _ _=_;rw[d,L3,c,L3,h];rfl
theorem vn(e:evE G F a δ=some (.ok x cx))(c:evE G F b δ=some (.ok y cy))(h:ixD x y=some d):evE G F (.ix a b) δ=some (.ok d cx.item):=by
 show Re.thn _ _=_;rw[e,L3,c,L3,h];rfl
theorem u4:evEs G F [] δ=some (.ok []):=rfl
theorem B4(b:evE G F a δ=some (.ok x cx))(h:evEs G F es δ=some (.ok l)):evEs G F (a::es) δ=some (.ok ((x,cx)::l)):=by
 unfold evEs;rw[b,h]
end L2
namespace L2
open PySem
theorem mH(h:test δ=some (.ok false)):C6 test body (n+1) δ=some (.nx δ):=by
 unfold C6;rw[h]
theorem vo(h:test δ=some (.ok true))(a:body δ=some (.nx δ'))(hr:C6 test body n δ'=o):C6 test body (n+1) δ=o:=by
 unfold C6
 rwa [h,a]
theorem vq(h:C6 (λ δ'=>tstD (evE G F c δ')) (λ δ'=>evSs G F fu body δ') fu δ=some (.nx δ'))(b:evSs G F fu r δ'=o):evSs G F fu (.wh c body::r) δ=o:=u3 h b
end L2
namespace L2
open PySem
theorem U7:evE G F (.int i) δ=some (.ok (.int i) .strong):=rfl
theorem C3(h:δ[n]? = some (.val d)):evE G F (.var n) δ=some (.ok d .strong):=by unfold evE;rw[h]
theorem mI(d:evE G F a δ=some (.ok (.int i) cx))(c:evE G F b δ=some (.ok (.int j) cy)):evE G F (.bin .Add a b) δ=some (.ok (.int (i+j)) .strong):=aA d c rfl
theorem vt(d:evE G F a δ=some (.ok (.int i) cx))(c:evE G F b δ=some (.ok (.int j) cy))(h:bA i j=true):evE G F (.bin .Mult a b) δ=some (.ok (.int (i*j)) .strong):=aA d c (i3 h)
theorem hV(d:evE G F a δ=some (.ok (.int i) cx))(c:evE G F b δ=some (.ok (.int j) cy))(h:0<j):evE G F (.bin .Mod a b) δ=some (.ok (.int (i%j)) .strong):=aA d c (i3 h)
theorem b_lt(d:evE G F a δ=some (.ok (.int i) cx))(c:evE G F b δ=some (.ok (.int j) cy)):evE G F (.cmp .Lt a b) δ=some (.ok (.bl (decide (i<j))) .strong):=bE d c rfl
end L2
namespace L2
open PySem
theorem E4:evE G F (.str x) δ=some (.ok (.str x) .strong):=rfl
theorem vv(h:evEs G F es δ=some (.ok l))(b:l.length<=k9)(a:stros l=true):evE G F (.tup es) δ=some (.ok (.tup (l.map (·.1))) .strong):=by
 show Rs.thn _ _=_;rw[h,gY,i3 b,a];rfl
end L2
namespace L2
open PySem
def rmAt(C a dx:Nat)(t:Str):Rm->Rm
 | .ok d (.int k')=>.ok d (rdD C a dx t k')
 | o=>o
noncomputable def startM(n:Nat)(s:DV)(r:ge DV):ge Sv:=.od s::(r.map Sv.val++List.replicate (n - (r.length+1)) .no)
theorem hY(h:T[m]? = some d):runM G T fu (k+1) m (s::ds)=if(s::ds).length=d.np then Ou.ofM s (evSs G (runM G T fu k) fu d.body (startM d.n s ds))else none:=by
 show(match T[m]?,s::ds with
  | some a,s::r=>if(s::ds).length=a.np then Ou.ofM s (evSs G _ fu a.body _)else none
  | _,_=>none)=_
 rw[h];rfl
theorem mJ:Y0 (rdD C a dx z k) (rdD C a dx z b)=true:=by
 show(decide _&&decide _&&decide _&&decide (z=z))=true;simp
theorem mK{G:Gs}{C a:Nat}(b:G.rdc=C):rdB G (rdD C a dx z j)=true:=by
 show(decide _&&decide _&&decide _&&decide _)=true;rw[b];simp
theorem hZ{G:Gs}{C a:Nat}(c:G.rdc=C)(b:Bool):fldD G b (rdD C a dx z j)=some (if b then .int j else .str z):=by
 show(if(C:Int)=G.rdc/\0<=(C:Int)then some (if b then DV.int j else .str z)else none)=_;rw[i3 ⟨c.symm,by omega⟩]
theorem mL{G:Gs}{i C a dx:Nat}(b:G.rdc=C)(h:δ[i]? = some (.od (rdD C a dx z j))):evE G F (.fld i false) δ=some (.ok (.str z) .strong):=by
 unfold evE;rw[h];show(fldD G false _).map _=_;rw[hZ b];rfl
theorem ib{G:Gs}{i C a dx:Nat}(b:G.rdc=C)(h:δ[i]? = some (.od (rdD C a dx z j))):evE G F (.fld i true) δ=some (.ok (.int j) .strong):=by
 unfold evE;rw[h];show(fldD G true _).map _=_;rw[hZ b];rfl
theorem mM{G:Gs}{i m C a dx:Nat}(c:G.rdc=C)(b:G.mtx=true)(h:δ[i]? = some (.od (rdD C a dx z j)))(e:F m [rdD C a dx z j]=some (.v (.tup [d,rdD C a dx z j]) fr)):evE G F (.mth i m) δ=some (.ok d .strong):=by
 unfold evE;rw[h];show(if G.mtx=true/\rdB G _=true then(match Rm.of (F m _)with
   | some (.ok d s')=>if eqRd _ s' then some (Re.ok d .strong)else none
   | _=>none)else none)=_
 rw[i3 ⟨b,mK c⟩,e];show(if eqRd _ _=true then some (Re.ok d .strong)else none)=_;rw[i3 (show eqRd (rdD C a dx z j) _=true from x6 (rfl:rdK _=some _))]
theorem vw{n:Nat}{i g c3:Cl}(f:evE G F x δ=some (.ok (.str z) i))(c:evE G F a δ=some (.ok (.int (n:Int)) g))(e:evE G F b δ=some (.ok (.int v) c3))(h:(n:Int)<=B3 z.length v):evE G F (.stm x a b) δ=some (.ok (.str (cutS z n (B3 z.length v).toNat)) .strong):=by
 unfold evE;rw[f,c,e];show((if 0<=_/\_<=B3 z.length v then some (DV.str _)else none).map λ d=>Re.ok d .strong)=_;rw[i3 ⟨by omega,h⟩];rfl
theorem vy{G:Gs}{i C a dx:Nat}(f:G.rdc=C)(h:δ[i]? = some (.od (rdD C a dx z j)))(b:evE G F e δ=some (.ok (.int x) c)):evS G F fu (.fau i e) δ=some (.nx (δ.set i (.od (rdD C a dx z (j+x))))):=by
 unfold evS;rw[h];show(match fldD G true (rdD C a dx z j)with
   | some _=>Re.thnS δ _ λ d _=>(match d with
    | .int y=>some _
    | _=>none)
   | none=>none)=_
 rw[hZ f,b];rfl
theorem bF{G:Gs}{i m C a dx:Nat}{j:Int}(f:G.rdc=C)(e:G.mtx=true)(h:δ[i]? = some (.od (rdD C a dx z j)))(b:stros l=true){r:Rm}(g:Rm.of (F m (rdD C a dx z j::l.map (·.1)))=some r):Y2 G F i m δ (some (.ok l)) k=(match(generalizing:=false) r with | .ok d s'=>k d s' | .ex c=>some (.ex c (noS δ))):=by
 unfold Y2;rw[h];show(if G.mtx=true/\rdB G _=true then(if stros l=true then(match Rm.of (F m _)with
   | some (.ok d s')=>k d s'
   | some (.ex c)=>some _
   | none=>none)else none)else none)=_
 rw[i3 ⟨e,mK f⟩,i3 b,g];cases r<;>rfl
theorem bG{G:Gs}{i m C a dx:Nat}{d:DV}{b:DV}(g:G.rdc=C)(e:G.mtx=true)(h:δ[i]? = some (.od (rdD C a dx z j)))(f:evEs G F es δ=some (.ok l))(c:stros l=true)(k:F m (rdD C a dx z j::l.map (·.1))=some (.v (.tup [d,b]) fr)):evS G F fu (.msx i m es) δ=some (.nx (δ.set i (.od b))):=by
 unfold evS;rw[f,bF g e h c (by rw[k];rfl)]
theorem bH{G:Gs}{i m C a dx:Nat}(f:G.rdc=C)(d:G.mtx=true)(h:δ[i]? = some (.od (rdD C a dx z j)))(e:evEs G F es δ=some (.ok l))(c:stros l=true)(g:F m (rdD C a dx z j::l.map (·.1))=some (.x b)):evS G F fu (.msx i m es) δ=some (.ex b (noS δ)):=by
 unfold evS;rw[e,bF f d h c (by rw[g];rfl)]
theorem U8{G:Gs}{i m C a dx:Nat}{d:DV}{b:DV}{n:Nat}(e:n≠i)(k:G.rdc=C)(f:G.mtx=true)(h:δ[i]? = some (.od (rdD C a dx z j)))(g:evEs G F es δ=some (.ok l))(c:stros l=true)(o:F m (rdD C a dx z j::l.map (·.1))=some (.v (.tup [d,b]) fr)):evS G F fu (.mst n i m es) δ=some (.nx ((δ.set i (.od b)).set n (.val d))):=by
 unfold evS;rw[g,bF k f h c (by rw[o];rfl)];exact i3 e
theorem Y3{G:Gs}{i m C a dx:Nat}(f:G.rdc=C)(d:G.mtx=true)(h:δ[i]? = some (.od (rdD C a dx z j)))(e:evEs G F es δ=some (.ok l))(c:stros l=true)(g:F m (rdD C a dx z j::l.map (·.1))=some (.x b)):evS G F fu (.mst n i m es) δ=some (.ex b (noS δ)):=by
 unfold evS;rw[e,bF f d h c (by rw[g];rfl)]
theorem vz{G:Gs}{i m C a dx:Nat}(e:G.rdc=C)(c:G.mtx=true)(h:δ[i]? = some (.od (rdD C a dx z j)))(f:F m [rdD C a dx z j]=some (.v (.tup [d,b]) fr)):evS G F fu (.rtd i m x) δ=some (.rtm (.tup [.str x,d]) b):=by
 unfold evS;rw[bF e c h rfl (by show Rm.of (F m [rdD C a dx z j])=_;rw[f];rfl)]
theorem U9(h:δ[i]? = some (.od a))(f:evE G F e δ=some (.ok d c))(b:stro d c=true):evS G F fu (.rtm i e) δ=some (.rtm d a):=by
 unfold evS;rw[h,f];exact i3 b
theorem O1(h:evS G F fu a δ=some (.rtm d b)):evSs G F fu (a::r) δ=some (.rtm d b):=by
 show(match evS G F fu a δ with | some (.nx δ')=>evSs G F fu r δ' | o=>o)=_;rw[h]
theorem mO(h:tstD (evE G F cd δ)=some (.ok true))(b:evSs G F fu x δ=some (.rtm d a)):evSs G F fu (.iff cd x y::r) δ=some (.rtm d a):=by
 refine O1 ?_;show Rt.thnS δ _ _=_;rw[h];exact b
theorem Q8(h:evSs G F fu r δ=some (.rtm d (rdD C a dx z b))):Ou.ofM (rdD C a dx z j) (evSs G F fu r δ)=some (.v (.tup [d,rdD C a dx z b]) false):=by
 rw[h];exact i3 mJ
theorem vA(h:evSs G F fu r δ=some (.nx (.od (rdD C a dx z c)::b))):Ou.ofM (rdD C a dx z j) (evSs G F fu r δ)=some (.v (.tup [.non,rdD C a dx z c]) false):=by
 rw[h];exact i3 mJ
theorem F1(h:evSs G F fu r δ=some (.ex b a)):Ou.ofM c (evSs G F fu r δ)=some (.x b):=by rw[h];rfl
def Rise(xs:EJ Nat):Prop:=∀(i k x y:Nat),i<k->xs[i]? = some x->xs[k]? = some y->x<y
theorem mP(v:Rise xs):∀(c b a:Nat),b<=a->a<=xs.size->a - b<=c ->
  (∀i x,i<b->xs[i]? = some x->x<j)->(∀i x,a<=i->xs[i]? = some x->j<=x) ->
  (∀i x,i<SetTable.below.go xs j c b a->xs[i]? = some x->x<j)/\(∀i x,SetTable.below.go xs j c b a<=i->xs[i]? = some x->j<=x):=by
 intro c
 induction c with
 | zero=>
  intro b a z w y l k;have:b=a:=by omega
  subst this;exact⟨l,k⟩
 | succ n u=>
  intro b a z w y l k;unfold SetTable.below.go;by_cases g:b<a
  ·rw[i3 g];have hm:(b+a)/2<a:=by omega
   have o:b<=(b+a)/2:=by omega
   have m:(b+a)/2<xs.size:=by omega
   have h:=M8 m;have r:xs.getD ((b+a)/2) j=xs[(b+a)/2]:=(by rw[Z6,h];rfl);dsimp only;rw[r];by_cases f:xs[(b+a)/2]<j
   ·rw[i3 f];refine u _ _ (by omega) w (by omega) (λ i x p d=>?_) k;rcases aZ i ((b+a)/2)with q | q
    ·exact Nat.lt_trans (v i _ x _ q d h) f
    ·have e:i=(b+a)/2:=by omega
     subst e;rw[h]at d;cases d;exact f
   ·rw[i4 f];refine u _ _ o (by omega) (by omega) l λ i x p d=>?_
    rcases aZ ((b+a)/2) i with q | q
    ·exact o6 (fS f) (X3 (v _ i _ x q h d))
    ·have e:i=(b+a)/2:=by omega
     subst e;rw[h]at d;cases d;exact fS f
  ·rw[i4 g];have:b=a:=by omega
   subst this;exact⟨l,k⟩
theorem ig(b:Rise xs)(h:i<SetTable.below xs j)(a:xs[i]? = some x):x<j:=
 (mP b xs.size 0 xs.size (E2 _) (j0 _) (by omega) (λ i x h=>by omega) λ i x h a=>by
  rw[P4 h]at a;cases a).1 i x h a
theorem ej(b:Rise xs)(h:SetTable.below xs j<=i)(a:xs[i]? = some x):j<=x:=
 (mP b xs.size 0 xs.size (E2 _) (j0 _) (by omega) (λ i x h=>by omega) λ i x h a=>by
  rw[P4 h]at a;cases a).2 i x h a
theorem vB:∀(a c b:Nat),c<=b->SetTable.below.go xs j a c b<=b:=by
 intro a
 induction a with
 | zero=>intro c b h;exact h
 | succ n d=>
  intro c b h;unfold SetTable.below.go;dsimp;split
  ·split
   ·exact d _ _ (by omega)
   ·exact o6 (d _ _ (by omega)) (by omega)
  ·exact h
theorem mQ:SetTable.below xs j<=xs.size:=vB _ _ _ (E2 _)
theorem vC(d:Rise xs)(c:xs[i]? = some x):SetTable.below xs (x+1)=i+1:=by
 have hi:i<xs.size:=by
  rcases aZ i xs.size with h | h
  ·exact h
  ·rw[P4 h]at c;cases c
 rcases Nat.lt_trichotomy _ _ with h | h | h
 ·have:=ej d (j:=x+1) (Nat.le_of_lt_succ h) c;omega
 ·exact h
 ·have h2:SetTable.below xs (x+1)<=xs.size:=mQ;have f:i+1<xs.size:=by omega
  have e:=M8 f;have a:=ig d h e;have b:=d i _ x _ (Q0 _) c e;omega
theorem vD(b:Rise xs):SetTable.below xs 0=0:=by
 rcases Nat.eq_zero_or_pos _ with h | h
 ·exact h
 ·have h2:SetTable.below xs 0<=xs.size:=mQ;have a:=ig b h (M8 (by omega));omega
theorem Rise.empty:Rise #[]:=λ i k x y _ a=>by simp at a
theorem Rise.range(n:Nat):Rise (Array.range n):=λ i k x y h b a=>by
 rw[Array.getElem?_range]at b a;split at b
 ·split at a
  ·cases b;cases a;exact h
  ·cases a
 ·cases b
theorem mR{l:ge Nat}(h:l.Pairwise (· < ·)):Rise l.toArray:=λ i k x y a c b=>by
 obtain⟨e,g⟩:=n7.mp (by simpa using c);obtain⟨d,f⟩:=n7.mp (by simpa using b);rw[←g,←f];exact jU.mp h i k e d a
theorem vE(h:Rise xs):xs.toList.Pairwise (· < ·):=by
 refine jU.mpr λ i k c b a=>?_;exact h i k _ _ a (by rw[←E7];exact o4 c) (by rw[←E7];exact o4 b)
structure Tab(t:SetTable)(b:Bool):Prop where
 rise:Rise t.place
 dum:t.dummies = #[]
 led:t.led=b
theorem Tab.fresh(b:Bool):Tab (SetTable.fresh 0 0 b) b:=⟨Rise.empty,rfl,rfl⟩
theorem Tab.standIn(h:Tab t b)(n:Nat):Tab (t.standIn n) b:=⟨Rise.range n,rfl,h.led⟩
theorem mS(j:Nat):SetTable.has #[] j=false:=by
 unfold SetTable.has;simp
theorem vF(h:Tab t b)(f:Nat->Int)(z:Int):∀(a:Nat) (p:SetTable.Probe) (j:Nat) (d:EC Nat),p.dummy=none->SetTable.probe.go t f z a p=some (.empty j d)->d=none/\t.slot j=.empty:=by
 intro a
 induction a with
 | zero=>intro p j d c e;cases e
 | succ n g=>
  intro p j d c e;unfold SetTable.probe.go at e;cases hs:t.slot p.j with
  | empty=>rw[hs]at e;cases e;exact⟨c,hs⟩
  | dummy=>
   unfold SetTable.slot at hs;rw[h.dum,mS]at hs;dsimp at hs;split at hs
   ·cases hs
   ·cases hs
  | live i=>
   rw[hs]at e;dsimp at e;split at e
   ·cases e
   ·refine g _ j d ?_ e;unfold SetTable.advance;split
    ·exact c
    ·exact c
theorem vG(h:Tab t b)(e:t.freeSlot z=some (j,w)):t.slot j=.empty:=by
 unfold SetTable.freeSlot at e;split at e
 ·rename_i j' d a;obtain⟨c,hs⟩:=vF h _ _ _ _ _ _ rfl a;subst c;cases e;exact hs
 ·cases e
theorem Tab.put(h:Tab t b)(hs:t.slot j=.empty):Tab (t.put j).1 b:=by
 have m:t.place[SetTable.below t.place j]? ≠ some j:=λ z=>by unfold SetTable.slot at hs;dsimp only at hs;rw[z]at hs;simp at hs
 refine⟨?_,?_,h.led⟩
 ·show Rise _;have g:=vE h.rise;have:(SetTable.insertAt t.place (SetTable.below t.place j) j).toList.Pairwise (· < ·):=by
   rw[(SetTable.toList_insertAt _ _ _),List.pairwise_append];refine⟨g.sublist (fL _ _),T5.mpr ⟨λ y f=>?_,g.sublist (List.drop_sublist _ _)⟩,λ x l y f=>?_⟩
   ·obtain⟨i,d⟩:=cK.mp f;rw[cQ,E7]at d;rcases Nat.lt_or_eq_of_le (ej h.rise (T9 _ _) d)with q | q
    ·exact q
    ·exfalso;subst q;rcases Nat.eq_zero_or_pos i with z | z
     ·subst z;exact m d
     ·have n:SetTable.below t.place j<t.place.size:=by
       rcases aZ (SetTable.below t.place j+i) t.place.size with q | q
       ·omega
       ·rw[P4 q]at d;cases d
      have k:=M8 n;have a:=ej h.rise (j0 _) k;have c:=h.rise _ _ _ _ (by omega) k d;omega
   ·have e:x<j:=by
     obtain⟨i,d⟩:=cK.mp l;rw[List.getElem?_take]at d;split at d
     ·rw[E7]at d;exact ig h.rise (by omega) d
     ·cases d
    rcases i6.mp f with q | q
    ·rw[q];exact e
    ·obtain⟨i,d⟩:=cK.mp q;rw[cQ,E7]at d;exact q5 e (ej h.rise (T9 _ _) d)
  have r:=mR this
  rwa [Array.toArray_toList]at r
 ·show(if SetTable.has t.dummies j then _ else t.dummies) = #[];rw[h.dum,mS];rfl
theorem Tab.orStandIn(h:Tab t b)(n:Nat):Tab (t.orStandIn n) b:=by
 unfold SetTable.orStandIn;split
 ·exact h
 ·exact h.standIn n
theorem Tab.layNew{t:ET}{b:Bool}(h:Tab t b)(es:EJ (Int×ED))(z:Int)(x:ED):Tab (layNew t es z x).2.1 b:=by
 unfold PySem.layNew;split
 ·rename_i j w e;exact(h.put (vG h e)).orStandIn _
 ·exact h.standIn _
theorem mT{f:Nat->EC Nat}:∀{l:ge Nat},l.Pairwise (· < ·)->((l.filterMap λ j=>(f j).map (j,·)).map (·.1)).Pairwise (· < ·)
 | [],_=>.nil
 | a::l,h=>by
  obtain⟨o,n⟩:=T5.mp h;have d:=mT (f:=f) n;rw[cM];cases e:f a with
  | none=>exact d
  | some c=>
   refine T5.mpr ⟨λ y i=>?_,d⟩;obtain⟨p,k,rfl⟩:=G6.mp i;obtain⟨j,m,b⟩:=N1.mp k;cases g:f j with
   | none=>rw[g]at b;cases b
   | some c2=>rw[g]at b;cases b;exact o j m
theorem Tab.relayAll{t:ET}{b:Bool}(h:Tab t b)(es:EJ (Int×ED))(n:Nat):Tab (relayAll t es n).2.1 b:=by
 unfold PySem.relayAll;split
 ·rename_i t' order e;dsimp only;split
  ·show Tab t' b;unfold SetTable.relaid SetTable.laid at e;cases hl:SetTable.layClean (SetTable.sizeAbove n - 1) (es.map (·.1))with
   | none=>rw[hl]at e;cases e
   | some owner=>
    rw[hl]at e;cases e;exact⟨mR (mT (List.pairwise_lt_range)),rfl,h.led⟩
  ·exact h.standIn _
 ·exact h.standIn _
theorem ii{b:Type}{x:b}:∀{l:ge b} {i:Nat} (h:i<l.length),l[i]=x->(x::l.eraseIdx i).Perm l
 | [],i,h,_=>by cases h
 | a::l,0,_,e=>by have e:=e;subst e;exact .rfl
 | a::l,i+1,h,e=>by rw[List.eraseIdx_cons_succ];exact(List.Perm.swap a x _).trans (List.Perm.cons a (ii (by simpa using h) (by simpa using e)))
theorem vH(d:Nat->Nat):∀(c k:Nat) (b:ge i) (f:EJ i),b.length<=c->(pickOrder.go d c k b f).toList.Perm (f.toList++b):=by
 intro c
 induction c with
 | zero=>
  intro k b f h;have:b=[]:=W6.mp (by omega);subst this;unfold pickOrder.go;rw[v3]
 | succ n j=>
  intro k b f h;unfold pickOrder.go;cases e:b[d k%b.length]? with
  | none=>
   have:b=[]:=by
    cases b with
    | nil=>rfl
    | cons a r=>
     have g:d k%(a::r).length<(a::r).length:=Nat.mod_lt _ (by simp);rw[o4 g]at e;cases e
   subst this;rw[v3]
  | some x=>
   obtain⟨g,l⟩:=n7.mp e;refine(j _ _ _ ((by rw[List.length_eraseIdx,i3 g];omega))).trans ?_;rw[Array.toList_push,ae];refine List.Perm.append_left _ ?_;exact ii g l
theorem mU(a:Nat->Nat)(xs:EJ b):(pickOrder a xs).toList.Perm xs.toList:=by
 unfold pickOrder;exact(vH a xs.size 0 xs.toList #[] (by simp)).trans (by simp)
noncomputable def K0:ED->Int
 | .int n _=>n
 | _=>0
noncomputable def A7(w:EK):Bool:=w.params.followText "set-order"
def SetI(prog:EL)(w:EK)(h:EH)(a:EG)(ks:ge Int):Prop:=
 ∃o es ep t,h.get? a=some o/\o.ExactSet/\o.data=.set es ep t/\ElemsOf (intKind prog w) es.toList/\(es.toList.map λ e=>K0 e.2).Perm ks/\es.size<scanBound/\t.fits es.size=true/\Tab t (!A7 w)
theorem mV(h:ElemsOf (intKind prog w) es)(b:e∈es):∃t,e.2=.int (K0 e.2) t:=by
 obtain⟨⟨k,a,_⟩,_⟩:=h e b;obtain⟨t,q⟩:=Value.isInt_shape a;exact⟨t,by rw[q];rfl⟩
theorem mW(h:ElemsOf (intKind prog w) es)(a:e∈es)(k:Int):(intKind prog w).is k e.2=true↔K0 e.2=k:=by
 obtain⟨t,q⟩:=mV h a;rw[q];show Value.isInt k (.int _ t)=true↔_;simp[Value.isInt,K0]
theorem SetI.at{prog:EL}{w:EK}{a:EG}{ks:ge Int}{h h':EH}(x:SetI prog w h a ks)(k:∀o,h.get? a=some o->h'.get? a=some o):SetI prog w h' a ks:=by
 obtain⟨o,es,ep,t,ho,r⟩:=x;exact⟨o,es,ep,t,k o ho,r⟩
theorem mX{h:EH}(c:h.get? a=some o)(b:o.data=.set es ep t) :
  (h.update a (Obj.putSet es' t')).get? a=some {o with data:=.set es' (ep+1) t'}:=by
 have q:=K6 (Obj.putSet es' t') c (by rw[putSet_of es' t' b];rfl)
 rwa [putSet_of es' t' b]at q
theorem vI{prog:EL}{w:EK}{A:EM}{s:EF}{a:EG}{j:ge Int}{k:Int}{tk:Tok}{o:Obj}{ep:Nat}{t:ET}(r:s.heap.get? a=some o)(q:o.ExactSet)(u:o.data=.set es ep t)
    (l:ElemsOf (intKind prog w) es.toList) (H:(es.toList.map λ e=>K0 e.2).Perm j) (hb:es.size+1<scanBound) (ht:Tab t (!A7 w))
     {d:ET} (p1:c.toList.Perm (es.toList++[(hashInt k,Value.int k tk)])) (J:d.fits c.size=true) (x:Tab d (!A7 w)) (F:Bool) {g:Bool->Sem Unit}
    (I:∀(b:Bool) (f:EF) (Q':Unit->EF->Prop),Q' () f->wpAny (model prog w) A (g b) Q' E f)
    (h:∀m,Heap.SameBut a s.heap m->SetI prog w m a (j++[k])->Q (some true) {s with heap:=m}) :
    wpAny (model prog w) A (do
      storeSet a c d
      if(!F&&d.tooFull)=true then do
        g (relayAll d c (SetTable.grown c.size)).2.2
        storeSet a (relayAll d c (SetTable.grown c.size)).1 (relayAll d c (SetTable.grown c.size)).2.1
        pure (some true)
      else pure (some true)) Q E s:=by
  have z1:c.size=es.size+1:=(by have:=p1.length_eq;rw[B7,A5,A5]at this;exact this);have z:ElemsOf (intKind prog w) c.toList:=(l.push (intKind_is prog w k tk) rfl).perm p1;have p:(c.toList.map λ e=>K0 e.2).Perm (j++[k]):=(by refine(p1.map _).trans ?_;rw[List.map_append];exact H.append_right _);have C:c.size<scanBound:=by omega
  refine g6 (wpAny_storeSet_of r u ?_ (fN C));have i:=mX (es':=c) (t':=d) r u;have n:=N0 s.heap a (Obj.putSet c d);split
  · have p2:=relayAll_perm d c (SetTable.grown c.size)
    have y:=relayAll_fits d c (SetTable.grown c.size);have v:=x.relayAll c (SetTable.grown c.size);generalize relayAll d c (SetTable.grown c.size)=R at p2 y v ⊢;have z2:R.1.size=c.size:=by
      have:=p2.length_eq
      rwa [A5,A5]at this
    have B:R.1.size<scanBound:=by omega
    refine g6 (I _ _ _ ?_);refine g6 (wpAny_storeSet_of i rfl ?_ (fN B));refine i0 (h _ (n.trans (N0 _ a _)) ?_);exact⟨_,R.1,_,R.2.1,mX i rfl,q,rfl,z.perm p2,(p2.map _).trans p,B,y,v⟩
  · refine i0 (h _ n ?_)
    exact⟨_,c,_,d,i,q,rfl,z,p,C,J,x⟩
theorem vJ(Z:SetI prog w s.heap a ks)(hr:ks.length+1<scanBound)
  (h:∀n b,Heap.SameBut a s.heap n->SetI prog w n a (dk ks k)->Q b {s with heap:=n}) :
  wpAny (model prog w) A (setAddHashed a (.int k tk) (hashInt k)) Q E s:=by
 obtain⟨o,es,ep,t,B,W,F,f,u,Y,P,K⟩:=id Z;have hz:es.size=ks.length:=by
  have:=u.length_eq
  rwa [n8,A5]at this
 have M:∀(b:Bool) (d:EF) (H:Unit->EF->Prop),H () d->wpAny (model prog w) A (match b with | true=>rule "set.scan.the-table-gave-way" | false=>pure ()) H E d:=λ b d H q=>by
  cases b with
  | true=>exact Q4 q
  | false=>exact i0 q
 unfold setAddHashed setAddHashedIn;refine x8 (g6 (af B F P ?_));dsimp only;rw[byScan_of rfl Y f,i3 rfl];unfold setAddByScan;refine g6 (g6 (Q4 (g6 ?_)));refine wpAny_setScan_of (intKind_is prog w k tk) B F P f ?_;cases O:es.toList.findIdx? _ with
 | some j=>
  obtain⟨N,X,_⟩:=List.findIdx?_eq_some_iff_getElem.mp O;have C:=u.mem_iff.mp (G6.mpr ⟨es.toList[j],W9 N,(mW f (W9 N) k).mp X⟩);have m:dk ks k=ks:=by unfold dk;rw[i3 C]
  refine i0 (i0 ?_);have:=h s.heap false (Heap.SameBut.refl a s.heap) (by grind);exact this
 | none=>
  have C:k∉ks:=λ z=>by obtain⟨e,R,q⟩:=G6.mp (u.mem_iff.mpr z);have:=List.findIdx?_eq_none_iff.mp O e R;rw[(mW f R k).mpr q]at this;cases this
  have m:dk ks k=ks++[k]:=(by unfold dk;rw[i4 C]);rw[m]at h;dsimp only;have p1:=layNew_perm t es (hashInt k) (.int k tk);have y:=layNew_fits t es (hashInt k) (.int k tk);have v:=K.layNew es (hashInt k) (.int k tk);show wpAny _ _ _ _ _ _
  change wpAny _ A (match layNew t es (hashInt k) (.int k tk)with | _=>_) _ _ _
  generalize layNew t es _ _=L at p1 y v ⊢;obtain⟨c,J,I,gv⟩:=L;rw[Array.toList_push]at p1;dsimp only at p1 y v ⊢;refine g6 (M gv _ _ ?_);have p:∀g:ET,g.fits c.size=true->Tab g (!A7 w)->wpAny (model prog w) A (do
   storeSet a c g
   if(!I&&g.tooFull)=true then do
    (λ b:Bool=>match b with | true=>rule "set.scan.the-table-gave-way" | false=>pure ()) (relayAll g c (SetTable.grown c.size)).2.2
    storeSet a (relayAll g c (SetTable.grown c.size)).1 (relayAll g c (SetTable.grown c.size)).2.1
    pure (some true)
   else pure (some true)) (λ r U=>wpAny (model prog w) A (match r with | some l=>pure l | none=>setAddHashedIn a (.int k tk) (hashInt k) 99999) Q E U) E s:=λ g f2 g2=>
   vI B W F f u (by omega) K p1 f2 g2 I M λ n S S'=>i0 (h n true S S')
  split
  ·refine g6 ?_;rw[hashByValue_scannable 8 rfl];refine i0 ?_;exact p J y v
  ·refine g6 (i0 ?_);exact p J y v
open PySem.Spec PyProof.Rows
def fm(val:Nat->Int)(i:Nat):ge Int:=((List.range i).map val).foldl dk []
theorem mY(a:Nat->Int)(i:Nat):fm a (i+1)=dk (fm a i) (a i):=by
 unfold fm;rw[List.range_succ,List.map_append,List.foldl_append];rfl
theorem vK(σ:ge Int)(k:Int):(dk σ k).length<=σ.length+1:=by
 unfold dk;split
 ·exact ak _
 ·rw[B7];exact j0 _
theorem mZ(a:Nat->Int):∀i,(fm a i).length<=i
 | 0=>j0 _
 | i+1=>by rw[mY];exact o6 (vK _ _) (Nat.succ_le_succ (mZ a i))
theorem SetI.moved(x:SetI prog w s.heap S ks)(b:Moved wr G s a)(c:S∉wr):SetI prog w a.heap S ks:=x.at λ o e=>b.heap S o c e
theorem vL{prog:EL}{w:EK}{A:EM}{I:EG}{n:Nat}{St:Nat->EF->Prop}(W:WalksS prog w A.in1 I fp f G n P St)(S:EG)(j:S∉fp)(val:Nat->Int)(g:∀i v,P i v->∃t,v=.int (val i) t)(d:n+1<scanBound) :
  ∀(k i:Nat) (s:EF),i+k=n->St i s->SetI prog w s.heap S (fm val i) ->
   (∀a,Moved (S::f) G s a->SetI prog w a.heap S (fm val n)->R (.ok (.ret .none)) a)->codeAny (model prog w) A (.builtin "set.update.loop" ⟨[.ref S,.ref I],[]⟩) R s:=by
 have u:S∉f:=λ z=>j (W.sub S z);have r:∀b∈f,b∈S::f:=λ b z=>j6 S z;intro k
 induction k with
 | zero=>
  intro i s e st hs q;have e:i=n:=e;subst e;refine Q2 ke ?_;rw[W7 fB];show wpAny (model prog w) A.in1 (pyNext (.ref I) >>= _) _ _ s;refine g6 (W.done s _ _ st λ a h=>?_);show wpAny (model prog w) A.in1 (ret Value.none) _ _ a;exact i0 (q a (h.mono r) (hs.moved h u))
 | succ k C=>
  intro i s e st hs q;have H:i<n:=by omega
  refine Q2 ke ?_;rw[W7 fB];show wpAny (model prog w) A.in1 (pyNext (.ref I) >>= _) _ _ s;refine g6 (W.item i s _ _ H st λ v a J l h=>?_);obtain⟨t,E⟩:=g i v J;subst E;have m:=hs.moved h u;show wpAny (model prog w) A.in1 _ _ _ a;refine g6 (x8 ?_);unfold setAdd;refine x8 (g6 ((intKind prog w).pyHash (k:=val i) (intKind_is prog w (val i) t) ?_));have hl:=mZ val i;refine vJ (s:={a with toks:=a.toks+1}) (k:=val i) (tk:=t) m (by omega) λ x b y L=>?_;have c:∀b o,b≠S->a.heap.get? b=some o->x.get? b=some o:=λ b o d e=>by rw[y.2 b d];exact e
  refine i0 ⟨X2 fB _,C (i+1) _ (by omega) (W.frame (i+1) a x _ l (ak _) λ b d o e=>c b o (λ z=>j (z▸d)) e) (by rw[mY];exact L) λ B p K=>?_⟩;refine q B (Moved.trans W.gtrans ((h.mono r).then_heap (ak _) λ b o d e=>c b o (λ z=>d (z▸o8)) e) p) K
noncomputable def set0(w:EK):Obj:={cls:=.type "set",dict:=none,data:=.set #[] 0 (.fresh 0 0 (!A7 w))}
theorem vM(e:h.get? a=some (set0 w)):SetI prog w h a []:=
 ⟨_,#[],0,_,e,⟨rfl,rfl,rfl⟩,rfl,λ _ z=>by simp at z,by simp,by decide,by rfl,Tab.fresh _⟩
theorem vN(v:ED)(h:Q (.ref s.heap.objs.size) {s with heap:=s.heap.push (set0 w)}) :
  codeAny (model prog w) A (.call (.builtin "set.__new__") ⟨[.type "set",v],[]⟩) (wants Q E) s:=by
 refine codeAny_of_tree ?_;show wpAny _ A.in1 _ _ _ s;refine g6 (bc (F.newCall_set_1 v) ?_);refine i0 ⟨X2 F.plain_set_new _,Q2 F.entry_set_new ?_⟩;rw[W7 F.plain_set_new];unfold Builtin.«set.__new__» Builtin.Frozenset.newClass;have q:=sub_set_self;obtain⟨h0,g0,d0,t0,o0⟩:=s
 wp_walk
 refine ah (i0 ?_);simp[newObj];exact g6 (wpAny_alloc (i0 (i0 h)))
theorem vO{prog:EL}{w:EK}{A:EM}{E:ED->EF->Prop}{s:EF}{l:EG}{items:EJ ED}{ns:ge Int}{Q:ED->EF->Prop}(hh:A.handled=none)(hl:s.heap.IsList l items)(hi:IntsAre items.toList ns)(hb:items.size+1<scanBound)
  (h:∀h' tk,SetI prog w h' s.heap.objs.size (fm (λ i=>ns.getD i 0) items.size)->(∀b o,s.heap.get? b=some o->h'.get? b=some o)->Q (.ref s.heap.objs.size) {s with heap:=h',toks:=tk}) :
  wpAny (model prog w) A (call (.type "set") [.ref l]) Q E s:=by
 have m0:=F.called_set.mro;obtain⟨c0,r0,m1⟩:=m0;have m2:=F.called_set.made;have m3:=F.called_set.sub;have m4:=F.called_set.notType;have m5:=F.called_set.canCreate;have m6:=F.typeCall_set_1 (.ref l);refine bf (codeAny_of_tree ?_);show wpAny (model prog w) _ (callAny (.type "set") _) _ _ _;refine i0 ⟨Code.quiet_builtin _ (by decide +kernel),Q2 F.entry_type_call ?_⟩;rw[Around.under_plain (weight_type_call_type "set" [.ref l] []) rfl]
 repeat (any_goals (first | assumption | wp_step))
 refine J4 (vN (.ref l) (E:=E) (Q:=λ v s1=>v=.ref s.heap.objs.size/\s1 = {s with heap:=s.heap.push (set0 w)}) ⟨rfl,rfl⟩) λ r s1 q=>?_;cases r with
 | error e=>exact q
 | ok f=>
  cases f with
  | ret v=>
   obtain⟨e1,e2⟩:=q;subst e1;subst e2;have g0:(s.heap.push (set0 w)).get? s.heap.objs.size=some (set0 w):=k6 _ rfl;have ty:Shared.TypeIs {s with heap:=s.heap.push (set0 w)} (.ref s.heap.objs.size) "set":=⟨_,g0,rfl⟩;have n1:=F.called_set.init.lookup;have n2:=F.called_set.init.bind (.ref s.heap.objs.size)
   repeat (any_goals (first | assumption | wp_step))
   refine J4 (fE (R:=wants (λ v s2=>v=.none/\∃h' tk,s2 = {s with heap:=h',toks:=tk} /\ SetI prog w h' s.heap.objs.size (fm (λ i=>ns.getD i 0) items.size) /\
     ∀b o,s.heap.get? b=some o->h'.get? b=some o) E) F.called_set.init.plain F.entry_set_init (check_set_init_1 ty ?_)) λ r2 s2 q2=>?_
   ·obtain⟨⟨k1,k2,k3,k4⟩,kl,kc,kn,kd⟩:=hl;dsimp only at kc kd;subst kc;subst kd;have kl':(s.heap.push (set0 w)).get? l=some {cls:=.type "list",dict:=k2,data:=.seq items kn,slots:=k4}:=i5 _ kl;have il:(s.heap.push (set0 w)).IsList l items:=⟨_,kl',rfl,kn,rfl⟩;have p1:=F.sub_list_set;have p2:=F.sub_list_frozenset;have p3:(Value.type "list" == Value.type "dict")=false:=by decide
    unfold Builtin.«set.__init__» noKeywords Builtin.Frozenset.updateFrom;generalize hP:pyIter=PI
    wp_walk
    subst hP;refine P8 il (g6 (gf ?_));have l0:l<s.heap.objs.size:=i8 kl;have z1:(s.heap.push (set0 w)).objs.size=s.heap.objs.size+1:=A0 _ _;have a1:l≠(s.heap.push (set0 w)).objs.size:=by rw[z1];exact j5 (N2 l0)
    have a2:s.heap.objs.size∉[(s.heap.push (set0 w)).objs.size,l]:=by
     rw[z1];intro z;rcases i6.mp z with z | z
     ·exact absurd z (j5 (Q0 _))
     ·exact absurd (q9.mp z) (N5 l0)
    refine vL ((Walks.list (by show A.handled=none;exact hh) _ l a1 items).toS) s.heap.objs.size a2 (λ i=>ns.getD i 0) (λ i v e=>IntsAre.int_at hi i v (by rw[E7];exact e)) hb
     items.size 0 _ (gn _) ⟨⟨_,k6 _ rfl,rfl,rfl⟩,il.push _⟩ (vM (i5 _ g0)) λ s3 hm S3=>?_
    obtain⟨h3,g3,d3,t3,o3⟩:=s3;have b1:g3=s.gens:=hm.gens;have b2:d3=s.drawn:=hm.drawn;have b3:o3=s.os:=hm.os;subst b1;subst b2;subst b3;show wpAny (model prog w) _ _ _ _ _;refine i0 ?_;show wpAny (model prog w) _ (ret Value.none) _ _ _;refine i0 ⟨rfl,h3,t3,rfl,S3,λ b o e=>?_⟩;have b4:=i8 e;refine hm.heap b o (λ z=>?_) (i5 _ (i5 _ e));rcases i6.mp z with z | z
    ·exact absurd z (j5 b4)
    ·have:=q9.mp z;rw[z1]at this;exact absurd this (j5 (N2 b4))
   ·cases r2 with
    | error e=>exact q2
    | ok f2=>
     cases f2 with
     | ret v2=>
      obtain⟨c1,h',tk,c2,c3,c4⟩:=q2;subst c1;subst c2
      repeat (any_goals (first | assumption | wp_step))
      exact h h' tk c3 c4
     | _=>exact q2.elim
  | _=>exact q.elim
def C4(h:EH)(I a:EG)(f:ED)(i n ep:Nat):Prop:=∃o,h.get? I=some o/\o.cls=.type "set_iterator" /\ o.data=.fields #[f,.int i 0,.ref a,.int n 0,.int ep 0]
def E5(h:EH)(a:EG)(es:EJ (Int×ED))(ep:Nat)(t:ET):Prop:=∃o,h.get? a=some o/\o.ExactSet/\o.data=.set es ep t
theorem C4.typeIs{s:EF}(x:C4 s.heap I a f i n ep):s.TypeIs (.ref I) "set_iterator":=let ⟨o,e,c,_⟩:=x;⟨o,e,c⟩
theorem C4.at{h h':EH}{I a:EG}{f:ED}{i n ep:Nat}(x:C4 h I a f i n ep)(k:∀o,h.get? I=some o->h'.get? I=some o):C4 h' I a f i n ep:=let ⟨o,e,c⟩:=x;⟨o,k o e,c⟩
theorem E5.at{h h':EH}{a:EG}{es:EJ (Int×ED)}{ep:Nat}{t:ET}(x:E5 h a es ep t)(k:∀o,h.get? a=some o->h'.get? a=some o):E5 h' a es ep t:=let ⟨o,e,c⟩:=x;⟨o,k o e,c⟩
theorem E5.typeIs{s:EF}(x:E5 s.heap a es ep t):s.TypeIs (.ref a) "set":=let ⟨o,e,c,_⟩:=x;⟨o,e,c.1⟩
theorem L5:Slot "set_iterator" "__next__" "set_iterator.__next__":=
 .of (owner:="set_iterator") (n:="__next__") (by rw[typeLookup_type,kR];kernel_rfl) (by decide +kernel) (by decide +kernel) (by decide +kernel)
  (by first | exact .inl (by decide +kernel) | exact .inr (by decide +kernel)) (by rw[gh];kernel_rfl)
theorem em:entryFor table "set_iterator.__next__" = some Builtin.«set_iterator.__next__»:=entryFor_of_tree (by kernel_rfl)
theorem er(v:ED):argsOk "set_iterator.__next__" ⟨[v],[]⟩:=by unfold argsOk;kernel_rfl
theorem vP:entryFor table "set.__iter__" = some Builtin.«frozenset.__iter__»:=entryFor_alias (id':="frozenset.__iter__") (by kernel_rfl) rfl (by decide +kernel) (by kernel_rfl)
theorem nb{ep:Nat}{h:EH}{i:Nat}{n:Nat}(e:h.get? I=some o)(c:o.cls=.type "set_iterator")(d:o.data=.fields #[f,.int i 0,.ref a,.int n 0,.int ep 0]) :
  C4 (h.update I (Obj.mapFields (·.setIfInBounds 1 (rawInt ((i:Int)+1))))) I a f (i+1) n ep:=by
 refine⟨_,K6 _ e (aP (T4 d _)),(fM ..).trans c,?_⟩;rw[T4 d];simp[rawInt]
theorem nc{ep:Nat}{h:EH}(g:ED){i:Nat}{n:Nat}(e:h.get? I=some o)(c:o.cls=.type "set_iterator")(d:o.data=.fields #[f,.int i 0,.ref a,.int n 0,.int ep 0]) :
  C4 (h.update I (Obj.mapFields (·.setIfInBounds 0 g))) I a g i n ep:=by
 refine⟨_,K6 _ e (aP (T4 d _)),(fM ..).trans c,?_⟩;rw[T4 d];simp
theorem ng{prog:EL}{w:EK}{A:EM}{E:ED->EF->Prop}{s:EF}{I a:EG}{es:EJ (Int×ED)}{ep:Nat}{t:ET}{Q:EC ED->EF->Prop}{slot i j:Nat}{x:ED}(hI:C4 s.heap I a (.int slot 0) i es.size ep)(hS:E5 s.heap a es ep t)(hf:t.fits es.size=true)
  (hn:∀(A:EM) (E':ED->EF->Prop) (Q':EC (ED×Nat)->EF->Prop),Q' (some (x,j)) s->wpAny (model prog w) A (setNext a slot i ep) Q' E' s)
  (hQ:∀h',C4 h' I a (.int j 0) (i+1) es.size ep->Heap.SameBut I s.heap h'->Q (some x) {s with heap:=h'}):wpAny (model prog w) A (pyNext (.ref I)) Q E s:=by
 obtain⟨o,ho,hc,hd⟩:=id hI;obtain⟨p,hp,hx,hq⟩:=id hS;unfold pyNext;refine g6 (K8 (K5 (name:=Str.ofString "__next__") hI.typeIs L5 (F6 L5 hI.typeIs em ?_ (er _))));unfold Builtin.«set_iterator.__next__»;refine g6 (i0 ?_);dsimp only;refine g6 (de ho hd ?_);dsimp only;refine g6 (aT hp hq hf ?_);rw[show(((es.size:Nat):Int) != ((es.size:Nat):Int))=false by simp,i4 B6];simp only[P9];refine g6 (hn _ _ _ ?_);dsimp only;refine g6 (J1 ho hd (by simp) ?_);have I1:=nc (ep:=ep) (rawInt j) ho hc hd;obtain⟨o1,ho1,hc1,hd1⟩:=id I1;refine g6 (J1 ho1 hd1 (by simp) (i0 ⟨x,rfl,i0 (hQ _ (nb ho1 hc1 hd1) ?_)⟩));exact(N0 ..).trans (N0 ..)
theorem nh{prog:EL}{w:EK}{A:EM}{E:ED->EF->Prop}{s:EF}{I a:EG}{es:EJ (Int×ED)}{ep:Nat}{t:ET}{Q:EC ED->EF->Prop}{slot i:Nat}(hh:A.handled=none)(hI:C4 s.heap I a (.int slot 0) i es.size ep)(hS:E5 s.heap a es ep t)(hf:t.fits es.size=true)
  (hn:∀(A:EM) (E':ED->EF->Prop) (Q':EC (ED×Nat)->EF->Prop),Q' none s->wpAny (model prog w) A (setNext a slot i ep) Q' E' s)
  (hQ:∀h',Heap.ExtBut I s.heap h'->Q none {s with heap:=h'}):wpAny (model prog w) A (pyNext (.ref I)) Q E s:=by
 obtain⟨o,ho,hc,hd⟩:=id hI;obtain⟨p,hp,hx,hq⟩:=id hS;unfold pyNext;refine g6 (K8 (K5 (name:=Str.ofString "__next__") hI.typeIs L5 (F6 L5 hI.typeIs em ?_ (er _))));unfold Builtin.«set_iterator.__next__»;refine g6 (i0 ?_);dsimp only;refine g6 (de ho hd ?_);dsimp only;refine g6 (aT hp hq hf ?_);rw[show(((es.size:Nat):Int) != ((es.size:Nat):Int))=false by simp,i4 B6];simp only[P9];refine g6 (hn _ _ _ ?_);dsimp only;refine g6 (J1 ho hd (by simp) ?_);refine g6 ?_;simp only[newExc,newTuple];refine g6 (I0 ?_ (by size_fits));refine g6 (m:=firstArgMember _ _) (bc (a:=Value.none) (by first | rfl | (simp only[firstArgMember];rfl)) ?_);refine I0 ?_ (by size_fits);simp only[raiseNew];refine g6 (dg ?_);rw[show A.in1.handled=none from hh];refine g6 (i0 (wpAny_throw ?_));refine g6 (aY (T:="StopIteration") (b:=true) ⟨_,k6 _ rfl,rfl⟩ cZ ?_);exact i0 (hQ _ (((N0 ..).extBut.push _).push _))
theorem vQ{k:Nat}(f:C4 s.heap I a (.ref q) i es.size ep)(B:E5 s.heap a es ep t)(l:t.fits es.size=true)(r:IsTup s.heap q ps)(u:ps[i]? = some (.int k 0))(n:es[k]? = some (z,x))
  (C:∀g,C4 g I a (.ref q) (i+1) es.size ep->Heap.SameBut I s.heap g->Q (some x) {s with heap:=g}):wpAny (model prog w) A (pyNext (.ref I)) Q E s:=by
 obtain⟨o,c,y,e⟩:=id f;obtain⟨p,j,m,h⟩:=id B;unfold pyNext;refine g6 (K8 (K5 f.typeIs L5 (F6 L5 f.typeIs em ?_ (er _))));unfold Builtin.«set_iterator.__next__»;refine g6 (i0 ?_);refine g6 (de c e ?_);refine g6 (aT j h l ?_);rw[show(_ != _)=false by simp,i4 B6];simp[P9];obtain⟨oq,b,v,nq,d⟩:=r;refine g6 (N3 b d ?_);dsimp only;rw[u];unfold setNextDrawn;simp only[P9];refine g6 (g6 (af j h l ?_));rw[show(ep != ep)=false by simp,i4 B6];rw[n];refine i0 ?_;refine g6 (J1 c e (by simp) (i0 ⟨x,rfl,i0 (C _ (nb c y e) (N0 ..))⟩))
theorem vR(v:A.handled=none)(j:C4 s.heap I a (.ref q) i es.size ep)(C:E5 s.heap a es ep t)(x:t.fits es.size=true)(l:IsTup s.heap q ps)(u:ps[i]? = none)
  (F:∀k,Heap.ExtBut I s.heap k->Q none {s with heap:=k}):wpAny (model prog w) A (pyNext (.ref I)) Q E s:=by
 obtain⟨o,e,B,h⟩:=id j;obtain⟨p,r,hx,n⟩:=id C;unfold pyNext;refine g6 (K8 (K5 j.typeIs L5 (F6 L5 j.typeIs em ?_ (er _))));unfold Builtin.«set_iterator.__next__»;refine g6 (i0 ?_);dsimp only;refine g6 (de e h ?_);dsimp only;refine g6 (aT r n x ?_);rw[show(((es.size:Nat):Int) != ((es.size:Nat):Int))=false by simp,i4 B6];simp only[P9];obtain⟨oq,c,y,nq,f⟩:=l;refine g6 (N3 c f ?_);dsimp only;rw[u];dsimp only;refine g6 (J1 e h (by simp) ?_);obtain⟨o1,d,z,g⟩:=nc (ep:=ep) (rawInt 0) e B h;refine g6 (J1 d g (by simp) ?_);refine g6 ?_;simp only[newExc,newTuple];refine g6 (I0 ?_ (by size_fits));refine g6 (m:=firstArgMember _ _) (bc (a:=Value.none) (by first | rfl | (simp only[firstArgMember];rfl)) ?_);refine I0 ?_ (by size_fits);simp only[raiseNew];refine g6 (dg ?_);rw[show A.in1.handled=none from v];refine g6 (i0 (wpAny_throw ?_));refine g6 (aY (T:="StopIteration") (b:=true) ⟨_,k6 _ rfl,rfl⟩ cZ ?_);exact i0 (F _ ((((N0 ..).trans (N0 ..)).extBut.push _).push _))
section
variable {prog:EL} {w:EK} {A:EM} {E:ED->EF->Prop} {s:EF} {I a:EG} {es:EJ (Int×ED)} {ep:Nat} {t:ET}
theorem ni(d:A7 w=true)(g:E5 s.heap a es ep t)(f:t.fits es.size=true)
  (h:Q (((pickOrder (w.params.setOrder a ep) es)[i]?).map λ e=>(e.2,slot)) s):wpAny (model prog w) A (setNext a slot i ep) Q E s:=by
 obtain⟨p,c,hx,b⟩:=id g;unfold setNext;refine g6 (af c b f ?_);dsimp only;unfold setsByText;refine g6 (g6 (ah (i0 ?_)));show wpAny _ A (if A7 w=true then _ else _) Q E s;rw[i3 d];rw[show(ep != ep)=false by simp,i4 B6];refine g6 ?_;unfold setWalk;refine g6 (af c b f ?_);dsimp only;unfold setsByText;refine g6 (g6 (ah (i0 ?_)));show wpAny (model prog w) A (if A7 w=true then _ else _) _ E s;rw[i3 d];exact g6 (ah (i0 (i0 h)))
theorem nj(d:A7 w=false)(g:(!t.plain&&decide (es.size>1))=false)(e:t.led=true)(k:E5 s.heap a es ep t)(f:t.fits es.size=true)
  (h:Q (match es[SetTable.below t.place slot]?,t.place[SetTable.below t.place slot]? with | some (_,x),some j=>some (x,j+1) | _,_=>none) s):wpAny (model prog w) A (setNext a slot i ep) Q E s:=by
 obtain⟨p,c,hx,b⟩:=id k;unfold setNext;refine g6 (af c b f ?_);dsimp only;unfold setsByText;refine g6 (g6 (ah (i0 ?_)));show wpAny _ A (if A7 w=true then _ else _) Q E s;rw[i4 (by rw[d];exact B6)];show wpAny _ A (if(!t.plain&&decide (es.size>1))=true then _ else _) Q E s;rw[g,i4 B6];refine g6 ?_;show wpAny (model prog w) A (if(!t.led && !es.isEmpty)=true then _ else _) _ E s;rw[e];exact i0 (i0 h)
theorem vS:∀(n:Nat) (a:ge e) (s:EF),a.length=n->(∀l d,l.Perm a->Q l {s with drawn:=d})->wpAny (model prog w) A (drawOrder n a) Q E s:=by
 intro n
 induction n generalizing Q with
 | zero=>
  intro a s c h;have:=W6.mp c;subst this;exact i0 (h [] s.drawn .rfl)
 | succ n g=>
  intro a s c h;cases a with
  | nil=>cases c
  | cons y r=>
   show wpAny _ A _ Q E s;have b:∀i,i<(y::r).length->wpAny _ A (match _[i]? with
     | some x=>do return x::(←drawOrder n ((y::r).eraseIdx i))
     | none=>unsupported "internal:drawOrder") Q E {s with drawn:=s.drawn.bump .order}:=λ i f=>by
    rw[(o4 f)];refine g6 (g _ _ (by grind) λ l d p=>i0 (h _ d ?_));exact(List.Perm.cons _ p).trans (ii f rfl)
   refine g6 λ Γ p j=>⟨by simp,?_⟩;exact b _ (Nat.mod_lt _ (by simp))
noncomputable def eu(f:ED)(a:EG)(n ep:Nat):Obj:={cls:=.type "set_iterator",data:=.fields #[f,.int 0 0,.ref a,.int n 0,.int ep 0]}
noncomputable def ew(l:ge Nat):Obj:={cls:=.type "tuple",data:=.seq (l.map λ (i:Nat)=>Value.int i 0).toArray}
theorem ij{h:EH}:C4 (h.push (eu f a n ep)) h.objs.size a f 0 n ep:=⟨_,k6 _ rfl,rfl,rfl⟩
theorem vT(h:E5 s.heap a es ep t)(f:t.fits es.size=true)(hb:es.size<=sizeLine)
  (m:(!A7 w&&(!t.plain&&decide (es.size>1)))=false->Q (.ref s.heap.objs.size) {s with heap:=s.heap.push (eu (.int 0 0) a es.size ep)})
  (k:∀l d,A7 w=false->l.Perm (List.range es.size)->Q (.ref (s.heap.objs.size+1)) {s with heap:=(s.heap.push (ew l)).push (eu (.ref s.heap.objs.size) a es.size ep),drawn:=d}) :
  wpAny (model prog w) A (pyIter (.ref a)) Q E s:=by
 obtain⟨p,c,hx,b⟩:=id h;refine wpAny_pyIter_slot h.typeIs F.slot_set_iter (F6 F.slot_set_iter h.typeIs vP ?_ (F.args_set_iter_1 _));unfold Builtin.«frozenset.__iter__» Builtin.Frozenset.slot0 slotArgs;simp only[List.isEmpty_nil,Bool.not_true,aV,↓reduceIte,bind_assoc,fZ,bne_self_eq_false];unfold Builtin.Frozenset.addrOf Builtin.Frozenset.sizeOf;refine g6 (i0 ?_)
 try refine g6 (i0 ?_)
 refine g6 (g6 (aT c b f (i0 ?_)));unfold setDrawn;refine g6 (g6 (af c b f ?_));unfold setsByText;refine g6 (g6 (ah (i0 (i0 ?_))));show wpAny _ _ (if(!A7 w&&(!t.plain&&decide _))=true then _ else _) _ _ _;by_cases g:(!A7 w&&(!t.plain&&decide (es.size>1)))=true
 ·rw[i3 g];have j:A7 w=false:=by
   cases e:A7 w with
   | false=>rfl
   | true=>rw[e]at g;cases g
  refine g6 (vS es.size _ s (ag) λ l d i=>?_);have hl:l.length=es.size:=by rw[i.length_eq,ag]
  unfold newTuple;refine g6 (I0 ?_ (by show(l.map _).toArray.size<=_;simp;omega));refine g6 (wpAny_setEpoch_of (i5 _ c) b f ?_);refine g6 (I0 (i0 ⟨_,rfl,"set_iterator",_,⟨_,k6 _ rfl,rfl⟩,L5.lookup,?_⟩));have:=k l d j i;rw[←(A0 _ _)]at this;exact this
 ·rw[i4 g];refine g6 (i0 ?_);refine g6 (wpAny_setEpoch_of c b f ?_);refine g6 (I0 (i0 ⟨_,rfl,"set_iterator",_,⟨_,k6 _ rfl,rfl⟩,L5.lookup,?_⟩));exact m (by grind)
end
section
variable {prog:EL} {w:EK} {A:EM} {E:ED->EF->Prop} {s:EF} {I a:EG} {es:EJ (Int×ED)} {ep:Nat} {t:ET}
abbrev Nx(prog:EL)(w:EK)(I:EG)(fp:ge EG)(n:Nat)(ws:ge ED)(St:Nat->EH->Prop):Prop:=
 ∀A:EM,A.handled=none->WalksS prog w A I fp [I] (λ a b=>b=a) n (λ i v=>ws[i]? = some v) (λ i s=>St i s.heap)
theorem ik    {St : Nat -> EH -> Prop} (hI : I ∈ g) (hz : ws.length = n)
    (fr : ∀ i h a, St i h -> (∀ b ∈ g, ∀ o, h.get? b = some o -> a.get? b = some o) -> St i a)
    (it : ∀ (A : EM) (E : ED -> EF -> Prop) (Q : EC ED -> EF -> Prop) (s : EF) i v, A.handled = none -> ws[i]? = some v -> St i s.heap -> (∀ a, St (i + 1) a -> Heap.SameBut I s.heap a -> Q (some v) { s with heap := a }) -> wpAny (model prog w) A (pyNext (.ref I)) Q E s)
    (x : ∀ (A : EM) (E : ED -> EF -> Prop) (Q : EC ED -> EF -> Prop) (s : EF), A.handled = none -> St n s.heap -> (∀ a, Heap.ExtBut I s.heap a -> Q none { s with heap := a }) -> wpAny (model prog w) A (pyNext (.ref I)) Q E s)
    (m : ∀ (A : EM) (E : ED -> EF -> Prop) (Q : ED -> EF -> Prop) (s : EF) i, St i s.heap -> Q (.ref I) s -> wpAny (model prog w) A (pyIter (.ref I)) Q E s) : Nx prog w I g n ws St := λ A j =>
  { sub := λ b c => by rwa [q9.mp c]
    grefl := λ _ => rfl
    gtrans := λ _ _ _ r q => q.trans r
    frame := λ i s a tk st _ k => fr i s.heap a st k
    item := λ i s Q E hi st d => by have l : ws[i]? = some ws[i] := o4 (by omega);exact it A E Q s i _ j l st λ a f p => d _ _ l f ⟨λ b o c e => p.extBut b o (λ z => c (q9.mpr z)) e, rfl, rfl, rfl, j0 _⟩
    done := λ s Q E st d => x A E Q s j st λ a u => d _ ⟨λ b o c e => u b o (λ z => c (q9.mpr z)) e, rfl, rfl, rfl, j0 _⟩
    self := λ i s Q E st d => m A E Q s i st d }
theorem ey{h h':EH}{b:EG}(sb:Heap.SameBut I h h')(hb:b≠I):∀o,h.get? b=some o->h'.get? b=some o:=λ o e=>sb.extBut b o hb e
theorem nk:Slot "set_iterator" "__iter__" "set_iterator.__iter__":=
 .of (owner:="set_iterator") (n:="__iter__") (by rw[typeLookup_type,kR];kernel_rfl) (by decide +kernel) (by decide +kernel) (by decide +kernel)
  (by first | exact .inl (by decide +kernel) | exact .inr (by decide +kernel)) (by rw[gh];kernel_rfl)
theorem vU:entryFor table "set_iterator.__iter__" = some Builtin.«dict_keyiterator.__iter__»:=entryFor_alias (id':="dict_keyiterator.__iter__") (by kernel_rfl) rfl (by decide +kernel) (by kernel_rfl)
theorem vV(v:ED):argsOk "set_iterator.__iter__" ⟨[v],[]⟩:=by unfold argsOk;kernel_rfl
theorem im(b:C4 s.heap I a f i n ep)(h:Q (.ref I) s):wpAny (model prog w) A (pyIter (.ref I)) Q E s:=by
 refine wpAny_pyIter_slot b.typeIs nk (F6 nk b.typeIs vU ?_ (vV _));show wpAny _ _ _ _ _ s;exact i0 ⟨_,rfl,"set_iterator",_,b.typeIs,L5.lookup,h⟩
theorem vW(l:A7 w=true)(c:t.fits es.size=true)(f:a≠I) :
  Nx prog w I [I,a] es.size ((pickOrder (w.params.setOrder a ep) es).toList.map (·.2)) (λ i h=>C4 h I a (.int (0:Nat) 0) i es.size ep/\E5 h a es ep t):=by
 have hz:(pickOrder (w.params.setOrder a ep) es).size=es.size:=by
  have:=(mU (w.params.setOrder a ep) es).length_eq
  rwa [A5,A5]at this
 refine ik (by simp) (by grind) (λ i h n st k=>⟨st.1.at (k I (by simp)),st.2.at (k a (by simp))⟩) (λ A E Q s i v m b st g=>?_) (λ A E Q s m st g=>?_) λ A E Q s i st h=>im st.1 h
 ·obtain⟨e,he,hev⟩:∃e,(pickOrder (w.params.setOrder a ep) es)[i]? = some e/\e.2=v:=by
   rw[u9,E7]at b;cases q:(pickOrder _ es)[i]? with
   | none=>rw[q]at b;cases b
   | some e=>rw[q]at b;cases b;exact⟨e,rfl,rfl⟩
  refine ng st.1 st.2 c (λ A p o q=>ni l st.2 c (by rwa [he,X1,hev])) λ n d j=>?_;exact g n ⟨d,st.2.at (ey j f)⟩ j
 ·refine nh m st.1 st.2 c (λ A p o q=>ni l st.2 c (by grind)) g
noncomputable def bI(t:ET):Nat->Nat
 | 0=>0
 | i+1=>t.place.getD i 0+1
theorem nr(a:Rise t.place):∀{i:Nat},i<=t.place.size->SetTable.below t.place (bI t i)=i
 | 0,_=>vD a
 | i+1,h=>by have b:t.place[i]? = some t.place[i]:=M8 (by omega);show SetTable.below t.place (t.place.getD i 0+1)=i+1;rw[Z6,b];exact vC a b
theorem vX(g:A7 w=false)(y:(!t.plain&&decide (es.size>1))=false)(f:Tab t (!A7 w))(b:t.fits es.size=true)(l:a≠I) :
  Nx prog w I [I,a] es.size (es.toList.map (·.2)) (λ i h=>C4 h I a (.int (bI t i:Nat) 0) i es.size ep/\E5 h a es ep t/\i<=es.size):=by
 have p:t.led=true:=by rw[f.led,g];rfl
 have hz:t.place.size=es.size:=(by unfold SetTable.fits at b;rw[g9]at b;exact i1.mp b.1);refine ik (by simp) (by rw[n8,A5]) (λ i h B st k=>⟨st.1.at (k I (by simp)),st.2.1.at (k a (by simp)),st.2.2⟩) (λ A E Q s i v r c st n=>?_) (λ A E Q s r st n=>?_) λ A E Q s i st h=>im st.1 h
 ·obtain⟨z,he⟩:∃z,es[i]? = some (z,v):=by
   rw[u9,E7]at c;cases q:es[i]? with
   | none=>rw[q]at c;cases c
   | some e=>rw[q]at c;cases c;exact⟨e.1,rfl⟩
  have F:i<es.size:=by
   rcases aZ i es.size with h | h
   ·exact h
   ·rw[P4 h]at he;cases he
  have u:t.place[i]? = some t.place[i]:=M8 (by omega);have m:=nr f.rise (i:=i) (by omega);have C:bI t (i+1)=t.place[i]+1:=(by show t.place.getD i 0+1=_;rw[Z6,u];rfl);refine ng (slot:=bI t i) (j:=bI t (i+1)) (x:=v) st.1 st.2.1 b (λ A J H q=>nj g y p st.2.1 b (by rw[m,he,u];rw[C]at q;exact q)) λ B d o=>?_;exact n B ⟨d,st.2.1.at (ey o l),F⟩ o
 ·have m:=nr f.rise (i:=es.size) (by omega);refine nh r st.1 st.2.1 b (λ A J H q=>nj g y p st.2.1 b (by rw[m,P4 (j0 _)];exact q)) n
theorem vY{l:ge Nat}(n:l.Perm (List.range es.size))(u:t.fits es.size=true)(g:a≠I)(B:q≠I) :
  Nx prog w I [I,a,q] es.size (l.map λ i=>(es.getD i (0,.none)).2) (λ i h=>C4 h I a (.ref q) i es.size ep/\E5 h a es ep t/\IsTup h q (l.map λ (i:Nat)=>Value.int i 0).toArray):=by
 have hl:l.length=es.size:=by rw[n.length_eq,ag]
 refine ik (by simp) (by grind) (λ i h z st k=>⟨st.1.at (k I (by simp)),st.2.1.at (k a (by simp)),let ⟨o,e,r⟩:=st.2.2;⟨o,k q (by simp) o e,r⟩⟩) (λ A E Q s i v p b st m=>?_) (λ A E Q s p st m=>?_) λ A E Q s i st h=>im st.1 h
 ·obtain⟨k,hk,hkv⟩:∃k,l[i]? = some k/\(es.getD k _).2=v:=by
   rw[u9]at b;cases q:l[i]? with
   | none=>rw[q]at b;cases b
   | some k=>rw[q]at b;cases b;exact⟨k,rfl,rfl⟩
  have j:=(by have:=n.mem_iff.mp (cK.mpr ⟨i,hk⟩);exact U1.mp this);have y:=M8 j;have f:es[k].2=v:=(by rw[←hkv,Z6,y];rfl);refine vQ (x:=v) st.1 st.2.1 u st.2.2 (by rw[←E7,List.toList_toArray,u9,hk];rfl) (by rw[y,←f]) λ z c d=>?_;exact m z ⟨c,st.2.1.at (ey d g),let ⟨o,e,r⟩:=st.2.2;⟨o,ey d B o e,r⟩⟩ d
 ·refine vR p st.1 st.2.1 u st.2.2 (P4 (by grind)) m
end
section
variable {prog:EL} {w:EK} {A:EM} {E:ED->EF->Prop} {s:EF} {I a:EG} {es:EJ (Int×ED)} {ep:Nat} {t:ET} {ks:ge Int}
theorem vZ(d:s.TypeIs (.ref a) "set")(h:Q false s):wpAny (model prog w) A (Builtin.List.listLengthHint (.ref a)) Q E s:=by
 unfold Builtin.List.listLengthHint;refine g6 (wpAny_specialOf d F.slot_set_len.lookup ?_);generalize c:("set.__len__" : EU)=id0
 wp_delta
 rw[show splitId id0=some ("set","__len__")from by subst c;decide +kernel];subst c;refine g6 (aY (b:=true) d (by rw[gh];kernel_rfl) ?_);refine gb (λ z=>absurd z (by decide)) λ _=>?_
 refine gb (λ _=>?_) λ z=>absurd (by decide +kernel) z;exact g6 (gj d (i0 h))
theorem nu{St:Nat->EH->Prop}{c:Bool->Bool}(W:Nx prog w I P n ws St)(O:A.handled=none)(U:n<=sizeLine)(v:S∉P)
  (Z:s1.TypeIs (.ref a) "set") (st:St 0 s1.heap) (H:s1.heap.get? S=some {cls:=.type "list",data:=.seq #[] c0})
  (hR:∀B x g p,(∀b o,b≠S->b≠I->s1.heap.get? b=some o->B.get? b=some o)->B.get? S=some {cls:=.type "list",dict:=none,data:=.seq g p,slots:=#[]} -> g.toList=ws->R (.ok (.ret i)) {s1 with heap:=B,toks:=x}) (hw:ws.length=n) :
  wpAny (model prog w) A.in1 (do
   let room ←holding [Value.ref I] (Builtin.List.listLengthHint (.ref a))
   if c room=true then do
    rule "list.extend.makes-room"
    Builtin.List.listTouch (.ref S)
    again (.builtin "list.extend.loop" ⟨[.ref S,.ref I,i],[]⟩)
   else again (.builtin "list.extend.loop" ⟨[.ref S,.ref I,i],[]⟩))
   (λ J d=>match J with | .done f=>R (.ok f) d | .again p=>p.quiet=true/\codeAny (model prog w) A p R d) EE s1:=by
 have l:∀(h:EH) (K x:Nat),St 0 h->(∀b o,b≠S->s1.heap.get? b=some o->h.get? b=some o)->h.get? S=some {cls:=.type "list",data:=.seq #[] K} ->
   codeAny _ A _ R {s1 with heap:=h,toks:=x}:=λ h K x C k e=>by
  refine codeAny_extend_loopS (W A.in1 O) U S v i n 0 _ #[] K rfl (E2 _) C e (ItemsOf.nil _) λ d g p y e' L=>?_;have b1:d = {s1 with heap:=d.heap,toks:=d.toks}:=(by have r:d.gens=s1.gens:=y.gens;have N:=y.drawn;have M:d.os=s1.os:=y.os;obtain⟨B,g',d',t',o'⟩:=d;dsimp only at r N M;subst r;subst N;subst M;rfl);rw[b1];refine hR d.heap d.toks g p (λ b o m Y q=>y.heap b o (λ z=>?_) (k b o m q)) e' ?_
  ·rcases i6.mp z with z | z
   ·exact m z
   ·exact Y (q9.mp z)
  ·refine fO λ j=>?_;by_cases X:j<n
   ·have E:j<g.size:=by rw[L.1];exact X
    have r:=M8 E;rw[E7,r];exact(L.2 j _ r).symm
   ·rw[P5 (by rw[A5,L.1];omega),P5 (by omega)]
 refine g6 (x8 (vZ Z ?_));refine gb (λ _=>?_) λ _=>i0 ⟨X2 F.plain_extend_loop _,l s1.heap c0 s1.toks st (λ b o _ e=>e) H⟩;refine g6 (Q4 (g6 ?_));show wpAny _ A.in1 _ _ _ _;refine g6 (wpAny_updateSeq H rfl ?_);have Q:=K6 (Obj.mapSeq (·.push Value.none)) H rfl;refine wpAny_updateSeq Q rfl ?_;have u:∀b o,b≠S->s1.heap.get? b=some o->((s1.heap.update S (Obj.mapSeq (·.push Value.none))).update S (Obj.mapSeq (·.pop))).get? b=some o:=λ b o m e=>
  (P3 _ _ (Ne.symm m)).trans ((P3 _ _ (Ne.symm m)).trans e)
 refine i0 ⟨X2 F.plain_extend_loop _,l _ _ s1.toks ?_ u (K6 _ Q rfl)⟩;exact(W A.in1 O).frame 0 s1 _ s1.toks st (j0 _) λ b m o e=>u b o (λ z=>v (z▸m)) e
def EndC(s:EF)(a:EG)(ws:ge ED)(I:EG)(d:Drawn)(r:Result)(s':EF):Prop:=
 ∃h' tk acc c',r=.ok (.ret (.ref s.heap.objs.size))/\s' = {s with heap:=h',toks:=tk,drawn:=d} /\ h'.get? s.heap.objs.size=some {cls:=.type "list",dict:=none,data:=.seq acc c',slots:=#[]} /\ acc.toList=ws /\
  ∀b o,b≠s.heap.objs.size->b≠I->s.heap.get? b=some o->h'.get? b=some o
theorem wa(hh:A.handled=none)(hS:SetI prog w s.heap a ks)
  (h:∀K m g d,IntsAre K (K.map K0)->(K.map K0).Perm ks->(∀b o,s.heap.get? b=some o->m.get? b=some o)->s.heap.objs.size<m.objs.size->Q K {s with heap:=m,toks:=g,drawn:=d}):wpAny (model prog w) A (collect (.ref a)) Q E s:=by
 obtain⟨o,es,P,t,ho,hx,hd,a2,hp,hb,hf,ht⟩:=id hS;have hz:es.size<=sizeLine:=fN hb;have M:∀K:ge ED,K.Perm (es.toList.map (·.2))->IntsAre K (K.map K0)/\(K.map K0).Perm ks:=λ K p=>by
  refine⟨?_,(p.map _).trans (by rw[List.map_map];exact hp)⟩;have all:∀v∈K,∃g,v=.int (K0 v) g:=λ v hv=>by obtain⟨e,he,q⟩:=G6.mp (p.mem_iff.mp hv);obtain⟨g,y⟩:=mV a2 he;exact⟨g,by rw[←q];exact y⟩
  clear p
  induction K with
  | nil=>exact .nil
  | cons v r ih=>
   obtain⟨g,e⟩:=all v (o8 ..);rw[J2];have q:=ih λ u hu=>all u (j6 _ hu)
   generalize hn:K0 v=n at e;subst e;exact .cons n g q
 have L:a<s.heap.objs.size:=i8 ho;unfold collect;refine g6 (gf (Q2 F.entry_proto_collect ?_));rw[W7 F.plain_proto_collect];show wpAny (model prog w) A.in1 _ _ _ s;refine g6 (I0 ?_);refine i0 ⟨X2 F.plain_list_iadd _,Q2 F.entry_list_iadd ?_⟩;rw[W7 F.plain_list_iadd];have a0:(s.heap.push {cls:=.type "list",data:=.seq ([]:ge ED).toArray}).get? s.heap.objs.size=some {cls:=.type "list",data:=.seq ([]:ge ED).toArray}:=k6 _ rfl;have O:E5 (s.heap.push {cls:=.type "list",data:=.seq ([]:ge ED).toArray}) a es P t:=⟨o,i5 _ ho,hx,hd⟩;show wpAny (model prog w) A.in1 (Builtin.List.listExtendWith (.ref s.heap.objs.size) (.ref a) (.ref s.heap.objs.size)) _ _ _;unfold Builtin.List.listExtendWith;refine g6 (gj (T:="set") ⟨o,i5 _ ho,hx.1⟩ ?_);have h1:Builtin.List.listSameRef (.ref s.heap.objs.size) (.ref a)=false:=(by unfold Builtin.List.listSameRef;exact o9.mpr (N5 L));have h2:(Value.type "set" == Value.type "list")=false:=by decide
 have h3:(Value.type "set" == Value.type "tuple")=false:=by decide
 simp only[h1,h2,h3,Bool.or_false,aV,if_false];refine g6 (vT (t:=t) O hf hz ?_ ?_)
 ·intro a1;have N:a≠(s.heap.push {cls:=.type "list",data:=.seq ([]:ge ED).toArray}).objs.size:=by rw[A0];exact j5 (N2 L)
  have X:s.heap.objs.size∉[(s.heap.push {cls:=.type "list",data:=.seq ([]:ge ED).toArray}).objs.size,a]:=λ z=>by
   rw[A0]at z;rcases i6.mp z with z | z
   ·exact absurd z (j5 (Q0 _))
   ·exact absurd (q9.mp z) (N5 L)
  obtain⟨S,St,p,W,st⟩:∃S St,S.Perm (es.toList.map (·.2))/\Nx prog w (s.heap.push {cls:=.type "list",data:=.seq ([]:ge ED).toArray}).objs.size _ es.size S St /\
    St 0 _:=by
   by_cases I:A7 w=true
   ·exact⟨_,_,(mU _ es).map _,vW (t:=t) (ep:=P) I hf N,ij,O.at λ _=>i5 _⟩
   ·have I:A7 w=false:=by simpa using I
    rw[I]at a1;exact⟨_,_,.rfl,vX (ep:=P) I (by grind) ht hf N,ij,O.at λ _=>i5 _,E2 _⟩
  refine k7 (nu (A:=A) (a:=a) (c0:=0) (R:=EndC s a S (s.heap.push {cls:=.type "list",data:=.seq ([]:ge ED).toArray}).objs.size s.drawn)
   W hh hz X ⟨o,i5 _ (i5 _ ho),hx.1⟩ st (i5 _ a0) (λ m g c B k e Z=>⟨m,g,c,B,rfl,rfl,e,Z,λ b u h1 h2 q=>k b u h1 h2 (i5 _ (i5 _ q))⟩) (by rw[p.length_eq,n8,A5])) ?_ λ _ _ e=>e
  have x:∀r H,EndC s a S (s.heap.push {cls:=.type "list",data:=.seq ([]:ge ED).toArray}).objs.size s.drawn r H->∃m g c B,r=.ok (.ret (.ref s.heap.objs.size))/\H = {s with heap:=m,toks:=g} /\ m.get? s.heap.objs.size=some {cls:=.type "list",dict:=none,data:=.seq c B,slots:=#[]} /\ Q c.toList H:=λ r H ⟨m,g,c,B,J,y,e,Z,k⟩=>by obtain⟨q1,q2⟩:=M S p;refine⟨m,g,c,B,J,y,e,?_⟩;rw[Z,y];refine h S m g s.drawn q1 q2 (λ b u q=>k b u (j5 (i8 q)) ?_ q) (i8 e);rw[A0];exact j5 (N2 (i8 q))
  intro Y H C;cases Y with
  | done f=>
   obtain⟨m,g,c,B,J,y,e,U⟩:=x _ _ C;cases J;subst y;exact g6 (be e (i0 U))
  | again B=>
   refine⟨C.1,J4 C.2 λ r H hr=>?_⟩;obtain⟨m,g,c,B,J,y,e,U⟩:=x _ _ hr;subst J;subst y;exact g6 (be e (i0 U))
 ·intro l d I pl;have z1:(s.heap.push {cls:=.type "list",data:=.seq ([]:ge ED).toArray}).objs.size=s.heap.objs.size+1:=A0 _ _;have hl:l.length=es.size:=by rw[pl.length_eq,ag]
  have p:(l.map λ i=>(es.getD i (0,.none)).2).Perm (es.toList.map (·.2)):=by
   refine(pl.map _).trans (List.Perm.of_eq ?_);refine fO λ j=>?_;have J:es.toList[j]? = es[j]?:=E7;rw[u9,u9,J];by_cases hj:j<es.size
   ·rw[fH hj,X1,Z6,M8 hj];rfl
   ·have y:(List.range es.size)[j]? = none:=P5 (by grind);rw[y,P4 (by omega)];rfl
  have N:a≠(s.heap.push {cls:=.type "list",data:=.seq ([]:ge ED).toArray}).objs.size+1:=by rw[z1];exact j5 (N2 (N2 L))
  have X:s.heap.objs.size∉[(s.heap.push {cls:=.type "list",data:=.seq ([]:ge ED).toArray}).objs.size+1,a,(s.heap.push {cls:=.type "list",data:=.seq ([]:ge ED).toArray}).objs.size]:=λ z=>by
   rw[z1]at z;rcases i6.mp z with z | z
   ·exact absurd z (j5 (N2 (Q0 _)))
   ·rcases i6.mp z with z | z
    ·exact absurd z (N5 L)
    ·exact absurd (q9.mp z) (j5 (Q0 _))
  have W:=vY (prog:=prog) (w:=w) (ep:=P) (t:=t) pl hf N (j5 (Q0 _));have hI:C4 (((s.heap.push {cls:=.type "list",data:=.seq ([]:ge ED).toArray}).push (ew l)).push (eu (.ref (s.heap.push {cls:=.type "list",data:=.seq ([]:ge ED).toArray}).objs.size) a es.size P))
    ((s.heap.push {cls:=.type "list",data:=.seq ([]:ge ED).toArray}).objs.size+1) a (.ref (s.heap.push {cls:=.type "list",data:=.seq ([]:ge ED).toArray}).objs.size) 0 es.size P:=by
   have:=ij (a:=a) (ep:=P) (h:=(s.heap.push {cls:=.type "list",data:=.seq ([]:ge ED).toArray}).push (ew l)) (f:=.ref (s.heap.push {cls:=.type "list",data:=.seq ([]:ge ED).toArray}).objs.size) (n:=es.size);have z2:((s.heap.push {cls:=.type "list",data:=.seq ([]:ge ED).toArray}).push (ew l)).objs.size=(s.heap.push {cls:=.type "list",data:=.seq ([]:ge ED).toArray}).objs.size+1:=A0 _ _;rw[z2]at this;exact this
  refine k7 (nu (A:=A) (a:=a) (c0:=0) (R:=EndC s a (l.map λ i=>(es.getD i (0,.none)).2) ((s.heap.push {cls:=.type "list",data:=.seq ([]:ge ED).toArray}).objs.size+1) d)
   W hh hz X ⟨o,i5 _ (i5 _ (i5 _ ho)),hx.1⟩ ⟨hI,O.at λ _ e=>i5 _ (i5 _ e),⟨_,i5 _ (k6 _ rfl),rfl,_,rfl⟩⟩ (i5 _ (i5 _ a0)) (λ m g c B k e Z=>⟨m,g,c,B,rfl,rfl,e,Z,λ b u h1 h2 q=>k b u h1 h2 (i5 _ (i5 _ (i5 _ q)))⟩) (by grind)) ?_ λ _ _ e=>e
  have x:∀r H,EndC s a (l.map λ i=>(es.getD i (0,.none)).2) ((s.heap.push {cls:=.type "list",data:=.seq ([]:ge ED).toArray}).objs.size+1) d r H->∃m g c B,r=.ok (.ret (.ref s.heap.objs.size))/\H = {s with heap:=m,toks:=g,drawn:=d} /\ m.get? s.heap.objs.size=some {cls:=.type "list",dict:=none,data:=.seq c B,slots:=#[]} /\ Q c.toList H:=λ r H ⟨m,g,c,B,J,y,e,Z,k⟩=>by obtain⟨q1,q2⟩:=M _ p;refine⟨m,g,c,B,J,y,e,?_⟩;rw[Z,y];refine h _ m g d q1 q2 (λ b u q=>k b u (j5 (i8 q)) ?_ q) (i8 e);rw[z1];exact j5 (N2 (N2 (i8 q)))
  intro Y H C;cases Y with
  | done f=>
   obtain⟨m,g,c,B,J,y,e,U⟩:=x _ _ C;cases J;subst y;exact g6 (be e (i0 U))
  | again B=>
   refine⟨C.1,J4 C.2 λ r H hr=>?_⟩;obtain⟨m,g,c,B,J,y,e,U⟩:=x _ _ hr;subst J;subst y;exact g6 (be e (i0 U))
theorem wb(B:A.handled=none)(F:SetI prog w s.heap a ks)(H:ks.length<64)
  (h:∀k g d p c f e,(∀b o,s.heap.get? b=some o->k.get? b=some o)->s.heap.objs.size<=p->k.get? p=some (seqObj "list" c e)->IntsAre c.toList f->f.Perm ks->f.Pairwise (· <= ·)->Q (.ref p) {s with heap:=k,toks:=g,drawn:=d}) :
  wpAny (model prog w) A (call (.builtin "sorted") [.ref a]) Q E s:=by
 refine Calls.call_function_entry kind_sorted plain_sorted entry_sorted (args_sorted1 _) ?_
 unfold Builtin.«sorted»;refine g6 (i0 ?_);refine g6 (wa (B) F λ c n g d y p1 l r=>?_);have z:c.length<64:=by have:=p1.length_eq;rw[n8]at this;omega
 refine g6 (wpAny_newList ?_ (by rw[ba];omega));have j:(n.push (seqObj "list" c.toArray 0)).get? n.objs.size=some _:=k6 _ rfl;refine g6 (x8 (F6 slot_list_sort ⟨_,j,rfl⟩ entry_list_sort (list_sort_tree j y z λ i f x v u=>⟨_,rfl,?_⟩) (args_list_sort _)));refine i0 ⟨_,rfl,?_⟩;obtain⟨e,C⟩:=sortedHeap_at j;refine h _ g d _ i f e (λ b o q=>?_) (X3 r) C x (v.trans p1) u;have m:=i8 (l b o q);rw[sortedHeap_old (j5 m) (by rw[size_push'];exact N2 m)];exact i5 _ (l b o q)
end
theorem wc(b:l≠it):∀(k i:Nat) (s:EF) (Q:ge ED->EF->Prop),s.heap.IsListIter it l i->s.heap.IsList l items->i+k=items.size ->
  (∀h',h'.IsListIter it l items.size->Heap.SameBut it s.heap h'->Q (items.toList.drop i) {s with heap:=h'})->wpAny (model prog w) A (draw (.ref it) k) Q E s:=by
 intro k
 induction k with
 | zero=>
  intro i s Q d c e h;show wpAny _ A _ Q E s;have e:=e;subst e;have:=h s.heap d (Heap.SameBut.refl _ _);rw[List.drop_of_length_le (by rw[A5];exact j0 _)]at this;exact i0 this
 | succ k g=>
  intro i s Q d c e h;have a:i<items.size:=by omega
  show wpAny _ A _ Q E s;refine g6 (kq d c (M8 a) λ h1 m f=>?_);refine g6 (x8 (g (i+1) _ _ m (c.extBut f.extBut b) (by omega) λ n j o=>i0 ?_));have:=h n j (f.trans o);rw[Z7 (by rw[A5];exact a)]at this;exact this
theorem asgL(m:A.handled=none)(c:s.heap.IsList l items)
  (k:(assignEach elts env).length=items.size) (d:(assignEach elts env).findIdx? (·.1)=none)
  (h:∀h',Heap.ExtBut s.heap.objs.size s.heap h'->wpAny (model prog w) A (assignInOrder ((assignEach elts env).map (·.2)) items.toList) Q E {s with heap:=h'}) :
  wpAny (model prog w) A (assign (.Tuple elts x1 pos) env (.ref l)) Q E s:=by
 have a:l≠s.heap.objs.size:=(by obtain⟨o,j,_⟩:=c;exact j5 (i8 j));rw[assign_Tuple];refine g6 (U2 ?_);unfold unpack;rw[k,d];refine g6 (x8 ?_);unfold unpackItems;refine g6 ?_;unfold notIterableAtAll;refine g6 (wpAny_specialOf c.typeIs slot_list_iter.lookup (i0 ?_));simp only[aV,if_false];refine g6 (x8 (P8 c ?_));refine g6 (x8 (wc a items.size 0 _ _ ⟨_,k6 _ rfl,rfl,rfl⟩ (c.push _) (gn _) λ h1 i g=>?_));rw[List.drop_zero,i4 (by rw[A5];exact N4 _)];refine g6 (x8 (kJ m i ((c.push _).extBut g.extBut a) (P4 (j0 _)) λ n p=>?_));simp only[Option.isSome_none,aV,if_false];exact i0 (h n λ b o f e=>p b o f (g.extBut b o f (i5 _ e)))
noncomputable def gSeq(K:EQ)(n:Nat)(t:TGs):TG:=λ v σ H Q=>∃a xs,v=.ref a/\(SqL K H a xs\/SqT K H a xs)/\xs.length=n/\t xs σ H Q
theorem wd(q:X.calm=true)(h:PGs X es t)(m:(assignEach es X.env).length=n)(d:(assignEach es X.env).findIdx? (·.1)=none):PG X (.Tuple es k pos) (gSeq X.K n t):=by
 intro c s i H v u Q I r g;obtain⟨a,j,w,f,p,g⟩:=g;rcases f with f | f
 ·subst w;cases r;obtain⟨x,l,pl,hz⟩:=I.list f;refine asgL (I.ok.hd q) pl.isList (by rw[m,r9,←l.length,p]) d λ h' y=>?_
  exact h c _ i H j _ Q (I.kept λ b o e=>y b o (j5 (i8 e)) e) l g
 ·exact lm q h m d c s i H v u Q I r ⟨a,j,w,f,p,g⟩
theorem nv:∀{b:ge Int} {a:ge ED},Vals (b.map V.int) a->IntsAre a b
 | [],a,h=>by cases h;exact .nil
 | n::b,a,h=>by
  cases h with
  | cons r t=>
   obtain⟨c,rfl⟩:=r;exact .cons n c (nv t)
theorem ny:∀{a:ge Int} {us:ge ED},IntsAre us a->Vals (a.map V.int) us
 | _,_,.nil=>.nil
 | _,_,.cons n t h=>.cons ⟨t,rfl⟩ (ny h)
noncomputable def setO(P:EL)(w:EK)(a:EG)(ks:ge Int):HO:=.ext λ h=>SetI P w h a ks
theorem we(x:SetI P w h a b):z5 P w H h a (setO P w a b):=
 ⟨x,let ⟨o,_,_,_,e,_⟩:=x;⟨o,e⟩,λ h1 h2 q k=>q.at k⟩
theorem wf(a:ge Int):fm (λ i=>a.getD i 0) a.length=a.foldl dk []:=by
 unfold fm
 congr 1
 refine fO λ j=>?_;rw[u9];by_cases b:j<a.length
 ·rw[fH b,X1,W5,o4 b];rfl
 ·rw[P5 (by grind),P5 (by omega)];rfl
theorem wg(n:X.calm=true):v9 X (.type "set") (λ e H Q=>∃(a:EG) (b:ge Int),e=[.ref a]/\SqL X.K H a (b.map V.int)/\b.length<4000/\∀p,H p=none->Q (.ref p) (upd H p (setO X.prog X.w p (b.foldl dk [])))):=by
 intro g s σ H e us Q I r h;obtain⟨a,b,rfl,m,hz,q⟩:=h;obtain⟨u,rfl,j⟩:=F0 r;cases j;obtain⟨c,f,l,_⟩:=I.list m;have i:c.length=b.length:=by rw[←f.length,n8]
 refine vO (I.ok.hd n) l.isList (nv f) (by rw[r9,i];show _<4096;omega) λ h' tk S k=>?_;have d:c.toArray.size=b.length:=by rw[r9,i]
 rw[d,wf]at S;exact⟨.ref s.heap.objs.size,_,I.laid k (j0 _) (we S),rfl,q _ I.fresh⟩
theorem wj(z:X.calm=true):v9 X (.builtin "sorted") (λ l H Q=>∃(p:EG) (f:ge Int),l=[.ref p]/\H p=some (setO X.prog X.w p f)/\f.length<64/\∀(q:EG) (i:ge Int),H q=none->i.Perm f->i.Pairwise (· <= ·)->Q (.ref q) (upd H q (.lst (i.map V.int)))):=by
 intro m s σ H l us Q I r h;obtain⟨p,f,rfl,A,x,q⟩:=h;obtain⟨u,rfl,w⟩:=F0 r;cases w;refine wb (I.ok.hd z) ((I.hok p _ A).1) x λ B v d c o g e k n he y b j=>?_
 have hl:g.length<=sizeLine:=(by rw[b.length_eq,ba];omega);have ok:z5 X.prog X.w (upd H c (.lst (g.map V.int))) B c (.lst _):=⟨by rwa [n8],o.toList,e,(ny y),by rwa [Array.toArray_toList]⟩;have a:=I.laid (t':=v) k n ok;refine⟨.ref c,_,?_,rfl,q c g (I.hok.fresh n) b j⟩;exact⟨a.ok,a.os,a.bare,a.base,a.loc,a.cell,a.free,a.freeC,a.pin,a.hok,a.len⟩
open PySem.Calls PySem.W
def PrAt(h:EH)(v:ED)(p:Int×Int):Prop:=∃a o n t t',v=.ref a/\h.get? a=some o/\o.cls=.type "tuple" /\ o.data=.seq #[.int p.1 t,.int p.2 t'] n
theorem nz{items:EJ ED}{bs:ge Bool}(e:items.toList=bs.map Value.bool):TruthOf prog w A (λ i v=>items[i]? = some v) (λ i=>bs.getD i false):=by
 intro i v s Q E hP d;have c:(bs.map Value.bool)[i]? = some v:=by rwa [←e,E7]
 rw[u9]at c;obtain⟨b,f,rfl⟩:=j7.mp c;have a:Q (bs.getD i false) s:=d;rw[W5,f]at a;exact PySem.wpAny_truthy_bool a
theorem wk(bs:ge Bool):(List.range bs.length).all (λ i=>bs.getD i false)=bs.all id:=by
 rw[Bool.eq_iff_iff,y9,y9];constructor
 ·intro h x b;obtain⟨i,a,rfl⟩:=fI b;have:=h i (U1.mpr a);rw[W5,o4 a]at this;exact this
 ·intro h i a;have a:=U1.mp a;rw[W5,o4 a];exact h _ (W9 a)
theorem wm(bs:ge Bool):(List.range bs.length).any (λ i=>bs.getD i false)=bs.any id:=by
 rw[Bool.eq_iff_iff,List.any_eq_true,List.any_eq_true];constructor
 ·rintro⟨i,a,h⟩
  have a:=U1.mp a;rw[W5,o4 a]at h;exact⟨_,W9 a,h⟩
 ·rintro⟨x,b,h⟩
  obtain⟨i,a,rfl⟩:=fI b;refine⟨i,U1.mpr a,?_⟩;rw[W5,o4 a];exact h
theorem allL{bs:ge Bool}(m:A.handled=none)(f:s.heap.IsList l items)(e:items.toList=bs.map Value.bool)
  (h:∀a c,(∀b o,s.heap.get? b=some o->a.get? b=some o)->Q (.bool (bs.all id)) {s with heap:=a,toks:=c}):wpAny (model prog w) A (call (.builtin "all") [.ref l]) Q E s:=by
 have d:l<s.heap.objs.size:=by obtain⟨_,e,_⟩:=f;exact i8 e
 have j:items.size=bs.length:=by rw[←A5,e,n8]
 refine call_all_walk (P8 f ⟨_,_,_,_,_,_,λ i=>bs.getD i false,rfl,Walks.list (A:=A.in1) m s.heap.objs.size l (j5 d) items,⟨⟨_,k6 _ rfl,rfl,rfl⟩,f.push _⟩,nz e,λ a c k=>?_⟩);rw[j,wk];exact h a c λ b o g=>k b o (by simp;exact j5 (i8 g)) (i5 _ g)
theorem anyL{bs:ge Bool}(j:A.handled=none)(c:s.heap.IsList l items)(e:items.toList=bs.map Value.bool)
  (h:∀h' tk,(∀b o,s.heap.get? b=some o->h'.get? b=some o)->Q (.bool (bs.any id)) {s with heap:=h',toks:=tk}):wpAny (model prog w) A (call (.builtin "any") [.ref l]) Q E s:=by
 have a:l<s.heap.objs.size:=by obtain⟨_,e,_⟩:=c;exact i8 e
 have f:items.size=bs.length:=by rw[←A5,e,n8]
 refine call_any_walk (P8 c ⟨_,_,_,_,_,_,λ i=>bs.getD i false,rfl,Walks.list (A:=A.in1) j s.heap.objs.size l (j5 a) items,⟨⟨_,k6 _ rfl,rfl,rfl⟩,c.push _⟩,nz e,λ h' tk g=>?_⟩);rw[f,wm];exact h h' tk λ b o d=>g b o (by simp;exact j5 (i8 d)) (i5 _ d)
theorem io:∀{bs:ge Bool} {us:ge ED},Vals (bs.map V.bl) us->us=bs.map Value.bool
 | [],_,h=>by cases h;rfl
 | b::bs,_,h=>by
  cases h with
  | cons r t=>
   rw[io t];cases(r);rfl
theorem wn(j:X.calm=true):v9 X (.builtin "all") (λ b H Q=>∃(a:EG) (bs:ge Bool),b=[.ref a]/\SqL X.K H a (bs.map V.bl)/\Q (.bl (bs.all id)) H):=by
 intro c s σ H b us Q I r h;obtain⟨a,bs,rfl,i,q⟩:=h;obtain⟨u,rfl,e⟩:=F0 r;cases e;obtain⟨g,d,f,_⟩:=I.list i;exact allL (I.ok.hd j) f.isList (by simpa using io d) λ h' tk k=>⟨.bl _,H,I.kept k,rfl,q⟩
theorem wq(i:X.calm=true):v9 X (.builtin "any") (λ b H Q=>∃(a:EG) (bs:ge Bool),b=[.ref a]/\SqL X.K H a (bs.map V.bl)/\Q (.bl (bs.any id)) H):=by
 intro c s σ H b us Q I r h;obtain⟨a,bs,rfl,g,q⟩:=h;obtain⟨u,rfl,e⟩:=F0 r;cases e;obtain⟨f,d,pl,_⟩:=I.list g;exact anyL (I.ok.hd i) pl.isList (by simpa using io d) λ h' tk k=>⟨.bl _,H,I.kept k,rfl,q⟩
noncomputable section
open PySem
structure Sg where
 N:List Str
 sc:List (Str×NameKind)
 fn:List Str
 bl:List Str
 cl:List Str
 top:Bool
 lp:Bool
noncomputable def nA:ge Str:=["ValueError"]
noncomputable def j3:EI->Bool | .Starred _ _=>true | _=>false
noncomputable def ip:EI->Bool | .Slice _ _ _ _=>true | _=>false
noncomputable def D5:EI->Bool | .Set _ _ _=>true | _=>false
noncomputable def Q9:EI->Bool | .ListComp _ _ _ _=>true | .SetComp _ _ _ _=>true | .DictComp _ _ _ _ _=>true | _=>false
noncomputable def any1{α:Type}(o:EC α)(f:α->Bool):Bool:=o.rec false f
theorem u5(h:any1 o f=true):∃a,o=some a/\f a=true:=by
 cases o with
 | none=>cases h
 | some a=>exact⟨a,rfl,h⟩
@[elab_as_elim] theorem L6{o:EC b}(h:any1 o f=true){C:EC b->Prop}(k:∀a,f a=true->C (some a)):C o:=let ⟨_,q,h⟩:=u5 h;Eq.mpr (congrArg C q) (k _ h)
noncomputable def inNo{α:Type}(o:EC α)(f:Bool):Bool:=o.rec f λ _=>false
@[elab_as_elim] theorem O3{o:EC b}(h:inNo o f=true){C:EC b->Prop}(k:f=true->C none):C o:=by
 cases o with
 | none=>exact k h
 | some a=>cases h
noncomputable def in0{α:Type}(l:ge α)(f:Bool):Bool:=l.rec f λ _ _ _=>false
@[elab_as_elim] theorem L7{l:ge b}(h:in0 l f=true){C:ge b->Prop}(k:f=true->C []):C l:=by
 cases l with
 | nil=>exact k h
 | cons a r=>cases h
noncomputable def inC{α:Type}(l:ge α)(f:α->ge α->Bool):Bool:=l.rec false λ a r _=>f a r
@[elab_as_elim] theorem iq{f:b->ge b->Bool}(h:inC l f=true){C:ge b->Prop}(k:∀a r,f a r=true->C (a::r)):C l:=by
 cases l with
 | nil=>cases h
 | cons a r=>exact k a r h
def in1{α:Type}(l:ge α)(f:α->Bool):Bool:=inC l λ a r=>in0 r (f a)
@[elab_as_elim] theorem L8{f:b->Bool}(h:in1 l f=true){C:ge b->Prop}(k:∀a,f a=true->C [a]):C l:=iq h λ a _ h=>L7 h (k a)
theorem wu(h:in1 l f=true):∃a,l=[a]/\f a=true:=L8 h λ a h=>⟨a,rfl,h⟩
def in2{α:Type}(l:ge α)(f:α->α->Bool):Bool:=inC l λ a r=>in1 r (f a)
@[elab_as_elim] theorem Y4{f:c->c->Bool}(h:in2 l f=true){C:ge c->Prop}(k:∀a b,f a b=true->C [a,b]):C l:=iq h λ a _ h=>L8 h (k a)
noncomputable def nB(e:EI):EC {t:Str×Pos // e=.Name t.1 t.2}:=match e with | .Name x p=>some ⟨(x,p),rfl⟩ | _=>none
@[irreducible] def C7(e:EI)(f:Str->Bool):Bool:=any1 (nB e) λ t=>f t.1.1
@[elab_as_elim] theorem D6(h:C7 e g=true){C:EI->Prop}(k:∀x p,g x=true->C (.Name x p)):C e:=by
 unfold C7 at h;exact let ⟨t,_,h⟩:=u5 h;Eq.mpr (congrArg C t.2) (k _ _ h)
noncomputable def wv(e:EI):EC {t:Const×Nat×Pos // e=.Constant t.1 t.2.1 t.2.2}:=match e with | .Constant x k p=>some ⟨(x,k,p),rfl⟩ | _=>none
noncomputable def nC(e:EI):EC {t:EI×Operator×EI×Pos // e=.BinOp t.1 t.2.1 t.2.2.1 t.2.2.2}:=match e with | .BinOp a o b p=>some ⟨(a,o,b,p),rfl⟩ | _=>none
@[irreducible] def ez(e:EI)(f:EI->Operator->EI->Bool):Bool:=any1 (nC e) λ t=>f t.1.1 t.1.2.1 t.1.2.2.1
@[elab_as_elim] theorem eA(h:ez e g=true){C:EI->Prop}(k:∀a o b p,g a o b=true->C (.BinOp a o b p)):C e:=by
 unfold ez at h;exact let ⟨t,_,h⟩:=u5 h;Eq.mpr (congrArg C t.2) (k _ _ _ _ h)
noncomputable def ww(e:EI):EC {t:UnaryOp×EI×Pos // e=.UnaryOp t.1 t.2.1 t.2.2}:=match e with | .UnaryOp o a p=>some ⟨(o,a,p),rfl⟩ | _=>none
@[irreducible] def inUn(e:EI)(f:UnaryOp->EI->Bool):Bool:=any1 (ww e) λ t=>f t.1.1 t.1.2.1
@[elab_as_elim] theorem eB(h:inUn e g=true){C:EI->Prop}(k:∀o a p,g o a=true->C (.UnaryOp o a p)):C e:=by
 unfold inUn at h;exact let ⟨t,_,h⟩:=u5 h;Eq.mpr (congrArg C t.2) (k _ _ _ h)
noncomputable def wx(e:EI):EC {t:EI×(ge CmpOp)×(ge EI)×Pos // e=.Compare t.1 t.2.1 t.2.2.1 t.2.2.2}:=match e with | .Compare a os bs p=>some ⟨(a,os,bs,p),rfl⟩ | _=>none
@[irreducible] def eC(e:EI)(f:EI->(ge CmpOp)->(ge EI)->Bool):Bool:=any1 (wx e) λ t=>f t.1.1 t.1.2.1 t.1.2.2.1
@[elab_as_elim] theorem nD(h:eC e g=true){C:EI->Prop}(k:∀a b bs p,g a b bs=true->C (.Compare a b bs p)):C e:=by
 unfold eC at h;exact let ⟨t,_,h⟩:=u5 h;Eq.mpr (congrArg C t.2) (k _ _ _ _ h)
noncomputable def wy(e:EI):EC {t:BoolOp×(ge EI)×Pos // e=.BoolOp t.1 t.2.1 t.2.2}:=match e with | .BoolOp o es p=>some ⟨(o,es,p),rfl⟩ | _=>none
@[irreducible] def eD(e:EI)(f:BoolOp->(ge EI)->Bool):Bool:=any1 (wy e) λ t=>f t.1.1 t.1.2.1
@[elab_as_elim] theorem eE(h:eD e g=true){C:EI->Prop}(k:∀o a p,g o a=true->C (.BoolOp o a p)):C e:=by
 unfold eD at h;exact let ⟨t,_,h⟩:=u5 h;Eq.mpr (congrArg C t.2) (k _ _ _ h)
noncomputable def wz(e:EI):EC {t:EI×EI×EI×Pos // e=.IfExp t.1 t.2.1 t.2.2.1 t.2.2.2}:=match e with | .IfExp c a b p=>some ⟨(c,a,b,p),rfl⟩ | _=>none
@[irreducible] def inIf(e:EI)(f:EI->EI->EI->Bool):Bool:=any1 (wz e) λ t=>f t.1.1 t.1.2.1 t.1.2.2.1
@[elab_as_elim] theorem nE(h:inIf e g=true){C:EI->Prop}(k:∀c a b p,g c a b=true->C (.IfExp c a b p)):C e:=by
 unfold inIf at h;exact let ⟨t,_,h⟩:=u5 h;Eq.mpr (congrArg C t.2) (k _ _ _ _ h)
noncomputable def wA(e:EI):EC {t:(ge EI)×Pos // e=.List t.1 t.2}:=match e with | .List es p=>some ⟨(es,p),rfl⟩ | _=>none
@[irreducible] def ir(e:EI)(f:(ge EI)->Bool):Bool:=any1 (wA e) λ t=>f t.1.1
@[elab_as_elim] theorem nF(h:ir e g=true){C:EI->Prop}(k:∀a p,g a=true->C (.List a p)):C e:=by
 unfold ir at h;exact let ⟨t,_,h⟩:=u5 h;Eq.mpr (congrArg C t.2) (k _ _ h)
noncomputable def nG(e:EI):EC {t:(ge EI)×Nat×Pos // e=.Tuple t.1 t.2.1 t.2.2}:=match e with | .Tuple es k p=>some ⟨(es,k,p),rfl⟩ | _=>none
@[irreducible] def bJ(e:EI)(f:(ge EI)->Bool):Bool:=any1 (nG e) λ t=>f t.1.1
@[elab_as_elim] theorem eF(h:bJ e g=true){C:EI->Prop}(k:∀a k p,g a=true->C (.Tuple a k p)):C e:=by
 unfold bJ at h;exact let ⟨t,_,h⟩:=u5 h;Eq.mpr (congrArg C t.2) (k _ _ _ h)
noncomputable def wB(e:EI):EC {t:EI×EI×Pos // e=.Subscript t.1 t.2.1 t.2.2}:=match e with | .Subscript a b p=>some ⟨(a,b,p),rfl⟩ | _=>none
@[irreducible] def Y5(e:EI)(f:EI->EI->Bool):Bool:=any1 (wB e) λ t=>f t.1.1 t.1.2.1
@[elab_as_elim] theorem O4(h:Y5 e g=true){C:EI->Prop}(k:∀a b p,g a b=true->C (.Subscript a b p)):C e:=by
 unfold Y5 at h;exact let ⟨t,_,h⟩:=u5 h;Eq.mpr (congrArg C t.2) (k _ _ _ h)
noncomputable def wC(e:EI):EC {t:(EC EI)×(EC EI)×(EC EI)×Pos // e=.Slice t.1 t.2.1 t.2.2.1 t.2.2.2}:=match e with | .Slice a b c p=>some ⟨(a,b,c,p),rfl⟩ | _=>none
@[irreducible] def bK(e:EI)(f:(EC EI)->(EC EI)->(EC EI)->Bool):Bool:=any1 (wC e) λ t=>f t.1.1 t.1.2.1 t.1.2.2.1
@[elab_as_elim] theorem iu(h:bK e g=true){C:EI->Prop}(k:∀a b c p,g a b c=true->C (.Slice a b c p)):C e:=by
 unfold bK at h;exact let ⟨t,_,h⟩:=u5 h;Eq.mpr (congrArg C t.2) (k _ _ _ _ h)
noncomputable def wD(e:EI):EC {t:EI×(ge EI)×(ge Keyword)×Pos // e=.Call t.1 t.2.1 t.2.2.1 t.2.2.2}:=match e with | .Call f as ks p=>some ⟨(f,as,ks,p),rfl⟩ | _=>none
@[irreducible] def iv(e:EI)(f:EI->(ge EI)->(ge Keyword)->Pos->Bool):Bool:=any1 (wD e) λ t=>f t.1.1 t.1.2.1 t.1.2.2.1 t.1.2.2.2
@[elab_as_elim] theorem wE(h:iv e g=true){C:EI->Prop}(k:∀f as a p,g f as a p=true->C (.Call f as a p)):C e:=by
 unfold iv at h;exact let ⟨t,_,h⟩:=u5 h;Eq.mpr (congrArg C t.2) (k _ _ _ _ h)
noncomputable def wF(e:EI):EC {t:EI×Str×Pos // e=.Attribute t.1 t.2.1 t.2.2}:=match e with | .Attribute a n p=>some ⟨(a,n,p),rfl⟩ | _=>none
@[irreducible] def K1(e:EI)(f:EI->Str->Pos->Bool):Bool:=any1 (wF e) λ t=>f t.1.1 t.1.2.1 t.1.2.2
@[elab_as_elim] theorem L9(h:K1 e g=true){C:EI->Prop}(k:∀a n p,g a n p=true->C (.Attribute a n p)):C e:=by
 unfold K1 at h;exact let ⟨t,_,h⟩:=u5 h;Eq.mpr (congrArg C t.2) (k _ _ _ h)
noncomputable def wG(e:EI):EC {t:EI×(ge Comprehension)×ER×Pos // e=.ListComp t.1 t.2.1 t.2.2.1 t.2.2.2}:=match e with | .ListComp x gs sc p=>some ⟨(x,gs,sc,p),rfl⟩ | _=>none
@[irreducible] def iw(e:EI)(f:EI->(ge Comprehension)->ER->Bool):Bool:=any1 (wG e) λ t=>f t.1.1 t.1.2.1 t.1.2.2.1
@[elab_as_elim] theorem wH(h:iw e g=true){C:EI->Prop}(k:∀x a sc p,g x a sc=true->C (.ListComp x a sc p)):C e:=by
 unfold iw at h;exact let ⟨t,_,h⟩:=u5 h;Eq.mpr (congrArg C t.2) (k _ _ _ _ h)
noncomputable def wI(e:EI):EC {t:(ge EI)×Pos // e=.JoinedStr t.1 t.2}:=match e with | .JoinedStr es p=>some ⟨(es,p),rfl⟩ | _=>none
@[irreducible] def iy(e:EI)(f:(ge EI)->Bool):Bool:=any1 (wI e) λ t=>f t.1.1
@[elab_as_elim] theorem nH(h:iy e g=true){C:EI->Prop}(k:∀a p,g a=true->C (.JoinedStr a p)):C e:=by
 unfold iy at h;exact let ⟨t,_,h⟩:=u5 h;Eq.mpr (congrArg C t.2) (k _ _ h)
noncomputable def wJ(e:EI):EC {t:EI×Int×(EC EI)×Pos // e=.FormattedValue t.1 t.2.1 t.2.2.1 t.2.2.2}:=match e with | .FormattedValue v c s p=>some ⟨(v,c,s,p),rfl⟩ | _=>none
@[irreducible] def inFv(e:EI)(f:EI->Int->(EC EI)->Bool):Bool:=any1 (wJ e) λ t=>f t.1.1 t.1.2.1 t.1.2.2.1
@[elab_as_elim] theorem wK(h:inFv e g=true){C:EI->Prop}(k:∀v c s p,g v c s=true->C (.FormattedValue v c s p)):C e:=by
 unfold inFv at h;exact let ⟨t,_,h⟩:=u5 h;Eq.mpr (congrArg C t.2) (k _ _ _ _ h)
noncomputable def wL(e:EI):EC {t:ES×EI×ER×Pos // e=.Lambda t.1 t.2.1 t.2.2.1 t.2.2.2}:=match e with | .Lambda pr bd sc p=>some ⟨(pr,bd,sc,p),rfl⟩ | _=>none
@[irreducible] def iz(e:EI)(f:ES->EI->ER->Pos->Bool):Bool:=any1 (wL e) λ t=>f t.1.1 t.1.2.1 t.1.2.2.1 t.1.2.2.2
@[elab_as_elim] theorem wM(h:iz e g=true){C:EI->Prop}(k:∀a b sc p,g a b sc p=true->C (.Lambda a b sc p)):C e:=by
 unfold iz at h;exact let ⟨t,_,h⟩:=u5 h;Eq.mpr (congrArg C t.2) (k _ _ _ _ h)
noncomputable def wN(e:EN):EC {t:(ge EI)×EI×Pos // e=.Assign t.1 t.2.1 t.2.2}:=match e with | .Assign t v p=>some ⟨(t,v,p),rfl⟩ | _=>none
@[irreducible] def iA(e:EN)(f:(ge EI)->EI->Pos->Bool):Bool:=any1 (wN e) λ t=>f t.1.1 t.1.2.1 t.1.2.2
@[elab_as_elim] theorem wO(h:iA e g=true){C:EN->Prop}(k:∀t v p,g t v p=true->C (.Assign t v p)):C e:=by
 unfold iA at h;exact let ⟨t,_,h⟩:=u5 h;Eq.mpr (congrArg C t.2) (k _ _ _ h)
noncomputable def wP(e:EN):EC {t:EI×Pos // e=.Expr t.1 t.2}:=match e with | .Expr v p=>some ⟨(v,p),rfl⟩ | _=>none
@[irreducible] def bL(e:EN)(f:EI->Pos->Bool):Bool:=any1 (wP e) λ t=>f t.1.1 t.1.2
@[elab_as_elim] theorem iB(h:bL e g=true){C:EN->Prop}(k:∀v p,g v p=true->C (.Expr v p)):C e:=by
 unfold bL at h;exact let ⟨t,_,h⟩:=u5 h;Eq.mpr (congrArg C t.2) (k _ _ h)
noncomputable def wQ(e:EN):EC {t:(EC EI)×Pos // e=.Return t.1 t.2}:=match e with | .Return v p=>some ⟨(v,p),rfl⟩ | _=>none
@[irreducible] def iC(e:EN)(f:(EC EI)->Pos->Bool):Bool:=any1 (wQ e) λ t=>f t.1.1 t.1.2
@[elab_as_elim] theorem wR(h:iC e g=true){C:EN->Prop}(k:∀v p,g v p=true->C (.Return v p)):C e:=by
 unfold iC at h;exact let ⟨t,_,h⟩:=u5 h;Eq.mpr (congrArg C t.2) (k _ _ h)
noncomputable def wS(e:EN):EC {t:EI×(ge EN)×(ge EN)×Pos // e=.If t.1 t.2.1 t.2.2.1 t.2.2.2}:=match e with | .If c a b p=>some ⟨(c,a,b,p),rfl⟩ | _=>none
@[irreducible] def iD(e:EN)(f:EI->(ge EN)->(ge EN)->Pos->Bool):Bool:=any1 (wS e) λ t=>f t.1.1 t.1.2.1 t.1.2.2.1 t.1.2.2.2
@[elab_as_elim] theorem wT(h:iD e g=true){C:EN->Prop}(k:∀c a b p,g c a b p=true->C (.If c a b p)):C e:=by
 unfold iD at h;exact let ⟨t,_,h⟩:=u5 h;Eq.mpr (congrArg C t.2) (k _ _ _ _ h)
noncomputable def wU(e:EN):EC {t:EI×EI×(ge EN)×(ge EN)×Pos // e=.For t.1 t.2.1 t.2.2.1 t.2.2.2.1 t.2.2.2.2}:=match e with | .For t i b o p=>some ⟨(t,i,b,o,p),rfl⟩ | _=>none
@[irreducible] def iE(e:EN)(f:EI->EI->(ge EN)->(ge EN)->Pos->Bool):Bool:=any1 (wU e) λ t=>f t.1.1 t.1.2.1 t.1.2.2.1 t.1.2.2.2.1 t.1.2.2.2.2
@[elab_as_elim] theorem wV(h:iE e g=true){C:EN->Prop}(k:∀t i b o p,g t i b o p=true->C (.For t i b o p)):C e:=by
 unfold iE at h;exact let ⟨t,_,h⟩:=u5 h;Eq.mpr (congrArg C t.2) (k _ _ _ _ _ h)
noncomputable def wW(e:EN):EC {t:EI×(ge EN)×(ge EN)×Pos // e=.While t.1 t.2.1 t.2.2.1 t.2.2.2}:=match e with | .While t b o p=>some ⟨(t,b,o,p),rfl⟩ | _=>none
@[irreducible] def inWh(e:EN)(f:EI->(ge EN)->(ge EN)->Pos->Bool):Bool:=any1 (wW e) λ t=>f t.1.1 t.1.2.1 t.1.2.2.1 t.1.2.2.2
@[elab_as_elim] theorem wX(h:inWh e g=true){C:EN->Prop}(k:∀t b o p,g t b o p=true->C (.While t b o p)):C e:=by
 unfold inWh at h;exact let ⟨t,_,h⟩:=u5 h;Eq.mpr (congrArg C t.2) (k _ _ _ _ h)
noncomputable def wY(e:EN):EC {t:EI×Operator×EI×Pos // e=.AugAssign t.1 t.2.1 t.2.2.1 t.2.2.2}:=match e with | .AugAssign t o v p=>some ⟨(t,o,v,p),rfl⟩ | _=>none
@[irreducible] def iF(e:EN)(f:EI->Operator->EI->Pos->Bool):Bool:=any1 (wY e) λ t=>f t.1.1 t.1.2.1 t.1.2.2.1 t.1.2.2.2
@[elab_as_elim] theorem wZ(h:iF e g=true){C:EN->Prop}(k:∀t o v p,g t o v p=true->C (.AugAssign t o v p)):C e:=by
 unfold iF at h;exact let ⟨t,_,h⟩:=u5 h;Eq.mpr (congrArg C t.2) (k _ _ _ _ h)
noncomputable def xa(e:EN):EC {t:(EC EI)×(EC EI)×Pos // e=.Raise t.1 t.2.1 t.2.2}:=match e with | .Raise v k p=>some ⟨(v,k,p),rfl⟩ | _=>none
@[irreducible] def eG(e:EN)(f:(EC EI)->(EC EI)->Pos->Bool):Bool:=any1 (xa e) λ t=>f t.1.1 t.1.2.1 t.1.2.2
@[elab_as_elim] theorem nI(h:eG e g=true){C:EN->Prop}(k:∀v k p,g v k p=true->C (.Raise v k p)):C e:=by
 unfold eG at h;exact let ⟨t,_,h⟩:=u5 h;Eq.mpr (congrArg C t.2) (k _ _ _ h)
noncomputable def xb(e:EN):EC {t:(ge EN)×(ge ExceptHandler)×(ge EN)×(ge EN)×Pos // e=.Try t.1 t.2.1 t.2.2.1 t.2.2.2.1 t.2.2.2.2}:=match e with | .Try b hs o d p=>some ⟨(b,hs,o,d,p),rfl⟩ | _=>none
@[irreducible] def iG(e:EN)(f:(ge EN)->(ge ExceptHandler)->(ge EN)->(ge EN)->Pos->Bool):Bool:=any1 (xb e) λ t=>f t.1.1 t.1.2.1 t.1.2.2.1 t.1.2.2.2.1 t.1.2.2.2.2
@[elab_as_elim] theorem xc(h:iG e g=true){C:EN->Prop}(k:∀b a o d p,g b a o d p=true->C (.Try b a o d p)):C e:=by
 unfold iG at h;exact let ⟨t,_,h⟩:=u5 h;Eq.mpr (congrArg C t.2) (k _ _ _ _ _ h)
def iH(e:EI)(f:EI->CmpOp->EI->Bool):Bool:=eC e λ a os bs=>in1 os λ o=>in1 bs λ b=>f a o b
@[elab_as_elim] theorem eH(h:iH e f=true){C:EI->Prop}(k:∀a o b p,f a o b=true->C (.Compare a [o] [b] p)):C e:=nD h λ a _ _ p h=>L8 h λ o h=>L8 h λ b h=>k a o b p h
def nJ(e:EI)(f:EI->CmpOp->CmpOp->EI->EI->Bool):Bool:=eC e λ a os bs=>in2 os λ o o2=>in2 bs λ b c=>f a o o2 b c
@[elab_as_elim] theorem nK(h:nJ e f=true){C:EI->Prop}(k:∀a o d b c p,f a o d b c=true->C (.Compare a [o,d] [b,c] p)):C e:=nD h λ a _ _ p h=>Y4 h λ o d h=>Y4 h λ b c h=>k a o d b c p h
def nL(e:EI)(f:EI->Bool):Bool:=bK e λ a b c=>inNo b (inNo c (any1 a f))
@[elab_as_elim] theorem xg(h:nL e f=true){C:EI->Prop}(k:∀x p,f x=true->C (.Slice (some x) none none p)):C e:=iu h λ _ _ _ p h=>O3 h λ h=>O3 h λ h=>L6 h λ x h=>k x p h
def nM(e:EI)(f:EI->Bool):Bool:=bK e λ a b c=>inNo a (inNo c (any1 b f))
@[elab_as_elim] theorem xh(h:nM e f=true){C:EI->Prop}(k:∀x p,f x=true->C (.Slice none (some x) none p)):C e:=iu h λ _ _ _ p h=>O3 h λ h=>O3 h λ h=>L6 h λ x h=>k x p h
def nN(e:EI)(f:EI->EI->Bool):Bool:=bK e λ a b c=>inNo c (any1 a λ x=>any1 b (f x))
@[elab_as_elim] theorem xi(h:nN e f=true){C:EI->Prop}(k:∀x y p,f x y=true->C (.Slice (some x) (some y) none p)):C e:=iu h λ _ _ _ p h=>O3 h λ h=>L6 h λ x h=>L6 h λ y h=>k x y p h
def inCl(e:EI)(f:EI->ge EI->Pos->Bool):Bool:=iv e λ g as ks p=>in0 ks (f g as p)
@[elab_as_elim] theorem G9(h:inCl e f=true){C:EI->Prop}(k:∀g as p,f g as p=true->C (.Call g as [] p)):C e:=wE h λ g as _ p h=>L7 h (k g as p)
def iJ(e:EI)(f:EI->Pos->Bool):Bool:=inCl e λ g as p=>in0 as (f g p)
@[elab_as_elim] theorem eI(h:iJ e f=true){C:EI->Prop}(k:∀g p,f g p=true->C (.Call g [] [] p)):C e:=G9 h λ g _ p h=>L7 h (k g p)
def O5(e:EI)(f:EI->EI->Pos->Bool):Bool:=inCl e λ g as p=>in1 as λ a=>f g a p
@[elab_as_elim] theorem H9(h:O5 e f=true){C:EI->Prop}(k:∀g a p,f g a p=true->C (.Call g [a] [] p)):C e:=G9 h λ g _ p h=>L8 h λ a h=>k g a p h
def eJ(e:EI)(f:EI->EI->EI->Pos->Bool):Bool:=inCl e λ g as p=>in2 as λ a b=>f g a b p
@[elab_as_elim] theorem bM(h:eJ e f=true){C:EI->Prop}(k:∀g a b p,f g a b p=true->C (.Call g [a,b] [] p)):C e:=G9 h λ g _ p h=>Y4 h λ a b h=>k g a b p h
def nP(e:EI)(f:EI->EI->EI->EI->Pos->Bool):Bool:=inCl e λ g as p=>inC as λ a r=>in2 r λ b c=>f g a b c p
@[elab_as_elim] theorem nQ(h:nP e f=true){C:EI->Prop}(k:∀g a b c p,f g a b c p=true->C (.Call g [a,b,c] [] p)):C e:=G9 h λ g _ p h=>iq h λ a _ h=>Y4 h λ b c h=>k g a b c p h
def iK(e:EI)(f:EI->EI->Bool):Bool:=bJ e λ es=>in2 es f
@[elab_as_elim] theorem nR(h:iK e f=true){C:EI->Prop}(k:∀a b n p,f a b=true->C (.Tuple [a,b] n p)):C e:=eF h λ _ n p h=>Y4 h λ a b h=>k a b n p h
def nS(e:EI)(f:EI->Bool):Bool:=inFv e λ v c s=>inNo s (decide (c = -1)&&f v)
@[elab_as_elim] theorem nT(h:nS e f=true){C:EI->Prop}(k:∀v p,f v=true->C (.FormattedValue v (-1) none p)):C e:=wK h λ v _ _ p h=>O3 h λ h=>(aX (F5.mp h).1)▸k v p (F5.mp h).2
def V0(e:EN)(f:EI->EI->Pos->Bool):Bool:=iA e λ ts v p=>in1 ts λ t=>f t v p
@[elab_as_elim] theorem Y6(h:V0 e f=true){C:EN->Prop}(k:∀t v p,f t v p=true->C (.Assign [t] v p)):C e:=wO h λ _ v p h=>L8 h λ t h=>k t v p h
def bN(e:EN)(f:EI->Pos->Bool):Bool:=iC e λ o p=>any1 o λ v=>f v p
@[elab_as_elim] theorem eK(h:bN e f=true){C:EN->Prop}(k:∀v p,f v p=true->C (.Return (some v) p)):C e:=wR h λ _ p h=>L6 h λ v h=>k v p h
def nU(e:EN)(f:EI->EI->ge EN->Pos->Bool):Bool:=iE e λ t i b o p=>in0 o (f t i b p)
@[elab_as_elim] theorem xj(h:nU e f=true){C:EN->Prop}(k:∀t i b p,f t i b p=true->C (.For t i b [] p)):C e:=wV h λ t i b _ p h=>L7 h (k t i b p)
def nV(e:EN)(f:EI->ge EN->Pos->Bool):Bool:=inWh e λ t b o p=>in0 o (f t b p)
@[elab_as_elim] theorem xk(h:nV e f=true){C:EN->Prop}(k:∀t b p,f t b p=true->C (.While t b [] p)):C e:=wX h λ t b _ p h=>L7 h (k t b p)
def nW(e:EN)(f:EI->Pos->Bool):Bool:=eG e λ v k p=>inNo k (any1 v λ v=>f v p)
@[elab_as_elim] theorem xl(h:nW e f=true){C:EN->Prop}(k:∀v p,f v p=true->C (.Raise (some v) none p)):C e:=nI h λ _ _ p h=>O3 h λ h=>L6 h λ v h=>k v p h
def iL(e:EN)(f:ge EN->ExceptHandler->Pos->Bool):Bool:=iG e λ b hs o d p=>in1 hs λ h=>in0 o (in0 d (f b h p))
@[elab_as_elim] theorem nX(h:iL e f=true){C:EN->Prop}(k:∀b x p,f b x p=true->C (.Try b [x] [] [] p)):C e:=xc h λ b _ _ _ p h=>L8 h λ x h=>L7 h λ h=>L7 h (k b x p)
def nY(e:ExceptHandler)(f:EI->Str->EI->EI->Bool):Bool:=match e with | .ExceptHandler t n b _=>any1 t λ t=>any1 n λ n=>in1 b λ s=>V0 s λ a b _=>f t n a b
@[elab_as_elim] theorem xm(h:nY e f=true){C:ExceptHandler->Prop}(k:∀t n a b p q,f t n a b=true->C (.ExceptHandler (some t) (some n) [.Assign [a] b p] q)):C e:=by
 obtain⟨x,y,z,q⟩:=e;exact L6 h λ t h=>L6 h λ n h=>L8 h λ s h=>Y6 h λ a b p h=>k t n a b p q h
def nZ(e:ExceptHandler)(f:EI->EI->EI->Bool):Bool:=match e with | .ExceptHandler t n b _=>any1 t λ t=>inNo n (in1 b λ s=>eG s λ v k _=>any1 v λ v=>any1 k λ k=>f t v k)
@[elab_as_elim] theorem xn(h:nZ e f=true){C:ExceptHandler->Prop}(k:∀t v w p q,f t v w=true->C (.ExceptHandler (some t) none [.Raise (some v) (some w) p] q)):C e:=by
 obtain⟨x,y,z,q⟩:=e;exact L6 h λ t h=>O3 h λ h=>L8 h λ s h=>nI h λ _ _ p h=>L6 h λ v h=>L6 h λ w h=>k t v w p q h
def v4(e:EI):EC Str:=(nB e).map λ t=>t.1.1
def K2(e:EI):EC Const:=(wv e).map λ t=>t.1.1
def F3(e:EI):EC (ge EI):=(nG e).map λ t=>t.1.1
def oa(e:EI):EC (EI×Operator×EI):=(nC e).map λ t=>(t.1.1,t.1.2.1,t.1.2.2.1)
theorem mpd{o:EC d}(h:o.map f=some b):∃a,f a=b:=by
 cases o with
 | none=>cases h
 | some a=>cases h;exact⟨a,rfl⟩
theorem z7(h:v4 e=some x):∃p,e=.Name x p:=let ⟨t,h⟩:=mpd h;⟨_,h▸t.2⟩
theorem V1(h:K2 e=some x):∃k p,e=.Constant x k p:=let ⟨t,h⟩:=mpd h;⟨_,_,h▸t.2⟩
theorem bO(h:F3 e=some a):∃k p,e=.Tuple a k p:=let ⟨t,h⟩:=mpd h;⟨_,_,h▸t.2⟩
theorem xo(h:oa e=some (a,o,b)):∃p,e=.BinOp a o b p:=by
 obtain⟨⟨⟨_,_,_,p⟩,z⟩,h⟩:=mpd h;cases h;exact⟨p,z⟩
structure CParts where
 elt:Expr
 tg:Expr
 it:Expr
 ifs:List Expr
 sc:Scope
def inCp(e:EI)(f:CParts->Bool):Bool:=iw e λ x gs sc=>in1 gs λ g=>decide (g.is_async=0)&&f ⟨x,g.target,g.iter,g.ifs,sc⟩
@[elab_as_elim] theorem aB(h:inCp e f=true){C:EI->Prop}(k:∀c p,f c=true->C (.ListComp c.elt [⟨c.tg,c.it,c.ifs,0⟩] c.sc p)):C e:=by
 refine wH h λ x gs d p h=>L8 h λ ⟨b,g,a,w⟩ h=>?_;obtain⟨i,h⟩:=F5.mp h;obtain rfl:=aX i;exact k ⟨x,b,g,a,d⟩ p h
noncomputable def visB(sg:Sg)(x:Str):Bool:=sg.sc.lookup x==some .local||sg.sc.lookup x==some .cell||sg.sc.lookup x==some .free
noncomputable def gloB(sg:Sg)(x:Str):Bool:=sg.sc.lookup x==some .globalImplicit
noncomputable def locB(sg:Sg)(x:Str):Bool:=sg.sc.lookup x==some .local||sg.sc.lookup x==some .cell
def G5(sg:Sg)(i:Nat)(x:Str):Bool:=sg.N[i]? == some x&&visB sg x&&x != "__debug__" && x != "__classdict__"
def bltB(sg:Sg)(x:Str)(f:EI):Bool:=v4 f==some x&&gloB sg x&&sg.bl.contains x
noncomputable def xp:Bi->Str
 | .len=>"len" | .any=>"any" | .all=>"all" | .sset=>"sorted" | .int=>"int" | .list=>"list" | .tuple=>"tuple" | .str=>"str"
noncomputable def og:Mt->Str
 | .bitLength=>"bit_length" | .index=>"index" | .get=>"get"
noncomputable def z8(sg:Sg)(tn:ge Str)(fr:ge (EC Nat)):ge Str:=tn++(fr.drop tn.length).map λ o=>match o with | some i=>sg.N.getD i "" | none=>""
def iM:Tg->EI->EC (ge Str)
 | .one _,e=>(v4 e).map λ x=>[x]
 | .many is,e=>match F3 e with
  | some es=>if es.length=is.length then es.mapM v4 else none
  | none=>none
def tgOk(sg:Sg):Tg->EI->Bool
 | .one i,e=>match v4 e with
  | some x=>sg.N[i]? == some x&&locB sg x
  | none=>false
 | .many is,e=>match F3 e with
  | some es=>es.length==is.length&&2<=es.length&&(is.zip es).all λ p=>match v4 p.2 with
   | some x=>sg.N[p.1]? == some x&&locB sg x
   | none=>false
  | none=>false
noncomputable def R0:ge Str->Bool
 | []=>true
 | x::r=>!r.contains x&&R0 r
noncomputable def R4:Tg->ge Nat
 | .one i=>[i]
 | .many is=>is
def O6(sg:Sg)(N':ge Str)(fr:ge (EC Nat))(sc:ER)(tg:Tg):Bool:=(R4 tg).all (λ i=>fr[i]? == some none) &&
 sc.kind == .function&&R0 N'&&R0 (sc.names.map (·.1))&&fr.length==N'.length &&
 (fr.zip N').all (λ p=>match p.1 with | some i=>sg.N[i]? == some p.2&&sc.names.contains (p.2,.free) | none=>true) &&
 sc.names.all λ y=>if y.2 == .free then sg.sc.lookup y.1==some .cell||sg.sc.lookup y.1==some .free else true
def bP(p:ES)(ps:ge Str):Bool:=match p with | ⟨po,ar,va,ko,kd,kw,df⟩=>in0 po (in2 ar λ a b=>inNo va (in0 ko (in0 kd (inNo kw (in0 df (a.arg == "r" && b.arg == "c" && ps==(["r","c"]:ge Str)))))))
@[elab_as_elim] theorem oh(h:bP p c=true){C:ES->ge Str->Prop}(k:∀x y z w,C ⟨[],[⟨"r",x,y⟩,⟨"c",z,w⟩],none,[],[],none,[]⟩ ["r","c"]):C p c:=by
 obtain⟨po,ar,va,ko,kd,kw,df⟩:=p;refine L7 h λ h=>Y4 h λ ⟨x,b,p1⟩ ⟨y,a,p2⟩ h=>O3 h λ h=>L7 h λ h=>L7 h λ h=>O3 h λ h=>L7 h λ h=>?_
 simp only[g9,i1]at h;obtain⟨⟨rfl,rfl⟩,rfl⟩:=h;exact k b p1 a p2
def oi(sg:Sg)(N:ge Str)(np:Nat)(fr:ge Nat)(pr:ES)(sc:ER):Bool:=bP pr (N.take np)&&sc.kind == .function && !sc.isCoroutine && !sc.isGenerator&&R0 N&&R0 (sc.names.map (·.1))&&decide (N.length=np+fr.length) &&
 (N.take np).all (λ x=>sc.names.lookup x==some .local)&&sc.names.all (λ y=>y.2 != .cell)&&(N.drop np).all (λ x=>sc.names.lookup x==some .free)&&(fr.zip (N.drop np)).all (λ p=>sg.N[p.1]? == some p.2) &&
 sc.names.all λ y=>if y.2 == .free then sg.sc.lookup y.1==some .cell else true
noncomputable def oj:ME->Bool
 | .comp _ _ _ _=>true
 | .compi _ _ _ _ _=>true
 | .compx _ _ _ _=>true
 | _=>false
noncomputable def isZp:ME->Bool
 | .zp _ _=>true
 | .enu _=>true
 | _=>false
noncomputable def rdN:ge Str:=["sign","at_digit","take","take_digit","take_plan","take_side","take_cards"]
def inMt(sg:Sg)(i m:Nat)(e:EI)(f:ge EI->Bool):Bool:=inCl e λ ef es pos=>K1 ef λ o n apos=>C7 o λ x=>G5 sg i x&&rdN[m]? == some n&&apos.endLine==pos.line&&decide (es.length<20)&&f es
@[elab_as_elim] theorem bQ(h:inMt b i m e f=true){C:EI->Prop}(k:∀x n np apos pos a,G5 b i x=true->rdN[m]? = some n->(apos.endLine==pos.line)=true->a.length<20->f a=true->C (.Call (.Attribute (.Name x np) n apos) a [] pos)):C e:=
 G9 h λ _ a pos h=>L9 h λ _ n apos h=>D6 h λ x np h=>by simp only[g9,J0]at h;exact k x n np apos pos a h.1.1.1.1 (i1.mp h.1.1.1.2) h.1.1.2 h.1.2 h.2
mutual
def corE(sg:Sg)(w:Bool):ME->EI->Bool
 | .var i,e=>C7 e λ x=>G5 sg i x
 | .int i,e=>K2 e==some (.int i)
 | .bl i,e=>K2 e==some (.bool i)
 | .str x,e=>K2 e==some (.str x)&&decide (x.length<=1000)
 | .non,e=>K2 e==some .none
 | .glb x,e=>v4 e==some x&&gloB sg x&&x != "__debug__"
 | .bin op a b,e=>ez e λ ea o eb=>o==op&&corE sg false a ea&&corE sg false b eb
 | .neg a,e=>inUn e λ o ea=>o == .USub&&corE sg false a ea
 | .not a,e=>inUn e λ o ea=>o == .Not&&corE sg false a ea
 | .cmp op a b,e=>iH e λ ea o eb=>o==op&&corE sg false a ea&&corE sg false b eb && !D5 eb
 | .chain op op' a b c,e=>nJ e λ ea o o' eb ec=>o==op&&o'==op'&&corE sg false a ea&&corE sg false b eb&&corE sg false c ec && !D5 ec
 | .and ms,e=>eD e λ o es=>o == .And&&j8 sg ms es
 | .or ms,e=>eD e λ o es=>o == .Or&&j8 sg ms es
 | .ite c a b,e=>inIf e λ ec ea eb=>corE sg false c ec&&corE sg false a ea&&corE sg false b eb
 | .lst ms,e=>ir e λ es=>j8 sg ms es
 | .tup ms,e=>bJ e λ es=>j8 sg ms es
 | .ix a b,e=>Y5 e λ ea eb=>corE sg false a ea&&corE sg false b eb && !ip eb
 | .slf a lo,e=>Y5 e λ ea es=>(nL es λ el=>corE sg false a ea&&corE sg false lo el)
 | .slt a hi,e=>Y5 e λ ea es=>(nM es λ eh=>corE sg false a ea&&corE sg false hi eh)
 | .stm a lo hi,e=>Y5 e λ ea es=>(nN es λ el eh=>corE sg false a ea&&corE sg false lo el&&corE sg false hi eh)
 | .fld i b,e=>K1 e λ o n _=>n==(if b then "place" else "text" : Str)&&(C7 o λ x=>G5 sg i x)
 | .mth i m,e=>inMt sg i m e λ as=>as.isEmpty
 | .scat a b,e=>ez e λ ea o eb=>o == .Add&&corE sg false a ea&&corE sg false b eb
 | .call0 f,e=>iJ e λ ef _=>(C7 ef λ x=>sg.fn[f]? == some x&&gloB sg x&&x != "__debug__")
 | .call f ms,e=>inCl e λ ef es _=>(C7 ef λ x=>sg.fn[f]? == some x&&gloB sg x&&x != "__debug__") && !es.isEmpty&&j8 sg ms es
 | .bi f ms,e=>inCl e λ ef es _=>bltB sg (xp f) ef && !es.isEmpty&&(match f with
   | .sset=>(in1 es λ e1=>inCl e1 λ ef' es' _=>bltB sg "set" ef'&&es'.length==1&&j8 sg ms es')
   | _=>j8 sg ms es)
 | .isi a ts,e=>eJ e λ ef ea et _=>bltB sg "isinstance" ef&&corE sg false a ea && !j3 ea && !j3 et&&(match ts with
   | [t]=>v4 et==some t&&gloB sg t&&sg.bl.contains t&&G3.contains t
   | [t,u]=>(iK et λ e1 e2=>(v4 e1==some t&&gloB sg t&&sg.bl.contains t&&G3.contains t)&&(v4 e2==some u&&gloB sg u&&sg.bl.contains u&&G3.contains u))
   | _=>false)
 | .isx a t,e=>eJ e λ ef ea et _=>bltB sg "isinstance" ef&&corE sg false a ea && !j3 ea && !j3 et&&v4 et==some t&&gloB sg t&&((sg.cl.contains t&&t != "__debug__")||(sg.bl.contains t&&nA.contains t))
 | .meth m a ms,e=>iJ e λ ef pos=>(K1 ef λ ea n apos=>n==og m&&corE sg false a ea&&((v4 ea).isSome||(oa ea).isSome)&&apos.endLine==pos.line&&ms.isEmpty)
 | .comp elt tg it fr,e=>inCp e λ c=>c.ifs.isEmpty&&(corE sg true it c.it&&(!isZp it||(F3 c.tg).isSome)) && !D5 c.it&&(any1 (iM tg c.tg) λ tn=>O6 sg (z8 sg tn fr) fr c.sc tg&&tgOk ⟨z8 sg tn fr,c.sc.names,sg.fn,sg.bl,sg.cl,false,false⟩ tg c.tg&&corE ⟨z8 sg tn fr,c.sc.names,sg.fn,sg.bl,sg.cl,false,false⟩ false elt c.elt)
 | .compx elt tg it fr,e=>inCp e λ c=>sg.top&&c.ifs.isEmpty&&(corE sg true it c.it&&(!isZp it||(F3 c.tg).isSome)) && !D5 c.it&&(any1 (iM tg c.tg) λ tn=>O6 sg (z8 sg tn fr) fr c.sc tg&&tgOk ⟨z8 sg tn fr,c.sc.names,sg.fn,sg.bl,sg.cl,false,false⟩ tg c.tg&&corE ⟨z8 sg tn fr,c.sc.names,sg.fn,sg.bl,sg.cl,false,false⟩ false elt c.elt)
 | .compi elt tg it cd fr,e=>inCp e λ c=>(corE sg true it c.it&&(!isZp it||(F3 c.tg).isSome)) && !D5 c.it&&(any1 (iM tg c.tg) λ tn=>in1 c.ifs λ ec=>O6 sg (z8 sg tn fr) fr c.sc tg&&tgOk ⟨z8 sg tn fr,c.sc.names,sg.fn,sg.bl,sg.cl,false,false⟩ tg c.tg&&corE ⟨z8 sg tn fr,c.sc.names,sg.fn,sg.bl,sg.cl,false,false⟩ false elt c.elt&&corE ⟨z8 sg tn fr,c.sc.names,sg.fn,sg.bl,sg.cl,false,false⟩ false cd ec)
 | .idx a b,e=>O5 e λ ef eb pos=>(K1 ef λ ea n apos=>n == "index" && corE sg false a ea&&(v4 ea).isSome&&apos.endLine==pos.line&&corE sg false b eb && !j3 eb)
 | .gdx x b,e=>Y5 e λ ea eb=>v4 ea==some x&&gloB sg x&&x != "__debug__" && corE sg false b eb && !ip eb
 | .fnd a b,e=>O5 e λ ef eb pos=>(K1 ef λ ea n apos=>n == "find" && corE sg false a ea&&((v4 ea).isSome||(K2 ea).isSome)&&apos.endLine==pos.line&&corE sg false b eb && !j3 eb)
 | .spl a b,e=>O5 e λ ef eb pos=>(K1 ef λ ea n apos=>n == "split" && corE sg false a ea&&((v4 ea).isSome||(K2 ea).isSome)&&apos.endLine==pos.line&&corE sg false b eb && !j3 eb)
 | .joi a b,e=>O5 e λ ef eb pos=>(K1 ef λ ea n apos=>n == "join" && corE sg false a ea&&((v4 ea).isSome||(K2 ea).isSome)&&apos.endLine==pos.line&&corE sg false b eb && !j3 eb)
 | .fmt a,e=>nS e λ v=>corE sg false a v
 | .fst ms,e=>iy e λ es=>decide (2<=es.length)&&j8 sg ms es
 | .gno x b,e=>iH e λ ek o eo=>o == .NotIn&&(v4 eo==some x&&gloB sg x&&x != "__debug__")&&corE sg false b ek
 | .rng ms,e=>w&&(inCl e λ ef es _=>bltB sg "range" ef&&j8 sg ms es&&decide (es.length<=1))
 | .zp a b,e=>w&&(eJ e λ ef ea eb _=>bltB sg "zip" ef&&corE sg false a ea&&corE sg false b eb && !j3 ea && !j3 eb)
 | .enu a,e=>w&&(O5 e λ ef ea _=>bltB sg "enumerate" ef&&corE sg false a ea && !j3 ea)
 | .callv i xs ms,e=>inCl e λ ef es _=>(C7 ef λ x=>G5 sg i x)&&(xs.all λ p=>sg.fn[p.2]? == some p.1) && !es.isEmpty&&j8 sg ms es
 | .calll f a b N np lb fr,e=>sg.top&&(nP e λ ef ea eb el _=>(C7 ef λ x=>iz el λ pr bd sc _=>sg.fn[f]? == some x&&gloB sg x&&x != "__debug__" && corE sg false a ea && !j3 ea&&corE sg false b eb && !j3 eb&&oi sg N np fr pr sc&&corE ⟨N,sc.names,sg.fn,sg.bl,sg.cl,false,false⟩ false lb bd))
def j8(sg:Sg):ge ME->ge EI->Bool
 | [],[]=>true
 | m::ms,e::es=>corE sg false m e && !j3 e&&j8 sg ms es
 | _,_=>false
end
def iN(v:EI):Bool:=match F3 v with
 | none=>true
 | some vs=>vs.all (foldedForSure 8)
mutual
def corS (sg : Sg) : MS -> EN -> Bool
 | .set i _ e, s => V0 s λ t v pos => (C7 t λ x => sg.N[i]? == some x && locB sg x && corE sg false e v && (!Q9 v || oj e))
 | .sett is e, s => V0 s λ t v _ => tgOk sg (.many is) t && corE sg false e v && iN v && !Q9 v
 | .app i e, s => bL s λ v _ => (O5 v λ ef ea pos => (K1 ef λ o n apos => n == "append" && (C7 o λ x => G5 sg i x) && corE sg false e ea && !j3 ea && apos.endLine == pos.line))
 | .exp e, s => bL s λ v _ => corE sg false e v && !Q9 v
 | .ret e, s => bN s λ v _ => corE sg false e v
 | .ret0 ms, s => bN s λ v _ => (bJ v λ es => j8 sg ms es)
 | .iff c a b, s => iD s λ ec ea eb _ => corE sg false c ec && C8 sg a ea && C8 sg b eb
 | .fo tg it body, s => nU s λ t i b _ => sg.lp && tgOk sg tg t && (corE sg true it i && (!isZp it || (F3 t).isSome)) && !D5 i && C8 sg body b
 | .wh c body, s => nV s λ t b _ => sg.lp && corE sg false c t && C8 sg body b
 | .unk, _ => true
 | .fau i e, s => iF s λ t o v _ => o == .Add && (K1 t λ ob n _ => n == "place" && (C7 ob λ x => G5 sg i x)) && corE sg false e v
 | .msx i m es, s => bL s λ v _ => (inMt sg i m v λ as => j8 sg es as) && !Q9 v
 | .mst j i m es, s => V0 s λ t v _ => (C7 t λ x => sg.N[j]? == some x && locB sg x) && (inMt sg i m v λ as => j8 sg es as) && !Q9 v
 | .rtm _ e, s => bN s λ v _ => corE sg false e v
 | .rtd i m x, s => bN s λ v _ => (iK v λ a b => corE sg false (.str x) a && !j3 a && (inMt sg i m b λ as => j8 sg [] as))
 | .mkr i e, s => V0 s λ t v _ => (C7 t λ x => sg.N[i]? == some x && locB sg x) && (O5 v λ ef ea _ => v4 ef == some "Reader" && gloB sg "Reader" && corE sg false e ea && !j3 ea)
 | .rdp j i, s => V0 s λ t v _ => (C7 t λ x => sg.N[j]? == some x && locB sg x) && (inMt sg i 4 v λ as => as.isEmpty)
 | .rse c e, s => nW s λ v _ => (O5 v λ ef ea _ => sg.top && v4 ef == some c && gloB sg c && c != "__debug__" && corE sg false e ea && !j3 ea)
 | .tryc body c ie ic, s => iL s λ b h _ => sg.top && C8 ⟨sg.N, sg.sc, sg.fn, sg.bl, sg.cl, false, false⟩ body b && (nY h λ t n t2 v2 => v4 t == some c && gloB sg c && c != "__debug__" && sg.cl.contains c && sg.N[ie]? == some n && sg.sc.lookup n == some .local && n != "__debug__" && n != "__classdict__" &&
     v4 v2 == some n && (C7 t2 λ x => sg.N[ic]? == some x && locB sg x) && ie != ic)
 | .tryr body c cr msg, s => iL s λ b h _ => sg.top && C8 ⟨sg.N, sg.sc, sg.fn, sg.bl, sg.cl, false, false⟩ body b && (nZ h λ t v k => (O5 v λ ef ea _ => v4 t == some c && gloB sg c && c != "__debug__" && sg.cl.contains c && v4 ef == some cr && gloB sg cr && cr != "__debug__" && K2 ea == some (.str msg) && K2 k == some .none))
 | .frz _, _ => false
def C8(sg:Sg):ge MS->ge EN->Bool
 | [],[]=>true
 | .frz _::ms,ss=>C8 sg ms ss
 | m::ms,s::ss=>corS sg m s&&C8 sg ms ss
 | _,_=>false
end
end
end L2
end
noncomputable section
namespace L2
open PySem PySem.Spec PyProof.Rows
def R5(H:Hp)(q:Str)(params:ES)(body:EI)(scope:ER)(cl:ge (Str×EG))(f:EG):Prop:=
 ∃c' oc u vs t pm ctv,H f=some (.frz (PySem.W.kla_obj "<lambda>" q params body scope cl pm c' ctv) (.own f))/\H c'=some (.frz oc u)/\oc.data=.fields vs/\vs[1]? = some (.str q t)
theorem R5.mono(e:Same H c)(h:R5 H q a body scope cl f):R5 c q a body scope cl f:=by
 obtain⟨l,i,u,d,t,g,b,k,j,r⟩:=h;exact⟨l,i,u,d,t,g,b,e _ _ k,e _ _ j,r⟩
structure LamScope(N ps:List Str)(sc:Scope)(cl:List (Str×Addr))(l:List Addr):Prop where
 kind:sc.kind=.function
 co:sc.isCoroutine=false
 gen:sc.isGenerator=false
 nd:N.Nodup
 pre:N.take ps.length=ps
 par:∀x∈ps,sc.names.lookup x=some .local
 nocell:∀y∈sc.names,y.2 ≠ .cell
 fre:∀i x,ps.length<=i->N[i]? = some x->sc.names.lookup x=some .free
 has:∀x,sc.names.lookup x=some .free->∃c,cl.lookup x=some c
 inj:∀x y c,cl.lookup x=some c->cl.lookup y=some c->x=y
 mem:∀x c,cl.lookup x=some c->c∈l
def bR(H:Hp)(N:ge Str)(np:Nat)(cl:ge (Str×EG))(l:ge EG)(ws:ge V):Prop:=N.length=np+ws.length/\(∀c∈l,∃o v,H c=some (.frz o (.own c))/\o.data=.cell v) /\
 ∀(i:Nat) x v,N[np+i]? = some x->ws[i]? = some v->∃c o u,cl.lookup x=some c/\H c=some (.frz o (.own c))/\o.data=.cell (some u)/\RelV v u
theorem bR.mono(e:Same H d)(h:bR H N np cl l ws):bR d N np cl l ws:=
 ⟨h.1,λ c f=>by obtain⟨o,v,b,a⟩:=h.2.1 c f;exact⟨o,v,e _ _ b,a⟩,λ i x v j g=>by obtain⟨c,o,u,b,a,r⟩:=h.2.2 i x v j g;exact⟨c,o,u,b,e _ _ a,r⟩⟩
noncomputable def bS(m:LamD)(params:ES)(body:EI)(scope:ER):Bool:=bP params (m.N.take m.np)&&corE ⟨m.N,scope.names,m.fn,m.bl,m.cl,false,false⟩ false m.body body
theorem xq(h:bP a e=true)(d:c.length=e.length):bindArgs (PySem.W.kla_fn "<lambda>" q a b sc cl pm cd f) ⟨c,[]⟩=pure (e.zip c):=by
 revert d;refine oh h λ x y z w d=>?_
 obtain⟨u,v,rfl⟩:∃u v,c=[u,v]:=by
  cases c with
  | nil=>cases d
  | cons u r=>cases r with
   | nil=>cases d
   | cons v r=>cases r with
    | nil=>exact⟨u,v,rfl⟩
    | cons _ _=>cases d
 rfl
structure Dm where
 K:PySem.W.Frag
 mg:Str->Option Value
abbrev Cx.D(X:Cx):Dm:=⟨X.K,X.mg⟩
def SqS(K:EQ)(H:Hp)(a:EG)(xs:ge V):Prop:=(∃o,H a=some (.frz o (.lst xs))) \/
 ∃(o:Obj) (its:EJ ED) (n:Nat),K.lookup a=some o/\o.cls=.type "list" /\ o.dict=none/\o.data=.seq its n/\its.size<=sizeLine/\Vals xs its.toList
theorem SqS.sq{K:EQ}(h:SqS K H a xs):SqL K H a xs:=by
 rcases h with h | h
 ·exact .inl (.inr h)
 ·exact .inr h
theorem SqS.of{K:EQ}(b:Only H)(h:SqL K H a xs):SqS K H a xs:=by
 rcases h with(h | h) | h
 ·rcases b a with z | z
  ·rw[h]at z;cases z
  ·rcases z with⟨o,ys,z⟩ | ⟨q,z⟩<;>(rw[h]at z;cases z)
 ·exact .inl h
 ·exact .inr h
theorem Same.sqs{K:EQ}(e:Same H b)(h:SqS K H a xs):SqS K b a xs:=by
 rcases h with⟨o,h⟩ | h
 ·exact .inl ⟨o,e _ _ h⟩
 ·exact .inr h
noncomputable def mutO:HO->Bool
 | .lst _=>true
 | .ins _ _ _=>true
 | _=>false
mutual
def Rep(D:Dm)(H:Hp):DV->V->Prop
 | .non,v=>v=.non
 | .bl b,v=>v=.bl b
 | .int i,v=>v=.int i
 | .str x,v=>v=.str x/\x.length<=sizeLine
 | .tup ds,v=>∃a xs,v=.ref a/\SqT D.K H a xs/\RepL D H ds xs
 | .lst ds,v=>∃a xs,v=.ref a/\H a=some (.lst xs)/\RepL D H ds xs
 | .dct _ _,_=>False
 | .exc c,v=>∃a C,v=.ref a/\D.mg c=some C/\H a=some (excO a C)
 | .fn x,v=>∃f,v=.ref f/\D.mg x=some (.ref f)
 | .lam m cs,v=>∃f pr bd sc q cl l ws,v=.ref f/\R5 H q pr bd sc cl f/\bS m pr bd sc=true/\LamScope m.N (m.N.take m.np) sc cl l/\RepL D H cs ws/\bR H m.N m.np cl l ws
 | .scr ns,v=>∃a,v=.ref a/\SqS D.K H a (ns.map V.int)
def RepL(D:Dm)(H:Hp):ge DV->ge V->Prop
 | [],xs=>xs=[]
 | d::ds,xs=>∃v vs,xs=v::vs/\Rep D H d v/\RepL D H ds vs
end
theorem Same.tseq{K:EQ}(e:Same H b)(h:SqT K H a xs):SqT K b a xs:=by
 rcases h with(h | ⟨o,h⟩) | h
 ·exact .inl (.inl (e _ _ h))
 ·exact .inl (.inr ⟨o,e _ _ h⟩)
 ·exact .inr h
mutual
theorem Rep.mono{D:Dm}{H H':Hp}(e:Same H H'):∀{d:DV} {v:V},Rep D H d v->Rep D H' d v
 | .non,_,h=>by unfold Rep at h ⊢;exact h
 | .bl _,_,h=>by unfold Rep at h ⊢;exact h
 | .int _,_,h=>by unfold Rep at h ⊢;exact h
 | .str _,_,h=>by unfold Rep at h ⊢;exact h
 | .tup ds,_,h=>by unfold Rep at h ⊢;obtain⟨a,xs,e1,e2,e3⟩:=h;exact⟨a,xs,e1,e.tseq e2,RepL.mono e e3⟩
 | .lst ds,_,h=>by unfold Rep at h ⊢;obtain⟨a,xs,e1,e2,e3⟩:=h;exact⟨a,xs,e1,e _ _ e2,RepL.mono e e3⟩
 | .dct _ _,_,h=>by unfold Rep at h;exact h.elim
 | .exc C,_,h=>by unfold Rep at h ⊢;obtain⟨a,C,e1,e2,e3⟩:=h;exact⟨a,C,e1,e2,e _ _ e3⟩
 | .fn _,_,h=>by unfold Rep at h ⊢;exact h
 | .lam m cs,_,h=>by unfold Rep at h ⊢;obtain⟨f,pr,bd,sc,q,cl,l,ws,e1,e2,e3,e4,e5,e6⟩:=h;exact⟨f,pr,bd,sc,q,cl,l,ws,e1,e2.mono e,e3,e4,RepL.mono e e5,e6.mono e⟩
 | .scr _,_,h=>by unfold Rep at h ⊢;obtain⟨a,e1,e2⟩:=h;exact⟨a,e1,e.sqs e2⟩
theorem RepL.mono{D:Dm}{H H':Hp}(e:Same H H'):∀{ds:ge DV} {xs:ge V},RepL D H ds xs->RepL D H' ds xs
 | [],_,h=>by unfold RepL at h ⊢;exact h
 | d::ds,_,h=>by unfold RepL at h ⊢;obtain⟨v,vs,e1,e2,e3⟩:=h;exact⟨v,vs,e1,Rep.mono e e2,RepL.mono e e3⟩
end
theorem C5:Rep D H (.int i) v↔v=.int i:=by unfold Rep;exact K9
theorem R6:Rep D H (.bl i) v↔v=.bl i:=by unfold Rep;exact K9
theorem x0:Rep D H (.str i) v↔(v=.str i/\i.length<=sizeLine):=by unfold Rep;exact K9
theorem R7:Rep D H .non v↔v=.non:=by unfold Rep;exact K9
theorem y7:Rep D H (.tup ds) v↔∃a b,v=.ref a/\SqT D.K H a b/\RepL D H ds b:=by unfold Rep;exact K9
theorem A2:Rep D H (.lst ds) v↔∃a b,v=.ref a/\H a=some (.lst b)/\RepL D H ds b:=by unfold Rep;exact K9
theorem iO:Rep D H (.exc c) v↔∃a C,v=.ref a/\D.mg c=some C/\H a=some (excO a C):=by unfold Rep;exact K9
theorem bT:Rep D H (.lam m cs) v↔∃f pr c a q cl l b,v=.ref f/\R5 H q pr c a cl f/\bS m pr c a=true/\LamScope m.N (m.N.take m.np) a cl l/\RepL D H cs b/\bR H m.N m.np cl l b:=by unfold Rep;exact K9
theorem eL:Rep D H (.fn x) v↔∃f,v=.ref f/\D.mg x=some (.ref f):=by unfold Rep;exact K9
theorem O7:Rep D H (.scr b) v↔∃a,v=.ref a/\SqS D.K H a (b.map V.int):=by unfold Rep;exact K9
theorem bU(h:Rep D H (.dct a vs) v):False:=by unfold Rep at h;exact h
theorem A3:RepL D H [] a↔a=[]:=by unfold RepL;exact K9
theorem t7:RepL D H (d::ds) xs↔∃v a,xs=v::a/\Rep D H d v/\RepL D H ds a:=by
 constructor
 ·intro h;exact h
 ·intro h;exact h
theorem RepL.length:∀{a:ge DV} {xs:ge V},RepL D H a xs->xs.length=a.length
 | [],_,h=>by rw[A3.mp h];rfl
 | d::a,_,h=>by obtain⟨v,vs,c,_,b⟩:=t7.mp h;rw[c,o5,o5,RepL.length b]
theorem RepL.get:∀{ds:ge DV} {xs:ge V} {i:Nat} {d:DV},RepL D H ds xs->ds[i]? = some d->∃v,xs[i]? = some v/\Rep D H d v
 | [],_,_,_,_,e=>by simp at e
 | d::ds,_,i,d',h,e=>by
  obtain⟨v,vs,c,b,a⟩:=t7.mp h;subst c;cases i with
  | zero=>simp at e;subst e;exact⟨v,rfl,b⟩
  | succ i=>simpa using RepL.get a (by simpa using e)
theorem RepL.append:∀{a es:ge DV} {xs ys:ge V},RepL D H a xs->RepL D H es ys->RepL D H (a++es) (xs++ys)
 | [],_,_,_,h,b=>by rwa [A3.mp h]
 | d::a,_,_,_,h,b=>by obtain⟨v,vs,f,e,c⟩:=t7.mp h;subst f;exact t7.mpr ⟨v,_,rfl,e,RepL.append c b⟩
theorem RepL.one(h:Rep D H d v):RepL D H [d] [v]:=t7.mpr ⟨v,[],rfl,h,A3.mpr rfl⟩
theorem RepL.take:∀{a:ge DV} {xs:ge V} (n:Nat),RepL D H a xs->RepL D H (a.take n) (xs.take n)
 | _,_,0,_=>A3.mpr rfl
 | [],_,n+1,h=>by rw[A3.mp h];exact A3.mpr rfl
 | d::a,_,n+1,h=>by obtain⟨v,vs,e,c,b⟩:=t7.mp h;subst e;exact t7.mpr ⟨v,_,rfl,c,RepL.take n b⟩
theorem RepL.drop:∀{a:ge DV} {xs:ge V} (n:Nat),RepL D H a xs->RepL D H (a.drop n) (xs.drop n)
 | _,_,0,h=>h
 | [],_,n+1,h=>by rw[A3.mp h];exact A3.mpr rfl
 | d::a,_,n+1,h=>by obtain⟨v,vs,c,e2,b⟩:=t7.mp h;subst c;exact RepL.drop n b
theorem RepL.rep(h:RepL D H ds a):∀k:Nat,RepL D H (List.replicate k ds).flatten (List.replicate k a).flatten
 | 0=>A3.mpr rfl
 | k+1=>by rw[W8,W8,ac,ac];exact h.append (RepL.rep h k)
theorem V2:∀(a:ge Int),RepL D H (a.map DV.int) (a.map V.int)
 | []=>A3.mpr rfl
 | n::a=>t7.mpr ⟨_,_,rfl,C5.mpr rfl,V2 a⟩
noncomputable def wo(O:ge EG)(H:Hp):Hp:=λ b=>if b∈O then none else H b
theorem Y7(h:b∈O):wo O H b=none:=i3 h
theorem i7(h:b∉O):wo O H b=H b:=i4 h
theorem x3(h:wo O H b=some o):b∉O/\H b=some o:=by
 by_cases a:b∈O
 ·rw[Y7 a]at h;cases h
 ·rw[i7 a]at h;exact⟨a,h⟩
theorem Same.wo{O:ge EG}{H H':Hp}(e:Same H H'):Same (wo O H) (wo O H'):=λ b o h=>by
 obtain⟨hb,h⟩:=x3 h;rw[i7 hb];exact e b o h
theorem m8:Same (L2.wo O H) H:=λ b o h=>(x3 h).2
theorem n9(h:∀b∈a,b∈O):Same (L2.wo O H) (L2.wo a H):=λ b o e=>by
 obtain⟨c,e⟩:=x3 e
 rwa [i7 λ z=>c (h b z)]
theorem n0(h:H p=none):Same H (upd H p o):=λ b u q=>by rwa [j1 (B2 q h)]
structure Hid(O W:List Addr)(H0 H:Hp):Prop where
 ot:∀a∈O++W,H0 a≠none
 same:Same H0 H
 wl:∀a∈W,∃o,H0 a=some o/\mutO o=true
 dj:∀a∈W,a∉O
 om:∀a∈O,∃o,H0 a=some o/\mutO o=true
def Hdn(O:ge EG)(H:Hp):Prop:=∀a∈O,∃o,H a=some o/\mutO o=true
theorem Hdn.ne(h:Hdn O H):∀a∈O,H a≠none:=λ a b q=>by obtain⟨o,e,_⟩:=h a b;rw[q]at e;cases e
theorem Hid.omS(h:Hid O W b H)(e:Same b c):Hdn O c:=λ a d=>by obtain⟨o,q,m⟩:=h.om a d;exact⟨o,e _ _ q,m⟩
theorem Hid.omW(h:Hid O W b H)(c:p∈W):Hdn O (upd b p x):=λ a d=>by
 obtain⟨o,q,m⟩:=h.om a d;exact⟨o,by rw[j1 λ z=>h.dj p c (by grind)];exact q,m⟩
theorem Hid.hdO(h:Hid O W a H):Hdn O H:=h.omS h.same
theorem Hid.hdA(h:Hid O W c H):Hdn (O++W) H:=λ a b=>by
 rcases x5.mp b with z | z
 ·exact h.hdO a z
 ·obtain⟨o,q,m⟩:=h.wl a z;exact⟨o,h.same _ _ q,m⟩
theorem Hid.mono(h:Hid O W a H)(e:Same H b):Hid O W a b:=⟨h.ot,h.same.trans e,h.wl,h.dj,h.om⟩
theorem Hid.newOut(h:Hid O W b H)(a:H p=none):p∉O++W:=λ z=>h.ot p z (h.same.free a)
mutual
theorem Rep.immut{D:Dm}{O W:ge EG}{H:Hp}(hw:∀a∈W,∃o,H a=some o/\mutO o=true):∀{d:DV} {v:V},d.immut=true->Rep D (L2.wo O H) d v->Rep D (L2.wo (O++W) H) d v
 | .non,_,_,h=>by unfold Rep at h ⊢;exact h
 | .bl _,_,_,h=>by unfold Rep at h ⊢;exact h
 | .int _,_,_,h=>by unfold Rep at h ⊢;exact h
 | .str _,_,_,h=>by unfold Rep at h ⊢;exact h
 | .tup ds,_,m,h=>by
  unfold Rep at h ⊢;obtain⟨a,xs,e1,e2,e3⟩:=h;have m':DV.immuts ds=true:=by unfold DV.immut at m;exact m
  refine⟨a,xs,e1,?_,RepL.immut hw m' e3⟩;rcases e2 with(h | ⟨o,h⟩) | h
  ·obtain⟨ha,h⟩:=x3 h;refine .inl (.inl ?_);rw[i7 λ z=>?_]
   ·exact h
   ·rcases x5.mp z with z | z
    ·exact ha z
    ·obtain⟨ys,q,m⟩:=hw a z;rw[h]at q;cases q;cases m
  ·obtain⟨ha,h⟩:=x3 h;refine .inl (.inr ⟨o,?_⟩);rw[i7 λ z=>?_]
   ·exact h
   ·rcases x5.mp z with z | z
    ·exact ha z
    ·obtain⟨ys,q,m⟩:=hw a z;rw[h]at q;cases q;cases m
  ·exact .inr h
 | .lst ds,_,m,_=>by unfold DV.immut at m;cases m
 | .dct _ _,_,_,h=>by unfold Rep at h;exact h.elim
 | .exc C,_,_,h=>by
  unfold Rep at h ⊢;obtain⟨a,C,e1,e2,e3⟩:=h;obtain⟨ha,h⟩:=x3 e3;refine⟨a,C,e1,e2,?_⟩;rw[i7 λ z=>?_]
  ·exact h
  ·rcases x5.mp z with z | z
   ·exact ha z
   ·obtain⟨ys,q,m⟩:=hw a z;rw[h]at q;cases q;cases m
 | .fn _,_,_,h=>by unfold Rep at h ⊢;exact h
 | .lam _ _,_,m,_=>by unfold DV.immut at m;cases m
 | .scr ns,_,_,h=>by
  unfold Rep at h ⊢;obtain⟨a,e1,e2⟩:=h;refine⟨a,e1,?_⟩;rcases e2 with⟨o,h⟩ | h
  ·obtain⟨ha,h⟩:=x3 h;refine .inl ⟨o,?_⟩;rw[i7 λ z=>?_]
   ·exact h
   ·rcases x5.mp z with z | z
    ·exact ha z
    ·obtain⟨ys,q,m⟩:=hw a z;rw[h]at q;cases q;cases m
  ·exact .inr h
theorem RepL.immut{D:Dm}{O W:ge EG}{H:Hp}(hw:∀a∈W,∃o,H a=some o/\mutO o=true):∀{ds:ge DV} {xs:ge V},DV.immuts ds=true->RepL D (L2.wo O H) ds xs->RepL D (L2.wo (O++W) H) ds xs
 | [],_,_,h=>by unfold RepL at h ⊢;exact h
 | d::ds,_,m,h=>by unfold RepL at h ⊢;obtain⟨v,vs,e1,e2,e3⟩:=h;unfold DV.immuts at m;rw[g9]at m;exact⟨v,vs,e1,Rep.immut hw m.1 e2,RepL.immut hw m.2 e3⟩
end
def RepT(D:Dm)(W:ge EG)(Ht H:Hp)(d:DV)(v:V):Prop:=match d with
 | .lst ds=>∃a xs,v=.ref a/\a∈W/\Ht a=some (.lst xs)/\RepL D H ds xs
 | d=>Rep D H d v
theorem RepT.mono(k:Same g f)(e:Same H i)(h:RepT D W g H d v):RepT D W f i d v:=by
 cases d with
 | lst ds=>obtain⟨a,j,n,o,m,l⟩:=h;exact⟨a,j,n,o,k _ _ m,l.mono e⟩
 | non=>exact Rep.mono e h
 | bl b=>exact Rep.mono e h
 | int b=>exact Rep.mono e h
 | str b=>exact Rep.mono e h
 | tup b=>exact Rep.mono e h
 | dct b c=>exact Rep.mono e h
 | exc b=>exact Rep.mono e h
 | fn b=>exact Rep.mono e h
 | lam b c=>exact Rep.mono e h
 | scr b=>exact Rep.mono e h
theorem RepT.rep(e:Same H f)(h:RepT D W f H d v):Rep D f d v:=by
 cases d with
 | lst ds=>obtain⟨a,g,k,e0,j,i⟩:=h;exact A2.mpr ⟨a,g,k,j,i.mono e⟩
 | non=>exact Rep.mono e h
 | bl b=>exact Rep.mono e h
 | int b=>exact Rep.mono e h
 | str b=>exact Rep.mono e h
 | tup b=>exact Rep.mono e h
 | dct b c=>exact Rep.mono e h
 | exc b=>exact Rep.mono e h
 | fn b=>exact Rep.mono e h
 | lam b c=>exact Rep.mono e h
 | scr b=>exact Rep.mono e h
def Got(D:Dm)(O W:ge EG)(H0 H:Hp)(d:DV)(c:Cl)(v:V):Prop:=match c with
 | .weak=>Rep D (L2.wo O H) d v
 | .top=>RepT D W (L2.wo O H) (L2.wo (O++W) H) d v
 | .strong=>Rep D (L2.wo (O++W) H) d v
 | .fresh=>∃p xs ds,v=.ref p/\d=.lst ds/\H0 p=none/\H p=some (.lst xs)/\RepL D (L2.wo (p::(O++W)) H) ds xs
 | .ft=>∃ms:ge Int,∃t ts p xs ds es,v=.ref t/\d=.tup (ms.map DV.int ++ .lst ds::es)/\SqT D.K (L2.wo (O++W) H) t (ms.map V.int ++ .ref p::ts)/\H0 p=none/\H p=some (.lst xs)/\RepL D (L2.wo (p::(O++W)) H) ds xs/\RepL D (L2.wo (p::(O++W)) H) es ts
section
variable {D:Dm} {O W:ge EG} {H0 H H':Hp} {d:DV} {ds:ge DV} {c:Cl} {v:V}
theorem V3:∀b∈O,b∈O++W:=λ _ h=>u8 _ h
theorem Got.mono(h:Got D O W H0 H d c v)(e:Same H H'):Got D O W H0 H' d c v:=by
 cases c with
 | weak=>exact Rep.mono e.wo h
 | top=>exact RepT.mono e.wo e.wo h
 | strong=>exact Rep.mono e.wo h
 | fresh=>
  obtain⟨p,a,k,j,i,g,f,b⟩:=h;exact⟨p,a,k,j,i,g,e _ _ f,b.mono e.wo⟩
 | ft=>
  obtain⟨m,t,l,p,a,k,es,j,i,o,g,f,b,n⟩:=h;exact⟨m,t,l,p,a,k,es,j,i,e.wo.tseq o,g,e _ _ f,b.mono e.wo,n.mono e.wo⟩
theorem Got.since(h:Got D O W l H d c v)(e:Same H0 l):Got D O W H0 H d c v:=by
 cases c with
 | weak=>exact h
 | top=>exact h
 | strong=>exact h
 | fresh=>
  obtain⟨p,a,k,j,i,g,f,b⟩:=h;exact⟨p,a,k,j,i,e.free g,f,b⟩
 | ft=>
  obtain⟨n,t,m,p,a,k,es,j,i,q,g,f,b,o⟩:=h;exact⟨n,t,m,p,a,k,es,j,i,q,e.free g,f,b,o⟩
theorem Got.ft(h:Got D O W H0 H d .ft v)(f:Hid O W H0 H):Rep D (L2.wo (O++W) H) d v:=by
 obtain⟨e,t,ts,p,c,ds,es,m,l,n,k,e4,j,i⟩:=h;have a:Same (L2.wo (p::(O++W)) H) _:=n9 λ b g=>j6 _ g
 rw[l];exact y7.mpr ⟨t,_,m,n,(V2 e).append (t7.mpr ⟨_,_,rfl,A2.mpr ⟨p,c,rfl,by rwa [i7 (λ z=>f.ot p z k)],j.mono a⟩,i.mono a⟩)⟩
theorem Got.strong(h:Got D O W H0 H d .fresh v)(c:Hid O W H0 H):Rep D (L2.wo (O++W) H) d v:=by
 obtain⟨p,a,ds,j,i,g,e4,f⟩:=h;rw[i];exact A2.mpr ⟨p,a,j,by rwa [i7 (λ z=>c.ot p z g)],f.mono (n9 λ b e=>j6 _ e)⟩
theorem Got.weak(h:Got D O W H0 H d c v)(a:Hid O W H0 H):Rep D (L2.wo O H) d v:=by
 cases c with
 | weak=>exact h
 | top=>exact RepT.rep (n9 V3) h
 | strong=>exact Rep.mono (n9 V3) h
 | fresh=>exact Rep.mono (n9 V3) (h.strong a)
 | ft=>exact Rep.mono (n9 V3) (h.ft a)
theorem Got.all(h:Got D O W H0 H d c v)(a:Hid O W H0 H):Rep D H d v:=Rep.mono m8 (h.weak a)
theorem Got.stro(h:Got D O W H0 H d c v)(b:Hid O W H0 H)(hs:L2.stro d c=true):Rep D (L2.wo (O++W) H) d v:=by
 cases c with
 | strong=>exact h
 | fresh=>exact h.strong b
 | ft=>exact h.ft b
 | weak=>exact Rep.immut (λ a g=>by obtain⟨f,e,m⟩:=b.wl a g;exact⟨f,b.same _ _ e,m⟩) hs (h.weak b)
 | top=>exact Rep.immut (λ a g=>by obtain⟨f,e,m⟩:=b.wl a g;exact⟨f,b.same _ _ e,m⟩) hs (h.weak b)
theorem Got.items(h:Got D O W H0 H (.lst ds) c v)(g:Hid O W H0 H)(i:c ≠ .weak):∃a b,v=.ref a/\H a=some (.lst b)/\RepL D (L2.wo (O++W) H) ds b:=by
 cases c with
 | weak=>exact absurd rfl i
 | top=>
  obtain⟨a,b,f,e0,e,d⟩:=h;exact⟨a,b,f,m8 _ _ e,d⟩
 | strong=>
  obtain⟨a,b,f,e,d⟩:=A2.mp h;exact⟨a,b,f,m8 _ _ e,d⟩
 | fresh=>
  obtain⟨a,b,f,e,d⟩:=A2.mp (h.strong g);exact⟨a,b,f,m8 _ _ e,d⟩
 | ft=>
  obtain⟨a,b,f,e,d⟩:=A2.mp (h.ft g);exact⟨a,b,f,m8 _ _ e,d⟩
theorem Got.itemsT(h:Got D O W H0 H (.tup g) c v)(i:Hid O W H0 H)(j:c ≠ .weak):∃a b,v=.ref a/\SqT D.K H a b/\RepL D (L2.wo (O++W) H) g b:=by
 cases c with
 | weak=>exact absurd rfl j
 | top=>
  obtain⟨a,b,f,d,e⟩:=y7.mp (h);exact⟨a,b,f,m8.tseq d,e⟩
 | strong=>
  obtain⟨a,b,f,d,e⟩:=y7.mp h;exact⟨a,b,f,m8.tseq d,e⟩
 | fresh=>
  obtain⟨p,b,g,f,d,e,e4,e5⟩:=h;cases d
 | ft=>
  obtain⟨a,b,f,d,e⟩:=y7.mp (h.ft i);exact⟨a,b,f,m8.tseq d,e⟩
theorem Got.lst(h:Got D O W H0 H (.lst ds) c v)(d:Hid O W H0 H):∃a b,v=.ref a/\H a=some (.lst b)/\RepL D (L2.wo O H) ds b:=by
 obtain⟨a,b,g,f,e⟩:=A2.mp (h.weak d);exact⟨a,b,g,m8 _ _ f,e⟩
theorem Got.tup(h:Got D O W H0 H (.tup ds) c v)(d:Hid O W H0 H):∃a b,v=.ref a/\SqT D.K H a b/\RepL D (L2.wo O H) ds b:=by
 obtain⟨a,b,g,f,e⟩:=y7.mp (h.weak d);exact⟨a,b,g,m8.tseq f,e⟩
noncomputable def D7(O W:ge EG):Cl->ge EG
 | .weak=>O
 | _=>O++W
theorem Got.lstC(h:Got D O W H0 H (.lst ds) c v)(b:Hid O W H0 H):∃a d,v=.ref a/\H a=some (.lst d)/\RepL D (L2.wo (D7 O W c) H) ds d:=by
 cases c with
 | weak=>exact h.lst b
 | top=>exact h.items b nofun
 | strong=>exact h.items b nofun
 | fresh=>exact h.items b nofun
 | ft=>exact h.items b nofun
theorem Got.tupC(h:Got D O W H0 H (.tup ds) c v)(b:Hid O W H0 H):∃a d,v=.ref a/\SqT D.K H a d/\RepL D (L2.wo (D7 O W c) H) ds d:=by
 cases c with
 | weak=>exact h.tup b
 | top=>exact h.itemsT b nofun
 | strong=>exact h.itemsT b nofun
 | fresh=>exact h.itemsT b nofun
 | ft=>exact h.itemsT b nofun
theorem Got.item(h:Rep D (L2.wo (D7 O W c) H) d v):Got D O W H0 H d c.item v:=by
 cases c<;>exact h
theorem x4(b:c ≠ .fresh:=by intro z;cases z)(a:c ≠ .ft:=by intro z;cases z):Got D O W H0 H (.int i) c (.int i):=by
 have q:∀H,Rep D H _ (.int i):=λ H=>C5.mpr rfl;cases c with
 | fresh=>exact absurd rfl b
 | ft=>exact absurd rfl a
 | weak=>exact q (L2.wo O H)
 | strong=>exact q (L2.wo (O++W) H)
 | top=>exact q (L2.wo (O++W) H)
theorem K3:Got D O W H0 H (.bl i) .strong (.bl i):=(R6.mpr rfl:Rep D (L2.wo (O++W) H) _ _)
theorem xr:Got D O W H0 H .non .strong .non:=(R7.mpr rfl:Rep D (L2.wo (O++W) H) .non .non)
theorem Got.int(h:Got D O W H0 H (.int i) c v)(a:Hid O W H0 H):v=.int i:=C5.mp (h.weak a)
theorem Got.bl(h:Got D O W H0 H (.bl i) c v)(a:Hid O W H0 H):v=.bl i:=R6.mp (h.weak a)
theorem Got.str(h:Got D O W H0 H (.str x) c v)(a:Hid O W H0 H):v=.str x/\x.length<=sizeLine:=x0.mp (h.weak a)
theorem K4(c:Hid O W H0 H)(a:H p=none)(r:RepL D (L2.wo (O++W) H) ds xs):Got D O W H0 (upd H p (.lst xs)) (.lst ds) .fresh (.ref p):=by
 refine⟨p,xs,ds,rfl,rfl,c.same.free a,o7,r.mono λ b o e=>?_⟩;obtain⟨hb,e⟩:=x3 e
 rwa [i7 (by grind),j1 (B2 e a)]
theorem iP(b:Hid O W H0 H)(a:H p=none)(r:RepL D (L2.wo O H) ds xs):Got D O W H0 (upd H p (.lst xs)) (.lst ds) .weak (.ref p):=by
 exact A2.mpr ⟨p,xs,rfl,by rw[i7 (λ z=>b.newOut a (u8 _ z))];exact o7,r.mono (n0 a).wo⟩
theorem eM(b:Hid O W H0 H)(a:H p=none)(r:RepL D (L2.wo (D7 O W c) H) ds xs):Got D O W H0 (upd H p (.lst xs)) (.lst ds) (Cl.anew c c) (.ref p):=by
 cases c with
 | weak=>exact iP b a r
 | top=>exact K4 b a r
 | strong=>exact K4 b a r
 | fresh=>exact K4 b a r
 | ft=>exact K4 b a r
theorem aC(b:Hid O W H0 H)(a:H p=none)(r:RepL D (L2.wo (O++W) H) ds xs):Got D O W H0 (upd H p (.tup xs)) (.tup ds) .strong (.ref p):=
 y7.mpr ⟨p,xs,rfl,SqT.of (by rw[i7 (b.newOut a)];exact o7),r.mono (n0 a).wo⟩
theorem iQ(b:Hid O W H0 H)(a:H p=none)(r:RepL D (L2.wo O H) ds xs):Got D O W H0 (upd H p (.tup xs)) (.tup ds) .weak (.ref p):=
 y7.mpr ⟨p,xs,rfl,SqT.of (by rw[i7 λ z=>b.newOut a (u8 _ z)];exact o7),r.mono (n0 a).wo⟩
theorem ol(b:Hid O W H0 H)(a:H p=none)(r:RepL D (L2.wo (D7 O W c) H) ds xs):Got D O W H0 (upd H p (.tup xs)) (.tup ds) c.item (.ref p):=by
 cases c with
 | weak=>exact iQ b a r
 | top=>exact aC b a r
 | strong=>exact aC b a r
 | fresh=>exact aC b a r
 | ft=>exact aC b a r
end
inductive GotL (D:Dm) (O W:List Addr) (H0 H:Hp):List (DV×Cl)->List V->Prop where
 | nil:GotL D O W H0 H [] []
 | cons {d:DV} {c:Cl} {v:V} {l:List (DV×Cl)} {vs:List V}:Got D O W H0 H d c v->GotL D O W H0 H l vs->GotL D O W H0 H ((d,c)::l) (v::vs)
theorem GotL.repL(h:GotL D O W H0 H l vs)(b:Hid O W H0 H):RepL D (L2.wo O H) (l.map (·.1)) vs:=by
 induction h with
 | nil=>exact A3.mpr rfl
 | cons h _ a=>exact t7.mpr ⟨_,_,rfl,h.weak b,a⟩
theorem GotL.stros(h:GotL D O W H0 H l vs)(b:Hid O W H0 H)(hs:L2.stros l=true):RepL D (L2.wo (O++W) H) (l.map (·.1)) vs:=by
 induction h with
 | nil=>exact A3.mpr rfl
 | cons h _ a=>
  unfold L2.stros at hs;rw[List.all_cons,g9]at hs;exact t7.mpr ⟨_,_,rfl,h.stro b hs.1,a hs.2⟩
theorem GotL.length(h:GotL D O W H0 H l vs):vs.length=l.length:=by
 induction h with
 | nil=>rfl
 | cons _ _ a=>rw[o5,o5,a]
theorem GotL.strong(h:GotL D O W H0 H l vs)(b:Hid O W H0 H)(hs:(l.all λ p=>p.2 == .strong||p.2 == .fresh)=true):RepL D (L2.wo (O++W) H) (l.map (·.1)) vs:=by
 refine h.stros b ?_;unfold L2.stros;rw[y9]at hs ⊢;intro p a;have:=hs p a;unfold L2.stro;cases e:p.2<;>rw[e]at this<;>first | rfl | cases this
theorem GotL.one(h:GotL D O W H0 H [(d,c)] vs):∃v,vs=[v]/\Got D O W H0 H d c v:=by
 cases h with
 | cons h t=>cases t;exact⟨_,rfl,h⟩
noncomputable def dicO:HO->Bool
 | .ins _ _ _=>true
 | _=>false
noncomputable def rdO(C dx:EG)(t:Str)(k:Int):HO:=.ins C dx [("text",.str t),("place",.int k)]
def RdOk(d:DV)(a:EG)(o:HO):Prop:=∃(C dx:Nat) (qa qx:DV) (t:Str) (k:Int),d=.tup [.int (C:Int),qa,qx,.str t,.int k]/\(qa=.non\/qa=.int (a:Int))/\(qx=.non\/qx=.int (dx:Int))/\t.length<=sizeLine/\o=rdO C dx t k
def OdOk(d:DV)(a:EG)(o:HO):Prop:=RdOk d a o
theorem OdOk.dic(h:OdOk d a o):dicO o=true:=by obtain⟨_,_,_,_,_,_,_,_,_,_,e⟩:=h;rw[e];rfl
theorem OdOk.mut(h:OdOk d a o):mutO o=true:=by obtain⟨_,_,_,_,_,_,_,_,_,_,e⟩:=h;rw[e];rfl
def OdAt(H:Hp)(σ:St)(δ:ge Sv)(W:ge EG):Prop:=∀(i:Nat) d,δ[i]? = some (.od d)->(∃a o,OdOk d a o/\σ[i]? = some (some (.ref a))/\a∈W/\H a=some o)/\∀(j:Nat) d',δ[j]? = some (.od d')->j=i
theorem OdAt.step(h:OdAt H σ δ W)(hδ:∀(j:Nat) d,c[j]? = some (.od d)->δ[j]? = some (.od d)/\b[j]? = σ[j]?)(r:∀a∈W,(∃o,H a=some o/\dicO o=true)->a∈l)(v:∀a o,a∈W->H a=some o->dicO o=true->m a=some o):OdAt m b c l:=λ i d q=>by
 obtain⟨p,n⟩:=hδ i d q;obtain⟨⟨a,L,e,e1,g,f⟩,u⟩:=h i d p;exact⟨⟨a,L,e,by rwa [n],r a g ⟨_,f,e.dic⟩,v a _ g f e.dic⟩,λ j k z=>u j k (hδ j k z).1⟩
theorem bV{σ:St}{δ:ge Sv}(x:EC V)(c:∀d,X ≠ .od d):∀(j:Nat) d,(δ.set i X)[j]? = some (.od d)->δ[j]? = some (.od d)/\(σ.set i x)[j]? = σ[j]?:=λ j d h=>by
 have b:j≠i:=λ z=>by
  subst z;have a:j<δ.length:=by have:=(n7.mp h).1;rw[v6]at this;exact this
  rw[A4 a]at h;exact c d (v5 h)
 rw[i9 b.symm]at h ⊢;exact⟨h,rfl⟩
theorem ow{σ:St}{δ:ge Sv}(a:∀d,X ≠ .od d):∀(j:Nat) d,(δ.set i X)[j]? = some (.od d)->δ[j]? = some (.od d)/\σ[j]? = σ[j]?:=λ j d h=>⟨(bV (σ:=σ) none a j d h).1,rfl⟩
def OtV(D:Dm)(Hs H:Hp)(d:DV)(ts:ge V)(L:ge EG):Prop:=∃ms:ge Int,∃p xs ds es us,d=.tup (ms.map DV.int ++ .lst ds::es)/\ts=ms.map V.int ++ .ref p::us/\L=[p]/\H p=some (.lst xs)/\RepL D Hs ds xs/\RepL D Hs es us
def OtL(σ:St)(δ:ge Sv)(H:Hp)(W L:ge EG):Prop:=∀p∈L,p∈W/\(∃xs,H p=some (.lst xs))/\∀(j:Nat) d',δ[j]? = some (.own d')->σ[j]? ≠ some (some (.ref p))
theorem OtV.mono(h:OtV D g H d c L)(e:Same g a)(f:∀p∈L,∀b,H p=some (.lst b)->i p=some (.lst b)):OtV D a i d c L:=by
 obtain⟨k,p,b,u,es,j,r,q,o,n,m,l⟩:=h;exact⟨k,p,b,u,es,j,r,q,o,f p (by grind) _ n,m.mono e,l.mono e⟩
structure RSt(D:Dm)(H:Hp)(σ:St)(δ:List Sv)(O W:List Addr):Prop where
 val:∀(i:Nat) d,δ[i]? = some (.val d)->∃v,σ[i]? = some (some v)/\Rep D (L2.wo (O++W) H) d v
 own:∀(i:Nat) d,δ[i]? = some (.own d)->∃a xs ds,d=.lst ds/\σ[i]? = some (some (.ref a))/\a∈W/\H a=some (.lst xs)/\RepL D (L2.wo (O++W) H) ds xs
 inj:∀(i j:Nat) a d d',δ[i]? = some (.own d)->δ[j]? = some (.own d')->σ[i]? = some (some (.ref a))->σ[j]? = some (some (.ref a))->i=j
 ot:∃P:Nat->List Addr,(∀(i:Nat) d,δ[i]? = some (.ot d)->∃t ts,σ[i]? = some (some (.ref t))/\SqT D.K (L2.wo (O++W) H) t ts/\OtV D (L2.wo (O++W) H) H d ts (P i)/\OtL σ δ H W (P i))/\∀(i j:Nat) d d',δ[i]? = some (.ot d)->δ[j]? = some (.ot d')->i≠j->∀p∈P i,p∉P j
 od:OdAt H σ δ W
 len:σ.length=δ.length
 hid:Hid O W H H
theorem RSt.noot(h:∀(i:Nat) d,δ[i]? ≠ some (.ot d)):∃P:Nat->ge EG,(∀(i:Nat) d,δ[i]? = some (.ot d)->∃t a,σ[i]? = some (some (.ref t))/\SqT D.K (L2.wo (O++W) H) t a/\OtV D (L2.wo (O++W) H) H d a (P i)/\OtL σ δ H W (P i))/\∀(i j:Nat) d b,δ[i]? = some (.ot d)->δ[j]? = some (.ot b)->i≠j->∀p∈P i,p∉P j:=⟨λ _=>[],λ i d q=>absurd q (h i d),λ i j d b q=>absurd q (h i d)⟩
theorem Hid.later(h:Hid O W H H)(e:Same H c):Hid O W c c:=⟨λ a b q=>h.ot a b (e.free q),Same.refl _,λ a b=>by obtain⟨d,q,m⟩:=h.wl a b;exact⟨d,e _ _ q,m⟩,h.dj,h.omS e⟩
theorem RSt.mono(R:RSt D H σ δ O W)(e:Same H H'):RSt D H' σ δ O W where
 val:=λ i d h=>by obtain⟨v,g,c⟩:=R.val i d h;exact⟨v,g,c.mono e.wo⟩
 own:=λ i n h=>by obtain⟨a,k,n,w,g,c,m,b⟩:=R.own i n h;exact⟨a,k,n,w,g,c,e _ _ m,b.mono e.wo⟩
 inj:=R.inj
 ot:=by obtain⟨P,f,u⟩:=R.ot;refine⟨P,λ i d h=>?_,u⟩;obtain⟨t,o,g,c,m,b⟩:=f i d h;exact⟨t,o,g,e.wo.tseq c,m.mono e.wo λ p _ k q=>e _ _ q,λ p l=>⟨(b p l).1,(b p l).2.1.imp λ k q=>e _ _ q,(b p l).2.2⟩⟩
 od:=R.od.step (λ j d h=>⟨h,rfl⟩) (λ _ h _=>h) (λ a r _ h _=>e _ _ h)
 len:=R.len
 hid:=R.hid.later e
noncomputable def Post(D:Dm)(E:St->XK)(σ:St)(O W:ge EG)(H0 H:Hp)(Q:VK):Re->Prop
 | .ok d c=>∀v H',Same H H'->Got D O W H0 H' d c v->Q v H'
 | .ex c=>∀H' C,D.mg c=some C->Same H H'->E σ C none H'
def dE(D:Dm)(E:St->XK)(δ:ge Sv)(r:Re):TE:=λ σ H Q=>∃O W,RSt D H σ δ O W/\Post D E σ O W H H Q r
noncomputable def xt(D:Dm)(E:St->XK)(σ:St)(O W:ge EG)(H0 H:Hp)(Q:ge V->Hp->Prop):Rs->Prop
 | .ok l=>∀vs H',Same H H'->GotL D O W H0 H' l vs->Q vs H'
 | .ex c=>∀H' C,D.mg c=some C->Same H H'->E σ C none H'
def dA(D:Dm)(E:St->XK)(δ:ge Sv)(r:Rs):TA:=λ σ H Q=>∃O W,RSt D H σ δ O W/\xt D E σ O W H H Q r
noncomputable def eN(D:Dm)(E:St->XK)(σ:St)(H:Hp)(Q:Bool->Hp->Prop):Rt->Prop
 | .ok b=>∀H',Same H H'->Q b H'
 | .ex c=>∀H' C,D.mg c=some C->Same H H'->E σ C none H'
def dT(D:Dm)(E:St->XK)(δ:ge Sv)(r:Rt):TT:=λ σ H Q=>∃O W,RSt D H σ δ O W/\eN D E σ H Q r
theorem Post.step(h:Post D E σ O W f H Q r)(e:Same H b):Post D E σ O W f b Q r:=by
 cases r with
 | ok d c=>exact λ v a s g=>h v a (e.trans s) g
 | ex c=>exact λ a C m s=>h a C m (e.trans s)
theorem Post.later(h:Post D E σ O W f H Q r)(e:Same H a)(i:Same f a):Post D E σ O W a a Q r:=by
 cases r with
 | ok d c=>exact λ v b s g=>h v b (e.trans s) (g.since i)
 | ex c=>exact λ b C m s=>h b C m (e.trans s)
theorem GotL.since(h:GotL D O W a H l vs)(e:Same b a):GotL D O W b H l vs:=by
 induction h with
 | nil=>exact .nil
 | cons g _ c=>exact .cons (g.since e) c
theorem eN.later(h:eN D E σ H Q r)(e:Same H d):eN D E σ d Q r:=by
 cases r with
 | ok b=>exact λ a s=>h a (e.trans s)
 | ex c=>exact λ a C m s=>h a C m (e.trans s)
theorem PE.weak(h:PE X e t)(k:∀a H Q,t' a H Q->t a H Q):PE X e t':=λ b s a H Q I q=>h b s a H Q I (k a H Q q)
theorem PT.weak(h:PT X e t)(k:∀a H Q,t' a H Q->t a H Q):PT X e t':=λ b s a H Q I q=>h b s a H Q I (k a H Q q)
theorem PW.weak(h:PW X e t)(k:∀b H Q,t' b H Q->t b H Q):PW X e t':=λ a c s b H Q I q=>h a c s b H Q I (k b H Q q)
theorem PA.weak(h:PA X e t)(k:∀a H Q,t' a H Q->t a H Q):PA X e t':=λ c b s a H Q I q=>h c b s a H Q I (k a H Q q)
theorem PS.weak(h:PS X e t)(k:∀D a H,t' D a H->t D a H):PS X e t':=λ b s a H D I q=>h b s a H D I (k D a H q)
theorem PSs.weak(h:PSs X e t)(k:∀D a H,t' D a H->t D a H):PSs X e t':=λ b s a H D I q=>h b s a H D I (k D a H q)
theorem eO:PW X e (λ _ _ _=>False):=λ _ _ _ _ _ _ _ h=>h.elim
theorem eP:PT X e (λ _ _ _=>False):=λ _ _ _ _ _ _ h=>h.elim
theorem E6:PE X e (λ _ _ _=>False):=λ _ _ _ _ _ _ h=>h.elim
theorem xu:PA X e (λ _ _ _=>False):=λ _ _ _ _ _ _ _ h=>h.elim
theorem O8(h:n<=k9):n<=sizeLine:=o6 h (by decide)
theorem ox(d:∀n,PE X a n->PE X e (tUn r n))(u:∀q,l=some q->PE X a (dE X.D E δ q))(h:Re.thn l k=some g)
  (o:∀O W m H x Q i j f,k i j=some g->Hid O W m H->Got X.D O W m H i j x->Post X.D E f O W m H Q g->r x H Q):PE X e (dE X.D E δ g):=by
 cases b:l with
 | none=>rw[b]at h;cases h
 | some q=>
  rw[b]at h;have A:=u q b;cases q with
  | ex c=>
   cases h;exact(d _ A).weak λ f H Q ⟨O,W,R,p⟩=>⟨O,W,R,p⟩
  | ok i j=>
   exact(d _ A).weak λ f H Q ⟨O,W,R,p⟩=>⟨O,W,R,λ x w s1 v=>o O W H w x Q i j f h (R.hid.mono s1) v (p.step s1)⟩
theorem oy{X:Cx}{a b:EI}{r:R2}{k:DV->Cl->DV->Cl->EC Re}{g:Re}(I:∀q,o=some q->PE X a (dE X.D E δ q))(F:∀q,rb=some q->PE X b (dE X.D E δ q))
  (h:(Re.thn o λ x cx=>Re.thn rb λ y cy=>k x cx y cy)=some g)
  (z:∀O W l H x y Q j cx i cy σ,k j cx i cy=some g->Hid O W l H->Got X.D O W l H j cx x->Got X.D O W l H i cy y->Post X.D E σ O W l H Q g->r x y H Q) :
  ∃v u,PE X a v/\PE X b u/\∀σ H Q,dE X.D E δ g σ H Q->tOp r v u σ H Q:=by
 cases e:o with
 | none=>rw[e]at h;cases h
 | some q=>
  rw[e]at h;have A:=I q e;cases q with
  | ex c=>
   cases h;exact⟨_,_,A,E6,λ σ H Q ⟨O,W,R,p⟩=>⟨O,W,R,p⟩⟩
  | ok j cx=>
   have f:=h;cases d:rb with
   | none=>rw[d]at f;cases f
   | some q=>
    rw[d]at f;have B:=F q d;cases q with
    | ex c=>
     cases f;exact⟨_,_,A,B,λ σ H Q ⟨O,W,R,p⟩=>⟨O,W,R,λ x L s1 w=>⟨O,W,R.mono s1,λ M C m s=>p M C m (s1.trans s)⟩⟩⟩
    | ok i cy=>
     exact⟨_,_,A,B,λ σ H Q ⟨O,W,R,p⟩=>⟨O,W,R,λ x L s1 w=>⟨O,W,R.mono s1,λ y K n J=>
      z O W H K x y Q j cx i cy σ f ((R.hid.mono s1).mono n) (w.mono n) (J.since s1) (p.step (s1.trans n))⟩⟩⟩
theorem eQ{k:DV->Cl->DV->Cl->EC Re}(l:∀j i,PE X a j->PE X b i->PE X e (tOp r j i))(w:∀q,m=some q->PE X a (dE X.D E δ q))(v:∀q,rb=some q->PE X b (dE X.D E δ q))
  (h:(Re.thn m λ x f=>Re.thn rb λ y d=>k x f y d)=some c)
  (u:∀O W g H x y Q o f n d p,k o f n d=some c->Hid O W g H->Got X.D O W g H o f x->Got X.D O W g H n d y->Post X.D E p O W g H Q c->r x y H Q):PE X e (dE X.D E δ c):=by
 obtain⟨j,i,A,B,q⟩:=oy w v h u;exact(l _ _ A B).weak q
theorem bW(b:∀t,PA X es t->PE X e (tCB r t))(n:∀q,i=some q->PA X es (dA X.D E δ q))(h:Rs.thn i k=some g)
  (m:∀O W j H f Q l d,k l=some g->Hid O W j H->GotL X.D O W j H l f->Post X.D E d O W j H Q g->r f H Q):PE X e (dE X.D E δ g):=by
 cases a:i with
 | none=>rw[a]at h;cases h
 | some q=>
  rw[a]at h;have A:=n q a;cases q with
  | ex c=>
   cases h;exact(b _ A).weak λ d H Q ⟨O,W,R,p⟩=>⟨O,W,R,p⟩
  | ok l=>
   exact(b _ A).weak λ d H Q ⟨O,W,R,p⟩=>⟨O,W,R,λ f u s1 o=>m O W H u f Q l d h (R.hid.mono s1) o (p.step s1)⟩
theorem xv{δ:ge Sv}{i:Nat}(u:X.N[i]? = some x)(n:Vis X.env.scope x)(o:(x==("__debug__" : Str))=false)(k:(x==("__classdict__" : Str))=false)
  (h:(match δ[i]? with | some (.val d)=>some (Re.ok d .strong) | some (.own d)=>some (.ok d .top) | some (.ot d)=>some (.ok (otD d) .weak) | _=>none)=some r):PE X (.Name x pos) (dE X.D E δ r):=
 (F9 u n o k).weak λ σ H Q ⟨O,W,R,p⟩=>by
  split at h
  ·rename_i d q;cases h;obtain⟨v,c,b⟩:=R.val i d q;exact⟨v,c,p v H (Same.refl H) b⟩
  ·rename_i d q;cases h;obtain⟨a,g,I,F,c,b,l,e⟩:=R.own i d q;subst F;refine⟨.ref a,c,p _ H (Same.refl H) ⟨a,g,rfl,b,?_,e⟩⟩;rw[i7 (R.hid.dj a b)];exact l
  ·rename_i d q;cases h;obtain⟨P,f,_⟩:=R.ot;obtain⟨t,ts,c,b,l,e⟩:=f i d q;have j:Same (L2.wo (O++W) H) _:=n9 V3;refine⟨.ref t,c,p _ H (Same.refl H) ?_⟩;obtain⟨m,p1,g,I,es,us,C,B,A,z,y,w⟩:=l;rw[A]at e;subst C B;exact(y7.mpr ⟨t,_,rfl,j.tseq b,(V2 m).append (t7.mpr ⟨_,_,rfl,A2.mpr ⟨p1,g,rfl,by rw[i7 (R.hid.dj p1 (e p1 (q9.mpr rfl)).1)];exact z,y.mono j⟩,w.mono j⟩)⟩:Rep X.D _ _ _)
  ·cases h
theorem xw:PE X (.Constant (.int i) j pos) (dE X.D E δ (.ok (.int i) .strong)):=lc.weak λ σ H Q ⟨O,W,R,p⟩=>p _ H (Same.refl H) x4
theorem xy:PE X (.Constant (.bool i) j pos) (dE X.D E δ (.ok (.bl i) .strong)):=rj.weak λ σ H Q ⟨O,W,R,p⟩=>p _ H (Same.refl H) K3
theorem xz(h:i.length<=sizeLine):PE X (.Constant (.str i) j pos) (dE X.D E δ (.ok (.str i) .strong)):=rn.weak λ σ H Q ⟨O,W,R,p⟩=>p _ H (Same.refl H) (x0.mpr ⟨rfl,h⟩:Rep X.D (L2.wo (O++W) H) _ _)
theorem xA:PE X (.Constant .none j pos) (dE X.D E δ (.ok .non .strong)):=rm.weak λ σ H Q ⟨O,W,R,p⟩=>p _ H (Same.refl H) xr
section
variable {X:Cx} {E:St->XK} {δ:ge Sv} {a b c e:EI} {pos:Pos} {ra rb:EC Re} {re:Re}
theorem aD{a:Hp}(b:Hid O W a H)(e:Got D O W a H (.int i) h x)(d:Got D O W a H (.int j) f y)(c:C i j)(q:Q (g i j) H):rI C g x y H Q:=
 ⟨i,j,e.int b,d.int b,c,q⟩
theorem eR{a:Hp}{e:Cl}(b:Hid O W a H)(d:Got D O W a H (.int i) f x)(c:Got D O W a H (.int j) e y)(q:Q (g i j) H):rI0 g x y H Q:=
 ⟨i,j,d.int b,c.int b,q⟩
theorem oz{b a:Cl}(h:b ≠ .weak)(c:a ≠ .weak):Cl.anew b a=.fresh:=by
 cases b<;>cases a<;>first | rfl | exact absurd rfl h | exact absurd rfl c
def eS(i j:Int):Prop:=CMul i j\/(i.natAbs<2^2000/\j.natAbs<2^2000)
theorem oB(h:i.natAbs<2^n):Builtin.Int.intBits i<=n:=by
 unfold Builtin.Int.intBits;by_cases a:i=0
 ·subst a;exact E2 n
 ·rw[i4 (by grind)];have:=λ z=>a (Int.natAbs_eq_zero.mp z)
  exact(dr this).mpr h
theorem eS.ok(h:eS i j):IntMulOk i j:=by
 rcases h with h | ⟨h1,h2⟩
 ·exact h.ok
 ·unfold IntMulOk;have b1:=oB h1;have b2:=oB h2;have:Builtin.Int.intTooBig ((Builtin.Int.intBits i:Int)+(Builtin.Int.intBits j:Int))=false:=by
   unfold Builtin.Int.intTooBig;rw[A8];have:((bitsLine:Nat):Int)=134217728:=by decide
   omega
  rw[this,Bool.and_false];exact B6
theorem xB:OpR X (binaryOp .Mult) (rI eS λ i j=>.int (i*j)):=opI λ _ _ _ _ _ _ _ a q=>mul_int q a.ok
theorem xC:OpR X (binaryOp .FloorDiv) (rI (λ _ j=>0<j/\j<2^200) λ i j=>.int (i/j)):=opI λ i j _ _ _ _ _ a q=>by
 have h1:=a.1;have b:j.natAbs<2^200:=by have:=a.2;omega
 refine floordiv_int (by omega) (by rw[jT i (by omega)];exact q) (.inl (PyProof.noPylong_of_log2 ?_));exact q5 ((dr (by omega)).mpr b) (by decide)
def binR(X:Cx):Operator->R2
 | .Add=>λ x y H Q=>rI0 (λ i j=>.int (i+j)) x y H Q\/rCat x y H Q\/lT X.K x y H Q
 | .Sub=>rI0 λ i j=>.int (i - j)
 | .Mult=>λ x y H Q=>rI eS (λ i j=>.int (i*j)) x y H Q\/rRep x y H Q
 | .Mod=>λ x y H Q=>rI (λ _ j=>0<j) (λ i j=>.int (i%j)) x y H Q\/rI (λ _ j=>j≠0) (λ i j=>.int (i.fmod j)) x y H Q
 | .FloorDiv=>rI (λ _ j=>0<j/\j<2^200) λ i j=>.int (i/j)
 | .LShift=>rI CPow λ i j=>.int (i*2^j.toNat)
 | .RShift=>rI (λ _ j=>0<=j) λ i j=>.int (i/2^j.toNat)
 | .BitAnd=>rI0 λ i j=>.int (Builtin.bitAnd i j)
 | .BitOr=>rI0 λ i j=>.int (Builtin.bitOr i j)
 | _=>λ _ _ _ _=>False
theorem xD:OpR X (binaryOp op) (binR X op):=by
 cases op with
 | Add=>exact rV.or (tN.or tw)
 | Sub=>exact rW
 | Mult=>exact xB.or tP
 | Mod=>exact rX.or rY
 | FloorDiv=>exact xC
 | LShift=>exact rZ
 | RShift=>exact sd
 | BitAnd=>exact se
 | BitOr=>exact sf
 | BitXor=>exact λ _ _ _ _ _ _ _ _ _ _ _ _ h=>h.elim
 | MatMult=>exact λ _ _ _ _ _ _ _ _ _ _ _ _ h=>h.elim
 | Div=>exact λ _ _ _ _ _ _ _ _ _ _ _ _ h=>h.elim
 | Pow=>exact λ _ _ _ _ _ _ _ _ _ _ _ _ h=>h.elim
theorem z9(h:asI d=some i):d=.int i:=by cases d<;>cases h;rfl
theorem xF(h:asL d=some i):d=.lst i:=by cases d<;>cases h;rfl
theorem xG(h:asTp d=some i):d=.tup i:=by cases d<;>cases h;rfl
theorem xH(h:binD op dx I cx cy=some re)(c:Hid O W A H)(d:Got X.D O W A H dx cx x)(f:Got X.D O W A H I cy y)
  (p:Post X.D E σ O W A H Q re):binR X op x y H Q:=by
 unfold binD at h;cases op
 case Add=>
  dsimp only at h;split at h
  ·rename_i t
   replace h:=m7.mp h
   obtain⟨r,a,h⟩:=h;have a:=z9 a;subst a;cases h;exact .inl (eR c d f (p _ H (Same.refl H) x4))
  ·rename_i F
   replace h:=m7.mp h
   obtain⟨C,a,h⟩:=h;have a:=xF a;subst a;split at h
   ·rename_i m;cases h;by_cases j:cx ≠ .weak/\cy ≠ .weak
    ·obtain⟨n,l,b,o,e⟩:=d.items c j.1;obtain⟨v,u,a,w,i⟩:=f.items c j.2;refine .inr (.inl ⟨n,v,l,u,b,a,o,w,by rw[e.length,i.length];exact O8 m,λ q g=>p _ _ (n0 g) ?_⟩);rw[oz j.1 j.2];exact K4 c g (e.append i)
    ·obtain⟨n,l,b,o,e⟩:=d.lst c;obtain⟨v,u,a,w,i⟩:=f.lst c;refine .inr (.inl ⟨n,v,l,u,b,a,o,w,by rw[e.length,i.length];exact O8 m,λ q g=>p _ _ (n0 g) ?_⟩);have:Cl.anew cx cy=.weak:=(by cases cx<;>cases cy<;>first | rfl | exact absurd ⟨(by intro z;cases z),(by intro z;cases z)⟩ j);rw[this];exact iP c g (e.append i)
   ·cases h
  ·rename_i F
   replace h:=m7.mp h
   obtain⟨C,a,h⟩:=h;have a:=xG a;subst a;split at h
   ·rename_i m;cases h;by_cases j:cx ≠ .weak/\cy ≠ .weak
    ·obtain⟨n,l,b,o,e⟩:=d.itemsT c j.1;obtain⟨v,u,a,w,i⟩:=f.itemsT c j.2;have cl:(Cl.anew cx cy).notF=.strong:=by rw[oz j.1 j.2];rfl
     rw[cl]at p;refine .inr (.inr ⟨n,v,l,u,b,a,o,w,λ z=>m.2 (by have:=e.length;rw[z]at this;exact W6.mp this.symm),by rw[e.length,i.length];exact O8 m.1,λ z=>?_,λ _ q g=>p _ _ (n0 g) (aC c g (e.append i))⟩);refine p _ _ (Same.refl _) ?_;have B:C=[]:=by have:=i.length;rw[z]at this;exact W6.mp this.symm
     subst B;rw[v3];cases cx with
     | weak=>exact absurd rfl j.1
     | top=>rw[←b];exact d
     | strong=>rw[←b];exact d
     | fresh=>obtain⟨_,_,_,_,q,_⟩:=d;cases q
     | ft=>rw[←b];exact d.ft c
    ·obtain⟨n,l,b,o,e⟩:=d.tup c;obtain⟨v,u,a,w,i⟩:=f.tup c;have cl:(Cl.anew cx cy).notF=.weak:=(by cases cx<;>cases cy<;>first | rfl | exact absurd ⟨(by intro z;cases z),(by intro z;cases z)⟩ j);rw[cl]at p;refine .inr (.inr ⟨n,v,l,u,b,a,o,w,λ z=>m.2 (by have:=e.length;rw[z]at this;exact W6.mp this.symm),by rw[e.length,i.length];exact O8 m.1,λ z=>?_,λ _ q g=>p _ _ (n0 g) (iQ c g (e.append i))⟩);refine p _ _ (Same.refl _) ?_;have B:C=[]:=by have:=i.length;rw[z]at this;exact W6.mp this.symm
     subst B;rw[v3,←b];exact d.weak c
   ·cases h
  ·cases h
 case Sub=>
  dsimp only at h
  replace h:=m7.mp h
  obtain⟨t,b,h⟩:=h
  replace h:=m7.mp h
  obtain⟨r,a,h⟩:=h;have b:=z9 b;have a:=z9 a;subst b a;cases h;exact eR c d f (p _ H (Same.refl H) x4)
 case Mult=>
  dsimp only at h;split at h
  ·rename_i t
   replace h:=m7.mp h
   obtain⟨r,a,h⟩:=h;have a:=z9 a;subst a;split at h
   ·rename_i m;cases h;refine .inl (aD c d f ?_ (p _ H (Same.refl H) x4));unfold bA at m;simp only[v7,g9,J0]at m;exact m
   ·cases h
  ·rename_i F
   replace h:=m7.mp h
   obtain⟨k,a,h⟩:=h;have a:=z9 a;subst a;split at h
   ·rename_i m;cases h;obtain⟨n,l,b,o,e⟩:=d.lstC c;refine .inr ⟨n,k,l,b,f.int c,o,m.2.1,m.2.2,by rw[e.length];exact O8 m.1,λ q g=>p _ _ (n0 g) (eM c g (e.rep _))⟩
   ·cases h
  ·cases h
 case Mod=>
  dsimp only at h
  replace h:=m7.mp h
  obtain⟨t,b,h⟩:=h
  replace h:=m7.mp h
  obtain⟨r,a,h⟩:=h;have b:=z9 b;have a:=z9 a;subst b a;split at h
  ·rename_i m;cases h;exact .inl (aD c d f m (p _ H (Same.refl H) x4))
  ·split at h
   ·rename_i m;cases h;exact .inr (aD c d f m (p _ H (Same.refl H) x4))
   ·cases h
 case FloorDiv=>
  dsimp only at h
  replace h:=m7.mp h
  obtain⟨t,b,h⟩:=h
  replace h:=m7.mp h
  obtain⟨r,a,h⟩:=h;have b:=z9 b;have a:=z9 a;subst b a;split at h
  ·rename_i m;cases h;exact aD c d f m (p _ H (Same.refl H) x4)
  ·cases h
 case LShift=>
  dsimp only at h
  replace h:=m7.mp h
  obtain⟨t,b,h⟩:=h
  replace h:=m7.mp h
  obtain⟨r,a,h⟩:=h;have b:=z9 b;have a:=z9 a;subst b a;split at h
  ·rename_i m;cases h;exact aD c d f m (p _ H (Same.refl H) x4)
  ·cases h
 case RShift=>
  dsimp only at h
  replace h:=m7.mp h
  obtain⟨t,b,h⟩:=h
  replace h:=m7.mp h
  obtain⟨r,a,h⟩:=h;have b:=z9 b;have a:=z9 a;subst b a;split at h
  ·rename_i m;cases h;exact aD c d f m (p _ H (Same.refl H) x4)
  ·cases h
 case BitAnd=>
  dsimp only at h
  replace h:=m7.mp h
  obtain⟨t,b,h⟩:=h
  replace h:=m7.mp h
  obtain⟨r,a,h⟩:=h;have b:=z9 b;have a:=z9 a;subst b a;cases h;exact eR c d f (p _ H (Same.refl H) x4)
 case BitOr=>
  dsimp only at h
  replace h:=m7.mp h
  obtain⟨t,b,h⟩:=h
  replace h:=m7.mp h
  obtain⟨r,a,h⟩:=h;have b:=z9 b;have a:=z9 a;subst b a;cases h;exact eR c d f (p _ H (Same.refl H) x4)
 all_goals (dsimp only at h;cases h)
theorem xI(g:∀q,ra=some q->PE X a (dE X.D E δ q))(f:∀q,rb=some q->PE X b (dE X.D E δ q))(h:(Re.thn ra λ x d=>Re.thn rb λ y c=>binD op x y d c)=some re):PE X (.BinOp a op b pos) (dE X.D E δ re):=
 eQ (λ _ _=>lr xD) g f h λ O W H0 H x y Q dx d dy c σ k e j i p=>xH k e j i p
theorem xJ(c:∀q,ra=some q->PE X a (dE X.D E δ q))(h:(Re.thn ra λ x _=>match x with | .int i=>some (.ok (.int (-i)) .strong) | _=>none)=some re):PE X (.UnaryOp .USub a pos) (dE X.D E δ re):=
 ox (λ _=>rR sh) c h λ O W H0 H x Q dx cx σ k b d p=>by
  split at k
  ·cases k;exact⟨_,d.int b,p _ H (Same.refl H) x4⟩
  ·cases k
theorem xK:atD ds i=L2.atI ds i:=rfl
theorem RepL.atI(h:RepL D H ds xs)(e:atD ds i=some d):∃v,L2.atI xs i=some v/\Rep D H d v:=by
 rw[xK]at e;unfold L2.atI at e ⊢;rw[h.length];cases q:ixN ds.length i with
 | none=>rw[q]at e;cases e
 | some j=>
  rw[q]at e;exact h.get e
theorem xL{O W:ge EG}{H0 H:Hp}{x y:V}{dx dy:DV}{cx cy:Cl}{Q:VK}{σ:St}(h:((ixD dx dy).map λ d=>Re.ok d cx.item)=some re)(hd:Hid O W H0 H)(gx:Got X.D O W H0 H dx cx x)(gy:Got X.D O W H0 H dy cy y)
  (p:Post X.D E σ O W H0 H Q re):rIx X.K x y H Q:=by
 obtain⟨d,h1,h2⟩:=j7.mp h;cases h2;unfold ixD at h1;split at h1
 ·rename_i ns i;obtain⟨a,e1,e2⟩:=O7.mp (gx.all hd);obtain⟨n,h3,h4⟩:=j7.mp h1;cases h4;have q:L2.atI (ns.map V.int) i=some (.int n):=by
   unfold L2.atI;rw[n8];have h3':((ixN ns.length i).bind λ j=>ns[j]?)=some n:=h3;cases z:ixN ns.length i with
   | none=>rw[z]at h3';cases h3'
   | some j=>
    rw[z]at h3';have h5:ns[j]? = some n:=h3';show(ns.map V.int)[j]? = _;rw[u9,h5];rfl
  refine .inl ⟨a,_,i,_,e1,gy.int hd,e2.sq,q,p _ H (Same.refl H) ?_⟩;cases cx<;>exact x4
 ·obtain⟨a,xs,e1,e2,e3⟩:=gx.lstC hd;obtain⟨v,q1,q2⟩:=e3.atI h1;exact .inl ⟨a,xs,_,v,e1,gy.int hd,SqL.of e2,q1,p _ H (Same.refl H) (Got.item q2)⟩
 ·obtain⟨a,xs,e1,e2,e3⟩:=gx.tupC hd;obtain⟨v,q1,q2⟩:=e3.atI h1;exact .inr (.inl ⟨a,xs,_,v,e1,gy.int hd,e2,q1,p _ H (Same.refl H) (Got.item q2)⟩)
 ·rename_i z i;obtain⟨e1,e2⟩:=gx.str hd;cases q:U5 z.cps.size i with
  | none=>rw[q]at h1;cases h1
  | some j=>
   rw[q]at h1;obtain⟨ch,h3,h4⟩:=j7.mp (show((z.cps[j]?).map λ c=>DV.str ⟨#[c]⟩)=some d from h1);cases h4;refine .inr (.inr ⟨z,i,ch,e1,gy.int hd,e2,?_,p _ H (Same.refl H) ?_⟩)
   ·unfold L2.atI;have:ixN z.cps.toList.length i=some j:=by rw[A5];exact q
    rw[this];show z.cps.toList[j]? = some ch;rw[E7];exact h3
   ·have one:Rep X.D (L2.wo (O++W) H) (.str ⟨#[ch]⟩) (.str ⟨#[ch]⟩):=x0.mpr ⟨rfl,by show(1:Nat)<=sizeLine;decide⟩;have one':Rep X.D (L2.wo O H) (.str ⟨#[ch]⟩) (.str ⟨#[ch]⟩):=x0.mpr ⟨rfl,by show(1:Nat)<=sizeLine;decide⟩;cases cx<;>first | exact one | exact one'
 ·cases h1
theorem xM(g:∀q,ra=some q->PE X a (dE X.D E δ q))(f:∀q,rb=some q->PE X b (dE X.D E δ q))(hs:ip b=false)(h:(Re.thn ra λ x c=>Re.thn rb λ y _=>(ixD x y).map λ d=>.ok d c.item)=some re):PE X (.Subscript a b pos) (dE X.D E δ re):=
 eQ (λ _ _ j i=>lU tE j i (by cases b<;>first | (intro _ _;rfl) | cases hs)) g f h λ O W H0 H x y Q dx c dy cy σ k e m l p=>xL k e m l p
theorem eT(n d:Nat)(o:EC Int):slIx n d o=HT.sIx n d o:=by cases o<;>rfl
theorem RepL.cut(h:RepL D H ds xs)(a b:EC Int):RepL D H (cutD ds a b) (cutV xs a b):=by
 unfold cutD cutV;rw[eT,eT,←h.length];exact(h.drop _).take _
theorem oC{O W:ge EG}{H0 H:Hp}{x:V}{dx:DV}{cx:Cl}{Q:VK}{σ:St}{lo hi:EC Int}(h:((slD dx lo hi).map λ d=>Re.ok d (slCl dx cx))=some re)(hd:Hid O W H0 H)(gx:Got X.D O W H0 H dx cx x)
  (p:Post X.D E σ O W H0 H Q re):rSlL X.K x lo hi H Q\/rSlT X.K x lo hi H Q:=by
 obtain⟨d,h1,h2⟩:=j7.mp h;cases h2;unfold slD at h1;split at h1
 ·rename_i ns;cases h1;obtain⟨a,e1,e2⟩:=O7.mp (gx.all hd);exact .inl ⟨a,_,e1,e2.sq,λ q hq=>p _ _ (n0 hq) (K4 hd hq ((V2 ns).cut lo hi))⟩
 ·cases h1;obtain⟨a,xs,e1,e2,e3⟩:=gx.lstC hd;exact .inl ⟨a,xs,e1,SqL.of e2,λ q hq=>p _ _ (n0 hq) (eM hd hq (e3.cut lo hi))⟩
 ·rename_i ds;split at h1
  ·cases h1
  ·rename_i m;cases h1;obtain⟨a,xs,e1,e2,e3⟩:=gx.tupC hd;refine .inr ⟨a,xs,e1,e2,?_,λ q hq=>p _ _ (n0 hq) (ol hd hq (e3.cut lo hi))⟩;rw[eT,eT,←e3.length]at m;exact m
 ·cases h1
theorem aE:SlR X (λ x a b H Q=>rSlL X.K x a b H Q\/rSlT X.K x a b H Q):=tH.or tu
theorem eU(h:PE X b (dE X.D E δ (.ok (.int i) cl))):PO X (some b) (λ d H Q=>∃O W,RSt X.D H d δ O W/\∀c,Same H c->Q (some i) c):=λ a s d H Q I ⟨O,W,R,p⟩=>
 lR h a s d H Q I ⟨O,W,R,λ v c s1 g=>⟨i,g.int (R.hid.mono s1),p c s1⟩⟩
theorem iR{c:Str}(h:PE X b (dE X.D E δ (.ex c))):PO X (some b) (λ d H Q=>∃O W,RSt X.D H d δ O W/\Post X.D E d O W H H (λ _ _=>False) (.ex c)):=λ a s d H Q I ⟨O,W,R,p⟩=>
 lR h a s d H Q I ⟨O,W,R,p⟩
theorem bX:PO X o (λ _ _ _=>False):=λ _ _ _ _ _ _ h=>h.elim
theorem xN(u:∀q,ra=some q->PE X a (dE X.D E δ q))(r:∀q,rb=some q->PE X b (dE X.D E δ q))(h:(Re.thn ra λ x j=>Re.thn rb λ l _=>match l with
  | .int l=>(slD x (some l) none).map λ d=>.ok d (slCl x j) | _=>none)=some re):PE X (.Subscript a (.Slice (some b) none none p2) pos) (dE X.D E δ re):=by
 cases f:ra with
 | none=>rw[f]at h;cases h
 | some q=>
  rw[f]at h;have A:=u q f;cases q with
  | ex c=>cases h;exact(Q7 aE A bX au).weak λ k H Q ⟨O,W,R,p⟩=>⟨O,W,R,p⟩
  | ok o j=>
   cases e:rb with
   | none=>rw[e]at h;cases h
   | some q=>
    rw[e]at h;have B:=r q e;cases q with
    | ex c=>cases h;exact(Q7 aE A (iR B) au).weak λ k H Q ⟨O,W,R,p⟩=>⟨O,W,R,λ x w s1 n=>⟨O,W,R.mono s1,λ y C m s=>p y C m (s1.trans s)⟩⟩
    | ok v cy=>
     have i:(match(generalizing:=false) v with | .int l=>(slD o _ none).map λ d=>Re.ok d _ | _=>none)=some re:=h;split at i
     ·rename_i l;exact(Q7 aE A (eU B) au).weak λ k H Q ⟨O,W,R,p⟩=>⟨O,W,R,λ x w s1 n=>⟨O,W,R.mono s1,λ H2 g=>oC i ((R.hid.mono s1).mono g) (n.mono g) (p.step (s1.trans g))⟩⟩
     ·cases i
theorem xO(u:∀q,ra=some q->PE X a (dE X.D E δ q))(r:∀q,rb=some q->PE X b (dE X.D E δ q))(h:(Re.thn ra λ x j=>Re.thn rb λ l _=>match l with
  | .int l=>(slD x none (some l)).map λ d=>.ok d (slCl x j) | _=>none)=some re):PE X (.Subscript a (.Slice none (some b) none p2) pos) (dE X.D E δ re):=by
 cases f:ra with
 | none=>rw[f]at h;cases h
 | some q=>
  rw[f]at h;have A:=u q f;cases q with
  | ex c=>cases h;exact(Q7 aE A au bX).weak λ k H Q ⟨O,W,R,p⟩=>⟨O,W,R,p⟩
  | ok o j=>
   cases e:rb with
   | none=>rw[e]at h;cases h
   | some q=>
    rw[e]at h;have B:=r q e;cases q with
    | ex c=>cases h;exact(Q7 aE A au (iR B)).weak λ k H Q ⟨O,W,R,p⟩=>⟨O,W,R,λ x w s1 n=>⟨O,W,R.mono s1,λ y C m s=>p y C m (s1.trans s)⟩⟩
    | ok v cy=>
     have i:(match(generalizing:=false) v with | .int l=>(slD o none (some l)).map λ d=>Re.ok d (slCl o j) | _=>none)=some re:=h;split at i
     ·rename_i l;exact(Q7 aE A au (eU B)).weak λ k H Q ⟨O,W,R,p⟩=>⟨O,W,R,λ x w s1 n=>⟨O,W,R.mono s1,λ H2 g=>oC i ((R.hid.mono s1).mono g) (n.mono g) (p.step (s1.trans g))⟩⟩
     ·cases i
end
theorem eV(c:Nat):∀l:ge Nat,splL c l≠[]
 | []=>by unfold splL;simp
 | a::r=>by
  unfold splL;split
  ·simp
  ·split<;>simp
theorem iS(c:Nat):∀l:ge Nat,∀p∈splL c l,c∉p
 | [],p,h=>by unfold splL at h;rw[q9]at h;rw[h];simp
 | a::r,p,h=>by
  unfold splL at h;split at h
  ·rcases i6.mp h with e | e
   ·rw[e];simp
   ·exact iS c r p e
  ·rename_i b;have d:=iS c r;split at h
   ·rename_i x t e;rcases i6.mp h with q | q
    ·rw[q];intro z;rcases i6.mp z with z | z
     ·exact b z.symm
     ·exact d x (by rw[e];exact o8 ..) z
    ·exact d p (by rw[e];exact j6 _ q)
   ·rename_i e;exact absurd e (eV c r)
noncomputable def jnL(c:Nat):ge (ge Nat)->ge Nat
 | []=>[]
 | [a]=>a
 | a::b::r=>a++c::jnL c (b::r)
theorem iT(c:Nat):∀l:ge Nat,jnL c (splL c l)=l
 | []=>rfl
 | a::r=>by
  have b:=iT c r;unfold splL;split
  ·rename_i e;cases q:splL c r with
   | nil=>exact absurd q (eV c r)
   | cons x t=>
    rw[q]at b;show[]++c::jnL c (x::t)=_;rw[b,e];rfl
  ·split
   ·rename_i x t e;rw[e]at b;cases t with
    | nil=>show a::x=_;rw[show x=r from b]
    | cons y t=>show(a::x)++c::jnL c (y::t)=_;rw[←b];rfl
   ·rename_i e;exact absurd e (eV c r)
theorem xP(c:Nat):∀(x y u v:ge Nat),c∉x->c∉y->x++c::u=y++c::v->x=y/\u=v:=by
 intro x
 induction x with
 | nil=>
  intro y u v _ d h;cases y with
  | nil=>exact⟨rfl,by simpa using h⟩
  | cons b y=>rw[cX,T7]at h;injection h with h1 _;exact absurd (by rw[h1];exact o8 ..) d
 | cons a x f=>
  intro y u v e d h;cases y with
  | nil=>rw[cX,T7]at h;injection h with h1 _;exact absurd (by rw[←h1];exact o8 ..) e
  | cons b y=>
   rw[T7,T7]at h;injection h with h1 h2
   obtain⟨i,g⟩:=f y u v (λ z=>e (j6 _ z)) (λ z=>d (j6 _ z)) h2;exact⟨by rw[h1,i],g⟩
theorem xQ(c:Nat):∀(p q:ge (ge Nat)),p≠[]->q≠[]->(∀x∈p,c∉x)->(∀x∈q,c∉x)->jnL c p=jnL c q->p=q:=by
 intro p
 induction p with
 | nil=>intro q h;exact absurd rfl h
 | cons x p j=>
  intro q _ k b a h;cases q with
  | nil=>exact absurd rfl k
  | cons y q=>
   have g:=b x (o8 ..);have f:=a y (o8 ..);cases p with
   | nil=>
    cases q with
    | nil=>rw[show x=y from h]
    | cons i q=>
     have e:x=y++c::jnL c _:=h;exact absurd (by rw[e];simp) g
   | cons x2 p=>
    cases q with
    | nil=>
     have e:x++c::jnL c _=y:=h;exact absurd (by rw[←e];simp) f
    | cons i q=>
     obtain⟨m,l⟩:=xP c x y _ _ g f h;rw[m,j _ (by simp) (by simp) (λ z d=>b z (j6 _ d)) (λ z d=>a z (j6 _ d)) l]
theorem oE(c:Nat):∀l:ge Str,(Str.join ⟨#[c]⟩ l).cps.toList=jnL c (l.map λ x=>x.cps.toList)
 | []=>rfl
 | [x]=>rfl
 | x::y::r=>by show(x++⟨#[c]⟩++Str.join ⟨#[c]⟩ (y::r)).cps.toList=x.cps.toList++c::jnL c _;have e:(x++⟨#[c]⟩++Str.join ⟨#[c]⟩ (y::r)).cps=x.cps ++ #[c]++(Str.join ⟨#[c]⟩ (y::r)).cps:=rfl;rw[e,cN,cN,(oE c (y::r)),ae];rfl
theorem xS(x y:Str):Txt.split x y≠[]:=λ z=>by
 have:=split_pos x y;rw[z]at this;exact absurd this (by simp)
theorem xT(x:Str)(c:Nat):(Txt.split x ⟨#[c]⟩).map (λ p=>p.cps.toList)=splL c x.cps.toList:=by
 refine xQ c _ _ (by simpa using xS x _) (eV c _) (λ p b=>?_) (iS c _) ?_
 ·obtain⟨q,a,rfl⟩:=G6.mp b;exact StrLaws.split_free x c q a
 ·rw[←oE,StrLaws.join_split,iT]
theorem eW{y:Str}(h:y.cps.toList=[c]):y=⟨#[c]⟩:=by
 obtain⟨⟨l⟩⟩:=y;simp at h;rw[h]
theorem xU(x:Str)(c:Nat):(match Builtin.Str.occurrences x ⟨#[c]⟩ 0 x.length 1 with | i::_=>(i:Int) | []=>-1)=ay c x.cps.toList:=by
 unfold ay;have a:=λ i=>StrLaws.subAt_one x c i
 rcases StrLaws.occ_head x ⟨#[c]⟩ 1 (j0 1)with⟨e,g⟩ | ⟨i,r,e,ha,hm⟩
 ·rw[e];have:c∉x.cps.toList:=λ z=>by obtain⟨i,b,q⟩:=fI z;exact g i ((a i).mpr (by rw[o4 b,q]))
  rw[List.idxOf_eq_length this,i4 (N4 _)]
 ·rw[e];have b:=(a i).mp ha;have f:=(n7.mp b).1;have q:x.cps.toList.idxOf c=i:=by
   have d:=List.idxOf_lt_length_of_mem (M9 b);rcases Nat.lt_trichotomy _ i with z | z | z
   ·exact absurd ((a _).mpr (by rw[o4 d,List.getElem_idxOf d])) (hm _ z)
   ·exact z
   ·exfalso;have:=List.not_of_lt_findIdx (by unfold List.idxOf at z;exact z);rw[o4 f]at b;rw[(v5 b)]at this;simp at this
  rw[q,i3 f]
theorem xV{X:Cx}:MtR X "str.find" (λ x xs H Q=>∃(y z:Str) (c:Nat),x=.str y/\xs=[.str z]/\z.cps.toList=[c]/\Q (.int (ay c y.cps.toList)) H):=by
 intro pins s σ H x xs v us Q I rx rv h;obtain⟨y,z,c,rfl,rfl,hz,q⟩:=h;obtain⟨t,rfl⟩:=(show ∃t,v=Value.str y t from rx);obtain⟨u,rfl,r1⟩:=F0 rv;obtain⟨t',rfl⟩:=r1;rw[eW hz];have g:Gives (Builtin.«str.find» ⟨[.str y t,.str ⟨#[c]⟩ t'],[]⟩) (.int (match Builtin.Str.occurrences y ⟨#[c]⟩ 0 y.length 1 with | i::_=>(i:Int) | []=>-1)):=gives_str_find y ⟨#[c]⟩ t t';rw[xU]at g;exact call_gives F.slot_str_find (X4 _ _ _) F.entry_str_find (F.args_str_find_2 _ _) g ⟨.int _,H,I.tok _,⟨_,rfl⟩,q⟩
theorem xW(f:(y.length==0)=false)
  (e:∀(l:ge (Str×Tok)) tk,l.map (·.1)=Txt.split x y->Q (.ref s.heap.objs.size) {s with heap:=s.heap.push {cls:=.type "list",data:=.seq (strValues l).toArray},toks:=tk})
  (d:x.length<=sizeLine) (b:(Builtin.Str.partsBetween x (Builtin.Str.occurrences x y 0 x.length (x.length+1)) y.length).length<=sizeLine) :
  wpAny (model prog w) A (call (.builtin "str.split") [.str x t,.str y u]) Q E s:=by
 cases a:(decide (x.length<y.length)||decide (Builtin.Str.strKind x<Builtin.Str.strKind y))
 ·cases c:(Builtin.Str.occurrences x y 0 x.length (x.length+1)).isEmpty
  ·refine al fV (X4 _ _ _) fP (fK _ _) (meets_str_split_sep x y t u a f c d b) ?_;show wants Q E _ {s with toks:=_,heap:=s.heap.push {cls:=.type "list",data:=.seq (strsFrom s.toks _).toArray}};rw[strsFrom_eq];exact e _ _ ((numbered_texts _ _).trans ((i4 (fJ a)).trans (i4 (fJ c))).symm)
  ·exact al fV (X4 _ _ _) fP (fK _ _) (meets_str_split_not_found x y t u a f c)
    (e [(x,t)] s.toks ((i4 (fJ a)).trans (i3 c)).symm)
 ·exact al fV (X4 _ _ _) fP (fK _ _) (meets_str_split_cannot_occur x y t u a)
   (e [(x,t)] s.toks (i3 a).symm)
theorem oF:∀{l:ge (Str×Tok)} {a:ge (ge Nat)},l.map (λ p=>p.1.cps.toList)=a->Vals (a.map λ p=>V.str ⟨p.toArray⟩) (strValues l)
 | [],a,h=>by cases h;exact .nil
 | (x,t)::l,a,h=>by cases h;obtain⟨⟨cl⟩⟩:=x;exact .cons ⟨t,rfl⟩ (oF rfl)
theorem oG(c:Nat):∀l:ge Nat,(splL c l).length<=l.length+1
 | []=>by unfold splL;simp
 | a::r=>by
  have b:=oG c r;unfold splL;split
  ·simp;omega
  ·split
   ·rename_i x t e;rw[e]at b;simp at b ⊢;omega
   ·simp
theorem xX:MtR X "str.split" (λ x d H Q=>∃(y z:Str) (c:Nat),x=.str y/\d=[.str z]/\z.cps.toList=[c]/\y.length<=k9/\∀p,H p=none->Q (.ref p) (upd H p (.lst ((splL c y.cps.toList).map λ p=>V.str ⟨p.toArray⟩)))):=by
 intro f s σ H x d v us Q I i j h;obtain⟨y,z,c,rfl,rfl,m,w,q⟩:=h;obtain⟨t,rfl⟩:=(i);obtain⟨u,rfl,k⟩:=F0 j;obtain⟨t',rfl⟩:=k;rw[eW m];have hy:y.length<=1000000:=w;have n:=StrLaws.occ_length_le_len y ⟨#[c]⟩ 0 y.length (y.length+1);have A:sizeLine=16777216:=by decide
 refine xW (by rfl) (λ l tk a=>?_) (by omega) (by rw[len_partsBetween];omega);have g:=oG c y.cps.toList;have r:y.cps.toList.length=y.length:=rfl;exact⟨.ref s.heap.objs.size,_,I.laid (λ b o e=>i5 _ e) (j0 _) (show z5 X.prog X.w _ _ _ (.lst _)from⟨by rw[n8];omega,strValues l,_,(oF (by rw[←xT,←a,List.map_map];rfl)),k6 _ rfl⟩),rfl,q _ (I.hok.fresh (j0 _))⟩
theorem oH:∀{b:ge Str} {a:ge ED},Vals (b.map V.str) a->StrsAre a b
 | [],a,h=>by cases h;exact .nil
 | y::b,a,h=>by
  cases h with
  | cons r h=>
   obtain⟨t,rfl⟩:=r;exact .cons y t (oH h)
theorem xY:MtR X "str.join" (λ x c H Q=>∃(y:Str) (a:EG) (b:ge Str),x=.str y/\c=[.ref a]/\SqL X.K H a (b.map V.str)/\(b.map (·.length)).sum+b.length*y.length<=k9/\Q (.str (Str.join y b)) H):=by
 intro d s σ H x c v us Q I f g h;obtain⟨y,a,b,rfl,rfl,m,n,q⟩:=h;obtain⟨t,rfl⟩:=(f);obtain⟨u,rfl,i⟩:=F0 g;cases i;obtain⟨l,j,pl,hz⟩:=I.list m;refine PyProof.Rows.join_list pl.isList (by simpa using oH j) (o6 n (by decide)) λ t' k=>?_
 have e:Txt.join y b=Str.join y b:=StrLaws.glued_eq_join y b;rw[e];exact⟨.str _,H,I.tok _,⟨_,rfl⟩,q⟩
theorem xZ:∀a,a<10->PySem.intText? ⟨#[48+a]⟩=some (a:Int):=by decide +kernel
theorem ya:∀a,a<10->∀b,b<10->PySem.intText? ⟨#[48+a,48+b]⟩=some ((a*10+b:Nat):Int):=by decide +kernel
theorem yb(h:dnum x=some n):PySem.intText? x=some n/\x.length<=640:=by
 obtain⟨⟨l⟩⟩:=x;unfold dnum at h;simp at h;split at h
 ·rename_i a;split at h
  ·rename_i c;cases h;have:=xZ (a - 48) (by omega);rw[show 48+_=a by omega]at this;exact⟨this,by show 1<=640;decide⟩
  ·cases h
 ·rename_i a b;split at h
  ·rename_i c;cases h;have:=ya (a - 48) (by omega) (b - 48) (by omega);rw[show 48+_=a by omega,show 48+_=b by omega]at this;exact⟨this,by show 2<=640;decide⟩
  ·cases h
 ·cases h
theorem yc:v9 X (.type "int") (λ a H Q=>∃(y:Str) (n:Int),a=[.str y]/\dnum y=some n/\Q (.int n) H):=by
 intro b s σ H a us Q I r h;obtain⟨y,n,rfl,d,q⟩:=h;obtain⟨u,rfl,c⟩:=F0 r;obtain⟨t,rfl⟩:=c;obtain⟨f,e⟩:=yb d;exact PySem.W.KIN.call_text f e ⟨.int _,H,I.tok _,⟨_,rfl⟩,q⟩
theorem oI{i:Int}(a:i.natAbs<2^64):i.natAbs.log2<1920:=by
 by_cases z:i.natAbs=0
 ·rw[z];decide
 ·exact q5 ((dr z).mpr a) (by decide)
noncomputable def Its(x:Str):It:=⟨λ i _=>i<x.cps.size,λ i H v H'=>H'=H/\∃c,x.cps[i]? = some c/\v=.str ⟨#[c]⟩,λ i _=>x.cps.size<=i⟩
theorem yd{K:EQ}(it:EG)(x:Str)(t:Tok):Turn P w K tg (Its x) [it] it (λ i h=>h.IsStrIter it "str_ascii_iterator" x t i) where
 mem:=by simp
 obj:=λ i h st b a=>by
  have e:b=it:=by simpa using a
  subst e;obtain⟨o,e,c,d⟩:=st;exact⟨o,e,λ v z=>by rw[d]at z;cases z⟩
 keep:=λ i h J st k=>by obtain⟨o,e,r⟩:=st;exact⟨o,k it (by simp) o e,r⟩
 item:=by
  intro X p m q F i g s L H E I l st n;subst p m q;obtain⟨C,B,N,A,y,u⟩:=l it (by simp);have j:i<x.cps.size:=n;refine wpAny_pyNext_ascii_item st (c:=x.cps[i]) (by simp[j]) λ J f M=>?_
  obtain⟨o,e,c,d⟩:=id f;exact⟨_,rfl,bn e c d (by decide) ⟨.str ⟨#[x.cps[i]]⟩,H,(I.turned (λ b o a e=>(M.2 b a).trans e) C B A y u),⟨_,rfl⟩,⟨rfl,_,by simp[j],rfl⟩,f,λ b a=>(l b a).1⟩⟩
 done:=by
  intro X p m q F i g s L H E I l st n;subst p m q;obtain⟨C,B,N,A,y,u⟩:=l it (by simp);have j:x.cps.size<=i:=n;exact wpAny_pyNext_ascii_end (I.ok.hd F) st (by simp[j]) λ J O=>⟨rfl,I.turned (t':=s.toks) (λ b o a e=>O b o a e) C B A y u⟩
 self:=λ _ _ _ _ _ st h=>wpAny_pyIter_striter_ascii st h
theorem ye{K:EQ}(it:EG)(x:Str)(t:Tok):Turn P w K tg (Its x) [it] it (λ i h=>h.IsStrIter it "str_iterator" x t i) where
 mem:=by simp
 obj:=λ i h st b a=>by
  have e:b=it:=by simpa using a
  subst e;obtain⟨o,e,c,d⟩:=st;exact⟨o,e,λ v z=>by rw[d]at z;cases z⟩
 keep:=λ i h J st k=>by obtain⟨o,e,r⟩:=st;exact⟨o,k it (by simp) o e,r⟩
 item:=by
  intro X n l p F i g s L H E I j st m;subst n l p;obtain⟨B,A,N,y,u,q⟩:=j it (by simp);have C:i<x.cps.size:=m;refine wpAny_pyNext_wide_item st (c:=x.cps[i]) (by grind) λ J f M=>?_
  obtain⟨o,e,c,d⟩:=id f;exact⟨_,rfl,bn e c d (by decide) ⟨.str ⟨#[x.cps[i]]⟩,H,(I.turned (λ b o a e=>(M.2 b a).trans e) B A y u q),⟨_,rfl⟩,⟨rfl,_,by simp[C],rfl⟩,f,λ b a=>(j b a).1⟩⟩
 done:=by
  intro X n l p F i g s L H E I j st m;subst n l p;obtain⟨B,A,N,y,u,q⟩:=j it (by simp);have C:x.cps.size<=i:=m;exact wpAny_pyNext_wide_end (I.ok.hd F) st (by grind) λ J O=>⟨rfl,I.turned (λ b o a e=>O b o a e) B A y u q⟩
 self:=λ _ _ _ _ _ st h=>wpAny_pyIter_striter_wide st h
def iStr(tl:TE):TI:=λ σ H R=>tl σ H λ v H1=>∃x:Str,v=.str x/\R (Its x) H1
theorem yf(n:PE X l f):PI X tg l (iStr f):=by
 intro a s j H R I h;refine thn (n a s j H _ I h) λ v s1 ⟨x,d,c,k,m⟩=>?_
 obtain⟨y,e,q⟩:=m;subst e;obtain⟨t,rfl⟩:=(k);have i:∀(o:Obj),∀b∈[s1.heap.objs.size],FpOk X a d b:=λ o b p=>by
  have e:b=s1.heap.objs.size:=by simpa using p
  subst e;exact c.fpOk (j0 _) (c.hok.fresh (j0 _))
 cases g:y.cps.all _ with
 | false=>exact wpAny_pyIter_wide g ⟨s1.heap.objs.size,_,_,_,d,rfl,c.kept λ b o e=>i5 _ e,ye _ y t,⟨_,k6 _ rfl,rfl,rfl⟩,i default,q⟩
 | true=>exact wpAny_pyIter_ascii g ⟨s1.heap.objs.size,_,_,_,d,rfl,c.kept λ b o e=>i5 _ e,yd _ y t,⟨_,k6 _ rfl,rfl,rfl⟩,i default,q⟩
theorem yg(v:Int):Builtin.Str.strSliceIndices l (some v) 1 n=Builtin.Str.strSliceIndices l (some (B3 n v)) 1 n:=by
 unfold Builtin.Str.strSliceIndices;dsimp only;have:max 0 (min (if v<0 then v+(n:Int)else v) n)=max 0 (min (if B3 n v<0 then B3 n v+(n:Int)else B3 n v) n):=by unfold B3;split<;>split<;>omega
 simp only[show((1:Int)>0)=True by simp,if_true];rw[this]
def hiS(n:Nat):EC Int->Int
 | none=>n
 | some v=>B3 n v
theorem oJ(d:a.getD 0=(i:Int))(c:hiS n b=(j:Int)):Builtin.Str.strSliceIndices a b 1 n=Builtin.Str.strSliceIndices (some (i:Int)) (some (j:Int)) 1 n:=by
 have e:Builtin.Str.strSliceIndices a b 1 n=Builtin.Str.strSliceIndices a (some (j:Int)) 1 n:=by
  rw[←c];cases b with
  | none=>exact StrLaws.sliceIdx_none_hi _ _
  | some v=>exact yg v
 rw[e,←d];cases a with
 | none=>exact StrLaws.sliceIdx_none_lo _ _
 | some u=>rfl
def rSlS:V->EC Int->EC Int->Hp->VK->Prop:=λ x lo hi H Q=>∃(z:Str) (i j:Nat),x=.str z/\z.length<=sizeLine/\lo.getD 0=(i:Int)/\hiS z.length hi=(j:Int)/\i<=j/\j<=z.length/\Q (.str (cutS z i j)) H
theorem yh{z:Str}{i j:Nat}(f:b.getD 0=(i:Int))(e:hiS z.length c=(j:Int))(a:i<=j)(d:j<=z.length):(Builtin.Str.strSliceIndices b c 1 z.length).filterMap (z.cps[·]?)=(z.cps.toList.drop i).take (j - i):=by
 rw[oJ f e];exact StrLaws.sliced_plain z a d
theorem oK:(cutS z i j).length<=z.length:=by
 show((z.cps.toList.drop i).take _).toArray.size<=z.cps.size;rw[r9,T6,cT,A5];omega
theorem oM(h:n<=k9):n<=sizeLine:=o6 h (by decide)
theorem iU:SlR X rSlS:=by
 intro c s σ H x v vl vu A K sl Q I n J pl r h;obtain⟨z,i,j,rfl,E,m,k,b,g,q⟩:=h;obtain⟨t,rfl⟩:=n;refine⟨"str",_,F.slot_str_getitem.lookup,X4 s z t,?_⟩;have a:∀{w:ED} {o:EC Int},IsPart w o->∃l:EC _,w=partValue l/\l.map (·.1)=o:=λ {w o} p=>by
  cases p with
  | none=>exact⟨none,rfl,rfl⟩
  | int i t=>exact⟨some (i,t),rfl,rfl⟩
 obtain⟨l,rfl,f⟩:=a pl;obtain⟨u,rfl,d⟩:=a r;refine wpAny_getItem_str_slice (st:=none) J rfl ?_;have y:(slicePicked z l u none).filterMap (z.cps[·]?)=(z.cps.toList.drop i).take (j - i):=by unfold slicePicked;rw[f,d];exact yh m k b g
 unfold sliceMade;split
 ·rename_i w;have e:cutS z i j=z:=by
   simp only[g9,i1]at w;have w2:=w.2;have:(slicePicked z l u none).length=j - i:=by unfold slicePicked;rw[f,d];have e:=oJ m k;show(Builtin.Str.strSliceIndices A K 1 z.length).length=_;rw[e,StrLaws.strSliceIndices_plain b g,n8,ag]
   have C:i=0:=by omega
   have B:j=z.length:=by omega
   subst C;unfold cutS;rw[B,Nat.sub_zero,List.drop_zero,List.take_of_length_le (by rw[A5];exact j0 _)]
  rw[e]at q;exact⟨.str z,H,I,⟨t,rfl⟩,q⟩
 ·rw[y];exact⟨o6 oK E,.str _,H,I.tok _,⟨_,rfl⟩,q⟩
theorem iV(h:z.length<=sizeLine):Got D O W a H (.str z) .strong (.str z):=(x0.mpr ⟨rfl,h⟩:Rep D (L2.wo (O++W) H) _ _)
theorem yi(M:∀q,r=some q->PE X a (dE X.D E δ q))(L:∀q,o=some q->PE X b (dE X.D E δ q))(K:∀q,n=some q->PE X c (dE X.D E δ q))(h:(Re.thn r λ x _=>Re.thn o λ l _=>stmG x l n)=some k):PE X (.Subscript a (.Slice (some b) (some c) none p2) pos) (dE X.D E δ k):=by
 cases f:r with
 | none=>rw[f]at h;cases h
 | some q=>
  rw[f]at h;have A:=M q f;cases q with
  | ex c=>cases h;exact(Q7 iU A bX bX).weak λ t H Q ⟨O,W,R,p⟩=>⟨O,W,R,p⟩
  | ok F cx=>
   cases e:o with
   | none=>rw[e]at h;cases h
   | some q=>
    rw[e]at h;have B:=L q e;cases q with
    | ex c=>cases h;exact(Q7 iU A (iR B) bX).weak λ t H Q ⟨O,W,R,p⟩=>⟨O,W,R,λ x Z s1 w=>⟨O,W,R.mono s1,λ H' C m s=>p H' C m (s1.trans s)⟩⟩
    | ok U cy=>
     have j:stmG F U n=some k:=h;unfold stmG at j;split at j
     ·rename_i i S cz;obtain⟨d,g,N⟩:=j7.mp j;cases F with
      | str z=>
       cases S with
       | int v=>
        have g:(if 0<=i/\i<=B3 z.length v then some (DV.str _)else none)=some d:=g;split at g
        ·rename_i m;cases g;cases N;refine(Q7 iU A (eU B) (eU (K _ rfl))).weak λ t H Q ⟨O,W,R,p⟩=>⟨O,W,R,λ x Z s1 w=>⟨O,W,R.mono s1,λ H2 u=>⟨O,W,(R.mono s1).mono u,λ Y I=>?_⟩⟩⟩
         obtain⟨P,y⟩:=w.str (R.hid.mono s1);have J:B3 z.length v<=z.length:=by unfold B3;split<;>omega
         exact⟨z,i.toNat,(B3 z.length v).toNat,P,y,by show i=_;omega,by show B3 z.length v=_;omega,by omega,by omega,p _ Y ((s1.trans u).trans I) (iV (o6 oK y))⟩
        ·cases g
       | _=>cases g
      | _=>cases g
     ·cases j
theorem yj(o:∀q,g=some q->PE X a (dE X.D E δ q))(n:∀q,f=some q->PE X b (dE X.D E δ q))(h:(Re.thn g λ x _=>Re.thn f λ y _=>(catS x y).map λ d=>.ok d .strong)=some e):PE X (.BinOp a .Add b pos) (dE X.D E δ e):=
 eQ (λ _ _=>lr sC) o n h λ O W H0 H x y Q dx cx dy cy σ k l u t p=>by
  obtain⟨d,c,r⟩:=j7.mp k;unfold catS at c;split at c
  ·rename_i i j;split at c
   ·rename_i m;cases c;cases r;exact⟨i,j,(u.str l).1,(t.str l).1,oM m,p _ H (Same.refl H) (iV (by rw[dm];exact oM m))⟩
   ·cases c
  ·cases c
mutual
noncomputable def toP:DV->PyData
 | .non=>.none | .bl b=>.bool b | .int i=>.int i | .str x=>.str x
 | .tup ds=>.tuple (toPs ds) | .lst ds=>.list (toPs ds)
 | _=>.none
noncomputable def toPs:ge DV->ge PyData
 | []=>[]
 | d::r=>toP d::toPs r
end
mutual
theorem bY:∀(n m:Nat) (d e:DV),d.plain n=true->e.plain m=true->PyData.eqv (toP d) (toP e)=deq d e
 | n,m,.non,e,_,h=>by cases e<;>first | (cases m<;>simp[DV.plain]at h;done) | (simp only[toP,PyData.eqv,deq])
 | n,m,.bl _,e,_,h=>by cases e<;>first | (cases m<;>simp[DV.plain]at h;done) | (simp only[toP,PyData.eqv,deq])
 | n,m,.int _,e,_,h=>by cases e<;>first | (cases m<;>simp[DV.plain]at h;done) | (simp only[toP,PyData.eqv,deq])
 | n,m,.str x,e,_,h=>by
  cases e with
  | str y=>simp only[toP,PyData.eqv,deq];rfl
  | non=>simp only[toP,PyData.eqv,deq]
  | bl _=>simp only[toP,PyData.eqv,deq]
  | int _=>simp only[toP,PyData.eqv,deq]
  | tup _=>simp only[toP,PyData.eqv,deq]
  | lst _=>simp only[toP,PyData.eqv,deq]
  | dct _ _=>cases m<;>simp[DV.plain]at h
  | exc _=>cases m<;>simp[DV.plain]at h
  | fn _=>cases m<;>simp[DV.plain]at h
  | lam _ _=>cases m<;>simp[DV.plain]at h
  | scr _=>cases m<;>simp[DV.plain]at h
 | 0,_,.tup _,_,h,_=>by simp[DV.plain]at h
 | 0,_,.lst _,_,h,_=>by simp[DV.plain]at h
 | n+1,m,.tup ds,e,h,h'=>by
  cases e with
  | tup es=>
   cases m with
   | zero=>simp[DV.plain]at h'
   | succ m=>
    simp only[toP,PyData.eqv,deq];exact iW n m ds es (by simpa[DV.plain]using h) (by simpa[DV.plain]using h')
  | non=>simp only[toP,PyData.eqv,deq]
  | bl _=>simp only[toP,PyData.eqv,deq]
  | int _=>simp only[toP,PyData.eqv,deq]
  | str _=>simp only[toP,PyData.eqv,deq]
  | lst _=>simp only[toP,PyData.eqv,deq]
  | dct _ _=>cases m<;>simp[DV.plain]at h'
  | exc _=>cases m<;>simp[DV.plain]at h'
  | fn _=>cases m<;>simp[DV.plain]at h'
  | lam _ _=>cases m<;>simp[DV.plain]at h'
  | scr _=>cases m<;>simp[DV.plain]at h'
 | n+1,m,.lst ds,e,h,h'=>by
  cases e with
  | lst es=>
   cases m with
   | zero=>simp[DV.plain]at h'
   | succ m=>
    simp only[toP,PyData.eqv,deq];exact iW n m ds es (by simpa[DV.plain]using h) (by simpa[DV.plain]using h')
  | non=>simp only[toP,PyData.eqv,deq]
  | bl _=>simp only[toP,PyData.eqv,deq]
  | int _=>simp only[toP,PyData.eqv,deq]
  | str _=>simp only[toP,PyData.eqv,deq]
  | tup _=>simp only[toP,PyData.eqv,deq]
  | dct _ _=>cases m<;>simp[DV.plain]at h'
  | exc _=>cases m<;>simp[DV.plain]at h'
  | fn _=>cases m<;>simp[DV.plain]at h'
  | lam _ _=>cases m<;>simp[DV.plain]at h'
  | scr _=>cases m<;>simp[DV.plain]at h'
 | n,_,.dct _ _,_,h,_=>by cases n<;>simp[DV.plain]at h
 | n,_,.exc _,_,h,_=>by cases n<;>simp[DV.plain]at h
 | n,_,.fn _,_,h,_=>by cases n<;>simp[DV.plain]at h
 | n,_,.lam _ _,_,h,_=>by cases n<;>simp[DV.plain]at h
 | n,_,.scr _,_,h,_=>by cases n<;>simp[DV.plain]at h
theorem iW:∀(n m:Nat) (ds es:ge DV),DV.plains n ds=true->DV.plains m es=true->PyData.eqvAll (toPs ds) (toPs es)=deqs ds es
 | _,_,[],[],_,_=>by simp only[toPs,PyData.eqvAll,deqs]
 | _,_,[],_::_,_,_=>by simp only[toPs,PyData.eqvAll,deqs]
 | _,_,_::_,[],_,_=>by simp only[toPs,PyData.eqvAll,deqs]
 | n,m,d::ds,e::es,h,h'=>by simp only[DV.plains,g9]at h h';simp only[toPs,PyData.eqvAll,deqs,bY n m d e h.1 h'.1,iW n m ds es h.2 h'.2]
end
mutual
theorem V4:∀(n:Nat) (d:DV),d.plain n=true->(toP d).canLay0=true/\(toP d).depth<=n
 | n,.non,_=>by simp[toP,PyData.canLay0,PyData.depth]
 | n,.bl _,_=>by simp[toP,PyData.canLay0,PyData.depth]
 | n,.int _,_=>by simp[toP,PyData.canLay0,PyData.depth]
 | n,.str x,h=>by
  have h':(x.cps.all (· < 0x110000))=true:=by cases n<;>simpa[DV.plain]using h
  simp only[toP,PyData.canLay0,PyData.depth];exact⟨h',E2 _⟩
 | 0,.tup _,h=>by simp[DV.plain]at h
 | 0,.lst _,h=>by simp[DV.plain]at h
 | n+1,.tup ds,h=>by have q:=R8 n ds (by simpa[DV.plain]using h);simp only[toP,PyData.canLay0,PyData.depth,q.1,true_and];have:=q.2;omega
 | n+1,.lst ds,h=>by have q:=R8 n ds (by simpa[DV.plain]using h);simp only[toP,PyData.canLay0,PyData.depth,q.1,true_and];have:=q.2;omega
 | n,.dct _ _,h=>by cases n<;>simp[DV.plain]at h
 | n,.exc _,h=>by cases n<;>simp[DV.plain]at h
 | n,.fn _,h=>by cases n<;>simp[DV.plain]at h
 | n,.lam _ _,h=>by cases n<;>simp[DV.plain]at h
 | n,.scr _,h=>by cases n<;>simp[DV.plain]at h
theorem R8:∀(n:Nat) (ds:ge DV),DV.plains n ds=true->PyData.canLayAll0 (toPs ds)=true/\PyData.depthAll (toPs ds)<=n
 | _,[],_=>by simp[toPs,PyData.canLayAll0,PyData.depthAll]
 | n,d::ds,h=>by simp only[DV.plains,g9]at h;have q:=V4 n d h.1;have q':=R8 n ds h.2;simp only[toPs,PyData.canLayAll0,PyData.depthAll,q.1,q'.1,Bool.and_self,true_and];have a:=q.2;have b:=q'.2;omega
end
section
variable {X:Cx} {pins:ge (EG×Obj)} {σ:St} {H:Hp} {s:EF}
mutual
theorem D8(I:Inv X pins σ H s):∀(n:Nat) {d:DV} {v:V} {u:ED},d.plain n=true->Rep X.D H d v->RelV v u->∃as,Reads s.heap u (toP d) as
 | _,.non,_,_,_,h,r=>by rw[R7.mp h]at r;cases r;exact⟨_,Reads.none⟩
 | _,.bl b,_,_,_,h,r=>by rw[R6.mp h]at r;cases r;exact⟨_,Reads.bool b⟩
 | _,.int i,_,_,_,h,r=>by rw[C5.mp h]at r;obtain⟨t,rfl⟩:=r;exact⟨_,Reads.int i t⟩
 | _,.str x,_,_,_,h,r=>by rw[(x0.mp h).1]at r;obtain⟨t,rfl⟩:=r;exact⟨_,Reads.str x t⟩
 | 0,.tup _,_,_,p,_,_=>by simp[DV.plain]at p
 | 0,.lst _,_,_,p,_,_=>by simp[DV.plain]at p
 | n+1,.tup ds,_,_,p,h,r=>by obtain⟨a,xs,e1,e2,e3⟩:=y7.mp h;rw[e1]at r;cases r;obtain⟨its,rv,⟨o,h1,h2,k,h3⟩,_⟩:=I.tuple e2;obtain⟨as,q⟩:=iX I n (by simpa[DV.plain]using p) e3 rv;rw[toP];exact⟨as,Reads.tuple h1 h2 h3 (by simpa using q)⟩
 | n+1,.lst ds,_,_,p,h,r=>by obtain⟨a,xs,e1,e2,e3⟩:=A2.mp h;rw[e1]at r;cases r;obtain⟨_,its,k,rv,_,h1⟩:=I.lstM e2;obtain⟨as,q⟩:=iX I n (by simpa[DV.plain]using p) e3 rv;rw[toP];exact⟨_,Reads.list h1 rfl rfl (by simpa using q)⟩
 | n,.dct _ _,_,_,h,_,_=>by cases n<;>simp[DV.plain]at h
 | n,.exc _,_,_,h,_,_=>by cases n<;>simp[DV.plain]at h
 | n,.fn _,_,_,h,_,_=>by cases n<;>simp[DV.plain]at h
 | n,.lam _ _,_,_,h,_,_=>by cases n<;>simp[DV.plain]at h
 | n,.scr _,_,_,h,_,_=>by cases n<;>simp[DV.plain]at h
theorem iX(I:Inv X pins σ H s):∀(n:Nat) {ds:ge DV} {vs:ge V} {us:ge ED},DV.plains n ds=true->RepL X.D H ds vs->Vals vs us->∃as,ReadsAll s.heap us (toPs ds) as
 | _,[],_,_,_,h,r=>by rw[A3.mp h]at r;cases r;exact⟨_,ReadsAll.nil⟩
 | n,d::ds,_,_,p,h,r=>by
  simp only[DV.plains,g9]at p;obtain⟨v,vs,e1,e2,e3⟩:=t7.mp h;subst e1;cases r with
  | cons r1 r2=>
   obtain⟨as,q⟩:=D8 I n p.1 e2 r1;obtain⟨bs,q'⟩:=iX I n p.2 e3 r2;rw[toPs];exact⟨_,ReadsAll.cons q q'⟩
end
theorem eX(h:d.plain 60=true):SeqAt.shaped (toP d)=true:=by
 have q:=V4 60 d h;unfold SeqAt.shaped;rw[q.1,Bool.true_and];exact x6 (o6 q.2 (by decide))
theorem bZ(h:d.plain 60=true):∀(a:ge DV),DV.plains 60 a=true->((toPs a).any λ y=>PyData.eqv y (toP d))=a.any λ x=>deq x d
 | [],_=>rfl
 | e::a,p=>by simp[DV.plains,g9]at p;rw[toPs,J3,J3,bY 60 60 e d p.1 h,bZ h a p.2]
end
section
variable {X:Cx} {E:St->XK} {δ:ge Sv} {a b c e:EI} {pos:Pos} {ra rb rc:EC Re} {re:Re}
def cmpR(X:Cx)(op:CmpOp):R2:=λ x y H Q=>∃dx dy k,cmpD op dx dy=some k/\Rep X.D H dx x/\Rep X.D H dy y/\Q (.bl k) H
theorem yk(r:Rep D H d v):decide (v=.non)=isN d:=by
 cases d with
 | non=>rw[R7.mp r];rfl
 | bl _=>rw[R6.mp r];rfl
 | int _=>rw[C5.mp r];rfl
 | str _=>rw[(x0.mp r).1];rfl
 | tup _=>obtain⟨a,b,e,_⟩:=y7.mp r;rw[e];rfl
 | lst _=>obtain⟨a,b,e,_⟩:=A2.mp r;rw[e];rfl
 | exc _=>obtain⟨a,C,e,_⟩:=iO.mp r;rw[e];rfl
 | fn _=>obtain⟨a,e,_⟩:=eL.mp r;rw[e];rfl
 | lam _ _=>obtain⟨a,_,_,_,_,_,_,_,e,_⟩:=bT.mp r;rw[e];rfl
 | scr _=>obtain⟨a,e,_⟩:=O7.mp r;rw[e];rfl
 | dct _ _=>exact(bU r).elim
theorem oN(h:asS d=some i):d=.str i:=by cases d<;>cases h;rfl
theorem aF(M:X.A.units+64<cLine):OpR X (compareOp op) (cmpR X op):=by
 intro d s z H x y v u Q I l j h;obtain⟨dx,dy,k,a,n,m,q⟩:=h;have f:∀{C:Bool},C=k->EP X d z Q (.bool C) s:=λ {C} e=>⟨.bl C,H,I,rfl,by rw[e];exact q⟩
 unfold cmpD at a;cases op
 case Lt=>
  dsimp only at a
  replace a:=m7.mp a
  obtain⟨L,b,a⟩:=a
  replace a:=m7.mp a
  obtain⟨K,i,a⟩:=a;have b:=z9 b;have i:=z9 i;subst b i;cases a;exact sj d s z H x y v u Q I l j ⟨_,_,C5.mp n,C5.mp m,q⟩
 case LtE=>
  dsimp only at a
  replace a:=m7.mp a
  obtain⟨L,b,a⟩:=a
  replace a:=m7.mp a
  obtain⟨K,i,a⟩:=a;have b:=z9 b;have i:=z9 i;subst b i;cases a;exact sr d s z H x y v u Q I l j ⟨_,_,C5.mp n,C5.mp m,q⟩
 case Gt=>
  dsimp only at a
  replace a:=m7.mp a
  obtain⟨L,b,a⟩:=a
  replace a:=m7.mp a
  obtain⟨K,i,a⟩:=a;have b:=z9 b;have i:=z9 i;subst b i;cases a;exact su d s z H x y v u Q I l j ⟨_,_,C5.mp n,C5.mp m,q⟩
 case Eq=>
  dsimp only at a;split at a
  ·rename_i p;rw[g9]at p;cases a;obtain⟨B,o⟩:=D8 I 60 p.1 n l;obtain⟨bs,g⟩:=D8 I 60 p.2 m j;exact eq_dataH o g (eX p.1) (eX p.2) M (f (bY 60 60 _ _ p.1 p.2))
  ·cases a
 case NotEq=>
  dsimp only at a;split at a
  ·rename_i p;rw[g9]at p;cases a;obtain⟨B,o⟩:=D8 I 60 p.1 n l;obtain⟨bs,g⟩:=D8 I 60 p.2 m j;exact ne_dataH o g (eX p.1) (eX p.2) M (f (by rw[bY 60 60 _ _ p.1 p.2]))
  ·cases a
 case Is=>
  dsimp only at a;split at a
  ·cases a;exact sw d s z H x y v u Q I l j ⟨R7.mp m,by rw[yk n];exact q⟩
  ·cases a
 case In=>
  dsimp only at a;split at a
  ·rename_i w;split at a
   ·rename_i p;rw[g9]at p;cases a;obtain⟨B,o⟩:=D8 I 60 p.1 n l;obtain⟨bs,g⟩:=D8 I 61 (by simpa[DV.plain]using p.2) m j;rw[toP]at g;have r:=V4 60 _ p.1;have A:=R8 60 w p.2;have F:=r.2;exact SeqAt.in_list_reads g o A.1 r.1 (by omega) (f (bZ p.1 w p.2))
   ·cases a
  ·rename_i w;split at a
   ·rename_i p;rw[g9]at p;cases a;obtain⟨B,o⟩:=D8 I 60 p.1 n l;obtain⟨bs,g⟩:=D8 I 61 (by simpa[DV.plain]using p.2) m j;rw[toP]at g;have r:=V4 60 _ p.1;have A:=R8 60 w p.2;have F:=r.2;exact SeqAt.in_tuple_reads g o A.1 r.1 (by omega) (f (bZ p.1 w p.2))
   ·cases a
  ·rename_i E
   replace a:=m7.mp a
   obtain⟨N,b,a⟩:=a;have b:=oN b;subst b;unfold inS at a;split at a
   ·rename_i c J;cases a;have b:=(x0.mp n).1;have i:=(x0.mp m).1;subst b i;obtain⟨t,rfl⟩:=(l);obtain⟨O,rfl⟩:=(j);have:=eW J;subst this;exact PySem.P.in_str (f (StrLaws.found_one E c))
   ·cases a
  ·cases a
 case NotIn=>
  dsimp only at a;split at a
  ·rename_i w;split at a
   ·rename_i p;rw[g9]at p;cases a;obtain⟨B,o⟩:=D8 I 60 p.1 n l;obtain⟨bs,g⟩:=D8 I 61 (by simpa[DV.plain]using p.2) m j;rw[toP]at g;have r:=V4 60 _ p.1;have A:=R8 60 w p.2;have F:=r.2;exact SeqAt.notIn_list_reads g o A.1 r.1 (by omega) (f (by rw[bZ p.1 w p.2]))
   ·cases a
  ·rename_i w;split at a
   ·rename_i p;rw[g9]at p;cases a;obtain⟨B,o⟩:=D8 I 60 p.1 n l;obtain⟨bs,g⟩:=D8 I 61 (by simpa[DV.plain]using p.2) m j;rw[toP]at g;have r:=V4 60 _ p.1;have F:=r.2;exact SeqAt.notIn_tuple_reads g o (R8 60 w p.2).1 r.1 (by omega) (f (by rw[bZ p.1 w p.2]))
   ·cases a
  ·rename_i E
   replace a:=m7.mp a
   obtain⟨N,b,a⟩:=a;have b:=oN b;subst b;unfold inS at a;split at a
   ·rename_i c J;cases a;have b:=(x0.mp n).1;have i:=(x0.mp m).1;subst b i;obtain⟨t,rfl⟩:=(l);obtain⟨O,rfl⟩:=(j);have:=eW J;subst this;exact PySem.P.notIn_str (f (by rw[StrLaws.found_one E c]))
   ·cases a
  ·cases a
 all_goals (dsimp only at a;cases a)
theorem iY(h:D5 b=false):behindInMarks op b=false:=by
 cases b<;>first | rfl | cases h
theorem yl(e:X.A.units+64<cLine)(g:∀q,ra=some q->PE X a (dE X.D E δ q))(f:∀q,rb=some q->PE X b (dE X.D E δ q))(hs:D5 b=false)
  (h:(Re.thn ra λ x _=>Re.thn rb λ y _=>(cmpD op x y).map λ k=>.ok (.bl k) .strong)=some re):PE X (.Compare a [op] [b] pos) (dE X.D E δ re):=
 eQ (λ _ _ j i=>ls (aF e) j i (iY hs)) g f h λ O W H0 H x y Q u cx r cy σ k c m l p=>by obtain⟨d,o,n⟩:=j7.mp k;cases n;exact⟨u,r,d,o,m.all c,l.all c,p _ H (Same.refl H) K3⟩
theorem ym(j:∀q,ra=some q->PE X a (dE X.D E δ q))(i:∀q,rb=some q->PE X b (dE X.D E δ q))
  (h:(Re.thn ra λ x _=>Re.thn rb λ y _=>(cmpD op x y).map λ k=>.ok (.bl k) .strong)=some re):∃e d,PE X a e/\PE X b d/\∀c H Q,dE X.D E δ re c H Q->tOp (cmpR X op) e d c H Q:=
 oy j i h λ O W H0 H x y Q u cx r cy c k f m l p=>by obtain⟨g,o,n⟩:=j7.mp k;cases n;exact⟨u,r,g,o,m.all f,l.all f,p _ H (Same.refl H) K3⟩
theorem iZ(b:∀d c,re=.ok d c->∃k,d=.bl k)(h:tstD (some re)=some r)(q:dT X.D E δ r σ H Q):dE X.D E δ re σ H (λ x a=>∃k,x=.bl k/\Q k a):=by
 obtain⟨O,W,R,p⟩:=q;cases re with
 | ex c=>cases h;exact⟨O,W,R,p⟩
 | ok d c=>
  obtain⟨k,rfl⟩:=b d c rfl;cases h;exact⟨O,W,R,λ v a s g=>⟨k,g.bl (R.hid.mono s),p a s⟩⟩
theorem yn(h:(Re.thn ra λ x _=>Re.thn rb λ y _=>(cmpD op x y).map λ k=>.ok (.bl k) .strong)=some re):∀d c,re=.ok d c->∃k,d=.bl k:=by
 intro d c e;subst e;cases ra with
 | none=>cases h
 | some q=>
  cases q with
  | ex c=>cases h
  | ok d c=>
   cases rb with
   | none=>cases h
   | some q=>
    cases q with
    | ex c=>cases h
    | ok d' c'=>
     obtain⟨k,_,e⟩:=j7.mp (h);cases e;exact⟨k,rfl⟩
theorem yo(d:X.A.units+64<cLine)(f:∀q,ra=some q->PE X a (dE X.D E δ q))(e:∀q,rb=some q->PE X b (dE X.D E δ q))(hs:D5 b=false)
  (h:tstD (Re.thn ra λ x _=>Re.thn rb λ y _=>(cmpD op x y).map λ k=>.ok (.bl k) .strong)=some r):PT X (.Compare a [op] [b] pos) (dT X.D E δ r):=by
 cases q:(Re.thn ra λ x _=>Re.thn rb λ y _=>(cmpD op x y).map λ k=>Re.ok _ .strong)with
 | none=>rw[q]at h;cases h
 | some re=>
  rw[q]at h;obtain⟨ta,tb,A,B,w⟩:=ym f e q;exact(lw (aF d) A B (iY hs)).weak λ c H Q z=>w c H _ (iZ (yn q) h z)
theorem oO{a:CmpOp}(h:D5 c=false):lastMarks [op,a] [b,c]=false:=by
 show behindInMarks a c=false;exact iY h
theorem oP(N:∀q,ra=some q->PE X a (dE X.D E δ q))(M:∀q,rb=some q->PE X b (dE X.D E δ q))(L:∀q,rc=some q->PE X c (dE X.D E δ q))
  (h:(Re.thn ra λ x _=>Re.thn rb λ y _=>match cmpD op x y with
   | none=>none
   | some false=>some (.ok (.bl false) .strong)
   | some true=>Re.thn rc λ z _=>(cmpD g y z).map λ k=>.ok (.bl k) .strong)=some re):∃J tb I,PE X a J/\PE X b tb/\PE X c I/\(∀σ H Q,dE X.D E δ re σ H Q->gA (cmpR X op) (cmpR X g) J tb I σ H Q)/\∀d cl,re=.ok d cl->∃k,d=.bl k:=by
 cases l:ra with
 | none=>rw[l]at h;cases h
 | some q=>
  rw[l]at h;have A:=N q l;cases q with
  | ex c=>cases h;exact⟨_,_,_,A,E6,E6,λ σ H Q ⟨O,W,R,p⟩=>⟨O,W,R,p⟩,λ d cl z=>nomatch z⟩
  | ok v cx=>
   cases j:rb with
   | none=>rw[j]at h;cases h
   | some q=>
    rw[j]at h;have B:=M q j;cases q with
    | ex c=>cases h;exact⟨_,_,_,A,B,E6,λ σ H Q ⟨O,W,R,p⟩=>⟨O,W,R,λ x w s1 o=>⟨O,W,R.mono s1,λ F C m s=>p F C m (s1.trans s)⟩⟩,λ d cl z=>nomatch z⟩
    | ok r cy=>
     have f:(match(generalizing:=false) cmpD op v r with
      | none=>none
      | some false=>some (Re.ok (.bl false) .strong)
      | some true=>Re.thn rc λ z _=>(cmpD g r z).map λ k=>.ok (.bl k) .strong)=some re:=h
     split at f
     ·cases f
     ·rename_i u;cases f;exact⟨_,_,_,A,B,E6,λ σ H Q ⟨O,W,R,p⟩=>⟨O,W,R,λ x w s1 o=>⟨O,W,R.mono s1,λ y K e n=>
       ⟨v,r,false,u,(o.mono e).all ((R.hid.mono s1).mono e),n.all ((R.mono s1).hid.mono e),false,rfl,by rw[i4 B6];exact p _ _ (s1.trans e) K3⟩⟩⟩,λ d cl z=>by cases z;exact⟨_,rfl⟩⟩
     ·rename_i u;cases i:rc with
      | none=>rw[i]at f;cases f
      | some q=>
       rw[i]at f;have C:=L q i;cases q with
       | ex c'=>
        cases f;exact⟨_,_,_,A,B,C,λ σ H Q ⟨O,W,R,p⟩=>⟨O,W,R,λ x w s1 o=>⟨O,W,R.mono s1,λ y K e n=>
         ⟨v,r,true,u,(o.mono e).all ((R.hid.mono s1).mono e),n.all ((R.mono s1).hid.mono e),true,rfl,by rw[i3 rfl];exact⟨O,W,(R.mono s1).mono e,λ F C m s=>p F C m (s1.trans (e.trans s))⟩⟩⟩⟩,λ d cl z=>nomatch z⟩
       | ok Y cz=>
        obtain⟨k,U,S⟩:=j7.mp (f);cases S;exact⟨_,_,_,A,B,C,λ σ H Q ⟨O,W,R,p⟩=>⟨O,W,R,λ x w s1 o=>⟨O,W,R.mono s1,λ y K e n=>
         ⟨v,r,true,u,(o.mono e).all ((R.hid.mono s1).mono e),n.all ((R.mono s1).hid.mono e),true,rfl,by
          rw[i3 rfl];exact⟨O,W,(R.mono s1).mono e,λ z H3 t P=>⟨r,Y,k,U,(n.mono t).all (((R.mono s1).hid.mono e).mono t),P.all (((R.mono s1).mono e).hid.mono t),p _ _ (s1.trans (e.trans t)) K3⟩⟩⟩⟩⟩,λ d cl z=>by cases z;exact⟨_,rfl⟩⟩
theorem yp(e:X.A.units+64<cLine)(j:∀q,ra=some q->PE X a (dE X.D E δ q))(i:∀q,rb=some q->PE X b (dE X.D E δ q))(g:∀q,rc=some q->PE X c (dE X.D E δ q))(f:D5 c=false)
  (h:(Re.thn ra λ x _=>Re.thn rb λ y _=>match cmpD op x y with
   | none=>none
   | some false=>some (.ok (.bl false) .strong)
   | some true=>Re.thn rc λ z _=>(cmpD d y z).map λ k=>.ok (.bl k) .strong)=some re):PE X (.Compare a [op,d] [b,c] pos) (dE X.D E δ re):=by
 obtain⟨ta,tb,tc,A,B,C,w,_⟩:=oP j i g h;exact(sy (aF e) (aF e) A B C (oO f)).weak w
theorem yq(f:X.A.units+64<cLine)(m:∀q,ra=some q->PE X a (dE X.D E δ q))(l:∀q,rb=some q->PE X b (dE X.D E δ q))(j:∀q,rc=some q->PE X c (dE X.D E δ q))(i:D5 c=false)
  (h:tstD (Re.thn ra λ x _=>Re.thn rb λ y _=>match cmpD op x y with
   | none=>none
   | some false=>some (.ok (.bl false) .strong)
   | some true=>Re.thn rc λ z _=>(cmpD d y z).map λ k=>.ok (.bl k) .strong)=some r):PT X (.Compare a [op,d] [b,c] pos) (dT X.D E δ r):=by
 cases q:(Re.thn ra λ x _=>Re.thn rb λ y _=>match cmpD op x y with
   | none=>none
   | some false=>some _
   | some true=>Re.thn rc λ z _=>(cmpD d y z).map λ k=>.ok _ .strong)with
 | none=>rw[q]at h;cases h
 | some re=>
  rw[q]at h;obtain⟨ta,tb,tc,A,B,C,w,e⟩:=oP m l j q;exact(sA (aF f) (aF f) A B C (oO i)).weak λ g H Q z=>w g H _ (iZ e h z)
end
theorem aG(h:G1 d=some k)(r:Rep D H d v):TruV D.K v H k:=by
 cases d with
 | non=>cases h;rw[R7.mp r];rfl
 | bl b=>cases h;rw[R6.mp r];rfl
 | int i=>cases h;rw[C5.mp r];rfl
 | str x=>
  cases h;obtain⟨f,e⟩:=x0.mp r;rw[f];refine⟨e,?_⟩;show _=(((x.cps.size:Nat):Int) != 0);cases x.cps.size with
  | zero=>rfl
  | succ n=>simp only[bne,Nat.add_eq_zero_iff];simp;omega
 | tup j=>
  cases h;obtain⟨a,c,f,e,g⟩:=y7.mp r;rw[f];refine .inr (.inl ⟨c,e,?_⟩);have:=g.length;cases c<;>cases j<;>first | rfl | cases this
 | lst j=>
  cases h;obtain⟨a,c,f,e,g⟩:=A2.mp r;rw[f];refine .inl ⟨c,SqL.of e,?_⟩;have:=g.length;cases c<;>cases j<;>first | rfl | cases this
 | dct _ _=>cases h
 | exc _=>cases h
 | fn _=>cases h
 | lam _ _=>cases h
 | scr _=>cases h
theorem yt(i:∀q,ra=some q->PE X e (dE X.D E δ q))(f:∀a,isTrue e X.env a=(do let v ←a;standAt e.pos;holding [v] (truthy v)))(h:tstD ra=some r):PT X e (dT X.D E δ r):=by
 cases b:ra with
 | none=>rw[b]at h;cases h
 | some q=>
  rw[b]at h;have A:=i q b;cases q with
  | ex c=>cases h;exact(ly A f).weak λ g H Q ⟨O,W,R,p⟩=>⟨O,W,R,p⟩
  | ok d cl=>
   obtain⟨k,m,l⟩:=j7.mp (h);cases l;exact(ly A f).weak λ g H Q ⟨O,W,R,p⟩=>⟨O,W,R,λ x n s1 j=>⟨k,aG m (j.all (R.hid.mono s1)),p n s1⟩⟩
theorem yu(j:PE X a f):PE X (.UnaryOp .Not a pos) (tUn (λ x H Q=>∃k,TruV X.K x H k/\Q (.bl (!k)) H) f):=by
 intro c s e H Q I h;refine UnaryOp_ (thn (j c s e H _ I h) λ v s1 ⟨x,g,o,i,d⟩=>?_);obtain⟨k,t,d⟩:=d;exact not_of (thn (dH c s1 e g x v (λ b q=>b=k/\q=g) o i ⟨k,t,rfl,rfl⟩) λ b s2 ⟨p,n,m,l⟩=>by
  subst m l;exact⟨.bl (!b),p,n,rfl,d⟩)
theorem yv(d:∀q,ra=some q->PE X a (dE X.D E δ q))(h:(Re.thn ra λ x _=>(G1 x).map λ k=>.ok (.bl (!k)) .strong)=some re):PE X (.UnaryOp .Not a pos) (dE X.D E δ re):=
 ox (λ _=>yu) d h λ O W H0 H x Q dx cx σ k c e p=>by obtain⟨b,g,f⟩:=j7.mp k;cases f;exact⟨b,aG g (e.all c),p _ H (Same.refl H) K3⟩
theorem ja{X:Cx}{a b:EI}{es:ge EI}{pos:Pos}{ta tb:TE}(ha:PE X a ta)(hb:PE X (.BoolOp .And (b::es) pos) tb):PE X (.BoolOp .And (a::b::es) pos) (λ σ H Q=>ta σ H λ x H1=>∃k,TruV X.K x H1 k/\if k=true then tb σ H1 Q else Q x H1):=by
 intro pins s σ H Q I h;refine BoolOp_and (thn (ha pins s σ H _ I h) λ v s1 ⟨x,H1,I1,r1,q1⟩=>?_);obtain⟨k,t,q1⟩:=q1;refine thn (dH pins s1 σ H1 x v (λ b H'=>b=k/\H'=H1) I1 r1 ⟨k,t,rfl,rfl⟩) λ c s2 ⟨H2,I2,e1,e2⟩=>?_
 subst e1 e2;cases c with
 | true=>exact hb pins s2 σ H2 Q I2 q1
 | false=>exact⟨x,H2,I2,r1,q1⟩
theorem jb(p:PE X a i)(o:PE X (.BoolOp .Or (b::es) pos) tb):PE X (.BoolOp .Or (a::b::es) pos) (λ e H Q=>i e H λ x f=>∃k,TruV X.K x f k/\if k=true then Q x f else tb e f Q):=by
 intro d s e H Q I h;refine BoolOp_or (thn (p d s e H _ I h) λ v s1 ⟨x,f,u,j,g⟩=>?_);obtain⟨k,t,g⟩:=g;refine thn (dH d s1 e f x v (λ b w=>b=k/\w=f) u j ⟨k,t,rfl,rfl⟩) λ c n ⟨m,l,r,q⟩=>?_
 subst r q;cases c with
 | false=>exact o d n e m Q l g
 | true=>exact⟨x,m,l,j,g⟩
theorem yw(l:∀q,ra=some q->PE X a (dE X.D E δ q))(k:∀q,rb=some q->PE X (.BoolOp .And (b::es) pos) (dE X.D E δ q))(h:(Re.thn ra λ x c=>andD x c rb)=some re):PE X (.BoolOp .And (a::b::es) pos) (dE X.D E δ re):=by
 cases e:ra with
 | none=>rw[e]at h;cases h
 | some q=>
  rw[e]at h;have A:=l q e;cases q with
  | ex c=>cases h;exact(ja A E6).weak λ i H Q ⟨O,W,R,p⟩=>⟨O,W,R,p⟩
  | ok d cl=>
   have f:andD d cl rb=some re:=h;unfold andD at f;split at f
   ·cases f
   ·rename_i t;exact(ja A (k re f)).weak λ i H Q ⟨O,W,R,p⟩=>⟨O,W,R,λ x j s1 g=>⟨true,aG t (g.all (R.hid.mono s1)),iteT ⟨O,W,R.mono s1,p.later s1 s1⟩⟩⟩
   ·rename_i t;cases f;exact(ja A E6).weak λ i H Q ⟨O,W,R,p⟩=>⟨O,W,R,λ x j s1 g=>⟨false,aG t (g.all (R.hid.mono s1)),iteF (p _ j s1 g)⟩⟩
theorem yx(n:∀q,j=some q->PE X a (dE X.D E δ q))(m:∀q,rb=some q->PE X (.BoolOp .Or (b::es) pos) (dE X.D E δ q))(h:(Re.thn j λ x c=>orD x c rb)=some g):PE X (.BoolOp .Or (a::b::es) pos) (dE X.D E δ g):=by
 cases e:j with
 | none=>rw[e]at h;cases h
 | some q=>
  rw[e]at h;have A:=n q e;cases q with
  | ex c=>cases h;exact(jb A E6).weak λ k H Q ⟨O,W,R,p⟩=>⟨O,W,R,p⟩
  | ok d cl=>
   have f:orD d cl rb=some g:=h;unfold orD at f;split at f
   ·cases f
   ·rename_i t;cases f;exact(jb A E6).weak λ k H Q ⟨O,W,R,p⟩=>⟨O,W,R,λ x l s1 i=>⟨true,aG t (i.all (R.hid.mono s1)),iteT (p _ l s1 i)⟩⟩
   ·rename_i t;exact(jb A (m g f)).weak λ k H Q ⟨O,W,R,p⟩=>⟨O,W,R,λ x l s1 i=>⟨false,aG t (i.all (R.hid.mono s1)),iteF ⟨O,W,R.mono s1,p.later s1 s1⟩⟩⟩
theorem jc(h:tstD (Re.thn ra k)=some r):(ra=none/\False)\/(∃c,ra=some (.ex c)/\r=.ex c)\/∃d c,ra=some (.ok d c)/\tstD (k d c)=some r:=by
 cases a:ra with
 | none=>rw[a]at h;cases h
 | some q=>
  rw[a]at h;cases q with
  | ex c=>cases h;exact .inr (.inl ⟨c,rfl,rfl⟩)
  | ok d c=>exact .inr (.inr ⟨d,c,rfl,h⟩)
theorem oQ(h:tstD (some (.ok d c))=some r):∃k,G1 d=some k/\r=.ok k:=by
 obtain⟨k,b,a⟩:=j7.mp (h);exact⟨k,b,a.symm⟩
theorem yy(b:∀q,tstD ra=some q->PT X a (dT X.D E δ q))(h:tstD (Re.thn ra λ x _=>(G1 x).map λ k=>.ok (.bl (!k)) .strong)=some r):PT X (.UnaryOp .Not a pos) (dT X.D E δ r):=by
 rcases jc h with⟨_,z⟩ | ⟨c,e1,e2⟩ | ⟨d,c,e1,e2⟩
 ·exact z.elim
 ·subst e1 e2;exact(lg (b _ rfl)).weak λ e H Q ⟨O,W,R,p⟩=>⟨O,W,R,p⟩
 ·cases t:G1 d with
  | none=>rw[t]at e2;cases e2
  | some k=>
   rw[t]at e2;cases e2;have A:=b _ (by rw[e1];show(G1 d).map Rt.ok=_;rw[t];rfl);exact(lg A).weak λ e H Q ⟨O,W,R,p⟩=>⟨O,W,R,λ f s1=>p f s1⟩
theorem yz(g:∀q,tstD ra=some q->PT X a (dT X.D E δ q))(j:∀q,tstD rb=some q->PW X (.BoolOp .And (b::es) pos) (dT X.D E δ q))(h:tstD (Re.thn ra λ x c=>andD x c rb)=some r):PW X (.BoolOp .And (a::b::es) pos) (dT X.D E δ r):=by
 rcases jc h with⟨_,z⟩ | ⟨c,e1,e2⟩ | ⟨d,c,e1,e2⟩
 ·exact z.elim
 ·subst e1 e2;exact(gq (g _ rfl) eO).weak λ e H Q ⟨O,W,R,p⟩=>⟨O,W,R,p⟩
 ·unfold andD at e2;cases t:G1 d with
  | none=>rw[t]at e2;cases e2
  | some k=>
   rw[t]at e2;have A:=g _ (by rw[e1];show(G1 d).map Rt.ok=_;rw[t];rfl);cases k with
   | true=>exact(gq A (j r e2)).weak λ e H Q ⟨O,W,R,p⟩=>⟨O,W,R,λ i s1=>iteT ⟨O,W,R.mono s1,p.later s1⟩⟩
   | false=>
    obtain⟨k,f,rfl⟩:=oQ e2;rw[t]at f;cases f;exact(gq A eO).weak λ e H Q ⟨O,W,R,p⟩=>⟨O,W,R,λ i s1=>iteF (p i s1)⟩
theorem yA(g:∀q,tstD ra=some q->PT X a (dT X.D E δ q))(j:∀q,tstD rb=some q->PW X (.BoolOp .Or (b::es) pos) (dT X.D E δ q))(h:tstD (Re.thn ra λ x c=>orD x c rb)=some r):PW X (.BoolOp .Or (a::b::es) pos) (dT X.D E δ r):=by
 rcases jc h with⟨_,z⟩ | ⟨c,e1,e2⟩ | ⟨d,c,e1,e2⟩
 ·exact z.elim
 ·subst e1 e2;exact(gr (g _ rfl) eO).weak λ e H Q ⟨O,W,R,p⟩=>⟨O,W,R,p⟩
 ·unfold orD at e2;cases t:G1 d with
  | none=>rw[t]at e2;cases e2
  | some k=>
   rw[t]at e2;have A:=g _ (by rw[e1];show(G1 d).map Rt.ok=_;rw[t];rfl);cases k with
   | false=>exact(gr A (j r e2)).weak λ e H Q ⟨O,W,R,p⟩=>⟨O,W,R,λ i s1=>iteF ⟨O,W,R.mono s1,p.later s1⟩⟩
   | true=>
    obtain⟨k,f,rfl⟩:=oQ e2;rw[t]at f;cases f;exact(gr A eO).weak λ e H Q ⟨O,W,R,p⟩=>⟨O,W,R,λ i s1=>iteT (p i s1)⟩
theorem jd(l:PT X c g)(n:PT X a t)(m:PT X b u):PT X (.IfExp c a b pos) (λ e H Q=>g e H λ k f=>if k=true then t e f Q else u e f Q):=by
 intro d s e H Q I h;refine isTrue_IfExp (thn (l d s e H _ I h) λ k s1 ⟨f,j,i⟩=>?_);cases k with
 | true=>exact n d s1 e f Q j i
 | false=>exact m d s1 e f Q j i
theorem yB(j:∀q,e=some q->PT X c (dT X.D E δ q))(m:∀q,tstD i=some q->PT X a (dT X.D E δ q))(l:∀q,tstD g=some q->PT X b (dT X.D E δ q))(h:tstD (Rt.thn e λ k=>if k then i else g)=some r):PT X (.IfExp c a b pos) (dT X.D E δ r):=by
 cases d:e with
 | none=>rw[d]at h;cases h
 | some q=>
  rw[d]at h;have C:=j q d;cases q with
  | ex c=>cases h;exact(jd C eP eP).weak λ f H Q ⟨O,W,R,p⟩=>⟨O,W,R,p⟩
  | ok k=>
   cases k with
   | true=>exact(jd C (m r h) eP).weak λ f H Q ⟨O,W,R,p⟩=>⟨O,W,R,λ n s1=>iteT ⟨O,W,R.mono s1,p.later s1⟩⟩
   | false=>exact(jd C eP (l r h)).weak λ f H Q ⟨O,W,R,p⟩=>⟨O,W,R,λ n s1=>iteF ⟨O,W,R.mono s1,p.later s1⟩⟩
theorem yC(m:∀q,f=some q->PT X c (dT X.D E δ q))(o:∀q,l=some q->PE X a (dE X.D E δ q))(n:∀q,j=some q->PE X b (dE X.D E δ q))
  (h:(Rt.thn f λ k=>if k then l else j)=some e):PE X (.IfExp c a b pos) (dE X.D E δ e):=by
 cases d:f with
 | none=>rw[d]at h;cases h
 | some q=>
  rw[d]at h;have C:=m q d;cases q with
  | ex c=>cases h;exact(gu C E6 E6).weak λ i H Q ⟨O,W,R,p⟩=>⟨O,W,R,p⟩
  | ok k=>
   cases k with
   | true=>
    have g:=h;exact(gu C (o e g) E6).weak λ i H Q ⟨O,W,R,p⟩=>⟨O,W,R,λ r s1=>iteT ⟨O,W,R.mono s1,p.later s1 s1⟩⟩
   | false=>
    have g:=h;exact(gu C E6 (n e g)).weak λ i H Q ⟨O,W,R,p⟩=>⟨O,W,R,λ r s1=>iteF ⟨O,W,R.mono s1,p.later s1 s1⟩⟩
theorem j9(h:j3 e=false):starEach (e::es) env=(false,eval e env)::starEach es env:=by
 cases e<;>first | rfl | cases h
theorem yD:PA X [] (dA X.D E δ (.ok [])):=D0.weak λ σ H Q ⟨O,W,R,p⟩=>p [] H (Same.refl H) .nil
theorem yE{X:Cx}{E:St->XK}{δ:ge Sv}{e:EI}{es:ge EI}{ra:EC Re}{rs:EC Rs}{q:Rs}(hs:j3 e=false)(ha:∀q,ra=some q->PE X e (dE X.D E δ q))(hb:∀q,rs=some q->PA X es (dA X.D E δ q))
  (h:(match(generalizing:=false) ra with | none=>none | some (.ex c)=>some (Rs.ex c) | some (.ok d c)=>(match(generalizing:=false) rs with | none=>none | some (.ex c)=>some (.ex c) | some (.ok l)=>some (.ok ((d,c)::l))))=some q):PA X (e::es) (dA X.D E δ q):=by
 cases hra:ra with
 | none=>rw[hra]at h;cases h
 | some z=>
  rw[hra]at h;have A:=ha z hra;cases z with
  | ex c=>cases h;exact(x9 A xu (j9 hs)).weak λ σ H Q ⟨O,W,R,p⟩=>⟨O,W,R,p⟩
  | ok d cl=>
   cases hrs:rs with
   | none=>rw[hrs]at h;cases h
   | some y=>
    rw[hrs]at h;have B:=hb y hrs;cases y with
    | ex c=>cases h;exact(x9 A B (j9 hs)).weak λ σ H Q ⟨O,W,R,p⟩=>⟨O,W,R,λ x H1 s1 g1=>⟨O,W,R.mono s1,λ H' C m s=>p H' C m (s1.trans s)⟩⟩
    | ok l=>
     cases h;exact(x9 A B (j9 hs)).weak λ σ H Q ⟨O,W,R,p⟩=>⟨O,W,R,λ x H1 s1 g1=>⟨O,W,R.mono s1,λ vs H2 s2 g2=>p _ H2 (s1.trans s2) (.cons (g1.mono s2) (g2.since s1))⟩⟩
theorem yF{X:Cx}{E:St->XK}{δ:ge Sv}{es:ge EI}{pos:Pos}{re:Re}{rs:EC Rs}(ha:∀q,rs=some q->PA X es (dA X.D E δ q))(h:(Rs.thn rs λ l=>if l.length<=k9 then some (.ok (.lst (l.map (·.1))) (if stros l then .fresh else .weak))else none)=some re):PE X (.List es pos) (dE X.D E δ re):=
 bW (r:=λ vs H Q=>vs.length<=sizeLine/\∀p,H p=none->Q (.ref p) (upd H p (.lst vs))) (λ _=>sR) ha h λ O W H0 H vs Q l σ k hd g p=>by
  split at k
  ·rename_i m;cases k;refine⟨by rw[g.length];exact O8 m,λ q hq=>p _ _ (n0 hq) ?_⟩;by_cases z:stros l=true
   ·rw[i3 z];exact K4 hd hq (g.stros hd z)
   ·rw[i4 z];exact iP hd hq (g.repL hd)
  ·cases k
theorem yG{X:Cx}{E:St->XK}{δ:ge Sv}{es:ge EI}{pos:Pos}{re:Re}{rs:EC Rs}{x1:Nat}(ha:∀q,rs=some q->PA X es (dA X.D E δ q))(h:(Rs.thn rs λ l=>if l.length<=k9 then some (.ok (.tup (l.map (·.1))) (if stros l then .strong else .weak))else none)=some re):PE X (.Tuple es x1 pos) (dE X.D E δ re):=
 bW (r:=λ vs H Q=>vs.length<=sizeLine/\∀p,H p=none->Q (.ref p) (upd H p (.tup vs))) (λ _=>bo) ha h λ O W H0 H vs Q l σ k hd g p=>by
  split at k
  ·rename_i m;cases k;refine⟨by rw[g.length];exact O8 m,λ q hq=>p _ _ (n0 hq) ?_⟩;by_cases z:stros l=true
   ·rw[i3 z];exact aC hd hq (g.stros hd z)
   ·rw[i4 z];exact iQ hd hq (g.repL hd)
  ·cases k
theorem je:∀a:ge DV,toPs a=a.map toP
 | []=>by rw[toPs];rfl
 | d::r=>by rw[toPs,je r];rfl
theorem jf:∀{a:ge DV} {j:Nat},N7 y a=some j->∃h:j<a.length,deq a[j] y=true/\∀m (b:m<a.length),m<j->deq a[m] y=false
 | [],j,h=>by cases h
 | d::r,j,h=>by
  unfold N7 at h;split at h
  ·rename_i e;cases h;exact⟨Nat.succ_pos _,e,λ m _ b=>absurd b (Nat.not_lt_zero _)⟩
  ·rename_i e;obtain⟨k,l,rfl⟩:=j7.mp h;obtain⟨f,i,g⟩:=jf l;refine⟨Nat.succ_lt_succ f,i,λ m b c=>?_⟩;cases m with
   | zero=>exact Bool.eq_false_iff.mpr e
   | succ m=>exact g m _ (Nat.lt_of_succ_lt_succ c)
theorem oR:∀{ds:ge DV} {m:Nat} (h:m<ds.length),DV.plains n ds=true->(ds[m]).plain n=true
 | d::r,0,_,p=>by simp[DV.plains,g9]at p;exact p.1
 | d::r,m+1,h,p=>by simp[DV.plains,g9]at p;exact oR (ds:=r) _ p.2
section
variable {X:Cx} {pins:ge (EG×Obj)} {σ:St} {H:Hp} {s:EF} {E:St->XK} {δ:ge Sv} {o e:EI} {to te:TE} {apos cpos:Pos} {ra rb:EC Re} {re:Re}
theorem oS(p:y.plain 60=true)(q:DV.plains 60 ds=true)(h:N7 y ds=some j) :
  ∃h:j<(toPs ds).length,PyData.eqv (toPs ds)[j] (toP y)=true/\∀m (c:m<(toPs ds).length),m<j->PyData.eqv (toPs ds)[m] (toP y)=false:=by
 obtain⟨f,e,a⟩:=jf h;have hl:(toPs ds).length=ds.length:=by rw[je,n8]
 have d:∀m _ (a:m<ds.length),PyData.eqv (toPs ds)[m] _=deq ds[m] y:=λ m e a=>by
  rw[←bY 60 60 ds[m] y (oR a q) p]
  congr 1
  simp[je,List.getElem_map]
 exact⟨by omega,(d j (by omega) f).trans e,λ m c b=>(d m c (by omega)).trans (a m (by omega) b)⟩
theorem yH(hu:X.A.units+64<cLine)(I:Inv X pins σ H s)(e:RelV x v)(d:RelV y u)(g:Rep X.D H (.lst ds) x)(f:Rep X.D H a y)(p:a.plain 60=true)(q:DV.plains 60 ds=true)(hl:ds.length<=k9)
  (h:N7 a ds=some j) (k:Q (.int j) H):wpAny (model X.prog X.w) X.A (call (.builtin "list.index") [v,u]) (EP X pins σ Q) X.xe s:=by
 obtain⟨as,i⟩:=D8 I 60 p f d;obtain⟨bs,b⟩:=D8 I 61 (by simpa[DV.plain]using q) g e;rw[toP]at b;have c:=V4 60 _ p;have l3:=c.2;obtain⟨m,o,n⟩:=oS p q h;have l:=(jf h).1;exact SeqAt.index_list_reads b i (R8 60 ds q).1 c.1 (by omega) m (by have:k9=1000000:=rfl;omega) o n ⟨.int j,H,I.tok _,⟨_,rfl⟩,k⟩
theorem yI(hu:X.A.units+64<cLine)(I:Inv X pins σ H s)(e:RelV x v)(d:RelV y u)(g:Rep X.D H (.tup ds) x)(f:Rep X.D H a y)(p:a.plain 60=true)(q:DV.plains 60 ds=true)
  (h:N7 a ds=some j) (k:Q (.int j) H):wpAny (model X.prog X.w) X.A (call (.builtin "tuple.index") [v,u]) (EP X pins σ Q) X.xe s:=by
 obtain⟨as,i⟩:=D8 I 60 p f d;obtain⟨bs,b⟩:=D8 I 61 (by simpa[DV.plain]using q) g e;rw[toP]at b;have c:=V4 60 _ p;have l3:=c.2;obtain⟨l,n,m⟩:=oS p q h;exact SeqAt.index_tuple_reads b i (R8 60 ds q).1 c.1 (by omega) l n m ⟨.int j,H,I.tok _,⟨_,rfl⟩,k⟩
def tIdx(X:Cx)(to te:TE):TE:=λ σ H Q=>to σ H λ x H1=>(∃ds,Rep X.D H1 (.lst ds) x/\te σ H1 λ y H2=>∃ds dy j,Rep X.D H2 (.lst ds) x/\Rep X.D H2 dy y/\dy.plain 60=true/\DV.plains 60 ds=true/\ds.length<=k9/\N7 dy ds=some j/\Q (.int j) H2) \/
 (∃ds,Rep X.D H1 (.tup ds) x/\te σ H1 λ y H2=>∃ds dy j,Rep X.D H2 (.tup ds) x/\Rep X.D H2 dy y/\dy.plain 60=true/\DV.plains 60 ds=true/\N7 dy ds=some j/\Q (.int j) H2)
theorem oU(M:X.A.units+64<cLine)(Z:PE X o to)(N:PE X e te)(g:attributeBase o "index" X.env (eval o X.env)=eval o X.env)(f:(apos.endLine==cpos.line)=true)(hs:starEach [e] X.env=[(false,eval e X.env)]) :
  PE X (.Call (.Attribute o "index" apos) [e] [] cpos) (tIdx X to te):=by
 intro d s m H Q I h;refine ky g (by rw[hs];rfl) f rfl (thn (Z d s m H _ I h) λ v s1 ⟨x,O,l,F,i⟩=>?_);rcases i with⟨ds,C,i⟩ | ⟨ds,C,i⟩
 ·obtain⟨a,P,w,r,e3⟩:=A2.mp C;subst w;cases(F);obtain⟨Y,_,J,_⟩:=l.list (SqL.of r);refine⟨"list","list.index",kh,ka,PySem.F.type_list_index,J.isList.typeIs,λ b q=>?_,?_⟩
  ·cases q;obtain⟨o,n,e,c,hd,_⟩:=J;exact⟨o,e,hd⟩
  ·rw[hs];refine cI rfl (aS (cP (thn (N d s1 m O _ l i) λ u R ⟨y,H2,E,p,z,dy,j,B,A,p1,p2,p3,S,k⟩=>cR ?_)));exact yH M E (show RelV (.ref a) _ from rfl) p B A p1 p2 p3 S k
 ·obtain⟨a,P,w,r,e3⟩:=y7.mp C;subst w;cases(F);obtain⟨K,L,W,U⟩:=l.tupleN r;refine⟨"tuple","tuple.index",PySem.F.plainAttrs_tuple,jY,PySem.F.type_tuple_index,⟨K,L,W⟩,λ b q=>?_,?_⟩
  ·cases q;exact⟨K,L,U⟩
  ·rw[hs];refine cI rfl (aS (cP (thn (N d s1 m O _ l i) λ u R ⟨y,H2,E,p,z,dy,j,B,A,p1,p2,p3,k⟩=>cR ?_)));exact yI M E (show RelV (.ref a) _ from rfl) p B A p1 p2 p3 k
theorem yJ(N:X.A.units+64<cLine)(U:∀q,ra=some q->PE X o (dE X.D E δ q))(S:∀q,rb=some q->PE X e (dE X.D E δ q))(b:attributeBase o "index" X.env (eval o X.env)=eval o X.env)(a:(apos.endLine==cpos.line)=true)(hs:starEach [e] X.env=[(false,eval e X.env)])
  (h:(Re.thn ra λ x _=>if seqB x then Re.thn rb λ y _=>(idxD x y).map λ d=>.ok d .strong else none)=some re):PE X (.Call (.Attribute o "index" apos) [e] [] cpos) (dE X.D E δ re):=by
 cases n:ra with
 | none=>rw[n]at h;cases h
 | some q=>
  rw[n]at h;have A:=U q n;cases q with
  | ex c=>
   cases h;exact(oU N A E6 b a hs).weak λ w H Q ⟨O,W,R,p⟩=>⟨O,W,R,p⟩
  | ok v cx=>
   have F:(if seqB v then Re.thn rb λ y _=>(idxD v y).map λ d=>Re.ok d .strong else none)=some re:=h;have r:seqB v=true:=by
    cases z:seqB v with
    | true=>rfl
    | false=>rw[z]at F;cases F
   rw[i3 r]at F;have u:=F;cases l:rb with
   | none=>rw[l]at u;cases u
   | some q=>
    rw[l]at u;have B:=S q l;have C:=oU N A B b a hs (apos:=apos) (cpos:=cpos);cases q with
    | ex c=>
     cases u;cases v with
     | lst k=>exact C.weak λ w H Q ⟨O,W,R,p⟩=>⟨O,W,R,λ x L s1 i=>.inl ⟨k,i.all (R.hid.mono s1),O,W,R.mono s1,λ M C m s=>p M C m (s1.trans s)⟩⟩
     | tup k=>exact C.weak λ w H Q ⟨O,W,R,p⟩=>⟨O,W,R,λ x L s1 i=>.inr ⟨k,i.all (R.hid.mono s1),O,W,R.mono s1,λ M C m s=>p M C m (s1.trans s)⟩⟩
     | _=>cases r
    | ok P cy=>
     obtain⟨d,g,Y⟩:=j7.mp u;subst Y;unfold idxD at g;split at g
     ·rename_i k;split at g
      ·rename_i m;obtain⟨j,J,rfl⟩:=j7.mp g;rw[g9,g9,J0]at m;exact C.weak λ w H Q ⟨O,W,R,p⟩=>⟨O,W,R,λ x L s1 i=>.inl ⟨k,i.all (R.hid.mono s1),O,W,R.mono s1,λ y K f I=>
        ⟨k,P,j,(i.mono f).all ((R.hid.mono s1).mono f),(I.since s1).all ((R.hid.mono s1).mono f),m.1.1,m.1.2,m.2,J,p _ K (s1.trans f) x4⟩⟩⟩
      ·cases g
     ·rename_i k;split at g
      ·rename_i m;obtain⟨j,J,rfl⟩:=j7.mp g;rw[g9,g9,J0]at m;exact C.weak λ w H Q ⟨O,W,R,p⟩=>⟨O,W,R,λ x L s1 i=>.inr ⟨k,i.all (R.hid.mono s1),O,W,R.mono s1,λ y K f I=>
        ⟨k,P,j,(i.mono f).all ((R.hid.mono s1).mono f),(I.since s1).all ((R.hid.mono s1).mono f),m.1.1,m.1.2,J,p _ K (s1.trans f) x4⟩⟩⟩
      ·cases g
     ·cases g
end
def GotR(D:Dm)(O:ge EG)(H0 H:Hp)(d:DV)(fr:Bool)(v:V):Prop:=match fr with
 | false=>Rep D (L2.wo O H) d v
 | true=>∃p xs ds,v=.ref p/\d=.lst ds/\H0 p=none/\H p=some (.lst xs)/\RepL D (L2.wo (p::O) H) ds xs
def GotT(D:Dm)(O:ge EG)(H0 H:Hp)(d:DV)(v:V):Prop:=∃ms:ge Int,∃t ts p xs ds es,v=.ref t/\d=.tup (ms.map DV.int ++ .lst ds::es)/\SqT D.K (L2.wo O H) t (ms.map V.int ++ .ref p::ts)/\H0 p=none/\H p=some (.lst xs)/\RepL D (L2.wo (p::O) H) ds xs/\RepL D (L2.wo (p::O) H) es ts
def spF(D:Dm)(n:Nat)(f:ge DV->EC Ou):Sp:=λ vs H Q E=>∃O ds o,Hdn O H/\ds.length=n/\RepL D (L2.wo O H) ds vs/\f ds=some o /\
 (match o with | .v d fr=>∀v H',Same H H'->GotR D O H H' d fr v->Q v H' | .t d=>∀v H',Same H H'->GotT D O H H' d v->Q v H' | .x c=>∀H' C,D.mg c=some C->Same H H'->E C none H')
theorem jg{ps:ge Str}{M:St->Hp->Prop}(L:∀u o,F f u=some o->u.length=ps.length)(C:∀q,rs=some q->PA X as (dA X.D E δ q)->PE X e0 (λ k H Q=>M k H/\dQ (spF X.D ps.length (F f)) [] E (dA X.D E δ q) k H Q))(r:∀k H O W,RSt X.D H k δ O W->M k H)(Z:∀q,rs=some q->PA X as (dA X.D E δ q))
  (h:(Rs.thn rs λ l=>L0 F f l)=some re):PE X e0 (dE X.D E δ re):=by
 cases w:rs with
 | none=>rw[w]at h;cases h
 | some q=>
  rw[w]at h;have A:=Z q w
  replace C:=C q w
  cases q with
  | ex c=>cases h;exact(C A).weak λ k H Q ⟨O,W,R,p⟩=>⟨r _ _ _ _ R,O,W,R,p⟩
  | ok l=>
   have J:L0 F f l=some re:=h;unfold L0 at J;split at J
   ·cases J
   ·rename_i c j;cases J;refine(C A).weak λ k H Q ⟨O,W,R,p⟩=>⟨r _ _ _ _ R,O,W,R,λ I K s1 x=>?_⟩
    have i:=R.hid.mono s1;show spF X.D ps.length (F f) _ K Q (E k);rw[v3];exact⟨O,_,_,i.hdO,L _ _ j,x.repL i,j,λ n C m s=>p n C m (s1.trans s)⟩
   ·rename_i ks u j;cases J;refine(C A).weak λ k H Q ⟨O,W,R,p⟩=>⟨r _ _ _ _ R,O,W,R,λ I K s1 x=>?_⟩
    have i:=R.hid.mono s1;show spF X.D ps.length (F f) _ K Q (E k);rw[v3];refine⟨O,_,_,i.hdO,L _ _ j,x.repL i,j,λ v n s g=>p v n (s1.trans s) ?_⟩;obtain⟨_,_,_,_,_,_,_,_,e,_⟩:=g;cases e
   ·rename_i d hne j;cases J;refine(C A).weak λ k H Q ⟨O,W,R,p⟩=>⟨r _ _ _ _ R,O,W,R,λ I K s1 x=>?_⟩
    have i:=R.hid.mono s1;show spF X.D ps.length (F f) _ K Q (E k);rw[v3];by_cases z:(l.all λ p=>p.2 == .strong||p.2 == .fresh)=true
    ·rw[i3 z]at p;refine⟨O++W,_,_,i.hdA,L _ _ j,x.strong i z,j,λ v n s g=>p v n (s1.trans s) ?_⟩;obtain⟨U,t,ts,q,B,u,es,f1,f2,f0,f3,f4,f5,f6⟩:=g;subst f2;exact⟨U,t,ts,q,B,u,es,f1,rfl,f0,s1.free f3,f4,f5,f6⟩
    ·rw[i4 z]at p;refine⟨O,_,_,i.hdO,L _ _ j,x.repL i,j,λ v n s g=>p v n (s1.trans s) ?_⟩;obtain⟨U,t,ts,q,B,u,es,f1,f2,f0,f3,f4,f5,f6⟩:=g;have hq:=λ z=>i.ot q (u8 _ z) (s1.free f3)
     have up:Same (L2.wo (q::O) n) _:=n9 λ b Y=>j6 _ Y;rw[f2];exact y7.mpr ⟨t,_,f1,f0,(V2 U).append (t7.mpr ⟨_,_,rfl,A2.mpr ⟨q,B,rfl,by rw[i7 hq];exact f4,f5.mono up⟩,f6.mono up⟩)⟩
   ·rename_i d fr j;cases J;refine(C A).weak λ k H Q ⟨O,W,R,p⟩=>⟨r _ _ _ _ R,O,W,R,λ I K s1 x=>?_⟩
    have i:=R.hid.mono s1;show spF X.D ps.length (F f) _ K Q (E k);rw[v3];by_cases z:(l.all λ p=>p.2 == .strong||p.2 == .fresh)=true
    ·rw[i3 z]at p;refine⟨O++W,_,_,i.hdA,L _ _ j,x.strong i z,j,λ v n s g=>p v n (s1.trans s) ?_⟩;cases fr with
     | false=>exact g
     | true=>
      obtain⟨q,B,u,j,e2,S,P,N⟩:=g;exact⟨q,B,u,j,e2,s1.free S,P,N⟩
    ·rw[i4 z]at p;refine⟨O,_,_,i.hdO,L _ _ j,x.repL i,j,λ v n s g=>p v n (s1.trans s) ?_⟩;cases fr with
     | false=>exact g
     | true=>
      obtain⟨q,B,u,u1,e2,S,P,N⟩:=g;subst e2;rw[Bool.true_and];cases y:imL (.lst u)with
      | true=>exact⟨q,B,u,u1,rfl,s1.free S,P,RepL.immut (λ a Z=>by obtain⟨o,e,m⟩:=i.wl a Z;exact⟨o,s _ _ (i.same _ _ e),m⟩) y N⟩
      | false=>
       exact A2.mpr ⟨q,B,u1,by rw[i7 (λ z=>i.ot q (u8 _ z) (s1.free S))];exact P,N.mono (n9 λ b Y=>j6 _ Y)⟩
theorem yK(fo:FnOk X.prog X.w X.K X.mg X.base (CXx X.prog X.w X.base) k fa fd ps (spF X.D ps.length (F f)))(j:∀c o,F f c=some o->c.length=ps.length)(i:Room k X.A)(r:Gl X x)(m:X.mg x=some (.ref fa))(n:PySem.W.keepIn X.K (.ref fa)=true)
  (u:u7 X.K fd ps []) (g:G8 (CXx X.prog X.w X.base) X E) (v:∀q,rs=some q->PA X (e::es) (dA X.D E δ q)) (b:(x==("__debug__" : Str))=false) (hs:j3 e=false) (a:es.any j3=false)
  (h:(Rs.thn rs λ l=>L0 F f l)=some re):PE X (.Call (.Name x p) (e::es) [] pos) (dE X.D E δ re):=by
 have plain:∀(es:ge EI),es.any j3=false->(backTo pos (starEach es X.env)).any (·.1)=false:=by
  intro es
  induction es with
  | nil=>intro _;rfl
  | cons y ys d=>
   intro q;rw[J3,P6]at q;rw[j9 q.1];show(false||(backTo pos _).any (·.1))=false;rw[d q.2];rfl
 exact jg j (λ t _ w=>(ut fo i r m n u .nil g w b (j9 hs) (plain es a)).weak λ σ H Q h=>h.2) (λ _ _ _ _ _=>trivial) v h
theorem yL(fo:FnOk X.prog X.w X.K X.mg X.base g k c fd e d)(j:Room k X.A)(n:Gl X x)(l:X.mg x=some (.ref c))(m:PySem.W.keepIn X.K (.ref c)=true)(q:u7 X.K fd e ds)(o:Vals a ds)(i:G8 g X E)(b:(x==("__debug__" : Str))=false) :
  PE X (.Call (.Name x p) [] [] pos) (dQ d a E tNil):=by
 intro f s σ H Q I h;refine S9 (Q6 I n l ?_ b);exact PySem.W.callWith_K0 I.kIn m (bx fo j q o i I .nil h)
theorem yM(fo:FnOk X.prog X.w X.K X.mg X.base (CXx X.prog X.w X.base) k d fd a (spF X.D a.length (F f)))(m:∀ds o,F f ds=some o->ds.length=a.length)(l:Room k X.A)(t:Gl X x)(n:X.mg x=some (.ref d))(r:PySem.W.keepIn X.K (.ref d)=true)
  (u:u7 X.K fd a []) (j:G8 (CXx X.prog X.w X.base) X E) (c:(x==("__debug__" : Str))=false) (h:L0 F f []=some e):PE X (.Call (.Name x p) [] [] pos) (dE X.D E δ e):=by
 refine jg (rs:=some (.ok [])) (as:=[]) m (λ q b _=>?_) (λ _ _ _ _ _=>trivial) (λ q b=>?_) h
 ·cases b;exact(yL fo l t n r u .nil j c).weak λ i H Q ⟨_,O,W,R,g⟩=>g [] H (Same.refl _) .nil
 ·cases b;exact D0.weak λ i H Q ⟨O,W,R,g⟩=>g [] H (Same.refl _) .nil
section
variable {X:Cx} {E:St->XK} {δ:ge Sv} {e:EI} {es:ge EI} {pos p:Pos} {re:Re} {rs:EC Rs}
theorem Y8:∀(es:ge EI),es.any j3=false->(backTo pos (starEach es env)).any (·.1)=false
 | [],_=>rfl
 | y::a,q=>by rw[J3,P6]at q;rw[j9 q.1];show(false||(backTo pos _).any (·.1))=false;rw[Y8 a q.2];rfl
theorem yN(fo:FnOk X.prog X.w X.K X.mg X.base n k c fd l j)(B:Room k X.A)(A:PE X (.Name x p) (tVar i))(C:PySem.W.keepIn X.K (.ref c)=true)(K:u7 X.K fd l ds)(J:Vals d ds)(z:G8 n X E)
  (L:PA X (e::es) t) (F:starEach (e::es) X.env=(false,eval e X.env)::starEach es X.env:=by rfl) (f:(backTo pos (starEach es X.env)).any (·.1)=false:=by rfl) :
  PE X (.Call (.Name x p) (e::es) [] pos) (λ b H Q=>b[i]? = some (some (.ref c))/\dQ j d E t b H Q):=by
 intro a s b H Q I h;obtain⟨M,h⟩:=h;refine S9 (thn (A a s b H (λ v g=>v=.ref c/\g=H) I ⟨_,M,rfl,rfl⟩) λ u s1 ⟨v,g,N,o,y,w⟩=>?_);subst y w;obtain rfl:u=Value.ref c:=o;refine aU I.ok.mod.kin C (thn (L pos a s1 b g _ N h) λ us s2 ⟨vs,H2,m,r,q⟩=>⟨m.kIn,?_⟩) F f;exact bx fo B K J z m r q
theorem yO(fo:FnOk X.prog X.w X.K X.mg X.base (CXx X.prog X.w X.base) k c fd a (spF X.D a.length (F f)))(z:∀ds o,F f ds=some o->ds.length=a.length)(w:Room k X.A)(r:PE X (.Name x p) (tVar i))(A:X.mg y=some (.ref c))(B:PySem.W.keepIn X.K (.ref c)=true)
  (I:u7 X.K fd a []) (n:G8 (CXx X.prog X.w X.base) X E) (C:δ[i]? = some (.val (.fn y))) (J:∀q,rs=some q->PA X (e::es) (dA X.D E δ q)) (u:j3 e=false) (b:es.any j3=false)
  (h:(Rs.thn rs λ l=>L0 F f l)=some re):PE X (.Call (.Name x p) (e::es) [] pos) (dE X.D E δ re):=by
 refine jg z (λ t _ K=>yN fo w r B I .nil n K (j9 u) (Y8 es b)) (λ σ H O W R=>?_) J h;obtain⟨v,M,L⟩:=R.val i _ C;obtain⟨g,m,j⟩:=eL.mp L;have d:X.mg y=some _:=j;rw[A]at d;cases d;rw[M,m]
noncomputable def biR(X:Cx)(k:ge (DV×Cl)->EC Re):ge V->Hp->VK->Prop:=λ vs H Q=>∃l re O W H0,k l=some re/\Hid O W H0 H/\GotL X.D O W H0 H l vs/\∃d c,re=.ok d c/\∀v H',Same H H'->Got X.D O W H0 H' d c v->Q v H'
theorem jh(w:v9 X (.builtin i) (biR X k))(r:∀l a,k l=some a->∃d c,a=.ok d c)(u:Gl X x)(o:X.mg x=none)(m:bootBuiltins x=some (.builtin i))(n:x ≠ "__name__")(f:(x==("__debug__" : Str))=false)
  (y:∀q,rs=some q->PA X (e::es) (dA X.D E δ q)) (hs:j3 e=false) (b:es.any j3=false) (h:Rs.thn rs k=some a):PE X (.Call (.Name x p) (e::es) [] pos) (dE X.D E δ a):=
 bW (λ _ z=>bp w u o m z n f (j9 hs) (Y8 es b)) y h λ O W A H vs Q l σ j v g p=>by obtain⟨d,c,rfl⟩:=r l a j;exact⟨l,_,O,W,A,j,v,g,d,c,rfl,p⟩
theorem eY(v:v9 X (.type T) (biR X k))(o:∀l a,k l=some a->∃d c,a=.ok d c)(r:Gl X x)(n:X.mg x=none)(j:bootBuiltins x=some (.type T))(m:x ≠ "__name__")(f:(x==("__debug__" : Str))=false)
  (w:∀q,rs=some q->PA X (e::es) (dA X.D E δ q)) (hs:j3 e=false) (b:es.any j3=false) (h:Rs.thn rs k=some a):PE X (.Call (.Name x p) (e::es) [] pos) (dE X.D E δ a):=
 bW (λ _ y=>lN v r n j y m f (j9 hs) (Y8 es b)) w h λ O W z H vs Q l σ i u g p=>by obtain⟨d,c,rfl⟩:=o l a i;exact⟨l,_,O,W,z,i,u,g,d,c,rfl,p⟩
theorem yP:∀l a,lenD l=some a->∃d c,a=.ok d c:=λ l a h=>by unfold lenD at h;split at h<;>cases h<;>exact⟨_,_,rfl⟩
theorem oV:∀{ds:ge DV} {b:ge Int} {a:ge V},ints? ds=some b->RepL D H ds a->a=b.map V.int
 | [],b,a,h,r=>by cases h;exact A3.mp r
 | .int i::ds,b,a,h,r=>by obtain⟨ms,g,f⟩:=j7.mp h;obtain⟨v,vs,e,d,c⟩:=t7.mp r;rw[←f,e,J2,C5.mp d,(oV g c)]
 | .non::ds,b,a,h,_=>by cases h
 | .bl _::ds,b,a,h,_=>by cases h
 | .str _::ds,b,a,h,_=>by cases h
 | .tup _::ds,b,a,h,_=>by cases h
 | .lst _::ds,b,a,h,_=>by cases h
 | .dct _ _::ds,b,a,h,_=>by cases h
 | .exc _::ds,b,a,h,_=>by cases h
 | .fn _::ds,b,a,h,_=>by cases h
 | .lam _ _::ds,b,a,h,_=>by cases h
 | .scr _::ds,b,a,h,_=>by cases h
theorem ji(x:Int):∀l:ge Int,(insI x l).Perm (x::l)
 | []=>.rfl
 | y::r=>by
  unfold insI;split
  ·exact .rfl
  ·exact(List.Perm.cons y (ji x r)).trans (List.Perm.swap x y r)
theorem oW:∀l:ge Int,(dW l).Perm l
 | []=>.rfl
 | x::r=>(ji x _).trans (List.Perm.cons x (oW r))
theorem oX(x:Int):∀{l:ge Int},l.Pairwise (· <= ·)->(insI x l).Pairwise (· <= ·)
 | [],_=>List.pairwise_singleton _ _
 | y::r,h=>by
  obtain⟨b,c⟩:=T5.mp h;unfold insI;split
  ·rename_i q;refine T5.mpr ⟨λ z a=>?_,h⟩;rcases i6.mp a with e | e
   ·omega
   ·have:=b z e;omega
  ·rename_i q;refine T5.mpr ⟨λ z a=>?_,oX x c⟩;rcases i6.mp ((ji x r).mem_iff.mp a)with e | e
   ·omega
   ·exact b z e
theorem oY:∀l:ge Int,(dW l).Pairwise (· <= ·)
 | []=>.nil
 | x::r=>oX x (oY r)
theorem oZ:∀{a b:ge Int},a.Perm b->a.Pairwise (· <= ·)->b.Pairwise (· <= ·)->a=b
 | [],b,p,_,_=>(List.Perm.nil_eq p)
 | x::a,b,p,f,d=>by
  cases b with
  | nil=>exact absurd p.length_eq (by simp)
  | cons y b=>
   obtain⟨j,i⟩:=T5.mp f;obtain⟨h,g⟩:=T5.mp d;have e:x=y:=by
    rcases i6.mp (p.mem_iff.mp (o8)) with z | z
    ·exact z
    ·rcases i6.mp (p.mem_iff.mpr (o8)) with c | c
     ·exact c.symm
     ·have:=j y c;have:=h x z;omega
   subst e;rw[oZ (List.Perm.cons_inv p) i g]
theorem yQ:∀l a,intD l=some a->∃d c,a=.ok d c:=λ l a h=>by
 unfold intD at h;split at h
 ·cases h;exact⟨_,_,rfl⟩
 ·cases h;exact⟨_,_,rfl⟩
 ·obtain⟨n,_,e⟩:=j7.mp h;exact⟨_,_,e.symm⟩
 ·cases h
theorem yR:∀l a,strD l=some a->∃d c,a=.ok d c:=λ l a h=>by
 unfold strD at h;split at h
 ·split at h
  ·cases h;exact⟨_,_,rfl⟩
  ·cases h
 ·cases h
theorem yS:∀l a,bB l=some a->∃d c,a=.ok d c:=λ l a h=>by unfold bB at h;split at h<;>cases h<;>exact⟨_,_,rfl⟩
theorem yT:∀l a,bC l=some a->∃d c,a=.ok d c:=λ l a h=>by unfold bC at h;split at h<;>cases h<;>exact⟨_,_,rfl⟩
theorem yU:v9 X (.builtin "len") (biR X lenD):=by
 intro b s k H xs m Q I r h;obtain⟨l,re,O,W,H0,e,n,g,d,c,rfl,p⟩:=h;unfold lenD at e;split at e
 ·cases e;obtain⟨v,rfl,f⟩:=g.one;obtain⟨a,o,j,i,q⟩:=f.lst n;exact gE b s k H _ m Q I r ⟨a,o,by rw[j],.inl (SqL.of i),by rw[q.length];exact p _ H (Same.refl H) x4⟩
 ·cases e;obtain⟨v,rfl,f⟩:=g.one;obtain⟨a,o,j,i,q⟩:=f.tup n;exact gE b s k H _ m Q I r ⟨a,o,by rw[j],.inr i,by rw[q.length];exact p _ H (Same.refl H) x4⟩
 ·cases e;obtain⟨v,rfl,f⟩:=g.one;obtain⟨a,j,i⟩:=O7.mp (f.all n);exact gE b s k H _ m Q I r ⟨a,_,by rw[j],.inl i.sq,by rw[n8];exact p _ H (Same.refl H) x4⟩
 ·cases e;obtain⟨v,rfl,f⟩:=g.one;obtain⟨j,i⟩:=f.str n;exact tI b s k H _ m Q I r ⟨_,by rw[j],i,p _ H (Same.refl H) x4⟩
 ·cases e
theorem jj:∀{b:ge DV} {bs:ge Bool} {a:ge V},bools? b=some bs->RepL D H b a->a=bs.map V.bl
 | [],bs,a,h,r=>by cases h;exact A3.mp r
 | .bl i::b,bs,a,h,r=>by obtain⟨ms,g,f⟩:=j7.mp h;obtain⟨v,vs,e,d,c⟩:=t7.mp r;have q:=jj g c;subst f e q;rw[R6.mp d];rfl
 | .non::_,_,_,h,_=>by cases h
 | .int _::_,_,_,h,_=>by cases h
 | .str _::_,_,_,h,_=>by cases h
 | .tup _::_,_,_,h,_=>by cases h
 | .lst _::_,_,_,h,_=>by cases h
 | .exc _::_,_,_,h,_=>by cases h
 | .fn _::_,_,_,h,_=>by cases h
 | .lam _ _::_,_,_,h,_=>by cases h
 | .scr _::_,_,_,h,_=>by cases h
 | .dct _ _::_,_,_,h,_=>by cases h
theorem yV(n:X.calm=true):v9 X (.builtin "all") (biR X allD):=by
 intro b s i H xs j Q I r h;obtain⟨l,re,O,W,H0,f,m,g,d,c,rfl,p⟩:=h;unfold allD at f;split at f
 ·obtain⟨bs,k,e⟩:=j7.mp f;cases e;obtain⟨v,rfl,o⟩:=g.one;obtain⟨a,ys,x,w,u⟩:=o.lst m;have q:=jj k u;subst q;exact wn n b s i H _ j Q I r ⟨a,bs,by rw[x],SqL.of w,p _ H (Same.refl H) K3⟩
 ·cases f
theorem yW(n:X.calm=true):v9 X (.builtin "any") (biR X anyD):=by
 intro b s i H xs j Q I r h;obtain⟨l,re,O,W,H0,f,m,g,d,c,rfl,p⟩:=h;unfold anyD at f;split at f
 ·obtain⟨bs,k,e⟩:=j7.mp f;cases e;obtain⟨v,rfl,o⟩:=g.one;obtain⟨a,ys,w,u,t⟩:=o.lst m;have q:=jj k t;subst q;exact wq n b s i H _ j Q I r ⟨a,bs,by rw[w],SqL.of u,p _ H (Same.refl H) K3⟩
 ·cases f
theorem yX:bootBuiltins "all" = some (.builtin "all"):=by decide +kernel
theorem yY:bootBuiltins "any" = some (.builtin "any"):=by decide +kernel
theorem yZ:∀l a,allD l=some a->∃d c,a=.ok d c:=by
 intro l a h;unfold allD at h;split at h
 ·obtain⟨_,_,e⟩:=j7.mp h;cases e;exact⟨_,_,rfl⟩
 ·cases h
theorem za:∀l a,anyD l=some a->∃d c,a=.ok d c:=by
 intro l a h;unfold anyD at h;split at h
 ·obtain⟨_,_,e⟩:=j7.mp h;cases e;exact⟨_,_,rfl⟩
 ·cases h
theorem zb:bootBuiltins "sorted" = some (.builtin "sorted"):=by decide +kernel
theorem zc:bootBuiltins "set" = some (.type "set"):=by decide +kernel
theorem zd(x:X.calm=true)(K:Gl X "sorted")(J:X.mg "sorted" = none)(n:Gl X "set")(m:X.mg "set" = none)
  (L:∀q,rs=some q->PA X [e] (dA X.D E δ q)) (hs:j3 e=false) (h:Rs.thn rs gW=some re):PE X (.Call (.Name "sorted" p) [.Call (.Name "set" u) [e] [] pos'] [] pos) (dE X.D E δ re):=
 bW (r:=λ o H Q=>(∃(a:EG) (b:ge Int),o=[.ref a]/\SqL X.K H a _/\b.length<4000/\∀p,H p=none->∃(p1:EG) (j:ge Int),[V.ref p]=[.ref p1]/\upd H p _ p1=some _/\j.length<64 /\
   ∀(q:EG) (i:ge Int),upd H p _ q=none->i.Perm j->i.Pairwise (· <= ·)->Q (.ref q) _))
  (λ t M=>by
   have A:=bp (p:=p) (pos:=pos) (wj x) K J zb (x9 (lN (p:=u) (pos:=pos') (wg x) n m zc M (by decide) (by decide) (j9 hs) rfl) D0) (by decide) (by decide) rfl rfl;exact A.weak λ z H Q h=>h) L h λ O W H0 H o Q l z d w g C=>by
  unfold gW at d;split at d
  ·split at d
   ·rename_i ds c b I;split at d
    ·rename_i y;cases d;obtain⟨v,rfl,N⟩:=g.one;obtain⟨a,ys,Y,U,S⟩:=N.lst w;have R:=oV I S;subst R;refine⟨a,b,by rw[Y],SqL.of U,y.1,λ p1 k=>⟨p1,_,rfl,o7,y.2,λ q i f F B=>?_⟩⟩;have P:=oZ (F.trans (oW _).symm) B (oY _);subst P;have s1:Same H (upd H p1 (setO X.prog X.w p1 (b.foldl dk []))):=n0 k;exact C _ _ (s1.trans (n0 f)) (K4 (w.mono s1) f (V2 _))
    ·cases d
   ·cases d
  ·cases d
theorem ze:v9 X (.type "int") (biR X intD):=by
 intro a s i H xs j Q I r h;obtain⟨l,re,O,W,H0,b,k,g,d,c,rfl,p⟩:=h;unfold intD at b;split at b
 ·cases b;obtain⟨v,rfl,f⟩:=g.one;exact lz a s i H _ j Q I r (.inl ⟨_,by rw[f.int k],p _ H (Same.refl H) x4⟩)
 ·cases b;obtain⟨v,rfl,f⟩:=g.one;exact lz a s i H _ j Q I r (.inr ⟨_,by rw[f.bl k],p _ H (Same.refl H) x4⟩)
 ·rename_i z cz;obtain⟨n,m,e⟩:=j7.mp b;cases e;obtain⟨v,rfl,f⟩:=g.one;exact yc a s i H _ j Q I r ⟨z,n,by rw[(f.str k).1],m,p _ H (Same.refl H) x4⟩
 ·cases b
theorem zf:v9 X (.type "str") (biR X strD):=by
 intro b s f H xs i Q I r h;obtain⟨l,re,O,W,H0,a,j,g,d,c,rfl,p⟩:=h;unfold strD at a;split at a
 ·split at a
  ·rename_i e;cases a;obtain⟨v,rfl,k⟩:=g.one;exact sD b s f H _ i Q I r ⟨_,by rw[k.int j],oI e,p _ H (Same.refl H) (x0.mpr ⟨rfl,int_text_fits (oI e)⟩:Rep X.D (L2.wo (O++W) H) _ _)⟩
  ·cases a
 ·cases a
theorem zg:v9 X (.type "list") (biR X bB):=by
 intro b s n H xs u Q I r h;obtain⟨l,re,O,W,H0,i,f,g,d,c,rfl,p⟩:=h;unfold bB at i;split at i
 ·cases i;obtain⟨v,rfl,j⟩:=g.one;obtain⟨a,m,k⟩:=O7.mp (j.all f);exact gF b s n H _ u Q I r ⟨a,_,by rw[m],.inl k.sq,λ q e=>p _ _ (n0 e) (K4 f e (V2 _))⟩
 ·cases i;obtain⟨v,rfl,j⟩:=g.one;obtain⟨a,o,m,k,w⟩:=j.lstC f;exact gF b s n H _ u Q I r ⟨a,o,by rw[m],.inl (SqL.of k),λ q e=>p _ _ (n0 e) (eM f e w)⟩
 ·cases i;obtain⟨v,rfl,j⟩:=g.one;obtain⟨a,o,m,k,w⟩:=j.tupC f;exact gF b s n H _ u Q I r ⟨a,o,by rw[m],.inr k,λ q e=>p _ _ (n0 e) (eM f e w)⟩
 ·cases i
theorem zh:v9 X (.type "tuple") (biR X bC):=by
 intro b s n H xs o Q I r h;obtain⟨l,re,O,W,H0,e,i,g,d,c,rfl,p⟩:=h;unfold bC at e;split at e
 ·cases e;obtain⟨v,rfl,j⟩:=g.one;obtain⟨a,f,m,k,w⟩:=j.lstC i;exact lV b s n H _ o Q I r ⟨a,f,by rw[m],.inl ⟨SqL.of k,λ q u=>p _ _ (n0 u) (ol i u w)⟩⟩
 ·cases e;obtain⟨v,rfl,j⟩:=g.one;obtain⟨a,f,m,k,w⟩:=j.tupC i;exact lV b s n H _ o Q I r ⟨a,f,by rw[m],.inr ⟨k,p _ _ (Same.refl H) (by grind)⟩⟩
 ·cases e
end
noncomputable def tyS:DV->EC EU
 | .non=>some "NoneType" | .bl _=>some "bool" | .int _=>some "int" | .str _=>some "str" | .tup _=>some "tuple" | .lst _=>some "list" | .dct _ _=>some "dict"
 | _=>none
noncomputable def pd(T t:EU):EC Bool:=if(Value.type T==Value.type t)=true then some true else if PySem.W.kitMeta t=true then(fastBuiltinMro T).map (·.contains (.type t))else none
theorem zi:(["NoneType","bool","int","str","tuple","list","dict"]:ge EU).all (λ T=>(["int","bool","str","list","tuple","dict"]:ge EU).all λ t=>pd T t==some (T==t||(T == "bool" && t == "int")))=true:=by decide +kernel
theorem V5{K:EQ}(T t:EU)(b:T∈["NoneType","bool","int","str","tuple","list","dict"])(a:t∈["int","bool","str","list","tuple","dict"]) :
  PySem.W.kitOne K (.type T) (.type t)=some (T==t||(T == "bool" && t == "int")):=by
 exact(show pd T t=_ from by simpa using (y9.mp (y9.mp zi T b) t a))
section
variable {X:Cx} {E:St->XK} {δ:ge Sv} {e e':EI} {pos p p':Pos} {re:Re} {ra:EC Re}
theorem zj(I:Inv X g σ H s)(r:Rep X.D H d v)(c:RelV v u)(e:tyS d=some T)(f:t∈["int","bool","str","list","tuple","dict"])
  (h:∀tk,Q (.bool (T==t||(T == "bool" && t == "int"))) {s with toks:=tk}):wpAny (model X.prog X.w) X.A (call (.builtin "isinstance") [u,.type t]) Q x s:=by
 cases d with
 | non=>cases e;rw[R7.mp r]at c;cases c;exact aj PySem.W.kitx_none I.kIn True.intro (V5 _ _ (by simp) f) (λ z=>nomatch z) h
 | bl b=>cases e;rw[R6.mp r]at c;cases c;exact aj PySem.W.kitx_bool I.kIn True.intro (V5 _ _ (by simp) f) (λ z=>nomatch z) h
 | int b=>cases e;rw[C5.mp r]at c;obtain⟨tk,rfl⟩:=c;exact aj PySem.W.kitx_int I.kIn True.intro (V5 _ _ (by simp) f) (λ z=>nomatch z) h
 | str b=>cases e;rw[(x0.mp r).1]at c;obtain⟨tk,rfl⟩:=c;exact aj PySem.W.kitx_str I.kIn True.intro (V5 _ _ (by simp) f) (λ z=>nomatch z) h
 | tup w=>
  cases e;obtain⟨a,m,l,k,q⟩:=y7.mp r;rw[l]at c;cases c;obtain⟨i,_,⟨o,j,p,_⟩,_⟩:=I.tuple k;exact aj PySem.W.kitx_tuple I.kIn ⟨o,j,p⟩ (V5 _ _ (by simp) f) (λ z=>nomatch z) h
 | lst w=>
  cases e;obtain⟨a,m,l,k,q⟩:=A2.mp r;rw[l]at c;cases c;obtain⟨_,i,n,_,_,j⟩:=I.lstM k;exact aj PySem.W.kitx_list I.kIn ⟨_,j,rfl⟩ (V5 _ _ (by simp) f) (λ z=>nomatch z) h
 | dct _ _=>exact(bU r).elim
 | exc _=>cases e
 | fn _=>cases e
 | lam _ _=>cases e
 | scr _=>cases e
def rIsi(X:Cx):ge V->Hp->VK->Prop:=λ xs H Q=>∃d T t x,xs=[x,.ty t]/\Rep X.D H d x/\tyS d=some T/\t∈["int","bool","str","list","tuple","dict"]/\Q (.bl (T==t||(T == "bool" && t == "int"))) H
theorem zk:v9 X (.builtin "isinstance") (rIsi X):=by
 intro b s σ H xs us Q I r h;obtain⟨d,T,t,x,rfl,f,i,g,q⟩:=h;obtain⟨u,w',rfl,e,a⟩:=dJ r;cases a;exact zj I f e i g λ c=>⟨.bl _,H,I.tok c,rfl,q⟩
noncomputable def V6:Str->EC EU:=λ x=>(["int","bool","str","list","tuple","dict"]:ge EU).find? λ t=>Str.ofString t==x
theorem eZ(h:V6 x=some t):bootBuiltins x=some (.type t)/\t∈["int","bool","str","list","tuple","dict"]/\Str.ofString t=x:=by
 unfold V6 at h;have a:=List.mem_of_find?_eq_some h;have b:Str.ofString t=x:=by simpa using (List.find?_some h)
 refine⟨?_,a,b⟩;subst b;simp[i6,F7,G7]at a;rcases a with rfl | rfl | rfl | rfl | rfl | rfl
 ·exact boot_int
 ·exact boot_bool
 ·exact boot_str
 ·exact boot_list
 ·exact boot_tuple
 ·exact boot_dict
noncomputable def pf:EU->ge Str
 | "NoneType"=>["NoneType"] | "bool"=>["bool","int"] | "int"=>["int"] | "str"=>["str"] | "tuple"=>["tuple"] | "list"=>["list"] | "dict"=>["dict"]
 | _=>[]
theorem zl:(["NoneType","bool","int","str","tuple","list","dict"]:ge EU).all (λ T=>(["int","bool","str","list","tuple","dict"]:ge EU).all λ t=>(pf T).contains (Str.ofString t)==(T==t||(T == "bool" && t == "int")))=true:=by decide +kernel
theorem jk(h:V6 x=some t)(b:tyS d=some T):(tyOf d).contains x=(T==t||(T == "bool" && t == "int")):=by
 obtain⟨_,e,c⟩:=eZ h;subst c;have a:∀T∈_,(pf T).contains _=(T==t||_):=λ T b=>by have q:=y9.mp (y9.mp zl T b) t e;simpa using q
 cases d<;>cases b
 ·exact a "NoneType" (by simp)
 ·exact a "bool" (by simp)
 ·exact a "int" (by simp)
 ·exact a "str" (by simp)
 ·exact a "tuple" (by simp)
 ·exact a "list" (by simp)
 ·exact a "dict" (by simp)
theorem zm(n:V6 x=some t)(F:Gl X "isinstance")(z:X.mg "isinstance" = none)(j:Gl X x)(i:X.mg x=none)(g:x ≠ "__name__")(l:(x==("__debug__" : Str))=false)
  (I:∀q,ra=some q->PE X e (dE X.D E δ q)) (hs:j3 e=false) (h:(Re.thn ra λ y _=>(isiD G y [x]).map λ k=>.ok (.bl k) .strong)=some re):PE X (.Call (.Name "isinstance" p) [e,.Name x p'] [] pos) (dE X.D E δ re):=by
 obtain⟨N,m,M⟩:=eZ n;have T:PE X (.Name x p') (tC (.ty t)):=dC j i N rfl g l;have C:=λ u (J:PE X e u)=>bp (p:=p) (pos:=pos) zk F z gc (x9 J (x9 T D0) (j9 hs)) (by decide) (by decide) (j9 hs)
 cases a:ra with
 | none=>rw[a]at h;cases h
 | some q=>
  rw[a]at h;have A:=I q a;cases q with
  | ex c=>cases h;exact(C _ A).weak λ r H Q ⟨O,W,R,p⟩=>⟨O,W,R,p⟩
  | ok d cl=>
   obtain⟨k,b,L⟩:=j7.mp (h);cases L;have f:∃T,tyS d=some T/\k=(tyOf d).contains x:=by
    unfold isiD at b;have w:G3.contains x=true:=by
     rw[←M];simp only[i6,F7,G7]at m;rcases m with rfl | rfl | rfl | rfl | rfl | rfl<;>decide +kernel
    cases d<;>first
     | (simp only[w,if_true]at b;cases b;exact⟨_,rfl,rfl⟩)
     | cases b
   obtain⟨T,o,B⟩:=f;exact(C _ A).weak λ r H Q ⟨O,W,R,p⟩=>⟨O,W,R,λ v P s1 K=>⟨d,T,t,v,rfl,K.all (R.hid.mono s1),o,m,by rw[←jk n o,←B];exact p _ P s1 K3⟩⟩
end
theorem ph:∀(l:ge ED),TriplesOk l->(∃i t,a=.int i t)->(∃i t,b=.int i t)->codeAmong pos' (l++[a,b,c])=some cv->codeAmong pos' l=some cv\/cv=c
 | [],_,⟨i,t,k⟩,⟨j,u,g⟩,h=>by
  subst k g;have d:(if i==pos'.line&&j==pos'.col then some c else codeAmong pos' [])=some cv:=h;split at d
  ·exact .inr (v5 d).symm
  ·cases d
 | .int i t :: .int j u::x::r,ok,f,e,h=>by
  have d:(if i==pos'.line&&j==pos'.col then some x else codeAmong pos' _)=some cv:=h;show(if i==pos'.line&&j==pos'.col then some x else codeAmong pos' r)=some cv\/cv=c;split at d
  ·rename_i z;rw[i3 z];exact .inl d
  ·rename_i z;rw[i4 z];exact ph r ok f e d
theorem pi(e:∃i t,a=.int i t)(d:∃i t,b=.int i t):∀(l:ge ED),TriplesOk l->TriplesOk (l++[a,b,c])
 | [],_=>by obtain⟨i,t,rfl⟩:=e;obtain⟨j,u,rfl⟩:=d;exact trivial
 | .int i t :: .int j u::x::r,ok=>pi e d r ok
structure LamAt(X:Cx)(scope:Scope)(c P:Addr):Prop where
 code:X.env.code=.ref c
 hd:∀h:Heap,X.K.In h->PySem.W.CodeHd h c P
 tab:(P,X.env.qual ++ "<lambda>")∈u0 X.K
 fre:∀y∈scope.names,y.2=NameKind.free->X.env.kindOf y.1=some .cell
theorem LamAt.has(L:LamAt X scope c P)(ok:X.Ok):∀y∈scope.names,y.2=NameKind.free->∃a,X.env.cells.lookup y.1=some a:=λ y b d=>ok.has y.1 (.inl (L.fre y b d))
theorem zn(I:Inv X p σ H s)(L:LamAt X scope c P)(Z:defaultsOf g X.env=([],[]))
  (h:∀f H' s',Inv X p σ H' s'->Same H H'->H f=none->R5 H' (X.env.qual ++ "<lambda>") g body scope (n5 X.env.cells scope.names []) f->Q (.ref f) s') :
  wpAny M A (eval (.Lambda g body scope pos) X.env) Q E s:=by
 refine PySem.W.kla_eval Z ?_;have hP:=I.tabs _ L.tab;obtain⟨ps,hp,ht,good⟩:=I.hok _ _ hP;have a1:=gL (scope:=scope) (env:=X.env) (L.has I.ok);have hg:s.heap.Ns mainGlobals X.mg:=I.ok.mod.glob.keeps I.bk;have a8:mainGlobals≠P:=λ z=>by obtain⟨o,es,ep,e,d,_⟩:=hg;rw[z,hp]at e;cases e;cases d
 obtain⟨bm,ob,b1,b2,b3,b4,b5,b6⟩:=I.ok.mod.bmod;have m:=I.bs _ _ b3;have b0:bm≠P:=λ z=>by rw[z,hP]at m;cases m.2
 have b7:bm≠mainGlobals:=λ z=>by obtain⟨o,es,ep,e,d,_⟩:=hg;rw[←z,m.1]at e;cases e;rw[b6]at d;cases d
 have hb:s.heap.BuiltinsAt X.mg P:=⟨bm,ob,b1,b2,b7,b0,m.1,b4,b5,b6⟩;have C:=L.hd s.heap I.kIn;cases hf:codeAmong pos ps.toList with
 | some cv=>
  obtain⟨j,F,u,vs,t,e1,e2,e3,e4⟩:=good pos cv hf;subst e1;refine PySem.W.kla_makeFunctionHit (mg:=X.mg) a1 I.ok.glob hg L.code C hp ht hf hb λ l i tk hk O=>?_
  have hn:H i.objs.size=none:=I.hok.fresh O;refine h _ (upd H i.objs.size (.frz _ (.own i.objs.size))) _ (I.laid (t':=tk) (λ b u e=>i5 _ (hk b u e)) O ⟨k6 _ rfl,_,k6 _ rfl⟩) (n0 hn) hn ?_;refine⟨j,F,u,vs,t,_,l,o7,?_,e3,e4⟩;rw[j1 (B2 e2 hn)];exact e2
 | none=>
  refine PySem.W.kla_makeFunction (mg:=X.mg) a1 I.ok.glob hg L.code C hp ht hf a8 hb λ j l i tk hx k v R N=>?_;obtain⟨b9,F,vs,t,e2,S,hd,hv⟩:=R;cases e2;have a7:H j=none:=I.hok.fresh k;have U:H i.objs.size=none:=I.hok.fresh (o6 k (X3 v));have a9:j≠i.objs.size:=j5 v;have K:∀{b:EG} {u:HO},H b=some u->b≠j/\b≠i.objs.size:=λ e=>⟨B2 e a7,B2 e U⟩;have r:∀{b:EG} {o:Obj},s.heap.get? b=some o->b≠j/\b≠i.objs.size:=λ {b o} e=>⟨j5 (q5 (i8 e) k),j5 (q5 (i8 e) (o6 k (X3 v)))⟩;generalize Y:PySem.W.kla_obj "<lambda>" (X.env.qual ++ "<lambda>") g body scope (n5 X.env.cells scope.names []) ((X.mg "__name__").getD .none) j l=fo;have W:fo.isFreed=false:=by rw[←Y];rfl
  generalize x:upd (upd H j (.frz F (.own j))) i.objs.size (.frz fo (.own i.objs.size))=H';have a3:H' i.objs.size=some (.frz fo (.own i.objs.size)):=by rw[←x];exact o7
  have B:H' j=some (.frz F (.own j)):=by rw[←x,j1 a9];exact o7
  have y:∀{b:EG},b≠j->b≠i.objs.size->H' b=H b:=λ h1 h2=>by rw[←x,j1 h2,j1 h1]
  have sm:Same H H':=λ b o e=>by rw[y (K e).1 (K e).2];exact e
  have kp:∀b o,b≠P->s.heap.get? b=some o->(i.push fo).get? b=some o:=λ b o hb e=>i5 _ (hx b o hb e);have a2:∀b,H b=none->b≠P:=λ b n z=>by rw[z,hP]at n;cases n
  have un:Un X.fs [] H H' s.heap (i.push fo):=by
   refine⟨λ b o e n _ _=>kp b o (a2 b n) e,λ b o e n _ _=>⟨o.slots,kp b o (a2 b n) e⟩,λ b o e n _=>by rw[y (r e).1 (r e).2];exact n,λ b o e _=>?_,λ b xs e=>sm _ _ e,λ b o u e=>sm _ _ e,λ b q e=>sm _ _ e⟩;by_cases z:b=P
   ·subst z;exact⟨_,i5 _ N⟩
   ·exact⟨o,kp b o z e⟩
  have a6:HOk X.prog X.w H' (i.push fo):=λ b u e=>by
   by_cases z1:b=i.objs.size
   ·subst z1;rw[a3]at e;cases e;exact⟨k6 _ W,_,k6 _ W⟩
   ·by_cases z2:b=j
    ·subst z2;rw[B]at e;cases e;exact⟨i5 _ S,_,i5 _ S⟩
    ·rw[y z2 z1]at e;by_cases z3:b=P
     ·subst z3;rw[hP]at e;cases e;refine⟨_,i5 _ N,?_,λ J cv a0=>?_⟩
      ·rw[cN];exact pi ⟨_,_,rfl⟩ ⟨_,_,rfl⟩ _ ht
      ·rw[cN]at a0;rcases ph (a:=rawInt pos.line) (b:=rawInt pos.col) (c:=.ref j) ps.toList ht ⟨_,_,rfl⟩ ⟨_,_,rfl⟩ a0 with w | w
       ·obtain⟨c2,a5,u2,a4,t2,f1,f2,f3,f4⟩:=good J cv w;exact⟨c2,a5,u2,a4,t2,f1,sm _ _ f2,f3,f4⟩
       ·exact⟨j,F,_,vs,t,w,B,hd,hv⟩
     ·refine(I.hok b u e).stay (λ b' u' b8 q=>kp b' u' ?_ q) (λ b' q=>sm _ _ q) (λ b' xs q=>sm _ _ q) λ b' _ _ _ _ q=>sm _ _ q;rcases b8 with w | w
      ·rw[w];exact z3
      ·intro z;rw[z,hP]at w;cases w
  refine h i.objs.size H' _ (I.un (t':=tk) un a6) sm U ⟨j,F,_,vs,t,(X.mg "__name__").getD .none,l,by rw[a3,←Y],B,hd,hv⟩
end L2
namespace L2
open PySem PySem.Spec PyProof.Rows
noncomputable def trC(l:ge EG)(h:EH)(H:Hp):Hp:=λ b=>if b∈l then(h.get? b).map λ o=>HO.frz o (.own b)else H b
theorem cf(a:b∈l)(e:h.get? b=some o):trC l h H b=some (.frz o (.own b)):=by
 unfold trC;rw[i3 a,e];rfl
theorem Y9(a:b∉l):trC l h H b=H b:=i4 a
structure Cells(l:List Addr)(h:Heap)(H:Hp):Prop where
 none:∀c∈l,H c=none
 cel:∀c∈l,∃o v,h.get? c=some o/\o.data=.cell v
section
variable {P:EL} {w:EK} {K:EQ} {mg:Str->EC ED} {base:EH} {A:EM} {outer:ge Env} {s s':EF} {H:Hp} {l:ge EG} {Q Q':VK} {u:ED}
theorem Cells.same(C:Cells l s.heap H):Same H (trC l s.heap H):=λ b o e=>by
 rw[Y9 λ z=>by rw[C.none b z]at e;cases e];exact e
theorem HOk.trC(C:Cells l s.heap H)(x:HOk P w H s.heap):HOk P w (trC l s.heap H) s.heap:=λ b u e=>by
 by_cases hb:b∈l
 ·obtain⟨o,v,g,_⟩:=C.cel b hb;rw[cf hb g]at e;cases e;exact⟨g,o,g⟩
 ·rw[Y9 hb]at e;exact(x b u e).stay (λ _ _ _ q=>q) (λ _ q=>C.same _ _ q) (λ _ _ q=>C.same _ _ q) λ _ _ _ _ _ q=>C.same _ _ q
theorem Env0.trC(C:Cells l s.heap H)(hb:∀c∈l,base.get? c=none)(hf:∀c∈l,c∉frs outer)(e:Env0 P w K mg base A outer s H):Env0 P w K mg base A outer s (trC l s.heap H):=
 ⟨e.frames,e.mod,λ b o q=>⟨(e.bs b o q).1,by rw[Y9 λ z=>by rw[hb b z]at q;cases q];exact(e.bs b o q).2⟩,e.bsz,e.funs,⟨λ b q=>by rw[Y9 λ z=>hf b z q];exact e.frf.1 b q,λ p hp=>C.same _ _ (e.frf.2 p hp)⟩,HOk.trC C e.hok,e.bare⟩
theorem CE.trC(C:Cells l s.heap H)(h:CE outer P w (trC l s.heap H) s Q' u s')(hq:∀v H',Same (trC l s.heap H) H'->Q' v H'->Q v (L2.wo l H'))(hs:∀v H',Q' v H'->Same (trC l s.heap H) H'):CE outer P w H s Q u s':=by
 obtain⟨v,H',os,bare,un,hok,r,q⟩:=h;have at1:∀{b:EG},b∈l->∃o v,s.heap.get? b=some o/\o.data=.cell v/\H' b=some (.frz o (.own b))/\s'.heap.get? b=some o:=λ {b} hb=>by obtain⟨o,v,g,d⟩:=C.cel b hb;have z:=un.frzs b o _ (cf hb g);exact⟨o,v,g,d,z,(hok b _ z).1⟩
 refine⟨v,L2.wo l H',os,bare,⟨λ b o e n hf hx=>?_,λ b o e n hf hx=>?_,λ b o e n hx=>?_,un.there,λ b xs e=>?_,λ b o x e=>?_,λ b x e=>?_⟩,λ b x e=>?_,r,hq v H' (hs v H' q) q⟩
 ·by_cases hb:b∈l
  ·obtain⟨o',_,g,_,_,g'⟩:=at1 hb;rw[e]at g;cases g;exact g'
  ·exact un.keep b o e (by rw[Y9 hb];exact n) hf hx
 ·by_cases hb:b∈l
  ·obtain⟨o',_,g,_,_,g'⟩:=at1 hb;rw[e]at g;cases g;exact⟨o.slots,g'⟩
  ·exact un.slot b o e (by rw[Y9 hb];exact n) hf hx
 ·by_cases hb:b∈l
  ·exact Y7 hb
  ·rw[i7 hb];exact un.free b o e (by rw[Y9 hb];exact n) hx
 ·rw[i7 λ z=>by rw[C.none b z]at e;cases e];exact un.tups b xs (C.same _ _ e)
 ·rw[i7 λ z=>by rw[C.none b z]at e;cases e];exact un.frzs b o x (C.same _ _ e)
 ·rw[i7 λ z=>by rw[C.none b z]at e;cases e];exact un.tbls b x (C.same _ _ e)
 ·obtain⟨hb,e⟩:=x3 e;refine(hok b x e).stay (λ _ _ _ q=>q) (λ b' q=>?_) (λ b' _ q=>?_) λ b' o' _ vs d q=>?_
  ·rw[i7 λ z=>by obtain⟨_,_,_,_,g,_⟩:=at1 z;rw[q]at g;cases g];exact q
  ·rw[i7 λ z=>by obtain⟨_,_,_,_,g,_⟩:=at1 z;rw[q]at g;cases g];exact q
  ·rw[i7 λ z=>by obtain⟨_,_,_,d',g,_⟩:=at1 z;rw[q]at g;cases g;rw[d]at d';cases d'];exact q
structure CellsT(l:List Addr)(h:Heap)(H:Hp):Prop where
 at_:∀c∈l,∃o v,H c=some (.frz o (.own c))/\h.get? c=some o/\o.data=.cell v
noncomputable def ov(l:ge EG)(H H':Hp):Hp:=λ b=>if b∈l then H b else H' b
theorem jl(h:b∈l):ov l H a b=H b:=i3 h
theorem V7(h:b∉l):ov l H a b=a b:=i4 h
theorem HOk.woC(C:CellsT l s.heap H)(x:HOk P w H s.heap):HOk P w (L2.wo l H) s.heap:=λ b u e=>by
 obtain⟨hb,e⟩:=x3 e;refine(x b u e).stay (λ _ _ _ q=>q) (λ c q=>?_) (λ c _ q=>?_) λ c o' _ vs d q=>?_
 ·rw[i7 λ z=>by obtain⟨_,_,g,_⟩:=C.at_ _ z;rw[q]at g;cases g];exact q
 ·rw[i7 λ z=>by obtain⟨_,_,g,_⟩:=C.at_ _ z;rw[q]at g;cases g];exact q
 ·rw[i7 λ z=>by obtain⟨_,_,g,_,a⟩:=C.at_ _ z;rw[q]at g;cases g;rw[d]at a;cases a];exact q
theorem CE.woC(C:CellsT l s.heap H)(m:∀b∈frs outer,H b=none)(h:CE outer P w (L2.wo l H) s Q' u s')(J:∀v i,(∀c∈l,i c=none)->Q' v i->Q v (ov l H i)):CE outer P w H s Q u s':=by
 obtain⟨v,i,F,p,un,A,r,q⟩:=h;have I:∀c∈l,c∉frs outer:=λ c y z=>by obtain⟨_,_,g,_⟩:=C.at_ c y;rw[m c z]at g;cases g
 have f:∀c∈l,i c=none:=λ c y=>by obtain⟨o,_,_,g,_⟩:=C.at_ c y;exact un.free c o g (Y7 y) (by simp)
 refine⟨v,ov l H i,F,p,⟨λ b o e n m j=>?_,λ b o e n m j=>?_,λ b o e n j=>?_,un.there,λ b E e=>?_,λ b o x e=>?_,λ b x e=>?_⟩,λ b x e=>?_,r,J v i f q⟩
 ·have a:b∉l:=λ z=>by obtain⟨_,_,g,_⟩:=C.at_ b z;rw[n]at g;cases g
  exact un.keep b o e (by rw[i7 a];exact n) m j
 ·have a:b∉l:=λ z=>by obtain⟨_,_,g,_⟩:=C.at_ b z;rw[n]at g;cases g
  exact un.slot b o e (by rw[i7 a];exact n) m j
 ·have a:b∉l:=λ z=>by obtain⟨_,_,g,_⟩:=C.at_ b z;rw[n]at g;cases g
  rw[V7 a];exact un.free b o e (by rw[i7 a];exact n) j
 ·have a:b∉l:=λ z=>by obtain⟨_,_,g,_⟩:=C.at_ b z;rw[e]at g;cases g
  rw[V7 a];exact un.tups b E (by rw[i7 a];exact e)
 ·by_cases a:b∈l
  ·rw[jl a];exact e
  ·rw[V7 a];exact un.frzs b o x (by rw[i7 a];exact e)
 ·have a:b∉l:=λ z=>by obtain⟨_,_,g,_⟩:=C.at_ b z;rw[e]at g;cases g
  rw[V7 a];exact un.tbls b x (by rw[i7 a];exact e)
 ·by_cases a:b∈l
  ·rw[jl a]at e;obtain⟨o,_,g,K,_⟩:=C.at_ b a;rw[g]at e;cases e;have k:=un.keep b o K (Y7 a) (I b a) (by simp);exact⟨k,o,k⟩
  ·rw[V7 a]at e;refine(A b x e).stay (λ _ _ _ q=>q) (λ B q=>?_) (λ B _ q=>?_) λ B o' _ vs d q=>?_
   all_goals (rw[V7 λ z=>by rw[f _ z]at q;cases q];exact q)
end
noncomputable def fb(P:EL)(w:EK)(K:EQ)(mg:Str->EC ED)(base:EH)(N:ge Str)(qual:Str)(scope:ER)(f:EG)(cd:ED)(cl:ge (Str×EG))(A:EM)(outer:ge Env)(s:EF)(H:Hp):Cx where
 prog:=P
 w:=w
 K:=K
 mg:=mg
 base:=base
 A:=A.deeper (PySem.W.envX qual scope s.heap.objs.size f cd cl)
 N:=N
 s₀:=s
 H₀:=H
 env:=PySem.W.envX qual scope s.heap.objs.size f cd cl
 outer:=outer
 stack:=PySem.W.envX qual scope s.heap.objs.size f cd cl::outer
 ex:=[]
 calm:=true
 fn:=λ _=>false
 pn:=[]
 xe:=λ _ _=>False
theorem zo{P:EL}{w:EK}{K:EQ}{base:EH}{A:EM}{j:ge Env}{s:EF}{H:Hp}{l:ge EG}{N ps:ge Str}{q:Str}{scope:ER}{f:EG}{M:ge ED}{vs ws:ge V}{cd:ED}{k:EH}{tk:Nat}(S:LamScope N ps scope cl l)(C:CellsT l s.heap H)(hd:A.handled=none)(B:Env0 P w K mg base A j s H)(hl:vs.length=ps.length)(r:Vals vs M)(Z:N.length=ps.length+ws.length)
  (hw:∀i x v,N[ps.length+i]? = some x->ws[i]? = some v->∃c u,cl.lookup x=some c/\s.heap.IsCell c (some u)/\RelV v u)
  (Y:k.Ns s.heap.objs.size (λ x=>(ps.zip M).reverse.lookup x)) (R:∀b o,s.heap.get? b=some o->k.get? b=some o) :
  Inv (fb P w K mg base N q scope f cd cl A j s (L2.wo l H)) [] ((vs++ws).map some) (L2.wo l H) {s with heap:=k,toks:=tk}:=by
 have nl:∀{b:EG},H b=none->b∉l:=λ {b} n z=>by obtain⟨_,_,g,_⟩:=C.at_ b z;rw[n]at g;cases g
 have I:∀b:EG,b∉(fb P w K mg base N q scope f cd cl A j s (L2.wo l H)).ex:=λ b z=>absurd (show b∈([]:ge EG)from z) (by simp);have U:∀{b:EG},H b=none->L2.wo l H b=none:=λ {b} n=>by rw[i7 (nl n)];exact n
 have F:∀x c,cl.lookup x=some c->∃v,k.IsCell c v:=λ x c e=>by obtain⟨o,v,_,g,d⟩:=C.at_ c (S.mem x c e);exact⟨v,o,R _ _ g,d⟩
 refine⟨⟨B.mod,S.kind,rfl,rfl,j0 _,S.inj,λ y J=>?_,λ y c z=>(nomatch z),λ _=>hd,Around.frames_deeper B.frames,.inr ⟨rfl,rfl⟩,λ b z=>absurd z (I b),λ b o e=>⟨(B.bs b o e).1,U (B.bs b o e).2⟩,B.bsz,λ b _ _=>I b,λ b z=>absurd z (I b),B.funs,λ b hb=>U (B.frf.1 b hb),λ p L=>?_⟩,
  rfl,B.bare,Un.kept R,⟨_,Y,λ i y v Q O h3=>?_⟩,F,?_,λ y c h=>Y7 (S.mem y c h),λ p L=>absurd (show p∈([]:ge (EG×Obj))from L) (by simp),(HOk.woC C B.hok).kept R,?_⟩
 ·have J:=J;rcases J with J | J
  ·exact absurd rfl (S.nocell _ (C9 J))
  ·exact S.has y J
 ·have z:=B.frf.2 p L;show L2.wo l H p.1=_;rw[i7 λ m=>by obtain⟨_,_,g,_⟩:=C.at_ _ m;rw[z]at g;cases g];exact z
 ·have Q:N[i]? = some y:=Q;rw[u9]at O;have E:(vs++ws)[i]? = some v:=by
   cases z:(vs++ws)[i]? with
   | none=>rw[z]at O;cases O
   | some a=>rw[z]at O;exact congrArg some (v5 (v5 O))
  by_cases hi:i<ps.length
  ·rw[P0 (by omega)]at E;obtain⟨u,hu,rv⟩:=r.get E;have L:ps[i]? = some y:=by rw[←S.pre,jW hi];exact Q
   have W:ps.Nodup:=by rw[←S.pre];exact S.nd.sublist (fL _ _)
   refine⟨u,rv,.inl ⟨S.par y (M9 L),?_⟩⟩;show(ps.zip M).reverse.lookup y=some u;have X:((ps.zip M).reverse.map (·.1)).Nodup:=by rw[List.map_reverse,List.map_fst_zip (by have:=r.length;omega)];exact List.pairwise_reverse.mpr (List.Pairwise.imp (λ h=>Ne.symm h) W)
   refine X8 X (List.mem_reverse.mpr ?_);have hz:(ps.zip M)[i]? = some (y,u):=by rw[fA];exact⟨L,hu⟩
   exact M9 hz
  ·rw[W4 (by omega)]at E;obtain⟨c,u,e1,e2,e3⟩:=hw (i - vs.length) y v (by rw[show ps.length+(i - vs.length)=i by omega];exact Q) E;exact⟨u,e3,.inr ⟨.inr (S.fre i y (by omega) Q),c,e1,e2.keeps R⟩⟩
 ·show L2.wo l H s.heap.objs.size=none;exact U (B.hok.fresh (j0 _))
 ·show((vs++ws).map some).length=N.length;rw[n8,B7];omega
theorem zq{K:EQ}(S:LamScope N ps scope cl l)(C:CellsT l s.heap H)(M:A.depth<recursionLimit/\A.handled=none)(m:Env0 P w K mg base A outer s H)(hf:R5 H q params body scope cl f)
  (h:∀B a j,bindArgs (PySem.W.kla_fn "<lambda>" q params body scope cl B (.ref a) j) ⟨us,[]⟩=pure (ps.zip us)) (hl:vs.length=ps.length) (r:Vals vs us) (p:N.length=ps.length+ws.length)
  (Y:∀i x v,N[ps.length+i]? = some x->ws[i]? = some v->∃c u,cl.lookup x=some c/\s.heap.IsCell c (some u)/\RelV v u)
  (g:∀a,∃t,PE (fb P w K mg base N q scope f (.ref a) cl A outer s (L2.wo l H)) body t/\t ((vs++ws).map some) (L2.wo l H) (λ v k=>(∀c∈l,k c=none)->Q v (ov l H k))) :
  codeAny (model P w) A (.call (.ref f) ⟨us,[]⟩) (CR CX outer P w H s Q E) s:=by
 obtain⟨a,W,u,y,t,B,j,h1,h2,h3,h4⟩:=hf;refine PySem.W.kla_callFunE M.1 ((m.hok f _ h1).1) rfl S.co S.gen rfl ⟨a,W,y,t,rfl,((m.hok a _ h2).1),h3,h4⟩ ?_;show wpAny _ _ _ _ _ s;rw[h B a j];refine i0 (wpAny_newFunctionEnv S.nocell (λ x X=>S.par x.1 (cW X).1) (λ L I n=>⟨(m.mod.nolimit.keeps λ b o e=>(m.bs b o e).1).fresh _ n,?_⟩) S.kind);show codeAny _ _ _ _ _;obtain⟨t,Z,hq⟩:=g a;exact PySem.W.kla_codeExpr (k7 (Z [] _ _ _ _ (zo S C M.2 m hl r p Y I (λ b o e=>n.extBut b o (j5 (i8 e)) (i5 _ e))) hq) (λ v R ⟨O,k,J,U,z⟩=>CE.woC (Q':=λ v k=>(∀c∈l,k c=none)->Q v (ov l H k)) C m.frf.1 ⟨O,k,J.os,J.bare,J.base,J.hok,U,z⟩ λ _ _ z q=>q z) λ e R z=>(z:False).elim)
structure RoomL(k:Nat)(A:Around):Prop where
 hd:A.handled=none
 dp:A.depth+3*k+5<recursionLimit
 un:A.units+16*k+198<cLine
theorem Room.toL(r:Room k A):RoomL k A:=⟨r.hd,r.dp,by have:=r.un;omega⟩
theorem RoomL.deeper(r:RoomL (k+1) A)(env:Env):Room k (A.deeper env):=
 ⟨r.hd,by have:=r.dp;show A.depth+1+3*k+5<_;omega,by have:=r.un;show A.units+3+16*k+200<_;omega⟩
theorem RoomL.ok(r:RoomL k A):A.depth<recursionLimit/\A.handled=none:=⟨by have:=r.dp;omega,r.hd⟩
def cg(P:EL)(w:EK)(K:EQ)(mg:Str->EC ED)(base:EH)(fn bl cl:ge Str)(k:Nat)(Fl:ge DV->EC Ou):Prop:=
 ∀(A:EM) (outer:ge Env) (s:EF) (H:Hp) (us:ge ED) (vs:ge V) (Q:VK) (E:XK) (O:ge EG) (f:EG) (m:LamD) (cs ds:ge DV) (d:DV),RoomL k A->Env0 P w K mg base A outer s H->Vals vs us->Hdn O H->m.fn=fn->m.bl=bl->m.cl=cl ->
  Rep ⟨K,mg⟩ (L2.wo O H) (.lam m cs) (.ref f)->RepL ⟨K,mg⟩ (L2.wo O H) ds vs->Fl (.lam m cs::ds)=some (.v d false)->(∀v H',Same H H'->Rep ⟨K,mg⟩ (L2.wo O H') d v->Q v H') ->
  codeAny (model P w) A (.call (.ref f) ⟨us,[]⟩) (CR (CXx P w base) outer P w H s Q E) s
theorem pj(I:Inv X a σ H s)(h:Rep X.D (L2.wo O H) (.lam m e) (.ref f)):PySem.W.FnAt f s.heap:=by
 obtain⟨f',pr,bd,sc,q,cl,l,ws,c,⟨c',oc,u,vs,t,pm,d,b,_⟩,_⟩:=bT.mp h;cases c;exact⟨_,_,_,_,(I.hok _ _ (x3 b).2).1⟩
theorem zr(lo:cg X.prog X.w X.K X.mg X.base fn bl cl k (F D4))(hr:Room k X.A)(hv:PE X (.Name x p) (tVar i))(h1:m.fn=fn)(h2:m.bl=bl)(h3:m.cl=cl)(S:δ[i]? = some (.val (.lam m J)))
  (ha:∀q,rs=some q->PA X (e::es) (dA X.D E δ q)) (hs:j3 e=false) (P:es.any j3=false) (h:(Rs.thn rs λ l=>dZ F m J l)=some N):PE X (.Call (.Name x p) (e::es) [] pos) (dE X.D E δ N):=by
 have C:∀{t:TA},PA X _ t->PE X (.Call (.Name x p) (e::es) [] pos) (λ a H Q=>∃(O W:ge EG) (v:V),RSt X.D H a δ O W/\a[i]? = some (some v)/\t a H λ L j=>Same H j/\∃M d,RepL X.D (L2.wo (O++W) j) M L/\F D4 (.lam m J::M)=some (.v d false)/\∀v K,Same j K->Rep X.D (L2.wo (O++W) K) d v->Q v K):=λ {t} A=>by
  intro b s a H Q I h;obtain⟨O,W,v,R,h0,h⟩:=h;obtain⟨v',w,B⟩:=R.val i _ S;rw[h0]at w;cases w;obtain⟨f,_,_,_,_,_,_,_,ev,_⟩:=bT.mp B;subst ev;refine S9 (thn (hv b s a H (λ v j=>v=.ref f/\j=H) I ⟨_,h0,rfl,rfl⟩) λ u s1 ⟨v,j,I1,r1,q1,q2⟩=>?_);subst q1 q2;obtain rfl:u=Value.ref f:=r1;refine PySem.W.callWith_F (pj I1 B) (thn (A pos b s1 a j _ I1 h) λ us Z ⟨L,H2,Y,r,sm,M,d,U,g2,g3⟩=>?_) (j9 hs) (Y8 es P);have e3:=B.mono sm.wo;refine⟨pj Y e3,?_⟩;refine bf (J4 (lo X.A X.stack Z H2 us L Q (λ _ _ _=>False) (O++W) f m J M d hr.toL Y.env0 r (R.hid.mono sm).hdA h1 h2 h3 e3 U g2 g3) λ r s' y=>?_);cases r with
  | error e=>
   obtain⟨_,_,_,_,_,_,_,_,_,_,z⟩:=(y:CXx X.prog X.w X.base X.stack H2 Z (λ _ _ _=>False) e s');exact z.elim
  | ok fl=>
   cases fl with
   | ret u=>exact Y.after y
   | next=>exact False.elim y
   | brk=>exact False.elim y
   | cont=>exact False.elim y
 cases n:rs with
 | none=>rw[n]at h;cases h
 | some q=>
  rw[n]at h;have A:=ha q n;cases q with
  | ex c=>
   cases h;exact(C A).weak λ a H Q ⟨O,W,R,p⟩=>by obtain⟨v,w,_⟩:=R.val i _ S;exact⟨O,W,v,R,w,O,W,R,p⟩
  | ok l=>
   have o:dZ F m J l=some N:=h;unfold dZ at o;split at o
   ·rename_i z;split at o
    ·rename_i d w;cases o;exact(C A).weak λ a H Q ⟨O,W,R,p⟩=>by obtain⟨v,B,_⟩:=R.val i _ S;exact⟨O,W,v,R,B,O,W,R,λ L j s1 U=>⟨s1,_,d,U.strong (R.hid.mono s1) z,w,λ v K s g=>p v K (s1.trans s) g⟩⟩
    ·cases o
   ·cases o
section
variable {D:Dm} {O l:ge EG} {H:Hp}
theorem cj(d:∀c∈l,∃o,H c=some (.frz o (.own c)))(h:L2.wo O H b=some u)(a:∀o c,u ≠ .frz o (.own c)):L2.wo O (L2.wo l H) b=some u:=by
 obtain⟨f,e⟩:=x3 h;rw[i7 f,i7 λ z=>by obtain⟨o,g⟩:=d b z;rw[e]at g;cases g;exact a _ _ rfl];exact e
mutual
theorem pk(hl:∀c∈l,∃o,H c=some (.frz o (.own c))):∀{d:DV} {v:V},d.nolam=true->Rep D (L2.wo O H) d v->Rep D (L2.wo O (L2.wo l H)) d v
 | .non,_,_,h=>by unfold Rep at h ⊢;exact h
 | .bl _,_,_,h=>by unfold Rep at h ⊢;exact h
 | .int _,_,_,h=>by unfold Rep at h ⊢;exact h
 | .str _,_,_,h=>by unfold Rep at h ⊢;exact h
 | .tup ds,_,m,h=>by
  unfold Rep at h ⊢;obtain⟨a,xs,e1,e2,e3⟩:=h;unfold DV.nolam at m;refine⟨a,xs,e1,?_,cm hl m e3⟩;rcases e2 with(h | ⟨o,h⟩) | h
  ·exact .inl (.inl (cj hl h (by intro o c z;cases z)))
  ·exact .inl (.inr ⟨o,cj hl h (by intro o c z;cases z)⟩)
  ·exact .inr h
 | .lst ds,_,m,h=>by unfold Rep at h ⊢;obtain⟨a,xs,e1,e2,e3⟩:=h;unfold DV.nolam at m;exact⟨a,xs,e1,cj hl e2 (by intro o c z;cases z),cm hl m e3⟩
 | .dct _ _,_,_,h=>(bU h).elim
 | .exc C,_,_,h=>by unfold Rep at h ⊢;obtain⟨a,C,e1,e2,e3⟩:=h;exact⟨a,C,e1,e2,cj hl e3 (by intro o c z;cases z)⟩
 | .fn _,_,_,h=>by unfold Rep at h ⊢;exact h
 | .lam _ _,_,m,_=>by unfold DV.nolam at m;cases m
 | .scr _,_,_,h=>by
  unfold Rep at h ⊢;obtain⟨a,e1,e2⟩:=h;refine⟨a,e1,?_⟩;rcases e2 with⟨o,h⟩ | h
  ·exact .inl ⟨o,cj hl h (by intro o c z;cases z)⟩
  ·exact .inr h
theorem cm(hl:∀c∈l,∃o,H c=some (.frz o (.own c))):∀{ds:ge DV} {xs:ge V},DV.nolams ds=true->RepL D (L2.wo O H) ds xs->RepL D (L2.wo O (L2.wo l H)) ds xs
 | [],_,_,h=>by unfold RepL at h ⊢;exact h
 | d::ds,_,m,h=>by unfold RepL at h ⊢;obtain⟨v,vs,e1,e2,e3⟩:=h;unfold DV.nolams at m;rw[g9]at m;exact⟨v,vs,e1,pk hl m.1 e2,cm hl m.2 e3⟩
end
end
section
variable {X:Cx} {pins:ge (EG×Obj)} {σ:St} {H:Hp} {s:EF} {sc:ER} {N ps:ge Str}
theorem jm(d:∀y∈sc.names,y.2=NameKind.free->∃a,b.lookup y.1=some a)(h:(n5 b sc.names []).lookup x=some c):b.lookup x=some c/\(x,NameKind.free)∈sc.names:=by
 rcases bt d (C9 h)with z | z
 ·cases z
 ·exact z
theorem pp(g:∀y∈sc.names,y.2=NameKind.free->∃a,b.lookup y.1=some a)(f:(x,NameKind.free)∈sc.names)(d:b.lookup x=some c):(n5 b sc.names []).lookup x=some c:=by
 obtain⟨c',e⟩:=gO (dN f d);have:=(jm g e).1;rw[d]at this;cases this;exact e
structure LamTx(N ps:List Str)(sc:Scope):Prop where
 kind:sc.kind=.function
 co:sc.isCoroutine=false
 gen:sc.isGenerator=false
 nd:N.Nodup
 pre:N.take ps.length=ps
 par:∀x∈ps,sc.names.lookup x=some .local
 nocell:∀y∈sc.names,y.2 ≠ .cell
 fre:∀i x,ps.length<=i->N[i]? = some x->sc.names.lookup x=some .free
theorem LamTx.full(T:LamTx N ps sc)(I:Inv X pins σ H s)(b:∀y∈sc.names,y.2=NameKind.free->∃a,X.env.cells.lookup y.1=some a):LamScope N ps sc (n5 X.env.cells sc.names []) ((n5 X.env.cells sc.names []).map (·.2)) where
 kind:=T.kind
 co:=T.co
 gen:=T.gen
 nd:=T.nd
 pre:=T.pre
 par:=T.par
 nocell:=T.nocell
 fre:=T.fre
 has:=λ x h=>by have d:=C9 h;obtain⟨c,e⟩:=b _ d rfl;exact⟨c,pp b d e⟩
 inj:=λ x y c g f=>I.ok.inj x y c (jm b g).1 (jm b f).1
 mem:=λ x c h=>G6.mpr ⟨_,C9 h,rfl⟩
theorem jn(I:Inv X pins σ H s)(d:∀y∈sc.names,y.2=NameKind.free->∃a,X.env.cells.lookup y.1=some a):∀c∈(n5 X.env.cells sc.names []).map (·.2),∃x,X.env.cells.lookup x=some c/\(x,NameKind.free)∈sc.names:=λ c e=>by
 obtain⟨⟨x,c'⟩,b,rfl⟩:=G6.mp e;rcases bt d b with z | z
 ·cases z
 ·exact⟨x,z.1,z.2⟩
theorem Cells.of(I:Inv X pins σ H s)(f:∀y∈sc.names,y.2=NameKind.free->∃a,X.env.cells.lookup y.1=some a):Cells ((n5 X.env.cells sc.names []).map (·.2)) s.heap H where
 none:=λ c b=>by obtain⟨x,e,_⟩:=jn I f c b;exact I.freeC x c e
 cel:=λ c b=>by obtain⟨x,e,_⟩:=jn I f c b;obtain⟨v,o,g,d⟩:=I.cell x c e;exact⟨o,v,g,d⟩
theorem zt(I:Inv X pins σ H s)(h:∀y∈sc.names,y.2=NameKind.free->∃a,X.env.cells.lookup y.1=some a)(d:∀y∈sc.names,y.2=NameKind.free->X.fn y.1=true):∀c∈(n5 X.env.cells sc.names []).map (·.2),X.base.get? c=none/\c∉frs X.stack:=λ c i=>by
 obtain⟨x,e,g⟩:=jn I h c i;have b:=I.ok.cab x c (d _ g rfl) e;refine⟨aR (o6 I.ok.bsz b),λ z=>?_⟩;rcases i6.mp (I.stkSub c z)with w | w
 ·exact I.cne x c e w
 ·obtain⟨_,o,f,_⟩:=I.ok.funs.mem w
  exact absurd (q5 (i8 f) b) (N4 _)
end
section
variable {X:Cx} {E:St->XK} {δ:ge Sv} {ea eb bd:EI} {pos p lp:Pos} {re:Re} {k:Nat} {x:Str} {pr:ES} {sc:ER} {c P:EG} {m:LamD} {cs:ge DV} {fr:ge Nat}
def tLam(X:Cx)(pr:ES)(bd:EI)(sc:ER):TE:=λ _ H Q=>∀f H',Same H H'->H f=none->R5 H' (X.env.qual ++ "<lambda>") pr bd sc (n5 X.env.cells sc.names []) f->Q (.ref f) H'
theorem zu(L:LamAt X sc c P)(a:defaultsOf pr X.env=([],[])):PE X (.Lambda pr bd sc lp) (tLam X pr bd sc):=by
 intro b s σ H Q I h;exact zn I L a λ f d s' g sm e lf=>⟨.ref f,d,g,rfl,h f d sm e lf⟩
theorem pq(R:RSt D H σ δ O W):∀{b:ge Nat} {cs:ge DV},capD δ b=some cs->∃a:ge V,a.length=b.length/\RepL D (L2.wo (O++W) H) cs a/\∀(j i:Nat) v,b[j]? = some i->a[j]? = some v->σ[i]? = some (some v)
 | [],cs,h=>by cases h;exact⟨[],rfl,by unfold RepL;rfl,λ j i v h=>by cases h⟩
 | i::r,cs,h=>by
  unfold capD at h;split at h
  ·rename_i d ds q p;split at h
   ·cases h;obtain⟨a,l,k,g⟩:=pq R p;obtain⟨v,o,n⟩:=R.val i d q;refine⟨v::a,by rw[o5,o5,l],t7.mpr ⟨v,a,rfl,n,k⟩,λ j m f e c=>?_⟩;cases j with
    | zero=>cases e;cases c;exact o
    | succ j=>exact g j m f e c
   ·cases h
  ·cases h
def Q3(X:Cx)(δ:ge Sv)(F:Nat->ge DV->EC Ou)(f:Nat)(m:LamD)(cs:ge DV)(pr:ES)(bd:EI)(sc:ER)(σ:St)(Q:VK):ge V->Hp->Prop:=λ vs H3=>∃va vb f' O W da db d,vs=[va,vb,.ref f']/\RSt X.D H3 σ δ O W/\f'∉O++W/\R5 H3 (X.env.qual ++ "<lambda>") pr bd sc (n5 X.env.cells sc.names []) f' /\
 RepL X.D (L2.wo (O++W) H3) [da,db] [va,vb]/\F f [da,db,.lam m cs]=some (.v d false)/\d.nolam=true/\∀v H',Same H3 H'->Rep X.D (L2.wo (O++W) H') d v->Q v H'
theorem zv(fo:FnOk X.prog X.w X.K X.mg X.base (CXx X.prog X.w X.base) k fa fd ps (spF X.D ps.length (F f)))(hn:∀ds o,F f ds=some o->ds.length=ps.length)(hr:Room k X.A)(hg:Gl X x)(hm:X.mg x=some (.ref fa))(hk:PySem.W.keepIn X.K (.ref fa)=true)
  (hb:u7 X.K fd ps []) (b9:(x==("__debug__" : Str))=false) (a5:j3 ea=false) (a4:j3 eb=false)
  (L:LamAt X sc c P) (a8:defaultsOf pr X.env=([],[])) (T:LamTx m.N (m.N.take m.np) sc) (a6:∀y∈sc.names,y.2=NameKind.free->X.fn y.1=true) (a9:bS m pr bd sc=true) (hN:m.N.length=m.np+fr.length) (a1:∀(j i:Nat),fr[j]? = some i->∃y,m.N[m.np+j]? = some y/\X.N[i]? = some y/\X.env.kindOf y=some .cell)
  (b2:capD δ fr=some cs) (ha:PE X ea (dE X.D E δ ra)) (hB:∀q,rb=some q->PE X eb (dE X.D E δ q))
  (h:(Re.thn (some ra) λ x cx=>Re.thn rb λ y cy=>ed F f [(x,cx),(y,cy)] (.lam m cs))=some re):PE X (.Call (.Name x p) [ea,eb,.Lambda pr bd sc lp] [] pos) (dE X.D E δ re):=by
 have C:∀{ta tb:TE},PE X ea ta->PE X eb tb->PE X (.Call (.Name x p) [ea,eb,.Lambda pr bd sc lp] [] pos) (λ σ H Q=>dL ta (dL tb (dL (tLam X pr bd sc) tNil)) σ H (Q3 X δ F f m cs pr bd sc σ Q)):=λ {ta tb} A B=>by
  intro a3 s σ H Q I h;refine S9 (Q6 I hg hm ?_ b9);refine aU (h₀:=X.base) I.ok.mod.kin hk (thn ((x9 A (x9 B (x9 (zu L a8) (D0) (by rfl)) (j9 a4)) (j9 a5)) pos a3 s σ H _ I h) λ us s1 ⟨vs,Y,n,r,q⟩=>⟨n.kIn,?_⟩) (j9 a5) (by rw[j9 a4];rfl);obtain⟨va,vb,f',O,W,da,db,d,e0,R,nO,lf,rp,hF,hd,hq⟩:=q;subst e0;generalize hl:(n5 X.env.cells sc.names []).map (·.2)=l;have Z:=Cells.of (sc:=sc) n (L.has n.ok);rw[hl]at Z;have nw:=zt (sc:=sc) n (L.has n.ok) a6;rw[hl]at nw;have S:=T.full n (L.has n.ok);rw[hl]at S;obtain⟨ws,w1,w2,w3⟩:=pq R b2;have same:=Z.same;have hdA:=R.hid.hdA;have lamR:Rep X.D (L2.wo (O++W) (trC l s1.heap Y)) (.lam m cs) (.ref f'):=by
   have ou:∀{b:EG} {o:Obj} {u:HO},Y b=some (.frz o u)->b∉O++W:=λ {b o u} e z=>by obtain⟨o',K,q2⟩:=hdA b z;rw[e]at K;cases K;cases q2
   have oc:∀{b:EG},b∈l->b∉O++W:=λ {b} hb z=>by obtain⟨o',K,q2⟩:=hdA b z;rw[Z.none b hb]at K;cases K
   refine bT.mpr ⟨f',pr,bd,sc,X.env.qual ++ "<lambda>",n5 X.env.cells sc.names [],l,ws,rfl,?_,a9,S,w2.mono same.wo,by rw[hN,w1],λ c M=>?_,λ i y v h1 h2=>?_⟩
   ·obtain⟨c',b5,u,vs,t,pm,c1,h1,h2,h3⟩:=lf;exact⟨c',b5,u,vs,t,pm,c1,by rw[i7 (ou h1)];exact same _ _ h1,by rw[i7 (ou h2)];exact same _ _ h2,h3⟩
   ·obtain⟨o,v,g,d'⟩:=Z.cel c M;exact⟨o,v,by rw[i7 (oc M)];exact cf M g,d'⟩
   ·have hi:i<fr.length:=by rw[←w1];exact(n7.mp h2).1
    have hj:fr[i]? = some fr[i]:=o4 hi;obtain⟨y',K,q2,q3⟩:=a1 i _ hj;rw[h1]at K;cases K;have hv:=w3 i _ v hj h2;obtain⟨mm,hn',b8⟩:=n.loc;obtain⟨u,rv,lk⟩:=b8 _ y v q2 hv (.inr (.inl q3));rcases lk with⟨k1,_⟩ | ⟨k1,cc,k2,o,k3,k4⟩
    ·have k1:=k1;rw[q3]at k1;cases k1
    ·have a7:=C9 (T.fre (m.np+i) y (by rw[T6];exact o6 (Nat.min_le_left _ _) (T9 _ _)) h1);have b0:=pp (L.has n.ok) a7 k2;have b1:cc∈l:=S.mem y cc b0;exact⟨cc,o,u,b0,by rw[i7 (oc b1)];exact cf b1 k3,k4,rv⟩
  have sp:spF X.D ps.length (F f) ([va,vb,.ref f']++[]) (trC l s1.heap Y) (λ v N=>Same (trC l s1.heap Y) N/\Rep X.D (L2.wo (O++W) N) d v) (λ _ _ _=>False):=by
   rw[v3];refine⟨O++W,[da,db,.lam m cs],_,λ a ha=>?_,hn _ _ hF,?_,hF,λ v N s g=>⟨s,g⟩⟩
   ·obtain⟨o,K,q2⟩:=hdA a ha;exact⟨o,same _ _ K,q2⟩
   ·obtain⟨v1,r1,e1,g1,g2⟩:=t7.mp rp;obtain⟨v2,r2,e2,g3,g4⟩:=t7.mp g2;cases e1;cases e2;exact t7.mpr ⟨_,_,rfl,g1.mono same.wo,t7.mpr ⟨_,_,rfl,g3.mono same.wo,t7.mpr ⟨_,_,rfl,lamR,A3.mpr rfl⟩⟩⟩
  have b7:(us++[]).length=ps.length:=by rw[v3,←r.length];exact fo.len _ _ _ _ (by rw[v3]at sp;exact sp)
  have bi:=hb s1 us n.kIn b7;rw[v3]at bi;rw[v3]at sp;refine bf (J4 (fo.run X.A X.stack s1 (trC l s1.heap Y) ⟨us,[]⟩ us [va,vb,.ref f'] _ _ hr (Env0.trC Z (λ c M=>(nw c M).1) (λ c M=>(nw c M).2) n.env0) bi r sp) λ r s' J=>?_);cases r with
  | error e=>
   obtain⟨_,_,_,_,_,_,_,_,_,_,z⟩:=(J:CXx X.prog X.w X.base X.stack (trC l s1.heap Y) s1 (λ _ _ _=>False) e s');exact z.elim
  | ok fl=>
   cases fl with
   | ret u=>
    refine n.after (Q:=Q) (CE.trC (Q:=Q) Z J (λ v N sm z=>?_) λ v N z=>z.1);refine hq v _ (λ b o e=>?_) (pk (λ c M=>?_) hd z.2)
    ·rw[i7 λ w=>by rw[Z.none b w]at e;cases e];exact sm _ _ (same _ _ e)
    ·obtain⟨o,v,g,_⟩:=Z.cel c M;exact⟨o,sm _ _ (cf M g)⟩
   | next=>exact False.elim J
   | brk=>exact False.elim J
   | cont=>exact False.elim J
 cases ra with
 | ex c=>cases h;exact(C ha (tb:=λ _ _ _=>False) λ _ _ _ _ _ _ z=>z.elim).weak λ σ H Q ⟨O,W,R,p⟩=>⟨O,W,R,p⟩
 | ok dx cx=>
  cases a2:rb with
  | none=>rw[a2]at h;cases h
  | some b4=>
  have b3:=hB _ a2;rw[a2]at h;cases b4 with
  | ex c=>cases h;exact(C ha b3).weak λ σ H Q ⟨O,W,R,p⟩=>⟨O,W,R,λ v H1 s1 g1=>⟨O,W,R.mono s1,λ N C' m' s'=>p N C' m' (s1.trans s')⟩⟩
  | ok dy cy=>
   have U:ed F f [(dx,cx),(dy,cy)] (.lam m cs)=some re:=h;unfold ed at U;split at U
   ·rename_i z;split at U
    ·rename_i d e1;split at U
     ·rename_i nl;cases U;refine(C ha b3).weak λ σ H Q ⟨O,W,R,p⟩=>⟨O,W,R,λ va H1 s1 g1=>⟨O,W,R.mono s1,λ vb H2 s2 g2=>λ f' Y s3 b6 lf=>?_⟩⟩
      have a0:=(s1.trans s2).trans s3;have c0:=R.hid.mono a0;refine⟨va,vb,f',O,W,dx,dy,d,rfl,R.mono a0,λ w=>R.hid.ot f' w ((s1.trans s2).free b6),lf,?_,e1,nl,λ v N s g=>p v N (a0.trans s) g⟩;have gl:GotL X.D O W H Y [(dx,cx),(dy,cy)] [va,vb]:=.cons (g1.mono (s2.trans s3)) (.cons ((g2.since s1).mono s3) .nil);exact gl.strong c0 z
     ·cases U
    ·cases U
   ·cases U
end
noncomputable def tyIs(T t:EU):Bool:=T==t||(T == "bool" && t == "int")
theorem zw{K:EQ}(h:T∈["NoneType","bool","int","str","tuple","list","dict"])(d:b∈["int","bool","str","list","tuple","dict"])(c:a∈["int","bool","str","list","tuple","dict"]) :
  PySem.W.kitAny K (.type T) [.type b,.type a]=some (tyIs T b||tyIs T a):=by
 have f:PySem.W.kitOne K _ _=some (tyIs T b):=V5 T b h d;have e:PySem.W.kitOne K _ _=some (tyIs T a):=V5 T a h c;unfold PySem.W.kitAny;rw[f];cases tyIs T b with
 | true=>rfl
 | false=>
  show PySem.W.kitAny K _ _=_;unfold PySem.W.kitAny;rw[e];cases tyIs T a<;>rfl
section
variable {X:Cx} {E:St->XK} {δ:ge Sv} {e:EI} {pos p:Pos} {ra:EC Re} {re:Re}
theorem zx(I:Inv X f σ H s)(r:Rep X.D H d v)(c:RelV v u)(e:tyS d=some T) :
  ∃k:EH->Prop,PySem.W.KitX X.K u (.type T) k/\k s.heap/\u ≠ .builtin "__main__.__loader__#opaque" /\ T∈["NoneType","bool","int","str","tuple","list","dict"]:=by
 cases d with
 | non=>cases e;rw[R7.mp r]at c;cases c;exact⟨_,PySem.W.kitx_none,True.intro,(λ z=>nomatch z),by simp⟩
 | bl b=>cases e;rw[R6.mp r]at c;cases c;exact⟨_,PySem.W.kitx_bool,True.intro,(λ z=>nomatch z),by simp⟩
 | int b=>cases e;rw[C5.mp r]at c;obtain⟨tk,rfl⟩:=c;exact⟨_,PySem.W.kitx_int,True.intro,(λ z=>nomatch z),by simp⟩
 | str b=>cases e;rw[(x0.mp r).1]at c;obtain⟨tk,rfl⟩:=c;exact⟨_,PySem.W.kitx_str,True.intro,(λ z=>nomatch z),by simp⟩
 | tup q=>
  cases e;obtain⟨a,l,j,i,p⟩:=y7.mp r;rw[j]at c;cases c;obtain⟨g,_,⟨o,h,m,_⟩,_⟩:=I.tuple i;exact⟨_,PySem.W.kitx_tuple,⟨o,h,m⟩,(λ z=>nomatch z),by simp⟩
 | lst q=>
  cases e;obtain⟨a,l,j,i,p⟩:=A2.mp r;rw[j]at c;cases c;obtain⟨_,g,n,_,_,h⟩:=I.lstM i;exact⟨_,PySem.W.kitx_list,⟨_,h,rfl⟩,(λ z=>nomatch z),by simp⟩
 | dct _ _=>exact(bU r).elim
 | exc _=>cases e
 | fn _=>cases e
 | lam _ _=>cases e
 | scr _=>cases e
def zy(X:Cx):ge V->Hp->VK->Prop:=λ xs H Q=>∃d T t1 t2 x q,xs=[x,.ref q]/\Rep X.D H d x/\tyS d=some T/\t1∈["int","bool","str","list","tuple","dict"]/\t2∈["int","bool","str","list","tuple","dict"]/\H q=some (.tup [.ty t1,.ty t2])/\Q (.bl (tyIs T t1||tyIs T t2)) H
theorem zA:v9 X (.builtin "isinstance") (zy X):=by
 intro c s σ H xs us Q I r h;obtain⟨d,T,t1,t2,x,q,rfl,p,C,F,E,B,k⟩:=h;obtain⟨u,w',rfl,m,a⟩:=dJ r;cases a;obtain⟨HH,Z,i,g,f⟩:=zx I p m C;obtain⟨A,o,⟨⟨oc,od,v,t⟩,z,y,n,w⟩,_⟩:=I.tuple (SqT.of B);obtain⟨u1,u2,e,l,j⟩:=dJ o;have b:=y;subst b w;cases l;cases j;subst e;exact PySem.W.kia_tup Z I.kIn i z (zw f F E) g λ tk=>⟨.bl _,H,I.tok tk,rfl,k⟩
theorem zB{kf:DV->EC Bool}(u:V6 x1=some g)(t:V6 a=some f)(L:Gl X "isinstance")(J:X.mg "isinstance" = none)
  (l:Gl X x1) (I:X.mg x1=none) (B:x1 ≠ "__name__") (d1:(x1==("__debug__" : Str))=false) (P:Gl X a) (F:X.mg a=none) (z:a ≠ "__name__") (Z:(a==("__debug__" : Str))=false)
  (i:∀d k,kf d=some k->∃T,tyS d=some T/\k=((tyOf d).contains x1||(tyOf d).contains a))
  (M:∀q,ra=some q->PE X e (dE X.D E δ q)) (o:j3 e=false) (h:(Re.thn ra λ y _=>(kf y).map λ k=>.ok (.bl k) .strong)=some re) :
  PE X (.Call (.Name "isinstance" p) [e,.Tuple [.Name x1 p1,.Name a p2] n m] [] pos) (dE X.D E δ re):=by
 obtain⟨b1,b2,b3⟩:=eZ u;obtain⟨c1,c2,c3⟩:=eZ t;have T1:PE X (.Name x1 p1) (tC (.ty g)):=dC l I b1 rfl B d1;have T2:PE X (.Name a p2) (tC (.ty f)):=dC P F c1 rfl z Z;have TT:=bo (pos:=m) (x1:=n) (x9 T1 (x9 T2 D0));have C:=λ x (N:PE X e x)=>bp (p:=p) (pos:=pos) zA L J gc (x9 N (x9 TT D0) (j9 o)) (by decide) (by decide) (j9 o)
 cases b:ra with
 | none=>rw[b]at h;cases h
 | some q=>
  rw[b]at h;have A:=M q b;cases q with
  | ex c=>cases h;exact(C _ A).weak λ w H Q ⟨O,W,R,p⟩=>⟨O,W,R,p⟩
  | ok d cl=>
   obtain⟨k,Y,U⟩:=j7.mp (h);cases U;obtain⟨T,j,K⟩:=i d k Y;have S:k=(tyIs T g||tyIs T f):=by rw[K,jk u j,jk t j];rfl
   exact(C _ A).weak λ w H Q ⟨O,W,R,p⟩=>⟨O,W,R,λ v H1 s1 l=>⟨show(2:Nat)<=sizeLine by decide,λ q r=>⟨d,T,g,f,v,q,rfl,(l.all (R.hid.mono s1)).mono (n0 r),j,b2,c2,o7,by rw[←S];exact p _ _ (s1.trans (n0 r)) K3⟩⟩⟩
end
section
variable {X:Cx} {E:St->XK} {δ:ge Sv} {v:EI} {te:TE} {pos kpos:Pos} {i:Int} {j:Nat}
theorem R9(c:H p=some (.dK []))(h:L2.wo O H b=some u)(a:u ≠ .dK []):L2.wo O (upd H p o) b=some u:=by
 obtain⟨d,e⟩:=x3 h;rw[i7 d,j1 (λ z=>by rw[z,c]at e;cases e;exact a rfl)];exact e
mutual
theorem zC{D:Dm}{O:ge EG}{H:Hp}{p:EG}{o:HO}(hp:H p=some (.dK [])):∀{d:DV} {v:V},Rep D (L2.wo O H) d v->Rep D (L2.wo O (upd H p o)) d v
 | .non,_,h=>by unfold Rep at h ⊢;exact h
 | .bl _,_,h=>by unfold Rep at h ⊢;exact h
 | .int _,_,h=>by unfold Rep at h ⊢;exact h
 | .str _,_,h=>by unfold Rep at h ⊢;exact h
 | .tup ds,_,h=>by
  unfold Rep at h ⊢;obtain⟨a,xs,e1,e2,e3⟩:=h;refine⟨a,xs,e1,?_,fe hp e3⟩;rcases e2 with(h | ⟨o,h⟩) | h
  ·exact .inl (.inl (R9 hp h (by intro z;cases z)))
  ·exact .inl (.inr ⟨o,R9 hp h (by intro z;cases z)⟩)
  ·exact .inr h
 | .lst ds,_,h=>by unfold Rep at h ⊢;obtain⟨a,xs,e1,e2,e3⟩:=h;exact⟨a,xs,e1,R9 hp e2 (by intro z;cases z),fe hp e3⟩
 | .dct _ _,_,h=>(bU h).elim
 | .exc C,_,h=>by unfold Rep at h ⊢;obtain⟨a,C,e1,e2,e3⟩:=h;exact⟨a,C,e1,e2,R9 hp e3 (by intro z;cases z)⟩
 | .fn _,_,h=>by unfold Rep at h ⊢;exact h
 | .lam m cs,_,h=>by
  unfold Rep at h ⊢;obtain⟨f,pr,bd,sc,q,cl,l,ws,e1,⟨c',oc,u,vs,t,pm,ctv,f1,f2,f3⟩,e3,e4,e5,g1,g2,g3⟩:=h;refine⟨f,pr,bd,sc,q,cl,l,ws,e1,⟨c',oc,u,vs,t,pm,ctv,R9 hp f1 (by intro z;cases z),R9 hp f2 (by intro z;cases z),f3⟩,e3,e4,fe hp e5,g1,λ c hc=>?_,λ i x v h1 h2=>?_⟩
  ·obtain⟨o,v,k1,k2⟩:=g2 c hc;exact⟨o,v,R9 hp k1 (by intro z;cases z),k2⟩
  ·obtain⟨c,o,u,k1,k2,k3⟩:=g3 i x v h1 h2;exact⟨c,o,u,k1,R9 hp k2 (by intro z;cases z),k3⟩
 | .scr _,_,h=>by
  unfold Rep at h ⊢;obtain⟨a,e1,e2⟩:=h;refine⟨a,e1,?_⟩;rcases e2 with⟨o,h⟩ | h
  ·exact .inl ⟨o,R9 hp h (by intro z;cases z)⟩
  ·exact .inr h
theorem fe{D:Dm}{O:ge EG}{H:Hp}{p:EG}{o:HO}(hp:H p=some (.dK [])):∀{ds:ge DV} {xs:ge V},RepL D (L2.wo O H) ds xs->RepL D (L2.wo O (upd H p o)) ds xs
 | [],_,h=>by unfold RepL at h ⊢;exact h
 | d::ds,_,h=>by unfold RepL at h ⊢;obtain⟨v,vs,e1,e2,e3⟩:=h;exact⟨v,vs,e1,zC hp e2,fe hp e3⟩
end
end
structure Wk(D:Dm)(J:It)(ds:List DV)(Oc Oi:List Addr)(H1:Hp):Prop where
 go:∀i H,Same (L2.wo Oc H1) (L2.wo Oc H)->i<ds.length->J.go i H
 same:∀i H x H',J.yld i H x H'->Same H H'
 yld:∀i H x H' d O2,Same (L2.wo Oc H1) (L2.wo Oc H)->Same (L2.wo Oi H1) (L2.wo Oi H)->J.yld i H x H'->ds[i]? = some d->(∀a∈O2,H a≠none/\(a∈Oi\/H1 a=none))->Rep D (L2.wo O2 H') d x
 stop:∀H,Same (L2.wo Oc H1) (L2.wo Oc H)->J.stop ds.length H
def hidW(O W:ge EG):Cl->ge EG
 | .top=>O
 | .weak=>O
 | _=>O++W
def zD(D:Dm)(E:St->XK)(σ:St)(O W:ge EG)(H:Hp)(R:It->Hp->Prop):Ri->Prop
 | .ok ds c=>∀J H',Same H H'->Wk D J ds (hidW O W c) (D7 O W c) H'->R J H'
 | .ex c=>∀H' C,D.mg c=some C->Same H H'->E σ C none H'
def dI(D:Dm)(E:St->XK)(δ:ge Sv)(r:Ri):TI:=λ σ H R=>∃O W,RSt D H σ δ O W/\zD D E σ O W H R r
theorem PI.weak(h:PI X tg a t)(k:∀b H R,t' b H R->t b H R):PI X tg a t':=λ c s b H R I q=>h c s b H R I (k b H R q)
theorem fg(s:Same (L2.wo O c) (L2.wo O H))(h:∀a∈d,H a≠none/\(a∈O\/c a=none)):Same (L2.wo O c) (L2.wo d H):=λ b o e=>by
 have q:=s b o e;obtain⟨f,e⟩:=x3 e;obtain⟨_,q⟩:=x3 q;rw[i7 λ z=>?_]
 ·exact q
 ·rcases(h b z).2 with w | w
  ·exact f w
  ·rw[w]at e;cases e
theorem Wk.list(h:SqL D.K (L2.wo f b) a xs)(r:RepL D (L2.wo c b) ds xs):Wk D (Itl D.K a) ds f c b where
 go:=λ i H s hi=>⟨xs,xs[i]'(by rwa [r.length]),m8.seq (s.seq h),o4 _⟩
 same:=λ i H x n y=>by rw[y.1];exact Same.refl _
 yld:=λ i H x n d O2 s g y e l=>by obtain⟨m,y⟩:=y;subst m;obtain⟨v,k,j⟩:=r.get e;have:=y xs (m8.seq (s.seq h));rw[k]at this;cases this;exact j.mono (fg g l)
 stop:=λ H s=>⟨xs,m8.seq (s.seq h),by rw[r.length];exact j0 _⟩
theorem Wk.tup(h:SqT D.K (L2.wo f b) a xs)(r:RepL D (L2.wo c b) ds xs):Wk D (Itt D.K a) ds f c b where
 go:=λ i H s hi=>⟨xs,xs[i]'(by rwa [r.length]),m8.tseq (s.tseq h),o4 _⟩
 same:=λ i H x n y=>by rw[y.1];exact Same.refl _
 yld:=λ i H x n d O2 s g y e l=>by obtain⟨m,y⟩:=y;subst m;obtain⟨v,k,j⟩:=r.get e;have:=y xs (m8.tseq (s.tseq h));rw[k]at this;cases this;exact j.mono (fg g l)
 stop:=λ H s=>⟨xs,m8.tseq (s.tseq h),by rw[r.length];exact j0 _⟩
theorem jo(a:Int)(n:Nat):(upTo a n).length=n:=by unfold upTo;rw[n8,ag]
theorem zE(h:(upTo a n)[i]? = some d):i<n/\d=.int (a+i):=by
 have b:i<n:=by have:=(n7.mp h).1;rw[jo]at this;exact this
 unfold upTo at h;rw[u9,fH b]at h;cases h;exact⟨b,rfl⟩
theorem Wk.range(a:Int)(n:Nat):Wk D (Itr a n) (upTo a n) h g j where
 go:=λ i H s b=>by rw[jo]at b;exact b
 same:=λ i H x k y=>by rw[y.1];exact Same.refl _
 yld:=λ i H x k d O2 s s' y e ho=>by obtain⟨f,y⟩:=y;subst f;obtain⟨_,c⟩:=zE e;subst c;exact C5.mpr y
 stop:=λ H s=>by rw[jo];exact j0 _
theorem Wk.str(x:Str):Wk D (Its x) (x.cps.toList.map λ c=>.str ⟨#[c]⟩) h g j where
 go:=λ i H s a=>by rw[n8]at a;exact a
 same:=λ i H v k y=>by rw[y.1];exact Same.refl _
 yld:=λ i H v k d O2 s s' y e ho=>by obtain⟨f,c,b,rfl⟩:=y;subst f;rw[u9,E7,b]at e;cases e;exact x0.mpr ⟨rfl,by show 1<=sizeLine;decide⟩
 stop:=λ H s=>by rw[n8];exact j0 _
theorem Got.walkL(g:Got D O W i H (.lst ds) c v)(h:Hid O W i H):∃a b,v=.ref a/\SqL D.K (L2.wo (hidW O W c) H) a b/\RepL D (L2.wo (D7 O W c) H) ds b:=by
 cases c with
 | weak=>obtain⟨a,b,f,e,d⟩:=A2.mp g;exact⟨a,b,f,SqL.of e,d⟩
 | top=>obtain⟨a,b,f,e0,e,d⟩:=g;exact⟨a,b,f,SqL.of e,d⟩
 | strong=>obtain⟨a,b,f,e,d⟩:=A2.mp g;exact⟨a,b,f,SqL.of e,d⟩
 | fresh=>obtain⟨a,b,f,e,d⟩:=A2.mp (g.strong h);exact⟨a,b,f,SqL.of e,d⟩
 | ft=>obtain⟨a,b,f,e,d⟩:=A2.mp (g.ft h);exact⟨a,b,f,SqL.of e,d⟩
theorem Got.walkT(g:Got D O W d H (.tup ds) c v)(e:Hid O W d H):∃a b,v=.ref a/\SqT D.K (L2.wo (hidW O W c) H) a b/\RepL D (L2.wo (D7 O W c) H) ds b:=by
 cases c with
 | weak=>exact y7.mp g
 | top=>
  obtain⟨a,b,i,h,f⟩:=y7.mp (g);exact⟨a,b,i,(n9 V3).tseq h,f⟩
 | strong=>exact y7.mp g
 | fresh=>obtain⟨_,_,_,_,q,_⟩:=g;cases q
 | ft=>exact y7.mp (g.ft e)
theorem Got.walkS(g:Got D O W f H (.scr e) c v)(h:Hid O W f H):∃a,v=.ref a/\SqL D.K (L2.wo (hidW O W c) H) a (e.map V.int):=by
 cases c with
 | weak=>obtain⟨a,d,b⟩:=O7.mp g;exact⟨a,d,b.sq⟩
 | top=>obtain⟨a,d,b⟩:=O7.mp (g);exact⟨a,d,(n9 V3).seq b.sq⟩
 | strong=>obtain⟨a,d,b⟩:=O7.mp g;exact⟨a,d,b.sq⟩
 | fresh=>obtain⟨_,_,_,_,q,_⟩:=g;cases q
 | ft=>obtain⟨a,d,b⟩:=O7.mp (g.ft h);exact⟨a,d,b.sq⟩
theorem pu(u:∀q,n=some q->PE X e (dE X.D E δ q))(h:G4 n=some r):PI X tg e (dI X.D E δ r):=by
 cases g:n with
 | none=>rw[g]at h;cases h
 | some q=>
  rw[g]at h;have A:=u q g;cases q with
  | ex c=>cases h;exact(gz A).weak λ k H l ⟨O,W,R,p⟩=>⟨O,W,R,p⟩
  | ok d c=>
   obtain⟨ds,b,f⟩:=j7.mp (h);cases f;unfold seqD at b;split at b
   ·cases b;exact(gz A).weak λ k H l ⟨O,W,R,p⟩=>⟨O,W,R,λ v j s1 i=>by
     obtain⟨a,b,f⟩:=i.walkS (R.hid.mono s1);exact⟨a,b,⟨_,m8.seq f⟩,p _ j s1 (.list f (V2 _))⟩⟩
   ·cases b;exact(gz A).weak λ k H l ⟨O,W,R,p⟩=>⟨O,W,R,λ v j s1 i=>by
     obtain⟨a,m,b,f,o⟩:=i.walkL (R.hid.mono s1);exact⟨a,b,⟨m,m8.seq f⟩,p _ j s1 (.list f o)⟩⟩
   ·cases b;exact(rL A).weak λ k H l ⟨O,W,R,p⟩=>⟨O,W,R,λ v j s1 i=>by
     obtain⟨a,m,b,f,o⟩:=i.walkT (R.hid.mono s1);exact⟨a,b,⟨m,m8.tseq f⟩,p _ j s1 (.tup f o)⟩⟩
   ·cases b;exact(yf A).weak λ k H l ⟨O,W,R,p⟩=>⟨O,W,R,λ v j s1 i=>⟨_,(i.str (R.hid.mono s1)).1,p _ j s1 (Wk.str _)⟩⟩
   ·cases b
theorem zF(h:gX i=true) : -(2^62)<=i/\i<2^62:=by
 unfold gX at h;simpa[g9]using h
theorem zG(h:G4 (o.map λ a=>Re.ok (.lst a) .fresh)=some b):∃a,o=some a/\b=.ok a .fresh:=by
 cases o with
 | none=>cases h
 | some a=>cases h;exact⟨a,rfl,rfl⟩
theorem zH(o:Gl X "range")(k:X.mg "range" = none)(r:∀q,rs=some q->PA X [e] (dA X.D E δ q))(i:j3 e=false)(h:G4 (Rs.thn rs λ l=>(rngD l).map λ f=>Re.ok (.lst f) .fresh)=some d)(n:∀l,rs=some (.ok l)->l.length=1) :
  PI X tg (.Call (.Name "range" p) [e] [] pos) (dI X.D E δ d):=by
 have C:=λ t (u:PA X [e] t)=>rO (tg:=tg) (p:=p) (pos:=pos) o k u (j9 i);cases a:rs with
 | none=>rw[a]at h;cases h
 | some q=>
  rw[a]at h;have A:=r q a;cases q with
  | ex c=>cases h;exact(C _ A).weak λ g H z ⟨O,W,R,p⟩=>⟨O,W,R,p⟩
  | ok l=>
   have l1:=n l a;obtain⟨f,b,y⟩:=zG (h);cases y;unfold rngD at b;split at b
   ·rename_i j c;split at b
    ·rename_i m;cases b;rw[g9]at m;have q:=zF m.1;exact(C _ A).weak λ g H z ⟨O,W,R,p⟩=>⟨O,W,R,λ vs B s1 x=>by
      obtain⟨v,rfl,w⟩:=x.one;exact⟨j,by rw[w.int (R.hid.mono s1)],q.1,q.2,p _ B s1 (.range _ _)⟩⟩
    ·cases b
   ·cases b
def cn:ge Nat->TGs
 | []=>gNil
 | i::is=>ll (bj i) (cn is)
def gT(K:EQ):Tg->TG
 | .one i=>bj i
 | .many is=>gTup K is.length (cn is)
theorem RSt.setVal(R:RSt D H σ δ O W)(r:Rep D (L2.wo (O++W) H) d v)(i:Nat):RSt D H (σ.set i (some v)) (δ.set i (.val d)) O W where
 val:=λ j A h=>by
  by_cases l:j=i
  ·subst l;have c:=(by have:=(n7.mp h).1;rw[v6]at this;exact this);rw[A4 c]at h;cases h;exact⟨v,A4 (by rw[R.len];exact c),r⟩
  ·rw[i9 (Ne.symm l)]at h ⊢;exact R.val j A h
 own:=λ j y h=>by
  by_cases l:j=i
  ·subst l;have c:=(by have:=(n7.mp h).1;rw[v6]at this;exact this);rw[A4 c]at h;cases h
  ·rw[i9 (Ne.symm l)]at h ⊢;exact R.own j y h
 inj:=λ j k a g m b e o n=>by
  have ne:∀{j:Nat} {g:DV},(δ.set i (.val d))[j]? = some (.own g)->j≠i:=λ {j g} b z=>by
   subst z;have c:j<δ.length:=by have:=(n7.mp b).1;rw[v6]at this;exact this
   rw[A4 c]at b;cases b
  have I:=ne b;have F:=ne e;rw[i9 (Ne.symm I)]at b o;rw[i9 (Ne.symm F)]at e n;exact R.inj j k a g m b e o n
 ot:=by
  have ne:∀{j:Nat} {s:Sv},(∀d,s ≠ .val d)->(δ.set i (.val d))[j]? = some s->j≠i:=λ {j s} hs b z=>by
   subst z;have c:j<δ.length:=by have:=(n7.mp b).1;rw[v6]at this;exact this
   rw[A4 c]at b;cases b;exact hs _ rfl
  obtain⟨P,f,u⟩:=R.ot;refine⟨P,λ j A h=>?_,λ j k g m b e=>?_⟩
  ·have E:=ne (by intro d z;cases z) h;rw[i9 (Ne.symm E)]at h ⊢;obtain⟨t,B,o,n,J,x⟩:=f j A h;refine⟨t,B,o,n,J,λ p w=>⟨(x p w).1,(x p w).2.1,λ k m q=>?_⟩⟩;have C:=ne (by intro d z;cases z) q;rw[i9 (Ne.symm C)]at q ⊢;exact(x p w).2.2 k m q
  ·rw[i9 (Ne.symm (ne (by intro d z;cases z) b))]at b;rw[i9 (Ne.symm (ne (by intro d z;cases z) e))]at e;exact u j k g m b e
 od:=R.od.step (bV _ (by intro d z;cases z)) (λ _ h _=>h) (λ _ _ _ h _=>h)
 len:=by rw[v6,v6];exact R.len
 hid:=R.hid
theorem jp:∀{g:ge Nat} {j:ge DV} {f:ge V} {c:St} {e a:ge Sv},RSt D H c e O W->RepL D (L2.wo (O++W) H) j f->N9 e g j=some a->(∀b,RSt D H b a O W->Q b H)->cn g f c H Q
 | [],[],f,c,e,a,R,r,h,q=>by cases h;exact⟨A3.mp r,q c R⟩
 | i::g,d::j,f,c,e,a,R,r,h,q=>by obtain⟨v,k,n,m,l⟩:=t7.mp r;exact⟨v,k,n,jp (R.setVal m i) l h q⟩
 | [],_::_,_,_,_,_,_,_,h,_=>by cases h
 | _::_,[],_,_,_,_,_,_,h,_=>by cases h
theorem fh:∀{is:ge Nat} {f:ge DV} {e c:ge Sv},N9 e is f=some c->is.length=f.length/\c.length=e.length
 | [],[],_,_,h=>by cases h;exact⟨rfl,rfl⟩
 | i::is,d::f,e,c,h=>by obtain⟨a,b⟩:=fh (is:=is) h;exact⟨by rw[o5,o5,a],by rw[b,v6]⟩
 | [],_::_,_,_,h=>by cases h
 | _::_,[],_,_,h=>by cases h
theorem cq(R:RSt D H σ δ O W)(r:Rep D (L2.wo (O++W) H) d x)(h:tg.bind d δ=some c)(q:∀b,RSt D H b c O W->Q b H):gT D.K tg x σ H Q:=by
 cases tg with
 | one i=>cases h;exact q _ (R.setVal r i)
 | many is=>
  unfold Tg.bind at h;dsimp at h;split at h
  ·rename_i ds;obtain⟨a,f,j,g,e⟩:=y7.mp r;exact⟨a,f,j,m8.tseq g,by rw[e.length,(fh h).1],jp R e h q⟩
  ·cases h
theorem RSt.less(R:RSt D H σ δ' O W)(m:δ.length=δ'.length)(h:∀(i:Nat) sv,δ[i]? = some sv->sv=.no\/δ'[i]? = some sv):RSt D H σ δ O W where
 val:=λ i d e=>by
  rcases h i _ e with z | z
  ·cases z
  ·exact R.val i d z
 own:=λ i d e=>by
  rcases h i _ e with z | z
  ·cases z
  ·exact R.own i d z
 inj:=λ i j a d B e x=>by
  rcases h i _ e with z | z
  ·cases z
  ·rcases h j _ x with y | y
   ·cases y
   ·exact R.inj i j a d B z y
 ot:=by
  obtain⟨P,f,u⟩:=R.ot;refine⟨P,λ i d e=>?_,λ i j A g o n=>?_⟩
  ·rcases h i _ e with z | z
   ·cases z
   ·obtain⟨t,l,w,v,r,c⟩:=f i d z;refine⟨t,l,w,v,r,λ p b=>⟨(c p b).1,(c p b).2.1,λ k g q=>?_⟩⟩;rcases h k _ q with y | y
    ·cases y
    ·exact(c p b).2.2 k g y
  ·rcases h i _ o with z | z
   ·cases z
   ·rcases h j _ n with y | y
    ·cases y
    ·exact u i j A g z y
 od:=R.od.step (λ j d e=>by
  rcases h j _ e with z | z
  ·cases z
  ·exact⟨z,rfl⟩) (λ _ h _=>h) (λ _ _ _ h _=>h)
 len:=by rw[m];exact R.len
 hid:=R.hid
theorem zI:∀{is:ge Nat} {f:ge DV} {b a:ge Sv},N9 b is f=some a->(∀i∈is,b[i]? = some .no\/b[i]? = none)->∀(i:Nat) sv,b[i]? = some sv->sv=.no\/a[i]? = some sv
 | [],[],_,_,h,_,i,sv,e=>by cases h;exact .inr e
 | j::is,d::f,b,a,h,p,i,sv,e=>by
  by_cases c:i∈j::is
  ·rcases p i c with z | z
   ·rw[z]at e;cases e;exact .inl rfl
   ·rw[z]at e;cases e
  ·have o:j≠i:=λ z=>c (by rw[z];exact o8);have n:=λ z=>c (j6 _ z);have g:∀{is:ge Nat} {f:ge DV} {b a:ge Sv},N9 b is f=some a->i∉is->b[i]? = some sv->a[i]? = some sv:=by
    intro is
    induction is with
    | nil=>intro f b a h _ e;cases f with
     | nil=>cases h;exact e
     | cons _ _=>cases h
    | cons k is m=>intro f b a h l e;cases f with
     | nil=>cases h
     | cons d f=>
      refine m h (λ z=>l (j6 _ z)) ?_;rw[i9 (λ z=>l (by rw[z];exact o8))];exact e
   exact .inr (g h c e)
 | [],_::_,_,_,h,_,_,_,_=>by cases h
 | _::_,[],_,_,h,_,_,_,_=>by cases h
theorem jq(h:tg.bind d δ=some δ')(b:∀i∈R4 tg,δ[i]? = some .no\/δ[i]? = none):δ.length=δ'.length/\∀(i:Nat) sv,δ[i]? = some sv->sv=.no\/δ'[i]? = some sv:=by
 cases tg with
 | one j=>
  cases h;refine⟨(v6 ..).symm,λ i sv e=>?_⟩;by_cases a:i=j
  ·subst a;rcases b i (by simp[R4])with z | z
   ·rw[z]at e;cases e;exact .inl rfl
   ·rw[z]at e;cases e
  ·exact .inr (by rw[i9 (Ne.symm a)];exact e)
 | many is=>
  unfold Tg.bind at h;dsimp only at h;split at h
  ·exact⟨(fh h).2.symm,zI h b⟩
  ·cases h
theorem RSt.inner(R:RSt D H σ δ O W)(fr:ge (EC Nat))(B:∀(j k i:Nat),fr[j]? = some (some i)->fr[k]? = some (some i)->j=k):RSt D H (L2.inner fr σ) (D3 fr δ) O W:=by
 have c:∀(j:Nat) sv,(D3 fr δ)[j]? = some sv->sv ≠ .no->∃i,fr[j]? = some _/\δ[i]? = some sv:=λ j sv h F=>by
  unfold D3 at h;rw[u9]at h;cases q:fr[j]? with
  | none=>rw[q]at h;cases h
  | some o=>
   rw[q]at h;cases o with
   | none=>cases h;exact absurd rfl F
   | some i=>
    refine⟨i,rfl,?_⟩;have f:(δ.getD i .no).plain=sv:=by simpa using h
    rw[W5]at f;cases z:δ[i]? with
    | none=>rw[z]at f;exact absurd f.symm F
    | some E=>
     rw[z]at f;cases E with
     | ot d=>exact absurd f.symm F
     | od d=>exact congrArg some f
     | no=>exact congrArg some f
     | val d=>exact congrArg some f
     | own d=>exact congrArg some f
 have g:∀(j i:Nat) (v:V),fr[j]? = some (some i)->σ[i]? = some (some v)->(L2.inner fr σ)[j]? = some (some v):=λ j i v q e=>by unfold L2.inner;rw[u9,q];simp[e]
 have noot:∀(j:Nat) d,(D3 fr δ)[j]? ≠ some (.ot d):=λ j d h=>by
  unfold D3 at h;rw[u9]at h;cases q:fr[j]? with
  | none=>rw[q]at h;cases h
  | some o=>
   rw[q]at h;cases o with
   | none=>cases h
   | some i=>
    have f:(δ.getD i .no).plain=.ot d:=by simpa using h
    cases z:δ.getD i .no with
    | ot J=>rw[z]at f;cases f
    | od J=>rw[z]at f;cases f
    | no=>rw[z]at f;cases f
    | val J=>rw[z]at f;cases f
    | own J=>rw[z]at f;cases f
 refine⟨λ j d h=>?_,λ j d h=>?_,λ j k a d C S Q w r=>?_,RSt.noot noot,λ j d h=>?_,?_,R.hid⟩
 ·obtain⟨i,n,p⟩:=c j _ h (by intro z;cases z);obtain⟨v,w,r⟩:=R.val i d p;exact⟨v,g j i v n w,r⟩
 ·obtain⟨i,n,p⟩:=c j _ h (by intro z;cases z);obtain⟨a,M,N,I,w,r⟩:=R.own i d p;exact⟨a,M,N,I,g j i _ n w,r⟩
 ·obtain⟨i,n,p⟩:=c j _ S (by intro z;cases z);obtain⟨A,l,m⟩:=c k _ Q (by intro z;cases z);obtain⟨b,M,N,_,K,_⟩:=R.own i d p;obtain⟨b',P,U,_,x,_⟩:=R.own A C m;have y:=g j i _ n K;have L:=g k A _ l x;rw[w]at y;rw[r]at L;cases y;cases L;have:=R.inj i A a d C p m K x;subst this;exact B j k i n l
 ·obtain⟨i,n,p⟩:=c j _ h (by intro z;cases z);obtain⟨⟨a,o,I,w,r⟩,u⟩:=R.od i d p;refine⟨⟨a,o,I,g j i _ n w,r⟩,λ k C z=>?_⟩;obtain⟨A,l,m⟩:=c k _ z (by intro z;cases z);rw[u A C m]at l;exact B k j i l n
 ·unfold L2.inner D3;rw[n8,n8]
section
variable {X:Cx} {E:St->XK} {δ:ge Sv} {iter elt tgE:EI} {ifs:ge EI} {pos:Pos} {N':ge Str} {scope:ER} {fr:ge (EC Nat)} {tg:Tg} {ri:EC Ri} {re:Re}
theorem pv{Q:VK}(w:Wk D J ds (hidW O W c) (D7 O W c) F)(X:Hid O W H H)(hc:c ≠ .weak)(R:RSt D F σ o O W)
  (hn:∀i∈R4 tg,o[i]? = some .no\/o[i]? = none) (hz:ds.length<=sizeLine) (hx:O0 g ds=some xs) (s1:Same H F)
  (step:∀d S,d∈ds->g d=some S->∃b,tg.bind d o=some b/\∀j l,Same F l->RSt D l j b O W->∀K:Bool->Hp->Prop,(S=.skip->∀m,Same l m->K false m)->(∀x,S=.item x->∀m,Same l m->K true m)->tc j l K)
  (C:∀d x,d∈ds->g d=some (.item x)->∀b,tg.bind d o=some b->∀j l,Same F l->RSt D l j b O W->∀K:VK,(∀v m,Same l m->Rep D (L2.wo (O++W) m) x v->K v m)->te j l K)
  (Y:∀v r,Same H r->Got D O W H r (.lst xs) .fresh v->Q v r) :
  dO J (gT D.K tg) tc te (λ M r=>∀p,r p=none->Q (.ref p) (upd r p (.lst M))) σ F:=by
 have ci:D7 O W c=O++W:=by cases c<;>first | rfl | exact absurd rfl hc
 rw[ci]at w;refine⟨λ i n M j r=>n=ds.length - i/\i<=ds.length/\M.length<=i/\RSt D r j o O W/\Same F r/\∃f rest,O0 g (ds.drop i)=some rest/\f++rest=xs/\RepL D (L2.wo (O++W) r) f M,
  ⟨ds.length,rfl,E2 _,E2 _,R,Same.refl _,[],xs,hx,rfl,A3.mpr rfl⟩,?_⟩
 rintro i n M σ2 l ⟨rfl,hi',hy,R2,s2,f,rest,h1,h2,r2⟩
 by_cases k:i<ds.length
 ·refine .inr ⟨w.go i l s2.wo k,Nat.lt_of_le_of_lt hy (q5 k hz),λ N m y=>?_⟩;have A:=w.same i l N m y;have y3:=w.yld i l N m _ (O++W) s2.wo s2.wo y (o4 k) λ a ha=>⟨R2.hid.ot a ha,.inl ha⟩;rw[Z7 k]at h1;have U:=W9 k;unfold O0 at h1;split at h1
  ·cases h1
  ·rename_i q;obtain⟨b,I,Z⟩:=step _ _ U q;refine cq (R2.mono A) y3 I λ u L=>?_
   have h:=jq I hn;refine Z u m (s2.trans A) L _ (λ _ H4 B=>?_) (λ x z=>nomatch z);show if false=true then _ else _
   rw[i4 B6];exact⟨ds.length - (i+1),by omega,rfl,k,Nat.le_succ_of_le hy,(L.less h.1 h.2).mono B,(s2.trans A).trans B,f,rest,h1,h2,r2.mono (A.trans B).wo⟩
  ·rename_i x q;split at h1
   ·cases h1
   ·rename_i E q';cases h1;obtain⟨b,I,Z⟩:=step _ _ U q;refine cq (R2.mono A) y3 I λ u L=>?_
    have h:=jq I hn;refine Z u m (s2.trans A) L _ (λ z=>nomatch z) (λ N z H4 B=>?_);cases z;show if true=true then _ else _
    rw[i3 rfl];refine C _ x U q b I u H4 ((s2.trans A).trans B) (L.mono B) _ λ v H5 P rv=>?_
    exact⟨ds.length - (i+1),by omega,rfl,k,by rw[B7,cJ];omega,(L.less h.1 h.2).mono (B.trans P),((s2.trans A).trans B).trans P,f++[x],E,q',by rw[ae];exact h2,
     (r2.mono ((A.trans B).trans P).wo).append (RepL.one rv)⟩
 ·have e:i=ds.length:=by omega
  subst e;rw[cU]at h1;cases h1;rw[v3]at h2;subst h2;have s0:=s1.trans s2;refine .inl ⟨w.stop l s2.wo,λ p hp=>Y _ _ (s0.trans (n0 hp)) ?_⟩;exact K4 (X.mono s0) hp r2
abbrev E0s:St->XK:=λ _ _ _ _=>False
theorem PE.any{t:ι->TE}(h:∀k,PE Y e (t k)):PE Y e (λ b H Q=>∃k,t k b H Q):=λ a s b H Q I ⟨k,q⟩=>h k a s b H Q I q
theorem PTs.any{t:ι->TT}(h:∀k,PTs Y es (t k)):PTs Y es (λ b H Q=>∃k,t k b H Q):=λ a s b H Q I ⟨k,q⟩=>h k a s b H Q I q
theorem Rc.of_item(h:Rc.of r=some (.item x)):∃c,r=some (.ok x c)/\stro x c=true:=by
 unfold Rc.of at h;split at h
 ·rename_i d c;split at h
  ·rename_i m;cases h;exact⟨c,rfl,m⟩
  ·cases h
 ·cases h
theorem Rc.of_skip(h:Rc.of r=some .skip):False:=by
 unfold Rc.of at h;split at h
 ·split at h<;>cases h
 ·cases h
theorem jr{i:Nat}(h:fr[i]? = some none):(D3 fr δ)[i]? = some .no:=by
 unfold D3;rw[u9,h];rfl
def O9(X:Cx)(E:St->XK)(δ:ge Sv)(tgE iter:EI)(ifs:ge EI)(elt:EI)(scope:ER)(N':ge Str)(fr:ge (EC Nat))(tg:Tg)(re:Re):Prop:=
 ∃(x:St->XK) (wi:TI) (tc:TT) (te:XK->TE),aw X x/\PI X tgE iter wi/\(∀C cells s₂ H₂ fp x1,PTs (k8 X scope N' C cells s₂ H₂ fp x1) ifs tc)/\(∀C cells s₂ H₂ fp x1,PE (k8 X scope N' C cells s₂ H₂ fp x1) elt (te x1)) /\
  ∀σ H Q,dE X.D E δ re σ H Q->gR fr wi (gT X.K tg) tc (te (x σ)) σ H Q
theorem fj(b:D5 a=false):∀x,foldedSetIterable a env x=pure x:=by cases a<;>first | (intro _;rfl) | cases b
theorem O9.pe(P:O9 X E δ tgE iter ifs elt scope N' fr tg re)(S:CompScope X.N N' scope X.env.scope fr)(g:X.calm=true)(hG:∀C a b d l e,PG (k8 X scope N' C a b d l e) tgE (gT X.K tg))(c:D5 iter=false) :
  PE X (.ListComp elt [⟨tgE,iter,ifs,0⟩] scope pos) (dE X.D E δ re):=by
 obtain⟨x,wi,tc,te,f,k,j,i,h⟩:=P;exact(uk S g f k hG j i (fj c)).weak h
theorem zJ{g:ge Sv->EC Re}(S:CompScope X.N N' scope X.env.scope fr)(hc:X.calm=true)(I:∀(j k i:Nat),fr[j]? = some (some i)->fr[k]? = some (some i)->j=k)(F:∀i∈R4 tg,fr[i]? = some none)(L:∀q,ri=some q->PI X tgE iter (dI X.D E δ q))
  (hG:∀C a e f y o,PG (k8 X scope N' C a e f y o) tgE (gT X.K tg)) (he:∀b r,g b=some r->∀C a e f y o,PE (k8 X scope N' C a e f y o) elt (dE X.D E0s b r))
  (h:(Ri.thn ri λ z c=>if c=.weak\/k9<z.length then none else U6 (O0 (λ d=>(tg.bind d (D3 fr δ)).bind λ b=>Rc.of (g b)) z))=some re):O9 X E δ tgE iter [] elt scope N' fr tg re:=by
 cases l:ri with
 | none=>rw[l]at h;cases h
 | some q=>
  rw[l]at h;refine⟨_,_,_,λ _=>_,mi,(L q l),(λ C a e f y o=>mj),(λ C a e f y o=>PE.any (ι:={p:ge Sv×Re // g p.1=some p.2}) λ k=>he k.1.1 k.1.2 k.2 C a e f y o),?_⟩;cases q with
  | ex c=>cases h;exact λ P H Q ⟨O,W,R,p⟩=>⟨O,W,R,p⟩
  | ok z c=>
   have u:(if c=.weak\/k9<z.length then none else U6 _)=some re:=h;split at u
   ·cases u
   ·rename_i m;rw[not_or]at m;unfold U6 at u;split at u
    ·cases u
    ·rename_i xs hx;cases u;refine λ P H Q ⟨O,W,R,p⟩=>⟨O,W,R,λ J H1 s1 w=>?_⟩
     refine pv w R.hid m.1 ((R.mono s1).inner fr I) (λ i L=>.inl (jr (F i L))) (O8 (by omega)) hx s1 (λ d Y hm n=>?_) (λ d x hm n b A B N U R2 K hK=>?_) p
     ·cases A:tg.bind d _ with
      | none=>rw[A]at n;cases n
      | some b=>
       rw[A]at n;refine⟨b,rfl,λ B N U R2 K k1 Z=>?_⟩;cases Y with
       | skip=>exact(Rc.of_skip n).elim
       | item x=>exact Z x rfl N (Same.refl _)
     ·rw[A]at n;obtain⟨cl,e1,e2⟩:=Rc.of_item n;exact⟨⟨⟨b,.ok x cl⟩,e1⟩,O,W,R2,λ v H3 M g3=>hK v H3 M (g3.stro (R2.hid.mono M) e2)⟩
theorem zK{D:Dm}{J:It}{H E:Hp}{c:Cl}{L:Re}{Q:VK}{x1:XK}(w:Wk D J ds (hidW O W c) (D7 O W c) E)(hd0:Hid O W H H)(hc:c ≠ .weak)(R:RSt D E σ j O W)
  (hn:∀i∈R4 tg,j[i]? = some .no\/j[i]? = none) (hz:ds.length<=sizeLine) (hx:X9 g ds []=some L) (s1:Same H E)
  (step:∀d r,d∈ds->g d=some r->∃t,tg.bind d j=some t/\∀o l,Same E l->RSt D l o t O W->∀K:VK,(∀x cl,r=.ok x cl->stro x cl=true->∀v k,Same l k->Rep D (L2.wo (O++W) k) x v->K v k)->(∀c,r=.ex c->∀k C,D.mg c=some C->Same l k->x1 C none k)->(∀x cl,r=.ok x cl->stro x cl=true)->te o l K)
  (fin:∀xs,L=.ok (.lst xs) .fresh->∀v h,Same H h->Got D O W H h (.lst xs) .fresh v->Q v h)
  (U:∀c,L=.ex c->∀h C,D.mg c=some C->Same H h->x1 C none h) :
  dO J (gT D.K tg) tYes te (λ F h=>∀p,h p=none->Q (.ref p) (upd h p (.lst F))) σ E:=by
 have ci:D7 O W c=O++W:=by cases c<;>first | rfl | exact absurd rfl hc
 rw[ci]at w;refine⟨λ i n F o h=>n=ds.length - i/\i<=ds.length/\F.length<=i/\RSt D h o j O W/\Same E h/\∃b,X9 g (ds.drop i) b=some L/\RepL D (L2.wo (O++W) h) b F,
  ⟨ds.length,rfl,E2 _,E2 _,R,Same.refl _,[],hx,A3.mpr rfl⟩,?_⟩
 rintro i n F σ2 l ⟨rfl,hi',hy,R2,s2,b,h1,r2⟩
 by_cases f:i<ds.length
 ·refine .inr ⟨w.go i l s2.wo f,Nat.lt_of_le_of_lt hy (q5 f hz),λ I k y=>?_⟩;have B:=w.same i l I k y;have Z:=w.yld i l I k _ (O++W) s2.wo s2.wo y (o4 f) λ a ha=>⟨R2.hid.ot a ha,.inl ha⟩;rw[Z7 f]at h1;have hm:=W9 f;unfold X9 at h1;split at h1
  ·cases h1
  ·rename_i ce q;cases h1;obtain⟨t,M,Y⟩:=step _ _ hm q;refine cq (R2.mono B) Z M λ A N=>?_
   exact Y A k (s2.trans B) N _ (λ x cl z=>nomatch z) (λ c z H4 C m s4=>by cases z;exact U _ rfl H4 C m (((s1.trans s2).trans B).trans s4)) (λ x cl z=>nomatch z)
  ·rename_i x cl q;split at h1
   ·rename_i S;obtain⟨t,M,Y⟩:=step _ _ hm q;refine cq (R2.mono B) Z M λ A N=>?_
    have u:=jq M hn;refine Y A k (s2.trans B) N _ (λ I X z _ v H5 P rv=>?_) (λ c z=>nomatch z) (λ I X z=>by cases z;exact S);cases z;exact⟨ds.length - (i+1),by omega,rfl,f,by rw[B7,cJ];omega,(N.less u.1 u.2).mono P,(s2.trans B).trans P,b++[x],h1,(r2.mono (B.trans P).wo).append (RepL.one rv)⟩
   ·cases h1
 ·have e:i=ds.length:=by omega
  subst e;rw[cU]at h1;cases h1;have s0:=s1.trans s2;refine .inl ⟨w.stop l s2.wo,λ p hp=>fin _ rfl _ _ (s0.trans (n0 hp)) ?_⟩;exact K4 (hd0.mono s0) hp r2
theorem zL{e:ge Sv->EC Re}(hX:aw X E)(F:∀(j k i:Nat),fr[j]? = some (some i)->fr[k]? = some (some i)->j=k)(B:∀i∈R4 tg,fr[i]? = some none)(I:∀q,ri=some q->PI X tgE iter (dI X.D E δ q))
  (he:∀b r,e b=some r->∀C a f l y x1,PE (k8 X scope N' C a f l y x1) elt (dE X.D (λ _=>x1) b r))
  (h:(Ri.thn ri λ o c=>if c=.weak\/k9<o.length then none else X9 (λ d=>(tg.bind d (D3 fr δ)).bind λ b=>e b) o [])=some re):O9 X E δ tgE iter [] elt scope N' fr tg re:=by
 cases n:ri with
 | none=>rw[n]at h;cases h
 | some q=>
  rw[n]at h;refine⟨E,_,_,λ x1=>_,hX,(I q n),(λ C a f l y x1=>mj),(λ C a f l y x1=>PE.any (ι:={p:ge Sv×Re // e p.1=some p.2}) λ k=>he k.1.1 k.1.2 k.2 C a f l y x1),?_⟩;cases q with
  | ex c=>cases h;exact λ P H Q ⟨O,W,R,p⟩=>⟨O,W,R,p⟩
  | ok o c=>
   have L:(if c=.weak\/k9<o.length then none else X9 _ o [])=some re:=h;split at L
   ·cases L
   ·rename_i m;rw[not_or]at m;refine λ P H Q ⟨O,W,R,p⟩=>⟨O,W,R,λ J H1 s1 w=>?_⟩
    refine zK (x1:=E P) w R.hid m.1 ((R.mono s1).inner fr F) (λ i I=>.inl (jr (B i I))) (O8 (by omega)) L s1 (λ d r hm u=>?_) (λ xs z v N A g=>?_) (λ c z N C m A=>?_)
    ·cases U:tg.bind d (D3 fr δ)with
     | none=>rw[U]at u;cases u
     | some b=>
      rw[U]at u;refine⟨b,rfl,λ Y H2 s2 R2 K k1 k2 S=>⟨⟨⟨b,r⟩,u⟩,O,W,R2,?_⟩⟩;cases r with
      | ex c=>exact λ M C Z t=>k2 c rfl M C Z t
      | ok x cl=>exact λ v M t g3=>k1 x cl rfl (S x cl rfl) v M t (g3.stro (R2.hid.mono t) (S x cl rfl))
    ·subst z;exact p v N A g
    ·subst z;exact p N C m A
theorem zM{f:ge Sv->EC Re}{l:ge Sv->EC Rt}(S:CompScope X.N N' scope X.env.scope fr)(hc:X.calm=true)(N:∀(j k i:Nat),fr[j]? = some (some i)->fr[k]? = some (some i)->j=k)(M:∀i∈R4 tg,fr[i]? = some none)(P:∀q,ri=some q->PI X tgE iter (dI X.D E δ q))
  (hG:∀C a b e fp x1,PG (k8 X scope N' C a b e fp x1) tgE (gT X.K tg)) (he:∀δ' r,f δ'=some r->∀C a b e fp x1,PE (k8 X scope N' C a b e fp x1) elt (dE X.D E0s δ' r))
  (ht:∀δ' r,l δ'=some r->∀C a b e fp x1,PT (k8 X scope N' C a b e fp x1) n (dT X.D E0s δ' r))
  (h:(Ri.thn ri λ B c=>if c=.weak\/k9<B.length then none else U6 (O0 (λ d=>(tg.bind d (D3 fr δ)).bind λ δ'=>Rc.test (l δ') (Rc.of (f δ'))) B))=some re):O9 X E δ tgE iter [n] elt scope N' fr tg re:=by
 cases o:ri with
 | none=>rw[o]at h;cases h
 | some q=>
  rw[o]at h;have A:=P q o;refine⟨_,_,_,λ _=>_,mi,A,(λ C a b e fp x1=>PTs.any (ι:={p:ge Sv×Rt // l p.1=some p.2}) (t:=λ k=>dT X.D E0s k.1.1 k.1.2) λ k=>ui (ht k.1.1 k.1.2 k.2 C a b e fp x1)),
   (λ C a b e fp x1=>PE.any (ι:={p:ge Sv×Re // f p.1=some p.2}) (t:=λ k=>dE X.D E0s k.1.1 k.1.2) λ k=>he k.1.1 k.1.2 k.2 C a b e fp x1),?_⟩
  cases q with
  | ex c=>cases h;exact λ Y H Q ⟨O,W,R,p⟩=>⟨O,W,R,p⟩
  | ok B c=>
   have z:(if c=.weak\/k9<B.length then none else U6 (O0 (λ d=>(tg.bind d (D3 fr δ)).bind λ δ'=>Rc.test (l δ') (Rc.of (f δ'))) B))=some re:=h;split at z
   ·cases z
   ·rename_i m;rw[not_or]at m;unfold U6 at z;split at z
    ·cases z
    ·rename_i xs hx;cases z;refine λ Y H Q ⟨O,W,R,p⟩=>⟨O,W,R,λ J H1 s1 w=>?_⟩
     refine pv (tg:=tg) (D:=X.D) w R.hid m.1 ((R.mono s1).inner fr N) (λ i P=>.inl (jr (M i P))) (O8 (by omega)) hx s1 (λ d U hm u=>?_) (λ d x hm u δ' I L H2 Z R2 K hK=>?_) p
     ·cases I:tg.bind d (D3 fr δ)with
      | none=>rw[I]at u;cases u
      | some δ'=>
       rw[I]at u;have g:Rc.test (l δ') (Rc.of (f δ'))=some U:=u;refine⟨δ',rfl,λ L H2 Z R2 K k1 k2=>?_⟩;unfold Rc.test at g;split at g
       ·rename_i q;refine⟨⟨⟨δ',.ok true⟩,q⟩,O,W,R2,λ F y=>?_⟩;cases U with
        | skip=>exact(Rc.of_skip g).elim
        | item x=>exact k2 x rfl F y
       ·rename_i q;cases g;exact⟨⟨⟨δ',.ok false⟩,q⟩,O,W,R2,λ F y=>k1 rfl F y⟩
       ·cases g
     ·rw[I]at u;have g:Rc.test (l δ') (Rc.of (f δ'))=some (.item x):=u;unfold Rc.test at g;split at g
      ·obtain⟨cl,e1,e2⟩:=Rc.of_item g;exact⟨⟨⟨δ',.ok x cl⟩,e1⟩,O,W,R2,λ v F y g3=>hK v F y (g3.stro (R2.hid.mono y) e2)⟩
      ·cases g
      ·cases g
end
theorem Inv.turnedL{X:Cx}{pins:ge (EG×Obj)}{σ:St}{H:Hp}{s:EF}{h':EH}{t':Nat}{ch:ge EG}(I:Inv X pins σ H s)(k:∀b o,b∉ch->s.heap.get? b=some o->h'.get? b=some o)(hf:∀b∈ch,FpOk X pins H b):Inv X pins σ H {s with heap:=h',toks:=t'}:=by
 have nit:∀b u,H b=some u->b∉ch:=λ b u e z=>by rw[(hf b z).1]at e;cases e
 refine I.step (g':=s.gens) (d':=s.drawn) (ch:=ch) (λ b hb=>?_) (λ b o _ _ hc e _=>k b o hc e) (λ b o _ _ hc e _=>⟨o.slots,k b o hc e⟩) (λ _ _ _ _ n=>n)
  (λ b o hc e=>⟨o,k b o hc e⟩) (λ _ _ e=>e) (λ _ _ _ e=>e) (λ _ _ e=>e) (λ m hm=>?_) (λ b u e=>?_) I.bare
 ·obtain⟨_,f1,_,f3,f4,f5⟩:=hf b hb;exact⟨f3,f1,f4,f5⟩
 ·obtain⟨o,es,ep,ho,r⟩:=hm;exact⟨o,es,ep,k _ o (λ z=>(hf _ z).2.1 rfl) ho,r⟩
 ·refine(I.hok b u e).stay (λ c v hc q=>k c v ?_ q) (λ _ q=>q) (λ _ _ q=>q) λ _ _ _ _ _ q=>q;rcases hc with z | z
  ·rw[z];exact nit b u e
  ·exact nit c _ z
def SqD(t:Bool)(K:EQ)(H:Hp)(a:EG)(xs:ge V):Prop:=match t with | false=>SqL K H a xs | true=>SqT K H a xs
theorem Same.sqd{K:EQ}(e:Same H b)(h:SqD t K H a xs):SqD t K b a xs:=by
 cases t
 ·exact e.seq h
 ·exact e.tseq h
theorem Inv.sqd(I:Inv X c σ H s)(h:SqD t X.K H a xs):∃b:ge ED,Vals xs b/\SqK t s.heap a b.toArray:=by
 cases t
 ·obtain⟨b,d,p,_⟩:=I.list h;exact⟨b,d,p.isList⟩
 ·obtain⟨b,d,p,_⟩:=I.tuple h;exact⟨b,d,p⟩
theorem Inv.sqd_inj(I:Inv X b σ H s)(h:SqD t X.K H a xs)(d:SqD t X.K H a c):xs=c:=by
 cases t
 ·exact I.list_inj h d
 ·exact I.tuple_inj h d
def itK(t:Bool)(h:EH)(ia la:EG)(k:Nat):Prop:=match t with | false=>h.IsListIter ia la k | true=>h.IsTupleIter ia la k
theorem aH(p:itK t h b a k)(q:SqK t h a vs):sK t b a vs k h:=by
 cases t<;>exact⟨p,q⟩
theorem aI(p:sK t b a vs k h):itK t h b a k:=by
 cases t<;>exact p.1
theorem aJ{t:Bool}{ia la:EG}{k:Nat}{h h':EH}(p:itK t h ia la k)(e:∀o,h.get? ia=some o->h'.get? ia=some o):itK t h' ia la k:=by
 cases t
 ·exact Heap.IsListIter.at p e
 ·obtain⟨o,z,r⟩:=p;exact⟨o,e o z,r⟩
theorem aK(p:itK t h a c k):∃o b,h.get? a=some o/\o.data=.fields b:=by
 cases t
 ·obtain⟨o,e,_,d⟩:=p;exact⟨o,_,e,d⟩
 ·obtain⟨o,e,_,d⟩:=p;exact⟨o,_,e,d⟩
theorem SqK.lt(p:SqK t h a vs):a<h.objs.size:=by
 cases t
 ·obtain⟨o,e,_⟩:=p;exact i8 e
 ·obtain⟨o,e,_⟩:=p;exact i8 e
def Itz(K:EQ)(t1 t2:Bool)(a b:EG):It:=
  ⟨λ i H=>∃xs ys x y,SqD t1 K H a xs/\SqD t2 K H b ys/\xs[i]? = some x/\ys[i]? = some y,
   λ i H x H'=>∃p v u,x=.ref p/\H p=none/\(∀xs,SqD t1 K H a xs->xs[i]? = some v)/\(∀ys,SqD t2 K H b ys->ys[i]? = some u)/\H'=upd H p (.tup [v,u]),
   λ i H=>∃xs ys,SqD t1 K H a xs/\SqD t2 K H b ys/\(xs.length<=i\/ys.length<=i)⟩
theorem zN{P:EL}{w:EK}{K:EQ}{k:Nat}{pos:Pos}{z TI TO A r l1 l2:EG}(Q O:Bool)(D:ZipApart z TI TO A r l1 l2) :
  Turn P w K (.Tuple elts k pos) (Itz K Q O l1 l2) [z,TI,TO,A,r] z (λ i h=>IsZip h z TI TO .none/\IsPair h TI (.ref A) (.ref r)/\(∃a b,IsPair h TO a b)/\itK Q h A l1 i/\itK O h r l2 i) where
 mem:=by simp
 obj:=λ i h st b f=>by
  obtain⟨B,g,⟨a,Z,j⟩,F,C⟩:=st;simp only[i6,F7,G7]at f;rcases f with rfl | rfl | rfl | rfl | rfl
  ·exact⟨_,B,λ v q=>by cases q⟩
  ·exact⟨_,g,λ v q=>by cases q⟩
  ·exact⟨_,j,λ v q=>by cases q⟩
  ·obtain⟨o,xs,e,d⟩:=aK F;exact⟨o,e,λ v q=>by rw[d]at q;cases q⟩
  ·obtain⟨o,xs,e,d⟩:=aK C;exact⟨o,e,λ v q=>by rw[d]at q;cases q⟩
 keep:=λ i h h' st q=>by obtain⟨B,g,⟨a,Z,j⟩,F,C⟩:=st;exact⟨q z (by simp) _ B,q TI (by simp) _ g,⟨a,Z,q TO (by simp) _ j⟩,aJ F λ o e=>q A (by simp) o e,aJ C λ o e=>q r (by simp) o e⟩
 item:=by
  intro X hP hw hK hc i m s σ H E I W st hg;subst hP hw hK;obtain⟨B,g,⟨a,Z,j⟩,F,C⟩:=st;obtain⟨xs,ys,x,y,S,R,U,hy⟩:=hg;obtain⟨a8,rv,p⟩:=I.sqd S;obtain⟨M,J,p2⟩:=I.sqd R;obtain⟨u,hu,ru⟩:=rv.get U;obtain⟨u2,b0,a0⟩:=J.get hy;refine uW D (ax Q D.l1i1) (ax O D.l2i2) B g j (aH F p) (aH C p2) (x:=u) (y:=u2) (by simpa using hu) (by simpa using b0) λ h' a1 a2 a3 a4 a5 a6 Y=>⟨_,rfl,?_⟩
  refine wpAny_letOwnedTupleGo_zip a1 λ L a9 l=>?_;have N:s.heap.objs.size≠z:=N5 (i8 B);have keep:∀b o,b∉[z,TI,TO,A,r]->s.heap.get? b=some o->L.get? b=some o:=λ b o f e=>
   l.extBut _ _ (λ q=>f (by simp[q])) (Y b o (λ q=>f (by simp[q])) (λ q=>f (by simp[q])) (λ q=>f (by simp[q])) (λ q=>f (by simp[q])) e)
  have I1:Inv X m σ H {s with heap:=L}:=I.turnedL (t':=s.toks) keep W;have hn:H s.heap.objs.size=none:=I.hok.fresh (j0 _);have f5:=I.fpOk (j0 _) hn;have h0:X.s₀.heap.get? s.heap.objs.size=none:=aR I.sz;have I2:Inv X m σ (upd H s.heap.objs.size (.tup [x,y])) {s with heap:=L}:=I1.track hn h0 f5.2.1 (λ n c e=>f5.2.2.2.2.1 n c e) (λ q hq=>f5.2.2.2.2.2 q hq)
   ⟨by show(2:Nat)<=sizeLine;decide,[u,u2],.cons ru (.cons a0 .nil),_,(l.extBut _ _ N a5),⟨rfl,rfl⟩,_,rfl⟩
  refine⟨.ref s.heap.objs.size,_,I2,rfl,⟨_,x,y,rfl,hn,λ xs' e=>by rw[I.sqd_inj e S];exact U,λ ys' e=>by rw[I.sqd_inj e R];exact hy,rfl⟩,
   ⟨a9,l.extBut _ _ D.TIz (Y _ _ D.TIz D.TITO D.TIi1 D.TIi2 g),⟨_,_,l.extBut _ _ D.TOz a2⟩,aJ (aI a3) (λ o e=>l.extBut _ _ D.i1z e),aJ (aI a4) (λ o e=>l.extBut _ _ D.i2z e)⟩,λ b f=>?_⟩
  have lt:∀b∈[z,TI,TO,A,r],b≠s.heap.objs.size:=λ b f=>by
   simp only[i6,F7,G7]at f;rcases f with rfl | rfl | rfl | rfl | rfl
   ·exact Ne.symm N
   ·exact j5 (i8 g)
   ·exact j5 (i8 j)
   ·obtain⟨o,_,e,_⟩:=aK F;exact j5 (i8 e)
   ·obtain⟨o,_,e,_⟩:=aK C;exact j5 (i8 e)
  rw[j1 (lt b f)];exact(W b f).1
 done:=by
  intro X hP hw hK hc i m s σ H E I W st hg;subst hP hw hK;obtain⟨B,g,⟨a,Z,j⟩,F,C⟩:=st;obtain⟨xs,ys,S,R,U⟩:=hg;obtain⟨a8,rv,p⟩:=I.sqd S;obtain⟨M,J,p2⟩:=I.sqd R;have e1:=rv.length;have e2:=J.length;refine uX (I.ok.hd hc) D (ax Q D.l1i1) (ax O D.l2i2) B g j (aH F p) (aH C p2) (by
   rcases U with q | q
   ·left;simp;omega
   ·right;simp;omega) λ h' Y=>⟨rfl,I.turnedL (t':=s.toks) (ch:=[z,TI,TO,A,r]) (λ b o f e=>Y b o (λ q=>f (by simp[q])) (λ q=>f (by simp[q])) (λ q=>f (by simp[q])) (λ q=>f (by simp[q])) e) W⟩
 self:=λ _ _ _ _ _ st h=>wpAny_pyIter_zip st.1 h
theorem js:∀(b a:ge DV),(zpD b a).length=min b.length a.length
 | [],a=>by simp[zpD]
 | _::_,[]=>by simp[zpD]
 | x::b,y::a=>by rw[zpD,o5,js b a,o5,o5];omega
theorem pw:∀{b a:ge DV} {i:Nat} {d:DV},(zpD b a)[i]? = some d->∃x y,b[i]? = some x/\a[i]? = some y/\d=.tup [x,y]
 | [],_,_,_,h=>by simp[zpD]at h
 | _::_,[],_,_,h=>by simp[zpD]at h
 | x::b,y::a,0,d,h=>by simp[zpD]at h;exact⟨x,y,rfl,rfl,h.symm⟩
 | x::b,y::a,i+1,d,h=>by rw[zpD,ki]at h;simpa using pw h
theorem px:∀b∈hidW O W (Cl.meet c d),b∈hidW O W c:=by
 cases c<;>cases d<;>intro b a<;>first | exact a | exact u8 _ a
theorem zO:∀b∈hidW O W (Cl.meet c a),b∈hidW O W a:=by
 cases c<;>cases a<;>intro b d<;>first | exact d | exact u8 _ d
theorem pz:∀b∈D7 O W (Cl.meet c d),b∈D7 O W c:=by
 cases c<;>cases d<;>intro b a<;>first | exact a | exact u8 _ a
theorem zP:∀b∈D7 O W (Cl.meet c a),b∈D7 O W a:=by
 cases c<;>cases a<;>intro b d<;>first | exact d | exact u8 _ d
theorem Wk.zip(h:SqD A D.K (L2.wo m f) a xs)(r:RepL D (L2.wo j f) ds xs)(l:SqD w D.K (L2.wo m f) b c)(k:RepL D (L2.wo j f) es c):Wk D (Itz D.K A w a b) (zpD ds es) m j f where
 go:=λ i H s O=>by rw[js]at O;exact⟨xs,c,xs[i]'(by rw[r.length];omega),c[i]'(by rw[k.length];omega),m8.sqd (s.sqd h),m8.sqd (s.sqd l),o4 _,o4 _⟩
 same:=λ i H x R y=>by obtain⟨p,v,u,_,g,_,_,e⟩:=y;rw[e];exact n0 g
 yld:=λ i H x R d Q s L y e B=>by obtain⟨p,v,u,ex,g,K,J,P⟩:=y;obtain⟨d1,d2,N,M,rfl⟩:=pw e;obtain⟨v1,I,F⟩:=r.get N;obtain⟨v2,E,C⟩:=k.get M;have o:=K xs (m8.sqd (s.sqd h));have n:=J c (m8.sqd (s.sqd l));rw[I]at o;cases o;rw[E]at n;cases n;subst P;refine y7.mpr ⟨p,_,ex,SqT.of (by rw[i7 (λ z=>(B p z).1 g)];exact o7),?_⟩;have q:Same _ (L2.wo Q (upd H p (.tup [v,u]))):=(fg L B).trans (n0 g).wo;exact t7.mpr ⟨_,_,rfl,F.mono q,RepL.one (C.mono q)⟩
 stop:=λ H s=>by refine⟨xs,c,m8.sqd (s.sqd h),m8.sqd (s.sqd l),?_⟩;rw[js,r.length,k.length];omega
theorem zQ{b:Nat}(ha:a<n)(hb:b<n):ZipApart (n+4) (n+2) (n+3) n (n+1) a b:=by
 constructor<;>(show @Ne Nat _ _)<;>omega
theorem zR(U:Gl X "zip")(S:X.mg "zip" = none)(W:PA X [e,e'] y)(hs:j3 e=false)(o:j3 e'=false) :
  PI X (.Tuple elts k tpos) (.Call (.Name "zip" p) [e,e'] [] pos) (λ m H R=>y m H λ x l=>∃f d a b,x=[.ref a,.ref b]/\(∃w,SqD f X.K l a w)/\(∃v,SqD d X.K l b v)/\R (Itz X.K f d a b) l):=by
 intro g s m H R I h;refine Call_ (am I U S boot_zip (cF (thn (W pos g s m H _ I h) λ us s1 ⟨x,l,j,M,N⟩=>?_) (by rw[j9 hs]) (Y8 [e'] (by simp[o]))));obtain⟨f,d,a,b,Y,⟨w,Q⟩,⟨v,P⟩,q⟩:=N;subst Y;obtain⟨u,u',rfl,L,n⟩:=M.two;cases L;cases n;obtain⟨O,rv,p1⟩:=j.sqd Q;obtain⟨z,K,p2⟩:=j.sqd P;refine uZ f d p1 p2 λ h' r J F E C z6 B=>?_
 refine wpAny_pyIter_zip r ⟨s1.heap.objs.size+4,[s1.heap.objs.size+4,s1.heap.objs.size+2,s1.heap.objs.size+3,s1.heap.objs.size,s1.heap.objs.size+1],_,_,l,rfl,(j.kept B),
  zN f d (zQ p1.lt p2.lt),⟨r,J,⟨_,_,F⟩,aI E,aI C⟩,λ c A=>?_,q⟩
 have i:s1.heap.objs.size<=c:=by
  simp[i6,F7,G7]at A;rcases A with rfl | rfl | rfl | rfl | rfl
  ·exact T9 ..
  ·exact T9 ..
  ·exact T9 ..
  ·exact j0 _
  ·exact T9 ..
 exact j.fpOk i (j.hok.fresh i)
theorem jt(k:N8 d=some (t,ds))(g:Got D O W f H d c v)(e:Hid O W f H):∃a b,v=.ref a/\SqD t D.K (L2.wo (hidW O W c) H) a b/\RepL D (L2.wo (D7 O W c) H) ds b:=by
 cases d<;>cases k
 ·exact g.walkT e
 ·exact g.walkL e
theorem zS(Z:Gl X "zip")(Y:X.mg "zip" = none)(hs:j3 e=false)(g:j3 l=false)(ha:∀q,r=some q->PE X e (dE X.D E δ q))(hb:∀q,rb=some q->PE X l (dE X.D E δ q))
  (h:G4 (Re.thn r λ x c=>Re.thn rb λ y c'=>zipD x y c c')=some o):PI X (.Tuple elts k tpos) (.Call (.Name "zip" p) [e,l] [] pos) (dI X.D E δ o):=by
 have C:=λ N M (hA:PE X e N) (hB:PE X l M)=>zR (elts:=elts) (k:=k) (tpos:=tpos) (p:=p) (pos:=pos) Z Y (x9 hA (x9 hB D0 (j9 g)) (j9 hs)) hs g;cases f:r with
 | none=>rw[f]at h;cases h
 | some q=>
  rw[f]at h;have A:=ha q f;cases q with
  | ex c=>cases h;exact(C _ _ A E6).weak λ w H J ⟨O,W,R,p⟩=>⟨O,W,R,p⟩
  | ok dx cx=>
   cases d:rb with
   | none=>rw[d]at h;cases h
   | some q=>
    rw[d]at h;have B:=hb q d;cases q with
    | ex c=>cases h;exact(C _ _ A B).weak λ w H J ⟨O,W,R,p⟩=>⟨O,W,R,λ x H1 s1 F=>⟨O,W,R.mono s1,λ H' C m s=>p H' C m (s1.trans s)⟩⟩
    | ok dy cy=>
     have j:G4 (zipD dx dy cx cy)=some o:=h;unfold zipD at j;split at j
     ·rename_i Q ds1 P ds2 U S;cases j;exact(C _ _ A B).weak λ w H J ⟨O,W,R,p⟩=>⟨O,W,R,λ x H1 s1 F=>⟨O,W,R.mono s1,λ y H2 n g2=>by
       have z:=(R.hid.mono s1).mono n;obtain⟨a,L,e1,I,e3⟩:=jt U (F.mono n) z;obtain⟨b,K,v,i,u⟩:=jt S (g2.since s1) z;refine⟨Q,P,a,b,by rw[e1,v],⟨L,m8.sqd I⟩,⟨K,m8.sqd i⟩,p _ H2 (s1.trans n) (.zip ((n9 px).sqd I) (e3.mono (n9 pz)) ((n9 zO).sqd i) (u.mono (n9 zP)))⟩⟩⟩
     ·cases j
section
variable {P:EL} {w:EK} {A:EM} {E:ED->EF->Prop} {s:EF} {n c l:EG} {k:Nat} {vs:EJ ED} {S:Nat->EH->Prop} {x old:ED}
abbrev pA(s:EF)(h':EH)(n c:EG)(k:Nat)(x:ED)(S:Nat->EH->Prop):Prop:=
 IsEnumOut h' n c ((k:Int)+1) x s.heap.objs.size/\S (k+1) h'/\h'.get? s.heap.objs.size=some {cls:=.type "tuple",data:=.seq #[.int k s.toks,x]} /\ h'.objs.size=s.heap.objs.size+1/\(∀b o,b≠n->b≠c->s.heap.get? b=some o->h'.get? b=some o)
theorem zT{Q:ED->EF->Prop}(R:Src P w c l vs S)(X:IsEnum s.heap n c k old)(hS:S k s.heap)(hx:vs[k]? = some x)(J:n≠c)(d2:l≠n)(hQ:∀h',pA s h' n c k x S->Q (.ref s.heap.objs.size) {s with heap:=h',toks:=s.toks+1}) :
  wpAny (model P w) A (Builtin.«enumerate.__next__» ⟨[.ref n],[]⟩) (λ Z s'=>∃v,Z=.done (.ret v)/\Q v s') E s:=by
 obtain⟨f,i,j,a,h⟩:=s;show wpAny _ _ (field (.ref n) 2 >>= _) _ _ _;refine g6 (t4 X rfl (x:=.ref c) rfl (g6 (R.step k x hS hx λ m r1 r=>?_)))
 replace r:Heap.SameBut c f m:=r
 have W:IsEnum m n c k old:=(r.2 n J).trans X;show wpAny _ _ (field (.ref n) 3 >>= _) _ _ ⟨m,i,j,a,h⟩;refine g6 (t4 W rfl (x:=rawInt k) rfl ?_);show wpAny _ _ (field (.ref n) 4 >>= _) _ _ ⟨m,i,j,a,h⟩;refine g6 (t4 W rfl (x:=.none) rfl ?_);show wpAny _ _ (mkInt k >>= _) _ _ ⟨m,i,j,a,h⟩;refine g6 (wpAny_mkInt ?_);show wpAny _ _ (setField (.ref n) 3 (rawInt ((k:Int)+1)) >>= _) _ _ ⟨m,i,j,a+1,h⟩;refine g6 (K7 W (by simp) λ I U q=>?_)
 replace q:Heap.SameBut n m I:=q
 replace U:IsEnum I n c ((k:Int)+1) old:=U
 show wpAny _ _ (setField (.ref n) 4 .none >>= _) _ _ ⟨I,i,j,a+1,h⟩;refine g6 (K7 U (by simp) λ d O p=>?_)
 replace p:Heap.SameBut n I d:=p
 replace O:IsEnum d n c ((k:Int)+1) old:=O
 show wpAny _ _ (newTuple [.int k a,x] >>= _) _ _ ⟨d,i,j,a+1,h⟩;refine g6 (wpAny_newTuple ?_);have C:IsEnum (d.push {cls:=.type "tuple",data:=.seq #[.int k a,x]}) n c ((k:Int)+1) old:=i5 _ O;have K:d.objs.size=f.objs.size:=by rw[p.1,q.1,r.1]
 have q4:(d.push {cls:=.type "tuple",data:=.seq #[.int k a,x]}).get? f.objs.size=some {cls:=.type "tuple",data:=.seq #[.int k a,x]}:=by rw[←K];exact k6 _ rfl
 have z4:(d.push {cls:=.type "tuple",data:=.seq #[.int k a,x]}).objs.size=f.objs.size+1:=by rw[A0,K]
 have k4:∀b o,b≠n->b≠c->f.get? b=some o->(d.push {cls:=.type "tuple",data:=.seq #[.int k a,x]}).get? b=some o:=λ b o g b2 e=>
  i5 _ (p.extBut b o g (q.extBut b o g (r.extBut b o b2 e)))
 have r4:S (k+1) (d.push {cls:=.type "tuple",data:=.seq #[.int k a,x]}):=
  R.keep _ _ _ (R.ext (R.ext r1 q.extBut (Ne.symm J) d2) p.extBut (Ne.symm J) d2) (λ o e=>i5 _ e) (λ o e=>i5 _ e)
 generalize (d.push {cls:=.type "tuple",data:=.seq #[.int k a,x]})=g4 at C q4 z4 k4 r4 ⊢;have lt:n<f.objs.size:=i8 X;show wpAny _ _ (Builtin.SmallTypes.ownedTupleIsFree (.ref n) >>= _) _ _ ⟨g4,i,j,a+1,h⟩;rw[K];refine g6 ?_;unfold Builtin.SmallTypes.ownedTupleIsFree;refine g6 (t4 C rfl (x:=.none) rfl (i0 ?_));simp only[if_true];refine g6 (Q4 (g6 (t4 C rfl (x:=old) rfl (g6 (K7 C (by simp) λ H N B=>?_)))))
 replace B:Heap.SameBut n g4 H:=B
 replace N:IsEnum H n c ((k:Int)+1) x:=N
 show wpAny _ _ (Builtin.SmallTypes.ownedTupleHandOut (.ref n) (.ref f.objs.size) >>= _) _ _ ⟨H,i,j,a+1,h⟩;refine g6 ?_;unfold Builtin.SmallTypes.ownedTupleHandOut;refine g6 (K7 N (by simp) λ Y M z=>?_)
 replace z:Heap.SameBut n H Y:=z
 replace M:IsEnumOut Y n c ((k:Int)+1) x f.objs.size:=M
 refine K7 M (by simp) λ F L y=>?_
 replace y:Heap.SameBut n Y F:=y
 replace L:IsEnumOut F n c ((k:Int)+1) x f.objs.size:=L
 have u:∀b o,b≠n->g4.get? b=some o->F.get? b=some o:=λ b o g e=>y.extBut b o g (z.extBut b o g (B.extBut b o g e));exact g6 (dq (i0 ⟨_,rfl,hQ F ⟨L,R.keep _ _ _ r4 (λ o e=>u _ o (Ne.symm J) e) (λ o e=>u _ o d2 e),u _ _ (N5 lt) q4,by rw[y.1,z.1,B.1,z4],λ b o g b2 e=>u b o g (k4 b o g b2 e)⟩⟩))
theorem zU(R:Src P w c l vs S)(d:IsEnum s.heap n c k old)(f:S k s.heap)(e:vs[k]? = some x)(i:n≠c)(h:l≠n)(g:∀b,pA s b n c k x S->Q (some (.ref s.heap.objs.size)) {s with heap:=b,toks:=s.toks+1}) :
  wpAny (model P w) A (pyNext (.ref n)) Q E s:=by
 have T:s.TypeIs (.ref n) "enumerate":=⟨_,d,rfl⟩;unfold pyNext;exact g6 (K8 (K5 T cL (F6 cL T kD (zT R d f e i h λ b a=>i0 (g b a)) (kj _))))
theorem zV(i:A.handled=none)(R:Src P w c l vs S)(a:IsEnum s.heap n c k old)(m:S k s.heap)(h:vs[k]? = none)(p:∀b,Heap.ExtBut c s.heap b->Q none {s with heap:=b}) :
  wpAny (model P w) A (pyNext (.ref n)) Q E s:=by
 have T:s.TypeIs (.ref n) "enumerate":=⟨_,a,rfl⟩;unfold pyNext;refine g6 (K8 (K5 T cL (F6 cL T kD ?_ (kj _))));show wpAny _ _ (field _ 2 >>= _) _ _ _;refine g6 (t4 a rfl rfl (g6 (R.stop k i m h λ g1 e d j=>?_)));obtain⟨o,g,f⟩:=j;exact g6 (aY ⟨o,g,f⟩ cZ (i0 (p _ d)))
end
open AutoSeq1 (wpAny_loadPart') in
theorem zW(l:EG)(vs:EJ ED)(m:Nat)(dc:EC EG)(sl:EJ (EC ED)):Meets (Builtin.«enumerate.__new__» ⟨[.type "enumerate",.ref l],[]⟩) (λ _ R s=>s.heap.get? l=some {cls:=.type "tuple",dict:=dc,data:=.seq vs m,slots:=sl} /\
  R (.ok (.ret (.ref (zH1 s.heap true l).objs.size))) {s with heap:=(zH1 s.heap true l).push {cls:=.type "enumerate",data:=.fields #[.none,.bool false,.ref s.heap.objs.size,rawInt 0,.none,.none]}}):=
 .of_wp λ P w A R s h=>by
  obtain⟨g0,gg,gd,gt,go⟩:=s;obtain⟨q,h⟩:=h;have hsub:=sub_enumerate;have qT:Heap.IsTuple (Shared.heap ⟨g0,gg,gd,gt,go⟩) l vs:=⟨_,q,rfl,m,rfl⟩
  wp_walk using aQ q
  refine wpAny_stack_any λ st=>i0 ?_;split
  ·rename_i y _ _ _ _ _;cases(y==Value.type "enumerate")
   ·wp_walk using aQ q,S8 qT
    exact⟨_,rfl,h⟩
   ·wp_walk using aQ q,S8 qT
    exact⟨_,rfl,h⟩
  ·wp_walk using aQ q,S8 qT
   exact⟨_,rfl,h⟩
theorem zX         (t : Bool) (q : SqK t s.heap l vs)
    (h : ∀ a, IsEnum a (s.heap.objs.size + 1) s.heap.objs.size 0 .none -> sK t s.heap.objs.size l vs 0 a -> a.objs.size = s.heap.objs.size + 2 -> (∀ b o, s.heap.get? b = some o -> a.get? b = some o) -> Q (.ref (s.heap.objs.size + 1)) { s with heap := a }) :
    wpAny (model P w) A (call (.type "enumerate") [.ref l]) Q E s := by
  cases t with
  | false => exact call_enumerate_list (q) λ a z x v k => h a z ⟨x, Heap.IsList.at (q) λ o e => k _ o e⟩ v k
  | true =>
    obtain⟨⟨y, u, r, n⟩, p, d, m, c⟩ := id (q)
    replace d : y = .type "tuple" := d
    replace c : r = .seq vs m := c
    subst d c;refine callType_new F.called_enumerate (by decide) (F.typeCall_enumerate_1 _) (F.newCall_enumerate_1 _) (λ f => F.args_object_init_2 f _) F.entry_enumerate_new (zW l vs m u n) ⟨p, ?_⟩;have g : (zH1 s.heap true l).objs.size = s.heap.objs.size + 1 := A0 ..;have i := k6 (zH1 s.heap true l) (o := { cls := .type "enumerate", data := .fields #[.none, .bool false, .ref s.heap.objs.size, rawInt 0, .none, .none] }) rfl;have j : ∀ b o, s.heap.get? b = some o -> ((zH1 s.heap true l).push { cls := .type "enumerate", data := .fields #[.none, .bool false, .ref s.heap.objs.size, rawInt 0, .none, .none] }).get? b = some o := λ b o e => i5 _ (i5 _ e)
    rw [g] at i;show _ /\ _;rw [g];exact ⟨⟨_, i, rfl⟩, h _ i (gU (i5 _ (k6 _ rfl)) q j) (by rw [A0, g]) j⟩
def Ite(K:EQ)(t:Bool)(a:EG):It:=
  ⟨λ i H=>∃xs x,SqD t K H a xs/\xs[i]? = some x,
   λ i H x H'=>∃p v,x=.ref p/\H p=none/\(∀xs,SqD t K H a xs->xs[i]? = some v)/\H'=upd H p (.tup [.int i,v]),
   λ i H=>∃xs,SqD t K H a xs/\xs.length<=i⟩
theorem zY{K:EQ}(t:Bool)(d1:n≠c)(d2:l≠n)(d3:l≠c) :
  Turn P w K (.Tuple elts k pos) (Ite K t l) [n,c] n (λ i h=>(∃f,IsEnum h n c (i:Nat) f)/\itK t h c l i) where
 mem:=by simp
 obj:=λ i h st b g=>by
  obtain⟨⟨f,m⟩,r⟩:=st;simp only[i6,F7,G7]at g;rcases g with rfl | rfl
  ·exact⟨_,m,λ v q=>by cases q⟩
  ·obtain⟨o,Y,e,d⟩:=aK r;exact⟨o,e,λ v q=>by rw[d]at q;cases q⟩
 keep:=λ i h h' st q=>by obtain⟨⟨f,m⟩,r⟩:=st;exact⟨⟨f,q n (by simp) _ m⟩,aJ r λ o e=>q c (by simp) o e⟩
 item:=by
  intro X R N S Z i j s C H E I B st Q;subst R N S;obtain⟨⟨f,m⟩,r⟩:=st;obtain⟨Y,x,A,M⟩:=Q;obtain⟨L,J,p⟩:=I.sqd A;obtain⟨u,hu,ru⟩:=J.get M;refine zU (ax t d3) m (aH r p) (x:=u) (by simpa using hu) d1 d2 λ h' a=>⟨_,rfl,?_⟩
  obtain⟨a1,a2,a3,a4,a5⟩:=a;refine wpAny_letOwnedTupleGo_enum a1 λ U O F=>?_
  have z:s.heap.objs.size≠n:=N5 (i8 m);have keep:∀b o,b∉[n,c]->s.heap.get? b=some o->U.get? b=some o:=λ b o g e=>F.extBut _ _ (λ q=>g (by simp[q])) (a5 b o (λ q=>g (by simp[q])) (λ q=>g (by simp[q])) e);have I1:Inv X j C H {s with heap:=U,toks:=s.toks+1}:=I.turnedL (t':=s.toks+1) keep B;have y:H s.heap.objs.size=none:=I.hok.fresh (j0 _);have W:=I.fpOk (j0 _) y;have h0:X.s₀.heap.get? s.heap.objs.size=none:=aR I.sz;have I2:Inv X j C (upd H s.heap.objs.size (.tup [.int i,x])) {s with heap:=U,toks:=s.toks+1}:=I1.track y h0 W.2.1 (λ n c e=>W.2.2.2.2.1 n c e) (λ q hq=>W.2.2.2.2.2 q hq)
   ⟨by show(2:Nat)<=sizeLine;decide,[.int i s.toks,u],.cons ⟨_,rfl⟩ (.cons ru .nil),_,(F.extBut _ _ z a3),⟨rfl,rfl⟩,_,rfl⟩
  refine⟨.ref s.heap.objs.size,_,I2,rfl,⟨_,x,rfl,y,λ xs' e=>by rw[I.sqd_inj e A];exact M,rfl⟩,⟨⟨_,by simpa using O⟩,aJ (aI a2) λ o e=>F.extBut _ _ (Ne.symm d1) e⟩,λ b g=>?_⟩;have lt:b≠s.heap.objs.size:=by
   simp only[i6,F7,G7]at g;rcases g with rfl | rfl
   ·exact Ne.symm z
   ·obtain⟨o,_,e,_⟩:=aK r;exact j5 (i8 e)
  rw[j1 lt];exact(B b g).1
 done:=by
  intro X R N S Z i j s C H E I B st Q;subst R N S;obtain⟨⟨f,m⟩,r⟩:=st;obtain⟨Y,A,M⟩:=Q;obtain⟨L,J,p⟩:=I.sqd A;have e1:=J.length;exact zV (I.ok.hd Z) (ax t d3) m (aH r p) (by simp;omega) λ h' a=>⟨rfl,I.turnedL (t':=s.toks) (ch:=[n,c]) (λ b o g e=>a b o (λ q=>g (by simp[q])) e) B⟩
 self:=λ _ _ _ _ _ st h=>by obtain⟨⟨f,m⟩,_⟩:=st;exact wpAny_pyIter_enum m h
theorem ju:∀(k:Nat) (a:ge DV),(enuD k a).length=a.length
 | _,[]=>rfl
 | k,x::a=>by rw[enuD,o5,ju _ a,o5]
theorem pB:∀{k:Nat} {a:ge DV} {i:Nat} {d:DV},(enuD k a)[i]? = some d->∃x,a[i]? = some x/\d=.tup [.int ((k+i:Nat):Int),x]
 | _,[],_,_,h=>by simp[enuD]at h
 | k,x::a,0,d,h=>by simp[enuD]at h;exact⟨x,rfl,h.symm⟩
 | k,x::a,i+1,d,h=>by rw[enuD,ki]at h;obtain⟨y,c,b⟩:=pB h;exact⟨y,by simpa using c,by rw[b,show k+1+i=k+(i+1)from by omega]⟩
theorem Wk.enum(h:SqD t D.K (L2.wo k c) a xs)(r:RepL D (L2.wo j c) ds xs):Wk D (Ite D.K t a) (enuD 0 ds) k j c where
 go:=λ i H s u=>by rw[ju]at u;exact⟨xs,xs[i]'(by rw[r.length];omega),m8.sqd (s.sqd h),o4 _⟩
 same:=λ i H x A y=>by obtain⟨p,v,_,b,_,e⟩:=y;rw[e];exact n0 b
 yld:=λ i H x A d O2 s o y e g=>by obtain⟨p,v,ex,b,n,w⟩:=y;obtain⟨d1,q,rfl⟩:=pB e;obtain⟨v1,m,l⟩:=r.get q;have f:=n xs (m8.sqd (s.sqd h));rw[m]at f;cases f;subst w;refine y7.mpr ⟨p,_,ex,SqT.of (by rw[i7 (λ z=>(g p z).1 b)];exact o7),?_⟩;exact t7.mpr ⟨_,_,rfl,C5.mpr (by rw[gn]),RepL.one (l.mono ((fg o g).trans (n0 b).wo))⟩
 stop:=λ H s=>⟨xs,m8.sqd (s.sqd h),by rw[ju,r.length];exact j0 _⟩
theorem jv(h:a<n):n+1≠n/\a≠n+1/\a≠n:=by omega
theorem zZ:bootBuiltins "enumerate" = some (.type "enumerate"):=by decide +kernel
theorem Aa(E:Gl X "enumerate")(C:X.mg "enumerate" = none)(F:PA X [e] o)(hs:j3 e=false) :
  PI X (.Tuple elts k tpos) (.Call (.Name "enumerate" p) [e] [] pos) (λ i H R=>o i H λ n g=>∃t a,n=[.ref a]/\(∃m,SqD t X.K g a m)/\R (Ite X.K t a) g):=by
 intro b s i H R I h;refine Call_ (am I E C zZ (cF (thn (F pos b s i H _ I h) λ us s1 ⟨n,g,f,y,z⟩=>?_) (by rw[j9 hs]) (Y8 [] (by simp))));obtain⟨t,a,J,⟨m,B⟩,q⟩:=z;subst J;obtain⟨u,rfl,x⟩:=y.one;cases x;obtain⟨A,rv,p1⟩:=f.sqd B;have j:=p1.lt;refine zX t p1 λ h' l w z6 v=>?_
 refine wpAny_pyIter_enum l ⟨s1.heap.objs.size+1,[s1.heap.objs.size+1,s1.heap.objs.size],_,_,g,rfl,(f.kept v),
  zY t (jv j).1 (jv j).2.1 (jv j).2.2,⟨⟨_,l⟩,aI w⟩,λ c r=>?_,q⟩
 have d:s1.heap.objs.size<=c:=by
  simp[i6,F7,G7]at r;rcases r with rfl | rfl
  ·exact T9 ..
  ·exact j0 _
 exact f.fpOk d (f.hok.fresh d)
theorem Ab(u:Gl X "enumerate")(r:X.mg "enumerate" = none)(hs:j3 e=false)(w:∀q,g=some q->PE X e (dE X.D E δ q))
  (h:G4 (Re.thn g λ x c=>dY x c)=some f):PI X (.Tuple elts k tpos) (.Call (.Name "enumerate" p) [e] [] pos) (dI X.D E δ f):=by
 have C:=λ m (y:PE X e m)=>Aa (elts:=elts) (k:=k) (tpos:=tpos) (p:=p) (pos:=pos) u r (x9 y D0 (j9 hs)) hs;cases b:g with
 | none=>rw[b]at h;cases h
 | some q=>
  rw[b]at h;have A:=w q b;cases q with
  | ex c=>cases h;exact(C _ A).weak λ j H L ⟨O,W,R,p⟩=>⟨O,W,R,p⟩
  | ok I K=>
   have d:G4 (dY I K)=some f:=h;unfold dY at d;split at d
   ·rename_i n J o;cases d;exact(C _ A).weak λ j H L ⟨O,W,R,p⟩=>⟨O,W,R,λ x M s1 z=>by
     have v:=R.hid.mono s1;obtain⟨a,l,F,i,B⟩:=jt o z v;exact⟨n,a,by rw[F],⟨l,m8.sqd i⟩,p _ M s1 (.enum ((n9 px).sqd i) (B.mono (n9 pz)))⟩⟩
   ·cases d
def dEnd(D:Dm)(E:St->XK)(H0:Hp)(O:ge EG)(Dn:Ends):Out->Prop
 | .nx δ=>∀σ H W,RSt D H σ δ O W->(∀a∈W,H0 a=none)->Same H0 H->Dn.nx σ H
 | .rt d fr=>∀v H,Same H0 H->GotR D O H0 H d fr v->Dn.rt v H
 | .rtt d=>∀v H,Same H0 H->GotT D O H0 H d v->Dn.rt v H
 | .ex c δ=>∀σ H W C,D.mg c=some C->RSt D H σ δ O W->(∀a∈W,H0 a=none)->Same H0 H->E σ C none H
 | .rtm d s=>∀v H a o,Same H0 H->OdOk s a o->H a=some o->Rep D (L2.wo (O++[a]) H) d v->Dn.rt v H
def dS(D:Dm)(E:St->XK)(δ:ge Sv)(o:Out):TS:=λ Dn σ H=>∃H0 O W,RSt D H σ δ O W/\(∀a∈W,H0 a=none)/\(∀a∈O,H0 a≠none)/\Same H0 H/\dEnd D E H0 O Dn o
theorem Ac:PSs X [] (dS X.D E δ (.nx δ)):=li.weak λ Dn a H ⟨H0,O,W,R,b,fo,sm,k⟩=>k a H W R b sm
theorem Ad{st:EN}{rest:ge EN}(f:PS X st (dS X.D E δ (.nx δ1)))(e:PSs X rest (dS X.D E δ1 o)):PSs X (st::rest) (dS X.D E δ o):=
 (X5 f e).weak λ Dn σ H ⟨c,O,W,R,g,fo,sm,k⟩=>⟨c,O,W,R,g,fo,sm,λ d H' h i b a=>⟨c,O,h,i,b,fo,a,k⟩⟩
theorem Ae{st:EN}{rest:ge EN}(a:PS X st (dS X.D E δ (.rt d fr))):PSs X (st::rest) (dS X.D E δ (.rt d fr)):=
 (X5 a U3).weak λ Dn σ H ⟨b,O,W,R,fr,fo,sm,k⟩=>⟨b,O,W,R,fr,fo,sm,k⟩
theorem Af{st:EN}{rest:ge EN}(a:PS X st (dS X.D E δ (.rtt d))):PSs X (st::rest) (dS X.D E δ (.rtt d)):=
 (X5 a U3).weak λ Dn σ H ⟨c,O,W,R,b,fo,sm,k⟩=>⟨c,O,W,R,b,fo,sm,k⟩
theorem Ag{st:EN}{rest:ge EN}(a:PS X st (dS X.D E δ (.rtm d s))):PSs X (st::rest) (dS X.D E δ (.rtm d s)):=
 (X5 a U3).weak λ Dn σ H ⟨c,O,W,R,b,fo,sm,k⟩=>⟨c,O,W,R,b,fo,sm,k⟩
theorem Ah{st:EN}{rest:ge EN}(b:PS X st (dS X.D E δ (.ex c a))):PSs X (st::rest) (dS X.D E δ (.ex c a)):=
 (X5 b U3).weak λ Dn σ H ⟨e,O,W,R,d,fo,sm,k⟩=>⟨e,O,W,R,d,fo,sm,k⟩
theorem S0(R:RSt D H σ δ O W)(fr:∀a∈W,b a=none)(sm:Same b H)(k:dEnd D E b O e (.ex c δ)):Post D E σ O W H H Q (.ex c):=
 λ d C m s=>k σ d W C m (R.mono s) fr (sm.trans s)
theorem Ai(j:∀q,rt=some q->PT X c (dT X.D E δ q))(n:∀q,g=some q->PSs X body (dS X.D E δ q))(l:∀q,rp=some q->PSs X els (dS X.D E δ q))(h:(Rt.thnS δ rt λ k=>if k then g else rp)=some o):PS X (.If c body els pos) (dS X.D E δ o):=by
 cases a:rt with
 | none=>rw[a]at h;cases h
 | some q=>
  rw[a]at h;have C:=j q a;cases q with
  | ex c=>cases h;exact(gw C U3 U3).weak λ i f H ⟨e,O,W,R,d,fo,sm,k⟩=>⟨O,W,R,λ u C m s=>k f u W C m (R.mono s) d (sm.trans s)⟩
  | ok b=>
   cases b with
   | true=>
    exact(gw C (n o h) U3).weak λ i f H ⟨e,O,W,R,d,fo,sm,k⟩=>⟨O,W,R,λ r s1=>iteT ⟨e,O,W,R.mono s1,d,fo,sm.trans s1,k⟩⟩
   | false=>
    exact(gw C U3 (l o h)).weak λ i f H ⟨e,O,W,R,d,fo,sm,k⟩=>⟨O,W,R,λ r s1=>iteF ⟨e,O,W,R.mono s1,d,fo,sm.trans s1,k⟩⟩
theorem Aj(U:∀q,C=some q->PE X e (dE X.D E δ q))(h:(Re.thnS δ C λ d c=>some (retD d c))=some o):PS X (.Return (some e) pos) (dS X.D E δ o):=by
 cases f:C with
 | none=>rw[f]at h;cases h
 | some q=>
  rw[f]at h;have A:=U q f;cases q with
  | ex c=>cases h;exact(X6 A).weak λ B M H ⟨y,O,W,R,w,fo,sm,k⟩=>⟨O,W,R,S0 R w sm k⟩
  | ok d cl=>
   have Y:some (retD d cl)=some o:=h;cases Y;by_cases j:cl=.ft
   ·subst j;refine(X6 A).weak λ B M H ⟨y,O,W,R,w,fo,sm,k⟩=>⟨O,W,R,λ v u s1 g=>(k:dEnd X.D E y O B (.rtt d)) v u (sm.trans s1) ?_⟩
    obtain⟨Q,t,P,p,i,L,es,r,n,x,m,K,J,Z⟩:=g;have N:Same (L2.wo (p::(O++W)) u) (L2.wo (p::O) u):=n9 λ b l=>by rcases i6.mp l with z | z;exact i6.mpr (.inl z);exact j6 _ (u8 _ z)
    exact⟨Q,t,P,p,i,L,es,r,n,(n9 V3).tseq x,sm.free m,K,J.mono N,Z.mono N⟩
   have F:retD d cl=.rt d (frD d cl):=by cases cl<;>first | rfl | exact absurd rfl j
   rw[F];refine(X6 A).weak λ B M H ⟨y,O,W,R,w,fo,sm,k⟩=>⟨O,W,R,λ v u s1 g=>(k:dEnd X.D E y O B (.rt d (frD d cl))) v u (sm.trans s1) ?_⟩
   have S:=R.hid.mono s1;cases I:frD d cl with
   | false=>exact g.weak S
   | true=>
    unfold frD at I;split at I
    ·obtain⟨p,i,L,r,n,m,K,J⟩:=g;exact⟨p,i,L,r,n,sm.free m,K,J.mono (n9 λ b l=>by rcases i6.mp l with z | z;exact i6.mpr (.inl z);exact j6 _ (u8 _ z))⟩
    ·obtain⟨a,i,r,x,n,m⟩:=g;exact⟨a,i,_,r,rfl,w a x,m8 _ _ n,m.mono (n9 λ b l=>by rcases i6.mp l with z | z;rw[z];exact y8 _ x;exact u8 _ z)⟩
    ·cases I
theorem S4(h:Q9 v=false):swapsWith v t l env=pure false:=by
 cases v<;>first | rfl | cases h
theorem Ak(j:∀q,ra=some q->PE X e (dE X.D E δ q))(i:Q9 e=false)(h:(Re.thnS δ ra λ _ _=>some (.nx δ))=some o):PS X (.Expr e pos) (dS X.D E δ o):=by
 cases a:ra with
 | none=>rw[a]at h;cases h
 | some q=>
  rw[a]at h;have A:=j q a;cases q with
  | ex c=>cases h;exact(dD A (S4 i)).weak λ n f H ⟨m,O,W,R,b,fo,sm,k⟩=>⟨O,W,R,S0 R b sm k⟩
  | ok d cl=>cases h;exact(dD A (S4 i)).weak λ n f H ⟨m,O,W,R,b,fo,sm,k⟩=>⟨O,W,R,λ v l s1 g=>k f l W (R.mono s1) b (sm.trans s1)⟩
theorem S5:b∈O++p::W↔b∈p::(O++W):=by
 simp[x5,i6];constructor
 ·rintro(h | h | h)
  ·exact .inr (.inl h)
  ·exact .inl h
  ·exact .inr (.inr h)
 ·rintro(h | h | h)
  ·exact .inr (.inl h)
  ·exact .inl h
  ·exact .inr (.inr h)
theorem n6{l:ge c}(h:(l.set i a)[j]? = some b)(d:a≠b):j≠i:=λ z=>by
 subst z;have e:j<l.length:=by have:=(n7.mp h).1;rw[v6]at this;exact this
 rw[A4 e]at h;exact d (v5 h)
theorem V8{l:ge c}(h:(l.set i a)[i]? = some b):i<l.length/\a=b:=by
 have d:=(by have:=(n7.mp h).1;rw[v6]at this;exact this);rw[A4 d]at h;exact⟨d,v5 h⟩
theorem RSt.alloc(R:RSt D H σ δ O W)(s:Same H H')(M:H p=none)(x:H' p=some (.lst xs))(r:RepL D (L2.wo (p::(O++W)) H') ds xs)(i:Nat) :
  RSt D H' (σ.set i (some (.ref p))) (δ.set i (.own (.lst ds))) O (p::W):=by
 have g:Same (L2.wo (O++W) H) (L2.wo (O++p::W) H'):=λ b o e=>by obtain⟨S,e⟩:=x3 e;rw[i7 (λ z=>by rcases i6.mp (S5.mp z)with z | z;exact B2 e M z;exact S z)];exact s b o e
 refine⟨λ j d h=>?_,λ j X h=>?_,λ j k a n L J I B A=>?_,?_,R.od.step (bV _ (by intro d z;cases z)) (λ _ h _=>j6 _ h) (λ a kvs _ h _=>s _ _ h),by rw[v6,v6];exact R.len,⟨λ a F=>?_,Same.refl _,λ a F=>?_,λ a F=>?_,R.hid.omS s⟩⟩
 ·have c:=n6 h (by intro z;cases z);rw[i9 (Ne.symm c)]at h ⊢;obtain⟨v,B,A⟩:=R.val j d h;exact⟨v,B,A.mono g⟩
 ·by_cases c:j=i
  ·subst c;obtain⟨hl,e⟩:=V8 h;cases e;exact⟨p,xs,ds,rfl,A4 (by rw[R.len];exact hl),o8,x,r.mono (n9 λ b S=>S5.mp S)⟩
  ·rw[i9 (Ne.symm c)]at h ⊢;obtain⟨a,w,K,e0,B,A,U,C⟩:=R.own j X h;exact⟨a,w,K,e0,B,j6 _ A,s _ _ U,C.mono g⟩
 ·have E:∀{j:Nat} {n:DV},(δ.set i (.own (.lst ds)))[j]? = some (.own n)->(σ.set i (some (.ref p)))[j]? = some (some (V.ref a))->(j=i/\a=p)\/(j≠i/\δ[j]? = some (.own n)/\σ[j]? = some (some (V.ref a))/\a≠p):=λ {j n} h e=>by
   by_cases c:j=i
   ·subst c;obtain⟨_,z⟩:=V8 e;cases z;exact .inl ⟨rfl,rfl⟩
   ·rw[i9 (Ne.symm c)]at h e;refine .inr ⟨c,h,e,λ z=>?_⟩;obtain⟨a',w,K,_,q1,_,q3,_⟩:=R.own j n h;rw[e]at q1;cases q1;rw[z,M]at q3;cases q3
  rcases E J B with⟨Y,N⟩ | ⟨Y,N,z3,z4⟩<;>rcases E I A with⟨Z,Q⟩ | ⟨Z,Q,y3,y4⟩
  ·rw[Y,Z]
  ·exact absurd N y4
  ·exact absurd Q z4
  ·exact R.inj j k a n L N Q z3 y3
 ·obtain⟨P,f,u⟩:=R.ot;refine⟨P,λ j d h=>?_,λ j k n L J I=>?_⟩
  ·have c:=n6 h (by intro z;cases z);rw[i9 (Ne.symm c)]at h ⊢;obtain⟨t,ts,B,A,U,C⟩:=f j d h;refine⟨t,ts,B,g.tseq A,U.mono g λ p1 _ w q=>s _ _ q,λ p1 l=>⟨j6 _ (C p1 l).1,(C p1 l).2.1.imp λ w q=>s _ _ q,λ k L q=>?_⟩⟩;by_cases hk:k=i
   ·subst hk;intro z;obtain⟨_,z⟩:=V8 z;obtain⟨w,y⟩:=(C p1 l).2.1;cases z;rw[M]at y;cases y
   ·rw[i9 (Ne.symm hk)]at q ⊢;exact(C p1 l).2.2 k L q
  ·rw[i9 (Ne.symm (n6 J (by intro z;cases z)))]at J;rw[i9 (Ne.symm (n6 I (by intro z;cases z)))]at I;exact u j k n L J I
 ·rcases i6.mp (S5.mp F)with z | z
  ·rw[z,x];intro q;cases q
  ·intro q;exact R.hid.ot a z (s.free q)
 ·rcases i6.mp F with z | z
  ·exact⟨_,by rw[z];exact x,rfl⟩
  ·obtain⟨w,q,m⟩:=R.hid.wl a z;exact⟨w,s _ _ q,m⟩
 ·rcases i6.mp F with z | z
  ·intro q;exact R.hid.ot p (u8 _ (by rw[←z];exact q)) M
  ·exact R.hid.dj a z
theorem pC(h:noOt i δ=true)(q:δ[j]? = some (.ot d)):j=i:=by
 unfold noOt at h;rw[y9]at h;have:=h j (U1.mpr ((n7.mp q).1));rw[q]at this;simpa using this
theorem pD(h:noOt i δ=true)(q:δ[j]? = some (.od d)):j=i:=by
 unfold noOt at h;rw[y9]at h;have:=h j (U1.mpr ((n7.mp q).1));rw[q]at this;simpa using this
theorem RSt.allocT{ms:ge Int}(R:RSt D H σ δ O W)(s:Same H H')(ht:SqT D.K (L2.wo (O++W) H') t (ms.map V.int ++ .ref p::F))(L:H p=none)(c:H' p=some (.lst xs))(r:RepL D (L2.wo (p::(O++W)) H') ds xs)(U:RepL D (L2.wo (p::(O++W)) H') es F)(i:Nat)(M:noOt i δ=true) :
  RSt D H' (σ.set i (some (.ref t))) (δ.set i (.ot (.tup (ms.map DV.int ++ .lst ds::es)))) O (p::W):=by
 have w:Same (L2.wo (O++W) H) (L2.wo (O++p::W) H'):=λ b o e=>by obtain⟨x,e⟩:=x3 e;rw[i7 (λ z=>by rcases i6.mp (S5.mp z)with z | z;exact B2 e L z;exact x z)];exact s b o e
 have C:Same (L2.wo (p::(O++W)) H') (L2.wo (O++p::W) H'):=n9 λ b x=>S5.mp x;have J:SqT D.K (L2.wo (O++p::W) H') t (ms.map V.int ++ .ref p::F):=by
  have ne:∀{o:HO},L2.wo (O++W) H' t=some o->(∀f,o ≠ .lst f)->L2.wo (O++p::W) H' t=some o:=λ {o} e ho=>by
   obtain⟨x,e⟩:=x3 e;rw[i7 (λ z=>by
    rcases i6.mp (S5.mp z)with z | z
    ·rw[z,c]at e;cases e;exact ho _ rfl
    ·exact x z)]
   exact e
  rcases ht with(h | ⟨o,h⟩) | h
  ·exact .inl (.inl (ne h (by intro f z;cases z)))
  ·exact .inl (.inr ⟨o,ne h (by intro f z;cases z)⟩)
  ·exact .inr h
 refine⟨λ j d h=>?_,λ j N h=>?_,λ j k a S I B A u n=>?_,?_,R.od.step (bV _ (by intro d z;cases z)) (λ _ h _=>j6 _ h) (λ a Z _ h _=>s _ _ h),by rw[v6,v6];exact R.len,⟨λ a y=>?_,Same.refl _,λ a y=>?_,λ a y=>?_,R.hid.omS s⟩⟩
 ·have g:=n6 h (by intro z;cases z);rw[i9 (Ne.symm g)]at h ⊢;obtain⟨v,u,n⟩:=R.val j d h;exact⟨v,u,n.mono w⟩
 ·have g:=n6 h (by intro z;cases z);rw[i9 (Ne.symm g)]at h ⊢;obtain⟨a,f,E,e0,u,n,e3,e4⟩:=R.own j N h;exact⟨a,f,E,e0,u,j6 _ n,s _ _ e3,e4.mono w⟩
 ·have Y:=n6 B (by intro z;cases z);have X:=n6 A (by intro z;cases z);rw[i9 (Ne.symm Y)]at B u;rw[i9 (Ne.symm X)]at A n;exact R.inj j k a S I B A u n
 ·have l:∀{j:Nat} {d:DV},(δ.set i (.ot (.tup (ms.map DV.int ++ .lst ds::es))))[j]? = some (.ot d)->j=i:=λ {j d} h=>by
   by_cases g:j=i
   ·exact g
   ·rw[i9 (Ne.symm g)]at h;exact pC M h
  refine⟨λ _=>[p],λ j d h=>?_,λ j k S I B A ne=>absurd ((l B).trans (l A).symm) ne⟩;have g:=l h;subst g;obtain⟨hl,e⟩:=V8 h;cases e;refine⟨t,_,A4 (by rw[R.len];exact hl),J,⟨ms,p,xs,ds,es,F,rfl,rfl,rfl,c,r.mono C,U.mono C⟩,λ p1 K=>?_⟩;rw[q9.mp K];refine⟨o8,⟨xs,c⟩,λ k I q=>?_⟩;have hk:=n6 q (by intro z;cases z);rw[i9 (Ne.symm hk)]at q ⊢;intro z;obtain⟨a,f,E,f0,Q,f2,P,f4⟩:=R.own k I q;rw[z]at Q;cases Q;rw[L]at P;cases P
 ·rcases i6.mp (S5.mp y)with z | z
  ·rw[z,c];intro q;cases q
  ·intro q;exact R.hid.ot a z (s.free q)
 ·rcases i6.mp y with z | z
  ·exact⟨_,by rw[z];exact c,rfl⟩
  ·obtain⟨f,q,m⟩:=R.hid.wl a z;exact⟨f,s _ _ q,m⟩
 ·rcases i6.mp y with z | z
  ·intro q;exact R.hid.ot p (u8 _ (by rw[←z];exact q)) L
  ·exact R.hid.dj a z
theorem RSt.write(R:RSt D H σ δ O W)(B:δ[i]? = some (.own (.lst ds)))(M:σ[i]? = some (some (.ref a)))(r:RepL D (L2.wo (O++W) H) x g) :
  RSt D (upd H a (.lst g)) σ (δ.set i (.own (.lst x))) O W:=by
 obtain⟨a',xs,ds0,e0,Z,Y,e3,e4⟩:=R.own i _ B;rw[M]at Z;cases Z;have l:Same _ (L2.wo (O++W) (upd H a (.lst g))):=λ b o e=>by obtain⟨C,e⟩:=x3 e;rw[i7 C,j1 λ z=>C (by rw[z];exact y8 _ Y)];exact e
 have hl:=(n7.mp B).1;refine⟨λ j d h=>?_,λ j y h=>?_,λ j k b L N J I A E=>?_,?_,R.od.step (ow (by intro d z;cases z)) (λ _ h _=>h) (λ b kvs _ h m=>by rw[j1 (λ z=>by rw[z,e3]at h;cases h;cases m)];exact h),by rw[v6];exact R.len,⟨λ b C q=>?_,Same.refl _,λ b C=>?_,R.hid.dj,R.hid.omW (by assumption)⟩⟩
 ·have p:=n6 h (by intro z;cases z);rw[i9 (Ne.symm p)]at h;obtain⟨v,A,E⟩:=R.val j d h;exact⟨v,A,E.mono l⟩
 ·by_cases p:j=i
  ·subst p;obtain⟨_,e⟩:=V8 h;cases e;exact⟨a,g,x,rfl,M,Y,o7,r.mono l⟩
  ·rw[i9 (Ne.symm p)]at h;obtain⟨b,w,Q,q0,A,E,q3,q4⟩:=R.own j y h;refine⟨b,w,Q,q0,A,E,?_,q4.mono l⟩;rw[j1 λ z=>p (R.inj j i a y _ h B (by rw[←z];exact A) M)];exact q3
 ·have F:∀{j:Nat} {L:DV},(δ.set i (.own (.lst x)))[j]? = some _->∃d0,δ[j]? = some (.own d0):=λ {j L} h=>by
   by_cases p:j=i
   ·subst p;exact⟨_,B⟩
   ·rw[i9 (Ne.symm p)]at h;exact⟨L,h⟩
  obtain⟨U,z1⟩:=F J;obtain⟨S,z2⟩:=F I;exact R.inj j k b U S z1 z2 A E
 ·obtain⟨P,f,u⟩:=R.ot;refine⟨P,λ j d h=>?_,λ j k L N J I=>?_⟩
  ·have p:=n6 h (by intro z;cases z);rw[i9 (Ne.symm p)]at h;obtain⟨t,ts,f1,f2,f3,K⟩:=f j d h;have un:∀p1∈P j,∀w,H p1=some (.lst w)->upd H a (.lst g) p1=some (.lst w):=λ p1 c w q=>by rw[j1 λ z=>(K p1 c).2.2 i _ B (by rw[z];exact M)];exact q
   refine⟨t,ts,f1,l.tseq f2,f3.mono l un,λ p1 c=>⟨(K p1 c).1,(K p1 c).2.1.imp λ w q=>un p1 c w q,λ k N q=>?_⟩⟩;by_cases X:k=i
   ·subst X;exact(K p1 c).2.2 k _ B
   ·rw[i9 (Ne.symm X)]at q;exact(K p1 c).2.2 k N q
  ·rw[i9 (Ne.symm (n6 J (by intro z;cases z)))]at J;rw[i9 (Ne.symm (n6 I (by intro z;cases z)))]at I;exact u j k L N J I
 ·by_cases n:b=a
  ·rw[n,o7]at q;cases q
  ·rw[j1 n]at q;exact R.hid.ot b C q
 ·by_cases n:b=a
  ·exact⟨_,by rw[n];exact o7,rfl⟩
  ·obtain⟨w,q,m⟩:=R.hid.wl b C;exact⟨w,by rw[j1 n];exact q,m⟩
theorem pE(h:Same c H)(d:c a=none):Same c (upd H a o):=λ b u e=>by
 rw[j1 (B2 e d)];exact h b u e
theorem pF{o:Out}{i:Nat}{σ:St}{H u:Hp}{b:Bool}{d:DV}{cl:Cl}{D:Dm}(h:(if b then bD i δ d cl else(if stro d cl then some (.nx (δ.set i (.val d)))else none))=some o)
  (R:RSt D H σ δ O W) (fr:∀a∈W,u a=none) (sm:Same u H) (k:dEnd D E u O w o):∀v H',Same H H'->Got D O W H H' d cl v->w.nx (σ.set i (some v)) H':=λ v e s1 g=>by
 cases b with
 | true=>
  simp only[if_true]at h;unfold bD at h;split at h
  ·cases h;obtain⟨p,x,B,r,q,c,n,l⟩:=g;subst r q;exact k _ e (p::W) (R.alloc s1 c n l i) (λ a j=>by
    rcases i6.mp j with z | z
    ·rw[z];exact sm.free c
    ·exact fr a z) (sm.trans s1)
  ·split at h
   ·rename_i f;cases h;obtain⟨ms,t,ts,p,x,B,es,r,q,A,c,n,l,y⟩:=g;subst r q;exact k _ e (p::W) (R.allocT s1 A c n l y i f) (λ a j=>by
     rcases i6.mp j with z | z
     ·rw[z];exact sm.free c
     ·exact fr a z) (sm.trans s1)
   ·cases h
  ·split at h
   ·cases h;exact k _ e W ((R.mono s1).setVal (R7.mpr (R7.mp (g.weak (R.hid.mono s1)))) i) fr (sm.trans s1)
   ·cases h
 | false=>
  simp only[aV,if_false]at h;split at h
  ·rename_i m;cases h;exact k _ e W ((R.mono s1).setVal (g.stro (R.hid.mono s1) m) i) fr (sm.trans s1)
  ·cases h
theorem pG{X:Cx}{i:Nat}{x:Str}{f:Bool}(p:X.N.Nodup)(l:X.N[i]? = some x)(j:Loc X.env.scope x)(m:X.fn x=true\/X.env.scope.names.lookup x=some .local)(u:∀q,b=some q->PE X e (dE X.D E δ q))(n:swapsWith e (some (.Name x pos')) pos.line X.env=pure false)
  (h:(Re.thnS δ b λ d c=>if f then bD i δ d c else(if stro d c then some (.nx (δ.set i (.val d)))else none))=some o):PS X (.Assign [.Name x pos'] e pos) (dS X.D E δ o):=by
 cases a:b with
 | none=>rw[a]at h;cases h
 | some q=>
  rw[a]at h;have A:=u q a;cases q with
  | ex c=>cases h;exact(X7 p l j A n m).weak λ w r H ⟨v,O,W,R,g,fo,sm,k⟩=>⟨O,W,R,S0 R g sm k⟩
  | ok d cl=>exact(X7 p l j A n m).weak λ w r H ⟨v,O,W,R,g,fo,sm,k⟩=>⟨O,W,R,pF h R g sm k⟩
theorem Al{n:Bool}(S:CompScope X.N q scope X.env.scope fr)(y:X.calm=true)(A:X.N.Nodup)(w:X.N[i]? = some x)(v:X.env.scope.names.lookup x=some .local)
  (P:O9 X E δ b a e elt scope q fr tg m) (hG:∀C f g l K u,PG (k8 X scope q C f g l K u) b (gT X.K tg)) (j:D5 a=false)  (p:swapsWith (.ListComp elt [⟨b,a,e,0⟩] scope cpos) (some (.Name x pos')) pos.line X.env=pure true)
  (h:(Re.thnS δ (some m) λ d c=>if n then bD i δ d c else(if stro d c then some (.nx (δ.set i (.val d)))else none))=some o):PS X (.Assign [.Name x pos'] (.ListComp elt [⟨b,a,e,0⟩] scope cpos) pos) (dS X.D E δ o):=by
 obtain⟨xE,wi,tc,te,z,J,I,F,B⟩:=P;refine(ul S y z A w v J hG I F p (fj j)).weak λ Dn r H ⟨H0,O,W,R,fr,fo,sm,k⟩=>?_
 unfold tAsg;refine B r H _ ⟨O,W,R,?_⟩;cases m with
 | ex c=>cases h;exact S0 R fr sm k
 | ok d cl=>exact pF h R fr sm k
theorem Am{X:Cx}{E:St->XK}{δ:ge Sv}{o:Out}{e:EI}{pos:Pos}{ra:EC Re}{i:Nat}{x:Str}{apos cpos npos:Pos}(hv:PE X (.Name x npos) (tVar i))(he:∀q,ra=some q->PE X e (dE X.D E δ q))(hs:j3 e=false)(hline:(apos.endLine==cpos.line)=true)
  (h:(match δ[i]? with
   | some (.own (.lst ds))=>Re.thnS δ ra λ d c=>if stro d c/\ds.length<k9 then some (.nx (δ.set i (.own (.lst (ds++[d])))))else none
   | _=>none)=some o):PS X (.Expr (.Call (.Attribute (.Name x npos) "append" apos) [e] [] cpos) pos) (dS X.D E δ o):=by
 split at h
 ·rename_i ds hi;have C:=λ t (hA:PE X e t)=>dD (pos:=pos) (lX kh PySem.F.slot_list_append PySem.F.type_list_append tM hv (x9 hA D0 (j9 hs)) rfl (by rw[j9 hs];rfl) hline (j9 hs) rfl) rfl
  cases hra:ra with
  | none=>rw[hra]at h;cases h
  | some q=>
   rw[hra]at h;have A:=he q hra;cases q with
   | ex c=>
    cases h;exact(C _ A).weak λ Dn σ H ⟨H0,O,W,R,fr,fo,sm,k⟩=>by obtain⟨a,xs,ds0,e0,e1,e2,e3,e4⟩:=R.own i _ hi;exact⟨.ref a,e1,.inl ⟨rfl,xs,SqL.of e3⟩,O,W,R,S0 (Q:=λ _ _=>False) R fr sm k⟩
   | ok d cl=>
    have h':(if stro d cl/\ds.length<k9 then some (Out.nx (δ.set i (.own (.lst (ds++[d])))))else none)=some o:=h;split at h'
    ·rename_i m;cases h';exact(C _ A).weak λ Dn σ H ⟨H0,O,W,R,fr,fo,sm,k⟩=>by obtain⟨a,xs,ds0,e0,e1,e2,e3,e4⟩:=R.own i _ hi;cases e0;refine⟨.ref a,e1,.inl ⟨rfl,xs,SqL.of e3⟩,O,W,R,λ v H1 s1 g=>?_⟩;have R1:=R.mono s1;refine⟨a,xs,v,rfl,rfl,s1 _ _ e3,by rw[e4.length];exact q5 m.2 (by decide),?_⟩;exact k σ _ W (R1.write hi e1 ((e4.mono s1.wo).append (RepL.one (g.stro (R.hid.mono s1) m.1)))) fr (pE (sm.trans s1) (fr a e2))
    ·cases h'
 ·cases h
theorem RSt.freeze(R:RSt D H σ δ O W)(y:δ[i]? = some (.own d)):∃J,(∀a∈J,a∈W)/\RSt D H σ (δ.set i (.val d)) O J:=by
 obtain⟨a,L,ds,e0,C,e2,I,e4⟩:=R.own i d y;subst e0;have hl:=(n7.mp y).1;have sub:∀b∈O++W.filter (λ b=>decide (b≠a)),b∈O++W:=λ b c=>by
  rcases x5.mp c with z | z
  ·exact u8 _ z
  ·exact y8 _ (E9.mp z).1
 have B:a∉O++W.filter (λ b=>decide (b≠a)):=λ z=>by
  rcases x5.mp z with z | z
  ·exact R.hid.dj a e2 z
  ·exact absurd rfl (aX (E9.mp z).2)
 refine⟨W.filter λ b=>decide (b≠a),λ b c=>(E9.mp c).1,⟨λ j d h=>?_,λ j w h=>?_,λ j k b F x o n p r=>?_,?_,R.od.step (ow (by intro d z;cases z)) (λ b c ⟨Y,h,m⟩=>E9.mpr ⟨c,x6 λ z=>by rw[z,I]at h;cases h;cases m⟩) (λ _ _ _ h _=>h),by rw[v6];exact R.len,
  ⟨λ b c=>R.hid.ot b (sub b c),Same.refl _,λ b c=>R.hid.wl b (E9.mp c).1,λ b c=>R.hid.dj b (E9.mp c).1,R.hid.om⟩⟩⟩
 ·by_cases l:j=i
  ·subst l;obtain⟨_,e⟩:=V8 h;cases e;exact⟨.ref a,C,A2.mpr ⟨a,L,rfl,by rw[i7 B];exact I,e4.mono (n9 sub)⟩⟩
  ·rw[i9 (Ne.symm l)]at h;obtain⟨v,p,r⟩:=R.val j d h;exact⟨v,p,r.mono (n9 sub)⟩
 ·have l:=n6 h (by intro z;cases z);rw[i9 (Ne.symm l)]at h;obtain⟨b,K,E,S,p,r,Q,N⟩:=R.own j w h;refine⟨b,K,E,S,p,E9.mpr ⟨r,x6 λ z=>l (R.inj j i a w _ h y (by rw[←z];exact p) C)⟩,Q,N.mono (n9 sub)⟩
 ·have X:=n6 o (by intro z;cases z);have U:=n6 n (by intro z;cases z);rw[i9 (Ne.symm X)]at o;rw[i9 (Ne.symm U)]at n;exact R.inj j k b F x o n p r
 ·obtain⟨P,f,u⟩:=R.ot;refine⟨P,λ j d h=>?_,λ j k F x o n=>?_⟩
  ·have l:=n6 h (by intro z;cases z);rw[i9 (Ne.symm l)]at h;obtain⟨t,M,f1,f2,f3,A⟩:=f j d h;refine⟨t,M,f1,(n9 sub).tseq f2,f3.mono (n9 sub) λ _ _ _ q=>q,λ p1 g=>⟨E9.mpr ⟨(A p1 g).1,x6 λ z=>(A p1 g).2.2 i _ y (by rw[z];exact C)⟩,(A p1 g).2.1,λ k x q=>?_⟩⟩;have Z:=n6 q (by intro z;cases z);rw[i9 (Ne.symm Z)]at q;exact(A p1 g).2.2 k x q
  ·rw[i9 (Ne.symm (n6 o (by intro z;cases z)))]at o;rw[i9 (Ne.symm (n6 n (by intro z;cases z)))]at n;exact u j k F x o n
theorem An{rest:ge EN}(b:δ[i]? = some (.own d))(h:PSs X rest (dS X.D E (δ.set i (.val d)) o)):PSs X rest (dS X.D E δ o):=h.weak λ Dn σ H ⟨j,O,W,R,e,fo,sm,k⟩=>by
 obtain⟨f,hs,g⟩:=R.freeze b;exact⟨j,O,f,g,λ a c=>e a (hs a c),fo,sm,k⟩
theorem Got.seq(g:Got D O W n H d c v)(m:Hid O W n H)(o:c=.strong\/c=.fresh)(f:N8 d=some (b,k)):∃a e,v=.ref a/\(SqL D.K H a e\/SqT D.K H a e)/\RepL D (L2.wo (O++W) H) k e:=by
 have l:c ≠ .weak:=by rcases o with z | z<;>(rw[z];intro q;cases q)
 unfold N8 at f;split at f
 ·cases f;obtain⟨a,e,j,i,h⟩:=g.items m l;exact⟨a,e,j,.inl (SqL.of i),h⟩
 ·cases f;obtain⟨a,e,j,i,h⟩:=g.itemsT m l;exact⟨a,e,j,.inr i,h⟩
 ·cases f
theorem Ao(h:iN v=true):swappedStores [.Tuple b k p] v env=pure none:=by
 cases q:F3 v with
 | none=>cases v<;>first | rfl | cases q
 | some a=>
  obtain⟨k2,p2,rfl⟩:=bO q;have c:a.all _=true:=h;unfold swappedStores;simp only[c]
  repeat (first | rfl | split)
theorem Ap(K:PG X (.Tuple m r n) (gSeq X.K is.length (cn is)))(L:∀q,p=some q->PE X e (dE X.D E δ q))(M:Q9 e=false)(I:iN e=true)
  (h:(Re.thnS δ p λ d c=>if c=.strong\/c=.fresh then(match N8 d with
   | some (_,i)=>(N9 δ is i).map Out.nx
   | none=>none)else none)=some o):PS X (.Assign [.Tuple m r n] e pos) (dS X.D E δ o):=by
 have C:=λ t (N:PE X e t)=>rD (pos:=pos) N K (by show swapsWith e (some (.Tuple m r n)) pos.line X.env=pure false;exact S4 M) (Ao I) rfl;cases a:p with
 | none=>rw[a]at h;cases h
 | some q=>
  rw[a]at h;have A:=L q a;cases q with
  | ex c=>
   cases h;exact(C _ A).weak λ Dn z H ⟨Z,O,W,R,w,fo,sm,k⟩=>⟨O,W,R,S0 R w sm k⟩
  | ok d cl=>
   have f:(if cl=.strong\/cl=.fresh then(match N8 d with
    | some (_,i)=>(N9 δ is i).map Out.nx
    | none=>none)else none)=some o:=h
   split at f
   ·rename_i u;split at f
    ·rename_i b i J;obtain⟨B,x,F⟩:=j7.mp f;subst F;exact(C _ A).weak λ Dn z H ⟨Z,O,W,R,w,fo,sm,k⟩=>⟨O,W,R,λ v Y s1 g=>by
      obtain⟨S,l,Q,P,y⟩:=g.seq (R.hid.mono s1) u J;exact⟨S,l,Q,P,by rw[y.length,(fh x).1],jp (R.mono s1) y x λ j U=>k j Y W U w (sm.trans s1)⟩⟩
    ·cases f
   ·cases f
theorem Aq{K:Nat}(L:∀q,rs=some q->PA X es (dA X.D E δ q))(h:(Rs.thnS δ rs λ l=>ee l)=some o):PS X (.Return (some (.Tuple es K I)) pos) (dS X.D E δ o):=by
 cases d:rs with
 | none=>rw[d]at h;cases h
 | some q=>
  rw[d]at h;have A:=L q d;cases q with
  | ex c=>cases h;exact(X6 (bo A)).weak λ B C H ⟨y,O,W,R,p,fo,sm,k⟩=>⟨O,W,R,S0 (Q:=λ _ _=>False) R p sm k⟩
  | ok l=>
   have e:ee l=some o:=h;unfold ee at e;split at e
   ·rename_i U l';split at e
    ·rename_i j;cases e;refine(X6 (bo A)).weak λ B C H ⟨y,O,W,R,p,fo,sm,k⟩=>⟨O,W,R,λ m r s1 g=>?_⟩
     have u:=R.hid.mono s1;cases g with
     | cons M w=>
      rename_i v m;obtain⟨a,F,S,x,P,N⟩:=M;have J:=w.stros u j.2;subst S;refine⟨?_,λ q i=>?_⟩
      ·rw[o5,w.length];exact o6 j.1 (by decide)
      ·have n:=λ z=>u.ot q (u8 _ z) (s1.free i);have t:∀{Z:ge EG},Same (L2.wo Z r) (L2.wo Z (upd r q (.tup (.ref a::m)))):=λ {Z}=>(n0 i).wo;have f:Same (L2.wo (O++W) r) _:=n9 λ b j=>by
        rcases i6.mp j with z | z
        ·rw[z];exact y8 _ x
        ·exact u8 _ z
       refine(k:dEnd X.D E y O B _) _ _ ((sm.trans s1).trans (n0 i)) (⟨[],q,m,a,F,U,_,rfl,rfl,SqT.of (by rw[i7 n];exact o7),p a x,n0 i _ _ (m8 _ _ P),(N.mono f).mono t,(J.mono f).mono t⟩)
    ·cases e
   ·cases e
theorem PSs.any{t:ι->TS}(h:∀k,PSs X body (t k)):PSs X body (λ D b H=>∃k,t k D b H):=λ a s b H D I ⟨k,q⟩=>h k a s b H D I q
theorem PT.any{t:ι->TT}(h:∀k,PT X e (t k)):PT X e (λ b H Q=>∃k,t k b H Q):=λ a s b H Q I ⟨k,q⟩=>h k a s b H Q I q
structure Lp(H0 H1:Hp)(O W:List Addr):Prop where
 out:∀{H:Hp},Same (L2.wo W H1) H->Same H0 H
 outW:∀{a:Addr},L2.wo W H1 a=none->H0 a=none
 in1:∀a∈W,L2.wo W H1 a=none
 in2:∀a∈O,L2.wo W H1 a≠none
 wsame:∀{H:Hp},Same (L2.wo W H1) H->Same (L2.wo (O++W) H1) (L2.wo (O++W) H)
theorem Lp.mk'(fr:∀a∈W,d a=none)(fo:∀a∈O,d a≠none)(sm:Same d g):Lp d g O W where
 out:=λ {H} s b u e=>s b u (by
  rw[i7 λ z=>by rw[fr b z]at e;cases e];exact sm b u e)
 outW:=λ {a} q=>by
  by_cases z:a∈W
  ·exact fr a z
  ·rw[i7 z]at q;exact sm.free q
 in1:=λ a c=>Y7 c
 in2:=λ a c=>by rw[i7 λ z=>fo a c (fr a z)];intro q;exact fo a c (sm.free q)
 wsame:=λ {H} s b u e=>by obtain⟨f,e⟩:=x3 e;rw[i7 f];exact s b u (by rwa [i7 λ z=>f (y8 _ z)])
theorem Lp.gotR(L:Lp b a O W)(g:GotR D O (L2.wo W a) H d fr v):GotR D O b H d fr v:=by
 cases fr with
 | false=>exact g
 | true=>
  obtain⟨p,c,k,j,i,h,f,e⟩:=g;exact⟨p,c,k,j,i,L.outW h,f,e⟩
theorem Lp.gotT(L:Lp b a O W)(g:GotT D O (L2.wo W a) H d v):GotT D O b H d v:=by
 obtain⟨f,t,e,p,c,o,es,m,l,n,k,j,i,h⟩:=g;exact⟨f,t,e,p,c,o,es,m,l,n,L.outW k,j,i,h⟩
theorem Ar(hp:PassesOwn (model X.prog X.w) X.A X.env X.xe)(hc:X.calm=true)(hi:∀q,ri=some q->PI X tgE iter (dI X.D E δ q))(hG:PG X tgE (gT X.K tg))(hb:∀N o,evB N=some o->PSs X body (dS X.D E N o))(I:D5 iter=false)
  (h:(Ri.thnS δ ri λ f c=>if c=.strong\/c=.fresh then J9 tg evB f δ else none)=some o):PS X (.For tgE iter body [] pos) (dS X.D E δ o):=by
 have B:PSs X body (λ D F H=>∃k:{p:ge Sv×Out // evB p.1=some p.2},dS X.D E k.1.1 k.1.2 D F H):=PSs.any λ k=>hb k.1.1 k.1.2 k.2;cases Q:ri with
 | none=>rw[Q]at h;cases h
 | some q=>
  rw[Q]at h;have A:=hi q Q;cases q with
  | ex c=>cases h;exact(lq hp hc A hG B (fj I)).weak λ Dn F H ⟨H0,O,W,R,fr,fo,sm,k⟩=>⟨O,W,R,λ j C m s=>k F j W C m (R.mono s) fr (sm.trans s)⟩
  | ok f c=>
   have h':(if c=.strong\/c=.fresh then J9 tg evB f δ else none)=some o:=h;split at h'
   ·rename_i m;refine(lq hp hc A hG B (fj I)).weak λ Dn F H ⟨H0,O,W,R,fr,fo,sm,k⟩=>⟨O,W,R,λ J U s1 w=>?_⟩
    have L:=Lp.mk' fr fo (sm.trans s1);have w:Wk X.D J f (O++W) (O++W) U:=(by rcases m with m | m<;>subst m<;>exact w);refine⟨λ i n F H=>n=f.length - i/\i<=f.length/\∃b K,J9 tg evB (f.drop i) b=some o/\RSt X.D H F b O K/\(∀a∈K,L2.wo W U a=none)/\Same (L2.wo W U) H,
     ⟨f.length,rfl,E2 _,δ,W,h',(R.mono s1),L.in1,m8⟩,?_⟩
    rintro i n a0 H2 ⟨rfl,hi,b,W2,hgo,R2,b1,b2⟩
    by_cases r:i<f.length
    ·refine .inr ⟨w.go i H2 (L.wsame b2) r,λ F H=>∃b K,J9 tg evB _ b=some o/\RSt X.D H F b O K/\_/\Same _ H,
      λ M j q=>⟨f.length - (i+1),by omega,rfl,r,q⟩,λ x H3 y=>?_⟩
     have y1:=w.same i H2 x H3 y;have y3:=w.yld i H2 x H3 _ (O++W2) (L.wsame b2) (L.wsame b2) y (o4 r) λ a S=>⟨R2.hid.ot a S,by
      rcases x5.mp S with z | z
      ·exact .inl (u8 _ z)
      ·have q:=b1 a z;by_cases hw:a∈W
       ·exact .inl (y8 _ hw)
       ·rw[i7 hw]at q;exact .inr q⟩
     rw[Z7 r]at hgo;unfold J9 at hgo;split at hgo
     ·cases hgo
     ·rename_i Y a3;refine cq (R2.mono y1) y3 a3 λ σ3 R3=>?_
      split at hgo
      ·rename_i l a2;exact⟨⟨⟨Y,.nx l⟩,a2⟩,L2.wo W U,O,W2,R3,b1,L.in2,b2.trans y1,λ M j K R' u P=>⟨l,K,hgo,R',u,P⟩⟩
      ·rename_i a1;refine⟨⟨⟨Y,o⟩,hgo⟩,L2.wo W U,O,W2,R3,b1,L.in2,b2.trans y1,?_⟩;cases o with
       | nx l=>exact absurd hgo (a1 l)
       | rt d u=>exact λ v j Z g=>k v j (L.out Z) (L.gotR g)
       | rtt d=>exact λ v j Z g=>k v j (L.out Z) (L.gotT g)
       | rtm d s=>exact λ v j a o Z=>k v j a o (L.out Z)
       | ex c' N=>exact λ M j K C m R' u P=>k M j K C m R' (λ a S=>L.outW (u a S)) (L.out P)
    ·have e:i=f.length:=by omega
     subst e;rw[cU]at hgo;cases hgo;exact .inl ⟨w.stop H2 (L.wsame b2),k a0 H2 W2 R2 (λ a S=>L.outW (b1 a S)) (L.out b2)⟩
   ·cases h'
theorem As(P:PassesOwn (model X.prog X.w) X.A X.env X.xe)(S:∀f r,evC f=some r->PT X c (dT X.D E f r))(U:∀f o,evB f=some o->PSs X body (dS X.D E f o))(h:C6 evC evB n δ=some o):PS X (.While c body [] pos) (dS X.D E δ o):=by
 have B:PSs X body (λ D u H=>∃k:{p:ge Sv×Out // evB p.1=some p.2},dS X.D E k.1.1 k.1.2 D u H):=PSs.any λ k=>U k.1.1 k.1.2 k.2;have T:PT X c (λ u H Q=>∃k:{p:ge Sv×Rt // evC p.1=some p.2},dT X.D E k.1.1 k.1.2 u H Q):=PT.any λ k=>S k.1.1 k.1.2 k.2;refine(rF P T B).weak λ Dn u H ⟨H0,O,W,R,Y,fo,sm,k⟩=>?_;have L:=Lp.mk' Y fo sm;refine⟨λ m u z=>∃b w,C6 evC evB m b=some o/\RSt X.D z u b O w/\(∀a∈w,L2.wo W H a=none)/\Same (L2.wo W H) z,⟨n,δ,W,h,R,L.in1,m8⟩,?_⟩
 rintro m A z ⟨b,W2,hgo,R2,b1,b2⟩
 cases m with
 | zero=>cases hgo
 | succ m=>
  unfold C6 at hgo;split at hgo
  ·cases hgo
  ·rename_i N i;cases hgo;exact⟨⟨⟨b,.ex N⟩,i⟩,O,W2,R2,λ e C m s=>k A e W2 C m (R2.mono s) (λ a J=>L.outW (b1 a J)) (L.out (b2.trans s))⟩
  ·rename_i i;cases hgo;refine⟨⟨⟨b,.ok false⟩,i⟩,O,W2,R2,λ e s=>iteF ?_⟩;exact k A e W2 (R2.mono s) (λ a J=>L.outW (b1 a J)) (L.out (b2.trans s))
  ·rename_i i;refine⟨⟨⟨b,.ok true⟩,i⟩,O,W2,R2,λ e s=>iteT ?_⟩;refine⟨λ u z=>∃b w,C6 evC evB m b=some o/\RSt X.D z u b O w/\_/\Same _ z,λ x e q=>⟨m,Q0 m,q⟩,?_⟩;split at hgo
   ·rename_i j I;exact⟨⟨⟨b,.nx j⟩,I⟩,L2.wo W H,O,W2,R2.mono s,b1,L.in2,b2.trans s,λ x e w M l y=>⟨j,w,hgo,M,l,y⟩⟩
   ·rename_i K;refine⟨⟨⟨b,o⟩,hgo⟩,L2.wo W H,O,W2,R2.mono s,b1,L.in2,b2.trans s,?_⟩;cases o with
    | nx j=>exact absurd hgo (K j)
    | rt d l=>exact λ v e F g=>k v e (L.out F) (L.gotR g)
    | rtt d=>exact λ v e F g=>k v e (L.out F) (L.gotT g)
    | rtm d s=>exact λ v e a o F=>k v e a o (L.out F)
    | ex N f=>exact λ x e w C m M l y=>k x e w C m M (λ a J=>L.outW (l a J)) (L.out y)
theorem RSt.growD{D:Dm}{H:Hp}{σ:St}{δ:ge Sv}{O W:ge EG}{p:EG}{o0:HO}(R:RSt D H σ δ O W)(hp:H p=none)(hm:mutO o0=true):RSt D (upd H p o0) σ δ O (p::W):=by
 have s:Same H (upd H p o0):=n0 hp;have old:Same (L2.wo (O++W) H) (L2.wo (O++(p::W)) (upd H p o0)):=λ b o e=>by
  obtain⟨hb,e⟩:=x3 e;rw[i7 λ z=>?_]
  ·exact s b o e
  ·rcases i6.mp (S5.mp z)with z | z
   ·rw[z,hp]at e;cases e
   ·exact hb z
 refine⟨λ j d h=>?_,λ j d h=>?_,R.inj,?_,R.od.step (λ j d h=>⟨h,rfl⟩) (λ _ h _=>j6 _ h) (λ a _ _ h _=>s _ _ h),R.len,⟨λ a ha=>?_,Same.refl _,λ a ha=>?_,λ a ha=>?_,R.hid.omS s⟩⟩
 ·obtain⟨v,e1,e2⟩:=R.val j d h;exact⟨v,e1,e2.mono old⟩
 ·obtain⟨a,ys,ds1,e0,e1,e2,e3,e4⟩:=R.own j d h;exact⟨a,ys,ds1,e0,e1,j6 _ e2,s _ _ e3,e4.mono old⟩
 ·obtain⟨P,f,u⟩:=R.ot;refine⟨P,λ j d h=>?_,u⟩;obtain⟨t,ts,e1,e2,e3,e4⟩:=f j d h;exact⟨t,ts,e1,old.tseq e2,e3.mono old λ _ _ _ q=>s _ _ q,λ p hp=>⟨j6 _ (e4 p hp).1,(e4 p hp).2.1.imp λ _ q=>s _ _ q,(e4 p hp).2.2⟩⟩
 ·rcases i6.mp (S5.mp ha)with z | z
  ·rw[z,o7];intro q;cases q
  ·intro q;exact R.hid.ot a z (s.free q)
 ·rcases i6.mp ha with z | z
  ·exact⟨_,by rw[z];exact o7,hm⟩
  ·obtain⟨ys,q,m⟩:=R.hid.wl a z;exact⟨ys,s _ _ q,m⟩
 ·rcases i6.mp ha with z | z
  ·intro q;exact R.hid.ot p (u8 _ (by rw[←z];exact q)) hp
  ·exact R.hid.dj a z
theorem RSt.setOd{D:Dm}{H:Hp}{σ:St}{δ:ge Sv}{O W:ge EG}{i:Nat}{p:EG}{d0:DV}{o0:HO}(R:RSt D H σ δ O W)(hp:p∈W)(hok:OdOk d0 p o0)(hH:H p=some o0)(hno:noOt i δ=true):RSt D H (σ.set i (some (.ref p))) (δ.set i (.od d0)) O W:=by
 refine⟨λ j d h=>?_,λ j d h=>?_,λ j k a d1 d2 q1 q2 e1 e2=>?_,RSt.noot λ j d h=>?_,λ j d h=>?_,by rw[v6,v6];exact R.len,R.hid⟩
 ·have hj:=n6 h (by intro z;cases z);rw[i9 (Ne.symm hj)]at h ⊢;exact R.val j d h
 ·have hj:=n6 h (by intro z;cases z);rw[i9 (Ne.symm hj)]at h ⊢;exact R.own j d h
 ·have n1:=n6 q1 (by intro z;cases z);have n2:=n6 q2 (by intro z;cases z);rw[i9 (Ne.symm n1)]at q1 e1;rw[i9 (Ne.symm n2)]at q2 e2;exact R.inj j k a d1 d2 q1 q2 e1 e2
 ·have hj:=n6 h (by intro z;cases z);rw[i9 (Ne.symm hj)]at h;exact absurd (pC hno h) hj
 ·have hj:j=i:=by
   by_cases hj:j=i
   ·exact hj
   ·rw[i9 (Ne.symm hj)]at h;exact pD hno h
  subst hj;obtain⟨hl,e⟩:=V8 h;cases e;refine⟨⟨p,o0,hok,A4 (by rw[R.len];exact hl),hp,hH⟩,λ k d' q=>?_⟩;by_cases hk:k=j
  ·exact hk
  ·rw[i9 (Ne.symm hk)]at q;exact pD hno q
theorem RSt.writeOd{D:Dm}{H:Hp}{σ:St}{δ:ge Sv}{O W:ge EG}{i:Nat}{p:EG}{o0 o1:HO}{d d1:DV}(R:RSt D H σ δ O W)(hi:δ[i]? = some (.od d))(ha:σ[i]? = some (some (.ref p)))(hp:p∈W)(hH:H p=some o0)(hdc:dicO o0=true)(hok:OdOk d1 p o1):RSt D (upd H p o1) σ (δ.set i (.od d1)) O W:=by
 have old:Same (L2.wo (O++W) H) (L2.wo (O++W) (upd H p o1)):=λ b o e=>by obtain⟨hb,e⟩:=x3 e;rw[i7 hb,j1 λ z=>hb (by rw[z];exact y8 _ hp)];exact e
 have lne:∀{b:EG} {ys:ge V},H b=some (.lst ys)->b≠p:=λ {b ys} h z=>by rw[z,hH]at h;cases h;cases hdc
 refine⟨λ j d h=>?_,λ j d h=>?_,λ j k a d1 d2 q1 q2 e1 e2=>?_,?_,λ j d h=>?_,by rw[v6];exact R.len,⟨λ b hb q=>?_,Same.refl _,λ b hb=>?_,R.hid.dj,R.hid.omW hp⟩⟩
 ·have hj:=n6 h (by intro z;cases z);rw[i9 (Ne.symm hj)]at h;obtain⟨v,q1,q2⟩:=R.val j d h;exact⟨v,q1,q2.mono old⟩
 ·have hj:=n6 h (by intro z;cases z);rw[i9 (Ne.symm hj)]at h;obtain⟨b,ys,ds1,q0,q1,q2,q3,q4⟩:=R.own j d h;exact⟨b,ys,ds1,q0,q1,q2,by rw[j1 (lne q3)];exact q3,q4.mono old⟩
 ·have n1:=n6 q1 (by intro z;cases z);have n2:=n6 q2 (by intro z;cases z);rw[i9 (Ne.symm n1)]at q1;rw[i9 (Ne.symm n2)]at q2;exact R.inj j k a d1 d2 q1 q2 e1 e2
 ·obtain⟨P,f,u⟩:=R.ot;refine⟨P,λ j d h=>?_,λ j k d1 d2 h1 h2=>?_⟩
  ·have hj:=n6 h (by intro z;cases z);rw[i9 (Ne.symm hj)]at h;obtain⟨t,ts,f1,f2,f3,f4⟩:=f j d h;refine⟨t,ts,f1,old.tseq f2,f3.mono old λ p1 _ ys q=>by rw[j1 (lne q)];exact q,λ p1 hp1=>⟨(f4 p1 hp1).1,(f4 p1 hp1).2.1.imp λ ys q=>by rw[j1 (lne q)];exact q,λ k d2 q=>?_⟩⟩;have hk:=n6 q (by intro z;cases z);rw[i9 (Ne.symm hk)]at q;exact(f4 p1 hp1).2.2 k d2 q
  ·rw[i9 (Ne.symm (n6 h1 (by intro z;cases z)))]at h1;rw[i9 (Ne.symm (n6 h2 (by intro z;cases z)))]at h2;exact u j k d1 d2 h1 h2
 ·have hj:j=i:=by
   by_cases hj:j=i
   ·exact hj
   ·rw[i9 (Ne.symm hj)]at h;exact(R.od i _ hi).2 j _ h
  subst hj;obtain⟨hl,e⟩:=V8 h;cases e;refine⟨⟨p,o1,hok,ha,hp,o7⟩,λ k d' q=>?_⟩;by_cases hk:k=j
  ·exact hk
  ·rw[i9 (Ne.symm hk)]at q;exact(R.od j _ hi).2 k _ q
 ·by_cases hba:b=p
  ·rw[hba,o7]at q;cases q
  ·rw[j1 hba]at q;exact R.hid.ot b hb q
 ·by_cases hba:b=p
  ·exact⟨_,by rw[hba];exact o7,hok.mut⟩
  ·obtain⟨ys,q,m⟩:=R.hid.wl b hb;exact⟨ys,by rw[j1 hba];exact q,m⟩
noncomputable def rk(r:Keyed->Int)(xs:EJ Keyed)(i:Nat):Int:=match xs[i]? with
 | some p=>r p
 | none=>0
open PySem.Calls
open Classical in
noncomputable def prOf(h:EH)(v:ED):Int×Int:=if e:∃p,PrAt h v p then e.choose else(0,0)
noncomputable def aL{α:Type}(m n:Nat)(us ws:ge α):ge α:=if us.length+m=n/\ws.length=m then us++ws else[]
def At(K:EQ)(C:EG):Prop:=∃B newId initId bmB,ExcBaseFacts B newId initId bmB/\PySem.W.excIn K C bmB newId=true
structure XOne(K:PySem.W.Frag)(mg:Str->Option Value)(G:Gs)(cl:List Str)(c:Str)(C:Addr):Prop where
 mc:mg c=some (.ref C)
 ck:ClsK K C
 rk:At K C
 own:∀t∈cl,∀Ct,mg t=some (.ref Ct)->PySem.W.kitOne K (.ref C) (.ref Ct)=some (D2 G c t)/\PySem.W.exmOne K (.ref C) (.ref Ct)=some (D2 G c t)
 blt:PySem.W.kitOne K (.ref C) (.type "ValueError")=some (D2 G c "ValueError")
structure XFacts(K:PySem.W.Frag)(mg:Str->Option Value)(G:Gs)(cl:List Str):Prop where
 one:∀c,(G.cls.lookup c).isSome=true->∃C,XOne K mg G cl c C
 all:∀t∈cl,∃Ct,mg t=some (.ref Ct)
section
variable {X:Cx} {E:St->XK} {δ:ge Sv} {e:EI} {pos p p':Pos} {re:Re} {ra:EC Re} {G:Gs} {cl:ge Str} {t:Str} {o:Out}
def rIsx(X:Cx):ge V->Hp->VK->Prop:=λ xs H Q=>∃(a C:EG) (y:V) (c:ED) (b:Bool),xs=[.ref a,y]/\H a=some (excO a (.ref C))/\ClsK X.K C/\((∃Ct,y=.ref Ct/\c=.ref Ct)\/∃n,y=.ty n/\c=.type n)/\PySem.W.kitOne X.K (.ref C) c=some b/\Q (.bl b) H
theorem Au:v9 X (.builtin "isinstance") (rIsx X):=by
 intro e s σ H xs us Q I r h;obtain⟨a,C,y,c,b,rfl,v,ck,k,m,q⟩:=h;obtain⟨u,f,rfl,i,d⟩:=dJ r;cases(i);obtain⟨⟨j,vs,p,o,_⟩,_⟩:=(I.hok a _ v);have l:f=c:=by
  rcases k with⟨Ct,rfl,rfl⟩ | ⟨n,rfl,rfl⟩
  ·exact d
  ·exact d
 subst l;exact uP ck I.kIn ⟨j,p,o⟩ m λ g=>⟨.bl b,H,I.tok g,rfl,q⟩
theorem Av:bootBuiltins "ValueError" = some (.type "ValueError"):=by decide +kernel
theorem Aw(F:XFacts X.K X.mg G cl)(N:Gl X "isinstance")(L:X.mg "isinstance" = none)(j:Gl X t)(K:(t∈cl/\(t==("__debug__" : Str))=false)\/(X.mg t=none/\t = "ValueError"))
  (S:∀q,ra=some q->PE X e (dE X.D E δ q)) (hs:j3 e=false) (h:(Re.thn ra λ y _=>(isxD G y t).map λ k=>.ok (.bl k) .strong)=some re):PE X (.Call (.Name "isinstance" p) [e,.Name t p'] [] pos) (dE X.D E δ re):=by
 have T:∃(v:V) (c:ED),PE X (.Name t p') (tC v)/\((∃g,v=.ref g/\c=.ref g)\/∃n,v=.ty n/\c=.type n)/\∀f C,XOne X.K X.mg G cl f C->PySem.W.kitOne X.K (.ref C) c=some (D2 G f t):=by
  rcases K with⟨l,m⟩ | ⟨l,m⟩
  ·obtain⟨g,u⟩:=F.all t l;exact⟨.ref g,.ref g,dB j u rfl m,.inl ⟨g,rfl,rfl⟩,λ f C x=>(x.own t l g u).1⟩
  ·subst m;exact⟨.ty "ValueError",.type "ValueError",dC j l Av rfl (by decide +kernel) (by decide +kernel),.inr ⟨_,rfl,rfl⟩,λ f C x=>x.blt⟩
 obtain⟨v,c,T,J,M⟩:=T;have C:=λ I (U:PE X e I)=>bp (p:=p) (pos:=pos) Au N L gc (x9 U (x9 T D0) (j9 hs)) (by decide) (by decide) (j9 hs)
 cases b:ra with
 | none=>rw[b]at h;cases h
 | some q=>
  rw[b]at h;have A:=S q b;cases q with
  | ex c=>cases h;exact(C _ A).weak λ w H Q ⟨O,W,R,p⟩=>⟨O,W,R,p⟩
  | ok d dc=>
   obtain⟨k,i,Z⟩:=j7.mp (h);cases Z;unfold isxD at i;split at i
   ·rename_i f;split at i
    ·rename_i P;cases i;obtain⟨o,x⟩:=F.one f P;refine(C _ A).weak λ w H Q ⟨O,W,R,p⟩=>⟨O,W,R,λ v1 H1 s1 Y=>?_⟩
     obtain⟨a,C1,B,z,r⟩:=iO.mp (Y.all (R.hid.mono s1));rw[show C1=Value.ref o from v5 (z.symm.trans x.mc)]at r;exact⟨a,o,v,c,_,by rw[B],r,x.ck,J,M f o x,p _ H1 s1 K3⟩
    ·cases i
   ·cases i
theorem Ax(F:XFacts X.K X.mg G cl)(r:X.calm=true)(n:Gl X c)(p:(c==("__debug__" : Str))=false)(w:dR X E)(u:∀q,ra=some q->PE X e (dE X.D E δ q))(hs:j3 e=false)
  (h:(if(G.cls.lookup c).isSome then Re.thnS δ ra λ _ _=>some (.ex c δ)else none)=some o):PS X (.Raise (some (.Call (.Name c np) [e] [] cpos)) none pos) (dS X.D E δ o):=by
 split at h
 ·rename_i i;obtain⟨C,x⟩:=F.one c i;obtain⟨B,f,b,y,I,m⟩:=x.rk;cases a:ra with
  | none=>rw[a]at h;cases h
  | some q=>
   rw[a]at h;have P:=uw (np:=np) (cpos:=cpos) (pos:=pos) I r n x.mc m w (x9 (u q a) D0 (j9 hs)) p (j9 hs) rfl;cases q with
   | ex c2=>cases h;exact P.weak λ J l H ⟨A,O,W,R,j,fo,sm,k⟩=>⟨O,W,R,S0 R j sm k⟩
   | ok d dc=>cases h;exact P.weak λ J l H ⟨A,O,W,R,j,fo,sm,k⟩=>⟨O,W,R,λ v z s1 g=>⟨by show 1<=sizeLine;decide,k l z W _ x.mc (R.mono s1) j (sm.trans s1)⟩⟩
 ·cases h
theorem RSt.unset(R:RSt D H σ δ O W)(i:Nat):RSt D H (σ.set i none) (δ.set i .no) O W where
 val:=λ j d h=>by
  by_cases g:j=i
  ·subst g;have e:=(by have:=(n7.mp h).1;rw[v6]at this;exact this);rw[A4 e]at h;cases h
  ·rw[i9 (Ne.symm g)]at h ⊢;exact R.val j d h
 own:=λ j d h=>by
  by_cases g:j=i
  ·subst g;have e:=(by have:=(n7.mp h).1;rw[v6]at this;exact this);rw[A4 e]at h;cases h
  ·rw[i9 (Ne.symm g)]at h ⊢;exact R.own j d h
 inj:=λ j k a d x c b w v=>by
  have ne:∀(j:Nat) d,(δ.set i .no)[j]? = some (.own d)->j≠i:=λ j d h z=>by
   subst z;have e:j<δ.length:=by have:=(n7.mp h).1;rw[v6]at this;exact this
   rw[A4 e]at h;cases h
  have m:=ne j d c;have l:=ne k x b;rw[i9 (Ne.symm m)]at c w;rw[i9 (Ne.symm l)]at b v;exact R.inj j k a d x c b w v
 ot:=by
  obtain⟨P,f,u⟩:=R.ot;refine⟨P,λ j d h=>?_,λ j k E r c b=>?_⟩
  ·have m:=n6 h (by intro z;cases z);rw[i9 (Ne.symm m)]at h ⊢;obtain⟨t,y,C,B,A,o⟩:=f j d h;refine⟨t,y,C,B,A,λ p n=>⟨(o p n).1,(o p n).2.1,λ k r q=>?_⟩⟩;have l:=n6 q (by intro z;cases z);rw[i9 (Ne.symm l)]at q ⊢;exact(o p n).2.2 k r q
  ·rw[i9 (Ne.symm (n6 c (by intro z;cases z)))]at c;rw[i9 (Ne.symm (n6 b (by intro z;cases z)))]at b;exact u j k E r c b
 od:=R.od.step (bV _ (by intro d z;cases z)) (λ _ h _=>h) (λ _ _ _ h _=>h)
 len:=by rw[v6,v6];exact R.len
 hid:=R.hid
theorem Ay{e:Nat}(F:XFacts X.K X.mg G cl)(B:X.stack=X.env::X.outer)(S:X.env.frame=some X.env.locals)(U:X.ex=[])(Q:Gl X c)(hc:c∈cl)(hd:(c==("__debug__" : Str))=false)(hN:X.N.Nodup)(hi:X.N[e]? = some n)(hl:X.env.scope.names.lookup n=some .local)
  (J:(n==("__debug__" : Str))=false) (I:(n==("__classdict__" : Str))=false) (K:X.N[j]? = some x) (hx:Loc X.env.scope x) (hf:X.fn x=true\/X.env.scope.names.lookup x=some .local)
  (hb:∀b (r:St->ED->Hp->Prop) q,A=some q->PSs (X.tryIn b r) body (dS X.D (λ w C _ H=>r w C H) δ q))
  (h:tryD G c e j A=some o) :
  PS X (.Try body [.ExceptHandler (some (.Name c np)) (some n) [.Assign [.Name x tp] (.Name n vp) ap] u] [] [] pos) (dS X.D E δ o):=by
 obtain⟨Ct,v⟩:=F.all c hc;cases l:A with
 | none=>rw[l]at h;cases h
 | some q=>
  rw[l]at h;refine(uu B S U Q v hN hi hl (λ b r=>hb b r q l) (λ p=>ry (X7 hN K hx (F9 hi (.inl hl) J I) rfl hf)) hd).weak λ Dn w H ⟨H0,O,W,R,fr,fo,sm,k⟩=>⟨H0,O,W,R,fr,fo,sm,?_⟩
  cases q with
  | nx a=>cases h;exact k
  | rt d f=>cases h;exact k
  | rtt d=>cases h;exact k
  | rtm d s=>cases h;exact k
  | ex g a=>
   have Y:(if(G.cls.lookup g).isSome/\D2 G g c/\e<a.length/\e≠j then some (Out.nx ((a.set j (.val (.exc g))).set e .no))else none)=some o:=h;split at Y
   ·rename_i hh;cases Y;obtain⟨P,N,M,L⟩:=hh;obtain⟨C0,y⟩:=F.one g P;intro σ' H' W' C hm R' Z z;rw[show C=Value.ref C0 from v5 (hm.symm.trans y.mc)];refine⟨by rw[(y.own c hc Ct v).2,N],λ p m=>?_⟩;have rp:Rep X.D (L2.wo (O++W') (upd H' p (excO p (.ref C0)))) _ _:=iO.mpr ⟨p,_,rfl,y.mc,by rw[i7 (R'.hid.newOut m)];exact o7⟩;refine⟨.ref p,A4 (by rw[R'.len];exact M),?_⟩;refine k _ _ W' ?_ Z (z.trans (n0 m));have R2:=(((R'.mono (n0 m)).setVal rp e).setVal rp j).unset e;rw[show((a.set e _).set j _).set e Sv.no=(a.set j _).set e Sv.no by rw[List.set_comm _ _ L,List.set_set]]at R2;exact R2
   ·cases Y
theorem Az{e:Str}(F:XFacts X.K X.mg G cl)(K:X.stack=X.env::X.outer)(P:X.env.frame=some X.env.locals)(Q:X.ex=[])(hR:bz X E)(N:Gl X c)(Z:c∈cl)(hd:(c==("__debug__" : Str))=false)(M:Gl X e)(S:(e==("__debug__" : Str))=false)
  (hb:∀a (x:St->ED->Hp->Prop) q,v=some q->PSs (X.tryIn a x) body (dS X.D (λ Y C _ H=>x Y C H) δ q))
  (hcr:∀i b,v=some (.ex i b)->(G.cls.lookup e).isSome=true)
  (L:(G.cls.lookup e).isSome=true)
  (h:mB G c e v=some o) :
  PS X (.Try body [.ExceptHandler (some (.Name c np)) none [.Raise (some (.Call (.Name e A) [.Constant (.str J) j2 mp] [] cpos)) (some (.Constant .none j cp)) n] p] [] [] pos) (dS X.D E δ o):=by
 obtain⟨Ct,t⟩:=F.all c Z;obtain⟨Cr,y⟩:=F.one e L;obtain⟨B,I,w,bmB,FB,hx⟩:=y.rk;cases g:v with
 | none=>rw[g]at h;cases h
 | some q=>
  rw[g]at h;refine(uG K P Q N t FB M y.mc hx hR (λ a x=>hb a x q g) hd S).weak λ Dn Y H ⟨H0,O,W,R,fr,fo,sm,k⟩=>⟨H0,O,W,R,fr,fo,sm,?_⟩
  cases q with
  | nx b=>cases h;exact k
  | rt d f=>cases h;exact k
  | rtt d=>cases h;exact k
  | rtm d s=>cases h;exact k
  | ex i b=>
   have U:(if(G.cls.lookup i).isSome/\(G.cls.lookup e).isSome then some (Out.ex _ b)else none)=some o:=h;split at U
   ·rename_i hh;cases U;obtain⟨C0,z⟩:=F.one i hh.1;intro l H' W' C hm R' u m;rw[(v5 (hm.symm.trans z.mc))];refine⟨D2 G i c,(z.own c Z Ct t).2,?_⟩;cases r:D2 G i c with
    | true=>rw[r]at k;exact k l H' W' _ y.mc R' u m
    | false=>rw[r]at k;exact k l H' W' _ z.mc R' u m
   ·cases U
end
def spM(D:Dm)(C:EG)(f:ge DV->EC Ou):Sp:=λ vs H Q E=>∃O p dx t k args ds o,vs=.ref p::args/\Hdn O H/\p∉O/\t.length<=sizeLine/\H p=some (rdO C dx t k)/\RepL D (L2.wo (O++[p]) H) ds args/\Rm.of (f (rdD C p dx t k::ds))=some o /\
 (match o with
  | .ok d s=>∀v H' k',s=rdD C p dx t k'->Same (L2.wo [p] H) H'->H' p=some (rdO C dx t k')->Rep D (L2.wo (O++[p]) H') d v->Q v H'
  | .ex c=>∀H' Cv,D.mg c=some Cv->Same (L2.wo [p] H) H'->E Cv none H')
def spI(C:EG):Sp:=λ vs H Q _=>∃p dx t,vs=[.ref p,.str t]/\H p=some (.ins C dx [])/\Q .non (upd H p (rdO C dx t 0))
theorem Z0(h:OdOk (rdD C p dx t k) a o):a=p/\o=rdO C dx t k/\t.length<=sizeLine:=by
 obtain⟨l,d,qa,qx,t',k',e,c,b,g,f⟩:=h
 ·unfold rdD at e;injection e with e
  injection e with e1 e
  injection e with e2 e
  injection e with e3 e
  injection e with e4 e
  injection e with e5 e
  injection e1 with e1
  injection e4 with e4
  injection e5 with e5
  subst e4 e5;have j:C=l:=by omega
  subst j;rcases c with c | c
  ·rw[c]at e2;cases e2
  rcases b with b | b
  ·rw[b]at e3;cases e3
  rw[c]at e2;rw[b]at e3;injection e2 with e2
  injection e3 with e3
  have i:p=a:=by omega
  have c3:dx=d:=by omega
  subst i c3;exact⟨rfl,f,g⟩
theorem pH(h:t.length<=sizeLine):OdOk (rdD C p dx t k) p (rdO C dx t k):=⟨C,dx,_,_,t,k,rfl,.inr rfl,.inr rfl,h,rfl⟩
theorem fk(h:iI d=some i):d=.int i:=by
 unfold iI at h;split at h<;>cases h;rfl
theorem AA(h:sS d=some i):d=.str i:=by
 unfold sS at h;split at h<;>cases h;rfl
theorem AB(h:tT d=some i):d=.tup i:=by
 unfold tT at h;split at h<;>cases h;rfl
theorem AC(h:rd5 l=some (a,b,c,d,e)):l=[a,b,c,d,e]:=by
 unfold rd5 at h;split at h<;>cases h;rfl
theorem fq(h:rdK s=some q):s=.tup [.int q.1,.int q.2.1,.int q.2.2.1,.str q.2.2.2.1,.int q.2.2.2.2]:=by
 unfold rdK at h;obtain⟨l,g,h⟩:=m7.mp h;obtain⟨⟨n,m,k,j,i⟩,f,h⟩:=m7.mp h;obtain⟨b1,e,h⟩:=m7.mp h;obtain⟨b2,d,h⟩:=m7.mp h;obtain⟨b3,c,h⟩:=m7.mp h;obtain⟨b4,b,h⟩:=m7.mp h;obtain⟨b5,a,h⟩:=m7.mp h;cases h;have e:n=_:=fk e;have d:m=_:=fk d;have c:k=_:=fk c;have b:j=_:=AA b;have a:i=_:=fk a;rw[AB g,AC f,e,d,c,b,a]
theorem pI(h:Y0 (rdD C p dx t k) s=true):∃a,s=rdD C p dx t a:=by
 unfold Y0 at h;have e:rdK (rdD C p dx t k)=some _:=rfl;rw[e]at h;dsimp only at h;split at h
 ·rename_i q b;rw[fq b];simp only[g9,J0]at h;obtain⟨⟨⟨g,f⟩,d⟩,c⟩:=h;rw[←g,←f,←d,←c];exact⟨_,rfl⟩
 ·cases h
theorem AD(h:eqRd s a=true):a=s:=by
 unfold eqRd at h;split at h
 ·rename_i q b;rw[fq b,fq (aX h)]
 ·cases h
theorem pJ(h:rdB G s=true):0<=G.rdc:=by
 unfold rdB at h;split at h
 ·simp only[g9,J0]at h;rw[←h.1.1.1];exact h.2
 ·cases h
theorem pK(h:fldD G b s=some d):0<=G.rdc:=by
 unfold fldD at h;split at h
 ·split at h
  ·rename_i z;omega
  ·cases h
 ·cases h
theorem pL{G:Gs}{C:Nat}(c:G.rdc=C)(h:rdB G s=true):∃p dx t k,s=rdD C p dx t k:=by
 unfold rdB at h;split at h
 ·rename_i q b;simp only[g9,J0]at h;obtain⟨⟨⟨a,e⟩,d⟩,h4⟩:=h;rw[c]at a;refine⟨q.2.1.toNat,q.2.2.1.toNat,q.2.2.2.1,q.2.2.2.2,?_⟩;unfold rdD;rw[Int.toNat_of_nonneg e,Int.toNat_of_nonneg d,←a];exact fq b
 ·cases h
theorem RSt.turnO(R:RSt D H σ δ O W)(j:δ[i]? = some (.od d))(k:σ[i]? = some (some (.ref p)))(h:p∈W)(l:H p=some o0)(c:dicO o0=true)(a:OdOk d1 p g)(sm:Same (L2.wo [p] H) f)(m:f p=some g):RSt D f σ (δ.set i (.od d1)) O W:=
 (R.writeOd j k h l c a).mono λ b o e=>by
  by_cases z:b=p
  ·subst z;rw[o7]at e;rw[m];exact e
  ·rw[j1 z]at e;exact sm b o (by rw[i7 (by rw[q9];exact z)];exact e)
theorem RSt.forgetO(R:RSt D H σ δ O W)(g:p∈W)(sm:Same (L2.wo [p] H) e):RSt D e σ (noS δ) O []:=by
 have c:∀(i:Nat) (s:Sv),(noS δ)[i]? = some s->s=.no:=λ i s h=>by
  unfold noS at h;rw[u9]at h;cases q:δ[i]? with
  | none=>rw[q]at h;cases h
  | some x=>rw[q]at h;cases h;rfl
 have f:Hdn O e:=λ a b=>by obtain⟨o,q,m⟩:=R.hid.om a b;refine⟨o,sm a o ?_,m⟩;rw[i7 (by rw[q9];intro z;exact R.hid.dj p g (by rw[←z];exact b))];exact q
 refine⟨λ i d h=>(by cases c i _ h),λ i d h=>(by cases c i _ h),λ i j a d d' h=>(by cases c i _ h),RSt.noot λ i d h=>(by cases c i _ h),λ i d h=>(by cases c i _ h),by rw[R.len];unfold noS;rw[n8],⟨λ a b=>f.ne a (by simpa using b),Same.refl _,λ a b=>(nomatch b),λ a b=>(nomatch b),f⟩⟩
section
variable {X:Cx} {CX:CXT} {k:Nat} {f C:EG} {fd:EO} {ps:ge Str} {sp:Sp} {E:St->XK} {x m:Str} {np p pos apos:Pos} {e o:EI} {es:ge EI} {ta:TE} {t:TA}
noncomputable def pM(C:EG)(m:Str)(sp:Sp)(E:St->XK)(ta:TE)(t:TA):TE:=λ σ H Q=>ta σ H λ x H1=>∃a dx fs,x=.ref a/\H1 a=some (.ins C dx fs)/\fs.lookup m=none/\t σ H1 λ vs H2=>sp (x::vs) H2 Q (E σ)
theorem jw:∀{es:ge EI},es.any j3=false->(backTo pos (starEach es X.env)).any (·.1)=false
 | [],_=>rfl
 | y::ys,q=>by rw[J3,P6]at q;rw[j9 q.1];show(false||(backTo pos _).any (·.1))=false;rw[jw q.2];rfl
theorem pN:∀{es:ge EI},es.any j3=false->es.length<n->n<=29->methodCallForm (es.length+([]:ge Keyword).length) (backTo pos (starEach es X.env)) (backToKw pos (keywordEach [] X.env))=true:=λ {es} h hl hn=>by
 have all:∀{es:ge EI},es.any j3=false->(backTo pos _).all (!·.1)=true:=λ {es} h=>by have:=jw (X:=X) (pos:=pos) h;rw[List.all_eq_not_any_not];simpa using this
 unfold methodCallForm;rw[all h];show(true&&true&&decide (es.length+0+0<30))=true;simp;omega
theorem pO     (a : (apos.endLine == pos.line) = true) (c : methodCallForm (es.length + ([] : ge Keyword).length) (backTo pos (starEach es env)) (backToKw pos (keywordEach [] env)) = true) : eval (.Call (.Attribute (.Name x np) m apos) es [] pos) env = (do
   let ov ← eval (.Name x np) env
   standAt apos.atName
   let (f, fs1) ← holding [ov] (getMethod ov m (do return (← importBound (.Name x np) env).getD true))
   callWith pos f fs1 (backTo pos (starEach es env)) (backToKw pos (keywordEach [] env))) := by
 have b : methodCallPos true (.Name x np) env apos pos = pure pos := by unfold methodCallPos; simp [a]
 rw [arm_eval_Call];show _ = _
 congr 1
 funext ov
 congr 1
 funext _
 unfold methodCall;rw [c, b];simp only [pure_bind];rfl
theorem AE(b:(apos.endLine==pos.line)=true)(r:PE X (.Name x np) ta)(c:Cls X.K C)(g:Meth X.K C m f)(F:FnOk X.prog X.w X.K X.mg X.base CX k f fd ps sp)(p:Room k X.A)(t:u7 X.K fd ps [])(o:G8 CX X E) :
  PE X (.Call (.Attribute (.Name x np) m apos) [] [] pos) (pM C m sp E ta tNil):=by
 intro d s i H Q I h;refine kS (thn (r d s i H _ I h) λ u s1 ⟨y,H1,e,j,a,dx,fs,ex,v,l,q⟩=>?_) (pO b (pN (n:=20) rfl (by decide) (by decide)));subst ex;obtain rfl:u=Value.ref a:=j;refine lD e v c g l ?_;exact PySem.W.callWith_K0 e.kIn g.kp (bx (vs:=[.ref a]) F p t .nil o e (.cons rfl .nil) q)
theorem AF(g:(apos.endLine==pos.line)=true)(i:(e::es).length<20)(J:PE X (.Name x np) ta)(c:Cls X.K C)(n:Meth X.K C m f)(F:FnOk X.prog X.w X.K X.mg X.base CX k f fd ps sp)(B:Room k X.A)(K:u7 X.K fd ps [])(A:G8 CX X E)(L:PA X (e::es) t)(b:(e::es).any j3=false) :
  PE X (.Call (.Attribute (.Name x np) m apos) (e::es) [] pos) (pM C m sp E ta t):=by
 intro d s j H Q I h;refine kS (thn (J d s j H _ I h) λ u s1 ⟨y,N,p,w,a,dx,fs,ex,M,l,q⟩=>?_) (pO g (pN b i (by decide)));subst ex;obtain rfl:u=Value.ref a:=w;refine lD p M c n l ?_;rw[J3,P6]at b;refine aU I.ok.mod.kin n.kp (thn (L pos d s1 j N _ p q) λ us s2 ⟨v,H2,o,r,z⟩=>⟨o.kIn,?_⟩) (j9 b.1) (jw b.2);exact bx (vs:=.ref a::v) F B K .nil A o (.cons rfl r) (by rw[v3];exact z)
end
section
variable {X:Cx} {E:St->XK} {δ:ge Sv} {k:Nat} {fa C:EG} {fd:EO} {ps:ge Str} {x n:Str} {np pos apos:Pos} {es:ge EI} {f:ge DV->EC Ou} {i:Nat} {l:ge (DV×Cl)} {o:Rm} {p dx:Nat} {t:Str} {k0:Int}
def jx(X:Cx)(E:St->XK)(C p dx:Nat)(t:Str)(σ:St)(H:Hp)(O W:ge EG)(Q:VK):Rm->Prop
 | .ok d s=>∀v H' k',s=rdD C p dx t k'->Same (L2.wo [p] H) H'->H' p=some (rdO C dx t k')->Rep X.D (L2.wo (O++W) H') d v->Q v H'
 | .ex c=>∀H' Cv,X.mg c=some Cv->Same (L2.wo [p] H) H'->E σ Cv none H'
theorem pP(d:n ≠ "text")(c:n ≠ "place"):([("text",a),("place",b)]:ge (Str×V)).lookup n=none:=by
 rw[B8,o9.mpr d];dsimp only;rw[B8,o9.mpr c];rfl
theorem jy{oA:Nat->Nat->Rm}(hv:PE X (.Name x np) (tVar i))(c:Cls X.K C)(hm:Meth X.K C n fa)(n1:n ≠ "text")(n2:n ≠ "place")(j:(apos.endLine==pos.line)=true)(I:A.length<20)(fo:FnOk X.prog X.w X.K X.mg X.base (CXx X.prog X.w X.base) k fa fd ps (spM X.D C f))(hr:Room k X.A)(h:u7 X.K fd ps [])(hx:G8 (CXx X.prog X.w X.base) X E)
  (hi:δ[i]? = some (.od s)) (ha:PA X A (dA X.D E δ (.ok l))) (hl:A=[]->l=[]) (Y:A.any j3=false) (hs:stros l=true) (L:∀a y,OdOk s a y->∃dx,y=rdO C dx t k0/\t.length<=sizeLine/\Rm.of (f (rdD C a dx t k0::l.map (·.1)))=some (oA a dx)) :
  PE X (.Call (.Attribute (.Name x np) n apos) A [] pos) (λ m H Q=>∃O W,RSt X.D H m δ O W/\∀a dx,m[i]? = some (some (.ref a))->a∈W->H a=some (rdO C dx t k0)->jx X E C a dx t m H O W Q (oA a dx)):=by
 have q:∀{m:St} {H w:Hp} {O W:ge EG} {Q:VK} {B:ge V} {a dx:Nat},RSt X.D H m δ O W->Same H w->GotL X.D O W H w l B->a∈W->H a=some (rdO C dx t k0)->t.length<=sizeLine->Rm.of (f (rdD C a dx t k0::l.map (·.1)))=some (oA a dx)->jx X E C a dx t m H O W Q (oA a dx)->spM X.D C f (.ref a::B) w Q (E m):=λ {m H w O W Q B a dx} R sm g r p F L k=>by
  have J:=R.hid.mono sm;have up:Same (L2.wo (O++W) w) (L2.wo ((O++W.filter (· ≠ a))++[a]) w):=n9 λ b h=>by
   simp only[x5,E9,q9,J0,E3]at h ⊢;rcases h with(h | h) | h
   ·exact .inl h
   ·exact .inr h.1
   ·rw[h];exact .inr r
  have dn:∀H2,Same (L2.wo ((O++W.filter (· ≠ a))++[a]) H2) (L2.wo (O++W) H2):=λ H2=>n9 λ b h=>by
   simp only[x5,E9,q9,J0,E3]at h ⊢;rcases h with h | h
   ·exact .inl (.inl h)
   ·by_cases z:b=a
    ·exact .inr z
    ·exact .inl (.inr ⟨h,z⟩)
  refine⟨O++W.filter _,a,dx,t,k0,B,l.map (·.1),oA a dx,rfl,λ b h=>?_,?_,F,sm _ _ p,(g.stros J hs).mono up,L,?_⟩
  ·refine J.hdA b ?_;simp only[x5,E9]at h ⊢;rcases h with h | h
   ·exact .inl h
   ·exact .inr h.1
  ·intro z;rcases x5.mp z with z | z
   ·exact R.hid.dj a r z
   ·have:=(E9.mp z).2;simp at this
  ·revert k;cases oA a dx with
   | ok d s=>exact λ k v M k' U S q3 q4=>k v M k' U (λ b o e=>S b o (sm.wo b o e)) q3 (q4.mono (dn M))
   | ex c=>exact λ k M Cv U S=>k M Cv U (λ b o e=>S b o (sm.wo b o e))
 cases A with
 | nil=>
  have:=hl rfl;subst this;refine(AE (pos:=pos) (apos:=apos) j hv c hm fo hr h hx).weak λ m H Q ⟨O,W,R,k⟩=>?_;obtain⟨⟨a,y,Z,K,r,p⟩,u⟩:=R.od i _ hi;obtain⟨dx,P,N,F⟩:=L a y Z;subst P;exact⟨.ref a,K,a,dx,_,rfl,p,pP n1 n2,q R (Same.refl H) .nil r p N F (k a dx K r p)⟩
 | cons e A=>
  refine(AF (pos:=pos) (apos:=apos) j I hv c hm fo hr h hx ha Y).weak λ m H Q ⟨O,W,R,k⟩=>?_;obtain⟨⟨a,y,Z,K,r,p⟩,u⟩:=R.od i _ hi;obtain⟨dx,P,N,F⟩:=L a y Z;subst P;exact⟨.ref a,K,a,dx,_,rfl,p,pP n1 n2,O,W,R,λ B w s1 g1=>q R s1 g1 r p N F (k a dx K r p)⟩
end
theorem AG{C:Nat}{G:Gs}(p:PE X (.Name x np) (tVar i))(c:Cls X.K C)(o:B9 X.K C "text")(n:B9 X.K C "place")(r:G.rdc=C)(q:δ[i]? = some (.od s))(f:fldD G b s=some d) :
  PE X (.Attribute (.Name x np) (if b then "place" else "text") apos) (dE X.D E δ (.ok d .strong)):=by
 refine(sO p rfl).weak λ σ H Q ⟨O,W,R,k⟩=>?_;obtain⟨⟨a,ob,y,m,e2,l⟩,u⟩:=R.od i _ q;unfold fldD at f;split at f
 ·rename_i c0 q1 q2 t k0;split at f
  ·rename_i h;cases f;obtain⟨j,_⟩:=h;rw[r]at j;subst j;obtain⟨A,g,qa,qx,t',k',e,h1,h2,w,v⟩:=y
   ·injection e with e
    injection e with e1' e
    injection e with e2' e
    injection e with e3' e
    injection e with e4 e
    injection e with e5 e
    injection e1' with e1'
    injection e4 with e4
    injection e5 with e5
    subst e4 e5;have z:C=A:=by omega
    subst z;subst v;cases b with
    | true=>exact⟨.ref a,m,a,C,g,_,.int k0,rfl,l,c,n,rfl,k _ H (Same.refl H) x4⟩
    | false=>exact⟨.ref a,m,a,C,g,_,.str t,rfl,l,c,o,rfl,k _ H (Same.refl H) (iV w)⟩
  ·cases f
 ·cases f
def KvIs(K:EQ)(r:EC DV)(u:EC ED):Prop:=match r with
 | none=>u=none
 | some d=>∃z v,u=some z/\RelV v z/\∀mg H,Rep ⟨K,mg⟩ H d v
def Z1(K:EQ)(w:EK)(mg:Str->EC ED)(x:Str)(kvs:ge (Str×EC DV)):Prop:=
 ∃a es n,mg x=some (.ref a)/\K.lookup a=some ⟨.type "dict",none,.dict es n,#[]⟩/\PySem.W.KeysLit w.params es.toList/\(a==sysModules)=false/\∀k r,kvs.lookup k=some r->∃u,PySem.W.nsIn K a k=some u/\KvIs K r u
def rIxK(X:Cx):R2:=λ x y H Q=>∃(a:EG) (es:EJ DictEntry) (n:Nat) (k:Str) (v:V) (z:ED),x=.ref a/\y=.str k/\X.K.lookup a=some ⟨.type "dict",none,.dict es n,#[]⟩/\PySem.W.KeysLit X.w.params es.toList/\PySem.W.nsIn X.K a k=some (some z)/\RelV v z/\Q v H
theorem ix_K:IxR X (rIxK X):=by
 intro b c d s σ H x y v u Q I m l q o;obtain⟨a,es,n,k,h,z,rfl,rfl,g,p,e,j,q⟩:=q;cases m;obtain⟨i,rfl⟩:=l;have f:=PySem.W.mapOf_K (prog:=X.prog) I.kIn g p;exact tail_any f.typeIs slot_dict_getitem.lookup (wpAny_getItem_of (strKind_is X.prog X.w k i) f (PySem.W.find_K g e) ⟨h,H,I.tok _,j,q⟩) o
noncomputable def rNoK(X:Cx):R2:=λ x y H Q=>∃(a:EG) (es:EJ DictEntry) (n:Nat) (k:Str) (r:EC ED),y=.ref a/\x=.str k/\X.K.lookup a=some ⟨.type "dict",none,.dict es n,#[]⟩/\PySem.W.KeysLit X.w.params es.toList/\(a==sysModules)=false/\PySem.W.nsIn X.K a k=some r/\Q (.bl (!r.isSome)) H
theorem no_K:OpR X (compareOp .NotIn) (rNoK X):=by
 intro b s σ H x y v u Q I g f q;obtain⟨a,es,n,k,r,rfl,rfl,c,i,h,e,q⟩:=q;cases f;obtain⟨d,rfl⟩:=g;exact wpAny_notIn_of (strKind_is X.prog X.w k d) h (PySem.W.mapOf_K I.kIn c i) (by rw[PySem.W.find_K c e];exact⟨.bl _,H,I.tok _,rfl,q⟩)
def DK(K:EQ)(D:Dm)(G:Gs)(f:Nat)(fd:EO)(ps:ge Str):Prop:=
 (∀ds,G.dfl.lookup f=some ds->∃us dvs,u7 K fd ps us/\Vals dvs us/\∀H,RepL D H ds dvs)/\∀n,G.kws.lookup f=some n->KBinds K fd ps n (aL n.length ps.length) (aL n.length ps.length)
def RdG(G:Gs)(F:Nat->ge DV->EC Ou)(X:Cx):Prop:=∃C:Nat,G.rdc=(C:Int)/\Cls X.K C/\B9 X.K C "text" /\ B9 X.K C "place" /\
 (G.mtx=true->∀m n,rdN[m]? = some n->∃k fa fd ps,Room k X.A/\Meth X.K C n fa/\u7 X.K fd ps []/\FnOk X.prog X.w X.K X.mg X.base (CXx X.prog X.w X.base) k fa fd ps (spM X.D C (F m))) /\
 (G.mtx=false->∀t j o,Rm.of (F rdIx [.str t,.int j])=some o->∃k fi fdi psi fa fd ps f,Room (k+1) X.A/\X.mg "Reader" = some (.ref C)/\Mk X.K C fi/\u7 X.K fdi psi []/\FnOk X.prog X.w X.K X.mg X.base (CXx X.prog X.w X.base) k fi fdi psi (spI C)/\Meth X.K C "take_plan" fa/\u7 X.K fd ps []/\FnOk X.prog X.w X.K X.mg X.base (CXx X.prog X.w X.base) k fa fd ps (spM X.D C f) /\
  ∀a dx,Rm.of (f [rdD C a dx t j])=some (rmAt C a dx t o))
structure Good(sg:Sg)(G:Gs)(F:Nat->List DV->Option Ou)(X:Cx)(E:St->XK):Prop where
 N:X.N=sg.N
 nd:X.N.Nodup
 vis:∀x,visB sg x=true->Vis X.env.scope x
 glo:∀x,gloB sg x=true->Gl X x
 loc:∀x,locB sg x=true->Loc X.env.scope x/\(X.fn x=true\/X.env.scope.names.lookup x=some .local)
 lcl:∀x,sg.sc.lookup x=some .local->X.env.scope.names.lookup x=some .local
 cel:∀x,(sg.sc.lookup x=some .cell\/sg.sc.lookup x=some .free)->X.env.scope.names.lookup x=some .cell\/X.env.scope.names.lookup x=some .free
 calm:X.calm=true
 hu:X.A.units+64<cLine
 fns:∀f x,sg.fn[f]? = some x->∃k fa fd ps,Room k X.A/\X.mg x=some (.ref fa)/\PySem.W.keepIn X.K (.ref fa)=true/\u7 X.K fd ps []/\(∀ds o,F f ds=some o->ds.length=ps.length) /\
  FnOk X.prog X.w X.K X.mg X.base (CXx X.prog X.w X.base) k fa fd ps (spF X.D ps.length (F f))/\DK X.K X.D G f fd ps
 blt:∀x∈sg.bl,X.mg x=none
 pas:G8 (CXx X.prog X.w X.base) X E
 con:∀x d,G.con.lookup x=some d->∃u v,X.mg x=some u/\RelV v u/\∀H,Rep X.D H d v
 own:sg.lp=true->PassesOwn (model X.prog X.w) X.A X.env X.xe
 xf:XFacts X.K X.mg G sg.cl
 st:sg.top=true->X.stack=X.env::X.outer/\X.env.frame=some X.env.locals/\X.ex=[]/\dR X E/\bz X E
 dcs:∀x kvs,G.dcs.lookup x=some kvs->Z1 X.K X.w X.mg x kvs
 lms:G.fnl.isEmpty=false->(G.fnl=sg.fn/\G.bll=sg.bl/\G.cll=sg.cl)/\(∃k,Room k X.A/\cg X.prog X.w X.K X.mg X.base sg.fn sg.bl sg.cl k (F D4))/\(sg.top=true->∃c P,X.env.code=.ref c/\(∀h:Heap,X.K.In h->PySem.W.CodeHd h c P)/\(P,X.env.qual ++ "<lambda>")∈u0 X.K)
 rd:0<=G.rdc->RdG G F X
theorem V9:∀{l:ge Str},R0 l=true->l.Nodup
 | [],_=>List.nodup_nil
 | x::r,h=>by unfold R0 at h;rw[g9]at h;refine U0.mpr ⟨λ z=>?_,V9 h.2⟩;have:=h.1;rw[E8.mpr z]at this;cases this
theorem Z2(g:Good sg G F X E)(h:O6 sg N' fr sc tg=true):CompScope X.N N' sc X.env.scope fr/\(∀(j k i:Nat),fr[j]? = some (some i)->fr[k]? = some (some i)->j=k)/\∀i∈R4 tg,fr[i]? = some none:=by
 unfold O6 at h;simp only[g9,y9,i1]at h;obtain⟨⟨⟨⟨⟨⟨A,z⟩,m⟩,w⟩,l⟩,v⟩,u⟩:=h;have d:∀(j i:Nat),fr[j]? = some _->∃x,N'[j]? = some x/\sg.N[i]? = some x/\(x,NameKind.free)∈sc.names:=λ j i e=>by
  have hj:=(n7.mp e).1;have f:j<N'.length:=by rwa [←l]
  have o:(some i,N'[j])∈fr.zip N':=(by refine M9 (i:=j) ?_;rw[fA];exact⟨e,o4 f⟩);have q:=v _ o;simp[g9,i1,E8]at q;exact⟨_,o4 f,q.1,q.2⟩
 refine⟨⟨z,V9 m,V9 w,l,λ j i e=>?_,λ y p r=>?_⟩,λ j k i C B=>?_,A⟩
 ·obtain⟨x,a,b,c⟩:=d j i e;exact⟨x,a,by rwa [g.N],c⟩
 ·have q:=u y p;rw[i3 r]at q;simp[v7,i1]at q;exact g.cel _ q
 ·obtain⟨x,a,b,_⟩:=d j i C;obtain⟨x',H,n,_⟩:=d k i B;rw[b]at n;cases n;exact dz (V9 m) a H
theorem pQ{sg:Sg}{G:Gs}{F:Nat->ge DV->EC Ou}{X:Cx}{E:St->XK}{tg:Tg}{sc:ER}{N':ge Str}{fr:ge (EC Nat)}(g:Good sg G F X E)(h:O6 sg N' fr sc tg=true)(C:EG)(cells:ge (Str×EG))(s₂:EF)(H₂:Hp)(fp:ge EG)(x1:XK){E':St->XK}(hp:∀σ C o H,E' σ C o H->x1 C o H):Good ⟨N',sc.names,sg.fn,sg.bl,sg.cl,false,false⟩ G F (k8 X sc N' C cells s₂ H₂ fp x1) E':=by
 obtain⟨S,_,_⟩:=Z2 g h;have look:∀x,(k8 X sc N' C cells s₂ H₂ fp x1).env.scope.names.lookup x=(sc.names.lookup x).map λ k=>if(k==NameKind.free&&X.env.scope.kind == .function&&X.env.kindOf x==some .cell)=true then NameKind.cell else k:=λ x=>gP
 have one:∀x k,sc.names.lookup x=some k->k ≠ .free->(k8 X sc N' C cells s₂ H₂ fp x1).env.scope.names.lookup x=some k:=λ x k e hk=>by rw[look,e,X1,i4];intro z;simp only[g9,i1]at z;exact hk z.1.1
 have two:∀x,sc.names.lookup x=some .free->(k8 X sc N' C cells s₂ H₂ fp x1).env.scope.names.lookup x=some .cell\/(k8 X sc N' C cells s₂ H₂ fp x1).env.scope.names.lookup x=some .free:=λ x e=>by
  rw[look,e,X1];split
  ·exact .inl rfl
  ·exact .inr rfl
 refine⟨rfl,S.nd,λ x hx=>?_,λ x hx=>?_,λ x hx=>?_,λ x hx=>one x _ hx (by intro z;cases z),λ x hx=>?_,g.calm,g.hu,g.fns,g.blt,?_,g.con,(λ z=>nomatch z),g.xf,(λ z=>nomatch z),g.dcs,(λ z=>⟨(g.lms z).1,(g.lms z).2.1,λ w=>nomatch w⟩),g.rd⟩
 ·unfold visB at hx;simp only[v7,i1]at hx;rcases hx with(hx | hx) | hx
  ·exact .inl (one x _ hx (by intro z;cases z))
  ·exact .inr (.inl (one x _ hx (by intro z;cases z)))
  ·exact .inr (two x hx)
 ·unfold gloB at hx;rw[i1]at hx;exact one x _ hx (by intro z;cases z)
 ·unfold locB at hx;simp only[v7,i1]at hx;rcases hx with hx | hx
  ·exact⟨.inl (one x _ hx (by intro z;cases z)),.inr (one x _ hx (by intro z;cases z))⟩
  ·exact⟨.inr (one x _ hx (by intro z;cases z)),.inl (by show(sc.names.lookup x==some .cell)=true;rw[hx];rfl)⟩
 ·rcases hx with hx | hx
  ·exact .inl (one x _ hx (by intro z;cases z))
  ·exact two x hx
 ·intro pins σ H s e s' I z;obtain⟨ea,Cc,H',B,e1,e2,e3,e4,e5,e6,q⟩:=z;exact⟨pins,σ,H,s,I.comp0,ea,Cc,H',B,e1,e2,e3,e4,e5,e6,hp _ _ _ _ q⟩
theorem W0(g:Good sg G F X E)(h:O6 sg N' fr sc tg=true)(C:EG)(a:ge (Str×EG))(b:EF)(c:Hp)(d:ge EG)(x1:XK):Good ⟨N',sc.names,sg.fn,sg.bl,sg.cl,false,false⟩ G F (k8 X sc N' C a b c d x1) E0s:=pQ g h C a b c d x1 λ _ _ _ _ z=>z.elim
theorem W1(g:Good sg G F X E)(h:G5 sg i x=true):X.N[i]? = some x/\Vis X.env.scope x/\(x==("__debug__" : Str))=false/\(x==("__classdict__" : Str))=false:=by
 unfold G5 at h;simp[g9,i1,F8,E3]at h;obtain⟨⟨⟨h1,c⟩,b⟩,a⟩:=h;exact⟨by rwa [g.N],g.vis x c,o9.mpr b,o9.mpr a⟩
theorem Z3(g:Good sg G F X E)(h:bltB sg x f=true):(∃p,f=.Name x p)/\Gl X x/\X.mg x=none:=by
 unfold bltB at h;simp[g9,i1,E8]at h;obtain⟨⟨c,b⟩,a⟩:=h;exact⟨z7 c,g.glo x b,g.blt x a⟩
theorem pR(g:Good a G F X E)(b:ge (EG×Obj))(c:St->ED->Hp->Prop):Good ⟨a.N,a.sc,a.fn,a.bl,a.cl,false,false⟩ G F (X.tryIn b c) (λ d C _ H=>c d C H):=
 ⟨g.N,g.nd,g.vis,g.glo,g.loc,g.lcl,g.cel,g.calm,g.hu,g.fns,g.blt,ur,g.con,(λ z=>nomatch z),g.xf,(λ z=>nomatch z),g.dcs,(λ z=>⟨(g.lms z).1,(g.lms z).2.1,λ w=>nomatch w⟩),g.rd⟩
theorem jz(g:Good sg G F X E):∀(a:ge Nat) (es:ge EI),es.length=a.length->((a.zip es).all λ p=>match v4 p.2 with | some x=>sg.N[p.1]? == some x&&locB sg x | none=>false)=true ->
  PGs X es (cn a)/\(assignEach es X.env).length=a.length/\(assignEach es X.env).findIdx? (·.1)=none
 | [],[],_,_=>⟨rB,rfl,rfl⟩
 | [],_::_,h,_=>by cases h
 | _::_,[],h,_=>by cases h
 | i::a,e::es,hl,h=>by
  rw[List.zip_cons_cons,List.all_cons,g9]at h;obtain⟨b,c⟩:=h;obtain⟨A,B,C⟩:=jz g a es (by grind) c;split at b
  ·rename_i x q;obtain⟨p,rfl⟩:=z7 q;simp[g9,i1]at b;have l:=g.loc x b.2;refine⟨rC (lj g.nd (by rw[g.N];exact b.1) l.1 l.2) A rfl,?_,?_⟩
   ·show(assignEach es X.env).length+1=a.length+1;rw[B]
   ·show(_::assignEach es X.env).findIdx? (·.1)=none;rw[List.findIdx?_cons,C];rfl
  ·cases b
theorem aM(g:Good sg G F X E)(h:tgOk sg tg a=true):PG X a (gT X.K tg):=by
 cases tg with
 | one i=>
  unfold tgOk at h;dsimp at h;split at h
  ·rename_i x q;obtain⟨p,rfl⟩:=z7 q;simp[g9,i1]at h;have l:=g.loc x h.2;exact lj g.nd (by rw[g.N];exact h.1) l.1 l.2
  ·cases h
 | many b=>
  unfold tgOk at h;dsimp at h;split at h
  ·rename_i es q;obtain⟨k,p,rfl⟩:=bO q;rw[g9,g9,i1]at h;obtain⟨A,B,C⟩:=jz g b es h.1.1 h.2;exact lm g.calm A B C
  ·cases h
section
variable (G:Gs) (F:Nat->ge DV->EC Ou)
def SE(m:ME):Prop:=∀{sg:Sg} {X:Cx} {E:St->XK} {e:EI} {δ:ge Sv} {r:Re},Good sg G F X E->corE sg false m e=true->evE G F m δ=some r->PE X e (dE X.D E δ r)
def ST(m:ME):Prop:=∀{sg:Sg} {X:Cx} {E:St->XK} {e:EI} {δ:ge Sv} {r:Rt},Good sg G F X E->corE sg false m e=true->tstD (evE G F m δ)=some r->PT X e (dT X.D E δ r)
def SI(m:ME):Prop:=∀{sg:Sg} {X:Cx} {E:St->XK} {e tg:EI} {δ:ge Sv} {r:Ri},Good sg G F X E->corE sg true m e=true->(isZp m=true->(F3 tg).isSome=true)->G4 (evE G F m δ)=some r->PI X tg e (dI X.D E δ r)
def SEs(ms:ge ME):Prop:=∀{sg:Sg} {X:Cx} {E:St->XK} {es:ge EI} {δ:ge Sv} {r:Rs},Good sg G F X E->j8 sg ms es=true->evEs G F ms δ=some r->PA X es (dA X.D E δ r)
def SAnd(ms:ge ME):Prop:=∀{sg:Sg} {X:Cx} {E:St->XK} {es:ge EI} {δ:ge Sv} {pos:Pos},Good sg G F X E->j8 sg ms es=true ->
 (∀r,J8 G F ms δ=some r->PE X (.BoolOp .And es pos) (dE X.D E δ r))/\(∀r,tstD (J8 G F ms δ)=some r->PW X (.BoolOp .And es pos) (dT X.D E δ r))
def SOr(ms:ge ME):Prop:=∀{sg:Sg} {X:Cx} {E:St->XK} {es:ge EI} {δ:ge Sv} {pos:Pos},Good sg G F X E->j8 sg ms es=true ->
 (∀r,evOr G F ms δ=some r->PE X (.BoolOp .Or es pos) (dE X.D E δ r))/\(∀r,tstD (evOr G F ms δ)=some r->PW X (.BoolOp .Or es pos) (dT X.D E δ r))
def S1(m:ME):Prop:=SE G F m/\ST G F m/\SI G F m
end
theorem S1.of(h:SE G F m)(hw:∀b e,corE b true m e=corE b false m e)(j:∀b e f,corE b false m e=true->∀a,isTrue e f a=(do let v ←a;standAt e.pos;holding [v] (truthy v))):S1 G F m:=
 ⟨h,λ {b X E e i r} g d q=>yt (λ z c=>h g d c) (j b e X.env d) q,λ {b X E e tg i r} g d _ q=>pu (λ z c=>h g (by grind) c) q⟩
theorem S1.of2(h:SE G F m)(c:ST G F m)(hw:∀a e,corE a true m e=corE a false m e):S1 G F m:=
 ⟨h,c,λ {a X E e tg δ r} g hc _ q=>pu (λ z b=>h g (by grind) b) q⟩
noncomputable def pS:EI->Bool
 | .UnaryOp .Not _ _=>false | .BoolOp _ _ _=>false | .IfExp _ _ _ _=>false | .Compare _ _ _ _=>false
 | _=>true
theorem t8(h:pS e=true)(env:Env):∀b,isTrue e env b=(do let v ←b;standAt e.pos;holding [v] (truthy v)):=by
 cases e with
 | UnaryOp o a p=>cases o<;>first | (intro _;rfl) | cases h
 | BoolOp _ _ _=>cases h
 | IfExp _ _ _ _=>cases h
 | Compare _ _ _ _=>cases h
 | _=>intro _;rfl
section
variable {G:Gs} {F:Nat->ge DV->EC Ou} {a b c:ME}
theorem AH:S1 G F (.var i):=by
 refine .of (λ {c X E e δ r} g a h=>?_) (λ _ _=>rfl) (λ c e b a=>?_)
 ·refine D6 a λ x p a=>?_;obtain⟨k,j,f,d⟩:=W1 g a;exact xv k j f d (by unfold evE at h;exact h)
 ·exact D6 a λ x p _=>t8 rfl b
theorem fv(i:∀a w e,corE a w m e=true->K2 e=some k)(o:∀b,evE G F m b=some (.ok d .strong))(l:∀a e,corE a true m e=corE a false m e)
  (n:∀{X:Cx} {E:St->XK} {b:ge Sv} {j:Nat} {pos:Pos} a e,corE a false m e=true->PE X (.Constant k j pos) (dE X.D E b (.ok d .strong))):S1 G F m:=by
 refine .of (λ {a X E e b r} g c h=>?_) l (λ a e f c=>?_)
 ·obtain⟨j,p,rfl⟩:=V1 (i a false e c);rw[o]at h;cases h;exact n a _ c
 ·obtain⟨j,p,rfl⟩:=V1 (i a false e c);exact t8 rfl f
theorem AI:S1 G F (.int i):=fv (λ sg w e h=>i1.mp h) (λ δ=>by unfold evE;rfl) (λ _ _=>rfl) λ _ _ _=>xw
theorem s_bl:S1 G F (.bl i):=fv (λ sg w e h=>i1.mp h) (λ δ=>by unfold evE;rfl) (λ _ _=>rfl) λ _ _ _=>xy
theorem AJ:S1 G F .non:=fv (λ sg w e h=>i1.mp h) (λ δ=>by unfold evE;rfl) (λ _ _=>rfl) λ _ _ _=>xA
theorem AK:S1 G F (.str i):=fv (λ sg w e h=>i1.mp (F5.mp h).1) (λ δ=>by unfold evE;rfl) (λ _ _=>rfl) λ _ _ h=>xz (o6 (aX (F5.mp h).2) (by decide))
theorem AL:S1 G F (.glb x):=by
 refine .of (λ {c X E e δ r} g a h=>?_) (λ _ _=>rfl) (λ c e b a=>?_)
 ·have a:(v4 e==some x&&gloB c x&&x != "__debug__")=true:=a;simp only[g9,i1,F8,E3]at a;obtain⟨p,rfl⟩:=z7 a.1.1;unfold evE at h;obtain⟨d,k,j⟩:=j7.mp h;cases j;obtain⟨u,v,m,f,i⟩:=g.con x d k;exact(dB (g.glo x a.1.2) m f (o9.mpr a.2)).weak λ σ H Q ⟨O,W,R,p⟩=>p v H (Same.refl H) (i _)
 ·obtain⟨p,rfl⟩:=z7 (i1.mp (F5.mp (F5.mp a).1).1);exact t8 rfl b
theorem AM(hb:S1 G F b):S1 G F (.gdx x b):=by
 refine .of (λ {Z X E e Y r} g j h=>?_) (λ _ _=>rfl) (λ Z e J j=>?_)
 ·refine O4 j λ ea q K j=>?_;simp only[g9,i1,F8,E3,m9]at j;obtain⟨⟨⟨⟨h1,h2⟩,h3⟩,h4⟩,h5⟩:=j;obtain⟨p,rfl⟩:=z7 h1;unfold evE at h;split at h
  case isFalse=>cases h
  rename_i f;cases I:evE G F b Y with
  | none=>rw[I]at h;cases h
  | some rb=>
   rw[I]at h;have B:=hb.1 g h4 I;have C:∀{v:V} {u:ED} _ (L:RelV v u) t,PE X q t->PE X (.Subscript (.Name x p) q K) _:=λ m L t hB=>
    lU ix_K (dB (g.glo x h2) m L (o9.mpr h3)) hB (by cases q<;>first | (intro _ _;rfl) | cases h5)
   cases rb with
   | ex c=>
    cases h;cases o:G.dcs.lookup x with
    | none=>rw[o]at f;cases f
    | some i=>
     obtain⟨a,M,n,m,S,P,e0,N⟩:=g.dcs x i o;exact(C m (v:=.ref a) rfl _ B).weak λ U H Q ⟨O,W,R,p⟩=>⟨O,W,R,p⟩
   | ok y cy=>
    obtain⟨d,l,q2⟩:=j7.mp h;cases q2;unfold gdxD at l;split at l
    ·rename_i i k o;obtain⟨r',q3,q4⟩:=m7.mp l;have A:=q4;subst A;obtain⟨a,M,n,m,S,P,e0,N⟩:=g.dcs x i o;obtain⟨u,e4,e5⟩:=N k _ q3;obtain⟨z,v,e6,e7,e8⟩:=e5;subst e6;exact(C m (v:=.ref a) rfl _ B).weak λ U H Q ⟨O,W,R,p⟩=>⟨O,W,R,λ w H1 s1 gy=>⟨a,M,n,k,v,z,rfl,(gy.str (R.hid.mono s1)).1,S,P,e4,e7,p _ H1 s1 (e8 X.mg _)⟩⟩
    ·cases l
 ·exact O4 j λ ea q K _=>t8 rfl J
theorem pT(g:Good C G F X E)(Z:gloB C x=true)(Y:x ≠ "__debug__")(U:∀z,evE G F b δ=some z->PE X J (dE X.D E δ z))
  (h:(if(G.dcs.lookup x).isSome then Re.thn (evE G F b δ) (λ y _=>(ginD G x y).map λ k=>Re.ok (.bl (!k)) .strong)else none)=some r) :
  ∃A tb,PE X J A/\PE X (.Name x p) tb/\(∀σ H Q,dE X.D E δ r σ H Q->tOp (rNoK X) A tb σ H Q)/\∀d c,r=.ok d c->∃k,d=.bl k:=by
 split at h
 case isFalse=>cases h
 rename_i e;cases t:G.dcs.lookup x with
 | none=>rw[t]at e;cases e
 | some j=>
  obtain⟨a,es,n,m,e1,e2,e0,e3⟩:=g.dcs x j t;have B:PE X (.Name x p) (tC (.ref a)):=dB (g.glo x Z) m rfl (o9.mpr Y);cases l:evE G F b δ with
  | none=>rw[l]at h;cases h
  | some L=>
   rw[l]at h;refine⟨_,_,U _ l,B,?_⟩;cases L with
   | ex c=>
    cases h;exact⟨λ σ H Q ⟨O,W,R,p⟩=>⟨O,W,R,p⟩,λ d c q=>by cases q⟩
   | ok y cy=>
    obtain⟨k,i,S⟩:=j7.mp h;cases S;refine⟨?_,λ d c q=>by cases q;exact⟨!k,rfl⟩⟩;unfold ginD at i;split at i
    ·rename_i I f o;cases t.symm.trans o;obtain⟨M,P,N⟩:=j7.mp i;obtain⟨u,e4,K⟩:=e3 f _ P;have e6:u.isSome=k:=by
      rw[←N];cases M with
      | none=>rw[show u=none from K];rfl
      | some d'=>obtain⟨z,v,e7,_⟩:=K;rw[e7];rfl
     exact λ σ H Q ⟨O,W,R,p⟩=>⟨O,W,R,λ w H1 s1 gy=>⟨a,es,n,f,u,rfl,(gy.str (R.hid.mono s1)).1,e1,e2,e0,e4,by rw[e6];exact p _ H1 s1 K3⟩⟩
    ·cases i
theorem AN(q:S1 G F b):S1 G F (.gno x b):=by
 refine .of2 (λ {C X E e n r} g c h=>?_) (λ {C X E e n r} g c h=>?_) (λ _ _=>rfl)
 ·refine eH c λ K o J p c=>?_;simp only[g9,i1,F8,E3]at c;obtain⟨⟨m,⟨l,i⟩,a⟩,k⟩:=c;subst m;obtain⟨I,rfl⟩:=z7 l;unfold evE at h;obtain⟨y,v,A,B,w,_⟩:=pT g i a (λ z j=>q.1 g k j) h;exact(ls no_K A B rfl).weak w
 ·refine eH c λ K o J p c=>?_;simp only[g9,i1,F8,E3]at c;obtain⟨⟨m,⟨l,i⟩,a⟩,k⟩:=c;subst m;obtain⟨I,rfl⟩:=z7 l;cases f:evE G F _ n with
  | none=>rw[f]at h;cases h
  | some re=>
   rw[f]at h;have d:=f;unfold evE at d;obtain⟨y,v,A,B,w,u⟩:=pT g i a (λ z j=>q.1 g k j) d;exact(lw no_K A B rfl).weak λ t H Q z=>w t H _ (iZ u h z)
theorem AO(k:S1 G F a)(j:S1 G F b):S1 G F (.bin op a b):=by
 refine .of (λ {i X E e δ r} g c h=>?_) (λ _ _=>rfl) (λ i e f c=>?_)
 ·refine eA c λ ea o eb p c=>?_;simp only[g9,i1]at c;obtain⟨⟨n,m⟩,l⟩:=c;subst n;unfold evE at h;exact xI (λ z d=>k.1 g m d) (λ z d=>j.1 g l d) h
 ·exact eA c λ _ _ _ p _=>t8 rfl f
theorem AQ(k:S1 G F a):S1 G F (.neg a):=by
 refine .of (λ {i X E e δ r} g b h=>?_) (λ _ _=>rfl) (λ i e d b=>?_)
 ·refine eB b λ o ea p b=>?_;simp only[g9,i1]at b;obtain⟨c,f⟩:=b;subst c;unfold evE at h;exact xJ (λ z j=>k.1 g f j) h
 ·refine eB b λ _ _ p b=>?_;simp only[g9,i1]at b;obtain⟨c,f⟩:=b;subst c;exact t8 rfl d
theorem AR(i:S1 G F a):S1 G F (.not a):=by
 refine .of2 (λ {k X E e j r} g b h=>?_) (λ {k X E e j r} g b h=>?_) (λ _ _=>rfl)
 ·refine eB b λ o l p b=>?_;simp only[g9,i1]at b;obtain⟨f,d⟩:=b;subst f;unfold evE at h;exact yv (λ z c=>i.1 g d c) h
 ·refine eB b λ o l p b=>?_;simp only[g9,i1]at b;obtain⟨f,d⟩:=b;subst f;unfold evE at h;exact yy (λ z c=>i.2.1 g d c) h
theorem AS(m:S1 G F a)(l:S1 G F b):S1 G F (.cmp op a b):=by
 refine .of2 (λ {q X E e n r} g c h=>?_) (λ {q X E e n r} g c h=>?_) (λ _ _=>rfl)
 ·refine eH c λ u o t p c=>?_;simp only[g9,i1,m9]at c;obtain⟨⟨⟨k,j⟩,i⟩,f⟩:=c;subst k;unfold evE at h;exact yl g.hu (λ z d=>m.1 g j d) (λ z d=>l.1 g i d) f h
 ·refine eH c λ u o t p c=>?_;simp only[g9,i1,m9]at c;obtain⟨⟨⟨k,j⟩,i⟩,f⟩:=c;subst k;unfold evE at h;exact yo g.hu (λ z d=>m.1 g j d) (λ z d=>l.1 g i d) f h
theorem AT(v:S1 G F a)(u:S1 G F b)(j:S1 G F c):S1 G F (.chain op k a b c):=by
 refine .of2 (λ {x X E e w r} g f h=>?_) (λ {x X E e w r} g f h=>?_) (λ _ _=>rfl)
 ·refine nK f λ C o y B A p f=>?_;simp only[g9,i1,m9]at f;obtain⟨⟨⟨⟨⟨t,i⟩,q⟩,n⟩,m⟩,l⟩:=f;subst t i;unfold evE at h;exact yp g.hu (λ z d=>v.1 g q d) (λ z d=>u.1 g n d) (λ z d=>j.1 g m d) l h
 ·refine nK f λ C o y B A p f=>?_;simp only[g9,i1,m9]at f;obtain⟨⟨⟨⟨⟨t,i⟩,q⟩,n⟩,m⟩,l⟩:=f;subst t i;unfold evE at h;exact yq g.hu (λ z d=>v.1 g q d) (λ z d=>u.1 g n d) (λ z d=>j.1 g m d) l h
theorem AU(i:S1 G F c)(n:S1 G F a)(m:S1 G F b):S1 G F (.ite c a b):=by
 refine .of2 (λ {q X E e o r} g f h=>?_) (λ {q X E e o r} g f h=>?_) (λ _ _=>rfl)
 ·refine nE f λ t v u p f=>?_;simp only[g9]at f;obtain⟨⟨l,k⟩,j⟩:=f;unfold evE at h;exact yC (λ z d=>i.2.1 g l d) (λ z d=>n.1 g k d) (λ z d=>m.1 g j d) h
 ·refine nE f λ t v u p f=>?_;simp only[g9]at f;obtain⟨⟨l,k⟩,j⟩:=f;unfold evE at h;exact yB (λ z d=>i.2.1 g l d) (λ z d=>n.2.1 g k d) (λ z d=>m.2.1 g j d) h
theorem s_ix(k:S1 G F a)(j:S1 G F b):S1 G F (.ix a b):=by
 refine .of (λ {i X E e δ r} g c h=>?_) (λ _ _=>rfl) (λ i e f c=>?_)
 ·refine O4 c λ ea eb p c=>?_;simp only[g9,m9]at c;obtain⟨⟨n,m⟩,l⟩:=c;unfold evE at h;exact xM (λ z d=>k.1 g n d) (λ z d=>j.1 g m d) l h
 ·exact O4 c λ _ _ p _=>t8 rfl f
theorem AV(k:S1 G F a)(j:S1 G F b):S1 G F (.slf a b):=by
 refine .of (λ {i X E e δ r} g c h=>?_) (λ _ _=>rfl) (λ i e f c=>?_)
 ·refine O4 c λ ea es p c=>?_;refine xg c λ _ p2 c=>?_;simp only[g9]at c;obtain⟨m,l⟩:=c;unfold evE at h;exact xN (λ z d=>k.1 g m d) (λ z d=>j.1 g l d) h
 ·exact O4 c λ _ _ p _=>t8 rfl f
theorem AW(k:S1 G F a)(j:S1 G F b):S1 G F (.slt a b):=by
 refine .of (λ {i X E e δ r} g c h=>?_) (λ _ _=>rfl) (λ i e f c=>?_)
 ·refine O4 c λ ea es p c=>?_;refine xh c λ _ p2 c=>?_;simp only[g9]at c;obtain⟨m,l⟩:=c;unfold evE at h;exact xO (λ z d=>k.1 g m d) (λ z d=>j.1 g l d) h
 ·exact O4 c λ _ _ p _=>t8 rfl f
theorem AX(m:S1 G F a)(l:S1 G F b)(i:S1 G F c):S1 G F (.stm a b c):=by
 refine .of (λ {k X E e δ r} g d h=>?_) (λ _ _=>rfl) (λ k e j d=>?_)
 ·refine O4 d λ ea es p d=>?_;refine xi d λ _ _ p2 d=>?_;simp only[g9]at d;obtain⟨⟨q,o⟩,n⟩:=d;unfold evE at h;exact yi (λ z f=>m.1 g q f) (λ z f=>l.1 g o f) (λ z f=>i.1 g n f) h
 ·exact O4 d λ _ _ p _=>t8 rfl j
theorem AY{b:Bool}:S1 G F (.fld i b):=by
 refine .of (λ {k X E e δ r} g a h=>?_) (λ _ _=>rfl) (λ k e f a=>?_)
 ·refine L9 a λ o n y a=>?_;rw[g9,i1]at a;obtain⟨B,c⟩:=a;subst B;refine D6 c λ x p c=>?_;obtain⟨s1,q,m,l⟩:=W1 g c;unfold evE at h;split at h
  ·rename_i s z;obtain⟨d,j,A⟩:=j7.mp h;cases A;obtain⟨C,w,v,u,t,_⟩:=g.rd (pK j);exact AG (F9 s1 q m l) v u t w z j
  ·cases h
 ·exact L9 a λ _ _ _ _=>t8 rfl f
theorem pU{m:Nat}(h:rdN[m]? = some n):n ≠ "text" /\ n ≠ "place":=by
 have:=M9 h;have all:∀y∈rdN,y≠("text" : Str)/\y≠("place" : Str):=by decide +kernel
 exact all n this
theorem AZ:S1 G F (.mth i m):=by
 refine .of (λ {sg X E e δ r} g l h=>?_) (λ _ _=>rfl) (λ sg e B l=>?_)
 ·refine bQ l λ x n np Y pos es0 h1 N f j l=>?_;obtain rfl:=cV.mp l;obtain⟨s1,s2,s3,s4⟩:=W1 g h1;obtain⟨n1,n2⟩:=pU N;unfold evE at h;split at h
  ·rename_i s M;split at h
   ·rename_i A;split at h
    ·rename_i d s' hF;split at h
     ·rename_i he;cases h;have:=AD he;subst this;obtain⟨C,r1,r2,r3,r4,r5,_⟩:=g.rd (pJ A.2);obtain⟨k,fa,fd,ps,w1,w2,w3,w4⟩:=r5 A.1 m n N;obtain⟨p,K,t,k0,es⟩:=pL r1 A.2;subst es;refine(jy (t:=t) (k0:=k0) (oA:=λ _ _=>.ok d (rdD C p K t k0)) (F9 s1 s2 s3 s4) r2 w2 n1 n2 f j w4 w1 w3 g.pas M (D0.weak λ Z H Q ⟨O,W,R,p⟩=>p [] H (Same.refl H) .nil) (λ _=>rfl) rfl rfl λ a ob ok=>?_).weak λ Z H Q ⟨O,W,R,kk⟩=>⟨O,W,R,λ a J e1 e2 U v H' k' c q2 q3 q4=>?_⟩
      ·obtain⟨y,w,L⟩:=Z0 ok;subst y;exact⟨K,w,L,hF⟩
      ·obtain⟨⟨a',ob,f0,S,f2,P⟩,u⟩:=R.od i _ M;obtain⟨y,w,L⟩:=Z0 f0;subst y;rw[e1]at S;cases S;rw[P,w]at U;have I:J=K:=by
        have q:=v5 U;unfold rdO at q;injection q with _ q
        exact q.symm
       subst I;have ek:k'=k0:=by
        unfold rdD at c;injection c with c
        injection c with _ c
        injection c with _ c
        injection c with _ c
        injection c with _ c
        injection c with c _
        injection c with c
        exact c.symm
       subst ek;refine kk v H' (λ b o e=>?_) q4;by_cases z:b=a
       ·subst z;rw[P,w]at e;cases e;exact q3
       ·exact q2 b o (by rw[i7 (by rw[q9];exact z)];exact e)
     ·cases h
    ·cases h
   ·cases h
  ·cases h
 ·exact bQ l λ _ _ _ _ _ _ _ _ _ _ _=>t8 rfl B
theorem Ba(k:S1 G F a)(j:S1 G F b):S1 G F (.scat a b):=by
 refine .of (λ {i X E e δ r} g c h=>?_) (λ _ _=>rfl) (λ i e f c=>?_)
 ·refine eA c λ ea o eb p c=>?_;simp only[g9,i1]at c;obtain⟨⟨n,m⟩,l⟩:=c;subst n;unfold evE at h;exact yj (λ z d=>k.1 g m d) (λ z d=>j.1 g l d) h
 ·exact eA c λ _ _ _ p _=>t8 rfl f
variable {ms:ge ME}
theorem Z4:∀{a:Sg} {b:ge ME} {es:ge EI},j8 a b es=true->es.any j3=false
 | _,[],[],_=>rfl
 | _,[],_::_,h=>by unfold j8 at h;cases h
 | _,_::_,[],h=>by unfold j8 at h;cases h
 | a,m::b,e::es,h=>by unfold j8 at h;simp[g9,m9]at h;rw[J3,h.1.2,Z4 h.2];rfl
theorem Bb(f:SEs G F ms):S1 G F (.lst ms):=by
 refine .of (λ {c X E e δ r} g a h=>?_) (λ _ _=>rfl) (λ c e b a=>?_)
 ·refine nF a λ es p a=>?_;unfold evE at h;exact yF (λ z d=>f g a d) h
 ·exact nF a λ _ p _=>t8 rfl b
theorem Bc(f:SEs G F ms):S1 G F (.tup ms):=by
 refine .of (λ {c X E e δ r} g a h=>?_) (λ _ _=>rfl) (λ c e b a=>?_)
 ·refine eF a λ es k p a=>?_;unfold evE at h;exact yG (λ z d=>f g a d) h
 ·exact eF a λ _ k p _=>t8 rfl b
theorem cu(h:n<=k9):n<=sizeLine:=o6 h (by decide)
theorem jA{X:Cx}{F:Re}{a:Str}{J:EU}{S:DV->DV->EC DV}{cl:Cl}(slot:Slot "str" a J)(K:typeOf (.builtin J)=pure (.type "method_descriptor"))(hm:MtR X J r)
  (hr:∀z y d,S (.str z) y=some d->∀O W U l cy w (Q:VK),Hid O W U l->Got X.D O W U l y cy w->(∀u k,Same l k->Got X.D O W U k d cl u->Q u k)->r (.str z) [w] l Q)
  (ha:∀q,I=some q->PE X o (dE X.D E δ q)) (hb:∀q,n=some q->PE X e (dE X.D E δ q)) (i:attributeBase o a X.env (eval o X.env)=eval o X.env) (g:(apos.endLine==cpos.line)=true) (L:j3 e=false)
  (h:(Re.thn I λ x _=>if strB x then Re.thn n λ y _=>(S x y).map λ d=>.ok d cl else none)=some F):PE X (.Call (.Attribute o a apos) [e] [] cpos) (dE X.D E δ F):=by
 have C:=λ to t (hO:PE X o to) (hA:PE X e t)=>lX PySem.F.plainAttrs_str slot K hm hO (x9 hA D0 (j9 L)) i (by rw[j9 L];rfl) g (j9 L) rfl;cases f:I with
 | none=>rw[f]at h;cases h
 | some q=>
  rw[f]at h;have A:=ha q f;cases q with
  | ex c=>
   cases h;exact(C _ _ A E6).weak λ Y H Q ⟨O,W,R,p⟩=>⟨O,W,R,p⟩
  | ok P cx=>
   have j:(if strB P then Re.thn n λ y _=>(S P y).map λ d=>Re.ok d cl else none)=some F:=h;cases P with
   | str z=>
    rw[i3 (show strB (.str z)=true from rfl)]at j;cases b:n with
    | none=>rw[b]at j;cases j
    | some q=>
     rw[b]at j;have B:=hb q b;cases q with
     | ex c=>
      cases j;refine(C _ _ A B).weak λ Y H Q ⟨O,W,R,p⟩=>⟨O,W,R,λ v H1 s1 M=>?_⟩
      have N:=(M.str (R.hid.mono s1)).1;subst N;exact⟨rfl,O,W,R.mono s1,λ k C m s=>p k C m (s1.trans s)⟩
     | ok dy cy=>
      obtain⟨d,h3,h4⟩:=j7.mp j;cases h4;refine(C _ _ A B).weak λ Y H Q ⟨O,W,R,p⟩=>⟨O,W,R,λ v H1 s1 M=>?_⟩
      have N:=(M.str (R.hid.mono s1)).1;subst N;refine⟨rfl,O,W,R.mono s1,λ w l Z g2=>?_⟩;exact hr z dy d h3 O W H l cy w Q (R.hid.mono (s1.trans Z)) (g2.since s1) λ u k s3 g3=>p u k ((s1.trans Z).trans s3) g3
   | _=>cases j
theorem Bd{X:Cx}:∀z y d,fndD (.str z) y=some d->∀O W b a cy w (Q:VK),Hid O W b a->Got X.D O W b a y cy w->(∀u e,Same a e->Got X.D O W b e d .strong u->Q u e)->∃(y f:Str) (c:Nat),(V.str z)=.str y/\[w]=[.str f]/\f.cps.toList=[c]/\Q (.int (ay c y.cps.toList)) a:=by
 intro z y d h O W b a cy w Q j g k;unfold fndD at h;split at h
 ·rename_i x' i m;cases m;split at h
  ·rename_i c l;cases h;exact⟨z,i,c,rfl,by rw[(g.str j).1],l,k _ a (Same.refl a) x4⟩
  ·cases h
 ·cases h
theorem Be{X:Cx}:∀z y d,splD (.str z) y=some d->∀O W n m cy w (Q:VK),Hid O W n m->Got X.D O W n m y cy w->(∀u t,Same m t->Got X.D O W n t d .fresh u->Q u t)->∃(y v:Str) (c:Nat),(V.str z)=.str y/\[w]=[.str v]/\v.cps.toList=[c]/\y.length<=k9/\∀p,m p=none->Q (.ref p) (upd m p (.lst ((splL c y.cps.toList).map λ p=>V.str ⟨p.toArray⟩))):=by
 intro z y d h O W n m cy w Q C g k;unfold splD at h;split at h
 ·rename_i x' E I;cases I;split at h
  ·rename_i c H;split at h
   ·rename_i B;cases h;refine⟨z,E,c,rfl,by rw[(g.str C).1],H,B,λ p A=>k _ _ (n0 A) (K4 C A ?_)⟩;have j:∀q∈splL c z.cps.toList,q.length<=z.cps.toList.length:=λ q i=>by
     have e:=iT c z.cps.toList;have:∀(l:ge _) (q:ge Nat),q∈l->q.length<=(jnL c l).length:=by
      intro l
      induction l with
      | nil=>intro q i;cases i
      | cons a r o=>
       intro q i;cases r with
       | nil=>rw[q9]at i;rw[i];exact j0 _
       | cons b r=>
        show q.length<=(a++c::jnL c (b::r)).length;rw[B7,o5];rcases i6.mp i with e | e
        ·rw[e];omega
        ·have:=o q e;omega
     have:=this _ q i;rw[e]at this;exact this
    have f:=λ q i=>o6 (j q i) (cu B);revert f;generalize splL c z.cps.toList=L;intro f
    induction L with
    | nil=>exact A3.mpr rfl
    | cons q L o=>
     refine t7.mpr ⟨_,_,rfl,x0.mpr ⟨rfl,by show q.toArray.size<=sizeLine;rw[r9];exact f q (o8 ..)⟩,o λ x F=>f x (j6 _ F)⟩
   ·cases h
  ·cases h
 ·cases h
theorem pV:∀{ds:ge DV} {a:ge Str} {b:ge V},strs? ds=some a->RepL D H ds b->b=a.map V.str
 | [],a,b,h,r=>by cases h;exact A3.mp r
 | .str i::ds,a,b,h,r=>by obtain⟨ms,g,f⟩:=j7.mp h;obtain⟨v,vs,e,d,c⟩:=t7.mp r;have q:=pV g c;subst f e q;rw[(x0.mp d).1];rfl
 | .non::_,_,_,h,_=>by cases h
 | .int _::_,_,_,h,_=>by cases h
 | .bl _::_,_,_,h,_=>by cases h
 | .tup _::_,_,_,h,_=>by cases h
 | .lst _::_,_,_,h,_=>by cases h
 | .dct _ _::_,_,_,h,_=>by cases h
 | .exc _::_,_,_,h,_=>by cases h
 | .fn _::_,_,_,h,_=>by cases h
 | .lam _ _::_,_,_,h,_=>by cases h
 | .scr _::_,_,_,h,_=>by cases h
theorem pW(s:Str):∀a:ge Str,(Str.join s a).length<=(a.map (·.length)).sum+a.length*s.length
 | []=>E2 _
 | [x]=>by show x.length<=_;simp
 | x::y::r=>by have b:=pW s (y::r);show(x++s++Str.join s (y::r)).length<=_;rw[dm,dm];simp only[J2,List.sum_cons,o5,Nat.add_mul,Nat.one_mul]at b ⊢;omega
theorem Bf{X:Cx}:∀z y d,joiD (.str z) y=some d->∀O W e b cy w (Q:VK),Hid O W e b->Got X.D O W e b y cy w->(∀u f,Same b f->Got X.D O W e f d .strong u->Q u f)->∃(y:Str) (a:EG) (c:ge Str),(V.str z)=.str y/\[w]=[.ref a]/\SqL X.K b a (c.map V.str)/\(c.map (·.length)).sum+c.length*y.length<=k9/\Q (.str (Str.join y c)) b:=by
 intro z y d h O W e b cy w Q l g k;unfold joiD at h;split at h
 ·rename_i s' ds q;cases q;split at h
  ·rename_i c j;split at h
   ·rename_i i;cases h;obtain⟨a,xs,p,o,n⟩:=g.lst l;have m:=pV j n;subst m;exact⟨z,a,c,rfl,by rw[p],SqL.of o,i,k _ b (Same.refl b) (x0.mpr ⟨rfl,cu (o6 (pW z c) i)⟩:Rep X.D (L2.wo (O++W) b) _ _)⟩
   ·cases h
  ·cases h
 ·cases h
theorem Bg(v:S1 G F a)(u:S1 G F b):S1 G F (.fnd a b):=by
 refine .of (λ {p X E e δ r} g c h=>?_) (λ _ _=>rfl) (λ p e l c=>?_)
 ·refine H9 c λ ef eb q c=>?_;refine L9 c λ m n o c=>?_;simp only[g9,i1,m9,v7]at c;obtain⟨⟨⟨⟨⟨C,B⟩,d⟩,A⟩,x⟩,w⟩:=c;subst C;have k:attributeBase m "find" X.env (eval m X.env)=eval m X.env:=by
   rcases d with d | d
   ·obtain⟨y,i⟩:=F4.mp d;obtain⟨t,rfl⟩:=z7 i;rfl
   ·obtain⟨y,i⟩:=F4.mp d;obtain⟨j,t,rfl⟩:=V1 i;rfl
  unfold evE at h;exact jA PySem.F.slot_str_find PySem.F.type_str_find xV Bd (λ z f=>v.1 g B f) (λ z f=>u.1 g x f) k (by rw[i1];exact A) w h
 ·exact H9 c λ _ _ _ _=>t8 rfl l
theorem Bh(v:S1 G F a)(u:S1 G F b):S1 G F (.spl a b):=by
 refine .of (λ {p X E e δ r} g c h=>?_) (λ _ _=>rfl) (λ p e l c=>?_)
 ·refine H9 c λ ef eb q c=>?_;refine L9 c λ m n o c=>?_;simp only[g9,i1,m9,v7]at c;obtain⟨⟨⟨⟨⟨C,B⟩,d⟩,A⟩,x⟩,w⟩:=c;subst C;have k:attributeBase m "split" X.env (eval m X.env)=eval m X.env:=by
   rcases d with d | d
   ·obtain⟨y,i⟩:=F4.mp d;obtain⟨t,rfl⟩:=z7 i;rfl
   ·obtain⟨y,i⟩:=F4.mp d;obtain⟨j,t,rfl⟩:=V1 i;rfl
  unfold evE at h;exact jA PySem.F.slot_str_split PySem.F.type_str_split xX Be (λ z f=>v.1 g B f) (λ z f=>u.1 g x f) k (by rw[i1];exact A) w h
 ·exact H9 c λ _ _ _ _=>t8 rfl l
theorem Bj(v:S1 G F a)(u:S1 G F b):S1 G F (.joi a b):=by
 refine .of (λ {p X E e δ r} g c h=>?_) (λ _ _=>rfl) (λ p e l c=>?_)
 ·refine H9 c λ ef eb q c=>?_;refine L9 c λ m n o c=>?_;simp only[g9,i1,m9,v7]at c;obtain⟨⟨⟨⟨⟨C,B⟩,d⟩,A⟩,x⟩,w⟩:=c;subst C;have k:attributeBase m "join" X.env (eval m X.env)=eval m X.env:=by
   rcases d with d | d
   ·obtain⟨y,i⟩:=F4.mp d;obtain⟨t,rfl⟩:=z7 i;rfl
   ·obtain⟨y,i⟩:=F4.mp d;obtain⟨j,t,rfl⟩:=V1 i;rfl
  unfold evE at h;exact jA PySem.F.slot_str_join PySem.F.type_str_join xY Bf (λ z f=>v.1 g B f) (λ z f=>u.1 g x f) k (by rw[i1];exact A) w h
 ·exact H9 c λ _ _ _ _=>t8 rfl l
theorem Bk(U:S1 G F a):S1 G F (.fmt a):=by
 refine .of (λ {M X E e L r} g m h=>?_) (λ _ _=>rfl) (λ M e C m=>?_)
 ·refine nT m λ v Z m=>?_;unfold evE at h;cases B:evE G F a L with
  | none=>rw[B]at h;cases h
  | some N=>
   rw[B]at h;have A:=U.1 g m B;intro b s q H Q I ⟨O,W,R,p⟩;refine FormattedValue_plain ?_;cases N with
   | ex c=>
    cases h;exact thn (A b s q H (λ _ _=>False) I ⟨O,W,R,p⟩) λ u s1 ⟨x,f,o,n,P⟩=>P.elim
   | ok d c=>
    obtain⟨y,j,Y⟩:=j7.mp h;cases Y;unfold fmtD at j;split at j
    ·rename_i i;split at j
     ·rename_i S;cases j;have K:i.natAbs.log2<1920:=by
       by_cases z:i.natAbs=0
       ·rw[z];decide
       ·exact q5 ((dr z).mpr S) (by decide)
      refine thn (A b s q H (λ v l=>Same H l/\Got X.D O W H l _ c v) I ⟨O,W,R,λ v l sm k=>⟨sm,k⟩⟩) λ u s1 ⟨x,f,o,n,sm,k⟩=>?_;have w:=k.int (R.hid.mono sm);subst w;obtain⟨t,rfl⟩:=n;exact formatField_int_small K ⟨.str _,f,o.tok _,⟨_,rfl⟩,p _ f sm (x0.mpr ⟨rfl,int_text_fits K⟩:Rep X.D (L2.wo (O++W) f) _ _)⟩
     ·cases j
    ·rename_i y';cases j;refine thn (A b s q H (λ v l=>Same H l/\Got X.D O W H l _ c v) I ⟨O,W,R,λ v l sm k=>⟨sm,k⟩⟩) λ u s1 ⟨x,f,o,n,sm,k⟩=>?_
     obtain⟨w,J⟩:=k.str (R.hid.mono sm);subst w;obtain⟨t,rfl⟩:=n;exact formatField_str (λ t' tk=>⟨.str _,f,o.tok _,⟨_,rfl⟩,p _ f sm (x0.mpr ⟨rfl,J⟩:Rep X.D (L2.wo (O++W) f) _ _)⟩) J
    ·cases j
 ·exact nT m λ v Z _=>t8 rfl C
def SJ(G:Gs)(F:Nat->ge DV->EC Ou)(ms:ge ME):Prop:=∀{sg:Sg} {X:Cx} {E:St->XK} {es:ge EI} {δ:ge Sv} {l:ge (DV×Cl)} {acc x:Str},Good sg G F X E->j8 sg ms es=true->evEs G F ms δ=some (.ok l)->fstG acc l=some x->acc.length<=k9 ->
 ∀(pins:ge (EG×Obj)) (s:EF) (σ:St) (H:Hp) (Q:VK),Inv X pins σ H s->dE X.D E δ (.ok (.str x) .strong) σ H Q->wpAny (model X.prog X.w) X.A (joinParts acc (evalEach es X.env)) (EP X pins σ Q) X.xe s
theorem Bl:SJ G F []:=λ {sg X E es δ l a x} g d h e c b s σ H Q I q=>by
 cases es with
 | cons _ _=>unfold j8 at d;cases d
 | nil=>
  unfold evEs at h;cases h;cases e;obtain⟨O,W,R,p⟩:=q;exact joinParts_nil ⟨.str a,H,I.tok _,⟨_,rfl⟩,p _ H (Same.refl H) (x0.mpr ⟨rfl,cu c⟩:Rep X.D (L2.wo (O++W) H) _ _)⟩ (cu c)
theorem Bm(P:S1 G F a)(N:SJ G F ms):SJ G F (a::ms):=λ {sg X E es A l w x} g j h i hl b s z H Q I q=>by
 cases es with
 | nil=>unfold j8 at j;cases j
 | cons e es=>
  unfold j8 at j;simp[g9,m9]at j;unfold evEs at h;cases m:evE G F a A with
  | none=>rw[m]at h;cases h
  | some J=>
   rw[m]at h;cases J with
   | ex c=>cases h
   | ok d c=>
    cases hs:evEs G F ms A with
    | none=>rw[hs]at h;cases h
    | some C=>
     rw[hs]at h;cases C with
     | ex c=>cases h
     | ok l'=>
      cases h;unfold fstG at i;split at i
      ·rename_i o;cases o
      ·rename_i y c' r o;cases o;split at i
       ·rename_i L;obtain⟨O,W,R,p⟩:=q;refine joinParts_cons (thn ((P.1 g j.1.1 m) b s z H (λ v k=>Same H k/\Got X.D O W H k _ c v) I ⟨O,W,R,λ v k sm n=>⟨sm,n⟩⟩) λ u s1 ⟨v,Y,U,K,sm,n⟩=>?_);obtain⟨M,hz⟩:=n.str (R.hid.mono sm);subst M;obtain⟨t,rfl⟩:=K;have f:(w++y).length<=k9:=by rw[dm];exact L
        exact⟨cu f,N g j.2 hs i f b s1 z Y Q U ⟨O,W,R.mono sm,λ v k B S=>p v k (sm.trans B) S⟩⟩
       ·cases i
      ·cases i
theorem Bn(k:SJ G F ms):S1 G F (.fst ms):=by
 refine .of (λ {i X E e δ r} g a h=>?_) (λ _ _=>rfl) (λ i e d a=>?_)
 ·refine nH a λ c o a=>?_;rw[g9,J0]at a;unfold evE at h;split at h
  ·rename_i l j;obtain⟨x,n,m⟩:=j7.mp h;cases m
   match c,a with
   | e1::e2::c,a=>exact λ b s f H Q I q=>JoinedStr_many (k g a.2 j n (by decide) b s f H Q I q)
  ·cases h
 ·exact nH a λ c o _=>t8 rfl d
theorem Bo(v:SEs G F ms):S1 G F (.call f ms):=by
 refine .of (λ {j X E e δ r} g a h=>?_) (λ _ _=>rfl) (λ j e d a=>?_)
 ·refine G9 a λ ef A l a=>?_;rw[g9,g9]at a;obtain⟨⟨b,w⟩,i⟩:=a;refine D6 b λ x p b=>?_;simp only[g9,i1,F8,E3]at b;obtain⟨k,fa,fd,ps,n,o,t,u,q,fo,dk⟩:=g.fns f x b.1.1;cases A with
  | nil=>cases w
  | cons y ys=>
   have c:=Z4 i;rw[J3,P6]at c;unfold evE at h;exact yK fo q n (g.glo x b.1.2) o t u g.pas (λ z m=>v g i m) (o9.mpr b.2) c.1 c.2 h
 ·exact G9 a λ _ _ _ _=>t8 rfl d
theorem Bp:S1 G F (.call0 f):=by
 refine .of (λ {c X E e δ r} g a h=>?_) (λ _ _=>rfl) (λ c e b a=>?_)
 ·refine eI a λ ef d a=>?_;refine D6 a λ x p a=>?_;simp only[g9,i1,F8,E3]at a;obtain⟨k,fa,fd,ps,i,j,m,n,l,fo,dk⟩:=g.fns f x a.1.1;unfold evE at h;exact yM fo l i (g.glo x a.1.2) j m n g.pas (o9.mpr a.2) h
 ·exact eI a λ _ _ _=>t8 rfl b
theorem s_bi(C:SEs G F ms):S1 G F (.bi f ms):=by
 refine .of (λ {x X E e H r} g k h=>?_) (λ _ _=>rfl) (λ x e v k=>?_)
 ·refine G9 k λ ef L J k=>?_;rw[g9,g9]at k;obtain⟨⟨K,t⟩,a⟩:=k;obtain⟨⟨p,rfl⟩,d,c⟩:=Z3 g K;unfold evE at h;cases L with
  | nil=>cases t
  | cons y I=>
   have i:j8 x ms _=true->(∀q,evEs G F ms H=some q->PA X _ _)/\j3 y=false/\I.any j3=false:=λ z=>by have j:=Z4 z;rw[J3,P6]at j;exact⟨λ w m=>C g z m,j.1,j.2⟩
   cases f with
   | len=>obtain⟨A,s1,b⟩:=i a;exact jh yU yP d c boot_len (by decide) (by decide) A s1 b h
   | all=>obtain⟨A,s1,b⟩:=i a;exact jh (yV g.calm) yZ d c yX (by decide) (by decide) A s1 b h
   | any=>obtain⟨A,s1,b⟩:=i a;exact jh (yW g.calm) za d c yY (by decide) (by decide) A s1 b h
   | int=>obtain⟨A,s1,b⟩:=i a;exact eY ze yQ d c boot_int (by decide) (by decide) A s1 b h
   | str=>obtain⟨A,s1,b⟩:=i a;exact eY zf yR d c boot_str (by decide) (by decide) A s1 b h
   | list=>obtain⟨A,s1,b⟩:=i a;exact eY zg yS d c boot_list (by decide) (by decide) A s1 b h
   | tuple=>obtain⟨A,s1,b⟩:=i a;exact eY zh yT d c boot_tuple (by decide) (by decide) A s1 b h
   | sset=>
    have a:=a
    clear i
    revert t;refine L8 a λ e1 a=>G9 a λ M u B a=>λ t=>?_
    rw[g9,g9]at a;obtain⟨⟨p',rfl⟩,o,n⟩:=Z3 g a.1.1;cases u with
    | nil=>cases a.1.2
    | cons y' l=>
     have j:=Z4 a.2;rw[J3,P6]at j;cases l with
     | nil=>exact zd g.calm d c o n (λ w m=>C g a.2 m) j.1 h
     | cons y2 yr=>
      have z:=i1.mp a.1.2;simp at z
 ·exact G9 k λ _ _ _ _=>t8 rfl v
theorem jB(h:G3.contains x=true):∃t,V6 x=some t:=by
 have a:∀x∈G3,∃t,V6 x=some t:=by
  intro x b;simp only[G3,i6,F7,G7]at b;rcases b with rfl | rfl | rfl | rfl | rfl | rfl
  ·exact⟨"int",by decide +kernel⟩
  ·exact⟨"bool",by decide +kernel⟩
  ·exact⟨"str",by decide +kernel⟩
  ·exact⟨"list",by decide +kernel⟩
  ·exact⟨"tuple",by decide +kernel⟩
  ·exact⟨"dict",by decide +kernel⟩
 exact a x (E8.mp h)
theorem jC:∀x∈G3,x ≠ "__name__" /\ (x==("__debug__" : Str))=false:=by
 intro x a;simp[G3,i6,F7,G7]at a;rcases a with rfl | rfl | rfl | rfl | rfl | rfl<;>exact⟨by decide +kernel,by decide +kernel⟩
def Bq:V->ge V->Hp->VK->Prop:=λ x xs H Q=>∃i,x=.int i/\xs=[]/\Q (.int (dX i)) H
theorem Br(i:Int):((Builtin.Int.intBits i:Nat):Int)=dX i:=by
 unfold Builtin.Int.intBits dX;by_cases h:i=0
 ·subst h;rfl
 ·rw[i4 (by grind),i4 h];rfl
theorem Bs:MtR X "int.bit_length" Bq:=by
 intro a s σ H x xs v us Q I b c h;obtain⟨i,rfl,rfl,q⟩:=h;obtain⟨t,rfl⟩:=(b);cases c;exact PyProof.Rows.call_int_bit_length ⟨.int _,H,I.tok _,by rw[←Br];exact⟨_,rfl⟩,q⟩
theorem Bt(L:S1 G F a):S1 G F (.meth m a Z):=by
 refine .of (λ {C X E e B r} g b h=>?_) (λ _ _=>rfl) (λ C e w b=>?_)
 ·refine eI b λ ef I b=>?_;refine L9 b λ l n x b=>?_;simp only[g9,i1]at b;obtain⟨⟨⟨⟨U,S⟩,j⟩,N⟩,h5⟩:=b;subst U;have u:attributeBase l (og m) X.env (eval l X.env)=eval l X.env:=by
   rw[v7]at j;rcases j with j | j
   ·obtain⟨y,o⟩:=F4.mp j;obtain⟨J,rfl⟩:=z7 o;rfl
   ·obtain⟨⟨a1,o1,b1⟩,o⟩:=F4.mp j;obtain⟨J,rfl⟩:=xo o;rfl
  unfold evE at h;cases m with
  | bitLength=>
   rw[i3 rfl]at h;have P:=λ t (M:PE X l t)=>tJ PySem.F.plainAttrs_int PySem.F.slot_int_bit_length PySem.F.type_int_bit_length Bs M u (by rw[i1];exact N)
   cases f:evE G F a B with
   | none=>rw[f]at h;cases h
   | some q=>
    rw[f]at h;have A:=L.1 g S f;cases q with
    | ex c=>cases h;exact(P _ A).weak λ z H Q ⟨O,W,R,p⟩=>⟨O,W,R,p⟩
    | ok d dc=>
     have k:mtD .bitLength d=some r:=h;unfold mtD at k;split at k
     ·rename_i i _;cases k;exact(P _ A).weak λ z H Q ⟨O,W,R,p⟩=>⟨O,W,R,λ v H1 s1 Y=>by
       have K:=Y.int (R.hid.mono s1);subst K;exact⟨rfl,i,rfl,rfl,p _ H1 s1 x4⟩⟩
     ·cases k
  | index=>rw[i4 (by decide)]at h;cases h
  | get=>rw[i4 (by decide)]at h;cases h
 ·exact eI b λ _ _ _=>t8 rfl w
theorem Bu(o:S1 G F a)(m:S1 G F b):S1 G F (.idx a b):=by
 refine .of (λ {j X E e δ r} g c h=>?_) (λ _ _=>rfl) (λ j e f c=>?_)
 ·refine H9 c λ ef eb k c=>?_;refine L9 c λ ea n i c=>?_;simp only[g9,i1,m9]at c;obtain⟨⟨⟨⟨⟨w,v⟩,u⟩,t⟩,q⟩,p⟩:=c;subst w;obtain⟨y,l⟩:=F4.mp u;obtain⟨np,rfl⟩:=z7 l;unfold evE at h;exact yJ g.hu (λ z d=>o.1 g v d) (λ z d=>m.1 g q d) rfl (by rw[i1];exact t) (j9 p) h
 ·exact H9 c λ _ _ _ _=>t8 rfl f
theorem Bv(n:S1 G F a):S1 G F (.isx a t):=by
 refine .of (λ {i X E e δ r} g b h=>?_) (λ _ _=>rfl) (λ i e f b=>?_)
 ·refine bM b λ ef ea et j b=>?_;simp only[g9,m9,i1,v7,E8,F8,E3]at b;obtain⟨⟨⟨⟨⟨⟨x,w⟩,v⟩,h4⟩,u⟩,q⟩,o⟩:=b;obtain⟨⟨p,rfl⟩,m,l⟩:=Z3 g x;obtain⟨p',rfl⟩:=z7 u;unfold evE at h;refine Aw g.xf m l (g.glo t q) ?_ (λ z k=>n.1 g w k) v h;rcases o with⟨d,c⟩ | ⟨d,c⟩
  ·exact .inl ⟨d,o9.mpr c⟩
  ·refine .inr ⟨g.blt t d,?_⟩;simp only[nA,i6,F7,G7]at c;exact c
 ·exact bM b λ _ _ _ _ _=>t8 rfl f
theorem pX:∀{a:ge (Str×Nat)},a.lookup x=some f->(x,f)∈a
 | [],h=>by cases h
 | (y,g)::a,h=>by
  rw[B8]at h;split at h
  ·rename_i q;cases h;rw[i1.mp q];exact o8 ..
  ·exact j6 _ (pX h)
theorem Bw(v:SEs G F ms):S1 G F (.callv i A ms):=by
 refine .of (λ {I X E e δ r} g a h=>?_) (λ _ _=>rfl) (λ I e o a=>?_)
 ·refine G9 a λ ef U J a=>?_;rw[g9,g9,g9]at a;obtain⟨⟨⟨n,S⟩,R⟩,l⟩:=a;refine D6 n λ x p n=>?_;obtain⟨s1,u,t,q⟩:=W1 g n;cases U with
  | nil=>cases R
  | cons y ys=>
   have b:=Z4 l;rw[J3,P6]at b;unfold evE at h;split at h
   ·rename_i K j;split at h
    ·rename_i f P;obtain⟨k,fa,fd,ps,d,M,O,Q,N,fo,dk⟩:=g.fns f K (i1.mp (y9.mp S _ (pX P)));exact yO fo N d (F9 s1 u t q) M O Q g.pas j (λ z c=>v g l c) b.1 b.2 h
    ·cases h
   ·rename_i m cs j;split at h
    ·rename_i w;obtain⟨⟨H,C,B⟩,⟨k,d,L⟩,_⟩:=g.lms w.2.2.2;exact zr L d (F9 s1 u t q) (w.1.trans H) (w.2.1.trans C) (w.2.2.1.trans B) j (λ z c=>v g l c) b.1 b.2 h
    ·cases h
   ·cases h
 ·exact G9 a λ _ _ _ _=>t8 rfl o
theorem Bx{a:ES}{b:ge Str}(h:bP a b=true):defaultsOf a env=([],[]):=oh h λ _ _ _ _=>rfl
theorem By(ha:S1 G F a)(hb:S1 G F b):S1 G F (.calll f a b N np R fr):=by
 refine .of (λ {sg X E e Y r} g d h=>?_) (λ _ _=>rfl) (λ sg e L d=>?_)
 ·obtain⟨ht,d⟩:=F5.mp d;refine nQ d λ ef ea eb el pos d=>?_
  refine D6 d λ x p d=>wM d λ pr bd H lp d=>?_;simp only[g9,i1,F8,E3,m9]at d;obtain⟨⟨⟨⟨⟨⟨⟨⟨c1,c2⟩,c3⟩,c4⟩,c5⟩,c6⟩,c7⟩,C⟩,c9⟩:=d;have U:=C;unfold oi at C;simp only[g9,i1,m9,y9,F8,E3,J0]at C;obtain⟨⟨⟨⟨⟨⟨⟨⟨⟨⟨⟨S,l2⟩,l3⟩,l4⟩,l5⟩,l6⟩,l7⟩,l8⟩,l9⟩,t⟩,J⟩,I⟩:=C;obtain⟨k,fa,fd,ps,hr,hm,hk,hB,hl,fo,dk⟩:=g.fns f x c1;unfold evE at h;split at h
  ·rename_i cs B;split at h
   ·cases h
   ·rename_i K;obtain⟨⟨w1,w2,w3⟩,_,Z⟩:=g.lms (by simpa using K);obtain⟨c,P,k1,k2,k3⟩:=Z ht;have o:∀y∈H.names,y.2=NameKind.free->X.env.kindOf y.1=some .cell/\X.fn y.1=true:=λ y l A=>by
     have z:=I y l;rw[i3 (by rw[A])]at z;have M:=i1.mp z;have O:=g.loc y.1 (by unfold locB;rw[M];rfl);have nl:X.env.scope.names.lookup y.1≠some .local:=λ w=>by rcases g.cel y.1 (.inl M)with v | v<;>(rw[w]at v;cases v)
     refine⟨?_,O.2.elim id λ w=>absurd w nl⟩;exact O.1.elim (λ w=>absurd w nl) id
    have T:LamTx N (N.take np) H:=by
     have Q:(N.take np).length=np:=by rw[T6];omega
     refine⟨l2,l3,l4,V9 l5,by rw[Q],l8,l9,λ i y h1 h2=>t y ?_⟩;rw[Q]at h1;refine M9 (i:=i - np) ?_;rw[cQ,show np+(i - np)=i by omega];exact h2
    have m:∀(j i:Nat),fr[j]? = some i->∃y,N[np+j]? = some y/\X.N[i]? = some y/\X.env.kindOf y=some .cell:=λ j i W=>by
     have hjl:j<fr.length:=(n7.mp W).1;have u:np+j<N.length:=by omega
     have l:(N.drop np)[j]? = some N[np+j]:=by rw[cQ,o4 u]
     have hz:(i,N[np+j])∈fr.zip (N.drop np):=M9 (i:=j) (by rw[fA];exact⟨W,l⟩);have q1:=J _ hz;have q2:=t _ (M9 l);exact⟨_,o4 u,by rw[g.N];exact q1,(o _ (C9 q2) rfl).1⟩
    cases n:evE G F a Y with
    | none=>rw[n]at h;cases h
    | some ra=>
     rw[n]at h;exact zv (fr:=fr) (P:=P) (c:=c) fo hl hr (g.glo x c2) hm hk hB (o9.mpr c3) c5 c7 ⟨k1,k2,k3,λ y l A=>(o y l A).1⟩ (Bx S) T (λ y l A=>(o y l A).2) ((by unfold bS;rw[g9];refine⟨S,?_⟩;show corE ⟨N,H.names,G.fnl,G.bll,G.cll,false,false⟩ false R bd=true;rw[w1,w2,w3];exact c9)) l7 m B (ha.1 g c4 n) (λ q hq=>hb.1 g c6 hq) h
  ·cases h
 ·obtain⟨_,d⟩:=F5.mp d;exact nQ d λ _ _ _ _ _ _=>t8 rfl L
theorem Bz(B:S1 G F a):S1 G F (.isi a I):=by
 refine .of (λ {J X E e δ r} g f h=>?_) (λ _ _=>rfl) (λ J e x f=>?_)
 ·refine bM f λ ef ea et L f=>?_;simp only[g9,m9]at f;obtain⟨⟨⟨⟨S,H⟩,C⟩,h4⟩,b⟩:=f;obtain⟨⟨p,rfl⟩,A,y⟩:=Z3 g S;split at b
  ·rename_i t;simp only[g9,i1,E8]at b;obtain⟨⟨⟨q,o⟩,n⟩,c⟩:=b;obtain⟨p',rfl⟩:=z7 q;obtain⟨T,w⟩:=jB (E8.mpr c);obtain⟨l,j⟩:=jC t c;unfold evE at h;exact zm w A y (g.glo t o) (g.blt t n) l j (λ z v=>B.1 g H v) C h
  ·rename_i t u
   ·refine nR b λ i e2 kk tp b=>?_;simp only[g9,i1,E8]at b;obtain⟨⟨⟨⟨q,o⟩,n⟩,c⟩,⟨⟨Q,P⟩,O⟩,m⟩:=b;obtain⟨p1,rfl⟩:=z7 q;obtain⟨p2,rfl⟩:=z7 Q;obtain⟨T,w⟩:=jB (E8.mpr c);obtain⟨U,R⟩:=jB (E8.mpr m);obtain⟨l,j⟩:=jC t c;obtain⟨N,M⟩:=jC u m;unfold evE at h;refine zB w R A y (g.glo t o) (g.blt t n) l j (g.glo u P) (g.blt u O) N M (λ d k i=>?_) (λ z v=>B.1 g H v) C h;have K:(G3.contains t&&G3.contains u)=true:=by rw[g9];exact⟨E8.mpr c,E8.mpr m⟩
    unfold isiD at i;cases d<;>first
     | (simp only[K,if_true]at i;cases i;exact⟨_,rfl,rfl⟩)
     | cases i
  ·cases b
 ·exact bM f λ _ _ _ _ _=>t8 rfl x
theorem pY:∀{a:ge ME} {b:ge Sv} {l:ge (DV×Cl)},evEs G F a b=some (.ok l)->l.length=a.length
 | [],_,_,h=>by unfold evEs at h;cases h;rfl
 | m::a,b,l,h=>by
  unfold evEs at h;split at h
  ·cases h
  ·cases h
  ·split at h
   ·cases h
   ·cases h
   ·rename_i l' q;cases h;rw[o5,o5,pY q]
theorem pZ:∀{b:Sg} {a:ge ME} {es:ge EI},j8 b a es=true->a.length=es.length
 | _,[],[],_=>rfl
 | _,[],_::_,h=>by unfold j8 at h;cases h
 | _,_::_,[],h=>by unfold j8 at h;cases h
 | b,m::a,e::es,h=>by unfold j8 at h;simp[g9]at h;rw[o5,o5,pZ h.2]
theorem BA(t:SEs G F ms):S1 G F (.rng ms):=by
 refine⟨λ {d X E e c r} g a h=>?_,λ {d X E e c r} g a h=>?_,λ {d X E e tg c r} g a _ h=>?_⟩
 ·cases(a:false=true)
 ·cases(a:false=true)
 ·refine G9 (F5.mp a).2 λ ef u k a=>?_;rw[g9,J0]at a;obtain⟨a,b⟩:=a;rw[g9]at a;obtain⟨⟨p,rfl⟩,q,n⟩:=Z3 g a.1;have i:=pZ a.2;have f:=Z4 a.2;unfold evE at h;cases u with
  | nil=>
   exfalso;cases ms with
   | nil=>unfold evEs at h;cases h
   | cons _ _=>cases i
  | cons y j=>
   rw[J3,P6]at f;cases j with
   | nil=>exact zH q n (λ z m=>t g a.2 m) f.1 h λ l o=>by rw[pY o,i];rfl
   | cons z zs=>simp at b
theorem s_zp(w:S1 G F a)(v:S1 G F b):S1 G F (.zp a b):=by
 refine⟨λ {i X E e f r} g c h=>?_,λ {i X E e f r} g c h=>?_,λ {i X E e m f r} g c o h=>?_⟩
 ·cases(c:false=true)
 ·cases(c:false=true)
 ·refine bM (F5.mp c).2 λ ef ea eb n c=>?_;simp only[g9,m9]at c;obtain⟨⟨⟨⟨C,B⟩,A⟩,y⟩,x⟩:=c;obtain⟨⟨p,rfl⟩,u,q⟩:=Z3 g C;have t:=o rfl;cases j:F3 m with
  | none=>rw[j]at t;cases t
  | some l=>
   obtain⟨k,tp,rfl⟩:=bO j;unfold evE at h;exact zS u q y x (λ z d=>w.1 g B d) (λ z d=>v.1 g A d) h
theorem BB(u:S1 G F a):S1 G F (.enu a):=by
 refine⟨λ {d X E e c r} g b h=>?_,λ {d X E e c r} g b h=>?_,λ {d X E e j c r} g b n h=>?_⟩
 ·cases(b:false=true)
 ·cases(b:false=true)
 ·refine H9 (F5.mp b).2 λ ef ea l b=>?_;simp only[g9,m9]at b;obtain⟨⟨x,w⟩,v⟩:=b;obtain⟨⟨p,rfl⟩,q,o⟩:=Z3 g x;have t:=n rfl;cases f:F3 j with
  | none=>rw[f]at t;cases t
  | some i=>
   obtain⟨k,tp,rfl⟩:=bO f;unfold evE at h;exact Ab q o v (λ z m=>u.1 g w m) h
theorem BC{d:Sg}{X:Cx}{E:St->XK}{e:EI}{r:Re}{tg:Tg}{f:CParts}(A:S1 G F a)(y:S1 G F b)(g:Good d G F X E)(k:f.ifs=[])
  (I:corE d true b f.it=true) (w:isZp b=true->(F3 f.tg).isSome=true) (o:O6 d (z8 d l fr) fr f.sc tg=true) (H:tgOk ⟨z8 d l fr,f.sc.names,d.fn,d.bl,d.cl,false,false⟩ tg f.tg=true) (B:corE ⟨z8 d l fr,f.sc.names,d.fn,d.bl,d.cl,false,false⟩ false a f.elt=true)
  (h:evE G F (.comp a tg b fr) δ=some r):O9 X E δ f.tg f.it f.ifs f.elt f.sc (z8 d l fr) fr tg r:=by
 obtain⟨S,v,u⟩:=Z2 g o;rw[k];unfold evE at h;exact zJ S g.calm v u (λ z n=>y.2.2 g I w n) (λ C c i j p m=>aM (W0 g o C c i j p m) H) (λ q r' x C c i j p m=>A.1 (W0 g o C c i j p m) B x) h
theorem BD{sg:Sg}{X:Cx}{E:St->XK}{e:EI}{δ:ge Sv}{r:Re}{tg:Tg}{fr:ge (EC Nat)}{cp:CParts}{tn:ge Str}(ha:S1 G F a)(hb:S1 G F b)(g:Good sg G F X E)(htop:sg.top=true)(hemp:cp.ifs=[])
  (h2:corE sg true b cp.it=true) (hz:isZp b=true->(F3 cp.tg).isSome=true) (h4:O6 sg (z8 sg tn fr) fr cp.sc tg=true) (h5:tgOk ⟨z8 sg tn fr,cp.sc.names,sg.fn,sg.bl,sg.cl,false,false⟩ tg cp.tg=true) (h6:corE ⟨z8 sg tn fr,cp.sc.names,sg.fn,sg.bl,sg.cl,false,false⟩ false a cp.elt=true)
  (h:evE G F (.compx a tg b fr) δ=some r):O9 X E δ cp.tg cp.it cp.ifs cp.elt cp.sc (z8 sg tn fr) fr tg r:=by
 obtain⟨S,nd,sl⟩:=Z2 g h4;rw[hemp];unfold evE at h;obtain⟨t1,t2,t3,_,t5⟩:=g.st htop;exact zL (uI t1 t2 t3 t5) nd sl (λ z hz'=>hb.2.2 g h2 hz hz') (λ δ' r' hr C cells s₂ H₂ fp x1=>ha.1 (pQ g h4 C cells s₂ H₂ fp x1 (E':=λ _=>x1) λ _ _ _ _ z=>z) h6 hr) h
theorem BE{sg:Sg}{X:Cx}{E:St->XK}{e cd:EI}{δ:ge Sv}{r:Re}{tg:Tg}{fr:ge (EC Nat)}{cp:CParts}{tn:ge Str}(ha:S1 G F a)(hb:S1 G F b)(hcc:S1 G F c)(g:Good sg G F X E)(hemp:cp.ifs=[cd])
  (h2:corE sg true b cp.it=true) (hz:isZp b=true->(F3 cp.tg).isSome=true) (h4:O6 sg (z8 sg tn fr) fr cp.sc tg=true) (h5:tgOk ⟨z8 sg tn fr,cp.sc.names,sg.fn,sg.bl,sg.cl,false,false⟩ tg cp.tg=true) (h6:corE ⟨z8 sg tn fr,cp.sc.names,sg.fn,sg.bl,sg.cl,false,false⟩ false a cp.elt=true)
  (h7:corE ⟨z8 sg tn fr,cp.sc.names,sg.fn,sg.bl,sg.cl,false,false⟩ false c cd=true) (h:evE G F (.compi a tg b c fr) δ=some r):O9 X E δ cp.tg cp.it cp.ifs cp.elt cp.sc (z8 sg tn fr) fr tg r:=by
 obtain⟨S,nd,sl⟩:=Z2 g h4;rw[hemp];unfold evE at h;exact zM S g.calm nd sl (λ z hz'=>hb.2.2 g h2 hz hz') (λ C cells s₂ H₂ fp x1=>aM (W0 g h4 C cells s₂ H₂ fp x1) h5) (λ δ' r' hr C cells s₂ H₂ fp x1=>ha.1 (W0 g h4 C cells s₂ H₂ fp x1) h6 hr)
  (λ δ' r' hr C cells s₂ H₂ fp x1=>hcc.2.1 (W0 g h4 C cells s₂ H₂ fp x1) h7 hr) h
def S6(G:Gs)(F:Nat->ge DV->EC Ou)(m:ME):Prop:=∀{sg:Sg} {X:Cx} {E:St->XK} {e:EI} {δ:ge Sv} {r:Re},Good sg G F X E->corE sg false m e=true->evE G F m δ=some r ->
 ∃(cp:CParts) (N':ge Str) (fr:ge (EC Nat)) (tg:Tg) (p:Pos),e=.ListComp cp.elt [⟨cp.tg,cp.it,cp.ifs,0⟩] cp.sc p/\CompScope X.N N' cp.sc X.env.scope fr/\O9 X E δ cp.tg cp.it cp.ifs cp.elt cp.sc N' fr tg r /\
  (∀C cells s₂ H₂ fp x1,PG (k8 X cp.sc N' C cells s₂ H₂ fp x1) cp.tg (gT X.K tg))/\D5 cp.it=false
theorem S6.s1(h:S6 G F m)(hw:∀a e,corE a true m e=corE a false m e)(f:∀a e,corE a false m e=true->pS e=true):S1 G F m:=by
 refine .of (λ {a X E e δ r} g b q=>?_) hw (λ a e c b=>?_)
 ·obtain⟨cp,N',fr,tg,p,rfl,S,P,i,d⟩:=h g b q;exact P.pe S g.calm i d
 ·exact t8 (f a e b) c
theorem qb(n:S1 G F a)(m:S1 G F b):S6 G F (.comp a tg b fr):=by
 intro sg X E e δ r g k h;refine aB k λ f p k=>?_
 simp only[g9,m9,v7]at k;obtain⟨⟨⟨u,t,q⟩,o⟩,c⟩:=k;obtain⟨tn,_,c⟩:=u5 c;simp only[g9]at c;refine⟨f,_,fr,tg,p,rfl,(Z2 g c.1.1).1,BC (e:=.ListComp f.elt [⟨f.tg,f.it,f.ifs,0⟩] f.sc p) n m g (cV.mp u) t (λ z=>?_) c.1.1 c.1.2 c.2 h,λ C d i j v l=>aM (W0 g c.1.1 C d i j v l) c.1.2,o⟩;rcases q with w | w
 ·rw[z]at w;cases w
 ·exact w
theorem qc(o:S1 G F a)(n:S1 G F b):S6 G F (.compx a tg b fr):=by
 intro sg X E e δ r g k h;refine aB k λ f p k=>?_
 simp only[g9,m9,v7]at k;obtain⟨⟨⟨⟨m,v⟩,u,t⟩,q⟩,c⟩:=k;obtain⟨tn,_,c⟩:=u5 c;simp only[g9]at c;refine⟨f,_,fr,tg,p,rfl,(Z2 g c.1.1).1,BD (e:=.ListComp f.elt [⟨f.tg,f.it,f.ifs,0⟩] f.sc p) o n g m (cV.mp v) u (λ z=>?_) c.1.1 c.1.2 c.2 h,λ C d i j x l=>aM (W0 g c.1.1 C d i j x l) c.1.2,q⟩;rcases t with w | w
 ·rw[z]at w;cases w
 ·exact w
theorem qd(t:S1 G F a)(q:S1 G F b)(m:S1 G F c):S6 G F (.compi a tg b c fr):=by
 intro sg X E e δ r g l h;refine aB l λ i p l=>?_
 simp only[g9,m9,v7]at l;obtain⟨⟨⟨x,v⟩,u⟩,d⟩:=l;obtain⟨tn,_,d⟩:=u5 d;obtain⟨ec,o,d⟩:=wu d;simp only[g9]at d;refine⟨i,_,fr,tg,p,rfl,(Z2 g d.1.1.1).1,BE (e:=.ListComp i.elt [⟨i.tg,i.it,i.ifs,0⟩] i.sc p) t q m g o x (λ z=>?_) d.1.1.1 d.1.1.2 d.1.2 d.2 h,λ C f j k y n=>aM (W0 g d.1.1.1 C f j k y n) d.1.1.2,u⟩;rcases v with w | w
 ·rw[z]at w;cases w
 ·exact w
theorem BF(g:S1 G F a)(f:S1 G F b):S1 G F (.comp a tg b fr):=S6.s1 (λ {c X E e δ r}=>qb g f) (λ _ _=>rfl) λ c e d=>aB d λ _ _ _=>rfl
theorem BG(g:S1 G F a)(f:S1 G F b):S1 G F (.compx a tg b fr):=S6.s1 (λ {c X E e δ r}=>qc g f) (λ _ _=>rfl) λ c e d=>aB d λ _ _ _=>rfl
theorem BH(i:S1 G F a)(h:S1 G F b)(d:S1 G F c):S1 G F (.compi a tg b c fr):=S6.s1 (λ {f X E e δ r}=>qd i h d) (λ _ _=>rfl) λ f e g=>aB g λ _ _ _=>rfl
theorem BI:SEs G F []:=λ {sg X E es δ r} g a h=>by
 cases es with
 | nil=>unfold evEs at h;cases h;exact yD
 | cons _ _=>unfold j8 at a;cases a
theorem BJ(f:S1 G F a)(d:SEs G F ms):SEs G F (a::ms):=λ {sg X E es δ r} g b h=>by
 cases es with
 | nil=>unfold j8 at b;cases b
 | cons e es=>
  unfold j8 at b;simp[g9,m9]at b;unfold evEs at h;exact yE b.1.2 (λ z c=>f.1 g b.1.1 c) (λ z c=>d g b.2 c) h
theorem BK:SAnd G F []:=λ {sg X E es δ a} g hc=>⟨λ r h=>(by unfold J8 at h;cases h),λ r h=>(by unfold J8 at h;cases h)⟩
theorem BL:SOr G F []:=λ {sg X E es δ a} g hc=>⟨λ r h=>(by unfold evOr at h;cases h),λ r h=>(by unfold evOr at h;cases h)⟩
theorem BM(d:S1 G F a)(l:SAnd G F i):SAnd G F (a::i):=λ {k X E es j f} g b=>by
 cases es with
 | nil=>unfold j8 at b;cases b
 | cons e es=>
  unfold j8 at b;simp[g9,m9]at b;cases i with
  | nil=>
   cases es with
   | nil=>
    refine⟨λ r h=>?_,λ r h=>?_⟩
    · exact lh (d.1 g b.1.1 h)
    · exact ro (d.2.1 g b.1.1 h)
   | cons _ _=>have:=b.2;cases this
  | cons m i=>
   cases es with
   | nil=>have:=b.2;cases this
   | cons e' es=>
    have B:=@l k X E _ j f g b.2;refine⟨λ r h=>?_,λ r h=>?_⟩
    · exact yw (λ z c=>d.1 g b.1.1 c) (λ z c=>B.1 z c) h
    · exact yz (λ z c=>d.2.1 g b.1.1 c) (λ z c=>B.2 z c) h
theorem BN(d:S1 G F a)(l:SOr G F i):SOr G F (a::i):=λ {k X E es j f} g b=>by
 cases es with
 | nil=>unfold j8 at b;cases b
 | cons e es=>
  unfold j8 at b;simp[g9,m9]at b;cases i with
  | nil=>
   cases es with
   | nil=>
    refine⟨λ r h=>?_,λ r h=>?_⟩
    ·unfold evOr at h;exact lh (d.1 g b.1.1 h)
    ·unfold evOr at h;exact rq (d.2.1 g b.1.1 h)
   | cons _ _=>have:=b.2;unfold j8 at this;cases this
  | cons m i=>
   cases es with
   | nil=>have:=b.2;unfold j8 at this;cases this
   | cons e' es=>
    have B:=@l k X E _ j f g b.2;refine⟨λ r h=>?_,λ r h=>?_⟩
    ·unfold evOr at h;exact yx (λ z c=>d.1 g b.1.1 c) (λ z c=>B.1 z c) h
    ·unfold evOr at h;exact yA (λ z c=>d.2.1 g b.1.1 c) (λ z c=>B.2 z c) h
theorem BO(d:SAnd G F ms):S1 G F (.and ms):=by
 refine .of2 (λ {i X E e f r} g a h=>?_) (λ {i X E e f r} g a h=>?_) (λ _ _=>rfl)
 ·refine eE a λ o j p a=>?_;simp only[g9,i1]at a;obtain⟨c,b⟩:=a;subst c;unfold evE at h;exact(d g b).1 r h
 ·refine eE a λ o j p a=>?_;simp only[g9,i1]at a;obtain⟨c,b⟩:=a;subst c;unfold evE at h;exact((d g b).2 r h).pt
theorem s_or(d:SOr G F ms):S1 G F (.or ms):=by
 refine .of2 (λ {i X E e f r} g a h=>?_) (λ {i X E e f r} g a h=>?_) (λ _ _=>rfl)
 ·refine eE a λ o j p a=>?_;simp only[g9,i1]at a;obtain⟨c,b⟩:=a;subst c;unfold evE at h;exact(d g b).1 r h
 ·refine eE a λ o j p a=>?_;simp only[g9,i1]at a;obtain⟨c,b⟩:=a;subst c;unfold evE at h;exact((d g b).2 r h).pt
end
section
variable {G:Gs} {F:Nat->ge DV->EC Ou}
mutual
theorem snd:∀m:ME,S1 G F m
 | .var _=>AH
 | .int _=>AI
 | .bl _=>s_bl
 | .str _=>AK
 | .non=>AJ
 | .glb _=>AL
 | .bin _ a b=>AO (snd a) (snd b)
 | .neg a=>AQ (snd a)
 | .not a=>AR (snd a)
 | .cmp _ a b=>AS (snd a) (snd b)
 | .chain _ _ a b c=>AT (snd a) (snd b) (snd c)
 | .and es=>BO (qe es)
 | .or es=>s_or (qf es)
 | .ite c a b=>AU (snd c) (snd a) (snd b)
 | .lst es=>Bb (sndL es)
 | .tup es=>Bc (sndL es)
 | .ix a b=>s_ix (snd a) (snd b)
 | .slf a b=>AV (snd a) (snd b)
 | .slt a b=>AW (snd a) (snd b)
 | .call0 _=>Bp
 | .call _ es=>Bo (sndL es)
 | .bi _ es=>s_bi (sndL es)
 | .isi a _=>Bz (snd a)
 | .isx a _=>Bv (snd a)
 | .meth _ a _=>Bt (snd a)
 | .comp a _ b _=>BF (snd a) (snd b)
 | .compx a _ b _=>BG (snd a) (snd b)
 | .compi a _ b c _=>BH (snd a) (snd b) (snd c)
 | .gdx _ b=>AM (snd b)
 | .gno _ b=>AN (snd b)
 | .fnd a b=>Bg (snd a) (snd b)
 | .scat a b=>Ba (snd a) (snd b)
 | .stm a b c=>AX (snd a) (snd b) (snd c)
 | .fld _ _=>AY
 | .mth _ _=>AZ
 | .spl a b=>Bh (snd a) (snd b)
 | .joi a b=>Bj (snd a) (snd b)
 | .fmt a=>Bk (snd a)
 | .fst es=>Bn (sndJ es)
 | .idx a b=>Bu (snd a) (snd b)
 | .rng es=>BA (sndL es)
 | .zp a b=>s_zp (snd a) (snd b)
 | .enu a=>BB (snd a)
 | .callv _ _ es=>Bw (sndL es)
 | .calll _ a b _ _ _ _=>By (snd a) (snd b)
theorem sndL:∀ms:ge ME,SEs G F ms
 | []=>BI
 | a::ms=>BJ (snd a) (sndL ms)
theorem sndJ:∀ms:ge ME,SJ G F ms
 | []=>Bl
 | a::ms=>Bm (snd a) (sndJ ms)
theorem qe:∀ms:ge ME,SAnd G F ms
 | []=>BK
 | a::ms=>BM (snd a) (qe ms)
theorem qf:∀ms:ge ME,SOr G F ms
 | []=>BL
 | a::ms=>BN (snd a) (qf ms)
end
end
section
variable (G:Gs) (F:Nat->ge DV->EC Ou) (fu:Nat)
def SS(m:MS):Prop:=∀{sg:Sg} {X:Cx} {E:St->XK} {st:EN} {δ:ge Sv} {o:Out},Good sg G F X E->corS sg m st=true->evS G F fu m δ=some o->PS X st (dS X.D E δ o)
def SSs(ms:ge MS):Prop:=∀{sg:Sg} {X:Cx} {E:St->XK} {sts:ge EN} {δ:ge Sv} {o:Out},Good sg G F X E->C8 sg ms sts=true->evSs G F fu ms δ=some o->PSs X sts (dS X.D E δ o)
end
section
variable {G:Gs} {F:Nat->ge DV->EC Ou} {fu:Nat} {e k:ME} {i:Nat}
theorem BP(h:oj e=true):S6 G F e:=by
 cases e with
 | comp a _ b _=>exact qb (snd a) (snd b)
 | compx a _ b _=>exact qc (snd a) (snd b)
 | compi a _ b c _=>exact qd (snd a) (snd b) (snd c)
 | _=>cases h
theorem BQ:SS G F fu (.set i j e):=by
 intro sg X E st A o g c h;refine Y6 c λ t v B c=>?_
 refine D6 c λ x pt c=>?_;simp only[g9,i1,v7,m9]at c;obtain⟨⟨⟨K,J⟩,w⟩,d⟩:=c;have l:=g.loc x J;have u:X.N[i]? = some x:=by rw[g.N];exact K
 unfold evS at h;cases y:Q9 v with
 | false=>exact pG g.nd u l.1 l.2 (λ z m=>(snd e).1 g w m) (S4 y) h
 | true=>
  rcases d with d | I
  ·rw[y]at d;cases d
  ·cases q:evE G F e A with
   | none=>rw[q]at h;cases h
   | some r=>
    obtain⟨a,N',fr,tg,p,rfl,S,P,H,C⟩:=BP I g w q;cases f:(X.env.blockKind == .function&&X.env.kindOf x==some .local&&pt.line==(Expr.ListComp a.elt _ a.sc p).pos.line && !_)with
    | false=>
     have b:=(by show(pure (X.env.blockKind == .function&&X.env.kindOf x==some .local&&pt.line==(Expr.ListComp a.elt [⟨a.tg,a.it,a.ifs,0⟩] a.sc p).pos.line && !(a.sc.names.any λ (n,k)=>n==x&&(k == .local||k == .cell))):Sem Bool)=pure false;rw[f]);exact pG g.nd u l.1 l.2 (λ z m=>(snd e).1 g w m) b h
    | true=>
     have b:=(by show(pure (X.env.blockKind == .function&&X.env.kindOf x==some .local&&pt.line==(Expr.ListComp a.elt [⟨a.tg,a.it,a.ifs,0⟩] a.sc p).pos.line && !(a.sc.names.any λ (n,k)=>n==x&&(k == .local||k == .cell))):Sem Bool)=pure true;rw[f]);rw[q]at h;have d:X.env.kindOf x=some .local:=by simp only[g9,i1]at f;exact f.1.1.2
     exact Al S g.calm g.nd u d P H C b h
theorem BR:SS G F fu (.app i e):=by
 intro sg X E st δ o g a h;refine iB a λ v l a=>?_
 refine H9 a λ ef ea c a=>?_;refine L9 a λ ob n d a=>?_;simp only[g9,m9]at a;obtain⟨⟨⟨⟨u,b⟩,t⟩,r⟩,q⟩:=a;refine D6 b λ x np b=>?_;obtain⟨s1,k,j,f⟩:=W1 g b;have p:=i1.mp u;subst p;unfold evS at h;exact Am (F9 s1 k j f) (λ z m=>(snd e).1 g t m) r q h
theorem BS:SS G F fu (.sett is e):=by
 intro sg X E st δ o g b h;refine Y6 b λ t v c b=>?_
 simp only[g9,m9]at b;obtain⟨⟨⟨a,j⟩,i⟩,f⟩:=b;unfold tgOk at a;dsimp only at a;split at a
 ·rename_i k q;obtain⟨kk,tp,rfl⟩:=bO q;rw[g9,g9,i1]at a;obtain⟨A,B,C⟩:=jz g is k a.1.1 a.2;unfold evS at h;exact Ap (wd g.calm A B C) (λ z d=>(snd e).1 g j d) f i h
 ·cases a
def jD(X:Cx)(E:St->XK)(δ:ge Sv)(i:Nat)(C p dx:Nat)(t:Str)(σ:St)(H0:Hp)(O W:ge EG)(Q:VK):Rm->Prop
 | .ok d s=>∀v H' k',s=rdD C p dx t k'->Same H0 H'->RSt X.D H' σ (δ.set i (.od s)) O W->Rep X.D (L2.wo (O++W) H') d v->Q v H'
 | .ex c=>∀H' Cv,X.mg c=some Cv->Same H0 H'->RSt X.D H' σ (noS δ) O []->E σ Cv none H'
theorem qg{X:Cx}{E:St->XK}{δ:ge Sv}{C a dx:Nat}{t:Str}{k0:Int}{σ:St}{H H0:Hp}{O W:ge EG}{Q:VK}{r:Rm}{s:DV}{o0:HO}(R:RSt X.D H σ δ O W)(hi:δ[i]? = some (.od s))(e1:σ[i]? = some (some (.ref a)))(e2:a∈W)(e3:H a=some (rdO C dx t k0))(hl:t.length<=sizeLine)(fr:∀a∈W,H0 a=none)(sm:Same H0 H)
  (k:jD X E δ i C a dx t σ H0 O W Q r):jx X E C a dx t σ H O W Q r:=by
 have sm0:∀H',Same (L2.wo [a] H) H'->Same H0 H':=λ H' s b o e=>s b o (by
  rw[i7 (by rw[q9];intro z;rw[z,fr a e2]at e;cases e)];exact sm b o e)
 cases r with
 | ok d s'=>
  intro v H' k' q1 q2 q3 q4;exact k v H' k' q1 (sm0 H' q2) (by rw[q1];exact R.turnO hi e1 e2 e3 rfl (pH hl) q2 q3) q4
 | ex c=>exact λ H' Cv q1 q2=>k H' Cv q1 (sm0 H' q2) (R.forgetO e2 q2)
theorem jE(g:Good B G F X E)(hq:inMt B i m v (j8 B h)=true)(e:evEs G F h δ=some (.ok l))(I:δ[i]? = some (.od s))(J:G.mtx=true/\rdB G s=true)(hs:stros l=true)(hF:Rm.of (F m (s::l.map (·.1)))=some r) :
  ∃C p dx t,PE X v (λ o H Q=>∃j O W,RSt X.D H o δ O W/\(∀a∈W,j a=none)/\Same j H/\jD X E δ i C p dx t o j O W Q r):=by
 refine bQ hq λ x n np Z pos as h1 P c d b=>?_;obtain⟨s1,s2,s3,s4⟩:=W1 g h1;obtain⟨n1,n2⟩:=pU P;obtain⟨C,r1,r2,r3,r4,r5,_⟩:=g.rd (pJ J.2);obtain⟨k,fa,fd,ps,w1,w2,w3,w4⟩:=r5 J.1 m n P;obtain⟨p,dx,t,k0,K⟩:=pL r1 J.2;subst K;refine⟨C,p,dx,t,(jy (t:=t) (k0:=k0) (oA:=λ _ _=>r) (F9 s1 s2 s3 s4) r2 w2 n1 n2 c d w4 w1 w3 g.pas I (sndL h g b e) (λ z=>?_) (Z4 b) hs λ a N ok=>?_).weak λ o H Q ⟨j,O,W,R,fr,sm,kk⟩=>⟨O,W,R,λ a M Y e2 U=>?_⟩⟩
 ·subst z;cases h with
  | nil=>cases e;rfl
  | cons _ _=>unfold j8 at b;cases b
 ·obtain⟨A,y,w⟩:=Z0 ok;subst A;exact⟨dx,y,w,hF⟩
 ·obtain⟨⟨a',N,f0,S,f2,f3⟩,u⟩:=R.od i _ I;obtain⟨A,y,w⟩:=Z0 f0;subst A;rw[Y]at S;cases S;have f:=U;rw[f3,y]at f;have L:M=dx:=by
   have q:=v5 f;unfold rdO at q;injection q with _ q
   exact q.symm
  subst L;exact qg (o0:=N) R I Y e2 U w fr sm kk
theorem jF{e:DV->DV->EC Out}(h:Y2 G F i m δ rs e=some o):∃s l r,δ[i]? = some (.od s)/\(G.mtx=true/\rdB G s=true)/\rs=some (.ok l)/\stros l=true/\Rm.of (F m (s::l.map (·.1)))=some r/\(match r with | .ok d b=>e d b=some o | .ex c=>o=.ex c (noS δ)):=by
 unfold Y2 at h;split at h
 ·rename_i s g;split at h
  ·rename_i j;split at h
   ·rename_i l;split at h
    ·rename_i f;split at h
     ·rename_i d b a;exact⟨s,l,_,g,j,rfl,f,a,h⟩
     ·rename_i c a;cases h;exact⟨s,l,_,g,j,rfl,f,a,rfl⟩
     ·cases h
    ·cases h
   ·cases h
  ·cases h
 ·cases h
theorem BU:SS G F fu (.msx i m P):=by
 intro sg X E st δ o g e h;refine iB e λ v z e=>?_
 simp only[g9,m9]at e;obtain⟨N,M⟩:=e;unfold evS at h;obtain⟨s,l,r,I,J,n,B,L,x⟩:=jF h;obtain⟨C,p,dx,t,A⟩:=jE g N n I J B L;refine(dD A (S4 M)).weak λ Dn u H ⟨Q,O,W,R,y,fo,sm,k⟩=>⟨Q,O,W,R,y,sm,?_⟩
 cases r with
 | ok d s'=>
  have b:=x;cases b;exact λ v' q k' w j f q4=>k u q W f y j
 | ex c=>
  have b:=x;subst b;exact λ q S w j f=>k u q [] S w f (λ a K=>nomatch K) j
theorem BV:SS G F fu (.mst j i m Z):=by
 intro sg X E st δ o g f h;refine Y6 f λ tt v L f=>?_
 simp only[g9,m9]at f;obtain⟨⟨e,Y⟩,U⟩:=f;refine D6 e λ x pt e=>?_
 rw[g9,i1]at e;have z:=g.loc x e.2;unfold evS at h;obtain⟨s,l,r,N,P,u,M,S,B⟩:=jF h;obtain⟨C,p,dx,t,A⟩:=jE g Y u N P M S;refine(X7 g.nd (by rw[g.N];exact e.1) z.1 A (S4 U) z.2).weak λ Dn J H ⟨H0,O,W,R,I,fo,sm,k⟩=>⟨H0,O,W,R,I,sm,?_⟩
 cases r with
 | ok d s'=>
  have b:_=some o:=B;split at b
  ·cases b;exact λ v' w k' y q n K=>k _ w W (n.setVal K j) I q
  ·cases b
 | ex c=>
  have b:=B;subst b;exact λ w Cv y q n=>k J w [] Cv y n (λ a Q=>nomatch Q) q
theorem BW:SS G F fu (.rtm i e):=by
 intro sg X E st δ o g j h;refine eK j λ v l j=>?_
 unfold evS at h;split at h
 ·rename_i s q;split at h
  ·rename_i d c n;split at h
   ·rename_i p;cases h;refine(X6 ((snd e).1 g j n)).weak λ Dn σ H ⟨H0,O,W,R,fr,fo,sm,k⟩=>⟨O,W,R,λ v y s1 r=>?_⟩
    obtain⟨⟨a,m,x,f1,w,t⟩,u⟩:=(R.mono s1).od i _ q;exact k v y a m (sm.trans s1) x t ((r.stro (R.hid.mono s1) p).mono (n9 λ b f=>by
     rcases x5.mp f with f | f
     ·exact u8 _ f
     ·rw[q9.mp f];exact y8 _ w))
   ·cases h
  ·cases h
 ·cases h
theorem BX:SS G F fu (.rtd i m x):=by
 intro sg X E st Y o g j h;refine eK j λ v pos j=>?_
 refine nR j λ ea eb kt pt j=>?_;simp only[g9,m9]at j;obtain⟨⟨h0,h1⟩,Q⟩:=j;unfold evS at h;obtain⟨s,l,r,P,hh,I,hs,hF,M⟩:=jF h;cases I;obtain⟨C,p,dx,t,A⟩:=jE g Q rfl P hh hs hF;have B1:=(snd (.str x)).1 (δ:=Y) g h0 (by unfold evE;rfl);have B:j3 eb=false:=bQ Q λ _ _ _ _ _ _ _ _ _ _ _=>rfl;refine(X6 (bo (x9 B1 (x9 A D0 (j9 B)) (j9 h1)))).weak λ Dn U H ⟨H0,O,W,R,fr,fo,sm,k⟩=>⟨O,W,R,λ u1 H1 s1 J=>⟨H0,O,W,R.mono s1,fr,sm.trans s1,?_⟩⟩;cases r with
 | ok d s'=>
  have f:=M;cases f;intro Z S k' L y w q4;refine⟨show 2<=sizeLine by decide,λ q N=>?_⟩;obtain⟨⟨a,ob,f0,f1,f2,f3⟩,u⟩:=w.od i s' (A4 ((n7.mp P).1));have e:=n0 (o:=.tup [u1,Z]) N;have K:∀b∈O++[a],b∈O++W:=λ b n=>by
   rcases x5.mp n with n | n
   ·exact u8 _ n
   ·rw[q9.mp n];exact y8 _ f2
  obtain⟨g1,g2⟩:=J.str (R.hid.mono s1);refine k _ _ a ob (y.trans e) f0 (e _ _ f3) (y7.mpr ⟨q,_,rfl,SqT.of (by rw[i7 λ z=>(λ z=>w.hid.ot q z N) (K _ z)];exact o7),t7.mpr ⟨_,_,rfl,x0.mpr ⟨g1,g2⟩,RepL.one ((q4.mono (n9 K)).mono e.wo)⟩⟩)
 | ex c=>
  have f:=M;subst f;exact λ S Cv L y w=>k U S [] Cv L w (λ a ha=>nomatch ha) y
theorem BY:SS G F fu (.fau i e):=by
 intro sg X E st P o g z h;refine wZ z λ tt op v pos z=>?_
 simp only[g9,i1]at z;obtain⟨⟨h0,B⟩,h2⟩:=z;subst h0;refine L9 B λ ob n a0 B=>?_
 rw[g9,i1]at B;obtain⟨h3,M⟩:=B;subst h3;refine D6 M λ x np M=>?_
 obtain⟨s1,U,S,Q⟩:=W1 g M;unfold evS at h;split at h
 ·rename_i cc aa xx ty k0 hi;split at h
  ·rename_i d0 hf;obtain⟨C,r1,r2,r3,Z,_⟩:=g.rd (pK hf);have Y:∀{H:Hp} {m:St} {O W:ge EG},RSt X.D H m P O W->∃a l t,m[i]? = some (some (.ref a))/\a∈W/\H a=some (rdO C l t k0)/\∀j,OdOk (.tup [cc,aa,xx,ty,.int j]) a (rdO C l t j):=λ {H m O W} R=>by
    obtain⟨⟨a,ob,f0,p,r,f⟩,u⟩:=R.od i _ hi;obtain⟨J,w,qa,qx,K,k',e,z1,z2,z3,z4⟩:=f0
    ·injection e with e
     injection e with e1' e
     injection e with e2' e
     injection e with e3' e
     injection e with e4 e
     injection e with e5 e
     injection e5 with e5
     subst e1' e2' e3' e4 e5;have c1:J=C:=by
      have q:(if(J:Int)=G.rdc/\0<=(J:Int)then some (if true then DV.int k0 else .str K)else none)=some d0:=hf;split at q
      ·omega
      ·cases q
     subst c1;subst z4;exact⟨a,w,K,p,r,f,λ j=>⟨J,w,_,_,K,j,rfl,z1,z2,z3,rfl⟩⟩
   cases L:evE G F e P with
   | none=>rw[L]at h;cases h
   | some re=>
    rw[L]at h;have A:=(snd e).1 g h2 L;cases re with
    | ex c=>
     cases h;refine(lG (F9 s1 U S Q) A lH).weak λ Dn m H ⟨H0,O,W,R,I,fo,sm,k⟩=>?_
     obtain⟨a,l,t,p,r,f,f4⟩:=Y R;exact⟨.ref a,p,a,C,l,_,.int k0,rfl,f,r2,Z,rfl,O,W,R,S0 R I sm k⟩
    | ok d c=>
     have N:(match(generalizing:=false) d with | .int j=>some _ | _=>none)=some o:=h;split at N
     ·rename_i j;cases N;refine(lG (F9 s1 U S Q) A lH).weak λ Dn m H ⟨H0,O,W,R,I,fo,sm,k⟩=>?_
      obtain⟨a,l,t,p,r,f,f4⟩:=Y R;refine⟨.ref a,p,a,C,l,_,.int k0,rfl,f,r2,Z,rfl,O,W,R,λ y H1 b gt=>?_⟩;have hy:=gt.int (R.hid.mono b);subst hy;refine⟨k0,j,rfl,rfl,l,_,b _ _ f,(show 2<1000 by decide),?_⟩;exact k m _ W ((R.mono b).writeOd hi p r (b _ _ f) rfl (f4 (k0+j))) I (pE (sm.trans b) (I a r))
     ·cases N
  ·cases h
 ·cases h
theorem BZ:aq (CXx X.prog X.w X.base) X (λ _ _ _=>False):=by
 intro a σ H s e s' I z;obtain⟨_,_,_,_,_,_,_,_,_,_,q⟩:=z;exact q.elim
theorem qh:upd (upd H p a) p b=upd H p b:=by
 funext c
 by_cases z:c=p
 ·subst z;rw[o7,o7]
 ·rw[j1 z,j1 z,j1 z]
theorem Ca:SS G F fu (.mkr i e):=by
 intro sg X E st δ o g q h;refine Y6 q λ tt v pos q=>?_
 rw[g9]at q;obtain⟨m,d⟩:=q;refine D6 m λ x pt m=>?_
 rw[g9,i1]at m;have I:=g.loc x m.2;refine H9 d λ ef ea L d=>?_
 simp only[g9,i1,m9]at d;obtain⟨⟨⟨d,h2⟩,h3⟩,K⟩:=d;obtain⟨p,rfl⟩:=z7 d;unfold evS at h;split at h
 ·rename_i b;split at h
  ·rename_i t c hv;split at h
   ·rename_i l;cases h;obtain⟨C,Z,r2,r3,r4,r5,Y⟩:=g.rd b.1;obtain⟨o1,u⟩:=F4.mp l.2;obtain⟨k,fi,fdi,psi,fa,fd,ps,f,U,S,Q,P,N,_⟩:=Y b.2 t 0 o1 u;have A:=(snd e).1 g h3 hv;refine(X7 g.nd (by rw[g.N];exact m.1) I.1 (sW Q N U (g.glo _ h2) S P .nil BZ (x9 A D0 (j9 K)) (by decide) (j9 K) rfl) (S4 rfl) I.2).weak λ Dn σ H ⟨H0,O,W,R,fr,fo,sm,k⟩=>⟨O,W,R,λ v1 B s1 gt=>λ n r J y w=>?_⟩
    obtain⟨g1,g2⟩:=gt.str (R.hid.mono s1);subst g1;refine⟨n,r,t,rfl,o7,rfl,?_⟩;rw[qh];have M:Same B (upd B r (.own n)):=n0 y;have j:upd B r (.own n) n=none:=by rw[j1 (Ne.symm w)];exact J
    refine k _ _ _ ((((R.mono s1).mono M).growD j rfl).setOd (o8 ..) (⟨C,r,.non,.non,t,0,by rw[Z],.inl rfl,.inl rfl,g2,rfl⟩) o7 l.1) (λ a ha=>?_) ((sm.trans s1).trans (M.trans (n0 j)));rcases i6.mp ha with z | z
    ·rw[z];exact(sm.trans s1).free J
    ·exact fr a z
   ·cases h
  ·cases h
 ·cases h
theorem Cb:SS G F fu (.rdp j i):=by
 intro sg X E st δ o g Z h;refine Y6 Z λ tt v pos Z=>?_
 rw[g9]at Z;obtain⟨B,h1⟩:=Z;refine D6 B λ x pt B=>?_
 rw[g9,i1]at B;have S:=g.loc x B.2;refine bQ h1 λ x2 n np N M es0 h2 h3 z L h1=>?_
 obtain rfl:=cV.mp h1;have hn:n = "take_plan":=by have h4:(rdN[4]?:EC Str)=some ("take_plan" : Str):=rfl;rw[h4]at h3;exact(v5 h3).symm
 subst hn;obtain⟨s1,s2,s3,s4⟩:=W1 g h2;unfold evS at h;split at h
 ·rename_i c t k0 Y;split at h
  ·rename_i A;obtain⟨C,r1,r2,r3,r4,r5,r6⟩:=g.rd A.2.2;have a0:=A.1.trans r1;subst a0;have ok:∀a l,OdOk (.tup [.int (C:Int),.non,.non,.str t,.int k0]) a l->∃b,l=rdO C b t k0/\t.length<=sizeLine:=λ a l ok=>by
    obtain⟨C',a1,qa,qx,t',U,e,z1,z2,z3,z4⟩:=ok
    ·injection e with e
     injection e with e1' e
     injection e with e2' e
     injection e with e3' e
     injection e with e4 e
     injection e with e5 e
     injection e1' with e1'
     injection e4 with e4
     injection e5 with e5
     subst e4 e5;have c1:C=C':=by omega
     subst c1;exact⟨a1,z4,z3⟩
   have go:∀r,Rm.of (F rdIx [.str t,.int k0])=some r->PE X (.Call (.Attribute (.Name x2 np) "take_plan" N) [] [] M) (λ m H Q=>∃w O W,RSt X.D H m δ O W/\(∀a∈W,w a=none)/\Same w H/\∀a b,jD X E δ i C a b t m w O W Q (rmAt C a b t r)):=λ r hr=>by
    obtain⟨kk,fi,fdi,psi,fa,fd,ps,f,w1,w2,w3,w4,w5,w6,w7,w8,w9⟩:=r6 A.2.1 t k0 r hr;refine(jy (C:=C) (t:=t) (k0:=k0) (f:=f) (oA:=λ a b=>rmAt C a b t r) (F9 s1 s2 s3 s4) r2 w6 (by decide) (by decide) z L w8 (w1.mono (ak _)) w7 g.pas Y (D0.weak λ m H Q ⟨O,W,R,p⟩=>p [] H (Same.refl H) .nil) (λ _=>rfl) rfl rfl λ a l q=>?_).weak λ m H Q ⟨w,O,W,R,I,sm,k⟩=>⟨O,W,R,λ a b e1 e2 e3=>?_⟩
    ·obtain⟨b,J,y⟩:=ok a l q;exact⟨b,J,y,w9 a b⟩
    ·obtain⟨⟨a',l,f0,f1,f2,f3⟩,u⟩:=R.od i _ Y;obtain⟨dx2,J,y⟩:=ok a' l f0;exact qg (o0:=l) R Y e1 e2 e3 y I sm (k a b)
   split at h
   ·rename_i d U hF;split at h
    ·cases h;refine(X7 g.nd (by rw[g.N];exact B.1) S.1 (go _ hF) (S4 rfl) S.2).weak λ Dn m H ⟨w,O,W,R,I,fo,sm,k⟩=>⟨w,O,W,R,I,sm,λ a b v' H' k2 J y P q4=>?_⟩
     have K:=(n7.mp Y).1;have R2:RSt X.D H' m (δ.set i (.od (.tup [.int (C:Int),.non,.non,.str t,.int U]))) O W:=(by obtain⟨⟨a',l,f0,f1,f2,f3⟩,u⟩:=P.od i _ (A4 K);obtain⟨z1,z2,z3⟩:=Z0 f0;subst z1;subst z2;have:=P.turnO (d1:=.tup [.int (C:Int),.non,.non,.str t,.int U]) (A4 K) f1 f2 f3 rfl (⟨C,b,.non,.non,t,U,rfl,.inl rfl,.inl rfl,z3,rfl⟩) m8 f3;rw[List.set_set]at this;exact this);exact k _ H' W (R2.setVal q4 j) I y
    ·cases h
   ·rename_i c2 hF;cases h;refine(X7 g.nd (by rw[g.N];exact B.1) S.1 (go _ hF) (S4 rfl) S.2).weak λ Dn m H ⟨w,O,W,R,I,fo,sm,k⟩=>⟨w,O,W,R,I,sm,λ a b H' Cv J y P=>k m H' [] Cv J P (λ a ha=>nomatch ha) y⟩
   ·cases h
  ·cases h
 ·cases h
theorem Cd:SS G F fu (.exp e):=by
 intro sg X E st δ o g a h;refine iB a λ _ _ a=>?_
 simp only[g9,m9]at a;unfold evS at h;exact Ak (λ z b=>(snd e).1 g a.1 b) a.2 h
theorem Ce:SS G F fu (.ret e):=by
 intro sg X E st δ o g a h;refine eK a λ _ _ a=>?_
 unfold evS at h;exact Aj (λ z b=>(snd e).1 g a b) h
theorem Cf:SS G F fu (.ret0 b):=by
 intro sg X E st δ o g a h;refine eK a λ v c a=>?_
 refine eF a λ e kk tp a=>?_;unfold evS at h;exact Aq (λ z d=>sndL b g a d) h
theorem Cg:SS G F fu (.rse c e):=by
 intro sg X E st δ o g a h;refine xl a λ v d a=>?_
 refine H9 a λ ef ea b a=>?_;simp only[g9,m9,i1,F8,E3]at a;obtain⟨⟨⟨⟨⟨n,m⟩,l⟩,k⟩,j⟩,i⟩:=a;obtain⟨np,rfl⟩:=z7 m;unfold evS at h;exact Ax g.xf g.calm (g.glo c l) (o9.mpr k) (g.st n).2.2.2.1 (λ z f=>(snd e).1 g j f) i h
theorem Ch(H:SSs G F fu body):SS G F fu (.tryc body c A B):=by
 intro sg X E st δ o g e h;refine nX e λ b hd k e=>?_
 rw[g9,g9]at e;obtain⟨⟨J,I⟩,f⟩:=e;refine xm f λ t' n' t2 v2 ap hp f=>?_
 simp only[g9,i1,F8,E3,E8]at f;obtain⟨⟨⟨⟨⟨⟨⟨⟨⟨⟨z,w⟩,v⟩,u⟩,t⟩,r⟩,p⟩,n⟩,m⟩,a⟩,y⟩:=f;refine D6 a λ x tp a=>?_
 simp only[g9,i1]at a;obtain⟨vp,rfl⟩:=z7 m;obtain⟨np,rfl⟩:=z7 z;have l:=g.loc x a.2;obtain⟨s1,j,i,_⟩:=g.st J;unfold evS at h;exact Ay g.xf s1 j i (g.glo c w) u (o9.mpr v) g.nd (by rw[g.N];exact t) (g.lcl _ r) (o9.mpr p) (o9.mpr n) (by rw[g.N];exact a.1) l.1 l.2
  (λ d K q C=>H (pR g d K) I C) h
theorem Ci{i:Str}(K:SSs G F fu body):SS G F fu (.tryr body c l i):=by
 intro sg X E st δ o g f h;refine nX f λ b hd t f=>?_
 rw[g9,g9]at f;obtain⟨⟨M,L⟩,a⟩:=f;refine xn a λ t' v k rp hp a=>?_
 refine H9 a λ ef ea m a=>?_;simp only[g9,i1,F8,E3,E8]at a;obtain⟨⟨⟨⟨⟨⟨⟨⟨I,H⟩,C⟩,B⟩,A⟩,z⟩,y⟩,x⟩,w⟩:=a;obtain⟨np,rfl⟩:=z7 I;obtain⟨u,rfl⟩:=z7 A;obtain⟨j2,mp,rfl⟩:=V1 x;obtain⟨j,cp,rfl⟩:=V1 w;obtain⟨s1,r,p,_,n⟩:=g.st M;unfold evS at h;split at h
 ·rename_i e;exact Az g.xf s1 r p n (g.glo c H) B (o9.mpr C) (g.glo l z) (o9.mpr y) (λ d N q J=>K (pR g d N) L J) (λ _ _ _=>e) e h
 ·cases h
theorem Cj(h:∀a,evS G F fu m a=none):SS G F fu m:=by
 intro sg X E st a o g hc q;rw[h]at q;cases q
theorem Ck:SS G F fu (.frz i):=by
 intro sg X E st δ o g a h;cases a
theorem Cm(i:SSs G F fu a)(f:SSs G F fu b):SS G F fu (.iff c a b):=by
 intro sg X E st δ o g d h;refine wT d λ _ _ _ _ d=>?_
 simp only[g9]at d;unfold evS at h;exact Ai (λ z e=>(snd c).2.1 g d.1.1 e) (λ z e=>i g d.1.2 e) (λ z e=>f g d.2 e) h
theorem t_fo(f:SSs G F fu body):SS G F fu (.fo tg e body):=by
 intro sg X E st δ o g a h;refine xj a λ _ _ _ _ a=>?_
 simp only[g9,m9,v7]at a;obtain⟨⟨⟨⟨n,m⟩,l,k⟩,j⟩,i⟩:=a;unfold evS at h;exact Ar (g.own n) g.calm (λ z c=>(snd e).2.2 g l (λ w=>by
  rcases k with q | q
  ·rw[w]at q;cases q
  ·exact q) c) (aM g m) (λ b o' d=>f g i d) j h
theorem t_wh(f:SSs G F fu body):SS G F fu (.wh c body):=by
 intro sg X E st δ o g a h;refine xk a λ _ _ _ a=>?_
 simp only[g9]at a;unfold evS at h;exact As (g.own a.1.1) (λ b r d=>(snd c).2.1 g a.1.2 d) (λ b o' e=>f g a.2 e) h
theorem Cn:SSs G F fu []:=by
 intro sg X E c δ o g d h;cases c with
 | nil=>unfold evSs at h;cases h;exact Ac
 | cons a b=>unfold C8 at d;cases d
theorem Co(b:SSs G F fu ms):SSs G F fu (.frz i::ms):=by
 intro k X E e c o g j h;have a:C8 k ms e=true:=by unfold C8 at j;exact j
 unfold evSs at h;have f:evS G F fu (.frz i) c=(match c[i]? with | some (.own d)=>some (.nx (c.set i (.val d))) | _=>some (.nx c)):=by unfold evS;rfl
 rw[f]at h;cases q:c[i]? with
 | none=>rw[q]at h;exact b g a h
 | some sv=>
  rw[q]at h;cases sv with
  | own d=>exact An q (b g a h)
  | no=>exact b g a h
  | val d=>exact b g a h
  | ot d=>exact b g a h
  | od d=>exact b g a h
theorem B5(n:SS G F fu m)(p:SSs G F fu ms)(l:∀i,m ≠ .frz i):SSs G F fu (m::ms):=by
 intro k X E b δ o g f h;cases b with
 | nil=>
  exfalso;cases m<;>first | exact l _ rfl | (unfold C8 at f;cases f)
 | cons st b=>
  have e:corS k m st=true/\C8 k ms b=true:=(by cases m<;>first | exact absurd rfl (l _) | (unfold C8 at f;rw[g9]at f;exact f));unfold evSs at h;split at h
  ·rename_i a q;exact Ad (n g e.1 q) (p g e.2 h)
  ·rename_i j;have A:=n g e.1 h;cases o with
   | nx a=>exact absurd h (j a)
   | rt d fr=>exact Ae A
   | rtt d=>exact Af A
   | rtm d s=>exact Ag A
   | ex c a=>exact Ah A
end
section
variable {G:Gs} {F:Nat->ge DV->EC Ou} {fu:Nat}
mutual
theorem sndS:∀m:MS,SS G F fu m
 | .set _ _ _=>BQ
 | .sett _ _=>BS
 | .app _ _=>BR
 | .exp _=>Cd
 | .ret _=>Ce
 | .ret0 _=>Cf
 | .iff _ a b=>Cm (u6 a) (u6 b)
 | .fo _ _ body=>t_fo (u6 body)
 | .wh _ body=>t_wh (u6 body)
 | .fau _ _=>BY
 | .msx _ _ _=>BU
 | .mst _ _ _ _=>BV
 | .rtm _ _=>BW
 | .rtd _ _ _=>BX
 | .mkr _ _=>Ca
 | .rdp _ _=>Cb
 | .unk=>Cj λ δ=>by unfold evS;rfl
 | .rse _ _=>Cg
 | .tryc body _ _ _=>Ch (u6 body)
 | .tryr body _ _ _=>Ci (u6 body)
 | .frz _=>Ck
theorem u6:∀ms:ge MS,SSs G F fu ms
 | []=>Cn
 | .frz _::ms=>Co (u6 ms)
 | .set i o e::ms=>B5 (sndS (.set i o e)) (u6 ms) (by intro i z;cases z)
 | .sett i o::ms=>B5 (sndS (.sett i o)) (u6 ms) (by intro i z;cases z)
 | .app i o::ms=>B5 (sndS (.app i o)) (u6 ms) (by intro i z;cases z)
 | .exp e::ms=>B5 (sndS (.exp e)) (u6 ms) (by intro i z;cases z)
 | .ret e::ms=>B5 (sndS (.ret e)) (u6 ms) (by intro i z;cases z)
 | .ret0 e::ms=>B5 (sndS (.ret0 e)) (u6 ms) (by intro i z;cases z)
 | .iff c a b::ms=>B5 (sndS (.iff c a b)) (u6 ms) (by intro i z;cases z)
 | .fo t i b::ms=>B5 (sndS (.fo t i b)) (u6 ms) (by intro i z;cases z)
 | .wh c b::ms=>B5 (sndS (.wh c b)) (u6 ms) (by intro i z;cases z)
 | .unk::ms=>B5 (sndS .unk) (u6 ms) (by intro i z;cases z)
 | .fau a b::ms=>B5 (sndS (.fau a b)) (u6 ms) (by intro i z;cases z)
 | .msx a b c::ms=>B5 (sndS (.msx a b c)) (u6 ms) (by intro i z;cases z)
 | .mst a b c d::ms=>B5 (sndS (.mst a b c d)) (u6 ms) (by intro i z;cases z)
 | .rtm a b::ms=>B5 (sndS (.rtm a b)) (u6 ms) (by intro i z;cases z)
 | .rtd a b c::ms=>B5 (sndS (.rtd a b c)) (u6 ms) (by intro i z;cases z)
 | .mkr a b::ms=>B5 (sndS (.mkr a b)) (u6 ms) (by intro i z;cases z)
 | .rdp a b::ms=>B5 (sndS (.rdp a b)) (u6 ms) (by intro i z;cases z)
 | .rse c e::ms=>B5 (sndS (.rse c e)) (u6 ms) (by intro i z;cases z)
 | .tryc a b c d::ms=>B5 (sndS (.tryc a b c d)) (u6 ms) (by intro i z;cases z)
 | .tryr a b c d::ms=>B5 (sndS (.tryr a b c d)) (u6 ms) (by intro i z;cases z)
end
end
structure FunD(K:PySem.W.Frag)(x qual:Str)(st:Stmt)(f:Addr)(fd:FuncData):Prop where
 ex:∃(oc:Value) (od:Option Addr) (dV kV doc pm:Value) (an:Option Addr) (cdv ct:Value) (osl:Array (Option Value)),
  fd=PySem.W.fnOf x qual (z0 st) (t6 st) (j4 st) dV kV doc pm an cdv ct/\K.lookup f=some ⟨oc,od,.func fd,osl⟩/\PySem.W.codeIn K cdv qual=true
theorem FunD.okX{K:EQ}{st:EN}(F:FunD K x b st f fd)(S:FnScope N ps (j4 st))(len:∀d H Q E,g d H Q E->d.length=ps.length)
  (e:∀(c:ED),fd.code=c->∀(A:EM) (a:ge Env) (s:EF) (H:Hp) (d:ge V) (Q:VK) (E:XK),Room k (A.deeper (envOfC b (j4 st) s.heap.objs.size f c))->g d H Q E ->
   ∃t,PSs (cxD P w K mg base N b (j4 st) f c A a s H E) (t6 st) t/\t {nx:=λ _ o=>Q .non o,rt:=Q} (start N d) H):FnOk P w K mg base (CXx P w base) (k+1) f fd ps g:=by
 obtain⟨oc,od,dV,kV,n,pm,an,c,ct,j,rfl,l,i⟩:=F.ex;exact sY l i S len λ A a s H d Q E m h=>e c rfl A a s H d Q E m h
theorem RSt.startM(m:n=N.length)(e:Hdn O H)(l:p∉O)(o:t.length<=sizeLine)(c:H p=some (rdO C dx t k))(r:RepL D (L2.wo (O++[p]) H) ds vs):RSt D H (L2.start N (.ref p::vs)) (L2.startM n (rdD C p dx t k) ds) O [p]:=by
 subst m;have one:∀(i:Nat) (s:Sv),(L2.startM N.length (rdD C p dx t k) ds)[i]? = some s->(i=0/\s=.od _)\/(∃j d,i=j+1/\ds[j]? = some d/\s=.val d)\/s=.no:=λ i s h=>by
  cases i with
  | zero=>cases h;exact .inl ⟨rfl,rfl⟩
  | succ j=>
   have h:(ds.map Sv.val++List.replicate _ Sv.no)[j]? = some s:=h;by_cases u:j<(ds.map Sv.val).length
   ·rw[P0 u,u9]at h;cases q:ds[j]? with
    | none=>rw[q]at h;cases h
    | some d=>rw[q]at h;cases h;exact .inr (.inl ⟨j,d,rfl,q,rfl⟩)
   ·rw[W4 (by omega),Z8]at h;split at h
    ·cases h;exact .inr (.inr rfl)
    ·cases h
 refine⟨λ i d h=>?_,λ i d h=>?_,λ i j a d g h=>?_,RSt.noot λ i d h=>?_,λ i d h=>?_,?_,⟨λ a b=>?_,Same.refl _,λ a b=>?_,λ a b=>?_,e⟩⟩
 ·rcases one i _ h with⟨_,z⟩ | ⟨j,g,rfl,q,z⟩ | z
  ·cases z
  ·cases z;obtain⟨v,f,w⟩:=r.get q;refine⟨v,?_,w⟩;unfold L2.start;rw[P0 (by rw[n8,o5];exact Nat.succ_lt_succ (n7.mp f).1),u9];show((vs[j]?).map some)=_;rw[f];rfl
  ·cases z
 ·rcases one i _ h with⟨_,z⟩ | ⟨_,_,_,_,z⟩ | z<;>cases z
 ·rcases one i _ h with⟨_,z⟩ | ⟨_,_,_,_,z⟩ | z<;>cases z
 ·rcases one i _ h with⟨_,z⟩ | ⟨_,_,_,_,z⟩ | z<;>cases z
 ·rcases one i _ h with⟨rfl,z⟩ | ⟨_,_,_,_,z⟩ | z
  ·cases z;refine⟨⟨p,_,pH o,rfl,q9.mpr rfl,c⟩,λ j g q=>?_⟩;rcases one j _ q with⟨z,_⟩ | ⟨_,_,_,_,z⟩ | z
   ·exact z
   ·cases z
   ·cases z
  ·cases z
  ·cases z
 ·unfold L2.start L2.startM;rw[B7,n8,aO,o5,o5,B7,n8,aO,r.length];omega
 ·rcases x5.mp b with z | z
  ·exact e.ne a z
  ·rw[q9.mp z,c];intro z;cases z
 ·rw[q9.mp b];exact⟨_,c,rfl⟩
 ·rw[q9.mp b];exact l
structure MStands(K:PySem.W.Frag)(bl cl:List Str)(C:Addr)(d:FD)(x:Str)(fa:Addr)(fd:FuncData)(ps:List Str):Prop where
 me:Meth K C x fa
 bi:u7 K fd ps []
 np:d.np=ps.length
 ex:∃qual st N,FunD K x qual st fa fd/\FnScope N ps (j4 st)/\d.n=N.length/\C8 ⟨N,(j4 st).names,[],bl,cl,true,true⟩ d.body (t6 st)=true
theorem qi{P:EL}{w:EK}{K:EQ}{mg:Str->EC ED}{base:EH}{G:Gs}{T:ge FD}{fu:Nat}{bl cl:ge Str}{C:Nat}(hC:G.rdc=C)(hmt:G.mtx=true)(hcl:Cls K C)(n1:B9 K C "text")(n2:B9 K C "place")(hs:∀(m:Nat) x,rdN[m]? = some x->∃d fa fd ps,T[m]? = some d/\MStands K bl cl C d x fa fd ps)(hbl:∀x∈bl,mg x=none)(hxf:XFacts K mg G cl)
  (hcon:∀x d,G.con.lookup x=some d->∃u v,mg x=some u/\RelV v u/\∀H,Rep ⟨K,mg⟩ H d v) (hdc:G.dcs=[]) (hlm:G.fnl=[]) :
  ∀(k m:Nat) d x fa fd ps,T[m]? = some d->rdN[m]? = some x->MStands K bl cl C d x fa fd ps->FnOk P w K mg base (CXx P w base) k fa fd ps (spM ⟨K,mg⟩ C (runM G T fu k m))
 | 0,m,d,x,fa,fd,ps,h1,h2,S=>by
  refine⟨λ vs H Q E h=>?_,λ A outer s H args us vs Q E hr he hb hv h=>?_⟩
  ·obtain⟨_,_,_,_,_,_,_,_,_,_,_,_,_,_,q,_⟩:=h;cases q
  ·obtain⟨_,_,_,_,_,_,_,_,_,_,_,_,_,_,q,_⟩:=h;cases q
 | k+1,m,d,x,fa,fd,ps,h1,h2,S=>by
  have ih:=qi (P:=P) (w:=w) (base:=base) (fu:=fu) hC hmt hcl n1 n2 hs hbl hxf hcon hdc hlm k;obtain⟨qual,st,N,Fd,FS,hn,hc⟩:=S.ex;refine Fd.okX FS (λ vs H Q E h=>?_) (λ cdv hcd A outer s H vs Q E hr h=>?_)
  ·obtain⟨O,p,dx,t,k0,args,ds,o,rfl,_,_,_,_,e2,e3,_⟩:=h;rw[hY h1]at e3;split at e3
   ·rename_i z;rw[o5,e2.length,←S.np,←z,o5]
   ·cases e3
  ·obtain⟨O,p,dx,t,k0,args,ds,o,rfl,ho,hp,hl,hH,e2,e3,e4⟩:=h;rw[hY h1]at e3;split at e3
   ·rename_i hlen;have g:Good ⟨N,(j4 st).names,[],bl,cl,true,true⟩ G (runM G T fu k) (cxD P w K mg base N qual (j4 st) fa cdv A outer s H E) (λ _=>E):=by
     refine⟨rfl,FS.nd,λ y hy=>?_,λ y hy=>?_,λ y hy=>⟨?_,.inl rfl⟩,λ y hy=>hy,λ y hy=>hy,rfl,hr.units,λ f y hy=>(by cases hy),hbl,mq.s,hcon,λ _=>PassesOwn.leaving,hxf,λ _=>⟨rfl,rfl,rfl,mt,mx⟩,(λ x kvs q=>by rw[hdc]at q;cases q),(λ z=>by rw[hlm]at z;cases z),λ _=>⟨C,hC,hcl,n1,n2,λ _ m2 n hn2=>?_,λ z=>by rw[hmt]at z;cases z⟩⟩
     ·unfold visB at hy;simp only[v7,i1]at hy;rcases hy with(hy | hy) | hy
      ·exact .inl hy
      ·exact .inr (.inl hy)
      ·exact .inr (.inr hy)
     ·unfold gloB at hy;rw[i1]at hy;exact hy
     ·unfold locB at hy;simp only[v7,i1]at hy;exact hy
     ·obtain⟨d',fa',fd',ps',q1,S'⟩:=hs m2 n hn2;exact⟨k,fa',fd',ps',hr,S'.me,S'.bi,ih m2 d' n fa' fd' ps' q1 hn2 S'⟩
    cases ho':evSs G (runM G T fu k) fu d.body (startM d.n (rdD C p dx t k0) ds)with
    | none=>rw[ho']at e3;cases e3
    | some oo=>
     rw[ho']at e3;refine⟨_,u6 d.body g hc ho',L2.wo [p] H,O,[p],RSt.startM hn ho hp hl hH e2,(λ a ha=>Y7 ha),(λ a ha=>?_),m8,?_⟩
     ·rw[i7 (by rw[q9];intro z;exact hp (by rw[←z];exact ha))];exact ho.ne a ha
     ·cases oo with
      | nx δ=>
       cases δ with
       | nil=>cases e3
       | cons s0 δ=>
        cases s0 with
        | od s1=>
         have e3':Rm.of (if Y0 (rdD C p dx t k0) s1 then some (Ou.v (.tup [.non,s1]) false)else none)=some o:=e3;split at e3'
         ·rename_i hsm;cases e3';obtain⟨k',rfl⟩:=pI hsm;intro σ' H' W R fr sm;obtain⟨⟨a,ob,f0,f1,f2,f3⟩,u⟩:=R.od 0 _ rfl;obtain⟨z1,z2,z3⟩:=Z0 f0;subst z1 z2;exact e4 .non H' k' rfl sm f3 (show Rep ⟨K,mg⟩ _ .non .non by unfold Rep;rfl)
         ·cases e3'
        | _=>cases e3
      | rt d fr=>cases e3
      | rtt d=>cases e3
      | rtm d s1=>
       have e3':Rm.of (if Y0 (rdD C p dx t k0) s1 then some (Ou.v (.tup [d,s1]) false)else none)=some o:=e3;split at e3'
       ·rename_i hsm;cases e3';obtain⟨k',rfl⟩:=pI hsm;intro v H' a ob sm f0 f3 rp;obtain⟨z1,z2,z3⟩:=Z0 f0;subst z1 z2;exact e4 v H' k' rfl sm f3 rp
       ·cases e3'
      | ex c δ=>
       cases e3;exact λ σ' H' W Cv hm R fr sm=>e4 H' Cv hm sm
   ·cases e3
noncomputable def fldS(sg:Sg)(f:Str)(s:EN)(q:EI->Bool):Bool:=V0 s λ t v _=>K1 t λ o n _=>C7 o λ a=>n==f&&G5 sg 0 a&&q v
theorem qj(h:fldS b f s q=true):∃a p1 p2 p3 v,s=.Assign [.Attribute (.Name a p1) f p2] v p3/\G5 b 0 a=true/\q v=true:=by
 refine Y6 h λ t v p3 h=>L9 h λ o n p2 h=>D6 h λ a p1 h=>?_;simp only[g9,i1]at h;obtain⟨⟨rfl,d⟩,c⟩:=h;exact⟨_,_,_,_,_,rfl,d,c⟩
noncomputable def corI(sg:Sg)(b:ge EN):Bool:=in2 b λ s1 s2=>fldS sg "text" s1 (λ v=>C7 v λ x=>G5 sg 1 x)&&fldS sg "place" s2 (λ v=>K2 v==some (.int 0))
structure IStands(K:PySem.W.Frag)(C:Addr)(fa:Addr)(fd:FuncData)(ps:List Str):Prop where
 mk':Mk K C fa
 bi:u7 K fd ps []
 ps2:ps.length=2
 ex:∃qual st N,FunD K "__init__" qual st fa fd/\FnScope N ps (j4 st)/\N.length=2/\corI ⟨N,(j4 st).names,[],[],[],true,true⟩ (t6 st)=true
section
variable {P:EL} {w:EK} {K:EQ} {mg:Str->EC ED} {base:EH} {C:Nat}
theorem Cp(S:IStands K C j fd n)(f:Cls K C)(I:B9 K C "text")(F:B9 K C "place"):FnOk P w K mg base (CXx P w base) (k+1) j fd n (spI C):=by
 obtain⟨e,st,N,Fd,FS,J,d⟩:=S.ex;refine Fd.okX FS (λ B H Q E h=>?_) (λ m L A c s H B Q E hr h=>?_)
 ·obtain⟨p,l,t,rfl,_⟩:=h;rw[S.ps2];rfl
 ·obtain⟨p,l,t,rfl,M,q⟩:=h;have g:start N [.ref p,.str t]=[some (.ref p),some (.str t)]:=by unfold start;rw[J];rfl
  rw[g];have b:∀{i:Nat} {x:Str},G5 ⟨N,(j4 st).names,[],[],[],true,true⟩ i x=true->N[i]? = some x/\Vis _ x/\_=false/\_=false:=λ {i x} h=>by
   unfold G5 visB at h;simp only[g9,v7,i1,F8,E3]at h;obtain⟨⟨⟨W,U⟩,R⟩,O⟩:=h;refine⟨W,?_,o9.mpr R,o9.mpr O⟩;rcases U with(hy | hy) | hy
   ·exact .inl hy
   ·exact .inr (.inl hy)
   ·exact .inr (.inr hy)
  generalize t6 st=bd at d ⊢;refine Y4 d λ s1 s2 d=>?_
  rw[g9]at d;obtain⟨a,p1,p2,p4,vx,rfl,Z,c3⟩:=qj d.1;obtain⟨a',p5,p6,p7,v,rfl,Y,o⟩:=qj d.2;refine D6 c3 λ x p3 c3=>?_
  rw[i1]at o;obtain⟨kc,pc,rfl⟩:=V1 o;obtain⟨a1,a2,a3,a4⟩:=b Z;obtain⟨b1,b2,b3,b4⟩:=b Y;obtain⟨z,y,u,r⟩:=b c3
  let X:=cxD P w K mg base N e (j4 st) j m A c s H E
  refine⟨_,X5 (lF (F9 a1 a2 a3 a4) (F9 z y u r) rfl) (X5 (lF (F9 b1 b2 b3 b4) lc rfl) li),?_⟩;refine⟨.str t,rfl,.ref p,rfl,p,C,l,[],rfl,M,f,I,by decide,?_⟩;refine⟨.ref p,rfl,p,C,l,[_],rfl,o7,f,F,(show 1<1000 by decide),?_⟩;rw[qh];exact q
def RdH(P:EL)(w:EK)(K:EQ)(mg:Str->EC ED)(base:EH)(G:Gs):Prop:=∃C:Nat,G.rdc=(C:Int)/\G.mtx=false/\Cls K C/\B9 K C "text" /\ B9 K C "place" /\
 ∀k t j o,Rm.of (G.prs (k+1) [.str t,.int j])=some o->∃fi fdi psi fa fd ps f,mg "Reader" = some (.ref C)/\Mk K C fi/\u7 K fdi psi []/\FnOk P w K mg base (CXx P w base) k fi fdi psi (spI C)/\Meth K C "take_plan" fa/\u7 K fd ps []/\FnOk P w K mg base (CXx P w base) k fa fd ps (spM ⟨K,mg⟩ C f)/\∀a dx,Rm.of (f [rdD C a dx t j])=some (rmAt C a dx t o)
theorem qk(h:RdH X.prog X.w X.K X.mg X.base G)(w:T.length<=Y1)(v:Room k X.A):RdG G (run G T fu k) X:=by
 obtain⟨C,F,E,B,A,y,x⟩:=h;refine⟨C,F,B,A,y,(λ z=>by rw[E]at z;cases z),λ _ t j o b=>?_⟩;cases k with
 | zero=>cases b
 | succ k=>
  have e:run G T fu (k+1) rdIx _=G.prs (k+1) _:=(by show(match T[rdIx]? with | none=>if rdIx=D4 then lamR _ _ else xR G _ rdIx _ | some d=>if[DV.str t,.int j].length=d.np then Ou.of _ else none)=_;rw[P5 (o6 w (by decide))];rfl);rw[e]at b;obtain⟨H,c,a,I,d,u,f,r,q,p,n,m,l,i,g⟩:=x k t j o b;exact⟨k,H,c,a,I,d,u,f,v,r,q,p,n,m,l,i,g⟩
theorem Cq{G G2:Gs}(O:G.rdc=C)(A:G2.rdc=C)(N:G.mtx=false)(q:G2.mtx=true)(b:Cls K C)(l:B9 K C "text")(i:B9 K C "place")(p:mg "Reader" = some (.ref C))(I:IStands K C F f c)
  (B:∀(m:Nat) x,rdN[m]? = some x->∃d h fd g,T2[m]? = some d/\MStands K bl cl C d x h fd g) (z:∀x∈bl,mg x=none) (n:XFacts K mg G2 cl)
  (e:∀x d,G2.con.lookup x=some d->∃u v,mg x=some u/\RelV v u/\∀H,Rep ⟨K,mg⟩ H d v) (y:G2.dcs=[]) (r:G2.fnl=[])
  (L:∀k t j o,Rm.of (G.prs (k+1) [.str t,.int j])=some o->∀a dx,Rm.of (runM G2 T2 fu k 4 [rdD C a dx t j])=some (rmAt C a dx t o)):RdH P w K mg base G:=by
 refine⟨C,O,N,b,l,i,λ k t j o M=>?_⟩;have E:=L k t j o M;obtain⟨d,h,fd,g,J,S⟩:=B 4 "take_plan" rfl;cases k with
 | zero=>cases E 0 0
 | succ k=>exact⟨F,f,c,h,fd,g,_,p,I.mk',I.bi,Cp I b l i,S.me,S.bi,qi A q b l i B z n e y r (k+1) 4 d "take_plan" h fd g J rfl S,E⟩
theorem XFacts.of_cls(h:G'.cls=G.cls)(f:XFacts K mg G cl):XFacts K mg G' cl:=by
 have e:∀c t,D2 G' c t=D2 G c t:=λ c t=>by unfold D2;rw[h]
 refine⟨λ c a=>?_,f.all⟩;rw[h]at a;obtain⟨C,o⟩:=f.one c a;exact⟨C,o.mc,o.ck,o.rk,λ t b d m=>by rw[e];exact o.own t b d m,by rw[e];exact o.blt⟩
end
theorem RSt.start(o:n=N.length)(r:RepL D (L2.wo O H) ds vs)(l:Hdn O H):RSt D H (L2.start N vs) (y0 n ds) O []:=by
 subst o;have e:∀(i:Nat) b,(y0 N.length ds)[i]? ≠ some (.own b):=λ i b h=>by
  unfold y0 at h;by_cases c:i<(ds.map Sv.val).length
  ·rw[P0 c,u9]at h;cases q:ds[i]? with
   | none=>rw[q]at h;cases h
   | some d=>rw[q]at h;cases h
  ·rw[W4 (by omega),Z8]at h;split at h<;>cases h
 have g:∀(i:Nat) b,(y0 N.length ds)[i]? ≠ some (.ot b):=λ i b h=>by
  unfold y0 at h;by_cases c:i<(ds.map Sv.val).length
  ·rw[P0 c,u9]at h;cases q:ds[i]? with
   | none=>rw[q]at h;cases h
   | some d=>rw[q]at h;cases h
  ·rw[W4 (by omega),Z8]at h;split at h<;>cases h
 have k:∀(i:Nat) b,(y0 N.length ds)[i]? ≠ some (.od b):=λ i b h=>by
  unfold y0 at h;by_cases c:i<(ds.map Sv.val).length
  ·rw[P0 c,u9]at h;cases q:ds[i]? with
   | none=>rw[q]at h;cases h
   | some d=>rw[q]at h;cases h
  ·rw[W4 (by omega),Z8]at h;split at h<;>cases h
 refine⟨λ i d h=>?_,λ i b h=>absurd h (e i b),λ i j a u d2 h=>absurd h (e i u),RSt.noot g,λ i d h=>absurd h (k i d),?_,⟨λ a f=>l.ne a (by simpa using f),Same.refl _,λ a f=>(nomatch f),λ a f=>(nomatch f),l⟩⟩
 ·unfold y0 at h;by_cases c:i<(ds.map Sv.val).length
  ·rw[P0 c,u9]at h;cases q:ds[i]? with
   | none=>rw[q]at h;cases h
   | some d'=>
    rw[q]at h;cases h;obtain⟨v,m,p⟩:=r.get q;refine⟨v,?_,by rw[v3];exact p⟩;unfold L2.start;rw[P0 (by rw[n8];exact(n7.mp m).1),u9,m];rfl
  ·rw[W4 (by omega),Z8]at h;split at h<;>cases h
 ·unfold L2.start y0;rw[B7,B7,n8,n8,aO,aO,r.length]
def DfOk(G:Gs)(T:ge FD):Prop:=(∀f ds,G.dfl.lookup f=some ds->∃d,T[f]? = some d/\d.dfl=ds/\ds≠[])/\∀f n,G.kws.lookup f=some n->∃d,T[f]? = some d/\d.kn=some n
structure Stands(K:PySem.W.Frag)(mg:Str->Option Value)(fn bl cl:List Str)(d:FD)(x:Str)(fa:Addr)(fd:FuncData)(ps:List Str):Prop where
 dk:(d.dfl≠[]->∃us dvs,u7 K fd ps us/\Vals dvs us/\∀H,RepL ⟨K,mg⟩ H d.dfl dvs)/\∀n,d.kn=some n->KBinds K fd ps n (aL n.length ps.length) (aL n.length ps.length)
 mg:mg x=some (.ref fa)
 kp:PySem.W.keepIn K (.ref fa)=true
 bi:u7 K fd ps []
 np:d.np=ps.length
 ex:∃qual st N,FunD K x qual st fa fd/\FnScope N ps (j4 st)/\d.n=N.length/\C8 ⟨N,(j4 st).names,fn,bl,cl,true,true⟩ d.body (t6 st)=true
theorem Cs{K:EQ}(hT:T.length=fn.length)(hs:∀(i:Nat) d x,T[i]? = some d->fn[i]? = some x->∃fa fd ps,Stands K mg fn bl cl d x fa fd ps)(c6:∀x∈bl,mg x=none)(c2:XFacts K mg G cl)
  (a7:∀x d,G.con.lookup x=some d->∃u v,mg x=some u/\RelV v u/\∀H,Rep ⟨K,mg⟩ H d v) (c5:∀x a2,G.dcs.lookup x=some a2->Z1 K w mg x a2) (a6:DfOk G T) (a3:0<=G.rdc->T.length<=Y1/\RdH P w K mg base G) (a5:G.fnl=fn/\G.bll=bl/\G.cll=cl) (c7:T.length<=Y1)
  (c1:∀(i:Nat) d x fa fd ps,T[i]? = some d->fn[i]? = some x->Stands K mg fn bl cl d x fa fd ps->FnOk P w K mg base (CXx P w base) k fa fd ps (spF ⟨K,mg⟩ ps.length (run G T fu k i))) (c0:cg P w K mg base fn bl cl k (run G T fu k D4)):cg P w K mg base fn bl cl (k+1) (run G T fu (k+1) D4):=by
 intro A W s H us vs Q E O f m M t d hr e0 r hO m1 m2 m3 rp rl hF hq;have a8:(match T[D4]? with | none=>if D4=D4 then lamR (evE G (run G T fu k)) (.lam m M::t)else xR G (k+1) D4 (.lam m M::t) | some fd=>if(DV.lam m M::t).length=fd.np then Ou.of (evSs G (run G T fu k) fu fd.body (y0 fd.n (.lam m M::t)))else none)=some (.v d false):=hF;rw[(P5 (o6 c7 (by decide)))]at a8;have p:=a8;rw[i3 rfl]at p;unfold lamR at p;dsimp only at p;split at p
 ·rename_i b3;obtain⟨n1,n2,n3,n4⟩:=b3;split at p
  ·rename_i U c4;split at p
   ·rename_i nl;cases p;obtain⟨f',pr,bd,sc,q,b4,l,Z,e1,lf,B,S,rc,b9,b8,b7⟩:=bT.mp rp;cases e1;have b6:=lf.mono m8;have b5:∀c∈l,∃o v,H c=some (.frz o (.own c))/\s.heap.get? c=some o/\o.data=.cell v:=λ c hc=>by obtain⟨o,v,g1,g2⟩:=b8 c hc;have g:=(x3 g1).2;exact⟨o,v,g,(e0.hok c _ g).1,g2⟩
    unfold bS at B;rw[g9]at B;have a4:=rl.length;have J:(m.N.take m.np).length=m.np:=by rw[T6];omega
    have c3:us.length=(m.N.take m.np).length:=by rw[←r.length,a4,J];exact n1
    have hlw:Z.length=M.length:=rc.length;have X:∀c∈l,∃o,H c=some (.frz o (.own c)):=λ c hc=>by obtain⟨o,_,g,_⟩:=b5 c hc;exact⟨o,g⟩
    have c8:Hdn O (L2.wo l H):=λ a ha=>by obtain⟨o,g1,g2⟩:=hO a ha;refine⟨o,?_,g2⟩;rw[i7 λ z=>by obtain⟨o',g⟩:=X a z;rw[g1]at g;cases g;cases g2];exact g1
    refine zq (ws:=Z) (vs:=vs) S (⟨b5⟩) hr.ok e0 b6 (λ pm c' ctv=>xq B.1 c3) (by rw[a4,J];exact n1) r (by rw[J];exact b9) (λ i x v h1 h2=>?_) λ c'=>?_
    ·rw[J]at h1;obtain⟨c,o,u,g1,g2,g3,g4⟩:=b7 i x v h1 h2;have g:=(x3 g2).2;exact⟨c,u,g1,⟨o,(e0.hok c _ g).1,g3⟩,g4⟩
    ·have F:Room k (A.deeper (PySem.W.envX q sc s.heap.objs.size f (.ref c') b4)):=hr.deeper _;have g4:Good ⟨m.N,sc.names,fn,bl,cl,false,false⟩ G (run G T fu k) (fb P w K mg base m.N q sc f (.ref c') b4 A W s (L2.wo l H)) E0s:=by
      refine⟨rfl,S.nd,λ y j=>?_,λ y j=>?_,λ y j=>?_,λ y j=>j,λ y j=>j,rfl,F.units,λ L y j=>?_,c6,?_,a7,(λ z=>nomatch z),c2,(λ z=>nomatch z),c5,(λ z=>⟨a5,⟨k,F,c0⟩,λ w=>nomatch w⟩),λ z=>qk (a3 z).2 (a3 z).1 F⟩
      ·unfold visB at j;simp only[v7,i1]at j;rcases j with(j | j) | j
       ·exact .inl j
       ·exact .inr (.inl j)
       ·exact .inr (.inr j)
      ·unfold gloB at j;rw[i1]at j;exact j
      ·unfold locB at j;simp only[v7,i1]at j;rcases j with j | j
       ·exact⟨.inl j,.inr j⟩
       ·exact absurd rfl (S.nocell _ (C9 j))
      ·have hf:L<T.length:=by rw[hT];exact(n7.mp j).1
       obtain⟨U,C⟩:∃U,T[L]? = some U:=⟨_,o4 hf⟩;obtain⟨b2,b1,a1,Y⟩:=hs L U y C j;refine⟨k,b2,b1,a1,F,Y.mg,Y.kp,Y.bi,λ t o q=>?_,c1 L U y b2 b1 a1 C j Y,?_,?_⟩
       rotate_left
       ·intro t q;obtain⟨d2,q1,q2,q3⟩:=a6.1 L t q;rw[C]at q1;cases q1;have:=Y.dk.1 (by rw[q2];exact q3);rw[q2]at this;exact this
       ·intro n q;obtain⟨d2,q1,q2⟩:=a6.2 L n q;rw[C]at q1;cases q1;exact Y.dk.2 n q2
       cases k with
       | zero=>cases q
       | succ k=>
        have q':(match T[L]? with | none=>if L=D4 then lamR (evE G (run G T fu k)) t else xR G (k+1) L t | some fd=>if t.length=fd.np then Ou.of (evSs G (run G T fu k) fu fd.body (y0 fd.n t))else none)=some o:=q;rw[C]at q';have a0:(if t.length=U.np then Ou.of (evSs G (run G T fu k) fu U.body (y0 U.n t))else none)=some o:=q';split at a0
        ·rename_i z;rw[z,Y.np]
        ·cases a0
      ·intro c9 σ H s e s' I z;obtain⟨_,_,_,_,_,_,_,_,_,_,q⟩:=z;exact q.elim
     have pe:=(snd m.body).1 g4 ((by have:=B.2;rw[m1,m2,m3]at this;exact this)) c4;refine⟨_,pe,O,[],?_,λ v H' sm gt=>λ b0=>?_⟩
     ·have R:=RSt.start (D:=⟨K,mg⟩) (N:=m.N) (ds:=t++M) (vs:=vs++Z) (n:=m.N.length) rfl ((cm X n3 rl).append (cm X n4 rc)) c8;have e1:y0 m.N.length (t++M)=(t++M).map Sv.val:=(by unfold y0;rw[B7,show m.N.length - (t.length+M.length)=0 by omega];exact v3 _);have e2:L2.start m.N (vs++Z)=(vs++Z).map some:=(by unfold L2.start;rw[B7,show m.N.length - (vs.length+Z.length)=0 by omega];exact v3 _);rw[e1,e2]at R;exact R
     ·have a9:Rep ⟨K,mg⟩ (L2.wo (O++[]) H') d v:=gt;rw[v3]at a9;refine hq v _ (λ b o e=>?_) (a9.mono λ b o e=>?_)
      ·by_cases hb:b∈l
       ·rw[jl hb];exact e
       ·rw[V7 hb];exact sm _ _ (by rw[i7 hb];exact e)
      ·obtain⟨hb,e⟩:=x3 e;rw[i7 hb,V7 λ z=>by rw[b0 b z]at e;cases e];exact e
   ·cases p
  ·cases p
 ·cases p
theorem qm{P:EL}{w:EK}{K:EQ}{mg:Str->EC ED}{base:EH}{G:Gs}{T:ge FD}{fu:Nat}{fn bl cl:ge Str}(hT:T.length=fn.length)(hs:∀(i:Nat) d x,T[i]? = some d->fn[i]? = some x->∃fa fd ps,Stands K mg fn bl cl d x fa fd ps)(hbl:∀x∈bl,mg x=none)(hxf:XFacts K mg G cl)
  (hcon:∀x d,G.con.lookup x=some d->∃u v,mg x=some u/\RelV v u/\∀H,Rep ⟨K,mg⟩ H d v) (hdc:∀x kvs,G.dcs.lookup x=some kvs->Z1 K w mg x kvs) (hdf:DfOk G T) (hrd:0<=G.rdc->T.length<=Y1/\RdH P w K mg base G)
  (hlm:G.fnl.isEmpty=false->(G.fnl=fn/\G.bll=bl/\G.cll=cl)/\T.length<=Y1/\∀(i:Nat) (d:FD) (x qual:Str) (st:EN) (fa:EG) (fd:EO),T[i]? = some d->fn[i]? = some x->FunD K x qual st fa fd->∃c P,fd.code=.ref c/\(∀h:EH,K.In h->PySem.W.CodeHd h c P)/\(P,(qual ++ ".<locals>.") ++ "<lambda>")∈u0 K) :
  ∀k,(∀(i:Nat) d x fa fd ps,T[i]? = some d->fn[i]? = some x->Stands K mg fn bl cl d x fa fd ps->FnOk P w K mg base (CXx P w base) k fa fd ps (spF ⟨K,mg⟩ ps.length (run G T fu k i)))/\(G.fnl.isEmpty=false->cg P w K mg base fn bl cl k (run G T fu k D4))
 | 0=>by
  refine⟨λ i d x fa fd ps h1 h2 S=>?_,λ _ A outer s H us vs Q E O f m cs ds d _ _ _ _ _ _ _ _ _ hF _=>by cases hF⟩;refine⟨λ vs H Q E h=>?_,λ A outer s H args us vs Q E hr he hb hv h=>?_⟩
  ·obtain⟨_,_,_,_,_,_,q,_⟩:=h;cases q
  ·obtain⟨_,_,_,_,_,_,q,_⟩:=h;cases q
 | k+1=>by
  have ih:=qm (fu:=fu) hT hs hbl hxf hcon hdc hdf hrd hlm k;refine⟨λ i d x fa fd ps h1 h2 S=>?_,λ z=>Cs hT hs hbl hxf hcon hdc hdf hrd (hlm z).1 (hlm z).2.1 ih.1 (ih.2 z)⟩;obtain⟨qual,st,N,F,FS,hn,hc⟩:=S.ex;refine F.okX FS (λ vs H Q E h=>?_) (λ cdv hcd A outer s H vs Q E hr h=>?_)
  ·obtain⟨O,ds,o,_,e1,e2,_⟩:=h;rw[e2.length,e1]
  ·obtain⟨O,ds,o,ho,e1,e2,e3,e4⟩:=h;have e3':(match T[i]? with | none=>if i=D4 then lamR (evE G (run G T fu k)) ds else xR G (k+1) i ds | some fd=>if ds.length=fd.np then Ou.of (evSs G (run G T fu k) fu fd.body (y0 fd.n ds))else none)=some o:=e3;rw[h1]at e3';have e3'':(if ds.length=d.np then Ou.of (evSs G (run G T fu k) fu d.body (y0 d.n ds))else none)=some o:=e3';rw[i3 (e1.trans S.np.symm)]at e3'';have g:Good ⟨N,(j4 st).names,fn,bl,cl,true,true⟩ G (run G T fu k) (cxD P w K mg base N qual (j4 st) fa cdv A outer s H E) (λ _=>E):=by
    refine⟨rfl,FS.nd,λ y hy=>?_,λ y hy=>?_,λ y hy=>⟨?_,.inl rfl⟩,λ y hy=>hy,λ y hy=>hy,rfl,hr.units,λ f y hy=>?_,hbl,mq.s,hcon,λ _=>PassesOwn.leaving,hxf,λ _=>⟨rfl,rfl,rfl,mt,mx⟩,hdc,λ z=>⟨(hlm z).1,⟨k,hr,ih.2 z⟩,λ _=>by
      obtain⟨c,P,q1,q2,q3⟩:=(hlm z).2.2 i d x qual st fa fd h1 h2 F;exact⟨c,P,hcd.symm.trans q1,q2,q3⟩⟩,λ z=>qk (hrd z).2 (hrd z).1 hr⟩
    ·unfold visB at hy;simp only[v7,i1]at hy;rcases hy with(hy | hy) | hy
     ·exact .inl hy
     ·exact .inr (.inl hy)
     ·exact .inr (.inr hy)
    ·unfold gloB at hy;rw[i1]at hy;exact hy
    ·unfold locB at hy;simp only[v7,i1]at hy;exact hy
    ·have hf:f<T.length:=by rw[hT];exact(n7.mp hy).1
     obtain⟨d',hd'⟩:∃d',T[f]? = some d':=⟨_,o4 hf⟩;obtain⟨fa',fd',ps',S'⟩:=hs f d' y hd' hy;refine⟨k,fa',fd',ps',hr,S'.mg,S'.kp,S'.bi,λ ds o q=>?_,ih.1 f d' y fa' fd' ps' hd' hy S',?_,?_⟩
     rotate_left
     ·intro ds q;obtain⟨d2,q1,q2,q3⟩:=hdf.1 f ds q;rw[hd']at q1;cases q1;have:=S'.dk.1 (by rw[q2];exact q3);rw[q2]at this;exact this
     ·intro n q;obtain⟨d2,q1,q2⟩:=hdf.2 f n q;rw[hd']at q1;cases q1;exact S'.dk.2 n q2
     cases k with
     | zero=>cases q
     | succ k=>
      have q':(match T[f]? with | none=>if f=D4 then lamR (evE G (run G T fu k)) ds else xR G (k+1) f ds | some fd=>if ds.length=fd.np then Ou.of (evSs G (run G T fu k) fu fd.body (y0 fd.n ds))else none)=some o:=q;rw[hd']at q';have q'':(if ds.length=d'.np then Ou.of (evSs G (run G T fu k) fu d'.body (y0 d'.n ds))else none)=some o:=q';split at q''
      ·rename_i z;rw[z,S'.np]
      ·cases q''
   cases ho':evSs G (run G T fu k) fu d.body (y0 d.n ds)with
   | none=>rw[ho']at e3'';cases e3''
   | some oo=>
    rw[ho']at e3'';refine⟨_,u6 d.body g hc ho',H,O,[],RSt.start hn e2 ho,(λ a ha=>(nomatch ha)),ho.ne,Same.refl H,?_⟩;cases oo with
    | nx δ=>cases e3'';exact λ σ' H' W R fr sm=>e4 .non H' sm (show Rep ⟨K,mg⟩ (L2.wo O H') .non .non by unfold Rep;rfl)
    | rt d fr=>cases e3'';exact λ v H' sm gt=>e4 v H' sm gt
    | rtt d=>cases e3'';exact λ v H' sm gt=>e4 v H' sm gt
    | rtm d s=>cases e3''
    | ex c δ=>cases e3'';exact λ σ' H' W C hm R fr sm=>e4 H' C hm sm
noncomputable def okD(fn bl cl:ge Str)(d:FD)(N ps:ge Str)(st:EN):Bool:=
 (j4 st).kind == .function && !(j4 st).isCoroutine && !(j4 st).isGenerator&&R0 N&&(N.take ps.length==ps) &&
 ps.all (λ x=>(j4 st).names.lookup x==some .local||(j4 st).names.lookup x==some .cell)&&(j4 st).names.all (λ y=>!(y.2 == .free)) &&
 d.n==N.length&&d.np==ps.length&&C8 ⟨N,(j4 st).names,fn,bl,cl,true,true⟩ d.body (t6 st)
section
variable {P:EL} {w:EK} {K:EQ} {mg:Str->EC ED} {base h:EH} {G:Gs} {T:ge FD} {fu:Nat} {fn bl cl:ge Str}
theorem qp{st:EN}{kV g:ED}(X:K.In h)(I:h.Ns mainGlobals mg)(ok:okD fn bl cl d N ps st=true)
  (a:PySem.W.nsIn K mainGlobals x=some (some (.ref f))) (l:K.lookup f=some ⟨r,q,.func (PySem.W.fnOf x x (z0 st) (t6 st) (j4 st) dV kV e pm i b g),j⟩)
  (c:PySem.W.codeIn K b x=true) (k:PySem.W.keepIn K (.ref f)=true)
  (u:u7 K (PySem.W.fnOf x x (z0 st) (t6 st) (j4 st) dV kV e pm i b g) ps [])
  (dk:(d.dfl≠[]->∃p m,u7 K (PySem.W.fnOf x x (z0 st) (t6 st) (j4 st) dV kV e pm i b g) ps p/\Vals m p/\∀H,RepL ⟨K,mg⟩ H d.dfl m)/\∀n,d.kn=some n->KBinds K (PySem.W.fnOf x x (z0 st) (t6 st) (j4 st) dV kV e pm i b g) ps n (aL n.length ps.length) (aL n.length ps.length)) :
  Stands K mg fn bl cl d x f (PySem.W.fnOf x x (z0 st) (t6 st) (j4 st) dV kV e pm i b g) ps:=by
 unfold okD at ok;simp only[g9,i1,m9,y9,v7,o9]at ok;obtain⟨⟨⟨⟨⟨⟨⟨⟨⟨F,E⟩,C⟩,B⟩,A⟩,z⟩,y⟩,w⟩,v⟩,o⟩:=ok;exact⟨dk,PySem.W.mg_of X I a,k,u,v,x,st,N,⟨r,q,dV,kV,e,pm,i,b,g,j,rfl,l,c⟩,⟨F,E,C,V9 B,A,z,y⟩,w,o⟩
theorem cw{st:EN}{kV g:ED}(X:K.In h)(v:h.Ns mainGlobals mg)(ok:okD fn bl cl d N ps st=true)
  (a:PySem.W.nsIn K mainGlobals x=some (some (.ref f))) (l:K.lookup f=some ⟨p,o,.func (PySem.W.fnOf x x (z0 st) (t6 st) (j4 st) .none kV e pm i b g),m⟩)
  (c:PySem.W.codeIn K b x=true) (k:PySem.W.keepIn K (.ref f)=true)
  (q:∀(kV e pm:ED) (i:EC EG) (b g:ED) (j:ge ED),j.length=ps.length->bindArgs (PySem.W.fnOf x x (z0 st) (t6 st) (j4 st) .none kV e pm i b g) ⟨j,[]⟩=pure (ps.zip j)) (u:d.dfl=[]:=by rfl) (r:d.kn=none:=by rfl) :
  Stands K mg fn bl cl d x f (PySem.W.fnOf x x (z0 st) (t6 st) (j4 st) .none kV e pm i b g) ps:=
 qp X v ok a l c k (.all (q kV e pm i b g)) ⟨λ z=>absurd u z,λ n z=>by rw[r]at z;cases z⟩
noncomputable def okI(N ps:ge Str)(st:EN):Bool:=
 (j4 st).kind == .function && !(j4 st).isCoroutine && !(j4 st).isGenerator&&R0 N&&(N.take ps.length==ps) &&
 ps.all (λ x=>(j4 st).names.lookup x==some .local||(j4 st).names.lookup x==some .cell)&&(j4 st).names.all (λ y=>!(y.2 == .free)) &&
 N.length==2&&ps.length==2&&corI ⟨N,(j4 st).names,[],[],[],true,true⟩ (t6 st)
theorem Cu{C:Nat}{d:FD}{st:EN}{f:EG}{p h:EC EG}{kV e pm b g:ED}(ok:okD [] bl cl d N m st=true)
  (a:PySem.W.findIn K (.ref C) x=some (some (.ref f))) (i:PySem.W.isFn K (.ref f)=true) (k:PySem.W.keepIn K (.ref f)=true) (l:K.lookup f=some ⟨r,p,.func (PySem.W.fnOf x q (z0 st) (t6 st) (j4 st) .none kV e pm h b g),j⟩) (c:PySem.W.codeIn K b q=true)
  (t:∀(kV e pm:ED) (h:EC EG) (b g:ED) (n:ge ED),n.length=m.length->bindArgs (PySem.W.fnOf x q (z0 st) (t6 st) (j4 st) .none kV e pm h b g) ⟨n,[]⟩=pure (m.zip n)) :
  MStands K bl cl C d x f (PySem.W.fnOf x q (z0 st) (t6 st) (j4 st) .none kV e pm h b g) m:=by
 unfold okD at ok;simp only[g9,i1,m9,y9,v7,o9]at ok;obtain⟨⟨⟨⟨⟨⟨⟨⟨⟨F,E⟩,B⟩,A⟩,z⟩,y⟩,w⟩,v⟩,u⟩,o⟩:=ok;exact⟨⟨a,i,k⟩,.all (t kV e pm h b g),u,q,st,N,⟨r,p,.none,kV,e,pm,h,b,g,j,rfl,l,c⟩,⟨F,E,B,V9 A,z,y,w⟩,v,o⟩
theorem Cw{C:Nat}{q:Str}{N h:ge Str}{st:EN}{f:EG}{kV b pm a d:ED}(ok:okI N h st=true)(m:Mk K C f)
  (l:K.lookup f=some ⟨n,k,.func (PySem.W.fnOf "__init__" q (z0 st) (t6 st) (j4 st) .none kV b pm e a d),g⟩) (c:PySem.W.codeIn K a q=true)
  (o:∀(kV b pm:ED) (e:EC EG) (a d:ED) (i:ge ED),i.length=h.length->bindArgs (PySem.W.fnOf "__init__" q (z0 st) (t6 st) (j4 st) .none kV b pm e a d) ⟨i,[]⟩=pure (h.zip i)) :
  IStands K C f (PySem.W.fnOf "__init__" q (z0 st) (t6 st) (j4 st) .none kV b pm e a d) h:=by
 unfold okI at ok;simp only[g9,i1,m9,y9,v7,o9]at ok;obtain⟨⟨⟨⟨⟨⟨⟨⟨⟨z,y⟩,x⟩,w⟩,v⟩,u⟩,t⟩,r⟩,p⟩,j⟩:=ok;exact⟨m,.all (o kV b pm e a d),p,q,st,N,⟨n,k,.none,kV,b,pm,e,a,d,g,rfl,l,c⟩,⟨z,y,x,V9 w,v,u,t⟩,r,j⟩
def HM(K:EQ)(bl cl:ge Str)(C:Nat)(T:ge FD)(fs:ge Str):Prop:=∀(i:Nat) x,fs[i]? = some x->∃d fa fd ps,T[i]? = some d/\MStands K bl cl C d x fa fd ps
theorem Cy:HM K bl cl C [] []:=λ i x h=>by cases h
theorem Z5(h:MStands K bl cl C d x e fd c)(t:HM K bl cl C T fs):HM K bl cl C (d::T) (x::fs):=λ i b a=>by
 cases i with
 | zero=>cases a;exact⟨_,_,_,_,rfl,h⟩
 | succ i=>exact t i b a
def HS(K:EQ)(mg:Str->EC ED)(fn bl cl:ge Str)(T:ge FD)(fs:ge Str):Prop:=∀(i:Nat) d x,T[i]? = some d->fs[i]? = some x->∃fa fd ps,Stands K mg fn bl cl d x fa fd ps
theorem Cz:HS K mg fn bl cl [] fs:=λ i d x h=>by cases h
theorem i2(h:Stands K mg fn bl cl d x e fd ps)(t:HS K mg fn bl cl T fs):HS K mg fn bl cl (d::T) (x::fs):=λ i f c b a=>by
 cases i with
 | zero=>cases b;cases a;exact⟨_,_,_,h⟩
 | succ i=>exact t i f c b a
theorem CA:L2.wo [] H=H:=by
 funext b
 unfold L2.wo;simp
def HC(K:EQ)(mg:Str->EC ED)(c:ge (Str×DV)):Prop:=∀x d,c.lookup x=some d->∃u v,mg x=some u/\RelV v u/\∀H,Rep ⟨K,mg⟩ H d v
theorem CB:HC K mg []:=λ x d h=>by cases h
theorem M7(h:∃u v,mg y=some u/\RelV v u/\∀H,Rep ⟨K,mg⟩ H d v)(t:HC K mg c):HC K mg ((y,d)::c):=λ x a q=>by
 rw[B8]at q;split at q
 ·rename_i e;cases q
  rwa [dw e]
 ·exact t x a q
def OneL(K:EQ)(mg:Str->EC ED)(G:Gs)(cl:ge Str)(l:ge (Str×ge Str)):Prop:=∀c,(l.lookup c).isSome=true->∃C,XOne K mg G cl c C
theorem CC:OneL K mg G cl []:=λ c h=>by cases h
theorem CD(h:∃C,XOne K mg G cl c C)(t:OneL K mg G cl l):OneL K mg G cl ((c,b)::l):=λ a q=>by
 rw[B8]at q;split at q
 ·rename_i e
  rwa [dw e]
 ·exact t a q
def AllL(mg:Str->EC ED)(l:ge Str):Prop:=∀t∈l,∃Ct,mg t=some (.ref Ct)
theorem CF:AllL mg []:=λ t h=>by cases h
theorem all_cons(h:∃b,mg t=some (.ref b))(r:AllL mg l):AllL mg (t::l):=λ a q=>by
 rcases i6.mp q with e | e
 ·rwa [e]
 ·exact r a e
def OwnL(K:EQ)(mg:Str->EC ED)(G:Gs)(c:Str)(C:EG)(l:ge Str):Prop:=∀t∈l,∀Ct,mg t=some (.ref Ct)->PySem.W.kitOne K (.ref C) (.ref Ct)=some (D2 G c t)/\PySem.W.exmOne K (.ref C) (.ref Ct)=some (D2 G c t)
theorem CG:OwnL K mg G c C []:=λ t h=>by cases h
theorem CH(m:mg t=some (.ref Ct))(h:PySem.W.kitOne K (.ref C) (.ref Ct)=some (D2 G c t)/\PySem.W.exmOne K (.ref C) (.ref Ct)=some (D2 G c t))(r:OwnL K mg G c C l):OwnL K mg G c C (t::l):=λ d q a b=>by
 rcases i6.mp q with e | e
 ·subst e;cases m.symm.trans b;exact h
 ·exact r d e a b
noncomputable def spS(K:EQ):Sp:=λ vs H Q _=>∃(a:EG) (ns:ge Int),vs=[.ref a]/\ns.length<=63/\SqS K H a (ns.map V.int)/\∀H',Q (.bl true) H'
def DCL(K:EQ)(w:EK)(mg:Str->EC ED)(l:ge (Str×ge (Str×EC DV))):Prop:=∀x kvs,l.lookup x=some kvs->Z1 K w mg x kvs
theorem CI:DCL K w mg []:=λ x a h=>by cases h
theorem CJ(h:Z1 K w mg y b)(t:DCL K w mg l):DCL K w mg ((y,b)::l):=λ x a q=>by
 rw[B8]at q;split at q
 ·rename_i e;cases q
  rwa [i1.mp e]
 ·exact t x a q
def KVL(K:EQ)(a:EG)(l:ge (Str×EC DV)):Prop:=∀k r,l.lookup k=some r->∃u,PySem.W.nsIn K a k=some u/\KvIs K r u
theorem CK:KVL K a []:=λ k v h=>by cases h
theorem qr(d:PySem.W.nsIn K a k=some u)(f:KvIs K r u)(t:KVL K a l):KVL K a ((k,r)::l):=λ c b q=>by
 rw[B8]at q;split at q
 ·rename_i e;cases q;rw[i1.mp e];exact⟨_,d,f⟩
 ·exact t c b q
theorem qt:∀{a:ge Str},(∀s∈a,s.length<=sizeLine)->RepL D H (a.map DV.str) (a.map V.str)
 | [],_=>A3.mpr rfl
 | s::a,h=>t7.mpr ⟨_,_,rfl,x0.mpr ⟨rfl,h s (o8 ..)⟩,qt λ t b=>h t (j6 _ b)⟩
theorem CL{a b:EG}{k:Str}{o:Obj}{its:EJ ED}{n:Nat}{ss:ge Str}{l:ge (Str×EC DV)}(hz:its.size<=sizeLine)(hs:∀s∈ss,s.length<=sizeLine)(hv:Vals (ss.map V.str) its.toList)(hb:K.lookup b=some ⟨.type "tuple",none,.seq its n,#[]⟩)(h2:PySem.W.nsIn K a k=some (some (.ref b)))(r:KVL K a l):KVL K a ((k,some (.tup (ss.map DV.str)))::l):=
 qr h2 ⟨_,.ref b,rfl,rfl,λ D H=>y7.mpr ⟨b,_,rfl,.inr ⟨_,its,n,hb,⟨rfl,rfl⟩,rfl,hz,hv⟩,qt hs⟩⟩ r
theorem cA(b:PySem.W.nsIn K a k=some none)(r:KVL K a l):KVL K a ((k,none)::l):=qr b rfl r
theorem CM(hT:T.length=fn.length)(W:HS K mg fn bl cl T fn)(J:∀x∈bl,mg x=none)(y:XFacts K mg G cl)
  (m:∀x d,G.con.lookup x=some d->∃u v,mg x=some u/\RelV v u/\∀H,Rep ⟨K,mg⟩ H d v) (I:∀x l,G.dcs.lookup x=some l->Z1 K w mg x l) (F:DfOk G T) (B:0<=G.rdc->T.length<=Y1/\RdH P w K mg base G) (h1:T[i]? = some d) (h2:fn[i]? = some x) (S:Stands K mg fn bl cl d x n fd [p])
  (C:G.fnl.isEmpty=false->(G.fnl=fn/\G.bll=bl/\G.cll=cl)/\T.length<=Y1/\∀(i:Nat) (d:FD) (x f:Str) (st:EN) (n:EG) (fd:EO),T[i]? = some d->fn[i]? = some x->FunD K x f st n fd->∃c P,fd.code=.ref c/\(∀h:EH,K.In h->PySem.W.CodeHd h c P)/\(P,(f ++ ".<locals>.") ++ "<lambda>")∈u0 K)
  (t:∀j:ge Int,j.length<=63->run G T fu k i [.scr j]=some (.v (.bl true) false)):FnOk P w K mg base CX0 k n fd [p] (spS K):=by
 refine⟨λ N H Q E h=>?_,λ A b s H o O N Q E X he hb U h=>?_⟩
 ·obtain⟨a,j,rfl,_⟩:=h;rfl
 ·obtain⟨a,j,rfl,Z,hS,Y⟩:=h;refine J4 (((qm hT W J y m I F B C k).1 i d x n fd [p] h1 h2 S).run A b s H o O _ Q E0 X he hb U ⟨[],[.scr j],_,(λ a ha=>(nomatch ha)),rfl,?_,t j Z,λ v M _ g=>?_⟩) λ r R q=>?_
  ·refine RepL.one (O7.mpr ⟨a,rfl,?_⟩);rw[CA];exact hS
  ·have L:Rep ⟨K,mg⟩ (L2.wo [] M) _ v:=g;rw[R6]at L;subst L;exact Y M
  ·cases r with
   | error e=>
    obtain⟨_,_,_,_,_,_,_,_,_,_,z⟩:=(q:CXx P w base b H s E0 e R);exact z.elim
   | ok fl=>cases fl<;>first | exact False.elim q | exact q
end
theorem walkE{l:PySem.W.OpenLaw}{XP:(Str->EC ED)->EH->Prop}{K:EV->EQ}(r:l.most=some 63)(g:d.params.defaults=[])(o:Room k callerA)
  (x:∀(w:EK) (h:EH),YP w h->(K w.params).In h) (e:∀(w:EK) (h:EH),YP w h->(∀p∈u0 (K w.params),(K w.params).lookup p.1=none/\h.get? p.1=some {cls:=.none,data:=.fields #[]} /\ isCodeTable h p.1)/\((u0 (K w.params)).map (·.1)).Nodup)
  (F:∀(w:EK) (c:Str->EC ED) (j:EG) (h:EH),(K w.params).In h->h.Ns mainGlobals c->c d.name=some (.ref j) ->
   ∃i:EO,(∀(s:EF) (u:ED),BindsTo s i ⟨[u],[]⟩ [(p,u)])/\∀b:EH,(K w.params).In b->b.Ns mainGlobals c->FnOk l.prog w (K w.params) c b CX0 k j i [p] (spS (K w.params))) :
  PySem.W.WalkO q loose XP YP l.row.toRowW d [] (λ f m=>PySem.call f m):=
 L2.walk_of r (by decide) g o x e F (λ _ _ a n v A y=>⟨a,n,rfl,v,SqS.of A y,λ _=>rfl⟩) λ _ _ _ _ _ z=>z
noncomputable def qu(K:EQ)(o:Obj)(c:EG):EC EG:=match o.cls,o.data with
 | .type "code",.fields vs=>(match(vs[11]?:EC ED),(vs[18]?:EC ED),(vs[7]?:EC ED),(vs[9]?:EC ED),(vs[10]?:EC ED)with
  | some (.ref P),some (.str _ _),some (.int _ _),some (.bool _),some (.int _ _)=>if(c==P)=false/\(K.lookup P).isNone=true then some P else none
  | _,_,_,_,_=>none)
 | _,_=>none
def CN(K:EQ):Bool:=K.all λ p=>match p.2.data with
 | .func fd=>(match fd.code with
  | .ref c=>(match K.lookup c with | some o=>(qu K o c).isSome | none=>true)
  | _=>true)
 | _=>true
theorem cB{vs:EJ ED}(h:vs[i]? = some v):vs.getD i .none=v:=by
 rw[Z6,h];rfl
theorem CO{K:EQ}{st:EN}(S:CN K=true)(F:FunD K x f st Y fd):∃c P,fd.code=.ref c/\(∀h:EH,K.In h->PySem.W.CodeHd h c P)/\(P,(f ++ ".<locals>.") ++ "<lambda>")∈u0 K:=by
 obtain⟨oc,od,dV,kV,Z,pm,an,w,ct,H,e,I,g⟩:=F.ex;have j:fd.code=w:=by rw[e]
 have q:=y9.mp S _ (bq I);dsimp at q;unfold PySem.W.codeIn at g;split at g
 ·rename_i c;rw[j]at q;dsimp at q;split at g
  ·rename_i cls dct y sl p;rw[p]at q;obtain⟨P,i⟩:=F4.mp q;unfold qu at i;split at i
   ·rename_i B A U;have u:=(by have:=U;injection this);subst u;split at i
    ·rename_i P' k E W m b C l o O N M L;split at i
     ·rename_i d;cases i;split at g
      ·rename_i a n t r Q;have R:=i1.mp g;subst R;have J:y[1]? = some (.str n t):=by rw[←E7,Q];rfl
       refine⟨c,P,j,λ h X=>⟨_,y,k,E,W,m,b,C,l,X _ _ p,A,rfl,o,cB o,cB O,cB N,cB M,cB L,λ z=>?_⟩,?_⟩
       ·rw[z]at d;have:=d.1;simp at this
       ·unfold u0;refine N1.mpr ⟨_,bq p,?_⟩;have v:=A;subst v;simp[o,J,d.2,if_true]
      ·cases g
     ·cases i
    ·cases i
   ·cases i
  ·cases g
 ·cases g
theorem CP{K:EQ}(h:p∈u0 K):∃(c:EG) (a:Obj) (vs:EJ ED),(c,a)∈K/\a.cls=.type "code" /\ a.data=.fields vs/\vs[11]? = some (.ref p.1)/\K.lookup p.1=none:=by
 unfold u0 at h;obtain⟨⟨c,a⟩,d,e⟩:=N1.mp h;dsimp only at e;split at e
 ·rename_i vs g f;split at e
  ·rename_i P q t b k2;split at e
   ·rename_i z;cases e;exact⟨c,a,vs,d,g,f,b,jV.mp z⟩
   ·cases e
  ·cases e
 ·cases e
theorem CQ{K:EQ}(f:(K.map (·.1)).Nodup)(h:(c,o)∈K):K.lookup c=some o:=by
 induction K with
 | nil=>cases h
 | cons y l g=>
  rw[J2]at f;have d:=U0.mp f;obtain⟨a,b⟩:=y;rw[B8];rcases i6.mp h with z | z
  ·cases z;rw[fT]
  ·have:c≠a:=λ e=>d.1 (by rw[←e];exact G6.mpr ⟨_,z,rfl⟩);rw[o9.mpr this];exact g d.2 z
theorem htb_of{K T:EQ}(i:K.In h)(f:T.In h)(e:(K.map (·.1)).Nodup)(j:(u0 K).map (λ p=>T.lookup p.1)=(u0 K).map λ _=>some {cls:=.none,data:=.fields #[]}) :
  ∀p∈u0 K,K.lookup p.1=none/\h.get? p.1=some {cls:=.none,data:=.fields #[]} /\ isCodeTable h p.1:=λ p a=>by
 obtain⟨c,d,b,g,n,m,l,k⟩:=CP a;exact⟨k,f _ _ (fQ.mp j p a),c,d,b,i _ _ (CQ e g),n,m,l⟩
theorem in_app{K:EQ}(X:PySem.W.Frag.In (T++K) h)(f:(K.map (·.1)).all (λ a=>(T.lookup a).isNone)=true):K.In h/\T.In h:=by
 have c:∀(T K:EQ) a,(T++K).lookup a=(T.lookup a).or (K.lookup a):=λ T K a=>by
  induction T with
  | nil=>simp
  | cons y l d=>
   obtain⟨b,v⟩:=y;rw[T7,B8,B8];cases hb:a==b with
   | true=>rfl
   | false=>
    exact d
 refine⟨λ a o e=>X a o ?_,λ a o e=>X a o ?_⟩
 ·rw[c,jV.mp (y9.mp f a (G6.mpr ⟨_,bq e,rfl⟩)),e];rfl
 ·rw[c,e];rfl
end L2
end
noncomputable section
namespace k86
open PySem L2
noncomputable def t9:FD:={n:=3,np:=3,dfl:=[],body:=[.ret (.and [.isi (.var 0) ["int"],.not (.isi (.var 0) ["bool"]),.chain .LtE .LtE (.var 1) (.var 0) (.var 2)])]}
def CS:FD:={n:=1,np:=1,dfl:=[],body:=[.iff (.or [.not (.call 2 [.var 0]),.not (.bi .all [.comp (.call 3 [.var 0]) (.one 0) (.var 0) [none]])]) [.rse "NoTable" (.str "a table is 1 to 8 rows of 1 to 8 words, ints from 0 to 9")] [],.iff (.bi .any [.comp (.cmp .NotEq (.bi .len [.var 0]) (.bi .len [.ix (.var 1) (.int 0)])) (.one 0) (.var 0) [none,some 0]]) [.rse "NoTable" (.str "the rows of a table are of one length")] [],.ret (.bi .tuple [.comp (.bi .tuple [.var 0]) (.one 0) (.var 0) [none]])]}
noncomputable def CT:FD:={n:=1,np:=1,dfl:=[],body:=[.ret (.and [.isi (.var 0) ["list","tuple"],.chain .LtE .LtE (.int 1) (.bi .len [.var 0]) (.glb "MOST_LINES")])]}
noncomputable def CU:FD:={n:=1,np:=1,dfl:=[],body:=[.ret (.and [.call 2 [.var 0],.bi .all [.comp (.call 0 [.var 0,.int 0,.glb "GREATEST_WORD"]) (.one 0) (.var 0) [none]]])]}
noncomputable def CV:FD:={n:=1,np:=1,dfl:=[],body:=[.ret (.bi .tuple [.comp (.bi .tuple [.comp (.ix (.var 0) (.var 1)) (.one 0) (.var 1) [none,some 0]]) (.one 0) (.rng [.bi .len [.ix (.var 0) (.int 0)]]) [none,some 0]])]}
def CW:FD:={n:=2,np:=2,dfl:=[],body:=[.iff (.not (.call 0 [.var 0,.int 0,.bin .Sub (.var 1) (.int 1)])) [.rse "NoCard" (.str "a card is an int from 0 on, less than the number of its side's cards")] []]}
def CY:FD:={n:=1,np:=1,dfl:=[],body:=[.ret (.compi (.var 0) (.one 0) (.rng [.meth .bitLength (.var 0) []]) (.bin .BitAnd (.bin .RShift (.var 1) (.var 0)) (.int 1)) [none,some 0])]}
noncomputable def CZ:FD:={n:=3,np:=3,dfl:=[],body:=[.ret (.bi .tuple [.comp (.bi .tuple [.comp (.ix (.ix (.var 1) (.var 2)) (.var 0)) (.one 0) (.var 1) [none,some 2,some 0]]) (.one 0) (.var 1) [none,some 2,some 0]])]}
noncomputable def Da:FD:={n:=1,np:=1,dfl:=[],body:=[.ret (.comp (.idx (.var 1) (.var 0)) (.one 0) (.var 0) [none,some 0])]}
noncomputable def Db:FD:={n:=1,np:=1,dfl:=[],body:=[.ret (.call 10 [.call 4 [.var 0]])]}
noncomputable def Dc:FD:={n:=1,np:=1,dfl:=[],body:=[.ret (.call 9 [.var 0,.bi .sset [.call 10 [.var 0]],.bi .sset [.call 11 [.var 0]]])]}
noncomputable def Dd:FD:={n:=2,np:=1,dfl:=[],body:=[.set 1 false (.call 12 [.var 0]),.ret (.and [.cmp .LtE (.bi .len [.var 1]) (.glb "SMALL_LINES"),.cmp .LtE (.bi .len [.ix (.var 1) (.int 0)]) (.glb "SMALL_LINES")])]}
def De:FD:={n:=1,np:=1,dfl:=[],body:=[.iff (.not (.call 13 [.var 0])) [.rse "TooGreat" (.str "the table has more than five kinds of rows or of columns")] []]}
noncomputable def Df:FD:={n:=5,np:=2,dfl:=[],body:=[.exp (.call 14 [.var 0]),.unk,.unk,.unk,.unk]}
noncomputable def Dg:FD:={n:=6,np:=2,dfl:=[],body:=[.exp (.call 14 [.var 0]),.unk,.unk,.unk,.unk,.unk,.unk]}
noncomputable def Dh:FD:={n:=1,np:=1,dfl:=[],body:=[.ret (.call 34 [.call 35 [.var 0]])]}
noncomputable def Di:FD:={n:=1,np:=1,dfl:=[],body:=[.ret (.call 34 [.call 36 [.var 0]])]}
noncomputable def Dj:FD:={n:=1,np:=1,dfl:=[],body:=[.unk]}
noncomputable def Dk:FD:={n:=1,np:=1,dfl:=[],body:=[.ret (.call 39 [.var 0,.int 0,.glb "joined_bits"])]}
noncomputable def Dl:FD:={n:=1,np:=1,dfl:=[],body:=[.ret (.call 39 [.var 0,.int 1,.glb "joined_ends"])]}
noncomputable def qv:FD:={n:=2,np:=2,dfl:=[],body:=[.unk]}
noncomputable def qw:FD:={n:=2,np:=2,dfl:=[],body:=[.unk]}
noncomputable def Do:FD:={n:=8,np:=3,dfl:=[],body:=[.exp (.call 14 [.var 0]),.unk,.unk,.unk,.unk]}
noncomputable def Dp:FD:={n:=1,np:=1,dfl:=[],body:=[.ret (.ix (.ix (.call 32 [.var 0]) (.neg (.int 1))) (.int 2))]}
noncomputable def Dq:FD:={n:=1,np:=1,dfl:=[],body:=[.ret (.ix (.ix (.call 33 [.var 0]) (.neg (.int 1))) (.int 2))]}
noncomputable def Dr:FD:={n:=1,np:=1,dfl:=[],body:=[.ret (.call 45 [.var 0,.call 35 [.var 0],.glb "joined_bits"])]}
noncomputable def Ds:FD:={n:=3,np:=3,dfl:=[],body:=[.unk,.unk,.unk,.unk]}
noncomputable def Dt:FD:={n:=1,np:=1,dfl:=[],body:=[.ret (.bi .len [.call 49 [.var 0]])]}
def Du:FD:={n:=6,np:=1,dfl:=[],body:=[.set 1 true (.lst []),.set 2 true (.lst []),.fo (.many [3,4]) (.enu (.var 0)) [.set 5 false (.call 50 [.var 4,.var 2]),.iff (.bi .any [.comp (.cmp .NotEq (.var 0) (.int 0)) (.one 0) (.var 5) [none]]) [.app 1 (.var 3),.app 2 (.var 5)] []],.ret (.var 1)]}
def Dv:FD:={n:=6,np:=2,dfl:=[],body:=[.set 2 true (.bi .list [.var 0]),.fo (.one 3) (.var 1) [.set 4 false (.call 51 [.var 3]),.set 5 false (.ix (.var 2) (.var 4)),.set 2 true (.comp (.bin .Sub (.bin .Mult (.var 0) (.ix (.var 2) (.var 3))) (.bin .Mult (.var 4) (.var 1))) (.many [0,1]) (.zp (.var 2) (.var 3)) [none,none,some 3,some 4,some 5])],.ret (.var 2)]}
noncomputable def Dw:FD:={n:=1,np:=1,dfl:=[],body:=[.ret (.ix (.compi (.var 0) (.many [0,1]) (.enu (.var 0)) (.cmp .NotEq (.var 1) (.int 0)) [none,none]) (.int 0))]}
noncomputable def Dx:FD:={n:=3,np:=3,dfl:=[],body:=[.exp (.call 7 [.var 1,.glb "MOST_LINES"]),.exp (.call 7 [.var 2,.glb "MOST_LINES"]),.ret (.call 53 [.var 0,.var 1,.var 2])]}
noncomputable def Dy:FD:={n:=7,np:=3,dfl:=[],body:=[.set 3 true (.lst []),.set 4 false (.var 0),.wh (.cmp .Eq (.ix (.var 4) (.int 0)) (.str "ask")) [.set 5 false (.ite (.cmp .Eq (.ix (.var 4) (.int 1)) (.str "row")) (.var 1) (.var 2)),.set 6 false (.bin .BitAnd (.bin .RShift (.ix (.var 4) (.int 2)) (.var 5)) (.int 1)),.app 3 (.var 6),.set 4 false (.ite (.cmp .Eq (.var 6) (.int 1)) (.ix (.var 4) (.int 4)) (.ix (.var 4) (.int 3)))],.ret0 [.var 3,.ix (.var 4) (.int 1)]]}
noncomputable def Dz:FD:={n:=1,np:=1,dfl:=[],body:=[.exp (.call 61 [.var 0,.int 1,.glb "MOST_LINES"]),.ret (.calll 62 (.var 0) (.var 0) ["r","c"] 2 (.ite (.cmp .Eq (.var 0) (.var 1)) (.int 1) (.int 0)) [])]}
noncomputable def DA:FD:={n:=2,np:=2,dfl:=[],body:=[.exp (.call 61 [.var 0,.int 1,.glb "MOST_LINES"]),.exp (.call 61 [.var 1,.int 1,.glb "MOST_LINES"]),.ret (.calll 62 (.var 0) (.var 1) ["r","c"] 2 (.ite (.cmp .Lt (.var 0) (.var 1)) (.int 1) (.int 0)) [])]}
noncomputable def qy:FD:={n:=3,np:=3,dfl:=[.int 2],body:=[.exp (.call 61 [.var 0,.int 1,.glb "MOST_LINES"]),.exp (.call 61 [.var 1,.int 1,.glb "MOST_LINES"]),.exp (.call 61 [.var 2,.int 2,.glb "GREATEST_MODULUS"]),.ret (.calll 62 (.var 0) (.var 1) ["r","c","k"] 2 (.bin .Mod (.bin .Add (.var 0) (.var 1)) (.var 2)) [2])]}
noncomputable def DB:FD:={n:=1,np:=1,dfl:=[],body:=[.exp (.call 61 [.var 0,.int 1,.glb "MOST_BITS"]),.ret (.calll 62 (.bin .LShift (.int 1) (.var 0)) (.bin .LShift (.int 1) (.var 0)) ["r","c"] 2 (.bi .len [.call 8 [.bin .BitAnd (.var 0) (.var 1)]]) [])]}
noncomputable def DC:FD:={n:=1,np:=1,dfl:=[],body:=[.exp (.call 61 [.var 0,.int 1,.glb "MOST_BITS"]),.ret (.calll 62 (.var 0) (.bin .LShift (.int 1) (.var 0)) ["r","c"] 2 (.bin .BitAnd (.bin .RShift (.var 1) (.var 0)) (.int 1)) [])]}
def DD:FD:={n:=3,np:=3,dfl:=[],body:=[.iff (.not (.call 0 [.var 0,.var 1,.var 2])) [.rse "NoTable" (.fst [.str "a number of this table is an int from ",.fmt (.var 1),.str " to ",.fmt (.var 2)])] []]}
noncomputable def DE:FD:={n:=3,np:=3,dfl:=[],body:=[.ret (.bi .tuple [.comp (.bi .tuple [.comp (.callv 1 [("joined_bits",37),("joined_ends",38),("way",53)] [.var 2,.var 0]) (.one 0) (.rng [.var 1]) [none,some 2,some 0]]) (.one 0) (.rng [.var 0]) [none,some 1,some 2]])]}
noncomputable def DF:FD:={n:=1,np:=1,dfl:=[],body:=[.iff (.not (.call 64 [.var 0,.glb "MOST_ASKS_DEEP"])) [.rse "NoPlan" (.str "a plan is an end or an ask, with at most 12 asks one within another")] [],.iff (.cmp .Gt (.call 69 [.var 0]) (.bin .Add (.glb "MOST_ASKS") (.int 1))) [.rse "NoPlan" (.str "a plan has at most 300 asks")] [],.ret (.var 0)]}
noncomputable def DG:FD:={n:=2,np:=2,dfl:=[],body:=[.iff (.call 65 [.var 0]) [.ret (.bl true)] [],.ret (.and [.cmp .Gt (.var 1) (.int 0),.call 66 [.var 0],.call 64 [.ix (.var 0) (.int 3),.bin .Sub (.var 1) (.int 1)],.call 64 [.ix (.var 0) (.int 4),.bin .Sub (.var 1) (.int 1)]])]}
noncomputable def DH:FD:={n:=1,np:=1,dfl:=[],body:=[.ret (.and [.call 67 [.var 0,.int 2],.call 68 [.ix (.var 0) (.int 0),.str "end"],.call 0 [.ix (.var 0) (.int 1),.int 0,.glb "GREATEST_WORD"]])]}
noncomputable def DI:FD:={n:=1,np:=1,dfl:=[],body:=[.iff (.or [.not (.call 67 [.var 0,.int 5]),.not (.call 68 [.ix (.var 0) (.int 0),.str "ask"])]) [.ret (.bl false)] [],.ret (.and [.or [.call 68 [.ix (.var 0) (.int 1),.str "row"],.call 68 [.ix (.var 0) (.int 1),.str "column"]],.call 0 [.ix (.var 0) (.int 2),.int 1,.glb "ALL_CARDS"]])]}
noncomputable def DJ:FD:={n:=2,np:=2,dfl:=[],body:=[.ret (.and [.isi (.var 0) ["tuple"],.cmp .Eq (.bi .len [.var 0]) (.var 1)])]}
noncomputable def DL:FD:={n:=2,np:=2,dfl:=[],body:=[.ret (.and [.isi (.var 0) ["str"],.cmp .Eq (.var 0) (.var 1)])]}
noncomputable def DM:FD:={n:=1,np:=1,dfl:=[],body:=[.iff (.cmp .Eq (.ix (.var 0) (.int 0)) (.str "end")) [.ret (.int 1)] [],.ret (.bin .Add (.call 69 [.ix (.var 0) (.int 3)]) (.call 69 [.ix (.var 0) (.int 4)]))]}
noncomputable def DN:FD:={n:=1,np:=1,dfl:=[],body:=[.iff (.not (.isi (.var 0) ["str"])) [.rse "NoText" (.str "a table is read from a text")] [],.tryr [.iff (.cmp .In (.str ":") (.var 0)) [.ret (.call 72 [.spl (.var 0) (.str ":")])] [],.ret (.call 1 [.comp (.comp (.fnd (.glb "DIGITS") (.var 0)) (.one 0) (.var 0) [none]) (.one 0) (.spl (.var 0) (.str "/")) [none]])] "NoTable" "NoText" "the text makes no table"]}
def DO:FD:={n:=3,np:=1,dfl:=[],body:=[.set 1 false (.ix (.var 0) (.int 0)),.set 2 false (.compx (.call 73 [.var 0]) (.one 0) (.slf (.var 0) (.int 1)) [none]),.iff (.and [.cmp .Eq (.var 1) (.str "alike"),.cmp .Eq (.bi .len [.var 2]) (.int 1)]) [.ret (.call 56 [.ix (.var 2) (.int 0)])] [],.iff (.and [.cmp .Eq (.var 1) (.str "less"),.cmp .Eq (.bi .len [.var 2]) (.int 2)]) [.ret (.call 57 [.ix (.var 2) (.int 0),.ix (.var 2) (.int 1)])] [],.iff (.and [.cmp .Eq (.var 1) (.str "sums"),.cmp .Eq (.bi .len [.var 2]) (.int 3)]) [.ret (.call 58 [.ix (.var 2) (.int 0),.ix (.var 2) (.int 1),.ix (.var 2) (.int 2)])] [],.iff (.and [.cmp .Eq (.var 1) (.str "shared"),.cmp .Eq (.bi .len [.var 2]) (.int 1)]) [.ret (.call 59 [.ix (.var 2) (.int 0)])] [],.iff (.and [.cmp .Eq (.var 1) (.str "pick"),.cmp .Eq (.bi .len [.var 2]) (.int 1)]) [.ret (.call 60 [.ix (.var 2) (.int 0)])] [],.rse "NoText" (.str "a table's name has one of five words and all its numbers")]}
noncomputable def DP:FD:={n:=1,np:=1,dfl:=[],body:=[.iff (.or [.cmp .NotIn (.bi .len [.var 0]) (.tup [.int 1,.int 2]),.cmp .Eq (.ix (.var 0) (.int 0)) (.str "0"),.bi .any [.comp (.cmp .NotIn (.var 0) (.glb "DIGITS")) (.one 0) (.var 0) [none]]]) [.rse "NoText" (.str "a number has one or two digits without a needless 0")] [],.ret (.bi .int [.var 0])]}
noncomputable def DQ:FD:={n:=1,np:=1,dfl:=[],body:=[.unk,.unk,.unk,.unk,.unk,.unk]}
noncomputable def DR:FD:={n:=3,np:=1,dfl:=[],body:=[.iff (.not (.isi (.var 0) ["str"])) [.rse "NoText" (.str "a plan is read from a text")] [],.mkr 1 (.var 0),.rdp 2 1,.iff (.cmp .NotEq (.fld 1 true) (.bi .len [.var 0])) [.rse "NoText" (.str "something stands behind the plan")] [],.tryr [.ret (.call 63 [.var 2])] "NoPlan" "NoText" "the text makes no plan"]}
noncomputable def DS:FD:={n:=4,np:=1,dfl:=[],body:=[.iff (.not (.isi (.var 0) ["str"])) [.rse "NoAsk" (.str "a question is a text")] [],.set 1 false (.spl (.var 0) (.str " ")),.set 2 false (.ix (.var 1) (.int 0)),.iff (.or [.gno "FORMS" (.var 2),.cmp .NotEq (.bi .len [.var 1]) (.bin .Add (.bi .len [.gdx "FORMS" (.var 2)]) (.int 1))]) [.rse "NoAsk" (.str "no question has this first word and so many words")] [],.set 3 false (.compx (.call 82 [.var 0,.var 1]) (.many [0,1]) (.zp (.gdx "FORMS" (.var 2)) (.slf (.var 1) (.int 1))) [none,none]),.iff (.cmp .Eq (.bi .len [.var 3]) (.int 1)) [.ret (.call 84 [.var 2,.ix (.var 3) (.int 0)])] [],.ret (.call 85 [.var 2,.var 3])]}
noncomputable def DT:FD:={n:=2,np:=2,dfl:=[],body:=[.iff (.cmp .Eq (.var 0) (.str "TABLE")) [.ret (.call 71 [.var 1])] [],.iff (.cmp .Eq (.var 0) (.str "PLAN")) [.ret (.call 75 [.var 1])] [],.ret (.call 83 [.var 1])]}
noncomputable def DU:FD:={n:=1,np:=1,dfl:=[],body:=[.iff (.or [.cmp .NotEq (.bi .len [.var 0]) (.int 1),.cmp .NotIn (.var 0) (.glb "DIGITS")]) [.rse "NoText" (.str "a word or a card is one digit")] [],.ret (.bi .int [.var 0])]}
noncomputable def DW:FD:={n:=2,np:=2,dfl:=[],body:=[.iff (.cmp .Eq (.var 0) (.str "show")) [.unk] [],.iff (.cmp .Eq (.var 0) (.str "trim")) [.unk] [],.iff (.cmp .Eq (.var 0) (.str "bits")) [.ret (.bi .str [.call 42 [.var 1]])] [],.iff (.cmp .Eq (.var 0) (.str "ends")) [.ret (.bi .str [.call 43 [.var 1]])] [],.iff (.cmp .Eq (.var 0) (.str "rank")) [.ret (.bi .str [.call 48 [.var 1]])] [],.iff (.cmp .Eq (.var 0) (.str "twos")) [.unk] [],.iff (.cmp .Eq (.var 0) (.str "alone")) [.unk] [],.ret (.call 74 [.call 44 [.var 1]])]}
def DX:FD:={n:=2,np:=2,dfl:=[],body:=[.iff (.cmp .Eq (.var 0) (.str "cover")) [.ret (.bi .str [.bi .len [.call 26 [.ix (.var 1) (.int 0),.ix (.var 1) (.int 1)]]])] [],.iff (.cmp .Eq (.var 0) (.str "apart")) [.ret (.bi .str [.bi .len [.call 20 [.ix (.var 1) (.int 0),.ix (.var 1) (.int 1)]]])] [],.iff (.cmp .Eq (.var 0) (.str "run")) [.ret (.call 86 [.call 52 [.ix (.var 1) (.int 0),.ix (.var 1) (.int 1),.ix (.var 1) (.int 2)]])] [],.unk]}
noncomputable def DY:FD:={n:=1,np:=1,dfl:=[],body:=[.ret (.scat (.scat (.joi (.str "") (.comp (.bi .str [.var 0]) (.one 0) (.ix (.var 0) (.int 0)) [none])) (.str " ")) (.bi .str [.ix (.var 0) (.int 1)]))]}
noncomputable def qz:FD:={n:=2,np:=2,dfl:=[],body:=[.iff (.cmp .Lt (.var 1) (.bi .len [.var 0])) [.ret (.ix (.var 0) (.var 1))] [],.ret (.int 0)]}
def qA:FD:={n:=1,np:=0,dfl:=[],body:=[.set 0 false (.lst [.str "",.str " ",.str "show",.str "bits 01 10",.str "Bits 01",.str "bits  01",.str " bits 01",.str "bits 01 ",.str "cover 01",.str "apart 01"]),.set 0 false (.bin .Add (.var 0) (.lst [.str "cover 01 1 1",.str "run 0 0",.str "run 0 0 0 0",.str "settles 0",.str "settles 0 01 1",.str "rank",.str "twos 01 01"])),.set 0 false (.bin .Add (.var 0) (.lst [.str "alone",.str "alone 01 row",.str "least 01",.str "tables 01",.str "plan",.str "plan 01 01",.str "01",.str "trim",.str "ends"])),.ret (.bin .Add (.var 0) (.lst [.non,.int 5,.lst [.str "bits",.str "01"],.bl true]))]}
def qB:FD:={n:=1,np:=0,dfl:=[],body:=[.set 0 false (.lst [.str "show ",.str "show 0a",.str "trim 01/1",.str "bits alike:9",.str "ends 012345678",.str "cover 01 x",.str "cover 0x 1"]),.set 0 false (.bin .Add (.var 0) (.lst [.str "cover 01 12",.str "cover 01 ",.str "apart 01 -1",.str "rank /",.str "twos a",.str "alone less:3",.str "plan 01/"])),.set 0 false (.bin .Add (.var 0) (.lst [.str "run r 0 0",.str "run r0(0,1) a 0",.str "run r0(0,1) 0 10",.str "run x y z"])),.set 0 false (.bin .Add (.var 0) (.lst [.str "settles r0(0,1 01",.str "settles r0(0,1) 0x",.str "settles x x"])),.ret (.bin .Add (.var 0) (.lst [.str "bits shared:4",.str "run r8(0,1) 0 0",.str "apart alike:0 1",.str "show sums:2:2"]))]}
def qC:FD:={n:=2,np:=0,dfl:=[],body:=[.set 0 false (.lst [.str "bits",.str "ends",.str "plan"]),.set 1 false (.bin .Add (.comp (.tup [.scat (.var 0) (.str " alike:6"),.int 2]) (.one 0) (.var 0) [none]) (.comp (.tup [.scat (.var 0) (.str " shared:3"),.int 2]) (.one 0) (.var 0) [none])),.set 1 false (.bin .Add (.var 1) (.lst [.tup [.str "cover less:7:7 1",.int 2],.tup [.str "apart alike:8 0",.int 2],.tup [.str "apart alike:8 9",.int 2],.tup [.str "bits pick:3",.int 2]])),.set 1 false (.bin .Add (.var 1) (.lst [.tup [.str "cover pick:3 1",.int 2],.tup [.str "ends pick:3",.int 2],.tup [.str "apart pick:3 7",.int 2],.tup [.str "plan sums:2:6:9",.int 2]])),.set 1 true (.bin .Add (.var 1) (.lst [.tup [.str "bits sums:6:2:9",.int 2],.tup [.str "cover sums:6:2:9 1",.int 2]])),.app 1 (.tup [.str "cover 012345/123450/234501/345012/450123/501234 9",.int 2]),.ret (.bin .Add (.var 1) (.lst [.tup [.str "run r0(0,1) 8 0",.int 3],.tup [.str "run c0(0,1) 0 9",.int 3],.tup [.str "run 5 9 9",.int 3],.tup [.str "run r7(1,2) 0 8",.int 3]]))]}
noncomputable def DZ:FD:={n:=5,np:=2,dfl:=[],body:=[.set 2 false (.non),.tryc [.exp (.call 81 [.var 0])] "TalkError" 3 2,.iff (.or [.cmp .Is (.var 2) (.non),.not (.isx (.var 2) "ValueError")]) [.ret (.bl false)] [],.set 4 false (.lst [.isx (.var 2) "NoAsk",.isx (.var 2) "NoText",.isx (.var 2) "TooGreat"]),.set 4 false (.bin .Add (.var 4) (.lst [.isx (.var 2) "NoCard",.isx (.var 2) "NoPlan",.isx (.var 2) "NoTable"])),.ret (.cmp .Eq (.bin .Add (.var 4) (.lst [.isx (.var 2) "NoWord"])) (.comp (.cmp .Eq (.var 0) (.var 1)) (.one 0) (.rng [.int 7]) [none,some 1]))]}
def fw:FD:={n:=6,np:=1,dfl:=[],body:=[.set 1 false (.bin .Add (.comp (.tup [.var 0,.int 0]) (.one 0) (.call0 88) [none]) (.comp (.tup [.var 0,.int 1]) (.one 0) (.call0 89) [none])),.set 1 false (.bin .Add (.var 1) (.call0 90)),.fo (.one 2) (.bin .Add (.lst [.int 0]) (.slt (.var 0) (.int 30))) [.sett [3,4] (.ix (.var 1) (.bin .Mod (.bin .Mod (.bin .Mult (.var 2) (.int 48271)) (.int 2147483647)) (.bi .len [.var 1]))),.iff (.not (.call 91 [.var 3,.var 4])) [.ret (.bl false)] []],.set 5 false (.bin .Add (.int 1) (.bin .Mod (.call 87 [.var 0,.int 0]) (.int 5))),.ret (.and [.cmp .Eq (.call 81 [.scat (.str "rank alike:") (.bi .str [.var 5])]) (.bi .str [.var 5]),.cmp .Eq (.call 81 [.str "run 7 0 0"]) (.str " 7")])]}
def T:ge FD:=[t9,CS,CT,CU,CV,t9,t9,CW,CY,CZ,Da,Db,Dc,Dd,De,t9,t9,t9,t9,t9,Df,t9,t9,t9,t9,t9,Dg,t9,t9,t9,t9,t9,Dh,Di,Dj,Dk,Dl,qv,qw,Do,t9,t9,Dp,Dq,Dr,Ds,t9,t9,Dt,Du,Dv,Dw,Dx,Dy,t9,t9,Dz,DA,qy,DB,DC,DD,DE,DF,DG,DH,DI,DJ,DL,DM,t9,DN,DO,DP,DQ,DR,t9,t9,t9,t9,t9,DS,DT,DU,DW,DX,DY,qz,qA,qB,qC,DZ,fw]
noncomputable def jG:FD:={n:=1,np:=1,body:=[.rtm 0 (.stm (.fld 0 false) (.fld 0 true) (.bin .Add (.fld 0 true) (.int 1)))]}
noncomputable def jH:FD:={n:=1,np:=1,body:=[.rtm 0 (.and [.cmp .Lt (.fld 0 true) (.bi .len [.fld 0 false]),.cmp .In (.mth 0 0) (.glb "DIGITS")])]}
noncomputable def fx:FD:={n:=2,np:=2,body:=[.iff (.cmp .NotEq (.mth 0 0) (.var 1)) [.rse "NoText" (.fst [.fmt (.var 1),.str " is missing"])] [],.fau 0 (.int 1)]}
noncomputable def fy:FD:={n:=2,np:=1,body:=[.iff (.not (.mth 0 1)) [.rse "NoText" (.str "a digit is missing")] [],.set 1 false (.fnd (.glb "DIGITS") (.mth 0 0)),.fau 0 (.int 1),.rtm 0 (.var 1)]}
noncomputable def fz:FD:={n:=5,np:=1,body:=[.iff (.mth 0 1) [.rtd 0 3 "end"] [],.mst 1 0 5 [],.mst 2 0 6 [],.msx 0 2 [.str "("],.mst 3 0 4 [],.msx 0 2 [.str ","],.mst 4 0 4 [],.msx 0 2 [.str ")"],.rtm 0 (.tup [.str "ask",.var 1,.var 2,.var 3,.var 4])]}
noncomputable def jI:FD:={n:=1,np:=1,body:=[.iff (.cmp .Eq (.mth 0 0) (.str "r")) [.msx 0 2 [.str "r"],.rtm 0 (.str "row")] [],.msx 0 2 [.str "c"],.rtm 0 (.str "column")]}
noncomputable def jJ:FD:={n:=4,np:=1,body:=[.mst 1 0 3 [],.set 2 false (.bin .LShift (.int 1) (.var 1)),.wh (.mth 0 1) [.mst 3 0 3 [],.iff (.cmp .LtE (.var 3) (.var 1)) [.rse "NoText" (.str "cards are written from the least on, each once")] [],.set 2 false (.bin .BitOr (.var 2) (.bin .LShift (.int 1) (.var 3))),.set 1 false (.var 3)],.rtm 0 (.var 2)]}
def TM:ge FD:=[jG,jH,fx,fy,fz,jI,jJ]
noncomputable def GM:Gs:={con:=[("MOST_LINES",.int 8),("GREATEST_WORD",.int 9),("SMALL_LINES",.int 5),("GREATEST_MODULUS",.int 10),("MOST_BITS",.int 3),("MOST_ASKS_DEEP",.int 12),("MOST_ASKS",.int 300),("ALL_CARDS",.int 255),("DIGITS",.str "0123456789"),("joined_bits",.fn "joined_bits"),("joined_ends",.fn "joined_ends")],cls:=[("TalkError",["ValueError","Exception","BaseException","object"]),("NoTable",["TalkError","ValueError","Exception","BaseException","object"]),("NoCard",["TalkError","ValueError","Exception","BaseException","object"]),("NoPlan",["TalkError","ValueError","Exception","BaseException","object"]),("NoWord",["TalkError","ValueError","Exception","BaseException","object"]),("TooGreat",["TalkError","ValueError","Exception","BaseException","object"]),("NoText",["TalkError","ValueError","Exception","BaseException","object"]),("NoAsk",["TalkError","ValueError","Exception","BaseException","object"])],rdc:=651,mtx:=true}
noncomputable def pls:ge Str:=["r","r0(0,1)","x","r0(0,1","r8(0,1)","c0(0,1)","5","r7(1,2)","7"]
noncomputable def prsG(r:EC Rm):EC Ou:=match r with
 | some (.ok d (.tup [_,_,_,_,.int k']))=>some (.v (.tup [d,.int k']) false)
 | some (.ex c)=>some (.x c)
 | _=>none
def prs(k:Nat)(ds:ge DV):EC Ou:=match k,ds with
 | k+1,[.str t,.int j]=>if(j==0&&(k==54||k==55)&&pls.contains t)=true then prsG (Rm.of (runM GM TM 100 k 4 [rdD 651 0 0 t j]))else none
 | _,_=>none
def fnl:ge Str:="is_int" :: "made_table" :: "is_line" :: "is_row" :: "flipped" :: "is_int" :: "is_int" :: "check_card" :: "cards_in" :: "crossing" :: "row_kinds" :: "column_kinds" :: "trimmed" :: "is_small" :: "check_small" :: "is_int" :: "is_int" :: "is_int" :: "is_int" :: "is_int" :: "apart" :: "is_int" :: "is_int" :: "is_int" :: "is_int" :: "is_int" :: "fewest_cover" :: "is_int" :: "is_int" :: "is_int" :: "is_int" :: "is_int" :: "bits_paper" :: "ends_paper" :: "paper" :: "bits_numbers" :: "ends_numbers" :: "joined_bits" :: "joined_ends" :: "least_numbers" :: "is_int" :: "is_int" :: "least_bits" :: "fewest_ends" :: "least_plan" :: "plan_by" :: "is_int" :: "is_int" :: "rank" :: "base_lines" :: "reduced" :: "leading_place" :: "run" :: "way" :: "is_int" :: "is_int" :: "alike" :: "less" :: "sums" :: "shared" :: "pick" :: "check_number" :: "ruled" :: "made_plan" :: "is_plan" :: "is_end" :: "is_ask" :: "is_tuple" :: "is_text" :: "outcomes_of" :: "is_int" :: "read_table" :: "table_named" :: "read_number" :: "show_plan" :: "read_plan" :: "is_int" :: "is_int" :: "is_int" :: "is_int" :: "is_int" :: "ask" :: "read_as" :: "read_digit" :: "answer_of_table" :: "answer_of_several" :: "answer_of_run" :: "_law_cell_at" :: "_law_no_asks" :: "_law_no_texts" :: "_law_deeds" :: "_law_refused" :: "law" :: []
noncomputable def bll:ge Str:="isinstance" :: "int" :: "bool" :: "any" :: "tuple" :: "all" :: "len" :: "list" :: "range" :: "sorted" :: "set" :: "max" :: "min" :: "enumerate" :: "zip" :: "str" :: "ValueError" :: []
noncomputable def cll:ge Str:="TalkError" :: "NoTable" :: "NoCard" :: "NoPlan" :: "NoWord" :: "TooGreat" :: "NoText" :: "NoAsk" :: []
def G:Gs:={dcs:=[("FORMS",[("show",some (.tup [.str "TABLE"])),("trim",some (.tup [.str "TABLE"])),("bits",some (.tup [.str "TABLE"])),("ends",some (.tup [.str "TABLE"])),("cover",some (.tup [.str "TABLE",.str "WORD"])),("apart",some (.tup [.str "TABLE",.str "WORD"])),("rank",some (.tup [.str "TABLE"])),("twos",some (.tup [.str "TABLE"])),("alone",some (.tup [.str "TABLE"])),("run",some (.tup [.str "PLAN",.str "CARD",.str "CARD"])),("settles",some (.tup [.str "PLAN",.str "TABLE"])),("plan",some (.tup [.str "TABLE"])),("",none),("Bits",none),("least",none),("tables",none),("01",none)])],con:=[("MOST_LINES",.int 8),("GREATEST_WORD",.int 9),("SMALL_LINES",.int 5),("GREATEST_MODULUS",.int 10),("MOST_BITS",.int 3),("MOST_ASKS_DEEP",.int 12),("MOST_ASKS",.int 300),("ALL_CARDS",.int 255),("DIGITS",.str "0123456789"),("joined_bits",.fn "joined_bits"),("joined_ends",.fn "joined_ends")],cls:=[("TalkError",["ValueError","Exception","BaseException","object"]),("NoTable",["TalkError","ValueError","Exception","BaseException","object"]),("NoCard",["TalkError","ValueError","Exception","BaseException","object"]),("NoPlan",["TalkError","ValueError","Exception","BaseException","object"]),("NoWord",["TalkError","ValueError","Exception","BaseException","object"]),("TooGreat",["TalkError","ValueError","Exception","BaseException","object"]),("NoText",["TalkError","ValueError","Exception","BaseException","object"]),("NoAsk",["TalkError","ValueError","Exception","BaseException","object"])],rdc:=651,prs:=prs,fnl:=fnl,bll:=bll,cll:=cll}
end k86
namespace k86
open PySem L2
theorem Ea(a:ge Int)(j:Nat):∃v:Int,run G T fu (k+1) 87 [.scr a,.int j]=some (.v (.int v) false):=by
 rw[mD rfl rfl];unfold qz;by_cases h:j<a.length
 ·refine⟨a[j],gZ (vj (A6 (cl:=.strong) ?_) (eg ?_))⟩
  ·simp[evE,evEs,L3,gY,y0,biOk,biD,lenD,cmpD,asI,h]
  ·simp[evS,evE,L3,y0,ixD,U5,h,Re.thnS,frD,retD,Cl.item]
 ·refine⟨0,gZ (L4 (A6 (cl:=.strong) ?_) (eg rfl))⟩;simp[evE,evEs,L3,gY,y0,biOk,biD,lenD,cmpD,asI];omega
theorem Eb(h:j<n):U5 n (j:Int)=some j:=by
 unfold U5;rw[i3 (Int.natCast_nonneg j),i3 (by omega),P9]
theorem Ec(h:evE G F e δ=some (.ok d cl))(g:cl=.strong\/cl=.fresh)(f:N8 d=some (b,ds))(c:N9 δ is ds=some a):evS G F fu (.sett is e) δ=some (.nx a):=by
 unfold evS;rw[h,vf,i3 g,f];dsimp only;rw[c];rfl
theorem Ed{a:ge Int}(h:d∈cutD (a.map DV.int) b f):∃c:Int,d=.int c:=by
 unfold cutD at h;obtain⟨c,_,e⟩:=G6.mp (fC (fD h));exact⟨c,e.symm⟩
theorem Ee(a:ge Int)(b c:EC Int):(cutD (a.map DV.int) b c).length<=a.length:=by
 unfold cutD;rw[T6,cT,n8];omega
noncomputable def isT(o:EC Ou):Bool:=match o with | some (.v (.bl true) false)=>true | _=>false
theorem Ef(h:isT o=true):o=some (.v (.bl true) false):=by
 unfold isT at h;split at h
 ·rfl
 ·cases h
noncomputable def lO(o:EC Ou):ge DV:=match o with | some (.v (.lst l) _)=>l | _=>[]
def qs:ge DV:=(lO (run G T 100 59 88 [])).map (λ d=>.tup [d,.int 0])++(lO (run G T 100 59 89 [])).map (λ d=>.tup [d,.int 1])++lO (run G T 100 59 90 [])
def ok1(d:DV):Bool:=match d with | .tup [q,.int w]=>isT (run G T 100 59 91 [q,.int w]) | _=>false
theorem Eg:qs.length=76:=by kernel_rfl
theorem ok_a:((qs.take 30).all ok1)=true:=by kernel_rfl
theorem ok_b:(((qs.drop 30).take 12).all ok1)=true:=by kernel_rfl
theorem ok_c:(((qs.drop 42).take 13).all ok1)=true:=by kernel_rfl
theorem ok_d:(((qs.drop 55).take 11).all ok1)=true:=by kernel_rfl
theorem ok_e:((qs.drop 66).all ok1)=true:=by kernel_rfl
theorem Eh:∀d∈qs,ok1 d=true:=by
 have e:qs=qs.take 30++((qs.drop 30).take 12++((qs.drop 42).take 13++((qs.drop 55).take 11++qs.drop 66))):=by
  have f:qs.drop 55=(qs.drop 55).take 11++qs.drop 66:=by
   conv=>lhs;rw[←Z9 11 (qs.drop 55),gi]
  have c:qs.drop 42=(qs.drop 42).take 13++qs.drop 55:=by
   conv=>lhs;rw[←Z9 13 (qs.drop 42),gi]
  have b:qs.drop 30=(qs.drop 30).take 12++qs.drop 42:=by
   conv=>lhs;rw[←Z9 12 (qs.drop 30),gi]
  rw[←f,←c,←b,Z9]
 intro d a
 rw[e]at a
 rcases x5.mp a with h | h
 ·exact y9.mp ok_a d h
 rcases x5.mp h with h | h
 ·exact y9.mp ok_b d h
 rcases x5.mp h with h | h
 ·exact y9.mp ok_c d h
 rcases x5.mp h with h | h
 ·exact y9.mp ok_d d h
 ·exact y9.mp ok_e d h
theorem Ei(h:d∈qs):∃q w,d=.tup [q,.int w]/\run G T 100 59 91 [q,.int w]=some (.v (.bl true) false):=by
 have:=Eh d h;unfold ok1 at this;split at this
 ·rename_i q w;exact⟨q,w,rfl,Ef this⟩
 ·cases this
theorem fst2(A:DV):evSs G (run G T 100 59) 100 [.set 1 false (.bin .Add (.comp (.tup [.var 0,.int 0]) (.one 0) (.call0 88) [none]) (.comp (.tup [.var 0,.int 1]) (.one 0) (.call0 89) [none])),.set 1 false (.bin .Add (.var 1) (.call0 90))] [.val A,.no,.no,.no,.no,.no]=some (.nx [.val A,.val (.lst qs),.no,.no,.no,.no]):=by kernel_rfl
theorem rnk(A B:DV)(c b a:Sv):∀n:Nat,1<=n->n<=5->evE G (run G T 100 59) (.and [.cmp .Eq (.call 81 [.scat (.str "rank alike:") (.bi .str [.var 5])]) (.bi .str [.var 5]),.cmp .Eq (.call 81 [.str "run 7 0 0"]) (.str " 7")]) [.val A,.val B,c,b,a,.val (.int (n:Int))]=some (.ok (.bl true) .strong):=by
 intro n h1 h2;have:n=1\/n=2\/n=3\/n=4\/n=5:=by omega
 rcases this with rfl | rfl | rfl | rfl | rfl<;>kernel_rfl
theorem Ej(h:evSs G F fu [a,b] δ=some (.nx c))(k:evSs G F fu r c=o):evSs G F fu (a::b::r) δ=o:=by
 cases e:evS G F fu a δ with
 | none=>unfold evSs at h;rw[e]at h;cases h
 | some j=>
  cases j with
  | nx f=>
   rw[(u3 e rfl)]at h;refine u3 e ?_;cases d:evS G F fu b f with
   | none=>unfold evSs at h;rw[d]at h;cases h
   | some i=>
    cases i with
    | nx g=>
     rw[(u3 d rfl)]at h;cases h;exact u3 d k
    | _=>unfold evSs at h;rw[d]at h;cases h
  | _=>unfold evSs at h;rw[e]at h;cases h
theorem Ek:∀ns:ge Int,ns.length<=63->run G T 100 60 92 [.scr ns]=some (.v (.bl true) false):=by
 intro ns hns;rw[mD (fd:=fw) rfl rfl];obtain⟨v0,c0⟩:=Ea (fu:=100) (k:=58) ns 0;obtain⟨Q,hQ⟩:∃Q,qs=Q:=⟨_,rfl⟩;have ql:Q.length=76:=by rw[←hQ];exact Eg
 have qo:∀d∈Q,∃q w,d=.tup [q,.int w]/\run G T 100 59 91 [q,.int w]=some (.v (.bl true) false):=λ d hd=>Ei (by rw[hQ];exact hd);have f2:=fst2 (.scr ns);rw[hQ]at f2
 clear hQ
 obtain⟨δ1,lp,z2,z3,z4,rfl⟩:=mE (tg:=.one 2) (I:=λ δ=>∃z2 z3 z4:Sv,δ=[.val (.scr ns),.val (.lst Q),z2,z3,z4,.no]) (body:=λ δ'=>evSs G (run G T 100 59) 100 [.sett [3,4] (.ix (.var 1) (.bin .Mod (.bin .Mod (.bin .Mult (.var 2) (.int 48271)) (.int 2147483647)) (.bi .len [.var 1]))),.iff (.not (.call 91 [.var 3,.var 4])) [.ret (.bl false)] []] δ')
  (ds:=.int 0::cutD (ns.map DV.int) none (some 30)) (λ d hd δ I=>by
   obtain⟨c,rfl⟩:∃c:Int,d=.int c:=by
    rcases i6.mp hd with h | h
    ·exact⟨0,h⟩
    ·exact Ed h
   obtain⟨z2,z3,z4,rfl⟩:=I;obtain⟨i,hi,ei⟩:∃i:Nat,i<76/\c*48271%2147483647%((Q.length:Nat):Int)=(i:Int):=⟨(c*48271%2147483647%((Q.length:Nat):Int)).toNat,by rw[ql];omega,by rw[ql];omega⟩;have hi':i<Q.length:=by rw[ql];exact hi
   obtain⟨q,w,e,r⟩:=qo Q[i] (W9 hi');have hx:ixD (.lst Q) (.int (i:Int))=some (.tup [q,.int w]):=by show(U5 Q.length (i:Int)).bind (λ j=>Q[j]?)=_;rw[Eb hi',Option.bind_some,o4 hi',e]
   have mk:bA c 48271=true:=by unfold bA;simp
   have e1:evE G (run G T 100 59) (.ix (.var 1) (.bin .Mod (.bin .Mod (.bin .Mult (.var 2) (.int 48271)) (.int 2147483647)) (.bi .len [.var 1]))) [.val (.scr ns),.val (.lst Q),.val (.int c),z3,z4,.no]=some (.ok (.tup [q,.int w]) .strong):=(by refine vn (C3 (d:=.lst Q) rfl) (hV (hV (vt (C3 rfl) U7 mk) U7 (by decide)) (j:=((Q.length:Nat):Int)) (cy:=.strong) ?_ (by rw[ql];decide)) (by rw[ei];exact hx);rfl);refine⟨_,_,rfl,?_,.val (.int c),.val q,.val (.int w),rfl⟩;refine u3 (Ec e1 (.inl rfl) (b:=true) (ds:=[q,.int w]) rfl rfl) ?_;exact L4 (A6 (x:=false) (cl:=.strong) (hJ (x:=true) (cl:=.strong) (mG (f:=91) (B4 (C3 (n:=3) (d:=q) rfl) (B4 (C3 (n:=4) (d:=.int w) rfl) u4)) rfl r))) rfl) ⟨.no,.no,.no,rfl⟩
 have itr:G4 (evE G (run G T 100 59) (.bin .Add (.lst [.int 0]) (.slt (.var 0) (.int 30))) [.val (.scr ns),.val (.lst Q),.no,.no,.no,.no])=some (.ok (.int 0::cutD (ns.map DV.int) none (some 30)) .fresh):=by
  have e2:evE G (run G T 100 59) (.slt (.var 0) (.int 30)) [.val (.scr ns),.val (.lst Q),.no,.no,.no,.no]=some (.ok (.lst (cutD (ns.map DV.int) none (some 30))) .fresh):=rfl;have e3:=aA (op:=.Add) (a:=.lst [.int 0]) (x:=.lst [.int 0]) (cx:=.fresh) (G:=G) rfl e2 (i3 (by
   have:=Ee ns none (some 30);exact o6 (show 1+(cutD (ns.map DV.int) none (some 30)).length<=1000 by omega) (by decide)))
  rw[e3];rfl
 obtain⟨v,hv1,hv2,hv⟩:∃v:Nat,1<=v/\v<=5/\1+v0%5=(v:Int):=⟨(1+v0%5).toNat,by omega,by omega,by omega⟩;unfold fw;refine gZ (Ej f2 (vk itr (.inr rfl) lp (u3 (az (d:=.int (v:Int)) (cl:=.strong) (by rw[←hv];exact mI U7 (hV (mG (f:=87) (B4 (C3 (n:=0) (d:=.scr ns) rfl) (B4 (U7 (i:=0)) u4)) rfl c0) U7 (by decide))) rfl) (eg (vm (cl:=.strong) (rnk (.scr ns) (.lst Q) z2 z3 z4 v hv1 hv2))))))
set_option genInjectivity true in
inductive Pl where
 | fin (v:Int) | ask (row:Bool) (c:Nat) (a b:Pl)
noncomputable def side(r:Bool):DV:=if r then .str "row" else .str "column"
def dv:Pl->DV
 | .fin v=>.tup [.str "end",.int v]
 | .ask r c a b=>.tup [.str "ask",side r,.int c,dv a,dv b]
noncomputable def stx(l:ge Nat):Str:=⟨l.toArray⟩
def Sgn(l:ge Nat):Prop:=∀c∈l,c<0x110000
theorem El{G:Gs}{F:Nat->ge DV->EC Ou}{δ:ge Sv}{a b:ME}{r:ge ME}{cx:Cl}{o:EC Re}(ha:evE G F a δ=some (.ok (.bl true) cx))(hb:evE G F (.and (b::r)) δ=o):evE G F (.and (a::b::r)) δ=o:=by
 have e:evE G F (.and (a::b::r)) δ=Re.thn (evE G F a δ) (λ x c=>andD x c (J8 G F (b::r) δ)):=(by rw[evE,J8];rfl);have e2:evE G F (.and (b::r)) δ=J8 G F (b::r) δ:=by rw[evE]
 rw[e,ha,L3,←e2,hb];rfl
theorem Em{G:Gs}{F:Nat->ge DV->EC Ou}{δ:ge Sv}{a b:ME}{r:ge ME}{cx:Cl}(ha:evE G F a δ=some (.ok (.bl false) cx)):evE G F (.and (a::b::r)) δ=some (.ok (.bl false) cx):=by
 have e:evE G F (.and (a::b::r)) δ=Re.thn (evE G F a δ) (λ x c=>andD x c (J8 G F (b::r) δ)):=(by rw[evE,J8];rfl);rw[e,ha,L3];rfl
theorem En{G:Gs}{F:Nat->ge DV->EC Ou}{δ:ge Sv}{a:ME}{o:EC Re}(ha:evE G F a δ=o):evE G F (.and [a]) δ=o:=by
 have e:evE G F (.and [a]) δ=evE G F a δ:=by rw[evE,J8];rfl
 rw[e,ha]
theorem W3(l:ge Nat):(stx l).cps.toList=l:=List.toList_toArray
theorem jK(l:ge Nat):(stx l).length=l.length:=r9 ..
theorem qD(h:stx a=stx b):a=b:=by rw[←W3 a,←W3 b,h]
theorem Eo:("0123456789" : Str)=stx [48,49,50,51,52,53,54,55,56,57]:=by decide +kernel
theorem plS(h:Sgn l):(DV.str (stx l)).plain 60=true:=by
 show(stx l).cps.all _=true;rw[←Array.all_toList,W3];exact y9.mpr λ c a=>x6 (h c a)
theorem eqS{G:Gs}{F:Nat->ge DV->EC Ou}{δ:ge Sv}{a b:ME}{ca cb:Cl}{l q:ge Nat}(hl:Sgn l)(hq:Sgn q)(ha:evE G F a δ=some (.ok (.str (stx l)) ca))(hb:evE G F b δ=some (.ok (.str (stx q)) cb)):evE G F (.cmp .Eq a b) δ=some (.ok (.bl (decide (l=q))) .strong):=
 bE ha hb (by
  show(if(DV.plain 60 (.str (stx l))&&DV.plain 60 (.str (stx q)))=true then some (deq (.str (stx l)) (.str (stx q)))else none)=_;rw[i3 (by rw[plS hl,plS hq];rfl)];show some (decide (stx l=stx q))=_
  congr 1
  by_cases z:l=q
  ·rw[x6 z,z,x6 rfl]
  ·rw[A8 z,A8 λ w=>z (qD w)])
theorem neS{G:Gs}{F:Nat->ge DV->EC Ou}{δ:ge Sv}{a b:ME}{ca cb:Cl}{l q:ge Nat}(hl:Sgn l)(hq:Sgn q)(ha:evE G F a δ=some (.ok (.str (stx l)) ca))(hb:evE G F b δ=some (.ok (.str (stx q)) cb)):evE G F (.cmp .NotEq a b) δ=some (.ok (.bl (!decide (l=q))) .strong):=
 bE ha hb (by
  show(if(DV.plain 60 (.str (stx l))&&DV.plain 60 (.str (stx q)))=true then some (!deq (.str (stx l)) (.str (stx q)))else none)=_;rw[i3 (by rw[plS hl,plS hq];rfl)];show some (!decide (stx l=stx q))=_
  congr 2
  by_cases z:l=q
  ·rw[x6 z,z,x6 rfl]
  ·rw[A8 z,A8 λ w=>z (qD w)])
theorem inS1{G:Gs}{F:Nat->ge DV->EC Ou}{δ:ge Sv}{a b:ME}{ca cb:Cl}{l:ge Nat}{c:Nat}(ha:evE G F a δ=some (.ok (.str (stx [c])) ca))(hb:evE G F b δ=some (.ok (.str (stx l)) cb)):evE G F (.cmp .In a b) δ=some (.ok (.bl (decide (c∈l))) .strong):=
 bE ha hb (by
  show inS (stx l) (stx [c])=_;unfold inS;rw[W3,W3])
theorem Ep{G:Gs}{F:Nat->ge DV->EC Ou}{δ:ge Sv}{e:ME}{z:Str}{c:Cl}(h:evE G F e δ=some (.ok (.str z) c)):evE G F (.bi .len [e]) δ=some (.ok (.int z.length) .strong):=by
 show Rs.thn (evEs G F [e] δ) (λ l=>lenD l)=_;rw[B4 h u4];rfl
noncomputable def sgA(l:ge Nat)(i:Nat):ge Nat:=(l.drop i).take 1
theorem Er(h:i<=l.length):cutS (stx l) i (B3 (stx l).length ((i:Int)+1)).toNat=stx (sgA l i):=by
 unfold cutS sgA;rw[W3,jK];have e:(B3 l.length ((i:Int)+1)).toNat=min (i+1) l.length:=by unfold B3;split<;>omega
 rw[e];show stx _=stx _
 congr 1
 by_cases z:i<l.length
 ·rw[show min (i+1) l.length - i=1 by omega]
 ·have:i=l.length:=by omega
  subst this;rw[cU];simp
theorem cC(h:l[i]? = some c):sgA l i=[c]:=by
 obtain⟨a,e⟩:=n7.mp h;unfold sgA;rw[Z7 a,e];rfl
theorem qE(h:l.length<=i):sgA l i=[]:=by
 unfold sgA;rw[kI h];rfl
theorem qF(h:Sgn l)(i:Nat):Sgn (sgA l i):=λ c a=>h c (fC (fD a))
section
variable {fu k a dx:Nat} {l:ge Nat} {i:Nat}
abbrev rs(a dx:Nat)(l:ge Nat)(i:Nat):DV:=rdD 651 a dx (stx l) (i:Int)
theorem S7(h:TM[m]? = some d)(a:(s::ds).length=d.np):runM GM TM fu (k+1) m (s::ds)=Ou.ofM s (evSs GM (runM GM TM fu k) fu d.body (startM d.n s ds)):=by rw[hY h,i3 a]
theorem gm_c:GM.rdc=((651:Nat):Int):=rfl
theorem gm_m:GM.mtx=true:=rfl
theorem m_sg(h:i<=l.length):runM GM TM fu (k+1) 0 [rs a dx l i]=some (.v (.tup [.str (stx (sgA l i)),rs a dx l i]) false):=by
 rw[S7 rfl rfl];unfold jG;have b:(startM 1 (rs a dx l i) [])[0]? = some _:=rfl;have e:=vw (F:=runM GM TM fu k) (mL gm_c b) (ib gm_c b) (mI (ib gm_c b) (U7 (i:=1))) (by rw[jK];unfold B3;split<;>omega);rw[Er h]at e;exact Q8 (O1 (U9 b e rfl))
noncomputable def dgA(l:ge Nat)(i:Nat):Bool:=match l[i]? with
 | some c=>decide (48<=c)&&decide (c<=57)
 | none=>false
theorem cD(b:δ[j]? = some (.od (rs a dx l i)))(h:i<=l.length):evE GM (runM GM TM fu (k+1)) (.mth j 0) δ=some (.ok (.str (stx (sgA l i))) .strong):=mM gm_c gm_m b (m_sg h)
theorem qG:evE GM F (.glb "DIGITS") δ=some (.ok (.str (stx [48,49,50,51,52,53,54,55,56,57])) .strong):=by
 unfold evE;rw[←Eo];rfl
theorem m_at(h:i<=l.length):runM GM TM fu (k+2) 1 [rs a dx l i]=some (.v (.tup [.bl (dgA l i),rs a dx l i]) false):=by
 rw[S7 rfl rfl];unfold jH;have b:(startM 1 (rs a dx l i) [])[0]? = some _:=rfl;have c:=b_lt (ib gm_c b) (Ep (mL (F:=runM GM TM fu (k+1)) gm_c b));rw[jK]at c;by_cases z:i<l.length
 ·rw[x6 (by omega)]at c;have f:=o4 z;have g:=cD (fu:=fu) (k:=k) b h;rw[cC f]at g;have m:=El c (En (inS1 g qG));have e:dgA l i=decide (l[i]∈[48,49,50,51,52,53,54,55,56,57]):=by
   unfold dgA;rw[f];show(decide (48<=l[i])&&decide (l[i]<=57))=_;by_cases w:48<=l[i]/\l[i]<=57
   ·rw[x6 w.1,x6 w.2,x6 (by simp only[i6,F7];omega)];rfl
   ·rw[A8 (p:=l[i]∈_) (λ z=>w (by simp only[i6,F7,G7]at z;omega))];by_cases d:48<=l[i]
    ·rw[x6 d,A8 λ j=>w ⟨d,j⟩];rfl
    ·rw[A8 d];rfl
  rw[e];exact Q8 (O1 (U9 b m rfl))
 ·rw[A8 (by omega)]at c;have e:dgA l i=false:=by unfold dgA;rw[P5 (by omega)]
  rw[e];exact Q8 (O1 (U9 b (Em c) rfl))
theorem jL(b:δ[j]? = some (.od (rs a dx l i)))(h:i<=l.length):evE GM (runM GM TM fu (k+2)) (.mth j 1) δ=some (.ok (.bl (dgA l i)) .strong):=mM gm_c gm_m b (m_at h)
theorem Es(h:x=1):rdD 651 a dx (stx l) ((i:Int)+x)=rs a dx l (i+1):=by rw[h];rfl
theorem qH(b:δ[j]? = some (.od (rs a dx l i))):evS GM F fu (.fau j (.int 1)) δ=some (.nx (δ.set j (.od (rs a dx l (i+1))))):=by
 rw[vy gm_c b (U7),Es rfl]
theorem m_tk(j:Sgn l)(h:l[i]? = some c):runM GM TM fu (k+2) 2 [rs a dx l i,.str (stx [c])]=some (.v (.tup [.non,rs a dx l (i+1)]) false):=by
 obtain⟨hi,_⟩:=n7.mp h;rw[S7 rfl rfl];unfold fx;have e:(startM 2 (rs a dx l i) [.str (stx [c])])[0]? = some _:=rfl;have g:=cD (fu:=fu) (k:=k) e (by omega);rw[cC h]at g;have b:Sgn [c]:=λ d m=>by rw[q9.mp m];exact j c (M9 h)
 have f:=neS b b g (C3 (n:=1) rfl);rw[x6 rfl]at f;exact vA (L4 (A6 f) (u3 (qH e) rfl))
theorem D9{a:ge Sv}(h:evS GM F fu m δ=some (.ex c a)):evSs GM F fu (m::r) δ=some (.ex c a):=by
 show(match evS GM F fu m δ with | some (.nx a)=>evSs GM F fu r a | o=>o)=_;rw[h]
theorem jM{a r:ge MS}(h:tstD (evE GM F c δ)=some (.ok true))(f:evSs GM F fu a δ=some (.ex e d)):evSs GM F fu (.iff c a b::r) δ=some (.ex e d):=by
 refine D9 ?_;show Rt.thnS δ _ _=_;rw[h];exact f
theorem jN(a:(GM.cls.lookup c).isSome=true)(h:evE GM F e δ=some (.ok d cl)):evS GM F fu (.rse c e) δ=some (.ex c δ):=by
 show(if(GM.cls.lookup c).isSome=true then Re.thnS δ _ (λ _ _=>some _)else none)=_;rw[i3 a,h];rfl
theorem qI(j:Sgn l)(q:c<0x110000)(o:i<=l.length)(h:l[i]? ≠ some c):runM GM TM fu (k+2) 2 [rs a e l i,.str (stx [c])]=some (.x "NoText"):=by
 rw[S7 rfl rfl];unfold fx;have r:(startM 2 (rs a e l i) [.str (stx [c])])[0]? = some (.od (rs a e l i)):=rfl;have u:=cD (fu:=fu) (k:=k) r o;have g:Sgn [c]:=λ d p=>by rw[q9.mp p];exact q
 have f:=neS (qF j i) g u (C3 (n:=1) rfl);have m:sgA l i≠[c]:=λ z=>by
  by_cases w:i<l.length
  ·have b:=o4 w;rw[cC b]at z;rw[b]at h;exact h (by rw[(di z).1])
  ·rw[qE (by omega)]at z;cases z
 rw[A8 m]at f;obtain⟨x,t⟩:∃x,evE GM _ (.fst [.fmt (.var 1),.str " is missing"]) (startM 2 (rs a e l i) [.str (stx [c])])=some _:=⟨_,rfl⟩;exact F1 (jM (A6 f) (D9 (jN (by decide +kernel) t)))
theorem Et(c:i<=l.length)(h:dgA l i=false):runM GM TM fu (k+3) 3 [rs a dx l i]=some (.x "NoText"):=by
 rw[S7 rfl rfl];unfold fy;have d:(startM 2 (rs a dx l i) [])[0]? = some _:=rfl;have b:=jL (fu:=fu) (k:=k) d c;rw[h]at b;exact F1 (jM (A6 (hJ b)) (D9 (jN (by decide +kernel) (E4))))
theorem Eu:∀n,n<10->ay (48+n) [48,49,50,51,52,53,54,55,56,57]=(n:Int):=by decide +kernel
theorem m_dg{n:Nat}(f:n<10)(h:l[i]? = some (48+n)):runM GM TM fu (k+3) 3 [rs a dx l i]=some (.v (.tup [.int (n:Int),rs a dx l (i+1)]) false):=by
 obtain⟨hi,_⟩:=n7.mp h;rw[S7 rfl rfl];unfold fy;have b:(startM 2 (rs a dx l i) [])[0]? = some _:=rfl;have e:=jL (fu:=fu) (k:=k) b (by omega);have g:dgA l i=true:=by unfold dgA;rw[h];show(decide _&&decide _)=true;rw[x6 (by omega),x6 (by omega)];rfl
 rw[g]at e;have c:=cD (fu:=fu) (k:=k+1) b (by omega);rw[cC h]at c;have j:evE GM (runM GM TM fu (k+2)) (.fnd (.glb "DIGITS") (.mth 0 0)) (startM 2 (rs a dx l i) [])=some (.ok (.int (n:Int)) .strong):=by unfold evE;rw[qG,c];show((fndD (.str (stx [48,49,50,51,52,53,54,55,56,57])) (.str (stx [48+n]))).map λ d=>Re.ok d .strong)=_;unfold fndD;dsimp only;rw[W3];dsimp only;rw[W3,Eu n f];rfl
 exact Q8 (L4 (A6 (hJ e)) (u3 (az j rfl) (u3 (qH (i:=i) rfl) (O1 (U9 rfl (C3 (n:=1) (d:=.int (n:Int)) rfl) rfl)))))
end
theorem Ev{l:ge Nat}(h:l.drop i=c::r):l[i]? = some c/\l.drop (i+1)=r/\i<l.length:=by
 have a:i<l.length:=by
  by_cases z:i<l.length
  ·exact z
  ·rw[kI (by omega)]at h;cases h
 rw[Z7 a]at h;obtain⟨d,b⟩:=di h;exact⟨by rw[o4 a,d],b,a⟩
noncomputable def sm:ge Nat->Nat
 | []=>0
 | d::r=>2^d+sm r
noncomputable def rise:Nat->ge Nat->Bool
 | _,[]=>true
 | a,d::r=>decide (a<d)&&decide (d<10)&&rise d r
theorem Ew:∀d,d<10->∀c,c<2^d->Builtin.bitOr ((c:Nat):Int) (1*2^((d:Nat):Int).toNat)=((c+2^d:Nat):Int):=by decide +kernel
section
variable {fu k a dx:Nat} {l:ge Nat}
noncomputable def cdB:ge MS:=[.mst 3 0 3 [],.iff (.cmp .LtE (.var 3) (.var 1)) [.rse "NoText" (.str "cards are written from the least on, each once")] [],.set 2 false (.bin .BitOr (.var 2) (.bin .LShift (.int 1) (.var 3))),.set 1 false (.var 3)]
abbrev Sc(a dx:Nat)(l:ge Nat)(i t c:Nat)(x:Sv):ge Sv:=[.od (rs a dx l i),.val (.int (t:Int)),.val (.int (c:Int)),x]
theorem sh_1{d:Nat}(hd:d<10)(h:evE GM F e δ=some (.ok (.int (d:Int)) cx)):evE GM F (.bin .LShift (.int 1) e) δ=some (.ok (.int (1*2^((d:Nat):Int).toNat)) .strong):=by
 have:=aA (op:=.LShift) (U7) h (by
  show(if 0<=_/\_<=1000000/\(1:Int).natAbs<2^64 then some (Re.ok _ .strong)else none)=_;rw[i3 ⟨by omega,by omega,by decide⟩])
 exact this
theorem Ex{G:Gs}{F:Nat->ge DV->EC Ou}{δ:ge Sv}{a b:ME}{i j:Int}{cx cy:Cl}(ha:evE G F a δ=some (.ok (.int i) cx))(hb:evE G F b δ=some (.ok (.int j) cy)):evE G F (.cmp .LtE a b) δ=some (.ok (.bl (decide (i<=j))) .strong):=bE ha hb rfl
end
inductive Pt where
 | fin (n:Nat) | ask (s:Bool) (D:List Nat) (a b:Pt)
def pl:Pt->Pl
 | .fin n=>.fin (n:Int)
 | .ask s D a b=>.ask s (sm D) (pl a) (pl b)
noncomputable def tt:Pt->ge Nat
 | .fin n=>[48+n]
 | .ask s D a b=>(if s then 114 else 99)::(D.map (48 + ·)++(40::(tt a++(44::(tt b++[41])))))
def Ris(D:ge Nat):Bool:=match D with
 | []=>false
 | d::r=>decide (d<10)&&rise d r
def Vd:Pt->Prop
 | .fin n=>n<10
 | .ask _ D a b=>Ris D=true/\Vd a/\Vd b
noncomputable def dig(c:Nat):Bool:=decide (48<=c)&&decide (c<=57)
def cds(t:Nat):ge Nat->EC (ge Nat×ge Nat)
 | []=>some ([],[])
 | c::r=>if dig c then(if c - 48<=t then none else match cds (c - 48) r with
   | some (D,r')=>some ((c - 48)::D,r')
   | none=>none)else some ([],c::r)
def cd0:ge Nat->EC (ge Nat×ge Nat)
 | []=>none
 | c::r=>if dig c then(match cds (c - 48) r with
   | some (D,r')=>some ((c - 48)::D,r')
   | none=>none)else none
noncomputable def tk(c:Nat):ge Nat->EC (ge Nat)
 | []=>none
 | d::r=>if d=c then some r else none
def par:Nat->ge Nat->EC (Pt×ge Nat)
 | 0,_=>none
 | _+1,[]=>none
 | n+1,c::r=>if dig c then some (.fin (c - 48),r)else if c=114\/c=99 then
   (cd0 r).bind λ x=>(tk 40 x.2).bind λ r2=>(par n r2).bind λ y=>(tk 44 y.2).bind λ r3=>(par n r3).bind λ z=>(tk 41 z.2).map λ r4=>(.ask (decide (c=114)) x.1 y.1 z.1,r4)
  else none
theorem aN(h:dig c=true):48<=c/\c<=57:=by
 unfold dig at h;simpa using h
theorem cE(h:tk c x=some r):x=c::r:=by
 cases x with
 | nil=>cases h
 | cons d y=>
  have h:(if d=c then some y else none)=some r:=h;split at h
  ·rename_i z;cases h;rw[z]
  ·cases h
theorem tk_c:tk c (c::r)=some r:=i3 rfl
theorem qJ:∀(x:ge Nat) (t:Nat) (D r:ge Nat),cds t x=some (D,r)->x=D.map (48 + ·)++r/\rise t D=true
 | [],t,D,r,h=>by cases h;exact⟨rfl,rfl⟩
 | c::x,t,D,r,h=>by
  unfold cds at h;split at h
  ·rename_i b;split at h
   ·cases h
   ·rename_i ht;split at h
    ·rename_i D' r' a;cases h;obtain⟨e,d⟩:=qJ x _ _ _ a;obtain⟨g1,g2⟩:=aN b;refine⟨?_,?_⟩
     ·rw[J2,T7,←e,show 48+_=c by omega]
     ·unfold rise;rw[x6 (by omega),x6 (by omega),d];rfl
    ·cases h
  ·cases h;exact⟨rfl,rfl⟩
theorem qK(h:cd0 x=some (D,r)):x=D.map (48 + ·)++r/\Ris D=true:=by
 cases x with
 | nil=>cases h
 | cons c x=>
  have h:(if dig c then(match cds _ x with
   | some (D,a)=>some _
   | none=>none)else none)=some (D,r):=h
  split at h
  ·rename_i d;split at h
   ·rename_i g a b;cases h;obtain⟨f,e⟩:=qJ x _ _ _ b;obtain⟨g1,g2⟩:=aN d;refine⟨?_,?_⟩
    ·rw[J2,T7,←f,show 48+_=c by omega]
    ·show(decide _&&rise _ g)=true;rw[x6 (by omega),e];rfl
   ·cases h
  ·cases h
theorem jO:∀(n:Nat) (x:ge Nat) (p:Pt) (r:ge Nat),par n x=some (p,r)->x=tt p++r/\Vd p
 | 0,x,p,r,h=>by cases h
 | n+1,[],p,r,h=>by cases h
 | n+1,c::x,p,r,h=>by
  unfold par at h;split at h
  ·rename_i o;cases h;obtain⟨g1,g2⟩:=aN o;refine⟨?_,show c - 48<10 by omega⟩;show _=_::x;rw[show 48+_=c by omega]
  ·split at h
   ·rename_i q;obtain⟨j,A,h⟩:=m7.mp h;obtain⟨y2,y,h⟩:=m7.mp h;obtain⟨i,w,h⟩:=m7.mp h;obtain⟨y4,v,h⟩:=m7.mp h;obtain⟨g,u,h⟩:=m7.mp h;obtain⟨y6,t,h⟩:=j7.mp h;obtain⟨D,r1⟩:=j;obtain⟨a,r2⟩:=i;obtain⟨b,r3⟩:=g;cases h;obtain⟨l,k⟩:=qK A;have f:=cE y;have e:=cE v;have d:=cE t;obtain⟨p1,p2⟩:=jO n _ _ _ w;obtain⟨p3,p4⟩:=jO n _ _ _ u;dsimp only at f e d;refine⟨?_,k,p2,p4⟩;have m:(if(decide (c=114))=true then 114 else 99)=c:=by
     rcases q with z | z
     ·rw[z];rfl
     ·rw[z];rfl
    show c::x=(_::_)++r;rw[m,l,f,p1,e,p3,d];simp
   ·cases h
section
variable {fu k a dx:Nat} {l:ge Nat}
structure Suf(l x:List Nat):Prop where
 le:x.length<=l.length
 eq:l.drop (l.length - x.length)=x
theorem Suf.tail(h:Suf l (c::x)):Suf l x/\l[l.length - (c::x).length]? = some c/\l.length - x.length=l.length - (c::x).length+1:=by
 obtain⟨d,b,h3⟩:=Ev h.eq;have a:=h.le;rw[o5]at a;have e:l.length - x.length=l.length - (c::x).length+1:=by rw[o5];omega
 exact⟨⟨by omega,by rw[e];exact b⟩,d,e⟩
theorem Suf.drop:∀{z:ge Nat},Suf l (z++y)->Suf l y
 | [],h=>h
 | _::z,h=>Suf.drop h.tail.1
abbrev sx(a dx:Nat)(l x:ge Nat):DV:=rs a dx l (l.length - x.length)
theorem sx_t(h:Suf l (c::x)):rs a dx l (l.length - (c::x).length+1)=sx a dx l x:=by rw[←h.tail.2.2]
theorem qL(h:Suf l []):l[l.length - ([]:ge Nat).length]? = none:=by
 rw[fZ];exact P5 (by omega)
def hd0:ge Nat->Bool
 | []=>false
 | c::_=>dig c
theorem qM(h:Suf l x):dgA l (l.length - x.length)=hd0 x:=by
 cases x with
 | nil=>unfold dgA;rw[qL h];rfl
 | cons c x=>unfold dgA;rw[h.tail.2.1];rfl
theorem v_at(h:Suf l x)(b:δ[j]? = some (.od (sx a dx l x))):evE GM (runM GM TM fu (k+2)) (.mth j 1) δ=some (.ok (.bl (hd0 x)) .strong):=by
 rw[jL b (by omega),qM h]
noncomputable def rT(a dx:Nat)(l:ge Nat)(d:DV)(o:EC (ge Nat)):EC Ou:=match o with
 | some r=>some (.v (.tup [d,sx a dx l r]) false)
 | none=>some (.x "NoText")
theorem v_tk(b:Sgn l)(hc:c<1000)(h:Suf l x):runM GM TM fu (k+2) 2 [sx a dx l x,.str (stx [c])]=rT a dx l .non (tk c x):=by
 cases x with
 | nil=>exact qI b (by omega) (by omega) (by rw[qL h];intro z;cases z)
 | cons d x=>
  by_cases z:d=c
  ·subst z;rw[tk_c,m_tk b h.tail.2.1,sx_t h];rfl
  ·have:tk c (d::x)=none:=i4 z;rw[this];exact qI b (by omega) (by omega) (by rw[h.tail.2.1];intro w;exact z (v5 w))
theorem v_dg(h:Suf l (c::x))(b:dig c=true):runM GM TM fu (k+3) 3 [sx a dx l (c::x)]=some (.v (.tup [.int ((c - 48:Nat):Int),sx a dx l x]) false):=by
 obtain⟨g1,g2⟩:=aN b;have:=m_dg (fu:=fu) (k:=k) (a:=a) (dx:=dx) (n:=c - 48) (by omega) (by rw[show 48+_=c by omega];exact h.tail.2.1);rw[sx_t h]at this;exact this
theorem qN(h:Suf l x)(b:hd0 x=false):runM GM TM fu (k+3) 3 [sx a dx l x]=some (.x "NoText"):=Et (by omega) (by rw[qM h];exact b)
theorem sg_s(h:Suf l (c::x)):sgA l (l.length - (c::x).length)=[c]:=cC h.tail.2.1
theorem v_sd(f:Sgn l)(h:Suf l x)(h0:hd0 x=false):runM GM TM fu (k+3) 5 [sx a dx l x]=(match x with
  | []=>some (.x "NoText")
  | c::r=>if c=114\/c=99 then some (.v (.tup [side (decide (c=114)),sx a dx l r]) false)else some (.x "NoText")):=by
 rw[S7 rfl rfl];unfold jI;have e:(startM 1 (sx a dx l x) [])[0]? = some (.od (sx a dx l x)):=rfl;have s1:Sgn [114]:=λ d i=>by rw[q9.mp i];decide
 have b:=eqS (qF f _) s1 (cD e (by omega)) (E4 (x:="r"):evE GM (runM GM TM fu (k+2)) (.str "r") _=_);by_cases q:∃r,x=114::r
 ·obtain⟨r,rfl⟩:=q;rw[sg_s h,x6 rfl]at b;have t:=v_tk (fu:=fu) (k:=k) (a:=a) (dx:=dx) (c:=114) f (by decide) h;rw[tk_c]at t;exact Q8 (mO (A6 b) (u3 (bG (l:=[(.str "r",.strong)]) gm_c gm_m e (B4 E4 u4) rfl t) (O1 (U9 rfl (E4 (x:="row")) rfl))))
 ·have g:sgA l (l.length - x.length)≠[114]:=λ z=>by
   cases x with
   | nil=>rw[qE (by rw[fZ];omega)]at z;cases z
   | cons c r=>rw[sg_s h]at z;exact q ⟨r,by rw[(di z).1]⟩
  rw[A8 g]at b;have t:=v_tk (fu:=fu) (k:=k) (a:=a) (dx:=dx) (c:=99) f (by decide) h;cases x with
  | nil=>exact F1 (L4 (A6 b) (D9 (bH (l:=[(.str "c",.strong)]) gm_c gm_m e (B4 E4 u4) rfl t)))
  | cons c r=>
   have j:c≠114:=λ z=>q ⟨r,by rw[z]⟩;by_cases w:c=99
   ·subst w;rw[tk_c]at t;exact Q8 (L4 (A6 b) (u3 (bG (l:=[(.str "c",.strong)]) gm_c gm_m e (B4 E4 u4) rfl t) (O1 (U9 rfl (E4 (x:="column")) rfl))))
   ·have:tk 99 (c::r)=none:=i4 w;rw[this]at t;show _=(if c=114\/c=99 then _ else _);rw[i4 (by rintro(z | z);exact j z;exact w z)];exact F1 (L4 (A6 b) (D9 (bH (l:=[(.str "c",.strong)]) gm_c gm_m e (B4 E4 u4) rfl t)))
theorem Ey{a:ge Sv}(h:test δ=some (.ok true))(b:body δ=some (.ex c a)):C6 test body (n+1) δ=some (.ex c a):=by
 unfold C6;rw[h];dsimp only;rw[b]
theorem qO(hs:Sgn l):∀(x:ge Nat) (t c m:Nat) (v:Sv),Suf l x->t<10->c<2^(t+1)->10 - t<m ->
  (match cds t x with
   | some (D,r)=>∃t' v',C6 (λ δ'=>tstD (evE GM (runM GM TM fu (k+3)) (.mth 0 1) δ')) (λ δ'=>evSs GM (runM GM TM fu (k+3)) fu cdB δ') m (Sc a dx l (l.length - x.length) t c v)=some (.nx (Sc a dx l (l.length - r.length) t' (c+sm D) v'))/\Suf l r
   | none=>∃δ',C6 (λ δ'=>tstD (evE GM (runM GM TM fu (k+3)) (.mth 0 1) δ')) (λ δ'=>evSs GM (runM GM TM fu (k+3)) fu cdB δ') m (Sc a dx l (l.length - x.length) t c v)=some (.ex "NoText" δ'))
 | [],t,c,m+1,v,h,_,_,_=>by have e:=v_at (fu:=fu) (k:=k+1) (a:=a) (dx:=dx) (δ:=Sc a dx l (l.length - ([]:ge Nat).length) t c v) (j:=0) h rfl;exact⟨t,v,mH (test:=λ δ'=>tstD (evE GM (runM GM TM fu (k+3)) (.mth 0 1) δ')) (A6 e),h⟩
 | y::x,t,c,m+1,v,h,ht,hc,hm=>by
  have e:=v_at (fu:=fu) (k:=k+1) (a:=a) (dx:=dx) (δ:=Sc a dx l (l.length - (y::x).length) t c v) (j:=0) h rfl;cases hd:dig y with
  | false=>
   have q:cds t (y::x)=some ([],y::x):=by unfold cds;rw[hd];rfl
   rw[q];rw[show hd0 (y::x)=false from hd]at e;exact⟨t,v,mH (test:=λ δ'=>tstD (evE GM (runM GM TM fu (k+3)) (.mth 0 1) δ')) (A6 e),h⟩
  | true=>
   rw[show hd0 (y::x)=true from hd]at e;obtain⟨g1,g2⟩:=aN hd;obtain⟨d,rfl⟩:∃d,y=48+d:=⟨y - 48,by omega⟩;have hd9:d<10:=by omega
   have D1:=v_dg (fu:=fu) (k:=k) (a:=a) (dx:=dx) h hd;rw[show 48+d - 48=d by omega]at D1;have c1:=Ex (C3 (G:=GM) (F:=runM GM TM fu (k+3)) (n:=3) (d:=.int (d:Int)) (δ:=[.od (sx a dx l x),.val (.int (t:Int)),.val (.int (c:Int)),.val (.int (d:Int))]) rfl) (C3 (n:=1) (d:=.int (t:Int)) rfl);by_cases z:d<=t
   ·have q:cds t ((48+d)::x)=none:=by
     unfold cds;rw[hd,i3 rfl,i3 (by omega)]
    rw[q];rw[x6 (by omega)]at c1;refine⟨[.od (sx a dx l x),.val (.int (t:Int)),.val (.int (c:Int)),.val (.int (d:Int))],?_⟩;have eb:evSs GM (runM GM TM fu (k+3)) fu cdB (Sc a dx l (l.length - ((48+d)::x).length) t c v)=some (.ex "NoText" [.od (sx a dx l x),.val (.int (t:Int)),.val (.int (c:Int)),.val (.int (d:Int))]):=by unfold cdB;exact u3 (U8 (l:=[]) (by decide) gm_c gm_m rfl u4 rfl D1) (jM (A6 c1) (D9 (jN (by decide +kernel) (E4 (x:="cards are written from the least on, each once")))))
    exact Ey (test:=λ δ'=>tstD (evE GM (runM GM TM fu (k+3)) (.mth 0 1) δ')) (body:=λ δ'=>evSs GM (runM GM TM fu (k+3)) fu cdB δ') (A6 e) eb
   ·rw[A8 (by omega)]at c1;have hc2:c<2^d:=q5 hc (Nat.pow_le_pow_right (by decide) (by omega));have hc3:c+2^d<2^(d+1):=by rw[Nat.pow_succ];omega
    have ih:=qO hs x d (c+2^d) m (.val (.int (d:Int))) h.tail.1 hd9 hc3 (by omega);have c2:=aA (op:=.BitOr) (C3 (G:=GM) (F:=runM GM TM fu (k+3)) (n:=2) (d:=.int (c:Int)) (δ:=[.od (sx a dx l x),.val (.int (t:Int)),.val (.int (c:Int)),.val (.int (d:Int))]) rfl) (sh_1 hd9 (C3 (n:=3) (d:=.int (d:Int)) rfl)) (r:=some (.ok (.int ((c+2^d:Nat):Int)) .strong)) (by
     show some (Re.ok (.int (Builtin.bitOr (c:Int) (1*2^(d:Int).toNat))) .strong)=_;rw[Ew d hd9 c hc2])
    have eb:evSs GM (runM GM TM fu (k+3)) fu cdB (Sc a dx l (l.length - ((48+d)::x).length) t c v)=some (.nx (Sc a dx l (l.length - x.length) d (c+2^d) (.val (.int (d:Int))))):=(by unfold cdB;exact u3 (U8 (l:=[]) (by decide) gm_c gm_m rfl u4 rfl D1) (L4 (A6 c1) (u3 (az (i:=2) c2 rfl) (u3 (az (i:=1) (C3 (n:=3) (d:=.int (d:Int)) rfl) rfl) rfl))));have q:cds t ((48+d)::x)=(match cds d x with | some (D,r')=>some (d::D,r') | none=>none):=by
     show(if dig (48+d)then(if 48+d - 48<=t then none else match cds (48+d - 48) x with
      | some (D,r')=>some ((48+d - 48)::D,r')
      | none=>none)else some ([],(48+d)::x))=_
     rw[hd,i3 rfl,show 48+d - 48=d by omega,i4 z]
    rw[q];have wt:∀o,C6 (λ δ'=>tstD (evE GM (runM GM TM fu (k+3)) (.mth 0 1) δ')) (λ δ'=>evSs GM (runM GM TM fu (k+3)) fu cdB δ') m (Sc a dx l (l.length - x.length) d (c+2^d) (.val (.int (d:Int))))=o->C6 (λ δ'=>tstD (evE GM (runM GM TM fu (k+3)) (.mth 0 1) δ')) (λ δ'=>evSs GM (runM GM TM fu (k+3)) fu cdB δ') (m+1) (Sc a dx l (l.length - ((48+d)::x).length) t c v)=o:=λ o g=>vo (test:=λ δ'=>tstD (evE GM (runM GM TM fu (k+3)) (.mth 0 1) δ')) (body:=λ δ'=>evSs GM (runM GM TM fu (k+3)) fu cdB δ') (A6 e) eb g
    cases hq:cds d x with
    | none=>
     rw[hq]at ih;obtain⟨δ',g⟩:=ih;exact⟨δ',wt _ g⟩
    | some y=>
     obtain⟨D,r⟩:=y;rw[hq]at ih;obtain⟨t',v',g,gs⟩:=ih;refine⟨t',v',?_,gs⟩;rw[show c+sm (d::D)=c+2^d+sm D by show c+(2^d+sm D)=_;omega];exact wt _ g
theorem v_cd(t:Sgn l)(u:20<fu)(h:Suf l x):runM GM TM fu (k+4) 6 [sx a dx l x]=(match cd0 x with
  | some (D,r)=>some (.v (.tup [.int ((sm D:Nat):Int),sx a dx l r]) false)
  | none=>some (.x "NoText"))/\∀D r,cd0 x=some (D,r)->Suf l r:=by
 rw[S7 rfl rfl];unfold jJ;cases x with
 | nil=>exact⟨F1 (D9 (Y3 (l:=[]) gm_c gm_m rfl u4 rfl (qN (k:=k) h rfl))),λ D r z=>by cases z⟩
 | cons c x=>
  cases e:dig c with
  | false=>
   have q:cd0 (c::x)=none:=by show(if dig c then _ else none)=_;rw[e];rfl
   rw[q];exact⟨F1 (D9 (Y3 (l:=[]) gm_c gm_m rfl u4 rfl (qN (k:=k) h e))),λ D r z=>by cases z⟩
  | true=>
   obtain⟨g1,g2⟩:=aN e;obtain⟨d,rfl⟩:∃d,c=48+d:=⟨c - 48,by omega⟩;have b:d<10:=by omega
   have j:=v_dg (fu:=fu) (k:=k) (a:=a) (dx:=dx) h e;rw[show 48+d - 48=d by omega]at j;have g:=qO (fu:=fu) (k:=k) (a:=a) (dx:=dx) t x d (2^d) fu .no h.tail.1 b (Nat.pow_lt_pow_right (by decide) (by omega)) (by omega);have o:evE GM (runM GM TM fu (k+3)) (.bin .LShift (.int 1) (.var 1)) [.od (sx a dx l x),.val (.int (d:Int)),.no,.no]=some (.ok (.int ((2^d:Nat):Int)) .strong):=by
    rw[sh_1 b (C3 (n:=1) (d:=.int (d:Int)) rfl)]
    congr 3
    rw[P9,Int.one_mul];exact(Int.natCast_pow 2 d).symm
   have q:cd0 ((48+d)::x)=(match cds d x with | some (D,f)=>some (d::D,f) | none=>none):=by
    show(if dig (48+d)then(match cds (48+d - 48) x with
     | some (D,f)=>some ((48+d - 48)::D,f)
     | none=>none)else none)=_
    rw[e,i3 rfl,show 48+d - 48=d by omega]
   rw[q];cases m:cds d x with
   | none=>
    rw[m]at g;obtain⟨p,g⟩:=g;exact⟨F1 (u3 (U8 (l:=[]) (by decide) gm_c gm_m rfl u4 rfl j) (u3 (az (i:=2) o rfl) (D9 g))),λ D r z=>by cases z⟩
   | some y=>
    obtain⟨D,r⟩:=y;rw[m]at g;obtain⟨t',v',g,v⟩:=g;refine⟨?_,λ D' f z=>by cases z;exact v⟩;exact Q8 (u3 (U8 (l:=[]) (by decide) gm_c gm_m rfl u4 rfl j) (u3 (az (i:=2) o rfl) (vq g (O1 (U9 rfl (C3 (n:=2) (d:=.int ((2^d+sm D:Nat):Int)) rfl) rfl)))))
end
section
variable {fu k a dx:Nat} {l:ge Nat}
def rP(a dx:Nat)(l:ge Nat)(o:EC (Pt×ge Nat)):EC Ou:=match o with
 | some (p,r)=>some (.v (.tup [dv (pl p),sx a dx l r]) false)
 | none=>some (.x "NoText")
theorem qP(h:Suf l x)(e:par n x=some (p,r)):Suf l r/\r.count 40<=x.count 40:=by
 obtain⟨a,_⟩:=jO n x p r e;rw[a]at h;refine⟨h.drop,?_⟩;rw[a,List.count_append];omega
theorem v_pl(hs:Sgn l)(hfu:20<fu):∀(n k:Nat) (x:ge Nat),Suf l x->x.count 40<n->n+5<=k->runM GM TM fu k 4 [sx a dx l x]=rP a dx l (par n x)
 | 0,k,x,_,h,_=>by omega
 | n+1,k,x,h,hn,hk=>by
  obtain⟨k,rfl⟩:∃k',k=k'+5:=⟨k - 5,by omega⟩
  rw[S7 (d:=fz) rfl rfl]
  unfold fz
  have e:=v_at (fu:=fu) (k:=k+2) (a:=a) (dx:=dx) (δ:=startM 5 (sx a dx l x) []) (j:=0) h rfl
  have S1:=λ (h0:hd0 x=false)=>v_sd (fu:=fu) (k:=k+1) (a:=a) (dx:=dx) hs h h0
  cases x with
  | nil=>exact F1 (L4 (A6 e) (D9 (Y3 (l:=[]) gm_c gm_m rfl u4 rfl (S1 rfl))))
  | cons c x=>
   cases hd:dig c with
   | true=>
    rw[show hd0 (c::x)=true from hd]at e
    have q:par (n+1) (c::x)=some (.fin (c - 48),x):=by unfold par;rw[hd,i3 rfl]
    rw[q]
    exact Q8 (mO (A6 e) (O1 (vz gm_c gm_m rfl (v_dg (k:=k+1) h hd))))
   | false=>
    rw[show hd0 (c::x)=false from hd]at e
    have S2:=S1 hd
    by_cases hc:c=114\/c=99
    ·have S2':runM GM TM fu (k+4) 5 [sx a dx l (c::x)]=some (.v (.tup [side (decide (c=114)),sx a dx l x]) false):=S2.trans (i3 hc)
     have q:par (n+1) (c::x)=(cd0 x).bind λ x=>(tk 40 x.2).bind λ r2=>(par n r2).bind λ y=>(tk 44 y.2).bind λ r3=>(par n r3).bind λ z=>(tk 41 z.2).map λ r4=>(Pt.ask (decide (c=114)) x.1 y.1 z.1,r4):=by
      conv=>lhs;unfold par
      rw[hd,i4 (by decide),i3 hc]
     rw[q]
     obtain⟨C1,C2⟩:=v_cd (fu:=fu) (k:=k) (a:=a) (dx:=dx) hs hfu h.tail.1
     have s1:=λ (r:ge MS) (o:EC Out) (g:evSs GM (runM GM TM fu (k+4)) fu r [.od (sx a dx l x),.val (side (decide (c=114))),.no,.no,.no]=o)=>L4 (r:=.mst 1 0 5 []::r) (a:=[.rtd 0 3 "end"]) (A6 e) (u3 (U8 (l:=[]) (by decide) gm_c gm_m rfl u4 rfl S2') g)
     cases hq:cd0 x with
     | none=>
      rw[hq]at C1
      exact F1 (s1 _ _ (D9 (Y3 (l:=[]) gm_c gm_m rfl u4 rfl C1)))
     | some y=>
      obtain⟨D,r1⟩:=y
      rw[hq]at C1
      have f1:=C2 D r1 hq
      obtain⟨cx,_⟩:=qK hq
      have T1:=v_tk (fu:=fu) (k:=k+2) (a:=a) (dx:=dx) (c:=40) hs (by decide) f1
      show Ou.ofM _ _=rP a dx l ((tk 40 r1).bind λ r2=>(par n r2).bind λ y=>(tk 44 y.2).bind λ r3=>(par n r3).bind λ z=>(tk 41 z.2).map λ r4=>(Pt.ask (decide (c=114)) D y.1 z.1,r4))
      have s2:=λ (r:ge MS) (o:EC Out) (g:evSs GM (runM GM TM fu (k+4)) fu r [.od (sx a dx l r1),.val (side (decide (c=114))),.val (.int ((sm D:Nat):Int)),.no,.no]=o)=>s1 (.mst 2 0 6 []::r) o (u3 (U8 (l:=[]) (by decide) gm_c gm_m rfl u4 rfl C1) g)
      cases h40:tk 40 r1 with
      | none=>
       rw[h40]at T1
       exact F1 (s2 _ _ (D9 (bH (l:=[(.str "(",.strong)]) gm_c gm_m rfl (B4 E4 u4) rfl T1)))
      | some r2=>
       rw[h40]at T1
       have e40:=cE h40
       rw[e40]at f1
       have f2:=f1.tail.1
       have n2:r2.count 40<n:=by
        rw[cx,e40]at hn
        simp only[List.count_cons,List.count_append]at hn
        have:(if(40==40)=true then 1 else 0)=1:=rfl
        simp at hn
        omega
       have P1:=v_pl hs hfu n (k+4) r2 f2 n2 (by omega)
       show Ou.ofM _ _=rP a dx l ((par n r2).bind λ y=>(tk 44 y.2).bind λ r3=>(par n r3).bind λ z=>(tk 41 z.2).map λ r4=>(Pt.ask (decide (c=114)) D y.1 z.1,r4))
       have s3:=λ (r:ge MS) (o:EC Out) (g:evSs GM (runM GM TM fu (k+4)) fu r [.od (sx a dx l r2),.val (side (decide (c=114))),.val (.int ((sm D:Nat):Int)),.no,.no]=o)=>s2 (.msx 0 2 [.str "("]::r) o (u3 (bG (l:=[(.str "(",.strong)]) gm_c gm_m rfl (B4 E4 u4) rfl T1) g)
       cases hp1:par n r2 with
       | none=>
        rw[hp1]at P1
        exact F1 (s3 _ _ (D9 (Y3 (l:=[]) gm_c gm_m rfl u4 rfl P1)))
       | some y=>
        obtain⟨pa,r3⟩:=y
        rw[hp1]at P1
        obtain⟨f3,n3⟩:=qP f2 hp1
        have T2:=v_tk (fu:=fu) (k:=k+2) (a:=a) (dx:=dx) (c:=44) hs (by decide) f3
        show Ou.ofM _ _=rP a dx l ((tk 44 r3).bind λ r3=>(par n r3).bind λ z=>(tk 41 z.2).map λ r4=>(Pt.ask (decide (c=114)) D pa z.1,r4))
        have s4:=λ (r:ge MS) (o:EC Out) (g:evSs GM (runM GM TM fu (k+4)) fu r [.od (sx a dx l r3),.val (side (decide (c=114))),.val (.int ((sm D:Nat):Int)),.val (dv (pl pa)),.no]=o)=>s3 (.mst 3 0 4 []::r) o (u3 (U8 (l:=[]) (by decide) gm_c gm_m rfl u4 rfl P1) g)
        cases h44:tk 44 r3 with
        | none=>
         rw[h44]at T2
         exact F1 (s4 _ _ (D9 (bH (l:=[(.str ",",.strong)]) gm_c gm_m rfl (B4 E4 u4) rfl T2)))
        | some r4=>
         rw[h44]at T2
         have e44:=cE h44
         rw[e44]at f3 n3
         have f4:=f3.tail.1
         have n4:r4.count 40<n:=by
          simp only[List.count_cons]at n3
          simp at n3
          omega
         have P2:=v_pl hs hfu n (k+4) r4 f4 n4 (by omega)
         show Ou.ofM _ _=rP a dx l ((par n r4).bind λ z=>(tk 41 z.2).map λ r4=>(Pt.ask (decide (c=114)) D pa z.1,r4))
         have s5:=λ (r:ge MS) (o:EC Out) (g:evSs GM (runM GM TM fu (k+4)) fu r [.od (sx a dx l r4),.val (side (decide (c=114))),.val (.int ((sm D:Nat):Int)),.val (dv (pl pa)),.no]=o)=>s4 (.msx 0 2 [.str ","]::r) o (u3 (bG (l:=[(.str ",",.strong)]) gm_c gm_m rfl (B4 E4 u4) rfl T2) g)
         cases hp2:par n r4 with
         | none=>
          rw[hp2]at P2
          exact F1 (s5 _ _ (D9 (Y3 (l:=[]) gm_c gm_m rfl u4 rfl P2)))
         | some z=>
          obtain⟨pb,r5⟩:=z
          rw[hp2]at P2
          obtain⟨f5,_⟩:=qP f4 hp2
          have T3:=v_tk (fu:=fu) (k:=k+2) (a:=a) (dx:=dx) (c:=41) hs (by decide) f5
          show Ou.ofM _ _=rP a dx l ((tk 41 r5).map λ r4=>(Pt.ask (decide (c=114)) D pa pb,r4))
          have s6:=λ (r:ge MS) (o:EC Out) (g:evSs GM (runM GM TM fu (k+4)) fu r [.od (sx a dx l r5),.val (side (decide (c=114))),.val (.int ((sm D:Nat):Int)),.val (dv (pl pa)),.val (dv (pl pb))]=o)=>s5 (.mst 4 0 4 []::r) o (u3 (U8 (l:=[]) (by decide) gm_c gm_m rfl u4 rfl P2) g)
          cases h41:tk 41 r5 with
          | none=>
           rw[h41]at T3
           exact F1 (s6 _ _ (D9 (bH (l:=[(.str ")",.strong)]) gm_c gm_m rfl (B4 E4 u4) rfl T3)))
          | some r6=>
           rw[h41]at T3
           exact Q8 (s6 _ _ (u3 (bG (l:=[(.str ")",.strong)]) gm_c gm_m rfl (B4 E4 u4) rfl T3) (O1 (U9 rfl (vv (B4 E4 (B4 (C3 (n:=1) (d:=side (decide (c=114))) rfl) (B4 (C3 (n:=2) (d:=.int ((sm D:Nat):Int)) rfl) (B4 (C3 (n:=3) (d:=dv (pl pa)) rfl) (B4 (C3 (n:=4) (d:=dv (pl pb)) rfl) u4))))) (show 5<=k9 by decide) rfl) rfl))))
    ·have S2':runM GM TM fu (k+4) 5 [sx a dx l (c::x)]=some (.x "NoText"):=S2.trans (i4 hc)
     have q:par (n+1) (c::x)=none:=by
      unfold par
      rw[hd,i4 (by decide),i4 hc]
     rw[q]
     exact F1 (L4 (A6 e) (D9 (Y3 (l:=[]) gm_c gm_m rfl u4 rfl S2')))
theorem Ez:Suf l l:=⟨j0 _,by rw[Nat.sub_self];rfl⟩
theorem qQ(b:Sgn l)(hn:l.count 40<=20)(hk:50<=k):runM GM TM 100 k 4 [rdD 651 a dx (stx l) 0]=rP a dx l (par 21 l):=by
 have:=v_pl (fu:=100) (a:=a) (dx:=dx) b (by decide) 21 k l Ez (by omega) (by omega);rw[show sx a dx l l=rdD 651 a dx _ 0 by show rdD 651 a dx _ _=_;rw[Nat.sub_self];rfl]at this;exact this
end
theorem EA(b:Sgn l)(d:l.count 40<=20)(e:50<=k)(t:Str)(f:t=stx l)(o:Rm)(h:Rm.of (prsG (Rm.of (runM GM TM 100 k 4 [rdD 651 0 0 t 0])))=some o):Rm.of (runM GM TM 100 k 4 [rdD 651 a dx t 0])=some (rmAt 651 a dx t o):=by
 subst f;rw[qQ b d e]at h;rw[qQ b d e];cases c:par 21 l with
 | none=>rw[c]at h;cases h;rfl
 | some y=>rw[c]at h;cases h;rfl
theorem uni:∀k t j o,Rm.of (G.prs (k+1) [.str t,.int j])=some o->∀a dx,Rm.of (runM GM TM 100 k 4 [rdD 651 a dx t j])=some (rmAt 651 a dx t o):=by
 intro k t j o h a dx;have c:Rm.of (if(j==0&&(k==54||k==55)&&pls.contains t)=true then prsG (Rm.of _)else none)=some o:=h;split at c
 ·rename_i d;rw[g9,g9,i1,v7,i1,i1]at d;obtain⟨⟨rfl,hk⟩,f⟩:=d;have b:=E8.mp f;have m:∃l,t=stx l/\Sgn l/\l.count 40<=20:=by
   unfold pls at b;simp only[i6,F7,G7]at b;rcases b with rfl | rfl | rfl | rfl | rfl | rfl | rfl | rfl | rfl
   ·exact⟨[114],by decide +kernel,by unfold Sgn;decide,by decide⟩
   ·exact⟨[114,48,40,48,44,49,41],by decide +kernel,by unfold Sgn;decide,by decide⟩
   ·exact⟨[120],by decide +kernel,by unfold Sgn;decide,by decide⟩
   ·exact⟨[114,48,40,48,44,49],by decide +kernel,by unfold Sgn;decide,by decide⟩
   ·exact⟨[114,56,40,48,44,49,41],by decide +kernel,by unfold Sgn;decide,by decide⟩
   ·exact⟨[99,48,40,48,44,49,41],by decide +kernel,by unfold Sgn;decide,by decide⟩
   ·exact⟨[53],by decide +kernel,by unfold Sgn;decide,by decide⟩
   ·exact⟨[114,55,40,49,44,50,41],by decide +kernel,by unfold Sgn;decide,by decide⟩
   ·exact⟨[55],by decide +kernel,by unfold Sgn;decide,by decide⟩
  obtain⟨l,e,g,i⟩:=m;exact EA g i (by omega) t e o c
 ·cases c
open PySem.W PySem.Spec PyProof.Rows
theorem lnS(h:b.length=n+1):∃a r,b=a::r/\r.length=n:=by cases b with | nil=>cases h | cons a r=>exact⟨a,r,rfl,Nat.succ.inj h⟩
theorem ln0(h:a.length=0):a=[]:=W6.mp h
theorem ln1{α:Type}{us:ge α}(h:us.length=1):∃a0,us=[a0]:=by obtain⟨_,_,rfl,h0⟩:=lnS h;obtain rfl:=ln0 h0;exact⟨_,rfl⟩
theorem ln2{α:Type}{us:ge α}(h:us.length=2):∃a0 a1,us=[a0,a1]:=by obtain⟨_,_,rfl,h0⟩:=lnS h;obtain⟨_,_,rfl,h1⟩:=lnS h0;obtain rfl:=ln0 h1;exact⟨_,_,rfl⟩
theorem ln3{α:Type}{us:ge α}(h:us.length=3):∃a0 a1 a2,us=[a0,a1,a2]:=by obtain⟨_,_,rfl,h0⟩:=lnS h;obtain⟨_,_,rfl,h1⟩:=lnS h0;obtain⟨_,_,rfl,h2⟩:=lnS h1;obtain rfl:=ln0 h2;exact⟨_,_,_,rfl⟩
def fn:ge Str:=fnl
def bl:ge Str:=bll
def cl:ge Str:=cll
theorem ok58:okD fn bl cl qy ["n","m","k"] ["n","m","k"] (top 83)=true:=by decide +kernel
theorem ok88:okD fn bl cl qA ["_law_some"] [] (top 124)=true:=by decide +kernel
theorem ok89:okD fn bl cl qB ["_law_some"] [] (top 125)=true:=by decide +kernel
theorem ok90:okD fn bl cl qC ["_law_great","_law_some"] [] (top 126)=true:=by decide +kernel
theorem ok92:okD fn bl cl fw ["_law_script","_law_some","_law_cell","_law_question","_law_way","_law_many"] ["_law_script"] (top 128)=true:=by decide +kernel
theorem okm0:okD [] bl cl jG ["self"] ["self"] (meth 1)=true:=by decide +kernel
theorem okm1:okD [] bl cl jH ["self"] ["self"] (meth 2)=true:=by decide +kernel
theorem okm2:okD [] bl cl fx ["self","wanted"] ["self","wanted"] (meth 3)=true:=by decide +kernel
theorem okm3:okD [] bl cl fy ["self","digit"] ["self"] (meth 4)=true:=by decide +kernel
theorem okm4:okD [] bl cl fz ["self","side","cards","no","yes"] ["self"] (meth 5)=true:=by decide +kernel
theorem okm5:okD [] bl cl jI ["self"] ["self"] (meth 6)=true:=by decide +kernel
theorem okm6:okD [] bl cl jJ ["self","last","cards","card"] ["self"] (meth 7)=true:=by decide +kernel
theorem oki:okI ["self","text"] ["self","text"] (meth 0)=true:=by decide +kernel
theorem dfok:DfOk G T:=by
 refine⟨λ f ds q=>?_,λ f n q=>?_⟩
 ·unfold G at q;cases q
 ·unfold G at q;cases q
abbrev ck(P:EV)(x:Str)(f:EG)(i:Nat)(dV pm:ED)(cd:EG):Prop:=(nsIn (kK P) mainGlobals x,(kK P).lookup f,codeIn (kK P) (.ref cd) x,keepIn (kK P) (.ref f))=(some (some (.ref f)),some (fo x i dV pm cd),true,true)
theorem ck4{P:EV}{x:Str}{f:EG}{i:Nat}{dV pm:ED}{cd:EG}(q:ck P x f i dV pm cd):nsIn (kK P) mainGlobals x=some (some (.ref f))/\(kK P).lookup f=some (fo x i dV pm cd)/\codeIn (kK P) (.ref cd) x=true/\keepIn (kK P) (.ref f)=true:=by
 obtain⟨a,b⟩:=du q;obtain⟨b,c⟩:=du b;exact⟨a,b,du c⟩
theorem pr5{A B C D E:Type}{a a2:A}{b b2:B}{c c2:C}{d d2:D}{e e2:E}(q:(a,b,c,d,e)=(a2,b2,c2,d2,e2)):a=a2/\b=b2/\c=c2/\d=d2/\e=e2:=by cases q;exact⟨rfl,rfl,rfl,rfl,rfl⟩
theorem kN(P:EV):((kK P).map (·.1)).Nodup:=by rw[show(kK P).map (·.1)=kA by kernel_rfl];decide +kernel
theorem kM(P:EV):((u0 (kK P)).map (·.1)).Nodup:=by rw[show(u0 (kK P)).map (·.1)=[113,120,125,132,137,156,163,168,173,178,185,192,199,238,272,308,315,322,327,334,341,348,355,370,377,384,391,408,415,420,425,430,437,458,465,473,480,487,494,501,506,513,520,527,534,541,548,560,565,570,575,580,594,601,608,615,622,629,636,643,701,706,713,720,727,734,739,746,753,760,765,770] by kernel_rfl];decide +kernel
theorem zz(P:EV):bl.map (nsIn (kK P) mainGlobals)=bl.map λ _=>some none:=by kernel_rfl
abbrev p0:ED:=(.str "talkleast.checks" 319)
abbrev p1:ED:=(.str "talkleast.tables" 330)
abbrev p2:ED:=(.str "talkleast.apart" 475)
abbrev p3:ED:=(.str "talkleast.covers" 524)
abbrev p4:ED:=(.str "talkleast.parts" 575)
abbrev p5:ED:=(.str "talkleast.least" 645)
abbrev p6:ED:=(.str "talkleast.ranks" 694)
abbrev p7:ED:=(.str "talkleast.runs" 721)
abbrev p8:ED:=(.str "talkleast.named" 766)
abbrev p9:ED:=(.str "talkleast.plans" 827)
abbrev p10:ED:=(.str "talkleast.texts" 887)
abbrev p11:ED:=(.str "talkleast.asks" 1063)
abbrev p12:ED:=(.str "law_talkleast_k86_questions_refused" 1150)
theorem sk{w:EK}{h:EH}{mg:Str->EC ED}{x:Str}(f:EG)(i:Nat){d:FD}(pm:ED)(N ps:ge Str)(X:(kK w.params).In h)(Ns:h.Ns mainGlobals mg)(ok:okD fn bl cl d N ps (top i)=true:=by decide +kernel)(q:ck w.params x f i .none pm (f - 1):=by kernel_rfl)(hb:∀(kV doc pm:ED) (an:EC EG) (cdv ct:ED) (us:ge ED),us.length=ps.length->bindArgs (fnOf x x (z0 (top i)) (t6 (top i)) (j4 (top i)) .none kV doc pm an cdv ct) ⟨us,[]⟩=pure (ps.zip us):=by(intro _ _ _ _ _ _ us hl;first | (obtain⟨_,rfl⟩:=ln1 hl;rfl) | (obtain⟨_,_,rfl⟩:=ln2 hl;rfl) | (obtain⟨_,_,_,rfl⟩:=ln3 hl;rfl)))(e1:d.dfl=[]:=by rfl)(e2:d.kn=none:=by rfl):Stands (kK w.params) mg fn bl cl d x f (fnOf x x (z0 (top i)) (t6 (top i)) (j4 (top i)) .none .none .none pm none (.ref (f - 1)) .none) ps:=by
 obtain⟨a,l,c,k⟩:=ck4 q;exact cw X Ns ok a l c k hb e1 e2
theorem kvt{w:EK}{a:EG}{k:Str}{l:ge (Str×EC DV)}(b t:Nat)(ss:ge Str)(q:(nsIn (kK w.params) a k,(kK w.params).lookup b)=(some (some (.ref b)),some (kv ss t)))(h:ss.length<=sizeLine/\∀s∈ss,s.length<=sizeLine)(r:KVL (kK w.params) a l):KVL (kK w.params) a ((k,some (.tup (ss.map DV.str)))::l):=by
 obtain⟨q1,q2⟩:=du q;refine CL (o:=kt) (by simpa using h.1) h.2 ?_ q2 q1 r;have:∀(s:ge Str) (n:Nat),Vals (s.map V.str) ((s.zipIdx n).map λ q=>Value.str q.1 q.2):=λ s=>by
  induction s with
  | nil=>exact λ _=>.nil
  | cons x s ih=>exact λ n=>.cons ⟨_,rfl⟩ (ih _)
 simpa using this ss t
theorem kms(w:EK)(x:Str)(j f:Nat){d:FD}{N ps:ge Str}(ok:okD [] bl cl d N ps (meth j)=true)(e:(findIn (kK w.params) (.ref 651) x,isFn (kK w.params) (.ref f),keepIn (kK w.params) (.ref f),(kK w.params).lookup f,codeIn (kK w.params) (.ref (f-1)) ("Reader."++x))=(some (some (.ref f)),true,true,some (fm x ("Reader."++x) j (.str "talkleast.texts" 887) (f-1)),true))(hb:∀(kV doc pm:ED) (an:EC EG) (cdv ct:ED) (us:ge ED),us.length=ps.length->bindArgs (fnOf x ("Reader."++x) (z0 (meth j)) (t6 (meth j)) (j4 (meth j)) .none kV doc pm an cdv ct) ⟨us,[]⟩=pure (ps.zip us)):MStands (kK w.params) bl cl 651 d x f (fnOf x ("Reader."++x) (z0 (meth j)) (t6 (meth j)) (j4 (meth j)) .none .none .none (.str "talkleast.texts" 887) none (.ref (f-1)) .none) ps:=by
 obtain⟨a,b,c,d,e⟩:=pr5 e;exact Cu ok a b c d e hb
open PySem.W
theorem all_mk{l:OpenLaw}{w:EK}{h:EH}{mg:Str->EC ED}{fa:EG}(X:(kK w.params).In h)(Ns:h.Ns mainGlobals mg)(hfa:mg "law" = some (.ref fa)):∃fd:EO,(∀(s:EF) (v:ED),BindsTo s fd ⟨[v],[]⟩ [("_law_script",v)])/\∀base:EH,(kK w.params).In base->base.Ns mainGlobals mg->FnOk l.prog w (kK w.params) mg base CX0 60 fa fd ["_law_script"] (spS (kK w.params)):=by
 obtain⟨a58,l58,c58,k58⟩:=ck4 (P:=w.params) (x:="sums") (f:=478) (i:=83) (dV:=(.ref 471)) (pm:=(.str "talkleast.named" 766)) (cd:=477) (by kernel_rfl);have tl58:(kK w.params).lookup 471=some ⟨.type "tuple",none,.seq #[.int 2 787] 0,#[]⟩:=by kernel_rfl
 have S58:=qp X Ns ok58 a58 l58 c58 k58 (λ s us hK hl=>by rw[v3]at hl ⊢;obtain⟨_,_,rfl,h0⟩:=lnS hl;obtain⟨_,_,rfl,h1⟩:=lnS h0;obtain⟨_,_,rfl,h2⟩:=lnS h1;obtain rfl:=ln0 h2;first | exact .of_eq rfl | exact .of_defaults rfl (hK _ _ tl58) rfl rfl rfl) ⟨λ _=>⟨[.int 2 787],[.int 2],λ s us hK hl=>by(rw[B7]at hl;replace hl:=Nat.succ.inj hl;obtain⟨_,_,rfl,h0⟩:=lnS hl;obtain⟨_,_,rfl,h1⟩:=lnS h0;obtain rfl:=ln0 h1;first | exact .of_eq rfl | exact .of_defaults rfl (hK _ _ tl58) rfl rfl rfl),.cons ⟨_,rfl⟩ .nil,λ H=>RepL.one (C5.mpr rfl)⟩,λ n z=>by cases z⟩;obtain⟨a88,l88,c88,k88⟩:=ck4 (P:=w.params) (x:="_law_no_asks") (f:=751) (i:=124) (dV:=.none) (pm:=(.str "law_talkleast_k86_questions_refused" 1150)) (cd:=750) (by kernel_rfl);have S88:=cw X Ns ok88 a88 l88 c88 k88 λ _ _ _ _ _ _ us hl=>by obtain rfl:=ln0 hl;rfl
 obtain⟨a89,l89,c89,k89⟩:=ck4 (P:=w.params) (x:="_law_no_texts") (f:=758) (i:=125) (dV:=.none) (pm:=(.str "law_talkleast_k86_questions_refused" 1150)) (cd:=757) (by kernel_rfl);have S89:=cw X Ns ok89 a89 l89 c89 k89 λ _ _ _ _ _ _ us hl=>by obtain rfl:=ln0 hl;rfl
 obtain⟨a90,l90,c90,k90⟩:=ck4 (P:=w.params) (x:="_law_deeds") (f:=763) (i:=126) (dV:=.none) (pm:=(.str "law_talkleast_k86_questions_refused" 1150)) (cd:=762) (by kernel_rfl);have S90:=cw X Ns ok90 a90 l90 c90 k90 λ _ _ _ _ _ _ us hl=>by obtain rfl:=ln0 hl;rfl
 obtain⟨a92,l92,c92,k92⟩:=ck4 (P:=w.params) (x:="law") (f:=773) (i:=128) (dV:=.none) (pm:=(.str "law_talkleast_k86_questions_refused" 1150)) (cd:=772) (by kernel_rfl);have S92:=cw X Ns ok92 a92 l92 c92 k92 λ _ _ _ _ _ _ us hl=>by obtain⟨_,rfl⟩:=ln1 hl;rfl
 have e:=hfa.symm.trans (mg_of X Ns a92);cases e;have HX:XFacts (kK w.params) mg G cl:=(by have xa0:=mg_of X Ns (show nsIn _ _ "TalkError"=some (some (.ref 24))by kernel_rfl);have xa1:=mg_of X Ns (show nsIn _ _ "NoTable"=some (some (.ref 37))by kernel_rfl);have xa2:=mg_of X Ns (show nsIn _ _ "NoCard"=some (some (.ref 49))by kernel_rfl);have xa3:=mg_of X Ns (show nsIn _ _ "NoPlan"=some (some (.ref 61))by kernel_rfl);have xa4:=mg_of X Ns (show nsIn _ _ "NoWord"=some (some (.ref 73))by kernel_rfl);have xa5:=mg_of X Ns (show nsIn _ _ "TooGreat"=some (some (.ref 85))by kernel_rfl);have xa6:=mg_of X Ns (show nsIn _ _ "NoText"=some (some (.ref 97))by kernel_rfl);have xa7:=mg_of X Ns (show nsIn _ _ "NoAsk"=some (some (.ref 109))by kernel_rfl);refine⟨?_,?_⟩<;>repeat first | exact CC | exact CG | exact CF | refine all_cons ⟨_,by assumption⟩ ?_ | refine CH (by assumption) ⟨by kernel_rfl,by kernel_rfl⟩ ?_ | refine CD ⟨_,by assumption,by constructor<;>kernel_rfl,⟨_,_,_,[.type "ValueError",.type "Exception",.type "BaseException",.type "object"],PySem.F.excBase_ValueError,by kernel_rfl⟩,?_,by kernel_rfl⟩ ?_);have S37:=sk (x:="joined_bits") (d:=qv) 346 56 p4 ["no","yes"] ["no","yes"] X Ns;have S38:=sk (x:="joined_ends") (d:=qw) 353 57 p4 ["no","yes"] ["no","yes"] X Ns;have HC:∀x d,G.con.lookup x=some d->∃u v,mg x=some u/\RelV v u/\∀H,Rep ⟨kK w.params,mg⟩ H d v:=by
  intro x d h;have c:=fun{x:Str}{d:Int}(t:Tok)(q:nsIn (kK w.params) mainGlobals x=some (some (.int d t)))=>(⟨_,.int _,mg_of X Ns q,⟨_,rfl⟩,λ H=>C5.mpr rfl⟩:∃u v,mg x=some u/\RelV v u/\∀H,Rep ⟨kK w.params,mg⟩ H (.int d) v)
  have g8:nsIn (kK w.params) mainGlobals "DIGITS" = some (some (.str "0123456789" 889)):=by kernel_rfl
  exact M7 (c 332 (by kernel_rfl)) (M7 (c 334 (by kernel_rfl)) (M7 (c 336 (by kernel_rfl)) (M7 (c 768 (by kernel_rfl)) (M7 (c 770 (by kernel_rfl)) (M7 (c 829 (by kernel_rfl)) (M7 (c 831 (by kernel_rfl)) (M7 (c 833 (by kernel_rfl)) (M7 ⟨_,.str _,mg_of X Ns g8,⟨_,rfl⟩,λ H=>x0.mpr ⟨rfl,by decide⟩⟩ (M7 ⟨_,.ref _,S37.mg,rfl,λ H=>eL.mpr ⟨_,rfl,S37.mg⟩⟩ (M7 ⟨_,.ref _,S38.mg,rfl,λ H=>eL.mpr ⟨_,rfl,S38.mg⟩⟩ (CB))))))))))) x d h
 have HD:∀x kvs,G.dcs.lookup x=some kvs->Z1 (kK w.params) w mg x kvs:=by
  intro x kvs h;have da0:nsIn (kK w.params) mainGlobals "FORMS" = some (some (.ref 687)):=by kernel_rfl
  have dl0:(kK w.params).lookup 687=some ⟨.type "dict",none,.dict (kF w.params).toArray 12,#[]⟩:=by kernel_rfl
  exact CJ ⟨_,_,_,mg_of X Ns da0,dl0,⟨⟨_,_,rfl,rfl⟩,⟨_,_,rfl,rfl⟩,⟨_,_,rfl,rfl⟩,⟨_,_,rfl,rfl⟩,⟨_,_,rfl,rfl⟩,⟨_,_,rfl,rfl⟩,⟨_,_,rfl,rfl⟩,⟨_,_,rfl,rfl⟩,⟨_,_,rfl,rfl⟩,⟨_,_,rfl,rfl⟩,⟨_,_,rfl,rfl⟩,⟨_,_,rfl,rfl⟩,trivial⟩,by decide,kvt 688 1066 ["TABLE"] (by kernel_rfl) (by decide) (kvt 689 1068 ["TABLE"] (by kernel_rfl) (by decide) (kvt 690 1070 ["TABLE"] (by kernel_rfl) (by decide) (kvt 691 1072 ["TABLE"] (by kernel_rfl) (by decide) (kvt 692 1074 ["TABLE","WORD"] (by kernel_rfl) (by decide) (kvt 693 1077 ["TABLE","WORD"] (by kernel_rfl) (by decide) (kvt 694 1080 ["TABLE"] (by kernel_rfl) (by decide) (kvt 695 1082 ["TABLE"] (by kernel_rfl) (by decide) (kvt 696 1084 ["TABLE"] (by kernel_rfl) (by decide) (kvt 697 1086 ["PLAN","CARD","CARD"] (by kernel_rfl) (by decide) (kvt 698 1090 ["PLAN","TABLE"] (by kernel_rfl) (by decide) (kvt 699 1093 ["TABLE"] (by kernel_rfl) (by decide) (cA (by kernel_rfl) (cA (by kernel_rfl) (cA (by kernel_rfl) (cA (by kernel_rfl) (cA (by kernel_rfl) (CK)))))))))))))))))⟩ (CI) x kvs h
 have M0:=kms w "sign" 1 606 (okm0) (by kernel_rfl) λ _ _ _ _ _ _ us hl=>by obtain⟨_,rfl⟩:=ln1 hl;rfl
 have M1:=kms w "at_digit" 2 613 (okm1) (by kernel_rfl) λ _ _ _ _ _ _ us hl=>by obtain⟨_,rfl⟩:=ln1 hl;rfl
 have M2:=kms w "take" 3 620 (okm2) (by kernel_rfl) λ _ _ _ _ _ _ us hl=>by obtain⟨_,_,rfl⟩:=ln2 hl;rfl
 have M3:=kms w "take_digit" 4 627 (okm3) (by kernel_rfl) λ _ _ _ _ _ _ us hl=>by obtain⟨_,rfl⟩:=ln1 hl;rfl
 have M4:=kms w "take_plan" 5 634 (okm4) (by kernel_rfl) λ _ _ _ _ _ _ us hl=>by obtain⟨_,rfl⟩:=ln1 hl;rfl
 have M5:=kms w "take_side" 6 641 (okm5) (by kernel_rfl) λ _ _ _ _ _ _ us hl=>by obtain⟨_,rfl⟩:=ln1 hl;rfl
 have M6:=kms w "take_cards" 7 648 (okm6) (by kernel_rfl) λ _ _ _ _ _ _ us hl=>by obtain⟨_,rfl⟩:=ln1 hl;rfl
 have cmi:(findIn (kK w.params) (.ref 651) "__init__",isFn (kK w.params) (.ref 599),keepIn (kK w.params) (.ref 651),(kK w.params).lookup 599,codeIn (kK w.params) (.ref 598) "Reader.__init__")=(some (some (.ref 599)),true,true,some (fm "__init__" "Reader.__init__" 0 (.str "talkleast.texts" 887) 598),true):=by kernel_rfl
 obtain⟨mai,mbi,mci,mdi,mei⟩:=pr5 cmi;have MI:=Cw (K:=(kK w.params)) (C:=651) oki ⟨by kernel_rfl,mai,mbi,mci⟩ mdi mei λ _ _ _ _ _ _ us hl=>by obtain⟨_,_,rfl⟩:=ln2 hl;rfl
 have rda:nsIn (kK w.params) mainGlobals "Reader" = some (some (.ref 651)):=by kernel_rfl
 have HSS:HS (kK w.params) mg fn bl cl T fn:=(i2 (sk 118 10 p0 ["thing","least","most"] ["thing","least","most"] X Ns) (i2 (sk 123 15 p1 ["rows"] ["rows"] X Ns) (i2 (sk 130 16 p1 ["thing"] ["thing"] X Ns) (i2 (sk 135 17 p1 ["thing"] ["thing"] X Ns) (i2 (sk 140 18 p1 ["table"] ["table"] X Ns) (i2 (sk 118 10 p0 ["thing","least","most"] ["thing","least","most"] X Ns) (i2 (sk 118 10 p0 ["thing","least","most"] ["thing","least","most"] X Ns) (i2 (sk 161 21 p1 ["card","size"] ["card","size"] X Ns) (i2 (sk 166 22 p1 ["cards"] ["cards"] X Ns) (i2 (sk 171 23 p1 ["table","rows","columns"] ["table","rows","columns"] X Ns) (i2 (sk 176 24 p1 ["table"] ["table"] X Ns) (i2 (sk 183 25 p1 ["table"] ["table"] X Ns) (i2 (sk 190 26 p1 ["table"] ["table"] X Ns) (i2 (sk 197 27 p1 ["table","rest"] ["table"] X Ns) (i2 (sk 204 28 p1 ["table"] ["table"] X Ns) (i2 (sk 118 10 p0 ["thing","least","most"] ["thing","least","most"] X Ns) (i2 (sk 118 10 p0 ["thing","least","most"] ["thing","least","most"] X Ns) (i2 (sk 118 10 p0 ["thing","least","most"] ["thing","least","most"] X Ns) (i2 (sk 118 10 p0 ["thing","least","most"] ["thing","least","most"] X Ns) (i2 (sk 118 10 p0 ["thing","least","most"] ["thing","least","most"] X Ns) (i2 (sk 241 36 p2 ["table","word","columns","entries","row"] ["table","word"] X Ns) (i2 (sk 118 10 p0 ["thing","least","most"] ["thing","least","most"] X Ns) (i2 (sk 118 10 p0 ["thing","least","most"] ["thing","least","most"] X Ns) (i2 (sk 118 10 p0 ["thing","least","most"] ["thing","least","most"] X Ns) (i2 (sk 118 10 p0 ["thing","least","most"] ["thing","least","most"] X Ns) (i2 (sk 118 10 p0 ["thing","least","most"] ["thing","least","most"] X Ns) (i2 (sk 277 44 p3 ["table","word","blocks","bare","most","cover"] ["table","word"] X Ns) (i2 (sk 118 10 p0 ["thing","least","most"] ["thing","least","most"] X Ns) (i2 (sk 118 10 p0 ["thing","least","most"] ["thing","least","most"] X Ns) (i2 (sk 118 10 p0 ["thing","least","most"] ["thing","least","most"] X Ns) (i2 (sk 118 10 p0 ["thing","least","most"] ["thing","least","most"] X Ns) (i2 (sk 118 10 p0 ["thing","least","most"] ["thing","least","most"] X Ns) (i2 (sk 313 51 p4 ["table"] ["table"] X Ns) (i2 (sk 320 52 p4 ["table"] ["table"] X Ns) (i2 (sk 325 53 p4 ["numbers"] ["numbers"] X Ns) (i2 (sk 332 54 p4 ["table"] ["table"] X Ns) (i2 (sk 339 55 p4 ["table"] ["table"] X Ns) (i2 S37 (i2 S38 (i2 (sk 358 58 p4 ["table","ground","joined","rest","numbers","rows","columns","ways"] ["table","ground","joined"] X Ns) (i2 (sk 118 10 p0 ["thing","least","most"] ["thing","least","most"] X Ns) (i2 (sk 118 10 p0 ["thing","least","most"] ["thing","least","most"] X Ns) (i2 (sk 375 62 p5 ["table"] ["table"] X Ns) (i2 (sk 382 63 p5 ["table"] ["table"] X Ns) (i2 (sk 389 64 p5 ["table"] ["table"] X Ns) (i2 (sk 396 65 p5 ["table","numbers","joined"] ["table","numbers","joined"] X Ns) (i2 (sk 118 10 p0 ["thing","least","most"] ["thing","least","most"] X Ns) (i2 (sk 118 10 p0 ["thing","least","most"] ["thing","least","most"] X Ns) (i2 (sk 413 69 p6 ["table"] ["table"] X Ns) (i2 (sk 418 70 p6 ["lines","found","kept","index","line","rest"] ["lines"] X Ns) (i2 (sk 423 71 p6 ["line","kept","rest","other","place","taken"] ["line","kept"] X Ns) (i2 (sk 428 72 p6 ["line"] ["line"] X Ns) (i2 (sk 435 74 p7 ["plan","row","column"] ["plan","row","column"] X Ns) (i2 (sk 442 75 p7 ["plan","row","column","bits","place","card","bit"] ["plan","row","column"] X Ns) (i2 (sk 118 10 p0 ["thing","least","most"] ["thing","least","most"] X Ns) (i2 (sk 118 10 p0 ["thing","least","most"] ["thing","least","most"] X Ns) (i2 (sk 463 81 p8 ["n"] ["n"] X Ns) (i2 (sk 470 82 p8 ["n","m"] ["n","m"] X Ns) (i2 S58 (i2 (sk 485 84 p8 ["n"] ["n"] X Ns) (i2 (sk 492 85 p8 ["n"] ["n"] X Ns) (i2 (sk 499 86 p8 ["number","least","most"] ["number","least","most"] X Ns) (i2 (sk 504 87 p8 ["height","width","rule"] ["height","width","rule"] X Ns) (i2 (sk 511 92 p9 ["thing"] ["thing"] X Ns) (i2 (sk 518 93 p9 ["thing","deep"] ["thing","deep"] X Ns) (i2 (sk 525 94 p9 ["thing"] ["thing"] X Ns) (i2 (sk 532 95 p9 ["thing"] ["thing"] X Ns) (i2 (sk 539 96 p9 ["thing","size"] ["thing","size"] X Ns) (i2 (sk 546 97 p9 ["thing","text"] ["thing","text"] X Ns) (i2 (sk 553 98 p9 ["plan"] ["plan"] X Ns) (i2 (sk 118 10 p0 ["thing","least","most"] ["thing","least","most"] X Ns) (i2 (sk 563 102 p10 ["text"] ["text"] X Ns) (i2 (sk 568 103 p10 ["words","name","numbers"] ["words"] X Ns) (i2 (sk 573 104 p10 ["word"] ["word"] X Ns) (i2 (sk 578 105 p10 ["plan"] ["plan"] X Ns) (i2 (sk 585 106 p10 ["text","reader","plan"] ["text"] X Ns) (i2 (sk 118 10 p0 ["thing","least","most"] ["thing","least","most"] X Ns) (i2 (sk 118 10 p0 ["thing","least","most"] ["thing","least","most"] X Ns) (i2 (sk 118 10 p0 ["thing","least","most"] ["thing","least","most"] X Ns) (i2 (sk 118 10 p0 ["thing","least","most"] ["thing","least","most"] X Ns) (i2 (sk 118 10 p0 ["thing","least","most"] ["thing","least","most"] X Ns) (i2 (sk 704 116 p11 ["question","words","name","things"] ["question"] X Ns) (i2 (sk 711 117 p11 ["form","word"] ["form","word"] X Ns) (i2 (sk 718 118 p11 ["word"] ["word"] X Ns) (i2 (sk 725 119 p11 ["name","table"] ["name","table"] X Ns) (i2 (sk 732 120 p11 ["name","things"] ["name","things"] X Ns) (i2 (sk 737 121 p11 ["result"] ["result"] X Ns) (i2 (sk 744 123 p12 ["_law_script","_law_k"] ["_law_script","_law_k"] X Ns) (i2 S88 (i2 S89 (i2 S90 (i2 (sk 768 127 p12 ["_law_question","_law_way","_law_caught","error","_law_kinds"] ["_law_question","_law_way"] X Ns) (i2 S92 Cz)))))))))))))))))))))))))))))))))))))))))))))))))))))))))))))))))))))))))))))))))))))))))))));refine⟨_,λ s v=>.of_eq rfl,λ base _ _=>CM (T:=T) (G:=G) (fu:=100) rfl HSS (λ x hx=>mg_none_of X Ns (fQ.mp (zz _) x hx)) HX HC HD dfok (λ _=>⟨by decide,Cq (G2:=GM) (T2:=TM) (fu:=100) (bl:=bl) (cl:=cl) rfl rfl rfl rfl ⟨by kernel_rfl,by kernel_rfl,by kernel_rfl,by kernel_rfl⟩ (by show findIn _ _ _=_;kernel_rfl) (by show findIn _ _ _=_;kernel_rfl) (mg_of X Ns rda) MI (Z5 M0 (Z5 M1 (Z5 M2 (Z5 M3 (Z5 M4 (Z5 M5 (Z5 M6 Cy))))))) (λ x hx=>mg_none_of X Ns (fQ.mp (zz _) x hx)) (XFacts.of_cls (G:=G) (G':=GM) rfl HX) HC rfl rfl uni⟩) (i:=92) rfl rfl S92 (λ _=>⟨⟨rfl,rfl,rfl⟩,by decide,λ i d x qual st fa fd _ _ F=>CO (K:=kK w.params) (by kernel_rfl) F⟩) Ek⟩
end k86
open PySem PySem.W PyProof.Rows
set_option maxRecDepth 100000 in
set_option maxHeartbeats 0 in
theorem PySem.Challenge.cw_talkleast_k86_questions_refused_holds : PySem.Challenge.rw_talkleast_k86_questions_refused.Holds := by
 obtain ⟨d, e1, e2, e3, e4, e5⟩ := k86.khd
 refine k86.kH0 λ said => ?_
 exact holds_open (q := k86.kQ) (loose := k86.kL) (Xt := λ s => xlAt k86.kQ [] s && recOk (RowW.records (OpenRow.toRowW (OpenLaw.row PySem.Challenge.rw_talkleast_k86_questions_refused))) s) (XP := XL k86.kQ []) (Yf := (kHook k86.kAll k86.kB k86.kE).obs) (Ya := (kHook k86.kAll k86.kB k86.kE).val) (YP := (kHook k86.kAll k86.kB k86.kE).says) (N := 10618) k86.kLeft (kHook k86.kAll k86.kB k86.kE).of (kHook k86.kAll k86.kB k86.kE).keeps (λ s e => xl_of s (F5.mp e).1) XL.keeps e1 e4 e5 (λ s e => recFacts_of (F5.mp e).2) (by rfl) said k86.kok k86.khb k86.khw (L2.walkE (l := PySem.Challenge.rw_talkleast_k86_questions_refused) (k := 60) (p := "_law_script") rfl e2 ⟨rfl, by decide, by decide⟩ (λ w h Y => (L2.in_app (kIn_of Y) (by kernel_rfl)).1) (λ w h Y => ⟨L2.htb_of (T := k86.kT) (L2.in_app (kIn_of Y) (by kernel_rfl)).1 (L2.in_app (kIn_of Y) (by kernel_rfl)).2 (k86.kN _) (by kernel_rfl), k86.kM _⟩) λ w mg fa h KX G hmg => k86.all_mk KX G (by rw [← e3]; exact hmg))
end

import PyProof.Rows.All
import Wide.All
import OpenK.AllK
import PySem.Challenge.RW_talkleast_k91_whole_exchanged_and_cut
set_option compiler.extract_closed false
set_option genSizeOf false
set_option genInjectivity false
set_option bootstrap.genMatcherCode false
set_option Elab.async false
set_option linter.all false
set_option maxRecDepth 100000
set_option maxHeartbeats 4000000
noncomputable section
namespace L2
open PySem
def defArgs(s:Stmt):Arguments:=match s with
  | .FunctionDef _ a _ _ _ _ _ _ _ _=>a
  | _=>{posonlyargs:=[],args:=[],vararg:=none,kwonlyargs:=[],kw_defaults:=[],kwarg:=none,defaults:=[]}
def defBody(s:Stmt):List Stmt:=match s with
  | .FunctionDef _ _ b _ _ _ _ _ _ _=>b
  | _=>[]
def defScope(s:Stmt):Scope:=match s with
  | .FunctionDef _ _ _ _ _ _ sc _ _ _=>sc
  | _=>{kind:=.function,names:=[],isGenerator:=false,isCoroutine:=false}
end L2
namespace L2
open PySem PySem.W PyProof.Rows
def topRunT(tb:String->Option Builtin)(p:Program)(w:World)(n₀:Nat)(ann:Option Value):Nat->SharedT->Thread->Option SharedT
  | 0,_,_=>none
  | n+1,s,t=>match through t with
    | true=>some s
    | false=>match stepOk n₀ ann t with
      | false=>none
      | true=>match stepT (denote tb) p w s t with
        | some (s',t')=>topRunT tb p w n₀ ann n s' t'
        | none=>none
theorem topRun_ofT{tb:String->Option Builtin}{p:Program}{w:World}{n₀:Nat}{ann:Option Value}:∀{n:Nat} {s s':SharedT} {t:Thread},topRunT tb p w n₀ ann n s t=some s'->topRun tb p w n₀ ann n s.abs t=some s'.abs
  | 0,_,_,_,h=>by cases h
  | n+1,s,s',t,h=>by
    unfold topRunT at h;unfold topRun;cases ht:through t with
    | true=>rw[ht]at h;cases h;rfl
    | false=>
      rw[ht]at h;cases hk:stepOk n₀ ann t with
      | false=>rw[hk]at h;cases h
      | true=>
        rw[hk]at h;cases hs:stepT (denote tb) p w s t with
        | none=>rw[hs]at h;cases h
        | some q=>
          obtain⟨s₂,t₂⟩:=q;rw[hs]at h;rw[stepT_spec hs];exact topRun_ofT h
def treeOf(l:List Obj):BT:=l.zipIdx.foldl (fun t q=>t.ins q.2 q.1) .nil
def left_tree{p q:Program}{loose:List Str}{Xt:Shared->Bool}{α:Type}{Yf:Shared->α}{Ya:World->α}{N:Nat}{g0:Bool}{T₀:Params->BT}{n₀:Nat}{life:Life}{d₀:Drawn}{k₀:Nat}{ann:Option Value}(row:String)
    (open_:∀w:World,(fencedOpening treeTable p w N).map (fun s=>(s.heap,s.gens,s.drawn,s.toks))=some (absHeap (T₀ w.params) n₀ life,#[],d₀,k₀))
    (size:∀w:World,((absHeap (T₀ w.params) n₀ life).isNs mainGlobals,(absHeap (T₀ w.params) n₀ life).nsMap mainGlobals "__annotations__")=(true,ann))
    (run:∀(b:Bool) (w:World) (os:OsState),(topRunT treeTable p (w.withFollow row b) n₀ ann N ⟨T₀ (w.withFollow row b).params,n₀,life,#[],d₀,k₀,os⟩ (topStub p)).map (fun s=>
      ((staticsOk (importedModules p.main.body) (absHeap (T₀ (w.withFollow row b).params) n₀ life) s.abs.heap&&namesBound p s.abs.heap&&gensDone s.abs&&laidKept (absHeap (T₀ (w.withFollow row b).params) n₀ life) s.abs.heap),openSeen q loose (importedModules p.main.body) Xt g0 s.abs,Yf s.abs))=some (true,openGood q loose,Ya (w.withFollow row b))):LeftO p q loose Xt Yf Ya N g0:=fun w=>by
  have key:∀b,(openEnds treeTable p (w.withFollow row b) N).map (fun s=>(openSeen q loose (importedModules p.main.body) Xt g0 s,Yf s))=some (openGood q loose,Ya (w.withFollow row b)):=fun b=>by
    obtain⟨⟨h,gs,d,k,os⟩,e,e'⟩:=Option.map_eq_some_iff.mp (open_ (w.withFollow row b));obtain⟨rfl,rfl,rfl,rfl⟩:h=absHeap (T₀ (w.withFollow row b).params) n₀ life/\gs = #[]/\d=d₀/\k=k₀:=by simpa using e'
    obtain⟨z1,z2⟩:_/\_:=by simpa only[Prod.mk.injEq]using size (w.withFollow row b)
    obtain⟨s,r,l⟩:=Option.map_eq_some_iff.mp (run b w os);obtain⟨l1,l2,l3⟩:_/\_/\_:=by simpa only[Prod.mk.injEq]using l
    have r':=topRun_ofT r;have t:topFrom treeTable p (w.withFollow row b) N ⟨absHeap (T₀ (w.withFollow row b).params) n₀ life,#[],d,k,os⟩=some s.abs:=(by unfold topFrom;dsimp only;rw[z1,z2,absHeap_size];show(topRun treeTable p (w.withFollow row b) n₀ ann N (SharedT.abs ⟨T₀ (w.withFollow row b).params,n₀,life,#[],d,k,os⟩) (topStub p)).bind _=_;rw[r'];show(match staticsOk (importedModules p.main.body) (absHeap (T₀ (w.withFollow row b).params) n₀ life) s.abs.heap&&namesBound p s.abs.heap&&gensDone s.abs&&laidKept (absHeap (T₀ (w.withFollow row b).params) n₀ life) s.abs.heap with | true=>_ | false=>_)=_;rw[l1]);unfold openEnds;rw[e];show(topFrom treeTable p (w.withFollow row b) N _).map _=_;rw[t];exact congrArg some (Prod.ext l2 l3)
  have:=key (w.params.followText row);rw[World.withFollow_self]at this;exact this
end L2

namespace k91
open PySem PySem.W L2 PySem.Spec PyProof.Rows
def top(i:Nat):Stmt:=PySem.Challenge.pw_talkleast_k91_whole_exchanged_and_cut.main.body.getD i (.Pass ⟨0,0,0,0⟩)
def fo(n:Str)(i:Nat)(dV pm:Value)(cd:Addr):Obj:=⟨.type "function",none,.func (fnOf n n (defArgs (top i)) (defBody (top i)) (defScope (top i)) dV .none .none pm none (.ref cd) .none),#[]⟩
def en(P:Params)(s:Str)(t:Nat)(v:Value):DictEntry:=⟨PyData.keyHash P s,.str s t,v⟩
structure Rw where
  n:Str
  c:Nat
  t:Nat
  l:Int
  a:Int
  k:Bool
  q:Nat
  i:Nat
  m:Nat
def zD:List Rw:=⟨"is_int",20,189,2,3,true,195,1,0⟩::⟨"flipped",62,254,13,1,false,257,8,1⟩::⟨"cut",69,260,15,3,true,266,9,1⟩::⟨"check_cards",76,269,19,2,true,274,10,1⟩::⟨"cards_in",81,277,22,1,false,280,11,1⟩::⟨"crossing",86,283,24,3,false,286,12,1⟩::⟨"row_kinds",91,289,26,1,false,292,13,1⟩::⟨"column_kinds",98,295,28,1,true,299,14,1⟩::⟨"trimmed",105,302,30,1,true,306,15,1⟩::⟨"is_small",112,309,32,1,true,314,16,1⟩::⟨"check_small",119,317,35,1,true,321,17,1⟩::⟨"words_in",126,324,38,1,true,330,18,1⟩::⟨"bits_paper",133,335,44,1,true,339,20,2⟩::⟨"ends_paper",140,342,46,1,true,346,21,2⟩::⟨"paper",145,349,48,1,false,352,22,2⟩::⟨"bits_numbers",152,355,50,1,true,359,23,2⟩::⟨"ends_numbers",159,362,52,1,true,366,24,2⟩::⟨"joined_bits",166,369,54,2,true,374,25,2⟩::⟨"joined_ends",173,377,56,2,true,382,26,2⟩::⟨"least_numbers",178,385,58,3,false,388,27,2⟩::⟨"splits",183,391,70,2,false,394,28,2⟩::⟨"halves",188,397,74,1,false,400,29,2⟩::⟨"least_bits",195,405,77,1,true,409,31,3⟩::⟨"fewest_ends",202,412,79,1,true,416,32,3⟩::⟨"least_plan",209,419,81,1,true,423,33,3⟩::⟨"plan_by",216,426,83,3,true,437,34,3⟩::⟨"sets_of_kinds",221,440,96,1,false,443,35,3⟩::⟨"widened",226,446,98,2,false,449,36,3⟩::⟨"codes",231,454,101,2,false,457,38,4⟩::⟨"lines_of",246,469,108,2,true,474,40,4⟩::⟨"digits",251,477,110,2,false,480,41,4⟩::⟨"apart",256,485,113,2,false,488,43,5⟩::⟨"most_apart",261,491,120,2,false,494,44,5⟩::⟨"keep_apart",268,497,128,3,true,504,45,5⟩::⟨"widest",275,509,134,2,true,517,47,6⟩::⟨"columns_with",280,520,141,3,false,523,48,6⟩::⟨"rows_with",285,526,144,3,false,529,49,6⟩::⟨"fewest_cover",292,534,148,2,true,543,51,7⟩::⟨"entries_by_choice",297,546,158,3,false,549,52,7⟩::⟨"blocks_with",302,552,163,2,false,555,53,7⟩::⟨"contains",309,558,165,2,true,563,54,7⟩::⟨"left_bare",314,566,167,2,false,569,55,7⟩::⟨"cover_within",321,572,169,3,true,580,56,7⟩::⟨"flipped_plan",329,592,181,1,true,596,59,8⟩::⟨"rank",336,601,186,1,true,605,61,9⟩::⟨"base_lines",341,608,188,1,false,611,62,9⟩::⟨"reduced",346,614,197,2,false,617,63,9⟩::⟨"leading_place",351,620,204,1,false,623,64,9⟩::⟨"way",358,628,207,3,true,638,66,10⟩::⟨"reached",365,641,216,3,true,647,67,10⟩::⟨"settles",372,650,218,2,true,659,68,10⟩::⟨"rank_in_twos",379,664,225,1,true,668,70,11⟩::⟨"lines_in_twos",384,671,227,1,false,674,71,11⟩::⟨"base_indexes",389,677,229,1,false,680,72,11⟩::⟨"kept_lines",396,683,231,1,true,691,73,11⟩::⟨"reduced_in_twos",403,694,238,2,true,704,74,11⟩::⟨"_law_int",410,709,247,1,true,713,76,12⟩::⟨"_law_cell_at",417,716,249,2,true,721,77,12⟩::⟨"_law_stream",424,724,253,2,true,734,78,12⟩::⟨"_law_doubled",431,737,267,2,true,744,79,12⟩::⟨"_law_small",436,747,274,2,false,750,80,12⟩::⟨"_law_numbers",443,753,288,2,true,759,81,12⟩::⟨"_law_power",450,762,292,1,true,768,82,12⟩::⟨"law",455,771,297,1,false,774,83,12⟩::[]
def zP(j:Nat):Value:=[.str "talkleast.checks" 187,.str "talkleast.tables" 250,.str "talkleast.parts" 333,.str "talkleast.least" 403,.str "talkleast.alone" 452,.str "talkleast.apart" 483,.str "talkleast.blocks" 507,.str "talkleast.covers" 532,.str "talkleast.plans" 583,.str "talkleast.ranks" 599,.str "talkleast.runs" 626,.str "talkleast.twos" 662,.str "law_talkleast_k91_whole_exchanged_and_cut" 707].getD j .none
def zO(r:Rw):Frag:=[(r.c,⟨.type "code",none,.fields #[.str r.n r.t,.str r.n (r.t+1),.str "/claim/cut.py" (r.t+2),.int r.l 0,.int r.a 0,.int 0 0,.int 0 0,.int 3 0,.ref (r.c - if r.k then 5 else 3),.bool true,.int 181 0,.ref (r.c - if r.k then 4 else 2),.none,if r.k then .ref (r.c - 3)else .none,if r.k then .ref (r.c - 2)else .none,.ref (r.c - 1),.int r.q 0,.int r.l 0,.str "/claim/cut.py" (r.q+1)],#[]⟩),(r.c+1,fo r.n r.i .none (zP r.m) r.c)]
def kK(P:Params):Frag:=let ge (r:Rw):=en P r.n (r.q+2) (.ref (r.c+1));[(3,⟨.type "dict",none,.dict ([en P "__name__" 165 (.str "law_talkleast_k91_whole_exchanged_and_cut" 707),en P "__doc__" 166 .none,en P "__package__" 167 .none,en P "__loader__" 168 (.builtin "__main__.__loader__#opaque"),en P "__spec__" 169 .none,en P "__annotations__" 170 (.ref 6),en P "__builtins__" 171 (.ref 4),en P "__file__" 173 (.str "/claim/cut.py" 172),en P "__cached__" 174 .none]++((zD.drop 0).take 1).map ge++[en P "TalkError" 217 (.ref 31),en P "NoCard" 233 (.ref 44),en P "TooGreat" 249 (.ref 56),en P "SMALL_LINES" 253 (.int 5 252)]++((zD.drop 1).take 28).map ge++[en P "alone_bits" 468 (.ref 240)]++((zD.drop 29).take 14).map ge++[en P "OTHER_SIDE" 591 (.ref 323)]++((zD.drop 43).take 21).map ge).toArray 79,#[]⟩),(233,⟨.type "tuple",none,.seq #[.str "row" 460] 0,#[]⟩),(239,⟨.type "code",none,.fields #[.str "alone_bits" 461,.str "alone_bits" 462,.str "/claim/cut.py" 463,.int 106 0,.int 2 0,.int 0 0,.int 0 0,.int 3 0,.ref 234,.bool true,.int 181 0,.ref 235,.none,.ref 236,.ref 237,.ref 238,.int 466 0,.int 106 0,.str "/claim/cut.py" 467],#[]⟩),(240,fo "alone_bits" 39 (.ref 233) (.str "talkleast.alone" 452) 239),(323,⟨.type "dict",none,.dict #[en P "row" 585 (.str "column" 586),en P "column" 587 (.str "row" 588)] 2,#[]⟩)]++zD.flatMap zO
def zA:List Addr:=[3,233,239,240,323]++zD.flatMap fun r=>[r.c,r.c+1]
def kT:Frag:=[(235,⟨.none,none,.fields #[],#[]⟩)]++zD.map fun r=>(r.c - if r.k then 4 else 2,⟨.none,none,.fields #[],#[]⟩)
def kAll(P:Params):Frag:=kT++kK P
def zB:List Addr:=kT.map (·.1)++zA
def kE:∀P,zB=(kAll P).map (·.1):=fun _=>by kernel_rfl
def kQ:Program:=view PySem.Challenge.pw_talkleast_k91_whole_exchanged_and_cut [1,3,4,5,7,8,9,10,11,12,13,14,15,16,17,18,20,21,22,23,24,25,26,27,28,29,31,32,33,34,35,36,38,40,41,43,44,45,47,48,49,51,52,53,54,55,56,58,59,61,62,63,64,66,67,68,70,71,72,73,74,76,77,78,79,80,81,82,83]
def kL:List Str:=[("alone_bits" : Str),("OTHER_SIDE" : Str)]
def kM3{α β γ δ:Type}{o:Option α}{f:α->β}{g:α->γ}{h:α->δ}{x:β}{y:γ}{z:δ}(a:o.map f=some x)(b:o.map g=some y)(c:o.map h=some z):o.map (fun s=>(f s,g s,h s))=some (x,y,z):=by
  cases o with
  | none=>cases a
  | some s=>cases a;cases b;cases c;rfl
def kT0(P:Params):BT:=treeOf (boot_heap P).objs.toList
def kn:Nat:=11
def klife:Life:={}
def kann:Option Value:=some (.ref 6)
def kAbs(P:Params):boot_heap P=absHeap (kT0 P) kn klife:=by kernel_rfl
def kF(b:Bool)(w:World)(os:OsState):Option SharedT:=topRunT treeTable PySem.Challenge.pw_talkleast_k91_whole_exchanged_and_cut (w.withFollow "special-get-raises" b) kn kann 5464 ⟨kT0 (w.withFollow "special-get-raises" b).params,kn,klife,#[],boot_drawn,boot_toks,os⟩ (topStub PySem.Challenge.pw_talkleast_k91_whole_exchanged_and_cut)
def kEa(b:Bool)(w:World)(s:SharedT):Bool:=staticsOk (importedModules PySem.Challenge.pw_talkleast_k91_whole_exchanged_and_cut.main.body) (absHeap (kT0 (w.withFollow "special-get-raises" b).params) kn klife) s.abs.heap&&namesBound PySem.Challenge.pw_talkleast_k91_whole_exchanged_and_cut s.abs.heap&&gensDone s.abs&&laidKept (absHeap (kT0 (w.withFollow "special-get-raises" b).params) kn klife) s.abs.heap
set_option maxHeartbeats 0 in
def kRa_false(w:World)(os:OsState):(kF false w os).map (kEa false w)=some (true):=by kernel_rfl
set_option maxHeartbeats 0 in
def kRb_false(w:World)(os:OsState):(kF false w os).map (fun s=>openSeen kQ kL (importedModules PySem.Challenge.pw_talkleast_k91_whole_exchanged_and_cut.main.body) (fun s=>xlAt kQ [] s&&recOk (RowW.records (OpenRow.toRowW (OpenLaw.row PySem.Challenge.rw_talkleast_k91_whole_exchanged_and_cut))) s) true s.abs)=some (openGood kQ kL):=by kernel_rfl
set_option maxHeartbeats 0 in
def kRc_false(w:World)(os:OsState):(kF false w os).map (fun s=>(kHook kAll zB kE).obs s.abs)=some ((kHook kAll zB kE).val (w.withFollow "special-get-raises" false)):=by kernel_rfl
set_option maxHeartbeats 0 in
def kRa_true(w:World)(os:OsState):(kF true w os).map (kEa true w)=some (true):=by kernel_rfl
set_option maxHeartbeats 0 in
def kRb_true(w:World)(os:OsState):(kF true w os).map (fun s=>openSeen kQ kL (importedModules PySem.Challenge.pw_talkleast_k91_whole_exchanged_and_cut.main.body) (fun s=>xlAt kQ [] s&&recOk (RowW.records (OpenRow.toRowW (OpenLaw.row PySem.Challenge.rw_talkleast_k91_whole_exchanged_and_cut))) s) true s.abs)=some (openGood kQ kL):=by kernel_rfl
set_option maxHeartbeats 0 in
def kRc_true(w:World)(os:OsState):(kF true w os).map (fun s=>(kHook kAll zB kE).obs s.abs)=some ((kHook kAll zB kE).val (w.withFollow "special-get-raises" true)):=by kernel_rfl
def kLeft:LeftO PySem.Challenge.pw_talkleast_k91_whole_exchanged_and_cut kQ kL (fun s=>xlAt kQ [] s&&recOk (RowW.records (OpenRow.toRowW (OpenLaw.row PySem.Challenge.rw_talkleast_k91_whole_exchanged_and_cut))) s) (kHook kAll zB kE).obs (kHook kAll zB kE).val 5464:=by
  refine left_tree (T₀:=kT0) (n₀:=kn) (life:=klife) (d₀:=boot_drawn) (k₀:=boot_toks) (ann:=kann) "special-get-raises" (fun w=>?_) (fun w=>?_) fun b=>?_
  · rw[←kAbs];exact boot_open (by rfl) (by rfl) (fun _=>by rfl) w
  · kernel_rfl
  · intro w os
    cases b
    · exact kM3 (kRa_false w os) (kRb_false w os) (kRc_false w os)
    · exact kM3 (kRa_true w os) (kRb_true w os) (kRc_true w os)
set_option maxHeartbeats 0 in
def kH0(H:(OpenLaw.row PySem.Challenge.rw_talkleast_k91_whole_exchanged_and_cut).wellSaid=true->(OpenLaw.row PySem.Challenge.rw_talkleast_k91_whole_exchanged_and_cut).Holds):(PySem.Challenge.rw_talkleast_k91_whole_exchanged_and_cut).Holds:=by
  refine holds_law ?_ H;unfold OpenLaw.wellSaid;repeat' with_reducible apply look_both
  all_goals decide +kernel
set_option maxHeartbeats 0 in
def kok:(chainsOk kQ&&opensWell (OpenLaw.row PySem.Challenge.rw_talkleast_k91_whole_exchanged_and_cut).prog&&(frees (OpenRow.toRowW (OpenLaw.row PySem.Challenge.rw_talkleast_k91_whole_exchanged_and_cut))&&(OpenLaw.row PySem.Challenge.rw_talkleast_k91_whole_exchanged_and_cut).within.isEmpty))=true:=by decide +kernel
set_option maxHeartbeats 0 in
def khb:(OpenLaw.row PySem.Challenge.rw_talkleast_k91_whole_exchanged_and_cut).prog.bare:=⟨rfl,rfl,rfl,rfl,rfl,by decide +kernel⟩
end k91
end
theorem oa2{a b G:Prop}(H:a∧b)(F:a->b->G):G:=F H.1 H.2
theorem oa3{a b c G:Prop}(H:a∧b∧c)(F:a->b->c->G):G:=oa2 H fun x w=>oa2 w (F x)
theorem oa4{a b c d G:Prop}(H:a∧b∧c∧d)(F:a->b->c->d->G):G:=oa2 H fun x w=>oa3 w (F x)
theorem oa5{a b c d e G:Prop}(H:a∧b∧c∧d∧e)(F:a->b->c->d->e->G):G:=oa2 H fun x w=>oa4 w (F x)
theorem oa6{a b c d e f G:Prop}(H:a∧b∧c∧d∧e∧f)(F:a->b->c->d->e->f->G):G:=oa2 H fun x w=>oa5 w (F x)
theorem oa7{a b c d e f g G:Prop}(H:a∧b∧c∧d∧e∧f∧g)(F:a->b->c->d->e->f->g->G):G:=oa2 H fun x w=>oa6 w (F x)
theorem oa8{a b c d e f g h G:Prop}(H:a∧b∧c∧d∧e∧f∧g∧h)(F:a->b->c->d->e->f->g->h->G):G:=oa2 H fun x w=>oa7 w (F x)
theorem oa9{a b c d e f g h i G:Prop}(H:a∧b∧c∧d∧e∧f∧g∧h∧i)(F:a->b->c->d->e->f->g->h->i->G):G:=oa2 H fun x w=>oa8 w (F x)
theorem oa10{a b c d e f g h i j G:Prop}(H:a∧b∧c∧d∧e∧f∧g∧h∧i∧j)(F:a->b->c->d->e->f->g->h->i->j->G):G:=oa2 H fun x w=>oa9 w (F x)
theorem oa11{a b c d e f g h i j k G:Prop}(H:a∧b∧c∧d∧e∧f∧g∧h∧i∧j∧k)(F:a->b->c->d->e->f->g->h->i->j->k->G):G:=oa2 H fun x w=>oa10 w (F x)
theorem oa12{a b c d e f g h i j k l G:Prop}(H:a∧b∧c∧d∧e∧f∧g∧h∧i∧j∧k∧l)(F:a->b->c->d->e->f->g->h->i->j->k->l->G):G:=oa2 H fun x w=>oa11 w (F x)
theorem oe1{P:α->Prop}{G:Prop}(H:∃x,P x)(F:∀x,P x->G):G:=H.elim F
theorem oe2{P:α->β->Prop}{G:Prop}(H:∃ a b,P a b)(F:∀a b,P a b->G):G:=oe1 H fun x w=>oe1 w (F x)
theorem oe3{P:α->β->γ->Prop}{G:Prop}(H:∃ a b c,P a b c)(F:∀a b c,P a b c->G):G:=oe1 H fun x w=>oe2 w (F x)
theorem oe4{P:α->β->γ->δ->Prop}{G:Prop}(H:∃ a b c d,P a b c d)(F:∀a b c d,P a b c d->G):G:=oe1 H fun x w=>oe3 w (F x)
theorem oe5{P:α->β->γ->δ->ε->Prop}{G:Prop}(H:∃ a b c d e,P a b c d e)(F:∀a b c d e,P a b c d e->G):G:=oe1 H fun x w=>oe4 w (F x)
theorem oe6{P:α->β->γ->δ->ε->ζ->Prop}{G:Prop}(H:∃ a b c d e f,P a b c d e f)(F:∀a b c d e f,P a b c d e f->G):G:=oe1 H fun x w=>oe5 w (F x)
theorem oe7{P:α->β->γ->δ->ε->ζ->η->Prop}{G:Prop}(H:∃ a b c d e f g,P a b c d e f g)(F:∀a b c d e f g,P a b c d e f g->G):G:=oe1 H fun x w=>oe6 w (F x)
theorem oe8{P:α->β->γ->δ->ε->ζ->η->θ->Prop}{G:Prop}(H:∃ a b c d e f g h,P a b c d e f g h)(F:∀a b c d e f g h,P a b c d e f g h->G):G:=oe1 H fun x w=>oe7 w (F x)
theorem oe9{P:α->β->γ->δ->ε->ζ->η->θ->ι->Prop}{G:Prop}(H:∃ a b c d e f g h i,P a b c d e f g h i)(F:∀a b c d e f g h i,P a b c d e f g h i->G):G:=oe1 H fun x w=>oe8 w (F x)
theorem oe10{P:α->β->γ->δ->ε->ζ->η->θ->ι->κ->Prop}{G:Prop}(H:∃ a b c d e f g h i j,P a b c d e f g h i j)(F:∀a b c d e f g h i j,P a b c d e f g h i j->G):G:=oe1 H fun x w=>oe9 w (F x)
theorem oe11{P:α->β->γ->δ->ε->ζ->η->θ->ι->κ->μ->Prop}{G:Prop}(H:∃ a b c d e f g h i j k,P a b c d e f g h i j k)(F:∀a b c d e f g h i j k,P a b c d e f g h i j k->G):G:=oe1 H fun x w=>oe10 w (F x)
theorem oe12{P:α->β->γ->δ->ε->ζ->η->θ->ι->κ->μ->ν->Prop}{G:Prop}(H:∃ a b c d e f g h i j k l,P a b c d e f g h i j k l)(F:∀a b c d e f g h i j k l,P a b c d e f g h i j k l->G):G:=oe1 H fun x w=>oe11 w (F x)
theorem nS{a:α}{G:Prop}(h:none=some a):G:=by cases h
theorem nF{G:Prop}(h:false=true):G:=by cases h
theorem sS{a b:α}{G:Prop}(h:some a=some b)(f:a=b->G):G:=f (Option.some.inj h)
theorem pP{a c:α}{b d:β}{G:Prop}(h:(a,b)=(c,d))(f:a=c->b=d->G):G:=f (Prod.mk.inj h).1 (Prod.mk.inj h).2
open Lean in
local macro_rules|`(tactic|obtain ⟨$ps,*⟩:=$h)=>do
 let mut xs:Array Term:=#[];let mut s:Array (TSyntax `tactic):=#[];let mut t:=s;let mut u:=xs;let mut v:=xs
 for p in ps.getElems do
  let l:=p.raw[0][0].getArgs
  if l.size != 1||p.raw[1].getNumArgs != 0 then Macro.throwUnsupported
  let a:=l[0]!;let z:Ident:=(<-Macro.addMacroScope (Name.mkSimple s!"z{xs.size}"))|>mkIdent
  if a.isOfKind ``Parser.Tactic.rcasesPat.one then
   if a[0].getId==`rfl then xs:=xs.push z;s:=s.push (<-`(tactic|subst $z))
   else if s.isEmpty&& !(h.raw.isIdent&&h.raw.getId==a[0].getId) then xs:=xs.push ⟨a[0]⟩
   else xs:=xs.push z;u:=u.push z;v:=v.push ⟨a[0]⟩
  else if a.isOfKind ``Parser.Tactic.rcasesPat.ignore then xs:=xs.push (<-`(_))
  else if a.isOfKind ``Parser.Tactic.rcasesPat.tuple then
   xs:=xs.push z;let a:TSyntax `rcasesPat:=⟨a⟩;t:=t.push (<-`(tactic|obtain $a:rcasesPat:=$z))
  else Macro.throwUnsupported
 let n:=xs.size
 if n<2 then Macro.throwUnsupported
 let c<-if h.raw.isIdent then `(tactic|try clear $(⟨h.raw⟩):ident) else `(tactic|skip)
 let b<-u.reverse.mapM fun z=>`(tactic|revert $(⟨z⟩):term)
 let d<-if u.isEmpty then pure #[] else pure #[<-`(tactic|intro $v*)]
 let e:= #[c]++s++b++d++t
 let g p k:=mkIdent (Name.mkSimple s!"o{p}{k}")
 let mut r:= #[<-`(tactic|(refine $(g "a" n) $h fun $xs* =>?_;$[$e]*))]
 for k in [1:n] do
  let f:=g "e" k;let y:=xs.extract 0 k;let z:=xs.extract k n
  r:=r.push (<-if n-k==1 then `(tactic|(refine $f $h fun $xs* =>?_;$[$e]*)) else `(tactic|(refine $f $h fun $y* w=>?_;refine $(g "a" (n-k)) w fun $z* =>?_;clear w;$[$e]*)))
 r:=r.push (<-`(tactic|rcases $h:term with ⟨$ps,*⟩))
 `(tactic|first $[|$r:tactic]*)
local macro_rules|`(tactic|cases $h:ident)=>`(tactic|first|exact nS $h|exact nF $h|(refine sS $h fun z=>?_;clear $h;cases z)|(revert $h;intro (z:_=_);subst z)|(refine pP $h fun z w=>?_;clear $h;cases z;cases w)|(revert $h;intro (z:_=_);first|(exfalso;injection z;done)|(injection z with a b c d;cases a;cases b;cases c;cases d)|(injection z with a b c;cases a;cases b;cases c)|(injection z with a b;cases a;cases b)|(injection z with a;cases a))|cases ($h))
local macro_rules|`(tactic|omega)=>`(tactic|first|lia|fail)
open Lean in
def pX(T:NameMap (Array Syntax×Syntax)):Nat->Syntax->Syntax
 | n+1,.node i k l=>
  let r:=l.map (pX T n);let a:=r.getD 0 .missing
  if k==``Parser.Term.app then
   let x:=r[1]!.getArgs;let a:=if l[0]!.isIdent&&a.isOfKind ``Parser.Term.paren then a[1] else a
   let g q (y:Array Syntax):=if y.isEmpty then q else if q.isOfKind k then .node i k #[q[0],mkNullNode (q[1].getArgs++y)] else .node i k #[q,mkNullNode y]
   match T.find? a.getId with
   | some (p,b)=>g (pX ((p.zip x).foldl (λ m z=>m.insert z.1.getId (#[],z.2)) {}) n b) (x.extract p.size x.size)
   | _=>g a x
  else .node i k (if [``Parser.Command.definition,``Parser.Command.abbrev,``Parser.Command.instance].contains (r.getD 1 .missing).getKind then #[a.setArg 4 (mkNullNode #[.node .none ``Parser.Command.noncomputable #[mkAtom "noncomputable"]]),r[1]!] else r)
 | _,s=>match T.find? s.getId with
  | some (#[],b)=>b
  | _=>s.setInfo (.synthetic 0 0)
open Lean in
local macro_rules|`(mutual $c* end)=>do
 let mut T:NameMap (Array Syntax×Syntax):={};let mut o:=#[]
 for d in c do
  let s:=d.raw;let a:=s[1]
  if o.isEmpty&&a.isOfKind ``Parser.Command.abbrev then T:=T.insert a[1][0].getId (a[2][0].getArgs,pX T 9999 a[3][1])
  else o:=o.push (if s.isOfKind ``Parser.Command.universe then .node .none ``Parser.Command.end #[mkAtom "end",if a[0].getId==`E_ then mkNullNode else mkNullNode #[a[0],mkNullNode]] else pX T 9999 s)
 if T.isEmpty then Macro.throwUnsupported
 return mkNullNode o
mutual
abbrev Ę:=by omega
abbrev Ă:=Ę
abbrev ā à:=some à
abbrev ę à:=.val à
abbrev vW:=.int à
abbrev ī à:=ę vW
abbrev Ą à á:=by rw[à];exact á
abbrev Ħ:=List.getD_eq_getElem?_getD
abbrev Ľ:=List.getElem?_eq_getElem
abbrev Ų:=evE G F
abbrev Ũ à:=Ų à δ
abbrev ą:=wpAny_bind
abbrev ġ:=s.heap.objs.size
abbrev Ē:=.strong
abbrev tX:=run G T fu
abbrev Ĉ:=Bool.and_eq_true
abbrev Β:=by decide
abbrev đ:=Β
abbrev ċ:=List.length_map
abbrev Ĳ à:=List à
abbrev An:=.int á
abbrev Ã à á:=.ix (.var à) An
abbrev ű:=Heap.get?_push_of_some _
abbrev gj:=ev_var
abbrev iC:=gj rfl
abbrev ć:=iC
abbrev Ō à:=.int (à:Int)
abbrev ă:=false
abbrev aj:=X.prog
abbrev vj:=wpAny (model aj X.w)
abbrev Ŕ:=List.mem_cons_of_mem _
abbrev lj:=Inv X
abbrev lA à:=lj à σ
abbrev iJ:=lA pins
abbrev ab à á â:=evs_cons à (evs_cons á â)
abbrev ĕ:=Option
abbrev Υ:=List.mem_cons_self
abbrev Px à:=.ok vW
abbrev š:=Nat.le_trans
abbrev WX:=fun {à X e á r} g â h=>?_
abbrev DI:=fun _ _=>rfl
abbrev jc à á â ã:=.of WX DI (fun à e ã â=>?_)
abbrev RZ:=ev_call (G:=G)
abbrev CU à á â:=RZ (F:=à) (δ:=á) (f:=â)
abbrev ħ:=Nat.le_refl _
abbrev Đ:=.var 0
abbrev Ć à:=(à).length
abbrev ı à:=((à:Nat):Int)
abbrev Ū:=List.range
abbrev oy:=congrArg
abbrev BE à:=let ⟨t,_,h⟩:=any1_at h;Eq.mpr (oy C t.2) (à)
abbrev sI:=wpAny (model prog w)
abbrev H_:=Heap.get?_push_size
abbrev Ø:=H_ _ rfl
abbrev Ŀ:=List.mem_cons.mp
abbrev Ņ:=wpAny_pure
abbrev Ķ à:=by simpa using à
abbrev adf:=(Addr×Obj)
abbrev Aw à á â ã ä å æ ç è é ê:=(à).stay (fun á â ã q=>ä) (fun å q=>æ) (fun å ç q=>æ) (fun å ç q=>æ) fun å è _ é ê q=>æ
abbrev Î:=flip m rows
abbrev ō:=List.getElem?_map
abbrev nG:=Option.bind_eq_some_iff.mp
abbrev Ŧ à:=run_of (fd:=à) rfl rfl
abbrev ĩ à á â:=if à then á else â
abbrev Ŷ à á:=hs_cons (sk à á X Ns)
abbrev Ÿ:=.type
abbrev ae à á:={cls:=Ÿ à,data:=á}
abbrev Ê:=go_nx
abbrev ac à:=Ê (ev_set à rfl)
abbrev p7:=freeCells
abbrev DO à:=p7 X.env.cells à []
abbrev cq:=sc.names
abbrev lQ:=DO cq
abbrev Gy:=List.getElem?_eq_some_iff.mp
abbrev Θ:=Option.map_eq_some_iff.mp
abbrev į:=PySem.W.Frag
abbrev ŝ:=.var 1
abbrev Ń:=ŝ
abbrev Ő:=List.mem_map.mp
abbrev ŏ à á:=by rw[←à];exact á
abbrev ŵ:=by decide +kernel
abbrev dh:=by intro z;cases z
abbrev nF à á â ã ä:=fun à H Q ⟨O,W,R,p⟩=>⟨O,W,R,fun á â s1 ã=>ä⟩
abbrev zR:=List.mem_filter.mpr
abbrev o6:=List.mem_range.mpr
abbrev gK à á:=zR ⟨o6 à,á⟩
abbrev Ĝ à á:=fun à á=>?_
abbrev ß à:=.lst (iD à)
abbrev Œ à:=à->Prop
abbrev ú:=Value->Œ Shared
abbrev č:=Shared
abbrev lv:=List.mem_append_right _
abbrev Ě:=Value
abbrev qy:=dE X.D δ
abbrev Ğ à á â:=fun à á â=>?_
abbrev Uq:=List.getElem?_set_ne
abbrev jv:=Ne.symm
abbrev bP à:=Uq (jv à)
abbrev ce:=Nat.lt_of_lt_of_le
abbrev ť:=List.length_cons
abbrev Â:=List.length_append
abbrev az à:=rows.getD à []
abbrev ő:=rows.length
abbrev ź:=List.mem_range.mp
abbrev qN à á:={n:=à,np:=à,body:=[.ret (á)]}
abbrev dr à á:=gj (n:=à) (d:=á) rfl
abbrev aI à:=.own (.lst à)
abbrev aB:=Heap.lt_size
abbrev qX à:=fun (à:Nat)=>DV.int (à:Int)
abbrev Μ:=List.length_range
abbrev ĉ:=if_pos
abbrev eY:=⟨O,W,R,p⟩
abbrev ķ:=beq_iff_eq
abbrev fZ:=s.heap.get?
abbrev KZ:=wpAny_call_entry
abbrev Ma à á â ã ä:=wpAny_callSpecial?_slot à á (KZ á à â ã ä)
abbrev Ģ:=by simp
abbrev ŗ:=List.map_map
abbrev aG:=List.mem_singleton.mp
abbrev Lm à:=by unfold à at h ⊢;exact h
abbrev ο:=Bool.not_eq_true'
abbrev þ:=decide_eq_true
abbrev Ė:=s.heap
abbrev Gf:=(à).map
abbrev ļ à á â:=Gf fun á=>â
abbrev Ë:=List.map_append
abbrev kC:=Rect n m
abbrev ŧ:=kC rows
abbrev kh à á:=by have:=à;rw[á]at this;exact this
abbrev Ĭ:=.var 2
abbrev Dc:=X.env.cells.lookup
abbrev ip à á â:=fun z à=>á.1 g â à
abbrev LB:=R.hid.mono
abbrev Δ:=LB s1
abbrev Ź à:=by rw[à];omega
abbrev qC à á â:=by obtain⟨_,_,g,_⟩:=C.at_ à á;rw[â]at g;cases g
abbrev Å:=.int 1
abbrev Õ:=tT rows
abbrev fy:=Same.refl
abbrev EF:=p _ H (fy H)
abbrev Č à:=.ref à
abbrev pf à á:=.Call (.Name à p) á [] pos
abbrev Ô:=L2.wo
abbrev qx:=(O++W)
abbrev nB:=Ô qx
abbrev ě:=decide
abbrev adh:=Nat.pow_le_pow_right
abbrev bn à:=⟨à,rfl⟩
abbrev aU à:=Ô à H
abbrev Ž:=ev_int
abbrev Ν à:=Ž (i:=à)
abbrev iT:=NameKind.free
abbrev Ke:=List.mem_map.mpr
abbrev eO à á:=Ke ⟨à,á,rfl⟩
abbrev jX à á:={s with heap:=à,toks:=á}
abbrev ak:=decide_eq_true_eq
abbrev ma:=.one 0
abbrev fe à:=.comp (à) ma
abbrev oa:=JL rows w m
abbrev ĵ:=.fresh
abbrev Α:=evs_nil
abbrev Ş à:=show à by omega
abbrev ĝ:=if_neg
abbrev œ:=ds.length
abbrev cU:=List.size_toArray
abbrev rR:=X.env.scope.names.lookup
abbrev lH:=evSs G F fu
abbrev Ñ:=Nat.ne_of_lt
abbrev aE:=Int.toNat_natCast
abbrev θ:=FI rows
abbrev É:=(j:Int)
abbrev Þ:=.bi .len
abbrev Χ:=Re.thn
abbrev dt:=decide_eq_false
abbrev ľ:=.call
abbrev xJ:=mf rest
abbrev FR:=tbl J xJ b
abbrev Wg à á:=lnD J t rest (FR à á)
abbrev vF à:=ev_call à rfl
abbrev adq à á:=vF (evs_cons à á)
abbrev Ļ à á â ã:=fun à á â ã=>?_
abbrev dJ à:={s with heap:=à}
abbrev bp:=.weak
abbrev jQ:=compGo
abbrev mX:=innerD
abbrev Yx à á â ã ä å æ ç è:=if à=bp\/mostLen<á then(if à=bp/\á<=mostLen then compEndW (jQ (fun â=>(tg.bind â (mX ã ä)).bind fun å=>Rc.of (æ)) ç)else none)else compEnd (jQ (fun â=>(tg.bind â (mX ã è)).bind fun å=>Rc.of (æ)) ç)
abbrev fh:=List.mem_append_left _
abbrev Ko à á â ã ä:=cxComp X scope à á â ã ä fp
abbrev bN:=List.mem_filter.mp
abbrev mI:=Int.natCast_nonneg
abbrev ĸ:=absurd
abbrev eI:=PySem.mem_of_lookup
abbrev c_:=List.map_congr_left
abbrev gP à á:=[vW,An]
abbrev cn à:=eval à X.env
abbrev dB:=sc.names.lookup x
abbrev ĺ:=.var 3
abbrev Ň:=l.length
abbrev Η:=List.map_cons
abbrev iF:=beq_eq_false_iff_ne.mpr
abbrev eP à:=by cases à
abbrev aW:=Nat×Nat
abbrev ĳ:=.int i
abbrev Wa:=List.exists_mem_of_length_pos
abbrev vI à á â:=Wa (cs_pos à á â)
abbrev AT:=sizeLine
abbrev Ù à:=à<=AT
abbrev ŋ:=.lst ds
abbrev Ä:=xs.length
abbrev Fa:=defScope
abbrev Mi à á â:=PySem.W.fnOf x à (defArgs st) (defBody st) (Fa st) á kV â pm
abbrev rY:=wpAny _
abbrev su à á:=rY à (á >>= _) _ _
abbrev io:=isTrue_plainT rfl
abbrev f7:=s1.heap.objs.size
abbrev BA:=Bool.false_ne_true
abbrev dZ:=.bin .Add
abbrev qp:=seqObj "list"
abbrev vk:=keys.toList.toArray.zip us.toArray
abbrev ID à á â:=.of2 WX WX DI
abbrev ū:=X.env
abbrev x3:=ne_of_none
abbrev sn à á:=upd_ne (x3 à á)
abbrev sY:=by cases n<;>simp[DV.plain]at h
abbrev τ:=ps.length
abbrev k7:=X.env.kindOf
abbrev f6:=Array.length_toList
abbrev qL à:=ts_cons (sndS (à)) (sndSs ms) rfl
abbrev gm:=.bin .Mod
abbrev Š:=S1 G F
abbrev bY:=bz v m n
abbrev lw:=.builtin
abbrev iO:=List.mem_of_getElem?
abbrev Í:=.var 4
abbrev ý:="list"
abbrev jY:=List.getElem?_eq_none
abbrev Ac:=List.length_filter_le
abbrev bD:=A.handled=none
abbrev f9 à á:=⟨à,á,rfl⟩
abbrev Jn:=bl.map qD
abbrev kW:=.lst Jn
abbrev HJ:=Got D O W
abbrev fI à:=HJ à H
abbrev HZ à:=RSt à H σ δ O W
abbrev Dk à:=⟨à,H1,I1,r1,q1⟩
abbrev nA:=Bool.and_eq_true_iff.mp
abbrev ab7 à:=.v (.lst (à)) true
abbrev eX:=R.mono s1
abbrev E6 à á â ã ä:=fun à á H ⟨â,O,W,R,ã,fo,sm,k⟩=>ä
abbrev Ű:=r.length
abbrev mx:=EP X pins σ Q
abbrev u8:=(·.2)
abbrev aD à:=Gf u8
abbrev F4:=aD (kl rows m n)
abbrev bJ:=DV.plain
abbrev cu:=beq_iff_eq.mp
abbrev dm à:=go_ife (tst_bl à)
abbrev gL:=List.mem_append.mp
abbrev adn:=x==("__debug__" : Str)
abbrev Ð:=.inl rfl
abbrev ŕ:=DV.int
abbrev eW à:=Hid O W à H
abbrev bH:=scope.names
abbrev EN à á:=PA X à (dA X.D δ á)
abbrev Ř à á:=(à).getD á 0
abbrev ÿ:=mostLen
abbrev jK:=Heap.SameBut.update
abbrev Nh:=.bin .LShift
abbrev A9:=X.env.qual
abbrev rA:="<lambda>"
abbrev BV:=A9 ++ rA
abbrev eC:=Option.some.inj
abbrev uE:=wpAny_newObj_type
abbrev VN à:=Stands à mg fn bl cl d
abbrev Mk à á:=VN K x à á ps
abbrev qO:="joined_bits"
abbrev Fs:="joined_ends"
abbrev Rn à:=.callv à [(qO,17),(Fs,18)]
abbrev ij:=RepL D
abbrev ux:=s.heap.push
abbrev jV:=List.getElem_mem
abbrev Ŋ:=scope
abbrev Ds à:=thn (ha pins s σ H à I h)
abbrev eT:=δ.set i
abbrev sB à:=.nx (eT (à))
abbrev G3:=notedBy (model prog w) A env fun e g=>R (.error e) g
abbrev bc à á:=fun _ _ à=>á
abbrev Et:=f t.1.1 t.1.2.1
abbrev za:=t.1.2.2
abbrev BH:=Et za.1
abbrev cj:=Œ Hp
abbrev fT:=kl rows m
abbrev bO:=mainGlobals
abbrev cX:=Nat.zero_le _
abbrev fv:=List.append_nil
abbrev DZ:=wpAny_setField_rec
abbrev GG:=wpAny (model P w)
abbrev ze à á â ã:=repL_cons.mpr ⟨à,á,rfl,â,ã⟩
abbrev cN:=X.env.locals
abbrev gR:=List.lookup_cons
abbrev oI:=List.length_singleton
abbrev oZ:=Array.getElem?_toList
abbrev Á à á:=⟨à,rfl,á⟩
abbrev Û:=es.size
abbrev ď à:=.inl à
abbrev Ŗ:=startS
abbrev tu:=us.toArray
abbrev bV:=Nat->Int
abbrev br:=.cmp .Eq
abbrev vD:=rows.map
abbrev dn à:=vD fun r=>à
abbrev fR:=wN rows w n m
abbrev uw:=List.getElem?_append_right
abbrev HF:=corE sg
abbrev sf:=List.length_set
abbrev gc:=Bool.or_eq_true
abbrev cW:=s.toks
abbrev NS à:=I.turned (t':=cW) (fun b o hb e=>à) f0 f1 f3 f4 f5
abbrev oY:=.bin .Mult
abbrev qe:=Re.thnS δ
abbrev b_ à á:=by unfold à;rw[á]
abbrev gA à:=go_rt (ev_ret (à))
abbrev À:=Nat->Nat
abbrev η:=wo_out
abbrev cF à:=η fun z=>à
abbrev jb à á â:=by rw[à]at á;cases â
abbrev uv:=List.getElem?_append_left
abbrev Eh à:=evEs G F à δ
abbrev ao à:=H à=none
abbrev bf:=X.calm=true
abbrev gW:=rY _ _ _ _
abbrev ř:=Program
abbrev fq à:=by have:=à;omega
abbrev gV:=Option.map_some
abbrev w_:=by unfold Rep;exact Iff.rfl
abbrev Mc:=X.env.scope
abbrev wF à á:=CompScope X.N à á Mc fr
abbrev lM à á:=.frz à (.own á)
abbrev ad:="tuple"
abbrev ς:=(k+1)
abbrev aR:=PyData.eqv
abbrev xj:=decide_eq_true_iff
abbrev iz:=run_of rfl rfl
abbrev Bb:=wpAny_field
abbrev OJ à á:=Bb à rfl (x:=á) rfl
abbrev rD:=List.getElem?_set_self
abbrev i_ à:=L.map fun p=>à
abbrev Ο:=h.get?
abbrev ń à:=à->Bool
abbrev yU:=.bin .Sub
abbrev Ĺ:=.none
abbrev È:=upd_ne
abbrev uY:=ev_ret
abbrev aC à:=by simp[à]
abbrev aJ à:=show à by omega
abbrev uW:=evS G F fu
abbrev bA:=.Name x
abbrev xP:=eE rows w m
abbrev yu:=Env0 P w K mg base A outer s
abbrev Λ:=tst_bl
abbrev lC:=DV.nolams
abbrev v_:=X.s₀.heap.objs.size
abbrev wV:=Array.getElem?_eq_getElem
abbrev jI:=w.params
abbrev lZ:=Option.getD_some
abbrev ė à:=.inr à
abbrev ρ:=(n:Int)
abbrev aP:=vs.length
abbrev zT:=rkz v m n
abbrev kr:=zT (v n)
abbrev qB:=List.all_eq_true.mp
abbrev bh à á:=fun b o à e=>á
abbrev KA à:=(asI à).bind
abbrev eB à:=nomatch à
abbrev eD:=(·.1)
abbrev eM:=l.map eD
abbrev oV:=tg.bind d
abbrev EU:=mX fr δ
abbrev KH:=oV EU
abbrev aF:=l.map
abbrev iU:=Heap.size_push
abbrev sZ:=Bool.or_eq_false_iff
abbrev Ú:=Same H
abbrev bM:=.fields
abbrev JF à á:=à ++ ".<locals>." ++ á
abbrev mN:=Obj.mapSeq
abbrev mL:=List.length_take
abbrev Ll à á â ã ä:=by unfold à at h ⊢;obtain⟨á,â,e1,e2,e3⟩:=h;exact⟨á,â,e1,ã,ä⟩
abbrev aZ à:=RelV à u
abbrev jR:=forGo
abbrev wM:=jR tg body
abbrev kH:=c.testBit
abbrev Mg:=blockN sg tn fr
abbrev O8:=SetTable.grown c.size
abbrev Em à:=relayAll à c O8
abbrev bQ à:=by rw[à];rfl
abbrev vZ à á â ã ä å:=by obtain⟨à,á,â⟩:=ã;exact⟨à,ä,å⟩
abbrev χ:=.var 5
abbrev yt à:=.ok (.ret à)
abbrev fg:=.bool
abbrev A3:=fg true
abbrev uy:=s₁.heap
abbrev adj:=fun r s'=>r=yt A3/\OldK uy s'.heap/\s'.os=s₁.os/\AllBare s'.gens
abbrev J_:=Heap.get?_update_self
abbrev OA:=Obj.data_mapFields
abbrev Ţ à:=(à).trans
abbrev Td à á â ã:=⟨_,J_ _ à (Obj.isFreed_of_fields (OA á _)),Ţ (Obj.cls_mapFields ..) â,ã⟩
abbrev xL:=.cmp .NotEq
abbrev Vu à:=cxComp X à N' C cells s₂ H₂
abbrev lh:=I.hok.fresh
abbrev wc à á:=fun σ H Q=>t σ H fun à H1=>á
abbrev ŷ à á:=fun à H Q=>á
abbrev af à:=fun à=>?_
abbrev lO à:=X.A.units+à<cLine
abbrev pC à:=2^((à:Int).toNat)
abbrev gf:=DV.plains
abbrev xc à á:=by unfold à at á;cases á
abbrev ω:=δ[i]?
abbrev wW:=Array.getElem?_eq_none
abbrev i6:=List.mem_cons
abbrev oK:=beq_self_eq_true
abbrev EY:=Nat.le_add_right
abbrev pp:=Nat.zero_testBit
abbrev Ae à:=0<=à/\à<=9
abbrev FK:=∀r∈rows,∀x∈r,Ae x
abbrev vK:=rst m rows
abbrev tV:=mf vK
abbrev dQ:=.lam m cs
abbrev jx:=wpAny_mono
abbrev tK:=rows.idxOf
abbrev mq:=its.toArray
abbrev ur à á:=codeAny (model à á)
abbrev Ev à á â ã:=.ListComp à [⟨á,â,ã,0⟩]
abbrev LO à á:=cxLam P w K mg base à q á f
abbrev Bq:=Array.getD_eq_getD_getElem?
abbrev ś:=outer
abbrev tm:=Nat.lt_of_le_of_lt
abbrev Ĵ à á:=fun i à=>á
abbrev Dt à:=Ĵ j (.int (à))
abbrev tE:=(sk p i)
abbrev QL à á:=if à=p then -(sm (fun i=>c i*A tE k) a)else A p k*c (usk p á)
abbrev ba:=h'.get?
abbrev rK à á:=.BoolOp à á pos
abbrev aY:=us.length
abbrev Db:=X.base.get?
abbrev dH:=X.stack
abbrev Id:=Db c=none/\c∉frs dH
abbrev bu:=flip m X
abbrev ž à á:=show à from á
abbrev aM:=upd_same
abbrev zQ:=Fa st
abbrev sJ:=by kernel_rfl
abbrev EJ:=dT X.D δ
abbrev EK à á:=PT X à (EJ á)
abbrev lz:=.cell
abbrev ET à á â:=∀h:Heap,à->PySem.W.CodeHd h á â
abbrev dX:=ev_ix
abbrev FV à:=dX à Ž
abbrev Ω:=star_of
abbrev lV à:=rk L n (L à,0)
abbrev rC:=ObjOk aj X.w
abbrev qf:=Option.bind_some
abbrev qo:=List.not_mem_nil
abbrev qt:=List.all_eq_true
abbrev Jl à á â ã:=gj (G:=G) (F:=à) (δ:=á) (n:=â) (d:=ã) rfl
abbrev LC:=starEach
abbrev Ey à:=inName à fun x=>slotB sg i x
abbrev qE:=⟨K,mg⟩
abbrev Br:=SetTable.below
abbrev qI à á:=by unfold à;rw[á];rfl
abbrev A':=Builtin.SmallTypes.nextOf
abbrev BJ:=Rep.mono
abbrev i9:=BJ e h
abbrev yZ:=Heap.SameBut
abbrev ib:=go_rt
abbrev o5 à:=⟨à,Ę⟩
abbrev jA:="int"
abbrev H9:=T==t||(T == "bool" && t == jA)
abbrev fH:=isStar
abbrev pV à:=OpR X (binaryOp à)
abbrev lP:=List.any_cons
abbrev ww:=scope.names.lookup
abbrev adg à:=at_int (l:=xs) (i:=à)
abbrev mr:=X.base
abbrev cZ:=lamIx
abbrev P1:=LamOk aj X.w X.K X.mg mr fn bl cl k (F cZ)
abbrev pF:=mf rows
abbrev N5 à á â ã:=∀à,isTrue á â à=(do let v ←à;standAt ã;holding [v] (truthy v))
abbrev IA à á â:=∃a es n,G.gk=[]\/DictK à á â G.gk a es n
abbrev eG:=False.elim
abbrev Ď:=Ĳ Int
abbrev Ċ:=Ĳ Ď
abbrev Ż à á â:=Ũ à=ā (.ok á â)
abbrev Ì à á:=∀q,à=ā q->PE X á (qy q)
abbrev Į à á â:=à[á]? = ā â
abbrev Ŭ à á:=if à then ā (á)else none
abbrev Ŵ:=Nat->Ĳ DV->ĕ Ou
abbrev db à á:=match e with | à=>ā (bn á) | _=>none
abbrev M' à:=evE G (tX à)
abbrev iX:=.scr ns
abbrev Ge à á â ã:=[.val iX,ī tp,.val (ß xs),far,ī n,ī m,à,á,â,ã]
abbrev dU à:=.ok (à) Ē
abbrev Ŏ à:=.set à ă
abbrev Ĩ:=Ĳ DV
abbrev eV à:=evSs G (tX à) fu
abbrev aO:=ā lz
abbrev jz:=ā .free
abbrev ol à:=à=aO\/à=jz
abbrev ē:=ā o
abbrev bZ à á â ã ä:=CU à á â (es:=ã) (l:=ä) rfl rfl
abbrev ğ:=Ĳ adf
abbrev fQ à:=tX (k+à)
abbrev Ĕ:=Ĳ Sv
abbrev Ĥ:=iJ H s
abbrev Ġ:=Ĳ Nat
abbrev aX à:=Ć (FI à)
abbrev KD:=l.all fun p=>p.2 == Ē||p.2 == ĵ
abbrev ĥ:=Ĳ Str
abbrev fW à á:=Ĳ (à×á)
abbrev cg à:=(Ū à).filter
abbrev adb à:=ux (ae "range" (bM #[.int lo t,.int hi u,à]))
abbrev Qt à á:=⟨à,á,sg.fn,sg.bl,sg.cl,ă,ă,noCo⟩
abbrev xG à:=evs_cons à Α
abbrev ŀ:=Ĳ Addr
abbrev dN:=.int k
abbrev cM:=False
abbrev adl à á â ã:=∀pins' à á,lj pins' σ á à->Ú á->vj â (call (Č f) [u]) (EP X pins' σ (fun w ã=>w=dN/\Same á ã)) (fun _ _=>cM) à
abbrev Ψ à:=Px à Ē
abbrev sA à á â ã ä:=match à with | ā á=>â | ã=>ä
abbrev Ei à á â:=sA (body à) (.nx á) (wM â á) o o
abbrev sQ:=.compi
abbrev adc à á â ã ä å æ:=sQ (Nh Å Đ) (.one à) (.rng [Þ [á]]) (.bi .all [fe (br (.ix (.ix Ń â) ã) ĺ) Ń [none,ā ä,ā à,ā å]]) [none,ā å,ā à,æ]
abbrev Ů:=tX ς
abbrev Æ à á â ã:=thn (à) (Ğ á â ã)
abbrev jr:=ĕ Ě
abbrev Τ:=Str->jr
abbrev dv:=aZ v
abbrev Vs à á:=∀x d,G.con.lookup x=ā d->∃u v,à=ā u/\dv/\∀H,Rep á H d v
abbrev ff:=[Đ]
abbrev Ε à:=ľ à ff
abbrev fN:=dX (cx:=Ē)
abbrev ŉ:=Ĳ Ě
abbrev ģ à:=.tup à
abbrev tJ à:=ģ (iD à)
abbrev ö:=Ć θ
abbrev ik à á:=PE X (à) (qy á)
abbrev pA à:=[none,ā à]
abbrev zW:=(pA 0)
abbrev Fo:=fe (.ix Đ Ń) Ń zW
abbrev ů à:=Ō (à:Nat)
abbrev on:=.function
abbrev aaG à:=X.env.blockKind == on&&k7 x==ā .local&&pt.line==(Expr.ListComp a.elt [⟨a.tg,a.it,a.ifs,0⟩] a.sc p).pos.line && !à
abbrev Q4 à á â:=.ext 3 (sQ (ģ [.var 1,Đ]) ma à (br (.ix á Đ) ĺ) [none,ā 4,ā â,ā 1])
abbrev Ī:=Č a
abbrev fw à á:=fun à á=>h à (Ŕ á)
abbrev zq à á â ã:=(à).weak fun á H Q eY=>⟨O,W,R,fun â s1=>ã⟩
abbrev I_ à á:=ev_set (d:=à) (cl:=á)
abbrev nb:=i_mod
abbrev R6 à á â:=go_nx (I_ vW Ē (ŏ á (i_add ev_int (nb (FV ć â) ć đ))) rfl)
abbrev cR:=vj X.A
abbrev me à á â:=ev_call (à:=á) â rfl
abbrev iN:="dict"
abbrev Ea:=[jA,"bool","str",ý,ad,iN]
abbrev EH:=RepL X.D
abbrev uR:=keysL F
abbrev Vg à á â ã ä å æ ç è é ê ë:=va=V.ref a/\RSt X.D à á δ O W/\SqL X.K à a â/\EH (nB à) ã â/\ä/\uR dQ ã=ā ks/\å=ā æ/\∀ç è,Same à ç->é->Q ê ë
abbrev gF à:=ī (à:Nat)
abbrev bK à:=Χ (Ũ à)
abbrev g_ à á:=.lst (Gf á)
abbrev rX:=.BitAnd
abbrev Fv:=.bin .RShift
abbrev Fp à á:=.bin rX (Fv à á) Å
abbrev nM à á:=inName_el à (Ğ x á à)
abbrev Ç à:=š à đ
abbrev Ï à á:=H à=ā (á)
abbrev ya:=X.fn x=true\/rR x=ā .local
abbrev cw à á â:=by rw[à,á];exact â
abbrev Cs:=.ix Ĭ
abbrev ack:=yU (oY Đ (Cs ĺ)) (oY Í Ń)
abbrev jP:=.many
abbrev Cq:=jP [0,1]
abbrev acl:=.comp ack Cq (.zp Ĭ ĺ) [none,none,ā 3,ā 4,ā 5]
abbrev DK à á â:=∀y∈à,y.2=iT->∃á,â=ā á
abbrev de:=HF ă
abbrev qr à:=List.toArray (Ū à)
abbrev Ś:=ā c
abbrev f_:=sI A
abbrev gY à:=f_ (à) Q E s
abbrev oF à á â:=Q (Č à) (upd á à (â))
abbrev tZ à:=fun i hi j hj=>à
abbrev R7 à á â ã ä å æ ç:=V_swap hJ N à á Ă â ã ä å (tZ (h9 i æ j ç)) (tZ (e i æ j ç))
abbrev lG:=e::es
abbrev ai:=lG
abbrev İ:=Ĳ V
abbrev Hj à á â ã:=match à with | none=>á | ā â=>ã
abbrev WR à á â ã ä:=if à á â != à ã ä then ă else(à ã â != à ã ä||à á ä != à ã ä)
abbrev Ŝ:=ĕ Re
abbrev û:=Ĳ Expr
abbrev Ku à:=Shared.heap ⟨à,g0,d0,k0,o0⟩
abbrev ON à:=Ku (h0.push (ae à (bM #[Č l1,.int 0 0])))
abbrev zo à á:=Rep à á d v
abbrev jg à á:=⟨à,Ē,rfl,á,rfl⟩
abbrev gH:=Array
abbrev dz:=gH Ě
abbrev Vf à:=.Call (.Name à p) [ea] [⟨ā "key",.Lambda pr bd sc lp,kp⟩] pos
abbrev GV à á:=cxOf à P w K mg base N qual Ŋ f á A ś s H
abbrev WB à:=gP (à.1:Nat) (à.2:Nat)
abbrev tq:=qp #[]
abbrev Z9:=(ux (tq 0)).update ġ (mN (· ++ tu))
abbrev lW à á:=[none,ā à,ā á]
abbrev Ik:=d.push (ae ad (.seq #[dN a,x]))
abbrev tW à:=bw (oa à)
abbrev vM:=tW (j+1)
abbrev wj à:=OpR X (compareOp à)
abbrev xw:=sQ Đ ma
abbrev wg à á:=lv (lv (mem_pinsAt à á))
abbrev Qv à á â:=s_const (fun sg w e h=>cu à) (fun δ=>rfl) DI (bc á â)
abbrev AA à á â:=fun b o e n à á=>â
abbrev W8 à á â ã ä å æ ç:=⟨I.ok,I.os,I.bare,⟨AA hb hx ?_,AA hb hx ?_,I.base.free,Ļ b o e hx,I.base.tups,I.base.frzs,I.base.tbls⟩,⟨à,á,fun â ã v' e1 e2 e3=>?_⟩,Ğ ã ä e,I.free,I.freeC,Ĝ p hp,tracked ⟨å,æ,ç⟩ hs,Ķ I.len⟩
abbrev Le à:=inNo_el h fun h=>à
abbrev sN:=in0_el h
abbrev Ue:=Le (sN fun h=>sN fun h=>Le (sN (af h)))
abbrev ø:=Ĳ aW
abbrev L8:=sysModules
abbrev yn:=KV kvs vs
abbrev vY:=mixKind
abbrev Si:=Ù kvs.length/\(a==L8)=ă/\∃vs,yn/\h.DictOf (vY P w) a vs
abbrev Fh à á:=sm (fun t=>à*v (Ř á t) j) (Ć bY)
abbrev uI à:=⟨_,à,rfl,rfl⟩
abbrev AU à:=CallR X (lw à)
abbrev fX:=tabsOf
abbrev S6 à á â ã:=∀p∈fX à,á=none/\â=ā {cls:=Ĺ,data:=bM #[]} /\ isCodeTable ã p.1
abbrev im à á â:=Gf (fun á=>â)
abbrev KJ:=.bin .FloorDiv
abbrev WQ à á:=KJ (gm (à) An) (.int 7)
abbrev xy à á:=.iff (à) [.ret á] []
abbrev zf:=itemHid O W
abbrev EA:=ij (aU (zf c)) ds
abbrev nX à á:=FI_pos (Ą à á)
abbrev Uw:=by cases e<;>first | (cases m<;>simp[bJ]at h;done) | (simp only[toP,aR,deq])
abbrev li à á â:=Ţ (à.2 á â)
abbrev Ι:=aB e
abbrev NK à:=li hs b (Ñ (ce Ι à))
abbrev yW à á:=Ņ ⟨plainId_quiet à _,á⟩
abbrev xK à:=sS c n à (ī r)
abbrev FX à:=RL rows w n (oa à)
abbrev υ:=.int 0
abbrev nO:=bs L n
abbrev je à:=Ř nO à
abbrev ũ:=Υ ..
abbrev GW:=FnOk P w K mg base
abbrev Ý:=tX k
abbrev adk à:=GW CX0 k à fd ps (spF qE τ (Ý i))
abbrev ż:=(j+1)
abbrev zJ à á:=if à.1=k then(à.1,á)else à
abbrev jZ:=same_upd
abbrev lX:="column"
abbrev MC à á:=.ix (.ix Đ (Ã à 0)) (Ã á 1)
abbrev aq:=upd H
abbrev Hh à:=.v à ă
abbrev lF à:=Hh vW
abbrev Ł:=of_rt
abbrev mV:=Rs.thn
abbrev zg:=got_int
abbrev zj:=EF zg
abbrev eg:=rect_flip
abbrev jW:=Nat.zero_add
abbrev o7:=sg.sc.lookup
abbrev o9:=repL_cons.mp
abbrev PV à á:=ur P w A (ľ (Č f) ⟨à,[]⟩) (CR á ś P w H s Q E) s
abbrev DP:=Nat.lt_irrefl _
abbrev wX:=List.getElem?_range
abbrev Jv:=by dsimp only;omega
abbrev DA:=Option.isSome_iff_exists.mp
abbrev LR à:=at_wo hl à (by intro o c z;cases z)
abbrev ye:=fun _ _=>cM
abbrev so:=a.heap.objs.size
abbrev ł:=World
abbrev mh à á:=cv.cov hs à á bl
abbrev jS:=Re.ok
abbrev ada:=ļ (rngD l) ds (jS ŋ ĵ)
abbrev iy:="row"
abbrev nQ:=.str iy
abbrev sF:=ev_own
abbrev Jg:=go_nx (sF (d:=.lst []) rfl)
abbrev Aa à á:=ib (uY (cl:=à) (á))
abbrev nC:=rep_int.mp
abbrev Bw:=wpAny_holding
abbrev wA:=List.append_assoc
abbrev bU à á:=ĩ (à) (á) none
abbrev lE:=.ok d Ē
abbrev JX à:=Q (vW s.toks) {s with toks:=s.toks+1}
abbrev Vz à á:=fun δ' r' hr C cells s₂ H₂ fp=>à.1 (good_comp g h4 C cells s₂ H₂ fp) á hr
abbrev eL:=ns.length
abbrev cY:=ks.length
abbrev Hs à:=SetAt à a es ep t
abbrev Tw:=List.filter_cons_of_neg
abbrev MW à:=Tw (by rw[à];decide)
abbrev tI:=.int 2
abbrev VY:=.comp (Nh (gm Ń tI) Đ) Cq (.enu Đ) [none,none]
abbrev Ak:=List.all_eq_true.mpr
abbrev lS:=Int.mul_comm
abbrev yx:=List.nodup_cons.mp
abbrev xp:=List.mem_singleton
abbrev Th:=by first | rfl | (simp only[firstArgMember];rfl)
abbrev Av à:=(à==L8)=ă
abbrev Ö:=ā u
abbrev L_:="dict_itemiterator"
abbrev Xg:=["enumerate","zip",L_,"dict_reverseitemiterator","odict_iterator","itertools.zip_longest","itertools.pairwise"].contains
abbrev gG:="table"
abbrev oe à:=Ŷ à [gG]
abbrev Nk à á â ã:=J.j (V J f à á) (V J f â ã)
abbrev M5 à á:=Nk à.1 à.2 á.1 á.2
abbrev ZR à:=fun i H x n d O2 s g y e l=>by obtain⟨m,y⟩:=y;subst m;obtain⟨v,k,j⟩:=r.get e;have:=y xs (à);rw[k]at this;cases this;exact j.mono (wk_hid g l)
abbrev aaK à á â ã ä å æ ç:=⟨rfl,à,Ĝ y hy,Ĝ y hy,Ĝ y hy,fun y hy=>hy,fun y hy=>hy,rfl,hr'.units,fns_of hT hs ih1 hr',hbl,hdk,hcon,(fun á=>â),(fun z=>eB ã),(fun ã=>⟨hlm0,⟨ä,hr',ih2,ih3⟩,fun å=>eB å⟩),(fun æ æ æ æ ã=>eB ã),ç⟩
abbrev iM:=.Subscript
abbrev Bp:=List.range_succ_eq_map
abbrev Κ:=ģ ds
abbrev F' à á:=vW :: An::caps J m rows
abbrev E7:=dS X.D δ
abbrev dM:=Arguments
abbrev bW:=corEs
abbrev qv:=bW sg ms es
abbrev PX à:=uE (h a T _ _ h' à d n m i g f l j) (by size_fits)
abbrev yF:=wpAny_seqItems
abbrev sM:=Bool.eq_iff_iff
abbrev fY à:=fun b o e=>à
abbrev lq à á â:=fun _ _ _ à _ á h=>â
abbrev bR:=a.length
abbrev pj:=Int.mul_assoc
abbrev vd:=repL_nil.mpr rfl
abbrev Jd:=Int.le_trans
abbrev Wb:=Int.lt_of_le_of_lt
abbrev abu à á:=by rw[Ĉ,xj];refine⟨?_,Jd à đ⟩;unfold small62;rw[Ĉ,xj,xj];exact⟨Jd đ á,Wb à đ⟩
abbrev uD:=pyNext
abbrev ui à:=uD (Č à)
abbrev EI à:=by simpa[bJ]using à
abbrev pH:=xP (Ū n)
abbrev o8:="enumerate"
abbrev rB à á â ã:=by unfold à;rw[á,â];exact ã
abbrev qP:=.var 6
abbrev abP:=[none,none,none,none,ā 2,ā 4]
abbrev adi:=.dpp 4 [χ,qP] (.bi .min [.comp (Rn 4 [.dgp 5 Ĭ,.dgp 5 ĺ]) (jP [0,1,2,3]) (.var 7) abP])
abbrev Ks:=Builtin.SmallTypes.ownedTupleIsFree
abbrev fF à:=.set à true
abbrev bF:=Ņ ?_
abbrev ii à á:=any1 (à) fun t=>á
abbrev wG:=Ko L (D+1) j a H
abbrev fV:=k _ _
abbrev wY:=BE (fV _ _ h)
abbrev rq:=bootBuiltins
abbrev Dz:=envOfC qual Ŋ ġ f cd
abbrev aaM:=by obtain⟨o,g1,g2⟩:=hO a ha;refine⟨o,?_,g2⟩;rw[cF (by obtain⟨o',g⟩:=hlO a z;rw[g1]at g;cases (g);cases g2)];exact g1
abbrev d_ à:=(à).testBit j
abbrev bj:=Č ġ
abbrev dY à:=ω = ā (à)
abbrev fK:=Ć bY
abbrev i8 à:=ij (à) ds xs
abbrev gB à:=r.getD à 0
abbrev vU à:=adg à Ă (Ź hx)
abbrev yv à á:=PySem.W.keepIn à (Č á)
abbrev GB à:=∃σ' H',lj pins σ' H' s'/\à
abbrev JJ à:=backTo à (LC es ū)
abbrev Jj à:=show à<=ÿ by decide
abbrev qu à á â ã:=ĕ {t:à×á×â // e=ã}
abbrev mQ à á:=by rw[à,á];omega
abbrev rW:=Builtin.bitAnd
abbrev yY:="set_iterator"
abbrev vV:=ĩ (kH t) 1 0
abbrev IK à:=SS z b à ^^^ 1<<<b à
abbrev QY:=ĩ (z c) (IK c) (SS z b c)
abbrev pz:=Þ ff
abbrev ac9:=.local
abbrev kZ:="range"
abbrev vG:=l.filter
abbrev cK:=flip_len
abbrev q_:=rk.kp (LL ls)
abbrev w6:=C.N.take C.np
abbrev qz:=Bool.true_and
abbrev vg:=Nat.not_lt_zero
abbrev y9:=Bool.false_eq_true
abbrev Ej:=List.filter_cons_of_pos
abbrev XT:=PyProof.Rows.callWith_type1
abbrev KU:=Builtin.«set_iterator.__next__»
abbrev C3:=Pu n m A p q B al ga
abbrev By:=Around.under_plainId
abbrev DG à á:=attributeBase à á ū (cn à)
abbrev mR:=af z
abbrev Vw:=List.contains_iff_mem.mpr
abbrev aau à:=by unfold nodupB at h;rw[Ĉ]at h;refine List.nodup_cons.mpr ⟨mR,à⟩;have:=h.1;rw[Vw z]at this;cases this
abbrev π à:=Ã à 0
abbrev Pz à á â ã ä:=match(generalizing:=false) à with | á=>â | ã=>ä
abbrev MK à á â:=show Ć (iD à)=á by unfold iD;rw[ċ];exact â
abbrev v9:=x ≠ "__name__"
abbrev wC:=d.heap.objs.size
abbrev Sd à á â ã ä å æ:=ck4 (P:=jI) (x:=à) (f:=á) (i:=â) (dV:=ã) (pm:=(.str ä å)) (cd:=æ) sJ
abbrev k6:=.lst xs
abbrev ax:=walkD
abbrev SW:={s3 with heap:=s3.heap.push (ae "slice" (bM #[vl,vu,Ĺ]))}
abbrev ng à á â ã:=IterAt à I a á â ã ep
abbrev Og:=Calls.callWith_builtin
abbrev Zp à:=Og rfl (Calls.evalArgs_plain (Calls.spliced_cons (thn (N d s1 m O _ l i) fun u R à=>Calls.spliced_nil ?_)))
abbrev TX à á â ã:=wpAny_pyIter_slot à á (KZ á à â ?_ (ã))
abbrev G5:=ae ý (.seq l.toArray k)
abbrev l_:=ev_compX
abbrev ņ à:=(à)=true
abbrev S7 à:=ņ (k==iT&&env.scope.kind == on&&env.kindOf à==aO)
abbrev gr:=fH e=ă
abbrev Ζ:=.int j
abbrev Qn:=È fun z=>by rw[z,f]at e;cases e;cases d
abbrev ke à:=jS à Ē
abbrev ξ:=Around
abbrev yQ à á:=.od (ģ [.dct à á])
abbrev gI:=Value.ref
abbrev ql:=ordText w
abbrev V0:=.seti 6 (.var 7) (gm (.ix Đ (dZ (.int 4) (.var 7))) Ń)
abbrev Eo à:=codeAny_builtin à ?_
abbrev E3:=PySem.F.plain_min_loop
abbrev n6 à:=(vW,Ē)
abbrev pi à:=Good à G F X
abbrev jJ à:=ą (ą (à))
abbrev ee:=.lst []
abbrev Am:=max n.deep y.deep
abbrev fA à á:=by rw[à,á];rfl
abbrev o_:=s1.trans s2
abbrev jo:=Value.type
abbrev mn:=h.objs.size
abbrev ph:=k.objs.size
abbrev AM:=wpAny_pyIter_list
abbrev ve:=(Δ).mono s2
abbrev aaS à:=∃c P,fd.code=Č c/\(ET (K.In h) c P)/\(P,tagQ à)∈fX K
abbrev VG:=⟨N,(zQ).names,fn,bl,cl,true,true,cloB d.clo fn bl cl⟩
abbrev Kf:=vs.toArray
abbrev GY:=ae ý (.seq Kf)
abbrev Qa à:=fun a s b H à I ⟨k,q⟩=>h k a s b H à I q
abbrev tF:=v (b t) (e s)
abbrev iG à:=Vals à us
abbrev ej:=wn f R C
abbrev Ir à:=fun à=>ě (à.1=k)
abbrev ŭ:=cloNm
abbrev UK:=cF (by obtain⟨_,_,_,_,g,_⟩:=at1 z;rw[q]at g;cases g)
abbrev tP:=adh đ
abbrev rF à á:=by rw[à];exact á
abbrev PQ à á:=rF List.getElem?_zip_eq_some ⟨à,á⟩
abbrev pS:=Nat.ne_of_gt
abbrev Df à:=hb pins s1 σ H1 à I1 q1
abbrev xO:=good rows w n m
abbrev au à:=⟨à,?_⟩
abbrev pJ:=bn rfl
abbrev Xm à:=go_of (s:=jX h' tk) (n:="range_iterator") st' rfl rfl đ ⟨.int (à),H,I1,au t,pJ,st',fun b hb=>(hf b hb).1⟩
abbrev ų à:=by rw[à]
abbrev U4 à á â ã:=I1.track à á â.2.1 (fun n c e=>â.2.2.2.2.1 n c e) (fun q ã=>â.2.2.2.2.2 q ã)
abbrev nh à:=.int (à:Nat)
abbrev bE:=Č f
abbrev mH à:=X.mg à = none
abbrev kX à á:=∀i∈cs à,á
abbrev gz à á:=ľ à [Đ,á]
abbrev qW à:=.own (ß à)
abbrev j9 à:=fI H0 à c v
abbrev Om à á â:=∀(s:č) (à:Ě),BindsTo s á ⟨[à],[]⟩ [(â,à)]
abbrev mG à:=LC à ū
abbrev pZ à:=call (lw à)
abbrev D_:=.bitLength
abbrev Fq à:=.meth D_ à []
abbrev zF à:=wo_le.sqd (s.sqd à)
abbrev sH:=ev_str
abbrev abE à á:=ev_tup (ab sH ć (ab (ev_tup (ab à á Α) (ln4 Ģ) rfl) (ev_tup (ab ć ć Α) (ln4 Ģ) rfl) Α)) (ln4 Ģ) rfl
abbrev zE à á:=⟨_,à,fun v á=>eP á⟩
abbrev e_ à:=xo L à n
abbrev vn:=DV.tup
abbrev pG à á:=vn [Ō à,á]
abbrev eQ:=x.length
abbrev pB:=getD_mem
abbrev AV:=wpAny_Call_Name_kw
abbrev Bu:=List.getElem?_drop
abbrev NX:=ha pos pins s σ H _ I h
abbrev zC:=fun q=>f (aC q)
abbrev Cv:=ı (tK r)
abbrev xQ:=ev_vown rfl
abbrev Y8:=cl.lookup x
abbrev qh:=SetI prog w
abbrev oE:=sizeLine_eq
abbrev Jw:=cap_cons rfl
abbrev acx:=Jw (nolam_dC _) (Jw rfl (Jw (nolam_tT _) (Jw (nolam_own _ _) rfl)))
abbrev ym à á â:=fun _ _ _ _ _ _ à á=>â
abbrev RU à á:=fun R2 W w a b c d S Q P=>I R2 W w a b c d à á P
abbrev Bj à á â:=⟨à,á,â,G.fnl,G.bll,G.cll⟩
abbrev C':=ae ý (.seq mq n)
abbrev iI:=HOk P w H
abbrev u0 à:=jR (.one à)
abbrev A2 à á â ã:=.Call (.Attribute à á â) ã []
abbrev WY:=Ko ã C à á â
abbrev G6 à á â ã ä:=∀C à á â fp,PE WY elt ä
abbrev mW à:=ks.getD à 0
abbrev Dd:=Heap.get?_none_of_le
abbrev O_:=pickOrder (w.params.setOrder a ep) es
abbrev ň à:=à<=1000
abbrev yf à:=⟨à,H2,I2,r2,q2⟩
abbrev iK:=ė rfl
abbrev fx:=.bl true
abbrev IF:=sm (fun i=>c i*A i j) r
abbrev abh:=dZ (dZ (oY (KJ χ (.int 977)) (.int 16807)) (oY χ (dZ (oY Í Í) (.int 7)))) Í
abbrev cD:=wo_some
abbrev Bc à á:=su _ (field (Č à) á)
abbrev fz:=by grind
abbrev yD:=Nat.le_succ _
abbrev Yh:=Ma p.typeIs F.slot_tuple_iterator_next F.entry_tuple_iterator_next ?_ (F.args_tuple_iterator_next_1 _)
abbrev zK à á:=by rw[à];have:=á;omega
abbrev At à á:=tupleKind (vY à á)
abbrev HN à á â ã ä å:=R.od.step (à) (fun _ h _=>á) (fun â ã _ h ä=>å)
abbrev vN:=[Õ,.int w]
abbrev LN:=(vs++ws).map some
abbrev J5:=List.replicate
abbrev PY à:=LN++J5 à none
abbrev Ie à:=LamFn à BV pr bd sc lQ f
abbrev tG:=Nat.pow_succ
abbrev iL:=I.ok.hd
abbrev Xl:=wpAny_pyNext_range_end (iL hc) st (by have:n<=i:=hg;omega) fun h' eb=>⟨rfl,NS (eb b o hb e)⟩
abbrev Nw:=top (zd j).i
abbrev ac6:=fnOf (zd j).n (zd j).n (defArgs Nw) (defBody Nw) (Fa Nw) Ĺ
abbrev uo:=I.tok _
abbrev yh à á:=⟨à,H,uo,bn _,á⟩
abbrev ν à á â ã ä:=fun à á â ã ä=>?_
abbrev IE à á:=inSub_el à fun _ _ p _=>io á
abbrev rj:=kvs.length
abbrev oO:=items.size
abbrev IU:=Ŗ 1 [Õ]
abbrev Wd:=RZ (δ:=IU) (es:=ff) rfl rfl
abbrev Hu à:=show(à != à)=ă by simp
abbrev cT:=(i:Nat)
abbrev bG à:=⟨rfl,à⟩
abbrev pU à:=(ă,cn à)
abbrev oN à:=ű (ű à)
abbrev WC:=.bin .BitOr (Ã 4 1) (Nh Å Ĭ)
abbrev ki:=SS G F fu
abbrev nP:=Nh Å
abbrev gh:=small62
abbrev Gd:=firsts R
abbrev Nn:=lg (Ć Gd)
abbrev vm:=sm.trans s1
abbrev C_:=ObjOk P w
abbrev x5:=C_ H h a
abbrev xg à á:=GotL D O W à H á vs
abbrev p6 à:=by rw[à];simp
abbrev s_:=i.objs.size
abbrev E_ à á:=DefFn à á q pr bd sc cc f
abbrev A7:=lookup_of_nodup
abbrev RE:=S5c es bl (m+1)
abbrev jT à á â:=Ũ à=ā (Px á â)
abbrev E4 à á:=∀(j i:Nat),Į fr j i->∃y,Į à (á+j) y/\Į X.N i y/\(ol (k7 y))
abbrev ĭ à á:=Į à i á
abbrev Ld à:=Ĳ (ĕ à)
abbrev bt à:=ā (.ok (à) ĵ)
abbrev Ec à á â:=fun à _=>ļ (cmpD á â à) k (dU (.bl k))
abbrev Ť à á:=Ż à á Ē
abbrev cH à:=.lst (nD à)
abbrev fE:=M' k
abbrev h_:=cloIx
abbrev VI à á:=if à=cZ then lamR fE (á)else if à=h_ then cloR G (eV k) (á)else none
abbrev yy à á â:=fun à á=>ĸ (show à∈([]:â)from á) Ģ
abbrev aa à:=ī (à:Int)
abbrev sw à:=KA a fun i=>KA b fun j=>à
abbrev lN à á:=∀q,à=ā q->EN á q
abbrev kG à:=ę (rL à)
abbrev gE à:=ę (ß à)
abbrev lY:=ī j
abbrev CZ à:=[kG rows,gE xs,lY,à]
abbrev cP:=fZ b=ē
abbrev fC à:=dU (.bl à)
abbrev FE à á â ã ä:=l_ (F:=à) (δ:=á) (elt:=â) (tg:=ma) (it:=ã) (fr:=ä)
abbrev oj:=Ĳ Key
abbrev kY:=fW oj V
abbrev iH à:=fW Str à
abbrev NI à:=∀p∈X.pn++pins,p.1≠à
abbrev Su:=∀b∈ch,(b∈X.ex\/v_<=b)/\b≠cN/\(∀x c,Dc x=Ś->c≠b)/\NI b
abbrev mY:=stro d
abbrev dP:=ę d
abbrev OY à:=if own then setOwn i δ d à else(Ŭ (mY à) (sB dP))
abbrev pv à á â:=ľ à [Đ,á,â]
abbrev VV:=.iff (.and [xL Í υ,br (pv 37 Í ŝ) ĺ]) [.app 2 (.tup [ĺ,Í])] []
abbrev pP:=Hp->Œ VK
abbrev ag à:=(à).objs.size
abbrev iA:=aX Î
abbrev ah:=Ĳ Stmt
abbrev iE:=ī w
abbrev qY à:=ī (ı à)
abbrev Rz:=[ę Õ,iE,aI (pD L),qY ż,qY vM]
abbrev GS à á:=FnOk aj X.w X.K X.mg mr à k á fd ps
abbrev eJ:=ā i
abbrev P_:=∀(j k i:Nat),Į fr j eJ->Į fr k eJ->j=k
abbrev cG:=ę Õ
abbrev B9:=Int×Int
abbrev uQ:=fW B9 Int
abbrev vJ à á:=fun δ'=>eV à á δ'
abbrev Qq:=Ï c (lM o c)
abbrev AH à á â ã:=cR (à) (fun á â=>ã) X.xe s
abbrev Sz à á:=AH (cn a) v s₁ (cR (cn b) (fun u s₂=>cR (à) á X.xe s₂) X.xe s₁)
abbrev Ek à:=.lst (aF à)
abbrev RM à á:=[dP,ę (g_ (e::l) qD),ę (qD e),ę (Ek qD),à,á]
abbrev aS:=Œ Expr
abbrev JQ:=PassesOwn (model aj X.w) X.A ū X.xe
abbrev aK à:=Ć (cs à)
abbrev aA à:=Ο à=ē
abbrev oP:=fW DV Cl
abbrev iB à á â ã:=M' à (á) â=ā (ã)
abbrev mt:=Dc x=Ś
abbrev C9:=fW oj (Addr×Ě)
abbrev Dj à:=ho pins à σ
abbrev SN à:=Æ (Dj s2 H2 x y v u _ I2 r1 r2 q2) à s3 ⟨z,H3,I3,r3,k,e,q3⟩
abbrev gJ à á â:=Ï à (.frz á â)
abbrev vz à á:=.fo (.one à) (.rng á)
abbrev lU:=q.2.1
abbrev Nd à á:=tS l à á (gF q.1) (gF lU) (gF q.2.2)
abbrev Jz:=R.idxOf r
abbrev Np:=im Gd r Jz
abbrev Xd:=Ù its.size/\Vals xs its.toList
abbrev Xc:=∃(o:Obj) (its:dz) (n:Nat),K.lookup a=ē/\o.cls=Ÿ ý /\ o.dict=none/\o.data=.seq its n/\Xd
abbrev VJ:=∀C,G.clo=ā C->CloOk P w K mg base C fn bl cl k (tX k h_)
abbrev av:=(bn _)
abbrev C8:=Œ Heap
abbrev pT:=Nat->C8
abbrev Ó:=ā re
abbrev ş à:=fun _=>à
abbrev Y6 à:=inExS s fun v _=>(inCl1 v fun ef ea pos=>(inAttr ef fun o n apos=>n == à && (Ey o)&&de e ea && !fH ea&&apos.endLine==pos.line))
abbrev xD:=(aF h)
abbrev aby à:=match g (h a)with | none=>none | ā .skip=>compGo g à | ā (.item x)=>match compGo g xD with | none=>none | Ś=>ā (x::c)
abbrev yE:=Y8=Ś
abbrev JH:=s.heap.IsCell
abbrev adm:=∃c u,yE/\JH c Ö/\dv
abbrev aH:=(nB H)
abbrev NL à á â ã ä å æ:=∀(pins:ğ) (s:č) (σ:St) (H:Hp) (à:á),Ĥ->t â ã ä->cR (å) æ X.xe s
abbrev cV:=ā true
abbrev acJ:=.sl Ń (oY Đ Ĭ) (dZ (oY Đ Ĭ) Ĭ)
abbrev abm:=Ŏ 8 (ľ 60 [fe acJ (.rng [Í]) (lW 6 5),.sl Ĭ (.int 3) (.int 11)])
abbrev F7 à:=ls.getD à 0
abbrev Nf à:=kS ls à (gF n) (gF (F7 n))
abbrev uP:=sortIz
abbrev aae à:=∃O W a xs ds ks ix,Vg H2 σ xs ds (œ<=64) (uP ks) ix H' q (H' à=none) (Č à) (upd H' à (.lst (L2.putIx .non ix xs)))
abbrev abJ:=Þ [ľ 11 [ľ 2 [ĺ,χ,qP]]]
abbrev aa1:=.iff (br abJ Å) [.dpp 4 [χ,qP] Ń] [Ŏ 7 (ľ 20 [χ,qP]),adi]
abbrev R4 à:=me f 58 (ab (dr 0 (.scr ns)) (Ν à) Α)
abbrev abo:=.iff (br ĺ (.int 5)) [Ŏ 4 (.int 5),Ŏ 5 (.int 5)] []
abbrev ZE à:=cw List.map_reverse (List.map_fst_zip (fq Ű)) (List.pairwise_reverse.mpr (List.Pairwise.imp (fun h=>Ne.symm h) à))
abbrev fj:=Č p
abbrev HM à á â:=HJ H0 (aq p à) á â fj
abbrev dF:=ā ac9
abbrev CL à:=g_ (e::à) qD
abbrev Sy à á â ã ä:=∀(à:á) (pins:ğ) (s:č) (σ:St) (H:Hp) (Q:â->cj),Ĥ->t σ H Q->cR (ã) (ä) X.xe s
abbrev Jq:=bS rows m
abbrev RO à:=Jq à (ī ρ) (ę (tJ (az n)))
abbrev Hi à á:=if œ=à then Ou.of (á)else none
abbrev Zm:=by have q:=toPs_lay n ds (EI h);simp only[toP,PyData.canLay0,PyData.depth,q.1,true_and];have:=q.2;omega
abbrev Lr à á â ã:=rep_tup.mpr ⟨p,à,á,SqT.of (Ą (â) aM),ã⟩
abbrev VB à:=blockOk sg Mg fr à tg
abbrev Ug:=Qt Mg c.sc.names
abbrev Y2:=VB c.sc&&tgOk Ug tg c.tg&&corE Ug ă elt c.elt
abbrev Up à á:=∀(j:Nat) d,Į à j (.od d)->Į δ j (.od d)/\á[j]? = σ[j]?
abbrev sD à:=à=Ē\/à=ĵ
abbrev acI à á â:=ev_sl (F:=Ů) (δ:=Ge (qW ws) z à .no) (a:=Ĭ) (lo:=An) (hi:=.int â) (ds:=iD xs) (c:=Ē) (l:=á) (h:=â) ć Ž Ž
abbrev Ρ:=Ĳ α
abbrev jh à:=ib (uY à)
abbrev rG à á:=wpAny à A (á) Q E s
abbrev VA à:=CompParts X δ cp.tg cp.it cp.ifs cp.elt cp.sc à fr tg r
abbrev Gm à á:=by subst z;rw[à]at mu;exact á
abbrev KI:=by rw[ċ];exact_mod_cast h
abbrev MR:=List.idxOf_lt_length_of_mem
abbrev tz:=ds++cs
abbrev aaJ à á:=RSt.start (D:=qE) (N:=à) (ds:=tz) (vs:=vs++ws) (n:=á) rfl ((repL_wo hlO n3 rl).append (repL_wo hlO n4 rc)) hO2
abbrev lu à:=fun x y H Q=>à
abbrev acM à:=Ê (ev_set (d:=vW) (cl:=Ē) (dX (cx:=ĵ) (ev_lst (ab Ž Ž Α) đ rfl) (iq _ rfl) rfl) rfl)
abbrev GM:=lw "object.__class__"
abbrev Hk:=List.pairwise_cons.mpr
abbrev K2:=List.mem_singleton.mpr
abbrev IL:=Nat.testBit_lt_two_pow
abbrev IX:=List.length_pos_of_mem
abbrev RY à:=gm (.ix Ń (dZ à Ĭ))
abbrev Yr à:=yQ à.1 à.2
abbrev kg:=(aU l)
abbrev LP à:=LO N Ŋ à cl A ś s kg
abbrev Me à á:=snd_bi (à) hg hm á đ đ A s1 s2 h
abbrev Yw à á â:=compEnd (compGo (fun d=>(KH).bind fun δ'=>Rc.test (à) (Rc.of (á))) â)
abbrev aN:=o.data
abbrev AJ à á:=PS X (.Assign [à] á pos)
abbrev we à:=assignEach à ū
abbrev Iu à á:=by simp[à,List.find?_cons,á]
abbrev Ba à á:=wpAny_setField à á Ģ
abbrev iP:=ĕ Int
abbrev JM à:=PE X (bA à)
abbrev tO à á â:=sub à (cs á) (cs â)
abbrev S4 à:=ur à w callerA (ľ (Č fa) ⟨[Ī],[]⟩) adj s₁
abbrev Jm:=es.map qD
abbrev FY:=.lst Jm
abbrev adt:=š (Β:2<=2^1)
abbrev ED:=len_line
abbrev HV à:=p _ _ (jZ à)
abbrev Zi:=⟨l1,l2,v1,v2,e1,e2,k1,k2,cw r1.length r2.length (ED m),fun q hq=>HV hq ?_⟩
abbrev rg:=Value.none
abbrev Bs:=Nat.lt_succ_self
abbrev iw:=Nat->bV
abbrev wq:=pa_cons
abbrev aak à á â ã ä å:=((fun t (à:PE X e t)=>ps_expr (pe_bm PySem.F.plainAttrs_list á â ã hv (wq à pa_nil (Ω ä)) rfl (bQ (Ω ä)) å (Ω ä) rfl) rfl) _ A).weak
abbrev aw:=Ĳ ME
abbrev Tc à á â:=∀à e,á->(∃o,â=ē/\o.cls=Ÿ "StopIteration")->E (Č e) (dJ à)
abbrev ig:=ń Expr
abbrev QQ:=v (if t<fK then Ř bY t else n)
abbrev SQ:=ŏ S.pre (S.nd.sublist (List.take_sublist _ _))
abbrev uU:=ax (Ũ it)
abbrev i7:=de a ea
abbrev z_ à:=tJ (az à)
abbrev A5:=p7 env.cells
abbrev jt:=K.lookup
abbrev gQ:=N.length
abbrev gX:=b.length
abbrev ie:=c.length
abbrev ir:=sm_congr
abbrev BF:=.Constant
abbrev yi à:=BF à j pos
abbrev lx:=fr.length
abbrev lI:=ws.length
abbrev ua:=Nat.le_of_lt
abbrev G7:=uE ?_ (by size_fits)
abbrev Hv:=wpAny_attempt
abbrev Tm:=G.fnl.isEmpty
abbrev HG:=m.N.take m.np
abbrev F1:=run k91.G T fu ς
abbrev xY:=p.foldl dR []
abbrev Dl:=wpAny_passesOwn hp
abbrev FJ:=List.getElem_idxOf
abbrev FO:=Int.emod_lt_of_pos
abbrev HB:=List.contains_iff_mem
abbrev Ò:=(n+1)
abbrev sj à á:=fun à á=>(eB á)
abbrev Qu à:=∀à e,corE à true m e=corE à ă m e
abbrev dW:=Χ _ _
abbrev U3 à á â ã ä:=⟨by show Ù (2:Nat);decide,[à,á],.cons â (.cons ã .nil),_,(ä),pJ,_,rfl⟩
abbrev rO:=bc _ cM
abbrev rS:=FpOk X pins
abbrev p9 à:=by show à;omega
abbrev zu:=CellsT l Ė H
abbrev Of:=by simp only[cU]<;>omega
abbrev Mm:=Classical.byContradiction
abbrev Oo à:=pure (ForInStep.yield à)
abbrev X' à á â:=forIn à true fun c r=>if r=true then do let ok ←isTrue c á (â);Oo ok else Oo r
abbrev MT:=sset_kinds
abbrev ach à á â ã ä:=by have q:=ev_sset (F:=fQ 39) (δ:=à) (e:=Ε á) (r:=kI â) (me l [(Õ,Ē)] rfl (ã)) (mQ kI_len ä.1);rw[MT,iD_nI]at q;exact q
abbrev ţ à á:=by rw[à,á]
abbrev mZ à á:=mV à fun l=>á
abbrev DQ à á â ã ä å:=∀C à á â fp,PG WY ä å
abbrev vP à á:=rk.Nil à (rw' á)
abbrev wm à á:=TyOf K H à (Ÿ á)
abbrev aah à á â ã:=PyProof.Rows.callWith_kw (Æ (wq A (pa_nil (X:=X)) (Ω à) pos á s â H _ I h) us s1 ã) (bQ (Ω à)) (bQ (Ω à))
abbrev dG à á â:=∀à∈á,â=none
abbrev cS:=ā x
abbrev Lh à:=sg.N[à]? == cS&&locB sg x
abbrev kt:=Ŏ 3
abbrev abp:=kt (.ix (.lst (gP 4 5)) (WQ (Ã 2 2) 8))
abbrev pE à á:=dr à An
abbrev Kb à:=I.laid (t':=à)
abbrev Zz à á:=h _ (aq à (lM _ à)) _ (Kb tk (fun b u e=>ű (hk b u e)) á ⟨Ø,_,Ø⟩) (jZ hn) hn ?_
abbrev Zu:=["NoneType","bool",jA,"str",ad,ý,iN]
abbrev YW à:=inNo va (in0 ko (in0 kd (inNo kw (in0 df (à)))))
abbrev YU à á:=YW (a.arg == à && b.arg == á && ps==([à,á]:ĥ))
abbrev yR:=whileGo
abbrev Tr à á:=yR (fun δ'=>tstD (Ų à δ')) (fun δ'=>lH á δ')
abbrev PF à á:=nF m x l i ⟨à,tru_dv t (i.all Δ),á⟩
abbrev t6 à:=nl n m à w c
abbrev og à:=by simp at à
abbrev GE:=he pins s σ H _ I h
abbrev aaE à:=by show(pure (aaG (a.sc.names.any fun (n,k)=>n==x&&(k == ac9||k == lz))):Sem Bool)=pure à;rw[f]
abbrev HA à á:=any1_el h fun à h=>á
abbrev YR:=inSlice_el h fun _ _ _ p h=>Le (Le (HA x (k x p h)))
abbrev Zs à:=call_list_of pins s σ H _ us Q I r ⟨a,ys,ų e1,à,fun q hq=>HV hq (got_newC hd hq e3)⟩
abbrev EM:=(eX).hid.mono s2
abbrev nK:=Ğ j d h
abbrev bC:=PE X e
abbrev aL:=.str x
abbrev Nl:=comb y O N
abbrev RV à á â ã ä å æ ç è:=š (Nl à á Ă â ã ä å æ R C A n H p F ç è I) (O.up _ _ _)
abbrev n_:=V J f R C
abbrev ug:=SqL X.K H
abbrev Qo:=ae ad (.seq #[en.key,en.val])
abbrev XG:=thn (hr pos pins s1 σ H1 _ I1 q1) fun us s2 (yf xs)=>⟨x::xs,H2,I2,.cons r1 r2,q2⟩
abbrev uZ:=Out.nx
abbrev Tq à á â ã:=qe à fun d _=>Rs.thnS δ á fun l=>(dppD i δ â ã l d).map uZ
abbrev Lx:=asI_eq
abbrev nr à:=p.getD à 0
abbrev BP à:=Got X.D O W à H
abbrev OX à:=jR tg (fun à=>lH body à) ds δ
abbrev nZ:=h.testBit
abbrev F3:=rdL F4 (az n)
abbrev BK:=rep_int.mpr rfl
abbrev zx à:=at_off hp à dh
abbrev xl à:=set_ne_of à dh
abbrev F2 à á:=rS2 l à á (gE w)
abbrev Md à á â ã ä å æ ç:=∀{sg:Sg} {X:Cx} {à:á} {δ:Ĕ} {â:ã},pi sg->ä=true->å=æ->ç
abbrev Cn:=Nat.testBit_xor
abbrev CG:=Nat.two_pow_pos
abbrev En:=List.foldl_append
abbrev Ep:=Nat.lt_succ_of_lt
abbrev Kc à á â ã ä:={cls:=Ÿ à,dict:=á,data:=.seq â ã,slots:=ä}
abbrev VT:=Rn 1 [.dix Ĭ (Ã 0 2),.dix Ĭ (Ã 0 3)]
abbrev J6:=List.getElem?_take_of_lt
abbrev KQ:=ElemsOf (intKind prog w)
abbrev MU:=rows.flatten.foldl dk []
abbrev Oq:=closureFor_free
abbrev Kq:=I.ok.has y.1
abbrev Yc à á â ã ä:=wpAny_comprehension_free rfl à (Oq (fun y á â=>Kq (S.out y á â))) S.kind (fun x ã ä=>A7 S.snd (ŏ ä ã))
abbrev cr à:=(à).lookup
abbrev FM à á â:=⟨à,rfl,á,Ē,â,rfl⟩
abbrev ab6 à á â ã ä:=ev_compiM (l:=à) (h:=qD) (f:=qD) (p:=fun á=>â) (cl:=Ē) rfl đ (Ç hb) fun á _=>FM [ę (qD á),ę (qD ã)] (Λ (ä)) rfl
abbrev oC:=rawInt
abbrev aQ à:=f9 _ à
abbrev Zw à:=among_app (a:=oC pos.line) (b:=oC pos.col) (c:=Č à) ps.toList ht (aQ _) (aQ _)
abbrev xE à:=(Ą Μ (Ç à))
abbrev oT à á â ã:=ļ (à) á (.ok â ã)
abbrev cC:=ij H
abbrev uG à:=IsZip à Z U W
abbrev yb à:=σ.set i (ā à)
abbrev NY à á â ã ä å æ:=Call_ (ld_blt I à á â (XT (Æ ã us s1 ä) å æ))
abbrev Xi à:=go_of (s:=dJ h') e c d đ ⟨x,H,I1,ru,bG (fun ys hy=>Ą (à) hx),st',fun b hb=>(hf b hb).1⟩
abbrev YE à:=.of (owner:=yY) (n:=à) (by rw[typeLookup_type,builtinLookup_eq_fast];kernel_rfl) ŵ ŵ ŵ
abbrev xt:=Ć nO
abbrev QA à á â ã ä å:=fun C à á â ã=>pg_of (good_comp g ä C à á â ã) å
abbrev bq:=thn_ok
abbrev wu:=codeAny_mono
abbrev Po:=apos.endLine
abbrev wU:=Nat.lt_or_ge
abbrev N7:=I1.hok.fresh ħ
abbrev NU:=I1.fpOk ħ N7
abbrev acv à á â:=ev_self (F:=F) (δ:=D4) (es:=[π à,Ã à 1]) (l:=[n6 á.1,n6 á.2]) cp4 rfl rfl rfl â (nolam_P _)
abbrev Ci:=w.2.2
abbrev vQ:=kd rows
abbrev Js:=fun c=>vQ c==t
abbrev K8:=⟨h.lt a _,h.lt a _⟩
abbrev ZG:=fun x c e=>by obtain⟨o,v,_,g,d⟩:=C.at_ c (S.mem x c e);exact⟨v,o,R _ _ g,d⟩
abbrev my:=Œ č
abbrev t9:=k _ _ Ð e
abbrev vC:=(az i)
abbrev z9:=Ř vC j
abbrev Ξ:=.cons
abbrev hZ:=capD δ
abbrev vT:=firsts rows
abbrev AG:=pos.line
abbrev rT à:=GG A (à) Q E s
abbrev Qc:=.Tuple elts k
abbrev Dy:=NameKind
abbrev ni:="sorted"
abbrev WO:=ws0.map fun x=>x%tp
abbrev WN:=Ge (qW WO) .no .no .no
abbrev uF:=f.objs.size
abbrev uS:=callD F f l
abbrev zL à á â ã:=inSub_el à (Ļ á â ã à)
abbrev zU:=Nat.xor_assoc
abbrev HR:=Builtin.Int.intBits
abbrev J7:=List.getElem?_replicate
abbrev abT à á:=CU (fQ 7) IU à (es:=ff) rfl rfl ((by rw[iz];unfold á;exact Ł (gA (vF rfl e))))
abbrev Cm à á:=à.1.testBit á.1.log2
abbrev AN:=ā p.2
abbrev Z1 à á â ã:=fun C à á â fp=>PE.any (ι:={p:Ĕ×Re // ã=AN}) (t:=fun k=>dE X.D k.1.1 k.1.2) fun k=>he k.1.1 k.1.2 k.2 C à á â fp
abbrev XX à:=binT ha hb I h fun v u s2 x y H2 I2 rx ry q=>à
abbrev Xy:=XX (Dj s2 H2 x y v u Q I2 rx ry q)
abbrev μ:=ā _
abbrev Ü:=ā r
abbrev bI:=Ĳ MS
abbrev tN:=(Õ,Ē)
abbrev ψ à:=2^à - 1
abbrev vL:=ψ ö
abbrev Ln à á:=∀a∈à,∃o,á=ē/\mutO o=true
abbrev mD à:=ė (ď à)
abbrev i5 à á:=aF fun à=>á
abbrev Cp:=.bi .sset
abbrev CA à:=cg 10 (wp à R C)
abbrev OZ à:=eV k fd.body (Ŗ fd.n à)
abbrev jC:=Room k
abbrev cA:=ev_bin
abbrev iZ:=ev_cmp
abbrev pI:=kx rows i
abbrev oQ:=DV.immuts
abbrev A_ à:=Heap.ExtBut à Ė
abbrev Ol:=Ï b (.tbl q)
abbrev X4:=∀b,(∃q,(b,q)∈tabsOf K/\Ol)\/((∀q,(b,q)∉tabsOf K)/\H b=f b)
abbrev Lw à á â ã ä å:=fun à s á H â I q=>h à s á H â I (k ã ä å q)
abbrev eA à:=ā (dU (à))
abbrev ac5 à á â ã ä å:=∀{D:Ĕ} {e:ME} {z:Int} {i:Nat},Į D 2 (kG R)->Ų e D=ā (Ψ z)->à%á=(â:Int)->Ų (gm ã (Þ [ä])) å=eA (Ō â)
abbrev Hz:=.Compare a
abbrev sR:=rep_tup.mp
abbrev Cd:=one x _ hx dh
abbrev Cu:=d_cover_within
abbrev Cz:=Nat.mul_le_mul
abbrev Pt à á â ã ä å æ:=by obtain⟨v,à,á,â,ã⟩:=o9 h;subst á;exact ze ä _ å æ
abbrev ü:=(i+1)
abbrev Kv:=(zH5 Ė b e a d).get?
abbrev oU:=ĕ Out
abbrev qG à á â:=⟨⟨à,á⟩,â⟩
abbrev ZW à:=⟨qG δ' (.ok x cl) e1,O,à,R2,fun v H3 y Z=>Y v H3 y (Z.stro (R2.hid.mono y) e2)⟩
abbrev abD:=ļ (hv R) h (wD (nQ,h,(R - h,C),(h,C)))
abbrev ζ:=eP h
abbrev ja:=Rep X.D
abbrev Kj:=ae iN (.dict #[])
abbrev ù:=Scope
abbrev F_ à:=kX R (∀j∈cs C,à)
abbrev gn:=Lm Rep
abbrev f8:=if_true
abbrev uH à á â ã:=DZ à Ģ (Ğ á â ã)
abbrev DB:=cellsFrom
abbrev DC à:=DB (à+1) bH
abbrev vi à á â:=by unfold à;rw[á,â]
abbrev YK à á â ã ä å:=nx_mk Ģ à (fun i h á st k=>⟨st.1.at (k I Ģ),st.2.1.at (k a Ģ),â⟩) (fun A E Q s i v ã ä st å=>?_) (fun A E Q s ã st å=>?_)
abbrev Vd à á:=Walks.list (prog:=aj) (w:=X.w) (A:=à) hh J l á tu
abbrev u_ à:=à->ń Pos
abbrev GI à á:=ta σ H fun à H1=>á
abbrev uk à:=-(2^62)<=à
abbrev Xv à á:=fun σ H R=>GI vs (∃i j:Int,vs=à/\(uk i/\i<2^62 /\ uk j/\j<2^62)/\R (á) H1)
abbrev acH à á:=show cutD (iD xs) (ā à) (ā á)=iD ((xs.drop à).take 8)from cut_38 (a:=à) (b:=á) hx đ đ
abbrev Nz:=o.cls=Ÿ ad /\ o.dict=none
abbrev du:=String
abbrev xI à:=gj (n:=à) rfl
abbrev nT:=qX j
abbrev abZ à á â ã:=l_ (l:=cs à) (h:=nT) (f:=fun á=>.bl (pF r c==w)) (cl:=Ē) rfl đ (Ç (cs_len s0 (two8 â s1))) (Ĝ á ã)
abbrev QF:=LamOk P w K mg base fn bl cl
abbrev Jx:=List.ne_nil_of_mem
abbrev ZP à:=n c f fun w g=>g ġ=ā (.dK [])/\∀o,oF ġ g (.frz o (.dK [(ė x,à),(ė y,w)]))
abbrev nH à á â:=by rw[à,á,â];rfl
abbrev Co:=þ Ă
abbrev abB à á:=e_check (fu:=fu) (k:=k) (d:=vW) (n:=á) (t:=true) Ă (nH e_is_int Co Co)
abbrev vw à:=à.2.testBit j
abbrev mO à:=⟨o,e,à⟩
abbrev JS à:=mO (fun v à=>jb d à à)
abbrev sW à:=⟨O,W,eX,à⟩
abbrev Sk:=∀b q,Ol->H' b=ā (.tbl q)
abbrev Pp à á:=⟨à,cq,fn,bl,cl,ă,á,noCo⟩
abbrev Aj à:=Wg R à (ī R)
abbrev vB à:=DV.lst (iD à)
abbrev Ux:=by simp[toP,PyData.canLay0,PyData.depth]
abbrev JT à á â:=Turn P w K à (á) [it] it (fun i h=>â)
abbrev UZ à:=CompParts X δ tgE iter à elt Ŋ N' fr tg re
abbrev Mb à:=corClo C fn bl cl à bd sc
abbrev UE à á â:=call_len_seq b s k H _ n Q I r ⟨a,à,ų j,á,Ą â zj⟩
abbrev Yo:=if y.plain 60&&gf 60 ds&&ě (œ<=ÿ)then(findD y ds).map nT else none
abbrev aag à:=pk_cons (nm:=ā "key") (kpos:=kp) (pe_lam (bd:=bd) (lp:=lp) L à) (pk_nil (X:=X)) pos
abbrev Je à:=gP à.1 à.2
abbrev rP:=RelV x v
abbrev W':=∀v u s2 x y H2,iJ H2 s2->rP->aZ y->R x y H2->cR (f v u) Q X.xe s2
abbrev K1:=!t.plain&&ě (Û>1)
abbrev EC à á:=∀v à,Ú à->á->Q v à
abbrev PJ:=∀ds o,F f ds=ē->œ=τ
abbrev Gk à:=∀b u,à=Ö->ba b=Ö
abbrev gZ:=ń Nat
abbrev vp à:=sm (fun i=>à) n
abbrev Af:=š (Ac ..)
abbrev V1:=.bi .min [oY Í χ,yU pz (.int 4)]
abbrev acn:=.bi .any [fe (xL Đ υ) χ [none]]
abbrev m7 à:=lH à δ
abbrev yP:=tstD (Ũ c)
abbrev yk:=SqL K H a xs
abbrev tH à:=yU à Å
abbrev IT à:=tH (ľ 63 [à])
abbrev yl:=fY (ű e)
abbrev CD:=i_ (kk p.1)
abbrev cJ:=mem_cs
abbrev jO:=putIx
abbrev U8:=jO Ĺ ix us
abbrev yX:=ux (set0 w)
abbrev yJ:=d.nolam
abbrev x8:=I.ok.kind
abbrev pW:=pl.isList
abbrev xF:=ev_compiM
abbrev vS:=p.rch i j
abbrev Ha:=es.isEmpty
abbrev Uf à á â:=inCl à fun ef es _=>(inName ef fun x=>á) && !Ha&&â
abbrev HP à:=Post X.D O W à H Q
abbrev vX:=keyIs_shape
abbrev DX:=wpAny_letGo
abbrev xa:=repL_nil.mp
abbrev y_:=s1.heap.get?
abbrev Ho:=List.range_succ
abbrev Fi:=Nat.le_antisymm
abbrev FA:=Nat.min_eq_left
abbrev FP:=Int.emod_nonneg
abbrev KP:=List.pairwise_cons.mp
abbrev Uc à:=sc.names.all fun y=>ĩ (y.2 == .free) (à) true
abbrev UA à:=by rw[à];show(truth d).map Rt.ok=_;rw[t];rfl
abbrev N4 à:=Ù à/\k=((à:Int) != 0)
abbrev rM à:=SqT à H a xs
abbrev mB:=PSs X
abbrev Do:=mB body
abbrev aam à:=Do (fun D à H=>∃k:{p:Ĕ×Out // f p.1=AN},dS X.D k.1.1 k.1.2 D à H)
abbrev KC à á â:=if à&&ě (á)then ā (â)else none
abbrev ε à:=ā (Hh à)
abbrev fG à á:=Ũ (à)=ā (Ψ á)
abbrev Mj à á:=∀(i:Nat) d x,ĭ T d->ĭ à x->∃á fd ps,Mk á fd
abbrev QE à:=∀(i:Nat) d x à fd ps,ĭ T d->ĭ fn x->Mk à fd->adk à
abbrev uK:=ā (.ok l)
abbrev m9 à:=lC à=true
abbrev Tu:=args.length=m.np/\args.length+cs.length=m.N.length/\m9 args/\m9 cs
abbrev AX:=ĭ vs v
abbrev Qe à á â ã ä:=∀(i:Nat) (v:V) (u:Ě) (k:Int),AX->aZ v->ĭ à k->adl á â ã ä
abbrev ER à á â ã:=∀{à:ğ} {á:Ld V} {H:Hp} {s:č},â->ã
abbrev aaR:=∀(i:Nat) (d:FD) (x qual:Str) (st:Stmt) (fa:Addr) (fd:FuncData),ĭ T d->ĭ fn x->qual=x->FunD K x qual st fa fd->aaS qual
abbrev eS à á â:=ļ (Ū à) á (â)
abbrev L0:=mN (ş (#[]:dz))
abbrev abf:=.iff (br (Fp Ĭ (tH (Fq χ))) Å) [Ŏ 2 (.bin .BitXor Ĭ χ),kt (.bin .BitXor ĺ (.var 6))] []
abbrev OV à á â:=mZ à (Ŭ (Ň<=ÿ) (.ok (á) (ĩ (stros l) â bp)))
abbrev Y0 à á:=bltB sg à ef&&kn==ā "key" && i7 && !fH ea&&(inLam el fun pr bd sc _=>lamScB sg á N np fr pr sc&&corE (Qt N cq) ă lb bd)
abbrev PU:=∀i x v,Į N (τ+i) x->ĭ ws v->adm
abbrev vy à á â ã ä:={n:=à,np:=á,body:=[â,ã,.ret ä]}
abbrev bL:=(snd a)
abbrev abq:=Ŏ 2 (ľ 59 [gz 58 υ,.int 20])
abbrev xx:=dZ Å
abbrev adp à á â:=abq :: abp :: Ŏ 4 (xx (gm (π 2) ĺ)) :: Ŏ à (xx (gm (Ã á â) ĺ)) :: abo::smT
abbrev bX:=(aU O)
abbrev eU à á â:=Χ à fun x á=>â
abbrev vE:=ī É
abbrev WT:=[ę p.D,aa i,vE,aI bs,ę (Pn.fin vS).D,x,y]
abbrev fU à:=(à).Nodup
abbrev uA à:=Gf eD
abbrev X7:=∀(w:ł) (h:Heap),YP w h->(S6 (K jI) (cr (K jI) p.1) (Ο p.1) h)/\fU (uA (fX (K jI)))
abbrev tL à:=ę (cH à)
abbrev Cw:=(j:Nat)
abbrev vH à:=ı (2^à)
abbrev ab2 à á â:=xF (F:=Ů) (δ:=[cG,ī à,iE,tL (cs à)]) (l:=Ū á) (h:=nT) (f:=fun Cw=>ŕ (vH j)) (p:=â) (elt:=nP Đ)
abbrev mw à:=ĭ à x
abbrev Y' à á â ã:=∃f pr à á q cl l â,v=bE/\LamFn H q pr à á cl f/\corLam m pr à á=true/\LamScope m.N HG á cl l/\cC cs â/\LamCs H m.N m.np cl ã â
abbrev oX:=jT a i cx
abbrev oW:=jT b j cy
abbrev gU:=iH Addr
abbrev Hb à á â:=oT (slD x à á) d d (slCl x â)
abbrev t_ à:=ĭ σ (ā à)
abbrev abj à á â ã:=.iff (.cmp .Lt pz vW) [á (RY Å (dZ pz Å)),â (dZ (dZ (.slt Đ ĺ) (.lst [.ix Đ (RY (ã) pz)])) (.slf Đ ĺ))]
abbrev ud à:=JM à (tVar i)
abbrev Zk à á:=(pe_slice sl_any A à á).weak (nF σ x H1 k (sW (fun H2 s2=>sl_ok f ve (k.mono s2) (p.step o_))))
abbrev abe:=[Ŏ 4 (ľ 56 [ĺ,ŝ]),.iff (xL (π 4) υ) [.app 1 (ģ [Ĭ,π 4,WC])] []]
abbrev Nv:=D (aa i) (ę (z_ i))
abbrev Iy à:=Ï à (ģ (k.map kV))
abbrev NJ:=cP->ba b=ē
abbrev MF:=2147483647
abbrev abi:=gm (dZ (dZ (oY χ (.int 48271)) (oY Í Í)) (.int 11)) (.int MF)
abbrev qa à:=minI à r
abbrev Zr:=∀(r:Ď) (m:Int),(qa m=m\/qa m∈r)/\qa m<=m/\∀x∈r,qa m<=x
abbrev BS à á:=∀q,à=ā q->EK á q
abbrev rn:=ģ xs
abbrev Sl:=∀b xs,Ï b rn->H' b=ā rn
abbrev nU:=FI Î
abbrev Wx:=[cG,iE,tL nU,aI [],.no]
abbrev QG:=G.fnl=fn/\G.bll=bl/\G.cll=cl
abbrev BN:=.int p.2
abbrev Vp:=ģ [ģ (Je p.1),BN]
abbrev Y_ à á â ã:=(∃a o à,v=Ī/\gJ a o (.dK à)/\á=ks/\cC vs (â))\/∃a o à,v=Ī/\gJ a o (.dT à)/\ã=ks/\cC vs (â)
abbrev RF:=Ŗ 5 [CL es,kW,ů (m+1)]
abbrev XI:=thn (h pos pins s σ H _ I hq) fun us s1 ⟨xs,H1,I1,r,z,q⟩=>au (ŏ Ű z)
abbrev IZ à:=ib (uY (cl:=Ē) à)
abbrev ZF à á â ã ä å æ ç è é ê ë ì:=⟨à,S.kind,rfl,rfl,ħ,S.inj,Ĝ y J,fun y c z=>(eB z),ş hd,Around.frames_deeper á,ė pJ,fun b z=>ĸ z (I b),fY ⟨(â).1,ã⟩,ä,fun b _ å=>æ ç,fun ç è=>ĸ è (æ ç),é,fun ç hb=>ê,Ĝ ë ì⟩
abbrev Gn:=builtinsNs
abbrev W1 à:=bm≠Gn/\à=ā ob/\ob.cls=Ÿ "module" /\ ob.dict=ā Gn/\ob.data=.plain
abbrev BC:=isSlice
abbrev Pm à á â ã:=inSub e fun à á=>â&&de ã á && !BC á
abbrev AW à:=PE X (pf à ai)
abbrev BQ à:=by cases à<;>rfl
abbrev Kt:=wpAny_isInstance
abbrev OK:=isSubtype_stop
abbrev YI:=Kt (T:="StopIteration") (b:=true) (f9 _ Ø) OK
abbrev Zf:=Rep.immut (fun a f=>vZ b e m (hd.wl a f) (hd.same _ _ e) m) g (h.weak hd)
abbrev Z5:={ cls := Ÿ o8, data := bM #[Ĺ, .bool ă, bj, rawInt 0, Ĺ, Ĺ] }
abbrev aaA à á â ã ä å:=by unfold corLam;rw[Ĉ];refine(au à);show corE ⟨N,á,G.fnl,G.bll,G.cll,ă,ă,noCo⟩ ă â bd=true;rw[ã,ä,å];exact c9
abbrev ab4 à á â ã:=i_shr (F:=Ý) (δ:=Ŗ 2 [qD b,qD e]) (a:=à) (b:=á) (i:=(â:Int)) (j:=(ã:Int)) (cx:=Ē) (cy:=Ē) rfl rfl (mI _)
abbrev ay à á:=à=true->C (á)
abbrev eN:=t.2.2
abbrev oM à:=ą (Ņ (à))
abbrev XH à:=⟨Č f7,upd H1 f7 à,I1.laid (t':=s1.toks) (fun b u e=>ű e) ħ ?_,rfl,q _ hf⟩
abbrev k_ à:=Ğ b à e
abbrev Ww:=ļ (J.filter fun c=>f r c==w) c (r,c)
abbrev abl:=Ŏ 9 (ľ 60 [fe Fo (.rng [χ]) (pA 8),.sl Ĭ (.int 11) (.int 19)])
abbrev K7:=setO aj X.w
abbrev UF:=aq p (K7 p (d.foldl dk []))
abbrev xv:=.bi .tuple
abbrev O' à:=bM #[f,à,Ī,.int n 0,.int ep 0]
abbrev nN:=kz v m n
abbrev XW:=if 0<=i then(bU (i<n) (ā i.toNat))else bU (-ρ<=i) (ā (i+n).toNat)
abbrev Wz:=vn (gP (x.getD i 0) (w.getD i 0))
abbrev M3 à:=xK ys vE (ī à)
abbrev B3:=m.N.length
abbrev ado:=t.fits Û
abbrev A6:=NameKind.cell
abbrev GL:=wpAny_truthy_bool
abbrev G9:=PyData.canLayAll0
abbrev O9:=wpAny_setState_of
abbrev P6 à:=fun i H x à y=>Ą y.1 (fy _)
abbrev kR:=(Ν 1)
abbrev abV:=Ł (Aa Ē (fN (ev_ix c (ev_neg kR) (ix_last _ _)) (Ν 2) rfl))
abbrev dg:=eW H0
abbrev eK:="set"
abbrev Y5:=inCl e1 fun ef' es' _=>bltB sg eK ef'&&es'.length==1&&bW sg ms es'
abbrev Zq à á â ã ä:=snd_args (fun _ à=>á) â h fun O W ã H vs Q l σ ä hd g p=>by obtain⟨d,c⟩:=re;exact⟨l,_,O,W,ã,ä,hd,g,d,c,rfl,p⟩
abbrev jd:=(snd b)
abbrev Ph:=fun i=>bs.getD i ă
abbrev iQ à á:=fZ à=ā á
abbrev GH à:=∀v,à ≠ lz v
abbrev W4 à:=∀p∈à,iQ p.1 p.2/\ao p.1/\p.1≠cN/\p.1∉X.fs/\GH p.2.data
abbrev jq à á:=à[á]? = none
abbrev v6:=.dK kvs
abbrev XB à:=(∃xs,SqT à H p xs/\k = !xs.isEmpty)\/∃kvs,Ï p v6/\k = !kvs.isEmpty
abbrev IS à:=gm (Ã 1 à)
abbrev abt:=.ix (Cs (IS 1 (Þ [Ĭ]))) (IS 2 (Þ [π 2]))
abbrev iW:=lookD
abbrev Vk à á â ã ä:=∀{a:à} {b:Ĩ},cC b (a.map u8)->iW (á) (a.map fun p=>â) b=ā ã->ä
abbrev bg:=Ld V
abbrev jn:=pF i j
abbrev Φ:=I.hok
abbrev u5:=t.place
abbrev nu:=PermN n
abbrev M4 à á â:=forGo_cnt (i:=à) (I:=fun á δ=>â)
abbrev Km à á:=by have:=à;show á;omega
abbrev Us:=fun _ _ _ _ _ _ _ _ _ _ _ _ h=>h.elim
abbrev Uv:=by simp only[toPs,PyData.eqvAll,deqs]
abbrev Vo:=wpAny_typeNameOfWhole_itemiter (ty c)
abbrev YB:=match b with | true=>rule "set.scan.the-table-gave-way" | ă=>pure ()
abbrev ZT à á â ã:=fun i H x à d O2 s s' y e ho=>by obtain⟨á,y⟩:=y;subst á;obtain⟨_,â⟩:=ã;subst â;exact rep_int.mpr y
abbrev sG:=mV _ _=_
abbrev Vt:=(Vu sc fp).env.scope.names.lookup x
abbrev dL:=.int _
abbrev PB:=⟨_,_,nC r1,nC r2,q⟩
abbrev vx à:=Þ [π à]
abbrev V2:=.cmp .Gt (.ix Ń Đ) (Cs Đ)
abbrev nE à á â:=RSt D à á â O W
abbrev Qz:=fun {d X e c r} g b h=>?_
abbrev AS:=.bl ă
abbrev IO à á:=xy (xL (à) á) AS
abbrev ES à:=DK à a (Dc y.1)
abbrev rH:=X.N.Nodup
abbrev sP:=es.length
abbrev Wp:=go_ifr (Λ (x:=true) (cl:=Ē) rfl)
abbrev Dw:=sc.isGenerator
abbrev Dx:=sc.isCoroutine
abbrev DH:=s₁.heap.get?
abbrev PN:=List.mem_of_find?_eq_some
abbrev QC:=inBool_el a (Ļ o k p a)
abbrev Ti:=Builtin.SmallTypes.ownedTupleHandOut
abbrev Zb à á â:=by unfold RepL at h ⊢;obtain⟨v,vs,e1,e2,e3⟩:=h;unfold à at m;rw[Ĉ]at m;exact⟨v,vs,e1,á,â⟩
abbrev Wc:=[ī h,ī R,ī C]
abbrev abF à á:=i_sub (G:=G) (F:=Ů) (δ:=Wc) (a:=à) (b:=Đ) (i:=á) (j:=h) ć ć
abbrev V4 à á:=Ų elt à=ā (.ok (f á) c)/\stro (f á) c=true
abbrev PH à á:=fun v à s g=>p v à (s1.trans s) á
abbrev Ym à á:=∀à o,à≠Z->à≠W->à≠a->à≠b->fZ à=ē->á=ē
abbrev oh:=fW κ V
abbrev aa5:=dZ (.lst [Ĭ]) (gz 33 (xw ĺ (ľ 34 [ŝ,Ĭ,Đ]) (lW 0 2)))
abbrev Gh:=.tbl (JF q rA)
abbrev uf à á:=PW X (rK à á)
abbrev rZ:=FuncData
abbrev q9:=w.length
abbrev Go:=X.s₀.heap.get?
abbrev Hq:=wpAny_askSetting
abbrev Jc:=List.filter_cons
abbrev ZA à:=by obtain⟨o,es,ep,e,d,_⟩:=hg;rw[←z,à.1]at e;cases e;rw[b6]at d;cases d
abbrev acE à á:=by unfold gh;rw[Ĉ,xj,xj];exact⟨Jd đ à,Wb á đ⟩
abbrev Kn:=cr (own++cl) x=Ś
abbrev kj:=Nat->Rw
abbrev yA:=V->İ->pP
abbrev E5:=minIx ks
abbrev Tl à:=(E5).bind fun i=>ds[i]?.map fun d=>à
abbrev iu à:=∀i,i<n->à
abbrev js:=ĉ rfl
abbrev ju:=Ĳ Env
abbrev xr à á:=sm (fun s=>à*á) k
abbrev wf:=PI X tg
abbrev GJ à:=wf (pf kZ à)
abbrev zH:=(E7 o)
abbrev zI à:=PS X (à) zH
abbrev acK:=ľ 59 [gz 58 Å,oY Í χ]
abbrev abn:=fF 6 (fe (gm Đ Ń) acK (pA 1))
abbrev BG à á â:=qu Expr à (á×Pos) (â)
abbrev jH:=IntsAre
abbrev ky:=ev_lenL
abbrev N0 à á:=wj à (rI0 (Ĵ j (.bl (ě (á)))))
abbrev zt:=trC l Ė H
abbrev Mh:=Qt Mg cp.sc.names
abbrev EX à:=I.turnedL (t':=à)
abbrev BW à:=by rw[←à];rfl
abbrev KW:=wpAny_setEntries_of
abbrev K':=List.getElem_of_mem
abbrev Ly:=rI0_of hd gx gy zj
abbrev LG:=Array.toList_append
abbrev Uz à á â ã ä:=tru_ok à s1 e á x v (fun b â=>b=k/\â=á) ã ä ⟨k,t,rfl,rfl⟩
abbrev SR:=List.of_mem_zip
abbrev ZI à á â ã ä:=wpAny_newFunctionEnv S.nocell (fun x à=>S.par x.1 (SR à).1) (fun á â ã=>au ((ä).fresh _ ã)) S.kind
abbrev ZJ:=wpAny_builtinsFor v b1 Z (d _ _ Y X) W U S (ą (wpAny_nsGet v ?_))
abbrev RN:=fun j=>ě (rw' r j≠0)
abbrev CP:=Ũ (.enu e)
abbrev RX:=Ť e (Pn.ask s x p q).D
abbrev sy à á:=bK a fun x à=>á
abbrev RK:=mA (kp f) (vG (kp f e))
abbrev xV:=.ask s c n
abbrev gO:=SqL.of
abbrev rN:=I.list
abbrev wH:=(Č b)
abbrev OH:=IsPair Ė U Ī wH
abbrev Pf à á â ã ä å:=AU à (ŷ á (∃(a:Addr) (â:ã),á=[Ī]/\ug a (ä)/\å))
abbrev WW à á:=ev_lst (ab à á Α) (Jj 2) rfl
abbrev wa:=I.cell x c
abbrev lJ:=V.int
abbrev A4:=ns.map lJ
abbrev xf:=rep_lst.mp
abbrev ads:=es.any fH
abbrev Ch:=pe_var s1 s2
abbrev Be:=l.extBut _ _
abbrev Bm:=List.mem_map
abbrev Es:=Str.ofString
abbrev ade à á:=PySem.W.envX à á ġ f
abbrev Qr:=CloScope C.N w6 C.nc sc
abbrev Qx:=List.contains_iff_mem.mp
abbrev aaD à:=fun {sg X es δ a} g hc=>⟨fun r h=>(xc à h),fun r h=>(xc à h)⟩
abbrev act à:=⟨?_,?_,⟨wd_pos hgl s1 Ă,à,okn.ok,oky.ok⟩,fun i j hi hj hbi hbj=>?_⟩
abbrev TY:=fun A E Q s i st h=>si_self st.1 h
abbrev E2:=oneType'
abbrev Z7 à á:=vj A (keyLt' E2 (keys.toList.getD à Ĺ) (keys.toList.getD á Ĺ)) C ye s
abbrev K6 à:=listUpdate_at à rfl ?_
abbrev X1 à:=call_list_seq p à ho hc hd (fun h' c' kp e=>fin its r' hz h' c' kp e) Of
abbrev MX à á â:=sb_bits à á â (s.lt á) s.2.2
abbrev acP à á â:=small_tail (fu:=fu) (k:=k) ns hns tp htp t10 xs hx (ī à) (n:=á) (m:=â) Ă Ă Ă Ă
abbrev jm à:=i∈cs à
abbrev nY à:=j∈cs à
abbrev acB à á â ã ä å æ:=0<à->à<32->0<á->á<32->(kX à (jm R))->(∀j∈cs á,nY C)->(kX à (∀j∈cs á,f (al i) (ga j)=â))->ã ä å à á<=æ
abbrev De à:=Hp->Œ (à->cj)
abbrev gM à:=(Gy à).1
abbrev Ng:=(a%2).toNat+2*tw r
abbrev N6 à á:=fun h' tk k=>⟨à,H,I.kept k,á,q⟩
abbrev iV à á:=Q à (dJ á)
abbrev uc:=PE X a ta
abbrev Ji:=(Î).getD j []
abbrev Zy à á â ã ä å æ ç è:=⟨AA _ _ (kp b o (à) e),AA _ _ ⟨o.slots,kp b á (à) â⟩,fun ã á â ä å=>Ą (æ) ä,Ļ ã á â å,fun ã xs â=>sm å å â,bh ç (sm å å â),fun ã è â=>sm å å â⟩
abbrev qR à á:=fQ à á [Õ]
abbrev Qj:=.rt d fr
abbrev Gb à á:=kX à (al i∈cs á)
abbrev fP:=wl R C
abbrev gb:=A.in1
abbrev Hr:=rY gb _ _ _
abbrev FU à:=dC (ft à m rows)
abbrev aa4:=sQ (nP Đ) Cq (.enu Ń) (br Ń Ĭ) [none,none,ā 0]
abbrev Eu:=BE (fV _ h)
abbrev RG:=ev_lst Α đ rfl
abbrev qm:=or_false
abbrev qH:=J.length
abbrev vb:="columns"
abbrev zy:=dI X.D δ
abbrev GR:=Binds X.K fd ps
abbrev NA:=codeAmong pos ps.toList
abbrev Ul à á:=∀{a:Ĩ} {xs:İ} (n:Nat),cC a xs->cC (à) (á)
abbrev Dr:=by simp;omega
abbrev DL:=mem_freeCells
abbrev Er:=s.heap.IsList
abbrev FB à á:=ev_lenT (F:=à) (δ:=á)
abbrev Im:=List.mem_append
abbrev JU:=wpAny_pyIter_tuple
abbrev S_:=d.heap.push emptyL
abbrev L4 à á:=SortSt.mk' à á #[] 7 none
abbrev ML à á:=by unfold à á;rw[ŗ];rfl
abbrev MP:=List.pairwise_cons
abbrev NW:=Builtin.Range.rangeSize
abbrev QZ:=decide_eq_false_iff_not
abbrev UU:=walk_rng (ž (ax ada=ā ri) h)
abbrev Wr:=rE_len (rows:=rows) (w:=w) (m:=m)
abbrev Wu:=eE_len (rows:=rows) (w:=w) (m:=m)
abbrev X5 à:=PySem.W.WalkO q loose XP YP l.row.toRowW d [] (fun f à=>PySem.call f à)
abbrev tM à:=adq à Α
abbrev abR à:=gA (tM c (e_paper _ (p6 o) (fq (ft_len (J:=à) (m:=m) i h).2)))
abbrev G8 à:=wpAny_rule (ą à)
abbrev Z_ à á â ã:=I3.turnedL (t':=s2.toks) (ch:=[à]) (bh á (Ą (s1.2 b fun z=>â) e)) fun b á=>Ą (aG á) (fp_of ã nS)
abbrev SC:=(x==("__classdict__" : Str))=ă
abbrev mF à á:=(à - á).toNat
abbrev FW à:=fun à=>pF r c==w
abbrev mv à á:=∀b∈à,b∈á
abbrev IG à:=sm (fun t=>z t*à) r
abbrev Ab à:=R.2 _ (pB à)
abbrev tQ à á â:=ac à (ac á (â))
abbrev XS:=thn NX fun us s1 (Dk vs)=>hc pins s1 σ H1 vs us Q I1 r1 q1
abbrev jw à:=lA à H s
abbrev yC à á â ã ä å:=jx (à) (Ğ á â ã) (bc ä å)
abbrev V9 à:=match d with | à=>kH i.toNat | _=>ă
abbrev adu:=nF N v Z g (sW (Ļ U s s2 u))
abbrev LY à á:=su _ (à) ⟨á,i,j,a+1,h⟩
abbrev Tj à á â ã:=yF à rfl (ą (wpAny_updateSeq_pair à (Ğ á â ã)))
abbrev acV:=.ite (br (Ã 4 1) nQ) Ń Ĭ
abbrev Wo à á:=u0 3 (vJ (k+2) cB) (bw.map qD) (RE à á)
abbrev BD à á:=in1_el h fun à h=>á
abbrev zm à:=gf à ds=true
abbrev Zo à á â:=te σ H1 fun y H2=>∃ds dy j,ja H2 à x/\ja H2 dy y/\dy.plain 60=true/\zm 60/\á/\â
abbrev GP à á:=CE ś P w à s á u s'
abbrev K4 à:=wpAny_updateSeq à rfl
abbrev TL:=by rw[isSubtype_type];kernel_rfl
abbrev VR:=Nat.testBit_eq_decide_div_mod_eq
abbrev XQ:=PySem.W.fnOf name qual params body Ŋ dV kV doc pm an cdv ct
abbrev ZB:=by obtain⟨o,es,ep,e,d,_⟩:=hg;rw[z,hp]at e;cases e;cases d
abbrev abI à:=by refine⟨b_ sub ċ,Ĝ r à⟩;obtain⟨i,_,rfl⟩:=Ő à;rw[ċ]
abbrev Qf:=(Z9).push (qp tu 0)
abbrev Pq:=∀y∈cq,y.2 ≠ lz
abbrev IP:=[ŝ,Đ]
abbrev Wt:=Þ [ľ 40 IP]
abbrev OD:=jJ (wpAny_onRaise ?_)
abbrev mi à:=Ħ (l:=à)
abbrev Ax à:=Un fs ex H à h
abbrev OT:=sQ elt tg it cd fr
abbrev ab5:=me fr ă (l:=[(qD b,Ē),(qD e,Ē)]) rfl (e_contains b e)
abbrev N9:=PySem.W.cellsFrom_some
abbrev Oe à á â:=Heap.get?_update_other à á (jv â)
abbrev Pi:=List.take_of_length_le
abbrev Ro:=List.map_eq_nil_iff.mp
abbrev mz:=adn=ă
abbrev dw:=ā v
abbrev J4:=(JJ pos).any eD
abbrev mJ:=(0:Int)
abbrev So:=Ą (È (hm b _ q fun z=>z)) q
abbrev tj à:=∀c∈l,à
abbrev LQ:=tj (∃o,Qq)
abbrev MG:=∀r∈rows,Ű=m
abbrev nj:=ĝ Ă
abbrev pq à:=ě (à%2=1)
abbrev pY:=ĸ rfl
abbrev aV:=Š a
abbrev zX:=.str "ask"
abbrev Lu:=.ok d c
abbrev Bo à á:=Ť (à) (.bl (á))
abbrev QN à á:=∃c:bV,(∃i,i<r/\à)/\∀j,j<k->á
abbrev mT:=Ld Nat
abbrev QV à:=(à).1 ^^^ xo L (à).2 N
abbrev a_:=items
abbrev sx:=.str i
abbrev Vv à:=im (G.gk.lookup à) i (ke sx)
abbrev yS:=.iff c a b
abbrev Lb à:=ii (à) (BH za.2)
abbrev Ay:=HOk aj X.w
abbrev mU:=Src P w
abbrev ny:=inCl_el
abbrev WD à:=if kH (ĩ s i j)then à else n.rch i j
abbrev Kx:=adb (.int (-1) v)
abbrev CK:=cv.wi hs bl
abbrev CO:=entsI f w J
abbrev K9:=bs.map Value.bool
abbrev zn:=reads_of I
abbrev BU:=plain_args
abbrev zN:=SSs G F fu
abbrev Az:=I.freeC x c
abbrev CM:=rE rows w m
abbrev HH à á:=bindArgs (à) ⟨á,[]⟩
abbrev LD:=spF X.D τ (F f)
abbrev JW à á â:=T.keep _ _ _ à fun b á o e=>â
abbrev KM:=SetTable.below.go
abbrev KN:=Nat.lt_trichotomy
abbrev Vr:=CloOk aj X.w X.K X.mg mr C
abbrev JO:=⟨H1,I1,q1⟩
abbrev xm à:=ĝ (fun z=>à)
abbrev oz à á â:=∃a à,v=Ī/\á/\â
abbrev sO:=Œ Stmt
abbrev sV:=Ì ra a
abbrev xz:=.bi .sum
abbrev aa7 à á â:={n:=4,np:=3,body:=[kt (ľ 4 [ŝ]),.ret (xz [adc 0 à á â 2 3 (ā 2)])]}
abbrev Hf:=.fo tg it body
abbrev rQ:=Operator
abbrev r6:=s.TypeIs
abbrev si:=if_false
abbrev Yn à:=Hv (Ma T F.slot_zip_next F.entry_zip_next (à) (F.args_zip_next_1 _))
abbrev Yi à á â:=R2.ext (R2.ext (R2.ext h2 à D.i2z D.l2z) á D.i12.symm D.l2i1) â D.TOi2.symm D.l2TO
abbrev GN:=recursionLimit
abbrev Il:=wpAny_tryCatch
abbrev Iz:=List.nodup_nil
abbrev IQ:=d_flipped_plan
abbrev ac2 à:=cmp_ne (ļ (à) (x:Nat) (x:Int)) (ļ (à) (x:Nat) (x:Int))
abbrev Pw:=(Nat.log2_lt Ă).mpr
abbrev EQ:=fun z=>eB z
abbrev QB:=⟨Ĝ r h,Ĝ r h⟩
abbrev Rh:=[cG,ę (tT (r::a))]
abbrev uC à:=(x,iT)∈à
abbrev XZ:=⟨.int ys.length,H,uo,⟨cW+1,ţ cU hlen⟩,q⟩
abbrev uz à:=ė (ė à)
abbrev acS à á:=š (hb.by (L:=c) (P:=fun s e=>hs s (à,á)=true) (Ĝ e he) (Ğ s hs' hx)) c1
abbrev ox à:=Ï à k6
abbrev Ze à:=∃p xs ds,v=fj/\d=ŋ/\H0 p=none/\ox p/\i8 (aU (p::à))
abbrev pO à á â:=iJ à (jX á â)
abbrev wL:=Eh es
abbrev Nc à:=nD (uA (fT à))
abbrev vc à:=Rep D H à v
abbrev ut:=ps.zip
abbrev wI:=IsPair
abbrev jN:=l.getD
abbrev acg à á:=if Ć (mA à l)<=Ć (e::mA à (vG (á))) then e::mA à (vG (á))else mA à l
abbrev cQ à:=Ĝ b à
abbrev Xq à:=⟨f7,[f7],_,_,H1,rfl,I1.kept (t':=s1.toks) yl,à,uI Ø,cQ hb,q⟩
abbrev DN à á â:=Ev elt à á â Ŋ pos
abbrev xT à:=x.getD à 0
abbrev SA à:=GI x (tb σ H1 fun y H2=>à)
abbrev GK à á:=rI (fun _ j=>à) (Dt (á))
abbrev aaP à á â:=Hj T[à]? (VI à (á)) fd (if Ć (â)=fd.np then Ou.of (OZ (á))else none)
abbrev AY:=ys.length
abbrev wZ:=asName_eq
abbrev EZ à á:=IsEnum à n c á old
abbrev Ad:=Cl.strong
abbrev xU:=ls.length
abbrev DD à:=CallR X (Ÿ à)
abbrev MO à á:=by show Gf _=_;rw[á];rfl
abbrev DF:=h'.objs.size
abbrev DU:=m.extBut _ _
abbrev Ez:="isinstance"
abbrev ſ à:=ā (.nx à)
abbrev uh à:=cR (à) mx X.xe s
abbrev aa9:=[Ŏ 4 (ľ 43 [gz 42 ĺ,ŝ,yU Ĭ Å]),xy (.cmp .IsNot Í (.non)) (dZ (.lst [ĺ]) Í)]
abbrev abd:=[Ŏ 5 acV,Ŏ 6 (Fp (Ã 4 2) χ),.app 3 qP,Ŏ 4 (.ite (br qP Å) (Ã 4 4) (Ã 4 3))]
abbrev u4:=(· < ·)
abbrev acr à:=im (ĩ (DKey.s "row" = DKey.s à) (ā d) (bU (DKey.s lX = DKey.s à) (ā a))) d (ke d)
abbrev PD:=eU ra _ (Χ rb (Ec y op x))
abbrev m_ à á â:=Ż à (.lst á) â
abbrev Z4 à:=Hv (Ma T F.slot_enumerate_next F.entry_enumerate_next à (F.args_enumerate_next_1 _))
abbrev jf:=(tJ r)
abbrev V':=0<=_/\_<=1000000/\(1:Int).natAbs<2^64
abbrev lm:=(Dk x)
abbrev AO:=Ě->Sem Ě
abbrev Tk à:=((ixNat eL à).bind fun j=>ns[j]?).map
abbrev Vx:=fun l hl=>fA (evEs_length hl) l1
abbrev Ye:=fun k h ⟨p,q⟩=>by obtain⟨o,e,_,d⟩:=p;exact⟨o,_,e,d⟩
abbrev WL:=rows.take p++[az q]++rows.drop p
abbrev Rb:=(ws.drop (j*m)).take m
abbrev jD:=ġ+1
abbrev Yl à á â ã:=∀à,uG à (oC ġ)->wI à W x y->S1 ς à->S2 ς à->wI à ġ x y->á=jD->(Ym e (â))->iV ã à
abbrev Ry à á:=[none,ā à,ā 0,ā á]
abbrev ab1 à á:=.bi .all [fe (br (.ix (.ix Ń à) á) ĺ) Ń (Ry 2 3)]
abbrev Fe:=okD fn bl cl
abbrev Fg:=Int.mul_zero
abbrev Fj:=Nat.xor_zero
abbrev L9 à á â:=by unfold à;rw[á];exact â
abbrev YX à:=match p with | ⟨po,ar,va,ko,kd,kw,df⟩=>in0 po (à)
abbrev YV à:=YX (in2 ar fun a b=>à)
abbrev Lz à:=rI_of hd gx gy à zj
abbrev Z8:=h1.update jD L0
abbrev NH:=I.base.there b o e hx
abbrev N_:=List.length_replicate
abbrev ac7 à:=con_cons ⟨_,Č _,à,rfl,fun H=>rep_fn.mpr (Á _ à)⟩
abbrev u3:=xs.size
abbrev YA:=below_go b u3 0 u3 cX ħ Ă (fun i x h=>Ę)
abbrev Xw:=NY hg hm boot_range NX (Dk vs) (ţ hs hs2) (bQ hs2)
abbrev acT:=List.Pairwise.imp_of_mem (fun {x y} hx hy h=>?_) tell_pw
abbrev oR:=ā ă
abbrev Wq:=fun b=>mh m (cv.lf hs ai b)
abbrev o4:=ą bF
abbrev Lj à:=tj (∃o v,Qq/\à)
abbrev U2:=∀i∈tgSlots tg,ĭ fr none
abbrev oA:=ĝ BA
abbrev Ml:=Ĵ hi (h i Ă)
abbrev bv:=ao b
abbrev ow:=mw X.N
abbrev SK:=cR (f (ĳ t) (Ζ u)) Q E s
abbrev j_ à:=ik (à) re
abbrev Uu à á:=j_ (iM a (.Slice à á none p2) pos)
abbrev Lg:=x != "__debug__"
abbrev acX à:=bZ F (D (ę (.lst L2))) 29 [Đ,à] [(tT X,Ē),(à,Ē)]
abbrev um à:=rI0 (Dt (à))
abbrev p5:=trivial
abbrev Rl à á:=go_fo (ds:=à) (cl:=Ē) á Ð e
abbrev J9:=List.length_drop
abbrev Kd:=Nat.le_of_not_lt
abbrev Ki:=List.cons_append
abbrev RW:=List.ext_getElem
abbrev K_:=List.any_eq_true
abbrev YL:=again (lw "list.extend.loop" ⟨[Č S,Č I,i],[]⟩)
abbrev SU à á â:=fun A ś s H args us vs Q E hr à hb á â=>?_
abbrev Rr à:=Nat.pos_of_ne_zero fun z=>à
abbrev QT à:=(n,(à.1,à.2 ||| 1<<<n))
abbrev yK:=.int v
abbrev P8:=⟨a,xs,e,gO d,b⟩
abbrev XV:=typeLookup (Ÿ T) "__getitem__" = pure (ā (lw id))
abbrev Oh:=ņ (Po==cpos.line)
abbrev wy à á:=aq à (.lst á)
abbrev Ig à á:=Same (Ô à á)
abbrev X2:=Æ (Dj s H _ I h) v s1 ⟨x,H1,I1,r1,ty,q1⟩
abbrev pd:=Χ rb
abbrev PP:=jb (C.none b z) e e
abbrev qw:=wo_sub
abbrev Zv à:=Aw (Φ b u e) b' u' à (kp b' u' ?_ q) b' (sm _ _ q) xs _ _ _
abbrev Bg à á:=.t [ď à,ď á]
abbrev Qp à á â:=IsItemIter à it á â Û ep ok ov
abbrev Pk à á â ã:=.FunctionDef à á â [] none [] ã none
abbrev QU:=Nat.eq_of_testBit_eq
abbrev Rk:=List.any_eq_true.mpr
abbrev u7:=ado=true
abbrev uL:=oP->Ŝ
abbrev eF:=ā a
abbrev qb à:=(à:Int)+1
abbrev GO:=pU e::mG es
abbrev pM à á:=fun _ _ _ à=>á
abbrev wE:=Ĝ x hx
abbrev TW à á:=Ņ ⟨_,rfl,yY,_,à,si_slot.lookup,á⟩
abbrev z7:=.str lX
abbrev cI:=fQ 2
abbrev am à á:=ip d à á
abbrev vf:=Ì rb b
abbrev aT à:=zo D à
abbrev aat:=show rC g s1.heap a (.frz f (.dT d))from B.hok _ _ L
abbrev Jp:=Rect N m rows
abbrev Jf:=Rect a b rest
abbrev bT:=sortI
abbrev vO:=cmpD .Eq
abbrev WM à:=nb (dX ć (i_add Ž ć) à)
abbrev MD à á â:=.fo (jP [à,á]) (.enu â)
abbrev MV à:=vF (ab ć à Α)
abbrev mE à á â:=if à then á else â
abbrev z8:=col rows
abbrev CS à:=(Ō à,Ē)
abbrev acd:=me f 43 (l:=[(FY,Ē),(kW,Ē),CS j]) rfl q
abbrev Se à á â:=∀{xs:İ} {us:ŉ} (à:Nat),iG xs->Vals (á) (â)
abbrev G1:=cellsFrom_app
abbrev Hn:=es.toList.map
abbrev Ut à á â ã ä:=Pz à An (ļ (slD n â ã) d (jS d ä)) _ none
abbrev Jb:=List.sum_cons
abbrev Jo:=S6c x w bl es
abbrev JC:="_law_script"
abbrev ac0:=pu_sub (Ĵ hi (cs_ltn a1 hi)) fun j hj=>cs_ltn b1 hj
abbrev Zh à á â ã ä:=∀O W à H x y Q á cx â cy (σ:St),k á cx â cy=ã->eW à->BP à á cx x->BP à â cy y->HP à ä->r x y H Q
abbrev pN à:=(à).isSome
abbrev Li à:=pN (asTup à)
abbrev xW à:=(tT à,Ē)
abbrev abb:=[Ŏ 4 (ľ 48 [ĺ]),Ŏ 5 (Cs Í),fF 2 acl]
abbrev PL à:=rq à = ā (lw à)
abbrev W5:=iJ H' {s with heap:=h',gens:=g',drawn:=d',toks:=t'}
abbrev GC à:=.UnaryOp à a pos
abbrev HW à:=by simp[bJ]at à
abbrev B8:=putK kvs k
abbrev Bl:=C.N.length
abbrev BM:=wo_le.tseq
abbrev BR:=p.later s1
abbrev Cb:=bne_iff_ne
abbrev Xn:=I.turned (bh hb (kk b o (Ķ hb) e)) f0 f1 f3 f4 f5
abbrev rV:=(g i j)
abbrev O1 à á â ã:=(Hj (oV à) none á (Ei á â ã))=_
abbrev pX:=ā bE
abbrev DR:=⟨p,q⟩
abbrev zS à:=∀i∈à,i<n
abbrev yT à:=ĉ (mI à)
abbrev ue à á â:=ĩ (à=true) (á) (â)
abbrev Da à á:=ĸ (ce à á) DP
abbrev Bx à:=(à).foldl dk []
abbrev yg:=PE X b tb
abbrev Sw:=k b o (fun z=>hc (aC z)) e
abbrev xX à:=ψ (aX à)
abbrev JE:=Vals xs its
abbrev Cy à:=cg 10 fun w=>à
abbrev zc:=cC ds xs
abbrev yd:=iJ H' s'
abbrev adr à á:=bU (à=cloIx) (cloR G á ds)
abbrev Rx:=i5 (x:Nat) (x:Int)
abbrev Ed:=cmpD op x y
abbrev qQ:=kI rows
abbrev Ls:=kh (gM h) sf
abbrev EV à:=SqD à K H a xs
abbrev jM:=strong
abbrev kJ:=cs_mem
abbrev kO:=sb_out
abbrev qZ:=cs_ltn
abbrev pR:=I.tuple
abbrev LW à á:=ze _ _ à (RepL.one á)
abbrev rd:=in_full
abbrev abc:=sQ Đ Cq (.enu Đ) (xL Ń υ) [none,none]
abbrev yc:=Loc Mc x
abbrev D':=Cl.anew c c
abbrev CW à:=X.getD à []
abbrev E9:=cc.lookup
abbrev zY:=306783379
abbrev A0 à:=show à by decide
abbrev WK:=cd ((Gd).idxOf r) Nn
abbrev C6:=DecidableEq
abbrev DE:=sliceBounds
abbrev EL à á:=by cases à;exact á
abbrev Fd:=Nat.one_mul
abbrev Fz:=Nat.add_mul
abbrev FT à:=go_ift (Λ à)
abbrev RD:=RE (ę (qD b)) z4
abbrev JI:=I.base.free b o
abbrev Kw:=PyData.depthAll
abbrev LZ:=get?_update_seq
abbrev MI:=List.idxOf_cons
abbrev NF:=List.filterMap_cons
abbrev Oa à á:=by have:=à;rw[á]at this;omega
abbrev Y9 à á â:=∀(i:Nat) x v,Į à (á+i) x->ĭ ws v->∃c o u,â=Ś/\Qq/\aN=lz Ö/\dv
abbrev Q7:=d_entries_by_choice
abbrev Rj:=List.any_eq_true.mp
abbrev R_ à:=e_num (fu:=100) à w ħ
abbrev T3:=Builtin.List.listLengthHint
abbrev T6:=Builtin.List.listExtendWith
abbrev Wj:=List.exists_mem_of_ne_nil _
abbrev WH:=Nat.testBit_two_pow_sub_one
abbrev WU:=e_settles (fu:=100) (k:=56)
abbrev ZC à á â:=⟨AA à á ?_,AA à á ?_,ν b o e n á,un.there,k_ â,Ļ b o x e,k_ x⟩
abbrev QP à:=cw Ħ (Ľ à) (jV à)
abbrev Yz à:=show m7 _=(sA (uW m δ) (.nx à) (lH r à) o o)from rfl
abbrev acN:=Ou.of (eV ς (adp 5 2 1) (Ŗ 10 [iX,.int tp]))
abbrev YS à:=∀g b a v q p,ay (f g b a v) (.Call g à [⟨a,v,q⟩] p)
abbrev Gx à á â:=by rw[z,à]at á;cases â
abbrev GX à á â ã:=by have à:=á;rw[â]at à;exact ã
abbrev YO à á â ã ä å æ:=AM à ⟨_,_,_,_,_,_,Ph,rfl,Walks.list (A:=A.in1) á ġ l (Ñ â) a_,⟨uI Ø,ã⟩,tr_bools e,Ğ ä å æ⟩
abbrev U0:=fun j d h=>(eP (c j _ h))
abbrev HL:=wo_le _ _
abbrev Um:=⟨a,xs,e,HL d,b⟩
abbrev WV:=.lst [ů (1+u),ů (1+v)]
abbrev aa3:=ģ [nQ,Đ,ģ [yU Ń Đ,Ĭ],ģ [Đ,Ĭ]]
abbrev t8:=kK jI
abbrev Sc à á â:=nsIn t8 à á = ā (ā (â))
abbrev Tp:=ļ (truth x) k (fC (!k))
abbrev L7 à á:=⟨H0,O,W,R,à,fo,sm,á⟩
abbrev Ur:=∀a H Q,t' a H Q->t a H Q
abbrev di:=nG h
abbrev qV à á â ã:=iB à (á) â (Ψ ã)
abbrev ic à:=uW (à) δ
abbrev fB:=ixNat
abbrev wO à:=sB (aI (à))
abbrev OL à á:=match t with | ă=>à | true=>á
abbrev JG à á:=if à then ā á else none
abbrev Vc:=Eo PySem.F.entry_min_loop
abbrev NQ à á:=swapsWith à (ā (á)) AG ū
abbrev Wl:=e_cards_in (fu:=fu) (k:=k)
abbrev TF:=List.length_eq_zero_iff.mp
abbrev ZK:=PySem.W.tabObj (ps ++ #[oC AG,oC pos.col,Ī])
abbrev Wh:=rc_rst (m:=m) (rows:=rows)
abbrev Wn:=Nat.mod_two_eq_zero_or_one
abbrev aco à á â ã ä å:=by obtain⟨a,b,c,e⟩:=à;obtain⟨á,â⟩:=ã;refine⟨ä,å,á,?_⟩;rw[Ho,Ë,forGo_append e];exact forGo_last rfl â
abbrev wz:=ă=true
abbrev lB:=ą ?_
abbrev IV:=∀j∈J,j<m
abbrev Ic à:=∀c∈aD lQ,à
abbrev wJ:=Ĳ Bool
abbrev xC à á â ã:=∀{l:à},(∀á∈l,â)->ã
abbrev Gv:=š I.ok.bsz
abbrev Pa:=Ě -> č -> Prop
abbrev Xx à á â:=∃i σ' H',lj pins σ' H' à/\tn i á/\(dG b fp (H' b))/\W i â σ' H'
abbrev sE à:=m7 (à::r)
abbrev IC:=jc i δ c f
abbrev xZ:=Sm n m X
abbrev r9:=HT.sIx
abbrev qc:=downTo
abbrev OU:=.comp elt tg it fr
abbrev xi:=hidW O W
abbrev xq:=T.length
abbrev Jh:=Look d n m f
abbrev GD:=.IfExp c a b
abbrev Jy:=lin m rows s
abbrev G4:=@LT.lt Nat _
abbrev OI:=ZipApart Z U W a b
abbrev IH:=Nat.xor_comm
abbrev II:=Nat.xor_self
abbrev IN:=d_most_apart
abbrev Ja:=rows.flatten
abbrev JB:=cs_rng _ Ă
abbrev Mf à á â:=inAttr_el à (Ļ á n â à)
abbrev Ta:=a.heap.push emptyL
abbrev Yb:=pushCells ((Ta).push emptyD) bH
abbrev O4:=Nat.eq_zero_or_pos
abbrev O5:=Nat.lt_or_eq_of_le
abbrev ZD:=hw (i - aP) y v (Ą (Ş (τ+(i - aP)=i)) Q)
abbrev Rq:=List.filter_append
abbrev Kr:=wpAny_of_eq
abbrev YJ à:=ą (m:=firstArgMember _ _) (Kr (a:=rg) Th à)
abbrev uM à:=Ĩ->ĕ à
abbrev rJ:=St->cj
abbrev dO:=t.2.1
abbrev S8 à:=(relabel Ŋ à).names.lookup x
abbrev SH à:=fun v s1 h1=>thn h1 (Ğ à s2 h2)
abbrev UG:=i==pos'.line&&j==pos'.col
abbrev oB à:=∀b∈fp,à
abbrev xH à:=Ć (vG à)
abbrev uN:=ĕ Ĩ
abbrev wR à:=Ż a à cx
abbrev rh:=aq a o
abbrev My:=e_ (SS z b c)
abbrev r_:=dt Ă
abbrev rm:=.dT kvs
abbrev sX:=toPs ds
abbrev F0 à á:=rk.ld à (rw' á)
abbrev uq:=A.units
abbrev vq à:=b.getD à 0
abbrev aa0:=xv [fe (.ix (.ix Ń Ĭ) Đ) Ń (lW 2 0)]
abbrev Ud:=nodupB (sc.names.map eD)
abbrev LS:=LamAt X sc c P
abbrev Gg à á â ã:=by obtain⟨à,á⟩:=â;exact ã
abbrev Sx:=NK (I.ok.cab x c hfn hc)
abbrev JN:=ld_blt I hg hm
abbrev LH:=codeAmong pos'
abbrev Ss:=I.base.keep b o e n hb hx
abbrev JR:=J.yld i H x H'
abbrev J1:=Builtin.bitXor
abbrev J8:=PySem.W.codeIn
abbrev KY à á:=wpAny_fieldsOf à á ?_
abbrev L5:=List.mem_range
abbrev Sr:=I.base.slot b o e n hb hx
abbrev TZ:=List.ext_getElem? (af j)
abbrev UH à á â ã ä:=by obtain⟨i,à,rfl⟩:=á;obtain⟨j,â,rfl⟩:=ã;exact ä
abbrev U9:=I.fpOk (H':=H) yD (fr 1)
abbrev VS:=List.pairwise_append.mp d
abbrev V_:=Nat.ge_two_pow_of_testBit
abbrev We:=ys.set j (u%2147483587/7)
abbrev aaN:=by obtain⟨o,_,g,_⟩:=atH c hc;exact⟨o,g⟩
abbrev Yt à á:=fun j=>ě (mW à<=mW j)&&(ě (á<=j)||ě (mW à<mW j))
abbrev Fy à:=.int (gB à)
abbrev ac8:=ym us hl (by obtain⟨_,_,rfl⟩:=ln2 hl;rfl)
abbrev Ia à á:=by rw[à]at á;omega
abbrev Xo:=W.item i s _ _ hg st fun v h' tk hv st' kk=>?_
abbrev aaW:=InSp P (fun s i=>v i (e s)) k n (fun i=>v i j)
abbrev lK:=isSet
abbrev Y4 à á:=inCp e fun c=>à && !lK c.it&&(any1 (tgNames tg c.tg) fun tn=>á)
abbrev Z6 à á â ã:=skey_tail (ix:=à) (us:=us) I fD fk hne hk hD Ă (á) â b3 fun s' c J g=>h s' c J g ã
abbrev acR à á â:=comb à á (K:=â) _ Ra Ca ħ a0 a1 c0 c1 h9 R C R0 R1 C0 C1 g9 ha hg hk
abbrev qF à á:=ax (à)=ā á
abbrev Ff:=sm f n+f n
abbrev F6:=q.2.1.log2
abbrev zV à:=(à).testBit i
abbrev kU à:=Gf qD
abbrev DS:=q.extBut
abbrev Yd:=fun i j g=>f i ⟨j,DS g.extBut ne⟩ g
abbrev wS à:=(Ć (à):Int)
abbrev AK à á:=∀o,aA à->á=ē
abbrev EG à:=fun σ H Q eY=>à
abbrev AQ:=2^j.toNat
abbrev eZ à:=Ĝ i à
abbrev yj à:=ď (ď à)
abbrev CN:=f p.1 p.2
abbrev Ft:=.str "end"
abbrev X6 à á â ã ä:=∀base:Heap,(à).In base->base.Ns bO mg->FnOk l.prog w (à) mg base á â fa fd [ã] (ä)
abbrev Lo:=RepL.immut
abbrev Zc:=⟨a,o,kvs,e1,ou e2,e3,Lo hw m' e4⟩
abbrev mS:=Ú H'
abbrev mj:=mw xs
abbrev Fm à:=e_ à ^^^ L n
abbrev xu à á:=ce à (tP á)
abbrev Aq:=fW Key V
abbrev C7:=fW κ Ě
abbrev qg à:=à ≠ bp
abbrev CI:=ψ iA
abbrev Rp à:=V à tV vL CI
abbrev Eb:=.dct ks vs
abbrev AD:=X.mg x
abbrev abz à:=if sD à then(Ŭ (œ+bR<=ÿ) (uZ _))else none
abbrev AL:=hf it Ģ
abbrev mK:=N.take
abbrev nz:=asName
abbrev u9:=AllT n
abbrev Pg à:=u9 (fun r=>nu à)
abbrev F5:=bl0 rows m
abbrev B0:=gT X.K tg
abbrev Ao:=hashInt k
abbrev Au:=es.toList
abbrev BB:=bs.length
abbrev Cc:=nodupB_of
abbrev Cf:=slot_of g
abbrev FQ à:=stp J f à R C
abbrev CY:=flip_flip
abbrev FL:=wp f R C w
abbrev aaH:=dfrS G F fr (evEs G F es w) (capD w fr) w[i]?
abbrev SL à:=∀(i j:Int) (t u:Tok) (s:č) (Q:ú) (E:ú),à
abbrev p_ à:=ā (Ψ (à))
abbrev TN à:=Hv (Ma à si_slot si_entry ?_ (si_args _))
abbrev acy:=∀s∈L,(∃e∈E,P s e)->∃b∈bl,∀e∈E,P s e->hs b e=true
abbrev KR à:=(Ū à).map
abbrev aba:=[Ŏ 5 (ľ 47 [Í,Ĭ]),.iff acn [.app 1 ĺ,.app 2 χ] []]
abbrev aaa à á â:=∃c2,(s2.heap.update à (mN (ş #[u,An â]))).get? à=ā (qp #[u,An â] c2)
abbrev sC:=(aI ds)
abbrev O0 à á â:=ĩ (à=cZ) (lamR á ds) (adr à â)
abbrev Ck à á:=ip à (snd e) á
abbrev WZ:=p.1=q.1/\Ï lU (ģ (p.1.map kV))/\RelV p.2 q.2.2
abbrev aa2:=ģ [z7,Đ,ģ [ŝ,yU Ĭ Đ],ģ IP]
abbrev Uh:=(C.N.drop C.np).take C.nc
abbrev X3:=⟨#[],(htb _ m).2.1,p5,fun pos cv z=>eP z⟩
abbrev Ib à:=zo X.D (nB à)
abbrev N8:=((p,w)::P.zip vs)
abbrev Tv à:=(Hj (jQ g à) none xs μ)=_
abbrev Yp à á:=KC (gh i&&gh j&&ě (i - j<=à)) (á = -1) (qc i (mF i j))
abbrev NZ:=foldedSetIterable
abbrev Oj:=List.Pairwise.nil
abbrev T9:=kas_st κ it (qr (r+2))
abbrev Pl:=of_decide_eq_true
abbrev R9 à:=call1 (f:=à) (u:=.no)
abbrev Sf à:=PySem.W.methodObj bE (Č à)
abbrev TB:=List.mem_iff_getElem?.mp
abbrev T5:=Builtin.List.listSameRef
abbrev Vn à:=wpAny_isOneOf_itemiter (ty à)
abbrev VO:=List.length_erase_of_mem
abbrev Q2:=.exp (Ε 10)
abbrev ace:=evS G (fQ 11) fu Q2 (Ŗ 6 vN)
abbrev aaT:=(fun i=>c i*(A p k*A tE j - A tE k*A p j))
abbrev Hl à:=(à).Pairwise u4
abbrev CV à:=fun i k j m=>à
abbrev Xj:=fun i h h' st k=>st.at fun o e=>k it Ģ o e
abbrev X0 à:=ŷ xs (∃p ys,xs=[fj]/\(ug p ys\/SqT X.K H p ys)/\à)
abbrev BL à:=η (fun z=>à)
abbrev abk:=.ret (fe Fo (.rng [Þ [.var 8]]) (pA 9))
abbrev Lc à á â ã:=∀à á â p,ay (g à á â p) (ã)
abbrev X9:=if ņ (k==iT) then A5 r (_::b)else A5 r b
abbrev QD à á:=inAsg1_el à (Ļ t v á à)
abbrev Xp:=Walks.range (prog:=aj) (w:=X.w) (iL hc) it
abbrev aaf à á â ã ä å:=lam_turn I' lo à rfl h1 h2 h3 L T á â hN ã ä (R.mono sm) (å) (rp.mono sm.wo) ru (k2 i _ n hd hn)
abbrev fM:=i<ő
abbrev uJ:=ā Lu
abbrev L3:=(U8).toArray
abbrev Dq à:=fun i H x H'=>à
abbrev Vq:=tj (∃x,E9 x=Ś)
abbrev yz:=ĕ Expr
abbrev Jr:=ģ (WB p)
abbrev GT:=Ĳ Keyword
abbrev M9:=ň bl.length
abbrev uV:=ſ δ'
abbrev ZM:=⟨a,ob,kvs,e1,LR e2,e3,repL_wo hl m e4⟩
abbrev Lk:=RepL.mono e
abbrev Za:=⟨a,o,kvs,e1,e _ _ e2,e3,Lk e4⟩
abbrev uX:=qe _ _
abbrev Ah:=.fn J.nm
abbrev uB:=iH Dy
abbrev uu:=jC X.A
abbrev Hw:=gY (ui I)
abbrev yq:=PA X ai
abbrev ac3 à:=fN (v5 (D:=D6) rfl) (Ν (ı à)) (nV_at (Β:à<8))
abbrev M0:=i_ (Ō p.2)
abbrev yL:=.dct _ _
abbrev yI:=.lam _ _
abbrev Ai à:=go_fo (à) iK
abbrev Io:=R.val j d h
abbrev Ix:=KT H kvs xs
abbrev abK à á â ã:=i_add (i_add (i_mul à (Ν á) (mul_r Ă Ă)) (i_mul â ã (mul_r Ă Ă)))
abbrev vo:=SEs G F
abbrev Nq:=P.e i j hi hj
abbrev Gj:=.dict es ep
abbrev yp:=A.deeper
abbrev yV:=SetTable
abbrev zk:=s2.trans
abbrev zG:=p.length
abbrev T_:=kasC_bind (kasC_get ?_)
abbrev Hx:=Nx prog w I
abbrev LJ:=Cells l Ė H
abbrev LU:=repL_off hp
abbrev IB:=block_scope
abbrev IW:=e_row_kinds
abbrev JZ:=Builtin.bitOr
abbrev XU:=if v<0 then(v+ρ).toNat else min v.toNat n
abbrev Ka:=s.heap.update
abbrev Kh:=freeCells_has
abbrev MA:="SMALL_LINES"
abbrev MH:=rowsOf n m ws
abbrev ac1 à á:=e_cut (fu:=100) (k:=56) R n m (à) (á) rc n0 Ă Ă Ă Ă Ă Ă
abbrev SB:=wpAny_loadName_cell x8
abbrev TK:=F.plain_set_update_loop
abbrev TM:="set_iterator.__next__"
abbrev TV:="set_iterator.__iter__"
abbrev T7:=List.length_pos_iff.mpr
abbrev UD:=List.pairwise_singleton
abbrev WG:=List.mem_iff_getElem.mp
abbrev acD:=firsts_go rows q (p++[r]) (Ą wA e) ?_ ?_
abbrev abS à:=ft_last (J:=à) (m:=m) (nX a.1 g) (nX (eg a).1 l)
abbrev abX à á â ã:=ev_sumN (l:=ļ (à) c (2^c)) (c:=ĵ) (e:=adc 0 á â ã 2 3 (ā 2)) (Ą ŗ cm)
abbrev Ob:=V->iP->iP->pP
abbrev Qd:=fun q=>g (aC q)
abbrev NB:=Ą (sn q hn) q
abbrev R8:=Ć (tell X m w)
abbrev XN à:=∀{binds:iH Ě} {m:Τ},(∀v,(x,v)∉binds)->à=m x
abbrev aap:=⟨o,mq,n,h1,h2.1,h3,Ķ (items_are r)⟩
abbrev Q_ à:=gm (π 1) (.int à)
abbrev pc:=Lx e2
abbrev Xu à:=cR (pyIter bj) (PIE X pins σ tg R) E (jX à tk)
abbrev RI à:=∃b∈c,hs b à=true
abbrev oG:=kindOf
abbrev oS:=insI x
abbrev aab:=(toString "min" ++ toString ".loop" : du)
abbrev N3 à:=Hz [op,à] [b,c] pos
abbrev N1:=Hz [op] [b] pos
abbrev NN:=I.kept (t':=cW)
abbrev G_ à:=callC F à cs l
abbrev Qi:=LamTx m.N HG sc
abbrev QJ:=HS K mg fn bl cl
abbrev ND:=X.env.scope.kind
abbrev NG:=s.heap.FunFrames
abbrev NT:=s.heap.IsTuple a
abbrev OO:=List.getElem_map
abbrev OP:=pyTypes.contains
abbrev Pc:=wpAny_newList ?_
abbrev Qk:=kvs.any (Ir kv)
abbrev Rg:=decide_eq_decide
abbrev Ru:=jp rows w (cs S)
abbrev RS:=List.nodup_range
abbrev R5 à á:=e_cell (fu:=à) (k:=á) ns
abbrev abv à á:=dX (a:=à) (b:=υ) (cx:=Ē) ć (Ν (ı 0)) (at_row á)
abbrev abO à:=ev_dgp (L:=FR R C) rfl ć (ţ look_tbl (ĉ à))
abbrev acf à á:=e_check_small (fu:=fu) (k:=k+à) rows n m R á Ă Ă h1 h2
abbrev acq:=List.Nodup.idxOf_getElem (FI_nodup rows) t
abbrev acY:=e_alone (fu:=fu) (k:=k+37) s.R n0 n8 m0 m8
abbrev Vy:=fun z hz=>ha g hc.2 hz
abbrev J2 à á:=∃k,TruV X.K x à k/\á
abbrev Tf:=ą (wpAny_handled ?_)
abbrev Sn à:=∀b u,b≠e->à=Ö->ba b=Ö
abbrev gu:=Š b
abbrev UY:=ŷ b (∃k,t k b H Q)
abbrev tY à:=M' (k+à)
abbrev iS:=e _ _
abbrev Z':=cR (pZ ni [Ī] [(Es "key",bE)]) mx
abbrev gq:=HZ D
abbrev aaj à á:=fY (by obtain⟨à,e⟩:=cD e;rw[η à,È fun z=>á];exact e)
abbrev gC:=JOk J
abbrev MZ à á:=mV (Eh à) (fun l=>á)
abbrev Ws à á:=vn [ů (à+á),tJ (jN i [])]
abbrev aa6:=.or [xL (MC 1 2) ĺ,xL (MC 2 1) ĺ]
abbrev IY à á:=and_t à (and_1 á)
abbrev UI:=PySem.W.CodeHd Ė c P
abbrev aax à:=.of (fun {a X e δ r} g b à=>?_) hw (Ļ a e c b)
abbrev TD:=pairwise_filterMap_fst
abbrev V7:=List.Pairwise.filter _
abbrev abU à á:=e_numbers (fu:=fu) (k:=k) (J:=à) á rows n m a j g b d i h
abbrev Yj:=Builtin.«zip.__next__» ⟨[Č Z],[]⟩
abbrev aaB à á:=by rcases g.cel à (ď á)with v | v<;>(rw[w]at v;cases v)
abbrev acG à á â ã ä:=e_flipG (F:=Ů) (δ:=Ge (qW ws) z (kG R1) à) (i:=á) (e:=â) (rows:=ã) (m:=ä) rfl
abbrev AB à á:=fun à á=>eB á
abbrev ab3 à:=Ê (I_ (cH (cs à)) ĵ (tM (pE 1 à) st) rfl)
abbrev UC à á â ã ä å:=Æ (hv à s á H (fun v â=>v=ã/\â=H) I (uI ä)) u s1 å
abbrev XM:=aD (backToKw pos (keywordEach kws ū))
abbrev X8:=∀(w:ł) (h:Heap),YP w h->(K jI).In h
abbrev qU à á â:=ab à á (xG â)
abbrev ab8:=me f 43 (qU l (dr 1 kW) m1) hb
abbrev YC:=qh h' ġ (fm (fun i=>ns.getD i 0) oO)
abbrev Oz à á â ã ä å:=∀C à á â fp,PTs WY ä å
abbrev O3 à á:=Bo (.cmp à a b) (ě (á))
abbrev acO:=⟨n',m',R,g1,g2,g3,g4,g5,g6,g7,g8,?_⟩
abbrev Rv à á:=bools? (i5 à (DV.bl (á)))
abbrev acW à á â ã:=l_add (Jl F (D (ę (.lst à))) 2 (.lst à)) (WW á â) (Ş (ň (ã+2)))
abbrev YD:=by first | exact ď ŵ | exact ė ŵ
abbrev YM:=by rw[←g.numsOf,←nums_intItems,←e]
abbrev XE:=(ā (lw "getset_descriptor.__get__"))
abbrev wQ:=wL=uK
abbrev xh:=ads=ă
abbrev VD:=i<Ć (ds.map Sv.val)
abbrev qd:=ā cs
abbrev wK:=ā yK
abbrev wP:=ā Qj
abbrev FN:=1+max a b
abbrev F9 à:=2^n*_+bs n à
abbrev Qy:=fun w=>ĸ w nl
abbrev VU:=[ľ 2 [Í,Đ,ŝ]]
abbrev Tt:=(args++cs).map Sv.val
abbrev UR:=[(ė x,m),(ė y,l)]
abbrev Fw:=(ÿ:Int)
abbrev U1 à á:=∀q,ri=ā q->PI X à á (zy q)
abbrev ZS à:=fun i H s hi=>⟨xs,xs[i]'(by rwa [Ű]),à,Ľ _⟩
abbrev xk:=ĉ Ă
abbrev oH à á:=ė ⟨à,á⟩
abbrev AR à:=Q (.bl à) H
abbrev CF à:=ī (à+É)
abbrev pL:=.lst _
abbrev pK:=Ĳ β
abbrev Yg:=ĝ (show ¬(ņ (gI a==rg))from BA)
abbrev aas:=Builtin.Dict_items.ownsTuple L_ = true
abbrev FG à:=Ũ (.and à)
abbrev wT:=(b+a)/2
abbrev aai à á â:=∀{ta:TE},PE X ea ta->PE X (Vf à) (ŷ á (tCons ta tNil á H (â)))
abbrev acA à:=∀N R C,R+C<=N->0<R->R<32->0<C->C<32->In9 f R C->à
abbrev W0:=∀b o u,gJ b o u->H' b=ā (.frz o u)
abbrev QS:=e_ a ^^^ e_ b
abbrev acQ à:=[ę (tb),ę s,gE (kI R),ę (g_ Np nT),à]
abbrev pQ:=Gl X x
abbrev abr:=gm (gz 58 (.int 3)) (IT (Þ [Ĭ]))
abbrev QI:=dG x bl (mg x)
abbrev mP:=Č l
abbrev Pd à:=gY (pZ à [mP])
abbrev xN:=W9 rows
abbrev M7:=bw (cg n p)
abbrev acb:=[cG,iE,ę kW,aI Jm,z4,z5]
abbrev yH à:=o5 (à - 1)
abbrev No:=flip n' cols
abbrev MN:=ints? (iD r)
abbrev Eg:=.rt d ă
abbrev BZ à:=R.own j à h
abbrev Dg à á â:=Ds à (Ğ á s1 â)
abbrev qK:=g.calm
abbrev qM:=sm_mul
abbrev QW:=(xb f n ^^ f n)
abbrev M2:=Aa .top xQ
abbrev abL:=xK xs b (ī (c%MF+48271)) .no
abbrev xS:=stL w x
abbrev CH à:=adt (tP à)
abbrev C5:=Value.int
abbrev Dh:=I.ok.glob
abbrev Di:=rv.length
abbrev El:=scanBound
abbrev Ew:=is.length
abbrev EB:=rep_bl.mp
abbrev EW:=itK_there
abbrev E1:=kz.length
abbrev Fn:=k.testBit
abbrev Nm:=LawfulBEq α
abbrev M_ à:=Ri.ok (enuD 0 (à))
abbrev Nu:=Pn.ask s c n
abbrev MY à á â ã:=wp_iff.mpr ⟨à,j,á,â,ã⟩
abbrev T4 à á:={s with heap:=à,toks:=á,drawn:=d}
abbrev JY à:=opI0 (ym _ q (à))
abbrev Kk:=@LE.le Nat _
abbrev KL:=Nat.lt_trans
abbrev LM:=s'.heap.get?
abbrev Mp:=Int.zero_mul
abbrev Ms:=Nat.sub_self
abbrev Mu:=Nat.zero_xor
abbrev MB:=d_alone_bits
abbrev acu à:=ev_set (δ:=à) (fN (dr 7 (wD w)) Ž rfl) rfl
abbrev NR:=letOwnedTupleGo
abbrev Oy:=List.nil_append
abbrev OM:="list_iterator"
abbrev Pb:=List.length_nil
abbrev PM:=List.find?_some
abbrev Qm:=h1.symm.trans e
abbrev Qw à á:=inUn_el b (Ļ à á p b)
abbrev QO:=Int.emod_two_eq
abbrev Q3:=d_sets_of_kinds
abbrev SD:=I.mod.glob.keeps I.bk
abbrev SG:=List.mem_filterMap.mp
abbrev Z0:=Yx c n.length d fr [] δ' (a δ') n δ
abbrev Uy à á:=by rw[à]at r;cases r;exact⟨_,á⟩
abbrev acU:=tell_max wE (List.pairwise_map.mpr ?_)
abbrev AE:=AD=none
abbrev Y3:=HF true it c.it&&(!isZp it||Li c.tg)
abbrev X_:=∀b o,d.heap.get? b=ē->U.get? b=ē
abbrev AC:=ĕ Addr
abbrev acF:=n=1\/n=2\/n=3\/n=4\/n=5\/n=6\/n=7\/n=8
abbrev Bf:=Ĳ DKey
abbrev aao à á:=∃b u,yR e f m b=ē/\RSt X.D w j b O u/\à/\Same á w
abbrev Bh:=.ok true
abbrev acp à á â ã ä å æ:=Ţ (cA à á (show binD .LShift â (ã) Ē Ē=ā (ke (.int (ä*pC å)))from ĉ ⟨mI å,Ę,æ⟩)) ?_
abbrev Jk:=bw (FX S)
abbrev YT:=let ⟨t,h⟩:=mpd h;⟨_,_,h▸t.2⟩
abbrev BI:=u_ Expr
abbrev Xk:=lq _ st (wpAny_pyIter_rangeiter st h)
abbrev Yq à á â ã:=if à=Ē/\á=ă then im (kvp? â ã) l (dU (.lst (i5 p Vp)))else none
abbrev JA:=LE X w n m
abbrev Iw:=valV kvs k
abbrev Cr:=.neg Å
abbrev HQ:=EF got_bl
abbrev CQ:=kx Î j
abbrev W7 à:=Aw (Φ b u e) c v à (k c v ?_ q) _ q _ _ _ _
abbrev BY:=R.hid.ot
abbrev B4:=K.length
abbrev B5:=I.length
abbrev B6:=valV_pos
abbrev B7:=valV_neg
abbrev B_:=L.length
abbrev Cg:=blt_of g
abbrev FZ:="blocks"
abbrev C4:=k91.flip
abbrev Gu:=I.ok.above
abbrev G0:=l.lookup x
abbrev G2:=lookup_app
abbrev HI:=rep_dct.mp
abbrev HU:=rep_scr.mp
abbrev HX:=rep_non.mp
abbrev Ii:=small62_of
abbrev Iq:=same_write
abbrev acL à á â ã ä:=∃(à á:Nat) (R:Ċ),0<à/\à<=8/\0<á/\á<=8/\â/\W9 R/\aX R<=5/\aX (flip á R)<=5/\ã=ā (ä)
abbrev acz:=mem_ents ((mA_sub _ _ _ ħ).subset h)
abbrev aaC à á â:=CompIs.s1 (fun {à X e δ r}=>á) DI fun à e â=>inCp_el â (bc _ rfl)
abbrev gw à:=Ĝ j à
abbrev acZ à:=pu_sub (I:=FI X) (J:=FI à) (eZ hi) (gw hj)
abbrev jk:=s.2.1
abbrev B2 à:=⟨_,Ľ à⟩
abbrev AF à:=fun D σ H=>à
abbrev Ox à:=∀y∈cq,y.2=iT->à
abbrev VW:=ľ 43 [ĺ,Ĭ,Í]
abbrev vA à:=Ż e à c
abbrev iY:=ε d
abbrev VL:=Ŭ yJ (Ou.v d ă)
abbrev aci:=dU (eS Ű cT (ģ [Ō i,Fy i]))
abbrev Pv à á:=∀σ H Q,qy à σ H Q->á
abbrev iR:=ao p
abbrev U7:=P (.done (.ret Ĺ))
abbrev LV à:=ν i à v h1 h2
abbrev V3:=ax (Ũ (.rng [e]))
abbrev u6 à:=f9 à rfl
abbrev WF:=.dct [.s iy,.s lX]
abbrev MM à:=.v (ß à) true
abbrev ji:=FI_lt
abbrev ZO à:=upd H2 a (.frz à (.dK [(ė x,v),(ė y,w)]))
abbrev Ty:=Bo (br a b) (i==j)
abbrev aaV:=xr (w s j) (sm (fun i=>z i*a i s) c)
abbrev Gi à:=vs.getD à Ĺ
abbrev M6 à:=Wg ż 1 à c d
abbrev Mw à á â:=by unfold à;rw[á,â];rfl
abbrev SF à á â ã ä å:=store_ok à hN hi hx á (fun â ã=>⟨_,ä,ã,å⟩) hf
abbrev abW:=ft_last (nX a.1 e) (nX (eg a).1 f)
abbrev ac4 à:=fun {D e z i} hD he hz=>ŏ hz (nb he (à) Ă)
abbrev TC:=List.pairwise_append
abbrev TU:={ s with heap := a }
abbrev UX:=by intro d z;cases z
abbrev U6 à:=IsEnumOut à n c (qb k) x
abbrev Vj:=by cases b<;>cases h
abbrev V5:=Nat.mul_le_mul_right
abbrev Wf:=Nat.min_eq_right Ă
abbrev tU:=ö<=5
abbrev tR:=iA<=5
abbrev XR à á â:=∃t,PSs (à) á t/\t {nx:=fun _ â=>Q .non â,rt:=Q} (start N vs) H
abbrev acC à:=∀r,r<n->à<aX X/\CW (Ř (FI X) (à))=CW r
abbrev HE à á:=asConst à==ā á
abbrev yN à:=ā (.ok ds à)
abbrev PR:=(ut M).reverse.lookup
abbrev CB à:=KR à (· + 1)
abbrev Gp à:=∀x c,mt->c≠à
abbrev U':=(Z8).push (seqObj ad tu 0)
abbrev t7 à:=ę (nV à)
abbrev aac:=∀j,j<aP->nr i<=nr j/\(j<i->nr i<nr j)
abbrev uT:=(Ũ e)
abbrev yO:=KD=true
abbrev zw:=yJ=true
abbrev OS à:=.lst (jO .non ix à)
abbrev aal à á:=∃b F,jR tg f à b=ē/\RSt X.D H E b O F/\á/\Ig W I H
abbrev As à á:=Ï à (.own á)
abbrev GF à:=Q (.int à) H
abbrev XD à:=ŷ xs (∃i j,xs=gP i j/\GF (ĩ (à) j i))
abbrev rf:=(kK P)
abbrev HY:=(a::b::es)
abbrev abA à á â ã ä:=cA ć à (show(if 0<=á then ā (jS (.int (â/pC ã)) Ad)else none)=_ from yT ä)
abbrev Yy:=match x with | ĳ=>p_ (-i) | _=>none
abbrev YH à á â ã:=∀(A:ξ) (à:ú) (á:ĕ (Ě×Nat)->my),â->f_ (setNext a ã i ep) á à s
abbrev Vl:=(C _ _ A B).weak adu
abbrev OB à:=fun o z=>h _ o à z
abbrev RT:=ı (wv J f w)
abbrev Ql:=e (h1.trans z)
abbrev RH:=aI (a.map qD)
abbrev La à á â ã:=∀à á â p,ay (g à á â) (ã)
abbrev O6:=gH (Int×Ě)
abbrev NO:=iJ H (dJ h')
abbrev XY à:=∃p xs i v,x=fj/\y=ĳ/\à/\atI xs i=dw/\Q v H
abbrev t4:=.fin w
abbrev sU:=Lx e1
abbrev YY à á:=sN fun h=>in2_el h fun ⟨x,b,p1⟩ ⟨y,à,p2⟩ h=>á
abbrev PZ à:=zo qE (Ô à H')
abbrev t5:=mf_flp
abbrev P3:=R.mono (jZ f)
abbrev Yk à á:=GG A à (fun á s'=>∃v,á=.done (.ret v)/\Q v s') E s
abbrev Ih à á â:=by rw[à]at á;exact â
abbrev Qg à á:=by rw[←à];exact gM á
abbrev QH:=Vs (mg x) qE
abbrev abx à á â ã:=ev_sset (F:=cI) (δ:=[cG]) (e:=Ε à) (vF rfl (á)) (cw kI_len â.1 ã)
abbrev NM:=TP X pins σ Q
abbrev On:=freeCells_loop
abbrev Ov:=lookup_some_of
abbrev Ow:=lookup_relabel
abbrev OC:=wpAny_newTuple
abbrev O7:=List.Perm.cons
abbrev Pe:=Bool.and_false
abbrev QX:=Bool.xor_false
abbrev Q0:=d_bits_numbers
abbrev Q5:=d_columns_with
abbrev Q6:=d_fewest_cover
abbrev Q9:=d__law_cell_at
abbrev Rf:=e_column_kinds
abbrev Rm:=Nat.add_le_add
abbrev RP:=Builtin.bitNot
abbrev Sa:=stands_mk X Ns
abbrev jF:=ā j
abbrev bx à á:=⟨à,á,?_⟩
abbrev Ag:=(a:Int)
abbrev MQ à á:=∀x,x∈à↔x∈á
abbrev kf:=b∈l
abbrev Va:=ą (yF gS rfl ?_)
abbrev jU:=Ľ h
abbrev Sh:=Į vs 1 (.str q t)
abbrev yM:=.ok ă
abbrev Vm:=ņ (L.any (Ir p))
abbrev Ys:=ņ (c == Ē||c == ĵ||c == .top)
abbrev zr à á:=∀{b:Addr},à->á
abbrev WE:=Ŗ 2 [Ō h,cH S]
abbrev x4:=Ù Ä
abbrev Xr:=Æ (hl pins s σ H _ I h) v s1 lm
abbrev Xb:=Æ (hc pins s σ H _ I h) d s1 JO
abbrev x_:=bc e e
abbrev Ub à:=à==dF||à==aO
abbrev fL à:=qN 1 (à)
abbrev KK:=iZ d c rfl
abbrev M8:=iZ ć Ž
abbrev VX:=.cmp .Is χ (.non)
abbrev jG:=value
abbrev jL:=fresh
abbrev jy:=CmpOp
abbrev Nb:=mA (kp f) l
abbrev Ni:=tX (k+N+6)
abbrev UO à:=pY (S.nocell _ (eI à))
abbrev UV:=qF (mZ rs ada) ri
abbrev yB:=vals1 r
abbrev abG à á â:=l_ (elt:=à) (tg:=ma) (fr:=lW 0 1) á đ (Ç (hv_len â))
abbrev Sj à:=∃(its:ŉ) (n:Nat),JE/\à
abbrev VP:=xr (a i s) (w s j)
abbrev Mv:=g ||| 1<<<n
abbrev zi:=R.val i
abbrev ZY:=fun d x U g δ' o s I s2 R2 K Y=>?_
abbrev Al:=vv rows
abbrev x9:=I.pin p
abbrev yw:=sc.kind
abbrev zb:="index"
abbrev zh:=got_new
abbrev WJ:=qc ((l:Int) - 1) l
abbrev LX:=R.inj j k a
abbrev zM:=noStars
abbrev WP:=Ge .no .no .no .no
abbrev Xe:=holding [v,ov,iv] (setItem ov iv v)
abbrev ab0 à á:=FM [ī à,tL (cs á),cG,iE] ?_ (one_shl Ă ć)
abbrev JV:=adb (Å v)
abbrev GU à á â:=by rw[←à,á];exact â
abbrev Kg:=h.Ns bO mg
abbrev U5 à á:=itK_at à fun o e=>q á Ģ o e
abbrev SZ à:=by rw[cU,←hl];exact à
abbrev Lv à á:=Post D O W à á Q r
abbrev UT:=wo_le.seq (s.seq h)
abbrev L6:=hid_cons.mp
abbrev VC:=cell_of g (p y m B)
abbrev Mn:=Int.mul_sub
abbrev Mr:=kz_ok v m n
abbrev Mz:=Int.one_mul
abbrev abQ à:=forGo_cnt (I:=fun j δ'=>à) _ 1 (Ļ j hj δ h)
abbrev SJ:=rule i j t t' s _ _
abbrev Yu à:=selfE G F np nc à (hZ (List.range' np nc))
abbrev Zl:=deqs_eqv n m ds es (EI h) (EI h')
abbrev VQ:=Nat.testBit_two_pow
abbrev V8:=rows.flatten.length
abbrev Wv:=List.filter_sublist
abbrev Xs:=wpAny_pyIter_range (IsRange.new ..)
abbrev ZL à á â ã ä:=PySem.W.callWith_F (à) (Æ (A pos a s1 á â _ Z h) us s2 ã) (Ω hs) (BU es ä)
abbrev aar à:=DV.dct.inj (List.cons.inj (DV.tup.inj à)).1
abbrev abY à á â ã ä å:=at_tc (F:=Ů) (δ:=[ī à,cG,ī á,iE]) R â ã (a:=ŝ) (b:=ä) (x:=å) ć ć ć
abbrev Xh:=fun h' eb=>bG (NS (eb b o hb e))
abbrev abC:=Ŗ 3 [tT (c::rest),.int a,.int b]
abbrev ZX:=Á δ' (fun s I s2 R2 K k1 M=>?_)
abbrev ZN:=⟨a,ob,kvs,e1,zx e2,e3,LU e4⟩
abbrev Y7:=∀x y c,yE->cl.lookup y=Ś->x=y
abbrev aca:=iZ ć RG (eq_nil (pl_qD ai)).1
abbrev abN:=mem_ps.mpr (ď ⟨Jv,Jv,c,a⟩)
abbrev abM:=mem_ps.mpr (ė ⟨rfl,Jv,Jv⟩)
abbrev aad à á â:=fun {b} hb z=>by obtain⟨o',à,á⟩:=hdA b z;rw[â]at à;cases à
abbrev Yv:=srtkE G F (Ũ a) N np lb (hZ fr)
abbrev ZV:=bind_ok (R2.mono A) y3 I (Ĝ u L)
abbrev YN à á:=by unfold jO;apply RW à;intro i h1 á;simp[Ľ á]
abbrev aaq à:=RelO.some_of (v:=v) (o:=à) (Ą l (rel.val k))
abbrev Nt à á:=(Ą RA.1 (P.a à á))
abbrev Dp:=(Č it)
abbrev GA:=Bool->cj
abbrev Gz:=Unit->my
abbrev Ee:=Ĕ->oU
abbrev lD:=ā b
abbrev lR:=Ci.2
abbrev DJ:=(n,k)::r
abbrev Te à:=((à).extBut.push _).push _
abbrev NC à:=(hidT à H).get? b
abbrev Py:=(eX).mono s2
abbrev UM:=Ą (trC_out hb) n
abbrev OE:=ą (DX bF)
abbrev TR:=ą (O9 c b f ?_)
abbrev NV à á:=ı (mF à á) - ı 0
abbrev lr:=f i j
abbrev OQ:=ģ (gP a b)
abbrev Gw:=Ğ x c e
abbrev TQ:=ĩ (ql=true) _ _
abbrev aav:=∀{l:ĥ},nodupB l=true->l.Nodup
abbrev DW:=Á _ ?_
abbrev qA à:=p _ à s1
abbrev B1 à á â:=aq à (ģ [á,â])
abbrev Qb:=[z,TI,TO,A,r]
abbrev Ex:=de b eb
abbrev vt:=kp L n
abbrev ub:=iG vs
abbrev IR:=.bi .list
abbrev Gc à:=im à r Cv
abbrev uj:=rN hq
abbrev Hd:=lH r δ'
abbrev ab9:=ib (uY (d:=.non) (cl:=Ē) rfl)
abbrev CJ à á â ã ä å:=CU à á â (ab (ã) (ä) å) rfl
abbrev wb à:=yZ à Ė
abbrev HK:=qw sub_l
abbrev FC:=sub rows
abbrev k9:=I.loc
abbrev Uk à:=oz b (Ï a (.lst b)) (à)
abbrev lL:=corSs
abbrev lT:=Nil m
abbrev xR à:=FV à rfl
abbrev WA:=K.map fun w=>ß w
abbrev Fr à:=Cp [Ε à]
abbrev OG:=wI Ė W c d
abbrev Sq à:=deepQ (JF à "plan_of")
abbrev OF:=Bb u rfl rfl
abbrev uO:=bitLen
abbrev vh:=ov_out
abbrev P4 à:=s2 _ _ (s1 _ _ à)
abbrev RJ:=Lst pH fR t
abbrev Hg:=.seti i k
abbrev P5 à:=Ig à H1 (aU à)
abbrev acm à:=if vP m à then fT n else fT n++[(n,à)]
abbrev Hy:=b.map lJ
abbrev OW:=yR test body
abbrev Du:=y.length
abbrev DM:=b.lookup
abbrev DT:=p.extBut
abbrev DY:=n.extBut
abbrev Fb:=L2.start
abbrev Fk:=px_assoc
abbrev Fx:=ev_tuple
abbrev FH:=forGo_nx
abbrev Ga:=tell_mem
abbrev Gq:=σ.length
abbrev Gr:=Vis Mc x
abbrev GZ:=mem_of_lk
abbrev G':=Cl.meet c
abbrev To:=.srtk a N np lb fr
abbrev aa8:=.srtk ĺ ["entry",FZ] 1 Wt [2]
abbrev Hc:=δ.length
abbrev He:=noOt i δ
abbrev UN:=ade qual Ŋ cd cl
abbrev Qh à:=corLam à pr bd sc
abbrev IJ:=g.testBit
abbrev IM:="numbers"
abbrev OR:=δ.getD i .no
abbrev KE à:=evAnd G F à δ
abbrev aaL à á â:=Good (Pp à á) G Ý (LO à sc (Č c') â A ś s kg)
abbrev Ny:=Paired.length
abbrev NE:=I.ok.bs b o e
abbrev W6 à:=I.step (g':=s.gens) (d':=s.drawn) (ch:=à)
abbrev NP:=wpAny_standAt
abbrev SM:=behindInMarks op b
abbrev Od à:=subscripted à ă
abbrev Os:=freeCells_acc
abbrev Ot:=mem_cellsFrom
abbrev Ua à á:=inSlice e fun a b c=>inNo à (á)
abbrev aaI:=hq v _ (k_ o) (gt'.mono (k_ o))
abbrev P7:=downTo_length
abbrev P9:=setAll_length
abbrev Qs:=sc.lookup ŭ
abbrev QR:=bz_form v m n
abbrev Q1:=d_joined_bits
abbrev Q8:=d_blocks_with
abbrev YG à á:=h.update I (Obj.mapFields (·.setIfInBounds à á))
abbrev US:=strKind_is aj X.w
abbrev Vi:=tupleKind_room_in1
abbrev W_:=wpAny_loadName_local x8 hk hn hm
abbrev Xa:=Calls.Name_function_global x8 hg
abbrev XA à:=ho' pins s4 σ H4 y z' u w' à I4 r2 r4 q4
abbrev Zg:=by obtain⟨L,_,e⟩:=h;rw[e];rfl
abbrev aay:=inCmp2_el f fun C o y B A p f=>?_
abbrev acs:=e_widened s1 Ă (L9 ks ċ hgl)
abbrev acw:=run_clo (k:=k+N+6) ?_ (nolam_P _)
abbrev XC:=⟨H,uo,Ą (isEmpty_of r) q⟩
abbrev Zn à:=∀q,tstD g=ā q->uf à (b::es) (EJ q)
abbrev CT à á â:=∀i j,i<à->j<á->â
abbrev aaQ:=∀d∈T,d.clo=none\/d.clo=G.clo
abbrev W3:=mg "__builtins__" = ā (Č bm)
abbrev Bn à:=Ż e à cl
abbrev abH:=[ī R,ī C,ę (.lst abD),.no]
abbrev GQ à:=pure (ut à)
abbrev Ju à:=mf (rst m à)
abbrev XJ:=∀vs H Q E,sp vs H Q E->aP=τ
abbrev Hm à:=Tab à (!ql)
abbrev abg:=.seti 2 Í (WQ qP 2147483587)
abbrev Ij à:=PI X (Qc à)
abbrev Xf:=tb {D with nx:=N,ct:=N,bk:=D.nx}
abbrev aaw à á â ã:=fun {à X e tg á r} g â _ q=>snd_iter (fun z ã=>h g (ŏ hw â) ã) q
abbrev Y1 à á â:=inCl0 e fun ef pos=>(inAttr ef fun à n apos=>á&&Po==AG&&â)
abbrev YZ:=sc.names.all (fun y=>y.2 != lz)
abbrev Zx:=triples_app (aQ _) (aQ _) _ ht
abbrev aaU à á:=R.add (R.sum à) (R.sum fun s á=>R.mul _ (hs s á))
abbrev acj:=rk.stz (F0 q9 w,rw' w) (rw' x)
abbrev aaF:=dss_set g.nd q l.1 l.2 (Ck j s)
abbrev abw:=set_eq (rise_filter _ _) (af x)
abbrev RQ à á â:=Ų (à) á=eA (ů â)
abbrev Ar:=H a=ē
abbrev YQ à:=(∀b o,cP->a.get? b=ē)->Q (à) (jX a c)
abbrev n9:=Ci.1
abbrev nw:=eN.2
abbrev Na:=fun _ h=>h
abbrev Tn:=fun y _=>gdxD G y
abbrev XO:=fun v hv=>(yx nd).1 (SR hv).1
abbrev Uj:=fun p=>DKey.t p.1
abbrev UB à:=(backTo pos à).any eD
abbrev S9:=(S_).push emptyD
abbrev aaY:=⟨ħ,Ą s (lv (K2 rfl))⟩
abbrev U_:=⟨Ę,ş Ę⟩
abbrev AZ:=(1:Int)
abbrev aaO:=⟨o,v,g,(e0.hok c _ g).1,g2⟩
abbrev Wm à:=⟨_,à,qY ż,qY vM,?_⟩
abbrev KS:=∀b o,NJ
abbrev Ui:=∀x∈ps,dB=dF
abbrev WS:=[p.D,Ō i,Ō j]
abbrev nv:=Ľ a
abbrev nL:=ĸ h
abbrev ZZ:=Ĵ E (ď (innerD_no (B i E)))
abbrev Ps à á:=∀{ds:Ĩ} {xs:İ},à->á
abbrev JD:=Ÿ "code"
abbrev xM à:=Ê (à) rfl
abbrev nR:=xG h
abbrev nW:=fQ 3
abbrev V6:=bt (ß (z8 j))
abbrev UW:=cw sf sf R.len
abbrev Zj à:=⟨a,l,_,v,g,r.int hd,à,o,EF (Got.item m)⟩
abbrev Mo:=fW Nat Rw
abbrev A1:=lh ħ
abbrev Ef à á:=qe à fun d c=>á
abbrev Nr:=Rect p q B
abbrev Vh à á â:=k _ à W ((eX).setVal á i) â vm
abbrev mM:=slice
abbrev Bv:=Br u5
abbrev Ve:=rY X.A.in1 _ _ _
abbrev aaz à á:=if à=D_ then Χ _ (fun x _=>mtD á x)else none
abbrev KB:=.ask i j k
abbrev Vb à á:=su à (seqItems? (Č á)) _
abbrev Bz:=Hs Ė
abbrev E8 à á â ã ä:=E6 à á â ã ⟨O,W,R,ä⟩
abbrev VE:=deepQ (JF x ŭ)
abbrev M1:=wn xJ R C
abbrev CC:=M' ς
abbrev UL à á:=Aw (à) _ _ _ q á ?_ _ o' vs d
abbrev KF:=.ite c a b
abbrev BO:=R.own i
abbrev Cj:=sndL es
abbrev Bt:=EY _ _
abbrev BX:=RoomL k
abbrev Ap:=Sum.inr
abbrev Dv:=A.depth
abbrev A8:=@Ne Nat
abbrev Uo:=r.mono (jZ a).wo
abbrev VM:=Mi x Ĺ e i b g
abbrev VH:=ade q sc (Č c')
abbrev XF:=⟨r.hd,Km r.dp (Dv+1+3*k+5<_),Km r.un (uq+3+16*k+200<_)⟩
abbrev SX à:=r9 à à hi - r9 à 0 lo
abbrev Z3:=ĩ (c=bp\/ÿ<z.length) none (Yw (l δ') (f δ') z)
abbrev RC:=(oa ż).isEmpty
abbrev xA:=(ß r)
abbrev EO à á:=AU à (biR X á)
abbrev aan:=∀δ' o,f δ'=ē->Do (dS X.D δ' o)
abbrev AI à:=ą (Bw (à))
abbrev aaZ:=⟨eZ f,eZ f,Ļ i j f c,Ĝ q k⟩
abbrev Pj à á:=ay (à) (.Call g á [] p)
abbrev aaX:=ĩ (t<fK) (Y*b t - U*a t) (U*l)
abbrev Nj à á â:=CU F à á (xG â) rfl
abbrev Bk:=Tm=ă
abbrev ZH:=(dG c l (k c))->Q v (ov l H k)
abbrev Xz:=0<=j/\j<=1000000/\i.natAbs<2^64
abbrev Tx à á â ã ä å:=∀à∈á,∃â,ã=ä/\tstD (Ų cd â)=ā (.ok (p à))/\å
abbrev Ts à á:=qe à fun d _=>KA d fun b=>á
abbrev ZU à á:=∀{is:Ġ} {f:Ĩ} {b a:Ĕ},setAll b is f=eF->à->á
abbrev Mq:=kz v m Ò
abbrev JK:=wpAny_Name
abbrev JP:=.AugAssign
abbrev J3:=wpAny_call
abbrev Ky:=ds.isEmpty
abbrev KG:=Ri.thnS δ
abbrev KO:=l.Pairwise
abbrev K5:=size_push'
abbrev Lf:=asConst_eq
abbrev Lq:=rep_str.mp
abbrev LF:=True.intro
abbrev LI:=L.has I.ok
abbrev UQ:=defaultsOf pr ū
abbrev LK:=C.same _ _
abbrev VF:=dqB x (zQ).names
abbrev MJ à á:=at_getD (Ą à á)
abbrev SO à:=lastMarks [op,à] [b,c]
abbrev SV:=s3.heap.objs.size
abbrev SY à á:=operate [à,á] (getItem à á)
abbrev S5:=d.params.defaults
abbrev Tz:=Nat.le_of_lt_succ
abbrev TH:=fits_of_scanBound
abbrev TJ:=intKind_is prog w
abbrev T0:=bne_self_eq_false
abbrev Zd:=by unfold DV.immut at m;exact m
abbrev UJ:=s.heap.BuiltinsAt
abbrev UP à á:=PySem.W.fnMade nm à á bd sc
abbrev Z2:=Rc.test (l δ') (Rc.of (f δ'))
abbrev VZ:=d_reduced_in_twos
abbrev Wi:=List.filter_congr
abbrev YF à:=entryFor_alias (id':=à) sJ rfl ŵ sJ
abbrev ZQ à á â ã ä å æ ç:=pairTrees_cons_walk (Æ (pe_str (x:=à) (j:=á) (pos:=â) a _ c _ (fun v f=>v=ã/\ä) å (bG æ)) ku ç t0)
abbrev fO à á:=à=ā (ab7 (á))
abbrev F8 à á â:=Ų (à) á=ā (Ψ â)
abbrev Zt à á:=(Zu:Ĳ du).all (fun T=>(Ea:Ĳ du).all fun t=>à==á)=true
abbrev yG à á â:=ą (OJ à á â)
abbrev na à á â:=ixD à á=ā (â)
namespace L2
open PySem PySem.Spec PyProof.Rows
abbrev Key:=Sum Int Str
def keyIs:Key->ń Ě
  | ď k,v=>Value.isInt k v
  | ė x,v=>Value.isStrOf x v
def keyH(w:ł):Key->Int
  | ď k=>Ao
  | ė x=>hashStr w x
def vX:∀{k:Key} {v:Ě},keyIs k v=true->(∃i t,k=Sum.inl i/\v=C5 i t)\/(∃x t,k=Ap x/\v=Value.str x t)
  | ď i,v,h=>Gg t e (Value.isInt_shape (k:=i) (v:=v) h) (ď ⟨i,t,rfl,e⟩)
  | ė x,v,h=>Gg t e (Value.isStrOf_shape (x:=x) (v:=v) h) (ė ⟨x,t,rfl,e⟩)
def keyIs_int(i:Int)(t:Tok):keyIs (ď i) (ĳ t)=true:=by simp[keyIs,Value.isInt]
def keyIs_str(x:Str)(t:Tok):keyIs (ė x) (aL t)=true:=by simp[keyIs,Value.isStrOf]
def key_ll(a b:Int):ě ((Sum.inl a:Key)=Sum.inl b)=(a==b):=by
  by_cases e:a=b
  · subst e;simp
  · have h:¬(Sum.inl a:Key)=Sum.inl b:=fun q=>e (Sum.inl.inj q)
    rw[dt h];exact(iF e).symm
def key_rr(a b:Str):ě ((Ap a:Key)=Ap b)=ě (a=b):=by
  by_cases e:a=b
  · subst e;simp
  · have h:¬(Ap a:Key)=Ap b:=fun q=>e (Sum.inr.inj q)
    rw[dt h,dt e]
def key_lr(a:Int)(b:Str):ě ((Sum.inl a:Key)=Ap b)=ă:=dt (fun q=>eB q)
def key_rl(a:Str)(b:Int):ě ((Ap a:Key)=Sum.inl b)=ă:=dt (fun q=>eB q)
def vY(prog:ř)(w:ł):PySem.KeyKind prog w Key where
  is:=keyIs
  hash:=keyH w
  inj:=fun v a b ha hb=>by
    rcases vX ha with⟨i,t,rfl,rfl⟩ | ⟨x,t,rfl,rfl⟩
    · rcases vX hb with⟨j,u,rfl,e⟩ | ⟨y,u,rfl,e⟩
      · injection e with e1 _;rw[e1]
      · exact eB e
    · rcases vX hb with⟨j,u,rfl,e⟩ | ⟨y,u,rfl,e⟩
      · exact eB e
      · injection e with e1 _;rw[e1]
  byValue:=fun k v h=>by rcases vX h with⟨i,t,rfl,rfl⟩ | ⟨x,t,rfl,rfl⟩<;>rfl
  pyHash:=fun hv h=>by
    rcases vX hv with⟨i,t,rfl,rfl⟩ | ⟨x,t,rfl,rfl⟩
    · exact wpAny_pyHash_int h
    · exact wpAny_pyHash_str h
  eqBool:=fun hu hv h=>by
    rcases vX hu with⟨i,t,rfl,rfl⟩ | ⟨x,t,rfl,rfl⟩
    · rcases vX hv with⟨j,u,rfl,rfl⟩ | ⟨y,u,rfl,rfl⟩
      · rw[key_ll]at h;exact wpAny_eqBool_int h
      · rw[key_lr]at h;exact SeqAt.EqAt.int_str i t y u _ _ _ _ h
    · rcases vX hv with⟨j,u,rfl,rfl⟩ | ⟨y,u,rfl,rfl⟩
      · rw[key_rl]at h;exact SeqAt.EqAt.str_int x t j u _ _ _ _ h
      · rw[key_rr]at h;exact wpAny_eqBool_str h
  «strs»:=fun k x t v h=>by
    rcases vX h with⟨i,u,rfl,e⟩ | ⟨y,u,rfl,e⟩
    · exact eB e
    · injection e with e1 _
      subst e1;cases v<;>rfl
def mixKind_int(prog:ř)(w:ł)(i:Int)(t:Tok):(vY prog w).is (ď i) (ĳ t)=true:=keyIs_int i t
def mixKind_str(prog:ř)(w:ł)(x:Str)(t:Tok):(vY prog w).is (ė x) (aL t)=true:=keyIs_str x t
inductive V where
  | non | bl (b:Bool) | int (i:Int) | str (x:Str) | byt (b:gH UInt8) | flt (b:UInt64) | ref (a:Addr) | ty (n:du)
  deriving C6
def RelV:V->Œ Ě
  | .non,u=>u=rg
  | .bl b,u=>u=Value.bool b
  | ĳ,u=>∃t,u=C5 i t
  | aL,u=>∃t,u=Value.str x t
  | .byt b,u=>∃t,u=Value.bytes b t
  | .flt b,u=>∃t,u=Value.float b t
  | Ī,u=>u=gI a
  | .ty n,u=>u=jo n
abbrev Vals:İ->Œ ŉ:=Paired RelV
theorem Vals.length{xs:İ}{us:ŉ}(r:iG xs):Ä=aY:=Ny r
theorem Vals.get:∀{xs:İ} {us:ŉ} {i:Nat} {x:V},iG xs->mj->∃u,ĭ us u/\aZ x
  | _,_,_,_,.nil,e=>og e
  | _,_,0,_,Ξ r _,e=>by simp at e;subst e;exact(Á _ r)
  | _,_,i+1,x,Ξ _ t,e=>vZ u h1 h2 (Vals.get (i:=i) (x:=x) t (Ķ e)) (Ķ h1) h2
theorem Vals.set{x:V}{u:Ě}(r:aZ x):Se i (xs.set i x) (us.set i u)
  | _,_,_,.nil=>.nil
  | _,_,0,Ξ _ t=>Ξ r t
  | _,_,i+1,Ξ q t=>Ξ q (Vals.set r i t)
theorem Vals.append:∀{xs ys:İ} {us ws:ŉ},iG xs->Vals ys ws->Vals (xs++ys) (us++ws)
  | _,_,_,_,.nil,s=>s
  | _,_,_,_,Ξ r t,s=>Ξ r (Vals.append t s)
theorem Vals.take:Se n (xs.take n) (us.take n)
  | _,_,0,_=>.nil
  | _,_,_+1,.nil=>.nil
  | _,_,n+1,Ξ r t=>Ξ r (Vals.take n t)
theorem Vals.drop:Se n (xs.drop n) (us.drop n)
  | _,_,0,r=>r
  | _,_,_+1,.nil=>.nil
  | _,_,n+1,Ξ _ t=>Vals.drop n t
def Vals.none_of:∀{xs:İ} {us:ŉ} {i:Nat},iG xs->jq xs i->jq us i:=fun {xs us i} r e=>by
  have h1:=Ű;have h2:Ä<=i:=List.getElem?_eq_none_iff.mp e;exact List.getElem?_eq_none_iff.mpr Ă
def RelO:ĕ V->Œ jr
  | dw,Ö=>dv
  | none,none=>True
  | _,_=>cM
def KV{κ:Type}:oh->Œ C7:=Paired fun (p:κ×V) (q:κ×Ě)=>p.1=q.1/\RelV p.2 q.2
def kV:Key->V
  | ď i=>ĳ
  | ė x=>aL
inductive HO where
  | lst (xs:İ)
  | tup (xs:İ)
  | dK (kvs:Aq) | dT (kvs:kY)
  | set (S:ń Int) (n:Nat)
  | ins (C dx:Addr) (fs:iH V)
  | own (x:Addr)
  | xd (fs:iH V)
  | met (f x:Addr)
  | rng (lo hi:Int)
  | frz (o:Obj) (u:HO)
  | tbl (q:Str)
  | ext (φ:C8)
abbrev Hp:=Addr->ĕ HO
def upd(H:Hp)(a:Addr)(o:HO):Hp:=fun b=>ĩ (b=a) ē (H b)
def aM{H:Hp}{a:Addr}{o:HO}:rh a=ē:=b_ upd js
def È{H:Hp}{a b:Addr}{o:HO}(h:b≠a):rh b=H b:=b_ upd (ĝ h)
def ne_of{H:Hp}{a b:Addr}{o u:HO}(h:Ar)(h':H b=Ö)(d:o≠u):a≠b:=by
  intro e;subst e;rw[h]at h';exact d (eC h')
def x3{H:Hp}{a b:Addr}{o:HO}(h:Ar)(h':bv):a≠b:=by
  intro e;subst e;rw[h]at h';cases h'
def IsTupN(h:Heap)(a:Addr)(a_:dz):Prop:=∃o,aA a/\Nz/\∃n,aN=.seq a_ n
def IsTupN.tup{h:Heap}{a a_}(x:IsTupN h a a_):IsTup h a a_:=let ⟨o,ho,hc,r⟩:=x;⟨o,ho,hc.1,r⟩
def IsTupN.lt{h:Heap}{a a_}(x:IsTupN h a a_):a<mn:=let ⟨_,ho,_⟩:=x;aB ho
def IsTupN.new(h:Heap)(a_:dz):IsTupN (h.push (ae ad (.seq a_))) mn a_:=⟨_,Ø,pJ,_,rfl⟩
section
variable (P:Program) (w:World)
def deepQ(q:Str):Bool:=q == "plan_by.<locals>.plan_of" || q == "best_right.<locals>.plan_of"
def ObjOk(H:Hp)(h:Heap)(a:Addr):Œ HO
  | k6=>x4/\Sj (Ο a=ā C')
  | rn=>x4/\∃its:ŉ,JE/\IsTupN h a mq
  | v6=>Si
  | rm=>Ù rj/\Av a/\∃xs:C9,
      Paired (fun (p:oj×V) (q:oj×Addr×Ě)=>WZ) kvs xs /\
      ∃o es ep,aA a/\o.ExactDict/\aN=Gj/\Au=xs.map (entryOfKey (At P w))/\fU (xs.map eD)
  | .set S n=>h.SetOf (intKind P w) a S n
  | .ins C dx fs=>As dx a/\ň fs.length/\dx≠a/\Ο a=ā (PySem.W.instObj C dx) /\
      ∃mA,h.Ns1 dx mA/\(∀f,RelO (fs.lookup f) (mA f))/\PySem.Within mA (fs.map eD)
  | .own _=>∃o,aA a
  | .xd fs=>∃mA,h.Ns1 a mA/\∀f,RelO (fs.lookup f) (mA f)
  | .rng lo hi=>∃t u v,Ο a=ā (ae kZ (bM #[.int lo t,.int hi u,Å v]))
  | .frz o u=>aA a/\ObjOk H h a u
  | .tbl q=>∃ps:dz,Ο a=ā {cls:=Ĺ,data:=bM ps} /\ TriplesOk ps.toList/\∀pos cv,NA=ā cv->∃c oc u vs t,cv=Č c/\gJ c oc u/\oc.data=bM vs/\Sh/\(deepQ q=true->oc.cls=JD /\ ∃(T:Addr) (file:Str) (tf:Tok) (flags:Int) (tg:Tok) (inF:Bool) (text:Int) (tt:Tok),Į vs 11 (Č T)/\Gi 11=Č T/\Gi 18=.str file tf/\Gi 7=.int flags tg/\Gi 9=fg inF/\Gi 10=.int text tt/\c≠T/\Ï T Gh)
  | .met f x=>Ο a=ā (Sf x)
  | .ext φ=>φ h/\(∃o,aA a)/\∀h1 h2:Heap,φ h1->(∀o,h1.get? a=ē->h2.get? a=ē)->φ h2
def HOk(H:Hp)(h:Heap):Prop:=∀a o,Ar->x5 o
universe E_
theorem ObjOk.lt{P:ř}{w:ł}{H:Hp}{h:Heap}{a:Addr}{o:HO}(x:x5 o):a<mn:=by
  cases o with
  | lst xs=>obtain⟨_,_,_,_,e⟩:=x;exact Ι
  | tup xs=>obtain⟨_,_,_,p⟩:=x;exact p.lt
  | dK kvs=>obtain⟨_,_,_,_,o,_,_,e,_⟩:=x;exact Ι
  | dT kvs=>obtain⟨_,_,_,_,o,_,_,e,_⟩:=x;exact Ι
  | set S n=>obtain⟨o,_,_,_,e,_⟩:=x;exact Ι
  | ins C dx fs=>obtain⟨_,_,_,e,_⟩:=x;exact Ι
  | own y=>obtain⟨_,e⟩:=x;exact Ι
  | xd fs=>obtain⟨_,⟨_,_,_,e,_⟩,_⟩:=x;exact Ι
  | rng lo hi=>obtain⟨_,_,_,e⟩:=x;exact Ι
  | frz ob u=>obtain⟨e,_⟩:=x;exact Ι
  | tbl q=>obtain⟨_,e,_⟩:=x;exact Ι
  | met f y=>exact aB (ž (Ο a=μ) x)
  | ext φ=>obtain⟨_,⟨_,e⟩,_⟩:=x;exact Ι
theorem Paired.mapP{α β:Type}{F G:α->Œ β}:∀{l₁:Ρ} {l₂:pK},Paired F l₁ l₂->(∀a b,F a b->G a b)->Paired G l₁ l₂
  | _,_,.nil,_=>.nil
  | _,_,Ξ r t,f=>Ξ (f _ _ r) (Paired.mapP t f)
def ObjOk.stay{P:ř}{w:ł}{H H':Hp}{h h':Heap}{a:Addr}{o:HO}(x:x5 o)(k:∀b u,(b=a\/As b a)->Ο b=Ö->ba b=Ö)
    (ho:∀b,As b a->H' b=ā (.own a)) (ht:Sl) (hy:Sk) (hz:∀b o u vs,aN=bM vs->gJ b o u->H' b=ā (.frz o u)):C_ H' h' a o:=by
  induction o with
  | lst xs=>obtain⟨z,its,n,r,e⟩:=x;exact⟨z,its,n,r,t9⟩
  | tup xs=>obtain⟨z,its,r,ob,e,c⟩:=x;exact⟨z,its,r,ob,t9,c⟩
  | dK kvs=>obtain⟨z,y,vs,r,ob,es,ep,e,c⟩:=x;exact⟨z,y,vs,r,ob,es,ep,t9,c⟩
  | dT kvs=>
    obtain⟨z,y,xs,r,ob,es,ep,e,c⟩:=x;exact⟨z,y,xs,Paired.mapP r fun p q z=>⟨z.1,ht _ _ z.2.1,z.2.2⟩,ob,es,ep,t9,c⟩
  | set S n=>obtain⟨ob,es,ep,t,e,c⟩:=x;exact⟨ob,es,ep,t,t9,c⟩
  | ins C dx fs=>
    obtain⟨d,z,ne,e,mA,⟨od,es,ep,e2,c⟩,r⟩:=x;exact⟨ho _ d,z,ne,t9,mA,⟨od,es,ep,fV (ė d) e2,c⟩,r⟩
  | own y=>obtain⟨ob,e⟩:=x;exact⟨ob,t9⟩
  | xd fs=>obtain⟨mA,⟨od,es,ep,e,c⟩,r⟩:=x;exact⟨mA,⟨od,es,ep,t9,c⟩,r⟩
  | rng lo hi=>obtain⟨t,u,v,e⟩:=x;exact⟨t,u,v,t9⟩
  | frz ob u ih=>obtain⟨e,q⟩:=x;exact⟨t9,ih q⟩
  | tbl q=>
    obtain⟨ps,e,t,f⟩:=x;refine⟨ps,k a _ Ð e,t,Ğ pos cv z⟩;obtain⟨c,oc,u,vs,t',e1,e2,e3,e4,e5⟩:=f pos cv z;refine⟨c,oc,u,vs,t',e1,hz _ _ _ _ e3 e2,e3,e4,af y⟩;obtain⟨y0,T,file,tf,flags,tg,inF,text,tt,y1,y2,y3,y4,y5,y6,y7,y8⟩:=e5 y;exact⟨y0,T,file,tf,flags,tg,inF,text,tt,y1,y2,y3,y4,y5,y6,y7,hy _ _ y8⟩
  | met f y=>
    have e:Ο a=ā (Sf y):=x;show ba a=ā (Sf y);exact k a _ Ð e
  | ext φ=>obtain⟨p,⟨o,e⟩,st⟩:=x;exact⟨st _ _ p fun o q=>fV Ð q,⟨o,t9⟩,st⟩
theorem HOk.lt{P:ř}{w:ł}{H:Hp}{h:Heap}{a:Addr}{o:HO}(x:iI h)(e:Ar):a<mn:=(x a o e).lt
def HOk.fresh{P:ř}{w:ł}{H:Hp}{h:Heap}{a:Addr}(x:iI h)(e:mn<=a):ao a:=by
  cases q:H a with
  | none=>rfl
  | some u=>exact Da (x.lt q) e
def HOk.kept{P:ř}{w:ł}{H:Hp}{h h':Heap}(x:iI h)(k:Gk (Ο b)):iI h':=fun a o e=>
  Aw (x a o e) b u _ (k b u q) _ q _ _ _ _
def HOk.laid{P:ř}{w:ł}{H:Hp}{h h':Heap}{a:Addr}{o:HO}(x:iI h)(k:Gk (Ο b))(hp:mn<=a)(new:C_ rh h' a o):HOk P w rh h':=fun b u e=>by
  have hn:=x.fresh hp;by_cases hb:b=a
  · subst hb;rw[aM]at e;cases e;exact new
  · rw[È hb]at e
    exact Aw (x b u e) c v _ (k c v q) c NB xs _ _ _
def Rd(H:Hp)(a:Addr)(u:HO):Prop:=H a=Ö\/∃o,gJ a o u
def Rd.ok{P:ř}{w:ł}{H:Hp}{h:Heap}{a:Addr}{u:HO}(r:Rd H a u)(x:iI h):x5 u:=by
  rcases r with r | ⟨o,r⟩
  · exact x a u r
  · obtain⟨_,q⟩:=x a _ r
    exact q
def Mut:Œ (ĕ HO)
  | ā pL=>True
  | ā (.dK _)=>True
  | ā (.dT _)=>True
  | ā (.set _ _)=>True
  | ā (.ins _ _ _)=>True
  | ā (.ext _)=>True
  | _=>cM
def HOk.write{P:ř}{w:ł}{H:Hp}{h h':Heap}{x e:Addr}{o':HO}(ok:iI h)(mu:Mut (H x))(he:e=x\/As e x)(k:Sn (Ο b))(heo:∃u,ba e=Ö)
    (new:C_ (aq x o') h' x o'):HOk P w (aq x o') h':=fun b u q=>by
  have nown:∀c y,As c y->c≠x:=fun c y r z=>Gm r mu
  have ntup:∀c xs,Ï c rn->c≠x:=fun c xs r z=>Gm r mu
  by_cases hb:b=x
  · subst hb;rw[aM]at q;cases q;exact new
  · rw[È hb]at q
    by_cases hbe:b=e
    · have q':As b x:=by
        rcases he with z | z
        · exact ĸ (hbe.trans z) hb
        · rw[hbe];exact z
      rw[q]at q';cases q';obtain⟨v,hv⟩:=heo;exact⟨v,Ą hbe hv⟩
    · refine(ok b u q).stay (fun c v hc r=>k c v ?_ r) (fun c r=>Ą (È (nown c b r)) r) (fun c xs r=>Ą (È (ntup c xs r)) r) (fun c xs r=>Ą (È fun z=>Gm r mu) r) fun c o v _ _ r=>Ą (È fun z=>Gm r mu) r
      rcases hc with rfl | hc
      · exact hbe
      · rintro rfl
        rcases he with z | z
        · exact nown c b hc z
        · rw[hc]at z;cases z;exact hb rfl
structure Un(fs ex:ŀ)(H H':Hp)(h h':Heap):Prop where
  keep:∀b o,aA b->bv->b∉fs->b∉ex->ba b=ē
  slot:∀b o,aA b->bv->b∈fs->b∉ex->∃sl,ba b=ā {o with slots:=sl}
  free:∀b o,aA b->bv->b∉ex->H' b=none
  there:∀b o,aA b->b∉ex->∃o',ba b=ā o'
  tups:Sl
  frzs:W0
  tbls:Sk
def Un.any{fs ex:ŀ}{H H1:Hp}{h h1:Heap}(u:Ax H1 h1){b:Addr}{ob:Obj}(q:Ο b=ā ob)(n:bv)(hx:b∉ex):∃sl,h1.get? b=ā {ob with slots:=sl}:=by
  by_cases hb:b∈fs
  · exact u.slot b ob q n hb hx
  · exact⟨ob.slots,u.keep b ob q n hb hx⟩
def Un.kept{fs ex:ŀ}{H:Hp}{h h':Heap}(k:Gk (Ο b)):Ax H h':=
  ⟨fun b ob q _ _ _=>k b ob q,fun b ob q _ _ _=>⟨ob.slots,k b ob q⟩,fun _ _ _ n _=>n,fun b ob q _=>⟨ob,k b ob q⟩,bc q q,pM q q,bc q q⟩
def Un.refl{fs ex:ŀ}{H:Hp}{h:Heap}:Ax H h:=Un.kept (bc q q)
def Un.laid{fs ex:ŀ}{H:Hp}{h h':Heap}{a:Addr}{o:HO}(k:Gk (Ο b))(hp:mn<=a)(hn:ao a):Ax rh h' where
  keep:=fun b u q _ _ _=>k b u q
  slot:=fun b u q _ _ _=>⟨u.slots,k b u q⟩
  free:=fun b u q n _=>Ą (È (Ñ (ce (aB q) hp))) n
  there:=fun b u q _=>⟨u,k b u q⟩
  tups:=fun b xs q=>NB
  frzs:=fun b u xs q=>NB
  tbls:=fun b ps q=>NB
def Un.write{fs ex:ŀ}{H:Hp}{h h':Heap}{x e:Addr}{o:HO}(mu:Mut (H x))(he:e=x\/As e x)(k:Sn (Ο b))(heo:∃u,ba e=Ö):Ax (aq x o) h':=by
  have hx:∀b,bv->b≠x:=fun b n z=>Gm n mu
  have hb:∀b,bv->b≠e:=fun b n z=>by
    subst z;rcases he with r | r
    · exact hx b n r
    · rw[n]at r;cases r
  have hm:∀b u,H b=Ö->¬Mut Ö->b≠x:=fun b u q nm z=>Gm q (nm mu)
  refine⟨fun b u q n _ _=>k b u (hb b n) q,fun b u q n _ _=>⟨u.slots,k b u (hb b n) q⟩,fun b u q n _=>Ą (È (hx b n)) n,Ļ b u q _,
    fun b xs q=>So,fun b u xs q=>So,fun b ps q=>So⟩
  by_cases hbe:b=e
  · subst hbe;exact heo
  · exact⟨u,k b u hbe q⟩
def trk(h:Heap)(H:Hp):ŀ:=cg mn fun a=>pN (H a)
def hidT(h:Heap)(H:Hp):Heap:=PySem.W.hideAll h (trk h H)
def hidT_size(h:Heap)(H:Hp):ag (hidT h H)=mn:=PySem.W.hideAll_size _ _
def hidT_get{h:Heap}{H:Hp}{b:Addr}{o:Obj}(e:aA b)(n:bv):NC h=ē:=
  PySem.W.hideAll_get _ e fun hm=>by have q:pN (H b)=true:=(bN hm).2;rw[n]at q;simp at q
def of_hidT{h:Heap}{H:Hp}{b:Addr}{o:Obj}(e:NC h=ē):aA b/\bv:=by
  have e':aA b:=PySem.W.of_hideAll (trk h H) e;refine(au e');cases q:H b with
  | none=>rfl
  | some x=>
    have hm:b∈trk h H:=gK (aB e') (aC q);have z:NC h=none:=PySem.W.hideAll_none (trk h H) hm;rw[z]at e;cases e
def allNews(g h:Heap)(L:Addr):ğ:=(Ū mn).filterMap fun a=>if a=L\/pN (g.get? a)=true then none else ļ (Ο a) o (a,o)
def rest(g h:Heap)(L d:Addr):ğ:=(allNews g h L).filter fun p=>ě (p.1≠d)
structure Mod(K:į)(mg:Τ)(base:Heap):Prop where
  kin:K.In base
  glob:base.Ns bO mg
  blt:∃mb,base.Ns Gn mb/\∀x:Str,v9 -> mb x=rq x
  nolimit:base.NoLimit
  bmod:∃bm ob,W3/\W1 (base.get? bm)
set_option genInjectivity true in
structure Cx where
  prog:Program
  w:World
  K:PySem.W.Frag
  mg:Str->Option Value
  base:Heap
  A:Around
  N:List Str
  s₀:Shared
  H₀:Hp
  env:Env
  outer:List Env
  stack:List Env
  ex:List Addr
  fn:Str->Bool
  calm:Bool
  pn:List (Addr×Obj)
  xe:Value->Shared->Prop
def tagQ(q:Str):Str:=if Sq q then JF q "plan_of" else JF q rA
def fX(K:į):fW Addr Str:=K.filterMap fun p=>match p.2.cls,p.2.data with
  | JD,bM vs=>(match(vs[11]?:jr),(vs[1]?:jr)with
    | ā (Č P),ā (.str q _)=>JG (jt P).isNone (P,tagQ q)
    | _,_=>none)
  | _,_=>none
def TabsOk(K:į)(H:Hp):Prop:=∀p∈fX K,Ï p.1 (.tbl p.2)
def frs(l:ju):ŀ:=l.filterMap (·.frame)
abbrev Cx.fs(X:Cx):ŀ:=frs X.outer
def Vis(sc:ù)(x:Str):Prop:=dB=dF\/ol dB
def Loc(sc:ù)(x:Str):Prop:=dB=dF\/dB=aO
def Look(env:Env)(h:Heap)(m:Τ)(x:Str)(u:Ě):Prop:=
  (env.kindOf x=dF/\m x=Ö)\/((ol (env.kindOf x))/\∃c,env.cells.lookup x=Ś/\h.IsCell c Ö)
structure Cx.Ok(X:Cx):Prop where
  mod:Mod X.K X.mg mr
  kind:ND=on
  glob:X.env.globals=bO
  blt:X.env.builtins=Gn
  above:v_<=cN
  inj:∀x y c,mt->Dc y=Ś->x=y
  has:∀x,(ol (k7 x))->∃c,mt
  cab:∀x c,X.fn x=true->mt->v_<=c
  hd:bf->X.A.handled=none
  frames:X.A.frames=ā dH
  stk:dH=X.outer\/(dH=ū::X.outer/\X.env.frame=ā cN)
  exf:∀b∈X.ex,b≠cN/\Gp b
  bs:∀b o,Db b=ē->Go b=ē/\X.H₀ b=none
  bsz:X.base.objs.size<=v_
  noex:∀b o,Db b=ē->b∉X.ex
  exfs:∀b∈X.ex,b∉X.fs
  funs:X.s₀.heap.FunFrames mr X.outer
  frf:(dG b X.fs (X.H₀ b))/\TabsOk X.K X.H₀
structure Inv(X:Cx)(pins:ğ)(σ:bg)(H:Hp)(s:č):Prop where
  ok:X.Ok
  os:s.os=X.s₀.os
  bare:AllBare s.gens
  base:Un X.fs X.ex X.H₀ H X.s₀.heap Ė
  loc:∃m,s.heap.Ns cN m/\∀(i:Nat) (x:Str) (v:V),ow->t_ v->Gr->∃u,dv/\Look ū Ė m x u
  cell:∀x c,mt->∃v,JH c v
  free:ao cN
  freeC:∀x c,mt->ao c
  pin:W4 (X.pn++pins)
  hok:Ay H Ė
  len:Gq=X.N.length
def Cx.Ok.nofr{X:Cx}(ok:X.Ok){b:Addr}{o:Obj}(e:Db b=ē):b∉X.fs:=fun hb=>by
  have:=(ok.funs.mem hb).1;rw[e]at this;cases this
theorem Inv.bs{X:Cx}{pins:ğ}{σ:bg}{H:Hp}{s:č}(I:Ĥ):∀b o,Db b=ē->cP/\bv:=fun b o e=>
  ⟨I.base.keep b o NE.1 NE.2 (I.ok.nofr e) (I.ok.noex b o e),JI NE.1 NE.2 (I.ok.noex b o e)⟩
def Inv.bk{X:Cx}{pins:ğ}{σ:bg}{H:Hp}{s:č}(I:Ĥ):∀b o,Db b=ē->cP:=fY (I.bs b o e).1
theorem Inv.mod{X:Cx}{pins:ğ}{σ:bg}{H:Hp}{s:č}(I:Ĥ):Mod X.K X.mg mr:=I.ok.mod
def Inv.tabs{X:Cx}{pins:ğ}{σ:bg}{H:Hp}{s:č}(I:Ĥ):TabsOk X.K H:=fun p hp=>I.base.tbls p.1 p.2 (I.ok.frf.2 p hp)
def Inv.kIn{X:Cx}{pins:ğ}{σ:bg}{H:Hp}{s:č}(I:Ĥ):X.K.In Ė:=I.ok.mod.kin.keeps I.bk
theorem Inv.lt{X:Cx}{pins:ğ}{σ:bg}{H:Hp}{s:č}(I:Ĥ):cN<ġ:=let ⟨_,hn,_⟩:=k9;hn.lt
def Inv.sz{X:Cx}{pins:ğ}{σ:bg}{H:Hp}{s:č}(I:Ĥ):v_<=ġ:=š Gu (ua I.lt)
def Inv.nofs{X:Cx}{pins:ğ}{σ:bg}{H:Hp}{s:č}(I:Ĥ){a:Addr}(h:ġ<=a):a∉X.fs:=fun hb=>by
  obtain⟨_,o,ho,_⟩:=I.ok.funs.mem hb
  exact Da (aB ho) (š I.sz h)
def Inv.cne{X:Cx}{pins:ğ}{σ:bg}{H:Hp}{s:č}(I:Ĥ):Gp cN:=fun x c e z=>by
  obtain⟨v,o,ho,hd⟩:=wa e;obtain⟨m,⟨o',es,ep,ho',hd',_⟩,_⟩:=k9;rw[z,ho']at ho;cases ho;rw[hd']at hd;cases hd
theorem Inv.funs{X:Cx}{pins:ğ}{σ:bg}{H:Hp}{s:č}(I:Ĥ):NG mr X.outer:=by
  have all:∀(l:ju),(mv (frs l) X.fs)->X.s₀.heap.FunFrames mr l->NG mr l:=by
    intro l
    induction l with
    | nil=>intro _ _;trivial
    | cons env r ih=>
      intro hs hl;obtain⟨hk,⟨L,o,hf,hn,ho,hd⟩,hr⟩:=hl;have hL:L∈X.fs:=hs L (rB frs NF hf Υ);obtain⟨sl,e⟩:=I.base.slot L o ho (I.ok.frf.1 L hL) hL fun z=>I.ok.exfs L z hL
      exact⟨hk,⟨L,_,hf,hn,e,hd⟩,ih (fun b hb=>hs b (rB frs NF hf (Ŕ hb))) hr⟩
  exact all X.outer (fun _ hb=>hb) I.ok.funs
theorem Inv.stack{X:Cx}{pins:ğ}{σ:bg}{H:Hp}{s:č}(I:Ĥ):NG mr dH:=by
  rcases I.ok.stk with e | ⟨e,hf⟩
  · rw[e];exact I.funs
  · rw[e]
    obtain⟨m,hn,_⟩:=k9;refine Ξ (by rw[x8];decide) hf hn ?_ I.funs
    exact Dd (Gv Gu)
def Inv.stkSub{X:Cx}{pins:ğ}{σ:bg}{H:Hp}{s:č}(I:Ĥ):mv (frs dH) (cN::X.fs):=fun b hb=>by
  rcases I.ok.stk with e | ⟨e,hf⟩
  · rw[e]at hb;exact Ŕ hb
  · rw[e]at hb
    unfold frs at hb;rw[NF,hf]at hb;exact hb
def Inv.stkFree{X:Cx}{pins:ğ}{σ:bg}{H:Hp}{s:č}(I:Ĥ):∀b∈frs dH,bv:=fun b hb=>by
  rcases Ŀ (I.stkSub b hb)with e | hb
  · rw[e];exact I.free
  · obtain⟨_,o,ho,_⟩:=I.ok.funs.mem hb
    exact JI ho (I.ok.frf.1 b hb) fun z=>I.ok.exfs b z hb
def Inv.step{X:Cx}{pins:ğ}{σ:bg}{H H':Hp}{s:č}{h':Heap}{g':gH GenState}{t':Nat}{d':Drawn}{ch:ŀ}(I:Ĥ)
    (hch:Su)
    (keep:∀b o,b≠cN->b∉X.fs->b∉ch->cP->bv->ba b=ē)
    (slot:∀b o,b≠cN->b∈X.fs->b∉ch->cP->bv->∃sl,ba b=ā {o with slots:=sl}) (free:∀b o,b∉ch->cP->bv->H' b=none)
    (there:∀b o,b∉ch->cP->∃o',ba b=ā o')
    (tups:Sl) (frzs:W0) (tbls:Sk)
    (ns:∀m,s.heap.Ns cN m->h'.Ns cN m) (hok:Ay H' h') (hg:AllBare g') :
    W5:=by
  have neL:∀b o,Go b=ē->b≠cN:=fY (Ñ (ce Ι Gu))
  have neC:∀b o,Go b=ē->b∉X.ex->b∉ch:=fun b o e hx hb=>by
    rcases(hch b hb).1 with z | z
    · exact hx z
    · exact Da Ι z
  have cellK:∀x c,mt->∀v,JH c v->h'.IsCell c v:=fun x c e v ⟨o,ho,hd⟩=>by
    have nch:c∉ch:=fun z=>(hch c z).2.2.1 x c e rfl
    by_cases hc:c∈X.fs
    · obtain⟨sl,q⟩:=slot c o (I.cne x c e) hc nch ho (Az e)
      exact⟨_,q,hd⟩
    · exact⟨o,keep c o (I.cne x c e) hc nch ho (Az e),hd⟩
  refine⟨I.ok,I.os,hg,⟨AA hb hx ?_,AA hb hx ?_,ν b o e n hx,Ļ b o e hx,fun b xs e=>tups b xs (I.base.tups b xs e),bh xs (frzs b o xs (I.base.frzs b o xs e)),k_ ps⟩,?_,Gw,?_,Gw,Ĝ p hp,hok,I.len⟩
  · exact keep b o (neL b o e) hb (neC b o e hx) Ss (JI e n hx)
  · obtain⟨sl,e1⟩:=Sr
    obtain⟨sl',e2⟩:=slot b _ (neL b o e) hb (neC b o e hx) e1 (JI e n hx);exact⟨sl',e2⟩
  · obtain⟨o',e1⟩:=NH
    exact free b o' (neC b o e hx) e1 (JI e n hx)
  · obtain⟨o',e1⟩:=NH
    exact there b o' (neC b o e hx) e1
  · exact tbls b ps (I.base.tbls b ps e)
  · obtain⟨m,hn,hl⟩:=k9
    refine⟨m,ns m hn,fun i x v e1 e2 e3=>?_⟩;obtain⟨u,r,l⟩:=hl i x v e1 e2 e3;refine(bx u r);rcases l with l | ⟨k,c,e,z⟩
    · exact ď l
    · exact ė ⟨k,c,e,cellK x c e _ z⟩
  · obtain⟨v,z⟩:=wa e
    exact⟨v,cellK x c e v z⟩
  · obtain⟨m,⟨o,_,_,ho,_⟩,_⟩:=k9
    exact free _ o (fun z=>(hch _ z).2.1 rfl) ho I.free
  · obtain⟨v,o,ho,hd⟩:=wa e
    exact free c o (fun z=>(hch c z).2.2.1 x c e rfl) ho (Az e)
  · obtain⟨e,n,ne,nf,d⟩:=x9 hp
    have nch:p.1∉ch:=fun z=>(hch p.1 z).2.2.2 p hp rfl
    exact⟨keep p.1 p.2 ne nf nch e n,free p.1 p.2 nch e n,ne,nf,d⟩
def Inv.un{X:Cx}{pins:ğ}{σ:bg}{H H':Hp}{s:č}{h':Heap}{t':Nat}(I:Ĥ)(u:Un X.fs [] H H' Ė h')(hok:Ay H' h'):pO H' h' t':=by
  obtain⟨m,⟨o,es,ep,ho,r⟩,_⟩:=id k9;obtain⟨sl,hL⟩:=u.any ho I.free Ģ;exact W6 [] (AB _ z) (fun b o _ hb _ e n=>u.keep b o e n hb Ģ) (fun b o _ hb _ e n=>u.slot b o e n hb Ģ) (fun b o _ e n=>u.free b o e n Ģ) (bh _ (u.there b o e Ģ)) u.tups u.frzs u.tbls (fun m' hm=>by
    obtain⟨o',es',ep',ho',r'⟩:=hm;rw[ho]at ho';cases ho';exact⟨_,es',ep',hL,r'⟩) hok I.bare
def Inv.call{X:Cx}{pins:ğ}{σ:bg}{H H':Hp}{s:č}{h':Heap}{g':gH GenState}{t':Nat}{d':Drawn}{ch:ŀ}(I:Ĥ)(u:Un (frs dH) ch H H' Ė h')(hok:Ay H' h')(hg:AllBare g')
    (hch:Su) :
    W5:=by
  obtain⟨m,⟨o,es,ep,ho,r⟩,_⟩:=id k9;obtain⟨sl,hL⟩:=u.any ho I.free fun z=>(hch _ z).2.1 rfl
  exact I.step (ch:=ch) hch (fun b o hL hb hc e n=>u.keep b o e n (fun z=>(Ŀ (I.stkSub b z)).elim hL hb) hc) (fun b o _ _ hc e n=>u.any e n hc) (fun b o hc e n=>u.free b o e n hc) (bh hc (u.there b o e hc)) u.tups u.frzs u.tbls (fun m' hm=>by
    obtain⟨o',es',ep',ho',r'⟩:=hm;rw[ho]at ho';cases ho';exact⟨_,es',ep',hL,r'⟩) hok hg
def Inv.turned{X:Cx}{pins:ğ}{σ:bg}{H:Hp}{s:č}{h':Heap}{t':Nat}{it:Addr}(I:Ĥ)(k:∀b o,b≠it->NJ)(hn:ao it)(hL:it≠cN)
    (h1:it∈X.ex\/v_<=it) (h2:Gp it) (h3:NI it):pO H h' t':=by
  have nit:∀b u,H b=Ö->b≠it:=fun b u e z=>Gx hn e e
  refine W6 [it] (cQ hb) (fun b o _ _ hc e _=>Sw) (fun b o _ _ hc e _=>⟨o.slots,Sw⟩) (fun _ _ _ _ n=>n)
    (bh hc ⟨o,Sw⟩) x_ (pM e e) x_ (Ĝ m hm) (k_ u) I.bare
  · have e:b=it:=Ķ hb
    subst e;exact⟨h1,hL,h2,h3⟩
  · obtain⟨o,es,ep,ho,r⟩:=hm
    exact⟨o,es,ep,k _ o (jv hL) ho,r⟩
  · refine W7 hc
    rcases hc with z | z
    · rw[z];exact nit b u e
    · exact nit c _ z
def Inv.tok{X:Cx}{pins:ğ}{σ:bg}{H:Hp}{s:č}(I:Ĥ)(t:Nat):iJ H {s with toks:=t}:=I.un (h':=Ė) (t':=t) Un.refl Φ
theorem Inv.kept{X:Cx}{pins:ğ}{σ:bg}{H:Hp}{s:č}{h':Heap}{t':Nat}(I:Ĥ)(k:Gk (fZ b)):pO H h' t':=I.un (Un.kept k) (I.hok.kept k)
theorem Inv.laid{X:Cx}{pins:ğ}{σ:bg}{H:Hp}{s:č}{h':Heap}{a:Addr}{o:HO}{t':Nat}(I:Ĥ)(k:Gk (fZ b))(hp:ġ<=a)(new:rC rh h' a o) :
    pO rh h' t':=I.un (Un.laid k hp (lh hp)) (I.hok.laid k hp new)
theorem Inv.write{X:Cx}{pins:ğ}{σ:bg}{H:Hp}{s:č}{h':Heap}{x e:Addr}{o:HO}{t':Nat}(I:Ĥ)(mu:Mut (H x))(he:e=x\/As e x)(k:Sn (fZ b))(heo:∃u,ba e=Ö)
    (new:rC (aq x o) h' x o):pO (aq x o) h' t':=I.un (Un.write mu he k heo) (I.hok.write mu he k heo new)
def Inv.pins_of{X:Cx}{pins:ğ}{σ:bg}{H:Hp}{s:č}{pins':ğ}(I:Ĥ)(h:W4 pins'):jw pins':=
  ⟨I.ok,I.os,I.bare,I.base,k9,I.cell,I.free,I.freeC,fun p hp=>(gL hp).elim (fun z=>x9 (fh z)) (h p),Φ,I.len⟩
def nodup_ix{N:ĥ}(hN:N.Nodup){i j:Nat}{x:Str}(a:mw N)(b:Į N j x):i=j:=by
  obtain⟨h1,e1⟩:=Gy a;obtain⟨h2,e2⟩:=Gy b;exact(List.getElem_inj hN).mp (e1.trans e2.symm)
def store_ok2{X:Cx}{pins:ğ}{σ:bg}{H:Hp}{s:č}{M:Model}{A:ξ}{E:ú}{i:Nat}{x:Str}{v:V}{u:Ě}{Q:Gz}(I:Ĥ)(hN:rH)(hi:ow)(hx:yc)(r:dv)
    (h:∀s',lj pins (yb v) H s'->(∃a,wb a s'.heap/\(a=cN\/Dc x=eF))->Q () s') (hf:ya:=by first | exact Ð | exact iK | assumption):rG M (storeName ū x u):=by
  obtain⟨m,hn,hl⟩:=id k9;have hcls:(ND == .class||(ND == .module&&cN != X.env.globals))=ă:=bQ x8
  have hiσ:i<Gq:=rF I.len (gM hi)
  have cne:=I.cne;have tracked:∀{a:Addr} {h':Heap},(∃o,fZ a=ē/\ao a)->wb a h'->Ay H h':=fun {a h'} ha hs b ob e=>by
    obtain⟨_,_,hfree⟩:=ha;refine Aw (Φ b ob e) c w' hc (li hs c ?_ q) _ q _ _ _ _
    rintro rfl
    rcases hc with rfl | hc
    · rw[hfree]at e;cases e
    · rw[hfree]at hc;cases hc
  rcases hx with hk | hk
  · refine wpAny_storeName_local hk hn (Ğ h' hn' hs) hcls
    obtain⟨oL,_,_,hoL,_⟩:=id hn;refine h _ (W8 _ hn' j y c oL hoL I.free) ⟨_,hs,Ð⟩
    · exact NK Gu Ss
    · obtain⟨sl,e1⟩:=Sr
      exact⟨sl,NK Gu e1⟩
    · obtain⟨o',e1⟩:=NH
      exact⟨o',NK Gu e1⟩
    · by_cases hj:j=i
      · subst hj
        rw[hi]at e1;cases e1;rw[rD hiσ]at e2;cases e2;exact⟨u,r,ď ⟨hk,Ģ⟩⟩
      · rw[bP hj]at e2
        obtain⟨u',r',q⟩:=hl j y v' e1 e2 e3;refine(bx u' r');rcases q with⟨k,e⟩ | ⟨k,c,e,z⟩
        · refine ď (au k)
          have:y≠x:=fun e=>hj (nodup_ix hN e1 (e▸hi))
          simp[this,e]
        · exact ė ⟨k,c,e,z.sameBut hs (cne y c e)⟩
    · obtain⟨w',z⟩:=I.cell y c e
      exact⟨w',z.sameBut hs (cne y c e)⟩
    · obtain⟨e,n,ne,nf,d⟩:=x9 hp
      exact⟨li hs p.1 ne e,n,ne,nf,d⟩
  · have hfn:X.fn x=true:=by
      rcases hf with z | z
      · exact z
      · rw[z]at hk;cases hk
    obtain⟨c,hc⟩:=I.ok.has x (ď hk);obtain⟨w',z⟩:=wa hc;refine wpAny_storeName_cell x8 hk hc z (Ğ h' hc' hs);obtain⟨oc,hoc,hocd⟩:=id z;refine h (dJ h') (W8 m (hn.sameBut hs (jv (cne x c hc))) j y c' oc hoc (Az hc)) ⟨c,hs,ė hc⟩
    · exact Sx Ss
    · obtain⟨sl,e1⟩:=Sr
      exact⟨sl,Sx e1⟩
    · obtain⟨o',e1⟩:=NH
      exact⟨o',Sx e1⟩
    · by_cases hj:j=i
      · subst hj
        rw[hi]at e1;cases e1;rw[rD hiσ]at e2;cases e2;exact⟨u,r,ė ⟨ď hk,c,hc,hc'⟩⟩
      · rw[bP hj]at e2
        obtain⟨u',r',q⟩:=hl j y v' e1 e2 e3;refine(bx u' r');rcases q with q | ⟨k,c',e,z'⟩
        · exact ď q
        · refine ė ⟨k,c',e,z'.sameBut hs ?_⟩
          rintro rfl
          exact hj (nodup_ix hN e1 (I.ok.inj _ _ _ e hc▸hi))
    · by_cases hcc:c'=c
      · subst hcc;exact⟨_,hc'⟩
      · obtain⟨w2,z2⟩:=I.cell y c' e
        exact⟨w2,z2.sameBut hs hcc⟩
    · obtain⟨e,n,ne,nf,d⟩:=x9 hp
      refine⟨li hs p.1 ?_ e,n,ne,nf,d⟩;intro q;rw[q,hoc]at e;have q':oc=p.2:=eC e;exact d w' (ŏ q' hocd)
def store_ok{X:Cx}{pins:ğ}{σ:bg}{H:Hp}{s:č}{M:Model}{A:ξ}{E:ú}{i:Nat}{x:Str}{v:V}{u:Ě}{Q:Gz}(I:Ĥ)(hN:rH)(hi:ow)(hx:yc)(r:dv)
    (h:∀s',lj pins (yb v) H s'->Q () s') (hf:ya:=by first | exact Ð | exact iK | assumption):rG M (storeName ū x u):=
  store_ok2 I hN hi hx r (fun s' I' _=>h s' I') hf
def Inv.call'{X:Cx}{pins:ğ}{σ:bg}{H H':Hp}{s:č}{s':č}{ch:ŀ}(I:Ĥ)(ho:s'.os=s.os)(u:Un (frs dH) ch H H' Ė s'.heap)(hok:Ay H' s'.heap)(hg:AllBare s'.gens)
    (hch:Su):yd:=by
  obtain⟨h',g',d',t',o'⟩:=s';have e:o'=s.os:=ho;subst e;exact I.call (g':=g') (t':=t') (d':=d') u hok hg hch
abbrev XK:=Ě->AC->cj
abbrev St:=bg
abbrev VK:=V->cj
abbrev TE:=St->pP
abbrev TT:=St->De Bool
abbrev TA:=St->De İ
structure Ends where
  nx:rJ
  rt:VK
  bk:rJ:=ye
  ct:rJ:=ye
abbrev TS:=Ends->rJ
def EP(X:Cx)(pins:ğ)(σ:St)(Q:VK)(u:Ě)(s':č):Prop:=∃v H',yd/\dv/\Q v H'
def TP(X:Cx)(pins:ğ)(σ:St)(Q:GA)(b:Bool)(s':č):Prop:=∃H',yd/\Q b H'
def AP(X:Cx)(pins:ğ)(σ:St)(Q:İ->cj)(us:ŉ)(s':č):Prop:=∃vs H',yd/\ub/\Q vs H'
def SP(X:Cx)(pins:ğ)(D:Ends)(f:Flow)(s':č):Prop:=
  match f with
  | .next=>GB (D.nx σ' H')
  | .brk=>GB (D.bk σ' H')
  | .cont=>GB (D.ct σ' H')
  | .ret u=>∃v σ' H',lj pins σ' H' s'/\dv/\D.rt v H'
def PE(X:Cx)(e:Expr)(t:TE):Prop:=
  NL Q VK σ H Q (cn e) mx
def PT(X:Cx)(e:Expr)(t:TT):Prop:=
  NL Q GA σ H Q (isTrue e ū (cn e)) NM
def PW(X:Cx)(e:Expr)(t:TT):Prop:=
  Sy whole (Sem Ě) Bool (isTrue e ū whole) NM
def PW.pt{X:Cx}{e:Expr}{t:TT}(h:PW X e t):PT X e t:=h _
def PA(X:Cx)(es:û)(t:TA):Prop:=
  Sy pos Pos İ (spliced (JJ pos)) (AP X pins σ Q)
def PS(X:Cx)(st:Stmt)(t:TS):Prop:=
  NL D Ends D σ H (exec st ū) (SP X pins D)
def PSs(X:Cx)(st:ah)(t:TS):Prop:=
  NL D Ends D σ H (execs st ū) (SP X pins D)
def thn{α:Type}{t:Sem α}{Q Q':α->my}{M:Model}{A:ξ}{E:ú}{s:č}(h:wpAny M A t Q E s)(hQ:∀a s,Q a s->Q' a s):wpAny M A t Q' E s:=jx h hQ (bc x x)
section
variable {X:Cx}
def bin{a b:Expr}{ta tb:TE}(ha:uc)(hb:yg){pins:ğ}{s:č}{σ:St}{H:Hp}{R:V->V->cj}(I:Ĥ)(h:SA (R x y H2))
    {α:Type} {Q:α->my} {f:Ě->Ě->Sem α}
    (hf:W') :
    Sz (f v u) Q:=by
  refine Dg _ v lm
  refine Æ (Df _) u s2 (yf y)
  exact hf v u s2 x y H2 I2 r1 r2 q2
def tVar(i:Nat):TE:=ŷ σ (∃v,t_ v/\Q v H)
def tC(v:V):TE:=ŷ _ (Q v H)
def pe_var{i:Nat}{x:Str}{pos:Pos}(hN:ow)(hv:Gr)(hd:mz:=by decide)(hcd:SC:=by decide):ud pos:=by
  intro pins s σ H Q I h;obtain⟨v,e,h⟩:=h;obtain⟨m,hn,hl⟩:=k9;obtain⟨u,r,l⟩:=hl i x v hN e hv;have fin:mx u s:=⟨v,H,I,r,h⟩;rcases l with⟨hk,hm⟩ | ⟨hk,c,hc,hcell⟩
  · exact JK (W_ fin) hd
  · rcases hk with hk | hk
    · exact JK (SB hk hc hcell fin) hd
    · exact JK (wpAny_loadName_free x8 hk hc hcell fin hcd) hd
def pe_int{i j pos}:PE X (yi ĳ) (tC ĳ):=lq H I (wpAny_Constant_int (yh ĳ h))
def pe_bl{b j pos}:PE X (yi (fg b)) (tC (.bl b)):=lq H I (Constant_bool ⟨.bl b,H,I,rfl,h⟩)
def pe_non{j pos}:PE X (yi Ĺ) (tC .non):=lq H I (Constant_none ⟨.non,H,I,rfl,h⟩)
def pe_str{x j pos}:PE X (yi aL) (tC aL):=lq H I (Calls.Constant_str (yh aL h))
def Gl(X:Cx)(x:Str):Prop:=k7 x=ā .globalImplicit
def ld_glob{E:ú}{pins:ğ}{s:č}{σ:St}{H:Hp}{x:Str}{u:Ě}{pos:Pos}{Q:ú}(I:Ĥ)(hg:pQ)(hm:AD=Ö)(h:Q u s)
    (hd:mz:=by decide):cR (cn (bA pos)) Q E s:=
  Xa (Calls.loadGlobal_global (Ą Dh SD) hm h) hd
def ld_blt{E:ú}{pins:ğ}{s:č}{σ:St}{H:Hp}{x:Str}{u:Ě}{pos:Pos}{Q:ú}(I:Ĥ)(hg:pQ)(hm:AE)(hv:rq x=Ö)(h:Q u s)
    (hn:v9:=by decide) (hd:mz:=by decide):cR (cn (bA pos)) Q E s:=by
  obtain⟨mb,h1,h2⟩:=I.mod.blt;exact Xa (Calls.loadGlobal_builtin (Ą Dh SD) hm (Ą I.ok.blt (h1.keeps I.bk)) (Ţ (h2 x hn) hv) h) hd
def pe_glob{x:Str}{v:V}{u:Ě}{pos:Pos}(hg:pQ)(hm:AD=Ö)(r:dv)(hd:mz:=by decide):JM pos (tC v):=
  lq H I (ld_glob I hg hm ⟨v,H,I,r,h⟩ hd)
def pe_bltn{x:Str}{v:V}{u:Ě}{pos:Pos}(hg:pQ)(hm:AE)(hv:rq x=Ö)(r:dv)(hn:v9:=by decide)(hd:mz:=by decide):JM pos (tC v):=
  lq H I (JN hv ⟨v,H,I,r,h⟩ hn hd)
variable {a b:Expr} {ta tb:TE} {pos:Pos}
def PC(X:Cx)(op:jy)(a b:Expr)(t:TE):Prop:=
  ∀(pins:ğ) (s:č) (σ:St) (H:Hp) (Q:VK),Ĥ->t σ H Q ->
    Sz (compareOp op v u) mx
def tB(t:TE):TT:=wc x (∃c,x=.bl c/\Q c H1)
def tAnd(t u:TT):TT:=wc c (ue c (u σ H1 Q) (Q ă H1))
def tOr(t u:TT):TT:=wc c (ue c (Q true H1) (u σ H1 Q))
def tNot(t:TT):TT:=wc c (Q (!c) H1)
def pw_and1{tA:TT}(ha:PT X a tA):uf .And [a] tA:=by
  intro wh pins s σ H Q I h;refine isTrue_and (Dg Q c e);cases c with
  | true=>exact isTrue_and_nil e
  | ă=>exact e
def pw_or1{tA:TT}(ha:PT X a tA):uf .Or [a] tA:=by
  intro wh pins s σ H Q I h;refine isTrue_or (Dg Q c e);cases c with
  | ă=>exact isTrue_or_nil e
  | true=>exact e
def pw_and{tA tB':TT}{rest:û}(ha:PT X a tA)(hb:uf .And (b::rest) tB'):uf .And (a::b::rest) (tAnd tA tB'):=by
  intro wh pins s σ H Q I h;refine isTrue_and (Dg _ c JO);cases c with
  | true=>exact hb wh pins s1 σ H1 Q I1 q1
  | ă=>exact JO
def pw_or{tA tB':TT}{rest:û}(ha:PT X a tA)(hb:uf .Or (b::rest) tB'):uf .Or (a::b::rest) (tOr tA tB'):=by
  intro wh pins s σ H Q I h;refine isTrue_or (Dg _ c JO);cases c with
  | true=>exact JO
  | ă=>exact hb wh pins s1 σ H1 Q I1 q1
def pt_not{tA:TT}(ha:PT X a tA):PT X (GC .Not) (tNot tA):=by
  intro pins s σ H Q I h;exact isTrue_not (ha pins s σ H (fun c H1=>Q (!c) H1) I h)
def pe_one{op}{t:TE}(h:PE X a t):PE X (rK op [a]) t:=fun pins s σ H Q I hw=>BoolOp_one (h pins s σ H Q I hw)
def tIf(t:TT)(ta tb:TE):TE:=wc c (ue c (ta σ H1 Q) (tb σ H1 Q))
def pe_ifExp{tA:TT}{c:Expr}(hc:PT X c tA)(ha:uc)(hb:yg):PE X (GD pos) (tIf tA ta tb):=by
  intro pins s σ H Q I h;refine wpAny_IfExp Xb;cases d with
  | true=>exact ha pins s1 σ H1 Q I1 q1
  | ă=>exact Df Q
universe E_
def SqL(K:į)(H:Hp)(a:Addr)(xs:İ):Prop:=
  Rd H a k6 \/
    Xc
def SqT(K:į)(H:Hp)(a:Addr)(xs:İ):Prop:=
  Rd H a rn \/
    ∃(o:Obj) (its:dz) (n:Nat),jt a=ē/\Nz/\aN=.seq its n/\Xd
def absV:Ě->ĕ V
  | Ĺ=>ā .non
  | fg b=>ā (.bl b)
  | ĳ _=>ā ĳ
  | aL _=>ā aL
  | .bytes b _=>ā (.byt b)
  | .float b _=>ā (.flt b)
  | Ī=>ā Ī
  | Ÿ n=>ā (.ty n)
  | _=>none
def RelV.abs{x:V}{u:Ě}(r:aZ x):absV u=cS:=by
  cases x with
  | non=>cases r;rfl
  | bl _=>cases r;rfl
  | int _=>obtain⟨t,rfl⟩:=r;rfl
  | str _=>obtain⟨t,rfl⟩:=r;rfl
  | byt _=>obtain⟨t,rfl⟩:=r;rfl
  | flt _=>obtain⟨t,rfl⟩:=r;rfl
  | ref _=>cases r;rfl
  | ty _=>cases r;rfl
theorem RelV.inj{x y:V}{u:Ě}(r:aZ x)(q:aZ y):x=y:=eC (r.abs.symm.trans q.abs)
theorem Vals.inj{xs ys:İ}{us:ŉ}(h:iG xs):iG ys->xs=ys:=by
 induction h generalizing ys with
 | nil=>intro t;cases t;rfl
 | cons r _ ih=>intro t;cases t with | cons r' t'=>rw[r.inj r',ih t']
def gO{H:Hp}{a:Addr}{xs:İ}{K:į}(h:ox a):yk:=yj h
def SqT.of{H:Hp}{a:Addr}{xs:İ}{K:į}(h:Ï a rn):rM K:=yj h
def Inv.list{X:Cx}{pins:ğ}{σ:St}{H:Hp}{s:č}{a:Addr}{xs:İ}(I:Ĥ)(h:ug a xs):∃its:ŉ,JE/\PlainL Ė a mq/\x4:=by
  rcases h with h | ⟨o,its,n,hk,hc,hd,hs,hz,r⟩
  · obtain⟨z,its,n,r,e⟩:=h.ok Φ
    exact⟨its,r,⟨_,n,e,rfl,rfl,rfl⟩,z⟩
  · refine⟨its.toList,r,⟨o,n,I.kIn a o hk,hc,hd,Ķ hs⟩,?_⟩
    have e:=Ű;simp only[f6]at e;omega
def Inv.tuple{X:Cx}{pins:ğ}{σ:St}{H:Hp}{s:č}{a:Addr}{xs:İ}(I:Ĥ)(h:rM X.K):∃its:ŉ,JE/\IsTup Ė a mq/\x4:=by
  rcases h with h | ⟨o,its,n,hk,hc,hs,hz,r⟩
  · obtain⟨z,its,r,p⟩:=h.ok Φ
    exact⟨its,r,p.tup,z⟩
  · refine⟨its.toList,r,⟨o,I.kIn a o hk,hc.1,n,Ķ hs⟩,?_⟩
    have e:=Ű;simp only[f6]at e;omega
def Inv.tupleN{X:Cx}{pins:ğ}{σ:St}{H:Hp}{s:č}{a:Addr}{xs:İ}(I:Ĥ)(h:rM X.K):∃o,fZ a=ē/\Nz:=by
  rcases h with h | ⟨o,its,n,hk,hc,hs,hz,r⟩
  · obtain⟨z,its,r,o,e,c,_⟩:=h.ok Φ
    exact⟨o,e,c.1,c.2⟩
  · exact⟨o,I.kIn a o hk,hc.1,hc.2⟩
def Inv.list_inj{X:Cx}{pins:ğ}{σ:St}{H:Hp}{s:č}{a:Addr}{xs ys:İ}(I:Ĥ)(h:ug a xs)(h':ug a ys):xs=ys:=by
  obtain⟨its,r,⟨o,n,e,_,_,d⟩,_⟩:=rN h;obtain⟨its',r',⟨o',n',e',_,_,d'⟩,_⟩:=rN h';rw[e]at e';cases e';rw[d]at d';injection d' with d1 _
  have:its=its':=Ķ (oy Array.toList d1)
  subst this;exact r.inj r'
def Inv.tuple_inj{X:Cx}{pins:ğ}{σ:St}{H:Hp}{s:č}{a:Addr}{xs ys:İ}(I:Ĥ)(h:rM X.K)(h':SqT X.K H a ys):xs=ys:=by
  obtain⟨its,r,⟨o,e,_,n,d⟩,_⟩:=pR h;obtain⟨its',r',⟨o',e',_,n',d'⟩,_⟩:=pR h';rw[e]at e';cases e';rw[d]at d';injection d' with d1 _
  have:its=its':=Ķ (oy Array.toList d1)
  subst this;exact r.inj r'
section
variable {X:Cx} {st:Stmt} {rest:List Stmt} {t u:TS} {e:Expr} {te:TE} {pos:Pos}
def tNext:TS:=AF (D.nx σ H)
def tSeq(t u:TS):TS:=AF (t {D with nx:=u D} σ H)
def pss_nil:mB [] tNext:=fun _ _ σ H _ I h=>wpAny_execs_nil ⟨σ,H,I,h⟩
def pss_cons(h1:PS X st t)(h2:mB rest u):mB (st::rest) (tSeq t u):=by
  intro pins s σ H D I h;refine wpAny_execs_cons (Æ (h1 pins s σ H {D with nx:=u D} I h) f s1 q);cases f with
  | next=>
    obtain⟨σ',H',I',q⟩:=q;exact h2 pins s1 σ' H' D I' q
  | ret v=>exact q
  | brk=>exact q
  | cont=>exact q
def Inv.quiet{pins:ğ}{σ:St}{H:Hp}{s:č}(I:Ĥ):interactive ū=ă:=by simp[interactive,x8]
def tDrop(te:TE):TS:=AF (te σ H fun _ H1=>D.nx σ H1)
def ps_expr(he:bC te)(hs:swapsWith e none AG ū=pure ă:=by rfl):PS X (.Expr e pos) (tDrop te):=by
  intro pins s σ H D I h;exact wpAny_Expr_any (thn GE fun v s1 lm=>⟨σ,H1,I1,q1⟩) I.quiet hs
def tRet(te:TE):TS:=AF (te σ H D.rt)
def ps_ret(he:bC te):PS X (.Return (ā e) pos) (tRet te):=by
  intro pins s σ H D I h;exact wpAny_Return_some (thn GE fun v s1 lm=>⟨x,σ,H1,I1,r1,q1⟩)
def tIfS(c:TT)(t u:TS):TS:=AF (c σ H fun b H1=>ue b (t D σ H1) (u D σ H1))
def ps_if{c:Expr}{a b:ah}{tc:TT}(hc:PT X c tc)(ha:mB a t)(hb:mB b u):PS X (.If c a b pos) (tIfS tc t u):=by
  intro pins s σ H D I h;refine wpAny_If Xb;cases d with
  | true=>exact ha pins s1 σ H1 D I1 q1
  | ă=>exact Df D
def tNever:TS:=rO
def pss_never{sts:ah}:mB sts tNever:=lq _ _ h.elim
universe E_
abbrev TG:=V->St->De St
abbrev TGs:=İ->St->De St
def PG(X:Cx)(target:Expr)(t:TG):Prop:=
  ∀(pins:ğ) (s:č) (σ:St) (H:Hp) (v:V) (u:Ě) (Q:rJ),Ĥ->dv->t v σ H Q ->
    AH (assign target ū u) _ s' (GB (Q σ' H'))
def PGs(X:Cx)(ts:û)(t:TGs):Prop:=
  ∀(pins:ğ) (s:č) (σ:St) (H:Hp) (vs:İ) (us:ŉ) (Q:rJ),Ĥ->ub->t vs σ H Q ->
    AH (assignInOrder (aD (we ts)) us) _ s' (GB (Q σ' H'))
abbrev TSet:=V->V->V->Hp->Œ cj
def PSet(X:Cx)(t:TSet):Prop:=
  ∀(pins:ğ) (s:č) (σ:St) (H:Hp) (o i v:V) (ov iv u:Ě) (Q:cj),Ĥ->RelV o ov->RelV i iv->dv->t o i v H Q ->
    AH (setItem ov iv u) _ s' (∃H',yd/\Q H')
abbrev TIp:=V->V->pP
def PIp(X:Cx)(op:rQ)(t:TIp):Prop:=
  ∀(pins:ğ) (s:č) (σ:St) (H:Hp) (x y:V) (v u:Ě) (Q:VK),Ĥ->rP->aZ y->t x y H Q ->
    uh (inplaceOp op v u)
def gName(i:Nat):TG:=fun v σ H Q=>Q (yb v) H
def pg_name{X:Cx}{pos:Pos}{i:Nat}{x:Str}(hN:rH)(hi:ow)(hx:yc)(hf:ya:=by first | exact Ð | exact iK | assumption):PG X (bA pos) (gName i):=by
  intro pins s σ H v u Q I r h;exact wpAny_assign_Name (SF I r s' I' H h)
def gNil:TGs:=fun vs σ H Q=>vs=[]/\Q σ H
def gCons(t:TG)(u:TGs):TGs:=fun vs σ H Q=>∃v r,vs=v::r/\t v σ H fun σ' H'=>u r σ' H' Q
def pgs_nil{X:Cx}:PGs X [] gNil:=by
  intro pins s σ H vs us Q I r h;obtain⟨e,h⟩:=h;subst e;cases r;exact assignInOrder_nil ⟨σ,H,I,h⟩
def pgs_cons{X:Cx}{e:Expr}{es:û}{t:TG}{u:TGs}(h1:PG X e t)(h2:PGs X es u)
    (hs:aD (we ai)=assign e ū::aD (we es):=by rfl):PGs X ai (gCons t u):=by
  intro pins s σ H vs us Q I r h;obtain⟨v,vr,e1,h⟩:=h;subst e1;cases r with
  | cons r rr=>
    rw[hs];refine assignInOrder_cons (Æ (h1 pins s σ H _ _ _ I r h) _ s1 ⟨σ1,H1,I1,q1⟩);exact h2 pins s1 σ1 H1 _ _ Q I1 rr q1
def gTup(K:į)(n:Nat)(t:TGs):TG:=fun v σ H Q=>oz xs (rM K) (Ä=n/\t xs σ H Q)
def pg_tup{X:Cx}{pos:Pos}{es:û}{k:Nat}{t:TGs}{n:Nat}(hc:bf)(h:PGs X es t)
    (hn:Ć (we es)=n:=by rfl) (hst:(we es).findIdx? eD=none:=by rfl):PG X (.Tuple es k pos) (gTup X.K n t):=by
  intro pins s σ H v u Q I r hw;obtain⟨a,xs,e1,hq,hl,hw⟩:=hw;subst e1;cases r;obtain⟨its,rv,ht,hz⟩:=pR hq;refine assign_Tuple_tuple (iL hc) ht (by simp[hn,←hl,Di]) hst (Ĝ h' hx)
  have I1:NO:=NN (fY (hx b o (Ñ Ι) e))
  exact h pins _ σ H xs _ Q I1 (Ķ rv) hw
def gSub(to ti:TE)(t:TSet):TG:=fun v σ H Q=>to σ H fun o H1=>ti σ H1 (Ĵ H2 (t o i v H2 fun H3=>Q σ H3))
def pg_sub{X:Cx}{pos:Pos}{o i:Expr}{to ti:TE}{t:TSet}(ho:PE X o to)(hi:PE X i ti)(hs:PSet X t)
    (ha:∀v,assign (iM o i pos) ū v=(do
      let ov ←holding [v] (cn o)
      let iv ←holding [v,ov] (cn i)
      standAt pos
      Xe
      release [v,ov,iv] []):=by intro _;rfl):PG X (iM o i pos) (gSub to ti t):=by
  intro pins s σ H v u Q I r h;rw[ha];refine AI (Æ (Dj s H _ I h) ov s1 lm);refine AI (Æ (hi pins s1 σ H1 _ I1 q1) iv s2 (yf y));refine ą (NP (AI (Æ (hs pins s2 σ H2 x y v ov iv u _ I2 r1 r2 r q2) _ s3 ⟨H3,I3,q3⟩)));exact wpAny_release ⟨σ,H3,I3,q3⟩
def tAsg(te:TE)(g:TG):TS:=AF (te σ H fun x H1=>g x σ H1 D.nx)
def ps_asg{X:Cx}{pos:Pos}{tg e:Expr}{te:TE}{g:TG}(he:bC te)(hg:PG X tg g)(hs:swapsWithSole [tg] e AG ū=pure ă:=by rfl)(hw:swappedStores [tg] e ū=pure none:=by rfl)
    (h1:aD (we [tg])=[assign tg ū]:=by rfl):AJ tg e (tAsg te g):=by
  intro pins s σ H D I h;refine wpAny_Assign_stores (Æ GE v s1 lm) hs hw;rw[h1];exact thn (hg pins s1 σ H1 x v _ I1 r1 q1) fun _ s2 q=>q
def ps_set{X:Cx}{pos:Pos}{i:Nat}{x:Str}{e:Expr}{te:TE}{pos':Pos}(hN:rH)(hi:ow)(hx:yc)(he:bC te)(hs:NQ e (bA pos')=pure ă:=by rfl)(hf:ya:=by first | exact Ð | exact iK | assumption) :
    AJ (bA pos') e (tAsg te (gName i)):=by
  intro pins s σ H D I h;refine wpAny_Assign_Name (Æ GE v s1 (Dk y)) hs;exact SF I1 r1 s2 I2 H1 q1
def tAug(i:Nat)(te:TE)(ti:TIp):TS:=AF (∃x,t_ x/\te σ H fun y H1=>ti x y H1 fun z H2=>D.nx (yb z) H2)
def ps_aug{X:Cx}{pos:Pos}{i:Nat}{x:Str}{e:Expr}{te:TE}{op:rQ}{ti:TIp}{pos':Pos}(hN:rH)(hi:ow)(hx:yc)(he:bC te)(ho:PIp X op ti)(hf:ya:=by first | exact Ð | exact iK | assumption) :
    PS X (JP (bA pos') op e pos) (tAug i te ti):=by
  intro pins s σ H D I h;obtain⟨v,e1,h⟩:=h;obtain⟨m,hn,hl⟩:=k9;have vis:Gr:=by rcases hx with k | k;exact ď k;exact mD k
  obtain⟨u,r,l⟩:=hl i x v hi e1 vis;refine wpAny_AugAssign_Name ?_;have go:AH (cn e) w s₂ (cR (inplaceOp op u w) (fun r s₃=>cR (storeName ū x r) (ş (SP X pins D .next)) X.xe s₃) X.xe s₂):=by
    refine Æ GE w s1 (Dk y)
    refine Æ (Dj s1 H1 v y u w _ I1 r r1 q1) z s2 (yf zv)
    exact SF I2 r2 s3 I3 H2 q2
  rcases l with⟨hk,hm⟩ | ⟨hk,c,hc,hcell⟩
  · exact W_ go
  · rcases hk with hk | hk
    · exact SB hk hc hcell go
    · rcases hx with k | k
      · have:rR x=jz:=hk
        rw[k]at this;cases this
      · have:rR x=jz:=hk
        rw[k]at this;cases this
def ipI(f:Int->Int->Int):TIp:=lu (∃i j,x=ĳ/\y=Ζ/\GF lr)
def ip_add{X:Cx}:PIp X .Add (ipI (Ĵ j (i+j))):=by
  intro pins s σ H x y v u Q I r1 r2 h;obtain⟨i,j,e1,e2,q⟩:=h;subst e1;subst e2;obtain⟨t,rfl⟩:=r1;obtain⟨t',rfl⟩:=r2;exact iadd_int (yh dL q)
def tWhile(c:TT)(tb:TS):TS:=fun D σ H=>∃W:Nat->rJ,(∃m,W m σ H)/\∀m σ H,W m σ H ->
  c σ H fun b H1=>ue b (∃N:rJ,(∀σ' H',N σ' H'->∃m',m'<m/\W m' σ' H')/\Xf σ H1) (D.nx σ H1)
def ps_while{X:Cx}{pos:Pos}{c:Expr}{body:ah}{tc:TT}{tb:TS}(hp:JQ)(hc:PT X c tc)(hb:Do tb):PS X (.While c body [] pos) (tWhile tc tb):=by
  intro pins s σ H D I h;obtain⟨W,⟨m0,w0⟩,turn⟩:=h;refine wpAny_While (codeAny_whileLoop (fun n s'=>GB (W n σ' H')) ?_ m0 ⟨σ,H,I,w0⟩)
  rintro n s1 ⟨σ1,H1,I1,w1⟩
  refine Dl (Æ (hc pins s1 σ1 H1 _ I1 (turn n σ1 H1 w1)) b s2 ⟨H2,I2,q2⟩);cases b with
  | true=>
    obtain⟨N,hN,q2⟩:=q2;rw[js];refine Dl (Æ (hb pins s2 σ1 H2 _ I2 q2) f s3 q3);cases f with
    | next=>
      obtain⟨σ3,H3,I3,n3⟩:=q3;obtain⟨m',hm,w3⟩:=hN σ3 H3 n3;exact⟨m',hm,σ3,H3,I3,w3⟩
    | cont=>
      obtain⟨σ3,H3,I3,n3⟩:=q3;obtain⟨m',hm,w3⟩:=hN σ3 H3 n3;exact⟨m',hm,σ3,H3,I3,w3⟩
    | brk=>exact q3
    | ret v=>exact q3
  | ă=>
    rw[oA];exact wpAny_execs_nil ⟨σ1,H2,I2,q2⟩
structure It where
  go:Nat->cj
  yld:Nat->Hp->V->cj
  stop:Nat->cj
def FpOk(X:Cx)(pins:ğ)(H:Hp)(b:Addr):Prop:=
  bv/\b≠cN/\b∉X.fs/\(b∈X.ex\/v_<=b)/\(Gp b)/\NI b
def Inv.fpOk{X:Cx}{pins:ğ}{σ:St}{H H':Hp}{s:č}{b:Addr}(I:Ĥ)(hb:ġ<=b)(hn:H' b=none):rS H' b:=by
  refine⟨hn,pS (ce I.lt hb),I.nofs hb,ė (š I.sz hb),Ļ x c e z,Ğ p hp z⟩
  · obtain⟨v,q⟩:=wa e
    exact Da q.lt (Ą z hb)
  · exact Da (aB (x9 hp).1) (Ą z hb)
structure Turn(P:ř)(w:ł)(K:į)(tg:Expr)(J:It)(fp:ŀ)(it:Addr)(tn:pT):Prop where
  mem:it∈fp
  obj:∀i h,tn i h->oB (∃o,aA b/\GH aN)
  keep:∀i h h',tn i h->(oB (AK b (ba b)))->tn i h'
  item:∀(X:Cx),aj=P->X.w=w->X.K=K->bf->∀(i:Nat) (pins:ğ) (s:č) (σ:St) (H:Hp) (E:ú),Ĥ->(oB (rS H b))->tn i Ė->J.go i H ->
    GG X.A (ui it) (fun r s1=>∃u,r=Ö /\
      GG X.A (NR tg Dp u) (fun _ s2=>∃x H',iJ H' s2/\aZ x/\JR/\tn ü s2.heap/\dG b fp (H' b)) E s1) E s
  done:∀(X:Cx),aj=P->X.w=w->X.K=K->bf->∀(i:Nat) (pins:ğ) (s:č) (σ:St) (H:Hp) (E:ú),Ĥ->(oB (rS H b))->tn i Ė->J.stop i H ->
    GG X.A (ui it) (fun r s1=>r=none/\iJ H s1) E s
  self:∀(A:ξ) (i:Nat) (s:č) (Q:ú) (E:ú),tn i Ė->Q Dp s->rT (pyIter Dp)
abbrev TI:=St->De It
def PIE(X:Cx)(pins:ğ)(σ:St)(tg:Expr)(R:It->cj)(itv:Ě)(s2:č):Prop:=
  ∃(it:Addr) (fp:ŀ) (tn:pT) (J:It) (H':Hp),itv=Č it/\iJ H' s2/\Turn aj X.w X.K tg J fp it tn/\tn 0 s2.heap/\(oB (rS H' b))/\R J H'
def PI(X:Cx)(tg iter:Expr)(wi:TI):Prop:=
  ∀(pins:ğ) (s:č) (σ:St) (H:Hp) (R:It->cj),Ĥ->wi σ H R ->
    AH (cn iter) v s1 (cR (pyIter v) (PIE X pins σ tg R) X.xe s1)
def go_of{M:Model}{A:ξ}{E:ú}{s:č}{tg:Expr}{it:Addr}{u:Ě}{o:Obj}{n:du}{vs:dz}{Q:Gz}(ho:fZ it=ē)(hc:o.cls=Ÿ n)(hd:aN=bM vs)
    (hn : Xg n=ă) (hQ:Q () s):rG M (NR tg Dp u):=by
  unfold NR;cases tg<;>first
    | exact Ņ hQ
    | (cases u<;>first
        | exact Ņ hQ
        | (refine ą (wpAny_load ho ?_)
           rw[hc,hd];show rG M (mE (ņ (Xg n&&vs[0]? == ā (oC _))) _ _);rw[ĝ (by intro h;rw[hn,Bool.false_and]at h;cases h)];exact Ņ hQ))
def Itl(K:į)(a:Addr):It:=
  ⟨Ĵ H (∃xs x,yk/\mj),Dq (H'=H/\∀xs,yk->mj),Ĵ H (∃xs,yk/\Ä<=i)⟩
def Itt(K:į)(a:Addr):It:=
  ⟨Ĵ H (∃xs x,rM K/\mj),Dq (H'=H/\∀xs,rM K->mj),Ĵ H (∃xs,rM K/\Ä<=i)⟩
def Itr(lo:Int)(n:Nat):It:=⟨Ĵ _ (i<n),Dq (H'=H/\x=.int (lo+i)),Ĵ _ (n<=i)⟩
def turn_list{P:ř}{w:ł}{K:į}{tg:Expr}(a it:Addr):JT tg (Itl K a) (h.IsListIter it a i) where
  mem:=Ģ
  obj:=fun i h st b hb=>by
    have e:b=it:=Ķ hb
    subst e;obtain⟨o,e,c,d⟩:=st;exact(JS z)
  keep:=Xj
  item:=by
    intro X hP hw hK hc i pins s σ H E I hf st hg;subst hP hw hK;obtain⟨xs,x,hq,hx⟩:=hg;obtain⟨its,rv,p,hz⟩:=uj;obtain⟨u,hu,ru⟩:=rv.get hx;obtain⟨f0,f1,f2,f3,f4,f5⟩:=AL;refine wpAny_pyNext_list_item st p.isList (x:=u) (Ķ hu) (Ğ h' st' sb)
    have I1:NO:=NS (li sb b hb e);obtain⟨o,e,c,d⟩:=id st';exact(Á u (Xi (I.list_inj hy hq)))
  done:=by
    intro X hP hw hK hc i pins s σ H E I hf st hg;subst hP hw hK;obtain⟨xs,hq,hx⟩:=hg;obtain⟨its,rv,p,hz⟩:=uj;obtain⟨f0,f1,f2,f3,f4,f5⟩:=AL;have hl:=Di;exact wpAny_pyNext_list_end (iL hc) st p.isList Dr Xh
  self:=lq _ st (wpAny_pyIter_listiter st h)
def turn_tuple{P:ř}{w:ł}{K:į}{tg:Expr}(a it:Addr):JT tg (Itt K a) (h.IsTupleIter it a i) where
  mem:=Ģ
  obj:=fun i h st b hb=>by
    have e:b=it:=Ķ hb
    subst e;obtain⟨o,e,c,d⟩:=st;exact(JS z)
  keep:=Xj
  item:=by
    intro X hP hw hK hc i pins s σ H E I hf st hg;subst hP hw hK;obtain⟨xs,x,hq,hx⟩:=hg;obtain⟨its,rv,p,hz⟩:=pR hq;obtain⟨u,hu,ru⟩:=rv.get hx;obtain⟨f0,f1,f2,f3,f4,f5⟩:=AL;refine wpAny_pyNext_tuple_item st (ž (NT mq) p) (x:=u) (Ķ hu) (Ğ h' st' sb)
    have I1:NO:=NS (li sb b hb e);obtain⟨o,e,c,d⟩:=id st';exact(Á u (Xi (I.tuple_inj hy hq)))
  done:=by
    intro X hP hw hK hc i pins s σ H E I hf st hg;subst hP hw hK;obtain⟨xs,hq,hx⟩:=hg;obtain⟨its,rv,p,hz⟩:=pR hq;obtain⟨f0,f1,f2,f3,f4,f5⟩:=AL;have hl:=Di;exact wpAny_pyNext_tuple_end (iL hc) st (ž (NT mq) p) Dr Xh
  self:=lq _ st (wpAny_pyIter_tupleiter st h)
def turn_range{P:ř}{w:ł}{K:į}{tg:Expr}(it:Addr)(lo:Int)(n:Nat):JT tg (Itr lo n) (IsRangeIter h it (lo+cT*1) (ρ - cT) 1) where
  mem:=Ģ
  obj:=fun i h st b hb=>by
    have e:b=it:=Ķ hb
    subst e;exact⟨_,st,fun v z=>by
      have z':Data.fields _=Data.cell v:=z;cases z'⟩
  keep:=fun i h h' st k=>k it Ģ _ st
  item:=by
    intro X hP hw hK hc i pins s σ H E I hf st hg;subst hP hw hK;obtain⟨f0,f1,f2,f3,f4,f5⟩:=AL;have W:=Xp lo 1 n;refine Xo
    obtain⟨t,rfl⟩:=hv;have I1:pO H h' tk:=Xn;refine(Á _ (Xm (lo+i)));rw[Int.mul_one]
  done:=by
    intro X hP hw hK hc i pins s σ H E I hf st hg;subst hP hw hK;obtain⟨f0,f1,f2,f3,f4,f5⟩:=AL;exact Xl
  self:=Xk
def iList(K:į)(tl:TE):TI:=fun σ H R=>tl σ H fun x H1=>∃a,x=Ī/\(∃xs,SqL K H1 a xs)/\R (Itl K a) H1
def iTup(K:į)(tl:TE):TI:=fun σ H R=>tl σ H fun x H1=>∃a,x=Ī/\(∃xs,SqT K H1 a xs)/\R (Itt K a) H1
def pi_list{X:Cx}{tg:Expr}{l:Expr}{tl:TE}(hl:PE X l tl):wf l (iList X.K tl):=by
  intro pins s σ H R I h;refine Xr
  obtain⟨a,e,⟨xs,hq⟩,q⟩:=q1;subst e;cases r1;obtain⟨its,rv,p,hz⟩:=I1.list hq;refine AM p.isList ?_;refine(Xq (turn_list a _));have e:b=f7:=Ķ hb
  subst e;exact NU
def pi_tup{X:Cx}{tg:Expr}{l:Expr}{tl:TE}(hl:PE X l tl):wf l (iTup X.K tl):=by
  intro pins s σ H R I h;refine Xr
  obtain⟨a,e,⟨xs,hq⟩,q⟩:=q1;subst e;cases r1;obtain⟨its,rv,p,hz⟩:=I1.tuple hq;refine JU (ž (s1.heap.IsTuple a mq) p) ?_;refine(Xq (turn_tuple a _));have e:b=f7:=Ķ hb
  subst e;exact NU
def range_it{X:Cx}{tg:Expr}{pins:ğ}{σ:St}{H:Hp}{s:č}{R:It->cj}{E:ú}{lo hi:Int}{t u v:Tok}{tk:Nat}(I:Ĥ)(h1 : uk lo)(h2:lo<2^62)(h3 : uk hi)(h4:hi<2^62)
    (q:R (Itr lo (mF hi lo)) H):Xu JV:=by
  refine Xs (small_one h1 h2 h3 h4) ?_;have I1:pO H JV tk:=I.kept yl
  refine⟨(ag JV),[ag JV],_,_,H,rfl,
    I1.kept (t':=tk) yl,turn_range _ lo (mF hi lo),?_,cQ hb,q⟩
  · have e1:lo+ı 0*1=lo:=Ģ
    have e2:NV hi lo=NW lo hi 1:=by rw[rangeSize_one];split<;>omega
    show IsRangeIter _ _ (lo+ı 0*1) (NV hi lo) 1;rw[e1,e2];exact Ø
  · have e:b=ag JV:=Ķ hb
    subst e;exact NU
def iRng1(ta:TA):TI:=fun σ H R=>GI vs (∃j:Int,vs=[Ζ] /\ uk j/\j<2^62/\R (Itr 0 j.toNat) H1)
def iRng2(ta:TA):TI:=Xv (gP i j) (Itr i (mF j i))
def pi_range1{X:Cx}{tg:Expr}{a:Expr}{ta:TA}{p pos:Pos}(hg:Gl X kZ)(hm:mH kZ)(ha:PA X [a] ta)(hs:mG [a]=[pU a]:=by rfl):GJ [a] (iRng1 ta):=by
  intro pins s σ H R I h;refine NY hg hm boot_range NX (Dk vs) hs rfl;obtain⟨j,e,q1,q2,q⟩:=q1;subst e;cases r1 with
  | cons r rr=>
    cases rr;obtain⟨t,rfl⟩:=r;exact call_range_1 (range_it I1 Ă Ă q1 q2 (Ķ q))
def pi_range2{X:Cx}{tg:Expr}{a b:Expr}{ta:TA}{p pos:Pos}(hg:Gl X kZ)(hm:mH kZ)(ha:PA X [a,b] ta)(hs:mG [a,b]=[pU a,pU b]:=by rfl)(hs2:mG [b]=[pU b]:=by rfl) :
    GJ [a,b] (iRng2 ta):=by
  intro pins s σ H R I h;refine Xw;obtain⟨i,j,e,⟨q1,q2,q3,q4⟩,q⟩:=q1;subst e;cases r1 with
  | cons r rr=>
    cases rr with
    | cons r' rr=>
      cases rr;obtain⟨t,rfl⟩:=r;obtain⟨t',rfl⟩:=r';exact call_range_2 (range_it I1 q1 q2 q3 q4 q)
def tFor(wi:TI)(g:TG)(tb:TS):TS:=fun D σ H=>wi σ H fun J H1=>∃W:Nat->Nat->rJ,(∃m,W 0 m σ H1)/\∀i m σ H,W i m σ H ->
  (J.stop i H/\D.nx σ H)\/(J.go i H/\∃N:rJ,(∀σ' H',N σ' H'->∃m',m'<m/\W ü m' σ' H')/\∀x H',JR->g x σ H' fun σ2 H2=>Xf σ2 H2)
def pinsAt(fp:ŀ)(h:Heap):ğ:=fp.filterMap fun b=>ļ (Ο b) o (b,o)
def mem_pinsAt{fp:ŀ}{h:Heap}{b:Addr}{o:Obj}(hb:b∈fp)(e:aA b):(b,o)∈pinsAt fp h:=List.mem_filterMap.mpr ⟨b,hb,bQ e⟩
def of_pinsAt{fp:ŀ}{h:Heap}{p:Addr×Obj}(hp:p∈pinsAt fp h):p.1∈fp/\Ο p.1=AN:=by
  obtain⟨b,hb,e⟩:=SG hp;cases q:Ο b with
  | none=>rw[q]at e;cases e
  | some o=>
    rw[q]at e;have e':(b,o)=p:=eC e;subst e';exact⟨hb,q⟩
def Inv.pinned{X:Cx}{pins:ğ}{σ:St}{H:Hp}{s:č}{fp:ŀ}(I:Ĥ)(hf:oB (rS H b))(ho:oB (∃o,cP/\GH aN)):jw (pins++pinsAt fp Ė):=
  I.pins_of fun p hp=>(gL hp).elim (fun z=>x9 (lv z)) fun z=>by obtain⟨hb,e⟩:=of_pinsAt z;obtain⟨f0,f1,f2,_⟩:=hf p.1 hb;obtain⟨o,e',d⟩:=ho p.1 hb;rw[e]at e';cases e';exact⟨e,f0,f1,f2,d⟩
def Inv.unpinned{X:Cx}{pins pl:ğ}{σ:St}{H:Hp}{s:č}(I:jw (pins++pl)):Ĥ:=I.pins_of fun p hp=>x9 (lv (fh hp))
def ps_for{X:Cx}{tg:Expr}{iter:Expr}{body:ah}{wi:TI}{g:TG}{tb:TS}{pos:Pos}(hp:JQ)(hc:bf)(hi:wf iter wi)(hg:PG X tg g)(hb:Do tb)
    (hs:∀x,NZ iter ū x=pure x:=by intro _;rfl):PS X (.For tg iter body [] pos) (tFor wi g tb):=by
  intro pins s σ H D I h;refine wpAny_For (thn (hi pins s σ H _ I h) (SH itv)) hs;obtain⟨it,fp,tn,J,H2,e,I2,T,st2,f2,W,⟨m0,w0⟩,turn⟩:=h2;subst e;have stat:∀{H':Hp},(dG b fp (H' b))->oB (rS H' b):=fun hn b hb=>⟨hn b hb,(f2 b hb).2⟩
  refine codeAny_forLoop_any (fun n s'=>Xx s' s'.heap n) ?_ m0 ⟨0,σ,H2,I2,st2,fun b hb=>(f2 b hb).1,w0⟩
  rintro n s3 ⟨i,σ3,H3,I3,st3,fr3,w3⟩
  rcases turn i n σ3 H3 w3 with⟨stop,qn⟩ | ⟨go,N,hN,step⟩
  · refine Dl (Æ (T.done X rfl rfl rfl hc i pins s3 σ3 H3 X.xe I3 (stat fr3) st3 stop) r s4 ⟨hr,I4⟩)
    subst hr;exact wpAny_execs_nil ⟨σ3,H3,I4,qn⟩
  · refine Dl (Æ (T.item X rfl rfl rfl hc i pins s3 σ3 H3 X.xe I3 (stat fr3) st3 go) r s4 ⟨u,hr,h4⟩)
    subst hr;refine Dl (thn h4 (Ğ _ s5 ⟨x,H5,I5,r5,y5,st5,fr5⟩));have I5':=I5.pinned (stat fr5) (T.obj _ _ st5);refine Dl (Æ (hg _ s5 σ3 H5 x u _ I5' r5 (step x H5 y5)) _ s6 ⟨σ6,H6,I6,q6⟩);refine Dl (Æ (hb _ s6 σ6 H6 _ I6 q6) f s7 q7);have again:∀{σ7:St} {H7:Hp},lj (pins++pinsAt fp s5.heap) σ7 H7 s7->N σ7 H7->∃m,m<n/\Xx s7 s7.heap m:=fun {σ7 H7} I7 n7=>by obtain⟨m',hm,w7⟩:=hN σ7 H7 n7;refine⟨m',hm,i+1,σ7,H7,I7.unpinned,JW st5 hb (I7.pin (b,o) (wg hb e)).1,cQ hb,w7⟩;obtain⟨o,e,d⟩:=T.obj _ _ st5 b hb;exact(I7.pin (b,o) (wg hb e)).2.1
    cases f with
    | next=>obtain⟨σ7,H7,I7,n7⟩:=q7;exact again I7 n7
    | cont=>obtain⟨σ7,H7,I7,n7⟩:=q7;exact again I7 n7
    | brk=>obtain⟨σ7,H7,I7,q7⟩:=q7;exact⟨σ7,H7,I7.unpinned,q7⟩
    | ret v=>obtain⟨x7,σ7,H7,I7,r7,q7⟩:=q7;exact⟨x7,σ7,H7,I7.unpinned,r7,q7⟩
abbrev R2:=V->V->pP
def OpR(X:Cx)(f:Ě->AO)(r:R2):Prop:=
  ∀(pins:ğ) (s:č) (σ:St) (H:Hp) (x y:V) (v u:Ě) (Q:VK),Ĥ->rP->aZ y->r x y H Q ->
    uh (f v u)
def UnR(X:Cx)(f:AO)(r:V->pP):Prop:=
  ∀(pins:ğ) (s:č) (σ:St) (H:Hp) (x:V) (v:Ě) (Q:VK),Ĥ->rP->r x H Q ->
    uh (f v)
def CallR(X:Cx)(f:Ě)(r:İ->pP):Prop:=
  ∀(pins:ğ) (s:č) (σ:St) (H:Hp) (xs:İ) (us:ŉ) (Q:VK),Ĥ->iG xs->r xs H Q ->
    uh (call f us)
def TruR(X:Cx)(r:V->De Bool):Prop:=
  ∀(pins:ğ) (s:č) (σ:St) (H:Hp) (x:V) (v:Ě) (Q:GA),Ĥ->rP->r x H Q ->
    cR (truthy v) NM X.xe s
def tOp(r:R2)(ta tb:TE):TE:=ŷ σ (SA (r x y H2 Q))
def tUn(r:V->pP)(ta:TE):TE:=ŷ σ (GI x (r x H1 Q))
def rI(C:Int->Œ Int)(g:Int->Int->V):R2:=lu (∃i j,x=ĳ/\y=Ζ/\C i j/\Q rV H)
def rI0(g:Int->Int->V):R2:=lu (∃i j,x=ĳ/\y=Ζ/\Q rV H)
def rU(g:Int->V):V->pP:=ŷ x (∃i,x=ĳ/\Q (g i) H)
def binT{X:Cx}{a b:Expr}{ta tb:TE}(ha:uc)(hb:yg){pins:ğ}{s:č}{σ:St}{H:Hp}{R:V->V->cj}(I:Ĥ)
    (h:SA (R x y H2)) {Q:ú} {f:Ě->AO}
    (hf:W') :
    Sz (f v u) Q:=by
  refine Dg _ v lm
  refine Æ (Df _) u s2 (yf y)
  exact hf v u s2 x y H2 I2 r1 r2 q2
def pe_op{X:Cx}{a b:Expr}{ta tb:TE}{pos:Pos}{op:rQ}{r:R2}(ho:pV op r)(ha:uc)(hb:yg):PE X (.BinOp a op b pos) (tOp r ta tb):=by
  intro pins s σ H Q I h;exact wpAny_BinOp Xy
def pe_un{X:Cx}{a:Expr}{ta:TE}{pos:Pos}{op:UnaryOp}{r:V->pP}(ho:UnR X (unaryOp op) r)(ha:uc):PE X (GC op) (tUn r ta):=by
  intro pins s σ H Q I h;exact UnaryOp_ (Ds _ fun v s1 lm=>Dj s1 H1 x v Q I1 r1 q1)
def opI{X:Cx}{f:Ě->AO}{C:Int->Œ Int}{g:Int->Int->Int}
    (rule:SL (C i j->JX rV -> SK)) :
    OpR X f (rI C (Dt rV)):=by
  intro pins s σ H x y v u Q I rx ry h;obtain⟨i,j,rfl,rfl,hc,q⟩:=h;obtain⟨t,rfl⟩:=rx;obtain⟨t',rfl⟩:=ry;exact SJ hc (yh (.int rV) q)
def opI0{X:Cx}{f:Ě->AO}{g:Int->Int->Int}
    (rule:SL (JX rV -> SK)) :
    OpR X f (um (g i j)):=by
  intro pins s σ H x y v u Q I rx ry h;obtain⟨i,j,rfl,rfl,q⟩:=h;obtain⟨t,rfl⟩:=rx;obtain⟨t',rfl⟩:=ry;exact SJ (yh (.int rV) q)
def opB0{X:Cx}{f:Ě->AO}{g:Int->ń Int}
    (rule:SL (Q (fg rV) s->SK)) :
    OpR X f (rI0 (Ĵ j (.bl rV))):=by
  intro pins s σ H x y v u Q I rx ry h;obtain⟨i,j,rfl,rfl,q⟩:=h;obtain⟨t,rfl⟩:=rx;obtain⟨t',rfl⟩:=ry;exact SJ ⟨.bl rV,H,I,rfl,q⟩
def CPow(i j:Int):Prop:=Xz
def CMul(i j:Int):Prop:=(-(2^64)<i/\i<2^64)\/(-(2^64)<j/\j<2^64)
def CMul.ok{i j:Int}(h:CMul i j):IntMulOk i j:=by
  rcases h with⟨h1,h2⟩ | ⟨h1,h2⟩
  · exact .of_left (intBits_le_64 h1 h2)
  · exact .of_right (intBits_le_64 h1 h2)
def two_pow_nn(k:Nat):mJ<=2^k:=by
  rw[two_pow_cast];exact mI _
def op_add{X:Cx}:pV .Add (um (i+j)):=JY (add_int q)
def op_sub{X:Cx}:pV .Sub (um (i - j)):=JY (sub_int q)
def op_mod{X:Cx}:pV .Mod (GK (0<j) (i%j)):=opI fun i j _ _ _ _ _ hc q=>by
  have h1:mJ<j:=hc;exact mod_int' Ă (Ą (Int.fmod_eq_emod_of_nonneg i Ă) q)
def op_shl{X:Cx}:pV .LShift (rI CPow (Dt (i*AQ))):=opI fun _ _ _ _ _ _ _ hc q=>lshift_int_small hc.1 hc.2.1 hc.2.2 q
def op_shr{X:Cx}:pV .RShift (GK (0<=j) (i/AQ)):=opI fun i j _ _ _ _ _ hc q=>
  rshift_int hc (Ą (Int.fdiv_eq_ediv_of_nonneg i (two_pow_nn _)) q)
def op_and{X:Cx}:pV rX (um (rW i j)):=JY (and_int q)
def op_or{X:Cx}:pV .BitOr (um (JZ i j)):=JY (or_int q)
def op_xor{X:Cx}:pV .BitXor (um (J1 i j)):=JY (xor_int q)
def unI{X:Cx}{f:AO}{g:Int->Int}
    (rule:∀(i:Int) (t:Tok) (s:č) (Q:ú) (E:ú),JX (g i) -> cR (f (ĳ t)) Q E s) :
    UnR X f (rU fun i=>.int (g i)):=by
  intro pins s σ H x v Q I rx h;obtain⟨i,rfl,q⟩:=h;obtain⟨t,rfl⟩:=rx;exact rule i t s _ _ (yh (.int (g i)) q)
def un_neg{X:Cx}:UnR X (unaryOp .USub) (rU fun i=>.int (-i)):=unI fun _ _ _ _ _ q=>neg_int q
section
variable {X:Cx} {a b c:Expr} {ta tb tc:TE} {pos:Pos}
def fin_bl{pins:ğ}{σ:St}{H:Hp}{s:č}{Q:VK}{k k':Bool}(I:Ĥ)(q:AR k)(e:k=k'):mx (fg k') s:=by
  subst e;exact⟨.bl k,H,I,rfl,q⟩
def op_lt:N0 .Lt (i<j):=opB0 (ym _ q (lt_int q))
def op_le:N0 .LtE (i<=j):=opB0 (ym _ q (le_int q))
def op_gt:N0 .Gt (j<i):=opB0 (ym _ q (gt_int q))
def op_ge:N0 .GtE (j<=i):=opB0 (ym _ q (ge_int q))
def op_isN:wj .Is (lu (y=.non/\AR (ě (x=.non)))):=by
  intro pins s σ H x y v u Q I rx ry h;obtain⟨rfl,q⟩:=h;cases ry;refine is_none_gen (fin_bl I q ?_);cases x<;>first
    | (cases rx;rfl)
    | (obtain⟨t,rfl⟩:=rx;rfl)
def op_notN:wj .IsNot (lu (y=.non/\AR (!ě (x=.non)))):=by
  intro pins s σ H x y v u Q I rx ry h;obtain⟨rfl,q⟩:=h;cases ry;refine isnot_none_gen (fin_bl I q ?_);cases x<;>first
    | (cases rx;rfl)
    | (obtain⟨t,rfl⟩:=rx;rfl)
def OpR.or{f:Ě->AO}{r r':R2}(h:OpR X f r)(h':OpR X f r'):OpR X f (lu (r x y H Q\/r' x y H Q)):=by
  intro pins s σ H x y v u Q I rx ry q;rcases q with q | q
  · exact h pins s σ H x y v u Q I rx ry q
  · exact h' pins s σ H x y v u Q I rx ry q
def pe_cmpR{op:jy}{r:R2}(ho:wj op r)(ha:uc)(hb:yg)(hm:SM=ă):PE X N1 (tOp r ta tb):=by
  intro pins s σ H Q I h;exact wpAny_Compare1 Xy hm
def tTest(t:TE):TT:=ŷ σ (t σ H fun x H'=>∃k,x=.bl k/\Q k H')
def pt_cmpR{op:jy}{r:R2}(ho:wj op r)(ha:uc)(hb:yg)(hm:SM=ă):PT X N1 (tTest (tOp r ta tb)):=by
  intro pins s σ H Q I h;refine wpAny_isTrue_Compare1 (Ds _ fun v s1 lm=>thn (Df _) fun u s2 (yf y)=>
    SN c) hm
  subst e;cases r3;exact GL ⟨H3,I3,q3⟩
def tChain(r r':R2)(ta tb tc:TE):TE:=fun σ H Q=>ta σ H fun x H1=>tb σ H1 fun y H2=>r x y H2 fun z H3=>∃k,z=.bl k /\
  (ue k (tc σ H3 fun w' H4=>r' y w' H4 Q) (Q AS H3))
def pe_chain{op op':jy}{r r':R2}(ho:wj op r)(ho':wj op' r')(ha:uc)(hb:yg)(hc:PE X c tc)
    (hm:SO op'=ă:=by with_unfolding_all rfl):PE X (N3 op') (tChain r r' ta tb tc):=by
  intro pins s σ H Q I h;refine Compare_chain (Ds _ fun v s1 lm=>chain_link (thn (Df _) fun u s2 (yf y)=>
    SN d)) hm
  subst e;cases r3;refine GL ?_;cases k with
  | ă=>exact ite_ff ⟨AS,H3,I3,rfl,q3⟩
  | true=>exact ite_tt (chain_last (thn (hc pins s3 σ H3 _ I3 q3) fun w' s4 ⟨z',H4,I4,r4,q4⟩=>XA Q))
def pt_chain{op op':jy}{r r':R2}(ho:wj op r)(ho':wj op' r')(ha:uc)(hb:yg)(hc:PE X c tc)
    (hm:SO op'=ă:=by with_unfolding_all rfl):PT X (N3 op') (tTest (tChain r r' ta tb tc)):=by
  intro pins s σ H Q I h;refine isTrue_chain (Ds _ fun v s1 lm=>test_link (thn (Df _) fun u s2 (yf y)=>
    SN d)) hm
  subst e;cases r3;refine GL ?_;cases k with
  | ă=>
    obtain⟨k',e',q'⟩:=q3;cases e';exact ite_ff ⟨H3,I3,q'⟩
  | true=>
    refine ite_tt (test_last (thn (hc pins s3 σ H3 _ I3 q3) fun w' s4 ⟨z',H4,I4,r4,q4⟩=>Æ (XA _) d' s5 ⟨z2,H5,I5,r5,k2,e2,q5⟩));subst e2;cases r5;exact GL ⟨H5,I5,q5⟩
def TruV(K:į)(x:V)(H:Hp)(k:Bool):Prop:=
  match x with
  | .non=>k=ă
  | .bl b=>k=b
  | ĳ=>k=(i != 0)
  | .str y=>N4 Du
  | .byt y=>N4 y.size
  | fj=>(∃xs,SqL K H p xs/\k = !xs.isEmpty)\/XB K
  | _=>cM
def isEmpty_kv{κ:Type}{kvs:oh}{vs:C7}(r:yn):(!vs.isEmpty) = !kvs.isEmpty:=by
  cases r<;>rfl
def isEmpty_of{xs:İ}{its:ŉ}(r:JE):(!its.toArray.isEmpty) = !xs.isEmpty:=by
  cases r<;>simp
def line63:(AT:Nat)<2^63:=by rw[oE];decide
def tru_ok:TruR X (ŷ x (J2 H (Q k H))):=by
  intro pins s σ H x v Q I rx h;obtain⟨k,e,q⟩:=h;have hl:=line63;have hs:AT=16777216:=oE;cases x with
  | non=>
    cases rx;have e':k=ă:=e;subst e';exact truthy_none ⟨H,I,q⟩
  | bl b=>
    cases rx;have e':k=b:=e;subst e';exact GL ⟨H,I,q⟩
  | int i=>
    obtain⟨t,rfl⟩:=rx;have e':k=(i != 0):=e;subst e';exact PySem.P.truthy_int ⟨H,I,q⟩
  | str y=>
    obtain⟨t,rfl⟩:=rx;obtain⟨hy,e'⟩:N4 Du:=e;subst e';exact PySem.P.truthy_str Ă ⟨H,uo,q⟩
  | byt y=>
    obtain⟨t,rfl⟩:=rx;obtain⟨hy,e'⟩:N4 y.size:=e;subst e';exact PySem.W.truthy_bytes Ă ⟨H,uo,q⟩
  | ref p=>
    cases rx;have e':(∃xs,ug p xs/\k = !xs.isEmpty)\/XB X.K:=e;rcases e' with⟨xs,hx,e'⟩ | ⟨xs,hx,e'⟩ | ⟨kvs,hx,e'⟩
    · subst e'
      obtain⟨its,r,pl,hz⟩:=rN hx;have hlen:=Ű;exact wpAny_truthy_list pW (by simp only[cU];omega) XC
    · subst e'
      obtain⟨its,r,pl,hz⟩:=pR hx;have hlen:=Ű;exact truthy_tuple pl (by simp only[cU];omega) XC
    · subst e'
      obtain⟨hz,hS,vs,r,m⟩:Ù rj/\Av p/\∃vs,yn/\s.heap.DictOf (vY aj X.w) p vs:=Φ p _ hx;have hlen:rj=aP:=Ny r;exact wpAny_truthy_dict hS m Ă ⟨H,uo,Ą (isEmpty_kv r) q⟩
  | _=>exact(ž cM e).elim
def pt_truth(ha:uc)(he:N5 whole a ū a.pos) :
    PT X a (ŷ σ (ta σ H fun x H'=>J2 H' (Q k H'))):=by
  intro pins s σ H Q I h;exact isTrue_plain (Ds _ fun v s1 lm=>tru_ok pins s1 σ H1 x v Q I1 r1 q1) (he _)
def vals1{x:V}{us:ŉ}(r:iG [x]):∃u,us=[u]/\aZ x:=by
  cases r with
  | cons r1 r2=>cases r2;exact(Á _ r1)
def vals2{x y:V}{us:ŉ}(r:iG [x,y]):∃u w',us=[u,w']/\aZ x/\RelV y w':=by
  cases r with
  | cons r1 r2=>
    cases r2 with
    | cons r3 r4=>cases r4;exact⟨_,_,rfl,r1,r3⟩
def call_max2(hc:bf):AU "max" (XD (j>i)):=by
  intro pins s σ H xs us Q I r h;obtain⟨i,j,rfl,q⟩:=h;obtain⟨u,w',rfl,⟨t,rfl⟩,⟨t',rfl⟩⟩:=vals2 r;refine max_two_ints (iL hc) (N6 _ ?_)
  by_cases hj:j>i
  · rw[ĉ hj,ĉ hj];exact av
  · rw[ĝ hj,ĝ hj];exact av
def call_min2(hc:bf):AU "min" (XD (j<i)):=by
  intro pins s σ H xs us Q I r h;obtain⟨i,j,rfl,q⟩:=h;obtain⟨u,w',rfl,⟨t,rfl⟩,⟨t',rfl⟩⟩:=vals2 r;refine min_two_ints (iL hc) (N6 _ ?_)
  by_cases hj:j<i
  · rw[ĉ hj,ĉ hj];exact av
  · rw[ĝ hj,ĝ hj];exact av
universe E_
structure ObjM(h:Heap)(x dx C:Addr)(mA:Τ):Prop where
  obj:Ο x=ā (PySem.W.instObj C dx)
  ns:h.Ns1 dx mA
  ne:dx≠x
def RelO.some_of{v:V}{o:jr}(r:RelO dw o):∃u,o=Ö/\dv:=by
  cases o with
  | none=>exact(ž cM r).elim
  | some u=>exact(Á u r)
structure Cls(K:į)(C:Addr):Prop where
  pg:PySem.W.plainGet K C Str.empty=true
  hd:PySem.W.hasDictIn K C=true
  po:PySem.W.plainOver K C=true
  sa:PySem.W.findIn K (Č C) "__setattr__" = ā (ā (lw "object.__setattr__"))
section
variable {X:Cx} {pins:List (Addr×Obj)} {σ:St} {H:Hp} {s:Shared} {A:Around} {E:Value->Shared->Prop} {Q:Value->Shared->Prop} {c:Value} {b:Bool}
inductive TyOf (K:į) (H:Hp):V->Œ Ě where
  | non:wm .non "NoneType"
  | bl (x:Bool):wm (.bl x) "bool"
  | int (i:Int):wm ĳ jA
  | str (x:Str):wm aL "str"
  | flt (x:UInt64):wm (.flt x) "float"
  | lst {a:Addr} {xs:İ} (e:ox a):wm Ī ý
  | frz {a:Addr} {o:Obj} {xs:İ} (e:gJ a o k6):wm Ī ý
  | tup {a:Addr} {xs:İ} (e:Ï a rn):wm Ī ad
  | dK {a:Addr} {kvs:Aq} (e:Ï a v6):wm Ī iN
  | dT {a:Addr} {kvs:kY} (e:Ï a rm):wm Ī iN
  | ins {a C dx:Addr} {fs:iH V} (e:Ï a (.ins C dx fs)) (cl:Cls K C) (ha:PySem.W.findIn K (Č C) "__class__" = ā (ā GM))
      (hn:PySem.W.specialIn K GM "__get__" = ā XE) (htk:PySem.W.takesIn K GM=cV)
      (hm:PySem.W.mroIn K C (Ÿ "object")=cV):TyOf K H Ī (Č C)
universe E_
structure Room(k:Nat)(A:ξ):Prop where
  hd:bD
  dp:Dv+3*k+5<GN
  un:uq+16*k+200<cLine
theorem Room.deeper{k:Nat}{A:ξ}(r:Room ς A)(env:Env):jC (yp env):=
  XF
theorem Room.depth{k:Nat}{A:ξ}(r:jC A):Dv<GN:=fq r.dp
theorem Room.units{k:Nat}{A:ξ}(r:jC A):uq+64<cLine:=fq r.un
def tNil:TA:=ŷ _ (Q [] H)
def tCons(ta:TE)(tr:TA):TA:=ŷ σ (GI x (tr σ H1 fun xs H2=>Q (x::xs) H2))
section
variable {X:Cx} {e:Expr} {es:List Expr} {te:TE} {t:TA} {pos:Pos}
def pa_nil:PA X [] tNil:=fun _ _ _ _ H Q I h=>Calls.spliced_nil ⟨[],H,I,.nil,h⟩
def wq(ha:bC te)(hr:PA X es t)(hs:mG ai=GO:=by rfl):yq (tCons te t):=by
  intro pos pins s σ H Q I h;rw[hs];show rY _ (spliced (pU e::JJ pos)) _ _ s;refine Calls.spliced_cons (Dg _ u lm);exact XG
def tTup(t:TA):TE:=wc xs (x4/\∀p,H1 p=none->oF p H1 rn)
def tLst(t:TA):TE:=wc xs (x4/\∀p,H1 p=none->oF p H1 k6)
def pe_tup{x1}(h:PA X es t):PE X (.Tuple es x1 pos) (tTup t):=by
  intro pins s σ H Q I hq;refine wpAny_Tuple_spliced XI;have hf:H1 f7=none:=N7;refine(XH rn);exact⟨z,us,r,⟨_,Ø,pJ,_,rfl⟩⟩
def pe_lst(h:PA X es t):PE X (.List es pos) (tLst t):=by
  intro pins s σ H Q I hq;refine wpAny_List_spliced XI;have hf:H1 f7=none:=N7;refine(XH k6);exact⟨z,us,0,r,Ø⟩
universe E_
abbrev Sp:=İ->Hp->VK->Œ XK
abbrev CXT:=ju->Hp->č->XK->ú
structure Env0(P:ř)(w:ł)(K:į)(mg:Τ)(base:Heap)(A:ξ)(ś:ju)(s:č)(H:Hp):Prop where
  frames:A.frames=ā ś
  mod:Mod K mg base
  bs:∀b o,base.get? b=ē->cP/\bv
  bsz:base.objs.size<=ġ
  funs:NG base ś
  frf:(∀b∈frs ś,bv)/\TabsOk K H
  hok:iI Ė
  bare:AllBare s.gens
def CE(ś:ju)(P:ř)(w:ł)(H:Hp)(s:č)(Q:VK)(u:Ě)(s':č):Prop:=
  ∃v H',s'.os=s.os/\AllBare s'.gens/\Un (frs ś) [] H H' Ė s'.heap/\HOk P w H' s'.heap/\dv/\Q v H'
def CR(CX:CXT)(ś:ju)(P:ř)(w:ł)(H:Hp)(s:č)(Q:VK)(E:XK)(r:Result)(s':č):Prop:=
  match r with
  | yt u=>GP H Q
  | .ok _=>cM
  | .error e=>CX ś H s E e s'
structure FnOk(P:ř)(w:ł)(K:į)(mg:Τ)(base:Heap)(CX:CXT)(k:Nat)(f:Addr)(fd:rZ)(ps:ĥ)(sp:Sp):Prop where
  len:XJ
  run:∀(A:ξ) (ś:ju) (s:č) (H:Hp) (args:Args) (us:ŉ) (vs:İ) (Q:VK) (E:XK),jC A->yu H->BindsTo s fd args (ut us)->ub->sp vs H Q E ->
    ur P w A (ľ bE args) (CR CX ś P w H s Q E) s
def Inv.env0{X:Cx}{pins:ğ}{σ:St}{H:Hp}{s:č}(I:Ĥ):Env0 aj X.w X.K X.mg mr X.A dH s H:=
  ⟨I.ok.frames,I.ok.mod,I.bs,Gv I.sz,I.stack,⟨I.stkFree,I.tabs⟩,Φ,I.bare⟩
def Inv.after{X:Cx}{pins:ğ}{σ:St}{H:Hp}{s s':č}{Q:VK}{u:Ě}(I:Ĥ)(h:CE dH aj X.w H s Q u s'):mx u s':=by
  obtain⟨v,H',os,bare,un,hok,r,q⟩:=h;obtain⟨hh,g,d,t,os'⟩:=s';obtain rfl:os'=s.os:=os;exact⟨v,H',I.call (h':=hh) (g':=g) (d':=d) (t':=t) (ch:=[]) un hok bare (fun b z=>ĸ z Ģ),r,q⟩
def tCall(sp:Sp)(dvs:İ)(E:XK)(t:TA):TE:=wc vs (sp (vs++dvs) H1 Q E)
def Binds(K:į)(fd:rZ)(ps:ĥ)(ds:ŉ):Prop:=
  ∀(s:č) (us:ŉ),K.In Ė->Ć (us++ds)=τ->BindsTo s fd ⟨us,[]⟩ (ut (us++ds))
def Binds.all{K:į}{fd:rZ}{ps:ĥ}(h:∀us:ŉ,aY=τ->bindArgs fd ⟨us,[]⟩=GQ us):Binds K fd ps []:=fun s us _ hl=>by
  rw[fv]at hl ⊢;exact .of_eq (h us hl)
def Passes(CX:CXT)(X:Cx)(E:XK):Prop:=∀(pins:ğ) (σ:St) (H:Hp) (s:č) (e:Ě) (s':č),Ĥ->CX dH H s E e s'->X.xe e s'
def run_fn{X:Cx}{CX:CXT}{k:Nat}{f:Addr}{fd:rZ}{ps:ĥ}{sp:Sp}{dvs:İ}{ds:ŉ}{E:XK}{pins:ğ}{σ:St}{H:Hp}{s:č}{Q:VK}{us:ŉ}{vs:İ}(F:GS CX f sp)(hr:uu)(hb:GR ds)(hd:Vals dvs ds)(hx:Passes CX X E)
    (I:Ĥ) (r:ub) (h:sp (vs++dvs) H Q E):uh (call bE us):=by
  have r2:Vals (vs++dvs) (us++ds):=r.append hd;have hl:Ć (us++ds)=τ:=ŏ r2.length (F.len _ _ _ _ h)
  refine J3 (wu (F.run X.A dH s H ⟨us,[]⟩ (us++ds) (vs++dvs) Q E hr I.env0 (hb s us I.kIn hl) r2 h) (Ğ r s' hq));cases r with
  | error e=>exact hx pins σ H s e s' I hq
  | ok fl=>
    cases fl with
    | ret u=>exact I.after hq
    | next=>exact eG hq
    | brk=>exact eG hq
    | cont=>exact eG hq
def pe_call{X:Cx}{CX:CXT}{k:Nat}{f:Addr}{fd:rZ}{ps:ĥ}{sp:Sp}{dvs:İ}{ds:ŉ}{E:XK}{x:Str}{p pos:Pos}{e:Expr}{es:û}{t:TA}(F:GS CX f sp)(hr:uu)(hg:pQ)(hm:AD=pX)(hk:yv X.K f=true)(hb:GR ds)(hd:Vals dvs ds)(hx:Passes CX X E)
    (ha:yq t) (hdb:mz:=by decide) (he:mG ai=GO:=by rfl) (hpl:J4=ă:=by rfl) :
    AW x (tCall sp dvs E t):=by
  intro pins s σ H Q I h;refine AV (ld_glob I hg hm ?_ hdb);refine PySem.W.callWith_K (h₀:=mr) I.ok.mod.kin hk (thn NX fun us s1 ⟨vs,H1,I1,r,q⟩=>au I1.kIn) he hpl;exact run_fn F hr hb hd hx I1 r q
def PK(X:Cx)(kws:GT)(t:TA):Prop:=
  Sy pos Pos İ (evalAll XM) (AP X pins σ Q)
def pk_nil{X:Cx}:PK X [] tNil:=fun _ _ _ _ H Q I h=>wpAny_evalAll_nil ⟨[],H,I,.nil,h⟩
def pk_cons{X:Cx}{kpos:Pos}{e:Expr}{kws:GT}{te:TE}{t:TA}{nm:ĕ Str}(ha:bC te)(hr:PK X kws t):PK X (⟨nm,e,kpos⟩::kws) (tCons te t):=by
  intro pos pins s σ H Q I h;show rY _ (evalAll ((do let v ←cn e;standAt pos;pure v)::XM)) _ _ s;refine wpAny_evalAll_cons (ą (Ds _ fun u s1 lm=>ą (NP bF)));exact XG
structure FnScope(N P:ĥ)(sc:ù):Prop where
  kind:yw=on
  co:Dx=ă
  gen:Dw=ă
  nd:N.Nodup
  pre:mK P.length=P
  par:∀x∈P,dB=dF\/dB=aO
  nofree:∀y∈cq,y.2 ≠ .free
theorem bindL_out{oG:Str->ĕ Dy}{x:Str}:XN (bindL oG binds m x)
  | [],_,_=>rfl
  | (n,v)::r,m,h=>by
    unfold bindL;rw[bindL_out (fw w hw)];split
    · have:x≠n:=by rintro rfl;exact h v Υ
      simp[this]
    · rfl
theorem bindC_out{oG:Str->ĕ Dy}{x:Str}:XN (bindC oG binds m x)
  | [],_,_=>rfl
  | (n,v)::r,m,h=>by
    unfold bindC;rw[bindC_out (fw w hw)];split
    · rfl
    · have:x≠n:=by rintro rfl;exact h v Υ
      simp[this]
theorem bindL_get{oG:Str->ĕ Dy}{x:Str}{v:Ě}:∀{P:ĥ} {vs:ŉ} {i:Nat} {m:Τ},P.Nodup->mw P->AX->oG x=dF ->
    bindL oG (P.zip vs) m x=dw
  | [],_,_,_,_,h,_,_=>og h
  | _::_,[],_,_,_,_,h,_=>og h
  | p::P,w::vs,0,m,nd,h1,h2,hk=>by simp at h1 h2;subst h1;subst h2;show bindL oG N8 m p=_;unfold bindL;rw[bindL_out XO,ĉ hk];simp
  | p::P,w::vs,i+1,m,nd,h1,h2,hk=>by show bindL oG N8 m x=_;unfold bindL;exact bindL_get (i:=i) (yx nd).2 (Ķ h1) (Ķ h2) hk
theorem bindC_get{oG:Str->ĕ Dy}{x:Str}{v:Ě}:∀{P:ĥ} {vs:ŉ} {i:Nat} {m:Τ},P.Nodup->mw P->AX->oG x≠dF ->
    bindC oG (P.zip vs) m x=dw
  | [],_,_,_,_,h,_,_=>og h
  | _::_,[],_,_,_,_,h,_=>og h
  | p::P,w::vs,0,m,nd,h1,h2,hk=>by simp at h1 h2;subst h1;subst h2;show bindC oG N8 m p=_;unfold bindC;rw[bindC_out XO,ĝ hk];simp
  | p::P,w::vs,i+1,m,nd,h1,h2,hk=>by show bindC oG N8 m x=_;unfold bindC;exact bindC_get (i:=i) (yx nd).2 (Ķ h1) (Ķ h2) hk
def start(N:ĥ)(vs:İ):St:=vs.map some++J5 (gQ - aP) none
def cxOf(CX:CXT)(P:ř)(w:ł)(K:į)(mg:Τ)(base:Heap)(N:ĥ)(qual:Str)(Ŋ:ù)(f:Addr)(cd:Ě)(A:ξ)(ś:ju)(s:č)(H:Hp)(E:XK):Cx where
  prog:=P
  w:=w
  K:=K
  mg:=mg
  base:=base
  A:=yp Dz
  N:=N
  s₀:=s
  H₀:=H
  env:=Dz
  ś:=ś
  stack:=Dz::ś
  ex:=[]
  calm:=true
  fn:=ş true
  pn:=[]
  xe:=fun e s'=>GG (yp Dz) (leaving Dz e) (fun _ s''=>CX ś H s E e s'') (fun e' s''=>CX ś H s E e' s'') s'
def cell_has{sc:ù}{n:Nat}{x:Str}(h:dB=aO):∃c,cr (DB n cq []) x=Ś:=by
  have q:=N9 cq n [] (ď h);exact DA q
def inv_start{CX:CXT}{P:ř}{w:ł}{K:į}{mg:Τ}{base:Heap}{N ps:ĥ}{qual:Str}{Ŋ:ù}{f:Addr}{cd:Ě}{A:ξ}{ś:ju}{s s1:č}{H:Hp}{E:XK}{us:ŉ}{vs:İ}
    (S:FnScope N ps Ŋ) (hd:bD) (e0:yu H) (hl:aP=τ) (r:ub)
    (x:InCallC s ġ (bindL (Dz).kindOf (ut us) (ş none)) (DC ġ []) (bindC (Dz).kindOf (ut us) (ş none)) s1) :
    Inv (GV CX cd E) [] (start N vs) H s1:=by
  have hpl:τ<=gQ:=Oa (oy List.length S.pre) mL
  obtain⟨h1,tk,rfl,hk⟩:=x.done;have noA:∀b:Addr,b∉(GV CX cd E).ex:=yy b z ŀ
  refine⟨⟨e0.mod,S.kind,rfl,rfl,ħ,ν y z c h1 h2,Ĝ y hy,Ļ y c _ h,ş hd,Around.frames_deeper e0.frames,ė pJ,fun b z=>ĸ z (noA b),e0.bs,e0.bsz,fun b _ _=>noA b,fun b z=>ĸ z (noA b),e0.funs,e0.frf⟩,
    rfl,e0.bare,Un.kept hk,⟨_,x.toInCall.ns,fun i y v h1 h2 h3=>?_⟩,fun y c h=>⟨_,x.cell y c h⟩,e0.hok.fresh ħ,Ğ y c h,yy p hp ğ,e0.hok.kept hk,?_⟩
  · exact name_of_addr x.apart (eI h1) (eI h2)
  · have hy:ol (ww y):=hy
    rcases hy with hy | hy
    · exact cell_has hy
    · exact pY (S.nofree _ (eI hy))
  · exact ua (x.above y c (eI h))
  · have hi:i<aP:=by
      unfold start at h2;by_cases hi:i<aP
      · exact hi
      · rw[uw (Ķ hi)]at h2
        rw[J7]at h2;split at h2<;>cases h2
    have ha:AX:=by
      unfold start at h2;rw[uv (Ķ hi),ō]at h2;cases e:vs[i]? with
      | none=>rw[e]at h2;cases h2
      | some a=>rw[e]at h2;cases h2;rfl
    obtain⟨u,hu,rv⟩:=r.get ha;have hp:ĭ ps y:=(GU S.pre (J6 Ă) h1);have ndP:ps.Nodup:=SQ
    refine(bx u rv);rcases S.par y (iO hp)with k | k
    · exact ď ⟨k,bindL_get ndP hp hu k⟩
    · obtain⟨c,e⟩:=cell_has (n:=jD) k
      refine ė ⟨ď k,c,e,?_⟩;have q:=x.cell y c e;rw[bindC_get ndP hp hu (by show ww y≠_;rw[k];decide)]at q;exact q
  · exact e0.hok.fresh (ua (x.above y c (eI h)))
  · unfold start
    show _=gQ;rw[Â,ċ,N_];omega
def fn_of{CX:CXT}{P:ř}{w:ł}{K:į}{mg:Τ}{base:Heap}{k:Nat}{f:Addr}{name qual:Str}{params:dM}{body:ah}{Ŋ:ù}{dV kV doc pm cdv ct oc:Ě}{an od:AC}
    {osl:gH jr} {N ps:ĥ} {sp:Sp} (lk:jt f=ā ⟨oc,od,.func XQ,osl⟩) (hcd:J8 K cdv qual=true) (S:FnScope N ps Ŋ)
    (len:XJ)
    (hbody:∀(A:ξ) (ś:ju) (s:č) (H:Hp) (vs:İ) (Q:VK) (E:XK),jC (yp (envOfC qual Ŋ ġ f cdv))->sp vs H Q E ->
      XR (GV CX cdv E) body H') :
    GW CX ς f XQ ps sp:=by
  refine⟨len,SU e0 r hsp⟩;have hl:=len _ _ _ _ hsp;have KX:K.In Ė:=e0.mod.kin.keeps (fY (e0.bs b o e).1)
  have lim:s.heap.NoLimit:=e0.mod.nolimit.keeps (fY (e0.bs b o e).1)
  have hkind:∀y∈ut us,ww y.1=dF\/(ww y.1=aO/\pN (cr (DC ġ []) y.1)=true):=fun ⟨n,v⟩ hy=>by
    rcases S.par n (SR hy).1 with q | q
    · exact ď q
    · exact oH q (N9 _ _ _ (ď q))
  refine codeAny_call_function hr.depth (KX _ _ lk) rfl S.co S.gen rfl (PySem.W.codeRec_of KX hcd) (hb _ _ _ _ ?_)
  refine wpAny_newFunctionEnv_cells S.kind hkind (Ļ env he s1 x)
  subst he;refine⟨lim.keeps x.toInCall.keep,codeAny_func ?_⟩;obtain⟨t,ht,hq⟩:=hbody A ś s H vs Q E (hr.deeper _) hsp;have I:Inv (GV CX cdv E) [] (start N vs) H s1:=inv_start S hr.hd e0 hl r x;refine jx (ht [] s1 (start N vs) H _ I hq) (Ğ fl s' hs) fun e s' hs=>hs
  have fin:∀{σ':St} {H':Hp} {v:V} {u:Ě},Inv (GV CX cdv E) [] σ' H' s'->dv->Q v H'->GP H Q:=
    fun {σ' H' v u} J rv q=>⟨v,H',J.os,J.bare,J.base,J.hok,rv,q⟩
  cases fl with
  | ret u=>
    obtain⟨v,σ',H',J,rv,q⟩:=hs;exact fin J rv q
  | next=>
    obtain⟨σ',H',J,q⟩:=hs;exact fin (v:=V.non) (u:=rg) J rfl q
  | brk=>
    obtain⟨_,_,_,q⟩:=hs;exact eG q
  | cont=>
    obtain⟨_,_,_,q⟩:=hs;exact eG q
section
variable {X:Cx} {x:Str} {p pos:Pos} {e:Expr} {es:List Expr} {t:TA} {id T:String} {r:List V->Hp->VK->Prop}
def tCB(r:İ->pP)(t:TA):TE:=wc vs (r vs H1 Q)
def pe_callB(hc:AU id r)(hg:pQ)(hm:AE)(hv:rq x=ā (lw id))(ha:yq t)(hn:v9:=by decide)(hdb:mz:=by decide)
    (he:mG ai=GO:=by rfl) (hpl:J4=ă:=by rfl):AW x (tCB r t):=by
  intro pins s σ H Q I h;refine AV (JN hv ?_ hn hdb);exact PyProof.Rows.callWith_builtin1 XS he hpl
def pe_callTy(hc:DD T r)(hg:pQ)(hm:AE)(hv:rq x=ā (Ÿ T))(ha:yq t)(hn:v9:=by decide)(hdb:mz:=by decide)
    (he:mG ai=GO:=by rfl) (hpl:J4=ă:=by rfl):AW x (tCB r t):=by
  intro pins s σ H Q I h;refine AV (JN hv ?_ hn hdb);exact XT XS he hpl
universe E_
universe L2
namespace HT
open PySem PyProof.Rows
def sIx(n d:Nat):iP->Nat
  | none=>d
  | dw=>XU
universe HT
namespace L2
open PySem PySem.Spec PyProof.Rows
abbrev TO:=St->De iP
def PO(X:Cx)(e:yz)(t:TO):Prop:=
  ∀(pins:ğ) (s:č) (σ:St) (H:Hp) (Q:iP->cj),Ĥ->t σ H Q ->
    AH (evalPart e ū) u s' (∃o H',yd/\IsPart u o/\Q o H')
def tNoPart:TO:=ŷ _ (Q none H)
def tPart(t:TE):TO:=wc x (∃i,x=ĳ/\Q eJ H1)
section
variable {X:Cx} {e:Expr} {te:TE} {lo hi:Option Expr} {tl th:TO} {pos p2:Pos}
def po_none:PO X none tNoPart:=by
  intro pins s σ H Q I h;rw[evalPart_none];exact Ņ ⟨none,H,I,Ĺ,h⟩
def po_some(h:bC te):PO X (ā e) (tPart te):=by
  intro pins s σ H Q I hw;rw[evalPart_some];refine Æ (h pins s σ H _ I hw) u s1 lm
  obtain⟨i,rfl,q⟩:=q1;obtain⟨t,rfl⟩:=r1;exact⟨eJ,H1,I1,ĳ t,q⟩
def SlR(X:Cx)(r:Ob):Prop:=
  ∀(pins:ğ) (s:č) (σ:St) (H:Hp) (x:V) (v vl vu:Ě) (lo hi:iP) (sl:Addr) (Q:VK),Ĥ->rP->s.heap.IsSliceOf sl vl vu Ĺ->IsPart vl lo->IsPart vu hi->r x lo hi H Q ->
    ∃T id,XV/\r6 v T/\uh (getItem v (Č sl))
def tSl(r:Ob)(te:TE)(tl th:TO):TE:=ŷ σ (te σ H fun x H1=>tl σ H1 fun l H2=>th σ H2 fun u H3=>r x l u H3 Q)
def pe_slice{r:Ob}(hr:SlR X r)(he:bC te)(hl:PO X lo tl)(hu:PO X hi th):PE X (iM e (.Slice lo hi none p2) pos) (tSl r te tl th):=by
  intro pins s σ H Q I h;refine Subscript_ (Æ GE v s1 lm);refine wpAny_Slice (thn (hl pins s1 σ H1 _ I1 q1) fun vl s2 ⟨l,H2,I2,pl,q2⟩=>Æ (hu pins s2 σ H2 _ I2 q2) vu s3 ⟨u,H3,I3,pu,q3⟩);rw[evalPart_none];refine bF;have I4:iJ H3 SW:=I3.kept (t':=s3.toks) fun b ob q=>ű q
  obtain⟨T,id,hT,ht,hg⟩:=hr pins SW σ H3 x v vl vu l u SV Q I4 r1 (Heap.IsSliceOf.new ..) pl pu q3;show cR (subscriptTail e (.Slice lo hi none p2) v (Č SV)) mx X.xe SW;exact tail_any (ops:=[Č SV,v]) ht hT hg (by with_unfolding_all rfl)
def cutV(xs:İ)(lo hi:iP):İ:=(xs.drop (r9 Ä 0 lo)).take (SX Ä)
def cutV_length(xs:İ)(lo hi:iP):Ć (cutV xs lo hi)<=Ä:=by
  unfold cutV;rw[mL,J9];omega
universe E_
def ixN(n:Nat)(i:Int):ĕ Nat:=XW
def atI{α:Type}(xs:Ρ)(i:Int):ĕ α:=(ixN Ä i).bind fun j=>xs[j]?
def ixN_seq{n:Nat}{i:Int}{j:Nat}(h:ixN n i=jF):seqIndex? i n=jF/\j<n /\ -ρ<=i/\i<n:=by
  unfold ixN at h;by_cases h0:0<=i
  · rw[ĉ h0]at h
    by_cases h1:i<n
    · rw[ĉ h1]at h
      have e:i.toNat=j:=eC h;exact⟨ţ (seqIndex_of h0 h1) e,Ę,Ę,h1⟩
    · rw[ĝ h1]at h;cases h
  · rw[ĝ h0]at h
    by_cases h1 : -ρ<=i
    · rw[ĉ h1]at h
      have e:(i+n).toNat=j:=eC h;exact⟨ţ (seqIndex_neg Ă h1) e,Ę,h1,Ę⟩
    · rw[ĝ h1]at h;cases h
def atI_get{α:Type}{xs:Ρ}{i:Int}{v:α}(h:atI xs i=dw):∃j,seqIndex? i Ä=jF/\Į xs j v/\j<Ä /\ -(Ä:Int)<=i/\i<Ä:=by
  unfold atI at h;cases e:ixN Ä i with
  | none=>rw[e]at h;cases h
  | some j=>
    rw[e]at h;obtain⟨h1,h2,h3,h4⟩:=ixN_seq e;exact⟨j,h1,h,h2,h3,h4⟩
def PlainIx(b:Expr):Prop:=∀o i,Od b o i=SY o i
def IxR(X:Cx)(r:R2):Prop:=
  ∀(jG mM:Expr) (pins:ğ) (s:č) (σ:St) (H:Hp) (x y:V) (v u:Ě) (Q:VK),Ĥ->rP->aZ y->r x y H Q ->
    Od mM v u=SY v u->uh (subscriptTail jG mM v u)
def MtR(X:Cx)(id:du)(r:yA):Prop:=
  ∀(pins:ğ) (s:č) (σ:St) (H:Hp) (x:V) (xs:İ) (v:Ě) (us:ŉ) (Q:VK),Ĥ->rP->iG xs->r x xs H Q ->
    uh (pZ id (v::us))
section
variable {X:Cx} {a b:Expr} {ta tb:TE} {pos:Pos}
def IxR.or{r r':R2}(h:IxR X r)(h':IxR X r'):IxR X (lu (r x y H Q\/r' x y H Q)):=by
  intro jG mM pins s σ H x y v u Q I rx ry q hs;rcases q with q | q
  · exact h jG mM pins s σ H x y v u Q I rx ry q hs
  · exact h' jG mM pins s σ H x y v u Q I rx ry q hs
def pe_ix{r:R2}(hr:IxR X r)(ha:uc)(hb:yg)(hs:PlainIx b):PE X (iM a b pos) (tOp r ta tb):=by
  intro pins s σ H Q I h;exact Subscript_ (XX (hr a b pins s2 σ H2 x y v u Q I2 rx ry q (hs _ _)))
def rIxL(K:į):R2:=lu (XY (SqL K H p xs))
def rIxT(K:į):R2:=lu (XY (SqT K H p xs))
def rIxS:R2:=lu (∃z i c,x=.str z/\y=ĳ/\Ù z.length/\atI z.cps.toList i=Ś/\Q (.str ⟨#[c]⟩) H)
def ix_list:IxR X (rIxL X.K):=by
  intro jG mM pins s σ H x y v u Q I rx ry h hs;obtain⟨p,xs,i,z,rfl,rfl,hq,he,q⟩:=h;cases rx;obtain⟨t,rfl⟩:=ry;obtain⟨its,r,pl,hz⟩:=uj;obtain⟨j,h1,h2,h3,h4,h5⟩:=atI_get he;obtain⟨w,ew,rw'⟩:=r.get h2;have hl:=Ű;have hn:=line63;have fin:mx w s:=⟨z,H,I,rw',q⟩;by_cases h0:0<=i
  · have hj:i.toNat=j:=by
      rw[seqIndex_of h0 h5]at h1;exact eC h1
    exact item_listR pW h0 Ă (by rw[hj];simpa using ew) fin hs
  · have hj:(i+(its.toArray.size:Int)).toNat=j:=by
      rw[seqIndex_neg Ă h4]at h1;rw[cU,←hl];exact eC h1
    exact subscriptTail_builtinR (x:=w) pl.isList.typeIs slot_list_getitem.lookup
      (wpAny_getItem_list_neg (Q:=fun r s'=>r=w/\mx r s') pW Ă (by rw[cU]<;>omega) Ă (by rw[hj];simpa using ew) (bG fin)) hs
def ix_tup:IxR X (rIxT X.K):=by
  intro jG mM pins s σ H x y v u Q I rx ry h hs;obtain⟨p,xs,i,z,rfl,rfl,hq,he,q⟩:=h;cases rx;obtain⟨t,rfl⟩:=ry;obtain⟨its,r,pl,hz⟩:=pR hq;obtain⟨j,h1,h2,h3,h4,h5⟩:=atI_get he;obtain⟨w,ew,rw'⟩:=r.get h2;have hl:=Ű;have hn:=line63;have fin:mx w s:=⟨z,H,I,rw',q⟩;exact subscriptTail_builtinR (x:=w) pl.typeIs slot_tuple_getitem.lookup
    (getItem_tuple (j:=j) (Q:=fun r s'=>r=w/\mx r s') pl Ă Ă (SZ h1) (Ķ ew) (bG fin)) hs
def ix_str:IxR X rIxS:=by
  intro jG mM pins s σ H x y v u Q I rx ry h hs;obtain⟨z,i,c,rfl,rfl,hz,he,q⟩:=h;obtain⟨t,rfl⟩:=rx;obtain⟨t',rfl⟩:=ry;obtain⟨j,h1,h2,h3,h4,h5⟩:=atI_get he;have hl:z.cps.toList.length=z.length:=aC Str.length
  rw[hl]at h1 h4 h5;have hn:=line63;exact tail_any (typeIs_str s z t) slot_str_getitem.lookup (getItem_str (c:=c) (by
    have e1:ě (i < -(2^63:Int))=ă:=r_;have e2:ě (i ≥ 2^63)=ă:=r_;rw[e1,e2,Bool.or_false]) (by rw[h1];simpa using h2) (yh (.str ⟨#[c]⟩) q)) hs
def rIx(K:į):R2:=lu (rIxL K x y H Q\/rIxT K x y H Q\/rIxS x y H Q)
def ix_seq:IxR X (rIx X.K):=ix_list.or (ix_tup.or ix_str)
def mapSeq_set(its:ŉ)(n j:Nat)(u:Ě):mN (·.setIfInBounds j u) C' = ae ý (.seq (its.set j u).toArray n):=by
  simp[mN]
theorem Inv.lst{pins:ğ}{σ:St}{H:Hp}{s:č}{p:Addr}{xs:İ}(I:Ĥ)(h:ox p) :
    Sj (iQ p C' /\ x4):=by
  obtain⟨z,its,n,r,e⟩:=Φ p _ h;exact⟨its,n,r,e,z⟩
def Inv.lstUpd{pins:ğ}{σ:St}{H:Hp}{s:č}{p:Addr}{xs ys:İ}{its its':ŉ}{n n':Nat}{f:Obj->Obj}(I:Ĥ)(h:ox p)
    (ho:iQ p C') (hf:f C' = ae ý (.seq its'.toArray n')) (r:Vals ys its') (hz:Ù AY) (t:Nat) :
    pO (wy p ys) (Ka p f) t:=by
  have e:(Ka p f).get? p=ā (ae ý (.seq its'.toArray n')):=(ţ (J_ f ho (by rw[hf]<;>rfl)) hf);refine I.write (x:=p) (e:=p) (by rw[h];trivial) Ð (fun b u hb q=>Ţ (Oe _ _ hb) q) ⟨_,e⟩ ?_;exact⟨hz,its',n',r,e⟩
def rSetL:V->V->V->Hp->Œ cj:=fun o i v H Q=>∃p xs k j,o=fj/\i=dN/\ox p/\ixN Ä k=jF/\Q (wy p (xs.set j v))
def set_list:PSet X rSetL:=by
  intro pins s σ H o i v ov iv u Q I ro ri rv h;obtain⟨p,xs,k,j,rfl,rfl,hp,hj,q⟩:=h;cases ro;obtain⟨t,rfl⟩:=ri;obtain⟨its,n,r,ho,hz⟩:=I.lst hp;obtain⟨h1,h2,h3,h4⟩:=ixN_seq hj;have hl:=Ű;have hn:=line63;have I':iJ (wy p (xs.set j v)) (dJ (Ka p (mN (·.setIfInBounds j u)))):=
    I.lstUpd hp ho (mapSeq_set its n j u) (r.set rv j) (Ą sf hz) cW
  by_cases h0:0<=k
  · have hk:k.toNat=j:=by
      rw[seqIndex_of h0 h4]at h1;exact eC h1
    exact PySem.W.ki_setAt ho h0 Ă (SZ h4) (rF hk ⟨_,I',q⟩)
  · have hk:(k+(its.toArray.size:Int)).toNat=j:=by
      rw[seqIndex_neg Ă h3]at h1;rw[cU,←hl];exact eC h1
    exact PySem.W.ki_setBack ho Ă (SZ h3) Ă (rF hk ⟨_,I',q⟩)
def slice_bounds(lo hi:iP)(n:Nat):(DE lo hi none n).1=ı (r9 n 0 lo)/\(DE lo hi none n).2.1=ı (r9 n n hi)/\(DE lo hi none n).2.2=1:=by
  refine(f9 ?_ ?_)
  · cases lo with
    | none=>simp[DE,r9]
    | some i=>
      simp only[DE,r9,Option.getD_none,A0 (AZ>0),f8];by_cases h:i<0
      · simp only[h,f8]<;>omega
      · simp only[h,si]<;>omega
  · cases hi with
    | none=>simp[DE,r9]
    | some i=>
      simp only[DE,r9,Option.getD_none,A0 (AZ>0),f8];by_cases h:i<0
      · simp only[h,f8]<;>omega
      · simp only[h,si]<;>omega
def slicePick_cut(its:ŉ)(lo hi:iP):slicePick mq lo hi none=((its.drop (r9 its.length 0 lo)).take (SX its.length)).toArray:=by
  obtain⟨h1,h2,h3⟩:=slice_bounds lo hi its.toArray.size;unfold slicePick;rw[h1,h2,h3];simp only[sliceRange_one,pick_run,cU]<;>rfl
def rSlL(K:į):Ob:=fun x lo hi H Q=>∃a xs,x=Ī/\yk/\∀p,iR->oF p H (.lst (cutV xs lo hi))
def sl_list:SlR X (rSlL X.K):=by
  intro pins s σ H x v vl vu lo hi sl Q I rx hs pl pu h;obtain⟨a,xs,rfl,hx,q⟩:=h;cases rx;obtain⟨its,r,ht,hz⟩:=rN hx;have hlen:=Ű;refine⟨ý,_,slot_list_getitem.lookup,ht.isList.typeIs,?_⟩;refine wpAny_getItem_list_slice ht.isList hs pl pu Ĺ Ģ ?_ (by rw[cU]<;>omega);rw[slicePick_cut,←hlen];refine⟨bj,_,Kb cW (o:=.lst (cutV xs lo hi)) (fun b ob q=>ű q) ħ ?_,rfl,q _ A1⟩;exact⟨š (cutV_length xs lo hi) hz,_,0,(r.drop (r9 Ä 0 lo)).take (SX Ä),Ø⟩
def call_len_seq:AU "len" (X0 (GF AY)):=by
  intro pins s σ H xs us Q I r h;obtain⟨p,ys,rfl,hq,q⟩:=h;obtain⟨u,rfl,rx⟩:=yB;cases rx;have hn:=line63;rcases hq with hq | hq
  · obtain⟨its,r',pl,hz⟩:=uj
    have hlen:=r'.length;exact Calls.call_len_list pW Of XZ
  · obtain⟨its,r',pl,hz⟩:=pR hq
    have hlen:=r'.length;exact len_tuple pl Of XZ
def call_list_of:DD ý (X0 (∀l,ao l->oF l H (.lst ys))):=by
  intro pins s σ H xs us Q I r h;obtain⟨p,ys,rfl,hq,q⟩:=h;obtain⟨u,rfl,rx⟩:=yB;cases rx;have fin:∀(its:ŉ),Vals ys its->Ù AY->∀(h':Heap) (c':Nat),(∀b o',iQ b o'->ba b=ā o') ->
      ba ġ=ā (Kc ý none mq c' #[]) -> mx bj (dJ h'):=fun its r' hz h' c' kp e=>
    ⟨bj,_,Kb cW kp ħ (show rC _ h' _ (.lst ys)from⟨hz,its,c',r',e⟩),rfl,q _ A1⟩
  rcases hq with hq | hq
  · obtain⟨its,r',pl,hz⟩:=uj
    have hlen:=r'.length;obtain⟨o,ho,hc,n,hd⟩:=pW;exact X1 Ð
  · obtain⟨its,r',pl,hz⟩:=pR hq
    have hlen:=r'.length;obtain⟨o,ho,hc,n,hd⟩:=pl;exact X1 iK
def call_tuple_of:DD ad (ŷ xs (∃p ys,xs=[fj]/\((ug p ys/\∀l,ao l->oF l H (ģ ys))\/(SqT X.K H p ys/\Q fj H)))):=by
  intro pins s σ H xs us Q I r h;obtain⟨p,ys,rfl,h⟩:=h;obtain⟨u,rfl,rx⟩:=yB;cases rx;rcases h with⟨hq,q⟩ | ⟨hq,q⟩
  · obtain⟨its,r',pl,hz⟩:=uj
    have hlen:=r'.length;refine call_tuple_list pW (Ĝ h' kp) Of;have I1:NO:=NN kp;have I2:iJ (aq DF (ģ ys)) (dJ (h'.push (ae ad (.seq mq)))):=
      I1.laid (t':=cW) yl ħ (show rC _ _ _ (ģ ys)from⟨hz,its,r',IsTupN.new _ _⟩)
    exact⟨Č DF,_,I2,rfl,q _ N7⟩
  · obtain⟨its,r',pl,hz⟩:=pR hq
    exact call_tuple_same pl ⟨fj,H,I,rfl,q⟩
def tyV(K:į)(T:du)(x:V)(H:Hp):Prop:=match x with
  | .str _=>T = "str"
  | dL=>T = jA
  | fj=>(T = ý /\ ∃xs,SqL K H p xs)\/(T = ad /\ ∃o,jt p=ē/\Nz) \/
      (T = iN /\ ((∃kvs,Ï p v6)\/∃kvs,Ï p rm))\/(T = eK /\ ∃S n,Ï p (.set S n))
  | _=>cM
def tyV_is{pins:ğ}{σ:St}{H:Hp}{s:č}{T:du}{x:V}{v:Ě}(I:Ĥ)(r:rP)(ty:tyV X.K T x H) :
    r6 v T/\∀a,v=Ī->∃ob,iQ a ob/\ob.dict=none:=by
  cases x with
  | str z=>
    obtain⟨t,rfl⟩:=r;cases(ž (T = "str") ty);exact⟨typeIs_str s z t,AB _ e⟩
  | int i=>
    obtain⟨t,rfl⟩:=r;cases(ž (T = jA) ty);exact⟨typeIs_int s i t,AB _ e⟩
  | ref p=>
    cases r;rcases ty with⟨rfl,xs,hq⟩ | ⟨rfl,o,hk,hc,hd⟩ | ⟨rfl,hk⟩ | ⟨rfl,S,n,hk⟩
    · obtain⟨its,_,pl,_⟩:=uj
      refine⟨pl.isList.typeIs,Ĝ a e⟩;cases e;obtain⟨o,n,e,c,hd,_⟩:=pl;exact(mO hd)
    · refine⟨⟨o,I.kIn p o hk,hc⟩,Ĝ a e⟩
      cases e;exact⟨o,I.kIn _ o hk,hd⟩
    · have z:∃o,fZ p=ē/\o.ExactDict:=by
        rcases hk with⟨kvs,hk⟩ | ⟨kvs,hk⟩
        · obtain⟨_,_,_,_,o,_,_,e,ex,_⟩:=Φ p _ hk
          exact(mO ex)
        · obtain⟨_,_,_,_,o,_,_,e,ex,_⟩:=Φ p _ hk
          exact(mO ex)
      obtain⟨o,e,ex⟩:=z;refine⟨mO ex.1,Ĝ a e2⟩;cases e2;exact(mO ex.2.1)
    · obtain⟨o,_,_,_,e,ex,_⟩:=Φ p _ hk
      refine⟨mO ex.1,Ĝ a e2⟩;cases e2;exact(mO ex.2.1)
  | _=>exact eG ty
def tBM0(K:į)(T:du)(r:yA)(to:TE):TE:=ŷ σ (to σ H fun x H1=>tyV K T x H1/\r x [] H1 Q)
def tBM(K:į)(T:du)(r:yA)(to:TE)(t:TA):TE:=ŷ σ (to σ H fun x H1=>tyV K T x H1/\t σ H1 fun xs H2=>r x xs H2 Q)
def pe_bm0{o:Expr}{to:TE}{name:Str}{apos cpos:Pos}{T id:du}{r:yA}(pa:PlainAttrs T)(slot:Slot T name id)(hty:typeOf (lw id)=pure (Ÿ "method_descriptor"))(hm:MtR X id r)(ho:PE X o to)
    (hbase:DG o name=cn o:=by rfl) (hline:Oh:=by rfl):PE X (A2 o name apos [] cpos) (tBM0 X.K T r to):=by
  intro pins s σ H Q I h;refine wpAny_Call_method0_late hbase hline X2;obtain⟨h1,h2⟩:=tyV_is I1 r1 ty;exact⟨T,id,pa,slot,hty,h1,h2,Og rfl (PySem.evalArgs_none (hm pins s1 σ H1 x [] v [] Q I1 r1 .nil q1))⟩
def pe_bm{o e:Expr}{es:û}{to:TE}{t:TA}{name:Str}{apos cpos:Pos}{T id:du}{r:yA}(pa:PlainAttrs T)(slot:Slot T name id)(hty:typeOf (lw id)=pure (Ÿ "method_descriptor"))(hm:MtR X id r)(ho:PE X o to)(ha:yq t)
    (hbase:DG o name=cn o:=by rfl)
    (hfew:((backTo cpos (mG ai)).all (fun x=>!x.1)&&(backToKw cpos (keywordEach [] ū)).all (fun x=>x.1.isSome)
      && ě (Ć ai+([]:GT).length+(mE ([]:GT).isEmpty 0 1)<30))=true:=by rfl)
    (hline:Oh:=by rfl) (hs:mG ai=GO:=by rfl) (hplain:(JJ cpos).any eD=ă:=by rfl) :
    PE X (A2 o name apos ai cpos) (tBM X.K T r to t):=by
  intro pins s σ H Q I h;refine wpAny_Call_method_late hbase hfew hline rfl X2;obtain⟨h1,h2⟩:=tyV_is I1 r1 ty;refine⟨T,id,pa,slot,hty,h1,h2,?_⟩;have hA:=ha cpos pins s1 σ H1 _ I1 q1;rw[hs]at hA ⊢;refine Og (by show(ă||(JJ cpos).any eD)=ă;rw[hplain]<;>rfl) (Calls.evalArgs_plain ?_);exact thn hA fun us s2 (yf vs)=>hm pins s2 σ H2 x vs v us Q I2 r1 r2 q2
universe E_
def MtM(X:Cx)(id:du)(r:yA):Prop:=
  ∀(pins:ğ) (s:č) (σ:St) (H:Hp) (x:V) (xs:İ) (v:Ě) (us:ŉ) (Q:VK),Ĥ->rP->iG xs->r x xs H Q ->
    uh (pZ id (v::us))
def Vals.unc(h:Vals (x::xs) b):∃u a,b=u::a/\aZ x/\Vals xs a:=by
 cases h with
 | cons r t=>exact⟨_,_,rfl,r,t⟩
def Vals.nl(h:Vals [] a):a=[]:=by cases h;rfl
def Vals.one{x:V}{us:ŉ}(h:iG [x]):∃u,us=[u]/\aZ x:=by
 obtain⟨u,ws,rfl,r,t⟩:=h.unc;cases t.nl;exact(Á _ r)
def Vals.two{x y:V}{us:ŉ}(h:iG [x,y]):∃u v,us=[u,v]/\aZ x/\RelV y v:=by
 obtain⟨u,ws,rfl,r,t⟩:=h.unc;obtain⟨v,rfl,q⟩:=t.one;exact⟨_,_,rfl,r,q⟩
def Inv.lset{X:Cx}{pins:ğ}{σ:St}{H:Hp}{s:č}{l:Addr}{xs ys:İ}{its its':ŉ}{n:Nat}{f:dz->dz}{t':Nat}(I:Ĥ)(hH:ox l)
    (e:iQ l C') (hf:f mq=its'.toArray) (hv:Vals ys its') (hz:Ù AY) :
    pO (wy l ys) (Ka l (mN f)) t':=by
  have q:=PySem.IsL.update e f;rw[hf]at q;refine I.write (x:=l) (e:=l) (Ą hH p5) Ð (fun b' u hb hu=>Ţ (Oe Ė (mN f) hb) hu) ⟨_,q⟩ ?_;exact⟨hz,its',_,hv,q⟩
def Inv.lnew{X:Cx}{pins:ğ}{σ:St}{H:Hp}{s:č}{ys:İ}{its:ŉ}{t':Nat}(I:Ĥ)(hv:Vals ys its)(hz:Ù AY) :
    pO (wy ġ ys) (ux (ae ý (.seq mq))) t':=
  I.laid (bc q (ű q)) ħ ⟨hz,its,0,hv,Ø⟩
theorem Inv.fresh{X:Cx}{pins:ğ}{σ:St}{H:Hp}{s:č}(I:Ĥ):ao ġ:=A1
def Inv.lstM{X:Cx}{pins:ğ}{σ:St}{H:Hp}{s:č}{l:Addr}{xs:İ}(I:Ĥ)(hH:ox l):x4/\Sj (Ä=its.length/\iQ l C'):=by
  obtain⟨z,its,n,r,e⟩:=Φ l _ hH;exact⟨z,its,n,r,Ű,e⟩
def notLongL{n:Nat}(h:Ù n):Builtin.List.listTooLong n=ă:=by
  unfold Builtin.List.listTooLong;exact r_
def rAppend:yA:=fun x vs H Q=>∃l xs y,x=mP/\vs=[y]/\ox l/\Ä<AT/\Q .non (wy l (xs++[y]))
def mt_append{X:Cx}:MtM X "list.append" rAppend:=by
  intro pins s σ H x vs v us Q I rx rv h;obtain⟨l,xs,y,rfl,rfl,hH,hz,q⟩:=h;cases rx;obtain⟨u,rfl,ru⟩:=rv.one;obtain⟨z,its,n,r,hl,e⟩:=I.lstM hH;refine call_meets F.slot_list_append (aQ e) F.entry_list_append (F.args_list_append_2 _ _) (PySem.list_append l mq n u (Ź cU)) (au e);refine⟨.non,_,I.lset (its':=its++[u]) hH e Ģ (r.append (Ξ ru .nil)) ?_,rfl,q⟩;rw[Â,oI];omega
def rCat:R2:=lu (∃l b xs zs,x=mP/\y=Č b/\ox l/\Ï b (.lst zs)/\Ù (Ä+zs.length)/\∀p,iR->oF p H (.lst (xs++zs)))
def op_cat{X:Cx}:pV .Add rCat:=by
  intro pins s σ H x y v u Q I rx ry h;obtain⟨l,b,xs,zs,rfl,rfl,hH,hB,hz,q⟩:=h;cases rx;cases ry;obtain⟨z,its,n,r,hl,e⟩:=I.lstM hH;obtain⟨z2,its2,n2,r2,hl2,e2⟩:=I.lstM hB;refine PySem.P.add_list e e2 ?_ (mQ cU cU);have ea:mq++its2.toArray=(its++its2).toArray:=Ģ
  rw[ea];exact⟨Č _,_,I.lnew (t':=cW) (r.append r2) (Ź Â),rfl,q _ I.fresh⟩
universe L2
namespace Att
open PySem PySem.W PySem.Calls PyProof.Rows
def ints_of_wellAll{P:Params}{h:Heap}:∀(ns:Ď) (vs:ŉ),WellAll P h vs (ns.map WData.int)->jH vs ns:=by
  intro ns
  induction ns with
  | nil=>
    intro vs w;rw[List.map_nil]at w;cases w;exact .nil
  | cons n ns ih=>
    intro vs w;rw[Η]at w;cases w with
    | cons a b=>
      cases a;exact Ξ _ _ (ih _ b)
def script_of{l:OpenLaw}{n:Nat}(hn:l.most=ā n){P:Params}{h:Heap}{args:Ĳ WData}{vals:ŉ}
    (hpre:l.row.toRowW.claim.pre args=true) (hwl:WellAll P h vals args) :
    ∃a vs ns,vals=[gI a]/\args=[WData.list (ns.map WData.int)]/\Ο a=ā GY /\ jH vs ns/\eL<=n:=by
  have hsh:WShape.hasAll [] args [.list .int]=true:=(pre_splitW hpre).1;have hc:l.pre.holds [] {args:=args} = true:=(pre_splitW hpre).2;obtain⟨d,r,rfl,h1,h2⟩:=hasAllW_cons hsh;obtain rfl:=hasAllW_nil h2;obtain⟨xs,rfl,h3⟩:=hasW_list h1;obtain⟨ns,rfl⟩:=items_int h3;have hlen:eL<=n:=by
    unfold OpenLaw.pre at hc;have h4:(WTm.not (.lt (.lit (Ō n)) (.len (.arg 0)))).holds [] {args:=[.list (ns.map .int)]} = true:=GX h4 (holds_andW hc).1 hn h4
    have h5:=condW_of h4 (w_not (w_lt w_lit (w_len_list (w_arg rfl))));rw[ċ]at h5;refine Kd (af q)
    have q':ρ<ı eL:=Ę
    first
      | (rw[þ q']at h5;exact ĸ h5 đ)
      | (simp at h5;omega)
  cases hwl with
  | cons w1 w2=>
    cases w2;cases w1 with
    | list ho hall=>exact⟨_,_,ns,rfl,rfl,ho,ints_of_wellAll ns _ hall,hlen⟩
def post_true(l:OpenLaw)(args:Ĳ WData):l.row.toRowW.claim.post args A3 args=true:=
  postW_of (r:=l.row.toRowW) (X:=(true==true))
    (show WShape.has [] A3 fg=true by first | rfl | decide | simp[WShape.has,WShape.arms,WShape.armsAll])
    (show(WTm.eq .res (.lit A3)).value [] {args:=args,res:=ā A3,after:=args} = ā (fg (true==true))from w_eq_bool (w_res rfl) w_lit) rfl
def attach_call{l:OpenLaw}{n:Nat}{q:ř}{loose:ĥ}{XP:Τ->C8}{YP:ł->C8}{d:DefRec}
    (hn:l.most=ā n) (hdf:S5=[])
    (call:∀(w:ł) (s₀ s₁:č) (mg mb:Τ) (fa:Addr) (o:Obj) (pm cd doc:Ě) (a:Addr) (vs:ŉ) (ns:Ď),
      Ground q loose [] XP w s₀ mg mb uy->YP w uy ->
      DH fa=ē->aN=.func (docDef d.name d.params d.body d.scope pm cd doc)->s₁.heap.CodeRec cd d.name->mg d.name=ā (Č fa) ->
      DH a=ā GY -> jH vs ns->eL<=n->s₁.gens = #[] ->
      S4 l.prog) :
    WalkO q loose XP YP l.row.toRowW d [] (fun f vs=>PySem.call f vs):=by
  intro w s₀ s₁ mg mb G Y fa o pm cd doc dV kV ho hd hcd hD hmg hg args vals as hpre hlay hrd hwl hlo;obtain rfl:dV=Ĺ:=Dflts.none hD hdf;obtain rfl:kV=Ĺ:=Dflts.noKw hD;obtain⟨a,vs,ns,rfl,rfl,hobj,hints,hlen⟩:=script_of hn hpre hwl;refine enter_call (wu (call w s₀ s₁ mg mb fa o pm cd doc a vs ns G Y ho (fd_plain hd) hcd hmg hobj hints hlen hg) (Ğ r s' hq));obtain⟨rfl,h2,h3,h4⟩:=hq;exact⟨ď ⟨A3,A3,[],rfl,ş rfl,A3,post_true l _,ş ⟨Oj,sj _ hm⟩⟩,h2,h3,h4⟩
universe Att
namespace L2
open PySem PySem.Spec PyProof.Rows
theorem vals_ints:∀{vs:ŉ} {ns:Ď},jH vs ns->Vals A4 vs
  | _,_,.nil=>.nil
  | _,_,Ξ n t h=>Ξ (bn t) (vals_ints h)
def Only(H:Hp):Prop:=∀b,bv\/(∃o xs,gJ b o k6)\/∃q,Ol
theorem GZ{α:Type}{x:Addr}:∀{l:fW Addr α} {c:α},G0=Ś->(x,c)∈l
  | (y,v)::l,c,h=>by
    rw[gR]at h;split at h
    · rename_i e
      cases h;rw[cu e];exact Υ
    · exact Ŕ (GZ h)
theorem no_lk{α:Type}{x:Addr}:∀{l:fW Addr α} {c:α},G0=none->(x,c)∉l
  | (y,v)::l,c,h,m=>by
    rw[gR]at h;split at h
    · cases h
    · rename_i e
      rcases Ŀ m with z | z
      · cases z;simp at e
      · exact no_lk h z
def nd_fst{α β:Type}{p:α×β}{l:fW α β}{q:β}(nd:(fU eM))(h1:(p.1,q)∈l)(h2:p∈l):q=p.2:=by
  induction l with
  | nil=>cases h1
  | cons y l ih=>
    rw[Η]at nd;have nd':=yx nd;rcases Ŀ h1 with z1 | z1<;>rcases Ŀ h2 with z2 | z2
    · rw[z2,←z1]
    · exact ĸ (Ke ⟨p,z2,by rw[←z1]⟩) nd'.1
    · exact ĸ (Ke ⟨_,z1,ų z2⟩) nd'.1
    · exact ih nd'.2 z1 z2
def law_call{P:ř}{w:ł}{K:į}{mg mb:Τ}{CX:CXT}{k:Nat}{fa a:Addr}{fd:rZ}{x:Str}{sp:Sp}{s₁:č}{vs:ŉ}{ns:Ď}
    (KX:K.In uy) (hns:s₁.heap.Ns bO mg) (hb:s₁.heap.Ns Gn mb) (hbb:∀x:Str,v9 -> mb x=rq x) (hlim:s₁.heap.NoLimit) (hg:s₁.gens = #[])
    (ha:DH a=ā GY) (hi:jH vs ns) (hl:Ù eL) (hr:jC callerA)
    (F:∀base:Heap,K.In base->base.Ns bO mg->GW CX k fa fd [x] sp) (hbind:Om u fd x)
    (hsp:∀H:Hp,Only H->SqL K H a A4->sp [Ī] H (fun v _=>v=fx) rO)
    (htb:S6 K (jt p.1) (DH p.1) uy) (htn:(fU (uA (fX K))))
    (hbm:∃bm ob,W3/\W1 (DH bm))
    (hCX:∀H e s',CX [] H s₁ rO e s'->cM) :
    S4 P:=by
  have rv:=vals_ints hi;have lenV:=hi.length;have core:∀H:Hp,Only H->SqL K H a A4->iI uy->(∀b,H b≠none->b=a\/((∃q,(b,q)∈fX K)/\∃q,Ol))->(H a≠none->jt a=none)->TabsOk K H ->
      S4 P:=by
    intro H hO hS hok hA hK hT;have base_of:∀{b:Addr} {o:Obj},DH b=ē->bv->NC uy=ē:=fun e n=>hidT_get e n
    have noA:∀{b:Addr} {o:Obj} {es:gH DictEntry} {ep:Nat},DH b=ē->aN=Gj->bv:=fun {b o es ep} e d=>by
      cases q:H b with
      | none=>rfl
      | some u=>
        rcases hA b (p6 q)with e' | ⟨⟨qq,e'⟩,_⟩
        · subst e'
          rw[ha]at e;cases e;have d':Data.seq Kf _=Data.dict es ep:=d;cases d'
        · rw[(htb _ e').2.1]at e;cases e
          have d':Data.fields #[]=Data.dict es ep:=d;cases d'
    have nsK:∀{b:Addr} {m:Τ},s₁.heap.Ns b m->(hidT uy H).Ns b m:=fun {b m} ⟨o,es,ep,e,d,r⟩=>⟨o,es,ep,base_of e (noA e d),d,r⟩
    have hKb:K.In (hidT uy H):=fun b o e=>base_of (KX b o e) (by
      cases q:H b with
      | none=>rfl
      | some u=>
        rcases hA b (p6 q)with e' | ⟨⟨qq,e'⟩,_⟩
        · subst e'
          rw[hK (p6 q)]at e;cases e
        · rw[(htb _ e').1]at e;cases e)
    have hM:Mod K mg (hidT uy H):=by
      refine⟨hKb,nsK hns,⟨mb,nsK hb,hbb⟩,let ⟨mc,h1,h2⟩:=hlim;⟨mc,nsK h1,h2⟩,?bm⟩;obtain⟨bm,ob,b1,b2,b3,b4,b5,b6⟩:=hbm;refine⟨bm,ob,b1,b2,base_of b3 ?_,b4,b5,b6⟩;cases q:H bm with
      | none=>rfl
      | some u=>
        rcases hA bm (p6 q)with e' | ⟨⟨qq,e'⟩,_⟩
        · subst e'
          rw[ha]at b3;cases b3;exact ĸ (Value.type.inj (ž (jo ý = jo "module") b4)) đ
        · rw[(htb _ e').2.1]at b3;cases b3;cases b4
    have e0:Env0 P w K mg (hidT uy H) callerA [] s₁ H:=⟨rfl,hM,fY (of_hidT e),Nat.le_of_eq (hidT_size _ _),p5,⟨yy b hb ŀ,hT⟩,hok,.of_eq hg⟩;refine wu ((F _ hKb (nsK hns)).run callerA [] s₁ H ⟨[Ī],[]⟩ [Ī] [Ī] _ _ hr e0 (hbind s₁ Ī) (Ξ rfl .nil) (hsp H hO hS)) (Ğ r s' h)
    cases r with
    | error e=>exact(hCX H e s' h).elim
    | ok fl=>
      cases fl with
      | next=>exact eG h
      | brk=>exact eG h
      | cont=>exact eG h
      | ret u=>
        obtain⟨v,H',os,bare,un,hok',r',q⟩:=h;have q':v=fx:=q;subst q';obtain rfl:u=Value.bool true:=r';refine⟨rfl,⟨k_ o,fY (un.there b o e Ģ)⟩,os,bare⟩;cases q:H b with
        | none=>exact ď (un.keep b o e q (by intro z;exact ĸ (show b∈([]:ŀ)from z) Ģ) Ģ)
        | some u=>
          rcases hO b with z | ⟨ob,xs,z⟩ | ⟨qq,z⟩
          · rw[q]at z;cases z
          · have z2:=un.frzs b ob _ z
            obtain⟨e1,_⟩:=hok b _ z;obtain⟨e2,_⟩:=hok' b _ z2;rw[e]at e1;cases e1;exact ď e2
          · rcases hA b (p6 q)with e' | ⟨⟨q2,e'⟩,_⟩
            · subst e'
              obtain⟨ps,e1,_⟩:=hok b _ z;rw[ha]at e1;have:=oy Obj.data (eC e1);cases this
            · have t:=htb _ e'
              rw[dO]at e;cases e;obtain⟨ps,e2,_⟩:=hok' b _ (un.tbls b _ z);exact mD ⟨eN,rfl,#[],ps,rfl,Ķ e2⟩
  have tabH:∀f:Hp,(dG p (fX K) (f p.1))->∃H:Hp,X4:=fun f hf=>by
    refine⟨fun b=>match cr (fX K) b with | ā q=>ā (.tbl q) | none=>f b,af b⟩;cases z:cr (fX K) b with
    | some q=>exact ď ⟨q,GZ z,by simp only[z]⟩
    | none=>exact oH (fun q hq=>no_lk z hq) (by simp only[z])
  have tabT:∀{H:Hp} {f:Hp},X4->TabsOk K H:=fun {H f} h p hp=>by
    rcases h p.1 with⟨q,h1,h2⟩ | ⟨h1,_⟩
    · rw[h2,nd_fst htn h1 hp]
    · exact ĸ hp (h1 p.2)
  cases hk:jt a with
  | some o=>
    have e:=KX a o hk;rw[ha]at e;cases e;obtain⟨H,h⟩:=tabH (ş none) DI
    refine core H (af b) (ė ⟨_,Kf,_,hk,rfl,rfl,rfl,cw cU lenV hl,Ķ rv⟩) (Ğ b u z) (cQ z) mR (tabT h)
    · rcases h b with⟨q,_,e⟩ | ⟨_,e⟩
      · exact uz ⟨q,e⟩
      · exact ď e
    · rcases h b with⟨q,m,e⟩ | ⟨_,e⟩
      · rw[e]at z;cases z
        exact X3
      · rw[e]at z;cases z
    · rcases h b with⟨q,m,e⟩ | ⟨_,e⟩
      · exact ė ⟨⟨q,m⟩,q,e⟩
      · exact ĸ e z
    · rcases h a with⟨q,m,e⟩ | ⟨_,e⟩
      · have:=(htb _ m).1;rw[hk]at this;cases this
      · exact ĸ e z
  | none=>
    have hna:∀q,(a,q)∉fX K:=fun q m=>by have:=(htb _ m).2.1;rw[ha]at this;have:=oy Obj.data (eC this);cases this
    obtain⟨H,h⟩:=tabH (fun b=>Ŭ (b=a) (.frz GY (.lst A4))) fun p hp=>ĝ fun z=>hna p.2 (ŏ z hp)
    have hHa:gJ a GY (.lst A4):=by
      rcases h a with⟨q,m,_⟩ | ⟨_,e⟩
      · exact ĸ m (hna q)
      · rw[e];exact js
    refine core H (af b) (ď (oH GY hHa)) (Ğ b u z) (cQ z) (ş hk) (tabT h)
    · rcases h b with⟨q,_,e⟩ | ⟨_,e⟩
      · exact uz ⟨q,e⟩
      · by_cases hb:b=a
        · exact mD ⟨_,_,e.trans (ĉ hb)⟩
        · exact ď (e.trans (ĝ hb))
    · rcases h b with⟨q,m,e⟩ | ⟨_,e⟩
      · rw[e]at z;cases z
        exact X3
      · rw[e]at z
        by_cases hb:b=a
        · have z':=(ĉ hb).symm.trans z
          cases z';subst hb;exact⟨ha,Ą ċ hl,vs,_,rv,ha⟩
        · have z':=(ĝ hb).symm.trans z
          cases z'
    · rcases h b with⟨q,m,e⟩ | ⟨_,e⟩
      · exact ė ⟨⟨q,m⟩,q,e⟩
      · by_cases hb:b=a
        · exact ď hb
        · exact ĸ (e.trans (ĝ hb)) z
def walk_of{l:PySem.W.OpenLaw}{n k:Nat}{q:ř}{loose:ĥ}{XP:Τ->C8}{YP:ł->C8}{d:DefRec}{K:Params->į}{CX:ł->CXT}{sp:ł->Sp}{x:Str}
    (hn:l.most=ā n) (hn2:Ù n) (hdf:S5=[]) (hr:jC callerA)
    (hY:X8) (htb:X7)
    (F:∀(w:ł) (mg:Τ) (fa:Addr) (h:Heap),(K jI).In h->Kg->mg d.name=ā (Č fa) ->
      ∃fd:rZ,(Om u fd x) /\
        X6 (K jI) (CX w) k x (sp w))
    (hsp:∀(w:ł) (H:Hp) (a:Addr) (ns:Ď),eL<=n->Only H->SqL (K jI) H a A4->sp w [Ī] H (fun v _=>v=fx) rO)
    (hCX:∀(w:ł) (H:Hp) (s:č) (e:Ě) (s':č),CX w [] H s rO e s'->cM) :
    X5 vs:=by
  refine Att.attach_call hn hdf fun w s₀ s₁ mg mb fa o pm cd doc a vs ns G Y ho hd hcd hmg hobj hints hlen hg=>?_
  have KX:=hY w _ Y;obtain⟨fd,hb,hF⟩:=F w mg fa _ KX G.T.g hmg;exact law_call KX G.T.g G.T.b G.T.builtins G.T.nolimit hg hobj hints (š hlen hn2) hr hF hb (fun H hO hS=>hsp w H a ns hlen hO hS) (htb w _ Y).1 (htb w _ Y).2 G.T.bmain fun H e s'=>hCX w H s₁ e s'
abbrev CX0:CXT:=fun _ _ _ _ _ _=>cM
abbrev E0:XK:=rO
def pass0{X:Cx}:Passes CX0 X E0:=ym _ h h.elim
def iteF{A B:Prop}(h:B):ĩ wz A B:=by
  rw[oA];exact h
def iteT{A B:Prop}(h:A):ĩ (true=true) A B:=by
  rw[js];exact h
def Same(H H':Hp):Prop:=∀b o,H b=ē->H' b=ē
def fy(H:Hp):Ú H:=bc h h
def Same.trans{H H1 H2:Hp}(a:Ú H1)(b:Same H1 H2):Ú H2:=fun c o h=>b c o (a c o h)
def Same.free{H H':Hp}(e:mS){l:Addr}(h:H' l=Option.none):H l=Option.none:=by
  cases q:H l with
  | none=>rfl
  | some o=>
    rw[e l o q]at h;cases h
def Same.seq{K:į}{H H':Hp}{a:Addr}{xs:İ}(e:mS)(h:yk):SqL K H' a xs:=by
  rcases h with(h | ⟨o,h⟩) | h
  · exact yj (iS h)
  · exact ď (oH o (iS h))
  · exact ė h
def p7(cells:gU):uB->gU->gU
  | [],acc=>acc
  | DJ,acc=>if ņ (k==iT) then p7 cells r ((n,(cells.lookup n).getD 0)::acc)else p7 cells r acc
theorem On:∀(d:uB) (b:gU),(DK d c (env.cells.lookup y.1)) ->
    (forIn d b (fun (x:Str×Dy) (cs:gU)=>(match x with | (e,f)=>if ņ (f==iT) then(do let a ←cellOf env e;Oo ((e,a)::cs))else Oo cs:Sem (ForInStep gU))):Sem gU)=pure (A5 d b)
  | [],b,_=>rfl
  | DJ,b,h=>by
    have j:=fw y m
    rw[List.forIn_cons];by_cases g:ņ (k==iT)
    · obtain⟨c,l⟩:=h (n,k) Υ (cu g)
      have o:cellOf env n=pure c:=b_ cellOf l
      have i:A5 DJ b=A5 r ((n,c)::b):=(by show X9=_;rw[ĉ g,l];rfl);rw[i,←On r _ j];simp only[g,f8,o];rfl
    · have i:A5 DJ b=A5 r b:=by
        show X9=_;rw[ĝ g]
      rw[i,←On r b j];simp only[g,si];rfl
def Oq(h:DK bH c (env.cells.lookup y.1)):closureFor Ŋ env=pure (A5 bH []):=by
  unfold closureFor
  first
    | exact _.trans rfl
    | (simp only[(On bH [] h)];rfl)
theorem DL:∀{a:uB} {d:gU} {x:Str} {c:Addr},(DK a c (DM y.1)) ->
    (x,c)∈p7 b a d->(x,c)∈d\/(DM x=Ś/\uC a)
  | [],d,x,c,_,h=>ď h
  | DJ,d,x,c,g,h=>by
    have f:=fun y i=>g y (Ŕ i)
    unfold p7 at h;by_cases e:ņ (k==iT)
    · rw[ĉ e]at h
      obtain⟨c',j⟩:=g (n,k) Υ (cu e);rcases DL f h with z | ⟨z1,z2⟩
      · rcases Ŀ z with z | z
        · cases z
          exact oH (bQ j) (ŏ (cu e) Υ)
        · exact ď z
      · exact oH z1 (Ŕ z2)
    · rw[ĝ e]at h
      rcases DL f h with z | ⟨z1,z2⟩
      · exact ď z
      · exact oH z1 (Ŕ z2)
theorem Os:∀{a:uB} {c:gU} {y:Str×Addr},y∈c->y∈p7 b a c
  | [],_,_,h=>h
  | DJ,c,y,h=>by
    unfold p7;split
    · exact Os (Ŕ h)
    · exact Os h
theorem Kh:∀{a:uB} {d:gU} {x:Str} {c:Addr},uC a->DM x=Ś->(x,c)∈p7 b a d
  | DJ,d,x,c,h,e=>by
    unfold p7;rcases Ŀ h with z | z
    · cases z
      rw[ĉ (show ņ (iT==iT) from rfl),e];exact Os Υ
    · split
      · exact Kh z e
      · exact Kh z e
theorem G1:∀(a:uB) (n:Nat) (b:gU),DB n a b=DB n a []++b
  | [],_,_=>rfl
  | (x,k)::r,n,b=>by
    unfold DB;split
    · rw[G1 r _ _,G1 r _ [(x,n)],wA];rfl
    · exact G1 r n b
theorem Ot:∀{a:uB} {n:Nat} {x:Str} {c:Addr},(x,c)∈DB n a []->(x,A6)∈a
  | [],_,_,_,h=>eB h
  | (y,k)::r,n,x,c,h=>by
    unfold DB at h;by_cases b:ņ (k==A6)
    · rw[ĉ b,G1]at h
      rcases gL h with z | z
      · exact Ŕ (Ot z)
      · have d:(x,c)=(y,n):=Ķ z
        cases d;rw[cu b];exact Υ
    · rw[ĝ b]at h
      exact Ŕ (Ot h)
theorem G2{a:Type}:∀{l r:iH a},cr (l++r) x=(G0).or (r.lookup x)
  | [],r=>Ģ
  | (y,v)::l,r=>by
    rw[Ki,gR,gR];cases hb:x==y with
    | true=>rfl
    | ă=>exact G2
theorem lookup_none_of{a:Type}:∀{l:iH a},(∀c,(x,c)∉l)->G0=none
  | [],_=>rfl
  | (y,v)::l,h=>by
    rw[gR];cases hb:x==y with
    | true=>exact ĸ fz (h v)
    | ă=>exact lookup_none_of (fw c b)
theorem Ov{a:Type}:∀{l:iH a} {c:a},(x,c)∈l->∃d,G0=ā d
  | (y,v)::l,c,h=>by
    rw[gR];cases b:x==y with
    | true=>exact(bn v)
    | ă=>
      rcases Ŀ h with z | z
      · cases z;rw[oK]at b;cases b
      · exact Ov z
theorem A7{b:Type}:∀{l:iH b} {c:b},fU eM->(x,c)∈l->G0=Ś
  | (y,v)::l,c,d,h=>by
    rw[gR];rw[Η]at d;have a:=yx d;rcases Ŀ h with z | z
    · cases z;rw[oK]
    · have:x≠y:=fun e=>a.1 (ŏ e (eO _ z))
      rw[iF this];exact A7 a.2 z
def Ow:S8 env=ļ (ww x) k (mE (S7 x) A6 k):=by
  unfold relabel;show cr (scope.names.map _) x=_;generalize bH=l
  induction l with
  | nil=>rfl
  | cons y r a=>
    obtain⟨n,k⟩:=y;rw[Η];show List.lookup x ((if _=true then _ else(n,k))::_)=_;have e:(if S7 n then(n,A6)else(n,k))=(n,mE (S7 n) A6 k):=by split<;>rfl
    rw[e,gR,gR];cases b:x==n with
    | true=>rw[cu b];rfl
    | ă=>exact a
def newEnv_comp
    (e:iV (newEnv Ŋ ġ g (DC ġ cl) q none Ĺ (ā env) Gn) (pushCells (ux Kj) bH)) :
    rG M (newFunctionEnv Ŋ g cl [] q none Ĺ (ā env)):=by
  simp only[newFunctionEnv,Option.isSome_some,f8];refine ą (wpAny_alloc ?_);refine ą (wpAny_layCells _ (fun d a c=>by cases b:a==A6<;>simp[b]) _ _ _ _ ?_);rw[show(dJ (ux Kj):č).heap.objs.size=jD from iU ..];exact oM (Ņ e)
def compLoop_any(I:Nat->my)
    (turn:∀n s,I n s->f_ (uD it) (fun r f=>match r with
      | none=>R (.ok .next) f
      | dw=>f_ (NR a it v) (fun _ d=>f_ (assign a env v) (fun _ l=>
          f_ (X' y env (eval c env)) (fun ok b=>
            if ok=true then f_ (eval elt env) (fun x k=>
              f_ (pZ "list.append" [E,x]) (fun _ j=>∃m,m<n/\I m j) G3 k) G3 b
            else ∃m,m<n/\I m b) G3 l) G3 d) G3 f) G3 s)
    (n:Nat) (h:I n s) :
    ur prog w A (.compLoop (DN a u y) 0 it E env) R s:=by
  refine codeAny_loop rfl I (Ğ n s F) n h;show rY A _ _ _ s;refine wpAny_noted ?_;rw[compTurn_list];refine ą (NP (ą (yC (turn n s F) r f p i i)));cases r with
  | none=>exact Ņ p
  | some v=>
    refine ą (jx p (Ğ _ d q) (bc i i));refine ą (jx q (fun _ l C=>ą (jx C (Ğ ok b o) (bc i i))) (bc i i));cases ok with
    | ă=>exact Ņ (bG o)
    | true=>
      exact jJ (jx o (fun x k B=>ą (jx B (fun _ j z=>Ņ (Ņ (bG z))) (bc i i))) (bc i i))
def HOk.track(x:iI h)(d:ao a)(new:C_ rh h a o):HOk P w rh h:=fun b u e=>by
  by_cases f:b=a
  · subst f;rw[aM]at e;cases e;exact new
  · rw[È f]at e
    exact Aw (x b u e) c v _ q c (Ą (sn q d) q) g _ _ _
def Un.track(u:Ax f g)(e:f a=none)(k:Ο a=none):Ax (upd f a o) g where
  keep:=u.keep
  slot:=u.slot
  free:=fun b d q n j=>by
    have:b≠a:=fun z=>Gx k q q
    rw[È this];exact u.free b d q n j
  there:=u.there
  tups:=fun b c q=>by have z:=u.tups b c q;rwa [sn z e]
  frzs:=fun b d c q=>by have z:=u.frzs b d c q;rwa [sn z e]
  tbls:=fun b i q=>by
    have z:=u.tbls b i q
    rwa [sn z e]
structure CompScope(N N':ĥ)(sc osc:ù)(fr:mT):Prop where
  kind:yw=on
  nd:N'.Nodup
  snd:(fU (sc.names.map eD))
  len:lx=N'.length
  fre:∀(j i:Nat),Į fr j eJ->∃x,Į N' j x/\mw N/\uC cq
  out:Ox (ol (osc.names.lookup y.1))
def inner(fr:mT)(σ:St):St:=fr.map fun o=>o.bind fun i=>(σ[i]?).join
def cxComp(X:Cx)(Ŋ:ù)(N':ĥ)(C:Addr)(cells:gU)(s₂:č)(H₂:Hp)(fp:ŀ):Cx:=
  {X with N:=N',s₀:=s₂,H₀:=H₂,env:=compEnvC Ŋ cells C ū,ś:=dH,stack:=dH,ex:=fp,fn:=fun x=>ww x==aO,pn:=[],xe:=ye}
abbrev emptyL:Obj:={cls:=Ÿ ý,dict:=none,data:=.seq ([]:ŉ).toArray}
abbrev emptyD:Obj:=Kj
def inv_comp(S:wF N' Ŋ)(I:lA O H d)(f:oB (FpOk X O H b))(ho:oB (G4 b wC))(hC:C=wC+1)(M:U=pushCells S9 bH) :
    Inv (Ko N' C (DC C (DO bH)) d H) [] (inner fr σ) H {d with heap:=U} /\ U.get? wC=ā emptyL/\X_:=by
  have Q:ag S_=wC+1:=iU ..;have P:ag S9=C+1:=by rw[iU,Q,hC]
  have h:X_:=fY (Ą M (pushCells_keeps _ _ b o (oN e)))
  have hD:U.get? wC=ā emptyL:=Ą M (pushCells_keeps _ _ _ _ (ű Ø))
  have a4:U.Ns C (ş none):=by have q:=(Heap.Ns.new S_ (Ÿ iN)).keeps (pushCells_keeps bH _);rw[Q,←hC]at q;rw[M];exact q
  have ok:=cellsFrom_ok bH S9 (C+1) [] ⟨bc A (eB A),Oj⟩ (Ą P ħ);rw[P,←M]at ok;have J:DK bH c (Dc y.1):=fun y hy hk=>Kq (S.out y hy hk)
  generalize Z:DO bH=cl;have F:∀{x:Str} {c:Addr},(x,c)∈cl->mt/\uC bH:=fun {x c} A=>by
    rw[←Z]at A;rcases DL J A with z | z
    · exact eB z
    · exact z
  generalize s:DC C []=own at ok;have a6:DC C cl=own++cl:=ţ G1 s
  rw[a6];have L:∀{x:Str} {c:Addr},(x,c)∈own->(x,A6)∈bH:=fun {x c} A=>by rw[←s]at A;exact Ot A
  have L1:∀x c,Kn->((x,c)∈own)\/(mt/\uC bH/\own.lookup x=none):=fun x c e=>by
    rw[G2]at e;cases q:own.lookup x with
    | some c'=>rw[q]at e;cases e;exact ď (eI q)
    | none=>rw[q]at e;have z:=F (eI (ž yE e));exact ė (f9 z.1 z.2)
  have g:=fun {x c} A=>(ok.empty x c A).2
  have n:∀{x:Str} {c:Nat},mt->G4 c wC:=fun {x c} e=>Gg v z (wa e) z.lt
  have K:∀{x:Str},uC bH->own.lookup x=none:=fun {x} A=>by
    refine lookup_none_of (Ĝ c Y)
    have a:=A7 S.snd A;have b:=A7 S.snd (L Y);rw[a]at b;cases b
  have B:∀{x:Str} {c:Addr},uC bH->mt->Kn:=fun {x c} A Y=>by rw[G2,K A];obtain⟨c',e⟩:=Ov (l:=cl) (ŏ Z (Kh A Y));have z:=(F (eI e)).1;rw[Y]at z;cases z;exact e
  have hX:(Ko N' C (own++cl) d H).Ok:=by
    refine⟨I.ok.mod,S.kind,Dh,I.ok.blt,?_,ν x y c h1 h2,wE,Ļ x c hf Y,iL,I.ok.frames,Ð,fun b R=>⟨?_,Gw⟩,I.bs,Gv I.sz,Ļ b o e R,Ğ b R hs,I.stack,⟨I.stkFree,I.tabs⟩⟩
    · show wC<=C
      rw[hC];exact yD
    · have h1:Kn:=h1
      have h2:cr (own++cl) y=Ś:=h2;rcases L1 x c h1 with a | ⟨a,_⟩<;>rcases L1 y c h2 with b | ⟨b,_⟩
      · exact name_of_addr ok.apart a b
      · exfalso;have q1:=g a;have q2:=n b;omega
      · exfalso;have q1:=g b;have q2:=n a;omega
      · exact I.ok.inj x y c a b
    · have E:ol (S8 ū):=hx
      show ∃c,Kn;rw[Ow]at E;cases q:ww x with
      | none=>rw[q]at E;rcases E with z | z<;>cases z
      | some k=>
        have km:=eI q;by_cases k1:k=lz
        · subst k1
          have z:=N9 bH (C+1) [] (ď q);rw[s]at z;obtain⟨c,z⟩:=DA z;exact⟨c,fA G2 z⟩
        · by_cases k2:k=.free
          · subst k2
            obtain⟨c,e⟩:=J _ km rfl;exact⟨c,B km e⟩
          · exfalso
            rw[q]at E;have e0:(k==iT)=ă:=iF k2;simp only[gV,e0,Bool.false_and]at E;rcases E with z | z
            · exact k1 (Ķ z)
            · exact k2 (Ķ z)
    · have a5:ņ (ww x==aO):=hf
      have q:ww x=aO:=Ķ a5
      have z:=N9 bH (C+1) [] (ď q);rw[s]at z;obtain⟨c',z⟩:=DA z;have a0:Kn:=Y;rw[G2,z]at a0;have e:c'=c:=eC a0;subst e;have:=g (eI z);show Kk wC c';omega
    · have:=ho b R
      show A8 b C;omega
    · rcases L1 x c e with a | ⟨a,_⟩
      · have:=g a;have:=ho b R;show A8 c b;omega
      · exact(f b R).2.2.2.2.1 x c a
    · rcases(f b R).2.2.2.1 with z | z
      · exact I.ok.noex b o e z
      · exact Da Ι (Gv z)
    · rcases Ŀ (I.stkSub b hs)with z | z
      · exact(f b R).2.1 z
      · exact(f b R).2.2.1 z
  refine⟨⟨hX,rfl,I.bare,Un.kept h,⟨_,a4,fun i x v e1 W e3=>?_⟩,Gw,lh (p9 (Kk wC C)),Gw,yy p hp ğ,I.hok.kept h,?_⟩,hD,h⟩
  · have e1:mw N':=e1
    unfold inner at W;rw[ō]at W;cases q:fr[i]? with
    | none=>rw[q]at W;cases W
    | some o=>
      rw[q]at W;cases o with
      | none=>cases W
      | some j=>
        have N:(σ[j]?).join=dw:=eC W;have hv:Į σ j dw:=by
          cases z:σ[j]? with
          | none=>rw[z]at N;cases N
          | some o=>rw[z]at N;rw[ž (o=dw) N]
        obtain⟨x',a1,a2,a3⟩:=S.fre i j q;rw[e1]at a1;cases a1;obtain⟨m,hn,hl⟩:=k9;have ko:=S.out _ a3 rfl;obtain⟨u,r,l⟩:=hl j x v a2 hv (ko.elim (fun z=>mD z) fun z=>uz z);rcases l with⟨k,_⟩ | ⟨k,c,e,z⟩
        · have k':rR x=dF:=k
          rcases ko with w | w<;>(rw[ž (rR x=_) w]at k';cases k')
        · refine⟨u,r,ė ⟨?_,c,B a3 e,z.keeps h⟩⟩
          show ol (S8 ū);rw[Ow,A7 S.snd a3];simp only[gV];split
          · exact Ð
          · exact iK
  · rcases L1 x c e with a | ⟨a,_⟩
    · exact⟨none,(ok.empty x c a).1⟩
    · obtain⟨v,z⟩:=wa a
      exact⟨v,z.keeps h⟩
  · rcases L1 x c e with a | ⟨a,_⟩
    · exact lh (Km (g a) (Kk wC c))
    · exact Az a
  · show Ć (inner fr σ)=N'.length
    unfold inner;rw[ċ,S.len]
def PTs(X:Cx)(ifs:û)(t:TT):Prop:=
  ∀(pins:ğ) (s:č) (σ:St) (H:Hp) (Q:GA),Ĥ->t σ H Q ->
    cR (X' ifs ū (cn c)) NM X.xe s
def tYes:TT:=ŷ _ (Q true H)
def pts_nil:PTs X [] tYes:=lq H I (wpAny_tests_nil ⟨H,I,h⟩)
def pts_one(h:PT X c t):PTs X [c] t:=fun a s b H Q I d=>wpAny_tests_one (h a s b H Q I d)
def CompW(J:It)(g:TG)(tc:TT)(te:TE)(Fin:İ->cj)(σ:St)(H:Hp):Prop:=
  ∃W:Nat->Nat->İ->rJ,(∃m,W 0 m [] σ H)/\∀i m ys σ H,W i m ys σ H ->
    (J.stop i H/\Fin ys H)\/(J.go i H/\AY<AT/\∀x H',JR->g x σ H' fun σ2 H2=>tc σ2 H2 fun b H3=>
      ue b (te σ2 H3 fun y H4=>∃m',m'<m/\W ü m' (ys++[y]) σ2 H4) (∃m',m'<m/\W ü m' ys σ2 H3))
def Vals.snoc(r:Vals xs a)(q:aZ x):Vals (xs++[x]) (a++[u]):=r.append (Ξ q .nil)
def comp_run{K:ğ}
      {RR:Ě->Addr->Result->my}
    (S:wF L Ŋ) (hc:bf)
    (hg:DQ j a B L tg g) (ht:Oz j a B L a3 tc) (he:G6 j a B L te)
    (I:lA K H a) (T:Turn aj X.w X.K tg J fp it tn) (st:tn 0 a.heap) (f:oB (FpOk X K H b)) (h:CompW J g tc te c0 (inner fr σ) H)
    (c4:∀D C A P m O,lA K (upd A D (.lst O)) P->A D=none->P.heap.Ns C m->upd A D (.lst O) C=none->C≠cN->v_<=C->(Gp C)->(∀p∈X.pn++K,p.1≠C)->c0 O A->RR (Č D) C (.ok .next) P) :
    cR (newList []) (fun b8 a8=>cR (newFunctionEnv Ŋ X.env.globals (DO bH) [] A9 none Ĺ (ā ū)) (fun a1 a7=>
      ur aj X.w X.A (.compStart (DN tg a0 a3) 0 Dp b8 {a1 with Ŋ:=relabel Ŋ ū}) (RR b8 a1.locals) a7) E a8) E a:=by
  have ho:oB (b<so):=fun b s=>by obtain⟨o,e,_⟩:=T.obj _ _ st b s;exact Ι
  refine uE (newEnv_comp ?_);have b0:ag Ta=so+1:=iU ..;obtain⟨I4,b6,Z⟩:=inv_comp (C:=so+1) S I f ho rfl rfl;show codeAny _ _ _ (RR (Č so) (ag Ta)) {a with heap:=Yb};rw[b0];generalize b4:so=D at *;generalize DC (D+1) (DO bH)=j at *;generalize Yb=h4 at *;have a4:∀{w:ğ} {A:Hp},(dG b fp (A b))->(∀p∈w,p.1=D)->oB (FpOk wG w A b):=fun {w A} hn N b s=>
    ⟨hn b s,(I4.ok.exf b s).1,I4.ok.exfs b s,ď s,(I4.ok.exf b s).2,fun p R z=>by
      have R:p∈([]:ğ)++w:=R;rw[Oy]at R;have:=ho b s;rw[←z,N p R]at this;exact DP this⟩
  obtain⟨W,⟨m0,w0⟩,a6⟩:=h;have b5:D≠(wG).env.locals:=p9 (D≠D+1)
  have U:∀x c,(wG).env.cells.lookup x=Ś->c≠D:=fun x c e z=>by
    obtain⟨v,o,c1,hd⟩:=I4.cell x c e;have q:h4.get? D=ē:=ŏ z c1
    rw[b6]at q;cases q;cases hd
  have b3:D∉(wG).fs:=fun z=>by
    obtain⟨_,o,c2,_⟩:=I4.ok.funs.mem z
    have:=aB c2;have e:so=D:=b4;exact ĸ this (p9 (¬D<so))
  have Y:ur aj X.w X.A (.compLoop (DN tg a0 a3) 0 Dp (Č D) (compEnvC Ŋ j (D+1) ū)) (RR (Č D) (D+1)) {a with heap:=h4}:=by
    refine compLoop_any (fun n P=>∃i O l k a5 A,Inv wG [] a5 A P/\tn i P.heap/\(dG b fp (A b))/\A D=none /\
      P.heap.get? D=ā (ae ý (.seq (l:ŉ).toArray k)) /\ Vals O l/\Ù O.length/\W i n O a5 A) ?_ m0
      ⟨0,[],[],_,_,H,I4,JW st _ (Z b o e),fun b s=>(f b s).1,lh Ă,b6,.nil,cX,w0⟩
    rintro n s3 ⟨i,O,l,k,σ3,H3,I3,st3,fr3,hD3,oD3,rv,hl,w3⟩
    have b9:Inv wG [(D,G5)] σ3 H3 s3:=I3.pins_of fun p N=>by
      have e:p=(D,G5):=Ķ N
      subst e;exact⟨oD3,hD3,b5,b3,fun v z=>eP z⟩
    have Q:∀p∈[((D:Addr),(G5:Obj))],p.1=D:=fun p N=>by
      have e:p=(D,G5):=Ķ N
      subst e;rfl
    rcases a6 i n O σ3 H3 w3 with⟨a9,c8⟩ | ⟨go,hlt,step⟩
    · refine Æ (T.done wG rfl rfl rfl hc i _ s3 σ3 H3 _ b9 (a4 fr3 Q) st3 a9) r s4 ⟨hr,F⟩
      subst hr;have oD:=(F.pin (D,_) (lv Υ)).1;have un:Un (frs dH) fp H H3 a.heap s4.heap:=F.base;have hn:a.heap.get? D=none:=Dd (Ą b4 ħ);obtain⟨mC,c3,_⟩:=F.loc;refine c4 D (D+1) H3 s4 mC O (I.call' F.os (un.track hD3 hn) (F.hok.track hD3 ⟨hl,l,k,rv,oD⟩) F.bare (cQ s)) hD3 c3 ?_ ?_ ?_ Gw (Ĝ p N) c8
      · obtain⟨_,f1,f2,f3,f4,f5⟩:=f b s
        exact⟨f3,f1,f4,f5⟩
      · rw[È (Ş (A8 (D+1) D))];exact F.free
      · have q:G4 cN so:=I.lt
        show A8 (D+1) cN;omega
      · have q:Kk v_ so:=I.sz
        show Kk v_ (D+1);omega
      · obtain⟨v,z⟩:=wa e
        have q:G4 c so:=z.lt;show A8 c (D+1);omega
      · have q:G4 p.1 so:=aB (x9 N).1
        show A8 p.1 (D+1);omega
    · refine Æ (T.item wG rfl rfl rfl hc i _ s3 σ3 H3 _ b9 (a4 fr3 Q) st3 go) r s4 ⟨u,hr,c6⟩
      subst hr;refine thn c6 (Ğ _ s5 ⟨x,H5,I5,r5,y5,a2,c7⟩)
      have c9:=I5.pinned (a4 c7 Q) (T.obj _ _ a2);refine yC (hg (D+1) j a H fp _ s5 σ3 H5 x u _ c9 r5 (step x H5 y5)) _ s6 ⟨M,H6,I6,q6⟩ z z.elim
      refine yC (ht (D+1) j a H fp _ s6 M H6 _ I6 q6) b s7 ⟨H7,I7,q7⟩ z z.elim
      have b7:∀{A:Hp} {P:č},Inv wG ([(D,G5)]++pinsAt fp s5.heap) M A P->tn ü P.heap/\(dG b fp (A b))/\P.heap.get? D=ā G5 /\ A D=none:=fun {A P} J'=>by
        refine⟨JW a2 s (J'.pin (b,o) (wg s e)).1,cQ s,?_,?_⟩
        · obtain⟨o,e,d⟩:=T.obj _ _ a2 b s
          exact(J'.pin (b,o) (wg s e)).2.1
        · exact(J'.pin (D,_) (lv (fh Υ))).1
        · exact(J'.pin (D,_) (lv (fh Υ))).2.1
      cases b with
      | ă=>
        rw[oA]at q7 ⊢;obtain⟨m',hm,w7⟩:=q7;obtain⟨k1,k2,k3,k4⟩:=b7 I7;exact⟨m',hm,i+1,O,l,k,M,H7,I7.pins_of (sj p N),k1,k2,k4,k3,rv,hl,w7⟩
      | true=>
        rw[js]at q7 ⊢;refine yC (he (D+1) j a H fp _ s7 M H7 _ I7 q7) y s8 ⟨v8,H8,I8,r8,q8⟩ z z.elim
        obtain⟨m',hm,w8⟩:=q8;obtain⟨k1,k2,k3,k4⟩:=b7 I8;have b2:Ù Ň:=ŏ Di hl
        refine append_at k3 (Ğ h9 b1 c5) (Ą cU b2);have I9:Inv wG [] M H8 s8:=I8.pins_of (sj p N)
        refine⟨m',hm,i+1,O++[v8],l++[y],k+1,M,H8,I9.turned (it:=D) (t':=s8.toks) (bh s (li b1 b s e)) k4 b5 (ė (p9 (so<=D))) U (sj p N),?_,k2,k4,?_,rv.snoc r8,?_,w8⟩
        · exact JW k1 s (li b1 b (by have q:G4 b D:=ho b s;show A8 b D;omega) e)
        · rw[c5,List.push_toArray]
        · rw[Â,oI];omega
  exact codeAny_compStart_list Y (T.self X.A 0 _ _ _ (JW st _ (Z b o e)) Y)
def tComp(fr:mT)(wi:TI)(g:TG)(tc:TT)(te:TE):TE:=ŷ σ (wi σ H fun J H1=>CompW J g tc te (fun ys H'=>∀p,H' p=none->oF p H' (.lst ys)) (inner fr σ) H1)
def pe_comp{K:TT}(S:wF k Ŋ)(hc:bf)(Y:wf f E)
    (Z:DQ a c d k tg g) (P:Oz a c d k j K) (he:G6 a c d k F)
    (R:∀x,NZ f ū x=pure x:=by intro _;rfl):PE X (DN tg f j) (tComp fr E g K F):=by
  intro i s L H Q I h;rw[eval_ListComp]
  refine Yc R N W O U (thn (Y i s L H _ I h) (SH M));obtain⟨it,fp,tn,J,H2,e,I2,T,l,f2,w⟩:=h2;subst e;refine comp_run S hc Z P he I2 T l f2 w ?_;intro D C H' s' m ys I' hD p u A q z r B;exact⟨m,p,fun h' n=>⟨Č D,_,I'.turned (bh hb (li n b hb e)) u A (ė q) z r,rfl,B D hD⟩⟩
def ps_setcomp(S:wF u Ŋ)(hc:bf)(hN:rH)(L:ĭ X.N y)
    (r:rR y=dF) (hi:wf j R)
    (hg:DQ c d f u tg g) (ht:Oz c d f u l W) (he:G6 c d f u U)
    (B:swapsWith (DN tg j l) (ā (.Name y Y)) k.line ū=pure true:=by rfl)
    (hs:∀x,NZ j ū x=pure x:=by intro _;rfl):PS X (.Assign [.Name y Y] (DN tg j l) k) (tAsg (tComp fr R g W U) (gName i)):=by
  intro n s Z H Dn I h;rw[exec_Assign_Name_used _ _ _ _ B];refine ą (NP lB);show gW s
  refine ą (jx (Yc hs r hk hx hl
    (thn (hi n s Z H _ I h) (SH itv))) (fun _ s' hq=>Ņ (Ņ hq)) x_)
  obtain⟨it,fp,tn,J,H2,e,I2,T,A,f2,w⟩:=h2;subst e;refine comp_run S hc hg ht he I2 T A f2 w ?_;intro D C H' s' m ys I' hD K O q M p N P;refine wpAny_assign_Name (store_ok2 (v:=Č D) I' hN L (Or.inl r) rfl (fun s'' Q ⟨a,E,ha⟩=>⟨m,K.sameBut E ?_,fun h' F=>⟨_,_,Q.turned (bh hb (li F b hb e)) O q (ė M) p N,P D hD⟩⟩) (ė r));rcases ha with z | z
  · rw[z];exact q
  · exact jv (p y a z)
abbrev cxD(P:ř)(w:ł)(K:į)(mg:Τ)(base:Heap)(N:ĥ)(qual:Str)(Ŋ:ù)(f:Addr)(cd:Ě)(A:ξ)(ś:ju)(s:č)(H:Hp):Cx:=GV CX0 cd E0
theorem Inv.track(I:Ĥ)(f:ao a)(k:Go a=none)(j:a≠cN)(i:Gp a)(h:NI a)(new:rC rh Ė a o) :
    iJ rh s:=
  ⟨I.ok,I.os,I.bare,I.base.track f k,k9,I.cell,Ą (È j.symm) I.free,fun x c e=>Ą (È (i x c e)) (Az e),fun p b=>by
    obtain⟨e,n,ne,g,d⟩:=x9 b;exact⟨e,by rwa [È (h p b)],ne,g,d⟩,I.hok.track f new,I.len⟩
universe L2
namespace L2
open PySem PySem.W PySem.Spec PySem.Calls PyProof.Rows PySem.Builtin PySem.Builtin.ObjectAttr PySem.Builtin.Getset_descriptor
section
variable {prog:Program} {w:World} {K:Frag} {x D:Addr} {M:Model} {h:Heap}
structure ClsK(K:Frag)(D:Addr):Prop where
  ga:findIn K (Č D) "__getattribute__" = ā (ā (lw "BaseException.__getattribute__"))
  gt:findIn K (Č D) "__getattr__" = ā none
  mb:mroIn K D (Ÿ "BaseException")=cV
  hd:hasDictIn K D=true
  fc:findIn K (Č D) "__class__" = ā (ā GM)
  sg:specialIn K GM "__get__" = ā XE
  tk:takesIn K GM=cV
  mo:mroIn K D (Ÿ "object")=cV
universe E_
universe L2
namespace L2
open PySem PySem.Spec PyProof.Rows
structure Src(P:ř)(w:ł)(ia la:Addr)(vs:dz)(S:pT):Prop where
  keep:∀k h h',S k h->(AK ia (ba ia))->(AK la (ba la))->S k h'
  there:∀k h,S k h->∃o xs,aA ia/\aN=bM xs
  step:∀{A:ξ} {E:ú} {s:č} {Q:ú} (k:Nat) (x:Ě),S k Ė->Į vs k x->(∀h',S ς h'->wb ia h'->iV x h') ->
    rT (A' (Č ia))
  stop:∀{A:ξ} {E:ú} {s:č} {Q:ú} (k:Nat),bD->S k Ė->jq vs k ->
    (Tc h' (A_ ia h') (ba e))->rT (A' (Č ia))
def sL(ia la:Addr)(vs:dz):pT:=fun k h=>h.IsListIter ia la k/\h.IsList la vs
def sT(ia la:Addr)(vs:dz):pT:=fun k h=>h.IsTupleIter ia la k/\h.IsTuple la vs
def src_list(ne:a≠b):mU b a vs (sL b a vs) where
  keep:=fun k h i DR n m=>⟨p.at n,q.at m⟩
  there:=Ye
  step:=fun k x DR c f=>wpAny_nextOf_list_item p q c Yd
  stop:=fun k l DR c f=>wpAny_nextOf_list_end l p q c f
def tup_step(p:s.heap.IsTupleIter b a k)(q:NT vs)(f:Į vs k x)(g:∀e,e.IsTupleIter b a ς->wb b e->iV x e) :
    rT (A' wH):=by
  obtain⟨ob,d,j,c⟩:=id p;obtain⟨ot,i,_,nn,h⟩:=q;unfold A';refine ą Yh;show Bc b 0 s;refine ą (Bb d c (x:=Ī) rfl ?_);show gW s;rw[Yg];show Bc b 1 s;refine ą (Bb d c (x:=dN 0) rfl ?_);show su _ (seqItems? Ī) s;refine ą (yF i h ?_);simp only[aE,f];refine ą (Ba d c (Ņ (Á x (Ņ (g _ ?_ (jK ..))))));exact(Td d c j (by rw[OA c];simp[oC]))
def tup_stop(g:bD)(p:s.heap.IsTupleIter b a k)(q:NT vs)(h:jq vs k)(i:Tc c (A_ b c) (c.get? e)) :
    rT (A' wH):=by
  obtain⟨ob,f,e2,d⟩:=id p;obtain⟨ot,l,_,nn,j⟩:=q;unfold A';refine ą Yh;show su _ (field _ 0) s;refine ą (Bb f d (x:=Ī) rfl ?_);show gW s;rw[Yg];show gW s;refine ą (Bb f d rfl ?_);show gW s;refine ą (yF l j ?_);simp only[aE,h];refine ą (G8 (Ba f d ?_));show gW _;refine lB;simp only[newExc,newTuple];refine ą G7;refine ą (Kr Th ?_);refine G7;refine Tf
  first | rw[ž (A.in1.handled=none) g] | rw[g]
  refine oM (wpAny_throw (i _ _ (Te (jK ..)) (aQ Ø)))
def src_tup(ne:a≠b):mU b a vs (sT b a vs) where
  keep:=fun k h i DR n m=>⟨vZ o e r p (n o e) r,vZ o e r q (m o e) r⟩
  there:=Ye
  step:=fun k x DR c f=>tup_step p q c Yd
  stop:=fun k l DR c f=>tup_stop l p q c f
def Src.ext(R:mU c b vs S)(q:S k h)(hs:Heap.ExtBut e h a)(f:c≠e)(d:b≠e):S k a:=R.keep k h a q (fun o z=>hs _ _ f z) (fun o z=>hs _ _ d z)
def zip_item{S1:pT}{Q:ú}(D:OI l1 l2)(i:mU a l1 vs1 S1)(R2:mU b l2 vs2 S2)(u:uG Ė Ĺ)(hU:OH)(hW:OG)(h1:S1 k Ė)(h2:S2 k Ė)(hx:Į vs1 k x)(hy:Į vs2 k y)
    (hQ:Yl g g.objs.size (g.get? e) bj) :
    Yk Yj S:=by
  show Bc Z 2 _;refine ą (OF ?_);show gW _;refine ą (OF (ą (yF hU rfl ?_)));show gW _;refine lB;unfold Ks;refine ą (OF bF);simp only[f8];refine ą (G8 (OF ?_));refine ą (uH u g1 K r)
  replace K:uG g1 .ellipsis:=K
  refine lB;simp only[List.zipIdx_cons,List.zipIdx_nil,List.forIn_cons,List.forIn_nil];refine OD;show gW _;refine ą (i.step k x (i.ext h1 r.extBut D.i1z D.l1z) hx fun g2 r2 q=>bF);have w2:=DS _ _ D.TOi1 (r.extBut _ _ D.TOz hW);refine ą (Tj w2 g3 L p)
  replace L:wI g3 W x d:=L
  refine OE;refine OD;show gW _;refine ą (R2.step k y (Yi r.extBut DS DT) hy fun g4 r4 m=>bF);have Y:=DU D.TOi2 L;refine ą (Tj Y f F l)
  replace F:wI f W x y:=F
  refine ą (DX (Ņ (Ņ (ą (yF F rfl (ą (OC ?_)))))));have sz:uF=ġ:=by rw[l.1,m.1,p.1,q.1,r.1]
  have X:=Be D.TOz.symm (DU D.i2z.symm (DT _ _ D.TOz.symm (DS _ _ D.i1z.symm K)))
  have j:=aB X;show gW _;refine lB;unfold Ti;refine ą (uH (ű X) g7 J N)
  replace J:uG g7 _:=J
  refine uH J B C M
  replace C:uG B _:=C
  have h:∀e o,e≠Z->f.get? e=ē->B.get? e=ē:=fun e o n z=>M.extBut _ _ n (N.extBut _ _ n (ű z))
  have T8:=M.extBut _ _ (pS j) (N.extBut _ _ (pS j) Ø);have s8:B.objs.size=uF+1:=by rw[M.1,N.1,iU]
  rw[sz]at C T8 s8;refine Ņ DW;show Q _ _;rw[sz];exact hQ B C (h _ _ D.TOz F) (i.keep _ _ _ (i.ext (i.ext (i.ext r2 DT D.TOi1.symm D.l1TO) m.extBut D.i12 D.l1i2) l.extBut D.TOi1.symm D.l1TO) (OB D.i1z) (OB D.l1z)) (R2.keep _ _ _ (R2.ext r4 l.extBut D.TOi2.symm D.l2TO) (OB D.i2z) (OB D.l2z)) T8 s8 fun e o I H R O z=>h e o I ((fun e o I H R O z=>Be H (DU O (DT _ _ H (DS _ _ R (r.extBut _ _ I z))))) e o I H R O z)
def zip_stop{P:ř}{w:ł}{A:ξ}{s:č}{k:Nat}{S1 S2:pT}{c d:Ě}(Y:bD)(D:OI X S)(y:mU a X i S1)(R2:mU b S g S2)(r:uG Ė Ĺ)(hU:OH)(hW:OG)(h1:S1 k Ė)(h2:S2 k Ė)(u:jq i k\/jq g k)
    (hE:Tc I (Ym f (I.get? f)) (I.get? e)) :
    rT Yj:=by
  show Bc Z 2 _;refine yG r (fg ă) ?_;show Bc Z 3 _;refine yG r (Č U) (ą (yF hU rfl ?_));show su _ (Ks (Č Z)) _;refine lB;unfold Ks;refine yG r Ĺ bF;simp only[f8];refine ą (G8 (OJ r (Č W) ?_));refine ą (uH r g1 v n)
  replace v:uG g1 .ellipsis:=v
  refine lB;simp only[List.zipIdx_cons,List.zipIdx_nil,List.forIn_cons,List.forIn_nil];refine OD;show su _ (A' Ī) _;cases F:i[k]? with
  | none=>
    refine ą (y.stop k Y (y.ext h1 DY D.i1z D.l1z) F (Ļ J e j H));obtain⟨B,l,p⟩:=H;have M:uG J .ellipsis:=j _ _ D.i1z.symm v;have K:e≠Z:=fun z=>by subst z;rw[M]at l;cases l;simp at p
    exact DZ M Ģ fun g3 _ m=>hE g3 e (fun f o q _ C _ z=>DU q (j _ _ C (DY _ _ q z))) ⟨B,DU K l,p⟩
  | some x=>
    have hy:jq g k:=by rcases u with h | h;rw[F]at h;cases h;exact h
    refine ą (y.step k x (y.ext h1 DY D.i1z D.l1z) F fun J r2 j=>bF);have N:wI J W c d:=j.extBut _ _ D.TOi1 (DY _ _ D.TOz hW);refine ą (Tj N g3 w3 m);refine OE;refine OD;show su _ (A' wH) _;refine ą (R2.stop k Y (Yi DY j.extBut m.extBut) hy (Ļ g4 e R H));obtain⟨B,l,p⟩:=H;have L:uG g4 .ellipsis:=R _ _ D.i2z.symm (DU D.TOz.symm (j.extBut _ _ D.i1z.symm v));have K:e≠Z:=fun z=>by subst z;rw[L]at l;cases l;simp at p
    exact DZ L Ģ fun g5 _ O=>hE g5 e (fun f o q n2 C n4 z=>O.extBut _ _ q (R _ _ n4 (DU n2 (j.extBut _ _ C (DY _ _ q z))))) ⟨B,O.extBut _ _ K l,p⟩
def next_item{S1:pT}(D:OI l1 l2)(H:mU a l1 vs1 S1)(R2:mU b l2 vs2 S2)(g:uG Ė Ĺ)(l:OH)(j:OG)(p:S1 k Ė)(n:S2 k Ė)(i:Į vs1 k x)(h:Į vs2 k y)
    (m:Yl f uF (f.get? e) (ā bj)) :
    rT (ui Z):=by
  have T:r6 (Č Z) "zip":=(aQ g);unfold uD;exact ą (Yn (zip_item D H R2 g l j p n i h fun f C B z v u r q=>Ņ (m f C B z v u r q)))
def next_stop{S1:pT}(n:bD)(D:OI l1 l2)(y:mU a l1 vs1 S1)(R2:mU b l2 vs2 S2)(i:uG Ė Ĺ)(r:OH)(q:OG)(x:S1 k Ė)(v:S2 k Ė)(g:jq vs1 k\/jq vs2 k)
    (u:∀h,(∀f o,f≠Z->f≠W->f≠a->f≠b->fZ f=ē->aA f)->iV none h):rT (ui Z):=by
  have T:r6 (Č Z) "zip":=(aQ i);unfold uD;refine ą (Yn (zip_stop n D y R2 i r q x v g (Ļ h e m p)));obtain⟨o,l,j⟩:=p;exact ą (Kt ⟨o,l,j⟩ OK (Ņ (u _ m)))
def SqK(t:Bool)(h:Heap)(l:Addr)(vs:dz):Prop:=OL (h.IsList l vs) (h.IsTuple l vs)
def sK(t:Bool)(ia la:Addr)(vs:dz):pT:=OL (sL ia la vs) (sT ia la vs)
def src_k(t:Bool)(ne:a≠b):mU b a vs (sK t b a vs):=by
  cases t
  · exact src_list ne
  · exact src_tup ne
def itN:Bool->du | ă=>OM | true=>"tuple_iterator"
abbrev itO(t:Bool)(l:Addr):Obj:=ae (itN t) (bM #[mP,υ 0])
abbrev zH1(h:Heap)(t1:Bool)(l1:Addr):Heap:=h.push (itO t1 l1)
abbrev zH2(h:Heap)(t1 t2:Bool)(l1 l2:Addr):Heap:=(zH1 h t1 l1).push (itO t2 l2)
abbrev zH3(h:Heap)(t1 t2:Bool)(l1 l2:Addr):Heap:=(zH2 h t1 t2 l1 l2).push (ae ad (.seq #[Č mn,Č (ag (zH1 h t1 l1))]))
abbrev zH4(h:Heap)(t1 t2:Bool)(l1 l2:Addr):Heap:=(zH3 h t1 t2 l1 l2).push (ae ad (.seq #[Ĺ,Ĺ]))
abbrev zH5(h:Heap)(t1 t2:Bool)(l1 l2:Addr):Heap:=(zH4 h t1 t2 l1 l2).push (ae "zip" (bM #[Ĺ,fg ă,fg ă,Č (ag (zH2 h t1 t2 l1 l2)),Č (ag (zH3 h t1 t2 l1 l2))]))
def zip_made(t1 t2:Bool)(l1 l2:Addr)(vs1 vs2:dz):Meets (Builtin.«zip.__new__» ⟨[Ÿ "zip",Č l1,Č l2],[]⟩) (fun _ R s=>SqK t1 Ė l1 vs1/\SqK t2 Ė l2 vs2/\R (yt (Č (ag (zH4 Ė t1 t2 l1 l2)))) (dJ (zH5 Ė t1 t2 l1 l2))):=
  .of_wp fun P w A R s h=>by
    obtain⟨h0,g0,d0,k0,o0⟩:=s;obtain⟨q1,q2,h⟩:=h;have hsub:=sub_zip;cases t1<;>cases t2
    · have e1:Heap.IsList (Ku h0) l1 vs1:=q1
      have e2:Heap.IsList (ON OM) l2 vs2:=Heap.IsList.push q2 _
      wp_walk using AM e1,AM e2
      exact(Á _ h)
    · have e1:Heap.IsList (Ku h0) l1 vs1:=q1
      have e2:Heap.IsTuple (ON OM) l2 vs2:=Heap.IsTuple.push q2 _
      wp_walk using AM e1,JU e2
      exact(Á _ h)
    · have e1:Heap.IsTuple (Ku h0) l1 vs1:=q1
      have e2:Heap.IsList (ON "tuple_iterator") l2 vs2:=Heap.IsList.push q2 _
      wp_walk using JU e1,AM e2
      exact(Á _ h)
    · have e1:Heap.IsTuple (Ku h0) l1 vs1:=q1
      have e2:Heap.IsTuple (ON "tuple_iterator") l2 vs2:=Heap.IsTuple.push q2 _
      wp_walk using JU e1,JU e2
      exact(Á _ h)
def sK_new(e:b.get? d=ā (itO t a))(q:SqK t h a vs)(k:∀c o,aA c->b.get? c=ē):sK t d a vs 0 b:=by
  cases t
  · exact⟨uI e,Heap.IsList.at q fun o z=>k _ o z⟩
  · exact⟨uI e,vZ o z r q (k _ o z) r⟩
def call_zipK(b e:Bool)(u:SqK b Ė a i)(r:SqK e Ė d g)
    (h:∀f,IsZip f (ġ+4) (ġ+2) (ġ+3) Ĺ->wI f (ġ+2) bj (Č jD)->wI f (ġ+3) Ĺ Ĺ->sK b ġ a i 0 f->sK e jD d g 0 f->uF=ġ+5 ->
      (∀c o,fZ c=ē->f.get? c=ē)->iV (Č (ġ+4)) f):rT (call (Ÿ "zip") [Ī,Č d]):=by
  refine callType_new F.called_zip đ (F.typeCall_zip_2 _ _) (F.newCall_zip_2 _ _) (fun j=>F.args_object_init_3 j _ _) F.entry_zip_new (zip_made b e a d i g) (bx u r);have n:ag (zH1 Ė b a)=jD:=iU ..;have m:ag (zH2 Ė b e a d)=ġ+2:=ţ iU n
  have l:ag (zH3 Ė b e a d)=ġ+3:=ţ iU m
  have k:ag (zH4 Ė b e a d)=ġ+4:=ţ iU l
  have q:Kv (ag (zH4 Ė b e a d))=μ:=Ø;have v:Kv (ag (zH3 Ė b e a d))=μ:=ű Ø;have x:Kv (ag (zH2 Ė b e a d))=μ:=oN Ø;have y:Kv (ag (zH1 Ė b a))=μ:=oN (ű Ø);have p:∀c o,fZ c=ē->Kv c=ē:=fun c o z=>oN (oN (ű z))
  show _/\_;rw[m,l,k]at q;rw[n,m]at x;rw[l]at v;rw[n]at y;rw[k];exact⟨aQ q,h _ q x v (sK_new (oN (oN Ø)) u p) (sK_new y r p) (ţ iU k) p⟩
universe L2
namespace PySem.SeqAt
open AutoSeq1 (wpAny_loadPart')
open MeetsSeq MeetsSeq2 MeetsSeq3 SeqRoads2
def wpAny_forIn_to(f:Nat->β->Sem (ForInStep β))(I:Ġ->β->my)(Q:β->my)
      (turn:∀x rest b s,I (x::rest) b s->wpAny M A (f x b) (fun r c=>match r with | .yield b'=>I rest b' c | .done b'=>Q b' c) E s)
    (fin:∀b s,I [] b s->Q b s) (h:I (List.range' 0 n 1) b s):rG M (forIn [:n] b f):=by
  rw[Std.Legacy.Range.forIn_eq_forIn_range'];have a:([:n]:Std.Legacy.Range).size=n:=aC Std.Legacy.Range.size
  show wpAny M A _ Q E s;rw[a];exact wpAny_forIn_list f I Q turn fin _ b h
def tuple_indexAt(l:Addr)(a_:dz)(n:Nat)(dd:AC)(v:gH jr)(x:Ě)(e:ń Ě)(j:Nat)(hj:j<oO)
    (p:e a_[j]=true) (o:∀m (f:m<oO),m<j->e a_[m]=ă) :
    Meets (Builtin.«tuple.index» ⟨[mP,x],[]⟩)
      (fun A R s=>iQ l (Kc ad dd a_ n v) /\ (∀y,y∈a_->EqAt gb s y x (e y))/\R (yt (Ζ cW)) {s with toks:=cW+1}):=
  .of_wp fun c w A R s h=>by
    obtain⟨B,g,d,u,z⟩:=s;obtain⟨C,E,h⟩:=h
    wp_walk using wpAny_loadPart' C,wpAny_forIn_to _ (fun rest b k=>b.1=none/\k=⟨B,g,d,u,z⟩/\∃i,i<=j/\rest=List.range' i (oO - i) 1) _
    case turn=>
      rintro i rest b k ⟨hb,rfl,r,hi',hr⟩
      obtain⟨m,f⟩:∃m,oO - r=m+1:=(yH (oO - r));rw[f,List.range'_succ]at hr;obtain⟨rfl,rfl⟩:=List.cons.inj hr;have a:i<oO:=Ę
      rw[show ĭ a_ a_[i] by simp[a]];refine ą (E _ (Array.getElem_mem a) c w _ _ ?_);by_cases q:i=j
      · subst q
        rw[p]
        wp_walk
        exact(Á _ h)
      · rw[o i a Ă]
        wp_walk
        exact⟨rfl,rfl,i+1,Ę,by congr 1;omega⟩
    case fin=>
      rintro⟨b1,b2⟩ k ⟨hb,rfl,i,hi,hr⟩
      obtain⟨m,f⟩:∃m,oO - i=m+1:=(yH (oO - i));rw[f,List.range'_succ]at hr;cases hr
    case h=>
      exact⟨rfl,rfl,0,cX,Ģ⟩
def at_reads:∀(a:Ĳ PyData) (b:ŉ) (c:ŀ),G9 a=true->ReadsAll h b a c->gX=bR/\∀m (i:m<gX) (g:m<bR),aR (readOf h b[m]) d=aR a[m] d:=by
  intro a b c f r;have e:=readsAll_map a b c f r
  refine⟨(by rw[←e,ċ]),Ğ m i g⟩
  congr 1
  subst e;rw[OO]
def index_list_reads(B:Reads Ė c (.list xs) O)(z:Reads Ė x d bs)(a:G9 xs=true)(K:d.canLay0=true)
    (C:uq+1+min (Kw xs) d.depth<cLine) (J:j<Ä) (b:É<ψ 63) (i:aR xs[j] d=true) (f:∀m (F:m<Ä),m<j->aR xs[m] d=ă) (h:JX j):gY (pZ "list.index" [c,x]):=by
  cases B with
  | list u r q p=>
    rename_i l o e n N;obtain⟨M,L,v,y⟩:=o;simp at r q;subst r q;obtain⟨I,k⟩:=at_reads xs e.toList _ a p;have H:e.size=Ä:=by rw[←I];simp
    refine PySem.call_meets PySem.F.slot_list_index (aQ u) PySem.F.entry_list_index (PySem.F.args_list_index_2 _ _)
      (list_indexAt l e _ L y x _ j Ă b ?_ ?_) ⟨u,items_eqAt p z a K C,h⟩
    · rw[←i]
      exact k j Ă J
    · intro m F g
      rw[←f m Ă g];exact k m Ă Ă
def index_tuple_reads(B:Reads Ė c (.tuple xs) M)(z:Reads Ė x d bs)(a:G9 xs=true)(J:d.canLay0=true)
    (C:uq+1+min (Kw xs) d.depth<cLine) (I:j<Ä) (g:aR xs[j] d=true) (e:∀m (i:m<Ä),m<j->aR xs[m] d=ă) (h:JX j):gY (pZ "tuple.index" [c,x]):=by
  cases B with
  | tuple u r q p=>
    rename_i l o b n;obtain⟨L,K,v,y⟩:=o;simp only at r q;subst r q;obtain⟨H,k⟩:=at_reads xs b.toList _ a p;have F:b.size=Ä:=by rw[←H];simp
    refine PySem.call_meets PySem.F.slot_tuple_index (aQ u) PySem.F.entry_tuple_index (PySem.F.args_tuple_index_2 _ _)
      (tuple_indexAt l b _ K y x _ j Ă ?_ ?_) ⟨u,items_eqAt p z a J C,h⟩
    · rw[←g]
      exact k j (by simpa using(Ę:j<b.size)) I
    · intro m i f
      rw[←e m Ă f];exact k m (Ķ i) Ă
universe PySem.SeqAt
namespace PySem
def rangeSize_down(a b:Int):NW a b (-1)=ĩ (b<a) (a - b) 0:=by
  unfold NW;simp
def small_down{a b:Int}(ha : uk a)(ha':a<2^62)(hb : uk b)(hb':b<2^62):Builtin.Range.small a b (-1)=true:=by
  unfold Builtin.Range.small;rw[rangeSize_down];simp only[Builtin.Range.rangeFitsLong,Ĉ,gc,ak,ķ,show ¬((-1:Int)>0) by decide,si];split<;>omega
universe PySem
namespace L2
open PySem PySem.Spec PyProof.Rows
def Itd(hi:Int)(n:Nat):It:=⟨Ĵ _ (i<n),Dq (H'=H/\x=.int (hi - i)),Ĵ _ (n<=i)⟩
def turn_down{P:ř}{w:ł}{K:į}{tg:Expr}(it:Addr)(hi:Int)(n:Nat):JT tg (Itd hi n) (IsRangeIter h it (hi+cT*(-1)) (ρ - cT) (-1)) where
  mem:=Ģ
  obj:=fun i h st b hb=>by
    have e:b=it:=Ķ hb
    subst e;exact⟨_,st,fun v z=>by
      have z':Data.fields _=Data.cell v:=z;cases z'⟩
  keep:=fun i h h' st k=>k it Ģ _ st
  item:=by
    intro X hP hw hK hc i pins s σ H E I hf st hg;subst hP hw hK;obtain⟨f0,f1,f2,f3,f4,f5⟩:=AL;have W:=Xp hi (-1) n;refine Xo
    obtain⟨t,rfl⟩:=hv;have I1:pO H h' tk:=Xn;refine(Á _ (Xm (hi - i)));rw[Ş (hi+(i:Int)*(-1)=hi - i)]
  done:=by
    intro X hP hw hK hc i pins s σ H E I hf st hg;subst hP hw hK;obtain⟨f0,f1,f2,f3,f4,f5⟩:=AL;exact Xl
  self:=Xk
def down_it{X:Cx}{tg:Expr}{pins:ğ}{σ:St}{H:Hp}{s:č}{R:It->cj}{E:ú}{lo hi:Int}{t u v:Tok}{tk:Nat}(I:Ĥ)(h1 : uk lo)(h2:lo<2^62)(h3 : uk hi)(h4:hi<2^62)
    (q:R (Itd lo (mF lo hi)) H):Xu Kx:=by
  refine Xs (small_down h1 h2 h3 h4) ?_;have I1:pO H Kx tk:=I.kept yl
  refine⟨(ag Kx),[ag Kx],_,_,H,rfl,
    I1.kept (t':=tk) yl,turn_down _ lo (mF lo hi),?_,cQ hb,q⟩
  · have e1:lo+ı 0*(-1)=lo:=Ģ
    have e2:NV lo hi=NW lo hi (-1):=by rw[rangeSize_down];split<;>omega
    show IsRangeIter _ _ (lo+ı 0*(-1)) (NV lo hi) (-1);rw[e1,e2];exact Ø
  · have e:b=ag Kx:=Ķ hb
    subst e;exact NU
def iRng3(ta:TA):TI:=Xv [ĳ,Ζ,.int (-1)] (Itd i (mF i j))
def noPl(a:Int):Builtin.divisionGoesByPylong a (-1)=ă:=PyProof.noPylong_small Ă
def pi_range3{X:Cx}{tg:Expr}{a b c:Expr}{ta:TA}{p pos:Pos}(hg:Gl X kZ)(hm:mH kZ)(ha:PA X [a,b,c] ta)(hs:mG [a,b,c]=[pU a,pU b,pU c])(hs2:mG [b,c]=[pU b,pU c]) :
    GJ [a,b,c] (iRng3 ta):=by
  intro pins s σ H R I h;refine Xw;obtain⟨i,j,e,⟨q1,q2,q3,q4⟩,q⟩:=q1;subst e;cases r1 with
  | cons r rr=>
    cases rr with
    | cons r' rr=>
      cases rr with
      | cons r'' rr=>
        cases rr;obtain⟨t,rfl⟩:=r;obtain⟨t',rfl⟩:=r';obtain⟨t'',rfl⟩:=r'';exact call_range_3 đ (down_it I1 q1 q2 q3 q4 q) (Or.inl (noPl _))
universe L2
namespace L2
open PySem
set_option genInjectivity true in
inductive DKey where
  | i (n:Int) | s (x:Str) | t (l:List (Sum Int Str))
  deriving DecidableEq
inductive Bi where
  | len | min | max | sum | sset | tuple | list | all | any
  deriving C6
inductive Mt where
  | bitLength | index | get
  deriving C6
inductive Tg where
  | one (i:Nat) | many (is:Ġ)
inductive ME where
  | var (i:Nat) | int (i:Int) | bl (b:Bool) | str (x:Str) | non | glb (x:Str)
  | bin (op:rQ) (a b:ME) | neg (a:ME)  | not (a:ME)
  | cmp (op:jy) (a b:ME) | chain (op op':jy) (a b c:ME)
  | and (es:aw) | or (es:aw)
  | lst (es:aw) | tup (es:aw)
  | ix (a b:ME) | sl (a lo hi:ME) | slf (a lo:ME) | slt (a hi:ME)
   | call (f:Nat) (es:aw)    | bi (f:Bi) (es:aw) | isi (a:ME) (ts:ĥ) | meth (m:Mt) (a:ME) (es:aw)
  | comp (elt:ME) (tg:Tg) (it:ME) (fr:mT) | compi (elt:ME) (tg:Tg) (it c:ME) (fr:mT)
   | dix (a k:ME)
  | dgp (i:Nat) (k:ME)   | callv (i:Nat) (xs:iH Nat) (es:aw)
  | srtk (a:ME) (N:ĥ) (np:Nat) (lb:ME) (fr:Ġ) | ite (c a b:ME) | gdx (b:ME) | zp (a b:ME)
  | mink (a:ME) (N:ĥ) (np:Nat) (lb:ME) (fr:Ġ) | self (np nc:Nat) (es:aw) | dc2 (x y:Str) (a b:ME)
  | idx (a b:ME)
  | rng (es:aw) | enu (a:ME)  | itm (a:ME)
structure LamD where
  N:ĥ
  np:Nat
  body:ME
  fn:ĥ
  bl:ĥ
  cl:ĥ
set_option genInjectivity true in
inductive DV where
  | non | bl (b:Bool) | int (i:Int) | str (x:Str) | tup (ds:List DV) | lst (ds:List DV) | dct (ks:List DKey) (vs:List DV)
  | fn (x:Str)
  | lam (m:LamD) (ds:List DV)
  | scr (ns:List Int)
inductive Cl where
  | weak | top | jM | jL
  deriving C6
set_option genInjectivity true in
inductive Re where
  | ok (d:DV) (c:Cl)
inductive Rs where
  | ok (l:oP)
inductive Rt where
  | ok (b:Bool)
inductive Sv where
  | no | val (d:DV) | own (d:DV)
  | od (d:DV)
inductive Ou where
  | v (d:DV) (fr:Bool)
inductive Out where
  | nx (δ:Ĕ) | rt (d:DV) (fr:Bool)
inductive MS where
  | set (i:Nat) (own:Bool) (e:ME)
   | aug (i:Nat) (e:ME) | app (i:Nat) (e:ME) | ext (i:Nat) (e:ME) | seti (i:Nat) (k e:ME)
  | exp (e:ME) | ret (e:ME)  | iff (c:ME) (a b:bI) | fo (tg:Tg) (it:ME) (body:bI) | wh (c:ME) (body:bI)
    | retd (i:Nat)
  | sep (i:Nat) | dpp (i:Nat) (ks:aw) (e:ME)
  | unk
  | dfr (i:Nat) (fr:Ġ) (es:aw)
structure CloD where
  N:ĥ
  np:Nat
  nc:Nat
  body:bI
structure FD where
  n:Nat
  np:Nat
  clo:ĕ CloD:=none
  body:bI
def Χ(r:Ŝ)(k:DV->Cl->Ŝ):Ŝ:=match r with
  | none=>none
  | uJ=>k d c
def mV(r:ĕ Rs)(k:uL):Ŝ:=match r with
  | none=>none
  | uK=>k l
def Rt.thn(r:ĕ Rt)(k:Bool->Ŝ):Ŝ:=match r with
  | none=>none
  | ā (.ok b)=>k b
def Re.thnT(r:Ŝ)(k:DV->Cl->ĕ Rt):ĕ Rt:=match r with
  | none=>none
  | uJ=>k d c
mutual
def DV.immut:ń DV
  | .non=>true | .bl _=>true | dL=>true | .str _=>true | .fn _=>true | .scr _=>true
  | Κ=>oQ ds
  | pL=>ă
  | yI=>ă
  | .dct _ vs=>oQ vs
def oQ:ń Ĩ
  | []=>true
  | d::r=>d.immut&&oQ r
end
mutual
def DV.nolam:ń DV
  | yI=>ă
  | Κ=>lC ds
  | ŋ=>lC ds
  | .dct _ vs=>lC vs
  | _=>true
def lC:ń Ĩ
  | []=>true
  | d::r=>yJ&&lC r
end
def stro(d:DV):ń Cl
  | Ē=>true | ĵ=>true | _=>d.immut
def stros(l:oP):Bool:=l.all fun p=>stro p.1 p.2
def Cl.item:Cl->Cl
  | bp=>bp | _=>Ē
def Cl.anew:Cl->Cl->Cl
  | bp,_=>bp | _,bp=>bp | _,_=>ĵ
def ÿ:Nat:=1000000
mutual
def deq:DV->ń DV
  | .non,.non=>true
  | .bl a,.bl b=>a==b
  | .bl a,Ζ=>(ĩ a 1 0)==j
  | ĳ,.bl b=>i==(ĩ b 1 0)
  | ĳ,Ζ=>i==j
  | .str a,.str b=>ě (a=b)
  | ģ a,ģ b=>deqs a b
  | .lst a,.lst b=>deqs a b
  | _,_=>ă
def deqs:Ĩ->ń Ĩ
  | [],[]=>true
  | a::r,b::s=>deq a b&&deqs r s
  | _,_=>ă
end
mutual
def bJ:Nat->ń DV
  | _,.non=>true | _,.bl _=>true | _,dL=>true
  | _,aL=>x.cps.all (· < 0x110000)
  | 0,_=>ă
  | n+1,Κ=>gf n ds | n+1,ŋ=>gf n ds
  | _,_=>ă
def gf:Nat->ń Ĩ
  | _,[]=>true
  | n,d::r=>d.plain n&&gf n r
end
def truth:DV->ĕ Bool
  | .non=>oR
  | .bl b=>lD
  | ĳ=>ā (i != 0)
  | aL=>ā (x.cps.size != 0)
  | Κ=>ā (!Ky)
  | ŋ=>ā (!Ky)
  | _=>none
def fB(n:Nat)(i:Int):ĕ Nat:=XW
def atD(ds:Ĩ)(i:Int):ĕ DV:=(fB œ i).bind fun j=>ds[j]?
def iW(k:DKey):Bf->uM DV
  | k'::ks,v::vs=>ĩ (k'=k) dw (iW k ks vs)
  | _,_=>none
def putD(k:DKey)(d:DV)(ks:Bf)(vs:Ĩ):Bf×Ĩ:=
  if k∈ks then(ks,ļ (ks.zip vs) p (ĩ (p.1=k) d p.2))else(ks++[k],vs++[d])
def ixD(a b:DV):ĕ DV:=match a,b with
  | iX,ĳ=>Tk i ŕ
  | ŋ,ĳ=>atD ds i
  | Κ,ĳ=>atD ds i
  | _,_=>none
def slIx(n d:Nat):iP->Nat
  | none=>d
  | dw=>XU
def cutD(ds:Ĩ)(lo hi:iP):Ĩ:=(ds.drop (slIx œ 0 lo)).take (slIx œ œ hi - slIx œ 0 lo)
def slD(a:DV)(lo hi:iP):ĕ DV:=match a with
  | ŋ=>ā (.lst (cutD ds lo hi))
  | _=>none
def slCl(a:DV)(c:Cl):Cl:=D'
def mulOk(i j:Int):Bool:=(ě (-(2^64)<i)&&ě (i<2^64))||(ě (-(2^64)<j)&&ě (j<2^64))||(ě (i.natAbs<2^2000)&&ě (j.natAbs<2^2000))
def asI:DV->iP
  | ĳ=>eJ
  | _=>none
def asL:DV->uN
  | .lst i=>eJ
  | _=>none
def binD(op:rQ)(a b:DV)(ca cb:Cl):Ŝ:=match op with
  | .Add=>match a with
    | ĳ=>KA b fun j=>p_ (i+j)
    | .lst x=>(asL b).bind fun y=>Ŭ (eQ+Du<=ÿ) (.ok (.lst (x++y)) (Cl.anew ca cb))
    | _=>none
  | .Sub=>sw (p_ (i - j))
  | .Mult=>match a with
    | ĳ=>KA b fun j=>Ŭ (mulOk i j) (Ψ (i*j))
    | _=>none
  | .Mod=>sw (Ŭ (0<j) (Ψ (i%j)))
  | .FloorDiv=>sw (Ŭ (0<j/\j<2^200) (Ψ (i/j)))
  | .LShift=>sw (Ŭ Xz (Ψ (i*AQ)))
  | .RShift=>sw (Ŭ (0<=j) (Ψ (i/AQ)))
  | .BitOr=>sw (p_ (JZ i j))
  | rX=>sw (p_ (rW i j))
  | .BitXor=>sw (p_ (J1 i j))
  | _=>none
def asB:DV->ĕ Bool
  | .bl i=>eJ
  | _=>none
def isN:ń DV
  | .non=>true
  | _=>ă
def cmpD(op:jy)(a b:DV):ĕ Bool:=match op with
  | .Lt=>sw (ā (ě (i<j)))
  | .LtE=>sw (ā (ě (i<=j)))
  | .Gt=>sw (ā (ě (j<i)))
  | .GtE=>sw (ā (ě (j<=i)))
  | .Is=>match b with
    | .non=>ā (isN a)
    | .bl j=>(asB a).bind fun i=>ā (i==j)
    | _=>none
  | .IsNot=>match b with
    | .non=>ā (!isN a)
    | _=>none
  | .Eq=>Ŭ (a.plain 60&&b.plain 60) (deq a b)
  | .NotEq=>Ŭ (a.plain 60&&b.plain 60) (!deq a b)
  | _=>none
def ints?:uM Ď
  | []=>ā []
  | ĳ::r=>(ints? r).map (i :: ·)
  | _=>none
def bools?:uM wJ
  | []=>ā []
  | .bl i::r=>(bools? r).map (i :: ·)
  | _=>none
def minI:Int->Ď->Int
  | m,[]=>m
  | m,x::r=>qa (ĩ (x<m) x m)
def insI(x:Int):Ď->Ď
  | []=>[x]
  | y::r=>ĩ (x<y) (x::y::r) (y::oS r)
def bT:Ď->Ď
  | []=>[]
  | x::r=>oS (bT r)
def dk(σ:Ď)(k:Int):Ď:=ĩ (k∈σ) σ (σ++[k])
def uO(i:Int):Int:=if i=0 then 0 else qb i.natAbs.log2
def lenD:uL
  | [(ŋ,_)]=>ā (Ψ œ)
  | [(Κ,_)]=>ā (Ψ œ)
  | [(iX,_)]=>ā (Ψ eL)
  | _=>none
def minD:uL
  | [(ĳ,_),(Ζ,_)]=>p_ (ĩ (j<i) j i)
  | [(ŋ,c)]=>match ints? ds with
    | ā (n::r)=>p_ (qa n)
    | _=>none
  | _=>none
def kRun{α:Type}(n:Nat)(c:Nat->gZ):PySem.W.KasT α->ĕ α
  | .ret a=>eF
  | KB=>if i<n/\j<n then kRun n c (k (c i j))else none
def sortIx(ks:Ď):ĕ Ġ:=if cY<2 then ā (Ū cY)else(kRun cY (Ĵ j (ě (mW i<mW j))) (PySem.W.kas_sort cY)).map Array.toList
def jO{α:Type}(x:α)(ix:Ġ)(l:Ρ):Ρ:=ix.map fun i=>jN i x
def nonDec:ń Ď
  | []=>true
  | a::r=>match r with
    | []=>true
    | b::_=>ě (a<=b)&&nonDec r
def uP(ks:Ď):ĕ Ġ:=ĩ (cY<64) (sortIx ks) (Ŭ (nonDec ks=true) (Ū cY))
def maxD:uL
  | [(ĳ,_),(Ζ,_)]=>p_ (ĩ (j>i) j i)
  | _=>none
def ssetD:uL
  | [(ŋ,_)]=>match ints? ds with
    | ā ns=>Ŭ (eL<4000/\Ć (ns.foldl dk [])<64) (.ok (g_ (bT (ns.foldl dk [])) ŕ) ĵ)
    | none=>none
  | _=>none
def sumD:uL
  | [(ŋ,_)]=>ļ (ints? ds) ns (Ψ ns.sum)
  | _=>none
def allD:uL
  | [(ŋ,_)]=>ļ (bools? ds) bs (fC (bs.all id))
  | _=>none
def anyD:uL
  | [(ŋ,_)]=>ļ (bools? ds) bs (fC (bs.any id))
  | _=>none
def listD:uL
  | [(ŋ,c)]=>ā (.ok ŋ D')
  | [(Κ,c)]=>ā (.ok ŋ D')
  | _=>none
def tupleD:uL
  | [(ŋ,c)]=>ā (.ok Κ c.item)
  | _=>none
def biD(f:Bi)(l:oP):Ŝ:=match f with
  | .len=>lenD l
  | .min=>minD l
  | .max=>maxD l
  | .tuple=>tupleD l
  | .list=>listD l
  | .all=>allD l
  | .any=>anyD l
  | .sset=>ssetD l
  | .sum=>sumD l
def biOk:ń Bi
  | .len=>true | .min=>true | .max=>true | .tuple=>true | .list=>true | .all=>true | .any=>true | .sset=>true | .sum=>true
def mtD(m:Mt)(a:DV):Ŝ:=match m,a with
  | D_,ĳ=>p_ (uO i)
  | _,_=>none
def gdN:Str:="OTHER_SIDE"
structure Gs where
  con:iH DV
  fnl:ĥ:=[]
  bll:ĥ:=[]
  cll:ĥ:=[]
  clo:ĕ CloD:=none
  gk:iH Str:=[]
def tyOf:DV->ĥ
  | dL=>[jA]
  | _=>[]
def pyTypes:ĥ:=Ea
def isiD(G:Gs)(d:DV)(ts:ĥ):ĕ Bool:=match d with
  | ĳ=>match ts with
    | [t]=>Ŭ (OP t) ((tyOf ĳ).contains t)
    | _=>none
  | _=>none
def upTo(lo:Int)(n:Nat):Ĩ:=eS n cT (ŕ (lo+i))
def qc(lo:Int)(n:Nat):Ĩ:=eS n cT (ŕ (lo - i))
def gh(i:Int):Bool:=ě (uk i)&&ě (i<2^62)
def findD(y:DV):uM Nat
  | []=>none
  | d::r=>if deq d y then ā 0 else(findD y r).map (· + 1)
def seqB:ń DV
  | pL=>true | ģ _=>true | _=>ă
def idxD(x y:DV):ĕ DV:=match x with
  | ŋ=>Yo
  | Κ=>Yo
  | _=>none
def rngD(l:oP):uN:=match l with
  | [(Ζ,_)]=>KC (gh j) (j<=ÿ) (upTo 0 j.toNat)
  | [(ĳ,_),(Ζ,_)]=>KC (gh i&&gh j) (j - i<=ÿ) (upTo i (mF j i))
  | [(ĳ,_),(Ζ,_),(dN,_)]=>Yp ÿ k
  | _=>none
def enuD:Nat->Ĩ->Ĩ
  | _,[]=>[]
  | k,d::r=>ģ [dN,d]::enuD ς r
def zpD:Ĩ->Ĩ->Ĩ
  | a::r,b::s=>ģ [a,b]::zpD r s
  | _,_=>[]
def Cl.meet:Cl->Cl->Cl
  | bp,_=>bp | _,bp=>bp | .top,_=>.top | _,.top=>.top | _,_=>Ē
def kindD:DV->ĕ (Bool×Ĩ)
  | ŋ=>ā (ă,ds)
  | Κ=>ā (true,ds)
  | _=>none
def enumD(x:DV)(c:Cl):Ŝ:=match kindD x with
  | ā (_,xs)=>ā (.ok (.lst (enuD 0 xs)) (G' c))
  | _=>none
def zipD(x y:DV)(c c':Cl):Ŝ:=match kindD x,kindD y with
  | ā (_,xs),ā (_,ys)=>ā (.ok (.lst (zpD xs ys)) (G' c'))
  | _,_=>none
def kvp?:Bf->uM uQ
  | [],[]=>ā []
  | Bg a b::ks,yK::vs=>(kvp? ks vs).map (((a,b),v) :: ·)
  | _,_=>none
def itmD(x:DV)(c:Cl):Ŝ:=match x with
  | Eb=>Yq c ks.isEmpty ks vs
  | _=>none
def dixD(x y:DV):Ŝ:=match x,y with
  | Eb,dN=>(match iW (.i k) ks vs with
    | wK=>ā (Ψ v)
    | _=>none)
  | Eb,OQ=>(match iW (Bg a b) ks vs with
    | wK=>ā (Ψ v)
    | _=>none)
  | _,_=>none
def asDc:DV->ĕ (Bf×Ĩ)
  | Eb=>ā (ks,vs)
  | _=>none
def dixC(x:DV)(c:Cl)(y:DV):Ŝ:=match y with
  | .str k=>if c=Ē then(asDc x).bind fun p=>ļ (iW (.s k) p.1 p.2) d lE else none
  | y=>dixD x y
def dgpD(ks:Bf)(vs:Ĩ)(y:DV):Ŝ:=match y with
  | OQ=>(match iW (Bg a b) ks vs with
    | wK=>ā (Ψ v)
    | _=>none)
  | _=>none
def dppD(i:Nat)(δ:Ĕ)(ks:Bf)(vs:Ĩ)(l:oP)(d:DV):ĕ Ĕ:=match l,d with
  | [(.int a,_),(.int b,_)],.int z=>Ŭ (cY<ÿ) (eT (Yr (putD (Bg a b) (.int z) ks vs)))
  | _,_=>none
def unT:DV->DV
  | ģ [d]=>d
  | d=>d
def isDc:ń DV
  | yL=>true
  | ģ [_]=>true
  | _=>ă
def seqD:DV->uN
  | iX=>ā (ns.map ŕ)
  | ŋ=>ā ds
  | Κ=>ā ds
  | _=>none
def setAll(δ:Ĕ):Ġ->uM Ĕ
  | [],[]=>ā δ
  | i::is,d::ds=>setAll (eT dP) is ds
  | _,_=>none
def Tg.bind(tg:Tg)(d:DV)(δ:Ĕ):ĕ Ĕ:=match tg with
  | .one i=>ā (eT dP)
  | jP is=>match d with
    | Κ=>setAll δ is ds
    | _=>none
def mX(fr:mT)(δ:Ĕ):Ĕ:=fr.map fun o=>match o with
  | eJ=>OR
  | none=>.no
inductive Rc where
  | skip | item (d:DV)
def jQ(g:DV->ĕ Rc):uM Ĩ
  | []=>ā []
  | d::r=>match g d with
    | none=>none
    | ā .skip=>jQ g r
    | ā (.item x)=>match jQ g r with
      | none=>none
      | ā xs=>ā (x::xs)
def compEnd(r:uN):Ŝ:=match r with
  | none=>none
  | ā xs=>ā (.ok k6 ĵ)
def compEndW(r:uN):Ŝ:=match r with
  | none=>none
  | ā xs=>ā (.ok k6 bp)
def Rc.of(r:Ŝ):ĕ Rc:=match r with
  | uJ=>Ŭ (mY c) (.item d)
  | _=>none
def Rc.test(t:ĕ Rt)(r:ĕ Rc):ĕ Rc:=match t with
  | ā Bh=>r
  | ā yM=>ā .skip
  | _=>none
inductive Ri where
  | ok (ds:Ĩ) (c:Cl)
def Ri.thn(r:ĕ Ri)(k:Ĩ->Cl->Ŝ):Ŝ:=match r with
  | none=>none
  | yN c=>k ds c
def Re.thnI(r:Ŝ)(k:DV->Cl->ĕ Ri):ĕ Ri:=match r with
  | none=>none
  | uJ=>k d c
def iterD(d:DV)(c:Cl):ĕ Ri:=oT (seqD d) ds ds c
def imL:ń DV
  | ŋ=>oQ ds
  | _=>ă
def callD(F:Ŵ)(f:Nat)(l:oP):Ŝ:=match F f eM with
  | none=>none
  | ā (.v d fr)=>ā (.ok d (if KD then(ĩ fr ĵ Ē)else ĩ (fr&&imL d) ĵ bp))
def cZ:Nat:=1001
def capD(δ:Ĕ):Ġ->uN
  | []=>ā []
  | i::r=>match ω,hZ r with
    | ā dP,ā ds=>Ŭ yJ (d::ds)
    | _,_=>none
def sS:DV->ĕ Str | sx=>eJ | _=>none
def tT:DV->uN | ģ l=>ā l | _=>none
def callM(F:Ŵ)(m:LamD)(cs:Ĩ)(l:oP):Ŝ:=if yO then(match F cZ (dQ::eM)with
  | iY=>ā lE
  | _=>none)else none
def keysL(F:Ŵ)(m:DV):uM Ď
  | []=>ā []
  | d::r=>match F cZ [m,d]with
    | ā (lF k)=>(uR m r).map (k :: ·)
    | _=>none
def srtL(F:Ŵ)(m:DV)(x:DV)(c:Cl):Ŝ:=match x with
  | ŋ=>if Ys/\œ<=64 then(uR m ds).bind fun ks=>oT (uP ks) ix (OS ds) ĵ else none
  | _=>none
def minIx(ks:Ď):ĕ Nat:=(Ū cY).find? fun i=>(Ū cY).all (Yt i i)
def mnkL(F:Ŵ)(m:DV)(x:DV)(c:Cl):Ŝ:=match x with
  | ŋ=>if Ys then(uR m ds).bind fun ks=>Tl lE else none
  | _=>none
def minkE(G:Gs)(F:Ŵ)(ra:Ŝ)(N:ĥ)(np:Nat)(lb:ME)(o:uN):Ŝ:=match o with
    | qd=>ĩ Tm none (eU (ra) cx (mnkL F (.lam (Bj N np lb) cs) x cx))
    | none=>none
def h_:Nat:=1003
def ŭ:Str:="plan_of"
def callC(F:Ŵ)(np:Nat)(cs:Ĩ)(l:oP):Ŝ:=if yO/\Ň=np then(match F h_ (eM++cs)with
  | iY=>Ŭ yJ lE
  | _=>none)else none
def selfE(G:Gs)(F:Ŵ)(np nc:Nat)(rs:ĕ Rs)(o:uN):Ŝ:=match G.clo with
    | ā C=>bU (C.np=np/\C.nc=nc) (o.bind fun cs=>mZ rs (G_ np))
    | none=>none
def dc2D(x y:Str)(a b:DV)(ca cb:Cl):Ŝ:=Ŭ (stro a ca=true/\stro b cb=true/\x≠y) (dU (.dct [.s x,.s y] [a,b]))
def srtkE(G:Gs)(F:Ŵ)(ra:Ŝ)(N:ĥ)(np:Nat)(lb:ME)(o:uN):Ŝ:=match o with
    | qd=>ĩ Tm none (eU (ra) cx (srtL F (.lam (Bj N np lb) cs) x cx))
    | none=>none
def gdxD(G:Gs):DV->Ŝ
  | .str k=>ļ (G.gk.lookup k) i (dU sx)
  | _=>none
def andD(x:DV)(c:Cl)(r:Ŝ):Ŝ:=match truth x with
  | none=>none
  | cV=>r
  | oR=>ā (.ok x c)
def orD(x:DV)(c:Cl)(r:Ŝ):Ŝ:=match truth x with
  | none=>none
  | cV=>ā (.ok x c)
  | oR=>r
def tstD(r:Ŝ):ĕ Rt:=Re.thnT r fun x _=>(truth x).map Rt.ok
def ax(r:Ŝ):ĕ Ri:=Re.thnI r fun x c=>iterD x c
def varE(o:ĕ Sv):Ŝ:=match o with
    | ā dP=>ā lE
    | ā (.own d)=>ā (.ok d .top)
    | _=>none
def callvE(G:Gs)(F:Ŵ)(xs:iH Nat)(rs:ĕ Rs)(o:ĕ Sv):Ŝ:=match o with
    | ā (ę (.fn x))=>(match xs.lookup x with
      | ā f=>mZ (rs) uS
      | none=>none)
    | ā (ę dQ)=>bU (m.fn=G.fnl/\m.bl=G.bll/\m.cl=G.cll/\Bk) (mZ (rs) (callM F m cs l))
    | _=>none
mutual
def evE(G:Gs)(F:Ŵ):ME->Ĕ->Ŝ
  | .var i,δ=>varE ω
  | ĳ,_=>ā (Ψ i)
  | .bl i,_=>ā (fC i)
  | sx,_=>ā (dU sx)
  | .non,_=>ā (.ok .non Ē)
  | .glb x,_=>ļ (G.con.lookup x) d lE
  | .bin op a b,δ=>sy cx (bK b fun y cy=>binD op x y cx cy)
  | .neg a,δ=>sy _ Yy
  | .not a,δ=>sy _ Tp
  | .cmp op a b,δ=>sy _ (bK b (Ec y op x))
  | .chain op op' a b c,δ=>bK a fun x _=>bK b fun y _=>match Ed with
    | none=>none
    | oR=>ā (fC ă)
    | cV=>bK c (Ec z op' y)
  | .and es,δ=>KE es
  | .or es,δ=>evOr G F es δ
  | .lst es,δ=>OV wL (.lst eM) ĵ
  | ģ es,δ=>OV wL (ģ eM) Ē
  | .ix a b,δ=>sy cx (bK b fun y _=>oT (ixD x y) d d cx.item)
  | .sl a lo hi,δ=>bK a fun x cx=>bK lo fun l _=>match l with
    | .int l=>bK hi fun h _=>(match h with
      | .int h=>Hb (ā l) (ā h) cx
      | _=>none)
    | _=>none
  | .slf a lo,δ=>bK a fun x cx=>bK lo fun l _=>match l with
    | .int l=>Hb (ā l) none cx
    | _=>none
  | .slt a hi,δ=>bK a fun x cx=>bK hi fun h _=>match h with
    | .int h=>Hb none (ā h) cx
    | _=>none
  | ľ f es,δ=>mZ wL uS
  | .bi f es,δ=>bU (biOk f) (mZ wL (biD f l))
  | .isi a ts,δ=>sy _ (ļ (isiD G x ts) k (fC k))
  | .meth m a _,δ=>bU (m=D_) (sy _ (mtD m x))
  | OU,δ=>Ri.thn uU fun ds c=>Yx c œ d fr [] δ' (Ų elt δ') ds δ
  | OT,δ=>Ri.thn uU fun ds c=>ĩ (c=bp\/ÿ<œ) none (Yw (tstD (Ų cd δ')) (Ų elt δ') ds)
  | .idx a b,δ=>sy _ (bU (seqB x) (bK b fun y _=>ļ (idxD x y) d lE))
  | .rng es,δ=>mZ wL (oT (rngD l) ds ŋ ĵ)
  | .enu a,δ=>sy c (enumD x c)
  | .itm a,δ=>sy c (itmD x c)
  | .dix a k,δ=>sy c (bK k fun y _=>dixC x c y)
  | .dgp i k,δ=>match ω with
    | ā (yQ ks vs)=>bK k fun y _=>dgpD ks vs y
    | _=>none
  | .callv i xs es,δ=>callvE G F xs wL ω
  | To,δ=>Yv
  | KF,δ=>Rt.thn yP fun k=>ĩ k (Ũ a) (Ũ b)
  | .gdx b,δ=>bK b Tn
  | .zp a b,δ=>sy c (bK b fun y c'=>zipD x y c c')
  | .mink a N np lb fr,δ=>minkE G F (Ũ a) N np lb (hZ fr)
  | .self np nc es,δ=>Yu wL
  | .dc2 x y a b,δ=>bK a fun d c=>bK b fun d' c'=>dc2D x y d d' c c'
def evEs(G:Gs)(F:Ŵ):aw->Ĕ->ĕ Rs
  | [],_=>ā (.ok [])
  | lG,δ=>match Ũ e with
    | none=>none
    | uJ=>match wL with
      | none=>none
      | uK=>ā (.ok ((d,c)::l))
def evAnd(G:Gs)(F:Ŵ):aw->Ĕ->Ŝ
  | [],_=>none
  | lG,δ=>ĩ Ha uT (bK e fun x c=>andD x c (KE es))
def evOr(G:Gs)(F:Ŵ):aw->Ĕ->Ŝ
  | [],_=>none
  | lG,δ=>ĩ Ha uT (bK e fun x c=>orD x c (evOr G F es δ))
end
def hunIx:Nat:=1000
def Re.thnS(δ:Ĕ)(r:Ŝ)(k:DV->Cl->oU):oU:=match r with
  | none=>none
  | uJ=>k d c
def Rs.thnS(δ:Ĕ)(r:ĕ Rs)(k:oP->oU):oU:=match r with
  | none=>none
  | uK=>k l
def Rt.thnS(δ:Ĕ)(r:ĕ Rt)(k:Bool->oU):oU:=match r with
  | none=>none
  | ā (.ok b)=>k b
def Ri.thnS(δ:Ĕ)(r:ĕ Ri)(k:Ĩ->Cl->oU):oU:=match r with
  | none=>none
  | yN c=>k ds c
def jR(tg:Tg)(body:Ee):Ĩ->Ee
  | [],δ=>ſ δ
  | d::r,δ=>match oV δ with
    | none=>none
    | ā δ1=>match body δ1 with
      | ſ δ2=>wM r δ2
      | o=>o
def yR(test:Ĕ->ĕ Rt)(body:Ee):Nat->Ee
  | 0,_=>none
  | n+1,δ=>match test δ with
    | none=>none
    | ā yM=>ſ δ
    | ā Bh=>match body δ with
      | ſ δ2=>OW n δ2
      | o=>o
def frD:DV->ń Cl
  | pL,ĵ=>true | pL,.top=>true
  | _,_=>ă
def noOt(i:Nat)(δ:Ĕ):Bool:=(Ū Hc).all fun j=>j==i||(sA δ[j]? (.od _) ă _ true)
def setOwn(i:Nat)(δ:Ĕ)(d:DV)(c:Cl):oU:=match c with
  | ĵ=>ā (sB (.own d))
  | _=>match d with
    | .non=>ā (sB (ę .non))
    | _=>none
def retD(d:DV)(c:Cl):Out:=.rt d (frD d c)
def asIv:ĕ Sv->iP
  | ā dP=>asI d
  | _=>none
def appS(δ:Ĕ)(i:Nat)(re:Ŝ)(o:ĕ Sv):oU:=match o with
    | ā sC=>Ef (re) (Ŭ (mY c/\œ<ÿ) (wO (ds++[d])))
    | _=>none
def setiS(δ:Ĕ)(i:Nat)(rk re:Ŝ)(o:ĕ Sv):oU:=match o with
    | ā sC=>qe (re) fun d c=>qe (rk) fun k _=>(match k with
      | dN=>(match fB œ k with
        | jF=>Ŭ (mY c) (wO (ds.set j d))
        | none=>none)
      | _=>none)
    | _=>none
def noB:ń (ĕ Sv)
  | ā .no=>true
  | _=>ă
def dfrS(G:Gs)(F:Ŵ)(fr:Ġ)(rs:ĕ Rs)(o:uN)(oi:ĕ Sv):oU:=match G.clo with
    | ā C=>if C.nc=lx/\noB oi=true/\Bk then o.bind fun cs=>(mZ rs (G_ C.np)).bind fun r=>(match r with
      | .ok d _=>ā Eg)else none
    | none=>none
mutual
def evS(G:Gs)(F:Ŵ)(fu:Nat):MS->Ee
  | .set i own e,δ=>Ef uT (OY c)
  | .aug i e,δ=>(asIv ω).bind fun a=>Ts uT (ā (sB (ī (a+b))))
  | .app i e,δ=>appS δ i uT ω
  | .ext i e,δ=>match ω with
    | ā sC=>qe uT fun d c=>if sD c then(match kindD d with
      | ā (_,ys)=>Ŭ (œ+AY<=ÿ) (wO (ds++ys))
      | none=>none)else none
    | _=>none
  | Hg e,δ=>setiS δ i (Ũ k) uT ω
  | .exp e,δ=>qe uT fun _ _=>ſ δ
  | .ret e,δ=>Ef uT (ā (retD d c))
  | yS,δ=>Rt.thnS δ yP fun k=>ĩ k (m7 a) (m7 b)
  | Hf,δ=>KG uU fun ds c=>bU (sD c) (OX δ')
  | .wh c body,δ=>Tr c body fu δ
  | .retd i,δ=>match ω with
    | ā (.od d)=>Ŭ (isDc d) (.rt (unT d) ă)
    | _=>none
  | .sep i,δ=>Ŭ He (sB (yQ [] []))
  | .dpp i ks e,δ=>match ω with
    | ā (yQ kk vs)=>Tq uT (Eh ks) kk vs
    | _=>none
  | .unk,_=>none
  | .dfr i fr es,δ=>dfrS G F fr wL (hZ fr) ω
def evSs(G:Gs)(F:Ŵ)(fu:Nat):bI->Ee
  | [],δ=>ſ δ
  | s::r,δ=>match uW s δ with
    | uV=>Hd
    | o=>o
end
def Ŗ(n:Nat)(ds:Ĩ):Ĕ:=ds.map Sv.val++J5 (n - œ) .no
def Ou.of(o:oU):ĕ Ou:=match o with
  | ſ _=>ε .non
  | wP=>ā (.v d fr)
  | none=>none
def cloR(G:Gs)(ev:bI->Ee)(ds:Ĩ):ĕ Ou:=G.clo.bind fun C=>if œ=C.np+C.nc/\m9 ds then(match ev C.body (Ŗ Bl ds)with
    | ā Eg=>Ŭ yJ (Hh d)
    | _=>none)else none
def lamR(ev:ME->Ĕ->Ŝ)(ds:Ĩ):ĕ Ou:=match ds with
  | dQ::args=>if Tu then(match ev m.body Tt with
    | ā lE=>Ŭ yJ (Hh d)
    | _=>none)else none
  | _=>none
def run(G:Gs)(T:Ĳ FD)(fu:Nat):Nat->Ŵ
  | 0,_,_=>none
  | k+1,f,ds=>match T[f]? with
    | none=>O0 f fE (eV k)
    | ā fd=>Hi fd.np (OZ ds)
def bq:Χ uJ k=k d c:=rfl
def thns_ok:mV uK k=k l:=rfl
def thni_ok:Ri.thn (yN c) k=k ds c:=rfl
def thnS_ok:qe uJ k=k d c:=rfl
def thnSi_ok:KG (yN c) k=k ds c:=rfl
def seq_nx(h:uW m δ=ſ a):sE m=lH r a:=by
  rw[Yz a,h]
def seq_rt(h:uW m δ=wP):sE m=wP:=by
  rw[Yz δ',h]
def run_of(h:Į T f fd)(a:œ=fd.np):Ů f ds=Ou.of (OZ ds):=by
  show(Hj T[f]? (O0 f _ _) fd (Hi fd.np (evSs G _ fu fd.body _)))=_;rw[h];exact ĉ a
theorem forGo_all{I:Œ Ĕ}:∀{ds:Ĩ} {δ:Ĕ},(∀d∈ds,∀δ,I δ->∃b a,oV δ=lD/\body b=ſ a/\I a)->I δ->∃c,wM ds δ=ſ c/\I c
  | [],δ,_,i=>(Á δ i)
  | d::r,δ,h,i=>by obtain⟨b,a,l,k,f⟩:=h d ũ δ i;obtain⟨c,j,e⟩:=forGo_all (fw d g) f;refine⟨c,?_,e⟩;show O1 δ b a r;rw[l];show(Ei b a r)=_;rw[k];exact j
theorem compGo_filter:∀{a:Ĩ},(∀d∈a,g d=ā (ĩ (p d) (.item d) .skip))->jQ g a=ā (a.filter p)
  | [],_=>rfl
  | d::r,h=>by
    have b:=compGo_filter (fw d e);unfold jQ;rw[(h d ũ)];cases c:p d with
    | ă=>rw[Tw fz];exact b
    | true=>
      rw[Ej c];show Tv r;rw[b]
theorem compGo_map:∀{a:Ĩ},(∀d∈a,g d=ā (.item (f d)))->jQ g a=ā (a.map f)
  | [],_=>rfl
  | d::r,h=>by unfold jQ;rw[(h d ũ)];show Tv r;rw[(compGo_map (fw d b))];rfl
def upTo_mem(h:d∈upTo a n):∃j:Nat,j<n/\d=.int (a+j):=by
  unfold upTo at h;rw[Bm]at h;obtain⟨j,b,rfl⟩:=h;exact(f9 j (ź b))
def Ł{G:Gs}{F:Ŵ}{fu:Nat}{δ:Ĕ}{r:bI}{d:DV}{fr:Bool}(h:m7 r=wP):Ou.of (m7 r)=ā (.v d fr):=bQ h
def of_nx(h:m7 r=ſ a):Ou.of (m7 r)=ε .non:=bQ h
def Ê(h:uW m δ=uV)(a:Hd=o):sE m=o:=Ţ (seq_nx h) a
def ib{G:Gs}{F:Ŵ}{fu:Nat}{δ:Ĕ}{m:MS}{r:bI}{d:DV}{fr:Bool}(h:uW m δ=wP):sE m=wP:=seq_rt h
def ev_if(d:yP=ā (.ok bb)):uW yS δ=ĩ bb (m7 a) (m7 b):=by
  show Rt.thnS δ _ _=_;rw[d];rfl
def go_ift(d:yP=ā Bh)(h:m7 a=uV)(e:Hd=o):sE yS=o:=Ê (Ţ (ev_if d) h) e
def go_iff(d:yP=ā yM)(h:m7 b=uV)(e:Hd=o):sE yS=o:=Ê (Ţ (ev_if d) h) e
def go_ifr(e:yP=ā Bh)(h:m7 a=wP):sE yS=wP:=ib (Ţ (ev_if e) h)
def go_ife(b:yP=ā yM)(d:m7 r=o):sE (.iff c a [])=o:=go_iff b rfl d
def go_fo(b:uU=yN cl)(c:sD cl)(h:OX δ'=uV)(d:Hd=o):sE Hf=o:=by
  refine Ê ?_ d;show KG _ _=_;rw[b];show(bU (sD cl) (jR tg _ ds δ))=_
  rwa [ĉ c]
def ev_set(h:Bn d)(hs:mY cl=true):ic (Ŏ i e)=ā (sB dP):=by
  show uX=_;rw[h];show(bU (mY cl) μ)=_;rw[ĉ hs]
def sF(h:Ż e d ĵ):ic (fF i e)=ā (sB (.own d)):=by
  show uX=_;rw[h];rfl
def uY(h:Bn d):ic (.ret e)=ā (.rt d (frD d cl)):=by
  show uX=_;rw[h];rfl
def ev_exp(h:Bn d):ic (.exp e)=ſ δ:=by
  show uX=_;rw[h];rfl
def ev_call(a:wQ)(hs:yO)(h:F f eM=ā (.v d fr)):Ż (ľ f es) d (ĩ fr ĵ Ē):=by
  show sG;rw[a];show uS=_;unfold callD;rw[h,hs];rfl
def ev_callw(c:wQ)(a:KD=ă)(h:F f eM=ā (.v d fr))(b:(fr&&imL d)=ă:=by rfl):Ż (ľ f es) d bp:=by
  show sG;rw[c];show uS=_;unfold callD;rw[h,a];show μ=_;rw[b];rfl
def ev_callf(b:wQ)(h:F f eM=ā (.v ŋ true))(a:oQ ds=true):Ż (ľ f es) ŋ ĵ:=by
  show sG;rw[b];show uS=_;unfold callD;rw[h];show ā (jS _ (if KD then ĵ else ĩ (oQ ds) ĵ bp))=_;rw[a];cases KD<;>rfl
def Λ(h:Bn (.bl x)):tstD uT=ā (.ok x):=bQ h
def ev_not(h:Bn (.bl x)):Bo (.not e) (!x):=by
  show dW=_;rw[h];rfl
def cA(d:wR x)(c:Ż b y cy)(h:binD op x y cx cy=r):Ũ (.bin op a b)=r:=by
  show dW=_;rw[d,bq,c,bq,h]
def iZ(d:wR x)(c:Ż b y cy)(h:Ed=ā t):Ť (.cmp op a b) (.bl t):=by
  show dW=_;rw[d,bq,c,bq,h];rfl
def dX(e:wR x)(c:Ż b y cy)(h:ixD x y=ā d):Ż (.ix a b) d cx.item:=by
  show dW=_;rw[e,bq,c,bq,h];rfl
def ev_or2f(d:wR AS)(c:Ũ b=o):Ũ (.or [a,b])=o:=by
  show dW=_;rw[d];exact c
def ev_or2t(c:wR fx):Ż (.or [a,b]) fx cx:=by
  show dW=_;rw[c];rfl
def Α{G:Gs}{F:Ŵ}{δ:Ĕ}:Eh []=ā (.ok []):=rfl
def evs_cons(b:wR x)(h:wQ):Eh (a::es)=ā (.ok ((x,cx)::l)):=by
  unfold evEs;rw[b,h]
def ev_app(c:dY sC)(h:Bn d)(a:mY cl=true)(b:œ<ÿ):ic (.app i e)=ā (wO (ds++[d])):=by
  show appS δ i _ ω = _;rw[c];show uX=_;rw[h];exact ĉ ⟨a,b⟩
def ev_seti(f:dY sC)(h:Bn d)(b:jT k n cx)(a:mY cl=true)(c:fB œ n=jF):ic (Hg e)=ā (wO (ds.set j d)):=by
  show setiS δ i _ _ ω = _;rw[f];show uX=_;rw[h,thnS_ok,b,thnS_ok];show(sA (fB œ n) j (Ŭ (mY cl) (uZ _)) none none)=_;rw[c];exact ĉ a
def while_f(h:test δ=ā yM):OW Ò δ=ſ δ:=by
  unfold yR;rw[h]
def while_t(h:test δ=ā Bh)(a:body δ=uV)(hr:OW n δ'=o):OW Ò δ=o:=by
  unfold yR
  rwa [h,a]
def go_wh(h:Tr c body fu δ=uV)(b:Hd=o):sE (.wh c body)=o:=Ê h b
theorem forGo_cnt{I:Nat->Œ Ĕ}:∀(n:Nat) (c:Int) {δ:Ĕ},(∀j<n,∀δ,I j δ->∃b,body (eT (ī (c+j)))=ſ b/\I ż b)->I 0 δ->∃d,u0 i body (upTo c n) δ=ſ d/\I n d
  | 0,_,δ,_,g=>(Á δ g)
  | n+1,c,δ,h,g=>by
    have e:upTo c Ò=.int c::upTo (c+1) n:=by
      unfold upTo;rw[Bp,Η,ŗ]
      congr 1
      · congr 1;omega
      · apply c_
        intro a _;show ŕ _=ŕ _
        congr 1
        push_cast
        omega
    obtain⟨b,k,r⟩:=h 0 Ă δ g;rw[Ş (c+_=c)]at k;obtain⟨d,u,p⟩:=forGo_cnt n (c+1) (fun j hj δ q=>by
      obtain⟨f,m,l⟩:=h ż Ă δ q;refine⟨f,?_,l⟩;rw[show c+1+_=c+ı ż by push_cast;omega];exact m) r
    refine⟨d,?_,p⟩;rw[e];show(match body (eT _)with | ſ b=>jR _ body _ b | o=>o)=_;rw[k];exact u
def ev_compi(b:uU=yN cl)(hc:qg cl)(hl:œ<=ÿ)
    (h:Tx d ds a KH eF (Ų elt a=ā lE)):m_ OT (ds.filter p) ĵ:=by
  show Ri.thn _ _=_;rw[b,thni_ok,ĝ fz,compGo_filter (Ĝ d c)]
  · rfl
  · obtain⟨a,g,f,e⟩:=h d c
    rw[g,qf,f,e];cases p d<;>rfl
def at_nat{l:Ď}(h:j<Ň):na (Ek ŕ) Ζ (.int l[j]):=by
  have a:É<wS (aF ŕ):=KI
  simp only[ixD,atD,fB,yT j,ĉ a,qf,aE,ō,jU,gV]
def at_int{l:Ď}{i:Int}(a:0<=i)(h:i<Ň):∃v,ixD (Ek ŕ) ĳ=wK:=by
  obtain⟨j,rfl⟩:=Int.eq_ofNat_of_zero_le a;exact⟨_,at_nat Ă⟩
def go_foE{J:Œ Ĕ}(hw:uU=yN cl)(b:sD cl)(lp:∃a,OX a=ſ a/\J a)(c:∀a,J a->lH r a=o):sE Hf=o:=by
  obtain⟨a,h,j⟩:=lp;exact go_fo hw b h (c a j)
def Ž{G:Gs}{F:Ŵ}{δ:Ĕ}{i:Int}:Ũ ĳ=ā (Ψ i):=rfl
def gj(h:Į δ n dP):Ť (.var n) d:=oy varE h
def ev_vown(h:Į δ n (.own d)):Ż (.var n) d .top:=oy varE h
def i_add(d:oX)(c:oW):fG (dZ a b) (i+j):=cA d c rfl
def i_sub(d:oX)(c:oW):fG (yU a b) (i - j):=cA d c rfl
def i_mul(d:oX)(c:oW)(h:mulOk i j=true):fG (oY a b) (i*j):=cA d c (ĉ h)
def nb(d:oX)(c:oW)(h:0<j):fG (gm a b) (i%j):=cA d c (ĉ h)
def i_div(d:oX)(c:oW)(h:0<j/\j<1073741824):fG (KJ a b) (i/j):=cA d c (ĉ ⟨h.1,Int.lt_trans h.2 đ⟩)
def b_eq(d:oX)(c:oW):Ty:=KK
def b_lt(d:oX)(c:oW):O3 .Lt (i<j):=KK
def sH:Ť aL aL:=rfl
def ev_tup(h:wQ)(b:Ň<=ÿ)(a:stros l=true):Ť (ģ es) (ģ eM):=by
  show sG;rw[h,thns_ok,ĉ b,a];rfl
theorem forGo_append:∀{ds es:Ĩ} {f e:Ĕ},wM ds f=ſ e->wM (ds++es) f=wM es e
  | [],es,f,e,h=>by cases h;rfl
  | d::r,es,f,e,h=>by
    show O1 f b a _;have g:(Hj (oV f) none b (Ei b a r))=μ:=h;cases j:oV f with
    | none=>rw[j]at g;cases g
    | some b=>
      rw[j]at g;have c:(Ei b a r)=μ:=g;show(Ei b a _)=_;cases i:body b with
      | none=>rw[i]at c;cases c
      | some o=>
        rw[i]at c;cases o with
        | nx a=>exact forGo_append c
        | rt d fr=>cases c
def forGo_last(c:oV δ=ā δ1)(b:body δ1=ſ a):wM [d] δ=ſ a:=by
  unfold jR;rw[c];simp only[b];rfl
def Rise(xs:gH Nat):Prop:=∀(i k x y:Nat),i<k->mj->Į xs k y->x<y
def below_go(v:Rise xs):∀(c b a:Nat),b<=a->a<=u3->a - b<=c ->
    (∀i x,i<b->mj->x<j)->(∀i x,a<=i->mj->j<=x) ->
    (∀i x,i<KM xs j c b a->mj->x<j)/\(∀i x,KM xs j c b a<=i->mj->j<=x):=by
  intro c
  induction c with
  | zero=>
    intro b a z w y l k;have:b=a:=Ę
    subst this;exact⟨l,k⟩
  | succ n u=>
    intro b a z w y l k;unfold KM;by_cases g:b<a
    · rw[ĉ g]
      have hm:wT<a:=Ę
      have o:b<=wT:=Ę
      have m:wT<u3:=Ę
      have h:=wV m;have r:xs.getD wT j=xs[wT]:=(fA Bq h);dsimp only;rw[r];by_cases f:xs[wT]<j
      · rw[ĉ f]
        refine u _ _ Ă w Ă (Ļ i x p d) k;rcases wU i wT with q | q
        · exact KL (v i _ x _ q d h) f
        · have e:i=wT:=Ę
          subst e;rw[h]at d;cases d;exact f
      · rw[ĝ f]
        refine u _ _ o Ă Ă l (Ļ i x p d)
        rcases wU wT i with q | q
        · exact š (Kd f) (ua (v _ i _ x q h d))
        · have e:i=wT:=Ę
          subst e;rw[h]at d;cases d;exact Kd f
    · rw[ĝ g]
      have:b=a:=Ę
      subst this;exact⟨l,k⟩
def below_lo(b:Rise xs)(h:i<Br xs j)(a:mj):x<j:=
  (YA fun i x h a=>by
    rw[wW h]at a;cases a).1 i x h a
def below_hi(b:Rise xs)(h:Br xs j<=i)(a:mj):j<=x:=
  (YA fun i x h a=>by
    rw[wW h]at a;cases a).2 i x h a
def below_go_le:∀(a c b:Nat),c<=b->KM xs j a c b<=b:=by
  intro a
  induction a with
  | zero=>intro c b h;exact h
  | succ n d=>
    intro c b h;unfold KM;dsimp;split
    · split
      · exact d _ _ Ă
      · exact š (d _ _ Ă) Ă
    · exact h
def below_le:Br xs j<=u3:=below_go_le _ _ _ cX
def below_next(d:Rise xs)(c:mj):Br xs (x+1)=i+1:=by
  have hi:i<u3:=by
    rcases wU i u3 with h | h
    · exact h
    · rw[wW h]at c;cases c
  rcases KN _ _ with h | h | h
  · have:=below_hi d (j:=x+1) (Tz h) c
    omega
  · exact h
  · have h2:Br xs (x+1)<=u3:=below_le
    have f:i+1<u3:=Ę
    have e:=wV f;have a:=below_lo d h e;have b:=d i _ x _ (Bs _) c e;omega
def below_zero(b:Rise xs):Br xs 0=0:=by
  rcases O4 _ with h | h
  · exact h
  · have h2:Br xs 0<=u3:=below_le
    have a:=below_lo b h (wV Ă);omega
def Rise.empty:Rise #[]:=fun i k x y _ a=>og a
theorem Rise.range(n:Nat):Rise (Array.range n):=fun i k x y h b a=>by
  rw[Array.getElem?_range]at b a;split at b
  · split at a
    · cases b;cases a;exact h
    · cases a
  · cases b
def rise_list{l:Ġ}(h:KO u4):Rise l.toArray:=fun i k x y a c b=>by
  obtain⟨e,g⟩:=Gy (Ķ c);obtain⟨d,f⟩:=Gy (Ķ b);rw[←g,←f];exact List.pairwise_iff_getElem.mp h i k e d a
def rise_pw(h:Rise xs):xs.toList.Pairwise u4:=by
  refine List.pairwise_iff_getElem.mpr (ν i k c b a)
  exact h i k _ _ a (ŏ oZ (Ľ c)) (ŏ oZ (Ľ b))
structure Tab(t:yV)(b:Bool):Prop where
  rise:Rise u5
  dum:t.dummies = #[]
  led:t.led=b
theorem Tab.fresh(b:Bool):Tab (SetTable.fresh 0 0 b) b:=(u6 Rise.empty)
theorem Tab.standIn(h:Tab t b)(n:Nat):Tab (t.standIn n) b:=Á (Rise.range n) h.led
def has_empty(j:Nat):SetTable.has #[] j=ă:=by
  unfold SetTable.has;simp
def probe_go(h:Tab t b)(f:bV)(z:Int):∀(a:Nat) (p:SetTable.Probe) (j:Nat) (d:ĕ Nat),p.dummy=none->SetTable.probe.go t f z a p=ā (.empty j d)->d=none/\t.slot j=.empty:=by
  intro a
  induction a with
  | zero=>intro p j d c e;cases e
  | succ n g=>
    intro p j d c e;unfold SetTable.probe.go at e;cases hs:t.slot p.j with
    | empty=>rw[hs]at e;cases e;exact⟨c,hs⟩
    | dummy=>
      unfold SetTable.slot at hs;rw[h.dum,has_empty]at hs;dsimp at hs;split at hs
      · cases hs
      · cases hs
    | live i=>
      rw[hs]at e;dsimp at e;split at e
      · cases e
      · refine g _ j d ?_ e
        unfold SetTable.advance;split
        · exact c
        · exact c
def freeSlot_empty(h:Tab t b)(e:t.freeSlot z=ā (j,w)):t.slot j=.empty:=by
  unfold SetTable.freeSlot at e;split at e
  · rename_i j' d a
    obtain⟨c,hs⟩:=probe_go h _ _ _ _ _ _ rfl a;subst c;cases e;exact hs
  · cases e
theorem Tab.put(h:Tab t b)(hs:t.slot j=.empty):Tab (t.put j).1 b:=by
  have m:u5[Bv j]? ≠ jF:=fun z=>by unfold SetTable.slot at hs;dsimp only at hs;rw[z]at hs;simp at hs
  refine⟨?_,?_,h.led⟩
  · show Rise _
    have g:=rise_pw h.rise;have:(SetTable.insertAt u5 (Bv j) j).toList.Pairwise u4:=by
      rw[(SetTable.toList_insertAt _ _ _),TC];refine⟨g.sublist (List.take_sublist _ _),Hk ⟨Ĝ y f,g.sublist (List.drop_sublist _ _)⟩,Ļ x l y f⟩
      · obtain⟨i,d⟩:=TB f
        rw[Bu,oZ]at d;rcases O5 (below_hi h.rise Bt d)with q | q
        · exact q
        · exfalso
          subst q;rcases O4 i with z | z
          · subst z;exact m d
          · have n:Bv j<t.place.size:=by
              rcases wU (Bv j+i) t.place.size with q | q
              · omega
              · rw[wW q]at d;cases d
            have k:=wV n;have a:=below_hi h.rise ħ k;have c:=h.rise _ _ _ _ Ă k d;omega
      · have e:x<j:=by
          obtain⟨i,d⟩:=TB l;rw[List.getElem?_take]at d;split at d
          · rw[oZ]at d
            exact below_lo h.rise Ă d
          · cases d
        rcases Ŀ f with q | q
        · rw[q];exact e
        · obtain⟨i,d⟩:=TB q
          rw[Bu,oZ]at d;exact ce e (below_hi h.rise Bt d)
    have r:=rise_list this
    rwa [Array.toArray_toList]at r
  · show(ĩ (SetTable.has t.dummies j) _ t.dummies) = #[]
    rw[h.dum,has_empty];rfl
theorem Tab.orStandIn(h:Tab t b)(n:Nat):Tab (t.orStandIn n) b:=by
  unfold SetTable.orStandIn;split
  · exact h
  · exact h.standIn n
theorem Tab.layNew{t:yV}{b:Bool}(h:Tab t b)(es:O6)(z:Int)(x:Ě):Tab (layNew t es z x).2.1 b:=by
  unfold PySem.layNew;split
  · rename_i j w e
    exact(h.put (freeSlot_empty h e)).orStandIn _
  · exact h.standIn _
theorem TD{f:Nat->ĕ Nat}:∀{l:Ġ},KO u4->Hl (uA (l.filterMap fun j=>(f j).map (j,·)))
  | [],_=>.nil
  | a::l,h=>by
    obtain⟨o,n⟩:=KP h;have d:=TD (f:=f) n;rw[NF];cases e:f a with
    | none=>exact d
    | some c=>
      refine Hk ⟨Ĝ y i,d⟩;obtain⟨p,k,rfl⟩:=Ő i;obtain⟨j,m,b⟩:=SG k;cases g:f j with
      | none=>rw[g]at b;cases b
      | some c2=>rw[g]at b;cases b;exact o j m
theorem Tab.relayAll{t:yV}{b:Bool}(h:Tab t b)(es:O6)(n:Nat):Tab (relayAll t es n).2.1 b:=by
  unfold PySem.relayAll;split
  · rename_i t' order e
    dsimp only;split
    · show Tab t' b
      unfold SetTable.relaid SetTable.laid at e;cases hl:SetTable.layClean (SetTable.sizeAbove n - 1) (es.map eD)with
      | none=>rw[hl]at e;cases e
      | some owner=>
        rw[hl]at e;cases e;exact(Á (rise_list (TD (List.pairwise_lt_range))) h.led)
    · exact h.standIn _
  · exact h.standIn _
theorem cons_erase{b:Type}{x:b}:∀{l:Ĳ b} {i:Nat} (h:i<Ň),l[i]=x->(x::l.eraseIdx i).Perm l
  | [],i,h,_=>ζ
  | a::l,0,_,e=>by have e:=e;subst e;exact .rfl
  | a::l,i+1,h,e=>rF List.eraseIdx_cons_succ (Ţ (List.Perm.swap a x _) (O7 a (cons_erase (Ķ h) (Ķ e))))
def pickOrder_go(d:À):∀(c k:Nat) (b:Ĳ i) (f:gH i),gX<=c->(pickOrder.go d c k b f).toList.Perm (f.toList++b):=by
  intro c
  induction c with
  | zero=>
    intro k b f h;have:b=[]:=TF Ă;subst this;unfold pickOrder.go;rw[fv]
  | succ n j=>
    intro k b f h;unfold pickOrder.go;cases e:b[d k%gX]? with
    | none=>
      have:b=[]:=by
        cases b with
        | nil=>rfl
        | cons a r=>
          have g:d k%(Ć (a::r))<Ć (a::r):=Nat.mod_lt _ Ģ;rw[Ľ g]at e;cases e
      subst this;rw[fv]
    | some x=>
      obtain⟨g,l⟩:=Gy e;refine Ţ (j _ _ _ ((mQ List.length_eraseIdx (ĉ g)))) ?_;rw[Array.toList_push,wA];refine List.Perm.append_left _ ?_;exact cons_erase g l
def pickOrder_perm(a:À)(xs:gH b):(pickOrder a xs).toList.Perm xs.toList:=by
  unfold pickOrder;exact Ţ (pickOrder_go a u3 0 xs.toList #[] Ģ) Ģ
def intOf:Ě->Int
  | .int n _=>n
  | _=>0
def ordText(w:ł):Bool:=w.params.followText "set-order"
def SetI(prog:ř)(w:ł)(h:Heap)(a:Addr)(ks:Ď):Prop:=
  ∃o es ep t,aA a/\o.ExactSet/\aN=.set es ep t/\KQ Au/\(Hn fun e=>intOf e.2).Perm ks/\Û<El/\u7/\Hm t
def elem_int(h:KQ es)(b:e∈es):∃t,e.2=.int (intOf e.2) t:=by
  obtain⟨⟨k,a,_⟩,_⟩:=h e b;obtain⟨t,q⟩:=Value.isInt_shape a;exact⟨t,bQ q⟩
def elem_is(h:KQ es)(a:e∈es)(k:Int):(intKind prog w).is k e.2=true↔intOf e.2=k:=by
  obtain⟨t,q⟩:=elem_int h a;rw[q];show Value.isInt k (dL t)=true↔_;simp[Value.isInt,intOf]
def SetI.at(x:qh h a ks)(k:AK a (b.get? a)):qh b a ks:=by
  obtain⟨o,es,d,t,c,r⟩:=x;exact⟨o,es,d,t,k o c,r⟩
def storeS{h:Heap}(c:aA a)(b:aN=.set es ep t) :
    (h.update a (Obj.putSet es' t')).get? a=ā {o with data:=.set es' (ep+1) t'}:=by
  have q:=J_ (Obj.putSet es' t') c (bQ (putSet_of es' t' b))
  rwa [putSet_of es' t' b]at q
def add_new{prog:ř}{w:ł}{A:ξ}{s:č}{a:Addr}{j:Ď}{k:Int}{tk:Tok}{o:Obj}{ep:Nat}{t:yV}(r:fZ a=ē)(q:o.ExactSet)(u:aN=.set es ep t)
    (l:KQ Au) (H:(Hn fun e=>intOf e.2).Perm j) (hb:Û+1<El) (ht:Hm t)
     {d:yV} (p1:c.toList.Perm (Au++[(Ao,C5 k tk)])) (J:d.fits c.size=true) (x:Hm d) (F:Bool) {g:Bool->Sem Unit}
    (I:∀(b:Bool) (f:č) (Q':Gz),Q' () f->f_ (g b) Q' E f)
    (h:∀m,wb a m->qh m a (j++[k])->iV cV m) :
    f_ (do
      storeSet a c d
      if ņ (!F&&d.tooFull) then do
        g (Em d).2.2
        storeSet a (Em d).1 (Em d).2.1
        pure cV
      else pure cV) Q E s:=by
  have z1:c.size=Û+1:=(by have:=p1.length_eq;rw[Â,f6,f6]at this;exact this);have z:KQ c.toList:=(l.push (TJ k tk) rfl).perm p1;have p:(c.toList.map fun e=>intOf e.2).Perm (j++[k]):=(by refine Ţ (p1.map _) ?_;rw[Ë];exact H.append_right _);have C:c.size<El:=Ę
  refine ą (wpAny_storeSet_of r u ?_ (TH C));have i:=storeS (es':=c) (t':=d) r u;have n:=jK Ė a (Obj.putSet c d);split
  · have p2:=relayAll_perm d c O8
    have y:=relayAll_fits d c O8;have v:=x.relayAll c O8;generalize Em d=R at p2 y v ⊢;have z2:R.1.size=c.size:=by
      have:=p2.length_eq
      rwa [f6,f6]at this
    have B:R.1.size<El:=Ę
    refine ą (I _ _ _ ?_);refine ą (wpAny_storeSet_of i rfl ?_ (TH B));refine Ņ (h _ (n.trans (jK _ a _)) ?_);exact⟨_,R.1,_,R.2.1,storeS i rfl,q,rfl,z.perm p2,Ţ (p2.map _) p,B,y,v⟩
  · refine Ņ (h _ n ?_)
    exact⟨_,c,_,d,i,q,rfl,z,p,C,J,x⟩
def add_wp(Z:qh Ė a ks)(hr:cY+1<El)
    (h:∀n b,wb a n->qh n a (dk ks k)->iV b n) :
    gY (setAddHashed a (dN tk) Ao):=by
  obtain⟨o,es,ep,t,B,W,F,f,u,Y,P,K⟩:=id Z;have hz:Û=cY:=by
    have:=u.length_eq
    rwa [ċ,f6]at this
  have M:∀(b:Bool) (d:č) (H:Gz),H () d->f_ YB H E d:=fun b d H q=>by
    cases b with
    | true=>exact wpAny_rule q
    | ă=>exact Ņ q
  unfold setAddHashed setAddHashedIn;refine Bw (ą (O9 B F P ?_));dsimp only;rw[byScan_of rfl Y f,js];unfold setAddByScan;refine jJ (G8 ?_);refine wpAny_setScan_of (TJ k tk) B F P f ?_;cases O:es.toList.findIdx? _ with
  | some j=>
    obtain⟨N,X,_⟩:=List.findIdx?_eq_some_iff_getElem.mp O;have C:=u.mem_iff.mp (Ke ⟨Au[j],jV N,(elem_is f (jV N) k).mp X⟩);have m:dk ks k=ks:=b_ dk (ĉ C)
    refine Ņ bF;have:=h Ė ă (Heap.SameBut.refl a Ė) fz;exact this
  | none=>
    have C:k∉ks:=fun z=>by obtain⟨e,R,q⟩:=Ő (u.mem_iff.mpr z);have:=List.findIdx?_eq_none_iff.mp O e R;rw[(elem_is f R k).mpr q]at this;cases this
    have m:dk ks k=ks++[k]:=(b_ dk (ĝ C));rw[m]at h;dsimp only;have p1:=layNew_perm t es Ao (dN tk);have y:=layNew_fits t es Ao (dN tk);have v:=K.layNew es Ao (dN tk);show gW _
    change rY A (match layNew t es Ao (dN tk)with | _=>_) _ _ _
    generalize layNew t es _ _=L at p1 y v ⊢;obtain⟨c,J,I,gv⟩:=L;rw[Array.toList_push]at p1;dsimp only at p1 y v ⊢;refine ą (M gv _ _ ?_);have p:∀g:yV,g.fits c.size=true->Hm g->f_ (do
      storeSet a c g
      if ņ (!I&&g.tooFull) then do
        (fun b:Bool=>YB) (Em g).2.2
        storeSet a (Em g).1 (Em g).2.1
        pure cV
      else pure cV) (fun r U=>f_ (sA r l (pure l) none (setAddHashedIn a (dN tk) Ao 99999)) Q E U) E s:=fun g f2 g2=>
      add_new B W F f u Ă K p1 f2 g2 I M fun n S S'=>Ņ (h n true S S')
    split
    · refine lB
      rw[hashByValue_scannable 8 rfl];refine bF;exact p J y v
    · refine o4
      exact p J y v
universe L2
namespace L2
open PySem PySem.Spec PyProof.Rows
def fm(val:bV)(i:Nat):Ď:=Bx (KR i val)
def fm_succ(a:bV)(i:Nat):fm a ü=dk (fm a i) (a i):=by
  unfold fm;rw[Ho,Ë,En];rfl
def dk_len(σ:Ď)(k:Int):Ć (dk σ k)<=Gq+1:=by
  unfold dk;split
  · exact yD
  · rw[Â];exact ħ
theorem fm_len(a:bV):∀i,Ć (fm a i)<=i
  | 0=>ħ
  | i+1=>Ą fm_succ (š (dk_len _ _) (Nat.succ_le_succ (fm_len a i)))
def SetI.moved(x:qh Ė S ks)(b:Moved wr G s a)(c:S∉wr):qh a.heap S ks:=x.at fun o e=>b.heap S o c e
def fill_loop{prog:ř}{w:ł}{A:ξ}{I:Addr}{n:Nat}{St:Nat->my}(W:WalksS prog w gb I fp f G n P St)(S:Addr)(j:S∉fp)(val:bV)(g:∀i v,P i v->∃t,v=.int (val i) t)(d:n+1<El) :
    ∀(k i:Nat) (s:č),i+k=n->St i s->qh Ė S (fm val i) ->
      (∀a,Moved (S::f) G s a->qh a.heap S (fm val n)->R (yt Ĺ) a)->ur prog w A (lw "set.update.loop" ⟨[Č S,Č I],[]⟩) R s:=by
  have u:S∉f:=fun z=>j (W.sub S z)
  have r:mv f (S::f):=fun b z=>List.mem_cons_of_mem S z
  intro k
  induction k with
  | zero=>
    intro i s e st hs q;have e:i=n:=e;subst e;refine Eo F.entry_set_update_loop;rw[By TK];show sI gb (ui I >>= _) _ _ s;refine ą (W.done s _ _ st (Ĝ a h));show sI gb (ret rg) _ _ a;exact Ņ (q a (h.mono r) (hs.moved h u))
  | succ k C=>
    intro i s e st hs q;have H:i<n:=Ę
    refine Eo F.entry_set_update_loop;rw[By TK];show sI gb (ui I >>= _) _ _ s;refine ą (W.item i s _ _ H st (ν v a J l h));obtain⟨t,E⟩:=g i v J;subst E;have m:=hs.moved h u;show sI gb _ _ _ a;refine ą (Bw ?_);unfold setAdd;refine Bw (ą ((intKind prog w).pyHash (k:=val i) (TJ (val i) t) ?_));have hl:=fm_len val i;refine add_wp (s:={a with toks:=a.toks+1}) (k:=val i) (tk:=t) m Ă (Ļ x b y L)
    have c:∀b o,b≠S->a.heap.get? b=ē->x.get? b=ē:=bh d (Ą (y.2 b d) e)
    refine yW TK (C ü _ Ă (W.frame ü a x _ l yD fun b d o e=>c b o (fun z=>j (z▸d)) e) (Ą fm_succ L) (Ğ B p K));refine q B (Moved.trans W.gtrans ((h.mono r).then_heap yD (bh d (c b o (fun z=>d (z▸Υ)) e))) p) K
def set0(w:ł):Obj:={cls:=Ÿ eK,dict:=none,data:=.set #[] 0 (ĵ 0 0 (!ql))}
def set0_ok(e:Ο a=ā (set0 w)):qh h a []:=
  ⟨_,#[],0,_,e,u6 rfl,rfl,fun _ z=>og z,Ģ,Β,by rfl,Tab.fresh _⟩
def set_new_code(v:Ě)(h:iV bj yX) :
    ur prog w A (ľ (lw "set.__new__") ⟨[Ÿ eK,v],[]⟩) (wants Q E) s:=by
  refine codeAny_of_tree ?_;show Hr s;refine ą (Kr (F.newCall_set_1 v) ?_);refine yW F.plain_set_new (Eo F.entry_set_new);rw[By F.plain_set_new];unfold Builtin.«set.__new__» Builtin.Frozenset.newClass;have q:=sub_set_self;obtain⟨h0,g0,d0,t0,o0⟩:=s
  wp_walk
  refine Hq bF;simp[newObj];exact ą (wpAny_alloc (Ņ (Ņ h)))
def setOfL{prog:ř}{w:ł}{A:ξ}{E:ú}{s:č}{l:Addr}{a_:dz}{ns:Ď}{Q:ú}(hh:bD)(hl:Er l a_)(hi:jH items.toList ns)(hb:oO+1<El)
    (h:∀h' tk,YC->KS->Q bj (jX h' tk)) :
    gY (call (Ÿ eK) [mP]):=by
  have m0:=F.called_set.mro;obtain⟨c0,r0,m1⟩:=m0;have m2:=F.called_set.made;have m3:=F.called_set.sub;have m4:=F.called_set.notType;have m5:=F.called_set.canCreate;have m6:=F.typeCall_set_1 mP;refine J3 (codeAny_of_tree ?_);show sI _ (callAny (Ÿ eK) _) _ _ _;refine Ņ ⟨Code.quiet_builtin _ ŵ,Eo F.entry_type_call⟩;rw[Around.under_plain (weight_type_call_type eK [mP] []) rfl]
  repeat (any_goals (first | assumption | wp_step))
  refine wu (set_new_code mP (E:=E) (Q:=fun v s1=>v=bj/\s1 = dJ yX) pJ) (Ğ r s1 q)
  cases r with
  | error e=>exact q
  | ok f=>
    cases f with
    | ret v=>
      obtain⟨e1,e2⟩:=q;subst e1;subst e2;have g0:(yX).get? ġ=ā (set0 w):=Ø;have ty:Shared.TypeIs (dJ yX) bj eK:=(aQ g0);have n1:=F.called_set.init.lookup;have n2:=F.called_set.init.bind bj
      repeat (any_goals (first | assumption | wp_step))
      refine wu (codeAny_call_builtin (R:=wants (fun v s2=>v=Ĺ/\∃h' tk,s2 = jX h' tk /\ YC /\
          KS) E) F.called_set.init.plain F.entry_set_init (check_set_init_1 ty ?_)) (Ğ r2 s2 q2)
      · obtain⟨⟨k1,k2,k3,k4⟩,kl,kc,kn,kd⟩:=hl
        dsimp only at kc kd;subst kc;subst kd;have kl':(yX).get? l=ā (Kc ý k2 a_ kn k4):=ű kl;have il:(yX).IsList l a_:=⟨_,kl',rfl,kn,rfl⟩;have p1:=F.sub_list_set;have p2:=F.sub_list_frozenset;have p3:(jo ý == jo iN)=ă:=Β
        unfold Builtin.«set.__init__» noKeywords Builtin.Frozenset.updateFrom;generalize hP:pyIter=PI
        wp_walk
        subst hP;refine AM il (ą (wpAny_runValue ?_));have l0:l<ġ:=aB kl;have z1:ag yX=jD:=iU _ _;have a1:l≠ag yX:=Ą z1 (Ñ (Ep l0))
        have a2:ġ∉[ag yX,l]:=by
          rw[z1];intro z;rcases Ŀ z with z | z
          · exact ĸ z (Ñ (Bs _))
          · exact ĸ (aG z) (pS l0)
        refine fill_loop ((Walks.list (by show bD;exact hh) _ l a1 a_).toS) ġ a2 (fun i=>ns.getD i 0) (fun i v e=>IntsAre.int_at hi i v (Ą oZ e)) hb
          oO 0 _ (jW _) ⟨uI Ø,il.push _⟩ (set0_ok (ű g0)) (Ğ s3 hm S3)
        obtain⟨h3,g3,d3,t3,o3⟩:=s3;have b1:g3=s.gens:=hm.gens;have b2:d3=s.drawn:=hm.drawn;have b3:o3=s.os:=hm.os;subst b1;subst b2;subst b3;show sI _ _ _ _ _;refine bF;show sI _ (ret rg) _ _ _;refine Ņ ⟨rfl,h3,t3,rfl,S3,k_ o⟩;have b4:=Ι;refine hm.heap b o mR (oN e);rcases Ŀ z with z | z
        · exact ĸ z (Ñ b4)
        · have:=aG z
          rw[z1]at this;exact ĸ this (Ñ (Ep b4))
      · cases r2 with
        | error e=>exact q2
        | ok f2=>
          cases f2 with
          | ret v2=>
            obtain⟨c1,h',tk,c2,c3,c4⟩:=q2;subst c1;subst c2
            repeat (any_goals (first | assumption | wp_step))
            exact h h' tk c3 c4
          | _=>exact q2.elim
    | _=>exact q.elim
universe L2
namespace L2
open PySem PyProof.Rows
def IterAt(h:Heap)(I a:Addr)(f:Ě)(i n ep:Nat):Prop:=∃o,aA I/\o.cls=Ÿ yY /\ aN=O' (ĳ 0)
def SetAt(h:Heap)(a:Addr)(es:O6)(ep:Nat)(t:yV):Prop:=∃o,aA a/\o.ExactSet/\aN=.set es ep t
def IterAt.typeIs{s:č}(x:ng Ė f i n):r6 (Č I) yY:=let ⟨o,e,c,_⟩:=x;mO c
def IterAt.at(x:ng h f i n)(k:AK I (b.get? I)):ng b f i n:=let (mO c):=x;⟨o,k o e,c⟩
def SetAt.at(x:Hs h)(k:AK a (b.get? a)):Hs b:=let (mO c):=x;⟨o,k o e,c⟩
def SetAt.typeIs{s:č}(x:Bz):r6 Ī eK:=let ⟨o,e,c,_⟩:=x;mO c.1
def si_slot:Slot yY "__next__" TM:=
  YE "__next__"
    YD TL
def si_entry:entryFor table TM = ā KU:=entryFor_of_tree sJ
def si_args(v:Ě):argsOk TM ⟨[v],[]⟩:=by unfold argsOk;kernel_rfl
def st_entry:entryFor table "set.__iter__" = ā Builtin.«frozenset.__iter__»:=YF "frozenset.__iter__"
def si_fields{ep:Nat}{h:Heap}{i:Nat}{n:Nat}(e:aA I)(c:o.cls=Ÿ yY)(d:aN=O' (ĳ 0)) :
    ng (YG 1 (oC (qb i))) f ü n:=by
  refine(Td e d c ?_);rw[OA d];simp[oC]
def si_first{ep:Nat}{h:Heap}(g:Ě){i:Nat}{n:Nat}(e:aA I)(c:o.cls=Ÿ yY)(d:aN=O' (ĳ 0)) :
    ng (YG 0 g) g i n:=by
  refine(Td e d c ?_);rw[OA d];simp
def next_int{prog:ř}{w:ł}{A:ξ}{E:ú}{s:č}{I a:Addr}{es:O6}{ep:Nat}{t:yV}{Q:jr->my}{slot i j:Nat}{x:Ě}(hI:ng Ė (.int slot 0) i Û)(hS:Bz)(hf:u7)
    (hn:YH E' Q' (Q' (ā (x,j)) s) slot)
    (hQ:∀h',ng h' (Ζ 0) ü Û->wb I h'->iV cS h'):Hw:=by
  obtain⟨o,ho,hc,hd⟩:=id hI;obtain⟨p,hp,hx,hq⟩:=id hS;unfold uD;refine ą (Hv (wpAny_callSpecial?_slot (name:=Es "__next__") hI.typeIs si_slot (KZ si_slot hI.typeIs si_entry ?_ (si_args _))));unfold KU;refine o4;dsimp only;refine ą (KY ho hd);dsimp only;refine ą (KW hp hq hf ?_);rw[Hu (ı Û),oA];simp only[aE];refine ą (hn _ _ _ ?_);dsimp only;refine ą (Ba ho hd ?_);have I1:=si_first (ep:=ep) (oC j) ho hc hd;obtain⟨o1,ho1,hc1,hd1⟩:=id I1;refine ą (Ba ho1 hd1 (Ņ (Á x (Ņ (hQ _ (si_fields ho1 hc1 hd1) ?_)))));exact Ţ (jK ..) (jK ..)
def end_int{b:Nat}(l:bD)(c:ng Ė (.int b 0) i Û)(n:Bz)(m:u7)
    (k:YH r g (g none s) b)
    (q:∀f,A_ I f->iV none f):Hw:=by
  obtain⟨o,d,hc,e⟩:=id c;obtain⟨p,j,hx,h⟩:=id n;unfold uD;refine ą (TN c.typeIs);unfold KU;refine o4;refine ą (KY d e);refine ą (KW j h m ?_);rw[Hu _,oA];simp[aE];refine ą (fV _ ?_);refine ą (Ba d e ?_);refine lB;simp[newExc,newTuple];refine ą G7;refine ą (Kr Th ?_);refine G7;simp only[raiseNew];refine Tf;rw[ž (A.in1.handled=none) l];refine oM (wpAny_throw ?_);refine ą (Kt (aQ Ø) OK ?_);exact Ņ (q _ (Te (jK ..)))
def next_tup{k:Nat}(f:ng Ė (Č q) i Û)(B:Bz)(l:u7)(r:IsTup Ė q ps)(u:ĭ ps (dN 0))(n:Į es k (z,x))
    (C:∀g,ng g (Č q) ü Û->wb I g->iV cS g):Hw:=by
  obtain⟨o,c,y,e⟩:=id f;obtain⟨p,j,m,h⟩:=id B;unfold uD;refine ą (TN f.typeIs);unfold KU;refine o4;refine ą (KY c e);refine ą (KW j h l ?_);rw[Hu _,oA];simp[aE];obtain⟨oq,b,v,nq,d⟩:=r;refine ą (yF b d ?_);dsimp only;rw[u];unfold setNextDrawn;simp only[aE];refine jJ (O9 j h l ?_);rw[Hu ep,oA];rw[n];refine bF;refine ą (Ba c e (Ņ (Á x (Ņ (C _ (si_fields c y e) (jK ..))))))
def end_tup(v:bD)(j:ng Ė (Č q) i Û)(C:Bz)(x:u7)(l:IsTup Ė q ps)(u:jq ps i)
    (F:∀k,A_ I k->iV none k):Hw:=by
  obtain⟨o,e,B,h⟩:=id j;obtain⟨p,r,hx,n⟩:=id C;unfold uD;refine ą (TN j.typeIs);unfold KU;refine o4;dsimp only;refine ą (KY e h);dsimp only;refine ą (KW r n x ?_);rw[Hu (ı Û),oA];simp only[aE];obtain⟨oq,c,y,nq,f⟩:=l;refine ą (yF c f ?_);dsimp only;rw[u];dsimp only;refine ą (Ba e h ?_);obtain⟨o1,d,z,g⟩:=si_first (ep:=ep) (oC 0) e B h;refine ą (Ba d g ?_);refine lB;simp only[newExc,newTuple];refine ą G7;refine YJ ?_;refine G7;simp only[raiseNew];refine Tf;rw[ž (A.in1.handled=none) v];refine oM (wpAny_throw ?_);refine ą (YI ?_);exact Ņ (F _ (Te (Ţ (jK ..) (jK ..))))
section
variable {prog:Program} {w:World} {A:Around} {E:Value->Shared->Prop} {s:Shared} {I a:Addr} {es:Array (Int×Value)} {ep:Nat} {t:SetTable}
def sn_text(d:ql=true)(g:Bz)(f:u7)
    (h:Q (ļ O_[i]? e (e.2,slot)) s):gY (setNext a slot i ep):=by
  obtain⟨p,c,hx,b⟩:=id g;unfold setNext;refine TR;dsimp only;unfold setsByText;refine jJ (Hq bF);show rG _ TQ;rw[ĉ d];rw[Hu ep,oA];refine lB;unfold setWalk;refine TR;dsimp only;unfold setsByText;refine jJ (Hq bF);show f_ TQ _ E s;rw[ĉ d];exact ą (Hq (Ņ (Ņ h)))
def sn_led(d:ql=ă)(g:K1=ă)(e:t.led=true)(k:Bz)(f:u7)
    (h:Q (match es[Bv slot]?,u5[Bv slot]? with | ā (_,x),jF=>ā (x,j+1) | _,_=>none) s):gY (setNext a slot i ep):=by
  obtain⟨p,c,hx,b⟩:=id k;unfold setNext;refine TR;dsimp only;unfold setsByText;refine jJ (Hq bF);show rG _ TQ;rw[ĝ (Ą d BA)];show rG _ (mE (K1=true) _ _);rw[g,oA];refine lB;show f_ (mE (ņ (!t.led && !Ha)) _ _) _ E s;rw[e];exact Ņ (Ņ h)
def draw_wp:∀(n:Nat) (a:Ĳ e) (s:č),bR=n->(∀l d,l.Perm a->Q l {s with drawn:=d})->gY (drawOrder n a):=by
  intro n
  induction n generalizing Q with
  | zero=>
    intro a s c h;have:=TF c;subst this;exact Ņ (h [] s.drawn .rfl)
  | succ n g=>
    intro a s c h;cases a with
    | nil=>cases c
    | cons y r=>
      show rY A _ Q E s;have b:∀i,i<Ć (y::r)->rY A (match _[i]? with
          | cS=>do return x::(←drawOrder n ((y::r).eraseIdx i))
          | none=>unsupported "internal:drawOrder") Q E {s with drawn:=s.drawn.bump .order}:=fun i f=>by
        rw[(Ľ f)];refine ą (g _ _ fz fun l d p=>Ņ (h _ d ?_));exact Ţ (O7 _ p) (cons_erase f rfl)
      refine ą fun Γ p j=>au Ģ
      exact b _ (Nat.mod_lt _ Ģ)
def itObj(f:Ě)(a:Addr)(n ep:Nat):Obj:=ae yY (O' (υ 0))
def itObj_at{h:Heap}:IterAt (h.push (itObj f a n ep)) mn a f 0 n ep:=uI Ø
universe E_
section
variable {prog:Program} {w:World} {A:Around} {E:Value->Shared->Prop} {s:Shared} {I a:Addr} {es:Array (Int×Value)} {ep:Nat} {t:SetTable}
abbrev Nx(prog:ř)(w:ł)(I:Addr)(fp:ŀ)(n:Nat)(ws:ŉ)(St:pT):Prop:=
  ∀A:ξ,bD->WalksS prog w A I fp [I] (fun a b=>b=a) n (Ĵ v (ĭ ws v)) (Ĵ s (St i Ė))
def nx_mk    {St : Nat -> Heap -> Prop} (hI : I ∈ g) (hz : lI = n)
    (fr : ∀ i h a, St i h -> (∀ b ∈ g, ∀ o, Ο b = ē -> a.get? b = ē) -> St i a)
    (it : ∀ (A : ξ) (E : Pa) (Q : jr -> č -> Prop) (s : č) i v, A.handled = none -> ĭ ws v -> St i Ė -> (∀ a, St (i + 1) a -> wb I a -> Q dw TU) -> Hw)
    (x : ∀ (A : ξ) (E : Pa) (Q : jr -> č -> Prop) (s : č), A.handled = none -> St n Ė -> (∀ a, A_ I a -> Q none TU) -> Hw)
    (m : ∀ (A : ξ) (E : Pa) (Q : Pa) (s : č) i, St i Ė -> Q (Č I) s -> gY (pyIter (Č I))) : Hx g n ws St := fun A j =>
  { sub := fun b c => by rwa [aG c]
    grefl := fun _ => rfl
    gtrans := fun _ _ _ r q => q.trans r
    frame := fun i s a tk st _ k => fr i Ė a st k
    item := fun i s Q E hi st d => by
      have l : ĭ ws ws[i] := Ľ Ă;exact it A E Q s i _ j l st fun a f p => d _ _ l f ⟨fun b o c e => DT b o (fun z => c (K2 z)) e, rfl, rfl, rfl, ħ⟩
    done := fun s Q E st d => x A E Q s j st fun a u => d _ ⟨fun b o c e => u b o (fun z => c (K2 z)) e, rfl, rfl, rfl, ħ⟩
    self := fun i s Q E st d => m A E Q s i st d }
def sb_keep{a:Heap}(c:yZ I h a)(d:b≠I):AK b (a.get? b):=fun o e=>c.extBut b o d e
def si_islot:Slot yY "__iter__" TV:=
  YE "__iter__"
    YD TL
def si_ientry:entryFor table TV = ā Builtin.«dict_keyiterator.__iter__»:=YF "dict_keyiterator.__iter__"
def si_iargs(v:Ě):argsOk TV ⟨[v],[]⟩:=by unfold argsOk;kernel_rfl
def si_self(b:ng Ė f i n)(h:Q (Č I) s):gY (pyIter (Č I)):=by
  refine TX b.typeIs si_islot si_ientry (si_iargs _);show gW s;exact TW b.typeIs h
def walk_text(l:ql=true)(c:u7)(f:a≠I) :
    Hx [I,a] Û ((O_).toList.map u8) (Ĵ h (ng h (nh 0 0) i Û/\Hs h)):=by
  have hz:(O_).size=Û:=by
    have:=(pickOrder_perm (w.params.setOrder a ep) es).length_eq
    rwa [f6,f6]at this
  refine nx_mk Ģ fz (fun i h n st k=>⟨st.1.at (k I Ģ),st.2.at (k a Ģ)⟩) (fun A E Q s i v m b st g=>?_) (fun A E Q s m st g=>?_) TY
  · obtain⟨e,he,hev⟩:∃e,ĭ O_ e/\e.2=v:=by
      rw[ō,oZ]at b;cases q:(pickOrder _ es)[i]? with
      | none=>rw[q]at b;cases b
      | some e=>rw[q]at b;cases b;exact(u6 e)
    refine next_int st.1 st.2 c (fun A p o q=>sn_text l st.2 c (by rwa [he,gV,hev])) (Ğ n d j)
    exact g n ⟨d,st.2.at (sb_keep j f)⟩ j
  · refine end_int m st.1 st.2 c (fun A p o q=>sn_text l st.2 c fz) g
def slotAt(t:yV):À
  | 0=>0
  | i+1=>t.place.getD i 0+1
def slotAt_below(a:Rise u5):∀{i:Nat},i<=t.place.size->Bv (slotAt t i)=i
  | 0,_=>below_zero a
  | i+1,h=>by have b:ĭ u5 u5[i]:=wV Ă;show Bv (t.place.getD i 0+1)=i+1;rw[Bq,b];exact below_next a b
def walk_led(g:ql=ă)(y:K1=ă)(f:Hm t)(b:u7)(l:a≠I) :
    Hx [I,a] Û (Hn u8) (Ĵ h (ng h (nh (slotAt t i) 0) i Û/\Hs h/\i<=Û)):=by
  have p:t.led=true:=fA f.led g
  have hz:t.place.size=Û:=(by unfold SetTable.fits at b;rw[Ĉ]at b;exact cu b.1);refine YK (ţ ċ f6) B st.2.2 r c n TY
  · obtain⟨z,he⟩:∃z,ĭ es (z,v):=by
      rw[ō,oZ]at c;cases q:es[i]? with
      | none=>rw[q]at c;cases c
      | some e=>rw[q]at c;cases c;exact(bn e.1)
    have F:i<Û:=by
      rcases wU i Û with h | h
      · exact h
      · rw[wW h]at he;cases he
    have u:ĭ u5 u5[i]:=wV Ă;have m:=slotAt_below f.rise (i:=i) Ă;have C:slotAt t ü=u5[i]+1:=(by show t.place.getD i 0+1=_;rw[Bq,u];rfl);refine next_int (slot:=slotAt t i) (j:=slotAt t ü) (x:=v) st.1 st.2.1 b (fun A J H q=>sn_led g y p st.2.1 b (by rw[m,he,u];rw[C]at q;exact q)) (Ğ B d o)
    exact n B ⟨d,st.2.1.at (sb_keep o l),F⟩ o
  · have m:=slotAt_below f.rise (i:=Û) Ă
    refine end_int r st.1 st.2.1 b (fun A J H q=>sn_led g y p st.2.1 b (cw m (wW ħ) q)) n
def walk_drawn{l:Ġ}(n:l.Perm (Ū Û))(u:u7)(g:a≠I)(B:q≠I) :
    Hx [I,a,q] Û (i5 i (es.getD i (0,Ĺ)).2) (Ĵ h (ng h (Č q) i Û/\Hs h/\IsTup h q (i5 cT (C5 i 0)).toArray)):=by
  have hl:Ň=Û:=ţ n.length_eq Μ
  refine YK fz z (let (mO r):=st.2.2;⟨o,k q Ģ o e,r⟩) p b m TY
  · obtain⟨k,hk,hkv⟩:∃k,ĭ l k/\(es.getD k _).2=v:=by
      rw[ō]at b;cases q:l[i]? with
      | none=>rw[q]at b;cases b
      | some k=>rw[q]at b;cases b;exact(u6 k)
    have j:=(by have:=n.mem_iff.mp (List.mem_iff_getElem?.mpr ⟨i,hk⟩);exact ź this);have y:=wV j;have f:es[k].2=v:=(by rw[←hkv,Bq,y];rfl);refine next_tup (x:=v) st.1 st.2.1 u st.2.2 (by rw[←oZ,List.toList_toArray,ō,hk];rfl) (by rw[y,←f]) (Ğ z c d)
    exact m z ⟨c,st.2.1.at (sb_keep d g),let (mO r):=st.2.2;⟨o,sb_keep d B o e,r⟩⟩ d
  · refine end_tup p st.1 st.2.1 u st.2.2 (wW fz) m
def iter_walk(m:Bz)(f:u7)(r:Ù Û)
    (B:Hm t) (h:∀I h' d fp ws St,Hx fp Û ws St->St 0 h'->ws.Perm (Hn u8)->KS->(oB (b=a\/ġ<=b))->ġ<=I->Q (Č I) {s with heap:=h',drawn:=d}) :
    gY (pyIter Ī):=by
  have g:=let ⟨_,n,_⟩:=m;aB n;obtain⟨p,n,hx,u⟩:=id m;refine TX m.typeIs F.slot_set_iter st_entry (F.args_set_iter_1 _);unfold Builtin.«frozenset.__iter__» Builtin.Frozenset.slot0 slotArgs;simp only[List.isEmpty_nil,Bool.not_true,y9,↓reduceIte,bind_assoc,Pb,T0];unfold Builtin.Frozenset.addrOf Builtin.Frozenset.sizeOf;refine o4
  try dsimp only
  refine o4;refine jJ (KW n u f bF);unfold setDrawn;refine jJ (O9 n u f ?_);dsimp only;unfold setsByText;refine jJ (Hq (Ņ bF));show sI _ (mE (ņ (!ql&&K1)) _ _) _ _ _;by_cases q:ņ (!ql&&K1)
  · rw[ĉ q]
    have ho:ql=ă:=by
      cases e:ql with
      | ă=>rfl
      | true=>rw[e]at q;cases q
    refine ą (draw_wp Û _ s Μ (Ğ l d v));have hl:Ň=Û:=ţ v.length_eq Μ
    unfold newTuple;refine ą (uE ?_ (by show(aF _).toArray.size<=_;simp;omega));refine ą (wpAny_setEpoch_of (ű n) u f ?_);refine ą (uE (TW (aQ Ø) ?_));have z:ag (ux (ae ad (.seq (i5 cT (oC i)).toArray)))=jD:=iU _ _;refine h _ _ d _ _ _ (walk_drawn (ep:=ep) (t:=t) v f ?_ ?_) ⟨itObj_at,m.at fun _ e=>oN e,_,ű Ø,rfl,_,rfl⟩ ?_ (fY (oN e)) ?_ ?_
    · rw[z];exact Ñ (Ep g)
    · rw[z];exact Ñ (Bs _)
    · refine Ţ (v.map _) (List.Perm.of_eq ?_)
      refine TZ
      have H:Au[j]? = es[j]?:=oZ;rw[ō,ō,H];by_cases y:j<Û
      · rw[wX y,gV,Bq,wV y]
        rfl
      · have C:jq (Ū Û) j:=jY (Ź Μ)
        rw[C,wW Ă];rfl
    · intro b r
      simp only[i6,qo,qm]at r;rcases r with rfl | rfl | rfl
      · exact ė (z▸yD)
      · exact Ð
      · exact ė ħ
    · exact z▸yD
  · rw[ĝ q]
    refine o4;refine ą (wpAny_setEpoch_of n u f ?_);refine ą (uE (TW (aQ Ø) ?_));have k:=fun b o (e:cP)=>Heap.get?_push_of_some (itObj (υ 0) a Û ep) e
    have x:∀b∈[ġ,a],b=a\/ġ<=b:=fun b r=>by
      simp only[i6,qo,qm]at r;rcases r with rfl | rfl
      · exact ė ħ
      · exact Ð
    by_cases c:ql=true
    · exact h _ _ s.drawn _ _ _ (walk_text (t:=t) (ep:=ep) c f (Ñ g)) ⟨itObj_at,m.at fun _ e=>fV e⟩ ((pickOrder_perm _ es).map _) k x ħ
    · have c:ql=ă:=Ķ c
      rw[c]at q;exact h _ _ s.drawn _ _ _ (walk_led (ep:=ep) c (Ķ q) B f (Ñ g)) ⟨itObj_at,m.at fun _ e=>fV e,cX⟩ .rfl k x ħ
universe E_
def hint_set(d:r6 Ī eK)(h:Q ă s):gY (T3 Ī):=by
  unfold T3;refine ą (wpAny_specialOf d F.slot_set_len.lookup ?_);generalize c:("set.__len__" : du)=id0
  wp_delta
  rw[show splitId id0=ā (eK,"__len__")from by subst c;decide +kernel];subst c;refine ą (Kt (b:=true) d TL ?_);refine wpAny_ite_split (fun z=>ĸ z đ) (af _)
  refine wpAny_ite_split (af _) fun z=>ĸ ŵ z
  exact ą (wpAny_typeOf d (Ņ h))
def ext_rest{St:pT}{c:ń Bool}(W:Hx P n ws St)(O:bD)(U:Ù n)(v:S∉P)
    (Z:s1.TypeIs Ī eK) (st:St 0 s1.heap) (H:y_ S=ā (ae ý (.seq #[] c0)))
    (hR:∀B x g p,(∀b o,b≠S->b≠I->y_ b=ē->B.get? b=ē)->B.get? S=ā (Kc ý none g p #[]) -> g.toList=ws->R (yt i) {s1 with heap:=B,toks:=x}) (hw:lI=n) :
    sI gb (do
      let room ←holding [gI I] (T3 Ī)
      if c room=true then do
        rule "list.extend.makes-room"
        Builtin.List.listTouch (Č S)
        YL
      else YL)
      (fun J d=>match J with | .done f=>R (.ok f) d | .again p=>p.quiet=true/\ur prog w A p R d) EE s1:=by
  have l:∀(h:Heap) (K x:Nat),St 0 h->(∀b o,b≠S->y_ b=ē->aA b)->Ο S=ā (ae ý (.seq #[] K)) ->
      codeAny _ A _ R {s1 with heap:=h,toks:=x}:=fun h K x C k e=>by
    refine codeAny_extend_loopS (W gb O) U S v i n 0 _ #[] K rfl cX C e (ItemsOf.nil _) fun d g p y e' L=>?_
    have b1:d = {s1 with heap:=d.heap,toks:=d.toks}:=(by have r:d.gens=s1.gens:=y.gens;have N:=y.drawn;have M:d.os=s1.os:=y.os;obtain⟨B,g',d',t',o'⟩:=d;dsimp only at r N M;subst r;subst N;subst M;rfl);rw[b1];refine hR d.heap d.toks g p (fun b o m Y q=>y.heap b o mR (k b o m q)) e' ?_
    · rcases Ŀ z with z | z
      · exact m z
      · exact Y (aG z)
    · refine TZ
      by_cases X:j<n
      · have E:j<g.size:=Ą L.1 X
        have r:=wV E;rw[oZ,r];exact(L.2 j _ r).symm
      · rw[jY (mQ f6 L.1),jY Ă]
  refine AI (hint_set Z ?_);refine wpAny_ite_split (af _) (ş (yW F.plain_extend_loop (l s1.heap c0 s1.toks st (bh _ e) H)))
  refine ą (G8 ?_);show Hr _;refine ą (K4 H ?_);have Q:=J_ (mN (·.push rg)) H rfl;refine K4 Q ?_;have u:∀b o,b≠S->y_ b=ē->((s1.heap.update S (mN (·.push rg))).update S (mN (·.pop))).get? b=ē:=fun b o m e=>
    Ţ (Oe _ _ m) (Ţ (Oe _ _ m) e)
  refine yW F.plain_extend_loop (l _ _ s1.toks ?_ u (J_ _ Q rfl));exact(W gb O).frame 0 s1 _ s1.toks st ħ fun b m o e=>u b o (fun z=>v (z▸m)) e
def collect_set(hh:bD)(hS:qh Ė a ks)
    (h:∀vs h' tk d,jH vs (vs.map intOf)->(vs.map intOf).Perm ks->KS->ġ<DF->Q vs (T4 h' tk)):gY (collect Ī):=by
  obtain⟨o,S,ep,t,y,C,hd,J,hp,hb,hf,ht⟩:=id hS;have O:Ù S.size:=TH hb;have i:∀vs:ŉ,vs.Perm (S.toList.map u8)->jH vs (vs.map intOf)/\(vs.map intOf).Perm ks:=fun vs p=>by
    refine⟨?_,Ţ (p.map _) (Ą ŗ hp)⟩;have all:∀v∈vs,∃tk,v=.int (intOf v) tk:=fun v hv=>by obtain⟨e,he,q⟩:=Ő (p.mem_iff.mp hv);obtain⟨tk,m⟩:=elem_int J he;exact⟨tk,ŏ q m⟩
    clear p
    induction vs with
    | nil=>exact .nil
    | cons v r ih=>
      obtain⟨tk,e⟩:=all v ũ;rw[Η];have q:=ih fun u hu=>all u (Ŕ hu)
      generalize hn:intOf v=n at e;subst e;exact Ξ n tk q
  have l:=aB y;unfold collect;refine ą (wpAny_runValue (Eo F.entry_proto_collect));rw[By F.plain_proto_collect];show sI gb _ _ _ s;refine ą (uE ?_);refine yW F.plain_list_iadd (Eo F.entry_list_iadd);rw[By F.plain_list_iadd];show sI gb (T6 bj Ī bj) _ _ _;unfold T6;refine ą (wpAny_typeOf (T:=eK) ⟨o,ű y,C.1⟩ ?_);have h1:T5 bj Ī=ă:=(by unfold T5;exact iF (pS l));have P:(jo eK == jo ý)=ă:=Β
  have h3:(jo eK == jo ad)=ă:=Β
  simp only[h1,P,h3,Bool.or_false,y9,si];refine ą (iter_walk (t:=t) (⟨o,ű y,C,hd⟩) hf O ht fun I P d fp N St W U p B Z kI=>?_);rw[iU]at kI;have K:ġ∉fp:=fun z=>by
    rcases Z _ z with q | q
    · exact ĸ q (pS l)
    · rw[iU]at q;omega
  obtain⟨Y,X⟩:=i N p;refine jx (ext_rest (A:=A) (a:=a) (c0:=0) (R:=fun r x=>∃h' tk c j,r=yt bj/\x = T4 h' tk /\ ba ġ=ā (Kc ý none c j #[]) /\ Q c.toList x)
    W hh O K ⟨o,B _ _ (ű y),C.1⟩ U (B _ _ Ø) (fun h' tk c j k e ea=>⟨h',tk,c,j,rfl,rfl,e,Ą ea (h N h' tk d Y X (fun b u q=>k b u (Ñ (aB q)) (Ñ (KL (aB q) kI)) (B _ _ (ű q))) Ι)⟩) (by rw[p.length_eq,ċ,f6])) ?_ x_
  intro L x g;cases L with
  | done f=>
    obtain⟨h',tk,c,j,M,m,e,H⟩:=g;cases M;subst m;exact ą (wpAny_load e (Ņ H))
  | again j=>
    refine⟨g.1,wu g.2 (Ğ r x hr)⟩;obtain⟨h',tk,c,j,M,m,e,H⟩:=hr;subst M;subst m;exact ą (wpAny_load e (Ņ H))
def sorted_set(B:bD)(F:qh Ė a ks)(H:cY<64)
    (h:∀k g d p c f e,(∀b o,cP->k.get? b=ē)->ġ<=p->k.get? p=ā (qp c e)->jH c.toList f->f.Perm ks->f.Pairwise (· <= ·)->Q fj (T4 k g)) :
    gY (pZ ni [Ī]):=by
  refine Calls.call_function_entry kind_sorted plain_sorted entry_sorted (args_sorted1 _) ?_
  unfold Builtin.«sorted»;refine o4;refine ą (collect_set (B) F fun c n g d y p1 l r=>?_);have z:ie<64:=Oa p1.length_eq ċ
  refine ą (Pc (Ź oE));have j:(n.push (qp c.toArray 0)).get? n.objs.size=μ:=Ø;refine AI (KZ slot_list_sort (aQ j) entry_list_sort (list_sort_tree j y z fun i f x v u=>DW) (args_list_sort _));refine Ņ DW;obtain⟨e,C⟩:=sortedHeap_at j;refine h _ g d _ i f e (Ğ b o q) (ua r) C x (v.trans p1) u;have m:=aB (l b o q);rw[sortedHeap_old (Ñ m) (Ą K5 (Ep m))];exact ű (l b o q)
universe L2
namespace L2
open PySem PySem.Spec PyProof.Rows
def getIn{l:Ď}(h:i<Ň):jN i 0∈l:=by
  rw[Ħ,jU];exact jV h
def minL(u:bD)(f:Er l Kf)(g:jH vs c)(p:c≠[])
    (h:∀m M (t:Tok) tk,(∀b o,cP->m.get? b=ē)->M∈c->(∀a∈c,M<=a)->Q (.int M t) (jX m tk)):Pd "min":=by
  obtain⟨d,e⟩:=g.allInts.items;have en:c=d.toList.map eD:=YM
  have n:0<d.size:=by
    have q:=T7 p
    rwa [en,ċ,f6]at q
  rw[e]at f;refine min_intList u f n (ν v x tk q k)
  obtain⟨t,z⟩:=intItems_at q;subst z;obtain⟨g1,y⟩:=argBest_lt (numAt d) (d.size - 1);refine h x _ t tk k ?_ (Ĝ a i)
  · rw[en,numAt_eq]
    exact getIn (mQ ċ f6)
  · rw[en]at i
    obtain⟨j,r,B⟩:=mem_getD i;subst B;rw[ċ,f6]at r;rw[←numAt_eq];exact y j Ă
def extL(e:iQ l (ae ý (.seq a_ n)))(m:Er b new\/IsTup Ė b new)(k:Ù (oO+new.size))
    (h:iV Ĺ (Ka l (mN (· ++ new)))):gY (pZ "list.extend" [mP,Č b]):=by
  refine KZ F.slot_list_extend (aQ e) F.entry_list_extend ?_ (F.args_list_extend_2 _ _);unfold Builtin.«list.extend»;refine o4;show gW _;unfold T6;obtain⟨a,eb,T,hT,j,hd⟩:∃a,iQ b a/\∃T:du,(a.cls=Ÿ T/\(T = ý \/ T = ad))/\∃j,a.data=.seq new j:=by
    rcases m with⟨o,i,g,f,d⟩ | ⟨o,i,g,f,d⟩
    · exact⟨o,i,ý,⟨g,Ð⟩,f,d⟩
    · exact⟨o,i,ad,⟨g,iK⟩,f,d⟩
  refine ą (wpAny_typeOf ⟨a,eb,hT.1⟩ ?_);have c:ņ (T5 mP wH||jo T == Ÿ ý || jo T == Ÿ ad):=by
    rcases hT.2 with z | z<;>subst z
    · rw[A0 (ņ (jo ý == jo ý)),Bool.or_true,Bool.true_or]
    · rw[A0 (ņ (jo ad == jo ad)),Bool.or_true]
  rw[ĉ c];refine ą (listItems_at eb hd (ą (listItems_at e rfl ?_)));rw[ĝ (cw (notLongL k) Pe BA)];refine ą (K6 e Ă fz);exact Ņ (Á _ h)
def rExtS(K:į):yA:=fun x vs H Q=>∃l b xs zs,x=mP/\vs=[Č b]/\ox l/\(SqL K H b zs\/SqT K H b zs)/\Ù (Ä+zs.length)/\Q .non (wy l (xs++zs))
def mt_ext:MtM X "list.extend" (rExtS X.K):=by
  intro g s σ H x vs v us Q I k m h;obtain⟨l,b,xs,j,rfl,rfl,i,d,hz,q⟩:=h;cases k;obtain⟨u,rfl,o⟩:=m.one;cases o;obtain⟨z,p,n,r,hl,e⟩:=I.lstM i;obtain⟨a,c,ob⟩:∃a:ŉ,Vals j a/\(Er b a.toArray\/IsTup Ė b a.toArray):=by
    rcases d with d | d
    · obtain⟨a,c,f,_⟩:=rN d
      exact⟨a,c,ď f.isList⟩
    · obtain⟨a,c,f,_⟩:=pR d
      exact⟨a,c,ė f⟩
  have e2:=ie;refine extL e ob fz ?_;refine⟨.non,_,I.lset i e Ģ (r.append c) ?_,rfl,q⟩;rw[Â];omega
theorem valsI:∀{b:Ď} {a:ŉ},Vals Hy a->jH a b
  | [],a,h=>by cases h;exact .nil
  | n::b,a,h=>by
    cases h with
    | cons r t=>
      obtain⟨c,rfl⟩:=r;exact Ξ n c (valsI t)
theorem iVals:∀{a:Ď} {us:ŉ},jH us a->iG (a.map lJ)
  | _,_,.nil=>.nil
  | _,_,Ξ n t h=>Ξ (bn t) (iVals h)
def call_minL(o:bf):Pf "min" c b Ď Hy (b≠[]/\∀M,M∈b->(∀x∈b,M<=x)->GF M):=by
  intro d s σ H c us Q I r h;obtain⟨a,b,rfl,n,m,q⟩:=h;obtain⟨u,rfl,f⟩:=yB;cases f;obtain⟨l,e,g,_⟩:=rN n;exact minL (iL o) g.isList (valsI e) m fun h' M t tk k j i=>⟨.int M,H,I.kept k,bn t,q M j i⟩
def setO(P:ř)(w:ł)(a:Addr)(ks:Ď):HO:=.ext fun h=>SetI P w h a ks
def setO_ok(x:SetI P w h a b):x5 (setO P w a b):=
  ⟨x,let ⟨o,_,_,_,e,_⟩:=x;⟨o,e⟩,fun h1 h2 q k=>q.at k⟩
def fm_fold(a:Ď):fm (fun i=>a.getD i 0) bR=a.foldl dk []:=by
  unfold fm
  congr 1
  refine TZ
  rw[ō];by_cases b:j<bR
  · rw[wX b,gV,Ħ,Ľ b]
    rfl
  · rw[jY fz,jY Ă]
    rfl
def call_setL(n:bf):DD eK (ŷ e (∃(a:Addr) (b:Ď),e=[Ī]/\ug a Hy/\gX<4000/\∀p,iR->oF p H (K7 p (b.foldl dk [])))):=by
  intro g s σ H e us Q I r h;obtain⟨a,b,rfl,m,hz,q⟩:=h;obtain⟨u,rfl,j⟩:=yB;cases j;obtain⟨c,f,l,_⟩:=rN m;have i:ie=gX:=by rw[←f.length,ċ]
  refine setOfL (iL n) l.isList (valsI f) (by rw[cU,i];show _<4096;omega) (Ļ h' tk S k)
  have d:c.toArray.size=gX:=ţ cU i
  rw[d,fm_fold]at S;exact⟨bj,_,I.laid k ħ (setO_ok S),rfl,q _ I.fresh⟩
def call_sortS(z:bf):AU ni (ŷ l (∃(p:Addr) (f:Ď),l=[fj]/\Ï p (K7 p f)/\f.length<64/\∀(q:Addr) (i:Ď),ao q->i.Perm f->i.Pairwise (· <= ·)->oF q H (.lst (i.map lJ)))):=by
  intro m s σ H l us Q I r h;obtain⟨p,f,rfl,A,x,q⟩:=h;obtain⟨u,rfl,w⟩:=yB;cases w;refine sorted_set (iL z) ((Φ p _ A).1) x fun B v d c o g e k n he y b j=>?_
  have hl:Ù g.length:=(mQ b.length_eq oE);have ok:rC (wy c (g.map lJ)) B c pL:=⟨by rwa [ċ],o.toList,e,(iVals y),by rwa [Array.toArray_toList]⟩;have a:=Kb v k n ok;refine⟨Č c,_,?_,rfl,q c g (lh n) b j⟩;exact⟨a.ok,a.os,a.bare,a.base,a.loc,a.cell,a.free,a.freeC,a.pin,a.hok,a.len⟩
universe L2
namespace L2
open PySem PySem.Spec PySem.Calls PyProof.Rows PySem.W
theorem asc_up(c:∀i,i+1<n->∀C:Bool->my,C ă s->a ü i C s):∀(f m:Nat),1<=m->m+f=n->Q n s->(kas_asc (qr n) f m).kasWp a Q s
  | 0,m,_,h,q=>by
    have:m=n:=Ę
    subst this;exact q
  | f+1,m,h1,h,q=>by
    have g:Ř (qr n) m=m:=by simp[Array.getD];omega
    have e:Ř (qr n) (m - 1)=m - 1:=by simp[Array.getD];omega
    show a _ _ (fun b d=>(ue b (KasT.ret m) (kas_asc _ f (m+1))).kasWp a Q d) s;rw[g,e];obtain⟨i,rfl⟩:∃i,m=i+1:=(yH m);refine c i Ă _ ?_;rw[oA];exact asc_up c f (i+2) Ă Ă q
theorem mr_le:∀(f n r:Nat),r<=1->minRun' f n r<=n+r
  | 0,n,r,_=>ħ
  | f+1,n,r,h=>by
    rw[minRun'_succ];split
    · exact ħ
    · refine š (mr_le f (n/2) _ Ă) ?_
      omega
def runs_up(h2:2<=n)(h:∀i,i+1<n->∀C:Bool->my,C ă s->kas_cmp prog w A κ it ü i C s)
    (q:∀a,arrOf a=(qr n).map (kas_item it)->failedOf a=none->Q () a s):kasC (model prog w) A E sortRuns' Q (kas_st κ it (qr n)) s:=by
  have c:(qr n).size=n:=Ģ
  have f:(kas_count n (qr n)).kasWp (kas_cmp prog w A κ it) (fun r b=>r=(n,qr n)/\b=s) s:=(by unfold kas_count;rw[KasT.kasWp_bind];refine asc_up h _ 1 ħ Ă ?_;show(if ņ (n==n) then KasT.ret (n,qr n)else _).kasWp _ _ s;rw[ĉ (oK n)];exact pJ);obtain⟨r,rfl⟩:∃r,n=r+2:=(o5 (n - 2));rw[sortRuns'_eq];refine T_;have e:(arrOf T9).size=r+2:=by show((qr (r+2)).map (kas_item it)).size=_;rw[Array.size_map,c]
  have d:=Nat.not_lt.mpr (mr_le (r+2) (r+2) 0 Ă);dsimp only;rw[e];generalize minRun' (r+2) (r+2) 0=M at d ⊢;refine kasC_bind (kasC_range ?_);show kasC _ _ _ _ _ _ _;refine kasC_cons ?_;dsimp only;rw[nj];simp only[Nat.sub_zero,jW];refine kasC_bind (kas_count_ Ă (Ą c ħ) (fun m p' b _ _ _ g=>?_) f);obtain⟨j,rfl⟩:=g;obtain⟨rfl,rfl⟩:=Prod.mk.inj j;dsimp only;rw[ĝ d];refine T_;rw[show(pendingOf _).back? = none from rfl];dsimp only;refine kasC_bind (kasC_modify (kasC_pure (kasC_cons ?_)));dsimp only;rw[ĉ ħ];refine kasC_pure (kasC_bind (kasC_range ?_));show kasC _ _ _ _ _ _ _;refine kasC_cons T_;rw[ĉ (show(pendingOf (setPending T9 ((pendingOf T9).push (0,r+2,0)))).size<=1 from Nat.le_refl 1)];exact kasC_pure (kasC_pure (q _ rfl rfl))
universe L2
namespace L2
open PySem PySem.W PyProof.Rows
theorem kRun_wp{G:e->my}(f:∀i j C,i<n->j<n->C (c i j) s->d i j C s)(g:G a s):∀(t:PySem.W.KasT e),kRun n c t=eF->t.kasWp d G s
  | .ret b,h=>by have h:=h;cases h;exact g
  | KB,h=>by
    have h:(bU (i<n/\j<n) (kRun n c _))=eF:=h;split at h
    · rename_i z
      exact lr _ z.1 z.2 (kRun_wp f g _ h)
    · cases h
def AllT{α:Type}(n:Nat)(φ:Œ α):Œ (KasT α)
  | .ret a=>φ a
  | KB=>(i<n/\j<n)/\∀b,u9 φ (k b)
theorem AllT.run:∀{t:KasT d},u9 b t->∃a,kRun n c t=eF/\b a
  | .ret a,h=>Á a h
  | KB,h=>by
    obtain⟨a,e,q⟩:=AllT.run (h.2 _);refine⟨a,?_,q⟩;show(bU (i<n/\j<n) (kRun n c _))=eF
    rwa [ĉ h.1]
theorem AllT.bind:∀{t:KasT c},u9 d t->(∀a,d a->u9 e (f a))->u9 e (t.bind f)
  | .ret a,h,g=>g a h
  | KB,h,g=>⟨h.1,fun b=>AllT.bind (h.2 b) g⟩
def PermN(n:Nat)(p:gH Nat):Prop:=p.toList.Perm (Ū n)
def PermN.lt(h:nu p)(a:0<n)(i:Nat):nr i<n:=by
  rw[Bq];cases e:p[i]? with
  | none=>exact a
  | some x=>
    exact ź (h.mem_iff.mp ((by rw[Array.getElem?_eq_some_iff]at e;obtain⟨c,b⟩:=e;rw[←b];exact Array.getElem_mem_toList c)))
def PermN.rev{n:Nat}{p:gH Nat}(h:nu p)(i j:Nat):nu (kas_rev p i j):=by
  unfold kas_rev;exact Ţ (Array.perm_iff_toList_perm.mp (mirror_perm _ _ _ _)) h
def PermN.bub{n:Nat}{p:gH Nat}(h:nu p)(k m:Nat):nu (bubble p k m):=Ţ (Array.perm_iff_toList_perm.mp (bubble_perm _ _ _)) h
theorem all_asc(a:0<n)(h:nu p):∀(f m:Nat),u9 (ş True) (kas_asc p f m)
  | 0,m=>p5
  | f+1,m=>⟨K8,fun b=>by
    cases b
    · exact all_asc a h f _
    · exact p5⟩
theorem all_desc(a:0<n):∀(f:Nat) (p:gH Nat) (m q:Nat),nu p->Pg r.1 (kas_desc f p m q)
  | 0,p,m,q,h=>h
  | f+1,p,m,q,h=>⟨K8,fun b=>by
    cases b
    · refine⟨K8,af b⟩
      cases b
      · exact all_desc a f p _ _ h
      · exact h
    · show u9 _ _
      split
      · exact all_desc a f _ _ 0 (h.rev _ _)
      · exact all_desc a f p _ 0 h⟩
def all_tail3(b:0<n)(h:nu p)(m z:Nat):Pg r.2 (kas_tail3 m z p):=(all_asc b (h.rev _ _) _ _).bind fun a _=>h.rev _ _
def all_descPart(a:0<n)(h:nu p)(m z:Nat):Pg r.2 (kas_descPart m z p):=(all_desc a _ _ _ _ h).bind fun r b=>by
  split
  · exact all_tail3 a (b.rev _ _) _ _
  · exact all_tail3 a b _ _
def all_count(a:0<n)(h:nu p)(z:Nat):Pg r.2 (kas_count z p):=(all_asc a h _ _).bind fun m _=>by
  split
  · exact h
  · split
    · refine⟨K8,af b⟩
      cases b
      · exact all_descPart a (h.rev _ _) _ _
      · exact h
    · exact all_descPart a h _ _
theorem all_place(a:0<n)(h:nu p)(k:Nat):∀(f l r:Nat),u9 (ş True) (kas_place p k f l r)
  | 0,l,r=>p5
  | f+1,l,r=>by
    unfold kas_place;split
    · exact p5
    · refine⟨K8,af b⟩
      cases b
      · exact all_place a h k f _ _
      · exact all_place a h k f _ _
theorem all_bin(a:0<n):∀(f:Nat) (p:gH Nat) (k:Nat),nu p->u9 nu (kas_bin f p k)
  | 0,p,k,h=>h
  | f+1,p,k,h=>(all_place a h k _ _ _).bind fun l _=>all_bin a f _ _ (h.bub _ _)
def all_sort(b:0<n):u9 nu (kas_sort n):=(all_count b (by unfold PermN;simp) n).bind fun r a=>by
  split
  · exact all_bin b _ _ _ a
  · exact a
def sortIx_perm(ks:Ď):∃b,sortIx ks=lD/\b.Perm (Ū cY):=by
  unfold sortIx;split
  · exact(Á _ (.refl _))
  · obtain⟨a,e,q⟩:=(all_sort (n:=cY) Ă).run
    exact⟨a.toList,bQ e,q⟩
def putIx_perm(h:b.Perm (Ū Ň)):(jO x b l).Perm l:=by
  have e:jO x (Ū Ň) l=l:=(YN Ģ c);have:=h.map fun i=>jN i x
  exact this.trans (ų (show KR Ň _=l from e))
universe L2
namespace L2
open PySem PySem.Spec PyProof.Rows
theorem Vals.getD(r:Vals vs a)(i:Nat):RelV (vs.getD i .non) (a.getD i Ĺ):=by
  rw[Ħ,Ħ];cases h:vs[i]? with
  | none=>rw[r.none_of h];rfl
  | some v=>
    obtain⟨u,e,q⟩:=r.get h
    rwa [e]
theorem Vals.putIx{vs:İ}{us:ŉ}(r:ub):∀ix:Ġ,Vals (jO .non ix vs) (L2.putIx Ĺ ix us)
  | []=>.nil
  | i::l=>Ξ (r.getD i) (Vals.putIx r l)
def tr_bools{a_:dz}{bs:wJ}(e:items.toList=K9):TruthOf prog w A (Ĵ v (ĭ a_ v)) Ph:=by
  intro i v s Q E hP d;have c:ĭ K9 v:=by rwa [←e,oZ]
  rw[ō]at c;obtain⟨b,f,rfl⟩:=Θ c;have a:Q (bs.getD i ă) s:=d;rw[Ħ,f]at a;exact PySem.wpAny_truthy_bool a
def range_all(bs:wJ):(Ū BB).all Ph=bs.all id:=by
  rw[sM,qt,qt];constructor
  · intro h x b
    obtain⟨i,a,rfl⟩:=K' b;have:=h i (o6 a);rw[Ħ,nv]at this;exact this
  · intro h i a
    have a:=ź a;rw[Ħ,nv];exact h _ (jV a)
def range_any(bs:wJ):(Ū BB).any Ph=bs.any id:=by
  rw[sM,K_,K_];constructor
  · rintro⟨i,a,h⟩
    have a:=ź a;rw[Ħ,nv]at h;exact⟨_,jV a,h⟩
  · rintro⟨x,b,h⟩
    obtain⟨i,a,rfl⟩:=K' b;refine(bx i (o6 a));rw[Ħ,nv];exact h
def allL{bs:wJ}(m:bD)(f:Er l a_)(e:items.toList=K9)
    (h:∀a c,YQ (fg (bs.all id))):Pd "all":=by
  have d:l<ġ:=by obtain⟨_,e,_⟩:=f;exact Ι
  have j:oO=BB:=by rw[←f6,e,ċ]
  refine call_all_walk (YO f m d (f.push _) a c k);rw[j,range_all];exact h a c fun b o g=>k b o (by simp;exact Ñ (aB g)) (ű g)
def anyL{bs:wJ}(j:bD)(c:Er l a_)(e:items.toList=K9)
    (h:∀h' tk,KS->Q (fg (bs.any id)) (jX h' tk)):Pd "any":=by
  have a:l<ġ:=by obtain⟨_,e,_⟩:=c;exact Ι
  have f:oO=BB:=by rw[←f6,e,ċ]
  refine call_any_walk (YO c j a (c.push _) h' tk g);rw[f,range_any];exact h h' tk fun b o d=>g b o (by simp;exact Ñ (aB d)) (ű d)
def sumL(m:bD)(f:Er l Kf)(g:jH vs d)
    (h:∀a c t,YQ (.int d.sum t)):Pd "sum":=by
  obtain⟨i,e⟩:=g.allInts.items;have en:d=i.toList.map eD:=YM
  rw[e]at f;refine sum_intListG m f (Ļ a c j k)
  have:=h a c j k;rw[preSum_eq,Pi Ģ];rw[en]at this;exact this
theorem valsB:∀{bs:wJ} {us:ŉ},iG (bs.map V.bl)->us=K9
  | [],_,h=>by cases h;rfl
  | b::bs,_,h=>by
    cases h with
    | cons r t=>
      rw[valsB t];cases(r);rfl
def call_allL(j:bf):Pf "all" b bs wJ (bs.map V.bl) (AR (bs.all id)):=by
  intro c s σ H b us Q I r h;obtain⟨a,bs,rfl,i,q⟩:=h;obtain⟨u,rfl,e⟩:=yB;cases e;obtain⟨g,d,f,_⟩:=rN i;exact allL (iL j) f.isList (Ķ (valsB d)) (N6 (.bl _) rfl)
def call_anyL(i:bf):Pf "any" b bs wJ (bs.map V.bl) (AR (bs.any id)):=by
  intro c s σ H b us Q I r h;obtain⟨a,bs,rfl,g,q⟩:=h;obtain⟨u,rfl,e⟩:=yB;cases e;obtain⟨f,d,pl,_⟩:=rN g;exact anyL (iL i) pW (Ķ (valsB d)) (N6 (.bl _) rfl)
def call_sumL(l:bf):Pf "sum" c b Ď Hy (GF b.sum):=by
  intro d s σ H c us Q I r h;obtain⟨a,b,rfl,j,q⟩:=h;obtain⟨u,rfl,f⟩:=yB;cases f;obtain⟨i,e,g,_⟩:=rN j;exact sumL (iL l) g.isList (valsI e) fun h' tk t k=>⟨dL,H,I.kept k,bn t,q⟩
universe L2
namespace L2
open PySem
structure Sg where
  N:ĥ
  sc:uB
  fn:ĥ
  bl:ĥ
  cl:ĥ
  top:Bool
  lp:Bool
  co:dM->ah->ù->ń ĥ
def noCo:dM->ah->ù->ń ĥ:=pM _ ă
def fH:ig | .Starred _ _=>true | _=>ă
def BC:ig | .Slice _ _ _ _=>true | _=>ă
def lK:ig | .Set _ _ _=>true | _=>ă
def isComp:ig | .ListComp _ _ _ _=>true | .SetComp _ _ _ _=>true | .DictComp _ _ _ _ _=>true | _=>ă
def any1{α:Type}(o:ĕ α)(f:ń α):Bool:=o.rec ă f
def any1_at(h:any1 o f=true):∃a,o=eF/\f a=true:=by
  cases o with
  | none=>cases h
  | some a=>exact(Á a h)
@[elab_as_elim] def any1_el{o:ĕ b}(h:any1 o f=true){C:Œ (ĕ b)}(k:∀a,ay (f a) eF):C o:=let ⟨_,q,h⟩:=any1_at h;Eq.mpr (oy C q) (k _ h)
def inNo{α:Type}(o:ĕ α)(f:Bool):Bool:=o.rec f (ş ă)
@[elab_as_elim] def inNo_el{o:ĕ b}(h:inNo o f=true){C:Œ (ĕ b)}(k:f=true->C none):C o:=by
  cases o with
  | none=>exact k h
  | some a=>cases h
def in0{α:Type}(l:Ρ)(f:Bool):Bool:=l.rec f (bc _ ă)
@[elab_as_elim] def in0_el{l:Ĳ b}(h:in0 l f=true){C:Œ (Ĳ b)}(k:f=true->C []):C l:=by
  cases l with
  | nil=>exact k h
  | cons a r=>cases h
def inC{α:Type}(l:Ρ)(f:α->ń Ρ):Bool:=l.rec ă fun a r _=>f a r
@[elab_as_elim] def inC_el{f:b->ń (Ĳ b)}(h:inC l f=true){C:Œ (Ĳ b)}(k:∀a r,ay (f a r) (a::r)):C l:=by
  cases l with
  | nil=>cases h
  | cons a r=>exact k a r h
def in1{α:Type}(l:Ρ)(f:ń α):Bool:=inC l fun a r=>in0 r (f a)
@[elab_as_elim] def in1_el{f:ń b}(h:in1 l f=true){C:Œ (Ĳ b)}(k:∀a,f a=true->C [a]):C l:=inC_el h fun a _ h=>sN (k a)
def in1_at(h:in1 l f=true):∃a,l=[a]/\f a=true:=BD a (Á a h)
def in2{α:Type}(l:Ρ)(f:α->ń α):Bool:=inC l fun a r=>in1 r (f a)
@[elab_as_elim] def in2_el{f:c->ń c}(h:in2 l f=true){C:Œ (Ĳ c)}(k:∀a b,f a b=true->C [a,b]):C l:=inC_el h fun a _ h=>in1_el h (k a)
def inNameP(e:Expr):ĕ {t:Str×Pos // e=.Name t.1 t.2}:=db (bA p) (x,p)
@[irreducible] def inName(e:Expr)(f:ń Str):Bool:=ii (inNameP e) (f t.1.1)
@[elab_as_elim] def inName_el(h:inName e g=true){C:aS}(k:∀x p,ay (g x) (bA p)):C e:=by
  unfold inName at h;exact BE (fV h)
def inConstP(e:Expr):qu Const Nat Pos (BF t.1 dO eN):=db (BF x k p) (x,k,p)
def inBinP(e:Expr):BG rQ Expr (.BinOp t.1 dO eN.1 nw):=db (.BinOp a o b p) (a,o,b,p)
@[irreducible] def inBin(e:Expr)(f:Expr->rQ->ig):Bool:=ii (inBinP e) BH
@[elab_as_elim] def inBin_el(h:inBin e g=true){C:aS}(k:La a o b (.BinOp a o b p)):C e:=by
  unfold inBin at h;exact wY
def inUnP(e:Expr):qu UnaryOp Expr Pos (.UnaryOp t.1 dO eN):=db (.UnaryOp o a p) (o,a,p)
@[irreducible] def inUn(e:Expr)(f:UnaryOp->ig):Bool:=ii (inUnP e) Et
@[elab_as_elim] def inUn_el(h:inUn e g=true){C:aS}(k:∀o a p,ay (g o a) (.UnaryOp o a p)):C e:=by
  unfold inUn at h;exact Eu
def inCmpP(e:Expr):BG (Ĳ jy) û (.Compare t.1 dO eN.1 nw):=db (Hz os bs p) (a,os,bs,p)
@[irreducible] def inCmp(e:Expr)(f:Expr->(Ĳ jy)->ń û):Bool:=ii (inCmpP e) BH
@[elab_as_elim] def inCmp_el(h:inCmp e g=true){C:aS}(k:La a b bs (Hz b bs p)):C e:=by
  unfold inCmp at h;exact wY
def inBoolP(e:Expr):qu BoolOp û Pos (.BoolOp t.1 dO eN):=db (.BoolOp o es p) (o,es,p)
@[irreducible] def inBool(e:Expr)(f:BoolOp->ń û):Bool:=ii (inBoolP e) Et
@[elab_as_elim] def inBool_el(h:inBool e g=true){C:aS}(k:∀o a p,ay (g o a) (.BoolOp o a p)):C e:=by
  unfold inBool at h;exact Eu
def inIfP(e:Expr):BG Expr Expr (.IfExp t.1 dO eN.1 nw):=db (GD p) (c,a,b,p)
@[irreducible] def inIf(e:Expr)(f:Expr->Expr->ig):Bool:=ii (inIfP e) BH
@[elab_as_elim] def inIf_el(h:inIf e g=true){C:aS}(k:La c a b (GD p)):C e:=by
  unfold inIf at h;exact wY
def inListP(e:Expr):ĕ {t:û×Pos // e=.List t.1 t.2}:=db (.List es p) (es,p)
@[irreducible] def inList(e:Expr)(f:ń û):Bool:=ii (inListP e) (f t.1.1)
@[elab_as_elim] def inList_el(h:inList e g=true){C:aS}(k:∀a p,ay (g a) (.List a p)):C e:=by
  unfold inList at h;exact BE (fV h)
def inTupP(e:Expr):qu û Nat Pos (.Tuple t.1 dO eN):=db (.Tuple es k p) (es,k,p)
@[irreducible] def inTup(e:Expr)(f:ń û):Bool:=ii (inTupP e) (f t.1.1)
@[elab_as_elim] def inTup_el(h:inTup e g=true){C:aS}(k:∀a k p,ay (g a) (.Tuple a k p)):C e:=by
  unfold inTup at h;exact Eu
def inSubP(e:Expr):qu Expr Expr Pos (iM t.1 dO eN):=db (iM a b p) (a,b,p)
@[irreducible] def inSub(e:Expr)(f:Expr->ig):Bool:=ii (inSubP e) Et
@[elab_as_elim] def inSub_el(h:inSub e g=true){C:aS}(k:∀a b p,ay (g a b) (iM a b p)):C e:=by
  unfold inSub at h;exact Eu
def inSliceP(e:Expr):qu yz yz (yz×Pos) (.Slice t.1 dO eN.1 nw):=db (.Slice a b c p) (a,b,c,p)
@[irreducible] def inSlice(e:Expr)(f:yz->yz->ń yz):Bool:=ii (inSliceP e) BH
@[elab_as_elim] def inSlice_el(h:inSlice e g=true){C:aS}(k:La a b c (.Slice a b c p)):C e:=by
  unfold inSlice at h;exact wY
def inCallP(e:Expr):BG û GT (.Call t.1 dO eN.1 nw):=db (.Call f as ks p) (f,as,ks,p)
@[irreducible] def inCall(e:Expr)(f:Expr->û->u_ GT):Bool:=Lb (inCallP e)
@[elab_as_elim] def inCall_el(h:inCall e g=true){C:aS}(k:Lc f as a (.Call f as a p)):C e:=by
  unfold inCall at h;exact wY
def inAttrP(e:Expr):qu Expr Str Pos (.Attribute t.1 dO eN):=db (.Attribute a n p) (a,n,p)
@[irreducible] def inAttr(e:Expr)(f:Expr->u_ Str):Bool:=ii (inAttrP e) (Et za)
@[elab_as_elim] def inAttr_el(h:inAttr e g=true){C:aS}(k:∀a n p,ay (g a n p) (.Attribute a n p)):C e:=by
  unfold inAttr at h;exact Eu
def inCompP(e:Expr):BG (Ĳ Comprehension) ù (.ListComp t.1 dO eN.1 nw):=db (.ListComp x gs sc p) (x,gs,sc,p)
@[irreducible] def inComp(e:Expr)(f:Expr->(Ĳ Comprehension)->ń ù):Bool:=ii (inCompP e) BH
@[elab_as_elim] def inComp_el(h:inComp e g=true){C:aS}(k:La x a sc (.ListComp x a sc p)):C e:=by
  unfold inComp at h;exact wY
def inDicP(e:Expr):qu (Ld Expr) û Pos (.Dict t.1 dO eN):=db (.Dict ks vs p) (ks,vs,p)
@[irreducible] def inDic(e:Expr)(f:(Ld Expr)->ń û):Bool:=ii (inDicP e) Et
@[elab_as_elim] def inDic_el(h:inDic e g=true){C:aS}(k:∀ks vs p,ay (g ks vs) (.Dict ks vs p)):C e:=by
  unfold inDic at h;exact Eu
def inLamP(e:Expr):qu dM Expr (ù×Pos) (.Lambda t.1 dO eN.1 nw):=db (.Lambda pr bd sc p) (pr,bd,sc,p)
@[irreducible] def inLam(e:Expr)(f:dM->Expr->u_ ù):Bool:=Lb (inLamP e)
@[elab_as_elim] def inLam_el(h:inLam e g=true){C:aS}(k:Lc a b sc (.Lambda a b sc p)):C e:=by
  unfold inLam at h;exact wY
def inAsgP(e:Stmt):qu û Expr Pos (.Assign t.1 dO eN):=db (.Assign t v p) (t,v,p)
@[irreducible] def inAsg(e:Stmt)(f:û->BI):Bool:=ii (inAsgP e) (Et za)
@[elab_as_elim] def inAsg_el(h:inAsg e g=true){C:sO}(k:∀t v p,ay (g t v p) (.Assign t v p)):C e:=by
  unfold inAsg at h;exact Eu
def inExSP(e:Stmt):ĕ {t:Expr×Pos // e=.Expr t.1 t.2}:=db (.Expr v p) (v,p)
@[irreducible] def inExS(e:Stmt)(f:BI):Bool:=ii (inExSP e) (f t.1.1 t.1.2)
@[elab_as_elim] def inExS_el(h:inExS e g=true){C:sO}(k:∀v p,ay (g v p) (.Expr v p)):C e:=by
  unfold inExS at h;exact BE (fV h)
def inRetP(e:Stmt):ĕ {t:yz×Pos // e=.Return t.1 t.2}:=db (.Return v p) (v,p)
@[irreducible] def inRet(e:Stmt)(f:u_ yz):Bool:=ii (inRetP e) (f t.1.1 t.1.2)
@[elab_as_elim] def inRet_el(h:inRet e g=true){C:sO}(k:∀v p,ay (g v p) (.Return v p)):C e:=by
  unfold inRet at h;exact BE (fV h)
def inIfSP(e:Stmt):BG ah ah (.If t.1 dO eN.1 nw):=db (.If c a b p) (c,a,b,p)
@[irreducible] def inIfS(e:Stmt)(f:Expr->ah->u_ ah):Bool:=Lb (inIfSP e)
@[elab_as_elim] def inIfS_el(h:inIfS e g=true){C:sO}(k:Lc c a b (.If c a b p)):C e:=by
  unfold inIfS at h;exact wY
def inForP(e:Stmt):qu Expr Expr (ah×ah×Pos) (.For t.1 dO eN.1 nw.1 nw.2):=db (.For t i b o p) (t,i,b,o,p)
@[irreducible] def inFor(e:Stmt)(f:Expr->Expr->ah->u_ ah):Bool:=ii (inForP e) (BH za.2.1 za.2.2)
@[elab_as_elim] def inFor_el(h:inFor e g=true){C:sO}(k:∀t i b o p,ay (g t i b o p) (.For t i b o p)):C e:=by
  unfold inFor at h;exact BE (fV _ _ _ h)
def inWhP(e:Stmt):BG ah ah (.While t.1 dO eN.1 nw):=db (.While t b o p) (t,b,o,p)
@[irreducible] def inWh(e:Stmt)(f:Expr->ah->u_ ah):Bool:=Lb (inWhP e)
@[elab_as_elim] def inWh_el(h:inWh e g=true){C:sO}(k:Lc t b o (.While t b o p)):C e:=by
  unfold inWh at h;exact wY
def inAugP(e:Stmt):BG rQ Expr (JP t.1 dO eN.1 nw):=db (JP t o v p) (t,o,v,p)
@[irreducible] def inAug(e:Stmt)(f:Expr->rQ->BI):Bool:=Lb (inAugP e)
@[elab_as_elim] def inAug_el(h:inAug e g=true){C:sO}(k:Lc t o v (JP t o v p)):C e:=by
  unfold inAug at h;exact wY
def inCmp1(e:Expr)(f:Expr->jy->ig):Bool:=inCmp e fun a os bs=>in1 os fun o=>in1 bs fun b=>f a o b
@[elab_as_elim] def inCmp1_el(h:inCmp1 e f=true){C:aS}(k:∀a o b p,ay (f a o b) (Hz [o] [b] p)):C e:=inCmp_el h fun a _ _ p h=>BD o (BD b (k a o b p h))
def inCmp2(e:Expr)(f:Expr->jy->jy->Expr->ig):Bool:=inCmp e fun a os bs=>in2 os fun o o2=>in2 bs fun b c=>f a o o2 b c
@[elab_as_elim] def inCmp2_el(h:inCmp2 e f=true){C:aS}(k:∀a o d b c p,ay (f a o d b c) (Hz [o,d] [b,c] p)):C e:=inCmp_el h fun a _ _ p h=>in2_el h fun o d h=>in2_el h fun b c h=>k a o d b c p h
def inSlF(e:Expr)(f:ig):Bool:=Ua b (inNo c (any1 a f))
@[elab_as_elim] def inSlF_el(h:inSlF e f=true){C:aS}(k:∀x p,ay (f x) (.Slice cS none none p)):C e:=YR
def inSlT(e:Expr)(f:ig):Bool:=Ua a (inNo c (any1 b f))
@[elab_as_elim] def inSlT_el(h:inSlT e f=true){C:aS}(k:∀x p,ay (f x) (.Slice none cS none p)):C e:=YR
def inSlM(e:Expr)(f:Expr->ig):Bool:=Ua c (any1 a fun x=>any1 b (f x))
@[elab_as_elim] def inSlM_el(h:inSlM e f=true){C:aS}(k:∀x y p,ay (f x y) (.Slice cS (ā y) none p)):C e:=inSlice_el h fun _ _ _ p h=>Le (HA x (HA y (k x y p h)))
def inCl(e:Expr)(f:Expr->u_ û):Bool:=inCall e fun g as ks p=>in0 ks (f g as p)
@[elab_as_elim] def ny(h:inCl e f=true){C:aS}(k:∀g as p,Pj (f g as p) as):C e:=inCall_el h fun g as _ p h=>sN (k g as p)
def inCl0(e:Expr)(f:BI):Bool:=inCl e fun g as p=>in0 as (f g p)
@[elab_as_elim] def inCl0_el(h:inCl0 e f=true){C:aS}(k:∀g p,Pj (f g p) []):C e:=ny h fun g _ p h=>sN (k g p)
def inCl1(e:Expr)(f:Expr->BI):Bool:=inCl e fun g as p=>in1 as fun a=>f g a p
@[elab_as_elim] def inCl1_el(h:inCl1 e f=true){C:aS}(k:∀g a p,Pj (f g a p) [a]):C e:=ny h fun g _ p h=>BD a (k g a p h)
def inCl2(e:Expr)(f:Expr->Expr->BI):Bool:=inCl e fun g as p=>in2 as fun a b=>f g a b p
@[elab_as_elim] def inCl2_el(h:inCl2 e f=true){C:aS}(k:∀g a b p,Pj (f g a b p) [a,b]):C e:=ny h fun g _ p h=>in2_el h fun a b h=>k g a b p h
def inDc0(e:Expr)(f:Bool):Bool:=inDic e fun ks vs=>in0 ks (in0 vs f)
@[elab_as_elim] def inDc0_el(h:inDc0 e f=true){C:aS}(k:∀p,ay f (.Dict [] [] p)):C e:=inDic_el h fun _ _ p h=>sN fun h=>sN fun h=>k p h
def inDc2(e:Expr)(f:Expr->Expr->Expr->ig):Bool:=inDic e fun ks vs=>in2 ks fun a b=>any1 a fun a=>any1 b fun b=>in2 vs fun c d=>f a b c d
@[elab_as_elim] def inDc2_el(h:inDc2 e f=true){C:aS}(k:∀a b c d p,ay (f a b c d) (.Dict [eF,lD] [c,d] p)):C e:=inDic_el h fun _ _ p h=>in2_el h (bc h (HA a (HA b (in2_el h fun c d h=>k a b c d p h))))
def inFdP(e:Stmt):qu Str dM (ah×ù×Str×Pos) (Pk t.1 dO eN.1 nw.1 nw.2.1 nw.2.2):=db (Pk n a b sc bd p) (n,a,b,sc,bd,p)
@[irreducible] def inFd(e:Stmt)(f:Str->dM->ah->ù->ń Str):Bool:=ii (inFdP e) (BH za.2.1 za.2.2.1)
@[elab_as_elim] def inFd_el(h:inFd e g=true){C:sO}(k:∀n a b sc bd p,ay (g n a b sc bd) (Pk n a b sc bd p)):C e:=by
  unfold inFd at h;exact BE (fV _ _ _ _ h)
def inCk1(e:Expr)(f:Expr->û->ĕ Str->ig):Bool:=inCall e fun g as ks p=>in1 ks fun w=>f g as w.arg w.value
@[elab_as_elim] def inCk1_el(h:inCk1 e f=true){C:aS}(k:YS b):C e:=inCall_el h fun g b _ p h=>BD ⟨a,v,q⟩ (k g b a v q p h)
def inCk(e:Expr)(f:Expr->Expr->ĕ Str->ig):Bool:=inCk1 e fun g as a v=>in1 as fun b=>f g b a v
@[elab_as_elim] def inCk_el(h:inCk e f=true){C:aS}(k:YS [b]):C e:=inCk1_el h fun g _ a v q p h=>BD b (k g b a v q p h)
def inAsg1(e:Stmt)(f:Expr->BI):Bool:=inAsg e fun ts v p=>in1 ts fun t=>f t v p
@[elab_as_elim] def inAsg1_el(h:inAsg1 e f=true){C:sO}(k:∀t v p,ay (f t v p) (.Assign [t] v p)):C e:=inAsg_el h fun _ v p h=>BD t (k t v p h)
def inRet1(e:Stmt)(f:BI):Bool:=inRet e fun o p=>any1 o fun v=>f v p
@[elab_as_elim] def inRet1_el(h:inRet1 e f=true){C:sO}(k:∀v p,ay (f v p) (.Return dw p)):C e:=inRet_el h fun _ p h=>HA v (k v p h)
def inFor1(e:Stmt)(f:Expr->Expr->u_ ah):Bool:=inFor e fun t i b o p=>in0 o (f t i b p)
@[elab_as_elim] def inFor1_el(h:inFor1 e f=true){C:sO}(k:∀t i b p,ay (f t i b p) (.For t i b [] p)):C e:=inFor_el h fun t i b _ p h=>sN (k t i b p)
def inWh1(e:Stmt)(f:Expr->u_ ah):Bool:=inWh e fun t b o p=>in0 o (f t b p)
@[elab_as_elim] def inWh1_el(h:inWh1 e f=true){C:sO}(k:∀t b p,ay (f t b p) (.While t b [] p)):C e:=inWh_el h fun t b _ p h=>sN (k t b p)
def nz(e:Expr):ĕ Str:=ļ (inNameP e) t t.1.1
def asConst(e:Expr):ĕ Const:=ļ (inConstP e) t t.1.1
def asTup(e:Expr):ĕ û:=ļ (inTupP e) t t.1.1
def asBin(e:Expr):ĕ (Expr×rQ×Expr):=ļ (inBinP e) t (t.1.1,t.1.2.1,za.1)
def mpd{o:ĕ d}(h:o.map f=lD):∃a,f a=b:=by
  cases o with
  | none=>cases h
  | some a=>cases h;exact(bn a)
def wZ(h:nz e=cS):∃p,e=bA p:=let ⟨t,h⟩:=mpd h;⟨_,h▸t.2⟩
def Lf(h:asConst e=cS):∃k p,e=BF x k p:=YT
def asTup_eq(h:asTup e=eF):∃k p,e=.Tuple a k p:=YT
def asBin_eq(h:asBin e=ā (a,o,b)):∃p,e=.BinOp a o b p:=by
  obtain⟨⟨⟨_,_,_,p⟩,z⟩,h⟩:=mpd h;cases h;exact⟨p,z⟩
structure CParts where
  elt:Expr
  tg:Expr
  it:Expr
  ifs:û
  sc:ù
def inCp(e:Expr)(f:ń CParts):Bool:=inComp e fun x gs sc=>in1 gs fun g=>ě (g.is_async=0)&&f ⟨x,g.target,g.iter,g.ifs,sc⟩
@[elab_as_elim] def inCp_el(h:inCp e f=true){C:aS}(k:∀c p,ay (f c) (Ev c.elt c.tg c.it c.ifs c.sc p)):C e:=by
  refine inComp_el h fun x gs d p h=>in1_el h (Ĝ ⟨b,g,a,w⟩ h)
  obtain⟨i,h⟩:=nA h;obtain rfl:=Pl i;exact k ⟨x,b,g,a,d⟩ p h
def visB(sg:Sg)(x:Str):Bool:=Ub (o7 x)||o7 x==jz
def gloB(sg:Sg)(x:Str):Bool:=o7 x==ā .globalImplicit
def locB(sg:Sg)(x:Str):Bool:=Ub (o7 x)
def slotB(sg:Sg)(i:Nat)(x:Str):Bool:=sg.N[i]? == cS&&visB sg x&&Lg && x != "__classdict__"
def bltB(sg:Sg)(x:Str)(f:Expr):Bool:=nz f==cS&&gloB sg x&&sg.bl.contains x
def biName:Bi->Str
  | .len=>"len" | .min=>"min" | .max=>"max" | .sum=>"sum" | .sset=>ni | .tuple=>ad | .list=>ý | .all=>"all" | .any=>"any"
def mtName:Mt->Str
  | D_=>"bit_length" | .index=>zb | .get=>"get"
def blockN(sg:Sg)(tn:ĥ)(fr:mT):ĥ:=tn++ļ (fr.drop tn.length) o (sA o i (sg.N.getD i "") none "")
def tgNames:Tg->Expr->ĕ ĥ
  | .one _,e=>ļ (nz e) x [x]
  | jP is,e=>match asTup e with
    | ā es=>bU (sP=Ew) (es.mapM nz)
    | none=>none
def tgOk(sg:Sg):Tg->ig
  | .one i,e=>match nz e with
    | cS=>Lh i
    | none=>ă
  | jP is,e=>match asTup e with
    | ā es=>sP==Ew&&2<=sP&&(is.zip es).all fun p=>match nz p.2 with
      | cS=>Lh p.1
      | none=>ă
    | none=>ă
def nodupB:ń ĥ
  | []=>true
  | x::r=>!r.contains x&&nodupB r
def tgSlots:Tg->Ġ
  | .one i=>[i]
  | jP is=>is
def blockOk(sg:Sg)(N':ĥ)(fr:mT)(sc:ù)(tg:Tg):Bool:=(tgSlots tg).all (fun i=>fr[i]? == ā none) &&
  yw == on&&nodupB N'&&Ud&&lx==N'.length &&
  (fr.zip N').all (fun p=>sA p.1 i (sg.N[i]? == AN&&sc.names.contains (p.2,.free)) none true) &&
  Uc (o7 y.1==aO||o7 y.1==jz)
def lamP2(p:dM)(ps:ĥ):Bool:=YV (YU "r" "c")
def lamP1(p:dM)(ps:ĥ):Bool:=YX (in1 ar fun a=>YW ((["way","entry","word"]:ĥ).contains a.arg&&ps==[a.arg]))
def lamPs(p:dM)(ps:ĥ):Bool:=lamP2 p ps||lamP1 p ps
@[elab_as_elim] def lamPs_el(h:lamPs p ps=true){C:dM->Œ ĥ}(k:∀x y z w,C ⟨[],[⟨"r",x,y⟩,⟨"c",z,w⟩],none,[],[],none,[]⟩ ["r","c"])
    (k1:∀a x y,a∈(["way","entry","word"]:ĥ)->C ⟨[],[⟨a,x,y⟩],none,[],[],none,[]⟩ [a]):C p ps:=by
  obtain⟨po,ar,va,ko,kd,kw,df⟩:=p;rcases Bool.or_eq_true_iff.mp h with h | h
  · refine YY c Ue
    simp only[Ĉ,ķ]at h;obtain⟨⟨rfl,rfl⟩,rfl⟩:=h;exact k b p1 c p2
  · refine sN fun h=>BD ⟨x,b,p1⟩ Ue
    simp only[Ĉ,ķ,HB]at h;obtain⟨d,rfl⟩:=h;exact k1 x b p1 d
def lamScB(sg:Sg)(kd:Dy)(N:ĥ)(np:Nat)(fr:Ġ)(pr:dM)(sc:ù):Bool:=lamPs pr (mK np)&&yw == on && !Dx && !Dw&&nodupB N&&Ud&&ě (gQ=np+lx) &&
  (mK np).all (fun x=>dB==dF)&&YZ&&(N.drop np).all (fun x=>dB==jz)&&(fr.zip (N.drop np)).all (fun p=>sg.N[p.1]? == AN) &&
  o7 ŭ != aO&&Uc (o7 y.1==ā kd)
def cloPs(p:dM)(ps:ĥ):Bool:=YV (inNo a.annotation (inNo b.annotation (YU "rows" vb)))
@[elab_as_elim] def cloPs_el(h:cloPs p ps=true){C:dM->Œ ĥ}(k:∀x y,C ⟨[],[⟨"rows",none,x⟩,⟨vb,none,y⟩],none,[],[],none,[]⟩ ["rows",vb]):C p ps:=by
  obtain⟨po,ar,va,ko,kd,kw,df⟩:=p;refine YY a (inNo_el (o:=b) h fun h=>inNo_el (o:=a) h fun h=>Ue)
  simp only[Ĉ,ķ]at h;obtain⟨⟨rfl,rfl⟩,rfl⟩:=h;exact k p1 p2
def corDfr(sg:Sg)(i:Nat)(fr:Ġ)(ss:ah)(f:ń û):Bool:=sg.top&&o7 ŭ==aO&&(in2 ss fun a b=>inFd a fun n pr bd sc x=>n==ŭ&&x==ŭ&&sg.N[i]? == ā ŭ&&sg.co pr bd sc (fr.map fun j=>sg.N.getD j "")&&fr.all (fun j=>ě (j<sg.N.length)) &&
  (Uc (o7 y.1==aO))&&(inRet1 b fun v _=>Uf v (x==ŭ) (f es)))
def isCompM:ń ME
  | .comp _ _ _ _=>true
  | sQ _ _ _ _ _=>true
  | _=>ă
def isZp:ń ME
  | .zp _ _=>true
  | .enu _=>true
  | .itm _=>true
  | _=>ă
mutual
def corE(sg:Sg)(w:Bool):ME->ig
  | .var i,e=>Ey e
  | ĳ,e=>HE e ĳ
  | .bl i,e=>HE e (fg i)
  | aL,e=>HE e aL&&ě (ň eQ)
  | .non,e=>HE e Ĺ
  | .glb x,e=>nz e==cS&&gloB sg x&&Lg
  | .bin op a b,e=>inBin e fun ea o eb=>o==op&&i7&&Ex
  | .neg a,e=>inUn e fun o ea=>o == .USub&&i7
  | .not a,e=>inUn e fun o ea=>o == .Not&&i7
  | .cmp op a b,e=>inCmp1 e fun ea o eb=>o==op&&i7&&Ex && !lK eb
  | .chain op op' a b c,e=>inCmp2 e fun ea o o' eb ec=>o==op&&o'==op'&&i7&&Ex&&de c ec && !lK ec
  | .and ms,e=>inBool e fun o es=>o == .And&&qv
  | .or ms,e=>inBool e fun o es=>o == .Or&&qv
  | .lst ms,e=>inList e fun es=>qv
  | ģ ms,e=>inTup e fun es=>qv
  | .ix a b,e=>Pm ea eb i7 b
  | .sl a lo hi,e=>inSub e fun ea es=>(inSlM es fun el eh=>i7&&de lo el&&de hi eh)
  | .slf a lo,e=>inSub e fun ea es=>(inSlF es fun el=>i7&&de lo el)
  | .slt a hi,e=>inSub e fun ea es=>(inSlT es fun eh=>i7&&de hi eh)
  | ľ f ms,e=>Uf e (sg.fn[f]? == cS&&gloB sg x&&Lg) qv
  | .bi f ms,e=>inCl e fun ef es _=>bltB sg (biName f) ef && !Ha&&(match f with
      | .sset=>(in1 es fun e1=>Y5)
      | _=>qv)
  | .isi a ts,e=>inCl2 e fun ef ea et _=>bltB sg Ez ef&&i7 && !fH ea && !fH et&&(match ts with
      | [t]=>nz et==ā t&&gloB sg t&&sg.bl.contains t&&OP t
      | _=>ă)
  | .meth m a ms,e=>Y1 ea (n==mtName m&&i7&&(pN (nz ea)||pN (asBin ea))) ms.isEmpty
  | OU,e=>Y4 (c.ifs.isEmpty&&Y3) Y2
  | OT,e=>Y4 Y3 (in1 c.ifs fun ec=>Y2&&corE Ug ă cd ec)
  | .idx a b,e=>inCl1 e fun ef eb pos=>(inAttr ef fun ea n apos=>n == zb && i7&&pN (nz ea)&&Po==AG&&Ex && !fH eb)
  | .rng ms,e=>w&&(inCl e fun ef es _=>bltB sg kZ ef&&qv&&ě (sP<=3))
  | .enu a,e=>w&&(inCl1 e fun ef ea _=>bltB sg o8 ef&&i7 && !fH ea)
  | .itm a,e=>w&&(Y1 o (n == "items" && de a o) (pN (nz o)))
  | .dix a k,e=>Pm ea eb i7 k
  | .dgp i k,e=>Pm o ek (Ey o) k
  | .callv i xs ms,e=>inCl e fun ef es _=>(Ey ef)&&(xs.all fun p=>sg.fn[p.2]? == ā p.1) && !Ha&&qv
  | To,e=>sg.top&&(inCk e fun ef ea kn el=>Y0 ni lz)
  | KF,e=>inIf e fun ec ea eb=>de c ec&&i7&&Ex
  | .gdx b,e=>Pm ea eb (inName ea fun x=>x==gdN&&gloB sg x&&Lg) b
  | .zp a b,e=>w&&(inCl2 e fun ef ea eb _=>bltB sg "zip" ef&&i7&&Ex && !fH ea && !fH eb)
  | .mink a N np lb fr,e=>(sg.lp && !sg.top)&&(inCk e fun ef ea kn el=>Y0 "min" .free)
  | .self _ _ ms,e=>(sg.lp && !sg.top)&&(Uf e (x==ŭ) qv)
  | .dc2 x y a b,e=>inDc2 e fun ka kb ea eb=>HE ka aL&&HE kb (.str y)&&x != y&&i7&&Ex
def bW(sg:Sg):aw->ń û
  | [],[]=>true
  | m::ms,lG=>de m e && !fH e&&qv
  | _,_=>ă
end
mutual
def corS(sg:Sg):MS->ń Stmt
  | .set i _ e,s=>inAsg1 s fun t v pos=>(inName t fun x=>Lh i&&de e v&&(!isComp v||isCompM e))
  | .aug i e,s=>inAug s fun t o v _=>o == .Add&&(inName t fun x=>Lh i)&&de e v
  | .app i e,s=>Y6 "append"
  | .ext i e,s=>Y6 "extend"
  | Hg e,s=>inAsg1 s fun t v _=>(inSub t fun o ek=>(Ey o)&&de k ek && !BC ek&&de e v)
  | .exp e,s=>inExS s fun v _=>de e v && !isComp v
  | .ret e,s=>inRet1 s fun v _=>de e v
  | yS,s=>inIfS s fun ec ea eb _=>de c ec&&lL sg a ea&&lL sg b eb
  | Hf,s=>inFor1 s fun t i b _=>sg.lp&&tgOk sg tg t&&(HF true it i&&(!isZp it||Li t)) && !lK i&&lL sg body b
  | .wh c body,s=>inWh1 s fun t b _=>sg.lp&&de c t&&lL sg body b
  | .sep i,s=>inAsg1 s fun t v _=>(inName t fun x=>(inDc0 v (Lh i)))
  | .dpp i ks e,s=>inAsg1 s fun t v _=>(inSub t fun o ek=>(Ey o)&&(inTup ek fun es=>bW sg ks es)&&de e v && !isComp v)
  | .retd i,s=>inRet1 s fun v _=>(Ey v)
  | .unk,_=>true
  | .dfr _ _ _,_=>ă
def lL(sg:Sg):bI->ń ah
  | [],[]=>true
  | .dfr i fr es::ms,ss=>corDfr sg i fr ss (bW sg es)&&ms.isEmpty
  | m::ms,s::ss=>corS sg m s&&lL sg ms ss
  | _,_=>ă
end
def corClo(C:CloD)(fn bl cl:ĥ)(pr:dM)(bd:ah)(sc:ù)(cap:ĥ):Bool:=cloPs pr w6&&yw == on && !Dx && !Dw&&nodupB C.N&&ě (C.np+C.nc<=Bl)&&Ud &&
  (w6).all (fun x=>dB==dF)&&YZ&&(cap==Uh)&&cap.all (fun x=>dB==jz)&&sc.names.lookup ŭ==jz&&lL (Pp C.N true) C.body bd
universe L2
namespace L2
open PySem PySem.Spec PyProof.Rows
def LamFn(H:Hp)(q:Str)(params:dM)(body:Expr)(Ŋ:ù)(cl:gU)(f:Addr):Prop:=
  ∃c' oc u vs t pm ctv,Ï f (lM (PySem.W.kla_obj rA q params body Ŋ cl pm c' ctv) f)/\gJ c' oc u/\oc.data=bM vs/\Sh
def LamFn.mono(e:Ú c)(h:LamFn H q a body Ŋ cl f):LamFn c q a body Ŋ cl f:=by
  obtain⟨l,i,u,d,t,g,b,k,j,r⟩:=h;exact⟨l,i,u,d,t,g,b,iS k,iS j,r⟩
structure LamScope(N ps:ĥ)(sc:ù)(cl:gU)(l:ŀ):Prop where
  kind:yw=on
  co:Dx=ă
  gen:Dw=ă
  nd:N.Nodup
  pre:mK τ=ps
  par:Ui
  nocell:Pq
  fre:∀i x,τ<=i->mw N->dB=jz
  has:∀x,dB=jz->∃c,yE
  inj:Y7
  mem:∀x c,yE->c∈l
def LamCs(H:Hp)(N:ĥ)(np:Nat)(cl:gU)(l:ŀ)(ws:İ):Prop:=gQ=np+lI/\(Lj (aN=lz v)) /\
  Y9 N np Y8
def LamCs.mono(e:Ú d)(h:LamCs H N np cl l ws):LamCs d N np cl l ws:=
  ⟨h.1,fun c f=>by obtain⟨o,v,b,a⟩:=h.2.1 c f;exact⟨o,v,iS b,a⟩,fun i x v j g=>by obtain⟨c,o,u,b,a,r⟩:=h.2.2 i x v j g;exact⟨c,o,u,b,iS a,r⟩⟩
noncomputable def corLam(m:LamD)(params:dM)(body:Expr)(Ŋ:ù):Bool:=lamPs params HG&&corE ⟨m.N,bH,m.fn,m.bl,m.cl,ă,ă,noCo⟩ ă m.body body
def bind_lam(h:lamPs c ps=true)(d:e.length=τ):HH (PySem.W.kla_fn rA q c b sc cl pm cd g) e=GQ e:=by
  revert d;refine lamPs_el h (ν x y z w d) (ν a x y f d)
  · obtain⟨u,v,rfl⟩:∃u v,e=[u,v]:=by
      cases e with
      | nil=>cases d
      | cons u r=>cases r with
        | nil=>cases d
        | cons v r=>cases r with
          | nil=>exact(f9 u v)
          | cons _ _=>cases d
    rfl
  · obtain⟨u,rfl⟩:∃u,e=[u]:=by
      cases e with
      | nil=>cases d
      | cons u r=>cases r with
        | nil=>exact(bn u)
        | cons _ _=>cases d
    simp only[i6,qo,qm]at f;rcases f with z | z | z<;>(subst z;rfl)
structure Dm where
  K:į
  mg:Τ
abbrev Cx.D(X:Cx):Dm:=⟨X.K,X.mg⟩
def SqS(K:į)(H:Hp)(a:Addr)(xs:İ):Prop:=(∃o,gJ a o k6) \/
  Xc
def SqS.sq{K:į}(h:SqS K H a xs):yk:=by
  rcases h with h | h
  · exact ď (ė h)
  · exact ė h
def SqS.of{K:į}(b:Only H)(h:yk):SqS K H a xs:=by
  rcases h with(h | h) | h
  · rcases b a with z | z
    · rw[h]at z;cases z
    · rcases z with⟨o,ys,z⟩ | ⟨q,z⟩<;>(rw[h]at z;cases z)
  · exact ď h
  · exact ė h
def Same.sqs{K:į}(e:Ú b)(h:SqS K H a xs):SqS K b a xs:=by
  rcases h with⟨o,h⟩ | h
  · exact ď ⟨o,iS h⟩
  · exact ė h
def dKey:Key->DKey
  | ď i=>.i i
  | ė x=>.s x
def mutO:ń HO
  | pL=>true
  | .dK _=>true
  | .dT _=>true
  | _=>ă
mutual
def Rep(D:Dm)(H:Hp):DV->Œ V
  | .non,v=>v=.non
  | .bl b,v=>v=.bl b
  | ĳ,v=>v=ĳ
  | aL,v=>v=aL/\Ù eQ
  | Κ,v=>oz xs (rM D.K) zc
  | ŋ,v=>oz xs (ox a) zc
  | Eb,v=>Y_ kvs (kvs.map (fun p=>dKey p.1)) (kvs.map u8) (kvs.map Uj)
  | .fn x,v=>∃f,v=bE/\D.mg x=pX
  | dQ,v=>Y' bd sc ws l
  | iX,v=>∃a,v=Ī/\SqS D.K H a A4
def RepL(D:Dm)(H:Hp):Ĩ->Œ İ
  | [],xs=>xs=[]
  | d::ds,xs=>∃v vs,xs=v::vs/\aT H/\cC ds vs
end
def Same.tseq{K:į}(e:Ú b)(h:rM K):SqT K b a xs:=by
  rcases h with(h | ⟨o,h⟩) | h
  · exact yj (iS h)
  · exact ď (oH o (iS h))
  · exact ė h
mutual
theorem BJ{D:Dm}{H H':Hp}(e:mS):∀{d:DV} {v:V},aT H->aT H'
  | .non,_,h=>gn
  | .bl _,_,h=>gn
  | dL,_,h=>gn
  | .str _,_,h=>gn
  | Κ,_,h=>Ll Rep a xs (e.tseq e2) (Lk e3)
  | ŋ,_,h=>Ll Rep a xs (iS e2) (Lk e3)
  | yL,_,h=>by
    unfold Rep at h ⊢;rcases h with⟨a,o,kvs,e1,e2,e3,e4⟩ | ⟨a,o,kvs,e1,e2,e3,e4⟩
    · exact ď Za
    · exact ė Za
  | .fn _,_,h=>gn
  | dQ,_,h=>by unfold Rep at h ⊢;obtain⟨f,pr,bd,sc,q,cl,l,ws,e1,e2,e3,e4,e5,e6⟩:=h;exact⟨f,pr,bd,sc,q,cl,l,ws,e1,e2.mono e,e3,e4,Lk e5,e6.mono e⟩
  | .scr _,_,h=>by unfold Rep at h ⊢;obtain⟨a,e1,e2⟩:=h;exact⟨a,e1,e.sqs e2⟩
theorem RepL.mono{D:Dm}{H H':Hp}(e:mS):Ps zc (ij H' ds xs)
  | [],_,h=>Lm RepL
  | d::ds,_,h=>Ll RepL v vs (BJ e e2) (Lk e3)
end
def rep_int:vc ĳ↔v=ĳ:=w_
def rep_bl:vc (.bl i)↔v=.bl i:=w_
def rep_str:vc sx↔(v=sx/\Ù i.length):=w_
def rep_non{D:Dm}{H:Hp}{v:V}:vc .non↔v=.non:=w_
def rep_tup:vc Κ↔oz b (SqT D.K H a b) (cC ds b):=w_
def rep_lst:vc ŋ↔Uk (cC ds b):=w_
def rep_lam:vc dQ↔Y' c a b l:=w_
def rep_fn:vc (.fn x)↔∃f,v=bE/\D.mg x=pX:=w_
def rep_scr:vc (.scr b)↔∃a,v=Ī/\SqS D.K H a Hy:=w_
def rep_dct:vc Eb↔(Y_ b (b.map (fun p=>dKey p.1)) (b.map u8) (b.map Uj)):=w_
def repL_nil:cC [] a↔a=[]:=by unfold RepL;exact Iff.rfl
def repL_cons:cC (d::ds) xs↔∃v a,xs=v::a/\aT H/\cC ds a:=by
  constructor
  · intro h;exact h
  · intro h;exact h
theorem RepL.length:∀{a:Ĩ} {xs:İ},cC a xs->Ä=bR
  | [],_,h=>bQ (xa h)
  | d::a,_,h=>by obtain⟨v,vs,c,_,b⟩:=o9 h;rw[c,ť,ť,RepL.length b]
theorem RepL.get:∀{ds:Ĩ} {xs:İ} {i:Nat} {d:DV},zc->ĭ ds d->∃v,ĭ xs v/\aT H
  | [],_,_,_,_,e=>og e
  | d::ds,_,i,d',h,e=>by
    obtain⟨v,vs,c,b,a⟩:=o9 h;subst c;cases i with
    | zero=>simp at e;subst e;exact(Á v b)
    | succ i=>simpa using RepL.get a (Ķ e)
theorem RepL.append:∀{a es:Ĩ} {xs ys:İ},cC a xs->cC es ys->cC (a++es) (xs++ys)
  | [],_,_,_,h,b=>by rwa [xa h]
  | d::a,_,_,_,h,b=>Pt vs f e c v e (RepL.append c b)
def RepL.one(h:aT H):cC [d] [v]:=ze v [] h vd
theorem RepL.take:Ul (a.take n) (xs.take n)
  | _,_,0,_=>vd
  | [],_,n+1,h=>Ą (xa h) vd
  | d::a,_,n+1,h=>Pt vs e c b v c (RepL.take n b)
theorem RepL.drop:Ul (a.drop n) (xs.drop n)
  | _,_,0,h=>h
  | [],_,n+1,h=>Ą (xa h) vd
  | d::a,_,n+1,h=>by obtain⟨v,vs,c,e2,b⟩:=o9 h;subst c;exact RepL.drop n b
theorem RepL.set(q:aT H):Ul (a.set n d) (xs.set n v)
  | [],_,n,h=>Ą (xa h) vd
  | _::a,_,0,h=>Pt f c e b _ q b
  | _::a,_,n+1,h=>Pt f c e b _ e (RepL.set q n b)
theorem repL_ints:∀(a:Ď),cC (a.map ŕ) (a.map lJ)
  | []=>vd
  | n::a=>ze _ _ BK (repL_ints a)
def wo(O:ŀ)(H:Hp):Hp:=fun b=>ĩ (b∈O) none (H b)
def wo_in(h:b∈O):wo O H b=none:=ĉ h
def η(h:b∉O):wo O H b=H b:=ĝ h
def cD(h:wo O H b=ē):b∉O/\H b=ē:=by
  by_cases a:b∈O
  · rw[wo_in a]at h;cases h
  · rw[η a]at h;exact⟨a,h⟩
theorem Same.wo{O:ŀ}{H H':Hp}(e:mS):Same (wo O H) (wo O H'):=fun b o h=>by
  obtain⟨hb,h⟩:=cD h;rw[η hb];exact e b o h
def wo_le:Same bX H:=fun b o h=>(cD h).2
def qw(h:mv a O):Same bX (aU a):=fun b o e=>by
  obtain⟨c,e⟩:=cD e
  rwa [cF (c (h b z))]
def jZ(h:iR):Ú (aq p o):=fun b u q=>by rwa [sn q h]
structure Hid(O W:ŀ)(H0 H:Hp):Prop where
  ot:∀a∈O++W,H0 a≠none
  same:Same H0 H
  wl:Ln W (H0 a)
  dj:∀a∈W,a∉O
  om:Ln O (H0 a)
def Hdn(O:ŀ)(H:Hp):Prop:=Ln O (H a)
def Hdn.ne(h:Hdn O H):∀a∈O,H a≠none:=fun a b q=>by obtain⟨o,e,_⟩:=h a b;rw[q]at e;cases e
def Hid.omS(h:eW b)(e:Same b c):Hdn O c:=fun a d=>vZ o q m (h.om a d) (iS q) m
def Hid.omW(h:eW b)(c:p∈W):Hdn O (upd b p x):=fun a d=>by
  obtain⟨o,q,m⟩:=h.om a d;exact⟨o,Ą (È fun z=>h.dj p c fz) q,m⟩
def Hid.hdO(h:eW a):Hdn O H:=h.omS h.same
def Hid.hdA(h:eW c):Hdn qx H:=fun a b=>by
  rcases gL b with z | z
  · exact h.hdO a z
  · obtain⟨o,q,m⟩:=h.wl a z;exact⟨o,h.same _ _ q,m⟩
def Hid.mono(h:eW a)(e:Ú b):Hid O W a b:=⟨h.ot,h.same.trans e,h.wl,h.dj,h.om⟩
def Hid.newOut(h:eW b)(a:iR):p∉O++W:=fun z=>h.ot p z (h.same.free a)
mutual
theorem Rep.immut{D:Dm}{O W:ŀ}{H:Hp}(hw:Ln W (H a)):∀{d:DV} {v:V},d.immut=true->aT bX->aT aH
  | .non,_,_,h=>gn
  | .bl _,_,_,h=>gn
  | dL,_,_,h=>gn
  | .str _,_,_,h=>gn
  | Κ,_,m,h=>by
    unfold Rep at h ⊢;obtain⟨a,xs,e1,e2,e3⟩:=h;have m':oQ ds=true:=Zd
    refine⟨a,xs,e1,?_,Lo hw m' e3⟩;rcases e2 with(h | ⟨o,h⟩) | h
    · obtain⟨ha,h⟩:=cD h
      refine yj ?_;rw[cF ?_]
      · exact h
      · rcases gL z with z | z
        · exact ha z
        · obtain⟨ys,q,m⟩:=hw a z;rw[h]at q;cases q;cases m
    · obtain⟨ha,h⟩:=cD h
      refine ď (ė (au o));rw[cF ?_]
      · exact h
      · rcases gL z with z | z
        · exact ha z
        · obtain⟨ys,q,m⟩:=hw a z;rw[h]at q;cases q;cases m
    · exact ė h
  | ŋ,_,m,_=>xc DV.immut m
  | Eb,_,m,h=>by
    have m':oQ vs=true:=Zd
    have ou:∀{a:Addr} {o:Obj} {u:HO},aU O a=ā (.frz o u)->nB H a=ā (.frz o u):=fun {a o u} e=>by
      obtain⟨ha,h⟩:=cD e;rw[cF ?_]
      · exact h
      · rcases gL z with z | z
        · exact ha z
        · obtain⟨ys,q,m⟩:=hw a z;rw[h]at q;cases q;cases m
    rcases HI h with⟨a,o,kvs,e1,e2,e3,e4⟩ | ⟨a,o,kvs,e1,e2,e3,e4⟩
    · exact rep_dct.mpr (ď Zc)
    · exact rep_dct.mpr (ė Zc)
  | .fn _,_,_,h=>gn
  | yI,_,m,_=>xc DV.immut m
  | iX,_,_,h=>by
    unfold Rep at h ⊢;obtain⟨a,e1,e2⟩:=h;refine(bx a e1);rcases e2 with⟨o,h⟩ | h
    · obtain⟨ha,h⟩:=cD h
      refine ď (au o);rw[cF ?_]
      · exact h
      · rcases gL z with z | z
        · exact ha z
        · obtain⟨ys,q,m⟩:=hw a z;rw[h]at q;cases q;cases m
    · exact ė h
theorem Lo{D:Dm}{O W:ŀ}{H:Hp}(hw:Ln W (H a)):Ps (oQ ds=true) (i8 bX->i8 aH)
  | [],_,_,h=>Lm RepL
  | d::ds,_,m,h=>Zb oQ (Rep.immut hw m.1 e2) (Lo hw m.2 e3)
end
def RepT(D:Dm)(W:ŀ)(Ht H:Hp)(d:DV)(v:V):Prop:=match d with
  | ŋ=>oz xs (a∈W) (Ht a=ā k6/\zc)
  | d=>aT H
theorem RepT.mono(k:Same g f)(e:Ú i)(h:RepT D W g H d v):RepT D W f i d v:=by
  cases d with
  | lst ds=>obtain⟨a,j,n,o,m,l⟩:=h;exact⟨a,j,n,o,fV m,l.mono e⟩
  | non=>exact i9
  | bl b=>exact i9
  | int b=>exact i9
  | str b=>exact i9
  | tup b=>exact i9
  | dct b c=>exact i9
  | fn b=>exact i9
  | lam b c=>exact i9
  | scr b=>exact i9
def RepT.rep(e:Ú f)(h:RepT D W f H d v):aT f:=by
  cases d with
  | lst ds=>obtain⟨a,g,k,e0,j,i⟩:=h;exact rep_lst.mpr ⟨a,g,k,j,i.mono e⟩
  | non=>exact i9
  | bl b=>exact i9
  | int b=>exact i9
  | str b=>exact i9
  | tup b=>exact i9
  | dct b c=>exact i9
  | fn b=>exact i9
  | lam b c=>exact i9
  | scr b=>exact i9
def Got(D:Dm)(O W:ŀ)(H0 H:Hp)(d:DV)(c:Cl)(v:V):Prop:=match c with
  | bp=>aT bX
  | .top=>RepT D W bX aH d v
  | Ē=>aT aH
  | ĵ=>Ze qx
section
variable {D:Dm} {O W:List Addr} {H0 H H':Hp} {d:DV} {ds:List DV} {c:Cl} {v:V}
def sub_l:mv O qx:=fun _ h=>fh h
theorem Got.mono(h:j9 d)(e:mS):HJ H0 H' d c v:=by
  cases c with
  | weak=>exact BJ e.wo h
  | top=>exact RepT.mono e.wo e.wo h
  | jM=>exact BJ e.wo h
  | jL=>
    obtain⟨p,a,k,j,i,g,f,b⟩:=h;exact⟨p,a,k,j,i,g,iS f,b.mono e.wo⟩
def Got.since(h:fI a d c v)(e:Same H0 a):j9 d:=by
  cases c with
  | weak=>exact h
  | top=>exact h
  | jM=>exact h
  | jL=>
    obtain⟨p,b,l,k,j,i,g,f⟩:=h;exact⟨p,b,l,k,j,e.free i,g,f⟩
def Got.strong(h:fI H0 d ĵ v)(c:dg):aT aH:=by
  obtain⟨p,a,ds,j,i,g,e4,f⟩:=h
  rw[i];exact rep_lst.mpr ⟨p,a,j,by rwa [BL (c.ot p z g)],f.mono (qw fun b e=>Ŕ e)⟩
theorem Got.weak(h:j9 d)(hd:dg):aT bX:=by
  cases c with
  | weak=>exact h
  | top=>exact RepT.rep HK h
  | jM=>exact BJ HK h
  | jL=>exact BJ HK (h.strong hd)
def Got.all(h:j9 d)(a:dg):aT H:=BJ wo_le (h.weak a)
theorem Got.stro(h:j9 d)(hd:dg)(g:L2.stro d c=true):aT aH:=by
  cases c with
  | jM=>exact h
  | jL=>exact h.strong hd
  | weak=>exact Zf
  | top=>exact Zf
def Got.items(h:j9 ŋ)(hd:dg)(f:qg c):oz xs (ox a) (i8 aH):=by
  cases c with
  | weak=>exact pY f
  | top=>
    obtain⟨a,xs,e,e0,d,b⟩:=h;exact Um
  | jM=>
    obtain⟨a,xs,e,d,b⟩:=xf h;exact Um
  | jL=>
    obtain⟨a,xs,e,d,b⟩:=xf (h.strong hd);exact Um
def Got.itemsT(h:j9 (ģ f))(hd:dg)(g:qg c):oz xs (rM D.K) (ij aH f xs):=by
  cases c with
  | weak=>exact pY g
  | top=>
    obtain⟨a,xs,e,b,d⟩:=sR (h);exact⟨a,xs,e,BM b,d⟩
  | jM=>
    obtain⟨a,xs,e,b,d⟩:=sR h;exact⟨a,xs,e,BM b,d⟩
  | jL=>
    obtain⟨p,xs,f,e,b,d,e4,e5⟩:=h;cases b
theorem Got.lst(h:j9 ŋ)(d:dg):Uk (ij bX ds b):=by
  obtain⟨a,b,g,f,e⟩:=xf (h.weak d);exact⟨a,b,g,HL f,e⟩
theorem Got.tup(h:j9 Κ)(d:dg):oz b (SqT D.K H a b) (ij bX ds b):=by
  obtain⟨a,b,g,f,e⟩:=sR (h.weak d);exact⟨a,b,g,BM f,e⟩
def itemHid(O W:ŀ):Cl->ŀ
  | bp=>O
  | _=>O++W
def Got.lstC(h:j9 ŋ)(hd:dg):Uk (EA b):=by
  cases c with
  | weak=>exact h.lst hd
  | top=>exact h.items hd dh
  | jM=>exact h.items hd dh
  | jL=>exact h.items hd dh
def Got.tupC(h:j9 Κ)(hd:dg):oz b (SqT D.K H a b) (EA b):=by
  cases c with
  | weak=>exact h.tup hd
  | top=>exact h.itemsT hd dh
  | jM=>exact h.itemsT hd dh
  | jL=>exact h.itemsT hd dh
theorem Got.item(h:aT (aU (zf c))):fI H0 d c.item v:=by
  cases c<;>exact h
def zg(a:c ≠ ĵ:=by intro z;cases z):fI H0 ĳ c ĳ:=by
  have q:∀H,Rep D H _ ĳ:=fun H=>BK
  cases c with
  | jL=>exact pY a
  | weak=>exact q bX
  | jM=>exact q aH
  | top=>exact q aH
def got_bl:fI H0 (.bl i) Ē (.bl i):=(rep_bl.mpr rfl:Rep D aH _ _)
def got_non:fI H0 .non Ē .non:=(rep_non.mpr rfl:Rep D aH .non .non)
theorem Got.int(h:j9 ĳ)(a:dg):v=ĳ:=nC (h.weak a)
theorem Got.bl(h:j9 (.bl i))(a:dg):v=.bl i:=EB (h.weak a)
theorem Got.str(h:j9 aL)(a:dg):v=aL/\Ù eQ:=Lq (h.weak a)
def zh(c:dg)(a:iR)(r:i8 aH):HM k6 ŋ ĵ:=by
  refine⟨p,xs,ds,rfl,rfl,c.same.free a,aM,r.mono (k_ o)⟩;obtain⟨hb,e⟩:=cD e
  rwa [η fz,sn e a]
def got_newW(b:dg)(a:iR)(r:i8 bX):HM k6 ŋ bp:=by
  exact rep_lst.mpr ⟨p,xs,rfl,Ą (BL (b.newOut a (fh z))) aM,Uo⟩
def got_newC(hd:dg)(a:iR)(r:EA xs):HM k6 ŋ D':=by
  cases c with
  | weak=>exact got_newW hd a r
  | top=>exact zh hd a r
  | jM=>exact zh hd a r
  | jL=>exact zh hd a r
def got_tup(b:dg)(a:iR)(r:i8 aH):HM rn Κ Ē:=
  Lr xs rfl (η (b.newOut a)) Uo
def got_tupW(b:dg)(a:iR)(r:i8 bX):HM rn Κ bp:=
  Lr xs rfl (cF (b.newOut a (fh z))) Uo
def got_tupC(hd:dg)(a:iR)(r:EA xs):HM rn Κ c.item:=by
  cases c with
  | weak=>exact got_tupW hd a r
  | top=>exact got_tup hd a r
  | jM=>exact got_tup hd a r
  | jL=>exact got_tup hd a r
universe E_
inductive GotL (D:Dm) (O W:ŀ) (H0 H:Hp):oP->Œ İ where
  | nil:GotL D O W H0 H [] []
  | cons {d:DV} {c:Cl} {v:V} {l:oP} {vs:İ}:j9 d->xg H0 l->GotL D O W H0 H ((d,c)::l) (v::vs)
def GotL.repL(h:xg H0 l)(b:dg):ij bX eM vs:=by
  induction h with
  | nil=>exact vd
  | cons h _ a=>exact ze _ _ (h.weak b) a
theorem GotL.stros(h:xg H0 l)(b:dg)(hs:L2.stros l=true):ij aH eM vs:=by
  induction h with
  | nil=>exact vd
  | cons h _ a=>
    unfold L2.stros at hs;rw[List.all_cons,Ĉ]at hs;exact ze _ _ (h.stro b hs.1) (a hs.2)
theorem GotL.length(h:xg H0 l):aP=Ň:=by
  induction h with
  | nil=>rfl
  | cons _ _ a=>rw[ť,ť,a]
theorem GotL.strong(h:xg H0 l)(b:dg)(hs:yO):ij aH eM vs:=by
  refine h.stros b ?_;unfold L2.stros;rw[qt]at hs ⊢;intro p a;have:=hs p a;unfold L2.stro;cases e:p.2<;>rw[e]at this<;>first | rfl | cases this
def GotL.one(h:xg H0 [(d,c)]):∃v,vs=[v]/\j9 d:=by
  cases h with
  | cons h t=>cases t;exact(Á _ h)
def GotL.two(h:xg H0 [(d,c),(b,f)]):∃v a,vs=[v,a]/\j9 d/\fI H0 b f a:=by
  cases h with
  | cons h t=>obtain⟨a,e,g⟩:=t.one;subst e;exact⟨_,_,rfl,h,g⟩
def GotL.three(h:xg a [(d,c),(i,l),(g,j)]):∃v f b,vs=[v,f,b]/\fI a d c v/\fI a i l f/\fI a g j b:=by
  cases h with
  | cons h t=>obtain⟨f,b,e,n,m⟩:=t.two;subst e;exact⟨_,_,_,rfl,h,n,m⟩
def oeD(L:uQ):DV:=.dct (i_ (Bg p.1.1 p.1.2)) (i_ BN)
def oeK(L:uQ):kY:=i_ ([ď p.1.1,ď p.1.2],BN)
def dicO:ń HO
  | .dK _=>true
  | .dT _=>true
  | _=>ă
def OdOk(d:DV)(_:Addr)(o:HO):Prop:=∃L,d=ģ [oeD L]/\o=.dT (oeK L)
def OdOk.dic(h:OdOk d a o):dicO o=true:=Zg
def OdOk.mut(h:OdOk d a o):mutO o=true:=Zg
def OdAt(H:Hp)(σ:St)(δ:Ĕ)(W:ŀ):Prop:=∀(i:Nat) d,dY (.od d)->(∃a o,OdOk d a o/\t_ Ī/\a∈W/\Ar)/\∀(j:Nat) d',Į δ j (.od d')->j=i
def OdAt.step(h:OdAt H σ δ W)(hδ:Up c b)(r:∀a∈W,(∃o,Ar/\dicO o=true)->a∈l)(v:∀a o,a∈W->Ar->dicO o=true->m a=ē):OdAt m b c l:=fun i d q=>by
  obtain⟨p,n⟩:=hδ i d q;obtain⟨⟨a,L,e,e1,g,f⟩,u⟩:=h i d p;exact⟨⟨a,L,e,by rwa [n],r a g ⟨_,f,e.dic⟩,v a _ g f e.dic⟩,fun j k z=>u j k (hδ j k z).1⟩
def od_set{σ:St}{δ:Ĕ}(x:ĕ V)(c:∀d,X ≠ .od d):Up (eT X) (σ.set i x):=fun j d h=>by
  have b:j≠i:=fun z=>by
    subst z;have a:j<Hc:=Ls
    rw[rD a]at h;exact c d (eC h)
  rw[Uq b.symm]at h ⊢;exact(bn h)
def od_set0{σ:St}{δ:Ĕ}(a:∀d,X ≠ .od d):Up (eT X) σ:=fun j d h=>bn (od_set (σ:=σ) none a j d h).1
structure RSt(D:Dm)(H:Hp)(σ:St)(δ:Ĕ)(O W:ŀ):Prop where
  val:∀(i:Nat) d,dY dP->∃v,t_ v/\aT aH
  own:∀(i:Nat) d,dY (.own d)->∃a xs ds,d=ŋ/\t_ Ī/\a∈W/\ox a/\i8 aH
  inj:∀(i j:Nat) a d d',dY (.own d)->Į δ j (.own d')->t_ Ī->Į σ j (ā Ī)->i=j
  od:OdAt H σ δ W
  len:Gq=Hc
  hid:eW H
def Hid.later(h:eW H)(e:Ú c):Hid O W c c:=⟨fun a b q=>h.ot a b (e.free q),fy _,fun a b=>vZ d q m (h.wl a b) (iS q) m,h.dj,h.omS e⟩
theorem RSt.mono(R:gq)(e:Ú g):nE g σ δ where
  val:=fun i d h=>vZ v c b (zi d h) c (b.mono e.wo)
  own:=fun i f h=>by obtain⟨a,k,f,o,c,b,n,m⟩:=BO f h;exact⟨a,k,f,o,c,b,iS n,m.mono e.wo⟩
  inj:=R.inj
  od:=HN (fun j d h=>bn h) h a l _ (iS h)
  len:=R.len
  hid:=R.hid.later e
def Post(D:Dm)(O W:ŀ)(H0 H:Hp)(Q:VK):Œ Re
  | Lu=>EC H' (HJ H0 H' d c v)
def dE(D:Dm)(δ:Ĕ)(r:Re):TE:=ŷ σ (∃O W,gq/\Lv H H)
def PostA(D:Dm)(O W:ŀ)(H0 H:Hp)(Q:İ->cj):Œ Rs
  | .ok l=>∀vs H',mS->GotL D O W H0 H' l vs->Q vs H'
def dA(D:Dm)(δ:Ĕ)(r:Rs):TA:=ŷ σ (∃O W,gq/\PostA D O W H H Q r)
def PostT(D:Dm)(H:Hp)(Q:GA):Œ Rt
  | .ok b=>∀H',mS->Q b H'
def dT(D:Dm)(δ:Ĕ)(r:Rt):TT:=ŷ σ (∃O W,gq/\PostT D H Q r)
def Post.step(h:Lv b H)(e:Ú a):Lv b a:=by
  cases r with
  | ok d c=>exact fun v f s g=>h v f (e.trans s) g
def Post.later(h:Lv b H)(e:Ú a)(f:Same b a):Lv a a:=by
  cases r with
  | ok d c=>exact fun v i s g=>h v i (e.trans s) (g.since f)
theorem GotL.since(h:xg a l)(e:Same b a):xg b l:=by
  induction h with
  | nil=>exact .nil
  | cons g _ c=>exact Ξ (g.since e) c
def PostT.later(h:PostT D H Q r)(e:Ú a):PostT D a Q r:=by
  cases r with
  | ok b=>exact fun c s=>h c (e.trans s)
def PE.weak(h:bC t)(k:Ur):bC t':=Lw b a Q a H Q
def PT.weak(h:PT X e t)(k:Ur):PT X e t':=Lw b a Q a H Q
def PW.weak(h:PW X e t)(k:∀b H Q,t' b H Q->t b H Q):PW X e t':=fun a c s b H Q I q=>h a c s b H Q I (k b H Q q)
def PA.weak(h:PA X e t)(k:Ur):PA X e t':=fun c b s a H Q I q=>h c b s a H Q I (k a H Q q)
def PS.weak(h:PS X e t)(k:∀D a H,t' D a H->t D a H):PS X e t':=Lw b a D D a H
def PSs.weak(h:mB e t)(k:∀D a H,t' D a H->t D a H):mB e t':=Lw b a D D a H
def pw_none:PW X e rO:=ym _ h h.elim
def pt_none:PT X e rO:=lq _ _ h.elim
def pe_none:bC rO:=lq _ _ h.elim
def ED(h:n<=ÿ):Ù n:=Ç h
def snd_un(g:∀j,PE X a j->bC (tUn r j))(m:Ì f a)(h:Χ f k=Ś)
    (l:∀O W i H x Q d cx (σ:St),k d cx=Ś->eW i->BP i d cx x->HP i c->r x H Q):bC (qy c):=by
  cases b:f with
  | none=>rw[b]at h;cases h
  | some q=>
    rw[b]at h;have A:=m q b;cases q with
    | ok d cx=>
      exact(g _ A).weak (nF σ x o n (l O W H o x Q d cx σ h Δ n (p.step s1)))
def op_parts{k:DV->Cl->DV->Cl->Ŝ}(v:Ì m a)(u:Ì l b)
    (h:(eU m cx (Χ l fun y cy=>k x cx y cy))=ā e)
    (s:Zh j i g (ā e) e) :
    ∃o n,PE X a o/\PE X b n/\Pv e (tOp r o n σ H Q):=by
  cases d:m with
  | none=>rw[d]at h;cases h
  | some q=>
    rw[d]at h;have A:=v q d;cases q with
    | ok i cx=>
      have f:=h;cases c:l with
      | none=>rw[c]at f;cases f
      | some q=>
        rw[c]at f;have B:=u q c;cases q with
        | ok g cy=>
          exact⟨_,_,A,B,fun σ H Q eY=>⟨O,W,R,fun x H1 s1 z=>⟨O,W,eX,fun y C s2 w=>
            s O W H C x y Q i cx g cy σ f ve (z.mono s2) (w.since s1) (p.step o_)⟩⟩⟩
def snd_op{k:DV->Cl->DV->Cl->Ŝ}(i:∀g f,PE X a g->PE X b f->bC (tOp r g f))(s:Ì l a)(p:Ì j b)
    (h:(eU l cx (Χ j fun y cy=>k x cx y cy))=Ś)
    (o:Zh d n m Ś c):bC (qy c):=by
  obtain⟨g,f,A,B,q⟩:=op_parts s p h o;exact(i _ _ A B).weak q
def snd_args(d:∀t,PA X es t->bC (tCB r t))(i:lN c es)(h:mV c k=lD)
    (g:∀O W f H vs Q l (σ:St),k l=lD->eW f->GotL X.D O W f H l vs->HP f b->r vs H Q):bC (qy b):=by
  cases a:c with
  | none=>rw[a]at h;cases h
  | some q=>
    rw[a]at h;have A:=i q a;cases q with
    | ok l=>
      exact(d _ A).weak (nF σ vs m j (g O W H m vs Q l σ h Δ j (p.step s1)))
def snd_var{i:Nat}(g:ow)(hv:Gr)(hd:mz)(c:SC)
    (h:varE ω = Ü):ik (bA pos) r:=
  (pe_var g hv hd c).weak fun σ H Q eY=>by
    unfold varE at h;split at h
    · rename_i d q
      cases h;obtain⟨v,e,b⟩:=zi d q;exact⟨v,e,p v H (fy H) b⟩
    · rename_i d q
      cases h;obtain⟨a,f,ds,l,e,b,k,j⟩:=BO d q;subst l;refine⟨Ī,e,EF ⟨a,f,rfl,b,?_,j⟩⟩;rw[η (R.hid.dj a b)];exact k
    · cases h
def snd_int:ik (yi ĳ) (Ψ i):=pe_int.weak (EG zj)
def snd_bl:ik (yi (fg i)) (fC i):=pe_bl.weak (EG HQ)
def snd_str(h:Ù i.length):ik (yi sx) (dU sx):=pe_str.weak (EG (EF (rep_str.mpr (bG h):ja aH _ _)))
def snd_non:ik (yi Ĺ) (.ok .non Ē):=pe_non.weak (EG (EF got_non))
section
variable {X:Cx} {δ:List Sv} {a b c e:Expr} {pos:Pos} {ra rb:Option Re} {re:Re}
def rI_of{a:Hp}(b:eW a)(e:fI a ĳ h x)(d:fI a Ζ f y)(c:C i j)(q:Q rV H):rI C g x y H Q:=
  ⟨i,j,e.int b,d.int b,c,q⟩
def rI0_of{a:Hp}{e:Cl}(b:eW a)(d:fI a ĳ f x)(c:fI a Ζ e y)(q:Q rV H):rI0 g x y H Q:=
  ⟨i,j,d.int b,c.int b,q⟩
def anew_of{b a:Cl}(h:qg b)(c:qg a):Cl.anew b a=ĵ:=by
  cases b<;>cases a<;>first | rfl | exact pY h | exact pY c
def CMulB(i j:Int):Prop:=CMul i j\/(i.natAbs<2^2000/\j.natAbs<2^2000)
def bits_le(h:i.natAbs<2^n):HR i<=n:=by
  unfold HR;by_cases a:i=0
  · subst a;exact Nat.zero_le n
  · rw[ĝ fz]
    have:=fun z=>a (Int.natAbs_eq_zero.mp z)
    exact(Nat.log2_lt this).mpr h
theorem CMulB.ok(h:CMulB i j):IntMulOk i j:=by
  rcases h with h | ⟨h1,h2⟩
  · exact h.ok
  · unfold IntMulOk
    have b1:=bits_le h1;have b2:=bits_le h2;have:Builtin.Int.intTooBig ((HR i:Int)+(HR j:Int))=ă:=by
      unfold Builtin.Int.intTooBig;rw[dt];have:ı bitsLine=134217728:=Β
      omega
    rw[this,Pe];exact BA
def op_mulB:pV .Mult (rI CMulB (Dt (i*j))):=opI fun _ _ _ _ _ _ _ a q=>mul_int q a.ok
def op_fdivB:pV .FloorDiv (GK (0<j/\j<2^200) (i/j)):=opI fun i j _ _ _ _ _ a q=>by
  have h1:=a.1;have b:j.natAbs<2^200:=fq a.2
  refine floordiv_int Ă (Ą (Int.fdiv_eq_ediv_of_nonneg i Ă) q) (ď (PyProof.noPylong_of_log2 ?_));exact ce (Pw b) đ
def binR(X:Cx):rQ->R2
  | .Add=>lu (um (i+j) x y H Q\/rCat x y H Q)
  | .Sub=>um (i - j)
  | .Mult=>rI CMulB (Dt (i*j))
  | .Mod=>lu (GK (0<j) (i%j) x y H Q)
  | .FloorDiv=>GK (0<j/\j<2^200) (i/j)
  | .LShift=>rI CPow (Dt (i*AQ))
  | .RShift=>GK (0<=j) (i/AQ)
  | rX=>um (rW i j)
  | .BitOr=>um (JZ i j)
  | .BitXor=>um (J1 i j)
  | _=>pM _ cM
def op_bin:pV op (binR X op):=by
  cases op with
  | Add=>exact op_add.or op_cat
  | Sub=>exact op_sub
  | Mult=>exact op_mulB
  | Mod=>exact op_mod
  | FloorDiv=>exact op_fdivB
  | LShift=>exact op_shl
  | RShift=>exact op_shr
  | BitAnd=>exact op_and
  | BitOr=>exact op_or
  | BitXor=>exact op_xor
  | MatMult=>exact Us
  | Div=>exact Us
  | Pow=>exact Us
def Lx(h:asI d=eJ):d=ĳ:=by cases d<;>cases h;rfl
def asL_eq(h:asL d=eJ):d=.lst i:=by cases d<;>cases h;rfl
def bin_ok{O W:ŀ}{H0 H:Hp}{op:rQ}{x y:V}{dx dy:DV}{cx cy:Cl}{Q:VK}(h:binD op dx dy cx cy=Ó)(hd:dg)(gx:BP H0 dx cx x)(gy:BP H0 dy cy y)
    (p:HP H0 re):binR X op x y H Q:=by
  unfold binD at h;cases op
  case Add=>
    dsimp only at h;split at h
    · rename_i x1
      replace h:=di
      obtain⟨x2,e2,h⟩:=h;have e2:=pc;subst e2;cases h;exact ď Ly
    · rename_i xs
      replace h:=di
      obtain⟨ys,e2,h⟩:=h;have e2:=asL_eq e2;subst e2;split at h
      · rename_i m
        cases h;by_cases hw:qg cx/\qg cy
        · obtain⟨l1,v1,e1,k1,r1⟩:=gx.items hd hw.1
          obtain⟨l2,v2,e2,k2,r2⟩:=gy.items hd hw.2;refine ė Zi;rw[anew_of hw.1 hw.2];exact zh hd hq (r1.append r2)
        · obtain⟨l1,v1,e1,k1,r1⟩:=gx.lst hd
          obtain⟨l2,v2,e2,k2,r2⟩:=gy.lst hd;refine ė Zi;have:Cl.anew cx cy=bp:=(by cases cx<;>cases cy<;>first | rfl | exact ĸ ⟨dh,dh⟩ hw);rw[this];exact got_newW hd hq (r1.append r2)
      · cases h
    · cases h
  case Sub=>
    dsimp only at h
    replace h:=di
    obtain⟨x1,e1,h⟩:=h
    replace h:=di
    obtain⟨x2,e2,h⟩:=h;have e1:=sU;have e2:=pc;subst e1 e2;cases h;exact Ly
  case Mult=>
    dsimp only at h;split at h
    · rename_i x1
      replace h:=di
      obtain⟨x2,e2,h⟩:=h;have e2:=pc;subst e2;split at h
      · rename_i m
        cases h;refine Lz ?_;unfold mulOk at m;simp only[gc,Ĉ,ak]at m;exact m
      · cases h
    · cases h
  case Mod=>
    dsimp only at h
    replace h:=di
    obtain⟨x1,e1,h⟩:=h
    replace h:=di
    obtain⟨x2,e2,h⟩:=h;have e1:=sU;have e2:=pc;subst e1 e2;split at h
    · rename_i m;cases h;exact Lz m
    · cases h
  case FloorDiv=>
    dsimp only at h
    replace h:=di
    obtain⟨x1,e1,h⟩:=h
    replace h:=di
    obtain⟨x2,e2,h⟩:=h;have e1:=sU;have e2:=pc;subst e1 e2;split at h
    · rename_i m;cases h;exact Lz m
    · cases h
  case LShift=>
    dsimp only at h
    replace h:=di
    obtain⟨x1,e1,h⟩:=h
    replace h:=di
    obtain⟨x2,e2,h⟩:=h;have e1:=sU;have e2:=pc;subst e1 e2;split at h
    · rename_i m;cases h;exact Lz m
    · cases h
  case RShift=>
    dsimp only at h
    replace h:=di
    obtain⟨x1,e1,h⟩:=h
    replace h:=di
    obtain⟨x2,e2,h⟩:=h;have e1:=sU;have e2:=pc;subst e1 e2;split at h
    · rename_i m;cases h;exact Lz m
    · cases h
  case BitOr=>
    dsimp only at h
    replace h:=di
    obtain⟨x1,e1,h⟩:=h
    replace h:=di
    obtain⟨x2,e2,h⟩:=h;have e1:=sU;have e2:=pc;subst e1 e2;cases h;exact Ly
  case BitXor=>
    dsimp only at h
    replace h:=di
    obtain⟨x1,e1,h⟩:=h
    replace h:=di
    obtain⟨x2,e2,h⟩:=h;have e1:=sU;have e2:=pc;subst e1 e2;cases h;exact Ly
  case BitAnd=>
    dsimp only at h
    replace h:=di
    obtain⟨x1,e1,h⟩:=h
    replace h:=di
    obtain⟨x2,e2,h⟩:=h;have e1:=sU;have e2:=pc;subst e1 e2;cases h;exact Ly
  all_goals (dsimp only at h;cases h)
def snd_bin(f:sV)(e:vf)(h:(eU ra d (pd fun y c=>binD op x y d c))=Ó):j_ (.BinOp a op b pos):=
  snd_op (fun _ _=>pe_op op_bin) f e h fun O W H0 H x y Q dx d dy c σ k hd i g p=>bin_ok k hd i g p
def snd_neg(b:sV)(h:(eU ra _ Yy)=Ó):j_ (GC .USub):=
  snd_un (ş (pe_un un_neg)) b h fun O W H0 H x Q dx cx σ k hd c p=>by
    split at k
    · cases k;exact⟨_,c.int hd,zj⟩
    · cases k
def atD_eq:atD ds i=L2.atI ds i:=rfl
theorem RepL.atI(h:zc)(e:atD ds i=ā d):∃v,L2.atI xs i=dw/\aT H:=by
  rw[atD_eq]at e;unfold L2.atI at e ⊢;rw[h.length];cases q:ixN œ i with
  | none=>rw[q]at e;cases e
  | some j=>
    rw[q]at e;exact h.get e
def ix_ok(h:(ļ (ixD A w) d (jS d cx.item))=Ó)(hd:eW k)(s:BP k A cx x)(r:BP k w cy y)
    (p:HP k re):rIx X.K x y H Q:=by
  obtain⟨d,e,F⟩:=Θ h;cases F;unfold ixD at e;split at e
  · rename_i c i
    obtain⟨a,g,f⟩:=HU (s.all hd);obtain⟨n,E,C⟩:=Θ e;cases C;have q:L2.atI (c.map lJ) i=ā (.int n):=by
      unfold L2.atI;rw[ċ];have b:((ixN ie i).bind fun j=>c[j]?)=ā n:=E;cases z:ixN ie i with
      | none=>rw[z]at b;cases b
      | some j=>
        rw[z]at b;have B:Į c j n:=b;show(c.map lJ)[j]? = _;rw[ō,B];rfl
    refine ď ⟨a,_,i,_,g,r.int hd,f.sq,q,EF ?_⟩;cases cx<;>exact zg
  · obtain⟨a,l,g,f,u⟩:=s.lstC hd
    obtain⟨v,o,m⟩:=u.atI e;exact ď (Zj (gO f))
  · obtain⟨a,l,g,f,u⟩:=s.tupC hd
    obtain⟨v,o,m⟩:=u.atI e;exact mD (Zj f)
  · cases e
def snd_ix(g:sV)(f:vf)(e:BC b=ă)(h:(eU ra c (pd fun y _=>oT (ixD x y) d d c.item))=Ó):j_ (iM a b pos):=
  snd_op (fun _ _ j i=>pe_ix ix_seq j i (by cases b<;>first | (intro _ _;rfl) | cases e)) g f h fun O W H0 H x y Q dx c dy cy σ k hd m l p=>ix_ok k hd m l p
def slIx_eq(n d:Nat)(o:iP):slIx n d o=r9 n d o:=BQ o
def RepL.cut(h:zc)(a b:iP):cC (cutD ds a b) (cutV xs a b):=by
  unfold cutD cutV;rw[slIx_eq,slIx_eq,←h.length];exact(h.drop _).take _
def sl_ok{b c:iP}(h:(ļ (slD f b c) d (jS d (slCl f cx)))=Ó)(hd:eW g)(k:BP g f cx x)
    (p:HP g re):rSlL X.K x b c H Q:=by
  obtain⟨d,h1,h2⟩:=Θ h;cases h2;unfold slD at h1;split at h1
  · cases h1
    obtain⟨a,j,n,m,l⟩:=k.lstC hd;exact⟨a,j,n,gO m,fun q i=>HV i (got_newC hd i (l.cut b c))⟩
  · cases h1
def sl_any:SlR X (fun x a b H Q=>rSlL X.K x a b H Q):=sl_list
def po_int(h:PE X b (qy (Px i cl))):PO X lD (ŷ d (∃O W,RSt X.D H d δ O W/\∀c,Ú c->Q eJ c)):=fun a s d H Q I eY=>
  po_some h a s d H Q I ⟨O,W,R,fun v c s1 g=>⟨i,g.int Δ,p c s1⟩⟩
def snd_slf(j:sV)(i:vf)(h:(Χ ra fun x g=>pd fun l _=>match l with
    | .int l=>Hb (ā l) none g | _=>none)=Ó):Uu lD none:=by
  cases e:ra with
  | none=>rw[e]at h;cases h
  | some q=>
    rw[e]at h;have A:=j q e;cases q with
    | ok n g=>
      cases c:rb with
      | none=>rw[c]at h;cases h
      | some q=>
        rw[c]at h;have B:=i q c;cases q with
        | ok m cy=>
          have f:(Ut m l _ none _)=Ó:=h;split at f
          · rename_i l
            exact Zk (po_int B) po_none
          · cases f
def snd_slt(j:sV)(i:vf)(h:(Χ ra fun x g=>pd fun l _=>match l with
    | .int l=>Hb none (ā l) g | _=>none)=Ó):Uu none lD:=by
  cases e:ra with
  | none=>rw[e]at h;cases h
  | some q=>
    rw[e]at h;have A:=j q e;cases q with
    | ok n g=>
      cases c:rb with
      | none=>rw[c]at h;cases h
      | some q=>
        rw[c]at h;have B:=i q c;cases q with
        | ok m cy=>
          have f:(Ut m l none _ _)=Ó:=h;split at f
          · rename_i l
            exact Zk po_none (po_int B)
          · cases f
def snd_sl(v:sV)(s:vf)(r:Ì j c)(h:(Χ ra fun x o=>pd fun l _=>match l with
    | .int l=>Χ j fun u _=>(match u with
      | .int u=>Hb (ā l) Ö o | _=>none) | _=>none)=Ó):Uu lD Ś:=by
  cases g:ra with
  | none=>rw[g]at h;cases h
  | some q=>
    rw[g]at h;have A:=v q g;cases q with
    | ok n o=>
      cases f:rb with
      | none=>rw[f]at h;cases h
      | some q=>
        rw[f]at h;have B:=s q f;cases q with
        | ok z cy=>
          have i:(Pz z (.int l) (Χ j fun u _=>(match u with | .int u=>ļ (slD n (ā l) Ö) d (jS d _) | _=>none)) _ none)=Ó:=h;split at i
          · rename_i l
            cases e:j with
            | none=>rw[e]at i;cases i
            | some q=>
              rw[e]at i;have C:=r q e;cases q with
              | ok y cz=>
                have m:(Ut y u (ā l) Ö (slCl n o))=Ó:=i;split at m
                · rename_i u
                  exact(pe_slice sl_any A (po_int B) (po_int C)).weak (nF σ x H1 w (sW (fun H2 s2=>⟨O,W,Py,fun H3 k=>sl_ok m ((ve).mono k) ((w.mono s2).mono k) (p.step (s1.trans (zk k)))⟩)))
                · cases m
          · cases i
universe E_
def got_str(h:Ù z.length):fI a (.str z) Ē (.str z):=(rep_str.mpr (bG h):Rep D aH _ _)
mutual
def toP:DV->PyData
  | .non=>Ĺ | .bl b=>fg b | ĳ=>ĳ | aL=>aL
  | Κ=>.tuple sX | ŋ=>.list sX
  | _=>Ĺ
def toPs:Ĩ->Ĳ PyData
  | []=>[]
  | d::r=>toP d::toPs r
end
mutual
theorem deq_eqv:∀(n m:Nat) (d e:DV),d.plain n=true->e.plain m=true->aR (toP d) (toP e)=deq d e
  | n,m,.non,e,_,h=>Uw
  | n,m,.bl _,e,_,h=>Uw
  | n,m,dL,e,_,h=>Uw
  | n,m,aL,e,_,h=>by
    cases e with
    | str y=>simp only[toP,aR,deq];rfl
    | non=>simp only[toP,aR,deq]
    | bl _=>simp only[toP,aR,deq]
    | int _=>simp only[toP,aR,deq]
    | tup _=>simp only[toP,aR,deq]
    | lst _=>simp only[toP,aR,deq]
    | dct _ _=>cases m<;>simp[bJ]at h
    | fn _=>cases m<;>simp[bJ]at h
    | lam _ _=>cases m<;>simp[bJ]at h
    | scr _=>cases m<;>simp[bJ]at h
  | 0,_,ģ _,_,h,_=>HW h
  | 0,_,pL,_,h,_=>HW h
  | n+1,m,Κ,e,h,h'=>by
    cases e with
    | tup es=>
      cases m with
      | zero=>simp[bJ]at h'
      | succ m=>
        simp only[toP,aR,deq];exact Zl
    | non=>simp only[toP,aR,deq]
    | bl _=>simp only[toP,aR,deq]
    | int _=>simp only[toP,aR,deq]
    | str _=>simp only[toP,aR,deq]
    | lst _=>simp only[toP,aR,deq]
    | dct _ _=>cases m<;>simp[bJ]at h'
    | fn _=>cases m<;>simp[bJ]at h'
    | lam _ _=>cases m<;>simp[bJ]at h'
    | scr _=>cases m<;>simp[bJ]at h'
  | n+1,m,ŋ,e,h,h'=>by
    cases e with
    | lst es=>
      cases m with
      | zero=>simp[bJ]at h'
      | succ m=>
        simp only[toP,aR,deq];exact Zl
    | non=>simp only[toP,aR,deq]
    | bl _=>simp only[toP,aR,deq]
    | int _=>simp only[toP,aR,deq]
    | str _=>simp only[toP,aR,deq]
    | tup _=>simp only[toP,aR,deq]
    | dct _ _=>cases m<;>simp[bJ]at h'
    | fn _=>cases m<;>simp[bJ]at h'
    | lam _ _=>cases m<;>simp[bJ]at h'
    | scr _=>cases m<;>simp[bJ]at h'
  | n,_,yL,_,h,_=>sY
  | n,_,.fn _,_,h,_=>sY
  | n,_,yI,_,h,_=>sY
  | n,_,.scr _,_,h,_=>sY
theorem deqs_eqv:∀(n m:Nat) (ds es:Ĩ),zm n->gf m es=true->PyData.eqvAll sX (toPs es)=deqs ds es
  | _,_,[],[],_,_=>Uv
  | _,_,[],_::_,_,_=>Uv
  | _,_,_::_,[],_,_=>Uv
  | n,m,d::ds,lG,h,h'=>by simp only[gf,Ĉ]at h h';simp only[toPs,PyData.eqvAll,deqs,deq_eqv n m d e h.1 h'.1,deqs_eqv n m ds es h.2 h'.2]
end
mutual
theorem toP_lay:∀(n:Nat) (d:DV),d.plain n=true->(toP d).canLay0=true/\(toP d).depth<=n
  | n,.non,_=>Ux
  | n,.bl _,_=>Ux
  | n,dL,_=>Ux
  | n,aL,h=>by
    have h':ņ (x.cps.all (· < 0x110000)):=by cases n<;>simpa[bJ]using h
    simp only[toP,PyData.canLay0,PyData.depth];exact⟨h',cX⟩
  | 0,ģ _,h=>HW h
  | 0,pL,h=>HW h
  | n+1,Κ,h=>Zm
  | n+1,ŋ,h=>Zm
  | n,yL,h=>sY
  | n,.fn _,h=>sY
  | n,yI,h=>sY
  | n,.scr _,h=>sY
theorem toPs_lay:∀(n:Nat) (ds:Ĩ),zm n->G9 sX=true/\Kw sX<=n
  | _,[],_=>by simp[toPs,G9,Kw]
  | n,d::ds,h=>by simp only[gf,Ĉ]at h;have q:=toP_lay n d h.1;have q':=toPs_lay n ds h.2;simp only[toPs,G9,Kw,q.1,q'.1,Bool.and_self,true_and];have a:=q.2;have b:=q'.2;omega
end
section
variable {X:Cx} {pins:List (Addr×Obj)} {σ:St} {H:Hp} {s:Shared}
mutual
theorem reads_of(I:Ĥ):∀(n:Nat) {d:DV} {v:V} {u:Ě},d.plain n=true->zo X.D H->dv->∃as,Reads Ė u (toP d) as
  | _,.non,_,_,_,h,r=>Uy (HX h) Reads.none
  | _,.bl b,_,_,_,h,r=>Uy (EB h) (Reads.bool b)
  | _,ĳ,_,_,_,h,r=>by rw[nC h]at r;obtain⟨t,rfl⟩:=r;exact⟨_,Reads.int i t⟩
  | _,aL,_,_,_,h,r=>by rw[(Lq h).1]at r;obtain⟨t,rfl⟩:=r;exact⟨_,Reads.str x t⟩
  | 0,ģ _,_,_,p,_,_=>HW p
  | 0,pL,_,_,p,_,_=>HW p
  | n+1,Κ,_,_,p,h,r=>by obtain⟨a,xs,e1,e2,e3⟩:=sR h;rw[e1]at r;cases r;obtain⟨its,rv,⟨o,h1,h2,k,h3⟩,_⟩:=pR e2;obtain⟨as,q⟩:=readsL_of I n (EI p) e3 rv;rw[toP];exact⟨as,Reads.tuple h1 h2 h3 (Ķ q)⟩
  | n+1,ŋ,_,_,p,h,r=>by obtain⟨a,xs,e1,e2,e3⟩:=xf h;rw[e1]at r;cases r;obtain⟨_,its,k,rv,_,h1⟩:=I.lstM e2;obtain⟨as,q⟩:=readsL_of I n (EI p) e3 rv;rw[toP];exact⟨_,Reads.list h1 rfl rfl (Ķ q)⟩
  | n,yL,_,_,h,_,_=>sY
  | n,.fn _,_,_,h,_,_=>sY
  | n,yI,_,_,h,_,_=>sY
  | n,.scr _,_,_,h,_,_=>sY
theorem readsL_of(I:Ĥ):∀(n:Nat) {ds:Ĩ} {vs:İ} {us:ŉ},zm n->EH H ds vs->ub->∃as,ReadsAll Ė us sX as
  | _,[],_,_,_,h,r=>Uy (xa h) ReadsAll.nil
  | n,d::ds,_,_,p,h,r=>by
    simp only[gf,Ĉ]at p;obtain⟨v,vs,e1,e2,e3⟩:=o9 h;subst e1;cases r with
    | cons r1 r2=>
      obtain⟨as,q⟩:=zn n p.1 e2 r1;obtain⟨bs,q'⟩:=readsL_of I n p.2 e3 r2;rw[toPs];exact⟨_,ReadsAll.cons q q'⟩
end
def shaped_of(h:d.plain 60=true):SeqAt.shaped (toP d)=true:=by
  have q:=toP_lay 60 d h;unfold SeqAt.shaped;rw[q.1,qz];exact þ (Ç q.2)
universe E_
section
variable {X:Cx} {δ:List Sv} {a b c e:Expr} {pos:Pos} {ra rb rc:Option Re} {re:Re}
def cmpR(X:Cx)(op:jy):R2:=lu (∃dx dy k,cmpD op dx dy=ā k/\ja H dx x/\ja H dy y/\AR k)
def asB_eq(h:asB d=eJ):d=.bl i:=by cases d<;>first | (cases h;rfl) | cases h
def isN_dv(r:aT H):ě (v=.non)=isN d:=by
  cases d with
  | non=>rw[HX r];rfl
  | bl _=>rw[EB r];rfl
  | int _=>rw[nC r];rfl
  | str _=>rw[(Lq r).1];rfl
  | tup _=>obtain⟨a,c,e,_⟩:=sR r;rw[e];rfl
  | lst _=>obtain⟨a,c,e,_⟩:=xf r;rw[e];rfl
  | fn _=>obtain⟨a,e,_⟩:=rep_fn.mp r;rw[e];rfl
  | lam _ _=>obtain⟨a,_,_,_,_,_,_,_,e,_⟩:=rep_lam.mp r;rw[e];rfl
  | scr _=>obtain⟨a,e,_⟩:=HU r;rw[e];rfl
  | dct _ _=>rcases HI r with⟨a,o,b,e,_⟩ | ⟨a,o,b,e,_⟩<;>rw[e]<;>rfl
def op_cmp{op:jy}(hu:lO 64):wj op (cmpR X op):=by
  intro pins s σ H x y v u Q I rx ry h;obtain⟨dx,dy,k,hk,r1,r2,q⟩:=h;have fin:∀{k':Bool},k'=k->mx (fg k') s:=fun {k'} e=>⟨.bl k',H,I,rfl,Ą e q⟩
  unfold cmpD at hk;cases op
  case Lt=>
    dsimp only at hk
    replace hk:=nG hk
    obtain⟨x1,e1,hk⟩:=hk
    replace hk:=nG hk
    obtain⟨x2,e2,hk⟩:=hk;have e1:=sU;have e2:=pc;subst e1 e2;cases hk;exact op_lt pins s σ H x y v u Q I rx ry PB
  case LtE=>
    dsimp only at hk
    replace hk:=nG hk
    obtain⟨x1,e1,hk⟩:=hk
    replace hk:=nG hk
    obtain⟨x2,e2,hk⟩:=hk;have e1:=sU;have e2:=pc;subst e1 e2;cases hk;exact op_le pins s σ H x y v u Q I rx ry PB
  case Gt=>
    dsimp only at hk
    replace hk:=nG hk
    obtain⟨x1,e1,hk⟩:=hk
    replace hk:=nG hk
    obtain⟨x2,e2,hk⟩:=hk;have e1:=sU;have e2:=pc;subst e1 e2;cases hk;exact op_gt pins s σ H x y v u Q I rx ry PB
  case Eq=>
    dsimp only at hk;split at hk
    · rename_i p
      rw[Ĉ]at p;cases hk;obtain⟨as,q1⟩:=zn 60 p.1 r1 rx;obtain⟨bs,q2⟩:=zn 60 p.2 r2 ry;exact eq_dataH q1 q2 (shaped_of p.1) (shaped_of p.2) hu (fin (deq_eqv 60 60 _ _ p.1 p.2))
    · cases hk
  case NotEq=>
    dsimp only at hk;split at hk
    · rename_i p
      rw[Ĉ]at p;cases hk;obtain⟨as,q1⟩:=zn 60 p.1 r1 rx;obtain⟨bs,q2⟩:=zn 60 p.2 r2 ry;exact ne_dataH q1 q2 (shaped_of p.1) (shaped_of p.2) hu (fin (ų (deq_eqv 60 60 _ _ p.1 p.2)))
    · cases hk
  case GtE=>
    dsimp only at hk
    replace hk:=nG hk
    obtain⟨x1,e1,hk⟩:=hk
    replace hk:=nG hk
    obtain⟨x2,e2,hk⟩:=hk;have e1:=sU;have e2:=pc;subst e1 e2;cases hk;exact op_ge pins s σ H x y v u Q I rx ry PB
  case IsNot=>
    dsimp only at hk;split at hk
    · cases hk;exact op_notN pins s σ H x y v u Q I rx ry ⟨HX r2,Ą (isN_dv r1) q⟩
    · cases hk
  case Is=>
    dsimp only at hk;split at hk
    · cases hk;exact op_isN pins s σ H x y v u Q I rx ry ⟨HX r2,Ą (isN_dv r1) q⟩
    · rename_i j
      replace hk:=nG hk
      obtain⟨i,e1,hk⟩:=hk;have e1:=asB_eq e1;subst e1;cases hk;obtain rfl:=EB r1;obtain rfl:=EB r2;cases(ž (v=Value.bool i) rx);cases ry;exact PySem.wpAny_is_plain rfl (fin (by cases i<;>cases j<;>rfl))
    · cases hk
  all_goals (cases hk)
def nomark_of(h:lK b=ă):SM=ă:=by
  cases b<;>first | rfl | cases h
def snd_cmp(d:lO 64)(g:sV)(f:vf)(e:lK b=ă)
    (h:PD=Ó):j_ N1:=
  snd_op (fun _ _ j i=>pe_cmpR (op_cmp d) j i (nomark_of e)) g f h fun O W H0 H x y Q s cx r cy σ k hd m l p=>by obtain⟨c,o,n⟩:=Θ k;cases n;exact⟨s,r,c,o,m.all hd,l.all hd,HQ⟩
def cmp_parts(g:sV)(f:vf)
    (h:PD=Ó):∃d c,PE X a d/\PE X b c/\Pv re (tOp (cmpR X op) d c σ H Q):=
  op_parts g f h fun O W H0 H x y Q o cx n cy σ k hd j i p=>by obtain⟨e,m,l⟩:=Θ k;cases l;exact⟨o,n,e,m,j.all hd,i.all hd,HQ⟩
def tst_dE(b:∀d c,re=Lu->∃k,d=.bl k)(h:tstD Ó=Ü)(q:EJ r σ H Q):qy re σ H (fun x a=>∃k,x=.bl k/\Q k a):=by
  obtain⟨O,W,R,p⟩:=q;cases re with
  | ok d c=>
    obtain⟨k,rfl⟩:=b d c rfl;cases h;exact⟨O,W,R,fun v a s g=>⟨k,g.bl (LB s),p a s⟩⟩
def cmp_bl(h:PD=Ó):∀d c,re=Lu->∃k,d=.bl k:=by
  intro d c e;subst e;cases ra with
  | none=>cases h
  | some q=>
    cases q with
    | ok d c=>
      cases rb with
      | none=>cases h
      | some q=>
        cases q with
        | ok d' c'=>
          obtain⟨k,_,e⟩:=Θ (h);cases e;exact(bn k)
def snd_tcmp(d:lO 64)(g:sV)(f:vf)(e:lK b=ă)
    (h:tstD PD=Ü):EK N1 r:=by
  cases q:(eU ra _ (pd fun y _=>ļ Ed k (ke _)))with
  | none=>rw[q]at h;cases h
  | some re=>
    rw[q]at h;obtain⟨ta,tb,A,B,w⟩:=cmp_parts g f q;exact(pt_cmpR (op_cmp d) A B (nomark_of e)).weak fun c H Q z=>w c H _ (tst_dE (cmp_bl q) h z)
def lastMarks_of{a:jy}(h:lK c=ă):SO a=ă:=by
  show behindInMarks a c=ă;exact nomark_of h
def chain_parts{e:jy}(I:sV)(F:vf)(E:Ì rc c)
    (h:(Χ ra fun x _=>pd fun y _=>match Ed with
      | none=>none
      | oR=>ā (fC ă)
      | cV=>Χ rc (Ec z e y))=Ó):∃w v u,PE X a w/\PE X b v/\PE X c u/\(Pv re (tChain (cmpR X op) (cmpR X e) w v u σ H Q))/\∀d cl,re=.ok d cl->∃k,d=.bl k:=by
  cases i:ra with
  | none=>rw[i]at h;cases h
  | some q=>
    rw[i]at h;have A:=I q i;cases q with
    | ok s cx=>
      cases g:rb with
      | none=>rw[g]at h;cases h
      | some q=>
        rw[g]at h;have B:=F q g;cases q with
        | ok l cy=>
          have j:(match(generalizing:=false) cmpD op s l with
            | none=>none
            | oR=>ā (ke AS)
            | cV=>Χ rc (Ec z e l))=Ó:=h
          split at j
          · cases j
          · rename_i r
            cases j;exact⟨_,_,_,A,B,pe_none,fun σ H Q eY=>⟨O,W,R,fun x P s1 o=>⟨O,W,eX,fun y N s2 n=>
              ⟨s,l,ă,r,(o.mono s2).all ve,n.all EM,ă,rfl,Ą oA (p _ _ o_ got_bl)⟩⟩⟩,fun d cl z=>EL z av⟩
          · rename_i r
            cases f:rc with
            | none=>rw[f]at j;cases j
            | some q=>
              rw[f]at j;have C:=E q f;cases q with
              | ok M cz=>
                obtain⟨k,L,K⟩:=Θ (j);cases K;exact⟨_,_,_,A,B,C,fun σ H Q eY=>⟨O,W,R,fun x P s1 o=>⟨O,W,eX,fun y N s2 n=>
                  ⟨s,l,true,r,(o.mono s2).all ve,n.all EM,true,rfl,by
                    rw[js];exact⟨O,W,Py,fun z H3 m J=>⟨l,M,k,L,(n.mono m).all ((EM).mono m),J.all ((Py).hid.mono m),p _ _ (s1.trans (zk m)) got_bl⟩⟩⟩⟩⟩,fun d cl z=>EL z av⟩
def snd_chain(e:lO 64)(j:sV)(i:vf)(g:Ì rc c)(f:lK c=ă)
    (h:(Χ ra fun x _=>pd fun y _=>match Ed with
      | none=>none
      | oR=>ā (fC ă)
      | cV=>Χ rc (Ec z d y))=Ó):j_ (N3 d):=by
  obtain⟨ta,tb,tc,A,B,C,w,_⟩:=chain_parts j i g h;exact(pe_chain (op_cmp e) (op_cmp e) A B C (lastMarks_of f)).weak w
def snd_tchain(f:lO 64)(m:sV)(l:vf)(j:Ì rc c)(i:lK c=ă)
    (h:tstD (Χ ra fun x _=>pd fun y _=>match Ed with
      | none=>none
      | oR=>ā (fC ă)
      | cV=>Χ rc (Ec z d y))=Ü):EK (N3 d) r:=by
  cases q:(Χ ra fun x _=>pd fun y _=>match Ed with
      | none=>none
      | oR=>μ
      | cV=>Χ rc fun z _=>oT (cmpD d y z) k _ Ē)with
  | none=>rw[q]at h;cases h
  | some re=>
    rw[q]at h;obtain⟨ta,tb,tc,A,B,C,w,e⟩:=chain_parts m l j q;exact(pt_chain (op_cmp f) (op_cmp f) A B C (lastMarks_of i)).weak fun g H Q z=>w g H _ (tst_dE e h z)
universe E_
def tru_dv(h:truth d=ā k)(r:aT H):TruV D.K v H k:=by
  cases d with
  | non=>cases h;rw[HX r];rfl
  | bl b=>cases h;rw[EB r];rfl
  | int i=>cases h;rw[nC r];rfl
  | str x=>
    cases h;obtain⟨f,e⟩:=Lq r;rw[f];refine(au e);show(x.cps.size != 0)=(ı x.cps.size != 0);cases x.cps.size with
    | zero=>rfl
    | succ n=>simp only[bne,Nat.add_eq_zero_iff];rw[sM];simp;omega
  | tup j=>
    cases h;obtain⟨a,c,f,e,g⟩:=sR r;rw[f];refine mD (bx c e);have:=g.length;cases c<;>cases j<;>first | rfl | cases this
  | lst j=>
    cases h;obtain⟨a,c,f,e,g⟩:=xf r;rw[f];refine ď (bx c (gO e));have:=g.length;cases c<;>cases j<;>first | rfl | cases this
  | dct _ _=>cases h
  | fn _=>cases h
  | lam _ _=>cases h
  | scr _=>cases h
def snd_truth(g:Ì c e)(f:N5 a e ū e.pos)(h:tstD c=Ü):EK e r:=by
  cases b:c with
  | none=>rw[b]at h;cases h
  | some q=>
    rw[b]at h;have A:=g q b;cases q with
    | ok d cl=>
      obtain⟨k,l,j⟩:=Θ (h);cases j;exact(pt_truth A f).weak (nF σ x m i ⟨k,tru_dv l (i.all Δ),p m s1⟩)
def pe_notT(j:PE X a f):PE X (GC .Not) (tUn (ŷ x (J2 H (AR (!k)))) f):=by
  intro c s e H Q I h;refine UnaryOp_ (Æ (j c s e H _ I h) v s1 t0);obtain⟨x,g,o,i,d⟩:=t0;obtain⟨k,t,d⟩:=d;exact not_of (thn (Uz c g q o i) fun b s2 ⟨p,n,m,l⟩=>by
    subst m l;exact⟨.bl (!b),p,n,rfl,d⟩)
def snd_not(e:Ì d a)(h:(eU d _ Tp)=Ś):ik (GC .Not) c:=
  snd_un (ş pe_notT) e h fun O W H0 H x Q dx cx σ k hd f p=>by obtain⟨b,i,g⟩:=Θ k;cases g;exact⟨b,tru_dv i (f.all hd),HQ⟩
def pe_andT(q:PE X a j)(p:PE X (rK .And (b::es)) i):PE X (rK .And HY) (ŷ e (j e H fun x f=>J2 f (ue k (i e f Q) (Q x f)))):=by
  intro d s e H Q I h;refine BoolOp_and (Æ (q d s e H _ I h) v s1 t0);obtain⟨x,f,w,l,g⟩:=t0;obtain⟨k,t,g⟩:=g;refine Æ (Uz d f y w l) c o t0;obtain⟨n,m,u,r⟩:=t0
  subst u r;cases c with
  | true=>exact p d o e n Q m g
  | ă=>exact⟨x,n,m,l,g⟩
def pe_orT(p:PE X a i)(o:PE X (rK .Or (b::es)) tb):PE X (rK .Or HY) (ŷ e (i e H fun x f=>J2 f (ue k (Q x f) (tb e f Q)))):=by
  intro d s e H Q I h;refine BoolOp_or (Æ (p d s e H _ I h) v s1 t0);obtain⟨x,f,u,j,g⟩:=t0;obtain⟨k,t,g⟩:=g;refine Æ (Uz d f w u j) c n t0;obtain⟨m,l,r,q⟩:=t0
  subst r q;cases c with
  | ă=>exact o d n e m Q l g
  | true=>exact⟨x,m,l,j,g⟩
def snd_and(o:Ì k a)(n:Ì j (rK .And (b::es)))(h:(eU k c (andD x c j))=ā g):ik (rK .And HY) g:=by
  cases e:k with
  | none=>rw[e]at h;cases h
  | some q=>
    rw[e]at h;have A:=o q e;cases q with
    | ok d cl=>
      have f:andD d cl j=ā g:=h;unfold andD at f;split at f
      · cases f
      · rename_i t
        exact(pe_andT A (n g f)).weak (PF true (iteT (sW (BR s1))))
      · rename_i t
        cases f;exact(pe_andT A pe_none).weak (PF ă (iteF (qA l i)))
def snd_or(o:Ì k a)(n:Ì j (rK .Or (b::es)))(h:(eU k c (orD x c j))=ā g):ik (rK .Or HY) g:=by
  cases e:k with
  | none=>rw[e]at h;cases h
  | some q=>
    rw[e]at h;have A:=o q e;cases q with
    | ok d cl=>
      have f:orD d cl j=ā g:=h;unfold orD at f;split at f
      · cases f
      · rename_i t
        cases f;exact(pe_orT A pe_none).weak (PF true (iteT (qA l i)))
      · rename_i t
        exact(pe_orT A (n g f)).weak (PF ă (iteF (sW (BR s1))))
def tst_thn(h:tstD (Χ b k)=Ü):∃d c,b=uJ/\tstD (k d c)=Ü:=by
  cases a:b with
  | none=>rw[a]at h;cases h
  | some q=>
    rw[a]at h;cases q with
    | ok d c=>exact⟨d,c,rfl,h⟩
def tst_ok(h:tstD uJ=Ü):∃k,truth d=ā k/\r=.ok k:=by
  obtain⟨k,b,a⟩:=Θ (h);exact⟨k,b,a.symm⟩
def snd_tnot(f:BS (tstD e) a)(h:tstD (eU e _ Tp)=Ü):EK (GC .Not) r:=by
  obtain⟨d,c,g,b⟩:=tst_thn h
  · cases t:truth d with
    | none=>rw[t]at b;cases b
    | some k=>
      rw[t]at b;cases b;have A:=f _ (UA g);exact zq (pt_not A) σ i (p i s1)
def snd_tand(n:BS (tstD i) a)(m:Zn .And)(h:tstD (eU i c (andD x c g))=Ü):uf .And HY (EJ r):=by
  obtain⟨d,c,o,e⟩:=tst_thn h
  · unfold andD at e
    cases t:truth d with
    | none=>rw[t]at e;cases e
    | some k=>
      rw[t]at e;have A:=n _ (UA o);cases k with
      | true=>exact zq (pw_and A (m r e)) l j (iteT (sW BR))
      | ă=>
        obtain⟨k,f,rfl⟩:=tst_ok e;rw[t]at f;cases f;exact zq (pw_and A pw_none) l j (iteF (p j s1))
def snd_tor(n:BS (tstD i) a)(m:Zn .Or)(h:tstD (eU i c (orD x c g))=Ü):uf .Or HY (EJ r):=by
  obtain⟨d,c,o,e⟩:=tst_thn h
  · unfold orD at e
    cases t:truth d with
    | none=>rw[t]at e;cases e
    | some k=>
      rw[t]at e;have A:=n _ (UA o);cases k with
      | ă=>exact zq (pw_or A (m r e)) l j (iteF (sW BR))
      | true=>
        obtain⟨k,f,rfl⟩:=tst_ok e;rw[t]at f;cases f;exact zq (pw_or A pw_none) l j (iteT (p j s1))
def pt_ifExp(l:PT X c g)(n:PT X a t)(m:PT X b u):PT X (GD pos) (ŷ e (g e H fun k f=>ue k (t e f Q) (u e f Q))):=by
  intro d s e H Q I h;refine isTrue_IfExp (Æ (l d s e H _ I h) k s1 ⟨f,j,i⟩);cases k with
  | true=>exact n d s1 e f Q j i
  | ă=>exact m d s1 e f Q j i
def snd_tite(i:BS e c)(l:BS (tstD f) a)(j:BS (tstD rb) b)(h:tstD (Rt.thn e fun k=>ĩ k f rb)=Ü):EK (GD pos) r:=by
  cases d:e with
  | none=>rw[d]at h;cases h
  | some q=>
    rw[d]at h;have C:=i q d;cases q with
    | ok k=>
      cases k with
      | true=>exact zq (pt_ifExp C (l r h) pt_none) g m (iteT (sW BR))
      | ă=>exact zq (pt_ifExp C pt_none (j r h)) g m (iteF (sW BR))
def snd_ite(l:BS f c)(n:Ì rb a)(m:Ì i b)
    (h:(Rt.thn f fun k=>ĩ k rb i)=ā e):ik (GD pos) e:=by
  cases d:f with
  | none=>rw[d]at h;cases h
  | some q=>
    rw[d]at h;have C:=l q d;cases q with
    | ok k=>
      cases k with
      | true=>
        have g:=h;exact zq (pe_ifExp C (n e g) pe_none) j o (iteT (sW (BR s1)))
      | ă=>
        have g:=h;exact zq (pe_ifExp C pe_none (m e g)) j o (iteF (sW (BR s1)))
def Ω(h:gr):LC ai env=(ă,eval e env)::LC es env:=by
  cases e<;>first | rfl | cases h
def snd_anil{X:Cx}{δ:Ĕ}:EN [] (.ok []):=pa_nil.weak (EG (p [] H (fy H) .nil))
def snd_acons(i:gr)(k:Ì g e)(j:lN f es)
    (h:(Pz g none none uJ (Pz f none none uK (ā (.ok ((d,c)::l)))))=ā q):EN ai q:=by
  cases b:g with
  | none=>rw[b]at h;cases h
  | some z=>
    rw[b]at h;have A:=k z b;cases z with
    | ok d cl=>
      cases a:f with
      | none=>rw[a]at h;cases h
      | some y=>
        rw[a]at h;have B:=j y a;cases y with
        | ok l=>
          cases h;exact(wq A B (Ω i)).weak (nF σ x H1 n (sW (fun vs o s2 m=>p _ o o_ (Ξ (n.mono s2) (m.since s1)))))
def snd_lst(d:lN b es)(h:(OV b (.lst eM) ĵ)=Ś):ik (.List es pos) c:=
  snd_args (ş pe_lst) d h fun O W H0 H vs Q l σ k hd g p=>by
    split at k
    · rename_i m
      cases k;refine⟨Ą g.length (ED m),fun q a=>HV a ?_⟩;by_cases z:stros l=true
      · rw[ĉ z];exact zh hd a (g.stros hd z)
      · rw[ĝ z];exact got_newW hd a (g.repL hd)
    · cases k
def snd_tup(e:lN b es)(h:(OV b (ģ eM) Ē)=Ś):ik (.Tuple es d pos) c:=
  snd_args (ş pe_tup) e h fun O W H0 H vs Q l σ k hd g p=>by
    split at k
    · rename_i m
      cases k;refine⟨Ą g.length (ED m),fun q a=>HV a ?_⟩;by_cases z:stros l=true
      · rw[ĉ z];exact got_tup hd a (g.stros hd z)
      · rw[ĝ z];exact got_tupW hd a (g.repL hd)
    · cases k
theorem toPs_map:∀a:Ĩ,toPs a=a.map toP
  | []=>bQ toPs
  | d::r=>fA toPs (toPs_map r)
theorem find_at:∀{a:Ĩ} {j:Nat},findD y a=jF->∃h:j<bR,deq a[j] y=true/\∀m (b:m<bR),m<j->deq a[m] y=ă
  | [],j,h=>ζ
  | d::r,j,h=>by
    unfold findD at h;split at h
    · rename_i e
      cases h;exact⟨Nat.succ_pos _,e,fun m _ b=>ĸ b (vg _)⟩
    · rename_i e
      obtain⟨k,l,rfl⟩:=Θ h;obtain⟨f,i,g⟩:=find_at l;refine⟨Nat.succ_lt_succ f,i,Ğ m b c⟩;cases m with
      | zero=>exact Bool.eq_false_iff.mpr e
      | succ m=>exact g m _ (Nat.lt_of_succ_lt_succ c)
theorem plains_at:∀{ds:Ĩ} {m:Nat} (h:m<œ),zm n->(ds[m]).plain n=true
  | d::r,0,_,p=>by simp[gf,Ĉ]at p;exact p.1
  | d::r,m+1,h,p=>by simp[gf,Ĉ]at p;exact plains_at (ds:=r) _ p.2
section
variable {X:Cx} {pins:List (Addr×Obj)} {σ:St} {H:Hp} {s:Shared} {δ:List Sv} {o e:Expr} {to te:TE} {apos cpos:Pos} {ra rb:Option Re} {re:Re}
def find_eqv(p:y.plain 60=true)(q:zm 60)(h:findD y ds=jF) :
    ∃h:j<Ć sX,aR sX[j] (toP y)=true/\∀m (c:m<Ć sX),m<j->aR sX[m] (toP y)=ă:=by
  obtain⟨f,e,a⟩:=find_at h;have hl:Ć sX=œ:=ţ toPs_map ċ
  have d:∀m _ (a:m<œ),aR sX[m] _=deq ds[m] y:=fun m e a=>by
    rw[←deq_eqv 60 60 ds[m] y (plains_at a q) p]
    congr 1
    simp[toPs_map,OO]
  exact⟨Ę,Ţ (d j Ă f) e,fun m c b=>Ţ (d m c Ă) (a m Ă b)⟩
def wp_idxL(hu:lO 64)(I:Ĥ)(e:rP)(d:aZ y)(g:ja H ŋ x)(f:ja H a y)(p:a.plain 60=true)(q:zm 60)(hl:œ<=ÿ)
    (h:findD a ds=jF) (k:Q Ζ H):uh (pZ "list.index" [v,u]):=by
  obtain⟨as,i⟩:=zn 60 p f d;obtain⟨bs,b⟩:=zn 61 (EI q) g e;rw[toP]at b;have c:=toP_lay 60 _ p;have l3:=c.2;obtain⟨m,o,n⟩:=find_eqv p q h;have l:=(find_at h).1;exact SeqAt.index_list_reads b i (toPs_lay 60 ds q).1 c.1 Ă m (by have:ÿ=1000000:=rfl;omega) o n (yh Ζ k)
def wp_idxT(hu:lO 64)(I:Ĥ)(e:rP)(d:aZ y)(g:ja H Κ x)(f:ja H a y)(p:a.plain 60=true)(q:zm 60)
    (h:findD a ds=jF) (k:Q Ζ H):uh (pZ "tuple.index" [v,u]):=by
  obtain⟨as,i⟩:=zn 60 p f d;obtain⟨bs,b⟩:=zn 61 (EI q) g e;rw[toP]at b;have c:=toP_lay 60 _ p;have l3:=c.2;obtain⟨l,n,m⟩:=find_eqv p q h;exact SeqAt.index_tuple_reads b i (toPs_lay 60 ds q).1 c.1 Ă l n m (yh Ζ k)
def tIdx(X:Cx)(to te:TE):TE:=fun σ H Q=>to σ H fun x H1=>(∃ds,ja H1 ŋ x/\Zo ŋ (œ<=ÿ) (findD dy ds=jF/\Q Ζ H2)) \/
  (∃ds,ja H1 Κ x/\Zo Κ (findD dy ds=jF) (Q Ζ H2))
def pe_idx(M:lO 64)(Z:PE X o to)(N:bC te)(g:DG o zb=cn o)(f:Oh)(hs:mG [e]=[pU e]) :
    PE X (A2 o zb apos [e] cpos) (tIdx X to te):=by
  intro d s m H Q I h;refine wpAny_Call_method_late g (bQ hs) f rfl (Æ (Z d s m H _ I h) v s1 t0);obtain⟨x,O,l,F,i⟩:=t0;rcases i with⟨ds,C,i⟩ | ⟨ds,C,i⟩
  · obtain⟨a,P,w,r,e3⟩:=xf C
    subst w;cases(F);obtain⟨Y,_,J,_⟩:=l.list (gO r);refine⟨ý,"list.index",PySem.F.plainAttrs_list,PySem.F.slot_list_index,PySem.F.type_list_index,J.isList.typeIs,cQ q,?_⟩
    · cases q
      obtain⟨o,n,e,c,hd,_⟩:=J;exact(mO hd)
    · rw[hs]
      refine Zp ⟨y,H2,E,p,z,dy,j,B,A,p1,p2,p3,S,k⟩;exact wp_idxL M E (ž (RelV Ī _) rfl) p B A p1 p2 p3 S k
  · obtain⟨a,P,w,r,e3⟩:=sR C
    subst w;cases(F);obtain⟨K,L,W,U⟩:=l.tupleN r;refine⟨ad,"tuple.index",PySem.F.plainAttrs_tuple,PySem.F.slot_tuple_index,PySem.F.type_tuple_index,⟨K,L,W⟩,cQ q,?_⟩
    · cases q
      exact⟨K,L,U⟩
    · rw[hs]
      refine Zp ⟨y,H2,E,p,z,dy,j,B,A,p1,p2,p3,k⟩;exact wp_idxT M E (ž (RelV Ī _) rfl) p B A p1 p2 p3 k
def snd_idx(I:lO 64)(L:Ì ra o)(K:Ì rb e)(g:DG o zb=cn o)(f:Oh)(J:mG [e]=[pU e])
    (h:(eU ra _ (bU (seqB x) (pd fun y _=>ļ (idxD x y) d lE)))=Ó):j_ (A2 o zb apos [e] cpos):=by
  cases c:ra with
  | none=>rw[c]at h;cases h
  | some q=>
    rw[c]at h;have A:=L q c;cases q with
    | ok r cx=>
      have l:(bU (seqB r) (pd fun y _=>ļ (idxD r y) d (ke d)))=Ó:=h;have s:seqB r=true:=by
        cases z:seqB r with
        | true=>rfl
        | ă=>rw[z]at l;cases l
      rw[ĉ s]at l;have n:=l;cases b:rb with
      | none=>rw[b]at n;cases n
      | some q=>
        rw[b]at n;have B:=K q b;have C:=pe_idx I A B g f J;cases q with
        | ok E cy=>
          obtain⟨d,a,M⟩:=Θ n;subst M;unfold idxD at a;split at a
          · rename_i k
            split at a
            · rename_i m
              obtain⟨j,v,rfl⟩:=Θ a;rw[Ĉ,Ĉ,ak]at m;exact C.weak fun F H Q eY=>⟨O,W,R,fun x N s1 i=>.inl ⟨k,i.all Δ,O,W,eX,fun y w s2 u=>
                ⟨k,E,j,(i.mono s2).all ve,(u.since s1).all ve,m.1.1,m.1.2,m.2,v,p _ w o_ zg⟩⟩⟩
            · cases a
          · rename_i k
            split at a
            · rename_i m
              obtain⟨j,v,rfl⟩:=Θ a;rw[Ĉ,Ĉ,ak]at m;exact C.weak fun F H Q eY=>⟨O,W,R,fun x N s1 i=>.inr ⟨k,i.all Δ,O,W,eX,fun y w s2 u=>
                ⟨k,E,j,(i.mono s2).all ve,(u.since s1).all ve,m.1.1,m.1.2,v,p _ w o_ zg⟩⟩⟩
            · cases a
          · cases a
universe E_
def GotR(D:Dm)(O:ŀ)(H0 H:Hp)(d:DV)(fr:Bool)(v:V):Prop:=match fr with
  | ă=>aT bX
  | true=>Ze O
def spF(D:Dm)(n:Nat)(f:uM Ou):Sp:=fun vs H Q E=>∃O ds o,Hdn O H/\œ=n/\ij bX ds vs/\f ds=ē /\
  (match o with | .v d fr=>EC H' (GotR D O H H' d fr v))
def snd_callC{ps:ĥ}{j:rJ}(M:PJ)(C:∀q,n=ā q->EN U q->PE X S (ŷ σ (j σ H/\tCall LD [] E0 (dA X.D δ q) σ H Q)))(E:∀σ H O W,HZ X.D->j σ H)(I:lN n U)
    (h:(mZ n uS)=ā B):PE X S (qy B):=by
  cases c:n with
  | none=>rw[c]at h;cases h
  | some q=>
    rw[c]at h;have A:=I q c
    replace C:=C q c
    cases q with
    | ok l=>
      have r:uS=ā B:=h;unfold callD at r;split at r
      · cases r
      · rename_i d P i
        cases r;refine(C A).weak (EG ⟨E _ _ _ _ R,O,W,R,Ļ vs Z s1 N⟩)
        have hd:=Δ;show LD _ Z Q E0;rw[fv];by_cases z:yO
        · rw[ĉ z]at p
          refine⟨O++W,_,_,hd.hdA,M _ _ i,N.strong hd z,i,PH K ?_⟩;cases P with
          | ă=>exact g
          | true=>
            obtain⟨q,k,ds,i,J,x,w,u⟩:=g;exact⟨q,k,ds,i,J,s1.free x,w,u⟩
        · rw[ĝ z]at p
          refine⟨O,_,_,hd.hdO,M _ _ i,N.repL hd,i,PH K ?_⟩;cases P with
          | ă=>exact g
          | true=>
            obtain⟨q,k,ds,L,J,x,w,u⟩:=g;subst J;rw[qz];cases y:imL ŋ with
            | true=>exact⟨q,k,ds,L,rfl,s1.free x,w,Lo (fun a I=>vZ o e m (hd.wl a I) (s _ _ (hd.same _ _ e)) m) y u⟩
            | ă=>
              exact rep_lst.mpr ⟨q,k,L,Ą (BL (hd.ot q (fh z) (s1.free x))) w,u.mono (qw fun b Y=>Ŕ Y)⟩
def snd_call(fo:GS CX0 c LD)(n:PJ)(m:uu)(u:pQ)(r:AD=ā (Č c))(s:yv X.K c=true)
    (v:GR []) (w:lN d ai) (b:mz) (j:gr) (a:xh)
    (h:(mZ d uS)=ā g):ik (pf x ai) g:=by
  have plain:∀(es:û),xh->J4=ă:=by
    intro es
    induction es with
    | nil=>intro _;rfl
    | cons y ys i=>
      intro q;rw[lP,sZ]at q;rw[Ω q.1];show(ă||UB _)=ă;rw[i q.2];rfl
  exact snd_callC n (fun t _ z=>(pe_call fo m u r s v .nil pass0 z b (Ω j) (plain es a)).weak fun σ H Q h=>h.2) (fun _ _ _ _ _=>p5) w h
section
variable {X:Cx} {δ:List Sv} {e:Expr} {es:List Expr} {pos p:Pos} {re:Re} {rs:Option Rs}
theorem BU:∀(es:û),xh->UB (LC es env)=ă
  | [],_=>rfl
  | y::a,q=>by rw[lP,sZ]at q;rw[Ω q.1];show(ă||UB _)=ă;rw[BU a q.2];rfl
def pe_callv(fo:GS CX0 c j)(o:uu)(hv:ud p)(w:yv X.K c=true)(z:GR ds)(hd:Vals d ds)
    (A:yq t) (y:mG ai=GO:=by rfl) (f:J4=ă:=by rfl) :
    AW x (ŷ b (ĭ b (ā (Č c))/\tCall j d E0 t b H Q)):=by
  intro a s b H Q I h;obtain⟨B,h⟩:=h;refine AV (UC a b g (Č c) B ⟨v,g,C,r1,n,m⟩);subst n m;obtain rfl:u=gI c:=r1;refine PySem.W.callWith_K I.ok.mod.kin w (thn (A pos a s1 b g _ C h) fun us s2 ⟨vs,H2,l,r,q⟩=>au l.kIn) y f;exact run_fn fo o z hd pass0 l r q
def snd_callv(fo:GS CX0 b LD)(r:PJ)(n:uu)(hv:ud p)(s:X.mg y=ā wH)(u:yv X.K b=true)
    (z:GR []) (w:dY (ę (.fn y))) (A:lN rs ai) (m:gr) (a:xh)
    (h:(mZ rs uS)=Ó):j_ (pf x ai):=by
  refine snd_callC r (fun t _ B=>pe_callv fo n hv u z .nil B (Ω m) (BU es a)) (ν σ H O W R) A h;obtain⟨v,E,C⟩:=zi _ w;obtain⟨g,j,d⟩:=rep_fn.mp C;have c:X.mg y=μ:=d;rw[s]at c;cases c;rw[E,j]
def biR(X:Cx)(k:uL):İ->pP:=ŷ vs (∃l re O W H0,k l=Ó/\dg/\GotL X.D O W H0 H l vs/\∃d c,re=Lu/\EC H' (Got X.D O W H0 H' d c v))
def snd_bi(r:EO f k)(o:pQ)(m:AE)(hv:rq x=ā (lw f))(j:v9)(b:mz)
    (s:lN rs ai) (i:gr) (a:xh) (h:mV rs k=Ó):j_ (pf x ai):=
  Zq u (pe_callB r o m hv u j b (Ω i) (BU es a)) s v n
def snd_biT(o:DD T (biR X k))(n:pQ)(j:AE)(hv:rq x=ā (Ÿ T))(i:v9)(b:mz)
    (r:lN rs ai) (f:gr) (a:xh) (h:mV rs k=Ó):j_ (pf x ai):=
  Zq s (pe_callTy o n j hv s i b (Ω f) (BU es a)) r u m
theorem ints_rep:∀{ds:Ĩ} {b:Ď} {a:İ},ints? ds=lD->cC ds a->a=Hy
  | [],b,a,h,r=>by cases h;exact xa r
  | ĳ::ds,b,a,h,r=>by obtain⟨ms,g,f⟩:=Θ h;obtain⟨v,vs,e,d,c⟩:=o9 r;rw[←f,e,Η,nC d,(ints_rep g c)]
  | .non::ds,b,a,h,_=>ζ
  | .bl _::ds,b,a,h,_=>ζ
  | .str _::ds,b,a,h,_=>ζ
  | ģ _::ds,b,a,h,_=>ζ
  | pL::ds,b,a,h,_=>ζ
  | yL::ds,b,a,h,_=>ζ
  | .fn _::ds,b,a,h,_=>ζ
  | yI::ds,b,a,h,_=>ζ
  | .scr _::ds,b,a,h,_=>ζ
theorem minI_low:Zr
  | [],m=>⟨Ð,Int.le_refl _,fun x h=>ζ⟩
  | y::r,m=>by
    obtain⟨b,d,a⟩:=minI_low r (ĩ (y<m) y m);unfold minI;by_cases q:y<m
    · rw[ĉ q]at b d a ⊢
      refine⟨ė ?_,Ę,Ĝ x c⟩
      · rcases b with z | z
        · rw[z];exact ũ
        · exact Ŕ z
      · rcases Ŀ c with z | z
        · rwa [z]
        · exact a x z
    · rw[ĝ q]at b d a ⊢
      refine⟨b.imp id Ŕ,d,Ĝ x c⟩;rcases Ŀ c with z | z
      ·  omega
      · exact a x z
def minI_one(g:M∈n::r)(d:∀x∈n::r,M<=x):M=qa n:=by
  obtain⟨a,b,c⟩:=minI_low r n;have e:=d _ (a.elim (fun z=>Ą z ũ) Ŕ);have f:qa n<=M:=by
    rcases Ŀ g with z | z
    · rwa [z]
    · exact c M z
  omega
theorem insI_perm(x:Int):∀l:Ď,(oS l).Perm (x::l)
  | []=>.rfl
  | y::r=>by
    unfold insI;split
    · exact .rfl
    · exact Ţ (O7 y (insI_perm x r)) (List.Perm.swap x y r)
theorem sortI_perm:∀l:Ď,(bT l).Perm l
  | []=>.rfl
  | x::r=>Ţ (insI_perm x _) (O7 x (sortI_perm r))
theorem insI_pw(x:Int):∀{l:Ď},KO (· <= ·)->(oS l).Pairwise (· <= ·)
  | [],_=>UD _ _
  | y::r,h=>by
    obtain⟨b,c⟩:=KP h;unfold insI;split
    · rename_i q
      refine Hk ⟨Ĝ z a,h⟩;rcases Ŀ a with e | e
      · omega
      · have:=b z e
        omega
    · rename_i q
      refine Hk ⟨Ĝ z a,insI_pw x c⟩;rcases Ŀ ((insI_perm x r).mem_iff.mp a)with e | e
      · omega
      · exact b z e
theorem sortI_pw:∀l:Ď,(bT l).Pairwise (· <= ·)
  | []=>.nil
  | x::r=>insI_pw x (sortI_pw r)
theorem pw_one:∀{a b:Ď},a.Perm b->a.Pairwise (· <= ·)->b.Pairwise (· <= ·)->a=b
  | [],b,p,_,_=>(List.Perm.nil_eq p)
  | x::a,b,p,f,d=>by
    cases b with
    | nil=>exact ĸ p.length_eq Ģ
    | cons y b=>
      obtain⟨j,i⟩:=KP f;obtain⟨h,g⟩:=KP d;have e:x=y:=by
        rcases Ŀ (p.mem_iff.mp Υ) with z | z
        · exact z
        · rcases Ŀ (p.mem_iff.mpr Υ) with c | c
          · exact c.symm
          · have:=j y c
            have:=h x z;omega
      subst e;rw[pw_one (List.Perm.cons_inv p) i g]
def bi_len:EO "len" lenD:=by
  intro b s k H xs n Q I r h;obtain⟨l,re,O,W,H0,e,o,g,d,c,rfl,p⟩:=h;unfold lenD at e;split at e
  · cases e
    obtain⟨v,rfl,f⟩:=g.one;obtain⟨a,m,j,i,q⟩:=f.lst o;exact UE m (ď (gO i)) q.length
  · cases e
    obtain⟨v,rfl,f⟩:=g.one;obtain⟨a,m,j,i,q⟩:=f.tup o;exact UE m (ė i) q.length
  · cases e
    obtain⟨v,rfl,f⟩:=g.one;obtain⟨a,j,i⟩:=HU (f.all o);exact UE _ (ď i.sq) ċ
  · cases e
def bi_min(hc:bf)(hu:lO 1):EO "min" minD:=by
  intro pins s σ H xs us Q I r h;obtain⟨l,re,O,W,H0,hb,hd,g,d,c,rfl,p⟩:=h;unfold minD at hb;split at hb
  · cases hb
    obtain⟨v,v',rfl,gv,gv'⟩:=g.two;exact call_min2 hc pins s σ H _ us Q I r ⟨_,_,ţ (gv.int hd) (gv'.int hd),zj⟩
  · split at hb
    · rename_i n r' hq
      cases hb;obtain⟨v,rfl,gv⟩:=g.one;obtain⟨a,ys,e1,e2,e3⟩:=gv.lst hd;have e4:=ints_rep hq e3;subst e4;exact call_minL hc pins s σ H _ us Q I r ⟨a,n::r',ų e1,gO e2,Ģ,fun M m1 m2=>Ą (minI_one m1 m2) zj⟩
    · cases hb
  · cases hb
def bi_max(j:bf):EO "max" maxD:=by
  intro a s f H xs i Q I r h;obtain⟨l,re,O,W,H0,b,hd,g,d,c,rfl,p⟩:=h;unfold maxD at b;split at b
  · cases b
    obtain⟨v,v',rfl,m,e⟩:=g.two;exact call_max2 j a s f H _ i Q I r ⟨_,_,ţ (m.int hd) (e.int hd),zj⟩
  · cases b
theorem bools_rep:∀{ds:Ĩ} {bs:wJ} {a:İ},bools? ds=ā bs->cC ds a->a=bs.map V.bl
  | [],bs,a,h,r=>by cases h;exact xa r
  | .bl i::ds,bs,a,h,r=>by obtain⟨ms,f,e⟩:=Θ h;obtain⟨v,vs,d,c,b⟩:=o9 r;have q:=bools_rep f b;subst e d q;rw[EB c];rfl
  | .non::_,_,_,h,_=>ζ
  | dL::_,_,_,h,_=>ζ
  | .str _::_,_,_,h,_=>ζ
  | ģ _::_,_,_,h,_=>ζ
  | pL::_,_,_,h,_=>ζ
  | .fn _::_,_,_,h,_=>ζ
  | yI::_,_,_,h,_=>ζ
  | .scr _::_,_,_,h,_=>ζ
  | yL::_,_,_,h,_=>ζ
def bi_sum(o:bf):EO "sum" sumD:=by
  intro b s i H xs j Q I r h;obtain⟨l,re,O,W,H0,f,n,g,d,c,rfl,p⟩:=h;unfold sumD at f;split at f
  · obtain⟨k,m,e⟩:=Θ f
    cases e;obtain⟨v,rfl,q⟩:=g.one;obtain⟨a,ys,y,x,w⟩:=q.lst n;have u:=ints_rep m w;subst u;exact call_sumL o b s i H _ j Q I r ⟨a,k,ų y,gO x,zj⟩
  · cases f
def bi_all(n:bf):EO "all" allD:=by
  intro b s i H xs j Q I r h;obtain⟨l,re,O,W,H0,f,m,g,d,c,rfl,p⟩:=h;unfold allD at f;split at f
  · obtain⟨bs,k,e⟩:=Θ f
    cases e;obtain⟨v,rfl,o⟩:=g.one;obtain⟨a,ys,x,w,u⟩:=o.lst m;have q:=bools_rep k u;subst q;exact call_allL n b s i H _ j Q I r ⟨a,bs,ų x,gO w,HQ⟩
  · cases f
def bi_any(n:bf):EO "any" anyD:=by
  intro b s i H xs j Q I r h;obtain⟨l,re,O,W,H0,f,m,g,d,c,rfl,p⟩:=h;unfold anyD at f;split at f
  · obtain⟨bs,k,e⟩:=Θ f
    cases e;obtain⟨v,rfl,o⟩:=g.one;obtain⟨a,ys,w,u,t⟩:=o.lst m;have q:=bools_rep k t;subst q;exact call_anyL n b s i H _ j Q I r ⟨a,bs,ų w,gO u,HQ⟩
  · cases f
def boot_sum1:PL "sum":=ŵ
def boot_all1:PL "all":=ŵ
def boot_any1:PL "any":=ŵ
def boot_sorted1:PL ni:=ŵ
def boot_set1:rq eK = ā (Ÿ eK):=ŵ
def snd_sset(u:bf)(J:Gl X ni)(I:mH ni)(n:Gl X eK)(m:mH eK)
    (K:lN rs [e]) (E:gr) (h:mV rs ssetD=Ó):j_ (pf ni [.Call (.Name eK s) [e] [] b]):=
  snd_args (r:=fun o H Q=>(∃(a:Addr) (d:Ď),o=[Ī]/\ug a (d.map lJ)/\d.length<4000/\∀p,iR->∃(p1:Addr) (ks:Ď),[V.ref p]=[Č p1]/\UF p1=ā (K7 p1 ks)/\cY<64 /\
      ∀(q:Addr) (j:Ď),UF q=none->j.Perm ks->j.Pairwise (· <= ·)->oF q UF (.lst (j.map lJ))))
    (fun t L=>by
      have z:=pe_callTy (p:=s) (pos:=b) (call_setL u) n m boot_set1 L đ đ (Ω E) rfl;have y:=pe_callB (p:=p) (pos:=pos) (call_sortS u) J I boot_sorted1 (wq z pa_nil) đ đ rfl rfl;exact y.weak fun x H Q h=>h) K h fun O W H0 H o Q l x f hd g B=>by
    unfold ssetD at f;split at f
    · split at f
      · rename_i ds c d F
        split at f
        · rename_i w
          cases f;obtain⟨v,rfl,M⟩:=g.one;obtain⟨a,ys,U,S,R⟩:=M.lst hd;have P:=ints_rep F R;subst P;refine⟨a,d,ų U,gO S,w.1,fun p1 k=>⟨p1,_,rfl,aM,w.2,ν q j i C A⟩⟩;have N:=pw_one (C.trans (sortI_perm _).symm) A (sortI_pw _);subst N;have s1:Ú (aq p1 (K7 p1 (d.foldl dk []))):=jZ k;exact B _ _ (s1.trans (jZ i)) (zh (hd.mono s1) i (repL_ints _))
        · cases f
      · cases f
    · cases f
def bi_list:DD ý (biR X listD):=by
  intro pins s σ H xs us Q I r h;obtain⟨l,re,O,W,H0,hb,hd,g,d,c,rfl,p⟩:=h;unfold listD at hb;split at hb
  · cases hb
    obtain⟨v,rfl,gv⟩:=g.one;obtain⟨a,ys,e1,e2,e3⟩:=gv.lstC hd;exact Zs (ď (gO e2))
  · cases hb
    obtain⟨v,rfl,gv⟩:=g.one;obtain⟨a,ys,e1,e2,e3⟩:=gv.tupC hd;exact Zs (ė e2)
  · cases hb
theorem RepL.getD(h:zc)(i:Nat):Rep D H (ds.getD i .non) (xs.getD i .non):=by
  rw[Ħ,Ħ];cases e:ds[i]? with
  | none=>
    rw[jY (Ą h.length (List.getElem?_eq_none_iff.mp e))];exact rep_non.mpr rfl
  | some d=>
    obtain⟨v,a,q⟩:=h.get e
    rwa [a]
theorem RepL.putIx(h:zc):∀a:Ġ,cC (L2.putIx .non a ds) (L2.putIx .non a xs)
  | []=>vd
  | i::l=>ze _ _ (h.getD i) (RepL.putIx h l)
def bi_tuple:DD ad (biR X tupleD):=by
  intro b s j H xs m Q I r h;obtain⟨l,re,O,W,H0,f,hd,g,d,c,rfl,p⟩:=h;unfold tupleD at f;split at f
  · cases f
    obtain⟨v,rfl,n⟩:=g.one;obtain⟨a,k,w,u,o⟩:=n.lstC hd;exact call_tuple_of b s j H _ m Q I r ⟨a,k,ų w,ď ⟨gO u,fun q i=>HV i (got_tupC hd i o)⟩⟩
  · cases f
universe E_
def tyS:DV->ĕ du
  | dL=>ā jA
  | _=>none
def tySub(T t:du):ĕ Bool:=mE (ņ (jo T==jo t)) cV (if PySem.W.kitMeta t=true then(fastBuiltinMro T).map (·.contains (Ÿ t))else none)
def tySub_all:Zt (tySub T t) (ā H9):=ŵ
def kit_ty{K:į}(T t:du)(b:T∈Zu)(a:t∈Ea) :
    PySem.W.kitOne K (Ÿ T) (Ÿ t)=ā H9:=by
  exact(ž (tySub T t=_) (Ķ (qB (qB tySub_all T b) t a)))
section
variable {X:Cx} {δ:List Sv} {e e':Expr} {pos p p':Pos} {re:Re} {ra:Option Re}
def isi_dv(I:jw a)(r:zo X.D H)(c:dv)(f:tyS d=ā T)(g:t∈Ea)
    (h:∀tk,Q (fg H9) {s with toks:=tk}):cR (pZ Ez [u,Ÿ t]) Q i s:=by
  cases d with
  | int b=>cases f;rw[nC r]at c;obtain⟨tk,rfl⟩:=c;exact PySem.W.kia_one PySem.W.kitx_int I.kIn LF (kit_ty _ _ Ģ g) EQ h
  | _=>cases f
def rIsi(X:Cx):İ->pP:=ŷ xs (∃d T t x,xs=[x,.ty t]/\ja H d x/\tyS d=ā T/\t∈Ea/\AR H9)
def call_isi:AU Ez (rIsi X):=by
  intro b s σ H xs us Q I r h;obtain⟨d,T,t,x,rfl,f,i,g,q⟩:=h;obtain⟨u,w',rfl,e,a⟩:=vals2 r;cases a;exact isi_dv I f e i g fun c=>⟨.bl _,H,I.tok c,rfl,q⟩
def tyName:Str->ĕ du:=fun x=>(Ea:Ĳ du).find? fun t=>Es t==x
def boot_ty(h:tyName x=ā t):rq x=ā (Ÿ t)/\t∈Ea/\Es t=x:=by
  unfold tyName at h;have a:=PN h;have b:Es t=x:=Ķ (PM h)
  refine⟨?_,a,b⟩;subst b;simp[i6,qo,qm]at a;rcases a with rfl | rfl | rfl | rfl | rfl | rfl
  · exact boot_int
  · exact boot_bool
  · exact boot_str
  · exact boot_list
  · exact boot_tuple
  · exact boot_dict
def tyNames:du->ĥ
  | "NoneType"=>["NoneType"] | "bool"=>["bool",jA] | jA=>[jA] | "str"=>["str"] | ad=>[ad] | ý=>[ý] | iN=>[iN]
  | _=>[]
def tyNames_all:Zt ((tyNames T).contains (Es t)) H9:=ŵ
def isi_eq(h:tyName x=ā t)(a:tyS d=ā T):(tyOf d).contains x=H9:=by
  obtain⟨_,h2,b⟩:=boot_ty h;subst b;cases d<;>cases a;show(tyNames jA).contains _=_;simpa using (qB (qB tyNames_all jA Ģ) t h2)
def snd_isi(m:tyName x=ā t)(z:Gl X Ez)(u:mH Ez)(i:pQ)(g:AE)(f:v9)(j:mz)
    (B:Ì ra e) (n:gr) (h:(Χ ra fun y _=>ļ (isiD G y [x]) k (fC k))=Ó):j_ (pf Ez [e,bA p']):=by
  obtain⟨K,l,J⟩:=boot_ty m;have T:JM p' (tC (.ty t)):=pe_bltn i g K rfl f j;have C:=fun r (E:bC r)=>pe_callB (p:=p) (pos:=pos) call_isi z u boot_isinstance (wq E (wq T pa_nil) (Ω n)) đ đ (Ω n)
  cases a:ra with
  | none=>rw[a]at h;cases h
  | some q=>
    rw[a]at h;have A:=B q a;cases q with
    | ok d cl=>
      obtain⟨k,b,I⟩:=Θ (h);cases I;have c:∃T,tyS d=ā T/\k=(tyOf d).contains x:=by
        unfold isiD at b;have s:OP x=true:=by
          rw[←J];simp only[i6,qo,qm]at l;rcases l with rfl | rfl | rfl | rfl | rfl | rfl<;>decide +kernel
        cases d<;>first
          | (simp only[s,f8]at b;cases b;exact(aQ rfl))
          | cases b
      obtain⟨T,o,w⟩:=c;exact(C _ A).weak (nF σ v L F ⟨d,T,t,v,rfl,F.all Δ,o,l,by rw[←isi_eq m o,←w];exact qA L got_bl⟩)
universe E_
def deep_lam(a:Str):deepQ (a ++ rA)=ă:=by
  have c:∀b:Str,b.cps.toList.getLast? = ā 102->(a++_==b)=ă:=fun b d=>by
    rw[beq_eq_false_iff_ne];intro z;rw[←z]at d;have e:(a++(rA : Str)).cps.toList.getLast? = ā 62:=by show(a.cps++(rA : Str).cps).toList.getLast? = _;rw[LG,List.getLast?_append];rfl
    rw[e]at d;cases d
  unfold deepQ;rw[c _ rfl,c _ rfl];rfl
theorem among_app:∀(l:ŉ),TriplesOk l->(∃i t,a=ĳ t)->(∃i t,b=ĳ t)->LH (l++[a,b,c])=ā cv->LH l=ā cv\/cv=c
  | [],_,⟨i,t,k⟩,⟨j,u,g⟩,h=>by
    subst k g;have d:(ĩ UG Ś (LH []))=ā cv:=h;split at d
    · exact ė (eC d).symm
    · cases d
  | ĳ t :: Ζ u::x::r,ok,f,e,h=>by
    have d:(ĩ UG cS (LH _))=ā cv:=h;show(ĩ UG cS (LH r))=ā cv\/cv=c;split at d
    · rename_i z;rw[ĉ z];exact ď d
    · rename_i z;rw[ĝ z];exact among_app r ok f e d
theorem triples_app(e:∃i t,a=ĳ t)(d:∃i t,b=ĳ t):∀(l:ŉ),TriplesOk l->TriplesOk (l++[a,b,c])
  | [],_=>UH t e u d p5
  | ĳ t :: Ζ u::x::r,ok=>triples_app e d r ok
structure LamAt(X:Cx)(Ŋ:ù)(c P:Addr):Prop where
  code:X.env.code=Č c
  hd:ER pins σ Ĥ UI
  tab:ER pins σ Ĥ (Ï P (.tbl BV))
  fre:∀y∈bH,y.2=iT->ol (k7 y.1)
theorem LamAt.has(L:LamAt X Ŋ c P)(ok:X.Ok):ES bH:=fun y b d=>ok.has y.1 (L.fre y b d)
def lam_made(I:jw r)(L:LamAt X Ŋ c P)(a3:defaultsOf g ū=([],[]))
    (h:∀f k s',lA r k s'->Ú k->ao f->LamFn k BV g body Ŋ (DO bH) f->Q bE s') :
    rG M (cn (.Lambda g body Ŋ pos)):=by
  refine PySem.W.kla_eval a3 ?_;have hP:=L.tab I;obtain⟨ps,hp,ht,x⟩:=Φ _ _ hP;have a5:=Oq (Ŋ:=Ŋ) (env:=ū) LI;have hg:s.heap.Ns bO X.mg:=I.ok.mod.glob.keeps I.bk;have c0:bO≠P:=fun z=>ZB
  obtain⟨bm,ob,b1,b2,b3,b4,b5,b6⟩:=I.ok.mod.bmod;have p:=I.bs _ _ b3;have c1:bm≠P:=fun z=>Gx hP p p.2
  have c3:bm≠bO:=fun z=>ZA p
  have hb:UJ X.mg P:=⟨bm,ob,b1,b2,c3,c1,p.1,b4,b5,b6⟩;have C:=L.hd I;cases hf:NA with
  | some cv=>
    obtain⟨j,N,u,vs,t,e1,e2,e3,e4⟩:=x pos cv hf;subst e1;refine PySem.W.kla_makeFunctionHit (mg:=X.mg) a5 Dh hg L.code C hp ht hf hb (ν m i tk hk W)
    have hn:ao s_:=lh W;refine Zz s_ W;refine⟨j,N,u,vs,t,_,m,aM,?_,e3,e4.1⟩;rw[sn e2 hn];exact e2
  | none=>
    refine PySem.W.kla_makeFunction (mg:=X.mg) a5 Dh hg L.code C hp ht hf c0 hb fun j m i tk hx l B Y U=>?_
    obtain⟨c5,N,vs,t,e2,Z,hd,hv⟩:=Y;cases e2;have b9:ao j:=lh l;have a0:ao s_:=lh (š l (ua B));have S:∀{b:Addr} {u:HO},H b=Ö->b≠j/\b≠s_:=fun e=>⟨x3 e b9,x3 e a0⟩
    have v:∀{b:Addr} {o:Obj},cP->b≠j/\b≠s_:=fun {b o} e=>⟨Ñ (ce Ι l),Ñ (ce Ι (š l (ua B)))⟩
    generalize a2:PySem.W.kla_obj rA BV g body Ŋ _ _ j m=fo;have a1:fo.isFreed=ă:=BW a2
    generalize F:upd (aq j (lM N j)) s_ (lM fo s_)=k;have a8:k s_=ā (lM fo s_):=ŏ F aM
    have at2:k j=ā (lM N j):=GU F (È (Ñ B)) aM
    have K:zr (b≠j) (b≠s_->k b=H b):=fun h1 h2=>by rw[←F,È h2,È h1]
    have sm:Ú k:=fY (Ą (K (S e).1 (S e).2) e)
    have kp:∀b o,b≠P->cP->(i.push fo).get? b=ē:=bh hb (ű (hx b o hb e))
    have a6:∀b,bv->b≠P:=fun b n z=>Gx hP n n
    have un:Un X.fs [] H k Ė (i.push fo):=by
      refine(Zy (a6 b n) o e b n _ (K (v e).1 (v e).2) u q);by_cases z:b=P
      · subst z;exact⟨_,ű U⟩
      · exact⟨o,kp b o z e⟩
    have b8:Ay k (i.push fo):=fun b u e=>by
      by_cases z1:b=s_
      · subst z1;rw[a8]at e;cases e
        exact⟨H_ _ a1,_,H_ _ a1⟩
      · by_cases z2:b=j
        · subst z2;rw[at2]at e;cases e
          exact⟨ű Z,_,ű Z⟩
        · rw[K z2 z1]at e
          by_cases z3:b=P
          · subst z3
            rw[hP]at e;cases e;refine⟨_,ű U,?_,Ğ R cv a4⟩
            · rw[LG]
              exact Zx
            · rw[LG]at a4
              rcases Zw j a4 with w | w
              · obtain⟨c2,b0,u2,a9,t2,f1,f2,f3,f4⟩:=x R cv w
                refine⟨c2,b0,u2,a9,t2,f1,sm _ _ f2,f3,f4.1,af y⟩;obtain⟨y0,T,a7,tf,J,tg,b7,O,tt,y1,y2,y3,y4,y5,y6,y7,y8⟩:=f4.2 y;exact⟨y0,T,a7,tf,J,tg,b7,O,tt,y1,y2,y3,y4,y5,y6,y7,sm _ _ y8⟩
              · exact⟨j,N,_,vs,t,w,at2,hd,hv,fun y=>jb (ž (deepQ BV=ă) (deep_lam _)) y y⟩
          · refine Zv c4
            rcases c4 with w | w
            · rw[w];exact z3
            · intro z;rw[z,hP]at w;cases w
    refine h s_ k _ (I.un (t':=tk) un b8) sm a0 ⟨j,N,_,vs,t,(X.mg "__name__").getD Ĺ,m,by rw[a8,←a2],at2,hd,hv⟩
def trC(l:ŀ)(h:Heap)(H:Hp):Hp:=fun b=>if kf then ļ (Ο b) o (HO.frz o (.own b))else H b
def trC_in(a:kf)(e:aA b):trC l h H b=ā (lM o b):=by
  unfold trC;rw[ĉ a,e];rfl
def trC_out(a:b∉l):trC l h H b=H b:=ĝ a
structure Cells(l:ŀ)(h:Heap)(H:Hp):Prop where
  none:tj (ao c)
  cel:tj (∃o v,aA c/\aN=lz v)
section
variable {P:Program} {w:World} {K:PySem.W.Frag} {mg:Str->Option Value} {base:Heap} {A:Around} {outer:List Env} {s s':Shared} {H:Hp} {l:List Addr} {Q Q':VK} {u:Value}
def Cells.same(C:LJ):Ú zt:=fun b o e=>by
  rw[trC_out fun z=>PP];exact e
theorem HOk.trC(C:LJ)(x:iI Ė):HOk P w zt Ė:=fun b u e=>by
  by_cases hb:kf
  · obtain⟨o,v,g,_⟩:=C.cel b hb
    rw[trC_in hb g]at e;cases e;exact⟨g,o,g⟩
  · rw[trC_out hb]at e
    exact Aw (x b u e) _ _ _ q _ (LK q) _ _ _ _
theorem Env0.trC(C:LJ)(hb:dG c l (base.get? c))(hf:tj (c∉frs ś))(e:yu H):yu zt:=
  ⟨e.frames,e.mod,fun b o q=>⟨(e.bs b o q).1,rF (trC_out fun z=>jb (hb b z) q q) (e.bs b o q).2⟩,e.bsz,e.funs,⟨fun b q=>Ą (trC_out fun z=>hf b z q) (e.frf.1 b q),fun p hp=>LK (e.frf.2 p hp)⟩,HOk.trC C e.hok,e.bare⟩
theorem CE.trC(C:LJ)(h:GP zt Q')(hq:∀v H',Same zt H'->Q' v H'->Q v (Ô l H'))(hs:∀v H',Q' v H'->Same zt H'):GP H Q:=by
  obtain⟨v,H',os,bare,un,hok,r,q⟩:=h;have at1:zr kf (∃o v,cP/\aN=lz v/\H' b=ā (lM o b)/\LM b=ē):=fun {b} hb=>by obtain⟨o,v,g,d⟩:=C.cel b hb;have z:=un.frzs b o _ (trC_in hb g);exact⟨o,v,g,d,z,(hok b _ z).1⟩
  refine⟨v,Ô l H',os,bare,ZC hf hx xs,k_ x,r,hq v H' (hs v H' q) q⟩
  · by_cases hb:kf
    · obtain⟨o',_,g,_,_,g'⟩:=at1 hb
      rw[e]at g;cases g;exact g'
    · exact un.keep b o e UM hf hx
  · by_cases hb:kf
    · obtain⟨o',_,g,_,_,g'⟩:=at1 hb
      rw[e]at g;cases g;exact⟨o.slots,g'⟩
    · exact un.slot b o e UM hf hx
  · by_cases hb:kf
    · exact wo_in hb
    · rw[η hb];exact un.free b o e UM hx
  · rw[cF PP];exact un.tups b xs (LK e)
  · rw[cF PP];exact un.frzs b o x (LK e)
  · rw[cF PP];exact un.tbls b x (LK e)
  · obtain⟨hb,e⟩:=cD e
    refine UL (hok b x e) b'
    · rw[UK];exact q
    · rw[UK];exact q
    · rw[UK];exact q
    · rw[cF (by obtain⟨_,_,_,d',g,_⟩:=at1 z;rw[q]at g;cases g;rw[d]at d';cases d')];exact q
structure CellsT(l:ŀ)(h:Heap)(H:Hp):Prop where
  at_:Lj (aA c/\aN=lz v)
def ov(l:ŀ)(H H':Hp):Hp:=fun b=>ĩ kf (H b) (H' b)
def ov_in(h:kf):ov l H a b=H b:=ĉ h
def vh(h:b∉l):ov l H a b=a b:=ĝ h
def HOk.woC(C:zu)(x:iI Ė):HOk P w kg Ė:=fun b u e=>by
  obtain⟨hb,e⟩:=cD e;refine UL (x b u e) a
  · rw[cF (qC _ z q)];exact q
  · rw[cF (qC _ z q)];exact q
  · rw[cF (qC _ z q)];exact q
  · rw[cF (by obtain⟨_,_,g,_,c⟩:=C.at_ _ z;rw[q]at g;cases g;rw[d]at c;cases c)];exact q
def CE.woC(C:zu)(m:∀b∈frs ś,bv)(h:GP kg Q')(J:∀v i,(dG c l (i c))->Q' v i->Q v (ov l H i)):GP H Q:=by
  obtain⟨v,i,F,p,un,A,r,q⟩:=h;have I:tj (c∉frs ś):=fun c y z=>qC c y (m c z)
  have f:dG c l (i c):=fun c y=>by obtain⟨o,_,_,g,_⟩:=C.at_ c y;exact un.free c o g (wo_in y) Ģ
  refine⟨v,ov l H i,F,p,ZC m j E,k_ x,r,J v i f q⟩
  · have a:b∉l:=fun z=>qC b z n
    exact un.keep b o e (Ą (η a) n) m j
  · have a:b∉l:=fun z=>qC b z n
    exact un.slot b o e (Ą (η a) n) m j
  · have a:b∉l:=fun z=>qC b z n
    rw[vh a];exact un.free b o e (Ą (η a) n) j
  · have a:b∉l:=fun z=>qC b z e
    rw[vh a];exact un.tups b E (Ą (η a) e)
  · by_cases a:kf
    · rw[ov_in a];exact e
    · rw[vh a];exact un.frzs b o x (Ą (η a) e)
  · have a:b∉l:=fun z=>qC b z e
    rw[vh a];exact un.tbls b x (Ą (η a) e)
  · by_cases a:kf
    · rw[ov_in a]at e
      obtain⟨o,_,g,K,_⟩:=C.at_ b a;rw[g]at e;cases e;have k:=un.keep b o K (wo_in a) (I b a) Ģ;exact⟨k,o,k⟩
    · rw[vh a]at e
      refine UL (A b x e) B
      all_goals (rw[vh fun z=>jb (f _ z) q q];exact q)
universe E_
def cxLam(P:ř)(w:ł)(K:į)(mg:Τ)(base:Heap)(N:ĥ)(qual:Str)(Ŋ:ù)(f:Addr)(cd:Ě)(cl:gU)(A:ξ)(ś:ju)(s:č)(H:Hp):Cx where
  prog:=P
  w:=w
  K:=K
  mg:=mg
  base:=base
  A:=yp UN
  N:=N
  s₀:=s
  H₀:=H
  env:=UN
  ś:=ś
  stack:=UN::ś
  ex:=[]
  calm:=true
  fn:=ş ă
  pn:=[]
  xe:=ye
def inv_lam{P:ř}{w:ł}{K:į}{base:Heap}{A:ξ}{j:ju}{s:č}{H:Hp}{l:ŀ}{N ps:ĥ}{q:Str}{Ŋ:ù}{f:Addr}{M:ŉ}{vs ws:İ}{cd:Ě}{k:Heap}{tk:Nat}(S:LamScope N ps Ŋ cl l)(C:zu)(hd:bD)(B:Env0 P w K mg base A j s H)(hl:aP=τ)(r:Vals vs M)(Z:gQ=τ+lI)
    (hw:PU)
    (Y:k.Ns ġ (fun x=>PR x)) (R:∀b o,cP->k.get? b=ē) :
    Inv (LO N Ŋ cd cl A j s kg) [] LN kg (jX k tk):=by
  have nl:zr bv (b∉l):=fun {b} n z=>qC b z n
  have I:∀b:Addr,b∉(LO N Ŋ cd cl A j s kg).ex:=yy b z ŀ
  have U:zr bv (aU l b=none):=fun {b} n=>Ą (η (nl n)) n
  have F:∀x c,yE->∃v,k.IsCell c v:=ZG
  refine⟨(ZF B.mod B.frames (B.bs b o e) (U (B.bs b o e).2) B.bsz _ I b z B.funs (U (B.frf.1 b hb)) p L),
    rfl,B.bare,Un.kept R,⟨_,Y,fun i y v Q O h3=>?_⟩,F,?_,fun y c h=>wo_in (S.mem y c h),yy p L ğ,(HOk.woC C B.hok).kept R,?_⟩
  · have J:=J
    rcases J with J | J
    · exact UO J
    · exact S.has y J
  · have z:=B.frf.2 p L
    show aU l p.1=_;rw[η fun m=>qC _ m z];exact z
  · have Q:ĭ N y:=Q
    rw[ō]at O;have E:ĭ (vs++ws) v:=by
      cases z:(vs++ws)[i]? with
      | none=>rw[z]at O;cases O
      | some a=>rw[z]at O;exact oy some (eC (eC O))
    by_cases hi:i<τ
    · rw[uv Ă]at E
      obtain⟨u,hu,rv⟩:=r.get E;have L:ĭ ps y:=GU S.pre (J6 hi) Q
      have W:ps.Nodup:=SQ
      refine⟨u,rv,ď (au (S.par y (iO L)))⟩;show PR y=Ö;have X:(fU ((ut M).reverse.map eD)):=ZE W
      refine A7 X (List.mem_reverse.mpr ?_);have hz:ĭ (ut M) (y,u):=PQ L hu
      exact iO hz
    · rw[uw Ă]at E
      obtain⟨c,u,e1,e2,e3⟩:=ZD E;exact⟨u,e3,ė ⟨ė (S.fre i y Ă Q),c,e1,e2.keeps R⟩⟩
  · show aU l ġ=none
    exact U (B.hok.fresh ħ)
  · show Ć LN=gQ
    rw[ċ,Â];omega
def lam_run{K:į}(S:LamScope N ps Ŋ cl l)(C:zu)(M:Dv<GN/\bD)(m:yu H)(hf:LamFn H q params body Ŋ cl f)
    (h:∀B a j,HH (PySem.W.kla_fn rA q params body Ŋ cl B Ī j) us=GQ us) (hl:aP=τ) (r:ub) (p:gQ=τ+lI)
    (Y:PU)
    (g:∀a,∃t,PE (LP Ī) body t/\t LN kg (fun v k=>ZH)) :
    PV us CX:=by
  obtain⟨a,W,u,y,t,B,j,h1,h2,h3,h4⟩:=hf
  refine PySem.W.kla_callFunE M.1 ((m.hok f _ h1).1) rfl S.co S.gen rfl ⟨a,W,y,t,rfl,((m.hok a _ h2).1),h3,h4⟩ ?_;show gW s;rw[h B a j];refine Ņ (ZI X L I n (m.mod.nolimit.keeps (fY (m.bs b o e).1)))
  show codeAny _ _ _ _ _;obtain⟨t,Z,hq⟩:=g a;exact PySem.W.kla_codeExpr (jx (Z [] _ _ _ _ (inv_lam S C M.2 m hl r p Y I (fY (DY b o (Ñ Ι) (ű e)))) hq) (fun v R ⟨O,k,J,U,z⟩=>CE.woC (Q':=fun v k=>ZH) C m.frf.1 ⟨O,k,J.os,J.bare,J.base,J.hok,U,z⟩ fun _ _ z q=>q z) fun e R z=>(z:cM).elim)
universe L2
namespace L2
open PySem PySem.Spec PySem.Calls PyProof.Rows
def mk_def(F:closureFor sc env=pure cl)(B:env.globals=bO)(L:s.heap.Ns bO mg)(hc:env.code=Č c)(C:UI)(N:iQ P (PySem.W.tabObj ps))(ht:TriplesOk ps.toList)(hn:NA=none)(u:bO≠P)(hb:UJ mg P)
    (h:∀a T K I h' tk,A_ P h'->ġ<=a->a<DF->ġ<=T->h'.IsCode a T #[]->h'.TableAt a T #[]->h'.CodeRec Ī p->ba P=ā ZK ->
      Q (Č DF) (jX (h'.push (UP p y cl I ((mg "__name__").getD Ĺ) a K)) tk)) :
    rG M (makeFunction nm p y (.stmts bd) sc env [] [] [] pos R):=by
  obtain⟨bm,ob,b1,Z,_,Y,X,W,U,S⟩:=hb;have O:∀(s1:č),(∀b o,cP->y_ b=ē)->ġ<=f7->s1.gens=s.gens->s1.drawn=s.drawn->s1.os=s.os ->
      wpAny M A (functionCode env pos R nm p y sc (.stmts bd)) (fun J w=>∃a T h' tk,J=Ī/\w = jX h' tk /\ A_ P h'/\ġ<=a/\a<DF/\ġ<=T/\h'.IsCode a T #[]/\h'.TableAt a T #[]/\h'.CodeRec Ī p/\ba P=ā ZK) E s1:=fun s1 k z g1 g2 g3=>by
    have C1:=C.keeps k;refine wpAny_functionCodeX hc (C1.code (fV N) ht) (C1.tab (fV N)) hn fun a h' tk d n m _ l j x6=>?_
    obtain⟨T,i,g,f⟩:=x6;refine⟨a,T,h',tk,rfl,by rw[g1,g2,g3],bh H (d b o H (k b o e)),š z n,m,š z i,g,f,l,j.2⟩
  rw[makeFunction_eq];simp only[List.zip_nil_right,List.filterMap_nil,List.isEmpty_nil,f8,pure_bind];unfold makeTail;rw[F,B];refine o4;cases cl with
  | nil=>
    simp only[List.isEmpty_nil,f8];refine oM (ą (yC (O s x_ ħ rfl rfl rfl) J w q x x));obtain⟨a,T,h',tk,rfl,rfl,d,n,m,i,g,f,l,j⟩:=q;have v:=L.extBut d u;refine ą ZJ;cases hd:docOf bd with
    | none=>exact oM (PX tk)
    | some t=>exact ą (wpAny_mkText (PX _))
  | cons q r=>
    simp only[List.isEmpty_cons,y9,si];refine ą (wpAny_newTextTuple (ą (yC (O _ yl (Ź iU) rfl rfl rfl) J w q x x)));obtain⟨a,T,h',tk,rfl,rfl,d,n,m,i,g,f,l,j⟩:=q;have v:=L.extBut d u;refine ą ZJ;cases hd:docOf bd with
    | none=>exact oM (PX tk)
    | some t=>exact ą (wpAny_mkText (PX _))
structure DefAt(X:Cx)(Ŋ:ù)(c P:Addr)(q:Str):Prop where
  code:X.env.code=Č c
  hd:ET (X.K.In h) c P
  tab:(P,q)∈fX X.K
  fre:∀y∈bH,y.2=iT->k7 y.1=aO
  dq:deepQ q=true
def DefFn(H:Hp)(nm q:Str)(pr:dM)(bd:ah)(sc:ù)(cl:gU)(f:Addr):Prop:=
  ∃(c':Addr) (oc:Obj) (u:HO) (vs:dz) (t:Tok) (doc pm ctv:Ě) (T:Addr),Ï f (lM (UP q pr cl doc pm c' ctv) f)/\gJ c' oc u/\oc.data=bM vs/\Sh/\Ï T Gh /\
    ET (Ο c'=ā oc) c' T
def DefFn.mono(e:Ú d)(h:DefFn H nm q c bd sc cl f):DefFn d nm q c bd sc cl f:=by
  obtain⟨p,j,u,g,t,a,i,b,T,o,n,m,l,k,r⟩:=h;exact⟨p,j,u,g,t,a,i,b,T,iS o,iS n,m,l,iS k,r⟩
def def_made(I:jw U)(L:DefAt X sc c P q)
    (h:∀f r s',lA U r s'->Ú r->ao f->DefFn r nm q pr bd sc lQ f->Q bE s') :
    rG M (makeFunction nm q pr (.stmts bd) sc ū [] [] [] pos fl):=by
  have hP:=I.tabs _ L.tab;obtain⟨ps,hp,ht,Y⟩:=Φ _ _ hP;have a9:=Oq (Ŋ:=sc) (env:=ū) fun y hy hf=>Kq (ď (L.fre y hy hf))
  have hg:s.heap.Ns bO X.mg:=I.ok.mod.glob.keeps I.bk;have c9:bO≠P:=fun z=>ZB
  obtain⟨bm,ob,b1,b2,b3,b4,b5,b6⟩:=I.ok.mod.bmod;have R:=I.bs _ _ b3;have d0:bm≠P:=fun z=>Gx hP R R.2
  have e0:bm≠bO:=fun z=>ZA R
  have hb:UJ X.mg P:=⟨bm,ob,b1,b2,e0,d0,R.1,b4,b5,b6⟩;have C:=L.hd Ė I.kIn;have W:∀{l:Addr} {x:Obj} {p:dz} {T:Addr} {j:Str} {tf:Tok} {g:Int} {tg:Tok} {m:Bool} {i:Int} {tt:Tok},x.data=bM p->x.cls=JD -> Į p 11 (Č T)->p.getD 11 Ĺ=Č T->p.getD 18 Ĺ=.str j tf->p.getD 7 Ĺ=.int g tg->p.getD 9 Ĺ=fg m->p.getD 10 Ĺ=ĳ tt->l≠T ->
      ET (Ο l=cS) l T:=fun d1 d2 d3 d4 d5 d6 d7 d8 d9 h e=>⟨_,_,_,_,_,_,_,_,_,e,d2,d1,d3,d4,d5,d6,d7,d8,d9⟩
  cases hf:NA with
  | some cv=>
    obtain⟨l,x,u,p,t,e1,e2,e3,e4,e5⟩:=Y pos cv hf;subst e1;obtain⟨y0,T,j,tf,g,tg,m,i,tt,y1,y2,y3,y4,y5,y6,y7,y8⟩:=e5 L.dq;refine PySem.W.makeFunction_hit (mg:=X.mg) a9 Dh hg L.code C hp ht hf hb fun O N k tk hk a4=>?_
    have hn:ao ph:=lh a4;refine Zz ph a4;refine⟨l,x,u,p,t,N,_,O,T,aM,?_,e3,e4,?_,W e3 y0 y1 y2 y3 y4 y5 y6 y7⟩
    · rw[sn e2 hn];exact e2
    · rw[sn y8 hn];exact y8
  | none=>
    refine mk_def (mg:=X.mg) a9 Dh hg L.code C hp ht hf c9 hb fun l T O N k tk hx F a0 b0 c8 c4 a5 a3=>?_
    obtain⟨e9,x,p,t,e2,B,hd,hv⟩:=a5;cases e2;obtain⟨⟨o1,c1,g1,g2,g3,g4⟩,b7⟩:=c4;rw[B]at g1;cases g1;rw[hd]at g3;cases g3;obtain⟨o1,c1,j,tf,g,tg,m,i,tt,op,j1,j2,j3,j4,j5,j6,j7,_,_,_,j8⟩:=c8;rw[B]at j1;cases j1;rw[hd]at j2;cases j2;have c6:ao l:=lh F;have c7:ao T:=lh b0;have a6:ao ph:=lh (š F (ua a0));have e7:T<ph:=aB b7;have e8:T≠ph:=Ñ e7;have Z:∀{b:Addr} {u:HO},H b=Ö->b≠l/\b≠T/\b≠ph:=fun e=>⟨x3 e c6,x3 e c7,x3 e a6⟩
    have v:∀{b:Addr} {o:Obj},cP->b≠l/\b≠T/\b≠ph:=fun {b o} e=>⟨Ñ (ce Ι F),Ñ (ce Ι b0),Ñ (ce Ι (š F (ua a0)))⟩
    generalize a8:UP q pr _ N _ l O=fo;have a7:fo.isFreed=ă:=BW a8
    generalize K:upd (upd (aq l (lM x l)) T Gh) ph (lM fo ph)=r;have b9:r ph=ā (lM fo ph):=ŏ K aM
    have a1:r T=ā Gh:=GU K (È e8) aM
    have at2:r l=ā (lM x l):=by rw[←K,È (Ñ a0),È j8];exact aM
    have a2:zr (b≠l) (b≠T->b≠ph->r b=H b):=fun h1 h2 h3=>by rw[←K,È h3,È h2,È h1]
    have sm:Ú r:=fY (Ą (a2 (Z e).1 (Z e).2.1 (Z e).2.2) e)
    have kp:∀b o,b≠P->cP->(k.push fo).get? b=ē:=bh hb (ű (hx b o hb e))
    have b8:∀b,bv->b≠P:=fun b n z=>Gx hP n n
    have un:Un X.fs [] H r Ė (k.push fo):=by
      refine(Zy (b8 b n) o e b n _ (a2 (v e).1 (v e).2.1 (v e).2.2) u q);by_cases z:b=P
      · subst z;exact⟨_,ű a3⟩
      · exact⟨o,kp b o z e⟩
    have c5:Ay r (k.push fo):=fun b u e=>by
      by_cases z1:b=ph
      · subst z1;rw[b9]at e;cases e
        exact⟨H_ _ a7,_,H_ _ a7⟩
      · by_cases z0:b=T
        · subst z0;rw[a1]at e;cases e
          exact⟨#[],ű b7,p5,fun S cv J=>eP J⟩
        · by_cases z2:b=l
          · subst z2;rw[at2]at e;cases e
            exact⟨ű B,_,ű B⟩
          · rw[a2 z2 z0 z1]at e
            by_cases z3:b=P
            · subst z3
              rw[hP]at e;cases e;refine⟨_,ű a3,?_,Ğ S cv J⟩
              · rw[LG]
                exact Zx
              · rw[LG]at J
                rcases Zw l J with w | w
                · obtain⟨c2,c3,u2,c0,t2,f1,f2,f3,f4⟩:=Y S cv w
                  refine⟨c2,c3,u2,c0,t2,f1,sm _ _ f2,f3,f4.1,af y⟩;obtain⟨y0,T2,j,tf,g,tg,m,i,tt,y1,y2,y3,y4,y5,y6,y7,y8⟩:=f4.2 y;exact⟨y0,T2,j,tf,g,tg,m,i,tt,y1,y2,y3,y4,y5,y6,y7,sm _ _ y8⟩
                · exact⟨l,x,_,p,t,w,at2,hd,hv,ş ⟨g2,T,j,tf,g,tg,m,i,tt,g4,j3,j4,j5,j6,j7,j8,a1⟩⟩
            · refine Zv e6
              rcases e6 with w | w
              · rw[w];exact z3
              · intro z;rw[z,hP]at w;cases w
    exact h ph r _ (I.un (t':=tk) un c5) sm a6 ⟨l,x,_,p,t,N,(X.mg "__name__").getD Ĺ,O,T,by rw[b9,←a8],at2,hd,hv,a1,W hd g2 g4 j3 j4 j5 j6 j7 j8⟩
universe L2
namespace L2
open PySem PySem.Spec PyProof.Rows
structure CloScope(N ps:ĥ)(n:Nat)(sc:ù)(cl:gU)(l:ŀ):Prop where
  kind:yw=on
  co:Dx=ă
  gen:Dw=ă
  nd:N.Nodup
  pre:mK τ=ps
  par:Ui
  nocell:Pq
  fre:∀i x,τ<=i->i<τ+n->mw N->dB=jz
  has:∀x,dB=jz->∃c,yE
  inj:Y7
  mem:∀x c,yE->c∈l
def inv_clo{K:į}(S:CloScope N ps lI Ŋ cl l)(C:zu)(hd:bD)(k:yu H)(hl:aP=τ)(r:Vals vs M)(Y:gQ=τ+lI+n)
    (hw:PU)
    (X:j.Ns ġ (fun x=>PR x)) (R:∀b o,cP->j.get? b=ē) :
    Inv (LP cd) [] (PY n) kg (jX j tk):=by
  have nl:zr bv (b∉l):=fun {b} n z=>qC b z n
  have I:∀b:Addr,b∉(LP cd).ex:=yy b z ŀ
  have wn:zr bv (aU l b=none):=fun {b} n=>Ą (η (nl n)) n
  have E:∀x c,yE->∃v,j.IsCell c v:=ZG
  refine⟨(ZF k.mod k.frames (k.bs b o e) (wn (k.bs b o e).2) k.bsz _ I b z k.funs (wn (k.frf.1 b hb)) p L),
    rfl,k.bare,Un.kept R,⟨_,X,fun i y v Q F h3=>?_⟩,E,?_,fun y c h=>wo_in (S.mem y c h),yy p L ğ,(HOk.woC C k.hok).kept R,?_⟩
  · have J:=J
    rcases J with J | J
    · exact UO J
    · exact S.has y J
  · have z:=k.frf.2 p L
    show aU l p.1=_;rw[η fun m=>qC _ m z];exact z
  · have Q:ĭ N y:=Q
    have O:i<Ć (vs++ws):=by
      by_cases z:i<Ć (vs++ws)
      · exact z
      · rw[uw (Ź ċ),J7]at F
        split at F<;>cases F
    rw[uv (Ą ċ O),ō]at F;have B:ĭ (vs++ws) v:=by
      cases z:(vs++ws)[i]? with
      | none=>rw[z]at F;cases F
      | some a=>rw[z]at F;exact oy some (eC (eC F))
    by_cases hi:i<τ
    · rw[uv Ă]at B
      obtain⟨u,hu,rv⟩:=r.get B;have L:ĭ ps y:=GU S.pre (J6 hi) Q
      have U:ps.Nodup:=SQ
      refine⟨u,rv,ď (au (S.par y (iO L)))⟩;show PR y=Ö;have W:(fU ((ut M).reverse.map eD)):=ZE U
      refine A7 W (List.mem_reverse.mpr ?_);have Z:ĭ (ut M) (y,u):=PQ L hu
      exact iO Z
    · rw[uw Ă]at B
      obtain⟨c,u,e1,e2,e3⟩:=ZD B;exact⟨u,e3,ė ⟨ė (S.fre i y Ă (Ia Â O) Q),c,e1,e2.keeps R⟩⟩
  · show aU l ġ=none
    exact wn (k.hok.fresh ħ)
  · show Ć (PY n)=gQ
    rw[Â,ċ,Â,N_];omega
def clo_run{K:į}(S:CloScope N ps lI Ŋ cl l)(C:zu)(Y:Dv<GN/\bD)(y:yu H)(hf:DefFn H nm q a body Ŋ cl f)
    (k:∀m pm d p,HH (PySem.W.fnX nm q a body Ŋ cl Ĺ Ĺ m pm none (Č d) p) L=GQ L) (hl:aP=τ) (r:Vals vs L) (I:gQ=τ+lI+n)
    (hw:PU)
    (j:∀d B u T,gJ d B u->Ï T Gh->(ET (Ο d=ā B) d T)->∃t,PSs (LP (Č d)) body t/\t {nx:=ye,rt:=fun v O=>(dG c l (O c))->Q v (ov l H O)} (PY n) kg) :
    PV L CX:=by
  obtain⟨d,B,u,R,t,m,pm,p,T,h1,Z,h3,h4,h5,h6⟩:=hf;have U:=(y.hok d _ Z).1
  refine codeAny_call_function Y.1 ((y.hok f _ h1).1) rfl S.co S.gen rfl ⟨d,B,R,t,rfl,U,h3,h4⟩ ?_
  show gW s;rw[k m pm d p];refine Ņ (ZI hx X W F (y.mod.nolimit.keeps (fY (y.bs b o e).1)));have g:=fY (F.extBut b o (Ñ Ι) (ű e))
  obtain⟨t,ht,hq⟩:=j d B u T Z h5 h6;refine codeAny_func (jx (ht [] _ _ _ _ (inv_clo S C Y.2 y hl r I hw W g) hq) (Ğ fl s' M) fun e s' z=>(z:cM).elim)
  cases fl with
  | ret u=>
    obtain⟨v',σ',O,J,rv,z⟩:=M;exact CE.woC C y.frf.1 ⟨v',O,J.os,J.bare,J.base,J.hok,rv,z⟩ fun _ _ z q=>q z
  | next=>obtain⟨_,_,_,z⟩:=M;exact eG z
  | brk=>obtain⟨_,_,_,z⟩:=M;exact eG z
  | cont=>obtain⟨_,_,_,z⟩:=M;exact eG z
def lamAt_in{K:į}(C:zu)(k:gJ a i u)(hd:GH i.data)(j:Ï T Gh)(r:ET (Ο a=eJ) a T)
    (c:Ox (ww y.1=jz)):LamAt (LP Ī) sc a T where
  code:=rfl
  hd:=fun {b m x s1} I=>by have e:aU l a=μ:=(Ą (cF (by obtain⟨o,v,g,_,d⟩:=C.at_ _ z;rw[k]at g;cases g;exact hd v d)) k);exact r _ (Φ _ _ (I.base.frzs _ _ _ e)).1
  tab:=fun {b m x s1} I=>I.base.tbls _ _ (show aU l T=_ by
    rw[cF (by obtain⟨o,v,g,_,d⟩:=C.at_ _ z;rw[j]at g;cases g)];exact j)
  fre:=fun y n p=>ė (c y n p)
structure RoomL(k:Nat)(A:ξ):Prop where
  hd:bD
  dp:Dv+3*k+5<GN
  un:uq+16*k+198<cLine
def Room.toL(r:jC A):BX A:=⟨r.hd,r.dp,fq r.un⟩
def Room.toL2(r:jC A):BX A.in1.in1:=⟨r.hd,r.dp,Km r.un (uq+1+1+16*k+198<_)⟩
theorem RoomL.deeper(r:RoomL ς A)(env:Env):jC (yp env):=
  XF
def RoomL.ok(r:BX A):Dv<GN/\bD:=⟨fq r.dp,r.hd⟩
def LamOk(P:ř)(w:ł)(K:į)(mg:Τ)(base:Heap)(fn bl cl:ĥ)(k:Nat)(Fl:uM Ou):Prop:=
  ∀(A:ξ) (ś:ju) (s:č) (H:Hp) (us:ŉ) (vs:İ) (Q:VK) (E:XK) (O:ŀ) (f:Addr) (m:LamD) (cs ds:Ĩ) (d:DV),BX A->yu H->ub->Hdn O H->m.fn=fn->m.bl=bl->m.cl=cl ->
    Rep qE bX dQ bE->RepL qE bX ds vs->Fl (dQ::ds)=iY->(EC H' (PZ O)) ->
    PV us CX0
def fnAt_lam(I:jw a)(h:ja bX (.lam m e) bE):PySem.W.FnAt f Ė:=by
  obtain⟨f',pr,bd,sc,q,cl,l,ws,c,⟨c',oc,u,vs,t,pm,d,b,_⟩,_⟩:=rep_lam.mp h;cases c;exact⟨_,_,_,_,(Φ _ _ (cD b).2).1⟩
def snd_callm{K:ĕ Rs}(lo:P1)(hr:uu)(hv:ud p)(h1:m.fn=fn)(h2:m.bl=bl)(h3:m.cl=cl)(S:dY (ę dQ))
    (ha:lN K ai) (hs:gr) (M:xh) (h:(mZ K (callM F m cs l))=ā L):ik (pf x ai) L:=by
  have C:∀{t:TA},yq t->AW x (ŷ c (∃(O W:ŀ) (v:V),RSt X.D H c δ O W/\ĭ c dw/\t c H fun B b=>Ú b/\∃J d,EH (nB b) J B/\F cZ (dQ::J)=iY/\∀v y,Same b y->Ib y->Q v y)):=fun {t} A=>by
    intro a s c H Q I h;obtain⟨O,W,v,R,U,h⟩:=h;obtain⟨v',E,w⟩:=zi _ S;rw[U]at E;cases E;obtain⟨f,_,_,_,_,_,_,_,ev,_⟩:=rep_lam.mp w;subst ev;refine AV (UC a c b bE U ⟨v,b,Z,r1,q1,q2⟩);subst q1 q2;obtain rfl:u=gI f:=r1;refine ZL (fnAt_lam Z w) c b ⟨B,H2,P,r,sm,J,d,N,g2,g3⟩ M;have Y:=w.mono sm.wo;refine(au (fnAt_lam P Y));refine J3 (wu (lo X.A dH s2 H2 us B Q rO qx f m cs J d hr.toL P.env0 r (LB sm).hdA h1 h2 h3 Y N g2 g3) (Ğ r s' o));cases r with
    | error e=>exact(o:cM).elim
    | ok fl=>
      cases fl with
      | ret u=>exact P.after o
      | next=>exact eG o
      | brk=>exact eG o
      | cont=>exact eG o
  cases j:K with
  | none=>rw[j]at h;cases h
  | some q=>
    rw[j]at h;have A:=ha q j;cases q with
    | ok l=>
      have n:callM F m cs l=ā L:=h;unfold callM at n;split at n
      · rename_i z
        split at n
        · rename_i d E
          cases n;exact(C A).weak fun c H Q eY=>by obtain⟨v,w,_⟩:=zi _ S;exact⟨O,W,v,R,w,O,W,R,fun B b s1 N=>⟨s1,_,d,N.strong Δ z,E,PH y g⟩⟩
        · cases n
      · cases n
section
variable {D:Dm} {O l:List Addr} {H:Hp}
def at_wo(d:LQ)(h:aU O b=Ö)(a:∀o c,u ≠ lM o c):Ô O kg b=Ö:=by
  obtain⟨f,e⟩:=cD h;rw[η f,cF (by obtain⟨o,g⟩:=d b z;rw[e]at g;cases g;exact a _ _ rfl)];exact e
mutual
theorem rep_wo(hl:LQ):∀{d:DV} {v:V},zw->aT bX->aT (Ô O kg)
  | .non,_,_,h=>gn
  | .bl _,_,_,h=>gn
  | dL,_,_,h=>gn
  | .str _,_,_,h=>gn
  | Κ,_,m,h=>by
    unfold Rep at h ⊢;obtain⟨a,xs,e1,e2,e3⟩:=h;unfold DV.nolam at m;refine⟨a,xs,e1,?_,repL_wo hl m e3⟩;rcases e2 with(h | ⟨o,h⟩) | h
    · exact yj (LR h)
    · exact ď (oH o (LR h))
    · exact ė h
  | ŋ,_,m,h=>by unfold Rep at h ⊢;obtain⟨a,xs,e1,e2,e3⟩:=h;unfold DV.nolam at m;exact⟨a,xs,e1,LR e2,repL_wo hl m e3⟩
  | yL,_,m,h=>by
    unfold Rep at h ⊢;unfold DV.nolam at m;rcases h with⟨a,ob,kvs,e1,e2,e3,e4⟩ | ⟨a,ob,kvs,e1,e2,e3,e4⟩
    · exact ď ZM
    · exact ė ZM
  | .fn _,_,_,h=>gn
  | yI,_,m,_=>xc DV.nolam m
  | .scr _,_,_,h=>by
    unfold Rep at h ⊢;obtain⟨a,e1,e2⟩:=h;refine(bx a e1);rcases e2 with⟨o,h⟩ | h
    · exact ď ⟨o,LR h⟩
    · exact ė h
theorem repL_wo(hl:LQ):Ps (m9 ds) (i8 bX->i8 (Ô O kg))
  | [],_,_,h=>Lm RepL
  | d::ds,_,m,h=>Zb lC (rep_wo hl m.1 e2) (repL_wo hl m.2 e3)
end
universe E_
section
variable {X:Cx} {pins:List (Addr×Obj)} {σ:St} {H:Hp} {s:Shared} {sc:Scope} {N ps:List Str}
def fc_mem(d:DK cq a (DM y.1))(h:cr (p7 b cq []) x=Ś):DM x=Ś/\uC cq:=by
  rcases DL d (eI h)with z | z
  · cases z
  · exact z
def fc_has(g:DK cq a (DM y.1))(f:uC cq)(d:DM x=Ś):cr (p7 b cq []) x=Ś:=by
  obtain⟨c',e⟩:=Ov (Kh f d);have:=(fc_mem g e).1;rw[d]at this;cases this;exact e
structure LamTx(N ps:ĥ)(sc:ù):Prop where
  kind:yw=on
  co:Dx=ă
  gen:Dw=ă
  nd:N.Nodup
  pre:mK τ=ps
  par:Ui
  nocell:Pq
  fre:∀i x,τ<=i->mw N->dB=jz
def LamTx.full(T:LamTx N ps sc)(I:Ĥ)(b:ES cq):LamScope N ps sc lQ (aD lQ) where
  kind:=T.kind
  co:=T.co
  gen:=T.gen
  nd:=T.nd
  pre:=T.pre
  par:=T.par
  nocell:=T.nocell
  fre:=T.fre
  has:=fun x h=>by have d:=eI h;obtain⟨c,e⟩:=b _ d rfl;exact⟨c,fc_has b d e⟩
  inj:=fun x y c g f=>I.ok.inj x y c (fc_mem b g).1 (fc_mem b f).1
  mem:=fun x c h=>eO _ (eI h)
def cells_of(I:Ĥ)(d:ES cq):Ic (∃x,mt/\uC cq):=fun c e=>by
  obtain⟨⟨x,c'⟩,b,rfl⟩:=Ő e;rcases DL d b with z | z
  · cases z
  · exact⟨x,z.1,z.2⟩
def Cells.of(I:Ĥ)(f:ES cq):Cells (aD lQ) Ė H where
  none:=fun c b=>by obtain⟨x,e,_⟩:=cells_of I f c b;exact Az e
  cel:=fun c b=>by obtain⟨x,e,_⟩:=cells_of I f c b;obtain⟨v,o,g,d⟩:=wa e;exact⟨o,v,g,d⟩
def cells_new(I:Ĥ)(h:ES cq)(d:Ox (X.fn y.1=true)):Ic Id:=fun c i=>by
  obtain⟨x,e,g⟩:=cells_of I h c i;have b:=I.ok.cab x c (d _ g rfl) e;refine⟨Dd (Gv b),mR⟩;rcases Ŀ (I.stkSub c z)with w | w
  · exact I.cne x c e w
  · obtain⟨_,o,f,_⟩:=I.ok.funs.mem w
    exact Da (aB f) b
universe E_
section
variable {X:Cx} {δ:List Sv} {ea eb bd:Expr} {pos p lp:Pos} {re:Re} {k:Nat} {x:Str} {pr:Arguments} {sc:Scope} {c P:Addr} {m:LamD} {cs:List DV} {fr:List Nat}
def tLam(X:Cx)(pr:dM)(bd:Expr)(sc:ù):TE:=ŷ _ (∀f H',mS->ao f->Ie H'->Q bE H')
def pe_lam(L:LS)(a:UQ=([],[])):PE X (.Lambda pr bd sc lp) (tLam X pr bd sc):=by
  intro b s σ H Q I h;exact lam_made I L a fun f d s' g sm e lf=>⟨bE,d,g,rfl,h f d sm e lf⟩
theorem cap_rep(R:gq):∀{b:Ġ} {cs:Ĩ},hZ b=qd->∃a:İ,bR=gX/\ij aH cs a/\∀(j i:Nat) v,Į b j i->Į a j v->t_ v
  | [],cs,h=>EL h ⟨[],rfl,by unfold RepL;rfl,fun j i v h=>ζ⟩
  | i::r,cs,h=>by
    unfold capD at h;split at h
    · rename_i d ds q p
      split at h
      · cases h
        obtain⟨a,l,k,g⟩:=cap_rep R p;obtain⟨v,o,n⟩:=zi d q;refine⟨v::a,by rw[ť,ť,l],ze v a n k,ν j m f e c⟩;cases j with
        | zero=>cases e;cases c;exact o
        | succ j=>exact g j m f e c
      · cases h
    · cases h
universe E_
section
variable {X:Cx} {δ:List Sv} {v:Expr} {te:TE} {pos kpos:Pos} {i:Int} {j:Nat}
def Inv.notSys(I:jw b)(h:ġ<=a):Av a:=by
  have:=ce (tm (Β:(1:Nat)<=bO) I.mod.glob.lt) (š (Gv I.sz) h);exact iF (pS this)
def at_off(c:Ï p (.dK []))(h:aU O b=Ö)(a:u ≠ .dK []):Ô O (aq p o) b=Ö:=by
  obtain⟨d,e⟩:=cD h;rw[η d,È (fun z=>by rw[z,c]at e;cases e;exact a rfl)];exact e
mutual
theorem rep_off{D:Dm}{O:ŀ}{H:Hp}{p:Addr}{o:HO}(hp:Ï p (.dK [])):∀{d:DV} {v:V},aT bX->aT (Ô O (aq p o))
  | .non,_,h=>gn
  | .bl _,_,h=>gn
  | dL,_,h=>gn
  | .str _,_,h=>gn
  | Κ,_,h=>by
    unfold Rep at h ⊢;obtain⟨a,xs,e1,e2,e3⟩:=h;refine⟨a,xs,e1,?_,LU e3⟩;rcases e2 with(h | ⟨o,h⟩) | h
    · exact yj (zx h)
    · exact ď (oH o (zx h))
    · exact ė h
  | ŋ,_,h=>Ll Rep a xs (zx e2) (LU e3)
  | yL,_,h=>by
    unfold Rep at h ⊢;rcases h with⟨a,ob,kvs,e1,e2,e3,e4⟩ | ⟨a,ob,kvs,e1,e2,e3,e4⟩
    · exact ď ZN
    · exact ė ZN
  | .fn _,_,h=>gn
  | dQ,_,h=>by
    unfold Rep at h ⊢;obtain⟨f,pr,bd,sc,q,cl,l,ws,e1,⟨c',oc,u,vs,t,pm,ctv,f1,f2,f3⟩,e3,e4,e5,g1,g2,g3⟩:=h;refine⟨f,pr,bd,sc,q,cl,l,ws,e1,⟨c',oc,u,vs,t,pm,ctv,zx f1,zx f2,f3⟩,e3,e4,LU e5,g1,Ĝ c hc,LV x⟩
    · obtain⟨o,v,k1,k2⟩:=g2 c hc
      exact⟨o,v,zx k1,k2⟩
    · obtain⟨c,o,u,k1,k2,k3⟩:=g3 i x v h1 h2
      exact⟨c,o,u,k1,zx k2,k3⟩
  | .scr _,_,h=>by
    unfold Rep at h ⊢;obtain⟨a,e1,e2⟩:=h;refine(bx a e1);rcases e2 with⟨o,h⟩ | h
    · exact ď ⟨o,zx h⟩
    · exact ė h
theorem repL_off{D:Dm}{O:ŀ}{H:Hp}{p:Addr}{o:HO}(hp:Ï p (.dK [])):Ps (i8 bX) (i8 (Ô O (aq p o)))
  | [],_,h=>Lm RepL
  | d::ds,_,h=>Ll RepL v vs (rep_off hp e2) (LU e3)
end
universe E_
def tDct2(x y:Str)(ta tb:TE):TE:=ŷ σ (∀a,ao a->ta σ (aq a (.dK [])) fun v H1=>tb σ H1 fun w H2=>H2 a=ā (.dK [])/\∀o,Q Ī (ZO o))
def pe_dct2{K:Expr}(B:x≠y)(ha:PE X L r)(C:PE X K n):PE X (.Dict [ā (BF aL J k),ā (BF (.str y) F i)] [L,K] pos) (tDct2 x y r n):=by
  intro a s c H Q I h;have hf:=A1;have E:=I.notSys ħ;have I0:lj a c (aq ġ (.dK [])) (dJ (ux Kj)):=
    Kb cW (fun b u e=>ű e) ħ ⟨cX,E,[],.nil,Heap.DictOf.new _⟩
  refine wpAny_Dict_walk (knd:=vY aj X.w) rfl rfl Ģ (A0 ((2:Nat)<=15)) ?_;refine ZQ x J k aL (r c f fun v f=>ZP v) I0 (h _ hf) s1;obtain⟨kx,f,I1,rk,e,q⟩:=t0;subst e;obtain⟨R,rfl⟩:=rk;refine Æ (ha a s1 c f _ I1 q) m s2 t0;obtain⟨O,g,I2,rv,Z⟩:=t0
  refine ZQ y F i (.str y) (ZP O) I2 Z W;obtain⟨kx,H3,I3,rk,e,q⟩:=t0;subst e;obtain⟨p,rfl⟩:=rk;refine thn (C a W c H3 _ I3 q) fun l U ⟨wx,N,M,A,hd,Y⟩=>pairTrees_nil_walk ?_
  obtain⟨z,ns',P,kv,dd⟩:=(show rC N U.heap ġ (.dK [])from M.hok _ _ hd);cases kv;have mg:merged [] [((ė x:Key),m),(ė y,l)]=UR:=merged_nil_of_nodup _ (by
    have:(Ap x:Key) ≠ ė y:=fun z=>B (by cases z;rfl)
    simpa using this)
  refine⟨UR,⟨US x R,rfl,US y p,rfl,p5⟩,dd,Ğ h' d S⟩;rw[mg]at d;obtain⟨o,es,ep,e,r'⟩:=id d;refine⟨bj,upd N ġ _,?_,rfl,Y o⟩;exact M.write (by rw[hd];trivial) Ð (fun b u C e=>S.extBut b u C e) ⟨o,e⟩ ⟨e,A0 (Ù (2:Nat)),E,UR,Ξ (bG rv) (Ξ (bG A) .nil),d⟩
def snd_dc2(J:x≠y)(f:Ì E P)(n:Ì C N)(h:(Χ E fun d c=>Χ C fun r K=>dc2D x y d r c K)=ā s) :
    ik (.Dict [ā (BF aL U I),ā (BF (.str y) S F)] [P,N] pos) s:=by
  cases j:E with
  | none=>rw[j]at h;cases h
  | some q=>
    rw[j]at h;have A:=f q j;cases q with
    | ok d c=>
      cases i:C with
      | none=>rw[i]at h;cases h
      | some L=>
        rw[i]at h;have B:=n L i;cases L with
        | ok r K=>
          have o:dc2D x y d r c K=ā s:=h;unfold dc2D at o;split at o
          · rename_i m
            obtain⟨c1,c2,_⟩:=m;cases o;refine(pe_dct2 J A B).weak fun σ H Q eY a f=>⟨O,W,P3,fun v H1 s1 g=>⟨O,W,(P3).mono s1,fun w H2 s2 Z=>⟨P4 aM,af M⟩⟩⟩
            have k:=P4 aM;have sm:Ú (ZO M):=fun b u e=>by have n:b≠a:=x3 e f;rw[È n];exact P4 (Ą (È n) e)
            have l:=(((P3).mono s1).hid).mono s2;have Y:=(g.stro (((P3).hid).mono s1) c1).mono s2.wo;exact p _ _ sm (rep_dct.mpr (ď ⟨a,M,_,rfl,Ą (BL (BY a z f)) aM,rfl,LW (rep_off k Y) (rep_off k (Z.stro l c2))⟩):ja _ (.dct [.s x,.s y] [d,r]) _)
          · cases o
structure Wk(D:Dm)(J:It)(ds:Ĩ)(Oc Oi:ŀ)(H1:Hp):Prop where
  go:∀i H,P5 Oc->i<œ->J.go i H
  same:∀i H x H',JR->mS
  yld:∀i H x H' d O2,P5 Oc->P5 Oi->JR->ĭ ds d->(∀a∈O2,H a≠none/\(a∈Oi\/H1 a=none))->Rep D (Ô O2 H') d x
  stop:∀H,P5 Oc->J.stop œ H
def hidW(O W:ŀ):Cl->ŀ
  | .top=>O
  | bp=>O
  | _=>O++W
def PostI(D:Dm)(O W:ŀ)(H:Hp)(R:It->cj):Œ Ri
  | .ok ds c=>∀J H',mS->Wk D J ds (xi c) (zf c) H'->R J H'
def dI(D:Dm)(δ:Ĕ)(r:Ri):TI:=fun σ H R=>∃O W,gq/\PostI D O W H R r
def PI.weak(h:wf a t)(k:∀b H R,t' b H R->t b H R):wf a t':=Lw c b R b H R
def wk_hid(s:Ig O c bX)(h:∀a∈d,H a≠none/\(a∈O\/c a=none)):Ig O c (aU d):=fun b o e=>by
  have q:=s b o e;obtain⟨f,e⟩:=cD e;obtain⟨_,q⟩:=cD q;rw[cF ?_]
  · exact q
  · rcases(h b z).2 with w | w
    · exact f w
    · rw[w]at e;cases e
def Wk.list(h:SqL D.K (Ô f b) a xs)(r:i8 (Ô c b)):Wk D (Itl D.K a) ds f c b where
  go:=ZS UT
  same:=P6 n
  yld:=ZR UT
  stop:=fun H s=>⟨xs,UT,Ą Ű ħ⟩
def Wk.tup(h:SqT D.K (Ô f b) a xs)(r:i8 (Ô c b)):Wk D (Itt D.K a) ds f c b where
  go:=ZS (BM (s.tseq h))
  same:=P6 n
  yld:=ZR (BM (s.tseq h))
  stop:=fun H s=>⟨xs,BM (s.tseq h),Ą Ű ħ⟩
def upTo_length(a:Int)(n:Nat):Ć (upTo a n)=n:=vi upTo ċ Μ
def upTo_get(h:ĭ (upTo a n) d):i<n/\d=.int (a+i):=by
  have b:i<n:=kh (gM h) upTo_length
  unfold upTo at h;rw[ō,wX b]at h;cases h;exact(bn b)
def Wk.range(a:Int)(n:Nat):Wk D (Itr a n) (upTo a n) h g j where
  go:=fun i H s b=>Ih upTo_length b b
  same:=P6 k
  yld:=ZT k f c (upTo_get e)
  stop:=fun H s=>Ą upTo_length ħ
def P7(hi:Int)(n:Nat):Ć (qc hi n)=n:=vi qc ċ Μ
def downTo_get{hi:Int}{n i:Nat}{d:DV}(h:ĭ (qc hi n) d):i<n/\d=.int (hi - i):=by
  have hl:i<n:=kh (gM h) P7
  unfold qc at h;rw[ō,wX hl]at h;cases h;exact(bn hl)
def Wk.down{D:Dm}{Oc Oi:ŀ}{H1:Hp}(hi:Int)(n:Nat):Wk D (Itd hi n) (qc hi n) Oc Oi H1 where
  go:=fun i H s h=>Ih P7 h h
  same:=P6 H'
  yld:=ZT H' e1 e2 (downTo_get e)
  stop:=fun H s=>Ą P7 ħ
def Got.walkL(g:fI f ŋ c v)(hd:eW f):oz xs (SqL D.K (aU (xi c)) a xs) (EA xs):=by
  cases c with
  | weak=>obtain⟨a,xs,e,d,b⟩:=xf g;exact P8
  | top=>obtain⟨a,xs,e,e0,d,b⟩:=g;exact P8
  | jM=>obtain⟨a,xs,e,d,b⟩:=xf g;exact P8
  | jL=>obtain⟨a,xs,e,d,b⟩:=xf (g.strong hd);exact P8
def Got.walkT(g:fI b Κ c v)(hd:eW b):oz xs (SqT D.K (aU (xi c)) a xs) (EA xs):=by
  cases c with
  | weak=>exact sR g
  | top=>
    obtain⟨a,xs,f,e,d⟩:=sR (g);exact⟨a,xs,f,(HK).tseq e,d⟩
  | jM=>exact sR g
  | jL=>obtain⟨_,_,_,_,q,_⟩:=g;cases q
def Got.walkS(g:fI f (.scr e) c v)(hd:eW f):∃a,v=Ī/\SqL D.K (aU (xi c)) a (e.map lJ):=by
  cases c with
  | weak=>obtain⟨a,d,b⟩:=HU g;exact⟨a,d,b.sq⟩
  | top=>obtain⟨a,d,b⟩:=HU (g);exact⟨a,d,(HK).seq b.sq⟩
  | jM=>obtain⟨a,d,b⟩:=HU g;exact⟨a,d,b.sq⟩
  | jL=>obtain⟨_,_,_,_,q,_⟩:=g;cases q
def snd_iter(s:Ì l e)(h:ax l=ē):wf e (zy o):=by
  cases g:l with
  | none=>rw[g]at h;cases h
  | some q=>
    rw[g]at h;have A:=s q g;cases q with
    | ok d c=>
      obtain⟨ds,b,f⟩:=Θ (h);cases f;unfold seqD at b;split at b
      · cases b
        exact(pi_list A).weak fun n H r eY=>⟨O,W,R,fun v j s1 i=>by
          obtain⟨a,b,f⟩:=i.walkS Δ;exact⟨a,b,⟨_,wo_le.seq f⟩,qA j (.list f (repL_ints _))⟩⟩
      · cases b
        exact(pi_list A).weak fun n H r eY=>⟨O,W,R,fun v j s1 i=>by
          obtain⟨a,k,b,f,m⟩:=i.walkL Δ;exact⟨a,b,⟨k,wo_le.seq f⟩,qA j (.list f m)⟩⟩
      · cases b
        exact(pi_tup A).weak fun n H r eY=>⟨O,W,R,fun v j s1 i=>by
          obtain⟨a,k,b,f,m⟩:=i.walkT Δ;exact⟨a,b,⟨k,BM f⟩,qA j (ģ f m)⟩⟩
      · cases b
def Ii(h:gh i=true) : uk i/\i<2^62:=by
  unfold gh at h;simpa[Ĉ]using h
def walk_rng(h:qF (o.map fun a=>jS (.lst a) ĵ) b):∃a,o=eF/\b=.ok a ĵ:=by
  cases o with
  | none=>cases h
  | some a=>cases h;exact(u6 a)
def snd_range1{X:Cx}{δ:Ĕ}{tg e:Expr}{pos p:Pos}{rs:ĕ Rs}{ri:Ri}(hg:Gl X kZ)(hm:mH kZ)(ha:lN rs [e])(hs:gr)(h:UV)(hl:∀l,rs=uK->Ň=1) :
    GJ [e] (zy ri):=by
  have C:=fun t (hA:PA X [e] t)=>pi_range1 (tg:=tg) (p:=p) (pos:=pos) hg hm hA (Ω hs)
  cases hrs:rs with
  | none=>rw[hrs]at h;cases h
  | some q=>
    rw[hrs]at h;have A:=ha q hrs;cases q with
    | ok l=>
      have l1:=hl l hrs;obtain⟨ds,e1,e2⟩:=UU;cases e2;unfold rngD at e1;split at e1
      · rename_i j c
        split at e1
        · rename_i m
          cases e1;rw[Ĉ]at m;have q:=Ii m.1;exact(C _ A).weak fun σ H R' eY=>⟨O,W,R,fun vs H1 s1 g1=>by
            obtain⟨v,rfl,gv⟩:=g1.one;exact⟨j,ų (gv.int Δ),q.1,q.2,qA H1 (.range _ _)⟩⟩
        · cases e1
      · cases l1
      · cases l1
      · cases e1
def snd_range2{X:Cx}{δ:Ĕ}{tg e e':Expr}{pos p:Pos}{rs:ĕ Rs}{ri:Ri}(hg:Gl X kZ)(hm:mH kZ)(ha:lN rs [e,e'])(hs:gr)(hs':fH e'=ă)(h:UV)(hl:∀l,rs=uK->Ň=2) :
    GJ [e,e'] (zy ri):=by
  have C:=fun t (hA:PA X [e,e'] t)=>pi_range2 (tg:=tg) (p:=p) (pos:=pos) hg hm hA (fA (Ω hs) (Ω hs')) (Ω hs')
  cases hrs:rs with
  | none=>rw[hrs]at h;cases h
  | some q=>
    rw[hrs]at h;have A:=ha q hrs;cases q with
    | ok l=>
      have l1:=hl l hrs;obtain⟨ds,e1,e2⟩:=UU;cases e2;unfold rngD at e1;split at e1
      · cases l1
      · rename_i i c j c'
        split at e1
        · rename_i m
          cases e1;rw[Ĉ,Ĉ]at m;have q:=Ii m.1.1;have q':=Ii m.1.2;exact(C _ A).weak fun σ H R' eY=>⟨O,W,R,fun vs H1 s1 g1=>by
            obtain⟨v,v',rfl,gv,gv'⟩:=g1.two;exact⟨i,j,ţ (gv.int Δ) (gv'.int Δ),⟨q.1,q.2,q'.1,q'.2⟩,qA H1 (.range _ _)⟩⟩
        · cases e1
      · cases l1
      · cases e1
def snd_range3{X:Cx}{δ:Ĕ}{tg e e':Expr}{pos p:Pos}{rs:ĕ Rs}{ri:Ri}{e'':Expr}(hg:Gl X kZ)(hm:mH kZ)(ha:lN rs [e,e',e''])(hs:gr)(hs':fH e'=ă)(hs'':fH e''=ă)(h:UV)(hl:∀l,rs=uK->Ň=3) :
    GJ [e,e',e''] (zy ri):=by
  have C:=fun t (hA:PA X [e,e',e''] t)=>pi_range3 (tg:=tg) (p:=p) (pos:=pos) hg hm hA (nH (Ω hs) (Ω hs') (Ω hs'')) (fA (Ω hs') (Ω hs''))
  cases hrs:rs with
  | none=>rw[hrs]at h;cases h
  | some q=>
    rw[hrs]at h;have A:=ha q hrs;cases q with
    | ok l=>
      have l1:=hl l hrs;obtain⟨ds,e1,e2⟩:=UU;cases e2;unfold rngD at e1;split at e1
      · cases l1
      · cases l1
      · rename_i i c j c' k c''
        split at e1
        · rename_i m
          cases e1;rw[Ĉ,Ĉ,Ĉ,ak,ak]at m;have q:=Ii m.1.1.1;have q':=Ii m.1.1.2;have k1:=m.2;subst k1;exact(C _ A).weak fun σ H R' eY=>⟨O,W,R,fun vs H1 s1 g1=>by
            obtain⟨v,v',v'',rfl,gv,gv',gv''⟩:=g1.three;exact⟨i,j,by rw[gv.int Δ,gv'.int Δ,gv''.int Δ],⟨q.1,q.2,q'.1,q'.2⟩,qA H1 (.down _ _)⟩⟩
        · cases e1
      · cases e1
def gNames:Ġ->TGs
  | []=>gNil
  | i::is=>gCons (gName i) (gNames is)
def gT(K:į):Tg->TG
  | .one i=>gName i
  | jP is=>gTup K Ew (gNames is)
def RSt.setVal(R:gq)(r:aT aH)(i:Nat):nE H (yb v) (eT dP) where
  val:=fun j u h=>by
    by_cases e:j=i
    · subst e
      have c:=Ls;rw[rD c]at h;cases h;exact⟨v,rD (Ą R.len c),r⟩
    · rw[bP e]at h ⊢
      exact R.val j u h
  own:=fun j l h=>by
    by_cases e:j=i
    · subst e
      have c:=Ls;rw[rD c]at h;cases h
    · rw[bP e]at h ⊢
      exact BZ l
  inj:=fun j k a f q b g n m=>by
    have ne:∀{j:Nat} {f:DV},Į (eT dP) j (.own f)->j≠i:=fun {j f} b z=>by
      subst z;have c:j<Hc:=kh (gM b) sf
      rw[rD c]at b;cases b
    have p:=ne b;have o:=ne g;rw[bP p]at b n;rw[bP o]at g m;exact LX f q b g n m
  od:=HN (od_set _ UX) h _ _ _ h
  len:=UW
  hid:=R.hid
theorem setAll_ok:∀{g:Ġ} {j:Ĩ} {f:İ} {c:St} {e a:Ĕ},nE H c e->ij aH j f->setAll e g j=eF->(∀b,nE H b a->Q b H)->gNames g f c H Q
  | [],[],f,c,e,a,R,r,h,q=>EL h ⟨xa r,q c R⟩
  | i::g,d::j,f,c,e,a,R,r,h,q=>by obtain⟨v,k,n,m,l⟩:=o9 r;exact⟨v,k,n,setAll_ok (R.setVal m i) l h q⟩
  | [],_::_,_,_,_,_,_,_,h,_=>ζ
  | _::_,[],_,_,_,_,_,_,h,_=>ζ
theorem P9:∀{is:Ġ} {f:Ĩ} {e c:Ĕ},setAll e is f=Ś->Ew=f.length/\ie=e.length
  | [],[],_,_,h=>EL h pJ
  | i::is,d::f,e,c,h=>by obtain⟨a,b⟩:=P9 (is:=is) h;exact⟨by rw[ť,ť,a],ţ b sf⟩
  | [],_::_,_,_,h=>ζ
  | _::_,[],_,_,h=>ζ
def bind_ok(R:gq)(r:Rep D aH d x)(h:oV δ=Ś)(q:∀b,nE H b c->Q b H):gT D.K tg x σ H Q:=by
  cases tg with
  | one i=>cases h;exact q _ (R.setVal r i)
  | many is=>
    unfold Tg.bind at h;dsimp at h;split at h
    · rename_i ds
      obtain⟨a,f,j,g,e⟩:=sR r;exact⟨a,f,j,BM g,ţ e.length (P9 h).1,setAll_ok R e h q⟩
    · cases h
def RSt.less(R:nE H σ b)(f:Hc=gX)(h:∀(i:Nat) c,ω = Ś->c=.no\/ĭ b c):gq where
  val:=fun i d e=>by
    rcases h i _ e with z | z
    · cases z
    · exact zi d z
  own:=fun i d e=>by
    rcases h i _ e with z | z
    · cases z
    · exact BO d z
  inj:=fun i j a d k e g=>by
    rcases h i _ e with z | z
    · cases z
    · rcases h j _ g with y | y
      · cases y
      · exact R.inj i j a d k z y
  od:=R.od.step (fun j d e=>by
    rcases h j _ e with z | z
    · cases z
    · exact(bn z)) (fun _ h _=>h) (fun _ _ _ h _=>h)
  len:=Ą f R.len
  hid:=R.hid
def setAll_less:ZU (∀i∈is,ĭ b .no\/jq b i) (∀(i:Nat) sv,ĭ b sv->sv=.no\/ĭ a sv)
  | [],[],_,_,h,_,i,sv,e=>by cases h;exact ė e
  | j::is,d::f,b,a,h,p,i,sv,e=>by
    by_cases c:i∈j::is
    · rcases p i c with z | z
      · rw[z]at e;cases e;exact Ð
      · rw[z]at e;cases e
    · have o:j≠i:=fun z=>c (Ą z Υ)
      have n:=fun z=>c (Ŕ z)
      have g:ZU (i∉is) (ĭ b sv->ĭ a sv):=by
        intro is
        induction is with
        | nil=>intro f b a h _ e;cases f with
          | nil=>cases h;exact e
          | cons _ _=>cases h
        | cons k is m=>intro f b a h l e;cases f with
          | nil=>cases h
          | cons d f=>
            refine m h (fun z=>l (Ŕ z)) ?_;rw[Uq (fun z=>l (Ą z Υ))];exact e
      exact ė (g h c e)
  | [],_::_,_,_,h,_,_,_,_=>ζ
  | _::_,[],_,_,h,_,_,_,_=>ζ
def bind_less(h:oV δ=ā δ')(b:∀i∈tgSlots tg,ω = ā .no\/ω = none):Hc=δ'.length/\∀(i:Nat) sv,ω = ā sv->sv=.no\/ĭ δ' sv:=by
  cases tg with
  | one j=>
    cases h;refine⟨(sf ..).symm,Ğ i sv e⟩;by_cases a:i=j
    · subst a
      rcases b i (aC tgSlots)with z | z
      · rw[z]at e;cases e;exact Ð
      · rw[z]at e;cases e
    · exact ė (Ą (bP a) e)
  | many is=>
    unfold Tg.bind at h;dsimp only at h;split at h
    · exact⟨(P9 h).2.symm,setAll_less h b⟩
    · cases h
theorem RSt.inner(R:gq)(fr:mT)(B:P_):nE H (L2.inner fr σ) EU:=by
  have c:∀(j:Nat) x,Į EU j x->x ≠ .no->∃i,Į fr j _/\ω = cS:=fun j x h L=>by
    unfold mX at h;rw[ō]at h;cases q:fr[j]? with
    | none=>rw[q]at h;cases h
    | some o=>
      rw[q]at h;cases o with
      | none=>cases h;exact pY L
      | some i=>
        refine(Á i ?_);have C:OR=x:=Ķ h
        rw[Ħ]at C;cases z:ω with
        | none=>rw[z]at C;exact ĸ C.symm L
        | some P=>
          rw[z]at C;exact oy some C
  have f:∀(j i:Nat) (v:V),Į fr j eJ->t_ v->Į (L2.inner fr σ) j dw:=fun j i v q e=>by unfold L2.inner;rw[ō,q];simp[e]
  refine⟨nK,nK,fun j k a d E S Q r p=>?_,nK,?_,R.hid⟩
  · obtain⟨i,m,n⟩:=c j _ h dh
    obtain⟨v,r,p⟩:=zi d n;exact⟨v,f j i v m r,p⟩
  · obtain⟨i,m,n⟩:=c j _ h dh
    obtain⟨a,K,M,F,r,p⟩:=BO d n;exact⟨a,K,M,F,f j i _ m r,p⟩
  · obtain⟨i,m,n⟩:=c j _ S dh
    obtain⟨A,g,l⟩:=c k _ Q dh;obtain⟨b,K,M,_,I,_⟩:=BO d n;obtain⟨b',N,U,_,w,_⟩:=R.own A E l;have y:=f j i _ m I;have J:=f k A _ g w;rw[r]at y;rw[p]at J;cases y;cases J;have:=R.inj i A a d E n l I w;subst this;exact B j k i m g
  · obtain⟨i,m,n⟩:=c j _ h dh
    obtain⟨⟨a,o,F,r,p⟩,u⟩:=R.od i d n;refine⟨⟨a,o,F,f j i _ m r,p⟩,Ğ k E z⟩;obtain⟨A,g,l⟩:=c k _ z dh;rw[u A E l]at g;exact B k j i g m
  · unfold L2.inner mX;rw[ċ,ċ]
section
variable {X:Cx} {δ:List Sv} {iter elt tgE:Expr} {ifs:List Expr} {pos:Pos} {N':List Str} {scope:Scope} {fr:List (Option Nat)} {tg:Tg} {ri:Option Ri} {re:Re}
def compW_ok{Q:VK}(w:Wk D J ds (xi c) (zf c) F)(X:eW H)(hc:qg c)(R:nE F σ o)
    (hn:∀i∈tgSlots tg,ĭ o .no\/jq o i) (hz:Ù œ) (hx:jQ g ds=ā xs) (s1:Ú F)
    (step:∀d S,d∈ds->g d=ā S->∃b,oV o=lD/\∀j l,Same F l->nE l j b->∀K:GA,(S=.skip->∀m,Same l m->K ă m)->(∀x,S=.item x->∀m,Same l m->K true m)->tc j l K)
    (C:∀d x,d∈ds->g d=ā (.item x)->∀b,oV o=lD->∀j l,Same F l->nE l j b->∀K:VK,(∀v m,Same l m->Rep D (nB m) x v->K v m)->te j l K)
    (Y:EC r (HJ H r k6 ĵ v)) :
    CompW J (gT D.K tg) tc te (fun M r=>∀p,r p=none->oF p r (.lst M)) σ F:=by
  have ci:zf c=O++W:=by cases c<;>first | rfl | exact pY hc
  rw[ci]at w;refine⟨fun i n M j r=>n=œ - i/\i<=œ/\M.length<=i/\nE r j o/\Same F r/\∃f rest,jQ g (ds.drop i)=ā rest/\f++rest=xs/\ij (nB r) f M,
    ⟨œ,rfl,cX,cX,R,fy _,[],xs,hx,rfl,vd⟩,?_⟩
  rintro i n M σ2 l ⟨rfl,hi',hy,R2,s2,f,rest,h1,h2,r2⟩
  by_cases k:i<œ
  · refine ė ⟨w.go i l s2.wo k,tm hy (ce k hz),Ğ N m y⟩
    have A:=w.same i l N m y;have y3:=w.yld i l N m _ qx s2.wo s2.wo y (Ľ k) fun a ha=>⟨R2.hid.ot a ha,ď ha⟩
    rw[List.drop_eq_getElem_cons k]at h1;have U:=jV k;unfold jQ at h1;split at h1
    · cases h1
    · rename_i q
      obtain⟨b,I,Z⟩:=step _ _ U q;refine ZV
      have h:=bind_less I hn;refine Z u m (zk A) L _ (Ğ _ H4 B) (AB x z);show ĩ wz _ _
      rw[oA];exact⟨œ - ü,Ę,rfl,k,Nat.le_succ_of_le hy,(L.less h.1 h.2).mono B,Ţ (zk A) B,f,rest,h1,h2,r2.mono (A.trans B).wo⟩
    · rename_i x q
      split at h1
      · cases h1
      · rename_i E q'
        cases h1;obtain⟨b,I,Z⟩:=step _ _ U q;refine ZV
        have h:=bind_less I hn;refine Z u m (zk A) L _ EQ (Ļ N z H4 B);cases z;show ĩ (true=true) _ _
        rw[js];refine C _ x U q b I u H4 (Ţ (zk A) B) (L.mono B) _ (Ļ v H5 P rv)
        exact⟨œ - ü,Ę,rfl,k,mQ Â oI,(L.less h.1 h.2).mono (B.trans P),Ţ (Ţ (zk A) B) P,f++[x],E,q',Ą wA h2,
          (r2.mono (Ţ (A.trans B) P).wo).append (RepL.one rv)⟩
  · have e:i=œ:=Ę
    subst e;rw[List.drop_length]at h1;cases h1;rw[fv]at h2;subst h2;have s0:=o_;refine ď ⟨w.stop l s2.wo,fun p hp=>Y _ _ (s0.trans (jZ hp)) ?_⟩;exact zh (X.mono s0) hp r2
def PE.any{t:ι->TE}(h:∀k,PE Y e (t k)):PE Y e UY:=Qa Q
def PTs.any{t:ι->TT}(h:∀k,PTs Y es (t k)):PTs Y es UY:=Qa Q
def Rc.of_item(h:Rc.of r=ā (.item x)):∃c,r=ā (.ok x c)/\stro x c=true:=by
  unfold Rc.of at h;split at h
  · rename_i d c
    split at h
    · rename_i m;cases h;exact(Á c m)
    · cases h
  · cases h
def Rc.of_skip(h:Rc.of r=ā .skip):cM:=by
  unfold Rc.of at h;split at h
  · split at h<;>cases h
  · cases h
def innerD_no{i:Nat}(h:ĭ fr none):ĭ EU .no:=by
  unfold mX;rw[ō,h];rfl
def CompParts(X:Cx)(δ:Ĕ)(tgE iter:Expr)(ifs:û)(elt:Expr)(Ŋ:ù)(N':ĥ)(fr:mT)(tg:Tg)(re:Re):Prop:=
  ∃(wi:TI) (tc:TT) (te:TE),PI X tgE iter wi/\(Oz cells s₂ H₂ N' ifs tc)/\(G6 cells s₂ H₂ N' te) /\
    Pv re (tComp fr wi B0 tc te σ H Q)
def fold_of(b:lK a=ă):∀x,NZ a env x=pure x:=by cases a<;>first | (intro _;rfl) | cases b
def CompParts.pe(P:UZ ifs)(S:wF N' Ŋ)(e:bf)(f:DQ a b d N' tgE B0)(c:lK iter=ă) :
    j_ (DN tgE iter ifs):=by
  obtain⟨wi,tc,te,j,i,h,g⟩:=P;exact(pe_comp S e j f i h (fold_of c)).weak g
def RSt.noNames(R:gq)(fr:mT):RSt D H (L2.inner fr σ) (mX fr []) O []:=by
  have c:∀(j:Nat) e,Į (mX fr []) j e->e=.no:=fun j e h=>by
    unfold mX at h;rw[ō]at h;cases q:fr[j]? with
    | none=>rw[q]at h;cases h
    | some o=>
      rw[q]at h;cases o with
      | none=>cases h;rfl
      | some i=>cases h;rfl
  refine⟨U0,U0,fun j k a d d' f h2 e1 e2=>(eP (c j _ f)),U0,?_,?_⟩
  · unfold L2.inner mX;rw[ċ,ċ]
  · exact⟨fun a b=>BY a (Ih fv b (fh b)),fy _,sj a b,sj a b,R.hid.om⟩
def snd_comp_parts{a:Ĕ->Ŝ}(S:wF N' Ŋ)(hc:bf)(P:P_)(B:U2)(E:U1 tgE iter)
    (hG:DQ b e f N' tgE B0) (he:∀δ' r,a δ'=Ü->G6 b e f N' (dE X.D δ' r))
    (h:(Ri.thn ri fun n c=>Z0)=Ó):UZ []:=by
  cases u:ri with
  | none=>rw[u]at h;cases h
  | some q=>
    rw[u]at h;have A:=E q u;refine⟨_,_,_,A,(fun C b e f fp=>pts_nil),(Z1 b e f (a p.1)),?_⟩;cases q with
    | ok n c=>
      have l:Z0=Ó:=h;split at l
      · split at l
        · rename_i m
          obtain⟨rfl,ml⟩:=m;unfold compEndW at l;split at l
          · cases l
          · rename_i xs N
            cases l;refine nF σ J H1 w ?_
            have w':Wk X.D J n (hidW O [] Ē) (itemHid O [] Ē) H1:=(by show Wk X.D J n (O++[]) (O++[]) H1;rw[fv];exact w);have F:Hid O [] H H:=(R.noNames fr).hid;refine compW_ok (tg:=tg) (D:=X.D) (O:=O) (W:=[]) w' F dh ((eX).noNames fr) ZZ (ED Ă) N s1 (Ļ d L U g) ZY (fun v H' s' g'=>p v H' s' ?_)
            · cases o:oV (mX fr [])with
              | none=>rw[o]at g;cases g
              | some δ'=>
                rw[o]at g;refine ZX;cases L with
                | skip=>exact(Rc.of_skip g).elim
                | item x=>exact M x rfl I (fy _)
            · rw[o]at g
              obtain⟨cl,e1,e2⟩:=Rc.of_item g;exact(ZW [])
            · show ja (Ô O H') _ v
              have:=Got.strong g' (F.mono s');rw[fv]at this;exact this
        · cases l
      · rename_i m
        rw[not_or]at m;unfold compEnd at l;split at l
        · cases l
        · rename_i xs N
          cases l;refine nF σ J H1 w ?_
          refine compW_ok (tg:=tg) (D:=X.D) w R.hid m.1 ((eX).inner fr P) ZZ (ED Ă) N s1 (Ļ d L U g) ZY p
          · cases o:KH with
            | none=>rw[o]at g;cases g
            | some δ'=>
              rw[o]at g;refine ZX;cases L with
              | skip=>exact(Rc.of_skip g).elim
              | item x=>exact M x rfl I (fy _)
          · rw[o]at g
            obtain⟨cl,e1,e2⟩:=Rc.of_item g;exact(ZW W)
def snd_compi_parts{f:Ĕ->Ŝ}{l:Ĕ->ĕ Rt}(S:wF N' Ŋ)(hc:bf)(I:P_)(F:U2)(L:U1 tgE iter)
    (hG:DQ a b e N' tgE B0) (he:∀δ' r,f δ'=Ü->G6 a b e N' (dE X.D δ' r))
    (Y:∀δ' r,l δ'=Ü->∀C a b e fp,PT (Ko N' C a b e) n (dT X.D δ' r))
    (h:(Ri.thn ri fun z c=>Z3)=Ó):UZ [n]:=by
  cases o:ri with
  | none=>rw[o]at h;cases h
  | some q=>
    rw[o]at h;refine⟨_,_,_,(L q o),(fun C a b e fp=>PTs.any (ι:={p:Ĕ×Rt // l p.1=AN}) (t:=fun k=>dT X.D k.1.1 k.1.2) fun k=>pts_one (Y k.1.1 k.1.2 k.2 C a b e fp)),
      (Z1 a b e (f p.1)),?_⟩
    cases q with
    | ok z c=>
      have y:Z3=Ó:=h;split at y
      · cases y
      · rename_i m
        rw[not_or]at m;unfold compEnd at y;split at y
        · cases y
        · rename_i xs U
          cases y;refine nF σ J H1 w ?_
          refine compW_ok w R.hid m.1 ((eX).inner fr I) (Ĵ L (ď (innerD_no (F i L)))) (ED Ă) U s1 (Ļ d M Z s) (fun d x Z s δ' B E H2 s2 R2 K hK=>?_) p
          · cases B:KH with
            | none=>rw[B]at s;cases s
            | some δ'=>
              rw[B]at s;have g:Z2=ā M:=s;refine(Á δ' (fun E H2 s2 R2 K P N=>?_));unfold Rc.test at g;split at g
              · rename_i q
                refine⟨qG δ' Bh q,O,W,R2,Ĝ A u⟩;cases M with
                | skip=>exact(Rc.of_skip g).elim
                | item x=>exact N x rfl A u
              · rename_i q
                cases g;exact⟨qG δ' yM q,O,W,R2,fun A u=>P rfl A u⟩
              · cases g
          · rw[B]at s
            have g:Z2=ā (.item x):=s;unfold Rc.test at g;split at g
            · obtain⟨cl,e1,e2⟩:=Rc.of_item g
              exact⟨qG δ' (.ok x cl) e1,O,W,R2,fun v A u g3=>hK v A u (g3.stro (R2.hid.mono u) e2)⟩
            · cases g
            · cases g
universe E_
def Inv.turnedL{ch:ŀ}(I:jw a)(k:∀b o,b∉ch->NJ)(g:∀b∈ch,FpOk X a H b):lA a H (jX h' t'):=by
  have f:∀b u,H b=Ö->b∉ch:=fun b u e z=>jb (g b z).1 e e
  refine I.step (ch:=ch) (cQ j) (fun b o _ _ d e _=>k b o d e) (fun b o _ _ d e _=>⟨o.slots,k b o d e⟩) (fun _ _ _ _ n=>n)
    (bh d ⟨o,k b o d e⟩) x_ (pM e e) x_ (Ĝ m i) (k_ u) I.bare
  · obtain⟨_,x,_,w,p,l⟩:=g b j
    exact⟨w,x,p,l⟩
  · obtain⟨o,y,A,h,r⟩:=i
    exact⟨o,y,A,k _ o (fun z=>(g _ z).2.1 rfl) h,r⟩
  · refine W7 d
    rcases d with z | z
    · rw[z];exact f b u e
    · exact f c _ z
def SqD(t:Bool)(K:į)(H:Hp)(a:Addr)(xs:İ):Prop:=OL yk (rM K)
def Same.sqd{K:į}(e:Ú b)(h:EV t):SqD t K b a xs:=by
  cases t
  · exact e.seq h
  · exact e.tseq h
def Inv.sqd(I:jw c)(h:SqD t X.K H a xs):∃b:ŉ,Vals xs b/\SqK t Ė a b.toArray:=by
  cases t
  · obtain⟨b,d,p,_⟩:=rN h
    exact⟨b,d,p.isList⟩
  · obtain⟨b,d,p,_⟩:=pR h
    exact⟨b,d,p⟩
def Inv.sqd_inj(I:jw b)(h:SqD t X.K H a xs)(d:SqD t X.K H a c):xs=c:=by
  cases t
  · exact I.list_inj h d
  · exact I.tuple_inj h d
def itK(t:Bool)(h:Heap)(ia la:Addr)(k:Nat):Prop:=OL (h.IsListIter ia la k) (h.IsTupleIter ia la k)
def sK_mk(p:itK t h b a k)(q:SqK t h a vs):sK t b a vs k h:=by
  cases t<;>exact DR
def sK_it(p:sK t b a vs k h):itK t h b a k:=by
  cases t<;>exact p.1
def itK_at(p:itK t h a b k)(e:AK a (c.get? a)):itK t c a b k:=by
  cases t
  · exact Heap.IsListIter.at p e
  · obtain⟨o,z,r⟩:=p;exact⟨o,e o z,r⟩
def EW(p:itK t h a c k):∃o b,aA a/\aN=bM b:=by
  cases t
  · obtain⟨o,e,_,d⟩:=p;exact⟨o,_,e,d⟩
  · obtain⟨o,e,_,d⟩:=p;exact⟨o,_,e,d⟩
def SqK.lt(p:SqK t h a vs):a<mn:=by
  cases t
  · obtain⟨o,e,_⟩:=p;exact Ι
  · obtain⟨o,e,_⟩:=p;exact Ι
def Itz(K:į)(t1 t2:Bool)(a b:Addr):It:=
  ⟨Ĵ H (∃xs ys x y,EV t1/\SqD t2 K H b ys/\mj/\ĭ ys y),
   Dq (∃p v u,x=fj/\iR/\(∀xs,EV t1->ĭ xs v)/\(∀ys,SqD t2 K H b ys->ĭ ys u)/\H'=B1 p v u),
   Ĵ H (∃xs ys,EV t1/\SqD t2 K H b ys/\(Ä<=i\/AY<=i))⟩
def turn_zip{P:ř}{w:ł}{K:į}{k:Nat}{pos:Pos}{z TI TO A r l1 l2:Addr}(Q O:Bool)(D:ZipApart z TI TO A r l1 l2) :
    Turn P w K (Qc pos) (Itz K Q O l1 l2) Qb z (Ĵ h (IsZip h z TI TO Ĺ/\wI h TI (Č A) (Č r)/\(∃a b,wI h TO a b)/\itK Q h A l1 i/\itK O h r l2 i)) where
  mem:=Ģ
  obj:=fun i h st b f=>by
    obtain⟨B,g,⟨a,Z,j⟩,F,C⟩:=st;simp only[i6,qo,qm]at f;rcases f with rfl | rfl | rfl | rfl | rfl
    · exact(zE B q)
    · exact(zE g q)
    · exact(zE j q)
    · obtain⟨o,xs,e,d⟩:=EW F;exact(JS q)
    · obtain⟨o,xs,e,d⟩:=EW C;exact(JS q)
  keep:=fun i h h' st q=>by obtain⟨B,g,⟨a,Z,j⟩,F,C⟩:=st;exact⟨q z Ģ _ B,q TI Ģ _ g,⟨a,Z,q TO Ģ _ j⟩,U5 F A,U5 C r⟩
  item:=by
    intro X hP hw hK hc i m s σ H E I W st hg;subst hP hw hK;obtain⟨B,g,⟨a,Z,j⟩,F,C⟩:=st;obtain⟨xs,ys,x,y,S,R,U,hy⟩:=hg;obtain⟨a8,rv,p⟩:=I.sqd S;obtain⟨M,J,p2⟩:=I.sqd R;obtain⟨u,hu,ru⟩:=rv.get U;obtain⟨u2,b0,a0⟩:=J.get hy;refine next_item D (src_k Q D.l1i1) (src_k O D.l2i2) B g j (sK_mk F p) (sK_mk C p2) (x:=u) (y:=u2) (Ķ hu) (Ķ b0) fun h' a1 a2 a3 a4 a5 a6 Y=>DW
    refine wpAny_letOwnedTupleGo_zip a1 (Ğ L a9 l)
    have N:ġ≠z:=pS (aB B);have keep:∀b o,b∉Qb->cP->L.get? b=ē:=fun b o f e=>
      Be zC (Y b o zC zC zC zC e)
    have I1:lA m H (dJ L):=EX cW keep W;have hn:ao ġ:=A1;have f5:=I.fpOk ħ hn;have h0:Go ġ=none:=Dd I.sz;have I2:lA m (B1 ġ x y) (dJ L):=U4 hn h0 f5 hq
      (U3 u u2 ru a0 (Be N a5))
    refine⟨bj,_,I2,rfl,⟨_,x,y,rfl,hn,fun xs' e=>Ą (I.sqd_inj e S) U,fun ys' e=>Ą (I.sqd_inj e R) hy,rfl⟩,
      ⟨a9,Be D.TIz (Y _ _ D.TIz D.TITO D.TIi1 D.TIi2 g),⟨_,_,Be D.TOz a2⟩,itK_at (sK_it a3) (fun o e=>Be D.i1z e),itK_at (sK_it a4) (fun o e=>Be D.i2z e)⟩,cQ f⟩
    have lt:∀b∈Qb,b≠ġ:=fun b f=>by
      simp only[i6,qo,qm]at f;rcases f with rfl | rfl | rfl | rfl | rfl
      · exact jv N
      · exact Ñ (aB g)
      · exact Ñ (aB j)
      · obtain⟨o,_,e,_⟩:=EW F;exact Ñ Ι
      · obtain⟨o,_,e,_⟩:=EW C;exact Ñ Ι
    rw[È (lt b f)];exact(W b f).1
  done:=by
    intro X hP hw hK hc i m s σ H E I W st hg;subst hP hw hK;obtain⟨B,g,⟨a,Z,j⟩,F,C⟩:=st;obtain⟨xs,ys,S,R,U⟩:=hg;obtain⟨a8,rv,p⟩:=I.sqd S;obtain⟨M,J,p2⟩:=I.sqd R;have e1:=Di;have e2:=qH;refine next_stop (iL hc) D (src_k Q D.l1i1) (src_k O D.l2i2) B g j (sK_mk F p) (sK_mk C p2) (by
      rcases U with q | q
      · left;simp;omega
      · right;simp;omega) fun h' Y=>bG (EX cW (ch:=Qb) (bh f (Y b o zC zC zC zC e)) W)
  self:=lq _ st (wpAny_pyIter_zip st.1 h)
theorem zpD_length:∀(b a:Ĩ),Ć (zpD b a)=min gX bR
  | [],a=>aC zpD
  | _::_,[]=>aC zpD
  | x::b,y::a=>by rw[zpD,ť,zpD_length b a,ť,ť];omega
theorem zpD_get:∀{b a:Ĩ} {i:Nat} {d:DV},ĭ (zpD b a) d->∃x y,mw b/\ĭ a y/\d=ģ [x,y]
  | [],_,_,_,h=>by simp[zpD]at h
  | _::_,[],_,_,h=>by simp[zpD]at h
  | x::b,y::a,0,d,h=>by simp[zpD]at h;exact⟨x,y,rfl,rfl,h.symm⟩
  | x::b,y::a,i+1,d,h=>by rw[zpD,List.getElem?_cons_succ]at h;simpa using zpD_get h
def hidW_meetL:mv (xi (G' d)) (xi c):=by
  cases c<;>cases d<;>intro b a<;>first | exact a | exact fh a
def hidW_meetR:mv (xi (G' a)) (xi a):=by
  cases c<;>cases a<;>intro b d<;>first | exact d | exact fh d
def itemHid_meetL:mv (zf (G' d)) (zf c):=by
  cases c<;>cases d<;>intro b a<;>first | exact a | exact fh a
def itemHid_meetR:mv (zf (G' a)) (zf a):=by
  cases c<;>cases a<;>intro b d<;>first | exact d | exact fh d
def Wk.zip(h:SqD A D.K (Ô m f) a xs)(r:i8 (Ô j f))(l:SqD w D.K (Ô m f) b c)(k:ij (Ô j f) es c):Wk D (Itz D.K A w a b) (zpD ds es) m j f where
  go:=fun i H s O=>by rw[zpD_length]at O;exact⟨xs,c,xs[i]'(Ź Ű),c[i]'(Ź k.length),zF h,zF l,Ľ _,Ľ _⟩
  same:=fun i H x R y=>by obtain⟨p,v,u,_,g,_,_,e⟩:=y;rw[e];exact jZ g
  yld:=fun i H x R d Q s L y e B=>by
    obtain⟨p,v,u,ex,g,K,J,P⟩:=y;obtain⟨d1,d2,N,M,rfl⟩:=zpD_get e;obtain⟨v1,I,F⟩:=r.get N;obtain⟨v2,E,C⟩:=k.get M;have o:=K xs (zF h);have n:=J c (zF l);rw[I]at o;cases (o);rw[E]at n;cases (n)
    subst P;refine Lr _ ex (BL ((B p z).1 g)) ?_;have q:Same _ (Ô Q (B1 p v u)):=Ţ (wk_hid L B) (jZ g).wo;exact LW (F.mono q) (C.mono q)
  stop:=fun H s=>by refine⟨xs,c,zF h,zF l,?_⟩;rw[zpD_length,Ű,k.length];omega
def zipApart_mk{b:Nat}(ha:a<n)(hb:b<n):ZipApart (n+4) (n+2) (n+3) n Ò a b:=by
  constructor<;>(show A8 _ _)<;>omega
def pi_zip(U:Gl X "zip")(S:mH "zip")(W:PA X [e,e'] y)(hs:gr)(o:fH e'=ă) :
    Ij tpos (pf "zip" [e,e']) (fun m H R=>y m H fun x l=>∃f d a b,x=[Ī,Č b]/\(∃w,SqD f X.K l a w)/\(∃v,SqD d X.K l b v)/\R (Itz X.K f d a b) l):=by
  intro g s m H R I h;refine NY U S boot_zip (W pos g s m H _ I h) ⟨x,l,j,M,N⟩ (ų (Ω hs)) (BU [e'] (aC o));obtain⟨f,d,a,b,Y,⟨w,Q⟩,⟨v,P⟩,q⟩:=N;subst Y;obtain⟨u,u',rfl,L,n⟩:=M.two;cases L;cases n;obtain⟨O,rv,p1⟩:=j.sqd Q;obtain⟨z,K,p2⟩:=j.sqd P;refine call_zipK f d p1 p2 fun h' r J F E C z6 B=>?_
  refine wpAny_pyIter_zip r ⟨f7+4,[f7+4,f7+2,f7+3,f7,f7+1],_,_,l,rfl,(j.kept B),
    turn_zip f d (zipApart_mk p1.lt p2.lt),⟨r,J,⟨_,_,F⟩,sK_it E,sK_it C⟩,Ĝ c A,q⟩
  have i:f7<=c:=by
    simp[i6,qo,qm]at A;rcases A with rfl | rfl | rfl | rfl | rfl
    · exact EY ..
    · exact EY ..
    · exact EY ..
    · exact ħ
    · exact EY ..
  exact j.fpOk i (j.hok.fresh i)
def kind_walk(k:kindD d=ā (t,ds))(g:fI f d c v)(e:eW f):oz b (SqD t D.K (aU (xi c)) a b) (EA b):=by
  cases d<;>cases k
  · exact g.walkT e
  · exact g.walkL e
def snd_zip(L:Gl X "zip")(K:mH "zip")(hs:gr)(i:fH m=ă)(N:Ì o e)(M:Ì rb m)
    (h:qF (eU o c (pd fun y c'=>zipD x y c c')) n):Ij g (pf "zip" [e,m]) (zy n):=by
  cases f:o with
  | none=>rw[f]at h;cases h
  | some q=>
    rw[f]at h;have A:=N q f;cases q with
    | ok dx cx=>
      cases d:rb with
      | none=>rw[d]at h;cases h
      | some q=>
        rw[d]at h;have B:=M q d;cases q with
        | ok dy cy=>
          have l:qF (zipD dx dy cx cy) n:=h;unfold zipD at l;split at l
          · rename_i F ds1 E ds2 J I
            cases l;exact((fun C z (Q:bC C) (P:PE X m z)=>pi_zip L K (wq Q (wq P pa_nil (Ω i)) (Ω hs)) hs i) _ _ A B).weak fun σ H R' eY=>⟨O,W,R,fun x H1 s1 U=>⟨O,W,eX,fun y H2 s2 S=>by
              have hd:=ve;obtain⟨a,w,Z,u,Y⟩:=kind_walk J (U.mono s2) hd;obtain⟨b,v,s,j,r⟩:=kind_walk I (S.since s1) hd;refine⟨F,E,a,b,ţ Z s,⟨w,wo_le.sqd u⟩,⟨v,wo_le.sqd j⟩,p _ H2 o_ (.zip ((qw hidW_meetL).sqd u) (Y.mono (qw itemHid_meetL)) ((qw hidW_meetR).sqd j) (r.mono (qw itemHid_meetR)))⟩⟩⟩
          · cases l
section
variable {P:Program} {w:World} {A:Around} {E:Value->Shared->Prop} {s:Shared} {n c l:Addr} {k:Nat} {vs:Array Value} {S:Nat->Heap->Prop} {x old:Value}
abbrev EnOut(s:č)(h':Heap)(n c:Addr)(k:Nat)(x:Ě)(S:pT):Prop:=
  U6 h' ġ/\S ς h'/\ba ġ=ā (ae ad (.seq #[dN cW,x])) /\ DF=jD/\(∀b o,b≠n->b≠c->NJ)
def enum_item{Q:ú}(R:mU c l vs S)(X:EZ Ė k)(hS:S k Ė)(hx:Į vs k x)(J:n≠c)(d2:l≠n)(hQ:∀h',EnOut s h' n c k x S->Q bj (jX h' (cW+1))) :
    Yk (Builtin.«enumerate.__next__» ⟨[Č n],[]⟩) Z:=by
  obtain⟨f,i,j,a,h⟩:=s;show Bc n 2 _;refine yG X (Č c) (ą (R.step k x hS hx (Ğ m r1 r)))
  replace r:yZ c f m:=r
  have W:EZ m k:=li r n J X;show Bc n 3 ⟨m,i,j,a,h⟩;refine yG W (oC k) ?_;show Bc n 4 ⟨m,i,j,a,h⟩;refine yG W Ĺ ?_;show su _ (mkInt k) ⟨m,i,j,a,h⟩;refine ą (wpAny_mkInt ?_);show LY (setField (Č n) 3 (oC (qb k))) m;refine ą (uH W I U q)
  replace q:yZ n m I:=q
  replace U:EZ I (qb k):=U
  show LY (setField (Č n) 4 Ĺ) I;refine ą (uH U d O p)
  replace p:yZ n I d:=p
  replace O:EZ d (qb k):=O
  show LY (newTuple [dN a,x]) d;refine ą (OC ?_);have C:EZ Ik (qb k):=ű O;have K:d.objs.size=uF:=by rw[p.1,q.1,r.1]
  have q4:(Ik).get? uF=ā (ae ad (.seq #[dN a,x])):=ŏ K Ø
  have z4:ag Ik=uF+1:=ţ iU K
  have k4:∀b o,b≠n->b≠c->f.get? b=ē->(Ik).get? b=ē:=fun b o g b2 e=>
    ű (DT b o g (DS b o g (r.extBut b o b2 e)))
  have r4:S ς Ik:=
    R.keep _ _ _ (R.ext (R.ext r1 DS (jv J) d2) DT (jv J) d2) (fun o e=>ű e) (fun o e=>ű e)
  generalize Ik=g4 at C q4 z4 k4 r4 ⊢;have lt:n<uF:=aB X;show LY (Ks (Č n)) g4;rw[K];refine lB;unfold Ks;refine yG C Ĺ bF;simp only[f8];refine ą (G8 (OJ C old (ą (uH C H N B))))
  replace B:yZ n g4 H:=B
  replace N:IsEnum H n c (qb k) x:=N
  show LY (Ti (Č n) (Č uF)) H;refine lB;unfold Ti;refine ą (uH N Y M z)
  replace z:yZ n H Y:=z
  replace M:U6 Y uF:=M
  refine uH M F L y
  replace y:yZ n Y F:=y
  replace L:U6 F uF:=L
  have u:∀b o,b≠n->g4.get? b=ē->F.get? b=ē:=bh g (y.extBut b o g (z.extBut b o g (B.extBut b o g e)))
  exact ą (DX (Ņ (Á _ (hQ F ⟨L,R.keep _ _ _ r4 (fun o e=>u _ o (jv J) e) (fun o e=>u _ o d2 e),u _ _ (pS lt) q4,by rw[y.1,z.1,B.1,z4],fun b o g b2 e=>u b o g (k4 b o g b2 e)⟩))))
def enum_next(R:mU c l vs S)(d:EZ Ė k)(f:S k Ė)(e:Į vs k x)(i:n≠c)(h:l≠n)(g:∀b,EnOut s b n c k x S->Q (ā bj) (jX b (cW+1))) :
    rT (ui n):=by
  have T:r6 (Č n) o8:=(aQ d);unfold uD;exact ą (Z4 (enum_item R d f e i h fun b a=>Ņ (g b a)))
def enum_stop(i:bD)(R:mU c l vs S)(a:EZ Ė k)(m:S k Ė)(h:jq vs k)(p:∀b,A_ c b->iV none b) :
    rT (ui n):=by
  have T:r6 (Č n) o8:=(aQ a);unfold uD;refine ą (Z4 ?_);show su _ (field _ 2) _;refine ą (Bb a rfl rfl (ą (R.stop k i m h (Ļ g1 e d j))));obtain⟨o,g,f⟩:=j;exact ą (Kt ⟨o,g,f⟩ OK (Ņ (p _ d)))
universe E_
open AutoSeq1 (wpAny_loadPart') in
def enum_madeT(l:Addr)(vs:Array Value)(m:Nat)(dc:Option Addr)(sl:Array (Option Value)):Meets (Builtin.«enumerate.__new__» ⟨[.type "enumerate",.ref l],[]⟩) (fun _ R s=>s.heap.get? l=some {cls:=.type "tuple",dict:=dc,data:=.seq vs m,slots:=sl} /\
    R (.ok (.ret (.ref (zH1 s.heap true l).objs.size))) {s with heap:=(zH1 s.heap true l).push {cls:=.type "enumerate",data:=.fields #[.none,.bool false,.ref s.heap.objs.size,rawInt 0,.none,.none]}}):=
  .of_wp fun P w A R s h=>by
    obtain⟨g0,gg,gd,gt,go⟩:=s;obtain⟨q,h⟩:=h;have hsub:=sub_enumerate;have qT:Heap.IsTuple (Shared.heap ⟨g0,gg,gd,gt,go⟩) l vs:=⟨_,q,rfl,m,rfl⟩
    wp_walk using wpAny_loadPart' q
    refine wpAny_stack_any fun st=>wpAny_pure ?_;split
    · rename_i y _ _ _ _ _;cases(y==Value.type "enumerate")
      · wp_walk using wpAny_loadPart' q,wpAny_pyIter_tuple qT
        exact⟨_,rfl,h⟩
      · wp_walk using wpAny_loadPart' q,wpAny_pyIter_tuple qT
        exact⟨_,rfl,h⟩
    · wp_walk using wpAny_loadPart' q,wpAny_pyIter_tuple qT
      exact⟨_,rfl,h⟩
def call_enumK         (t : Bool) (q : SqK t Ė l vs)
    (h : ∀ a, IsEnum a (ġ + 1) ġ 0 Ĺ -> sK t ġ l vs 0 a -> a.objs.size = ġ + 2 -> (∀ b o, fZ b = ē -> a.get? b = ē) -> Q (Č (ġ + 1)) TU) :
    rT (call (Ÿ o8) [mP]) := by
  cases t with
  | ă => exact call_enumerate_list (q) fun a z x v k => h a z ⟨x, Heap.IsList.at (q) fun o e => k _ o e⟩ v k
  | true =>
    obtain⟨⟨y, u, r, n⟩, p, d, m, c⟩ := id (q)
    replace d : y = Ÿ ad := d
    replace c : r = .seq vs m := c
    subst d c;refine callType_new F.called_enumerate đ (F.typeCall_enumerate_1 _) (F.newCall_enumerate_1 _) (fun f => F.args_object_init_2 f _) F.entry_enumerate_new (enum_madeT l vs m u n) ⟨p, ?_⟩;have g : ag (zH1 Ė true l) = ġ + 1 := iU ..;have i := H_ (zH1 Ė true l) (o := Z5) rfl;have j : ∀ b o, fZ b = ē -> ((zH1 Ė true l).push Z5).get? b = ē := fun b o e => oN e
    rw [g] at i;show _ /\ _;rw [g];exact ⟨⟨_, i, rfl⟩, h _ i (sK_new (ű Ø) q j) (by rw [iU, g]) j⟩
def Ite(K:į)(t:Bool)(a:Addr):It:=
  ⟨Ĵ H (∃xs x,EV t/\mj),
   Dq (∃p v,x=fj/\iR/\(∀xs,EV t->ĭ xs v)/\H'=B1 p ĳ v),
   Ĵ H (∃xs,EV t/\Ä<=i)⟩
def turn_enum{K:į}(t:Bool)(d1:n≠c)(d2:l≠n)(d3:l≠c) :
    Turn P w K (Qc pos) (Ite K t l) [n,c] n (Ĵ h ((∃f,IsEnum h n c cT f)/\itK t h c l i)) where
  mem:=Ģ
  obj:=fun i h st b g=>by
    obtain⟨⟨f,m⟩,r⟩:=st;simp only[i6,qo,qm]at g;rcases g with rfl | rfl
    · exact(zE m q)
    · obtain⟨o,Y,e,d⟩:=EW r;exact(JS q)
  keep:=fun i h h' st q=>by obtain⟨⟨f,m⟩,r⟩:=st;exact(qG f (q n Ģ _ m) (U5 r c))
  item:=by
    intro X R N S Z i j s C H E I B st Q;subst R N S;obtain⟨⟨f,m⟩,r⟩:=st;obtain⟨Y,x,A,M⟩:=Q;obtain⟨L,J,p⟩:=I.sqd A;obtain⟨u,hu,ru⟩:=J.get M;refine enum_next (src_k t d3) m (sK_mk r p) (x:=u) (Ķ hu) d1 d2 fun h' a=>DW
    obtain⟨a1,a2,a3,a4,a5⟩:=a;refine wpAny_letOwnedTupleGo_enum a1 (Ğ U O F)
    have z:ġ≠n:=pS (aB m);have keep:∀b o,b∉[n,c]->cP->U.get? b=ē:=bh g (F.extBut _ _ Qd (a5 b o Qd Qd e))
    have I1:lj j C H (jX U (cW+1)):=EX (cW+1) keep B;have y:ao ġ:=A1;have W:=I.fpOk ħ y;have h0:Go ġ=none:=Dd I.sz;have I2:lj j C (B1 ġ ĳ x) (jX U (cW+1)):=U4 y h0 W hq
      (U3 (ĳ cW) u av ru (F.extBut _ _ z a3))
    refine⟨bj,_,I2,rfl,⟨_,x,rfl,y,fun xs' e=>Ą (I.sqd_inj e A) M,rfl⟩,qG _ (Ķ O) (itK_at (sK_it a2) fun o e=>F.extBut _ _ (jv d1) e),cQ g⟩;have lt:b≠ġ:=by
      simp only[i6,qo,qm]at g;rcases g with rfl | rfl
      · exact jv z
      · obtain⟨o,_,e,_⟩:=EW r;exact Ñ Ι
    rw[È lt];exact(B b g).1
  done:=by
    intro X R N S Z i j s C H E I B st Q;subst R N S;obtain⟨⟨f,m⟩,r⟩:=st;obtain⟨Y,A,M⟩:=Q;obtain⟨L,J,p⟩:=I.sqd A;have e1:=qH;exact enum_stop (iL Z) (src_k t d3) m (sK_mk r p) Dr fun h' a=>bG (EX cW (ch:=[n,c]) (bh g (a b o Qd e)) B)
  self:=lq _ st (by obtain⟨⟨f,m⟩,_⟩:=st;exact wpAny_pyIter_enum m h)
theorem enuD_length:∀(k:Nat) (a:Ĩ),Ć (enuD k a)=bR
  | _,[]=>rfl
  | k,x::a=>by rw[enuD,ť,enuD_length _ a,ť]
theorem enuD_get:∀{k:Nat} {a:Ĩ} {i:Nat} {d:DV},ĭ (enuD k a) d->∃x,mw a/\d=ģ [ů (k+i),x]
  | _,[],_,_,h=>by simp[enuD]at h
  | k,x::a,0,d,h=>by simp[enuD]at h;exact(Á x h.symm)
  | k,x::a,i+1,d,h=>by rw[enuD,List.getElem?_cons_succ]at h;obtain⟨y,c,b⟩:=enuD_get h;exact⟨y,Ķ c,ţ b (show k+1+i=k+ü from Ę)⟩
def Wk.enum(h:SqD t D.K (Ô k c) a xs)(r:i8 (Ô j c)):Wk D (Ite D.K t a) (enuD 0 ds) k j c where
  go:=fun i H s u=>by rw[enuD_length]at u;exact⟨xs,xs[i]'(Ź Ű),zF h,Ľ _⟩
  same:=fun i H x A y=>by obtain⟨p,v,_,b,_,e⟩:=y;rw[e];exact jZ b
  yld:=fun i H x A d O2 s o y e g=>by
    obtain⟨p,v,ex,b,n,w⟩:=y;obtain⟨d1,q,rfl⟩:=enuD_get e;obtain⟨v1,m,l⟩:=r.get q;have f:=n xs (zF h);rw[m]at f;cases f
    subst w;refine Lr _ ex (BL ((g p z).1 b)) ?_;exact LW (rep_int.mpr (ų jW)) (l.mono (Ţ (wk_hid o g) (jZ b).wo))
  stop:=fun H s=>⟨xs,zF h,cw enuD_length Ű ħ⟩
def enumApart(h:a<n):n+1≠n/\a≠n+1/\a≠n:=Ę
def boot_enum1:rq o8 = ā (Ÿ o8):=ŵ
def pi_enum(E:Gl X o8)(C:mH o8)(F:PA X [e] o)(hs:gr) :
    Ij tpos (pf o8 [e]) (fun i H R=>o i H fun n g=>∃t a,n=[Ī]/\(∃m,SqD t X.K g a m)/\R (Ite X.K t a) g):=by
  intro b s i H R I h;refine NY E C boot_enum1 (F pos b s i H _ I h) ⟨n,g,f,y,z⟩ (ų (Ω hs)) (BU [] Ģ);obtain⟨t,a,J,⟨m,B⟩,q⟩:=z;subst J;obtain⟨u,rfl,x⟩:=y.one;cases x;obtain⟨A,rv,p1⟩:=f.sqd B;have j:=p1.lt;refine call_enumK t p1 (ν h' l w z6 v)
  refine wpAny_pyIter_enum l ⟨f7+1,[f7+1,f7],_,_,g,rfl,(f.kept v),
    turn_enum t (enumApart j).1 (enumApart j).2.1 (enumApart j).2.2,(qG _ l (sK_it w)),Ĝ c r,q⟩
  have d:f7<=c:=by
    simp[i6,qo,qm]at r;rcases r with rfl | rfl
    · exact EY ..
    · exact ħ
  exact f.fpOk d (f.hok.fresh d)
def snd_enum(u:Gl X o8)(s:mH o8)(j:gr)(v:Ì i e)
    (h:qF (eU i c (enumD x c)) g):Ij d (pf o8 [e]) (zy g):=by
  cases b:i with
  | none=>rw[b]at h;cases h
  | some q=>
    rw[b]at h;have A:=v q b;cases q with
    | ok C F=>
      have f:qF (enumD C F) g:=h;unfold enumD at f;split at f
      · rename_i o E r
        cases f;exact((fun n (w:bC n)=>pi_enum u s (wq w pa_nil (Ω j)) j) _ A).weak fun σ H R' eY=>⟨O,W,R,fun x I s1 y=>by
          obtain⟨a,m,B,l,z⟩:=kind_walk r y Δ;exact⟨o,a,ų B,⟨m,wo_le.sqd l⟩,qA I (.enum ((qw hidW_meetL).sqd l) (z.mono (qw itemHid_meetL)))⟩⟩
      · cases f
def ints_get(h:jH l a):∀i,i<bR->∃t,jN i Ĺ=.int (a.getD i 0) t:=by
  induction h with
  | nil=>intro i b;exact ĸ b (vg _)
  | cons n t _ c=>
    intro i b;cases i with
    | zero=>exact(bn t)
    | succ i=>exact c i (Ķ b)
def fp_of(f:FpOk X a H b)(h:c b=none):FpOk X a c b:=⟨h,f.2⟩
theorem nonDec_at:∀{ks:Ď} {i:Nat},nonDec ks=true->i+1<cY->mW i<=mW ü
  | [],_,_,h=>og h
  | [_],_,_,h=>og h
  | p::q::r,i,hr,h=>by
    have hr':ņ (ě (p<=q)&&nonDec (q::r)):=hr;rw[Ĉ,xj]at hr';cases i with
    | zero=>exact hr'.1
    | succ i=>exact nonDec_at (ks:=q::r) hr'.2 (Ķ h)
def skey_tail{st:SortSt}(I:Ĥ)(u:rS H D)(r:rS H kS)(i:kS≠D)(n:iQ kS (qp a e))(p:iQ D (tq l))(hz:a.size<=64)(hl:Ć U8<=64)
    (m:aD (arrOf st)=L3) (j:failedOf st=none)
    (h:∀g c,iJ H g->g.heap.get? D=ā (qp L3 c)->U7 g):vj A (ksk_tail D ă l (Č kS) st) P E s:=by
  unfold ksk_tail;dsimp only;refine ą (K6 n (Ź oE) cX);have s1:=jK Ė kS L0;have d:=li s1 D i.symm p;refine ą (DX ?_);refine ą (seqEpoch_at d rfl ?_);rw[m];simp[y9,si];refine ą (K6 d cX (mQ cU oE));rw[j];simp[T0,y9,si];refine Ņ (h _ _ (I.turnedL (ch:=[kS,D]) (Ļ b o f q) (cQ f)) (LZ d (ş (jO rg ix us).toArray)))
  · have k:b≠kS:=fun z=>f (Ą z ũ)
    rw[(jK _ D _).2 b (fun z=>f (Ą z (Ŕ ũ))),s1.2 b k];exact q
  · rcases Ŀ f with rfl | f
    · exact r
    · rw[aG f];exact u
def skey_end{X:Cx}{pins:ğ}{σ:St}{H:Hp}{s:č}{A:ξ}{E:ú}{us:ŉ}{kz:Ď}{D kS:Addr}{ix:Ġ}{keys:dz}{e e1:Nat}{P:PySem.Fin->my}(I:Ĥ)(fD:rS H D)(fk:rS H kS)(hne:kS≠D)(hk:iQ kS (qp keys e))(hD:iQ D (tq e1))(hi:jH keys.toList kz)(hlen:E1=aY)(h64:aY<=64)(hix:uP kz=ā ix)
    (h:∀s' c,iJ H s'->LM D=ā (qp L3 c)->ix.length=aY->U7 s'):vj A (ksk_end D ă tu e1 (Č kS) keys) P E s:=by
  have hsz:keys.toList.length=aY:=ţ hi.length hlen
  have hsz':keys.size=aY:=by rw[←hsz,f6]
  have item:∀i,(PySem.W.kas_item vk i).2=us.getD i Ĺ:=fun i=>by
    unfold PySem.W.kas_item;rw[Bq,Ħ];by_cases hi':i<aY
    · rw[wV (by simp[hsz'];omega)]
      simp[Ľ hi']
    · rw[wW Dr,jY Ă]
      rfl
  unfold ksk_end;dsimp only;simp only[y9,si];have ep:jO rg (Ū E1) us=us:=YN (aC hlen) h2
  by_cases h2:us.toArray.size<2
  · rw[ĉ h2,ĉ h2]
    rw[cU]at h2;unfold uP at hix;rw[xk]at hix;unfold sortIx at hix;rw[xk]at hix;cases hix;refine o4;rw[StateT.run_pure];refine o4;dsimp only;refine skey_tail (ix:=Ū E1) (us:=us) (st:=L4 general' (keys.zip tu)) I fD fk hne hk hD Ă (Ź ep) ?_ rfl fun s' c J g=>h s' c J g (aC hlen)
    rw[ep];show aD (keys.zip tu)=tu;apply Array.ext (aC hsz');intro i h1 h2;simp
  · rw[ĝ h2,ĝ h2]
    rw[cU]at h2;rw[ksk_kind hi (Ź hsz')];refine o4;have ek:keys.zip tu=vk:=Ģ
    rw[ek];unfold uP at hix;by_cases h63:¬aY<64
    · rw[nj]at hix
      split at hix
      · rename_i nd
        cases hix;have zs:(vk).size=aY:=aC hsz'
        have er:=PySem.W.kas_range vk;rw[zs]at er;have run:=runs_up (prog:=aj) (w:=X.w) (A:=A) (E:=ye) (s:=s) (κ:=E2) (it:=vk) (n:=aY)
          (Q:=fun _ st' s'=>arrOf st'=vk/\failedOf st'=none/\s'=s) Ă (fun i hi' C hC=>by
            have eq:=congrFun (congrFun (congrFun (congrFun (PySem.W.kat_ask_eq (prog:=aj) (w:=X.w) (A:=A) (κ:=E2) (ks:=keys.toList) (vs:=us) hsz) ü) i) C) s;rw[←eq];show Z7 ü i;obtain⟨t,et⟩:=ints_get hi ü Ă;obtain⟨u,eu⟩:=ints_get hi i Ă;rw[et,eu];refine PySem.W.kat_lt_int ?_;have:=nonDec_at nd (i:=i) Ă;rw[r_];exact hC) (fun st' q1 q2=>f9 (q1.trans er) q2)
        have est:L4 E2 vk=PySem.W.kas_st E2 vk (qr aY):=(by show L4 _ _=L4 _ ((qr aY).map (PySem.W.kas_item vk));rw[er]);have run':vj A (sortRuns'.run (L4 E2 vk)) (fun r s'=>arrOf r.2=vk/\failedOf r.2=none/\s'=s) ye s:=(Ą est run);refine ą (jx run' ?_ (bc e e.elim))
        rintro⟨⟨⟩,st'⟩ s' ⟨b2,b3,rfl⟩
        dsimp only;refine Z6 (Ū E1) (Ź ep) ?_ (aC hlen)
        rw[ep];show aD (arrOf st')=tu;rw[b2];apply Array.ext (aC hsz');intro i h1 h2;simp
      · cases hix
    have h64:aY<64:=Ę
    rw[xk]at hix;unfold sortIx at hix;rw[nj]at hix;obtain⟨p,hp,hpx⟩:=Θ hix;refine ą (jx (PySem.W.kat_run (κ:=E2) (ks:=keys.toList) (vs:=us) (Q:=fun st' s'=>ix.length=aY/\aD (arrOf st')=L3/\failedOf st'=none/\s'=s) (G:=fun q s'=>q=p/\s'=s)
      hsz Ă h64 (fun q st' s' a1 a2 a3 a4=>?_) (kRun_wp (n:=E1) (c:=Ĵ j (ě (kz.getD i 0<kz.getD j 0))) (a:=p) (fun i j C hi' hj hC=>?_) pJ _ (ŏ hlen hp))) ?_ x_)
    · obtain⟨rfl,rfl⟩:=a4
      refine⟨GU hpx f6 a1,?_,a3,rfl⟩;rw[a2,←hpx];apply Array.ext';unfold jO;simp only[Array.toList_map,ŗ];exact c_ (Ĵ _ (item i))
    · show Z7 i j
      obtain⟨t,et⟩:=ints_get hi i hi';obtain⟨u,eu⟩:=ints_get hi j hj;rw[et,eu];exact PySem.W.kat_lt_int hC
    · rintro⟨⟨⟩,st'⟩ s' ⟨b1,b2,b3,rfl⟩
      dsimp only;exact Z6 ix (by unfold jO;rw[ċ];omega) b2 b1
def skey_rest{X:Cx}{pins:ğ}{σ:St}{H:Hp}{s:č}{A:ξ}{E:ú}{vs:İ}{us:ŉ}{kz:Ď}{f D kS:Addr}{ix:Ġ}{e1:Nat}{P:PySem.Fin->my}(I:Ĥ)(fD:rS H D)(fk:rS H kS)(hne:kS≠D)(hk:iQ kS (tq 0))(hD:iQ D (tq e1))(rv:ub)(hlen:E1=aY)(h64:aY<=64)(hix:uP kz=ā ix)
    (turn:Qe kz s' H' A H'')
    (h:∀s' H' c,yd->mS->H' D=none->LM D=ā (qp L3 c)->ix.length=aY->U7 s'):vj A (ksk_rest D bE ă tu e1 (Č kS)) P E s:=by
  unfold ksk_rest;refine ą (wpAny_rule ?_)
  first
    | rw[List.forIn_toArray]
    | (rw[←Array.forIn_toList];simp only[List.toList_toArray])
    | rw[←Array.forIn_toList]
  refine ą (ksk_fold (Ĵ s' (∃H' kA e,yd/\mS/\H' D=none/\H' kS=none/\LM kS=ā (qp kA e)/\LM D=ā (tq e1)/\jH kA.toList (kz.take i))) us 0 s
    ⟨H,#[],0,I,fy H,fD.1,fk.1,hk,hD,Ķ IntsAre.nil⟩ ?step ?done)
  case step=>
    rintro j x s' hx ⟨H',kA,e,I',sm,nD,nk,gk,gD,hi⟩
    simp only[jW]at hi ⊢;have hj:j<aY:=(gM hx);obtain⟨k,hkj⟩:∃k,Į kz j k:=(B2 Ă);have hvj:j<aP:=Ą Di hj
    obtain⟨v,hv⟩:∃v,Į vs j v:=(B2 hvj);obtain⟨u,hu,ru⟩:=rv.get hv;rw[hx]at hu;cases hu;have hz:kA.size<=aY:=by have h1:=hi.length;rw[f6,mL]at h1;omega
    have Ip:=I'.pinned (fp:=[kS,D]) (fun b hb=>by
      rcases Ŀ hb with rfl | hb
      · exact fp_of fk nk
      · rw[aG hb];exact fp_of fD nD) (fun b hb=>by
      rcases Ŀ hb with rfl | hb
      · exact(zE gk z)
      · rw[aG hb];exact(zE gD z))
    refine ą (Hv (yC (turn j v x k hv ru hkj _ s' H' Ip sm) y s'' he hF hF.elim));obtain⟨w,H'',I'',r,rfl,sm'⟩:=he;obtain⟨t,rfl⟩:=r;dsimp only;obtain⟨qk,nk',_⟩:=I''.pin _ (wg ũ gk);obtain⟨qD,nD',_⟩:=I''.pin _ (wg (Ŕ ũ) gD);have s1:=jK s''.heap kS (mN (·.push (dN t)));have ek:kz.take ż=kz.take j++[k]:=by rw[List.take_add_one,hkj];simp
    have ea:(kA.push (C5 k t)).toList=kA.toList++[C5 k t]:=Ģ
    refine ą (K6 qk (Ź oE) (š (Nat.le_of_eq (Array.size_push ..)) (Ź oE)));refine Ņ ⟨rfl,H'',kA.push (dN t),_,I''.unpinned.turnedL (t':=s''.toks) (ch:=[kS]) (Ļ b o hb q) (cQ hb),sm.trans sm',nD',nk',LZ qk (·.push (dN t)),li s1 D (jv hne) qD,cw ea ek (ksk_snoc hi)⟩
    · rw[s1.2 b fun z=>hb (Ą z ũ)]
      exact q
    · rw[aG hb];exact fp_of fk nk'
  case done=>
    rintro s' ⟨H',kA,e,I',sm,nD,nk,gk,gD,hi⟩
    have hi':jH kA.toList kz:=(Ih (Pi Ă) hi hi);refine ą (listItems_at gk rfl ?_);exact skey_end I' (fp_of fD nD) (fp_of fk nk) hne gk gD hi' hlen h64 hix fun s2 c J g hl=>h s2 H' c J sm nD g hl
def skey_sorted{X:Cx}{pins:ğ}{σ:St}{H:Hp}{s:č}{E:ú}{vs:İ}{kz:Ď}{f:Addr}{ix:Ġ}{a:Addr}{Q:VK}(I:Ĥ)(hq:ug a vs)(hlen:E1=aP)(h64:aP<=64)(hix:uP kz=ā ix)
    (turn:Qe kz s' H' X.A.in1.in1 H'')
    (h:∀H' q,mS->H' q=none->oF q H' (OS vs)):Z' E s:=by
  obtain⟨us,rv,pl,zl⟩:=uj;have hus:=Di;refine call_function_entry_kw kind_sorted plain_sorted entry_sorted (ksk_s1 _ _) ?_
  unfold Builtin.«sorted»;refine ą (m:=checkCount ni 1 1 _) bF;refine ą (collect_list pW ?_ (Ź oE));refine ą (Pc (Ź oE));have hsz:ag Z9=jD:=(ţ Heap.size_update K5);have hoL:(Qf).get? jD=ā (qp tu 0):=(ŏ hsz Ø);have keep:∀b o,cP->(Qf).get? b=ē:=fun b o q=>by have hlt:b<ġ:=aB q;rw[Heap.get?_push_ne _ _ _ (Ą hsz (Ñ (Ep hlt))),Heap.get?_update_ne _ _ _ _ (Ñ hlt),Heap.get?_push_ne _ _ _ (Ñ hlt)];exact q
  show gW (dJ Qf);rw[hsz];refine AI (wpAny_call_entry_kw slot_list_sort (aQ hoL) entry_list_sort ?body (ksk_l1 _ _))
  case body=>
    rw[ksk_t1];unfold ksk_tree;refine ą (listItems_at hoL rfl ?_);refine ą (K6 hoL (mQ cU oE) cX);generalize hh1:Qf=h1 at hoL keep ⊢;have hz1:h1.objs.size=ġ+2:=by rw[←hh1,K5,hsz]
    have s1:=jK h1 jD L0;obtain⟨e1,ho1⟩:∃e1,(Z8).get? jD=ā (tq e1):=⟨_,LZ hoL (ş #[])⟩;refine ą (seqEpoch_at ho1 rfl ?_);refine ą (OC ?_ (by show aY<=_;rw[oE];omega));refine ą (Pc cX);refine Bw ?_;have hkS:ag U'=ġ+3:=by rw[K5,Heap.size_update,hz1]
    have I1:iJ H (dJ ((U').push (tq 0))):=NN fun b o q=>by have hlt:b<ġ:=aB q;refine oN ?_;rw[s1.2 b (Ñ (Ep hlt))];exact keep b o q
    have fr:∀n,ao (ġ+n):=fun n=>lh Bt
    refine skey_rest (kS:=ag U') (D:=jD) I1 (I.fpOk yD (fr 1)) (Ą hkS (I.fpOk Bt (fr 3))) (Ą hkS (pS (Nat.add_lt_add_left đ _))) Ø
      (oN ho1) rv Ă Ă hix turn fun s' H' c J sm nD g hl=>DW
    refine Ņ ⟨_,rfl,Č jD,upd H' jD (OS vs),?_,rfl,h H' _ sm nD⟩;refine J.track nD ?_ U9.2.1 U9.2.2.2.2.1 U9.2.2.2.2.2 ⟨by unfold jO;rw[ċ,hl,oE];omega,U8,c,rv.putIx ix,g⟩;exact Dd (š I.sz yD)
def mk_loop{p:Ď}(hh:bD)(b6:zG=aP)(a5:l≠J)(Q:S≠J)(hlS:l≠S)
    (turn:Qe p q n gb b5)
    (hR:∀i v u q n,AX->dv->aac->lA g n q->Ú n->R (yt u) q) :
    ∀(r j i:Nat) (q:č) (n:Hp) (U:Ě) (v:V) (tb:Tok) (c:Nat),aP - ż=r->j+1<=aP->lA g n q->Ú n->FpOk X g n S->FpOk X g n J->SqL X.K n l vs ->
      q.heap.get? S=ā (qp #[U,.int (nr i) tb] c)->q.heap.IsListIter J l ż->AX->RelV v U->i<=j->(∀y,y<=j->nr i<=nr y/\(y<i->nr i<nr y)) ->
      ur aj X.w A (lw "min.loop" ⟨[Č J,bE,Č S],[]⟩) R q:=by
  have ml : "min.loop" = aab:=Β
  intro r
  induction r with
  | zero=>
    intro j i q n U v tb c hr hj I sm Z fJ hq gS P hv rv b3 m;obtain⟨us,ru,pl,zl⟩:=uj;have b0:=ru.length;have W:=Vd gb a5;refine Vc;rw[By E3 _];show Vb gb S;refine Va;show Hr _;refine ą (Il (W.done _ _ _ ⟨cw cU (Ş (aY=j+1)) P,pW⟩ (Ğ h1 B hk)));have E:=hk S _ (Ķ Q) gS;have s1:=jK h1 S L0;show su gb (updateSeq S (ş #[])) _;refine ą (K4 E OE);have I9:lA g n {q with heap:=h1.update S L0,toks:=B}:=by
      refine EX B (ch:=[J,S]) (Ļ b o d e) (cQ d)
      · rw[s1.2 b fun z=>d (p6 z)]
        exact hk b o (fun z=>d (p6 (aG z))) e
      · rcases Ŀ d with rfl | d
        · exact fJ
        · rw[aG d];exact Z
    exact hR i v U _ n hv rv (fun y a7=>m y Ă) I9 sm
  | succ r ih=>
    intro j i q n U v tb c hr hj I sm Z fJ hq gS P hv rv b3 m;have O:j+1<aP:=Ę
    obtain⟨us,ru,pl,zl⟩:=uj;have b0:=ru.length;have W:=Vd gb a5;refine Vc;rw[By E3 _];show Vb gb S;refine Va;show Hr _;refine ą (Il (W.item ż _ _ _ (Ź cU) ⟨P,pW⟩ fun u h1 B hP b2 hk=>?_));have hu:Į us (j+1) u:=Ķ hP
    obtain⟨oJ,a4,a3,N⟩:=id b2.1;have E:=hk S _ (Ķ Q) gS;obtain⟨v1,M⟩:∃v1,Į vs (j+1) v1:=(B2 O);obtain⟨u',a1,a0⟩:=ru.get M;rw[hu]at a1;cases a1;obtain⟨K,a6⟩:∃K,Į p (j+1) K:=(B2 Ă);have a9:nr ż=K:=fA Ħ a6
    have I1:lA g n {q with heap:=h1,toks:=B}:=I.turnedL (ch:=[J]) (bh d (hk b o d e)) fun b d=>Ą (aG d) fJ
    have Ip:=I1.pinned (fp:=[S,J]) (fun b d=>by
      rcases Ŀ d with rfl | d
      · exact Z
      · rw[aG d];exact fJ) (fun b d=>by
      rcases Ŀ d with rfl | d
      · exact(zE E z)
      · rw[aG d];exact⟨_,a4,fun v z=>jb N z z⟩)
    show Hr _;refine ą (Il (Bw (yC (turn ż v1 u K M a0 a6 _ _ n Ip sm) x s2 he hF hF.elim)));obtain⟨w2,H2,I2,r2,rfl,L⟩:=he;obtain⟨Y,rfl⟩:=r2;obtain⟨qS,nS,_⟩:=I2.pin _ (wg ũ E);obtain⟨qJ,nJ,_⟩:=I2.pin _ (wg (Ŕ ũ) a4);have I3:=I2.unpinned;have a2:SqL X.K H2 l vs:=L.seq hq;show Hr _;refine ą (Il (Bw (ą (CmpOf.ints_lt (prog:=aj) (w:=X.w) (A:=gb) (fun i=>nr i) (fun i v h=>h) ż i _ _ _ _ _ ⟨Y,ų a9⟩ (bn tb) ?_))));refine AI (GL OE);by_cases a8:nr ż<nr i
    · have s1:=jK s2.heap S (mN (ş #[u,.int K Y]))
      obtain⟨c2,b4⟩:aaa S K Y:=⟨_,LZ qS (ş #[u,.int K Y])⟩;simp only[a8,decide_true,f8];refine ą (K4 qS (ą (DX ?_)));rw[←ml];refine yW E3 (ih ż ż _ H2 u v1 Y c2 Ă O (Z_ S d (d (p6 z)) Z) (sm.trans L) (fp_of Z nS) (fp_of fJ nJ) a2 (Ą a9 b4) ⟨oJ,li s1 J Q.symm qJ,a3,N⟩ M a0 ħ (Ĝ y a7));by_cases e:y=j+1
      · subst e;exact U_
      · have b1:=(m y Ă).1
        exact U_
    · simp only[a8,decide_false,y9,si]
      refine ą (DX ?_);rw[←ml];refine yW E3 (ih ż i _ H2 U v tb c Ă O I3 (sm.trans L) (fp_of Z nS) (fp_of fJ nJ) a2 qS ⟨oJ,qJ,a3,N⟩ hv rv Ă (Ĝ y a7));by_cases e:y=j+1
      · subst e;exact U_
      · exact m y Ă
def mk_min{p:Ď}(I:jw g)(hh:X.A.handled=none)(hq:ug l vs)(P:0<aP)(R:zG=aP)
    (turn:Qe p s' n X.A.in1 a7)
    (h:∀i v n,AX->aac->Ú n->Q v n):cR (pZ "min" [mP] [(Es "key",bE)]) (EP X g σ Q) E s:=by
  have ml : "min.loop" = aab:=Β
  obtain⟨us,ru,pl,zl⟩:=uj;have a1:=ru.length;have y:l<ġ:=by obtain⟨o,e,_⟩:=pW;exact Ι
  refine kmk_tree PySem.F.kind_min PySem.F.plain_min PySem.F.entry_min (kmk_min_key _ _) ?_;show Ve s;refine ą (Kr (a:=[pX,none]) rfl (oM (ą (AM pW (ą (Pc cX))))));rw[←ml];generalize hJ:ġ=J at y;generalize B:ux (ae OM (bM #[mP,υ 0])) = g0;have z0:g0.objs.size=J+1:=by rw[←B,K5,hJ]
  have gS:(g0.push (tq 0)).get? (J+1)=ā (tq 0):=ŏ z0 Ø
  have I0:lA g H (dJ (g0.push (tq 0))):=NN (fY (ŏ B (oN e)))
  have fJ:FpOk X g H J:=I.fpOk Ă (lh Ă);have fS:FpOk X g H (J+1):=I.fpOk Ă (lh Ă);refine yW E3 ?_;show ur aj X.w X.A _ _ (dJ (g0.push (tq 0)));rw[z0];have S:l≠J:=Ñ y;have C:J+1≠J:=pS (Bs _);have a4:l≠J+1:=Ñ (Ep y);obtain⟨us,ru,pl,zl⟩:=I0.list hq;have a1:=ru.length;have W:=Vd X.A.in1 S;refine Vc;rw[By E3 _];show Vb X.A.in1 (J+1);refine Va;show su X.A.in1 (tryCatch (ui J) _) _;refine ą (Il (W.item 0 _ _ _ (Ź cU) ⟨uI ((by rw[←B,←hJ];exact ű Ø)),pW⟩ fun u h1 a0 hP a2 hk=>?_));have hu:Į us 0 u:=Ķ hP
  obtain⟨oJ,O,a3,N⟩:=id a2.1;have Y:=hk (J+1) _ (Ķ C) gS;obtain⟨v1,r⟩:∃v1,Į vs 0 v1:=(B2 P);obtain⟨u',M,L⟩:=ru.get r;rw[hu]at M;cases M;obtain⟨q,U⟩:∃q,Į p 0 q:=(B2 Ă);have a6:nr 0=q:=fA Ħ U
  have I1:=I0.turnedL (h':=h1) (t':=a0) (ch:=[J]) (bh m (hk b o m e)) fun b m=>Ą (aG m) fJ
  have Ip:=I1.pinned (fp:=[J+1,J]) (fun b m=>by
    rcases Ŀ m with rfl | m
    · exact fS
    · rw[aG m];exact fJ) (fun b m=>by
    rcases Ŀ m with rfl | m
    · exact(zE Y z)
    · rw[aG m];exact⟨_,O,fun v z=>jb N z z⟩)
  show Ve _;refine ą (Il (Bw (yC (turn 0 v1 u q r L U _ _ H Ip (fy H)) x s2 he hF hF.elim)));obtain⟨w2,H2,I2,r2,rfl,K⟩:=he;obtain⟨F,rfl⟩:=r2;obtain⟨qS,nS,_⟩:=I2.pin _ (wg ũ Y);obtain⟨qJ,nJ,_⟩:=I2.pin _ (wg (Ŕ ũ) O);have I3:=I2.unpinned;have s1:=jK s2.heap (J+1) (mN (ş #[u,.int q F]));obtain⟨c2,a5⟩:aaa (J+1) q F:=⟨_,LZ qS (ş #[u,.int q F])⟩;show Ve _;refine ą (K4 qS ?_);rw[←ml];refine yW E3 (mk_loop (H:=H) hh R S C a4 turn (fun i v u s' n e1 e2 e3 e4 e5=>⟨v,n,e4,e2,h i v n e1 e3 e5⟩) _ 0 0 _ H2 u v1 F c2 rfl P (Z_ (J+1) m (m (p6 z)) fS) K (fp_of fS nS) (fp_of fJ nJ) (K.seq hq) (Ą a6 a5) ⟨oJ,li s1 J C.symm qJ,a3,N⟩ r L ħ (Ĝ j' hj'));have e:j'=0:=Ę
  subst e;exact⟨Ę,fun h=>nL DP⟩
section
variable {X:Cx} {δ:List Sv} {ea bd:Expr} {pos p lp kp:Pos} {re:Re} {k:Nat} {x:Str} {pr:Arguments} {sc:Scope} {c P:Addr} {m:LamD} {cs:List DV} {fr:List Nat} {pins:List (Addr×Obj)} {σ:St} {H:Hp} {s:Shared} {O W:List Addr} {f:Addr}
def lam_rep(I:Ĥ)(L:LS)(T:Qi)(hcor:Qh m=true)(hN:B3=m.np+lx)(hslot:E4 m.N m.np)
    (hcap:hZ fr=qd) (R:HZ X.D) (lf:Ie H):ja (nB (trC (aD lQ) Ė H)) dQ bE:=by
  generalize hl:aD lQ=l;have Ce:=Cells.of (sc:=sc) I LI;rw[hl]at Ce;have S:=T.full I LI;rw[hl]at S;obtain⟨ws,w1,w2,w3⟩:=cap_rep R hcap;have same:=Ce.same;have hdA:=R.hid.hdA;have ou:∀{b:Addr} {o:Obj} {u:HO},gJ b o u->b∉O++W:=fun {b o u} e z=>by obtain⟨o',q1,q2⟩:=hdA b z;rw[e]at q1;cases q1;cases q2
  have oc:zr kf (b∉O++W):=aad q1 q2 (Ce.none b hb)
  refine rep_lam.mpr ⟨f,pr,bd,sc,BV,lQ,l,ws,rfl,?_,hcor,S,w2.mono same.wo,ţ hN w1,Ĝ c hc,LV y⟩
  · obtain⟨c',oc',u,vs,t,pm,ctv,h1,h2,h3⟩:=lf
    exact⟨c',oc',u,vs,t,pm,ctv,Ą (η (ou h1)) (same _ _ h1),Ą (η (ou h2)) (same _ _ h2),h3⟩
  · obtain⟨o,v,g,d'⟩:=Ce.cel c hc
    exact⟨o,v,Ą (η (oc hc)) (trC_in hc g),d'⟩
  · have hi:i<lx:=Qg w1 h2
    have hj:ĭ fr fr[i]:=Ľ hi;obtain⟨y',q1,q2,q3⟩:=hslot i _ hj;rw[h1]at q1;cases q1;have hv:=w3 i _ v hj h2;obtain⟨mm,hn',hl'⟩:=k9;obtain⟨u,rv,lk⟩:=hl' _ y v q2 hv (ė q3);rcases lk with⟨k1,_⟩ | ⟨k1,cc,k2,o,k3,k4⟩
    · have k1:k7 y=dF:=k1
      rcases q3 with q3 | q3<;>(rw[q3]at k1;cases k1)
    · have hfre:(y,iT)∈cq:=eI (T.fre (m.np+i) y (Ą mL (š (Nat.min_le_left _ _) Bt)) h1)
      have hcl:=fc_has LI hfre k2;have hcc:cc∈l:=S.mem y cc hcl;exact⟨cc,o,u,hcl,Ą (η (oc hcc)) (trC_in hcc k3),k4,rv⟩
def lam_turn{F:Ŵ}(I:jw h)(lo:P1)(hr:BX A)(hA:A.frames=X.A.frames)(h1:m.fn=fn)(h2:m.bl=bl)(h3:m.cl=cl)
    (L:LS) (T:Qi) (B:ER h σ (jw h) (Ic Id)) (C:corLam m S bd sc=true) (hN:B3=m.np+lx) (x:E4 m.N m.np)
    (E:hZ fr=qd) (R:HZ X.D) (lf:LamFn H BV S bd sc lQ f) (Z:zo X.D aH) (Y:dv) (hF:F cZ [dQ,d]=ā (lF n)) :
    vj A (call bE [u]) (EP X h σ (fun w Q=>w=.int n/\Ú Q)) ye s:=by
  have lamR:=lam_rep I L T C hN x E R lf;generalize U:aD lQ=l at lamR;have J:=Cells.of I LI;rw[U]at J;have M:=B I;rw[U]at M;have same:=J.same;have q:=I.env0;have e1:Env0 aj X.w X.K X.mg mr A dH s H:=⟨hA.trans q.frames,q.mod,q.bs,q.bsz,q.funs,q.frf,q.hok,q.bare⟩;refine J3 (wu (lo A dH s _ [u] [v] (fun v K=>Same zt K/\v=.int n) rO qx f m cs [d] _ hr (Env0.trC J (fun c N=>(M c N).1) (fun c N=>(M c N).2) e1) (Ξ Y .nil) (Ĝ a ha) h1 h2 h3 lamR (RepL.one (Z.mono same.wo)) hF fun v K sm g=>⟨sm,nC g⟩) (Ğ r s' p))
  · obtain⟨o,q1,q2⟩:=R.hid.hdA a ha
    exact⟨o,same _ _ q1,q2⟩
  · cases r with
    | error e=>exact(p:cM).elim
    | ok fl=>
      cases fl with
      | ret u=>
        refine I.after (CE.trC J p (fun v K sm z=>⟨z.2,k_ o⟩) fun v K z=>z.1);rw[η fun w=>jb (J.none b w) e e];exact sm _ _ (same _ _ e)
      | next=>exact eG p
      | brk=>exact eG p
      | cont=>exact eG p
theorem keysL_get:∀{b:Ĩ} {a:Ď},uR mm b=eF->bR=gX/\∀(i:Nat) d n,ĭ b d->ĭ a n->F cZ [mm,d]=ā (lF n)
  | [],a,h=>EL h (bG (fun i d n h=>ζ))
  | d::r,a,h=>by
    unfold keysL at h;split at h
    · rename_i n e
      obtain⟨l,m,rfl⟩:=Θ h;obtain⟨j,g⟩:=keysL_get m;refine⟨by rw[ť,ť,j],ν i o k f c⟩;cases i with
      | zero=>cases f;cases c;exact e
      | succ i=>exact g i o k f c
    · cases h
def QK(X:Cx)(δ:Ĕ)(F:Ŵ)(m:LamD)(cs:Ĩ)(pr:dM)(bd:Expr)(sc:ù)(σ:St)(Q:VK):İ->cj:=fun vs H1=>∃va,vs=[va]/\∀f H2,Same H1 H2->H1 f=none->Ie H2 ->
  aae q
def snd_srtk{F:Ŵ}{fn bl cl:ĥ}{ra:Re}(lo:P1)(hr:uu)(h1:m.fn=fn)(h2:m.bl=bl)(h3:m.cl=cl)(hg:Gl X ni)(hm:mH ni)(hsa:fH ea=ă)
    (L:LS) (hdef:UQ=([],[])) (T:Qi) (hnew:ER pins σ Ĥ (Ic Id)) (hcor:Qh m=true) (hN:B3=m.np+lx) (hslot:E4 m.N m.np)
    (hcap:hZ fr=qd) (ha:PE X ea (qy ra)) (h:(eU (ā ra) cx (srtL F dQ x cx))=Ó):j_ (Vf ni):=by
  have C:aai ni σ (QK X δ F m cs pr bd sc σ Q):=fun {ta} A=>by
    intro pins s σ H Q I h;refine AV (JN boot_sorted ?_ đ đ);refine aah hsa pins σ (Dk vs);obtain⟨va,rfl,q1⟩:=q1;refine thn (aag hdef pins s1 σ H1 (fun ws H2=>∃f,ws=[bE]/\Ie H2/\aae q) I1
      (fun f H2 sm hn lf=>⟨f,rfl,lf,q1 f H2 sm hn lf⟩)) (Ğ ws s2 ⟨zs,H2,I2,rz,f,e,lf,O,W,a,xs,ds,ks,ix,e',R,sq,rl,h64,hk,hix,hq⟩)
    subst e e';obtain⟨u1,rfl,ru1⟩:=vals1 r1;obtain⟨u2,rfl,ru2⟩:=vals1 rz;obtain rfl:u1=gI a:=ru1;obtain rfl:u2=gI f:=ru2;show Z' X.xe s2;obtain⟨k1,k2⟩:=keysL_get hk;refine skey_sorted I2 sq (ţ k1 rl.length) (Ą rl.length h64) hix (fun i v u n hv ru hn pins' s' H' I' sm=>?_) hq;have hi:i<œ:=Qg rl.length hv
    have hd:ĭ ds ds[i]:=Ľ hi;obtain⟨v',e1,rp⟩:=rl.get hd;rw[hv]at e1;cases e1;exact aaf hr.toL2 hnew hcor hslot hcap (lf.mono sm)
  cases ra with
  | ok dx cx=>
    have h':srtL F dQ dx cx=Ó:=h;unfold srtL at h';split at h'
    · rename_i ds
      split at h'
      · rename_i z
        obtain⟨ks,hk,h'⟩:=nG h';obtain⟨ix,hix,rfl⟩:=Θ h';refine(C ha).weak (nF σ va H1 g1 (Á va (ν f H2 s2 hn lf)))
        have s12:=o_;obtain⟨a,xs,e1,e2,e3⟩:=g1.lstC Δ;have e3':EH (nB H1) ds xs:=by
          cases cx with
          | jM=>exact e3
          | jL=>exact e3
          | weak=>cases z.1
          | top=>exact e3
        refine⟨O,W,a,xs,ds,ks,ix,e1,R.mono s12,gO (s2 _ _ e2),e3'.mono s2.wo,z.2,hk,hix,fun H' q sm hq=>p _ _ (Ţ (s12.trans sm) (jZ hq)) ?_⟩;exact zh (LB (s12.trans sm)) hq ((e3'.mono (zk sm).wo).putIx ix)
      · cases h'
    · cases h'
universe E_
def Room.toL1(r:jC A):BX gb:=⟨r.hd,r.dp,Km r.un (uq+1+16*k+198<_)⟩
def minIx_at(h:E5=eJ)(d:c<cY)(h':∀j,j<cY->mW c<=mW j/\(j<c->mW c<mW j)):c=i:=by
  unfold minIx at h;have f:=PN h;have e:=PM h;rw[L5]at f;simp only[qt,L5,Ĉ,gc,ak]at e;have a:=e c d;have b:=h' i f;rcases KN i c with z | z | z
  · have:=b.2 z;omega
  · exact z.symm
  · have:=a.2;omega
section
variable {X:Cx} {δ:List Sv} {ea bd:Expr} {pos p lp kp:Pos} {re:Re} {k:Nat} {x:Str} {pr:Arguments} {sc:Scope} {c P:Addr} {m:LamD} {cs:List DV} {fr:List Nat} {pins:List (Addr×Obj)} {σ:St} {H:Hp} {s:Shared} {O W:List Addr} {f:Addr}
def QM(X:Cx)(δ:Ĕ)(F:Ŵ)(m:LamD)(cs:Ĩ)(pr:dM)(bd:Expr)(sc:ù)(σ:St)(Q:VK):İ->cj:=fun vs H1=>∃va,vs=[va]/\∀f H2,Same H1 H2->H1 f=none->Ie H2 ->
  ∃O W a xs ds ks i,Vg H2 σ xs ds (0<œ) E5 i H' v (ĭ xs v) v H'
def snd_mink(lo:P1)(hr:uu)(h1:m.fn=fn)(h2:m.bl=bl)(h3:m.cl=cl)(hg:Gl X "min")(hm:mH "min")(B:fH ea=ă)
    (L:LS) (Y:UQ=([],[])) (T:Qi) (U:ER b l (lj b l H s) (Ic Id)) (Z:Qh m=true) (hN:B3=m.np+lx) (w:E4 m.N m.np)
    (a0:hZ fr=qd) (ha:PE X ea (qy ra)) (h:(eU (ā ra) cx (mnkL F dQ x cx))=Ó):j_ (Vf "min"):=by
  have C:aai "min" l (QM X δ F m cs pr bd sc l Q):=fun {ta} A=>by
    intro b s l H Q I h;refine AV (JN boot_min ?_ đ đ);refine aah B b l ⟨vs,H1,I1,r1,M⟩;obtain⟨va,rfl,M⟩:=M;refine thn (aag Y b s1 l H1 (fun ws o=>∃f,ws=[bE]/\Ie o/\∃O W a r q ks i,Vg o l r q (0<q.length) E5 i J v (ĭ r v) v J) I1
      (fun f o sm hn S=>⟨f,rfl,S,M f o sm hn S⟩)) (Ğ ws s2 ⟨zs,o,I2,rz,f,e,S,O,W,a,r,q,ks,ix,e',R,sq,K,a5,hk,E,hq⟩)
    subst e e';obtain⟨u1,rfl,a3⟩:=vals1 r1;obtain⟨u2,rfl,a2⟩:=vals1 rz;obtain rfl:u1=gI a:=a3;obtain rfl:u2=gI f:=a2;show rY X.A _ _ X.xe s2;obtain⟨k1,k2⟩:=keysL_get hk;refine mk_min I2 hr.hd sq (Ą B4 a5) (ţ k1 B4) (fun i v u n hv ru hn a4 s' J I' sm=>?_) fun i v J hv hb sm=>?_
    · have hi:i<q.length:=Qg B4 hv
      have hd:=Ľ hi;obtain⟨v',e1,rp⟩:=K.get hd;rw[hv]at e1;cases e1;exact aaf hr.toL1 U Z w a0 (S.mono sm)
    · have hi:i<cY:=by rw[k1,←B4];exact(gM hv)
      have:=minIx_at E hi fun j hj=>hb j (by rw[B4,←k1];exact hj)
      subst this;exact hq J v sm hv
  cases ra with
  | ok dx cx=>
    have g:mnkL F dQ dx cx=Ó:=h;unfold mnkL at g;split at g
    · rename_i q
      split at g
      · rename_i z
        obtain⟨ks,hk,g⟩:=nG g;obtain⟨ix,E,g⟩:=nG g;obtain⟨d,hd,rfl⟩:=Θ g;refine(C ha).weak (nF l va H1 g1 (Á va (ν f o s2 hn S)))
        have N:=o_;obtain⟨a,r,e1,e2,e3⟩:=g1.lstC Δ;have a1:EH (nB H1) q r:=by
          cases cx with
          | jM=>exact e3
          | jL=>exact e3
          | weak=>cases z
          | top=>exact e3
        refine⟨O,W,a,r,q,ks,ix,e1,R.mono N,gO (s2 _ _ e2),a1.mono s2.wo,tm cX (gM hd),hk,E,fun J v sm hv=>p _ _ (N.trans sm) ?_⟩;obtain⟨v',M,q2⟩:=a1.get hd;rw[hv]at M;cases M;exact(q2.mono (zk sm).wo:Ib J)
      · cases g
    · cases g
universe E_
def dEnd(D:Dm)(H0:Hp)(O:ŀ)(Dn:Ends):Œ Out
  | .nx δ=>∀σ H W,gq->(dG a W (H0 a))->Same H0 H->Dn.nx σ H
  | Qj=>∀v H,Same H0 H->GotR D O H0 H d fr v->Dn.rt v H
def dS(D:Dm)(δ:Ĕ)(o:Out):TS:=fun Dn σ H=>∃H0 O W,gq/\(dG a W (H0 a))/\(∀a∈O,H0 a≠none)/\Same H0 H/\dEnd D H0 O Dn o
def dss_nil:mB [] (E7 (.nx δ)):=pss_nil.weak (E6 Dn a H0 b (k a H W R b sm))
def dss_cons{rest:ah}(g:PS X c (E7 (.nx δ1)))(f:mB rest (dS X.D δ1 o)):mB (c::rest) zH:=
  (pss_cons g f).weak (E6 Dn σ d h ⟨d,O,W,R,h,fo,sm,fun e H' i j b a=>⟨d,O,i,j,b,fo,a,k⟩⟩)
def dss_rt{rest:ah}(b:PS X a (E7 Qj)):mB (a::rest) (E7 Qj):=
  (pss_cons b pss_never).weak (E6 Dn σ c fr ⟨c,O,W,R,fr,fo,sm,k⟩)
def dss_if(n:BS e c)(r:∀q,l=ā q->Do (E7 q))(p:∀q,j=ā q->mB d (E7 q))(h:(Rt.thnS δ e fun k=>ĩ k l j)=ē):zI (.If c body d pos):=by
  cases a:e with
  | none=>rw[a]at h;cases h
  | some q=>
    rw[a]at h;have C:=n q a;cases q with
    | ok b=>
      cases b with
      | true=>
        have f:=h;exact(ps_if C (r o f) pss_never).weak (E8 u m i g (fun s s1=>iteT ⟨i,O,W,eX,g,fo,vm,k⟩))
      | ă=>
        have f:=h;exact(ps_if C pss_never (p o f)).weak (E8 u m i g (fun s s1=>iteF ⟨i,O,W,eX,g,fo,vm,k⟩))
def dss_ret(w:Ì j e)(h:(Ef j (ā (retD d c)))=ē):zI (.Return (ā e) pos):=by
  cases f:j with
  | none=>rw[f]at h;cases h
  | some q=>
    rw[f]at h;have A:=w q f;cases q with
    | ok d cl=>
      have x:=h;cases x;refine(ps_ret A).weak (E8 J σ I y (fun v F s1 g=>(k:dEnd X.D I O J _) v F vm ?_))
      cases l:frD d cl with
      | ă=>exact g.weak Δ
      | true=>
        unfold frD at l;split at l
        · obtain⟨p,i,E,s,r,n,C,B⟩:=g
          exact⟨p,i,E,s,r,sm.free n,C,B.mono (qw fun b m=>by rcases Ŀ m with z | z;exact List.mem_cons.mpr (ď z);exact Ŕ (fh z))⟩
        · obtain⟨a,i,s,u,r,n⟩:=g
          exact⟨a,i,_,s,rfl,y a u,HL r,n.mono (qw fun b m=>by rcases Ŀ m with z | z;rw[z];exact lv u;exact fh z)⟩
        · cases l
def swaps_none(h:isComp v=ă):swapsWith v t l env=pure ă:=by
  cases v<;>first | rfl | cases h
def dss_exp(i:Ì b e)(f:isComp e=ă)(h:(qe b fun _ _=>ſ δ)=ē):zI (.Expr e pos):=by
  cases a:b with
  | none=>rw[a]at h;cases h
  | some q=>
    rw[a]at h;have A:=i q a;cases q with
    | ok d cl=>cases h;exact(ps_expr A (swaps_none f)).weak (E8 Dn c H0 j (fun v l s1 g=>k c l W eX j vm))
def hid_cons:b∈O++p::W↔b∈p::qx:=by
  simp[Im,i6];constructor
  · rintro(h | h | h)
    · exact mD h
    · exact ď h
    · exact uz h
  · rintro(h | h | h)
    · exact mD h
    · exact ď h
    · exact uz h
def set_ne_of{l:Ĳ c}(h:Į (l.set i a) j b)(d:a≠b):j≠i:=fun z=>by
  subst z;have e:j<Ň:=Ls
  rw[rD e]at h;exact d (eC h)
def set_at{l:Ĳ c}(h:ĭ (l.set i a) b):i<Ň/\a=b:=by
  have d:=Ls;rw[rD d]at h;exact⟨d,eC h⟩
def RSt.alloc(R:gq)(s:Ú A)(F:iR)(f:A p=ā k6)(r:i8 (Ô (p::qx) A))(i:Nat) :
    RSt D A (yb fj) (eT sC) O (p::W):=by
  have l:Same aH (Ô (O++p::W) A):=fY (by obtain⟨I,e⟩:=cD e;rw[BL (by rcases Ŀ (L6 z)with z | z;exact x3 e F z;exact I z)];exact s b o e)
  refine⟨nK,Ğ j J h,fun j k a g d2 U S x w=>?_,HN (od_set _ UX) (Ŕ h) a P _ (s _ _ h),UW,⟨Ĝ a u,fy _,Ĝ a u,Ĝ a u,R.hid.omS s⟩⟩
  · have c:=xl h
    rw[bP c]at h ⊢;obtain⟨v,x,w⟩:=Io;exact⟨v,x,w.mono l⟩
  · by_cases c:j=i
    · subst c
      obtain⟨Q,e⟩:=set_at h;cases e;exact⟨p,xs,ds,rfl,rD (Ą R.len Q),Υ,f,r.mono (qw fun b I=>L6 I)⟩
    · rw[bP c]at h ⊢
      obtain⟨a,B,y,Z,x,w,Y,X⟩:=BZ J;exact⟨a,B,y,Z,x,Ŕ w,s _ _ Y,X.mono l⟩
  · have n:∀{j:Nat} {g:DV},Į (eT sC) j (.own g)->Į (yb fj) j (ā (V.ref a))->(j=i/\a=p)\/(j≠i/\Į δ j (.own g)/\Į σ j (ā (V.ref a))/\a≠p):=fun {j g} h e=>by
      by_cases c:j=i
      · subst c
        obtain⟨_,z⟩:=set_at e;cases z;exact ď pJ
      · rw[bP c]at h e
        refine ė ⟨c,h,e,mR⟩;obtain⟨a',B,y,_,N,_,M,_⟩:=BZ g;rw[e]at N;cases N;rw[z,F]at M;cases M
    rcases n U x with⟨K,C⟩ | ⟨K,C,z3,z4⟩<;>rcases n S w with⟨L,E⟩ | ⟨L,E,y3,y4⟩
    · rw[K,L]
    · exact ĸ C y4
    · exact ĸ E z4
    · exact LX g d2 C E z3 y3
  · rcases Ŀ (L6 u)with z | z
    · rw[z,f];intro q;cases q
    · intro q;exact BY a z (s.free q)
  · rcases Ŀ u with z | z
    · exact(aQ (Ą z f))
    · obtain⟨B,q,m⟩:=R.hid.wl a z;exact⟨B,s _ _ q,m⟩
  · rcases Ŀ u with z | z
    · intro q;exact BY p (fh (ŏ z q)) F
    · exact R.hid.dj a z
def noOd_of(h:He=true)(q:Į δ j (.od d)):j=i:=by
  unfold noOt at h;rw[qt]at h;have:=h j (o6 (gM q));rw[q]at this;simpa using this
def RSt.write(R:gq)(A:dY sC)(C:t_ Ī)(r:ij aH g f) :
    nE (wy a f) σ (eT (aI g)):=by
  obtain⟨a',xs,ds0,e0,L,K,Z,e4⟩:=BO _ A;rw[C]at L;cases L;have p:Same _ (nB (wy a f)):=aaj w (w (Ą z (lv K)))
  have hl:=(gM A);refine⟨nK,Ğ j n h,fun j k b J d2 Y X u x=>?_,HN (od_set0 UX) h b U m (Ą (È (fun z=>by rw[z,Z]at h;cases h;cases m)) h),Ą sf R.len,⟨Ğ b w q,fy _,cQ w,R.hid.dj,R.hid.omW (by assumption)⟩⟩
  · have l:=xl h
    rw[bP l]at h;obtain⟨v,u,x⟩:=Io;exact⟨v,u,x.mono p⟩
  · by_cases l:j=i
    · subst l
      obtain⟨_,e⟩:=set_at h;cases e;exact⟨a,f,g,rfl,C,K,aM,r.mono p⟩
    · rw[bP l]at h
      obtain⟨b,B,E,S,u,x,Q,P⟩:=BZ n;refine⟨b,B,E,S,u,x,?_,P.mono p⟩;rw[È fun z=>l (R.inj j i a n _ h A (ŏ z u) C)];exact Q
  · have y:∀{j:Nat} {J:DV},Į (eT (aI g)) j _->∃d0,Į δ j (.own d0):=fun {j J} h=>by
      by_cases l:j=i
      · subst l;exact⟨_,A⟩
      · rw[bP l]at h;exact⟨J,h⟩
    obtain⟨I,N⟩:=y Y;obtain⟨F,M⟩:=y X;exact R.inj j k b I F N M u x
  · by_cases c:b=a
    · rw[c,aM]at q;cases q
    · rw[È c]at q;exact BY b w q
  · by_cases c:b=a
    · exact(aQ (Ą c aM))
    · obtain⟨B,q,m⟩:=R.hid.wl b w;exact⟨B,Ą (È c) q,m⟩
def Iq(h:Same c H)(d:c a=none):Same c rh:=fun b u e=>by
  rw[sn e d];exact h b u e
def setEnd{own:Bool}(h:(OY cl)=ē)
    (R:gq) (fr:dG a W (c a)) (sm:Same c H) (k:dEnd D c O j o):∀v e,Ú e->HJ H e d cl v->j.nx (yb v) e:=fun v b s1 g=>by
  cases own with
  | true=>
    simp only[f8]at h;unfold setOwn at h;split at h
    · cases h
      obtain⟨p,xs,ds,s,r,f,q,n⟩:=g;subst s r;exact k _ b (p::W) (R.alloc s1 f q n i) (fun a l=>by
        rcases Ŀ l with z | z
        · rw[z];exact sm.free f
        · exact fr a z) vm
    · split at h
      · cases h
        exact Vh b (rep_non.mpr (HX (g.weak Δ))) fr
      · cases h
  | ă=>
    simp only[y9,si]at h;split at h
    · rename_i m
      cases h;exact Vh b (g.stro Δ m) fr
    · cases h
def dss_set{own:Bool}(p:rH)(j:ow)(g:yc)(l:ya)(n:Ì f e)(m:NQ e (bA a)=pure ă)
    (h:(Ef f (OY c))=ē):AJ (bA a) e zH:=by
  cases b:f with
  | none=>rw[b]at h;cases h
  | some q=>
    rw[b]at h;have A:=n q b;cases q with
    | ok d cl=>exact(ps_set p j g A m l).weak (E8 Dn σ H0 r (setEnd h R r sm k))
def dss_setcomp{own:Bool}(S:wF r Ŋ)(w:bf)(y:rH)(v:ow)(u:rR x=dF)
    (P:CompParts X δ b a g elt Ŋ r fr tg p) (z:DQ j l n r b B0) (m:lK a=ă)  (q:NQ (Ev elt b a g Ŋ f) (bA e)=pure true)
    (h:(Ef (ā p) (OY c))=ē):AJ (bA e) (Ev elt b a g Ŋ f) zH:=by
  obtain⟨wi,tc,te,F,E,B,A⟩:=P;refine(ps_setcomp S w y v u F z E B q (fold_of m)).weak (Ļ Dn s H (L7 fr k))
  unfold tAsg;refine A s H _ ⟨O,W,R,?_⟩;cases p with
  | ok d cl=>exact setEnd h R fr sm k
def dss_append(hv:ud b)(I:Ì r e)(s:gr)(n:ņ (j.endLine==f.line))
    (h:(match ω with
      | ā (aI p)=>Ef r (Ŭ (mY c/\zG<ÿ) (wO (p++[d])))
      | _=>none)=ē):zI (.Expr (A2 (bA b) "append" j [e] f) pos):=by
  split at h
  · rename_i p y
    cases l:r with
    | none=>rw[l]at h;cases h
    | some q=>
      rw[l]at h;have A:=I q l;cases q with
      | ok d cl=>
        have u:(Ŭ (mY cl/\zG<ÿ) (uZ (eT (aI (p++[d])))))=ē:=h;split at u
        · rename_i m
          cases u;exact aak J PySem.F.slot_list_append PySem.F.type_list_append mt_append s n (E6 Dn F H0 z (by obtain⟨a,w,M,L,E,K,C,B⟩:=BO _ y;cases L;refine⟨Ī,E,ď ⟨rfl,w,gO C⟩,O,W,R,Ļ v H1 s1 g⟩;refine⟨a,w,v,rfl,rfl,s1 _ _ C,Ą B.length (ce m.2 đ),?_⟩;exact k F _ W ((eX).write y E ((B.mono s1.wo).append (RepL.one (g.stro Δ m.1)))) z (Iq vm (z a K))))
        · cases u
  · cases h
def dss_setix(hv:ud b)(U:Ì z e)(Q:Ì w l)(E:BC l=ă)
    (h:(match ω with
      | ā (aI s)=>qe z fun d c=>qe w fun k _=>(match k with
        | dN=>(match fB s.length k with
          | jF=>Ŭ (mY c) (wO (s.set j d))
          | none=>none)
        | _=>none)
      | _=>none)=ē):AJ (iM (bA b) l f) e zH:=by
  have sub:∀v,assign (iM (bA b) l f) ū v=(do
      let ov ←holding [v] (cn (bA b))
      let iv ←holding [v,ov] (cn l)
      standAt f
      Xe
      release [v,ov,iv] []):=by cases l<;>first | (intro _;rfl) | cases E
  have C:=fun t N (Z:bC t) (Y:PE X l N)=>ps_asg (pos:=pos) Z (pg_sub hv Y set_list sub) (BQ e) (BQ e) rfl
  split at h
  · rename_i s F
    cases p:z with
    | none=>rw[p]at h;cases h
    | some q=>
      rw[p]at h;have A:=U q p;cases q with
      | ok d cl=>
        cases n:w with
        | none=>rw[n]at h;cases h
        | some q=>
          rw[n]at h;have B:=Q q n;cases q with
          | ok dk ck=>
            have r:(match(generalizing:=false) dk with
              | dN=>(match fB s.length k with
                | jF=>Ŭ (mY cl) (uZ (eT (aI (s.set j d))))
                | none=>none)
              | _=>none)=ē:=h
            split at r
            · rename_i P
              split at r
              · rename_i j S
                split at r
                · rename_i m
                  cases r;exact(C _ _ A B).weak fun Dn L H (L7 I k)=>⟨O,W,R,fun v H1 s1 g=>by
                    have u:=eX;obtain⟨a,M,ds0,e0,K,e2,e3,J⟩:=u.own i _ F;cases e0;refine⟨Ī,K,O,W,u,Ļ y H2 s2 g2⟩;have R2:=u.mono s2;refine⟨a,M,P,j,rfl,g2.int (u.hid.mono s2),s2 _ _ e3,Ą qH S,?_⟩;exact k L _ W (R2.write F K (RepL.set ((g.mono s2).stro ve m) j (J.mono s2.wo))) I (Iq (Ţ vm s2) (I a e2))⟩
                · cases r
              · cases r
            · cases r
  · cases h
def Got.seq(g:fI n d c v)(m:eW n)(o:sD c)(f:kindD d=ā (b,k)):oz e (SqL D.K H a e\/SqT D.K H a e) (ij aH k e):=by
  have l:qg c:=by rcases o with z | z<;>(rw[z];intro q;cases q)
  unfold kindD at f;split at f
  · cases f
    obtain⟨a,e,j,i,h⟩:=g.items m l;exact⟨a,e,j,ď (gO i),h⟩
  · cases f
    obtain⟨a,e,j,i,h⟩:=g.itemsT m l;exact⟨a,e,j,ė i,h⟩
  · cases f
def dss_extend(hv:ud f)(P:Ì y e)(z:gr)(p:ņ (l.endLine==j.line))
    (h:(match ω with
      | ā (aI u)=>qe y fun d c=>if sD c then(match kindD d with
        | ā (_,s)=>Ŭ (u.length+s.length<=ÿ) (wO (u++s))
        | none=>none)else none
      | _=>none)=ē):zI (.Expr (A2 (bA f) "extend" l [e] j) pos):=by
  split at h
  · rename_i u E
    cases n:y with
    | none=>rw[n]at h;cases h
    | some q=>
      rw[n]at h;have A:=P q n;cases q with
      | ok d cl=>
        have r:(if sD cl then(match kindD d with
          | ā (_,s)=>Ŭ (u.length+s.length<=ÿ) (uZ (eT (aI (u++s))))
          | none=>none)else none)=ē:=h
        split at r
        · rename_i B
          split at r
          · rename_i b s N
            split at r
            · rename_i m
              cases r;exact aak Q PySem.F.slot_list_extend PySem.F.type_list_extend mt_ext z p (E6 Dn M H0 F (by obtain⟨a,C,ds0,Z,L,Y,K,J⟩:=BO _ E;cases Z;refine⟨Ī,L,ď ⟨rfl,C,gO K⟩,O,W,R,Ļ v H1 s1 g⟩;obtain⟨a2,w,U,S,I⟩:=g.seq Δ B N;refine⟨a,a2,C,w,rfl,ų U,s1 _ _ K,S,cw qH B5 (Ç m),?_⟩;exact k M _ W ((eX).write E L ((J.mono s1.wo).append I)) F (Iq vm (F a Y))))
            · cases r
          · cases r
        · cases r
  · cases h
def asI_eq2(h:asIv o=eF):o=ā (ī a):=by
  cases o with
  | none=>cases h
  | some sv=>cases sv with
    | val d=>rw[Lx h]
    | _=>cases h
def dss_aug(s:rH)(m:ow)(l:yc)(n:ya)(p:Ì f e)(hv:dY (ī a))(h:(Ts f (ā (uZ (eT (ī (a+b))))))=ē):zI (JP (bA pos') .Add e pos):=by
  cases c:f with
  | none=>rw[c]at h;cases h
  | some q=>
    rw[c]at h;have A:=ps_aug (pos:=pos) (pos':=pos') s m l (p q c) ip_add n;cases q with
    | ok d cl=>
      obtain⟨b,r,h⟩:=nG (h);obtain rfl:=Lx r;cases h;refine A.weak (Ļ Dn σ H (L7 u k))
      obtain⟨v,j,w⟩:=zi _ hv;rw[nC w]at j;exact⟨.int a,j,O,W,R,fun v y s1 g=>by
          have:=g.int Δ;subst this;exact⟨a,b,rfl,rfl,Vh y BK u⟩⟩
def PSs.any{t:ι->TS}(h:∀k,Do (t k)):Do (fun D b H=>∃k,t k D b H):=Qa D
def PT.any{t:ι->TT}(h:∀k,PT X e (t k)):PT X e UY:=Qa Q
structure Lp(H0 H1:Hp)(O W:ŀ):Prop where
  out:∀{H:Hp},Ig W H1 H->Same H0 H
  outW:∀{a:Addr},Ô W H1 a=none->H0 a=none
  in1:dG a W (Ô W H1 a)
  in2:∀a∈O,Ô W H1 a≠none
  wsame:∀{H:Hp},Ig W H1 H->Same (nB H1) aH
def Lp.mk'(fr:dG a W (d a))(fo:∀a∈O,d a≠none)(sm:Same d g):Lp d g O W where
  out:=fun {H} s b u e=>s b u (by
    rw[cF (jb (fr b z) e e)];exact sm b u e)
  outW:=fun {a} q=>by
    by_cases z:a∈W
    · exact fr a z
    · rw[η z]at q;exact sm.free q
  in1:=fun a c=>wo_in c
  in2:=fun a c=>by rw[cF (fo a c (fr a z))];intro q;exact fo a c (sm.free q)
  wsame:=fun {H} s b u e=>by obtain⟨f,e⟩:=cD e;rw[η f];exact s b u (by rwa [cF (f (lv z))])
def Lp.gotR(L:Lp b a O W)(g:GotR D O (Ô W a) H d fr v):GotR D O b H d fr v:=by
  cases fr with
  | ă=>exact g
  | true=>
    obtain⟨p,c,k,j,i,h,f,e⟩:=g;exact⟨p,c,k,j,i,L.outW h,f,e⟩
def dss_for(hp:JQ)(hc:bf)(hi:U1 u j)(hG:PG X u B0)(hb:aan)(M:lK j=ă)
    (h:(KG ri fun l c=>bU (sD c) (jR tg f l δ))=ē):zI (.For u j body [] pos):=by
  have B:aam E:=PSs.any fun k=>hb k.1.1 k.1.2 k.2
  cases C:ri with
  | none=>rw[C]at h;cases h
  | some q=>
    rw[C]at h;have A:=hi q C;cases q with
    | ok l c=>
      have h':(bU (sD c) (jR tg f l δ))=ē:=h;split at h'
      · rename_i m
        refine(ps_for hp hc A hG B (fold_of M)).weak (E8 Dn E H0 fr (Ļ J I s1 w))
        have R1:=eX;have L:=Lp.mk' fr fo vm;have w:Wk X.D J l qx qx I:=(by rcases m with m | m<;>subst m<;>exact w);refine⟨fun i n E H=>n=Ň - i/\i<=Ň/\aal (l.drop i) (dG a F (Ô W I a)),
          ⟨Ň,rfl,cX,δ,W,h',R1,L.in1,wo_le⟩,?_⟩
        rintro i n S P ⟨rfl,hi,b,W2,hgo,R2,b1,b2⟩
        by_cases s:i<Ň
        · refine .inr ⟨w.go i P (L.wsame b2) s,fun E H=>aal _ _,
            fun U H' q=>⟨Ň - ü,Ę,rfl,s,q⟩,Ğ x H3 y⟩
          have Y:=w.same i P x H3 y;have y3:=w.yld i P x H3 _ (O++W2) (L.wsame b2) (L.wsame b2) y (Ľ s) fun a Q=>⟨R2.hid.ot a Q,by
            rcases gL Q with z | z
            · exact ď (fh z)
            · have q:=b1 a z
              by_cases hw:a∈W
              · exact ď (lv hw)
              · rw[η hw]at q;exact ė q⟩
          rw[List.drop_eq_getElem_cons s]at hgo;unfold jR at hgo;split at hgo
          · cases hgo
          · rename_i K a2
            refine bind_ok (R2.mono Y) y3 a2 (Ĝ σ3 R3)
            split at hgo
            · rename_i r a1
              exact⟨qG K (.nx r) a1,Ô W I,O,W2,R3,b1,L.in2,b2.trans Y,fun U H' F R' N Z=>⟨r,F,hgo,R',N,Z⟩⟩
            · rename_i a0
              refine⟨qG K o hgo,Ô W I,O,W2,R3,b1,L.in2,b2.trans Y,?_⟩;cases o with
              | nx r=>exact ĸ hgo (a0 r)
              | rt d N=>exact fun v H' s' g=>k v H' (L.out s') (L.gotR g)
        · have e:i=Ň:=Ę
          subst e;rw[List.drop_length]at hgo;cases hgo;exact ď ⟨w.stop P (L.wsame b2),k S P W2 R2 (fun a Q=>L.outW (b1 a Q)) (L.out b2)⟩
      · cases h'
def dss_while(J:JQ)(K:∀δ' r,e δ'=Ü->PT X c (dT X.D δ' r))(M:aan)(h:yR e f n δ=ē):zI (.While c body [] pos):=by
  have B:aam j:=PSs.any fun k=>M k.1.1 k.1.2 k.2
  have T:PT X c (ŷ j (∃k:{p:Ĕ×Rt // e p.1=AN},dT X.D k.1.1 k.1.2 j H Q)):=PT.any fun k=>K k.1.1 k.1.2 k.2
  refine(ps_while J T B).weak (Ļ Dn j H (L7 P k))
  have L:=Lp.mk' P fo sm;refine(bx (fun m j w=>aao (dG a u (aU W a)) (aU W)) ⟨n,δ,W,h,R,L.in1,wo_le⟩)
  rintro m A w ⟨b,W2,hgo,R2,b1,b2⟩
  cases m with
  | zero=>cases hgo
  | succ m=>
    unfold yR at hgo;split at hgo
    · cases hgo
    · rename_i l
      cases hgo;refine⟨qG b yM l,O,W2,R2,fun x s=>iteF ?_⟩;exact k A x W2 (R2.mono s) (fun a N=>L.outW (b1 a N)) (L.out (b2.trans s))
    · rename_i l
      refine⟨qG b Bh l,O,W2,R2,fun x s=>iteT ?_⟩;refine(bx (fun j w=>aao _ _) (fun C x q=>⟨m,Bs m,q⟩));split at hgo
      · rename_i i y
        exact⟨qG b (.nx i) y,aU W,O,W2,R2.mono s,b1,L.in2,b2.trans s,fun C x u S z E=>⟨i,u,hgo,S,z,E⟩⟩
      · rename_i F
        refine⟨qG b o hgo,aU W,O,W2,R2.mono s,b1,L.in2,b2.trans s,?_⟩;cases o with
        | nx i=>exact ĸ hgo (F i)
        | rt d z=>exact fun v x I g=>k v x (L.out I) (L.gotR g)
def RSt.anyNo(R:gq)(n:ω = ā .no)(x:ĕ V):nE H (σ.set i x) δ:=by
  have ne:∀{j:Nat} {s:Sv},Į δ j s->s ≠ .no->j≠i:=fun {j s} h l z=>by subst z;rw[n]at h;cases h;exact l rfl
  have b:∀{j:Nat},j≠i->(σ.set i x)[j]? = σ[j]?:=fun {j} m=>bP m
  refine⟨nK,nK,fun j k a p o e c g f=>?_,HN (fun j d h=>⟨h,b (ne h dh)⟩) h _ _ _ h,Ą sf R.len,R.hid⟩
  · rw[b (ne h dh)];exact Io
  · rw[b (ne h dh)];exact BZ d
  · rw[b (ne e dh)]at g
    rw[b (ne c dh)]at f;exact LX p o e c g f
section
variable {κ:Type} [DecidableEq κ]
def valV(kvs:oh)(k:κ):ĕ V:=aD (kvs.find? (Ir kv))
def putK(kvs:oh)(k:κ)(v:V):oh:=
  if ņ Qk then kvs.map (fun kv=>zJ kv v)else kvs++[(k,v)]
def B6{p:κ×V}{r:oh}{k:κ}(e:p.1=k):valV (p::r) k=AN:=Iu valV e
def B7{p:κ×V}{r:oh}{k:κ}(e:¬p.1=k):valV (p::r) k=valV r k:=Iu valV e
theorem valV_any(k:κ):∀kvs:oh,Qk=pN Iw
  | []=>rfl
  | p::r=>by
    rw[lP];by_cases e:p.1=k
    · simp only[B6 e,þ e,Bool.true_or,Option.isSome_some]
    · rw[B7 e,dt e,Bool.false_or];exact valV_any k r
def length_putK(kvs:oh)(k:κ)(v:V):Ć (B8 v)<=rj+1:=by
  unfold putK;split
  · rw[ċ];omega
  · rw[Â,ť,Pb];omega
def RelO.isSome_eq{o:ĕ V}{u:jr}(r:RelO o u):o.isSome=u.isSome:=by
  cases o with
  | none=>cases u with
    | none=>rfl
    | some _=>exact(ž cM r).elim
  | some _=>cases u with
    | none=>exact(ž cM r).elim
    | some _=>rfl
def KV.val{kvs:oh}{vs:C7}(r:yn)(k:κ):RelO Iw (valueAt vs k):=by
  unfold KV at r
  induction r with
  | nil=>exact LF
  | @cons p q ps qs h t ih=>
    obtain⟨h1,h2⟩:=h;by_cases e:p.1=k
    · have e':q.1=k:=Qm
      have b:valueAt (q::qs) k=ā q.2:=Iu valueAt e'
      rw[B6 e,b];exact h2
    · have e':¬q.1=k:=fun z=>Ql
      have b:valueAt (q::qs) k=valueAt qs k:=Iu valueAt e'
      rw[B7 e,b];exact ih
theorem KV.any{kvs:oh}{vs:C7}(r:yn)(k:κ):Qk=vs.any (Ir kv):=by
  unfold KV at r
  induction r with
  | nil=>rfl
  | cons h t ih=>rw[lP,lP,ih,h.1]
def KV.repl{kvs:oh}{vs:C7}(r:yn)(k:κ){y:V}{u:Ě}(ry:aZ y) :
    KV (kvs.map fun kv=>zJ kv y) (vs.map fun kv=>zJ kv u):=by
  unfold KV at r ⊢
  induction r with
  | nil=>exact .nil
  | @cons p q ps qs h t ih=>
    rw[Η,Η];refine Ξ ?_ ih;obtain⟨h1,h2⟩:=h;by_cases e:p.1=k
    · rw[ĉ e,ĉ Qm];exact⟨h1,ry⟩
    · rw[ĝ e,xm Ql];exact⟨h1,h2⟩
def KV.put{kvs:oh}{vs:C7}(r:yn)(k:κ){y:V}{u:Ě}(ry:aZ y):KV (B8 y) (stored vs k u):=by
  unfold putK stored;rw[r.any k];by_cases e:ņ (vs.any (Ir kv))
  · rw[ĉ e,ĉ e];exact r.repl k ry
  · rw[ĝ e,ĝ e];exact Paired.snoc r (bG ry)
theorem KV.length{kvs:oh}{vs:C7}(r:yn):rj=aP:=Ny r
universe E_
def kV_is{P:ř}{w:ł}{k:Key}{u:Ě}(r:aZ (kV k)):(vY P w).is k u=true:=by
  cases k with
  | inl i=>obtain⟨t,e⟩:=(ž (∃t,u=C5 i t) r);subst e;exact mixKind_int P w i t
  | inr x=>obtain⟨t,e⟩:=(ž (∃t,u=Value.str x t) r);subst e;exact mixKind_str P w x t
theorem items_are{P:ř}{w:ł}:∀{ks:oj} {us:ŉ},iG (ks.map kV)->ItemsAre (vY P w) ks us
  | [],_,r=>by rw[List.map_nil]at r;cases r;exact .nil
  | k::ks,_,r=>by
    rw[Η]at r;cases r with
    | cons h t=>exact Ξ (kV_is h) (items_are t)
abbrev KT(H:Hp):kY->Œ C9:=Paired fun p q=>WZ
def KT.val{H:Hp}{kvs:kY}{xs:C9}(r:Ix)(k:oj):RelO Iw (aD (atKey xs k)):=by
  induction r with
  | nil=>exact LF
  | @cons p q ps qs h t ih=>
    obtain⟨h1,_,h2⟩:=h;by_cases e:p.1=k
    · have e':q.1=k:=Qm
      have b:atKey (q::qs) k=ā q.2:=Iu atKey e'
      rw[B6 e,b];exact h2
    · have e':¬q.1=k:=fun z=>Ql
      have b:atKey (q::qs) k=atKey qs k:=Iu atKey e'
      rw[B7 e,b];exact ih
def KT.repl{H:Hp}{kvs:kY}{xs:C9}(r:Ix)(k:oj){y:V}{u:Ě}(ry:aZ y) :
    KT H (kvs.map fun kv=>zJ kv y) (xs.map (putAt k u)):=by
  induction r with
  | nil=>exact .nil
  | @cons p q ps qs h t ih=>
    rw[Η,Η];refine Ξ ?_ ih;obtain⟨h1,h2,h3⟩:=h;unfold putAt;by_cases e:p.1=k
    · rw[ĉ e,ĉ Qm];exact⟨h1,h2,ry⟩
    · rw[ĝ e,xm Ql];exact⟨h1,h2,h3⟩
def KT.put{H:Hp}{kvs:kY}{xs:C9}(r:Ix)(k:oj){b:Addr}{y:V}{u:Ě}(hb:Iy b)(ry:aZ y) :
    KT H (B8 y) (storedH xs k b u):=by
  have e:Qk=pN (atKey xs k):=(by rw[valV_any,(r.val k).isSome_eq,Option.isSome_map]);unfold putK storedH;rw[e];by_cases q:pN (atKey xs k)=true
  · rw[ĉ q,ĉ q];exact r.repl k ry
  · rw[ĝ q,ĝ q];exact Paired.snoc r ⟨rfl,hb,ry⟩
def KT.keeps{H H':Hp}{kvs:kY}{xs:C9}(r:Ix)(ht:∀b ys,Ï b (ģ ys)->H' b=ā (ģ ys)):KT H' kvs xs:=
  Paired.mapP r (bc z ⟨z.1,ht _ _ z.2.1,z.2.2⟩)
def rd_of{P:ř}{w:ł}{H:Hp}{h:Heap}{a:Addr}{u:HO}(ok:iI h)(e:Rd H a u):x5 u:=e.ok ok
def dk_rd{P:ř}{w:ł}{H:Hp}{h:Heap}{a:Addr}{kvs:Aq}(ok:iI h)(e:Rd H a v6):Si:=
  show x5 v6 from rd_of ok e
def dk_of{P:ř}{w:ł}{H:Hp}{h:Heap}{a:Addr}{kvs:Aq}(ok:iI h)(e:Ï a v6):Si:=dk_rd ok (ď e)
def key_of{P:ř}{w:ł}{H:Hp}{h:Heap}{a:Addr}{ks:oj}(ok:iI h)(e:Ï a (ģ (ks.map kV))):(At P w).is h ks a:=by
  obtain⟨_,its,r,o,h1,h2,n,h3⟩:=(show x5 (ģ (ks.map kV))from ok a _ e);exact aap
def dt_rd{P:ř}{w:ł}{H:Hp}{h:Heap}{a:Addr}{kvs:kY}(ok:iI h)(e:Rd H a rm):Ù rj/\Av a /\
    ∃xs,Ix/\h.DictOfH (At P w) a xs:=by
  obtain⟨z,y,xs,r,o,es,ep,h1,h2,h3,h4,h5⟩:=(show x5 rm from rd_of ok e);refine⟨z,y,xs,r,o,es,ep,h1,h2,h3,h4,wE,h5⟩;have all:∀{l:kY} {m:C9},KT H l m->∀x∈m,(At P w).is h x.1 x.2.1:=by
    intro l m q
    induction q with
    | nil=>intro x hx;exact eB hx
    | @cons p q ps qs hq t ih=>
      intro x hx;rcases Ŀ hx with e | hx
      · subst e
        exact key_of ok (ŏ hq.1 hq.2.1)
      · exact ih x hx
  exact all r x hx
def dt_of{P:ř}{w:ł}{H:Hp}{h:Heap}{a:Addr}{kvs:kY}(ok:iI h)(e:Ï a rm):Ù rj/\Av a /\
    ∃xs,Ix/\h.DictOfH (At P w) a xs:=dt_rd ok (ď e)
def DGet(H:Hp)(a:Addr)(y:V)(r:ĕ V):Prop:=
  (∃kvs k,Rd H a v6/\y=kV k/\r=Iw)\/∃kvs k b,Rd H a rm/\y=Č b/\Iy b/\r=Iw
def DPut(H:Hp)(a:Addr)(y v:V)(H':Hp):Prop:=
  (∃kvs k,Ï a v6/\y=kV k/\rj<AT/\H'=aq a (.dK (B8 v))) \/
  ∃kvs k b,Ï a rm/\y=Č b/\Iy b/\rj<AT/\H'=aq a (.dT (B8 v))
def DPut.t{H:Hp}{a b:Addr}{kvs:kY}{k:oj}{v:V}(e:Ï a rm)(eb:Iy b)(hl:rj<AT) :
    DPut H a wH v (aq a (.dT (B8 v))):=ė ⟨kvs,k,b,e,rfl,eb,hl,rfl⟩
def Inv.big{X:Cx}{pins:ğ}{σ:St}{H:Hp}{s:č}(I:Ĥ):L8<ġ:=by
  have h:bO<ġ:=(SD).lt;exact KL đ h
def d_getItem{X:Cx}{pins:ğ}{σ:St}{H:Hp}{s:č}{a:Addr}{y v:V}{u:Ě}{A:ξ}{E:ú}{Q:ú}(hu:uq+1<cLine)(I:Ĥ)(g:DGet H a y dw)(ry:aZ y)(h:∀w' s',iJ H s'->RelV v w'->Q w' s') :
    vj A (getItem Ī u) Q E s:=by
  rcases g with⟨kvs,k,e,ey,l⟩ | ⟨kvs,k,b,e,ey,eb,l⟩
  · subst ey
    obtain⟨z,hd,vs,rel,dd⟩:=dk_rd Φ e;obtain⟨w',hw,rw'⟩:=aaq (valueAt vs k);exact wpAny_getItem_of (kV_is ry) dd.mapOf hw (h w' _ uo rw')
  · subst ey
    cases(ž (u=gI b) ry);obtain⟨z,hd,xs,rel,dd⟩:=dt_rd Φ e;obtain⟨w',hw,rw'⟩:=aaq (aD (atKey xs k));obtain⟨p,hp,hp2⟩:=Θ hw;refine wpAny_getItem_heap (Vi hu) (key_of Φ eb) dd hp ?_;rw[hp2];exact h w' _ uo rw'
def d_write{X:Cx}{pins:ğ}{σ:St}{H:Hp}{s:č}{a:Addr}{h':Heap}{t':Nat}{ob:HO}(I:Ĥ)(mu:Mut (H a))(hs:wb a h')(he:∃q,ba a=ā q)(new:rC (aq a ob) h' a ob) :
    pO (aq a ob) h' t':=
  I.write (x:=a) (e:=a) mu Ð (fun b q hb z=>li hs b hb z) he new
def dk_new{a:Addr}{P:ř}{w:ł}{H':Hp}{h':Heap}{kvs:Aq}{vs:fW Key Ě}(z:Ù rj)(hd:Av a)(rel:yn)(dd:h'.DictOf (vY P w) a vs) :
    C_ H' h' a v6:=⟨z,hd,vs,rel,dd⟩
def d_setItem{X:Cx}{pins:ğ}{σ:St}{H:Hp}{s:č}{a:Addr}{y v:V}{u r:Ě}{A:ξ}{E:ú}{H':Hp}{Q:Gz}(hu:uq+1<cLine)(I:Ĥ)(g:DPut H a y v H')(ry:aZ y)(rv:RelV v r)(h:∀s',yd->Q () s') :
    vj A (setItem Ī u r) Q E s:=by
  rcases g with⟨kvs,k,e,ey,l,eH⟩ | ⟨kvs,k,b,e,ey,eb,l,eH⟩
  · subst ey eH
    obtain⟨z,hd,vs,rel,dd⟩:=dk_of Φ e;have hz:Ù aP:=ŏ rel.length z
    have hl:Ù (Ć (B8 v)):=fq (length_putK kvs k v)
    refine wpAny_setItem_pairs (hsz:=hz) (kV_is ry) dd fun h' dd' hs=>h _ ?_
    have he:∃q,ba a=ā q:=let ⟨q,_,_,hq,_⟩:=dd';⟨q,hq⟩;exact d_write I (Ą e LF) hs he (dk_new hl hd (rel.put k rv) dd')
  · subst ey eH
    cases(ž (u=gI b) ry);obtain⟨z,hd,xs,rel,dd⟩:=dt_of Φ e;have hz:x4:=ŏ (Ny rel) z
    have hl:Ù (Ć (B8 v)):=fq (length_putK kvs k v)
    refine wpAny_setItem_heap (hsz:=hz) (Vi hu) (key_of Φ eb) dd fun h' dd' hs=>h _ ?_
    obtain⟨q,es,ep,hq,h2,h3,h4,_,h5⟩:=dd';refine d_write I (Ą e LF) hs ⟨q,hq⟩ ⟨hl,hd,_,(rel.put k eb rv).keeps (Ğ c ys ec),q,es,ep,hq,h2,h3,h4,h5⟩;rw[È (ne_of ec e EQ)];exact ec
def NoSl(i:Expr):Prop:=∀ov iv,Od i ov iv=SY ov iv
def subD_of{prog:ř}{w:ł}{A:ξ}{E:ú}{s:č}{env:Env}{jG mM:Expr}{pos:Pos}{T id:du}{Q:ú}
    (hl:XV) (hs:NoSl mM)
    (h:f_ (eval jG env) (fun o s₁=>f_ (eval mM env) (Ĵ s₂ (s₂.TypeIs o T/\f_ (getItem o i) Q E s₂)) E s₁) E s) :
    gY (eval (iM jG mM pos) env):=by
  refine Subscript_ (jx h (fun o s₁ h₁=>jx h₁ (Ğ i s₂ h₂) (bc x x)) (bc x x));obtain⟨hT,h₂⟩:=h₂;unfold subscriptTail;refine lB;rw[getitemInPython_of_ne hT.not_modules];refine ą (wpAny_specialOf hT hl ?_);have fin:f_ (Od mM o i) (fun r s₃=>f_ (letTemporaryGo jG o r >>= ş (pure r)) Q E s₃) E s₂:=Ą (hs o i) (wpAny_operating (jx h₂ (fun r s₃ h₃=>ą (wpAny_letTemporaryGo (Ņ h₃))) (bc x x)))
  first
    | exact Ņ (ą fin)
    | exact oM (ą fin)
    | exact ą fin
def dict_typeIs{X:Cx}{pins:ğ}{σ:St}{H:Hp}{s:č}{a:Addr}{y:V}{o:ĕ V}(I:Ĥ)(g:DGet H a y o):r6 Ī iN:=by
  rcases g with⟨kvs,k,e,_,_⟩ | ⟨kvs,k,b,e,_,_,_⟩
  · obtain⟨_,_,vs,_,dd⟩:=dk_rd Φ e
    exact dd.typeIs
  · obtain⟨_,_,xs,_,dd⟩:=dt_rd Φ e
    exact dd.typeIs
def sDPut(td ty tv:TE):TS:=AF (tv σ H fun v H1=>td σ H1 fun x H2=>ty σ H2 fun y H3=>∃a H4,x=Ī/\DPut H3 a y v H4/\D.nx σ H4)
def ps_dput{X:Cx}{o i jG:Expr}{pos pos':Pos}{td ty tv:TE}(hu:lO 1)(ho:PE X o td)(hi:PE X i ty)(hv:PE X jG tv)(hs:NQ jG (iM o i pos')=pure ă) :
    AJ (iM o i pos') jG (sDPut td ty tv):=by
  intro pins s σ H D I h;refine wpAny_Assign_Subscript (thn (hv pins s σ H _ I h) fun r s1 ⟨v,H1,I1,rv,q1⟩=>thn (Dj s1 H1 _ I1 q1) fun u s2 ⟨x,H2,I2,rx,q2⟩=>Æ (hi pins s2 σ H2 _ I2 q2) iv s3 ⟨y,H3,I3,ry,a,H4,ex,g,q3⟩) hs;subst ex;obtain rfl:u=gI a:=rx;exact d_setItem hu I3 g ry rv fun s4 I4=>⟨σ,H4,I4,q3⟩
def dt_empty{P:ř}{w:ł}{H:Hp}(h:Heap)(hb:L8<mn):C_ H (h.push Kj) mn (.dT []):=
  ⟨cX,iF (jv (Ñ hb)),[],.nil,_,#[],0,Ø,u6 rfl,rfl,rfl,Iz⟩
def tDNewT:TE:=ŷ _ (∀p,iR->oF p H (.dT []))
def pe_dnewT{X:Cx}{pos:Pos}:PE X (.Dict [] [] pos) tDNewT:=fun pins s σ H Q I h=>
  wpAny_Dict_empty ⟨bj,_,I.laid (a:=ġ) (o:=.dT []) (t':=cW) (bc q (ű q)) ħ (dt_empty Ė I.big),rfl,h _ A1⟩
def RSt.growD(R:gq)(k:iR)(u:mutO i=true):RSt D (aq p i) σ δ O (p::W):=by
  have s:Ú (aq p i):=jZ k;have c:Same _ (Ô (O++(p::W)) _):=fun b o e=>by
    obtain⟨w,e⟩:=cD e;rw[cF ?_]
    · exact s b o e
    · rcases Ŀ (L6 z)with z | z
      · rw[z,k]at e;cases e
      · exact w z
  refine⟨nK,nK,R.inj,HN (fun j d h=>bn h) (Ŕ h) a _ _ (s _ _ h),R.len,⟨Ĝ a f,fy _,Ĝ a f,Ĝ a f,R.hid.omS s⟩⟩
  · obtain⟨v,n,l⟩:=Io
    exact⟨v,n,l.mono c⟩
  · obtain⟨a,g,r,A,n,l,y,x⟩:=BZ d
    exact⟨a,g,r,A,n,Ŕ l,s _ _ y,x.mono c⟩
  · rcases Ŀ (L6 f)with z | z
    · rw[z,aM];intro q;cases q
    · intro q;exact BY a z (s.free q)
  · rcases Ŀ f with z | z
    · exact⟨_,Ą z aM,u⟩
    · obtain⟨g,q,m⟩:=R.hid.wl a z;exact⟨g,s _ _ q,m⟩
  · rcases Ŀ f with z | z
    · intro q;exact BY p (fh (ŏ z q)) k
    · exact R.hid.dj a z
def RSt.setOd(R:gq)(x:p∈W)(m:OdOk u p l)(A:H p=ā l)(c:He=true):nE H (yb fj) (eT (.od u)):=by
  refine⟨nK,nK,fun j k a C B g f r o=>?_,nK,UW,R.hid⟩
  · have b:=xl h
    rw[bP b]at h ⊢;exact Io
  · have b:=xl h
    rw[bP b]at h ⊢;exact BZ d
  · have w:=xl g
    have v:=xl f;rw[bP w]at g r;rw[bP v]at f o;exact LX C B g f r o
  · have b:j=i:=by
      by_cases b:j=i
      · exact b
      · rw[bP b]at h
        exact noOd_of c h
    subst b;obtain⟨y,e⟩:=set_at h;cases e;refine⟨⟨p,l,m,rD (Ą R.len y),x,A⟩,Ğ k d' q⟩;by_cases n:k=j
    · exact n
    · rw[bP n]at q
      exact noOd_of c q
def RSt.writeOd(R:gq)(K:dY (.od d))(P:t_ fj)(B:p∈W)(Q:H p=ā I)(C:dicO I=true)(w:OdOk y p x):nE (aq p x) σ (eT (.od y)):=by
  have u:Same _ (nB (aq p x)):=aaj r (r (Ą z (lv B)))
  have A:∀{b:Addr} {n:İ},Ï b (.lst n)->b≠p:=fun {b n} h z=>by rw[z,Q]at h;cases h;cases C
  refine⟨nK,nK,fun j k a y X l g U S=>?_,nK,Ą sf R.len,⟨Ğ b r q,fy _,cQ r,R.hid.dj,R.hid.omW B⟩⟩
  · have f:=xl h
    rw[bP f]at h;obtain⟨v,l,g⟩:=Io;exact⟨v,l,g.mono u⟩
  · have f:=xl h
    rw[bP f]at h;obtain⟨b,n,E,M,l,g,F,L⟩:=BZ d;exact⟨b,n,E,M,l,g,Ą (È (A F)) F,L.mono u⟩
  · have N:=xl l
    rw[bP N]at l;rw[bP (xl g)]at g;exact LX y X l g U S
  · have f:j=i:=by
      by_cases f:j=i
      · exact f
      · rw[bP f]at h
        exact(R.od i _ K).2 j _ h
    subst f;obtain⟨hl,e⟩:=set_at h;cases e;refine⟨⟨p,x,w,P,B,aM⟩,Ğ k d' q⟩;by_cases J:k=j
    · exact J
    · rw[bP J]at q
      exact(R.od j _ K).2 k _ q
  · by_cases c:b=p
    · rw[c,aM]at q;cases q
    · rw[È c]at q;exact BY b r q
  · by_cases c:b=p
    · exact⟨_,Ą c aM,w.mut⟩
    · obtain⟨n,q,m⟩:=R.hid.wl b r;exact⟨n,Ą (È c) q,m⟩
section
variable {X:Cx} {δ:List Sv} {o:Out} {e ek ed ea:Expr} {pos pos' npos spos apos cpos:Pos} {ra rb rc:Option Re} {i:Nat} {x:Str} {re:Re}
def od_keysT(L:uQ):im (oeK L) p (DKey.t p.1)=i_ (Bg p.1.1 p.1.2):=by
  unfold oeK;rw[ŗ];rfl
def od_valsT(L:uQ):cC (i_ BN) (aD (oeK L)):=by
  unfold oeK;rw[ŗ]
  induction L with
  | nil=>exact vd
  | cons p r a=>exact ze _ _ BK a
def dkO:ń HO
  | .dK _=>true
  | .dT _=>true
  | _=>ă
def pe_frz(hv:ud npos):JM npos (ŷ k (∃a o,ĭ k (ā Ī)/\Ar/\dkO o=true/\∀c,Q Ī (aq a (.frz c o)))):=by
  intro g s k H Q I h;obtain⟨a,o,y,f,d,q⟩:=h;refine UC g k j Ī y t0;obtain⟨v,j,n,r1,w,r⟩:=t0
  subst w r;have ok:=n.hok _ _ f;obtain⟨c,z5⟩:∃c,y_ a=Ś:=by
    cases o with
    | dK m=>obtain⟨_,_,_,_,c,_,_,e,_⟩:=ok;exact⟨c,e⟩
    | dT m=>obtain⟨_,_,_,_,c,_,_,e,_⟩:=ok;exact⟨c,e⟩
    | _=>cases d
  have l:rC (upd j a (.frz c o)) s1.heap a o:=by
    refine ok.stay (pM e e) (cQ e) (k_ p) (k_ p) fun b _ _ _ _ e=>?_
    · rw[Qn];exact e
    · rw[Qn];exact e
    · rw[Qn];exact e
    · rw[Qn];exact e
  exact⟨Ī,upd j a (.frz c o),n.write (by rw[f];cases o<;>first | trivial | cases d) Ð (fun b u hb e=>e) ⟨c,z5⟩ ⟨z5,l⟩,r1,q c⟩
def dss_retd (hv : ud npos) (h : (match ω with
      | ā (.od d) => bU (isDc d) (ā (Out.rt (unT d) ă))
      | _ => none) = ē) : zI (.Return (ā (bA npos)) pos) := by
  split at h
  · rename_i d f
    split at h
    rotate_left
    · cases h
    rename_i g;cases h;refine (ps_ret (pe_frz hv)).weak fun Dn σ H ⟨H0, O, W, R, j, fo, sm, k⟩ => ?_
    obtain ⟨⟨p, ob, n, m, a, l⟩, u⟩ := R.od i _ f;obtain ⟨L, c, b⟩ := n;subst c b;refine ⟨p, _, m, l, rfl, fun e => fV (Iq sm (j p a)) ?_⟩;show ja _ _ _;exact rep_dct.mpr (ė ⟨p, e, oeK L, rfl, by rw [η (R.hid.dj p a)]; exact aM, od_keysT L, od_valsT L⟩)
  · cases h
def noSl_of(h:BC ek=ă):NoSl ek:=fun ov iv=>by cases ek<;>first | rfl | cases h
theorem look_val:Vk Aq (.i k) (dKey p.1) yK (valV a (ď k)=wK)
  | [],b,r,h=>Vj
  | _::a,[],r,h=>ζ
  | (e,g)::a,d::b,r,h=>by
    obtain⟨w,ws,m,l,i⟩:=o9 r;cases m;have c:(ĩ (dKey e=.i k) (ā d) (iW (.i k) _ b))=μ:=h;by_cases f:e=ď k
    · subst f
      rw[ĉ (ž (dKey _=.i k) rfl)]at c;cases c;rw[B6 rfl];show ā g=_;rw[ž (g=yK) (nC l)]
    · rw[xm (f (by cases e with | inl j=>cases z;rfl | inr j=>cases z))]at c
      rw[B7 f];exact look_val i c
theorem look_valS:Vk Aq (.s k) (dKey p.1) d (∃v,valV a (ė k)=dw/\aT H)
  | [],b,r,h=>Vj
  | _::a,[],r,h=>ζ
  | (e,g)::a,n::b,r,h=>by
    obtain⟨w,ws,m,l,i⟩:=o9 r;cases m;have c:(ĩ (dKey e=.s k) (ā n) (iW (.s k) _ b))=ā d:=h;by_cases f:e=ė k
    · subst f
      rw[ĉ (ž (dKey _=.s k) rfl)]at c;cases c;rw[B6 rfl];exact(Á g l)
    · rw[xm (f (by cases e with | inl j=>cases z | inr j=>cases z;rfl))]at c
      rw[B7 f];exact look_valS i c
theorem look_no{d:Type}{f:d->DKey}:∀{l:Ĳ d} {c:Ĩ},(∀a∈l,f a≠k)->iW k (aF f) c=none
  | [],c,_=>BQ c
  | a::l,[],_=>rfl
  | a::l,v::c,h=>by
    show(ĩ (f a=k) dw (iW k _ c))=none;rw[ĝ (h a ũ)];exact look_no (fw b e)
theorem look_valT:Vk kY (.t k) (DKey.t p.1) yK (valV a k=wK)
  | [],b,r,h=>Vj
  | _::a,[],r,h=>ζ
  | (g,f)::a,d::b,r,h=>by
    obtain⟨w,ws,l,j,i⟩:=o9 r;cases l;have c:(ĩ (DKey.t g=.t k) (ā d) (iW (.t k) _ b))=μ:=h;by_cases e:g=k
    · subst e
      rw[js]at c;cases c;rw[B6 rfl];show ā f=_;rw[ž (f=yK) (nC j)]
    · rw[xm (e (DKey.t.inj z))]at c
      rw[B7 e];exact look_valT i c
def DGetS(K:į)(H:Hp)(a:Addr)(y:V)(r:ĕ V):Prop:=DGet H a y r\/∃kvs k b,Rd H a rm/\y=Č b/\SqT K H b (k.map kV)/\r=Iw
def key_ofS{pins:ğ}{σ:St}{H:Hp}{s:č}{a:Addr}{ks:oj}(I:Ĥ)(e:SqT X.K H a (ks.map kV)):(At aj X.w).is Ė ks a:=by
  rcases e with h | ⟨o,its,n,h1,h2,h3,_,h5⟩
  · obtain⟨_,its,r,o,h1,h2,n,h3⟩:=(show rC H Ė a (ģ (ks.map kV))from rd_of Φ h)
    exact aap
  · exact⟨o,its,n,I.kIn a o h1,h2.1,h3,items_are h5⟩
def d_getItemS{E:ú}(o:uq+1<cLine)(I:jw c)(g:DGetS X.K H a y dw)(n:aZ y)(h:∀d m,lA c H m->RelV v d->Q d m) :
    vj A (getItem Ī u) Q E s:=by
  rcases g with g | ⟨kvs,k,b,e,ey,eb,l⟩
  · exact d_getItem o I g n h
  · subst ey
    cases(n);obtain⟨z,hd,xs,i,w⟩:=dt_rd Φ e;obtain⟨d,q,f⟩:=RelO.some_of (Ą l (i.val k));obtain⟨p,r,j⟩:=Θ q;refine wpAny_getItem_heap (Vi o) (key_ofS I eb) w r ?_;rw[j];exact h d _ uo f
def dict_typeIsS{o:ĕ V}(I:jw c)(g:DGetS X.K H a y o):r6 Ī iN:=by
  rcases g with g | ⟨kvs,k,b,e,ey,eb,l⟩
  · exact dict_typeIs I g
  · obtain⟨_,_,xs,_,d⟩:=dt_rd Φ e
    exact d.typeIs
def tDGetS(K:į)(td ty:TE):TE:=ŷ σ (td σ H fun x H1=>ty σ H1 fun y H2=>∃a v,x=Ī/\DGetS K H2 a y dw/\Q v H2)
def pe_dgetS{e:TE}(m:lO 1)(o:PE X ea e)(p:PE X ek ty)(n:NoSl ek):PE X (iM ea ek pos) (tDGetS X.K e ty):=by
  intro b s d H Q I h;refine subD_of PySem.F.slot_dict_getitem.lookup n (thn (o b s d H _ I h) fun u s1 ⟨x,z,r,j,l⟩=>Æ (p b s1 d z _ r l) iv s2 t0);obtain⟨y,w,f,i,a,v,ex,g,k⟩:=t0;subst ex;obtain rfl:u=gI a:=j;exact⟨dict_typeIsS f g,d_getItemS m f g i fun w' s3 q c=>⟨v,w,q,c,k⟩⟩
def pair_sq(h:vc OQ):∃p,v=fj/\SqT D.K H p (([ď a,ď b]:oj).map kV):=by
  obtain⟨p,xs,j,c,i⟩:=sR h;obtain⟨v1,vs,rfl,r1,g⟩:=o9 i;obtain⟨v2,d,rfl,f,e⟩:=o9 g;rw[nC r1,nC f,xa e]at c;exact⟨p,j,c⟩
def snd_dix(hu:lO 1)(ha:Ì ra ea)(hk:Ì rb ek)(hs:BC ek=ă)
    (h:(eU ra c (pd fun y _=>dixC x c y))=Ó):j_ (iM ea ek pos):=by
  have C:=fun t t' (hA:PE X ea t) (hB:PE X ek t')=>pe_dgetS (pos:=pos) hu hA hB (noSl_of hs)
  cases r:ra with
  | none=>rw[r]at h;cases h
  | some q=>
    rw[r]at h;have A:=ha q r;cases q with
    | ok Y cx=>
      cases o:rb with
      | none=>rw[o]at h;cases h
      | some w=>
        rw[o]at h;have B:=hk w o;cases w with
        | ok dk ck=>
          have f:dixC Y cx dk=Ó:=h;unfold dixC at f;split at f
          · rename_i F
            split at f
            · rename_i J
              subst J;obtain⟨⟨ks,S⟩,hd,f⟩:=nG f;obtain⟨d,b,rfl⟩:=Θ f;cases Y<;>cases hd;refine Vl
              obtain⟨K,_⟩:=Lq (u.all EM);subst K;rcases HI g with⟨a,j,e,n,m,i,l⟩ | ⟨a,j,e,n,m,i,l⟩
              · subst i
                obtain⟨P,q1,w⟩:=look_valS l b;exact⟨a,P,n,yj ⟨e,ė F,oH j (s2 _ _ (cD m).2),rfl,q1.symm⟩,p _ s o_ (w.mono s2.wo:ja (nB s) d P)⟩
              · subst i
                rw[look_no (fun a _ z=>eP z)]at b;cases b
            · cases f
          unfold dixD at f;split at f
          · rename_i ks S F _
            split at f
            · rename_i E b
              cases f;refine Vl
              have I:=u.int EM;subst I;rcases HI (g.all Δ)with⟨a,j,e,n,m,i,l⟩ | ⟨a,j,e,n,m,i,l⟩
              · subst i
                exact⟨a,.int E,n,yj ⟨e,ď F,oH j (s2 _ _ m),rfl,(look_val l b).symm⟩,p _ s o_ zg⟩
              · subst i
                rw[look_no (fun a _ z=>eP z)]at b;cases b
            · cases f
          · rename_i ks S a0 b0 _
            split at f
            · rename_i E b
              cases f;refine Vl
              obtain⟨pk,M,L⟩:=pair_sq (u.all EM);rcases HI (g.all Δ)with⟨a,j,e,n,m,i,l⟩ | ⟨a,j,e,n,m,i,l⟩
              · subst i
                rw[look_no (fun a _ z=>by rcases a with⟨k | k,_⟩<;>cases z)]at b;cases b
              · subst i
                exact⟨a,.int E,n,ė ⟨e,_,pk,oH j (s2 _ _ m),M,L,(look_valT l b).symm⟩,p _ s o_ zg⟩
            · cases f
          · cases f
universe E_
def kP(p:B9):oj:=[ď p.1,ď p.2]
def kP_inj(h:kP p=kP q):p=q:=by
  unfold kP at h;obtain⟨a,b⟩:=p;obtain⟨c,d⟩:=q;simp at h;rw[h.1,h.2]
def putP(L:uQ)(k:B9)(z:Int):uQ:=if Vm then L.map (fun p=>zJ p z)else L++[(k,z)]
def putK_oe(L:uQ)(k:B9)(z:Int):putK (oeK L) (kP k) (.int z)=oeK (putP L k z):=by
  have e:((oeK L).any fun a=>ě (a.1=kP k))=L.any (Ir p):=by
    unfold oeK;rw[List.any_map]
    congr 1
    funext p
    show ě (kP p.1=kP k)=ě _;by_cases h:p.1=k
    · rw[þ (ų h),þ h]
    · rw[dt (fun z=>h (kP_inj z)),dt h]
  unfold putK putP;rw[e];split
  · unfold oeK
    rw[ŗ,ŗ];apply c_;intro p _;show(if kP p.1=kP k then(kP p.1,lJ z)else(kP p.1,lJ p.2))=(kP (zJ p z).1,lJ (zJ p z).2);by_cases h:p.1=k
    · rw[ĉ (ų h),ĉ h]
    · rw[xm (h (kP_inj z)),ĝ h]
  · unfold oeK
    rw[Ë];rfl
def kD(p:B9):DKey:=Bg p.1 p.2
def kD_inj(h:kD p=kD q):p=q:=kP_inj (DKey.t.inj h)
def putD_oe(L:uQ)(k:B9)(z:Int):putD (kD k) (.int z) (i_ (kD p.1)) (i_ BN)=(im (putP L k z) p (kD p.1),im (putP L k z) p BN):=by
  have e:(kD k∈i_ (kD p.1))↔Vm:=by
    rw[Bm,K_];constructor
    · rintro⟨p,c,b⟩;exact⟨p,c,Ą ak (kD_inj b)⟩
    · rintro⟨p,c,b⟩;exact⟨p,c,ų (decide_eq_true_eq.mp b)⟩
  unfold putD putP;by_cases h:Vm
  · rw[ĉ (e.mpr h),ĉ h,ŗ,ŗ]
    refine Prod.ext ?_ ?_
    · apply c_
      intro p _;show kD p.1=kD (zJ p z).1;split<;>rfl
    · show List.map _ _=_
      rw[List.zip_map_left,List.zip_map_right];have:∀(L:uQ),List.zip L L=i_ (p,p):=by
        intro L
        induction L with
        | nil=>rfl
        | cons a r d=>rw[List.zip_cons_cons,d];rfl
      rw[this,ŗ,ŗ,ŗ];apply c_;intro p _;show(ĩ (kD p.1=kD k) (ŕ z) (ŕ p.2))=ŕ (zJ p z).2;by_cases h:p.1=k
      · rw[ĉ (ų h),ĉ h]
      · rw[xm (h (kD_inj z)),ĝ h]
  · rw[xm (h (e.mp z)),ĝ h,Ë,Ë]
    rfl
def dss_sep(m:rH)(g:ow)(f:yc)(j:ya)(h:(Ŭ He (uZ (eT (yQ [] []))))=ē):AJ (bA c) (.Dict [] [] b) zH:=by
  split at h
  · rename_i e
    cases h;refine(ps_set m g f pe_dnewT rfl j).weak (E6 Dn σ H0 n (Ĝ p d))
    exact fV _ ((R.growD d rfl).setOd ũ (u6 []) aM e) (fun a l=>by
      rcases Ŀ l with z | z
      · rw[z];exact sm.free d
      · exact n a z) (sm.trans (jZ d))
  · cases h
def look_oe(h:iW (kD k) (i_ (kD p.1)) (i_ BN)=wK):valV (oeK L) (kP k)=wK:=by
  induction L with
  | nil=>cases h
  | cons p r c=>
    have b:(if kD p.1=kD k then ā (ŕ p.2)else iW (kD k) _ _)=μ:=h;show valV ((kP p.1,lJ p.2)::oeK r) (kP k)=_;by_cases a:p.1=k
    · rw[ĉ (ų a)]at b
      cases b;rw[B6 (ų a)]
    · rw[xm (a (kD_inj z))]at b
      rw[B7 (fun z=>a (kP_inj z))];exact c b
def dss_dpp(hu:lO 1)(hv:ud f)(he:Ì I e)(hk:lN F es)(hc:isComp e=ă)
    (h:(match ω with
      | ā (yQ ks C)=>Tq I F ks C
      | _=>none)=ē):AJ (iM (bA f) (.Tuple es x1 r) s) e zH:=by
  split at h
  · rename_i ks C Y
    cases m:I with
    | none=>rw[m]at h;cases h
    | some q=>
      rw[m]at h;have A:=he q m;cases q with
      | ok d cl=>
        cases j:F with
        | none=>rw[j]at h;cases h
        | some S=>
          rw[j]at h;have B:=hk S j;cases S with
          | ok l=>
            obtain⟨δ',n,h2⟩:=Θ h;cases h2;unfold dppD at n;split at n
            · rename_i a ca b cb z
              split at n
              · rename_i U
                cases n;refine((fun t t' (hA:bC t) (hB:PA X es t')=>ps_dput hu hv (pe_tup hB) hA (swaps_none hc)) _ _ A B).weak (E8 Dn σ H0 Z (Ļ v H1 s1 g))
                obtain⟨⟨p,ob,e0,e1,e2,e3⟩,u⟩:=R.od i _ Y;obtain⟨L,Q,eo⟩:∃L,vn _=ģ [oeD L]/\ob=.dT (oeK L):=e0;subst eo;obtain⟨P,N⟩:ks=L.map (fun p=>kD p.1)/\C=L.map _:=aar Q;subst P N;refine⟨fj,e1,O,W,eX,Ļ vs2 H2 s2 g2⟩;have M:=g.int Δ;obtain⟨w1,w2,ew,g3,g4⟩:=g2.two;have w:=EM;have K:=g3.int w;have J:=g4.int w;subst M K J ew;refine⟨by show Ù (2:Nat);decide,Ĝ q hq⟩;have E:Same H2 (upd H2 q OQ):=jZ hq;have y:=E _ _ (P4 e3);rw[ċ]at U;refine⟨p,_,rfl,DPut.t (k:=kP (a,b)) y aM (L9 oeK ċ (ce U đ)),?_⟩;rw[putK_oe];have pe:=putD_oe L (a,b) z;unfold kD at pe k;rw[pe]at k;exact k σ _ W (((Py).mono E).writeOd Y e1 e2 y rfl (aQ rfl)) Z (Iq (Ţ (Ţ vm s2) E) (Z p e2))
              · cases n
            · cases n
  · cases h
def snd_dgp(C:lO 1)(hv:ud a)(F:Ì m j)(E:BC j=ă)
    (h:(match ω with
      | ā (yQ ks g)=>Χ m fun y _=>dgpD ks g y
      | _=>none)=ā l):ik (iM (bA a) j pos) l:=by
  split at h
  · rename_i ks g I
    cases b:m with
    | none=>rw[b]at h;cases h
    | some r=>
      rw[b]at h;have B:=F r b;cases r with
      | ok dk ck=>
        have e:dgpD ks g dk=ā l:=h;unfold dgpD at e;split at e
        · rename_i Y U
          split at e
          · rename_i v n
            cases e;refine((fun w (J:PE X j w)=>pe_dgetS C hv J (noSl_of E)) _ B).weak (Ļ σ H Q eY)
            obtain⟨⟨s,A,S,P,e2,N⟩,u⟩:=R.od i _ I;obtain⟨L,o,M⟩:∃L,vn _=ģ _/\A=.dT _:=S;subst M;obtain⟨d,c⟩:ks=L.map _/\g=L.map _:=aar o;subst d c;refine⟨Č s,P,O,W,R,Ļ v2 Z s2 K⟩;obtain⟨z,d,c⟩:=pair_sq (K.all (LB s2));exact⟨s,yK,rfl,ė ⟨oeK L,_,z,ď (s2 _ _ N),d,c,(look_oe (k:=(Y,U)) n).symm⟩,p _ Z s2 zg⟩
          · cases e
        · cases e
  · cases h
universe L2
namespace L2
open PySem
def Kp(a:Addr)(h h':Heap):Prop:=∀b o,b≠a->aA b->ba b=ē
def Kp.of(x:yZ a h c):Kp a h c:=bh n (x.extBut b o n e)
def Kp.trans(x:Kp a h h')(y:Kp a h' c):Kp a h c:=bh n (y b o n (x b o n e))
theorem Kp.push(x:Kp a h c)(d:Obj):Kp a h (c.push d):=bh n (ű (x b o n e))
def items_view(hd:Av d):MeetsIn prog w (Builtin.«dict.items» ⟨[Č d],[]⟩) (fun _ R s=>r6 (Č d) iN /\
    R (yt bj) (dJ (ux (ae "dict_items" (bM #[Č d]))))):=.of_wp fun A R s q=>by
  have a:¬(ņ (d==L8)):=Ą hd BA
  unfold Builtin.«dict.items» Builtin.Dict.noArgs Builtin.Dict.showsAll;refine jJ (wpAny_notOrdered_dict q.1 bF);show gW s;rw[ĝ a];exact oM (ą (uE (Ņ (Á _ q.2))))
def items_iter(hv:s.heap.IsItemsView v d)(c:iQ d b)(a:b.data=Gj)
    (q:iV bj (ux (ae L_ (bM #[Ĺ,fg ă,Č d,υ 0,.int Û 0,.int ep 0,Ĺ,Ĺ])))):gY (pyIter (Č v)):=by
  obtain⟨_,f,_,e⟩:=id hv;refine TX hv.typeIs F.slot_dict_items_iter F.entry_dict_items_iter (F.args_dict_items_iter_1 _);unfold Builtin.«dict_items.__iter__» Builtin.Dict_items.dictOf Builtin.Dict_items.newIterator;refine oM (jJ (Bb f e rfl (Ņ (jJ (wpAny_dictEntries c a (ą (wpAny_dictEpoch c a ?_)))))));rw[ž aas Β];exact uE (Ņ ⟨_,rfl,L_,_,aQ Ø,F.slot_dict_itemiterator_next.lookup,q⟩) (by show(8:Nat)<=_;rw[oE];omega)
def items_next{ov:Ě}(P:bD)(c:Qp Ė d i)(g:fZ d=Ö)(k:u.data=Gj)
    (e:∀en h',ĭ es en->IsItemIterOut h' it d ü Û ep en.key en.val ġ->ba ġ=ā Qo -> Kp it Ė h'->iV (ā bj) h')
    (f:∀h',jq es i->Kp it Ė h'->iV none h'):gY (ui it):=by
  have ty:∀{h:Heap} {j:Nat} {x y:Ě},IsItemIter h it d j Û ep x y->Shared.TypeIs (dJ h) Dp L_:=fun z=>aQ z
  have o:aas:=Β
  have O:¬(ņ (gI d==rg)):=BA;unfold uD;refine ą (Hv (Ma (ty c) F.slot_dict_itemiterator_next F.entry_dict_itemiterator_next ?_ (F.args_dict_itemiterator_next_1 _)));refine oM (jJ (ą (Vo (Ņ (ą (KY c rfl))))));simp only[o,f8];show rY _ (mE (ņ (gI d==rg)) _ _) _ _ s;rw[ĝ O];refine oM (ą (wpAny_dictEntries g k ?_));rw[ĝ Ģ];refine oM (ą (wpAny_dictEpoch g k ?_));rw[ĝ Ģ];refine bF;dsimp only;rw[ĝ (Ş (¬((i:Int)<0))),aE];cases B:es[i]? with
  | none=>
    dsimp only;refine jJ (Vo bF);simp only[o,f8];refine ą (DZ c Ģ fun l r s1=>lB);unfold newExc newTuple;refine ą (uE (YJ (uE (wpAny_raiseNew_none P (ą (YI bF))) (by size_fits))) (by size_fits));exact f _ B (((Kp.of s1).push _).push _)
  | some en=>
    dsimp only;refine jJ (Vo (Ņ (ą (Vn c ?_))));simp only[o,f8];refine ą (uH c l r s1);have p:Qp l d ü:=L9 IsItemIter (aJ (ı ü=qb i)) r
    refine AI (ą (Vn p (ą (Vn p ?_))));show gW (dJ l);unfold Builtin.Dict_items.pairFromOwner Builtin.Dict_items.ownedTupleIsFree;have sz:=s1.1;have n:Qp (l.push Qo) d ü:=ű p;have J:(l.push Qo).get? ġ=ā Qo:=ŏ sz Ø
    refine ą (OC (jJ (OJ n Ĺ bF)));simp only[f8];refine yG n ok (yG n ov ?_);refine ą (DZ n Ģ fun h3 I N=>ą (DZ I Ģ fun h4 H M=>ą (DZ H Ģ fun h5 C L=>ą (uH C R q K))));have v:=Ţ (Ţ (Ţ (Kp.of N) (.of M)) (.of L)) (.of K);refine ą (DX (Ņ (Ņ (Á _ bF))));rw[sz]at q ⊢;exact e en R B q (v _ _ (jv (Ñ (aB c))) J) (Ţ ((Kp.of s1).push _) v)
universe L2
namespace L2
open PySem PySem.Spec PyProof.Rows
def ItP(a:Addr)(ob:Obj)(qs:ŀ)(kvs:kY):It:=
  ⟨Ĵ H (gJ a ob rm/\∃k v,ĭ kvs (k,v)),
   Dq (∃p q k v,x=fj/\iR/\ĭ kvs (k,v)/\ĭ qs q/\Iy q/\H'=B1 p (Č q) v),
   Ĵ H (gJ a ob rm/\rj<=i)⟩
def kt_get(r:KT H c xs):∀{i:Nat} {k:oj} {v:V},ĭ c (k,v)->∃b u,ĭ xs (k,b,u)/\Iy b/\dv:=by
  induction r with
  | nil=>intro i k v h;cases h
  | cons p t e=>
    intro i k v h;cases i with
    | zero=>
      obtain⟨p1,p2,p3⟩:=p;rename_i a b _ _;obtain⟨a1,a2⟩:=a;obtain⟨b1,g,f⟩:=b;cases h;have d:=p1;subst d;exact⟨g,f,rfl,p2,p3⟩
    | succ i=>exact e h
theorem KT.length(r:KT H a xs):bR=Ä:=by
  induction r with
  | nil=>rfl
  | cons _ _ b=>rw[ť,ť,b]
def frz_atT(I:jw b)(h:gJ a c (.dT d))(hd:c.data=Gj) :
    fZ a=Ś/\Av a/\c.ExactDict/\∃xs,KT H d xs/\Au=xs.map (entryOfKey (At aj X.w)):=by
  obtain⟨e,z1,j,xs,i,o,m,n,g,l,f,k,y5⟩:=(show rC H Ė a (.frz c _)from Φ _ _ h);rw[e]at g;cases g;rw[hd]at f;cases f;exact⟨e,j,l,xs,i,k⟩
def keysAt(es:gH DictEntry)(qs:ŀ):Prop:=Hn (·.key)=qs.map gI
def turn_itemsP{K:į}(hd:ob.data=Gj)(M:keysAt es C) :
    JT (Qc pos) (ItP a ob C F) (∃ok ov,Qp h a i) where
  mem:=Ģ
  obj:=fun i h st b d=>by obtain⟨ok,ov,g⟩:=st;rw[xp]at d;subst d;exact(zE g q)
  keep:=fun i h y st q=>vZ ok ov g st ov (q it Ģ _ g)
  item:=by
    intro X S J U R i j s Z H E I x st O;subst S J U;obtain⟨ok,ov,g⟩:=st;obtain⟨W,k0,v0,r⟩:=O;obtain⟨B,z2,z4,xs,A,z⟩:=frz_atT I W hd;obtain⟨b,u,hu,d,ru⟩:=kt_get A r;have Q:ĭ es (entryOfKey (At aj X.w) (k0,b,u)):=fA (entry_at z) hu
    have L:ĭ C b:=by
      have h1:ĭ (Hn (·.key)) wH:=nH ō oZ Q
      rw[M,ō]at h1;obtain⟨c,e1,e2⟩:=Θ h1;cases e2;exact e1
    refine items_next (iL R) g B hd (fun en y f b2 b3 b5=>?_) (fun y p _=>jb Q p p);rw[Q]at f;cases f;refine DW;refine wpAny_letOwnedTupleGo_items b2 (Ğ h2 N t2)
    have m:=pS (aB g)
    have I1:=EX cW (bh d (t2.extBut _ _ (fun q=>d (aC q)) (b5 b o (fun q=>d (aC q)) e))) x;have l:=A1;have Y:=I.fpOk ħ l;have I2:lj j Z (B1 ġ (Č b) v0) (dJ h2):=U4 l (Dd I.sz) Y M
      (U3 wH u rfl ru (t2.extBut _ _ m b3))
    refine⟨bj,_,I2,rfl,⟨_,b,k0,v0,rfl,l,r,L,d,rfl⟩,⟨_,_,N⟩,cQ d⟩;rw[xp]at d;subst d;rw[È (jv m)];exact(x b Ģ).1
  done:=by
    intro X S J U R i j s Z H E I x st O;subst S J U;obtain⟨ok,ov,g⟩:=st;obtain⟨W,r⟩:=O;obtain⟨B,z2,z4,xs,A,z⟩:=frz_atT I W hd;have hl:Û<=i:=by rw[size_of_entries z,←A.length];exact r
    exact items_next (iL R) g B hd (fun en y f _ _ _=>jb (wW hl) f f) fun y _ a=>bG (EX cW (ch:=[it]) (bh d (a b o (fun q=>d (aC q)) e)) x)
  self:=lq _ st (by obtain⟨ok,ov,g⟩:=st;exact PySem.W.kcp_self g h)
def Wk.itemsP{K:ŀ}(h:Ô K g a=ā (.frz C (.dT b)))(e:b=oeK L)(P:∀q∈B,∃n,g q=ā (ģ n))(R:Hdn J g):Wk D (ItP a C B b) (i_ Vp) K J g:=by
  subst e;have Q:Ć (oeK L)=B_:=b_ oeK ċ
  have c:∀(i:Nat),(oeK L)[i]? = ļ L[i]? p (kP p.1,lJ p.2):=fun i=>qI oeK ō
  refine⟨Ļ i H s I,ν i H x U y,fun i H x U d M s s' y e F=>?_,Ĝ H s⟩
  · rw[ċ]at I
    exact⟨HL (s _ _ h),kP L[i].1,.int L[i].2,fA c (Ľ I)⟩
  · obtain⟨p,q,k,v,_,f,_,_,_,e⟩:=y
    rw[e];exact jZ f
  · obtain⟨p,q,k,v,ex,f,j,N,r,S⟩:=y
    rw[ō]at e;rw[c]at j;cases E:L[i]? with
    | none=>rw[E]at e;cases e
    | some O=>
      rw[E]at e j;cases e;cases j
      have l:q∉M:=fun z=>by
        obtain⟨n,w⟩:=P q (iO N);rcases(F q z).2 with u | u
        · obtain⟨o,A,m⟩:=R q u
          rw[w]at A;cases A;cases m
        · rw[w]at u;cases u
      subst S;have r1:Rep D (Ô M (B1 p (Č q) (.int O.2))) _ _:=
        rep_tup.mpr ⟨q,_,rfl,SqT.of (cw (η l) (sn r f) r),LW BK BK⟩
      exact Lr _ ex (BL ((F p z).1 f)) (LW r1 BK)
  · exact⟨HL (s _ _ h),cw ċ Q ħ⟩
def pi_items(he:bC S)(n:DG e "items"=cn e)(j:ņ (Po==AG)) :
    Ij tpos (A2 e "items" apos [] pos) (fun C H R=>S C H fun x g=>∃a f d,x=Ī/\g a=ā (.frz f (.dT d))/\∀U:ŀ,(∀q∈U,∃F,g q=ā (ģ F))->R (ItP a f U d) g):=by
  intro u s C H R I h;refine wpAny_Call_method0_late n j (Æ (he u s C H _ I h) v s1 t0);obtain⟨x,g,B,r1,a,f,d,e1,L,q⟩:=t0;subst e1;cases r1;obtain⟨i,w,A,N,E⟩:∃i w A,y_ a=eJ/\i.data=.dict w A:=by obtain⟨r,z1,Q,xs,P,o,w,A,y1,y2,y3,y4⟩:=aat;exact⟨o,w,A,y1,y3⟩
  have yo:i=f:=(by obtain⟨r,_⟩:=aat;rw[r]at N;cases N;rfl);subst yo;obtain⟨r,Q,O,xs,P,Z⟩:=frz_atT B L E;have J:s1.TypeIs Ī iN:=⟨i,r,O.1⟩;have nD:∀b,gI a=Č b->∃f,y_ b=ā f/\f.dict=none:=fun b q=>EL q ⟨i,r,O.2.1⟩
  refine⟨iN,"dict.items",PySem.F.plainAttrs_dict,PySem.F.slot_dict_items,PySem.F.type_dict_items,J,nD,Og rfl (PySem.evalArgs_none ?_)⟩;refine call_meetsIn PySem.F.slot_dict_items J PySem.F.entry_dict_items (PySem.F.args_dict_items_1 _) (items_view Q) (au J);have W:∀b o,y_ b=ē->(s1.heap.push (ae "dict_items" (bM #[Ī]))).get? b=ē:=yl
  have M:=B.kept (t':=s1.toks) W;refine items_iter (uI Ø) (W _ _ r) E ?_;refine⟨_,[_],_,ItP a i _ d,g,rfl,M.kept (t':=s1.toks) yl,turn_itemsP (elts:=elts) (k:=k) (pos:=tpos) E ((by unfold keysAt;rw[Z,ŗ,ŗ];rfl)),⟨Ĺ,Ĺ,Ø⟩,Ĝ c Y,q _ (cQ hb)⟩
  · rw[xp]at Y
    subst Y;exact M.fpOk ħ (M.hok.fresh ħ)
  · obtain⟨y,hy,rfl⟩:=Ő hb
    have all:∀{l:kY} {m:Ĳ _},KT g l m->∀x∈m,∃F,g x.2.1=ā (ģ F):=by
      intro l m q
      induction q with
      | nil=>intro x K;exact eB K
      | cons p t ih=>
        intro x K;rcases Ŀ K with z | z
        · rw[z];exact⟨_,p.2.1⟩
        · exact ih x z
    exact all P y hy
def kvp_k(h:kvp? ks vs=ā L){a:Aq}(e:a.map (fun p=>dKey p.1)=ks):L=[]/\a=[]:=by
  cases a with
  | nil=>
    subst e;cases vs with
    | nil=>cases h;exact pJ
    | cons _ _=>cases h
  | cons p a=>
    subst e;obtain⟨k,v⟩:=p;cases k<;>cases vs<;>cases h
def kvp_oe:∀{ks:Bf} {d:Ĩ} {L:uQ},kvp? ks d=ā L->∀{D:Dm} {H:Hp} {c:kY},c.map Uj=ks->cC d (c.map u8)->c=oeK L:=by
  intro ks
  induction ks with
  | nil=>
    intro d L h D H c e r;cases c with
    | nil=>cases d with
      | nil=>cases h;rfl
      | cons _ _=>cases h
    | cons _ _=>cases e
  | cons l ks m=>
    intro d L h D H c e r;unfold kvp? at h;split at h
    · exact ĸ (by assumption:l::ks=[]) (List.cons_ne_nil _ _)
    · rename_i a b j v g q
      cases q;obtain⟨L',o,n⟩:=Θ h;subst n;cases c with
      | nil=>cases e
      | cons p c=>
        obtain⟨k,i⟩:=p;obtain⟨w,ws,y,x,u⟩:=o9 r;cases y;have f:=List.cons.inj e;rw[m o f.2 u,show k=[ď a,ď b]from DKey.t.inj f.1,ž (i=yK) (nC x)];rfl
    · cases h
def snd_itm(i:DG e "items"=cn e)(g:ņ (d.endLine==AG))(F:Ì r e)
    (h:ax (eU r c (itmD x c))=ē):Ij j (A2 e "items" d [] pos) (zy o):=by
  cases f:r with
  | none=>rw[f]at h;cases h
  | some q=>
    rw[f]at h;have A:=F q f;cases q with
    | ok K M=>
      have b:ax (itmD K M)=ē:=h;unfold itmD at b;split at b
      · rename_i ks B
        split at b
        · rename_i u
          obtain⟨rfl,s⟩:=u;cases m:kvp? ks B with
          | none=>rw[m]at b;cases b
          | some L=>
            rw[m]at b;cases b;exact((fun C (I:bC C)=>pi_items I i g) _ A).weak fun σ H R' eY=>⟨O,W,R,fun x N s1 J=>by
              rcases HI (J)with⟨a,w,l,z,v,n,y⟩ | ⟨a,w,l,z,v,n,y⟩
              · obtain⟨rfl,rfl⟩:=kvp_k m n
                subst n;cases s
              · exact⟨a,w,l,z,HL v,fun qs E=>qA N (Wk.itemsP v (kvp_oe m n y) E (Δ).hdA)⟩⟩
        · cases b
      · cases b
def bind_clo(h:cloPs e ps=true)(c:bR=τ):HH (PySem.W.fnX nm q e b sc cl Ĺ Ĺ d pm none cd f) a=GQ a:=by
  revert c;refine cloPs_el h (Ğ x y c)
  obtain⟨u,v,rfl⟩:∃u v,a=[u,v]:=by
    cases a with
    | nil=>cases c
    | cons u r=>cases r with
      | nil=>cases c
      | cons v r=>cases r with
        | nil=>exact(f9 u v)
        | cons _ _=>cases c
  rfl
structure CloTx(C:CloD)(sc:ù):Prop where
  kind:yw=on
  co:Dx=ă
  gen:Dw=ă
  nd:C.N.Nodup
  len:C.np+C.nc<=Bl
  par:∀x∈w6,dB=dF
  nocell:Pq
  fre:∀i x,C.np<=i->i<C.np+C.nc->mw C.N->dB=jz
  slf:sc.names.lookup ŭ=jz
theorem nodupB_ofC:aav
  | [],_=>Iz
  | x::r,h=>aau (nodupB_ofC h.2)
def clo_tx(h:Mb k d=true):cloPs k w6=true/\CloTx C sc/\d=Uh/\lL (Pp C.N true) C.body bd=true:=by
  unfold corClo at h;simp only[Ĉ,ķ,ο,qt,Cb,ne_eq,ak]at h;obtain⟨⟨⟨⟨⟨⟨⟨⟨⟨⟨⟨⟨u,r⟩,q⟩,p⟩,o⟩,n⟩,h7⟩,m⟩,l⟩,c⟩,j⟩,g⟩,f⟩:=h;refine⟨u,⟨r,q,p,nodupB_ofC o,n,m,l,fun i x a b e=>j x ?_,g⟩,c,f⟩;rw[c];refine iO (i:=i - C.np) ?_;rw[J6 Ă,Bu,Ş (C.np+_=i)];exact e
def CloAt(D:Dm)(base:Heap)(ś:ju)(O:ŀ)(H:Hp)(C:CloD)(fn bl cl:ĥ)(cs:Ĩ)(f:Addr):Prop:=
  ∃q pr bd sc cap cc l ws c o,E_ H ŭ/\Mb pr cap=true/\Qr cc l/\ij bX cs ws/\lI=C.nc/\(Lj (aN=lz v)) /\
    (Y9 C.N C.np (E9 x)) /\
    Vq/\(E9 ŭ=Ś/\Qq/\aN=lz pX)/\tj (base.get? c=none/\c∉frs ś)
def CloOk(P:ř)(w:ł)(K:į)(mg:Τ)(base:Heap)(C:CloD)(fn bl cl:ĥ)(k:Nat)(Fc:uM Ou):Prop:=
  ∀(A:ξ) (ś:ju) (s:č) (H:Hp) (us:ŉ) (vs:İ) (Q:VK) (E:XK) (O:ŀ) (f:Addr) (cs ds:Ĩ) (d:DV),BX A->yu H->ub->Hdn O H ->
    CloAt qE base ś O H C fn bl cl cs f->œ=C.np->RepL qE bX ds vs->Fc tz=iY->(EC H' (PZ O)) ->
    PV us CX0
section
variable {X:Cx} {δ:List Sv} {pos p:Pos} {re:Re} {k:Nat} {x:Str} {pr:Arguments} {bd:List Stmt} {sc:Scope} {C:CloD} {fn bl cl cap:List Str} {cs:List DV} {fr:List Nat} {pins:List (Addr×Obj)} {σ:St} {H:Hp} {s:Shared} {O W:List Addr} {f:Addr} {q:Str} {cc:List (Str×Addr)} {l:List Addr} {F:List DV->Option Ou}
def clo_turn(I:Ĥ)(co:Vr fn bl cl k F)(hr:BX X.A)(df:E_ H ŭ)(A:Mb pr cap=true)(S:Qr cc l)
    (J:∀x c,E9 x=Ś->mt) (hl:Vq) (n:tj Id) (N:E9 ŭ=ā c0) (a0:JH c0 pX)
    (a4:lx=C.nc) (E:E4 C.N C.np) (U:hZ fr=qd) (R:HZ X.D)
    (a1:œ=C.np) (rl:EH aH ds vs) (ru:Vals vs Z) (hF:F tz=iY) (hd:zw) (hQ:EC p (Ib p)) :
    cR (call bE Z) mx EE s:=by
  have K:LJ:=⟨fun c h=>Gg x e (hl c h) (Az (J x c e)),fun c h=>by
    obtain⟨x,e⟩:=hl c h;obtain⟨v,o,g,d⟩:=wa (J x c e);exact⟨o,v,g,d⟩⟩
  have same:=K.same;have hdA:=R.hid.hdA;obtain⟨ws,w1,w2,w3⟩:=cap_rep R U;have oc:zr kf (b∉O++W):=aad B Y (K.none b hb)
  obtain⟨o0,g0,d0⟩:=a0;have ca:CloAt X.D mr dH qx zt C fn bl cl cs f:=by
    refine⟨q,pr,bd,sc,cap,cc,l,ws,c0,o0,df.mono same,A,S,w2.mono same.wo,ţ w1 a4,Ĝ c h,LV y,hl,⟨N,trC_in (S.mem _ _ N) g0,d0⟩,n⟩
    · obtain⟨o,v,g,d'⟩:=K.cel c h
      exact⟨o,v,trC_in h g,d'⟩
    · have hi:i<lx:=Qg w1 h2
      have hj:=Ľ hi;obtain⟨y',B,Y,L⟩:=E i _ hj;rw[h1]at B;cases B;have hv:=w3 i _ v hj h2;obtain⟨mm,hn',a3⟩:=k9;obtain⟨u,rv,lk⟩:=a3 _ y v Y hv (ė L);rcases lk with⟨M,_⟩ | ⟨M,cx,k2,o,k3,k4⟩
      · have M:=M
        rcases L with L | L<;>(rw[L]at M;cases M)
      · have P:=S.fre (C.np+i) y (Ź mL) (zK mL (clo_tx A).2.1.len) h1
        obtain⟨c2,e2⟩:=S.has y P;have:=J y c2 e2;rw[k2]at this;cases this;exact⟨cx,o,u,e2,trC_in (S.mem y cx e2) k3,k4,rv⟩
  have e0:=I.env0;refine J3 (wu (co X.A dH s _ Z vs (fun v p=>Same zt p/\Ib p) rO qx f cs ds d hr (Env0.trC K (fun c h=>(n c h).1) (fun c h=>(n c h).2) e0) ru (Ĝ a ha) ca a1 (rl.mono same.wo) hF fun v p sm g=>⟨sm,g⟩) (Ğ r s' m))
  · obtain⟨o,B,Y⟩:=hdA a ha
    exact⟨o,same _ _ B,Y⟩
  · cases r with
    | error e=>exact(m:cM).elim
    | ok fl=>
      cases fl with
      | ret u=>
        refine I.after (Q:=Q) (CE.trC (Q:=Q) K m (Ļ v p sm z) fun v p z=>z.1);have a2:tj (∃o,p c=ā (lM o c)):=fun c h=>by obtain⟨o,v,g,_⟩:=K.cel c h;exact⟨o,sm _ _ (trC_in h g)⟩
        refine hQ v _ (k_ o) (rep_wo a2 hd z.2);rw[η fun w=>jb (K.none b w) e e];exact sm _ _ (same _ _ e)
      | next=>exact eG m
      | brk=>exact eG m
      | cont=>exact eG m
def defFn_fnAt(I:Ĥ)(h:E_ H ŭ):PySem.W.FnAt f Ė:=by
  obtain⟨c',oc,u,vs,t,b,pm,c,T,a,_⟩:=h;exact⟨_,_,_,_,(Φ _ _ a).1⟩
def callC_at{l:oP}(h:callC a np cs l=Ó):∃d,yO/\Ć eM=np/\a h_ (eM++cs)=iY/\zw/\re=lE:=by
  unfold callC at h;split at h
  · rename_i z
    split at h
    · rename_i d b
      split at h
      · rename_i nl
        cases h;exact⟨d,z.1,Ą ċ z.2,b,nl,rfl⟩
      · cases h
    · cases h
  · cases h
def tClo(X:Cx)(δ:Ĕ)(F:Ŵ)(C:CloD)(cs:Ĩ)(ta:TA)(at_:St->Hp->Œ Addr):TE:=ŷ σ (∃f O W,at_ σ H f/\HZ X.D/\GI vs (Ú H1/\∃ds d,EH (nB H1) ds vs/\œ=C.np/\F h_ tz=iY/\zw/\∀v H',Same H1 H'->Ib H'->Q v H'))
def pe_clo(co:Vr fn bl cl k (FF h_))(hr:uu)(o:Mb pr cap=true)(S:X.Ok->Qr cc l/\(∀x c,E9 x=Ś->mt)/\Vq)(m:ER a b (lj a b H s) (tj Id))
    (z:∀{a:ğ} {b:bg} {H H':Hp} {s:č} {f:Addr},lj a b H' s->mS->at_ b H f->E_ H' ŭ/\∃c0,E9 ŭ=ā c0/\JH c0 pX) (n:ol (k7 ŭ))
    (L:lx=C.nc) (g:E4 C.N C.np) (w:hZ fr=qd)
    (A:yq P) (hs:gr) (K:xh):AW ŭ (tClo X δ FF C cs P at_):=by
  intro a s b H Q I h;obtain⟨f,O,W,U,R,h⟩:=h;obtain⟨df,c0,M,Y⟩:=z I (fy H) U;obtain⟨S,v,hl⟩:=S I.ok;have B:=v _ _ M;have J:AH (cn (.Name ŭ p)) u s1 (u=bE/\lj a b H s1):=by
    rcases n with n | n
    · exact JK (SB n B Y (bG I)) đ
    · exact JK (wpAny_loadName_free x8 n B Y (bG I) đ) đ
  refine AV (thn J (Ğ u s1 t0));obtain⟨eu,Z⟩:=t0;subst eu;refine ZL (defFn_fnAt Z df) b H ⟨vs,H2,F,r,sm,ds,d,g1,g2,g3,g4,g5⟩ K;obtain⟨E,c2,N,y2⟩:=z F sm U;rw[M]at N;cases N;refine(au (defFn_fnAt F E));exact clo_turn F co hr.toL E o S v hl (m F) M y2 L g w (R.mono sm) g2 g1 r g3 g4 g5
def DefFn.un(u:Ax c h')(d:E_ H nm):E_ c nm:=by
  obtain⟨p,i,o,e,t,a,g,b,T,n,m,l,k,j,r⟩:=d;exact⟨p,i,o,e,t,a,g,b,T,u.frzs _ _ _ n,u.frzs _ _ _ m,l,k,u.tbls _ _ j,r⟩
def clo_full(T:CloTx C sc)(ok:X.Ok)(d:ES cq):Qr lQ (aD lQ)/\(∀x c,cr lQ x=Ś->mt)/\Ic (∃x,cr lQ x=Ś):=by
  have g:Ć w6=C.np:=zK mL T.len
  refine⟨⟨T.kind,T.co,T.gen,T.nd,ų g,T.par,T.nocell,fun i x a b e=>T.fre i x (Ih g a a) (Ih g b b) e,Ĝ x h,fun x y c l k=>ok.inj x y c (fc_mem d l).1 (fc_mem d k).1,fun x c h=>eO _ (eI h)⟩,fun x c h=>(fc_mem d h).1,Ĝ c j⟩
  · have f:=eI h
    obtain⟨c,e⟩:=d _ f rfl;exact⟨c,fc_has d f e⟩
  · obtain⟨⟨x,c'⟩,f,rfl⟩:=Ő j
    rcases DL d f with z | z
    · cases z
    · exact⟨x,fc_has d z.2 z.1⟩
def pe_cloD(P:∀{c:TA},yq c->AW ŭ (tClo X δ i C cs c at_))(A:EN ai b)(h:(mZ lD (callC i C.np cs l))=Ó) :
    AW ŭ (ŷ a (∃f,at_ a H f/\qy re a H Q)):=by
  cases b with
  | ok l=>
    obtain⟨d,z,j,m,nl,rfl⟩:=callC_at h;exact(P A).weak fun a H Q ⟨f,k,O,W,R,p⟩=>⟨f,O,W,k,R,O,W,R,fun vs H1 s1 n=>⟨s1,_,d,n.strong Δ z,j,m,nl,PH o g⟩⟩
def ps_def(L:DefAt X sc c P (A9++ŭ))(b:cloPs pr w6=true)(q:rH)(o:ĭ X.N ŭ)(n:k7 ŭ=aO)(k:Loc Mc ŭ)(p:X.fn ŭ=true\/rR ŭ=dF) :
    PS X (Pk ŭ pr bd sc ŭ pos) (fun j e H=>∀f a,Ú a->ao f->DefFn a ŭ (A9++ŭ) pr bd sc lQ f->j.nx (e.set i pX) a):=by
  intro g s e H j I h;have l:qualnameIn ū ŭ ŭ=A9++ŭ:=qI qualnameIn n
  have d:pr.defaults=[]/\pr.kw_defaults=[]/\annTrees pr none ū=[]:=cloPs_el b fun x y=>u6 rfl
  refine PySem.W.nestDef_K d.1 d.2.1 d.2.2 ?_;rw[l];refine def_made I L fun f a s' w sm m r=>?_
  exact store_ok w q o k (v:=bE) rfl (fun s2 u=>⟨_,a,u,h f a sm m r⟩) p
universe E_
def CloG(G:Gs)(F:Ŵ)(X:Cx):Prop:=
  (∃c P,X.env.code=Č c/\ER pins σ Ĥ (UI/\Ï P (.tbl BV))) /\
  (∀x a,Dc x=eF->Db a=none/\a∉frs dH) /\
  ∀{δ:Ĕ} {e:Expr} {es:û} {pos p:Pos} {rs:Rs} {re:Re} {np nc:Nat},EN ai rs->gr->xh->Yu (ā rs)=Ó->j_ (pf ŭ ai)
def tagN(sc:uB):Str:=ĩ (Qs=aO) ŭ rA
structure DictK(K:į)(w:ł)(mg:Τ)(gk:iH Str)(a:Addr)(es:gH DictEntry)(n:Nat):Prop where
  mg:mg gdN=ā Ī
  lk:jt a=ā ⟨Ÿ iN,none,.dict es n,#[]⟩
  lit:PySem.W.KeysLit jI Au
  ks:∀k r,gk.lookup k=Ü->Ù Ű/\∃t,PySem.W.nsIn K a k=ā (ā (.str r t))
def ix_K{X:Cx}{gk:iH Str}:IxR X (lu (∃a es n k i,x=Ī/\y=.str k/\DictK X.K X.w X.mg gk a es n/\gk.lookup k=eJ/\Q sx H)):=by
  intro jG mM pins s σ H x y v u Q I rx ry q hs;obtain⟨a,es,n,k,i,rfl,rfl,D,e,q⟩:=q;cases rx;obtain⟨t',rfl⟩:=ry;obtain⟨_,t,e1⟩:=D.ks k _ e;have hm:=PySem.W.mapOf_K (prog:=aj) (w:=X.w) I.kIn D.lk D.lit;exact tail_any hm.typeIs slot_dict_getitem.lookup (wpAny_getItem_of (US k t') hm (PySem.W.find_K D.lk e1) ⟨sx,H,uo,bn t,q⟩) hs
structure Good(sg:Sg)(G:Gs)(F:Ŵ)(X:Cx):Prop where
  N:X.N=sg.N
  nd:rH
  vis:∀x,visB sg x=true->Gr
  glo:∀x,gloB sg x=true->pQ
  loc:∀x,locB sg x=true->yc/\ya
  lcl:∀x,o7 x=dF->rR x=dF
  cel:∀x,(ol (o7 x))->ol (rR x)
  calm:bf
  hu:lO 64
  fns:∀f x,Į sg.fn f x->∃k fa fd ps,uu/\AD=ā (Č fa)/\yv X.K fa=true/\GR []/\PJ /\
    GS CX0 fa LD
  blt:dG x sg.bl AD
  dk:IA X.K X.w X.mg
  con:Vs AD X.D
  own:sg.lp=true->JQ
  st:sg.top=true->dH=ū::X.outer/\X.env.frame=ā cN/\X.ex=[]
  lms:Bk->(G.fnl=sg.fn/\G.bll=sg.bl/\G.cll=sg.cl)/\(∃k,uu/\LamOk aj X.w X.K X.mg mr sg.fn sg.bl sg.cl k (F cZ)/\∀C,G.clo=ā C->Vr sg.fn sg.bl sg.cl k (F h_))/\(sg.top=true->∃c P,X.env.code=Č c/\(ET (X.K.In h) c P)/\(P,A9++tagN sg.sc)∈fX X.K/\(o7 ŭ=aO->deepQ (A9++ŭ)=true))
  cos:∀pr bd sc cap,sg.co pr bd sc cap=true->∃C,G.clo=ā C/\corClo C sg.fn sg.bl sg.cl pr bd sc cap=true
  clo:sg.lp=true->sg.top=ă->CloG G F X
theorem Cc:aav
  | [],_=>Iz
  | x::r,h=>aau (Cc h.2)
def IB(g:pi m)(h:blockOk m f fr sc tg=true):wF f sc/\P_/\U2:=by
  unfold blockOk at h;simp only[Ĉ,qt,ķ]at h;obtain⟨⟨⟨⟨⟨⟨B,A⟩,o⟩,z⟩,n⟩,w⟩,v⟩:=h;have d:∀(j i:Nat),Į fr j _->∃x,Į f j x/\mw m.N/\uC cq:=fun j i e=>by
    have l:j<f.length:=ŏ n (gM e)
    have r:(eJ,f[j])∈fr.zip f:=(by refine iO (i:=j) ?_;rw[List.getElem?_zip_eq_some];exact⟨e,Ľ l⟩);have q:=w _ r;simp only[Ĉ,ķ,HB]at q;exact⟨_,Ľ l,q.1,q.2⟩
  refine⟨⟨A,Cc o,Cc z,n,Ğ j i e,Ğ y s u⟩,ν j k i E C,B⟩
  · obtain⟨x,a,b,c⟩:=d j i e
    exact⟨x,a,Ą g.N b,c⟩
  · have q:=v y s
    rw[ĉ u]at q;simp only[gc,ķ]at q;exact g.cel _ q
  · obtain⟨x,a,b,_⟩:=d j i E
    obtain⟨x',H,p,_⟩:=d k i C;rw[b]at p;cases p;exact nodup_ix (Cc o) a H
def good_comp{sg:Sg}{G:Gs}{F:Ŵ}{X:Cx}{tg:Tg}{sc:ù}{N':ĥ}{fr:mT}(g:pi sg)(h:blockOk sg N' fr sc tg=true)(C:Addr)(cells:gU)(s₂:č)(H₂:Hp)(fp:ŀ):Good (Qt N' cq) G F (Vu sc fp):=by
  obtain⟨S,_,_⟩:=IB g h;have look:∀x,Vt=ļ dB k (mE (ņ (k==iT&&ND == on&&k7 x==aO)) A6 k):=fun x=>Ow
  have one:∀x k,dB=ā k->k ≠ .free->Vt=ā k:=fun x k e hk=>by rw[look,e,gV,ĝ];intro z;simp only[Ĉ,ķ]at z;exact hk z.1.1
  have two:∀x,dB=jz->ol Vt:=fun x e=>by
    rw[look,e,gV];split
    · exact Ð
    · exact iK
  refine⟨rfl,S.nd,wE,wE,wE,fun x hx=>Cd,wE,qK,g.hu,g.fns,g.blt,g.dk,g.con,EQ,EQ,(fun z=>⟨(g.lms z).1,(g.lms z).2.1,fun w=>eB w⟩),(fun _ _ _ _ z=>eB z),EQ⟩
  · unfold visB at hx
    simp only[gc,ķ]at hx;rcases hx with(hx | hx) | hx
    · exact ď Cd
    · exact mD Cd
    · exact ė (two x hx)
  · unfold gloB at hx
    rw[ķ]at hx;exact Cd
  · unfold locB at hx
    simp only[gc,ķ]at hx;rcases hx with hx | hx
    · exact⟨ď Cd,ė Cd⟩
    · exact⟨ė Cd,ď (by show ņ (dB==aO);rw[hx];rfl)⟩
  · rcases hx with hx | hx
    · exact ď Cd
    · exact two x hx
def slot_of(g:pi a)(h:slotB a i x=true):ow/\Gr/\mz/\SC:=by
  unfold slotB at h;simp only[Ĉ,ķ,Cb,ne_eq]at h;obtain⟨⟨⟨e,d⟩,c⟩,b⟩:=h;exact⟨Ą g.N e,g.vis x d,iF c,iF b⟩
def blt_of(g:pi a)(h:bltB a x f=true):(∃p,f=bA p)/\pQ/\AE:=by
  unfold bltB at h;simp only[Ĉ,ķ,HB]at h;obtain⟨⟨d,c⟩,b⟩:=h;exact⟨wZ d,g.glo x c,g.blt x b⟩
theorem pgs_names(g:pi b):∀(is:Ġ) (es:û),sP=Ew->ņ ((is.zip es).all fun p=>sA (nz p.2) x (b.N[p.1]? == cS&&locB b x) none ă) ->
    PGs X es (gNames is)/\Ć (we es)=Ew/\(we es).findIdx? eD=none
  | [],[],_,_=>(u6 pgs_nil)
  | [],_::_,h,_=>ζ
  | _::_,[],h,_=>ζ
  | i::is,lG,c,h=>by
    rw[List.zip_cons_cons,List.all_cons,Ĉ]at h;obtain⟨a,d⟩:=h;obtain⟨A,B,C⟩:=pgs_names g is es (Ķ c) d;split at a
    · rename_i x q
      obtain⟨p,rfl⟩:=wZ q;simp only[Ĉ,ķ]at a;have l:=g.loc x a.2;refine(bx (pgs_cons (pg_name g.nd (Ą g.N a.1) l.1 l.2) A rfl) ?_)
      · show Ć (we es)+1=Ew+1
        rw[B]
      · show(_::we es).findIdx? eD=none
        rw[List.findIdx?_cons,C];rfl
    · cases a
def pg_of(g:pi b)(h:tgOk b tg a=true):PG X a B0:=by
  cases tg with
  | one i=>
    unfold tgOk at h;dsimp only at h;split at h
    · rename_i x q
      obtain⟨p,rfl⟩:=wZ q;simp only[Ĉ,ķ]at h;have l:=g.loc x h.2;exact pg_name g.nd (Ą g.N h.1) l.1 l.2
    · cases h
  | many c=>
    unfold tgOk at h;dsimp only at h;split at h
    · rename_i d q
      obtain⟨k,p,rfl⟩:=asTup_eq q;rw[Ĉ,Ĉ,ķ]at h;obtain⟨A,B,C⟩:=pgs_names g c d h.1.1 h.2;exact pg_tup qK A B C
    · cases h
section
variable (G:Gs) (F:Nat->List DV->Option Ou)
def SE(m:ME):Prop:=Md e Expr r Re (de m e) (Ũ m) Ü (bC (qy r))
def ST(m:ME):Prop:=Md e Expr r Rt (de m e) (tstD (Ũ m)) Ü (EK e r)
def SI(m:ME):Prop:=∀{sg:Sg} {X:Cx} {e tg:Expr} {δ:Ĕ} {r:Ri},pi sg->HF true m e=true->(isZp m=true->Li tg=true)->ax (Ũ m)=Ü->wf e (zy r)
def SEs(ms:aw):Prop:=Md es û r Rs qv (Eh ms) Ü (EN es r)
def SAnd(ms:aw):Prop:=∀{sg:Sg} {X:Cx} {es:û} {δ:Ĕ} {pos:Pos},pi sg->qv=true ->
  (∀r,KE ms=Ü->ik (rK .And es) r)/\(∀r,tstD (KE ms)=Ü->uf .And es (EJ r))
def SOr(ms:aw):Prop:=∀{sg:Sg} {X:Cx} {es:û} {δ:Ĕ} {pos:Pos},pi sg->qv=true ->
  (∀r,evOr G F ms δ=Ü->ik (rK .Or es) r)/\(∀r,tstD (evOr G F ms δ)=Ü->uf .Or es (EJ r))
def S1(m:ME):Prop:=SE G F m/\ST G F m/\SI G F m
universe E_
def S1.of(h:SE G F m)(hw:Qu b)(i:∀b e env,corE b ă m e=true->N5 a e env e.pos):Š m:=
  ⟨h,fun {b X e f r} g c q=>snd_truth (fun z d=>h g c d) (i b e ū c) q,aaw b f c d⟩
def S1.of2(h:SE G F m)(c:ST G F m)(hw:Qu a):Š m:=
  ⟨h,c,aaw a δ d b⟩
def plainT:ig
  | .UnaryOp .Not _ _=>ă | .BoolOp _ _ _=>ă | .IfExp _ _ _ _=>ă | .Compare _ _ _ _=>ă
  | _=>true
def isTrue_plainT(h:plainT e=true)(env:Env):N5 b e env e.pos:=by
  cases e with
  | UnaryOp o a p=>cases o<;>first | (intro _;rfl) | cases h
  | BoolOp _ _ _=>cases h
  | IfExp _ _ _ _=>cases h
  | Compare _ _ _ _=>cases h
  | _=>intro _;rfl
section
variable {G:Gs} {F:Nat->List DV->Option Ou} {a b c:ME}
def s_var:Š (.var i):=by
  refine jc c δ a b
  · refine nM a p
    obtain⟨k,j,f,d⟩:=Cf a;exact snd_var k j f d h
  · exact inName_el a fun x p _=>io b
def s_const(f:∀a w e,corE a w m e=true->asConst e=ā k)(l:∀δ,Ť m d)(hw:Qu a)
    (i:∀{X:Cx} {δ:Ĕ} {j:Nat} {pos:Pos} a e,corE a ă m e=true->ik (yi k) lE):Š m:=by
  refine aax h
  · obtain⟨j,p,rfl⟩:=Lf (f a ă e b)
    rw[l]at h;cases h;exact i a _ b
  · obtain⟨j,p,rfl⟩:=Lf (f a ă e b)
    exact io c
def s_int:Š ĳ:=Qv h _ snd_int
def s_bl:Š (.bl i):=Qv h _ snd_bl
def s_non:Š .non:=Qv h _ snd_non
def s_str:Š sx:=Qv (nA h).1 h (snd_str (Ç (Pl (nA h).2)))
def s_glb:Š (.glb x):=by
  refine jc c δ a b
  · have a:ņ (nz e==cS&&gloB c x&&Lg):=a
    simp only[Ĉ,ķ,Cb,ne_eq]at a;obtain⟨p,rfl⟩:=wZ a.1.1;obtain⟨d,k,j⟩:=Θ h;cases j;obtain⟨u,v,m,f,i⟩:=g.con x d k;exact(pe_glob (g.glo x a.1.2) m f (iF a.2)).weak (EG (p v H (fy H) (i _)))
  · obtain⟨p,rfl⟩:=wZ (cu (nA (nA a).1).1)
    exact io b
def s_bin(k:aV)(j:gu):Š (.bin op a b):=by
  refine IC
  · refine inBin_el c (ν ea o eb p c)
    simp only[Ĉ,ķ]at c;obtain⟨⟨n,m⟩,l⟩:=c;subst n;exact snd_bin (am k m) (am j l) h
  · exact inBin_el c fun _ _ _ p _=>io f
def s_neg(k:aV):Š (.neg a):=by
  refine jc i δ b d
  · refine Qw o ea
    simp only[Ĉ,ķ]at b;obtain⟨c,f⟩:=b;subst c;exact snd_neg (ip j k f) h
  · refine Qw _ _
    simp only[Ĉ,ķ]at b;obtain⟨c,f⟩:=b;subst c;exact io d
def s_not(i:aV):Š (.not a):=by
  refine ID k j b
  · refine Qw o l
    simp only[Ĉ,ķ]at b;obtain⟨f,d⟩:=b;subst f;exact snd_not (ip c i d) h
  · refine Qw o l
    simp only[Ĉ,ķ]at b;obtain⟨f,d⟩:=b;subst f;exact snd_tnot (ip c i.2 d) h
def s_cmp(m:aV)(l:gu):Š (.cmp op a b):=by
  refine ID q n c
  · refine inCmp1_el c (ν u o s p c)
    simp only[Ĉ,ķ,ο]at c;obtain⟨⟨⟨k,j⟩,i⟩,f⟩:=c;subst k;exact snd_cmp g.hu (am m j) (am l i) f h
  · refine inCmp1_el c (ν u o s p c)
    simp only[Ĉ,ķ,ο]at c;obtain⟨⟨⟨k,j⟩,i⟩,f⟩:=c;subst k;exact snd_tcmp g.hu (am m j) (am l i) f h
def s_chain(v:aV)(u:gu)(j:Š c):Š (.chain op k a b c):=by
  refine ID x w f
  · refine aay
    simp only[Ĉ,ķ,ο]at f;obtain⟨⟨⟨⟨⟨s,i⟩,q⟩,n⟩,m⟩,l⟩:=f;subst s i;exact snd_chain g.hu (am v q) (am u n) (am j m) l h
  · refine aay
    simp only[Ĉ,ķ,ο]at f;obtain⟨⟨⟨⟨⟨s,i⟩,q⟩,n⟩,m⟩,l⟩:=f;subst s i;exact snd_tchain g.hu (am v q) (am u n) (am j m) l h
def s_ix(k:aV)(j:gu):Š (.ix a b):=by
  refine IC
  · refine zL c ea eb p
    simp only[Ĉ,ο]at c;obtain⟨⟨n,m⟩,l⟩:=c;exact snd_ix (am k n) (am j m) l h
  · exact IE c f
def s_sl(m:aV)(l:gu)(i:Š c):Š (.sl a b c):=by
  refine jc k δ d j
  · refine zL d ea es p
    refine inSlM_el d (Ļ _ _ p2 d)
    simp only[Ĉ]at d;obtain⟨⟨q,o⟩,n⟩:=d;exact snd_sl (ip f m q) (ip f l o) (ip f i n) h
  · exact IE d j
def s_slf(k:aV)(j:gu):Š (.slf a b):=by
  refine IC
  · refine zL c ea es p
    refine inSlF_el c (Ğ _ p2 c)
    simp only[Ĉ]at c;obtain⟨m,l⟩:=c;exact snd_slf (am k m) (am j l) h
  · exact IE c f
def s_slt(k:aV)(j:gu):Š (.slt a b):=by
  refine IC
  · refine zL c ea es p
    refine inSlT_el c (Ğ _ p2 c)
    simp only[Ĉ]at c;obtain⟨m,l⟩:=c;exact snd_slt (am k m) (am j l) h
  · exact IE c f
theorem zM:∀{a:Sg} {b:aw} {es:û},bW a b es=true->xh
  | _,[],[],_=>rfl
  | _,[],_::_,h=>xc bW h
  | _,_::_,[],h=>xc bW h
  | a,m::b,lG,h=>by unfold bW at h;simp[Ĉ,ο]at h;rw[lP,h.1.2,zM h.2];rfl
def s_lst{c:aw}(i:vo c):Š (.lst c):=by
  refine jc d δ a b
  · refine inList_el a (Ğ es p a)
    exact snd_lst (fun z f=>i g a f) h
  · exact inList_el a fun _ p _=>io b
def s_tup{c:aw}(i:vo c):Š (ģ c):=by
  refine jc d δ a b
  · refine inTup_el a (Ļ es k p a)
    exact snd_tup (fun z f=>i g a f) h
  · exact inTup_el a fun _ k p _=>io b
def s_call(w:vo i):Š (ľ f i):=by
  refine jc l δ a d
  · refine ny a (Ļ ef B m a)
    rw[Ĉ,Ĉ]at a;obtain⟨⟨b,A⟩,j⟩:=a;refine nM b p
    simp only[Ĉ,ķ,Cb,ne_eq]at b;obtain⟨k,fa,fd,ps,o,q,u,v,s,fo⟩:=g.fns f x b.1.1;cases B with
    | nil=>cases A
    | cons y ys=>
      have c:=zM j;rw[lP,sZ]at c;exact snd_call fo s o (g.glo x b.1.2) q u v (fun z n=>w g j n) (iF b.2) c.1 c.2 h
  · exact ny a (pM _ (io d))
def s_bi{ms:aw}{f:Bi}(ha:vo ms):Š (.bi f ms):=by
  refine jc sg δ hc env
  · refine ny hc (Ļ ef es pos hc)
    rw[Ĉ,Ĉ]at hc;obtain⟨⟨h1,h2⟩,h3⟩:=hc;obtain⟨⟨p,rfl⟩,hg,hm⟩:=Cg h1;cases es with
    | nil=>cases h2
    | cons y ys=>
      have go:bW sg ms (y::ys)=true->(lN (Eh ms) (y::ys))/\fH y=ă/\ys.any fH=ă:=fun z=>by have ns:=zM z;rw[lP,sZ]at ns;exact⟨fun w hw=>ha g z hw,ns.1,ns.2⟩
      cases f with
      | len=>obtain⟨A,s1,s2⟩:=go h3;exact snd_bi bi_len hg hm boot_len đ đ A s1 s2 h
      | min=>obtain⟨A,s1,s2⟩:=go h3;exact Me (bi_min qK (fq g.hu)) boot_min
      | max=>obtain⟨A,s1,s2⟩:=go h3;exact Me (bi_max qK) boot_max
      | sum=>obtain⟨A,s1,s2⟩:=go h3;exact Me (bi_sum qK) boot_sum1
      | tuple=>obtain⟨A,s1,s2⟩:=go h3;exact snd_biT bi_tuple hg hm boot_tuple đ đ A s1 s2 h
      | list=>obtain⟨A,s1,s2⟩:=go h3;exact snd_biT bi_list hg hm boot_list đ đ A s1 s2 h
      | any=>obtain⟨A,s1,s2⟩:=go h3;exact Me (bi_any qK) boot_any1
      | all=>obtain⟨A,s1,s2⟩:=go h3;exact Me (bi_all qK) boot_all1
      | sset=>
        have h3:ņ (in1 (y::ys) fun e1=>Y5):=h3
        clear go
        revert h2;refine in1_el h3 fun e1 h3=>ny h3 fun ef' es' pos' h3=>af h2
        rw[Ĉ,Ĉ]at h3;obtain⟨⟨p',rfl⟩,hg',hm'⟩:=Cg h3.1.1;cases es' with
        | nil=>cases h3.1.2
        | cons y' ys'=>
          have ns:=zM h3.2;rw[lP,sZ]at ns;cases ys' with
          | nil=>exact snd_sset qK hg hm hg' hm' (fun w hw=>ha g h3.2 hw) ns.1 h
          | cons y2 yr=>
            have z:=cu h3.1.2;simp at z
  · exact ny hc (pM _ (io env))
def tyName_of(h:OP x=true):∃t,tyName x=ā t:=by
  have a:∀x∈pyTypes,∃t,tyName x=ā t:=by
    intro x b;simp only[pyTypes,i6,qo,qm]at b;rcases b with rfl | rfl | rfl | rfl | rfl | rfl
    · exact⟨jA,ŵ⟩
    · exact⟨"bool",ŵ⟩
    · exact⟨"str",ŵ⟩
    · exact⟨ý,ŵ⟩
    · exact⟨ad,ŵ⟩
    · exact⟨iN,ŵ⟩
  exact a x (Qx h)
def pyTypes_names:∀x∈pyTypes,v9 /\ mz:=by
  intro x a;simp[pyTypes,i6,qo,qm]at a;rcases a with rfl | rfl | rfl | rfl | rfl | rfl<;>exact⟨ŵ,ŵ⟩
def rBits:yA:=fun x xs H Q=>∃i,x=ĳ/\xs=[]/\GF (uO i)
def bits_eq(i:Int):ı (HR i)=uO i:=by
  unfold HR uO;by_cases h:i=0
  · subst h;rfl
  · rw[ĝ fz,ĝ h];rfl
def mt_bits:MtR X "int.bit_length" rBits:=by
  intro a s σ H x xs v us Q I b c h;obtain⟨i,rfl,rfl,q⟩:=h;obtain⟨t,rfl⟩:=(b);cases c;exact PyProof.Rows.call_int_bit_length ⟨dL,H,uo,by rw[←bits_eq];exact bn _,q⟩
def s_meth(C:aV):Š (.meth m a es):=by
  refine jc z w b s
  · refine inCl0_el b (Ğ ef A b)
    refine Mf b k u
    simp only[Ĉ,ķ]at b;obtain⟨⟨⟨⟨K,J⟩,f⟩,I⟩,h5⟩:=b;subst K;have o:DG k (mtName m)=cn k:=by
      rw[gc]at f;rcases f with f | f
      · obtain⟨y,l⟩:=DA f
        obtain⟨B,rfl⟩:=wZ l;rfl
      · obtain⟨⟨a1,o1,b1⟩,l⟩:=DA f
        obtain⟨B,rfl⟩:=asBin_eq l;rfl
    have h:(aaz m m)=Ü:=h;cases m with
    | bitLength=>
      rw[js]at h
      cases c:Ų a w with
      | none=>rw[c]at h;cases h
      | some q=>
        rw[c]at h;cases q with
        | ok d dc=>
          have j:mtD D_ d=Ü:=h;unfold mtD at j;split at j
          · rename_i i _
            cases j;exact((fun t (E:PE X k t)=>pe_bm0 PySem.F.plainAttrs_int PySem.F.slot_int_bit_length PySem.F.type_int_bit_length mt_bits E o (Ą ķ I)) _ (C.1 g J c)).weak fun σ H Q eY=>⟨O,W,R,fun v M s1 L=>by
              have hv:=L.int Δ;subst hv;exact⟨rfl,i,rfl,rfl,qA M zg⟩⟩
          · cases j
    | index=>rw[ĝ đ]at h;cases h
    | get=>rw[ĝ đ]at h;cases h
  · exact inCl0_el b (bc _ (io s))
def s_idx(o:aV)(m:gu):Š (.idx a b):=by
  refine jc j δ c f
  · refine inCl1_el c (Ļ ef eb k c)
    refine Mf c ea i
    simp only[Ĉ,ķ,ο]at c;obtain⟨⟨⟨⟨⟨w,v⟩,u⟩,s⟩,q⟩,p⟩:=c;subst w;obtain⟨y,l⟩:=DA u;obtain⟨np,rfl⟩:=wZ l;exact snd_idx g.hu (am o v) (am m q) rfl (Ą ķ s) (Ω p) h
  · exact inCl1_el c (pM _ (io f))
def s_dix(k:aV)(j:gu):Š (.dix a b):=by
  refine IC
  · refine zL c ea eb p
    simp only[Ĉ,ο]at c;obtain⟨⟨n,m⟩,l⟩:=c;exact snd_dix (tm Ă g.hu) (am k n) (am j m) l h
  · exact IE c f
def s_dgp(m:gu):Š (.dgp i b):=by
  refine jc f δ a d
  · refine zL a ob ek p
    simp only[Ĉ,ο]at a;obtain⟨⟨c,o⟩,n⟩:=a;refine nM c np
    obtain⟨s1,s2,k,j⟩:=Cf c;exact snd_dgp (tm Ă g.hu) (Ch k j) (ip l m o) n h
  · exact IE a d
theorem look_mem:∀{a:iH Nat},a.lookup x=ā f->(x,f)∈a
  | [],h=>ζ
  | (y,g)::a,h=>by
    rw[gR]at h;split at h
    · rename_i q
      cases h;rw[cu q];exact ũ
    · exact Ŕ (look_mem h)
def s_callv(v:vo u):Š (.callv i xs u):=by
  refine jc H A a o
  · refine ny a (Ļ ef S I a)
    rw[Ĉ,Ĉ,Ĉ]at a;obtain⟨⟨⟨n,R⟩,Q⟩,l⟩:=a;refine nM n p
    obtain⟨s1,s2,s,q⟩:=Cf n;cases S with
    | nil=>cases Q
    | cons y ys=>
      have b:=zM l;rw[lP,sZ]at b;have h:callvE G F xs _ A[i]? = Ü:=h;unfold callvE at h;split at h
      · rename_i J j
        split at h
        · rename_i f O
          obtain⟨k,fa,fd,ps,d,L,N,P,M,fo⟩:=g.fns f J (cu (qB R _ (look_mem O)));exact snd_callv fo M d (Ch s q) L N P j (fun z c=>v g l c) b.1 b.2 h
        · cases h
      · rename_i m cs j
        split at h
        · rename_i w
          obtain⟨⟨E,C,B⟩,⟨k,d,K,_⟩,_⟩:=g.lms lR;exact snd_callm K d (Ch s q) (w.1.trans E) (w.2.1.trans C) (Ci.1.trans B) j (fun z c=>v g l c) b.1 b.2 h
        · cases h
      · cases h
  · exact ny a (pM _ (io o))
def lamPs_def{a:dM}(h:lamPs a ps=true):defaultsOf a env=([],[]):=lamPs_el h (pM _ rfl) (pM _ rfl)
def s_srtk{np:Nat}{N:ĥ}{lb:ME}{fr:Ġ}(ha:aV):Š To:=by
  refine jc sg δ hc env
  · obtain⟨ht,hc⟩:=nA hc
    refine inCk_el hc fun ef ea kn el kp pos hc=>?_
    simp only[Ĉ,ķ,ο]at hc;obtain⟨⟨⟨⟨c1,c2⟩,c4⟩,c5⟩,hc⟩:=hc;refine inLam_el hc (ν pr bd sc lp hc)
    subst c2;obtain⟨⟨px,rfl⟩,hgl,hmg⟩:=Cg c1;rw[Ĉ]at hc;obtain⟨c8,c9⟩:=hc;have hlam:=c8;unfold lamScB at c8;simp only[Ĉ,ķ,ο,qt,Cb,ne_eq,ak]at c8;obtain⟨⟨⟨⟨⟨⟨⟨⟨⟨⟨⟨⟨l1,l2⟩,l3⟩,l4⟩,l5⟩,l6⟩,l7⟩,l8⟩,l9⟩,l10⟩,l11⟩,lc⟩,l12⟩:=c8;have h:Yv=Ü:=h;unfold srtkE at h;split at h
    · rename_i cs hcap
      split at h
      · cases h
      · rename_i hne
        have hne':Bk:=Ķ hne
        obtain⟨⟨w1,w2,w3⟩,⟨k,hr,lo,_⟩,wt⟩:=g.lms hne';obtain⟨c,P,k1,k2,k3,_⟩:=wt ht;rw[ž (tagN sg.sc = rA) (ĝ lc)]at k3;have cel:Ox (k7 y.1=aO/\X.fn y.1=true):=fun y hy hf=>by
          have z:=l12 y hy;rw[ĉ (ų hf)]at z;have z':o7 y.1=aO:=cu z;have lo:=g.loc y.1 (qI locB z');have nl:rR y.1≠dF:=fun w=>aaB y.1 z'
          refine⟨?_,lo.2.elim id Qy⟩;exact lo.1.elim Qy id
        have T:LamTx N (mK np) sc:=by
          have ln:Ć (mK np)=np:=Ź mL
          refine⟨l2,l3,l4,Cc l5,ų ln,l8,l9,fun i y h1 h2=>l10 y ?_⟩;rw[ln]at h1;refine iO (i:=i - np) ?_;rw[Bu,Ş (np+(i - np)=i)];exact h2
        have hcor:Qh (Bj N np lb)=true:=(aaA l1 cq lb w1 w2 w3);have hslot:∀(j i:Nat),Į fr j i->∃y,Į N (np+j) y/\ĭ X.N y/\k7 y=aO:=fun j i hj=>by
          have hjl:j<lx:=(gM hj);have hjn:np+j<gQ:=Ę
          have hy:Į (N.drop np) j N[np+j]:=ţ Bu (Ľ hjn)
          have hz:(i,N[np+j])∈fr.zip (N.drop np):=iO (i:=j) (PQ hj hy);have q1:=l11 _ hz;have q2:=l10 _ (iO hy);exact⟨_,Ľ hjn,Ą g.N q1,(cel _ (eI q2) rfl).1⟩
        cases hra:Ũ a with
        | none=>rw[hra]at h;cases h
        | some ra=>
          rw[hra]at h;exact snd_srtk (m:=Bj N np lb) (fr:=fr) (P:=P) (c:=c) lo hr w1 w2 w3 hgl hmg c5 ⟨k1,fun I=>k2 _ I.kIn,fun I=>I.tabs _ k3,fun y hy hf=>ď (cel y hy hf).1⟩ (lamPs_def l1) T (fun I=>cells_new I (fun y hy hf=>Kq (ď (cel y hy hf).1)) fun y hy hf=>(cel y hy hf).2) hcor l7 (fun j i hj=>let ⟨y,a,b,c⟩:=hslot j i hj;⟨y,a,b,ď c⟩) hcap (ha.1 g c4 hra) h
    · cases h
  · obtain⟨_,hc⟩:=nA hc
    exact inCk_el hc fun _ _ _ _ _ _ _=>io env
def s_ite(i:Š c)(o:aV)(n:gu):Š KF:=by
  refine ID s q f
  · refine inIf_el f (ν u w v p f)
    simp only[Ĉ]at f;obtain⟨⟨m,l⟩,j⟩:=f;exact snd_ite (am i.2 m) (am o l) (am n j) h
  · refine inIf_el f (ν u w v p f)
    simp only[Ĉ]at f;obtain⟨⟨m,l⟩,j⟩:=f;exact snd_tite (am i.2 m) (am o.2 l) (am n.2 j) h
def s_gdx(hb:gu):Š (.gdx b):=by
  refine jc sg δ hc env
  · refine zL hc ea eb sp
    simp only[Ĉ,ο]at hc;obtain⟨⟨h1,h4⟩,h5⟩:=hc;refine nM h1 p
    simp only[Ĉ,ķ,Cb,ne_eq]at h1;obtain⟨⟨rfl,h2⟩,h3⟩:=h1;have h:bK b Tn=Ü:=h;cases hr:Ũ b with
    | none=>rw[hr]at h;cases h
    | some rb=>
      rw[hr]at h;obtain⟨y,cy⟩:=rb;have h:gdxD G y=Ü:=h;cases y with
      | str k=>
        have h:Vv k=Ü:=h;obtain⟨i,q3,q2⟩:=Θ h;cases q2;obtain⟨a,es,n,q | D⟩:=g.dk
        · rw[q]at q3;cases q3
        · exact(pe_ix ix_K (pe_glob (g.glo gdN h2) D.mg (v:=Ī) rfl (iF h3)) (hb.1 g h4 hr) (by cases eb<;>first | (intro _ _;rfl) | cases h5)).weak (nF σ w H1 gy ⟨a,es,n,k,i,rfl,(gy.str Δ).1,D,q3,qA H1 (got_str (D.ks k _ q3).1)⟩)
      | _=>cases h
  · exact inSub_el hc fun ea eb sp _=>io env
def s_mink(ha:aV):Š (.mink a N d w fr):=by
  refine jc Y u b K
  · obtain⟨B,b⟩:=nA b
    refine inCk_el b fun ef ea kn el kp pos b=>?_
    simp only[Ĉ,ķ,ο]at b;obtain⟨⟨⟨⟨c1,c2⟩,c4⟩,c5⟩,b⟩:=b;refine inLam_el b (ν pr bd v lp b)
    subst c2;obtain⟨⟨px,rfl⟩,H,E⟩:=Cg c1;rw[Ĉ]at b;obtain⟨s,c9⟩:=b;have U:=s;unfold lamScB at s;simp only[Ĉ,ķ,ο,qt,Cb,ne_eq,ak]at s;obtain⟨⟨⟨⟨⟨⟨⟨⟨⟨⟨⟨⟨R,l2⟩,l3⟩,l4⟩,l5⟩,l6⟩,l7⟩,l8⟩,l9⟩,o⟩,A⟩,lc⟩,x⟩:=s;have h:minkE G F (Ų a u) N d w (capD u fr)=Ü:=h;unfold minkE at h;split at h
    · rename_i cs q
      split at h
      · cases h
      · rename_i C
        obtain⟨⟨O,M,L⟩,⟨k,hr,lo,_⟩,wt⟩:=g.lms (Ķ C);rw[Ĉ,ο]at B;obtain⟨⟨c,P,k1,S⟩,k3,_⟩:=g.clo B.1 B.2;have m:∀y∈v.names,y.2=iT->ol (k7 y.1):=fun y n J=>GX z (x y n) (ĉ (ų J)) (g.cel y.1 (ė (cu z)))
        have T:LamTx N (mK d) v:=by
          have Q:Ć (mK d)=d:=Ź mL
          refine⟨l2,l3,l4,Cc l5,ų Q,l8,l9,fun i y h1 h2=>o y ?_⟩;rw[Q]at h1;refine iO (i:=i - d) ?_;rw[Bu,Ş (d+(i - d)=i)];exact h2
        have f:E4 N d:=fun j i W=>by
          have hjl:j<lx:=(gM W);have p:d+j<gQ:=Ę
          have n:Į (N.drop d) j N[d+j]:=ţ Bu (Ľ p)
          have hz:(i,N[d+j])∈fr.zip (N.drop d):=iO (i:=j) (PQ W n);have q1:=A _ hz;have Z:=o _ (iO n);exact⟨_,Ľ p,Ą g.N q1,m _ (eI Z) rfl⟩
        cases l:Ų a u with
        | none=>rw[l]at h;cases h
        | some ra=>
          rw[l]at h;exact snd_mink (fr:=fr) (P:=P) (c:=c) lo hr O M L H E c5 ⟨k1,fun I=>(S I).1,fun I=>(S I).2,m⟩ (lamPs_def R) T (fun I c b=>by
              obtain⟨y,e,_⟩:=cells_of I (fun y n J=>Kq (m y n J)) c b;exact k3 y c e) ((aaA R v.names w O M L)) l7 f q (ha.1 g c4 l) h
    · cases h
  · obtain⟨_,b⟩:=nA b
    exact inCk_el b fun _ _ _ _ _ _ _=>io K
def s_self(s:vo f):Š (.self k l f):=by
  refine jc o n a j
  · obtain⟨i,a⟩:=nA a
    refine ny a (Ļ ef v q a)
    simp only[Ĉ,ο]at a;obtain⟨⟨c,u⟩,m⟩:=a;refine nM c p
    rw[ķ]at c;subst c;rw[Ĉ,ο]at i;have h:selfE G F k l _ _=Ü:=h;cases v with
    | nil=>cases u
    | cons e0 er=>
      have d:=zM m;rw[lP,sZ]at d;cases b:evEs G F f n with
      | none=>
        rw[b]at h;unfold selfE at h;split at h
        · split at h
          · obtain⟨_,_,z⟩:=di
            cases z
          · cases h
        · cases h
      | some rs=>
        rw[b]at h;exact(g.clo i.1 i.2).2.2 (s g m b) d.1 d.2 h
  · obtain⟨_,a⟩:=nA a
    exact ny a (pM _ (io j))
def s_dc2(m:aV)(l:gu):Š (.dc2 x y a b):=by
  refine IC
  · refine inDc2_el c fun ka kb ea eb p c=>?_
    simp only[Ĉ,ķ,Cb,ne_eq]at c;obtain⟨⟨⟨⟨u,s⟩,q⟩,o⟩,n⟩:=c;obtain⟨j1,k,rfl⟩:=Lf u;obtain⟨j2,j,rfl⟩:=Lf s;exact snd_dc2 q (am m o) (am l n) h
  · exact inDc2_el c fun _ _ _ _ p _=>io f
def s_isi(w:aV):Š (.isi a i):=by
  refine jc j δ b d
  · refine inCl2_el b (ν ef ea et k b)
    simp only[Ĉ,ο]at b;obtain⟨⟨⟨⟨B,A⟩,y⟩,h4⟩,c⟩:=b;obtain⟨⟨p,rfl⟩,v,u⟩:=Cg B;split at c
    · rename_i t
      simp only[Ĉ,ķ,HB]at c;obtain⟨⟨⟨q,o⟩,n⟩,f⟩:=c;obtain⟨p',rfl⟩:=wZ q;obtain⟨T,x⟩:=tyName_of (Vw f);obtain⟨m,l⟩:=pyTypes_names t f;exact snd_isi x v u (g.glo t o) (g.blt t n) m l (ip s w A) y h
    · cases c
  · exact inCl2_el b fun _ _ _ _ _=>io d
theorem evEs_length:∀{a:aw} {b:Ĕ} {l:oP},evEs G F a b=uK->Ň=bR
  | [],_,_,h=>by unfold evEs at h;cases h;rfl
  | m::a,b,l,h=>by
    unfold evEs at h;split at h
    · cases h
    · split at h
      · cases h
      · rename_i l' q
        cases h;rw[ť,ť,evEs_length q]
theorem corEs_length:∀{b:Sg} {a:aw} {es:û},bW b a es=true->bR=sP
  | _,[],[],_=>rfl
  | _,[],_::_,h=>xc bW h
  | _,_::_,[],h=>xc bW h
  | b,m::a,lG,h=>by unfold bW at h;simp[Ĉ]at h;rw[ť,ť,corEs_length h.2]
def s_rng{ms:aw}(ha:vo ms):Š (.rng ms):=by
  refine⟨fun {sg X e δ r} g hc h=>?_,fun {sg X e δ r} g hc h=>?_,fun {sg X e tg δ r} g hc _ h=>?_⟩
  · cases(hc:wz)
  · cases(hc:wz)
  · refine ny (nA hc).2 (Ļ ef es pos hc)
    rw[Ĉ,ak]at hc;obtain⟨hc,hle⟩:=hc;rw[Ĉ]at hc;obtain⟨⟨p,rfl⟩,hg,hm⟩:=Cg hc.1;have l1:=corEs_length hc.2;have ns:=zM hc.2;cases es with
    | nil=>
      exfalso;cases ms with
      | nil=>cases(h:none=Ü)
      | cons _ _=>cases l1
    | cons y ys=>
      rw[lP,sZ]at ns;cases ys with
      | nil=>exact snd_range1 hg hm Vy ns.1 h Vx
      | cons z zs=>
        cases zs with
        | nil=>
          have ns2:=ns.2;rw[lP,sZ]at ns2;exact snd_range2 hg hm Vy ns.1 ns2.1 h Vx
        | cons u us=>
          cases us with
          | nil=>
            have ns2:=ns.2;rw[lP,sZ]at ns2;have ns3:=ns2.2;rw[lP,sZ]at ns3;exact snd_range3 hg hm Vy ns.1 ns2.1 ns3.1 h Vx
          | cons _ _=>simp at hle
def s_zp(v:aV)(u:gu):Š (.zp a b):=by
  refine⟨fun {i X e f r} g c h=>?_,fun {i X e f r} g c h=>?_,fun {i X e m f r} g c o h=>?_⟩
  · cases(c:wz)
  · cases(c:wz)
  · refine inCl2_el (nA c).2 (ν ef ea eb n c)
    simp only[Ĉ,ο]at c;obtain⟨⟨⟨⟨h1,h2⟩,y⟩,x⟩,w⟩:=c;obtain⟨⟨p,rfl⟩,s,q⟩:=Cg h1;have t:=o rfl;cases j:asTup m with
    | none=>rw[j]at t;cases t
    | some l=>
      obtain⟨k,tp,rfl⟩:=asTup_eq j;exact snd_zip s q x w (am v h2) (am u y) h
def s_enu(s:aV):Š (.enu a):=by
  refine⟨Qz,Qz,fun {d X e j c r} g b n h=>?_⟩
  · cases(b:wz)
  · cases(b:wz)
  · refine inCl1_el (nA b).2 (Ļ ef ea l b)
    simp only[Ĉ,ο]at b;obtain⟨⟨w,v⟩,u⟩:=b;obtain⟨⟨p,rfl⟩,q,o⟩:=Cg w;have t:=n rfl;cases f:asTup j with
    | none=>rw[f]at t;cases t
    | some i=>
      obtain⟨k,tp,rfl⟩:=asTup_eq f;exact snd_enum q o u (ip m s v) h
def s_itm(w:aV):Š (.itm a):=by
  refine⟨Qz,Qz,fun {d X e o c r} g b u h=>?_⟩
  · cases(b:wz)
  · cases(b:wz)
  · refine inCl0_el (nA b).2 (Ğ ef p b)
    refine Mf b q m
    simp only[Ĉ]at b;obtain⟨⟨⟨B,A⟩,y⟩,j⟩:=b;have v:=cu B;subst v;cases i:nz q with
    | none=>rw[i]at j;cases j
    | some x=>
      obtain⟨np,rfl⟩:=wZ i;have t:=u rfl;cases f:asTup o with
      | none=>rw[f]at t;cases t
      | some l=>
        obtain⟨k,tp,rfl⟩:=asTup_eq f;exact snd_itm rfl y (ip s w A) h
def comp_of{sg:Sg}{X:Cx}{e:Expr}{δ:Ĕ}{r:Re}{tg:Tg}{fr:mT}{cp:CParts}{tn:ĥ}(ha:aV)(hb:gu)(g:pi sg)(hemp:cp.ifs=[])
    (h2:HF true b cp.it=true) (hz:isZp b=true->Li cp.tg=true) (h4:VB cp.sc=true) (h5:tgOk Mh tg cp.tg=true) (h6:corE Mh ă a cp.elt=true)
    (h:Ũ (.comp a tg b fr)=Ü):VA Mg:=by
  obtain⟨S,nd,sl⟩:=IB g h4;rw[hemp];exact snd_comp_parts S qK nd sl (fun z hz'=>hb.2.2 g h2 hz hz') (QA cells s₂ H₂ fp h4 h5) (Vz ha h6) h
def compi_of{sg:Sg}{X:Cx}{e cd:Expr}{δ:Ĕ}{r:Re}{tg:Tg}{fr:mT}{cp:CParts}{tn:ĥ}(ha:aV)(hb:gu)(hcc:Š c)(g:pi sg)(hemp:cp.ifs=[cd])
    (h2:HF true b cp.it=true) (hz:isZp b=true->Li cp.tg=true) (h4:VB cp.sc=true) (h5:tgOk Mh tg cp.tg=true) (h6:corE Mh ă a cp.elt=true)
    (h7:corE Mh ă c cd=true) (h:Ũ (sQ a tg b c fr)=Ü):VA Mg:=by
  obtain⟨S,nd,sl⟩:=IB g h4;rw[hemp];exact snd_compi_parts S qK nd sl (fun z hz'=>hb.2.2 g h2 hz hz') (QA cells s₂ H₂ fp h4 h5) (Vz ha h6)
    (Vz hcc.2 h7) h
def CompIs(G:Gs)(F:Ŵ)(m:ME):Prop:=∀{sg:Sg} {X:Cx} {e:Expr} {δ:Ĕ} {r:Re},pi sg->de m e=true->Ũ m=Ü ->
  ∃(cp:CParts) (N':ĥ) (fr:mT) (tg:Tg) (p:Pos),e=Ev cp.elt cp.tg cp.it cp.ifs cp.sc p/\wF N' cp.sc/\VA N' /\
    (∀C cells s₂ H₂ fp,PG (Vu cp.sc fp) cp.tg B0)/\lK cp.it=ă
def CompIs.s1(h:CompIs G F m)(hw:Qu a)(f:∀a e,corE a ă m e=true->plainT e=true):Š m:=by
  refine aax q
  · obtain⟨cp,N',fr,tg,p,rfl,S,P,i,d⟩:=h g b q
    exact P.pe S qK i d
  · exact isTrue_plainT (f a e b) c
def c_comp(m:aV)(l:gu):CompIs G F (.comp a tg b fr):=by
  intro sg X e δ r g k h;refine inCp_el k (Ğ f p k)
  simp only[Ĉ,ο,gc]at k;obtain⟨⟨⟨s,q,o⟩,n⟩,c⟩:=k;obtain⟨tn,_,c⟩:=any1_at c;simp only[Ĉ]at c;refine⟨f,_,fr,tg,p,rfl,(IB g c.1.1).1,comp_of (e:=Ev f.elt f.tg f.it f.ifs f.sc p) m l g (List.isEmpty_iff.mp s) q mR c.1.1 c.1.2 c.2 h,QA d i j u c.1.1 c.1.2,n⟩;rcases o with w | w
  · rw[z]at w;cases w
  · exact w
def c_compi(q:aV)(o:gu)(m:Š c):CompIs G F (sQ a tg b c fr):=by
  intro sg X e δ r g l h;refine inCp_el l (Ğ i p l)
  simp only[Ĉ,ο,gc]at l;obtain⟨⟨⟨v,u⟩,s⟩,d⟩:=l;obtain⟨tn,_,d⟩:=any1_at d;obtain⟨ec,n,d⟩:=in1_at d;simp only[Ĉ]at d;refine⟨i,_,fr,tg,p,rfl,(IB g d.1.1.1).1,compi_of (e:=Ev i.elt i.tg i.it i.ifs i.sc p) q o m g n v mR d.1.1.1 d.1.1.2 d.1.2 d.2 h,QA f j k x d.1.1.1 d.1.1.2,s⟩;rcases u with w | w
  · rw[z]at w;cases w
  · exact w
def s_comp(g:aV)(f:gu):Š (.comp a tg b fr):=aaC c (c_comp g f) d
def s_compi(i:aV)(h:gu)(d:Š c):Š (sQ a tg b c fr):=aaC f (c_compi i h d) g
def l_nil:vo []:=fun {sg X b δ r} g a h=>by
  cases b with
  | nil=>unfold evEs at h;cases h;exact snd_anil
  | cons _ _=>unfold bW at a;cases a
def l_cons(j:aV)(i:vo d):vo (a::d):=fun {sg X f δ r} g b h=>by
  cases f with
  | nil=>unfold bW at b;cases b
  | cons e f=>
    unfold bW at b;simp only[Ĉ,ο]at b;unfold evEs at h;exact snd_acons b.1.2 (ip c j b.1.1) (fun z c=>i g b.2 c) h
def and_nil:SAnd G F []:=aaD evAnd
def or_nil:SOr G F []:=aaD evOr
def and_cons(i:aV)(n:SAnd G F f):SAnd G F (a::f):=fun {l X d k j} g b=>by
  cases d with
  | nil=>unfold bW at b;cases b
  | cons e d=>
    unfold bW at b;simp only[Ĉ,ο]at b;cases f with
    | nil=>
      cases d with
      | nil=>
        refine QB
        · unfold evAnd at h;exact pe_one (i.1 g b.1.1 h)
        · unfold evAnd at h;exact pw_and1 (i.2.1 g b.1.1 h)
      | cons _ _=>have:=b.2;unfold bW at this;cases this
    | cons m f=>
      cases d with
      | nil=>have:=b.2;unfold bW at this;cases this
      | cons e' d=>
        have B:=@n l X _ k j g b.2;refine QB
        · unfold evAnd at h;exact snd_and (ip c i b.1.1) (fun z c=>B.1 z c) h
        · unfold evAnd at h;exact snd_tand (ip c i.2 b.1.1) (fun z c=>B.2 z c) h
def or_cons(i:aV)(n:SOr G F f):SOr G F (a::f):=fun {l X d k j} g b=>by
  cases d with
  | nil=>unfold bW at b;cases b
  | cons e d=>
    unfold bW at b;simp only[Ĉ,ο]at b;cases f with
    | nil=>
      cases d with
      | nil=>
        refine QB
        · unfold evOr at h;exact pe_one (i.1 g b.1.1 h)
        · unfold evOr at h;exact pw_or1 (i.2.1 g b.1.1 h)
      | cons _ _=>have:=b.2;unfold bW at this;cases this
    | cons m f=>
      cases d with
      | nil=>have:=b.2;unfold bW at this;cases this
      | cons e' d=>
        have B:=@n l X _ k j g b.2;refine QB
        · unfold evOr at h;exact snd_or (ip c i b.1.1) (fun z c=>B.1 z c) h
        · unfold evOr at h;exact snd_tor (ip c i.2 b.1.1) (fun z c=>B.2 z c) h
def s_and(f:SAnd G F d):Š (.and d):=by
  refine ID j i a
  · refine QC
    simp only[Ĉ,ķ]at a;obtain⟨c,b⟩:=a;subst c;exact(f g b).1 r h
  · refine QC
    simp only[Ĉ,ķ]at a;obtain⟨c,b⟩:=a;subst c;exact((f g b).2 r h).pt
def s_or(f:SOr G F d):Š (.or d):=by
  refine ID j i a
  · refine QC
    simp only[Ĉ,ķ]at a;obtain⟨c,b⟩:=a;subst c;exact(f g b).1 r h
  · refine QC
    simp only[Ĉ,ķ]at a;obtain⟨c,b⟩:=a;subst c;exact((f g b).2 r h).pt
universe E_
section
variable {G:Gs} {F:Nat->List DV->Option Ou}
mutual
theorem snd:∀m:ME,Š m
  | .var _=>s_var
  | dL=>s_int
  | .bl _=>s_bl
  | .str _=>s_str
  | .non=>s_non
  | .glb _=>s_glb
  | .bin _ a b=>s_bin bL jd
  | .neg a=>s_neg bL
  | .not a=>s_not bL
  | .cmp _ a b=>s_cmp bL jd
  | .chain _ _ a b c=>s_chain bL jd (snd c)
  | .and es=>s_and (sndAnd es)
  | .or es=>s_or (sndOr es)
  | .lst es=>s_lst Cj
  | ģ es=>s_tup Cj
  | .ix a b=>s_ix bL jd
  | .sl a b c=>s_sl bL jd (snd c)
  | .slf a b=>s_slf bL jd
  | .slt a b=>s_slt bL jd
  | ľ _ es=>s_call Cj
  | .bi _ es=>s_bi Cj
  | .isi a _=>s_isi bL
  | .meth _ a _=>s_meth bL
  | .comp a _ b _=>s_comp bL jd
  | sQ a _ b c _=>s_compi bL jd (snd c)
  | .idx a b=>s_idx bL jd
  | .rng es=>s_rng Cj
  | .enu a=>s_enu bL
  | .itm a=>s_itm bL
  | .dix a b=>s_dix bL jd
  | .dgp _ b=>s_dgp jd
  | .callv _ _ es=>s_callv Cj
  | .srtk a _ _ _ _=>s_srtk bL
  | .ite a b c=>s_ite bL jd (snd c)
  | .gdx b=>s_gdx jd
  | .zp a b=>s_zp bL jd
  | .mink a _ _ _ _=>s_mink bL
  | .self _ _ es=>s_self Cj
  | .dc2 _ _ a b=>s_dc2 bL jd
theorem sndL:∀ms:aw,vo ms
  | []=>l_nil
  | a::ms=>l_cons bL (sndL ms)
theorem sndAnd:∀ms:aw,SAnd G F ms
  | []=>and_nil
  | a::ms=>and_cons bL (sndAnd ms)
theorem sndOr:∀ms:aw,SOr G F ms
  | []=>or_nil
  | a::ms=>or_cons bL (sndOr ms)
end
universe E_
section
variable (G:Gs) (F:Nat->List DV->Option Ou) (fu:Nat)
def SS(m:MS):Prop:=Md st Stmt o Out (corS sg m st) (uW m δ) ē (PS X st zH)
def SSs(ms:bI):Prop:=Md sts ah o Out (lL sg ms sts) (m7 ms) ē (mB sts zH)
universe E_
def compIs(h:isCompM e=true):CompIs G F e:=by
  cases e with
  | comp a _ b _=>exact c_comp bL jd
  | compi a _ b c _=>exact c_compi bL jd (snd c)
  | _=>cases h
def t_set:ki (.set i own e):=by
  intro sg X st u o g c h;refine QD c w
  refine nM c pt
  simp only[Ĉ,ķ,gc,ο]at c;obtain⟨⟨⟨E,C⟩,s⟩,d⟩:=c;have l:=g.loc x C;have q:ow:=Ą g.N E
  have h:Re.thnS u _ _=ē:=h;cases hv:isComp v with
  | ă=>exact aaF (swaps_none hv) h
  | true=>
    rcases d with d | B
    · rw[hv]at d;cases d
    · cases m:Ų e u with
      | none=>rw[m]at h;cases h
      | some r=>
        obtain⟨a,N',fr,tg,p,rfl,S,P,A,y⟩:=compIs B g s m;cases f:(aaG _)with
        | ă=>
          have b:=(aaE ă);exact aaF b h
        | true=>
          have b:=(aaE true);rw[m]at h;have d:k7 x=dF:=by simp only[Ĉ,ķ]at f;exact f.1.1.2
          exact dss_setcomp S qK g.nd q d P A y b h
def t_app:ki (.app i e):=by
  intro sg X st δ o g a h;refine inExS_el a (Ğ v k a)
  refine inCl1_el a (Ļ ef ea c a)
  refine Mf a ob d
  simp only[Ĉ,ο]at a;obtain⟨⟨⟨⟨s,b⟩,r⟩,q⟩,p⟩:=a;refine nM b np
  obtain⟨s1,s2,j,f⟩:=Cf b;have m:=cu s;subst m;exact dss_append (Ch j f) (Ck l r) q p h
def t_ext:ki (.ext i e):=by
  intro sg X st δ o g a h;refine inExS_el a (Ğ v k a)
  refine inCl1_el a (Ļ ef ea c a)
  refine Mf a ob d
  simp only[Ĉ,ο]at a;obtain⟨⟨⟨⟨s,b⟩,r⟩,q⟩,p⟩:=a;refine nM b np
  obtain⟨s1,s2,j,f⟩:=Cf b;have m:=cu s;subst m;exact dss_extend (Ch j f) (Ck l r) q p h
def t_retd:ki (.retd i):=by
  intro sg X st δ o g a h;refine inRet1_el a (Ğ v d a)
  refine nM a np
  obtain⟨s1,s2,c,b⟩:=Cf a;exact dss_retd (Ch c b) h
def t_aug:ki (.aug i e):=by
  intro sg X st δ o g c h;refine inAug_el c (ν t op v f c)
  rw[Ĉ,Ĉ]at c;obtain⟨⟨n,b⟩,m⟩:=c;cases cu n;refine nM b p
  rw[Ĉ]at b;have l:=g.loc x b.2;obtain⟨a,d,h⟩:=di;exact dss_aug g.nd (Ą g.N (cu b.1)) l.1 l.2 (Ck j m) (asI_eq2 d) h
def t_sep:ki (.sep i):=by
  intro sg X st δ o g a h;refine QD a b
  refine nM a np
  refine inDc0_el a (Ĝ _ a)
  rw[Ĉ,ķ]at a;obtain⟨d,c⟩:=g.loc x a.2;exact dss_sep g.nd (Ą g.N a.1) d c h
def t_dpp:ki (.dpp i ks e):=by
  intro sg X st δ o g a h;refine QD a k
  refine zL a ob ek sp
  simp only[Ĉ,ο]at a;obtain⟨⟨⟨d,c⟩,m⟩,l⟩:=a;refine nM d np
  obtain⟨s1,s2,j,f⟩:=Cf d;refine inTup_el c (Ļ es tk tp c)
  exact dss_dpp (tm Ă g.hu) (Ch j f) (Ck b m) (fun z b=>sndL ks g c b) l h
def t_seti:ki (Hg e):=by
  intro sg X st δ o g a h;refine QD a j
  refine zL a ob ek sp
  simp only[Ĉ,ο]at a;obtain⟨⟨⟨c,n⟩,m⟩,l⟩:=a;refine nM c np
  obtain⟨s1,s2,f,d⟩:=Cf c;exact dss_setix (Ch f d) (Ck b l) (ip b (snd k) n) m h
def t_exp:ki (.exp e):=by
  intro sg X st δ o g a h;refine inExS_el a (Ğ _ _ a)
  simp only[Ĉ,ο]at a;exact dss_exp (Ck b a.1) a.2 h
def t_ret:ki (.ret e):=by
  intro sg X st δ o g a h;refine inRet1_el a (Ğ _ _ a)
  exact dss_ret (Ck b a) h
def t_unk{G:Gs}{F:Ŵ}{fu:Nat}:ki .unk:=by
  intro sg X st δ o g hc h;cases h
def t_frz2:ki (.dfr i fr es):=by
  intro sg X st δ o g a h;cases a
def t_iff(i:zN a)(f:zN b):ki yS:=by
  intro sg X st δ o g d h;refine inIfS_el d (ν _ _ _ _ d)
  simp only[Ĉ]at d;exact dss_if (ip e (snd c).2 d.1.1) (fun z e=>i g d.1.2 e) (fun z e=>f g d.2 e) h
def t_fo(f:zN body):ki (.fo tg e body):=by
  intro sg X st δ o g a h;refine inFor1_el a (ν _ _ _ _ a)
  simp only[Ĉ,ο,gc]at a;obtain⟨⟨⟨⟨n,m⟩,l,k⟩,j⟩,i⟩:=a;exact dss_for (g.own n) qK (fun z c=>(snd e).2.2 g l (fun w=>by
    rcases k with q | q
    · rw[w]at q;cases q
    · exact q) c) (pg_of g m) (fun b o' d=>f g i d) j h
def t_wh(f:zN body):ki (.wh c body):=by
  intro sg X st δ o g a h;refine inWh1_el a (Ļ _ _ _ a)
  simp only[Ĉ]at a;exact dss_while (g.own a.1.1) (fun b r d=>(snd c).2.1 g a.1.2 d) (fun b o' e=>f g a.2 e) h
def specB:ń MS
  | .dfr _ _ _=>true
  | _=>ă
def ts_nil:zN []:=by
  intro sg X c δ o g d h;cases c with
  | nil=>unfold evSs at h;cases h;exact dss_nil
  | cons a b=>unfold lL at d;cases d
def cell_of(g:pi b)(z:b.sc.lookup y=aO):k7 y=aO/\X.fn y=true/\Loc Mc y:=by
  have a:=g.loc y (qI locB z);have nl:rR y≠dF:=fun w=>aaB y z
  exact⟨a.1.elim Qy id,a.2.elim id Qy,a.1⟩
def dfrS_at(m:G.clo=ā C)(h:dfrS G F fr a g e=ē):C.nc=lx/\e=ā .no/\Bk/\∃cs l d,g=qd/\a=uK/\G_ C.np=ā lE/\o=Eg:=by
  unfold dfrS at h;rw[m]at h;dsimp only at h;split at h
  · rename_i z
    obtain⟨k,c,j⟩:=z;obtain⟨cs,n,h⟩:=di;obtain⟨r,i,h⟩:=di;have f:e=ā .no:=by
      unfold noB at c;split at c
      · rfl
      · cases c
    cases a with
    | none=>cases i
    | some a=>
      cases a with
      | ok l=>
        have b:=i;obtain⟨d,_,_,_,_,rfl⟩:=callC_at b;cases h;exact⟨k,f,j,cs,l,d,n,rfl,b,rfl⟩
  · cases h
def ts_dfr:zN (.dfr i fr es::ms):=by
  intro q X a0 w o g b h;have N:ņ (corDfr q i fr a0 (bW q es)&&ms.isEmpty):=by unfold lL at b;exact b
  rw[Ĉ]at N;obtain⟨b,hms⟩:=N;have h:(sA aaH (.nx δ') (lH ms δ') o o)=ē:=h;unfold corDfr at b;rw[Ĉ,Ĉ,ķ]at b;obtain⟨⟨ht,e⟩,b⟩:=b;refine in2_el b fun sa sb b=>inFd_el b fun n pr bd S x dp b=>?_
  simp only[Ĉ,ķ,qt,ak]at b;obtain⟨⟨⟨⟨⟨⟨rfl,rfl⟩,hi⟩,a6⟩,a3⟩,a2⟩,b⟩:=b;refine inRet1_el b fun v rp b=>ny b (Ļ ef ea cp b)
  simp only[Ĉ,ο]at b;obtain⟨⟨Y,h2⟩,h3⟩:=b;refine nM Y np
  rw[ķ]at Y;subst Y;cases ea with
  | nil=>cases h2
  | cons e0 er=>
    have ns:=zM h3;rw[lP,sZ]at ns;obtain⟨C,hC,r⟩:=g.cos _ _ _ _ a6;obtain⟨a1,tx,M,_⟩:=clo_tx r;cases hd:aaH with
    | none=>rw[hd]at h;cases h
    | some o'=>
      obtain⟨z1,z2,z3,cs,l,d,e1,e2,e3,rfl⟩:=dfrS_at hC hd;rw[hd]at h;cases h;obtain⟨_,⟨k,hr,_,a7⟩,wt⟩:=g.lms z3;obtain⟨c,P,k1,k2,k3,k4⟩:=wt ht;rw[ž (tagN q.sc=ŭ) (ĉ e)]at k3;have p:∀y∈S.names,y.2=iT->q.sc.lookup y.1=aO:=fun y m B=>GX z (a2 y m) (ĉ (ų B)) (cu z)
      obtain⟨Z,c2,c3⟩:=cell_of g e;have D:=ps_def (pos:=dp) (bd:=bd) (⟨k1,k2,k3,fun y m B=>VC.1,k4 e⟩) a1 g.nd (Ą g.N hi) Z c3 (ď c2);have has:X.Ok->ES S.names:=fun ok y m B=>ok.has y.1 (ď VC.1)
      have PC:PE X (.Call (.Name ŭ np) (e0::er) [] cp) (ŷ E (∃f,(ĭ E pX/\DefFn H ŭ (A9++ŭ) pr bd S (DO S.names) f)/\dE X.D w lE E H Q)):=by
        refine pe_cloD (cs:=cs) (C:=C) (fun {ta} A=>pe_clo (a7 C hC) hr r (fun ok=>clo_full tx ok (has ok)) (fun I=>cells_new I (has I.ok) fun y m B=>VC.2.1) (fun {b0 E H H' s f} I sm ha=>(au (ha.2.mono sm))) (ď Z) z1.symm (Ğ j J hj) e1 A ns.1 ns.2) (Cj g h3 e2) e3
        · obtain⟨mm,hn',a4⟩:=k9
          obtain⟨u,rv,lk⟩:=a4 i ŭ _ (Ą g.N hi) ha.1 (mD Z);obtain rfl:u=gI f:=rv;rcases lk with⟨U,_⟩ | ⟨_,cx,q2,q3⟩
          · have U:k7 ŭ=dF:=U
            rw[Z]at U;cases U
          · exact⟨cx,fc_has (has I.ok) (eI tx.slf) q2,q3⟩
        · have hjl:j<lx:=(gM hj)
          have L:=a3 J (iO hj);have m:Į q.N J (q.N.getD J ""):=nH (Ľ L) Ħ (Ľ L)
          have hq:Į Uh j (q.N.getD J ""):=(by rw[←M,ō,hj];rfl);have K:Į C.N (C.np+j) (q.N.getD J ""):=(by rw[J6 Ă,Bu]at hq;exact hq);refine⟨_,K,Ą g.N m,ď ?_⟩;have a9:=tx.fre (C.np+j) _ Ă Ă K;exact(cell_of g (p _ (eI a9) rfl)).1
      refine(pss_cons D (pss_cons (ps_ret (pos:=rp) PC) pss_never)).weak fun Dn E H (L7 frr kk) f H' s1 hn df=>?_
      have a5:i<E.length:=rF R.len (gM z2)
      refine⟨f,⟨ų (rD a5),df⟩,O,W,(eX).anyNo z2 _,fun v H2 s2 g2=>kk v H2 (sm.trans o_) ?_⟩;have a8:Ib H2:=g2;exact(a8.mono HK:zo X.D (Ô O H2))
def ts_cons(l:ki m)(p:zN f)(k:specB m=ă):zN (m::f):=by
  intro j X a δ o g e h;cases a with
  | nil=>
    exfalso;cases m<;>first | (cases k;done) | (unfold lL at e;cases e)
  | cons n a=>
    have b:corS j m n=true/\lL j f a=true:=(by cases m<;>first | (cases k;done) | (unfold lL at e;rw[Ĉ]at e;exact e));unfold evSs at h;split at h
    · rename_i c q
      exact dss_cons (l g b.1 q) (p g b.2 h)
    · rename_i i
      cases o with
      | nx c=>exact nL (i c)
      | rt d fr=>exact dss_rt (l g b.1 h)
section
variable {G:Gs} {F:Nat->List DV->Option Ou} {fu:Nat}
mutual
theorem sndS:∀m:MS,ki m
  | .set _ _ _=>t_set
  | .app _ _=>t_app
  | .aug _ _=>t_aug
  | .ext _ _=>t_ext
  | .seti _ _ _=>t_seti
  | .exp _=>t_exp
  | .ret _=>t_ret
  | .iff _ a b=>t_iff (sndSs a) (sndSs b)
  | .fo _ _ body=>t_fo (sndSs body)
  | .wh _ body=>t_wh (sndSs body)
  | .sep _=>t_sep
  | .dpp _ _ _=>t_dpp
  | .retd _=>t_retd
  | .unk=>t_unk
  | .dfr _ _ _=>t_frz2
theorem sndSs:∀ms:bI,zN ms
  | []=>ts_nil
  | .dfr _ _ _::ms=>ts_dfr
  | .set i o e::ms=>qL (.set i o e)
  | .app i o::ms=>qL (.app i o)
  | .aug i o::ms=>qL (.aug i o)
  | .ext i o::ms=>qL (.ext i o)
  | Hg o::ms=>qL (Hg o)
  | .exp e::ms=>qL (.exp e)
  | .ret e::ms=>qL (.ret e)
  | yS::ms=>qL yS
  | .fo t i b::ms=>qL (.fo t i b)
  | .wh c b::ms=>qL (.wh c b)
  | .retd i::ms=>qL (.retd i)
  | .sep i::ms=>qL (.sep i)
  | .dpp i k e::ms=>qL (.dpp i k e)
  | .unk::ms=>ts_cons (sndS .unk) (sndSs ms) rfl
end
universe E_
structure FunD(K:į)(x qual:Str)(st:Stmt)(f:Addr)(fd:rZ):Prop where
  ex:∃(oc:Ě) (od:AC) (dV kV doc pm:Ě) (an:AC) (cdv ct:Ě) (osl:gH jr),
    fd=Mi qual dV doc an cdv ct/\jt f=ā ⟨oc,od,.func fd,osl⟩/\J8 K cdv qual=true
def FunD.okX{K:į}(F:FunD K x a d f fd)(S:FnScope N ps (Fa d))(g:∀vs H Q E,e vs H Q E->aP=τ)
    (c:∀(b:Ě),fd.code=b->∀(A:ξ) (ś:ju) (s:č) (H:Hp) (vs:İ) (Q:VK) (E:XK),jC (yp (envOfC a (Fa d) ġ f b))->e vs H Q E ->
      XR (cxD P w K mg base N a (Fa d) f b A ś s H) (defBody d) o):GW CX0 ς f fd ps e:=by
  obtain⟨oc,od,dV,kV,n,pm,an,b,ct,j,rfl,l,i⟩:=F.ex;exact fn_of l i S g fun A ś s H vs Q E m h=>c b rfl A ś s H vs Q E m h
theorem RSt.start(m:n=gQ)(r:ij bX ds vs)(k:Hdn O H):RSt D H (Fb N vs) (Ŗ n ds) O []:=by
  subst m;have c:∀(i:Nat) b,(Ŗ gQ ds)[i]? ≠ ā (.own b):=fun i b h=>by
    unfold Ŗ at h;by_cases e:VD
    · rw[uv e,ō]at h
      cases q:ds[i]? with
      | none=>rw[q]at h;cases h
      | some d=>rw[q]at h;cases h
    · rw[uw Ă,J7]at h
      split at h<;>cases h
  have g:∀(i:Nat) b,(Ŗ gQ ds)[i]? ≠ ā (.od b):=fun i b h=>by
    unfold Ŗ at h;by_cases e:VD
    · rw[uv e,ō]at h
      cases q:ds[i]? with
      | none=>rw[q]at h;cases h
      | some d=>rw[q]at h;cases h
    · rw[uw Ă,J7]at h
      split at h<;>cases h
  refine⟨Ğ i d h,fun i b h=>nL (c i b),fun i j a p d2 h=>nL (c i p),fun i d h=>nL (g i d),?_,⟨fun a f=>k.ne a (Ķ f),fy _,sj a f,sj a f,k⟩⟩
  · unfold Ŗ at h
    by_cases e:VD
    · rw[uv e,ō]at h
      cases q:ds[i]? with
      | none=>rw[q]at h;cases h
      | some d'=>
        rw[q]at h;cases h;obtain⟨v,l,o⟩:=r.get q;refine⟨v,?_,Ą fv o⟩;unfold Fb;rw[uv (rF ċ (gM l)),ō,l];rfl
    · rw[uw Ă,J7]at h
      split at h<;>cases h
  · unfold Fb Ŗ
    rw[Â,Â,ċ,ċ,N_,N_,Ű]
noncomputable def cloB(o:ĕ CloD)(fn bl cl:ĥ):dM->ah->ù->ń ĥ:=match o with
  | ā C=>corClo C fn bl cl
  | none=>noCo
def dqB(x:Str)(sc:uB):Bool:=VE==(Qs==aO)
def dq_tag(h:dqB x sc=true):tagQ x=(x ++ ".<locals>.")++tagN sc/\(Qs=aO->deepQ ((x ++ ".<locals>.")++ŭ)=true):=by
  unfold dqB at h;rw[ķ]at h;unfold tagQ tagN;by_cases z:Qs=aO
  · have e:VE=true:=fA h z
    have a:Sq x=true:=e;rw[ĉ z,ĉ a];exact(bG (ş e))
  · have e:VE=ă:=Ą h (iF z)
    rw[ĝ z,ĝ ((by have:Sq x=ă:=e;rw[this];decide))];exact(bG (fun w=>ĸ w z))
structure Stands(K:į)(mg:Τ)(fn bl cl:ĥ)(d:FD)(x:Str)(fa:Addr)(fd:rZ)(ps:ĥ):Prop where
  mg:mg x=ā (Č fa)
  kp:yv K fa=true
  bi:Binds K fd ps []
  np:d.np=τ
  ex:∃qual st N,qual=x/\FunD K x qual st fa fd/\FnScope N ps zQ/\d.n=gQ/\lL VG d.body (defBody st)=true/\VF=true
def run_len(hd:Į T f d)(e:d.np=n)(q:Ý f ds=ē):œ=n:=by
  cases k with
  | zero=>cases q
  | succ k=>
    have b:(match T[f]? with | none=>O0 f _ _ | Ś=>Hi c.np (evSs G _ fu c.body _))=ē:=q;rw[hd]at b;have a:(Hi d.np (evSs G _ fu d.body _))=ē:=b;split at a
    · rename_i z;rw[z,e]
    · cases a
def fns_of{K:į}(v:xq=fn.length)(r:Mj fn b)
    (m:QE b) (s:jC A) (f:Nat) (y:Str) (n:Į fn f y) :
    ∃p b fd ps,Room p A/\mg y=ā wH/\yv K b=true/\Binds K fd ps []/\(∀ds o,Ý f ds=ē->œ=τ)/\GW CX0 p b fd ps (spF qE τ (Ý f)):=by
  have u:f<xq:=rF v (gM n)
  obtain⟨l,c⟩:∃l,Į T f l:=(B2 u);obtain⟨h,g,e,j⟩:=r f l y c n;exact⟨k,h,g,e,s,j.mg,j.kp,j.bi,fun ds o q=>run_len c j.np q,m f l y h g e c n j⟩
def cos_of{G:Gs}(h:o=none\/o=G.clo)(z:cloB o fn bl cl b bd sc a=true):∃C,G.clo=ā C/\Mb b a=true:=by
  cases o with
  | none=>cases z
  | some C=>exact⟨C,(h.elim (fun w=>eB w) id).symm,z⟩
def lam_step{P:ř}{w:ł}{K:į}{mg:Τ}{base:Heap}{G:Gs}{T:Ĳ FD}{fu:Nat}{fn bl cl:ĥ}{k:Nat}(hT:xq=fn.length)(hs:Mj fn fa)(hbl:QI)
    (hdk:IA K w mg) (hcon:QH) (hlm0:QG) (hTl:xq<=hunIx)
    (ih1:QE fa) (ih2:QF k (Ý cZ)) (ih3:VJ):QF ς (Ů cZ):=by
  intro A ś s H us vs Q E O f m cs ds d hr e0 r hO m1 m2 m3 rp rl hF hq;have hTn:jq T cZ:=jY (Ç hTl);have hF':(aaP cZ (dQ::ds) (DV.lam m cs::ds))=iY:=hF;rw[hTn]at hF';have hF2:(VI cZ (dQ::ds))=iY:=hF';rw[js]at hF2;unfold lamR at hF2;dsimp only at hF2;split at hF2
  · rename_i cond
    obtain⟨n1,n2,n3,n4⟩:=cond;split at hF2
    · rename_i d' hev
      split at hF2
      · rename_i nl
        cases (hF2);obtain⟨f',pr,bd,sc,q,cl',l,ws,e1,lf,hcor,S,rc,lc1,lc2,lc3⟩:=rep_lam.mp rp;cases (e1);have lf':=lf.mono wo_le;have atH:Lj (fZ c=ē/\aN=lz v):=fun c hc=>by obtain⟨o,v,g1,g2⟩:=lc2 c hc;have g:=(cD g1).2;exact aaO
        have C:zu:=⟨atH⟩;unfold corLam at hcor;rw[Ĉ]at hcor;have hlv:aP=œ:=rl.length;have hnp:Ć HG=m.np:=Ź mL
        have hus:aY=Ć HG:=by rw[←Ű,hlv,hnp];exact n1
        have hlw:lI=cs.length:=rc.length;have hlO:LQ:=fun c hc=>aaN
        have hO2:Hdn O kg:=fun a ha=>aaM
        refine lam_run (ps:=HG) (ws:=ws) (vs:=vs) S C hr.ok e0 lf' (fun pm c' ctv=>bind_lam hcor.1 hus) (cw hlv hnp n1) r (Ą hnp lc1) (LV x) (af c')
        · rw[hnp]at h1
          obtain⟨c,o,u,g1,g2,g3,g4⟩:=lc3 i x v h1 h2;have g:=(cD g2).2;exact⟨c,u,g1,⟨o,(e0.hok c _ g).1,g3⟩,g4⟩
        · have hr':jC (yp (VH cl')):=hr.deeper _
          have g4:aaL m.N ă cl':=by
            refine(aaK S.nd z (eB z) z k w _ EQ)
            · unfold visB at hy
              simp only[gc,ķ]at hy;rcases hy with(hy | hy) | hy
              · exact ď hy
              · exact mD hy
              · exact uz hy
            · unfold gloB at hy
              rw[ķ]at hy;exact hy
            · unfold locB at hy
              simp only[gc,ķ]at hy;rcases hy with hy | hy
              · exact⟨ď hy,ė hy⟩
              · exact UO hy
          have hc:corE (Pp m.N ă) ă m.body bd=true:=(by have:=hcor.2;rw[m1,m2,m3]at this;exact this);have pe:=(snd m.body).1 g4 hc hev;refine⟨_,pe,O,[],?_,fun v H' sm gt=>af gone⟩
          · have R:=aaJ m.N B3
            have e1:Ŗ B3 tz=(tz).map Sv.val:=(rB Ŗ Â (Ş (B3 - (œ+cs.length)=0)) (fv _));have e2:Fb m.N (vs++ws)=LN:=(rB Fb Â (Ş (B3 - (aP+lI)=0)) (fv _));rw[e1,e2]at R;exact R
          · have gt':PZ (O++[]):=gt
            rw[fv]at gt';refine aaI
            · by_cases hb:kf
              · rw[ov_in hb];exact e
              · rw[vh hb];exact sm _ _ (Ą (η hb) e)
            · obtain⟨hb,e⟩:=cD e
              rw[η hb,vh fun z=>jb (gone b z) e e];exact e
      · cases (hF2)
    · cases (hF2)
  · cases (hF2)
def clo_step{P:ř}{w:ł}{K:į}{mg:Τ}{base:Heap}{G:Gs}{T:Ĳ FD}{fu:Nat}{fn bl cl:ĥ}{k:Nat}{C:CloD}(hT:xq=fn.length)(hs:Mj fn fa)(hbl:QI)
    (hdk:IA K w mg) (hcon:QH) (hlm0:QG) (hTl:xq<=hunIx)
    (ih1:QE fa) (ih2:QF k (Ý cZ)) (ih3:VJ) (hC:G.clo=ā C):CloOk P w K mg base C fn bl cl ς (Ů h_):=by
  intro A ś s H us vs Q E O f cs ds d hr e0 r hO ca hld rl hF hq;have hTn:jq T h_:=jY (Ç hTl);have hF1:(aaP h_ tz tz)=iY:=hF;rw[hTn]at hF1;have hF2:(VI h_ tz)=iY:=hF1;rw[ĝ đ]at hF2;rw[js]at hF2;unfold cloR at hF2;rw[hC]at hF2;have hF3:(if Ć tz=C.np+C.nc/\m9 tz then(match eV k C.body (Ŗ Bl tz)with
    | ā Eg=>VL
    | _=>none)else none)=iY:=hF2
  split at hF3
  · rename_i cond
    split at hF3
    · rename_i d' hev
      split at hF3
      · rename_i nl
        cases (hF3);obtain⟨q,pr,bd,sc,cap,cc,l,ws,c0,o0,df,hcor,S,rc,hwl,lc1,lc2,hll,⟨s1,s2,s3⟩,hnew⟩:=ca;obtain⟨hps,tx,hcapE,hbody⟩:=clo_tx hcor;have atH:Lj (fZ c=ē/\aN=lz v):=fun c hc=>by obtain⟨o,v,g,g2⟩:=lc1 c hc;exact aaO
        have Ct:zu:=⟨atH⟩;have hlv:aP=œ:=rl.length;have hnp:Ć w6=C.np:=zK mL tx.len
        have hus:aY=Ć w6:=by rw[←Ű,hlv,hnp];exact hld
        have hlO:LQ:=fun c hc=>aaN
        have hO2:Hdn O kg:=fun a ha=>aaM
        have nolam2:∀{a b:Ĩ},m9 (a++b)->m9 a/\m9 b:=fun {a b} h=>by
          induction a with
          | nil=>exact(bG h)
          | cons x a ih=>
            have h':ņ (x.nolam&&lC (a++b)):=h;rw[Ĉ]at h';obtain⟨i1,i2⟩:=ih h'.2;refine⟨?_,i2⟩;show ņ (x.nolam&&lC a);rw[h'.1,i1];rfl
        obtain⟨n3,n4⟩:=nolam2 cond.2;have nt:∀{b:Addr} {o:Obj} {u:HO},gJ b o u->(GH aN)->b∉l:=fun e hd z=>by obtain⟨o',v,g,_,d'⟩:=atH _ z;rw[e]at g;cases (g);exact hd v d'
        refine clo_run (N:=C.N) (ps:=w6) (ws:=ws) (vs:=vs) (n:=Bl - C.np - C.nc) (Ą hwl S) Ct hr.ok e0 df (fun doc pm c' ctv=>bind_clo hps hus) (cw hlv hnp hld) r (by rw[hnp,hwl];have:=tx.len;omega) (LV x) fun c' oc u T' h1 h2 h3=>?_
        · rw[hnp]at h1
          obtain⟨c,o,u,g1,g2,g3,g4⟩:=lc2 i x v h1 h2;exact⟨c,u,g1,⟨o,(e0.hok c _ g2).1,g3⟩,g4⟩
        · have hr':jC (yp (VH cc)):=hr.deeper _
          have hocd:GH oc.data:=fun v z=>by obtain⟨o,vv,_,_,_,_,_,_,_,q1,_,q2,_⟩:=h3 Ė (e0.hok c' _ h1).1;rw[(e0.hok c' _ h1).1]at q1;cases (q1);rw[q2]at z;cases (z)
          have dfW:E_ kg ŭ:=by
            obtain⟨c1,oc1,u1,vs1,t1,doc,pm,ctv,T1,y1,y2,y3,y4,y5,y6⟩:=df;refine⟨c1,oc1,u1,vs1,t1,doc,pm,ctv,T1,?_,?_,y3,y4,?_,y6⟩
            · rw[η (nt y1 fun v z=>eP (z))];exact y1
            · rw[η (nt y2 fun v z=>jb y3 z (z))];exact y2
            · rw[cF (by obtain⟨o',g⟩:=hlO _ z;rw[y5]at g;cases g)];exact y5
          have new:tj (base.get? c=none/\c∉frs (VH cc::ś)):=fun c hc=>by
            refine⟨(hnew c hc).1,mR⟩;obtain⟨o,v,_,g,_⟩:=atH c hc;have z':c∈ġ::frs ś:=z;rcases Ŀ z' with w | w
            · exact ĸ (aB g) (Ą w DP)
            · exact(hnew c hc).2 w
          have LA:=lamAt_in (P:=P) (w:=w) (K:=K) (mg:=mg) (base:=base) (N:=C.N) (Ŋ:=sc) (f:=f) (cl:=cc) (A:=A) (ś:=ś) (sc:={sc with names:=[]}) Ct h1 hocd h2 h3 (yy y hy uB);have g4:aaL C.N true cc:=by
            refine(aaK tx.nd _ PassesOwn.never z k w _ (fun _ _=>bx ⟨c',T',rfl,fun I=>⟨LA.hd I,LA.tab I⟩⟩ (fun x a e=>new a (S.mem x a e))))
            · unfold visB at hy
              simp only[gc,ķ]at hy;rcases hy with(hy | hy) | hy
              · exact ď hy
              · exact mD hy
              · exact uz hy
            · unfold gloB at hy
              rw[ķ]at hy;exact hy
            · unfold locB at hy
              simp only[gc,ķ]at hy;rcases hy with hy | hy
              · exact⟨ď hy,ė hy⟩
              · exact pY (tx.nocell _ (eI hy))
            · intro δ e es pos p rs re np nc PAx hs1 hss h
              unfold selfE at h;rw[hC]at h;dsimp only at h;split at h
              · rename_i z
                obtain⟨rfl,rfl⟩:=z;obtain⟨cs',e1,h⟩:=di;refine(pe_cloD (cs:=cs') (C:=C) (at_:=bc f' (f'=f)) (fun {ta} A=>pe_clo (q:=q) (X:=LO C.N sc (Č c') cc _ ś s kg) (ih3 C hC) hr' hcor (ş ⟨S,x_,hll⟩) (fun _ c hc=>new c hc) (fun {pins σ H1 H2 s' f'} I sm ha=>?_) (ė tx.slf) (ų List.length_range') (Ğ j i' hj) e1 A hs1 hss) PAx h).weak fun σ H Q z=>Á f z
                · subst ha
                  refine⟨dfW.un I.base,c0,s1,o0,I.base.keep c0 o0 (e0.hok c0 _ s2).1 (wo_in (S.mem _ _ s1)) (hnew c0 (S.mem _ _ s1)).2 (fun z=>ĸ (show c0∈([]:ŀ)from z) Ģ),s3⟩
                · have hjl:j<C.nc:=kh (gM hj) List.length_range'
                  rw[List.getElem?_range' hjl]at hj;cases (hj);have hlt:C.np+j<Bl:=fq tx.len
                  refine⟨C.N[C.np+j],Ľ hlt,?_,ė (tx.fre _ _ Ă Ă (Ľ hlt))⟩;show C.N[C.np+1*j]? = _;rw[Fd];exact Ľ hlt
              · cases (h)
          refine⟨_,sndSs C.body g4 hbody hev,aU l,O,[],?_,(sj a ha),hO2.ne,fy _,fun v H' sm gt=>af gone⟩
          · have R:=aaJ C.N Bl
            have e2:Fb C.N (vs++ws)=PY (Bl - C.np - C.nc):=(by unfold Fb;rw[Â,hlv,hld,hwl,Nat.sub_sub]);rw[e2]at R;exact R
          · have gt':PZ O:=gt
            refine aaI
            · by_cases hb:kf
              · rw[ov_in hb];exact e
              · rw[vh hb];exact sm _ _ (Ą (η hb) e)
            · obtain⟨hb,e⟩:=cD e
              rw[η hb,vh fun z=>jb (gone b z) e e];exact e
      · cases (hF3)
    · cases (hF3)
  · cases (hF3)
theorem run_both{P:ř}{w:ł}{K:į}{mg:Τ}{base:Heap}{G:Gs}{T:Ĳ FD}{fu:Nat}{fn bl cl:ĥ}(hT:xq=fn.length)(hs:Mj fn fa)(hbl:QI)
    (hdk:IA K w mg) (hcon:QH)
    (hlm:Bk->QG/\xq<=hunIx/\aaR) (hcl:aaQ) :
    ∀k,(QE fa)/\(Bk->QF k (Ý cZ)/\VJ)
  | 0=>by
    refine⟨fun i d x fa fd ps h1 h2 S=>?_,ş ⟨(fun A ś s H us vs Q E O f m cs ds d _ _ _ _ _ _ _ _ _ hF _=>eP hF),fun C _ A ś s H us vs Q E O f cs ds d _ _ _ _ _ _ _ hF _=>eP hF⟩⟩;refine⟨ν vs H Q E h,SU he hv h⟩
    · obtain⟨_,_,_,_,_,_,q,_⟩:=h
      cases q
    · obtain⟨_,_,_,_,_,_,q,_⟩:=h
      cases q
  | k+1=>by
    have ih:=run_both (P:=P) (base:=base) (fu:=fu) hT hs hbl hdk hcon hlm hcl k;refine⟨fun i d x fa fd ps h1 h2 S=>?_,fun z=>⟨lam_step hT hs hbl hdk hcon (hlm z).1 (hlm z).2.1 ih.1 (ih.2 z).1 (ih.2 z).2,fun C hC=>clo_step hT hs hbl hdk hcon (hlm z).1 (hlm z).2.1 ih.1 (ih.2 z).1 (ih.2 z).2 hC⟩⟩;obtain⟨qual,st,N,hqx,F,FS,hn,hc,hdq⟩:=S.ex;refine F.okX FS (ν vs H Q E h) (fun cdv hcd A ś s H vs Q E hr h=>?_)
    · obtain⟨O,ds,o,_,e1,e2,_⟩:=h
      rw[e2.length,e1]
    · obtain⟨O,ds,o,ho,e1,e2,e3,e4⟩:=h
      have e3':(Hj T[i]? (O0 i fE (eV k)) fd (Hi fd.np (OZ ds)))=ē:=e3;rw[h1]at e3';have e3'':(Hi d.np (eV k d.body (Ŗ d.n ds)))=ē:=e3';rw[ĉ (e1.trans S.np.symm)]at e3'';have g:Good VG G Ý (cxD P w K mg base N qual zQ fa cdv A ś s H):=by
        refine⟨rfl,FS.nd,Ĝ y hy,Ĝ y hy,fun y hy=>⟨?_,Ð⟩,fun y hy=>hy,fun y hy=>hy,rfl,hr.units,fns_of hT hs ih.1 hr,hbl,hdk,hcon,ş PassesOwn.leaving,ş (u6 rfl),fun z=>⟨(hlm z).1,⟨k,hr,(ih.2 z).1,(ih.2 z).2⟩,fun _=>by
            obtain⟨c,P,q1,q2,q3⟩:=(hlm z).2.2 i d x qual st fa fd h1 h2 hqx F;subst hqx;obtain⟨t1,t2⟩:=dq_tag hdq;rw[t1]at q3;exact⟨c,P,hcd.symm.trans q1,q2,q3,t2⟩⟩,(fun pr bd sc cap z=>cos_of (hcl d (iO h1)) z),AB _ z⟩
        · unfold visB at hy
          simp only[gc,ķ]at hy;rcases hy with(hy | hy) | hy
          · exact ď hy
          · exact mD hy
          · exact uz hy
        · unfold gloB at hy
          rw[ķ]at hy;exact hy
        · unfold locB at hy
          simp only[gc,ķ]at hy;exact hy
      cases ho':eV k d.body (Ŗ d.n ds)with
      | none=>rw[ho']at e3'';cases e3''
      | some oo=>
        rw[ho']at e3'';refine⟨_,sndSs d.body g hc ho',H,O,[],RSt.start hn e2 ho,(sj a ha),ho.ne,fy H,?_⟩;cases oo with
        | nx δ=>cases e3'';exact fun σ' H' W R fr sm=>e4 .non H' sm (show Rep qE (Ô O H') .non .non by unfold Rep;rfl)
        | rt d fr=>cases e3'';exact fun v H' sm gt=>e4 v H' sm gt
noncomputable def okD(fn bl cl:ĥ)(d:FD)(N ps:ĥ)(st:Stmt):Bool:=
  (zQ).kind == on && !(zQ).isCoroutine && !(zQ).isGenerator&&nodupB N&&(mK τ==ps) &&
  ps.all (fun x=>Ub ((zQ).names.lookup x))&&(zQ).names.all (fun y=>!(y.2 == .free)) &&
  d.n==gQ&&d.np==τ&&lL VG d.body (defBody st)
section
variable {P:Program} {w:World} {K:PySem.W.Frag} {mg:Str->Option Value} {base h:Heap} {G:Gs} {T:List FD} {fu:Nat} {fn bl cl:List Str}
def stands_mkG{st:Stmt}{kV i:Ě}(X:K.In h)(E:Kg)(ok:Fe d N ps st=true)
    (a:PySem.W.nsIn K bO x=ā pX) (l:jt f=ā ⟨o,n,.func (Mi x dV e j b i),g⟩)
    (c:J8 K b x=true) (k:yv K f=true)
    (p:Binds K (Mi x dV e j b i) ps [])
    (C:VF=true:=by decide +kernel) :
    Mk f (Mi x dV e j b i):=by
  unfold okD at ok;simp only[Ĉ,ķ,ο,qt,gc,beq_eq_false_iff_ne]at ok;obtain⟨⟨⟨⟨⟨⟨⟨⟨⟨B,A⟩,z⟩,y⟩,w⟩,v⟩,u⟩,r⟩,q⟩,m⟩:=ok;exact⟨PySem.W.mg_of X E a,k,p,q,x,st,N,rfl,⟨o,n,dV,kV,e,pm,j,b,i,g,rfl,l,c⟩,⟨B,A,z,Cc y,w,v,u⟩,r,m,C⟩
def stands_mk{st:Stmt}{kV g:Ě}(X:K.In h)(r:Kg)(ok:Fe d N ps st=true)
    (a:PySem.W.nsIn K bO x=ā pX) (l:jt f=ā ⟨o,n,.func VM,m⟩)
    (c:J8 K b x=true) (k:yv K f=true)
    (p:∀(kV e pm:Ě) (i:AC) (b g:Ě) (j:ŉ),j.length=τ->HH VM j=GQ j) (q:VF=true:=by decide +kernel) :
    Mk f VM:=
  stands_mkG X r ok a l c k (.all (p kV e pm i b g)) q
def HS(K:į)(mg:Τ)(fn bl cl:ĥ)(T:Ĳ FD)(fs:ĥ):Prop:=Mj fs fa
def hs_nil:QJ [] fs:=fun i d x h=>ζ
def hs_cons(h:Mk e fd)(t:QJ T fs):QJ (d::T) (x::fs):=fun i f c b a=>by
  cases i with
  | zero=>cases b;cases a;exact⟨_,_,_,h⟩
  | succ i=>exact t i f c b a
def wo_nil:aU []=H:=by
  funext b
  unfold Ô;simp
def HC(K:į)(mg:Τ)(c:iH DV):Prop:=∀x d,c.lookup x=ā d->∃u v,mg x=Ö/\dv/\∀H,zo qE H
def con_nil:HC K mg []:=fun x d h=>ζ
def con_cons(h:∃u v,mg y=Ö/\dv/\∀H,zo qE H)(t:HC K mg c):HC K mg ((y,d)::c):=fun x a q=>by
  rw[gR]at q;split at q
  · rename_i e
    cases q
    rwa [eq_of_beq e]
  · exact t x a q
def spS(K:į):Sp:=fun vs H Q _=>∃(a:Addr) (ns:Ď),vs=[Ī]/\eL<=63/\SqS K H a A4/\∀H',Q fx H'
def law_fnok{k i:Nat}{d:FD}{x p:Str}{fa:Addr}{fd:rZ}(hT:xq=fn.length)(hs:QJ T fn)(hbl:QI)
    (hdk:IA K w mg) (hcon:QH) (h1:ĭ T d) (h2:mw fn) (S:VN K x fa fd [p])
    (hlm:Bk->QG/\xq<=hunIx/\aaR) (hcl:aaQ)
    (law:∀ns:Ď,eL<=63->Ý i [iX]=ε fx):GW CX0 k fa fd [p] (spS K):=by
  have R:=(run_both (P:=P) (w:=w) (base:=base) (fu:=fu) hT hs hbl hdk hcon hlm hcl k).1 i d x fa fd [p] h1 h2 S;refine⟨ν vs H Q E h,SU he hv h⟩
  · obtain⟨a,ns,rfl,_⟩:=h
    rfl
  · obtain⟨a,ns,rfl,hl,hS,hq⟩:=h
    refine wu (R.run A ś s H args us [Ī] Q E0 hr he hb hv ⟨[],[iX],_,(sj a ha),rfl,?_,law ns hl,Ļ v H' _ g⟩) (Ğ r s' q)
    · refine RepL.one (rep_scr.mpr (Á a ?_))
      rw[wo_nil];exact hS
    · have g':Rep qE (Ô [] H') fx v:=g
      rw[rep_bl]at g';subst g';exact hq H'
    · cases r with
      | error e=>exact(q:cM).elim
      | ok fl=>cases fl<;>first | exact eG q | exact q
universe E_
def walkE{l:PySem.W.OpenLaw}{XP:Τ->C8}{K:Params->į}(r:l.most=ā 63)(g:S5=[])(o:jC callerA)
    (x:X8) (e:X7)
    (F:∀(w:ł) (c:Τ) (j:Addr) (h:Heap),(K jI).In h->h.Ns bO c->c d.name=ā (Č j) ->
      ∃i:rZ,(Om u i p)/\∀b:Heap,(K jI).In b->b.Ns bO c->FnOk l.prog w (K jI) c b CX0 k j i [p] (spS (K jI))) :
    X5 m:=
  L2.walk_of r đ g o x e F (fun _ _ a n v A y=>⟨a,n,rfl,v,SqS.of A y,ş rfl⟩) fun _ _ _ _ _ z=>z
def codeT(K:į)(o:Obj)(c:Addr):AC:=match o.cls,aN with
  | JD,bM vs=>(match(vs[11]?:jr),(vs[18]?:jr),(vs[7]?:jr),(vs[9]?:jr),(vs[10]?:jr)with
    | ā (Č P),ā (.str _ _),ā (dL _),ā (fg _),ā (dL _)=>mE ((c==P)=ă/\(jt P).isNone=true) (ā P) none
    | _,_,_,_,_=>none)
  | _,_=>none
def fnsOk(K:į):Bool:=K.all fun p=>match p.2.data with
  | .func fd=>(match fd.code with
    | Č c=>(match jt c with | ē=>pN (codeT K o c) | none=>true)
    | _=>true)
  | _=>true
def getD_of{vs:dz}(h:AX):Gi i=v:=by
  rw[Bq,h];rfl
def hlm_of{K:į}{st:Stmt}(R:fnsOk K=true)(F:FunD K x f st W fd):aaS f:=by
  obtain⟨oc,od,dV,kV,Y,pm,an,w,ct,H,e,I,g⟩:=F.ex;have j:fd.code=w:=ų e
  have q:=qB R _ (GZ I);dsimp only at q;unfold J8 at g;split at g
  · rename_i c
    rw[j]at q;dsimp only at q;split at g
    · rename_i cls Z y sl p
      rw[p]at q;dsimp only at q;obtain⟨P,i⟩:=DA q;unfold codeT at i;split at i
      · rename_i B A S
        have u:=(by have:=S;injection this);subst u;split at i
        · rename_i P' k E U m b C l o O N M L
          split at i
          · rename_i d
            cases (i);split at g
            · rename_i a n t r hv
              have Q:=cu g;subst Q;have J:Į y 1 (.str n t):=by rw[←oZ,hv];rfl
              refine⟨c,P,j,fun h X=>⟨_,y,k,E,U,m,b,C,l,X _ _ p,A,rfl,o,getD_of o,getD_of O,getD_of N,getD_of M,getD_of L,mR⟩,?_⟩
              · rw[z]at d
                have:=d.1;simp at this
              · unfold fX
                refine List.mem_filterMap.mpr (bx _ (GZ p));have v:=A;subst v;simp only[o,J,d.2,f8]
            · cases (g)
          · cases (i)
        · cases (i)
      · cases (i)
    · cases (g)
  · cases (g)
def tab_in{K:į}(h:p∈fX K):∃(c:Addr) (a:Obj) (vs:dz),(c,a)∈K/\a.cls=JD /\ a.data=bM vs/\Į vs 11 (Č p.1)/\jt p.1=none:=by
  unfold fX at h;obtain⟨⟨c,a⟩,d,e⟩:=SG h;dsimp only at e;split at e
  · rename_i vs g f
    split at e
    · rename_i P q t b k2
      split at e
      · rename_i z
        cases e;exact⟨c,a,vs,d,g,f,b,Option.isNone_iff_eq_none.mp z⟩
      · cases e
    · cases e
  · cases e
def lk_of_nd{K:į}(f:fU (K.map eD))(h:(c,o)∈K):jt c=ē:=by
  induction K with
  | nil=>cases h
  | cons y l g=>
    rw[Η]at f;have d:=yx f;obtain⟨a,b⟩:=y;rw[gR];rcases Ŀ h with z | z
    · cases z;rw[oK]
    · have:c≠a:=fun e=>d.1 (ŏ e (eO _ z))
      rw[iF this];exact g d.2 z
def htb_of{K T:į}(i:K.In h)(f:T.In h)(e:(fU (K.map eD)))(j:im (fX K) p (T.lookup p.1)=ļ (fX K) _ (ā {cls:=Ĺ,data:=bM #[]})) :
    S6 K (jt p.1) (Ο p.1) h:=fun p a=>by
  obtain⟨c,d,b,g,n,m,l,k⟩:=tab_in a;exact⟨k,f _ _ (List.map_inj_left.mp j p a),c,d,b,i _ _ (lk_of_nd e g),n,m,l⟩
def in_app{K:į}(X:PySem.W.Frag.In (T++K) h)(f:(K.map eD).all (fun a=>(T.lookup a).isNone)=true):K.In h/\T.In h:=by
  have c:∀(T K:į) a,cr (T++K) a=(T.lookup a).or (jt a):=fun T K a=>by
    induction T with
    | nil=>simp
    | cons y l d=>
      obtain⟨b,v⟩:=y;rw[Ki,gR,gR];cases hb:a==b with
      | true=>rfl
      | ă=>
        exact d
  refine⟨fun a o e=>X a o ?_,fun a o e=>X a o ?_⟩
  · rw[c,Option.isNone_iff_eq_none.mp (qB f a (eO _ (GZ e))),e];rfl
  · rw[c,e];rfl
universe L2
namespace cv
variable {α β:Type} (h:β->α->Bool)
def wi(bs:pK)(e:α):pK:=bs.filter fun b=>h b e
def lf(es:Ρ)(b:β):Ρ:=es.filter fun e=>!h b e
def fst1(g:β->ĕ pK):pK->ĕ pK
  | []=>none
  | b::bs=>match g b with
    | Ś=>ā (b::c)
    | none=>fst1 g bs
def cov:Nat->Ρ->pK->ĕ pK
  | _,[],_=>ā []
  | 0,_::_,_=>none
  | m+1,lG,bs=>fst1 (fun b=>cov m (lf h ai b) bs) (wi h bs e)
theorem fst1_some:∀{bs:pK} {c:pK},fst1 g bs=Ś->∃b r,b∈bs/\g b=Ü/\c=b::r
  | [],_,q=>eP q
  | b::bs,c,q=>by
    unfold fst1 at q;split at q
    · rename_i r e
      cases q;exact⟨b,r,Υ,e,rfl⟩
    · obtain⟨h,r,f,d,a⟩:=fst1_some q
      exact⟨h,r,Ŕ f,d,a⟩
theorem fst1_none:∀{bs:pK},fst1 g bs=none↔dG b bs (g b)
  | []=>⟨(fun _ b a=>eP a),ş rfl⟩
  | b::bs=>by
    constructor
    · intro q c a
      unfold fst1 at q;split at q
      · cases q
      · rename_i e
        rcases Ŀ a with z | z
        · rwa [z]
        · exact fst1_none.mp q c z
    · intro q
      unfold fst1;rw[q b Υ];exact fst1_none.mpr fun c a=>q c (Ŕ a)
theorem cov_ok:∀{m:Nat} {es:Ρ} {bs c:pK},cov h m es bs=Ś->(mv c bs)/\(∀e∈es,∃b∈c,h b e=true)/\ie<=m
  | m,[],bs,c,q=>by
    have:c=[]:=by cases m<;>(unfold cov at q;cases q;rfl)
    subst this;exact⟨(fun _ z=>eP z),(fun _ z=>eP z),cX⟩
  | 0,_::_,_,_,q=>xc cov q
  | m+1,lG,bs,c,q=>by
    unfold cov at q;obtain⟨b,r,h1,h2,rfl⟩:=fst1_some q;obtain⟨i1,i2,i3⟩:=cov_ok h2;have hb:=bN h1;refine⟨Ĝ b' z,Ĝ e' z,Nat.succ_le_succ i3⟩
    · rcases Ŀ z with z | z
      · rw[z];exact hb.1
      · exact i1 b' z
    · by_cases hh:h b e'=true
      · exact⟨b,Υ,hh⟩
      · obtain⟨b',p1,p2⟩:=i2 e' (zR ⟨z,Ķ hh⟩)
        exact⟨b',Ŕ p1,p2⟩
theorem cov_all[C6 β]:∀{m:Nat} {es:Ρ} {bs c:pK},(mv c bs)->(∀e∈es,∃b∈c,h b e=true)->ie<=m->cov h m es bs≠none
  | m,[],bs,c,_,_,_=>by cases m<;>(unfold cov;intro z;cases z)
  | 0,lG,bs,c,_,h2,h3=>by
    obtain⟨b,p,_⟩:=h2 e Υ;cases c with
    | nil=>cases p
    | cons _ _=>cases h3
  | m+1,lG,bs,c,h1,h2,h3=>by
    obtain⟨b,p,q⟩:=h2 e Υ;unfold cov;intro z;have:=fst1_none.mp z b (zR ⟨h1 b p,q⟩);refine cov_all (c:=c.erase b) (fun b' hb=>h1 b' (List.mem_of_mem_erase hb)) (Ĝ e' he) ?_ this
    · obtain⟨he1,he2⟩:=bN he
      obtain⟨b',p',q'⟩:=h2 e' he1;have hne:b'≠b:=fun z=>by rw[z]at q';rw[q']at he2;cases he2
      exact⟨b',(List.mem_erase_of_ne hne).mpr p',q'⟩
    · have:=VO p
      omega
def cov_least[C6 β](q:cov h m es bs=Ś)(l:∀k<m,cov h k es bs=none):ie=m:=by
  obtain⟨d,b,a⟩:=cov_ok h q;rcases O5 a with z | z
  · exact ĸ (l _ z) (cov_all h d b ħ)
  · exact z
universe cv
namespace rk
def sm(f:bV):bV
  | 0=>0
  | n+1=>Ff
theorem ir:∀{n:Nat},(iu (f i=g i))->sm f n=sm g n
  | 0,_=>rfl
  | n+1,h=>by show Ff=sm g n+g n;rw[ir Ml,h n Ă]
theorem sm_zero:∀{n:Nat} {f:bV},(iu (f i=0))->sm f n=0
  | 0,_,_=>rfl
  | n+1,f,h=>by show Ff=0;rw[sm_zero Ml,h n Ă];rfl
theorem qM(a:Int)(f:bV):∀n,vp (a*f i)=a*sm f n
  | 0=>by show mJ=a*0;rw[Fg]
  | n+1=>by show sm _ n+a*f n=a*Ff;rw[qM a f n,Int.mul_add]
theorem sm_add(f g:bV):∀n,vp (f i+g i)=sm f n+sm g n
  | 0=>rfl
  | n+1=>by show sm _ n+(f n+g n)=Ff+(sm g n+g n);rw[sm_add f g n];omega
theorem sm_sub(f g:bV):∀n,vp (f i - g i)=sm f n - sm g n
  | 0=>rfl
  | n+1=>by show sm _ n+(f n - g n)=Ff - (sm g n+g n);rw[sm_sub f g n];omega
theorem sm_swap(f:iw)(m:Nat):∀n,vp (sm (f i) m)=sm (fun j=>vp lr) m
  | 0=>by symm;exact sm_zero DI
  | n+1=>by show sm _ n+sm (f n) m=sm (fun j=>sm _ n+f n j) m;rw[sm_swap f m n,sm_add _ _]
def sk(p i:Nat):Nat:=ĩ (i<p) i ü
def usk(p i:Nat):Nat:=ĩ (i<p) i (i - 1)
def sk_ne(p i:Nat):sk p i≠p:=by unfold sk;split<;>omega
def usk_sk(p i:Nat):usk p tE=i:=by
  unfold usk sk;by_cases h:i<p
  · rw[ĉ h,ĉ h]
  · rw[ĝ h,nj];omega
def sk_lt(h:i<r):sk p i<r+1:=by unfold sk;split<;>omega
theorem sm_skip(f:bV)(p:Nat):∀r,p<=r->sm f (r+1)=f p+sm (fun i=>f tE) r
  | 0,h=>by
    have:p=0:=Ę
    subst this;show 0+f 0=f 0+0;omega
  | r+1,h=>by
    show sm f (r+1)+f (r+1)=f p+(sm _ r+f _);by_cases q:p=r+1
    · subst q
      have e:sm (fun i=>f (sk (r+1) i)) r=sm f r:=ir (Ĵ hi (by show f _=f i;unfold sk;rw[xk]))
      have a:sk (r+1) r=r:=b_ sk xk
      rw[e,a];show sm f r+f r+f (r+1)=_;omega
    · have a:sk p r=r+1:=b_ sk nj
      rw[sm_skip f p r Ă,a];omega
theorem dep:∀(k r:Nat) (A:iw),k<r->QN (c i≠0) (IF=0)
  | 0,r,A,h=>⟨ş 1,⟨0,h,Β⟩,fun j d=>ĸ d (vg j)⟩
  | k+1,r,A,h=>by
    by_cases q:∃p,p<r/\A p k≠0
    · obtain⟨p,hp,l⟩:=q
      obtain⟨a,rfl⟩:∃a,r=a+1:=(yH r);obtain⟨c,⟨i,f,g⟩,hs⟩:=dep k a _ Ă;have b:∀j,sm (fun i=>(QL i i)*A i j) (a+1)=sm aaT a:=fun j=>by
        rw[sm_skip _ p a Ă];rw[js];have e:∀i,(QL tE tE)=A p k*c i:=fun i=>ţ (ĝ (sk_ne p i)) usk_sk
        rw[show(fun i=>(QL tE tE)*A tE j)=fun i=>A p k*c i*A _ j from funext fun i=>ų (e i)];rw[show aaT=fun i=>A p k*c i*A _ j - A p j*(c i*A tE k)from funext fun i=>by
          rw[Mn]
          congr 1
          · rw[←pj,lS (c i)]
          · rw[←pj,lS]]
        rw[sm_sub _ _,qM _ _,Int.neg_mul,lS _ _];omega
      refine⟨fun i=>QL i i,bx (sk p i) (sk_lt f),gw d⟩
      · show(ĩ (sk p i=p) _ (A p k*c (usk p tE)))≠0
        rw[ĝ (sk_ne p i),usk_sk];exact Int.mul_ne_zero l g
      · rw[b j]
        by_cases z:j<k
        · exact hs j z
        · have:j=k:=Ę
          subst this;exact sm_zero (Ĵ _ (by show c i*_=0;rw[lS (A p j),Int.sub_self,Fg]))
    · obtain⟨c,g,hs⟩:=dep k r A Ă
      refine⟨c,g,gw d⟩;by_cases z:j<k
      · exact hs j z
      · have:j=k:=Ę
        subst this;exact sm_zero fun i f=>by
          have:=Mm fun n=>q ⟨i,f,n⟩
          show c i*A i j=0;rw[this,Fg]
theorem odd_of(r k:Nat)(A:iw):∀(n:Nat) (c:bV) (i:Nat),i<r->c i≠0->(c i).natAbs<=n->(∀j,j<k->IF=0)->QN (c i%2=1) (IF=0)
  | 0,c,i,a,b,f,hs=>ĸ (Int.natAbs_eq_zero.mp Ă) b
  | n+1,c,i,a,b,f,hs=>by
    by_cases q:∃i,i<r/\c i%2=1
    · exact⟨c,q,hs⟩
    · have d:∀i,i<r->c i=2*(c i/2):=fun i a=>by
        have:¬c i%2=1:=fun z=>q ⟨i,a,z⟩
        omega
      refine odd_of r k A n (fun i=>c i/2) i a ?_ ?_ (gw g)
      · have:=d i a
        intro z;rw[z]at this;exact b Ă
      · have:=d i a
        show(c i/2).natAbs<=n;omega
      · have e:IF=2*sm (fun i=>c i/2*A i j) r:=by
          rw[←qM 2 _];exact ir (Ĵ a (by show c i*A i j=2*_;rw[←pj,←d i a]))
        have:=hs j g;rw[e]at this;show sm _ r=0;omega
def dep_odd(A:iw)(h:k<r):QN (c i%2=1) (IF=0):=by
  obtain⟨c,⟨i,a,b⟩,hs⟩:=dep k r A h;exact odd_of r k A _ c i a b ħ hs
structure Pr(P:Œ Int):Prop where
  zero:P 0
  add:∀{a b},P a->P b->P (a+b)
  mul:∀c {a},P a->P (c*a)
  prime:∀{a b},P (a*b)->P a\/P b
  one:¬P 1
  dep:∀(k r:Nat) (A:iw),k<r->QN (¬P (c i)) (P IF)
def P0(a:Int):Prop:=a=0
def P2(a:Int):Prop:=a%2=0
def pr0:Pr P0 where
  zero:=rfl
  add:=fun h g=>by show _=_;rw[show _=mJ from h,show _=mJ from g];rfl
  mul:=fun c a h=>by show c*a=0;rw[ž (a=0) h,Fg]
  prime:=fun h=>Int.mul_eq_zero.mp h
  one:=by intro h;cases h
  dep:=fun k r A h=>by obtain⟨c,⟨i,b,d⟩,hs⟩:=rk.dep k r A h;exact⟨c,⟨i,b,d⟩,hs⟩
def pr2:Pr P2 where
  zero:=rfl
  add:=fun {a b} h g=>by have d:a%2=0:=h;have g':b%2=0:=g;show(a+b)%2=0;omega
  mul:=fun c {a} h=>by show c*a%2=0;rw[Int.mul_emod,ž (a%2=0) h,Fg];rfl
  prime:=fun {a b} h=>by
    have d:a*b%2=0:=h;rw[Int.mul_emod]at d;rcases QO a with p | p
    · exact ď p
    · rcases QO b with q | q
      · exact ė q
      · rw[p,q]at d;cases d
  one:=by intro h;cases h
  dep:=fun k r A h=>by
    obtain⟨c,⟨i,l,hc⟩,hs⟩:=dep_odd A h;refine⟨c,⟨i,l,mR⟩,gw f⟩
    · have z':c i%2=0:=z
      omega
    · show _%2=0
      rw[hs j f];rfl
section
variable {P:Int->Prop} (R:Pr P)
include R
theorem Pr.sum(h:iu (P (f i))):P (sm f n):=by
  induction n with
  | zero=>exact R.zero
  | succ n a=>exact R.add (a Ml) (h n Ă)
universe E_
def Ind(P:Œ Int)(v:iw)(n m:Nat):Prop:=∀c:bV,(∀j,j<m->P (vp (c i*v i j)))->iu (P (c i))
def InSp(P:Œ Int)(w:iw)(k m:Nat)(x:bV):Prop:=∃(d:Int) (a:bV),¬P d/\∀j,j<m->P (d*x j - xr (a s) (w s j))
section
variable {P:Int->Prop} (R:Pr P)
include R
theorem exch(hv:Ind P v c m)(hw:∀i,i<c->InSp P w k m (v i)):c<=k:=by
  refine Kd (af lt)
  have p:∀i,∃l:Int×bV,i<c->¬P l.1/\∀j,j<m->P (l.1*v i j - xr (l.2 s) (w s j)):=fun i=>by
    by_cases h:i<c
    · obtain⟨d,a,q⟩:=hw i h
      exact⟨(d,a),ş q⟩
    · exact⟨(0,ş 0),fun z=>ĸ z h⟩
  obtain⟨l,n⟩:=Classical.axiomOfChoice p;obtain⟨d,hd⟩:∃d:bV,d=fun i=>(l i).1:=av
  obtain⟨a,y⟩:∃a:iw,a=fun i=>(l i).2:=av
  have o:∀i,i<c->¬P (d i)/\∀j,j<m->P (d i*v i j - VP):=Ĵ g (cw hd y (n i g))
  obtain⟨z,⟨i,g,u⟩,hs⟩:=R.dep k c _ lt;have q:=hv (fun i=>z i*d i) (gw x) i g
  · rcases R.prime q with q | q
    · exact u q
    · exact(o i g).1 q
  · have e:sm (fun i=>z i*d i*v i j) c=sm (fun i=>z i*(d i*v i j - VP)) c+aaV:=by
      have A:aaV=sm (fun i=>z i*VP) c:=by
        rw[ir (fun s _=>(qM (w s j) (fun i=>z i*a i s) c).symm)];rw[ir (Ĵ _ (qM (z i) (fun s=>a i s*w s j) k).symm)];rw[sm_swap _ k c];refine ir fun s _=>ir (eZ _)
        rw[lS _,pj]
      rw[A,←sm_add];refine ir (eZ _)
      rw[Mn,Int.sub_add_cancel,pj]
    show P _;rw[e];exact aaU (Ĵ g (R.mul _ ((o i g).2 j x))) r
theorem ind_cols{v:iw}{b e:À}{n m r k:Nat}(hb:∀t,t<r->b t<n)(hv:Ind P (fun t=>v (b t)) r m)(he:∀j,j<m->aaW):Ind P (fun t s=>tF) r k:=by
  intro z hs t ht;refine hv z (gw hj) t ht;obtain⟨d,a,hd,ha⟩:=he j hj;have q:P (d*IG (v (b t) j)):=by
    have e:d*IG (v (b t) j)=IG (d*v (b t) j - xr (a s) tF)+xr (a s) (IG tF):=by
      have e2:xr (a s) (IG tF)=IG (xr (a s) tF):=by
        rw[ir (g:=fun s=>sm (fun t=>a s*(z t*tF)) r) (fun s _=>(qM (a s) (fun t=>z t*tF) r).symm)];rw[ir (f:=fun t=>z t*xr (a s) tF) (g:=fun t=>xr (z t) (a s*tF)) (fun t _=>(qM (z t) (fun s=>a s*tF) k).symm)];rw[sm_swap (fun t s=>z t*(a s*tF)) k r];refine ir fun s _=>ir (Ĝ t _)
        rw[←pj,lS (a s),pj]
      rw[e2,←sm_add,←qM d (fun t=>z t*v (b t) j)];refine ir (Ĝ t _)
      rw[Mn,Int.sub_add_cancel,←pj,lS d,pj]
    rw[e];exact aaU (fun t ht=>R.mul _ (ha (b t) (hb t ht))) hs'
  rcases R.prime q with q | q
  · exact ĸ q hd
  · exact q
theorem cols{v:iw}{b e:À}{n m r k:Nat}(hb:∀t,t<r->b t<n)(hv:Ind P (fun t=>v (b t)) r m)(he:∀j,j<m->aaW):r<=k:=by
  refine Kd (af lt)
  obtain⟨z,⟨t,ht,hz⟩,hs⟩:=R.dep k r (fun t s=>tF) lt;exact hz (ind_cols R hb hv he z hs t ht)
universe E_
abbrev Rw:=bV
def comb:Ď->Ĳ Rw->Rw
  | a::z,r::rs=>fun c=>a*r c+comb z rs c
  | _,_=>ş 0
section
variable {P:Int->Prop} (R:Pr P)
include R
universe E_
def elim(c:Nat)(x y:Rw):Rw:=fun d=>x c*y d + -(y c)*x d
section
variable {P:Int->Prop} (R:Pr P)
include R
universe E_
def stz(q:Nat×Rw)(x:Rw):Rw:=fun j=>x j*q.2 q.1 - x q.1*q.2 j
def rz(K:Mo)(x:Rw):Rw:=K.foldl (fun x q=>stz q x) x
def rz_cons(q:Nat×Rw)(K:Mo)(x:Rw):rz (q::K) x=rz K (stz q x):=rfl
def rz_app(q:Nat×Rw)(K:Mo)(x:Rw):rz (K++[q]) x=stz q (rz K x):=qI rz En
def stz_lin(q:Nat×Rw)(c:bV)(v:kj)(n:Nat):stz q (fun j=>vp (c i*v i j))=fun j=>vp (c i*stz q (v i) j):=by
  funext j
  show sm _ n*q.2 q.1 - sm _ n*q.2 j=vp (c i*(v i j*q.2 q.1 - v i q.1*q.2 j));rw[lS,←qM _ _,lS _,←qM _ _,←sm_sub];refine ir (eZ _)
  rw[Mn,Int.mul_left_comm,lS (q.2 q.1),Int.mul_left_comm (q.2 j),lS (q.2 j)]
def rz_lin(K:Mo):∀(c:bV) (v:kj) (n:Nat),rz K (fun j=>vp (c i*v i j))=fun j=>vp (c i*rz K (v i) j):=by
  induction K with
  | nil=>intro c v n;rfl
  | cons q K a=>
    intro c v n;rw[rz_cons,stz_lin,a];rfl
def Nil(m:Nat)(x:Rw):Prop:=∀j,j<m->x j=0
def stz_nil(a:q.1<m)(h:lT x):lT (stz q x):=fun j b=>by
  show x j*_ - x q.1*_=0;rw[h j b,h q.1 a,Mp,Mp];rfl
def stz_self:lT (stz q q.2):=fun j _=>by
  show q.2 j*q.2 q.1 - q.2 q.1*q.2 j=0;rw[lS,Int.sub_self]
def ld(m:Nat)(x:Rw):Nat:=((Ū m).find? fun j=>ě (x j≠0)).getD 0
def ld_ok(h:¬lT x):ld m x<m/\x (ld m x)≠0:=by
  cases q:(Ū m).find? fun j=>ě (x j≠0)with
  | none=>
    refine ĸ (gw a) h;have:=List.find?_eq_none.mp q j (o6 a);simpa using this
  | some j=>
    have e:ld m x=j:=qI ld q
    rw[e];refine(au (ź (PN q)));have:=PM q;simpa using this
instance (m:Nat) (x:Rw):Decidable (lT x):=inferInstanceAs (Decidable (∀j,j<m->x j=0))
def kz(v:kj)(m:Nat):Nat->fW Nat (Nat×Rw)
  | 0=>[]
  | n+1=>
    let y:=rz (aD nN) (v n)
    ĩ (lT y) nN (nN++[(n,(ld m y,y))])
def rkz(v:kj)(m n:Nat)(x:Rw):Rw:=rz (aD nN) x
def bz(v:kj)(m n:Nat):Ġ:=uA nN
def kz_succ(v:kj)(m n:Nat):Mq=if lT kr then nN else nN++[(n,(ld m kr,kr))]:=rfl
def bz_succ(v:kj)(m n:Nat):bz v m Ò=if lT kr then bY else bY++[n]:=by
  unfold bz;rw[kz_succ];split
  · rfl
  · rw[Ë];rfl
structure Kz(v:kj)(m n:Nat):Prop where
  ld:∀q∈nN,lU<m/\q.2.2 lU≠0
  all:iu (lT (zT (v i)))
  lt:zS bY
  up:Hl bY
theorem kz_ok(v:kj)(m:Nat):∀n,Kz v m n
  | 0=>⟨fun q h=>nL (aC kz),Ĵ h (nL (vg i)),Ĵ h (nL (by simp[bz,kz])),.nil⟩
  | n+1=>by
    have I:=Mr;by_cases z:lT kr
    · have e:Mq=nN:=ţ kz_succ (ĉ z)
      have d:bz v m Ò=bY:=b_ bz e
      have f:∀x,rkz v m Ò x=zT x:=fun x=>b_ rkz e
      refine⟨Ą e I.ld,eZ c,eZ c,Ą d I.up⟩
      · rw[f]
        by_cases q:i<n
        · exact I.all i q
        · have:i=n:=Ę
          subst this;exact z
      · rw[d]at c;have:=I.lt i c;omega
    · have e:Mq=nN++[(n,(rk.ld m kr,kr))]:=ţ kz_succ (ĝ z)
      have d:bz v m Ò=bY++[n]:=ţ bz_succ (ĝ z)
      have f:∀x,rkz v m Ò x=stz _ _:=fun x=>rB rkz e Ë (rz_app ..)
      refine⟨Ĝ q g,eZ c,eZ c,?_⟩
      · rw[e]at g
        rcases gL g with w | w
        · exact I.ld q w
        · have:=aG w
          subst this;exact ld_ok z
      · rw[f]
        by_cases q:i<n
        · exact stz_nil (ld_ok z).1 (I.all i q)
        · have:i=n:=Ę
          subst this;exact stz_self
      · rw[d]at c
        rcases gL c with w | w
        · have:=I.lt i w;omega
        · have:=aG w;omega
      · rw[d,TC]
        exact⟨I.up,UD ..,fun a k b j=>by
          have:=aG j;subst this;exact I.lt a k⟩
theorem bz_ind(v:kj)(m:Nat):∀n,Ind P0 (fun t=>v (Ř bY t)) fK m
  | 0=>fun c _ i l=>ĸ l (vg i)
  | n+1=>by
    have I:=bz_ind v m n;have K:=Mr;by_cases z:lT kr
    · rw[bz_succ,ĉ z];exact I
    · rw[bz_succ,ĝ z]
      intro c hs;have u:∀t,t<fK->Ř (bY++[n]) t=Ř bY t:=fun t a=>by rw[Ħ,Ħ,uv a]
      have l:Ř (bY++[n]) fK=n:=(nH Ħ (uw ħ) Ms);have f:=fun j d=>by have:=hs j d;rw[Â,oI]at this;have q:Fh (c t) (bY++[n])+c fK*v (Ř (bY++[n]) fK) j=0:=this;rw[l,ir fun t a=>ų (u t a)]at q;exact q
      have b:c fK=0:=by
        have F:lT (zT fun j=>sm (fun t=>c t*QQ j) (fK+1)):=by
          have:lT (fun j=>sm (fun t=>c t*QQ j) (fK+1)):=fun j d=>by show sm _ fK+c fK*v _ j=0;rw[ĝ DP,ir fun t a=>ų (ĉ a)];exact f j d
          have o:∀(K:Mo) (x:Rw),(∀q∈K,q.1<m)->lT x->lT (rz K x):=by
            intro K
            induction K with
            | nil=>intro x _ h;exact h
            | cons q K y=>intro x g h;exact y _ (fun r A=>g r (Ŕ A)) (stz_nil (g q Υ) h)
          exact o _ _ (fun q g=>by
            obtain⟨s,h1,rfl⟩:=Ő g;exact(K.ld s h1).1) this
        have E:=rz_lin (aD nN) c (fun t=>QQ) (fK+1);have C:=fun j d=>by
          have:=F j d;unfold rkz at this;rw[E]at this;have q:sm (fun t=>c t*rz (aD nN) QQ j) fK+c fK*rz (aD nN) (v (if fK<fK then Ř bY fK else n)) j=0:=this;rw[ĝ DP,sm_zero (Ĝ t a),Int.zero_add]at q
          · exact q
          · rw[ĉ a]
            have B:Ř bY t∈bY:=QP a
            have:=K.all _ (K.lt _ B) j d;unfold rkz at this;rw[this,Fg]
        have p:=ld_ok z;rcases Int.mul_eq_zero.mp (C _ p.1)with w | w
        · exact w
        · exact ĸ w p.2
      intro i k;rw[Â,oI]at k;by_cases q:i<fK
      · refine I c (gw d) i q
        have:=f j d;rw[b,Mp,Int.add_zero]at this;exact this
      · have:i=fK:=Ę
        rw[this];exact b
def getD_lo(a:t<Ň):Ř (l++[n]) t=jN t 0:=by
  rw[Ħ,Ħ,uv a]
def getD_hi:Ř (l++[n]) Ň=n:=by
  rw[Ħ,uw ħ,Ms];rfl
def sm_hi(c:bV)(v:kj)(j:Nat):sm (fun t=>c t*v (Ř (l++[n]) t) j) (Ć (l++[n]))=sm (fun t=>c t*v (jN t 0) j) Ň+c Ň*v n j:=by
  rw[Â,oI];show sm _ Ň+c Ň*v _ j=_;rw[getD_hi,ir fun t a=>ų (getD_lo a)]
theorem bz_form(v:kj)(m:Nat):∀(n:Nat) (x:Rw),∃(D:Int) (b:bV),D≠0/\∀j,zT x j=D*x j - Fh (b t) bY
  | 0,x=>⟨1,ş 0,Β,fun j=>p9 (x j=1*x j - 0)⟩
  | n+1,x=>by
    by_cases z:lT kr
    · have e:Mq=nN:=ţ kz_succ (ĉ z)
      obtain⟨D,b,f,h⟩:=QR x;refine⟨D,b,f,af j⟩;unfold rkz bz;rw[e];exact h j
    · have e:Mq=nN++[(n,(rk.ld m kr,kr))]:=ţ kz_succ (ĝ z)
      have i:rkz v m Ò x=stz (rk.ld m kr,kr) (zT x):=rB rkz e Ë (rz_app ..)
      obtain⟨D,b,f,h⟩:=QR x;obtain⟨l,a,u,w⟩:=QR (v n);obtain⟨p,q⟩:∃p,rk.ld m kr=p:=av;have c:=(ld_ok z).2;rw[q]at i c;obtain⟨Y,g⟩:∃Y,kr p=Y:=av;obtain⟨U,r⟩:∃U,zT x p=U:=av;rw[g]at c;refine⟨Y*D,fun t=>aaX,Int.mul_ne_zero c f,af j⟩;rw[i];show zT x j*kr p - zT x p*kr j=_;rw[g,r,h j,w j,bz_succ,ĝ z,sm_hi,ĝ DP];have y:Fh aaX bY=Y*Fh (b t) bY - U*Fh (a t) bY:=by
        rw[←qM Y _,←qM U _,←sm_sub];exact ir fun t o=>by rw[ĉ o,Int.sub_mul,pj,pj]
      rw[y];obtain⟨S,s⟩:∃S,Fh (b t) bY=S:=av;obtain⟨k,d⟩:∃k,Fh (a t) bY=k:=av;rw[s,d,Int.sub_mul,Mn,lS (D*x j),lS S,←pj,←pj U];omega
def bz_sp(v:kj)(m n i:Nat)(c:i<n):InSp P0 (fun s=>v (Ř bY s)) fK m (v i):=by
  obtain⟨D,b,d,h⟩:=QR (v i);exact⟨D,b,d,fun j a=>by rw[←h j];exact(Mr).all i c j a⟩
structure Bas(P:Œ Int)(v:kj)(n m:Nat)(b:Ġ):Prop where
  lt:zS b
  up:b.Pairwise u4
  ind:Ind P (fun t=>v (vq t)) gX m
  sp:iu (InSp P (fun s=>v (vq s)) gX m (v i))
def bas0(v:kj)(n m:Nat):Bas P0 v n m bY:=⟨(Mr).lt,(Mr).up,bz_ind v m n,Ĵ a (bz_sp v m n i a)⟩
section
variable {P:Int->Prop} (R:Pr P)
include R
theorem Bas.at(B:Bas P v n m b):∀t,t<gX->vq t<n:=fun t a=>B.lt _ (by
  rw[Ħ,nv];exact jV a)
theorem Bas.len{v:kj}{n m:Nat}{b e:Ġ}(B:Bas P v n m b)(C:Bas P (fun j i=>v i j) m n e):gX=e.length:=by
  apply Fi
  · exact cols R (v:=v) (b:=fun t=>vq t) (e:=fun s=>e.getD s 0) (B.at R) B.ind fun j hj=>C.sp j hj
  · exact cols R (v:=fun j i=>v i j) (b:=fun t=>e.getD t 0) (e:=fun s=>vq s) (C.at R) C.ind fun j hj=>B.sp j hj
theorem Bas.le{v w:kj}{n m n' m':Nat}{b b':Ġ}(B:Bas P v n m b)(B':Bas P w n' m' b')(f g:À)(hf:∀i,i<n'->f i<n)(hg:∀j,j<m'->g j<m)(h:∀i,i<n'->∀j,j<m'->w i j=v (f i) (g j)):b'.length<=gX:=by
  refine exch R (m:=m') (w:=fun s j=>v (vq s) (g j)) B'.ind (Ĝ t ht)
  have l:=B'.at R t ht;obtain⟨d,a,hd,q⟩:=B.sp (f (b'.getD t 0)) (hf _ l);refine⟨d,a,hd,gw hj⟩;rw[h _ l j hj];exact q (g j) (hg j hj)
universe E_
abbrev N2:=aW
def px(a b:N2):N2:=(a.1 ^^^ b.1,a.2 ^^^ b.2)
def st(p:N2)(q:N2):N2:=ĩ (Cm p q) (px p q) p
def red(K:Ĳ N2)(p:N2):N2:=K.foldl st p
def px_zero(a:N2):px a (0,0)=a:=vi px Fj Fj
def px_comm(a b:N2):px a b=px b a:=vi px (IH a.1) (IH a.2)
def Fk(a b c:N2):px (px a b) c=px a (px b c):=by unfold px;simp only[zU]
def px_self(a:N2):px a a=(0,0):=vi px II II
def st_lin(a b q:N2):st (px a b) q=px (st a q) (st b q):=by
  have t:Cm (px a b) q=_:=Cn ..;unfold st;rw[t];cases Cm a q<;>cases Cm b q
  · rfl
  · exact Fk a b q
  · show px _ q=px (px a q) b
    rw[Fk,px_comm b q,←Fk]
  · show px a b=px (px a q) (px b q)
    rw[Fk,←Fk q b q,px_comm q b,Fk b q q,px_self,px_zero]
def red_lin(K:Ĳ N2):∀a b:N2,red K (px a b)=px (red K a) (red K b):=by
  induction K with
  | nil=>intro a b;rfl
  | cons q K c=>
    intro a b;show red K _=px (red K _) (red K _);rw[st_lin,c]
def st_zero(t:Nat)(q:N2):st (0,t) q=(0,t):=by
  unfold st;rw[ĝ];show ¬_;rw[pp];decide
def red_zero(K:Ĳ N2)(t:Nat):red K (0,t)=(0,t):=by
  induction K with
  | nil=>rfl
  | cons q K a=>show red K _=_;rw[st_zero,a]
def red_app(K:Ĳ N2)(q:N2)(p:N2):red (K++[q]) p=st (red K p) q:=by
  unfold red;rw[En];rfl
def xo(L:À)(m:Nat):À
  | 0=>0
  | n+1=>ĩ (m.testBit n) (Fm m) (e_ m)
theorem xo_zero(L:À):∀n,e_ 0=0
  | 0=>rfl
  | n+1=>by unfold xo;rw[pp,ĝ đ,xo_zero L n]
theorem xo_xor(L:À)(a b:Nat):∀n,e_ (a ^^^ b)=QS
  | 0=>by show 0=0 ^^^ 0;rw[Fj]
  | n+1=>by
    unfold xo;rw[Cn,xo_xor L a b n];cases a.testBit n<;>cases b.testBit n
    · rfl
    · show QS ^^^ L n=e_ a ^^^ (Fm b);rw[zU]
    · show QS ^^^ L n=(Fm a) ^^^ e_ b
      rw[zU,IH (e_ b),←zU]
    · show QS=(Fm a) ^^^ (Fm b)
      rw[zU,IH _ (L n),←zU (L n),II,Mu]
def bit1(i j:Nat):d_ (1<<<i)=ě (i=j):=by
  rw[Nat.one_shiftLeft,VQ]
theorem xo_bit(L:À)(i:Nat):∀n,e_ (1<<<i)=ĩ (i<n) (L i) 0
  | 0=>rfl
  | n+1=>by
    unfold xo;rw[bit1,xo_bit L i n];by_cases h:i=n
    · subst h
      rw[ĉ Ģ,nj,xk,Mu]
    · rw[ĝ (aC h)]
      by_cases q:i<n
      · rw[ĉ q,xk]
      · rw[ĝ q,nj]
def kp(L:À):Nat->fW Nat N2
  | 0=>[]
  | n+1=>
    let p:=red (aD vt) (L n,0)
    ĩ (p.1=0) vt (vt++[QT p])
def rk(L:À)(n:Nat)(p:N2):N2:=red (aD vt) p
def bs(L:À)(n:Nat):Ġ:=uA vt
def kp_succ(L:À)(n:Nat):kp L Ò=mE ((lV n).1=0) vt (vt++[QT (lV n)]):=rfl
def log_bit(h:r≠0):r.testBit r.log2=true:=by
  rw[VR,ak];have h1:=Nat.log2_self_le h;have h2:=Nat.lt_log2_self (n:=r);have:r/2^r.log2=1:=by refine Nat.div_eq_of_lt_le Ă ?_;rw[tG]at h2;omega
  rw[this]
def or_xor(h:a.testBit i=ă):a ^^^ (a ||| 1<<<i)=1<<<i:=by
  apply QU;intro j;rw[Cn,Nat.testBit_or,bit1];by_cases q:i=j
  · subst q;rw[h];simp
  · simp[q]
structure Kp(L:À)(n N:Nat):Prop where
  bs:∀i∈nO,i<n/\lV i=(0,1<<<i)
  all:iu ((lV i).1=0)
  sub:∀i j,i<n->vw (lV i)=true->j<=i/\j∈rk.bs L n
  mak:∀q∈vt,lU=xo L q.2.2 N/\(∀j,vw q.2=true->j<=q.1/\j∈rk.bs L n)/\q.1<n
def red_inv(L:À)(N:Nat):∀(K:Ĳ N2) (p:N2),(∀q∈K,q.1=xo L q.2 N)->QV (red K p)=p.1 ^^^ xo L p.2 N:=by
  intro K
  induction K with
  | nil=>intro p _;rfl
  | cons q K b=>
    intro p h;show QV (red K _)=_;rw[b _ (fw a c)];unfold st;split
    · show(p.1 ^^^ q.1) ^^^ xo L (p.2 ^^^ q.2) N=_
      rw[xo_xor,h q Υ,zU,IH (xo L p.2 N),←zU (xo L q.2 N),II,Mu]
    · rfl
def red_sub(P:Œ Nat):∀(K:Ĳ N2) (p:N2),(∀q∈K,∀j,vw q=true->P j)->(∀j,vw p=true->P j)->∀j,vw (red K p)=true->P j:=by
  intro K
  induction K with
  | nil=>intro p _ h;exact h
  | cons q K f=>
    intro p h c;refine f _ (fw d g) (gw b)
    unfold st at b;split at b
    · have e:vw (px p q)=_:=Cn ..
      rw[e]at b;cases a:vw p with
      | true=>exact c j a
      | ă=>
        rw[a,Bool.false_xor]at b;exact h q Υ j b
    · exact c j b
def bs_mono(L:À)(n j:Nat)(h:j∈nO):j∈bs L Ò:=by
  unfold bs at h ⊢;rw[kp_succ];split
  · exact h
  · rw[Ë];exact fh h
theorem kp_ok(L:À)(N:Nat):∀n,n<=N->Kp L n N
  | 0,_=>⟨Ĵ h (nL (by simp[bs,kp])),Ĵ h (nL (vg i)),fun i j h=>nL (vg i),fun q h=>nL (aC kp)⟩
  | n+1,hN=>by
    have I:=kp_ok L N n Ă;have sub:∀j,vw (lV n)=true->j<n/\j∈nO:=by
      intro j c;refine red_sub (fun j=>j<n/\j∈nO) _ (L n,0) (Ļ q k j c) (gw c) j c
      · obtain⟨o,h1,rfl⟩:=Ő k
        obtain⟨_,h2,y⟩:=I.mak o h1;have:=h2 j c;exact⟨Ę,this.2⟩
      · rw[pp]at c;cases c
    have v:=red_inv L N _ (L n,0) (fun q k=>by
      obtain⟨o,h1,rfl⟩:=Ő k;exact(I.mak o h1).1)
    have m:QV (lV n)=L n:=(by have:QV (lV n)=L n ^^^ xo L 0 N:=v;rw[this,xo_zero,Fj]);by_cases z:(lV n).1=0
    · have e:kp L Ò=vt:=ţ kp_succ (ĉ z)
      have u:∀p,rk L Ò p=rk L n p:=fun p=>b_ rk e
      have s:bs L Ò=nO:=b_ bs e
      refine aaZ
      · rw[s]at f;rw[u];exact⟨fq (I.bs i f).1,(I.bs i f).2⟩
      · rw[u]
        by_cases q:i<n
        · exact I.all i q
        · have:i=n:=Ę
          subst this;exact z
      · rw[u]at c;rw[s]
        by_cases q:i<n
        · exact I.sub i j q c
        · have:i=n:=Ę
          subst this;have:=sub j c;exact⟨Ę,this.2⟩
      · rw[e]at k;rw[s]
        obtain⟨h1,h2,y⟩:=I.mak q k;exact⟨h1,h2,Ę⟩
    · obtain⟨l,g,w⟩:∃l g,lV n=(l,g):=(aQ _)
      rw[w]at z sub m;have e:kp L Ò=vt++[(n,(l,Mv))]:=by rw[kp_succ,w,ĝ z]
      have u:∀p,rk L Ò p=st (rk L n p) (l,Mv):=fun p=>rB rk e Ë (red_app ..)
      have s:bs L Ò=nO++[n]:=Mw bs e Ë
      have new:rk L Ò (L n,0)=(0,1<<<n):=by
        rw[u,w];unfold st;rw[ĉ (log_bit z)];show(l ^^^ l,g ^^^ Mv)=_;rw[II,or_xor];cases q:IJ n with
        | ă=>rfl
        | true=>have:=(sub n q).1;omega
      have r:iu (rk L Ò (L i,0)=lV i):=Ĵ f (by rw[u];have:=I.all i f;obtain⟨a,b,x⟩:∃a b,lV i=(a,b):=(aQ _);rw[x]at this ⊢;have:a=0:=this;subst this;exact st_zero ..)
      refine aaZ
      · rw[s]at f
        rcases gL f with q | q
        · have:=I.bs i q
          rw[r i this.1];exact⟨Ę,this.2⟩
        · have:=aG q
          subst this;exact⟨Ę,new⟩
      · by_cases q:i<n
        · rw[r i q];exact I.all i q
        · have:i=n:=Ę
          subst this;rw[new]
      · by_cases q:i<n
        · rw[r i q]at c
          have:=I.sub i j q c;exact⟨this.1,bs_mono L n j this.2⟩
        · have:i=n:=Ę
          subst this;rw[new]at c;have d:=c;rw[bit1,ak]at d;subst d;exact aaY
      · rw[e]at k
        rcases gL k with o | o
        · obtain⟨h1,h2,y⟩:=I.mak q o
          exact⟨h1,fun j c=>⟨(h2 j c).1,bs_mono L n j (h2 j c).2⟩,Ę⟩
        · have:=aG o
          subst this;refine⟨?_,gw c,Bs n⟩
          · show l=xo L Mv N
            have A:Mv=g ^^^ 1<<<n:=by
              apply QU;intro j;rw[Cn,Nat.testBit_or,bit1];by_cases q:n=j
              · subst q
                cases q:IJ n with
                | ă=>simp
                | true=>have:=(sub n q).1;omega
              · simp[q]
            rw[A,xo_xor,xo_bit,xk,←m,IH l,←zU,II,Mu]
          · have d:=c
            rw[Nat.testBit_or,bit1]at d;by_cases q:n=j
            · subst q;exact aaY
            · rw[ž (ě (n=j)=ă) (dt q),Bool.or_false]at d
              have:=sub j d;exact⟨p9 (j<=n),bs_mono L n j this.2⟩
def xb(f:gZ):gZ
  | 0=>ă
  | n+1=>xb f n ^^ f n
theorem xb_congr:∀{n:Nat},(iu (f i=g i))->xb f n=xb g n
  | 0,_=>rfl
  | n+1,h=>by show QW=(xb g n ^^ g n);rw[xb_congr Ml,h n Ă]
theorem xb_none:∀{n:Nat},(iu (f i=ă))->xb f n=ă
  | 0,_=>rfl
  | n+1,h=>by show QW=ă;rw[xb_none Ml,h n Ă];rfl
theorem xb_one:∀{n:Nat},t<n->f t=true->(iu (i≠t->f i=ă))->xb f n=true
  | 0,h,_,_=>nL (vg t)
  | n+1,h,b,a=>by
    show QW=true;by_cases q:t=n
    · subst q
      rw[xb_none (Ĵ c (a i Ă Ă)),b];rfl
    · rw[xb_one Ă b (fun i c ne=>a i Ă ne),a n Ă Ă];rfl
theorem par(f:bV):∀n,pq (sm f n)=xb (fun i=>pq (f i)) n
  | 0=>rfl
  | n+1=>by
    show pq Ff=(xb _ n ^^ ě _);rw[←par f n];by_cases a:sm f n%2=1<;>by_cases b:f n%2=1
    · rw[þ a,þ b,r_];rfl
    · rw[þ a,dt b,Co];rfl
    · rw[dt a,þ b,Co];rfl
    · rw[dt a,dt b,r_];rfl
def par_mul(a b:Int):pq (a*b)=(pq a&&pq b):=by
  rcases QO a with p | p<;>rcases QO b with q | q<;>rw[(Int.mul_emod a b 2),p,q]<;>rfl
def SS(z:gZ)(b:À):À
  | 0=>0
  | t+1=>ĩ (z t) (IK t) (SS z b t)
theorem ss_bit(z:gZ)(b:À)(i:Nat):∀c,zV (SS z b c)=xb (fun t=>z t&&ě (b t=i)) c
  | 0=>pp i
  | c+1=>by
    show zV QY=(xb _ c ^^ (z c&&ě _));rw[←ss_bit z b i c];cases z c with
    | ă=>show _=(_ ^^ ă);rw[QX];rfl
    | true=>show zV (IK c)=_;rw[Cn,bit1];rfl
theorem xo_ss_bit(L:À)(z:gZ)(b:À)(n j:Nat):∀c,(∀t,t<c->b t<n)->d_ My=xb (fun t=>z t&&d_ (L (b t))) c
  | 0,_=>by show d_ (e_ 0)=ă;rw[xo_zero,pp]
  | c+1,h=>by
    show d_ (e_ QY)=(xb _ c ^^ (z c&&d_ (L (b c))));rw[←xo_ss_bit L z b n j c (fun t ht=>h t Ă)];cases z c with
    | ă=>show _=(_ ^^ ă);rw[QX];rfl
    | true=>
      show d_ (e_ (IK c))=_;rw[xo_xor,xo_bit,ĉ (h c Ă),Cn];rfl
theorem rk_ss(L:À)(n:Nat)(z:gZ)(b:À):∀c,(∀t,t<c->b t∈nO)->rk L n (My,0)=(0,SS z b c)
  | 0,_=>by show rk L n (e_ 0,0)=(0,0);rw[xo_zero];exact red_zero ..
  | c+1,h=>by
    have I:=rk_ss L n z b c (fun t ht=>h t Ă);show rk L n (e_ QY,0)=(0,QY);cases z c with
    | ă=>exact I
    | true=>
      show rk L n (e_ (IK c),0)=(0,IK c);have K:=(kp_ok L n n ħ).bs (b c) (h c Ă);rw[xo_xor,xo_bit,ĉ K.1];have e:=red_lin (aD vt) (My,0) (L (b c),0);have a:px (My,0) (L (b c),0)=(My ^^^ L (b c),0):=b_ px Fj
      rw[a]at e;show red _ _=_;rw[e];show px (rk L n _) (lV (b c))=_;rw[I,K.2];show(0 ^^^ 0,_)=_;rw[Fj]
def bs_lt(L:À)(n:Nat):zS nO:=Ĵ h ((kp_ok L n n ħ).bs i h).1
theorem bs_up(L:À):∀n,Hl nO
  | 0=>.nil
  | n+1=>by
    have I:=bs_up L n;unfold bs at I ⊢;rw[kp_succ];split
    · exact I
    · rw[Ë,TC]
      refine⟨I,UD ..,Ļ a d b c⟩;have:=aG c;subst this;exact bs_lt L b a d
def alone{z:gZ}(l:iu (L i<2^m))(g:∃t,t<xt/\z t=true)(h:∀j,j<m->xb (fun t=>z t&&d_ (L (je t))) xt=ă):cM:=by
  obtain⟨t,a,f⟩:=g;have c:∀t,t<xt->je t∈nO:=fun t a=>QP a
  have k:e_ (SS z (fun t=>je t) xt)=0:=by
    apply QU;intro j;rw[pp,xo_ss_bit L z _ n j _ (fun t a=>bs_lt L n _ (c t a))];by_cases q:j<m
    · exact h j q
    · refine xb_none (Ĝ t a)
      have:d_ (L (je t))=ă:=IL (xu (l _ (bs_lt L n _ (c t a))) Ă);rw[this,Pe]
  have e:=rk_ss L n z _ xt c;rw[k]at e;have p:rk L n (0,0)=(0,0):=red_zero ..;rw[p]at e;have o:SS z (fun t=>je t) xt=0:=(oy Prod.snd e).symm;have d:=ss_bit z (fun t=>je t) (je t) xt;rw[o,pp]at d;rw[xb_one a (by show ņ (z t&&ě (je t=je t));rw[f];simp) (Ğ i b ne)]at d
  · cases d
  · have:je i≠je t:=by
      rw[Ħ,Ħ,Ľ b,nv];show nO[i]≠_[t];have P:=List.pairwise_iff_getElem.mp (bs_up L n);rcases Nat.lt_or_gt_of_ne ne with q | q
      · have:=P i t b a q;omega
      · have:=P t i a b q;omega
    show(z i&&ě (je i=je t))=ă;rw[dt this,Pe]
def odd_dec(a:Int):P2 a↔pq a=ă:=by
  show a%2=0↔_;rw[QZ];omega
theorem xo_bits(L:À)(k j:Nat):∀n,d_ (e_ k)=xb (fun i=>Fn i&&d_ (L i)) n
  | 0=>pp j
  | n+1=>by
    show d_ (ĩ (Fn n) (Fm k) (e_ k))=(xb _ n ^^ (Fn n&&d_ (L n)));rw[←xo_bits L k j n];cases Fn n with
    | ă=>show _=(_ ^^ ă);rw[QX];rfl
    | true=>show d_ (Fm k)=_;rw[Cn];rfl
def xb_base(f:gZ)(n:Nat):∀(b:Ġ),b.Pairwise u4->(zS b)->(iu (f i=true->i∈b))->xb f n=xb (fun t=>f (vq t)) gX:=by
  induction n with
  | zero=>
    intro b _ h _;cases b with
    | nil=>rfl
    | cons x b=>exact ĸ (h x Υ) (vg x)
  | succ n k=>
    intro b d h j;show QW=_;by_cases q:n∈b
    · -- the last one
      obtain⟨c,rfl⟩:∃c,b=c++[n]:=by
        obtain⟨A,C,rfl⟩:=List.append_of_mem q;cases C with
        | nil=>exact(bn A)
        | cons y C=>
          have h2:=(KP (VS.2.1)).1 y Υ;have h3:=h y (lv (Ŕ Υ));omega
      have g:=Ĵ a (VS.2.2 i a n (K2 rfl))
      rw[k c (VS.1) g (fun i a q=>by
        rcases gL (j i Ă q)with w | w
        · exact w
        · have:=aG w;omega)]
      rw[Â,oI];show _=(xb _ ie ^^ f _);rw[getD_hi,xb_congr (f:=fun t=>f (Ř (c++[n]) t)) fun t l=>ų (getD_lo l)]
    · have fn:f n=ă:=by
        cases w:f n with
        | ă=>rfl
        | true=>exact ĸ (j n Ă w) q
      rw[fn,QX];refine k b d (eZ a) (fun i a w=>j i Ă w);have:=h i a;rcases wU i n with w | w
      · exact w
      · have:i=n:=Ę
        subst this;exact ĸ a q
def bas2(E:iu (L i<2^m))(h:iu (∀j,j<m->d_ (L i)=pq (v i j))):Bas P2 v n m nO:=by
  have u:∀t,t<xt->je t<n:=fun t d=>bs_lt L n _ (by
    rw[Ħ,Ľ d];exact jV d)
  refine⟨bs_lt L n,bs_up L n,Ļ c hs i g,eZ g⟩
  · refine Mm (af y)
    refine alone E ⟨i,g,by show ě _=true;rw[ak];exact (by have:¬c i%2=0:=y;omega)⟩ (z:=fun t=>pq (c t)) (gw f)
    have p:=par (fun t=>c t*v (je t) j) xt;rw[(odd_dec _).mp (hs j f)]at p;rw[p];exact xb_congr fun t d=>ţ par_mul (h _ (u t d) j f)
  · have K:=kp_ok L n n ħ
    have l:=red_inv L n _ (L i,0) (fun q B=>by
      obtain⟨x,h1,rfl⟩:=Ő B;exact(K.mak x h1).1)
    have b:(lV i).1 ^^^ e_ (lV i).2=L i ^^^ e_ 0:=l;rw[K.all i g,Mu,xo_zero,Fj]at b;obtain⟨k,r⟩:∃k,(lV i).2=k:=av;rw[r]at b;refine⟨1,fun s=>if Fn (je s)then 1 else 0,pr2.one,gw f⟩;rw[odd_dec,Mz];have F:pq (v i j)=pq (sm (fun s=>(if Fn (je s)then 1 else 0)*v (je s) j) xt):=by
      rw[←h i g j f,←b,xo_bits,par,xb_base _ n nO (bs_up L n) (bs_lt L n) (fun A C w=>by
        rw[Ĉ]at w;exact(K.sub i A g (Ą r w.1)).2)]
      refine xb_congr (Ĝ t d)
      rw[par_mul,h _ (u t d) j f];cases Fn _<;>rfl
    have o:∀a S:Int,(a%2=1↔S%2=1)->pq (a - S)=ă:=(by intro a S q;rw[QZ];omega);exact o _ _ (decide_eq_decide.mp F)
universe rk
namespace k91
open PySem L2
def d_is_int:FD:=qN 3 (.and [.isi Đ [jA],.not (.isi Đ ["bool"]),.chain .LtE .LtE Ń Đ Ĭ])
def d_flipped:FD:=fL (xv [fe (xv [Fo]) (.rng [vx 0]) zW])
def d_cut:FD:=vy 3 3 (.exp (ľ 3 [ŝ,pz])) (.exp (ľ 3 [Ĭ,vx 0])) (pv 5 (ľ 4 [ŝ]) (ľ 4 [Ĭ]))
def d_check_cards:FD:={n:=2,np:=2,body:=[.iff (.not (pv 0 Å (tH (nP Ń)))) [.unk] []]}
def d_cards_in:FD:=fL (xw (.rng [Fq Đ]) (Fp Ń Đ) zW)
def d_crossing:FD:=qN 3 (xv [fe aa0 Ń (lW 2 0)])
def d_row_kinds:FD:=fL (fe (.idx Ń Đ) Đ zW)
def d_column_kinds:FD:=fL (ľ 6 [Ε 1])
def d_trimmed:FD:=fL (pv 5 (Fr 6) (Fr 7))
def d_is_small:FD:={n:=2,np:=1,body:=[Ŏ 1 (Ε 8),.ret (.and [.cmp .LtE (Þ [ŝ]) (.glb MA),.cmp .LtE (vx 1) (.glb MA)])]}
def d_check_small:FD:={n:=1,np:=1,body:=[.iff (.not (Ε 9)) [.unk] []]}
def d_words_in:FD:=vy 3 1 (fF 1 ee) (.fo (.one 2) Đ [.ext 1 Ĭ]) (Cp [ŝ])
def d_bits_paper:FD:=fL (ľ 14 [Ε 15])
def d_ends_paper:FD:=fL (ľ 14 [Ε 16])
def d_paper:FD:=fL (.comp (ģ [π 0,Ã 0 1,ŝ]) Cq (.itm Đ) [none,none])
def Q0:FD:=fL (pv 19 υ (.glb qO))
def d_ends_numbers:FD:=fL (pv 19 Å (.glb Fs))
def Q1:FD:=qN 2 (xx (.bi .max [Đ,ŝ]))
def d_joined_ends:FD:=qN 2 (dZ Đ Ń)
def d_least_numbers:FD:={n:=8,np:=3,body:=[Q2,kt (Ε 8),.sep 4,vz 5 [Å,nP (Þ [ĺ])] [vz 6 [Å,nP (vx 3)] [aa1]],.retd 4]}
def d_splits:FD:=vy 4 2 (Ŏ 2 (fe aa3 (Ε 21) (lW 0 1))) (kt (fe aa2 (ľ 21 [ŝ]) (lW 0 1))) (dZ Ĭ ĺ)
def d_halves:FD:=fL (xw (.rng [Å,Đ]) (.and [br (.bin rX Đ Ń) Đ,.cmp .Lt Đ (yU Ń Đ)]) zW)
def d_least_bits:FD:=fL (.ix (.ix (Ε 12) Cr) tI)
def d_fewest_ends:FD:=fL (.ix (.ix (Ε 13) Cr) tI)
def d_least_plan:FD:=fL (pv 25 (Ε 15) (.glb qO))
def clo:ĕ CloD:=ā ⟨["rows",vb,IM,"joined","rest","own","words","split","no","yes"],2,4,[Ŏ 6 (ľ 11 VU),xy (br (Þ [qP]) Å) (ģ [Ft,π 6]),Ŏ 7 (.mink (gz 20 ŝ) ["way","joined",IM] 1 VT [3,2]),Ŏ 8 (Ã 7 2),Ŏ 9 (Ã 7 3),.ret (ģ [zX,π 7,ľ 27 [Ã 7 1,.dix χ (π 7)],.self 2 4 [π 8,Ã 8 1],.self 2 4 [π 9,Ã 9 1]])]⟩
def d_plan_by:FD:={n:=6,np:=3,clo:=clo,body:=[kt (Ε 8),Ŏ 4 (.dc2 iy lX (ľ 26 [Ε 6]) (ľ 26 [Ε 7])),.dfr 5 [1,2,3,4] [tH (nP (Þ [ĺ])),tH (nP (vx 3))]]}
def Q3:FD:=fL (fe (xz [aa4]) (Cp ff) zW)
def d_widened:FD:=qN 2 (xz [fe (.ix Ń Đ) (Ε 4) (pA 1)])
def d_codes:FD:={n:=5,np:=2,body:=[Ŏ 2 (ľ 6 [gz 30 ŝ]),kt (Cp [Ĭ]),Ŏ 4 (Fq (tH (Þ [ĺ]))),.ret (fe (ľ 31 [.idx Ń Đ,Ĭ]) Ĭ (lW 3 4))]}
def MB:FD:=qN 2 (Þ [.ix (gz 28 ŝ) υ])
def d_lines_of:FD:=qN 2 (.ite (br Ń nQ) Đ (Ε 1))
def d_digits:FD:=qN 2 (fe (Fp Ń Đ) (.rng [tH Ń,Cr,Cr]) zW)
def d_apart:FD:={n:=5,np:=2,body:=[Q2,Ŏ 2 (Fr 7),fF 3 ee,.fo (.one 4) (Fr 6) [Q4 Ĭ (Cs Ń) 0],.ret (gz 33 ĺ)]}
def IN:FD:={n:=6,np:=2,body:=[xy (br Ń ee) ee,Ŏ 2 (π 1),kt (.slf Ń Å),fF 4 aa5,fF 5 (gz 33 ĺ),.ret (.ite (.cmp .GtE (Þ [Í]) (Þ [χ])) Í χ)]}
def d_keep_apart:FD:=vy 4 3 (kt (MC 1 1)) (IO (MC 2 2) ĺ) aa6
def d_widest:FD:=vy 5 2 (fF 2 ee) (vz 3 [Å,nP pz] [Ŏ 4 (pv 36 ĺ ŝ),VV]) Ĭ
def Q5:FD:=aa7 (π 0) Đ Ĭ
def d_rows_with:FD:=aa7 Đ Ĭ Đ
def Q6:FD:={n:=6,np:=2,body:=[Q2,Ŏ 2 (gz 35 ŝ),kt (pv 39 ŝ Ĭ),Ŏ 4 υ,fF 5 VW,.wh VX [.aug 4 Å,fF 5 VW],.ret χ]}
def Q7:FD:=vy 6 3 (fF 3 ee) (MD 4 5 Đ [Q4 (.rng [Þ [χ]]) Ĭ 5]) aa8
def Q8:FD:=qN 2 (xw Đ (gz 41 ŝ) (pA 1))
def d_contains:FD:=qN 2 (br (.bin rX (.bin rX (Fv (π 0) (π 1)) (Fv (Ã 0 1) (Ã 1 1))) Å) Å)
def d_left_bare:FD:=qN 2 (xw Đ (.not (ľ 41 IP)) (pA 1))
def Cu:FD:={n:=5,np:=3,body:=[xy (br Đ ee) ee,xy (br Ĭ υ) (.non),.fo (.one 3) (ľ 40 [ŝ,π 0]) aa9,.ret (.non)]}
def IQ:FD:={n:=1,np:=1,body:=[xy (br (π 0) Ft) Đ,.ret (ģ [zX,.gdx (Ã 0 1),Ã 0 2,ľ 44 [Ã 0 3],ľ 44 [Ã 0 4]])]}
def d_rank:FD:=fL (Þ [Ε 46])
def d_base_lines:FD:={n:=6,np:=1,body:=[fF 1 ee,fF 2 ee,MD 3 4 Đ aba,.ret Ń]}
def d_reduced:FD:=vy 6 2 (fF 2 (IR ff)) (.fo (.one 3) Ń abb) Ĭ
def d_leading_place:FD:=fL (.ix abc υ)
def d_way:FD:={n:=7,np:=3,body:=[fF 3 ee,Ŏ 4 Đ,.wh (br (π 4) zX) abd,.ret (ģ [ĺ,Ã 4 1])]}
def d_reached:FD:=qN 3 (.ix (pv 49 ŝ Ĭ) Å)
def d_settles:FD:={n:=6,np:=2,body:=[MD 2 3 Ń [MD 4 5 ĺ [IO (pv 50 Ĭ Í) χ]],.ret fx]}
def d_rank_in_twos:FD:=fL (Þ [ľ 54 [Ε 53]])
def d_lines_in_twos:FD:=fL (fe (xz [VY]) Đ [none])
def d_base_indexes:FD:=fL (.comp Đ (jP [0,1,2]) (Ε 55) [none,none,none])
def d_kept_lines:FD:=vy 5 1 (fF 1 ee) (MD 2 3 Đ abe) Ń
def VZ:FD:={n:=7,np:=2,body:=[Ŏ 2 Đ,kt υ,.fo (jP [4,5,6]) Ń [abf],.ret (ģ [Ĭ,ĺ])]}
def d__law_int:FD:=fL (.and [.isi Đ [jA],.not (.isi Đ ["bool"])])
def Q9:FD:={n:=2,np:=2,body:=[xy (.cmp .Lt Ń pz) (.ix Đ Ń),.ret υ]}
def d__law_stream:FD:={n:=7,np:=2,body:=[fF 2 ee,kt Đ,vz 4 [ŝ] [.app 2 (gm ĺ (.int zY)),kt (KJ ĺ (.int zY))],xy (.cmp .Gt ĺ υ) Ĭ,Ŏ 5 (dZ (gm Đ (.int MF)) (.int 48271)),vz 4 [ŝ] [Ŏ 5 abi,Ŏ 6 abh,abg],.ret Ĭ]}
def d__law_doubled:FD:=vy 4 2 (Ŏ 0 (IR ff)) (vz 2 [Q_ 4] [abj 8 kt (Ŏ 0) (.int 4) []]) Đ
def d__law_small:FD:={n:=10,np:=2,body:=[abq,abp,Ŏ 4 (xx (gm (π 2) ĺ)),Ŏ 5 (xx (gm (Ã 2 1) ĺ)),abo,abn,vz 7 [V1] [V0],abm,abl,abk]}
def d__law_numbers:FD:=vy 3 2 (Ŏ 2 (.lst [Ε 22,Ε 23,Ε 45,Ε 52])) (Ŏ 2 (dZ Ĭ (.lst [Þ [gz 38 ŝ],Þ [gz 32 ŝ]]))) (dZ Ĭ (.lst [gz 29 nQ,gz 29 z7]))
def d__law_power:FD:=vy 3 1 (Ŏ 1 Å) (vz 2 ff [Ŏ 1 (oY Ń tI)]) Ń
def d_law:FD:={n:=11,np:=1,body:=[Ŏ 1 (ľ 59 [gz 58 tI,.int 5]),Ŏ 2 (gz 61 (.ix (.lst [tI,.int 4,.int 10]) (Q_ 3))),kt (xv [fe (xv ff) Ĭ [none]]),Ŏ 4 abt,Ŏ 5 (ľ 62 [ĺ,Í]),IO (Þ [xw χ (Ε 57) [none]]) (.int 8),Ŏ 6 (ľ 1 [ĺ]),IO (ľ 62 [qP,Í]) (dZ (.slt χ (.int 6)) (.lst [Ã 5 7,Ã 5 6])),IO (ľ 62 [ľ 8 [ĺ],Í]) χ,Ŏ 7 (.lst [xx abr,xx (IS 3 (IT (vx 2)))]),Ŏ 8 (ľ 62 [ľ 2 [ĺ,π 7,Ã 7 1],Í]),xy (.cmp .Gt (Þ [xw (.rng [.int 8]) V2 (lW 8 5)]) υ) AS,Ŏ 9 (ľ 24 [ĺ]),Ŏ 10 (ľ 2 [ĺ,IT (xx (IS 4 (Þ [Ĭ]))),IT (xx (IS 3 (vx 2)))]),.ret (.and [.cmp .Is (ľ 51 [.var 9,ĺ]) fx,.cmp .Is (ľ 51 [.var 9,.var 10]) fx,.cmp .Is (ľ 51 [ľ 44 [.var 9],qP]) fx])]}
def T:Ĳ FD:=[d_is_int,d_flipped,d_cut,d_check_cards,d_cards_in,d_crossing,d_row_kinds,d_column_kinds,d_trimmed,d_is_small,d_check_small,d_words_in,d_bits_paper,d_ends_paper,d_paper,Q0,d_ends_numbers,Q1,d_joined_ends,d_least_numbers,d_splits,d_halves,d_least_bits,d_fewest_ends,d_least_plan,d_plan_by,Q3,d_widened,d_codes,MB,d_lines_of,d_digits,d_apart,IN,d_keep_apart,d_widest,Q5,d_rows_with,Q6,Q7,Q8,d_contains,d_left_bare,Cu,IQ,d_rank,d_base_lines,d_reduced,d_leading_place,d_way,d_reached,d_settles,d_rank_in_twos,d_lines_in_twos,d_base_indexes,d_kept_lines,VZ,d__law_int,Q9,d__law_stream,d__law_doubled,d__law_small,d__law_numbers,d__law_power,d_law]
def fnl:ĥ:="is_int" :: "flipped" :: "cut" :: "check_cards" :: "cards_in" :: "crossing" :: "row_kinds" :: "column_kinds" :: "trimmed" :: "is_small" :: "check_small" :: "words_in" :: "bits_paper" :: "ends_paper" :: "paper" :: "bits_numbers" :: "ends_numbers" :: qO :: Fs :: "least_numbers" :: "splits" :: "halves" :: "least_bits" :: "fewest_ends" :: "least_plan" :: "plan_by" :: "sets_of_kinds" :: "widened" :: "codes" :: "alone_bits" :: "lines_of" :: "digits" :: "apart" :: "most_apart" :: "keep_apart" :: "widest" :: "columns_with" :: "rows_with" :: "fewest_cover" :: "entries_by_choice" :: "blocks_with" :: "contains" :: "left_bare" :: "cover_within" :: "flipped_plan" :: "rank" :: "base_lines" :: "reduced" :: "leading_place" :: "way" :: "reached" :: "settles" :: "rank_in_twos" :: "lines_in_twos" :: "base_indexes" :: "kept_lines" :: "reduced_in_twos" :: "_law_int" :: "_law_cell_at" :: "_law_stream" :: "_law_doubled" :: "_law_small" :: "_law_numbers" :: "_law_power" :: "law" :: []
def bll:ĥ:=Ez :: jA :: "bool" :: ad :: kZ :: "len" :: ni :: eK :: "max" :: "min" :: "sum" :: o8 :: "all" :: "any" :: ý :: "zip" :: []
def cll:ĥ:="TalkError" :: "NoCard" :: "TooGreat" :: []
def G:Gs:={gk:=[(iy,lX),(lX,iy)],con:=[(MA,.int 5),(qO,.fn qO),(Fs,.fn Fs)],clo:=clo,fnl:=fnl,bll:=bll,cll:=cll}
def e_int{fu k:Nat}{x:Int}:Ů 57 [.int x]=ε fx:=by
  rw[Ŧ d__law_int];rfl
def e_cell{fu k:Nat}(ns:Ď)(j:Nat):∃v:Int,Ů 58 [iX,Ζ]=ā (lF v):=by
  rw[Ŧ Q9];unfold Q9;have c:∀F,Ų (.cmp .Lt Ń pz) [ę iX,lY]=ā (fC (ě (É<(eL:Int)))):=fun F=>b_lt ć (rfl:Ų pz [ę iX,lY]=ā (Ψ eL))
  by_cases h:j<eL
  · refine⟨ns[j],Ł (go_ifr (Λ (Ţ (c _) (ų Co))) (gA (dX ć ć ?_)))⟩
    show Tk É ŕ=_;unfold fB;rw[yT j,xk,aE];show(ns[j]?).map ŕ=_;rw[jU];rfl
  · exact⟨0,Ł (dm (Ţ (c _) (ų r_)) (ib rfl))⟩
def rng_n{n:Nat}(h:jT e n cl)(hn:ň n):V3=bt (upTo 0 n):=by
  show ax (mV _ _)=_;rw[nR,thns_ok];have hs:ņ (gh ρ&&ě (ρ<=Fw)):=abu (aJ (ň ρ)) (mI n)
  show ax (oT (KC (gh ρ) (ρ<=Fw) (upTo 0 (n:Int).toNat)) a _ ĵ)=_;rw[ĉ hs,aE];rfl
def Fx(h:vA ŋ):Ż (xv [e]) Κ c.item:=by
  show sG;rw[nR];rfl
def ky(h:vA ŋ):fG (Þ [e]) œ:=by
  show sG;rw[nR];rfl
def ev_lenT(h:vA Κ):fG (Þ [e]) œ:=by
  show sG;rw[nR];rfl
def iD(r:Ď):Ĩ:=r.map ŕ
def rL(rows:Ċ):DV:=.lst (dn xA)
def tT(rows:Ċ):DV:=ģ (dn jf)
def Rect(n m:Nat)(rows:Ċ):Prop:=ő=n/\MG
def col(rows:Ċ)(j:Nat):Ď:=dn (gB j)
def flip(m:Nat)(rows:Ċ):Ċ:=KR m z8
def at_getD{j:Nat}(h:j<Ű):na jf Ζ (Fy j):=by
  have a:É<wS (r.map ŕ):=KI
  unfold iD;simp only[ixD,atD,fB,yT j,ĉ a,qf,aE,ō,jU,gV,Ħ,lZ]
def at_getL{j:Nat}(h:j<Ű):na xA Ζ (Fy j):=by
  have a:É<wS (r.map ŕ):=KI
  unfold iD;simp only[ixD,atD,fB,yT j,ĉ a,qf,aE,ō,jU,gV,Ħ,lZ]
def sub(rows:Ċ)(I J:Ġ):Ċ:=I.map fun i=>J.map fun j=>z9
def at_row{i:Nat}(h:fM):na Õ ĳ (z_ i):=by
  have a:(i:Int)<wS (dn (vn (iD r))):=KI
  simp only[tT,ixD,atD,fB,yT i,ĉ a,qf,aE,ō,jU,gV,Ħ,lZ]
def pB{rows:Ċ}(h:fM):az i∈rows:=by
  rw[Ħ,jU];exact jV h
theorem plains_ints(n:Nat):∀r:Ď,gf n (iD r)=true
  | []=>by unfold iD;simp[gf]
  | a::r=>by have q:=plains_ints n r;unfold iD at q ⊢;rw[Η];unfold gf;rw[q];cases n<;>rfl
def ev_compS(hw:uU=yN cl)(b:qg cl)(hl:œ<=ÿ)
    (h:∀d∈ds,∃a c,KH=eF/\V4 a d):m_ OU (ds.map f) ĵ:=by
  show Ri.thn _ _=_;rw[hw,thni_ok,ĝ (by rintro(z | z);exact b z;omega),compGo_map (Ĝ d hd)]
  · rfl
  · obtain⟨a,c,i,g,e⟩:=h d hd
    rw[i,qf,g];show(Ŭ (stro (f d) c) (Rc.item (f d)))=_;rw[ĉ e]
def rng_i(h:jT e i cl)(a:ň i)(b : -1000<=i):V3=bt (upTo 0 i.toNat):=by
  show ax (mV _ _)=_;rw[nR,thns_ok];have hs:ņ (gh i&&ě (i<=Fw)):=abu a b
  show ax (oT (bU (gh i&&ě _) μ) ds _ ĵ)=_;rw[ĉ hs];rfl
def rowsOf(n m:Nat)(ws:Ď):Ċ:=eS n j Rb
def rect_rows(h:lI=n*m):kC MH:=by
  unfold rowsOf;refine⟨ţ ċ Μ,Ĝ r a⟩;obtain⟨j,b,rfl⟩:=Ő a;rw[mL,J9,h];have:ż*m<=n*m:=V5 m (ź b);rw[Fz,Fd]at this;omega
def ev_sl{F:Ŵ}{δ:Ĕ}{a lo hi:ME}{ds:Ĩ}{c c1 c2:Cl}{l h:Int}(ha:Ż a ŋ c)(hl:jT lo l c1)(hh:jT hi h c2):m_ (.sl a lo hi) (cutD ds (ā l) (ā h)) D':=by
  show bK a _=_;rw[ha,bq];show bK lo _=_;rw[hl,bq];show bK hi _=_;rw[hh];rfl
def cut_row{m:Nat}(h:lI=n*m)(b:j<n):cutD (iD ws) (ā (É*m)) (ā (É*m+m))=iD Rb:=by
  have d:(É*m)=ı (j*m):=by push_cast;rfl
  have c:(É*m+m)=ı (j*m+m):=by push_cast;rfl
  have a:=(by have:ż*m<=n*m:=V5 m b;rw[Fz,Fd]at this;exact this);have len:Ć (iD ws)=n*m:=vi iD ċ h
  unfold cutD slIx;rw[c,d];simp only[len];rw[nj,nj,aE,aE,FA a,FA Ă,Ş (j*m+m - j*m=m)];unfold iD;rw[←List.map_drop,←List.map_take]
def ix_of(h:j<n):fB n É=jF:=by
  unfold fB;rw[yT j,xk,aE]
def ev_min{es:aw}(h:wQ):Ũ (.bi .min es)=minD l:=by
  have e:Ũ (.bi .min es)=mV _ _:=rfl;rw[e,h];rfl
def eg(R:ŧ):Rect m n Î:=by
  unfold flip;refine⟨ţ ċ Μ,Ĝ r a⟩;obtain⟨j,hj,rfl⟩:=Ő a;unfold col;rw[ċ,R.1]
def at_rowL{i:Nat}(h:fM):na (rL rows) ĳ (ß vC):=by
  have a:(i:Int)<wS (dn (vB r)):=KI
  simp only[rL,ixD,atD,fB,yT i,ĉ a,qf,aE,ō,jU,gV,Ħ,lZ]
def ev_lst{es:aw}(h:wQ)(a:Ň<=ÿ)(hs:stros l=true):m_ (.lst es) eM ĵ:=by
  have e:Ũ (.lst es)=mV _ _:=rfl;rw[e,h,thns_ok,ĉ a,hs];rfl
def nD(l:Ġ):Ĩ:=aF nT
theorem find_idx{c:Type}[BEq c][LawfulBEq c]{f:c->DV}(d:∀a b,deq (f a) (f b)=(a==b))(r:c):∀{l:Ĳ c},r∈l->findD (f r) (aF f)=ā (l.idxOf r)
  | a::l,g=>by
    rw[Η];unfold findD;rw[d,MI];cases h:(a==r)with
    | true=>rfl
    | ă=>
      have i:r∈l:=by
        rcases Ŀ g with e | e
        · subst e;simp at h
        · exact e
      rw[find_idx d r i];rfl
theorem deqs_eq:∀a b:Ď,deqs (iD a) (iD b)=(a==b)
  | [],[]=>rfl
  | [],_::_=>rfl
  | _::_,[]=>rfl
  | x::a,y::b=>by have c:=deqs_eq a b;unfold iD at c ⊢;rw[Η,Η];unfold deqs;rw[c];unfold deq;rfl
def deq_l(a b:Ď):deq (ß a) (ß b)=(a==b):=deqs_eq a b
def deq_t(a b:Ď):deq (tJ a) (tJ b)=(a==b):=deqs_eq a b
theorem plains_of:xC Ĩ d (d.plain n=true) (gf n l=true)
  | [],_=>by unfold gf;rfl
  | d::r,h=>Mw gf (h d ũ) (plains_of (fw x a))
def plain_l(n:Nat)(a:Ď):bJ Ò (ß a)=true:=plains_ints n a
def plain_t(n:Nat)(a:Ď):bJ Ò (tJ a)=true:=plains_ints n a
def plain_i(n:Nat)(a:Int):bJ n (.int a)=true:=by cases n<;>(unfold bJ;rfl)
def plains_t(n:Nat)(rows:Ċ):gf Ò (dn jf)=true:=plains_of fun d a=>by
  obtain⟨r,_,rfl⟩:=Ő a;exact plain_t n r
def idx_t{rows:Ċ}(h:r∈rows)(a:ň ő):idxD (ģ (dn jf)) jf=ā (nh (tK r)):=by
  unfold idxD;dsimp;rw[plain_t 59,plains_t 59,þ (Ą ċ (Ç a)),find_idx deq_t r h];rfl
def ev_idx(e:wR x)(hs:seqB x=true)(c:Ż b y cy)(h:idxD x y=ā d):Ť (.idx a b) d:=by
  show dW=_;rw[e,bq,ĉ hs,c,bq,h];rfl
theorem compGo_map2{b:Type}{h f:b->DV}:xC (Ĳ b) a (g (h a)=ā (.item (f a))) (jQ g xD=ā (aF f))
  | [],_=>rfl
  | a::r,q=>by rw[Η,Η];unfold jQ;rw[q a ũ];show Tv _;rw[compGo_map2 fun x c=>q x (Ŕ c)]
def l_{e:Type}{l:Ĳ e}{h f:e->DV}(hw:uU=ā (.ok xD cl))(g:qg cl)(hl:Ň<=ÿ)
    (q:∀a∈l,∃d c,tg.bind (h a) EU=ā d/\V4 d a):m_ OU (aF f) ĵ:=by
  show Ri.thn _ _=_;rw[hw,thni_ok,ĝ (by rintro(z | z);exact g z;rw[ċ]at z;omega),compGo_map2 (Ĝ a i)]
  · rfl
  · obtain⟨d,c,m,k,j⟩:=q a i
    rw[m,qf,k];show(Ŭ (stro (f a) c) (Rc.item (f a)))=_;rw[ĉ j]
def e_colG{j:Nat}(b:ň ő)(w:qF (Ų Ń [vE,dP]) (dU (vD h)))(c:∀r∈rows,na (h r) Ζ (Fy j)):Ų Fo [lY,dP]=V6:=by
  rw[l_ w đ (Ç b) fun r a=>jg [ę (h r),ę _] (dX ć ć (c r a))];unfold iD col;rw[ŗ];rfl
def e_col(rows:Ċ)(m j:Nat)(b:MG)(d:j<m)(c:ň ő):Ų Fo [lY,cG]=V6:=e_colG c rfl fun r a=>MJ (b r a) d
def e_colL(rows:Ċ)(m j:Nat)(hm:MG)(hj:j<m)(a:ň ő):Ų Fo [lY,kG rows]=V6:=e_colG a rfl fun r hr=>at_getL fz
def rng_w{n:Nat}(h:vA (Ō n))(a:ň n):V3=bt (KR n nT):=by
  rw[rng_n h a];unfold L2.upTo
  congr 2
  apply c_;intro j _
  congr 1
  omega
def e_flipped(rows:Ċ)(n m:Nat)(R:ŧ)(g:0<n)(d:ň n)(c:ň m):Ů 1 [Õ]=ε (tT Î):=by
  rw[iz];have e:0<ő:=Ą R.1 g
  have f:=FB Ý IU (abv Đ e);rw[MK (az 0) m (Ab e)]at f;have l:=l_ (tg:=ma) (fr:=pA 0) (rng_w f c) đ (xE c) fun j h=>
    (jg [ę _,ę _] (Fx (e_col rows m j R.2 (ź h) (Ą R.1 d))))
  unfold d_flipped;refine Ł (Aa Ē (Ţ (Fx l) ?_));unfold tT flip;rw[ŗ];rfl
def e_crossing(rows:Ċ)(n m:Nat)(R:ŧ)(I J:Ġ)(o:zS I)(h:IV)(d:ň B5)(b:ň qH):Ů 5 [Õ,cH I,cH J]=ε (tT (FC I J)):=by
  rw[iz];have p:=l_ (F:=Ý) (δ:=Ŗ 3 [Õ,cH I,cH J]) (l:=I) (f:=fun i=>tJ (J.map fun j=>z9)) (elt:=aa0) (tg:=ma) (it:=ŝ) (fr:=lW 2 0) rfl đ (Ç d) fun i g=>by
    refine(jg [aa i,tL J,cG] (Fx (c:=ĵ) ?_));have a:fM:=Ą R.1 (o i g)
    rw[l_ (l:=J) rfl đ (Ç b) fun j e=>jg [vE,cG,aa i] (dX (fN ć ć (at_row a)) ć (MJ (Ab a) (h j e)))];unfold iD;rw[ŗ];rfl
  unfold d_crossing;refine Ł (Aa Ē (Ţ (Fx p) ?_));unfold tT sub;rw[ŗ];rfl
def kI(rows:Ċ):Ď:=dn Cv
def IW(rows:Ċ)(a:ň ő):Ů 6 [Õ]=ā (MM qQ):=by
  rw[iz];unfold d_row_kinds;have e:=FE Ý IU (.idx Ń Đ) Đ zW rfl đ (Ç a) (fun r b=>jg [ę jf,cG] (ev_idx ć rfl ć (idx_t b a)));have c:(dn (ŕ Cv))=iD qQ:=ML iD kI
  rw[c]at e;exact Ł (jh e)
theorem ins_mem:∀{l:Ď},y∈oS l↔y=x\/y∈l
  | []=>aC insI
  | z::l=>by
    unfold insI;split
    · simp
    · rw[i6,ins_mem,i6];constructor<;>(rintro(h | h | h)<;>simp[h])
theorem sort_mem:∀{l:Ď},y∈bT l↔y∈l
  | []=>Iff.rfl
  | z::l=>by unfold bT;rw[ins_mem,sort_mem,i6]
theorem dk_mem{y:Int}:∀{l σ:Ď},y∈l.foldl dk σ↔y∈σ\/y∈l
  | [],σ=>Ģ
  | z::l,σ=>by
    rw[List.foldl_cons,dk_mem,i6];unfold dk;split
    · rename_i h
      constructor
      · rintro(q | q)
        · exact ď q
        · exact uz q
      · rintro(q | q | q)
        · exact ď q
        · rw[q];exact ď h
        · exact ė q
    · rw[Im,xp,or_assoc]
theorem dk_len:∀{l σ:Ď},Ć (l.foldl dk σ)<=Gq+Ň
  | [],σ=>Ģ
  | z::l,σ=>by
    rw[List.foldl_cons,ť];have:=dk_len (l:=l) (σ:=dk σ z);have h2:Ć (dk σ z)<=Gq+1:=by unfold dk;split<;>simp
    omega
theorem ints_iD:∀r:Ď,MN=Ü
  | []=>rfl
  | x::r=>MO MN (ints_iD r)
def ev_sset(h:vA xA)(hl:Ű<=60):Ż (Cp [e]) (ß (bT (r.foldl dk []))) ĵ:=by
  show sG;rw[nR];show(match MN with
    | eF=>bU (bR<4000/\Ć (a.foldl dk [])<64) μ
    | none=>none)=_
  rw[ints_iD];have:=dk_len (l:=r) (σ:=[]);rw[Pb]at this;exact ĉ (o5 Ę)
def and_t(d:wR fx)(c:FG (b::r)=o):FG (a::b::r)=o:=by
  have e:FG (a::b::r)=dW:=rfl;have f:FG (b::r)=KE (b::r):=rfl;rw[e,d,bq,←f,c];rfl
def and_f(c:wR AS):Ż (.and (a::b::r)) AS cx:=by
  have e:FG (a::b::r)=dW:=rfl;rw[e,c,bq];rfl
def and_1(b:Ũ a=o):FG [a]=o:=by
  have e:FG [a]=Ũ a:=rfl;rw[e,b]
def FH(c:oV δ=ā δ1)(b:body δ1=ſ a):wM (d::r) δ=wM r a:=by
  show O1 δ δ1 a r;rw[c];show(Ei δ1 a r)=_;rw[b]
theorem rise_eq:∀{a b:Ď},a.Pairwise u4->b.Pairwise u4->(MQ a b)->a=b
  | [],[],_,_,_=>rfl
  | [],y::b,_,_,h=>ĸ ((h y).mpr ũ) Ģ
  | x::a,[],_,_,h=>ĸ ((h x).mp ũ) Ģ
  | x::a,y::b,d,c,h=>by
    rw[MP]at d c;have e:x=y:=by
      rcases Ŀ ((h x).mp ũ)with z | z
      · exact z
      · rcases Ŀ ((h y).mpr ũ)with w | w
        · exact w.symm
        · have h1:=d.1 y w
          have h2:=c.1 x z;omega
    subst e;rw[rise_eq d.2 c.2 mR];constructor
    · intro q
      rcases Ŀ ((h z).mp (Ŕ q))with w | w
      ·  exact ĸ (d.1 _ q) Ă
      · exact w
    · intro q
      rcases Ŀ ((h z).mpr (Ŕ q))with w | w
      ·  exact ĸ (c.1 _ q) Ă
      · exact w
theorem ins_rise:∀{l:Ď},KO u4->x∉l->Hl (oS l)
  | [],_,_=>aC insI
  | y::l,h,b=>by
    rw[MP]at h;unfold insI;split
    · rename_i q
      rw[MP];refine⟨Ĝ z a,Hk h⟩;rcases Ŀ a with w | w
      · rwa [w]
      · have:=h.1 z w;omega
    · rename_i q
      rw[MP];refine⟨Ĝ z a,ins_rise h.2 fun w=>b (Ŕ w)⟩;rcases ins_mem.mp a with w | w
      · subst w
        have:z≠y:=fun e=>b fz
        omega
      · exact h.1 z w
theorem sort_rise:∀{l:Ď},l.Nodup->Hl (bT l)
  | [],_=>Oj
  | x::l,h=>by
    rw[List.nodup_cons]at h;exact ins_rise (sort_rise h.2) fun z=>h.1 (sort_mem.mp z)
theorem dk_nodup:∀{l c:Ď},c.Nodup->fU (l.foldl dk c)
  | [],_,h=>h
  | x::l,c,h=>by
    rw[List.foldl_cons];refine dk_nodup ?_;unfold dk;split
    · exact h
    · rename_i q
      rw[List.nodup_append];refine⟨h,Ģ,ν a f b d e⟩;rw[xp]at d;subst d e;exact q f
def set_eq{l:Ď}(a:t.Pairwise u4)(h:MQ l t):bT (l.foldl dk [])=t:=
  rise_eq (sort_rise (dk_nodup Iz)) a fun x=>by rw[sort_mem,dk_mem,←h];simp
def nI(l:Ġ):Ď:=i5 Cw É
def iD_nI(l:Ġ):iD (nI l)=nD l:=by unfold iD nI nD;rw[ŗ];rfl
def rise_filter(p:gZ)(n:Nat):Hl (nI (cg n p)):=by
  unfold nI;rw[List.pairwise_map];refine V7 (List.Pairwise.imp ?_ List.pairwise_lt_range);intro a b h;omega
def mem_nI:x∈nI l↔∃j∈l,É=x:=b_ nI Bm
def FI(rows:Ċ):Ġ:=cg ő fun r=>tK (az r)==r
def idx_lt{rows:Ċ}(h:r∈rows):tK r<ő:=MR h
def idx_get{rows:Ċ}(h:r∈rows):az (tK r)=r:=by
  have a:=idx_lt h;rw[Ħ,nv,lZ];exact FJ a
def MT(rows:Ċ):bT (Bx qQ)=nI θ:=by
  refine abw
  rw[mem_nI];unfold kI FI;rw[Bm];constructor
  · rintro⟨r,a,rfl⟩
    refine(f9 (tK r) (gK (idx_lt a) ?_));rw[idx_get a,ķ]
  · rintro⟨j,b,rfl⟩
    obtain⟨d,c⟩:=bN b;exact⟨az j,pB (ź d),ų (cu c)⟩
def ji(h:i∈θ):fM:=ź (bN h).1
def FI_len(rows:Ċ):ö<=ő:=by
  unfold FI;have:=Ac (fun r=>tK (az r)==r) (Ū ő)
  rwa [Μ]at this
def FI_pos(h:0<ő):0<ö:=by
  refine IX (gK h ?_);cases rows with
  | nil=>cases h
  | cons r rs=>simp
def kI_len(rows:Ċ):Ć qQ=ő:=b_ kI ċ
def Rf(rows:Ċ)(n m:Nat)(R:ŧ)(c:0<n)(b:ň n)(a:ň m):qR 2 7=ā (MM (kI Î)):=by
  rw[iz];unfold d_column_kinds;exact Ł (gA (tM (vF rfl (e_flipped rows n m R c b a)) (IW _ (Ą (eg R).1 a))))
def e_trimmed(rows:Ċ)(n m:Nat)(R:ŧ)(g:0<n)(a:n<=60)(b:m<=60):qR 3 8=ε (tT (FC θ nU)):=by
  rw[iz];unfold d_trimmed;have c:=eg R;have f:=abx 6 (IW rows (Ź R.1)) R a;have d:=abx 7 (Rf rows n m R g Ă Ă) c b;rw[MT,iD_nI]at f d;have p:=e_crossing (fu:=fu) (k:=k+1) rows n m R θ nU (Ĵ o (kh (ji o) R.1)) (fun j h=>kh (ji h) c.1) (Oa (FI_len rows) R.1) (Oa (FI_len Î) c.1);exact Ł (gA (me l [tN,(cH θ,ĵ),(cH nU,ĵ)] (qU ć f d) p))
def b_le(d:oX)(c:oW):O3 .LtE (i<=j):=KK
def sm(a b:Nat):Bool:=ě (a<6)&&ě (b<6)
def sub_row(h:0<B5):∃r a,FC I J=r::a/\Ű=qH:=by
  cases I with
  | nil=>cases h
  | cons i I=>exact⟨_,_,rfl,Ģ⟩
def e_is_small(rows:Ċ)(n m:Nat)(R:ŧ)(o:0<n)(f:n<=60)(g:m<=60):qR 4 9=ε (.bl (sm ö iA)):=by
  rw[iz];unfold d_is_small;have v:=e_trimmed (fu:=fu) (k:=k) rows n m R o f g;obtain⟨r,a,y,z⟩:=sub_row (nX R.1 o);have p:Ć (FC θ nU)=ö:=b_ sub ċ
  rw[y]at v p;have x:qV (k+3) (Þ [ŝ]) Rh ö:=by have t:=FB nW Rh (e:=ŝ) (ds:=ļ (r::a) r jf) (c:=Ē) rfl;rw[ċ,p]at t;exact t
  have w:qV (k+3) (vx 1) Rh iA:=(GX t (FB nW Rh (dX (dr 1 (tT (r::a))) (Ν 0) (at_row (rows:=r::a) (i:=0) Ģ))) (MK ((r::a).getD 0 []) iA z) t);have u:∀h:Ĕ,qV (k+3) (.glb MA) h 5:=fun h=>rfl
  refine Ł (Ê (I_ (tT (r::a)) Ē (me l [tN] rfl v) rfl) (IZ ?_));have b:=b_le x (u _);have j:=b_le w (u _);have B:ě ((ö:Int)<=5)=ě (ö<6):=Ź Rg
  have A:ě ((iA:Int)<=5)=ě (iA<6):=Ź Rg
  rw[B]at b;rw[A]at j;unfold sm;cases q:ě (ö<6)with
  | true=>rw[q]at b;exact IY b j
  | ă=>rw[q]at b;exact and_f b
theorem compGo_fm{i:Type}{h f:i->DV}{p:ń i}:xC (Ĳ i) a (g (h a)=ā (if p a then .item (f a)else .skip)) (jQ g xD=ā ((vG p).map f))
  | [],_=>rfl
  | a::l,q=>by
    have d:=q a ũ;have j:=compGo_fm (g:=g) (h:=h) (f:=f) (p:=p) (l:=l) fun b k=>q b (Ŕ k)
    cases e:p a with
    | true=>
      rw[e]at d;show(aby _)=_;rw[d,Ej e,Η];show(match jQ g xD with | none=>none | Ś=>ā (f a::c))=_;rw[j]
    | ă=>
      rw[e]at d;show(aby xD)=_;rw[d,Tw (p6 e)];exact j
def xF{d:Type}{l:Ĳ d}{h f:d->DV}{p:ń d}(e:uU=ā (.ok xD cl))(hc:qg cl)(hl:Ň<=ÿ)
    (q:Tx a l b (tg.bind (h a) EU) lD (∃c,V4 b a)):Ż OT (g_ (vG p) f) ĵ:=by
  show Ri.thn _ _=_;rw[e,thni_ok,ĝ fz,compGo_fm (Ĝ a g)]
  · rfl
  · obtain⟨b,m,k,c,j,i⟩:=q a g
    rw[m,qf,k,j];cases p a with
    | ă=>rfl
    | true=>
      show(bU (stro (f a) c) μ)=_;rw[ĉ i];rfl
def WI(rows:Ċ):Ġ:=Cy (rows.any fun r=>r.any fun x=>x==(w:Int))
def sset_words(rows:Ċ)(e:FK):bT MU=nI (WI rows):=by
  refine abw
  rw[mem_nI,List.mem_flatten];unfold WI;constructor
  · rintro⟨r,b,a⟩
    have:=e r b x a;refine⟨x.toNat,gK Ă (Rk ⟨r,b,Rk (bx x a)⟩),Ę⟩;rw[ķ];omega
  · rintro⟨j,d,rfl⟩
    obtain⟨_,g⟩:=bN d;obtain⟨r,b,f⟩:=Rj g;obtain⟨x,a,c⟩:=Rj f;rw[ķ]at c;exact⟨r,b,ŏ c a⟩
def ev_ext(c:dY sC)(h:Ť e (ģ a))(b:œ+bR<=ÿ):ic (.ext i e)=ā (wO (ds++a)):=by
  show(sA ω sC uX _ none)=_;rw[c];show uX=_;rw[h];show(abz Ad)=_;rw[ĉ Ð,ĉ b]
theorem words_go(t:Sv)(j:m<=8):∀(rows:Ċ) (a:Ď) (c:Sv),MG->ň (bR+ő*m)->∃e,u0 2 (fun b=>lH [.ext 1 Ĭ] b) (dn jf) [t,qW a,c]=ſ [t,qW (a++Ja),e]
  | [],a,c,_,_=>⟨c,fA List.flatten_nil fv⟩
  | r::rows,a,c,h,k=>by
    have i:=h r ũ;rw[ť,Fz,Fd]at k;obtain⟨e,g⟩:=words_go t j rows (a++r) _ (fw f d) (mQ Â i);refine(au e);rw[List.flatten_cons,←wA,←g];refine FH rfl (Ê (ev_ext rfl ć ?_) ?_)
    · unfold iD;rw[ċ,ċ];exact Ç (Ş (ň (bR+Ű)))
    · unfold iD;rw[Ë];rfl
theorem sum_rep(m:Nat):∀n,(J5 n m).sum=n*m
  | 0=>Ģ
  | n+1=>by rw[List.replicate_succ,Jb,sum_rep m n,Fz,Fd,Nat.add_comm]
theorem ins_len:∀{l:Ď},Ć (oS l)=Ň+1
  | []=>rfl
  | z::l=>by unfold insI;split<;>simp[ins_len]
theorem sort_len:∀{l:Ď},Ć (bT l)=Ň
  | []=>rfl
  | z::l=>by unfold bT;rw[ins_len,sort_len,ť]
def e_words_in(rows:Ċ)(n m:Nat)(R:ŧ)(i:n<=8)(c:m<=8)(j:FK):fO (Ů 11 [Õ]) (nD (WI rows)):=by
  rw[Ŧ d_words_in];unfold d_words_in;have nm:n*m<=8*8:=Cz i c;obtain⟨p,e⟩:=words_go (fu:=fu) cG c rows [] .no R.2 (by rw[R.1];simp;omega);rw[Oy]at e;have o:∀x∈Ja,Ae x:=fun x g=>by obtain⟨r,h,g⟩:=List.mem_flatten.mp g;exact j r h x g
  have a:Ć MU<64/\V8<4000:=by
    have u:=sset_words rows j;have q:=sort_len (l:=MU);rw[u]at q;have l2:Ć (nI (WI rows))<=10:=(by unfold nI WI;rw[ċ];exact š (Ac _ _) Ģ);have l3:V8=n*m:=by
      rw[List.length_flatten];have:vD List.length=J5 n m:=by rw[List.eq_replicate_iff];refine⟨Ą ċ R.1,cQ o⟩;obtain⟨r,h,rfl⟩:=Ő o;exact R.2 r h
      rw[this,sum_rep]
    omega
  have s1:fE (Cp [ŝ]) [cG,qW Ja,p]=bt (cH (WI rows)):=by
    show mV (evEs G Ý [ŝ] [cG,qW Ja,p]) (fun l=>ssetD l)=_;rw[xG (ev_vown (d:=ß Ja) rfl)];show(match ints? (iD Ja)with
      | ā f=>Ŭ (f.length<4000/\Ć (f.foldl dk [])<64) (jS (g_ (bT (f.foldl dk [])) ŕ) ĵ)
      | none=>none)=_
    rw[ints_iD];show(Ŭ (V8<4000/\Ć MU<64) (jS (ß (bT MU)) ĵ))=_;rw[ĉ ⟨a.2,a.1⟩,sset_words rows j,iD_nI]
  exact Ł (Ê (sF rfl) (Rl (dn jf) rfl (jh s1)))
def e_is_int:Ů 0 [.int x,.int a,.int b]=ε (.bl (ě (a<=x)&&ě (x<=b))):=by
  rw[iz];have e:iB k (.chain .LtE .LtE Ń Đ Ĭ) [ī x,ī a,ī b] (fC (ě (a<=x)&&ě (x<=b))):=by show(match ā (ě (a<=x))with | none=>none | oR=>ā (ke _) | cV=>oT μ k _ Ē)=_;cases ě (a<=x)<;>rfl
  exact Ł (gA (and_t rfl (IY rfl e)))
def band_nat(r o:Nat):rW r o=ı (r &&& o):=by
  unfold rW;rw[þ (mI r),þ (mI o)];rfl
def bit_of(o i:Nat):rW ((o:Int)/pC i) 1=ĩ (o.testBit i) 1 0:=by
  have e:(o:Int)/pC i=ı (o/2^i):=(by rfl);rw[e,show AZ=ı 1 from rfl,band_nat,Nat.and_one_is_mod,VR];have:o/2^i%2=0\/o/2^i%2=1:=Ę
  rcases this with h | h<;>rw[h]<;>rfl
def cs(c:Nat):Ġ:=cg (c.log2+1) kH
def e_cards_in(c:Nat)(h0:0<c)(h:c<2^64):fO (Ů 4 [.int c]) (nD (cs c)):=by
  rw[Ŧ d_cards_in];have f:uO (c:Int)=ı (c.log2+1):=by unfold uO;rw[nj,Int.natAbs_natCast];push_cast;rfl
  have hl:c.log2<64:=Pw h;have a:=ev_compi (G:=G) (F:=Ý) (δ:=Ŗ 1 [.int c]) (elt:=Đ) (tg:=ma) (it:=.rng [Fq Đ]) (fr:=pA 0) (p:=fun d=>V9 ĳ) (cl:=ĵ)
    (rng_n ((BW f)) Ă) đ (rB L2.upTo ċ Μ (Ç (Ş (c.log2+1<=64)))) (fun d hd=>by
      obtain⟨j,hj,rfl⟩:=upTo_mem hd;rw[aJ (mJ+É=j)];refine⟨[lY,ī c],rfl,?_,rfl⟩;have l:qV k (Fv Ń Đ) [lY,ī c] ((c:Int)/pC j):=abA ć É (c:Int) j j;have g:qV k (Fp Ń Đ) [lY,ī c] (ĩ (kH j) 1 0):=cA l Ž (BW bit_of);have b:∀t:Bool,tstD (ā (jS (ŕ (ĩ (t=true) 1 0)) Ad))=ā (Rt.ok t):=fun t=>BQ t
      rw[g];refine Ţ (b _) ?_;show _=ā (Rt.ok (kH (j:Int).toNat));rw[aE])
  have e:(upTo 0 (c.log2+1)).filter (fun d=>V9 ĳ)=nD (cs c):=by
    unfold L2.upTo nD cs;rw[List.filter_map];have:((fun d=>V9 (ŕ i)) ∘ fun cT=>ŕ (0+(i:Int)))=kH:=by
      funext j
      show kH (mJ+É).toNat=_;rw[aJ ((mJ+É).toNat=j)]
    rw[this];apply c_;intro j _;show ŕ _=ŕ _
    congr 1
    omega
  rw[e]at a;unfold d_cards_in;exact Ł (jh a)
def e_shift{n:Nat}(hn:ň n)(h:jT e n cl):fG (tH (nP e)) (vH n - 1):=by
  refine i_sub (cx:=Ē) (cA Ž h ?_) Ž;show(Ŭ V' (jS _ Ad))=_;rw[ĉ ⟨mI n,Ę,Β⟩,aE,Mz]
  push_cast
  rfl
def e_check{n:Nat}(a:ň n)(h:Ů 0 [d,Å,.int (vH n - 1)]=ε (.bl t)):cI 3 [d,.int n]=Ŭ t (Hh .non):=by
  rw[iz];unfold d_check_cards;have q:=ev_not (ev_call (δ:=Ŗ 2 [d,.int n]) (es:=[Đ,Å,yU (nP Ń) _]) (qU ć Ž (e_shift a ć)) rfl h);cases t with
  | true=>exact of_nx (dm q rfl)
  | ă=>
    show Ou.of _=_;unfold evSs;rw[(ev_if (Λ q))];rfl
def cs_lt(h:c<2^n)(a:nY c):j<n:=by
  unfold cs at a;rw[List.mem_filter]at a;by_cases q:j<n
  · exact q
  · have z:=IL (xu h (Ş (n<=j)))
    rw[z]at a;cases a.2
def cs_len(h0:0<c)(h:c<2^64):ň (aK c):=by
  have hl:=Pw h;unfold cs;exact š (Ac _ _) (Ź Μ)
def e_cut(rows:Ċ)(n m a b:Nat)(R:ŧ)(hn:0<n)(f:n<=64)(h:m<=64)(v:0<a)(u:a<2^n)(p:0<b)(o:b<2^m):nW 2 [Õ,.int a,.int b]=ε (tT (tO rows a b)):=by
  rw[iz];obtain⟨c,rest,rfl⟩:∃c rest,rows=c::rest:=by
    cases rows with
    | nil=>have:=R.1;simp at this;omega
    | cons a b=>exact(f9 a b)
  have r:a<2^64:=xu u f;have l:b<2^64:=xu o h;have z:=(by have q:=FB cI abC (e:=Đ) rfl;rw[ċ,R.1]at q;exact q);have w:=(by have e:iB (k+2) (π 0) abC (dU (tJ c)):=dX (x:=tT (c::rest)) (y:=υ) ć Ž (at_row (rows:=c::rest) (i:=0) Ģ);have q:=ev_lenT e;rw[show Ć (iD c)=m by unfold iD;rw[ċ,(R.2 c ũ)]]at q;exact q);have E:=abB a n;have C:=abB b m;have g:=e_crossing (fu:=fu) (k:=k+1) (c::rest) n m R (cs a) (cs b) (Ĵ B (cs_lt u B)) (fun j A=>cs_lt o A) (cs_len v r) (cs_len p l);unfold d_cut;exact Ł (Ê (ev_exp (MV z E)) (Ê (ev_exp (MV w C)) (gA (vF (qU ć (tM ć (e_cards_in a v r)) (tM ć (e_cards_in b p l))) g))))
def cd(n:Nat):Nat->Ď
  | 0=>[]
  | l+1=>ı (n/2^l%2)::cd n l
def ev_neg(h:jT e i cl):fG (.neg e) (-i):=by
  show dW=_;rw[h];rfl
def sd(s:Bool):DV:=ĩ s nQ z7
def hd(l:Ġ):DV:=match l with | []=>.non | c::_=>.int c
theorem flt_le{c:Type}{p q:ń c}:xC (Ĳ c) x (p x=true->q x=true) (xH p<=xH q)
  | [],_=>ħ
  | a::l,h=>by
    have e:=flt_le (fw x f)
    cases b:p a with
    | ă=>
      rw[MW b];cases d:q a with
      | ă=>rw[MW d];exact e
      | true=>rw[Ej d,ť];omega
    | true=>
      rw[Ej b,Ej (h a ũ b),ť,ť];omega
theorem flt_or{b:Type}{p q r:ń b}:xC (Ĳ b) x (p x=true->q x=true\/r x=true) (xH p<=xH q+xH r)
  | [],_=>ħ
  | a::l,h=>by
    have ih:=flt_or (fw x c)
    rw[Jc,Jc,Jc];cases f:p a<;>cases e:q a<;>cases d:r a<;>simp only[f8,si,ť,y9]<;>first | omega | exact ĸ ((h a ũ) f) (by rw[e,d];simp)
theorem flt_sum{b:Type}{p q:ń b}:∀{l:Ĳ b},xH p=xH (fun x=>p x&&q x)+xH (fun x=>p x && !q x)
  | []=>rfl
  | a::l=>by have ih:=flt_sum (p:=p) (q:=q) (l:=l);rw[Jc,Jc,Jc];cases ep:p a<;>cases eq:q a<;>simp<;>omega
theorem step_at{g:À}(c:g 0=0)(a:∀t,t<10->g (t+1)<=g t+1):∀N n,N<=10->n<=g N->∃t,t<=N/\g t=n
  | 0,n,_,h=>⟨0,ħ,Ę⟩
  | N+1,n,hN,h=>by
    by_cases q:n<=g N
    · obtain⟨t,h1,b⟩:=step_at c a N n Ă q
      exact⟨t,Ę,b⟩
    · have:=a N Ă
      exact⟨N+1,ħ,Ę⟩
def one_at:∀t,t<10->Ć (Cy (w==t))<=1:=Β
def cJ(h:nY c):kH j=true:=(bN h).2
def kJ(h:kH j=true):nY c:=by
  refine gK ?_ h;have a:c≠0:=by intro z;rw[z,pp]at h;cases h
  have:=(Nat.le_log2 a).mpr (V_ h);omega
def tb5(hc:c<32)(h:kH j=true):j<5:=by
  have h1:=V_ h;rcases wU j 5 with z | z
  · exact z
  · have:2^5<=2^j:=tP z
    omega
def Sb(h C:Nat):Prop:=0<h/\h<C/\h &&& C=h
def sb_bits:∀C,C<32->∀h,h<32->h &&& C=h->∀j,j<5->d_ (C - h)=(C.testBit j && !nZ j)/\(nZ j=true->C.testBit j=true):=ŵ
def Sb.lt(s:Sb h C)(a:C<32):h<32:=KL jk a
def kO(s:Sb h C)(b:C<32)(c:nY (C - h)):nY C/\j∉cs h:=by
  have a:=cJ c;have d:=tb5 Ă a;rw[(MX C b h j d).1,Ĉ]at a;refine⟨kJ a.1,mR⟩;rw[cJ z]at a;exact ĸ a.2 đ
def sb_half:∀R,R<32->2<=aK R->∃h∈Ū 32,(0<h/\h<R/\h &&& R=h)/\2*aK h<=aK R+1/\2*aK (R - h)<=aK R+1:=ŵ
def sb_pred0:∀e d c b a:Bool,∃h∈Ū 32,nZ 0=e/\nZ 1=d/\nZ 2=c/\nZ 3=b/\nZ 4=a:=ŵ
def sb_pred(q:gZ):∃h,h<32/\∀j,j<5->nZ j=q j:=by
  obtain⟨h,b,g,f,e,d,c⟩:=sb_pred0 (q 0) (q 1) (q 2) (q 3) (q 4);refine⟨h,ź b,gw a⟩
  match j,a with
  | 0,_=>exact g
  | 1,_=>exact f
  | 2,_=>exact e
  | 3,_=>exact d
  | 4,_=>exact c
def sb_of0:∀C,C<32->∀h,h<32->(∀j,j<5->nZ j=true->C.testBit j=true)->h &&& C=h/\h<=C:=ŵ
def tb0(e:nZ j=true):0<h:=by
  rcases O4 h with z | z
  · rw[z,pp]at e;cases e
  · exact z
def cs_pos:∀c,c<32->0<c->0<aK c:=ŵ
abbrev Mx:=iw
def wp(f:Mx)(R C:Nat)(w:Nat):Bool:=(cs R).any fun i=>(cs C).any fun j=>lr==(w:Int)
def wn(f:Mx)(R C:Nat):Nat:=Ć (CA f)
def wp_iff:FL=true↔∃i j,jm R/\nY C/\lr=(w:Int):=by
  unfold wp;rw[K_];constructor
  · rintro⟨i,b,h⟩
    obtain⟨j,a,h⟩:=Rj h;exact⟨i,j,b,a,cu h⟩
  · rintro⟨i,j,b,a,h⟩
    exact⟨i,b,Rk ⟨j,a,beq_iff_eq.mpr h⟩⟩
def word_half(x:C<32)(K:aK R=1)(h2:2<=ej):∃h,Sb h C/\2*wn f R h<=ej+1/\2*wn f R (C - h)<=ej+1:=by
  obtain⟨i,hi⟩:∃i,cs R=[i]:=by
    match e:cs R,K with
    | [i],_=>exact(bn i)
  let g:À:=fun t=>Ć (Cy (FL&&ě (w<t)))
  have M:g 0=0:=(by show Ć (Cy (FL&&ě (w<0)))=0;rw[show(fun w=>FL&&ě (w<0))=ş ă from funext fun w=>Ģ];simp);have L:∀t,t<10->g (t+1)<=g t+1:=fun t E=>by
    refine š (flt_or (Ğ w _ h)) (Nat.add_le_add_left (one_at t E) _);rw[Ĉ,ak]at h;by_cases z:w=t
    · exact ė (beq_iff_eq.mpr z)
    · exact ď (by rw[Ĉ,ak];exact o5 h.1)
  have gN:ej<=g 10:=flt_le fun w k h=>by rw[Ĉ,ak];exact⟨h,ź k⟩
  obtain⟨t,_,E⟩:=step_at M L 10 ((ej+1)/2) ħ Ă;have sm:ej=g t+Ć (Cy (FL && !ě (w<t))):=flt_sum;obtain⟨h,F,v⟩:=sb_pred fun j=>C.testBit j&&ě (lr<(t:Int))
  obtain⟨s1,H⟩:=sb_of0 C x h F fun j J e=>by rw[v j J,Ĉ]at e;exact e.1
  have d:∀j,nY h↔nY C/\lr<(t:Int):=fun j=>by
    constructor
    · intro e
      have l:=cJ e;rw[v j (tb5 F l),Ĉ,ak]at l;exact⟨kJ l.1,l.2⟩
    · rintro⟨n,m⟩
      have l:=cJ n;exact kJ (by rw[v j (tb5 x l),l,qz,ak];exact m)
  have ex:∀{p:gZ},0<Ć (Cy (FL&&p w))->∃w j,p w=true/\nY C/\lr=(w:Int):=fun {p} I=>by obtain⟨w,k⟩:=Wa I;have k:=(bN k).2;rw[Ĉ]at k;obtain⟨B,j,a,b,c⟩:=wp_iff.mp k.1;rw[hi,xp]at a;subst a;exact⟨w,j,k.2,b,c⟩
  have u:h<C:=by
    rcases wU h C with z | z
    · exact z
    · exfalso
      have e:h=C:=Fi H z;obtain⟨w,j,n,m,y⟩:=ex (p:=fun w=>!ě (w<t)) Ă;have:=((d j).mp (Ą e m)).2;rw[y]at this;rw[ο,QZ]at n;omega
  have s:Sb h C:=⟨((by obtain⟨w,j,n,m,y⟩:=ex (p9 (0<g t));have:nY h:=(d j).mpr ⟨m,zK y (Pl n)⟩;exact tb0 (cJ this))),u,s1⟩;refine⟨h,s,?_,?_⟩
  · have:wn f R h<=g t:=flt_le fun w _ q=>by
      obtain⟨B,j,a,b,c⟩:=wp_iff.mp q;have o:=a;rw[hi,xp]at o;subst o;obtain⟨r,A⟩:=(d j).mp b;rw[Ĉ,ak];exact⟨MY _ a r c,Ia c A⟩
    omega
  · have:wn f R (C - h)<=Ć (Cy (FL && !ě (w<t))):=flt_le fun w _ q=>by
      obtain⟨B,j,a,b,c⟩:=wp_iff.mp q;have o:=a;rw[hi,xp]at o;subst o;obtain⟨r,A⟩:=kO s x b;rw[Ĉ,ο,QZ];refine⟨MY _ a r c,fun z=>A ((d j).mpr (au r))⟩;rw[c];omega
    omega
def hv(R:Nat):Ġ:=(CB (R - 1)).filter fun h=>h &&& R==h&&ě (h<R - h)
def hv_all0:∀R,R<32->∀h,h<32->0<h->h<R->h &&& R=h->ņ ((hv R).contains h||((hv R).contains (R - h)&&ě (R - (R - h)=h))):=ŵ
def hv_all(R:Nat)(b:R<32)(h:Nat)(a:h<32)(s:Sb h R):h∈hv R\/(R - h∈hv R/\R - (R - h)=h):=by
  have:=hv_all0 R b h a s.1 jk s.2.2;rw[gc,Ĉ,ak]at this;rcases this with z | z
  · exact ď (Qx z)
  · exact oH (Qx z.1) z.2
def hv_sb(q:h∈hv R):Sb h R/\h<R - h:=by
  obtain⟨c,a⟩:=bN q;obtain⟨i,b,rfl⟩:=Ő c;rw[Ĉ,ķ,ak]at a;have:=ź b;exact⟨⟨Ę,Ę,a.1⟩,a.2⟩
def hv_ne(a:R<32)(c:C<32)(i:0<R)(C0:0<C)(g:2<=ej):hv R≠[]\/hv C≠[]:=by
  have b:∀R,R<32->(∃h,Sb h R)->hv R≠[]:=fun R a ⟨h,s⟩ e=>by
    rcases hv_all R a h (s.lt a) s with z | z
    · rw[e]at z;cases z
    · rw[e]at z;cases z.1
  have rp:=cs_pos R a i;by_cases d:2<=aK R
  · obtain⟨h,_,s,_⟩:=sb_half R a d
    exact ď (b R a ⟨h,s⟩)
  · obtain⟨h,s,_⟩:=word_half c Ă g
    exact ė (b C c ⟨h,s⟩)
variable {fu k:Nat} {F:Nat->List DV->Option Ou} {δ:List Sv} {ds:List DV} {cl:Cl} {N M:Nat} {R C:Nat}
def rng_1n{n:Nat}(c:jT b n cx)(hn:ň n):ax (Ũ (.rng [Å,b]))=bt (upTo 1 (n - 1)):=by
  show ax (MZ [Å,b] (oT (rngD l) a (.lst a) ĵ))=_;rw[ab Ž c Α,thns_ok];have hs:ņ (gh 1&&gh ρ&&ě (ρ - 1<=Fw)):=by rw[Ĉ,Ĉ,xj];refine⟨au Β,Jd (aJ (ň (ρ - 1))) đ⟩;unfold gh;rw[Ĉ,xj,xj];exact⟨Jd đ (mI n),Wb (aJ (ň ρ)) đ⟩
  show ax (oT (KC (gh 1&&gh ρ) (ρ - 1<=Fw) (upTo 1 (mF ρ 1))) a (.lst a) ĵ)=_;rw[ĉ hs,aJ (mF ρ 1=n - 1)];rfl
def up_1n(n:Nat):upTo 1 n=(CB n).map (qX h):=by
  unfold L2.upTo;rw[ŗ];apply c_;intro j _;show ŕ _=ŕ _
  congr 1
  simp only[Function.comp];omega
def i_band{i j:Nat}(d:oX)(c:oW):Ť (.bin rX a b) (ů (i &&& j)):=cA d c (by show μ=_;rw[band_nat])
def i_eqn{i j:Nat}(d:oX)(c:oW):Ty:=by
  rw[b_eq d c]
  congr 3
  rw[sM,ķ,ķ];omega
def e_halves(hR:R<32):fO (Ů 21 [.int R]) (nD (hv R)):=by
  rw[Ŧ d_halves];unfold d_halves;have w:=rng_1n (F:=Ý) (δ:=Ŗ 1 [.int R]) (b:=Đ) (n:=R) ć Ă;rw[up_1n]at w;refine Ł (Aa ĵ (xF w đ (cw ċ Μ (Ç (Ş (ň (R - 1))))) (Ĝ h f)));refine(FM [ī h,ī R] ?_ iC);obtain⟨i,e,rfl⟩:=Ő f;have:=ź e;have c:=i_eqn (F:=Ý) (δ:=[qY ü,ī R]) (i_band (a:=Đ) (b:=ŝ) ć ć) (xI 0);have d:=b_lt (G:=G) (F:=Ý) (δ:=[qY ü,ī R]) (xI 0) (i_sub (a:=ŝ) (b:=Đ) ć ć);have g:ě (ı ü<(R:Int) - ı ü)=ě (i+1<R - ü):=Ź Rg
  rw[g]at d;cases q:(ü &&& R==i+1)with
  | true=>
    rw[q]at c;rw[IY c d];rfl
  | ă=>
    rw[q]at c;rw[and_f c];rfl
def ln4{l:Ĳ a}(h:Ň<=4):Ň<=ÿ:=Ç h
abbrev Wy:=DV×Nat×aW×aW
def wD(a:Wy):DV:=ģ [a.1,.int a.2.1,ģ (Je a.2.2.1),ģ (Je a.2.2.2)]
def wl(R C:Nat):Ĳ Wy:=im (hv R) h (nQ,h,(R - h,C),(h,C))++im (hv C) h (z7,h,(R,C - h),(R,h))
def hv_len(h:R<32):Ć (hv R)<=31:=by
  unfold hv;refine Af ?_;rw[ċ,Μ];omega
def sub_cast{b:Nat}(h:b<a):Ag - (b:Int)=ı (a - b):=Ę
def e_splits(d:R<32)(e:C<32):fO (cI 20 (gP R C)) ((fP).map wD):=by
  rw[Ŧ d_splits];unfold d_splits;have q:=bZ Ů (Ŗ 4 (gP R C)) 21 ff [n6 R] (e_halves (k:=k) (fu:=fu) d);have p:=bZ Ů abH 21 [ŝ] [n6 C] (e_halves (k:=k) (fu:=fu) e);have m:ax (CC (Ε 21) (Ŗ 4 (gP R C)))=bt ((hv R).map (qX h)):=bQ q
  have g:ax (CC (ľ 21 [ŝ]) abH)=bt ((hv C).map (qX h)):=bQ p
  have o:=abG aa3 m d fun h c=>
    ⟨Wc,Ē,rfl,by
      have s:=abF ŝ R;rw[sub_cast (hv_sb c).1.2.1]at s;exact abE s ć,rfl⟩
  have n:=abG aa2 g e fun h c=>
    ⟨Wc,Ē,rfl,by
      have s:=abF Ĭ C;rw[sub_cast (hv_sb c).1.2.1]at s;exact abE ć s,rfl⟩
  refine Ł (tQ o n (ib (uY (cl:=ĵ) ?_)));refine(cA ć ć (show binD .Add _ _ Ē Ē=bt (g_ fP wD)from ?_));show(mE (Ć abD+Ć (ļ (hv C) h (wD (z7,h,(R,C - h),(R,h))))<=ÿ) _ none)=_;rw[ĉ]
  · unfold wl
    rw[Ë,ŗ,ŗ];rfl
  · rw[ċ,ċ]
    exact Ç (Rm (hv_len d) (hv_len e))
abbrev Tb:=fW aW Nat
def kk(p:aW):DKey:=Bg (p.1:Int) (p.2:Int)
def dC(L:Tb):DV:=.dct CD M0
def dD(L:Tb):DV:=ģ [dC L]
def kk_inj(h:kk p=kk q):p=q:=by
  unfold kk at h;obtain⟨a,b⟩:=p;obtain⟨c,d⟩:=q;simp at h;obtain⟨f,e⟩:=h;rw[Int.ofNat.inj f,Int.ofNat.inj e]
theorem look_kk(q:aW):∀L:Tb,iW (kk q) CD M0=ļ (L.lookup q) z (ŕ (ı z))
  | []=>rfl
  | (p,z)::L=>by
    show(if kk p=kk q then ā (ŕ _)else iW (kk q) _ _)=_;rw[gR];by_cases h:p=q
    · rw[ĉ (ų h),h,oK];rfl
    · rw[ĝ (fun e=>h (kk_inj e)),look_kk q L,show(q==p)=ă from iF (jv h)]
theorem no_key:∀{L:Tb},L.lookup q=none->kk q∉CD
  | [],_,h=>ζ
  | (p,z)::L,e,h=>by
    rw[gR]at e;split at e
    · cases e
    · rename_i a
      rcases Ŀ h with w | w
      · rw[kk_inj w,oK]at a;cases a
      · exact no_key e w
def ev_dgp{r c z:Nat}(b:dY (.od (dD L)))(h:Ż e (ģ (gP r c)) cx)(a:L.lookup (r,c)=ā z):fG (.dgp i e) z:=by
  have d:Ũ (.dgp i e)=(match ω with
    | ā (yQ ks vs)=>Χ _ fun y _=>dgpD ks vs y
    | _=>none):=rfl
  rw[d,b];show dW=_;rw[h,bq];show(match iW (kk (r,c)) _ (i_ dL)with | wK=>μ | _=>none)=_;rw[look_kk,a];rfl
def ev_dpp{r c z:Nat}(m:dY (.od (dD L)))(h:jT e z o)(k:jT a r cx)(j:jT b c cy)(f:L.lookup (r,c)=none)(g:B_<100000):ic (.dpp i [a,b] e)=ā (sB (.od (dD (L++[((r,c),z)])))):=by
  have n:ic (.dpp i [a,b] e)=(match ω with
    | ā (yQ kk vs)=>Tq _ _ kk vs
    | _=>none):=rfl
  rw[n,m];show uX=_;rw[h];show Rs.thnS δ _ _=_;rw[ab k j Α];show((JG (Ć CD<ÿ) (eT (Yr (putD (kk (r,c)) (.int z) CD M0)))).map uZ)=_;rw[ĉ (Ą ċ (KL g đ))];unfold putD;rw[ĝ (no_key f)];unfold dD dC;rw[Ë,Ë];rfl
def ev_callv(e:dY (ę (.fn x)))(a:xs.lookup x=ā f)(c:wQ)(b:yO)(h:F f eM=iY):Ť (.callv i xs es) d:=by
  show callvE G F xs _ ω = _;rw[e,c];show(match xs.lookup x with
      | ā f=>uS
      | none=>none)=_
  rw[a];show uS=_;unfold callD;rw[h,b];rfl
theorem min_low:Zr
  | [],m=>⟨Ð,Int.le_refl _,AB x a⟩
  | y::r,m=>by
    show(qa _=m\/qa _∈y::r)/\qa _<=m/\∀x∈y::r,qa _<=x;obtain⟨d,c,b⟩:=min_low r (ĩ (y<m) y m);by_cases q:y<m
    · rw[ĉ q]at d c b ⊢
      refine⟨ė ?_,Ę,Ĝ x a⟩
      · rcases d with z | z
        · rw[z];exact ũ
        · exact Ŕ z
      · rcases Ŀ a with z | z
        · rw[z];exact c
        · exact b x z
    · rw[ĝ q]at d c b ⊢
      refine⟨?_,c,Ĝ x a⟩
      · rcases d with z | z
        · exact ď z
        · exact ė (Ŕ z)
      · rcases Ŀ a with z | z
        · rw[z];omega
        · exact b x z
theorem ints_nD:∀l:Ġ,ints? (nD l)=ā (i5 Cw É)
  | []=>rfl
  | a::l=>MO (ints? (nD l)) (ints_nD l)
def ev_minN(h:Bn (cH l))(f:l≠[]):∃z∈l,(∀x∈l,z<=x)/\fG (.bi .min [e]) (z:Nat):=by
  cases l with
  | nil=>exact pY f
  | cons a l=>
    obtain⟨i,g,c⟩:=min_low _ a;have k:fG (.bi .min [e]) (minI a (i5 Cw É)):=by rw[ev_min nR];show(match ints? (nD (a::l))with | ā (n::r)=>μ | _=>_)=_;rw[ints_nD];rfl
    obtain⟨z,b,ez⟩:∃z∈a::l,minI a _=ı z:=by
      rcases i with q | q
      · exact⟨a,ũ,q⟩
      · obtain⟨z,b,q⟩:=Ő q
        exact⟨z,Ŕ b,q.symm⟩
    refine⟨z,b,Ĝ x d,ţ k ez⟩;rw[ez]at g c;rcases Ŀ d with q | q
    · rw[q];omega
    · have:=c _ (eO x q)
      omega
universe k91
namespace k91
open PySem L2
def e_joined(a b:Nat):Ů 17 (gP a b)=ε (ů FN):=by
  rw[iz];unfold Q1;have m:iB k (.bi .max [Đ,ŝ]) (Ŗ 2 (gP a b)) (dU (ů (max a b))):=by
    show μ=_
    congr 3
    by_cases h:(b:Int)>Ag
    · rw[ĉ h];omega
    · rw[ĝ h];omega
  have s:=i_add (Ž (G:=G) (F:=Ý) (i:=1)) m;rw[aJ (AZ+_=ı FN)]at s;exact Ł (jh s)
variable {fu k:Nat} {F:Nat->List DV->Option Ou} {δ:List Sv} {ds:List DV} {cl:Cl} {R C a b:Nat} {rest:List (List Int)} {L:Tb}
def mf(rest:Ċ):Mx:=Ĵ j (Ř (rest.getD i []) j)
def wi_eq(rest:Ċ)(R C:Nat):WI (tO rest R C)=CA xJ:=by
  unfold WI sub wp mf
  congr 1
  funext w
  rw[List.any_map]
  congr 1
  funext i
  show(ļ (cs C) j (Ř (rest.getD i []) j)).any _=_;rw[List.any_map];rfl
def W9(rest:Ċ):Prop:=∀r∈rest,∀x∈r,Ae x
def getD_in{r:Ď}(h:j<Ű):gB j∈r:=by
  rw[Ħ,jU];exact jV h
def mf_in(c:Jf)(e:W9 rest)(g:i<a)(f:j<b):Ae (xJ i j):=by
  have d:=pB (Ą c.1 g);exact e _ d _ (getD_in (Ą (c.2 _ d) f))
def qZ(a:c<2^n)(h:jm c):i<n:=by
  exact(Nat.pow_lt_pow_iff_right (Β:1<2)).mp (tm (V_ (cJ h)) a)
def p32(h:n<=5):2^n<=32:=tP h
def cs5:∀c,c<32->aK c<=5:=ŵ
def wn_pos(f:Jf)(e:W9 rest)(h:a<=5)(g:b<=5)(l:0<R)(k:R<2^a)(n:0<C)(m:C<2^b):0<M1:=by
  have pa:=p32 h;have pb:=p32 g;obtain⟨i,d⟩:=vI R Ă l;obtain⟨j,c⟩:=vI C Ă n;have q:=mf_in f e (qZ k d) (qZ m c);unfold wn;refine IX (a:=(xJ i j).toNat) (gK Ă (MY i d c Ę))
def e_count(e:Jf)(h:W9 rest)(A:0<a)(u:a<=5)(q:b<=5)(B:0<R)(f:R<2^a)(E:0<C)(g:C<2^b)(y:Į δ 3 (ę (tT rest)))(w:Į δ 5 (ī R))(v:Į δ 6 (ī C)) :
    qV (k+3) abJ δ (M1:Nat):=by
  have pa:=p32 u;have pb:=p32 q;have m:Rect (aK R) (aK C) (tO rest R C):=(abI d);have c:W9 (tO rest R C):=fun r d x n=>UH p (Ő d) o (Ő n) (mf_in e h (qZ f p) (qZ g o))
  have z:=me G G (qU (gj y) (gj w) (gj v)) (e_cut (fu:=fu) (k:=k) rest a b R C e A Ă Ă B f E g);have l:=ky (tM z (e_words_in _ _ _ m (Ç (cs5 R Ă)) (Ç (cs5 C Ă)) c));rw[wi_eq]at l;unfold nD at l;rw[ċ]at l;exact l
def lnB:bI:=[aa1]
structure Jt where
  g:Nat
  j:Nat->À
  nm:Str
abbrev jE:Jt:=⟨1,fun a b=>a+b,Fs⟩
abbrev jB:Jt:=⟨0,fun a b=>FN,qO⟩
abbrev JOk(J:Jt):Prop:=J=jB\/J=jE
def JOk.comm(h:gC)(a b:Nat):J.j a b=J.j b a:=by
  rcases h with rfl | rfl
  · show FN=1+max b a
    omega
  · exact Nat.add_comm ..
def ev_joined(h:gC)(e:dY (ę Ah))(c:evEs G Ů es δ=ā (.ok [n6 a,n6 b])):iB ς (Rn i es) δ (dU (ů (J.j a b))):=by
  rcases h with rfl | rfl
  · exact ev_callv e rfl c rfl (e_joined a b)
  refine ev_callv e rfl c rfl ?_;rw[iz];exact Ł (gA (i_add (gj (d:=.int a) rfl) (gj (d:=.int b) rfl)))
def lnD(J:Jt)(t:DV)(rest:Ċ)(L:Tb)(x y w:Sv):Ĕ:=[ę t,ī J.g,ę Ah,ę (tT rest),.od (dD L),x,y,w]
universe k91
namespace k91
open PySem L2
def i_shl1{n:Nat}(h:jT e n cx)(hn:ň n):Ť (nP e) (ů (2^n)):=cA Ž h (by
  show(Ŭ V' (ke _))=_;rw[ĉ ⟨Ę,Ę,Β⟩,aE,Mz]
  congr 3)
def lnF:MS:=vz 6 [Å,nP (vx 3)] lnB
def ev_sep(h:He=true):ic (.sep i)=ā (sB (.od (dD []))):=by
  have a:ic (.sep i)=Ŭ He (.nx _):=rfl
  rw[a,ĉ h];rfl
def ev_retd(h:dY (.od (dD L))):ic (.retd i)=ā (.rt (dC L) ă):=by
  have a:ic (.retd i)=(match ω with
    | ā (.od d)=>Ŭ (isDc d) (.rt _ ă)
    | _=>none):=rfl
  rw[a,h];rfl
def e_check_small(rows:Ċ)(n m:Nat)(d:ŧ)(e:0<n)(a:n<=60)(b:m<=60)(h1:tU)(h2:tR):qR 5 10=ε .non:=by
  rw[iz];unfold d_check_small;have c:=Wd (e_is_small (fu:=fu) (k:=k) rows n m d e a b);have s:sm ö iA=true:=by unfold sm;rw[Ĉ,ak,ak];omega
  rw[s]at c;have q:=ev_not c;exact of_nx (dm q rfl)
def rst(m:Nat)(rows:Ċ):Ċ:=FC θ nU
theorem kvp_yes:∀L:Tb,kvp? CD M0=ā (i_ (((p.1.1:Int),(p.1.2:Int)),(p.2:Int)))
  | []=>rfl
  | p::L=>MO (kvp? _ _) (kvp_yes L)
def tD(p:aW×Nat):DV:=ģ [.int p.1.1,.int p.1.2,BN]
def e_paper(L:Tb)(h:L≠[])(a:B_<=100000):fO (Ů 14 [dC L]) (L.map tD):=by
  rw[iz];unfold d_paper;have w:qF (fE (.itm Đ) (Ŗ 1 [dC L])) (dU (i_ Vp)):=by have b:fE (.itm Đ) (Ŗ 1 [dC L])=Χ (fE Đ (Ŗ 1 [dC L])) (fun x c=>itmD x c):=rfl;rw[b,iC,bq];show ax (Yq Ad (CD).isEmpty CD M0)=_;rw[ĉ (bG (by cases L with | nil=>exact pY h | cons _ _=>rfl)),kvp_yes];show μ=_;rw[ŗ];rfl
  refine Ł (gA (l_ w đ (Ç a) (Ĝ p hp)));refine(jg [ę _,ę _] ?_);exact ev_tup (qU (fN ć (Ν 0) rfl) (fN ć kR rfl) ć) (ln4 Ģ) rfl
def ix_last(xs:Ĩ)(x:DV):ixD (.lst (xs++[x])) (.int (-1))=cS:=by
  show(fB (Ć (xs++[x])) (-1)).bind _=_;have e:fB (Ć (xs++[x])) (-1)=ā Ä:=by
    unfold fB;rw[ĝ đ,ĉ (by rw[Â];simp;omega)];rw[Â]
    congr 1
    simp;omega
  rw[e,qf,uw ħ,Ms];rfl
def b_gt{G:Gs}{F:Ŵ}{δ:Ĕ}{a b:ME}{i j:Int}{cx cy:Cl}(ha:oX)(hb:oW):O3 .Gt (j<i):=iZ ha hb rfl
def mul_r(h1 : -(2^62)<j)(h2:j<2^62):mulOk i j=true:=by
  unfold mulOk;have e1:(2:Int)^62=4611686018427387904:=đ;have e2:(2:Int)^64=18446744073709551616:=đ;rw[þ (Ş (-(2^64)<j)),þ (Ş (j<2^64))];rw[Bool.and_self,Bool.or_true,Bool.true_or]
abbrev sS(c n:Int)(xs:Ď)(a b d e:Sv):Ĕ:=[ī c,ī n,qW xs,a,b,d,e]
def iD_app(a:Ď)(x:Int):iD a++[ŕ x]=iD (a++[x]):=qI iD Ë
def s1:bI:=[.app 2 (gm ĺ (.int zY)),kt (KJ ĺ (.int zY))]
def s2:bI:=[Ŏ 5 abi,Ŏ 6 abh,abg]
def e_streamK{fu k:Nat}(c:Int)(n:Nat)(hn:n<=100):∃xs:Ď,Ä=n/\Ů 59 [.int c,Ō n]=ā (MM xs):=by
  rw[Ŧ d__law_stream];have w:∀(xs:Ď) (a b d e:Sv),ax (fE (.rng [ŝ]) (sS c n xs a b d e))=bt (upTo 0 n):=fun xs a b d e=>rng_n ć Ă
  have l1:∃δ',u0 4 (vJ k s1) (upTo 0 n) (sS c n [] (ī c) .no .no .no)=uV/\∃xs r b,Ä=n/\δ'=xK xs b .no .no:=(by refine M4 4 j (∃xs r b,Ä=j/\δ=xK xs b .no .no) n 0 (Ļ j hj δ Iv) ⟨[],c,.no,rfl,rfl⟩;obtain⟨xs,r,b,hl,rfl⟩:=Iv;refine⟨sS c n (xs++[r%zY]) (ī (r/zY)) (CF 0) .no .no,?_,xs++[r%zY],_,_,fA Â hl,rfl⟩;refine Ê (δ':=xK (xs++[r%zY]) (CF 0) .no .no) ?_ (ac (i_div ć Ž đ) rfl);have:=ev_app (fu:=fu) (G:=G) (F:=Ý) (i:=2) (δ:=xK xs (CF 0) .no .no) (ds:=iD xs) rfl (nb (pE 3 r) (Ν zY) đ) rfl (rB iD ċ hl (ce (Ş (j<1000)) đ));rw[iD_app]at this;exact this);obtain⟨δ',e1,xs,r,b,hx,rfl⟩:=l1;have c0:=b_gt (G:=G) (F:=Ý) (δ:=xK xs b .no .no) (pE 3 r) (Ν 0);by_cases z:0<r
  · rw[þ z]at c0
    exact⟨xs,hx,Ł (Jg (ac ć (Ai (w [] _ _ _ _) e1 (go_ifr (Λ c0) M2))))⟩
  · rw[dt z]at c0
    have l2:∃δ',u0 4 (vJ k s2) (upTo 0 n) abL=uV/\∃xs b q e,Ä=n/\δ'=xK xs b q e:=by
      have:=forGo_cnt (i:=4) (body:=vJ k s2) (I:=fun _ δ=>∃xs b q e,Ä=n/\δ=xK xs b (ī q) e) n 0 (Ļ j hj δ Iv) (δ:=abL) ⟨xs,b,_,.no,hx,rfl⟩
      · obtain⟨δ',h1,ys,b',q,e',hl,h2⟩:=this
        exact⟨δ',h1,ys,b',_,e',hl,h2⟩
      · obtain⟨ys,b',q,e',hl,rfl⟩:=Iv
        rw[Int.zero_add];have e2:(2:Int)^62=4611686018427387904:=đ;have jj:(É*É)<=10000:=by
          have h1:j*j<=100*100:=Cz Ă Ă;have:ı (j*j)<=10000:=Ę
          rw[Int.natCast_mul]at this;exact this
        have j0:0<=É*É:=Int.mul_nonneg (mI j) (mI j);obtain⟨D,hD⟩:∃D,M3 q e'=D:=av;have v4:fE Í D=eA (Ō j):=ŏ hD iC
        have v5:fE χ D=ā (Ψ q):=ŏ hD iC
        have a1:=nb (abK v5 48271 v4 v4 (Ν 11)) (Ν MF) đ;obtain⟨p,hp⟩:∃p,(q*48271+É*É+11)%MF=p:=av;rw[hp]at a1;obtain⟨D2,hD2⟩:∃D2,M3 p e'=D2:=av;have w4:fE Í D2=eA (Ō j):=ŏ hD2 iC
        have w5:fE χ D2=ā (Ψ p):=ŏ hD2 iC
        have a2:=abK (i_div w5 (Ν 977) đ) 16807 w5 (i_add (i_mul w4 w4 (mul_r Ă Ă)) (Ν 7)) w4;obtain⟨u,hu⟩:∃u,p/977*16807+p*(É*É+7)+É=u:=av;rw[hu]at a2;refine⟨xK We vE (ī p) (ī u),?_,We,_,_,_,Ą sf hl,rfl⟩;show eV k s2 (M3 q e')=_;rw[hD];refine Ê (δ':=D2) (by rw[ev_set a1 rfl,←hD,←hD2];rfl) (Ê (δ':=M3 p (ī u)) (by rw[ev_set a2 rfl,←hD2];rfl) (Ê ?_ rfl));have st:=ev_seti (fu:=fu) (G:=G) (F:=Ý) (i:=2) (k:=Í) (δ:=M3 p (ī u)) (ds:=iD ys) (j:=j) rfl (i_div (nb (pE 6 u) (Ν 2147483587) đ) (Ν 7) đ) ć rfl (ix_of (rB iD ċ hl hj));have es:(iD ys).set j (ŕ (u%2147483587/7))=iD We:=b_ iD List.map_set
        rw[es]at st;exact st
    obtain⟨δ',e2,ys,b',q,e',hy,rfl⟩:=l2;exact⟨ys,hy,Ł (Jg (ac ć (Ai (w [] _ _ _ _) e1 (dm c0 (ac (i_add (nb ć Ž đ) Ž) (Ai (w xs _ _ _ _) e2 M2))))))⟩
def e_stream{fu k:Nat}(c:Int)(n:Nat)(hn:n<=100):∃xs:Ď,Ä=n/\fO (Ů 59 (gP c n)) (xs.map ŕ):=e_streamK c n hn
variable {fu k:Nat} {F:Nat->List DV->Option Ou} {δ:List Sv} {ds:List DV} {cl:Cl} {n m:Nat} {f:Nat->Nat->Int} {d:DV}
def Look(d:DV)(n m:Nat)(f:iw):Prop:=iu (∃x,ixD d (Ō i)=cS/\∀j,j<m->na x (Ō j) (.int lr))
def at2(rows:Ċ)(i j:Nat):Int:=z9
def row_len(R:ŧ)(h:i<n):Ć vC=m:=Ab (Ą R.1 h)
def look_t(R:ŧ):Look Õ n m (at2 rows):=Ĵ a ⟨_,at_row (Ą R.1 a),fun j b=>MJ (row_len R a) b⟩
def ev_at{i j:Nat}(L:Jh)(l:Ť a d)(k:Ż b (Ō i) r)(h:Ż e (Ō j) q)(g:i<n)(c:j<m):fG (.ix (.ix a b) e) lr:=by
  obtain⟨x,p,o⟩:=L i g;exact dX (dX l k p) h (o j c)
def b_ne(d:oX)(c:oW):Bo (xL a b) (i != j):=KK
def cut_from(ds:Ĩ)(h:Nat):cutD ds (ā (h:Int)) none=ds.drop h:=by
  unfold cutD slIx;dsimp only;rw[nj,aE];by_cases q:h<=œ
  · rw[FA q,Pi fz]
  · rw[Wf,List.drop_length,List.take_nil,List.drop_of_length_le Ă]
def cut_to(ds:Ĩ)(h:Nat):cutD ds none (ā (h:Int))=ds.take h:=by
  unfold cutD slIx;dsimp only;rw[nj,aE,List.drop_zero,Nat.sub_zero];by_cases q:h<=œ
  · rw[FA q]
  · rw[Wf,List.take_length,Pi Ă]
def ev_slf{h:Nat}(e:Ż a ŋ c)(d:Ż b (Ō h) c1):m_ (.slf a b) (ds.drop h) D':=by
  show dW=_;rw[e,bq];show dW=_;rw[d,bq,←cut_from];rfl
def ev_slt{h:Nat}(e:Ż a ŋ c)(d:Ż b (Ō h) c1):m_ (.slt a b) (ds.take h) D':=by
  show dW=_;rw[e,bq];show dW=_;rw[d,bq,←cut_to];rfl
def l_add(d:m_ a x cx)(c:m_ b y cy)(h:ň (eQ+Du)):m_ (dZ a b) (x++y) (Cl.anew cx cy):=
  cA d c (ĉ (Ç h))
def flip_get(h:j<m):Ji=z8 j:=by
  unfold flip;rw[Ħ,ō,wX h];rfl
def cK{m:Nat}{rows:Ċ}:Ć Î=m:=vi flip ċ Μ
def b_eqN{i j:Nat}(d:wR (Ō i))(c:Ż b (Ō j) cy):Ty:=by
  have q:=b_eq d c;rw[show(_==_)=(i==j) by rw[sM,ķ,ķ];omega]at q;exact q
def ins(a s:Nat)(l:Ď):Ď:=l.take a++[jN s 0]++l.drop a
def mod_nat(x:Int)(hn:0<n):∃a:Nat,x%ρ=Ag/\a<n:=by
  have q1:=FP x (b:=ρ) Ă;have q2:=FO x (b:=ρ) Ă;exact⟨(x%ρ).toNat,Ę,Ę⟩
def lst1(h:vA d)(hs:mY c=true):m_ (.lst [e]) [d] ĵ:=ev_lst nR (Jj 1) (by unfold stros;simp[hs])
def i_shr(e:oX)(d:oW)(c:0<=j):fG (Fv a b) (i/AQ):=
  cA e d (ĉ c)
def lenT(R:ŧ)(h:Ť e Õ):Ť (Þ [e]) (Ō n):=by
  have q:=ev_lenT h;rw[ċ,R.1]at q;exact q
def lenT0(R:ŧ)(b:0<n)(h:Ť e Õ):Ť (Þ [.ix e υ]) (Ō m):=by
  have a:0<ő:=Ą R.1 b
  have t:=ev_lenT (dX h Ž (at_row a));rw[MK _ m (Ab a)]at t;exact t
universe k91
namespace k91
open PySem L2
def minN:Ġ->Nat
  | []=>0
  | x::r=>ĩ r.isEmpty x (min x (minN r))
theorem minN_spec:∀{l:Ġ},l≠[]->minN l∈l/\∀x∈l,minN l<=x
  | [],h=>pY h
  | [x],_=>⟨aC minN,aC minN⟩
  | x::y::r,_=>by
    obtain⟨c,b⟩:=minN_spec (l:=y::r) Ģ;have e:minN (x::y::r)=min x _:=rfl;rw[e];refine⟨?_,Ĝ z a⟩
    · by_cases q:x<=minN (y::r)
      · rw[FA q];exact Υ
      · rw[Wf];exact Ŕ c
    · rcases Ŀ a with q | q
      · rw[q];exact Nat.min_le_left ..
      · exact š (Nat.min_le_right ..) (b z q)
def minN_uq(c:z∈l)(d:∀x∈l,z<=x):z=minN l:=by
  obtain⟨a,b⟩:=minN_spec (l:=l) (by rintro rfl;cases c);exact Fi (d _ a) (b _ c)
def stp(J:Jt)(f:Mx)(V:Nat->À)(R C:Nat):Nat:=ĩ (ej=1) J.g (minN (ļ fP w (J.j (V n9.1 n9.2) (V lR.1 lR.2))))
def zZ(J:Jt)(f:Mx):Nat->Nat->À
  | 0,_,_=>0
  | n+1,R,C=>FQ (zZ J f n)
def wl_parts(h:w∈fP):(∃g,Sb g R/\g<R - g/\Ci=((R - g,C),(g,C)))\/∃g,Sb g C/\g<C - g/\Ci=((R,C - g),(R,g)):=by
  unfold wl at h;rcases gL h with q | q
  · obtain⟨g,a,rfl⟩:=Ő q
    exact ď ⟨g,(hv_sb a).1,(hv_sb a).2,rfl⟩
  · obtain⟨g,a,rfl⟩:=Ő q
    exact ė ⟨g,(hv_sb a).1,(hv_sb a).2,rfl⟩
def wl_lt(h:w∈fP):n9.1+n9.2<R+C/\lR.1+lR.2<R+C:=by
  rcases wl_parts h with⟨g,s,_,e⟩ | ⟨g,s,_,e⟩
  · rw[e];have:=s.1;have:=jk;dsimp only;omega
  · rw[e];have:=s.1;have:=jk;dsimp only;omega
def stp_congr{V:Nat->À}(h:∀r c,r+c<R+C->V r c=W r c):FQ V=FQ W:=by
  unfold stp;split
  · rfl
  · congr 1
    apply c_;intro w d;obtain⟨a,b⟩:=wl_lt d;rw[h _ _ a,h _ _ b]
theorem zz_fix(f:Mx):∀(N n R C:Nat),n<=N->R+C<=n->zZ J f n R C=zZ J f (R+C) R C
  | 0,n,R,C,b,a=>ų (Ş (R+C=n))
  | N+1,n,R,C,b,a=>by
    by_cases e:R+C=n
    · rw[e]
    · obtain⟨m,rfl⟩:∃m,n=m+1:=(yH n)
      cases hk:R+C with
      | zero=>
        obtain rfl:R=0:=Ę
        obtain rfl:C=0:=Ę
        show stp J f _ 0 0=0;unfold stp;split
        · rename_i h
          have:wn f 0 0=0:=rfl;omega
        · rfl
      | succ k=>
        show FQ _=FQ _;exact stp_congr fun r c h=>ţ (zz_fix f N m r c Ă Ă) (zz_fix f N k r c Ă Ă)
def V(J:Jt)(f:Mx)(R C:Nat):Nat:=zZ J f (R+C) R C
def V_eq(f:Mx)(h:0<R+C):n_=FQ (V J f):=by
  unfold V;cases hk:R+C with
  | zero=>omega
  | succ k=>
    show FQ _=_;exact stp_congr fun r c h=>zz_fix f k k r c ħ Ă
def r1(n:Nat):Ġ:=CB (n - 1)
def mem_r1:j∈r1 n↔0<j/\j<n:=by
  unfold r1;rw[Bm];constructor
  · rintro⟨i,h,rfl⟩;have:=ź h;omega
  · rintro⟨h1,h2⟩;exact⟨j - 1,o6 Ă,Ę⟩
def r1_succ(h:0<c):r1 (c+1)=r1 c++[c]:=by
  unfold r1;obtain⟨d,rfl⟩:∃d,c=d+1:=(yH c);rw[Ş (d+1+1 - 1=d+1),Ş (d+1 - 1=d),Ho,Ë];rfl
def ps(b r c:Nat):ø:=(r1 r).flatMap (fun i=>ļ (r1 (2^b)) j (i,j))++ļ (r1 c) j (r,j)
def mem_ps:q∈ps b r c↔(0<q.1/\q.1<r/\0<q.2/\q.2<2^b)\/(q.1=r/\0<q.2/\q.2<c):=by
  unfold ps;rw[Im,List.mem_flatMap,Bm];constructor
  · rintro(⟨i,h1,h2⟩ | ⟨j,h,rfl⟩)
    · obtain⟨j,a,rfl⟩:=Ő h2
      have:=mem_r1.mp h1;have:=mem_r1.mp a;exact ď ⟨Ę,Ę,Ę,Ę⟩
    · exact ė (bG (mem_r1.mp h))
  · rintro(⟨h1,h2,a,h4⟩ | ⟨h1,h2,a⟩)
    · exact ď ⟨q.1,mem_r1.mpr ⟨h1,h2⟩,eO q.2 (mem_r1.mpr ⟨a,h4⟩)⟩
    · exact ė ⟨q.2,mem_r1.mpr ⟨h2,a⟩,by rw[←h1]⟩
def ps_next(h:0<c):ps b r (c+1)=ps b r c++[(r,c)]:=by
  unfold ps;rw[r1_succ h,Ë,wA];rfl
def ps_row(h:0<r):ps b (r+1) 1=ps b r (2^b):=by
  unfold ps;rw[r1_succ h,List.flatMap_append];show _++[]=_;rw[fv]
  congr 1
  simp
def ps_start(b:Nat):ps b 1 1=[]:=rfl
def r1_len(n:Nat):Ć (r1 n)=n - 1:=vi r1 ċ Μ
theorem ps_len(b:Nat):∀d,Ć (ps b (d+1) 1)=d*(ψ b)
  | 0=>p6 ps_start
  | d+1=>by
    have e:ps b (d+1) (2^b)=ps b (d+1) 1++ļ (r1 (2^b)) j (d+1,j):=qI ps wA
    rw[ps_row Ă,e,Â,ċ,r1_len,ps_len b d,Nat.succ_mul]
def tbl(J:Jt)(f:Mx)(b r c:Nat):Tb:=ļ (ps b r c) p (p,V J f p.1 p.2)
theorem look_map{V:aW->Nat}:∀l:ø,cr (i5 p (p,V p)) q=Ŭ (q∈l) (V q)
  | []=>rfl
  | p::l=>by
    rw[Η,gR];by_cases e:q=p
    · subst e;simp
    · rw[show(q==p)=ă from iF e]
      show cr (i5 p _) q=_;rw[look_map l];simp[e]
def look_tbl(q:aW):cr (tbl J f b r c) q=Ŭ (q∈ps b r c) (V J f q.1 q.2):=look_map _
def tbl_len(f:Mx)(b r c:Nat):Ć (tbl J f b r c)=Ć (ps b r c):=ċ ..
def ps_few(a:b<=5)(R0:0<R)(hR:R<=32)(hC:C<=32):ň (Ć (ps b R C)):=by
  have e:ps b R C=ps b R 1++ļ (r1 C) j (R,j):=qI ps wA
  obtain⟨d,rfl⟩:∃d,R=d+1:=(yH R);rw[e,Â,ċ,r1_len,ps_len];have pb:=p32 a;have:d*(ψ b)<=31*31:=Cz Ă Ă;omega
def wl_in(c:0<C)(a:C<2^b)(R0:0<R)(h:w∈fP):n9∈ps b R C/\lR∈ps b R C:=by
  rcases wl_parts h with⟨g,s,_,e⟩ | ⟨g,s,_,e⟩
  · have:=s.1;have:=jk
    rw[e];exact⟨abN,abN⟩
  · have:=s.1;have:=jk
    rw[e];exact⟨abM,abM⟩
def wv(J:Jt)(f:Mx)(w:Wy):Nat:=M5 n9 lR
def tbl_next(h:0<C):tbl J f b R (C+1)=tbl J f b R C++[((R,C),n_)]:=by
  unfold tbl;rw[ps_next h,Ë];rfl
def wl_ne(d:R<32)(e:C<32)(h:0<R)(i:0<C)(g:2<=ej):fP≠[]:=by
  intro a;unfold wl at a;obtain⟨c,b⟩:=List.append_eq_nil_iff.mp a;rcases hv_ne d e h i g with q | q
  · exact q (Ro c)
  · exact q (Ro b)
def one_part{rest:Ċ}(P:gC)(t:DV)(v:Jf)(u:W9 rest)(U:0<a)(n:a<=5)(j:b<=5)(f:0<R)(A:R<2^a)(g:0<C)(s:C<2^b)(w:Sv) :
    ∃E,eV (k+3) lnB (Aj C (ī C) w)=ſ (Aj (C+1) (ī C) E):=by
  have pa:=p32 n;have pb:=p32 j;have o:R<32:=Ę
  have p:C<32:=Ę
  have e:Ć (FR R C)<100000:=zK tbl_len (ps_few (b:=b) (R:=R) (C:=C) j f Ă Ă)
  have x:cr (FR R C) (R,C)=none:=by
    rw[look_tbl,ĝ mR];rcases mem_ps.mp z with q | q
    · have:=lU;dsimp only at this;omega
    · have:=q.2.2;dsimp only at this;omega
  have r:=e_count (fu:=fu) (k:=k) (δ:=Aj C (ī C) w) v u U n j f A g s rfl rfl rfl;have c:=i_eqn r (Ν (ı 1));have B:=wn_pos v u n j f A g s;have d:=V_eq (J:=J) xJ (R:=R) (C:=C) Ă;unfold stp at d;rw[tbl_next g];by_cases m:M1=1
  · rw[m]at c
    rw[ĉ m]at d;rw[d];exact⟨w,FT c (xM (ev_dpp (z:=J.g) rfl ć ć ć x e)) rfl⟩
  · have H:(M1==1)=ă:=iF m
    rw[H]at c;rw[ĝ m]at d;have Q:2<=M1:=Ę
    have S:=l_ (F:=nW) (δ:=Aj C (ī C) (ę (g_ fP wD))) (l:=fP) (h:=wD) (elt:=Rn 4 [.dgp 5 Ĭ,.dgp 5 ĺ]) (tg:=jP [0,1,2,3]) (it:=.var 7) (fr:=abP) (cl:=Ē) rfl đ
      (by unfold wl;rw[Â,ċ,ċ];exact Ç (Rm (hv_len o) (hv_len p))) fun w N=>by obtain⟨K,I⟩:=wl_in g s f N;refine(jg [ę w.1,ī w.2.1,ę _,ę _,ę Ah,.od (dD (FR R C))] ?_);exact ev_joined (k:=k+2) P rfl (ab (abO K) (abO I) Α)
    have ne:(fP).map (wv J xJ)≠[]:=fun z=>wl_ne o p f g Q (Ro z)
    obtain⟨z,M,O,y⟩:=ev_minN ((by rw[S];unfold nD;rw[ŗ];rfl)) ne;rw[minN_uq M O,ž (minN ((fP).map (wv J xJ))=V J xJ R C) d.symm]at y;exact⟨_,go_iff (Λ c) (ac (vF rfl (e_splits o p)) (xM (ev_dpp (z:=V J xJ R C) rfl y ć ć x e))) rfl⟩
def row_loop{rest:Ċ}(m:gC)(t:DV)(g:Jf)(f:W9 rest)(o:0<a)(l:a<=5)(i:b<=5)(q:0<R)(p:R<2^a)(y w:Sv) :
    ∃δ',u0 6 (vJ (k+3) lnB) (upTo 1 (ψ b)) (Aj 1 y w)=uV/\∃d c,δ'=Aj (ψ b+1) d c:=by
  refine abQ (∃d c,δ'=Aj ż d c) (f9 y w);obtain⟨d,c,rfl⟩:=h;obtain⟨w2,e⟩:=one_part m t g f o l i q p (C:=j+1) Ă Ă c;have n:(Aj ż d c).set 6 (CF 1)=Aj ż (qY ż) c:=by show lnD J t rest _ (ī R) (CF 1) c=_;rw[aJ (AZ+_=ı ż)]
  exact⟨_,Ą n e,_,_,rfl⟩
def all_loop{rest:Ċ}(s:gC)(t:DV)(g:Jf)(q:W9 rest)(o:0<a)(r:a<=5)(n:b<=5)(x y w:Sv) :
    ∃δ',u0 5 (vJ (k+3) [lnF]) (upTo 1 (ψ a)) (lnD J t rest [] x y w)=uV/\∃f c d,δ'=Wg (ψ a+1) 1 f c d:=by
  have pb:=p32 n;have b1:=CG b;refine abQ (∃f c d,δ'=M6 f) ⟨x,y,w,rfl⟩;obtain⟨f,c,d,rfl⟩:=h;obtain⟨p,e,y2,w2,rfl⟩:=row_loop s t g q o r n (R:=j+1) Ă Ă c d;rw[Ş (ψ b+1=2^b)]at e;have v:(M6 f).set 5 (CF 1)=M6 (qY ż):=(by show M6 (CF 1)=_;rw[aJ (AZ+É=ı ż)]);have u:FR ż (2^b)=FR (j+1+1) 1:=b_ tbl (ps_row Ă)
  rw[u]at e;have l:0<rest.length:=Ą g.1 o
  have m:=FB nW (M6 (qY ż)) (abv ĺ l);rw[MK (rest.getD 0 []) b (g.2 _ (pB l))]at m;exact⟨_,Ą v (Ai (rng_1n (i_shl1 m Ă) Ă) e rfl),_,_,_,rfl⟩
def ft(J:Jt)(m:Nat)(rows:Ċ):Tb:=tbl J tV iA (2^ö) 1
def rc_rst:Rect ö iA vK:=by
  refine⟨by unfold rst sub;rw[ċ],Ĝ r a⟩;obtain⟨i,_,rfl⟩:=Ő a;rw[ċ]
def w9_rst(a:ŧ)(b:xN):W9 vK:=fun r d x c=>by
  obtain⟨i,f,rfl⟩:=Ő d;obtain⟨j,e,rfl⟩:=Ő c;have:=ji f;have:=ji e;rw[(eg a).1]at this;exact mf_in a b (by rw[←a.1];omega) this
def e_numbers(o:gC)(rows:Ċ)(n m:Nat)(d:ŧ)(l:xN)(f:0<n)(b:n<=60)(c:m<=60)(g:tU)(i:tR) :
    fQ 6 19 [Õ,.int J.g,Ah]=ε (FU J):=by
  have a:=Wh;obtain⟨j,e,x',y',w',rfl⟩:=all_loop o Õ a (w9_rst d l) (nX d.1 f) g i .no .no .no;have a1:=CG ö;rw[Ş (vL+1=2^ö)]at e;have pa:=p32 g;rw[iz];have h:=FB (fQ 5) (lnD J Õ vK [] .no .no .no) (e:=ĺ) rfl;rw[ċ,a.1]at h;show Ou.of _=_;exact Ł (Ê (ev_exp (vF rfl (e_check_small rows n m d f b c g i))) (ac (vF rfl (e_trimmed rows n m d f b c)) (Ê (ev_sep rfl) (Ai (rng_1n (i_shl1 h Ă) Ă) e (ib (ev_retd rfl))))))
def ft_last(d:0<ö)(c:0<iA):∃L,ft J m rows=L++[((vL,CI),Rp J)]:=by
  unfold ft;generalize ö=A at *;generalize (aX _)=B at *;have a1:=CH d;have b1:=CH c;have e:=tbl_next (J:=J) (f:=tV) (b:=B) (R:=ψ A) (C:=ψ B) Ă;rw[Ş (ψ B+1=2^B)]at e;have a:tbl J tV B (2^A) 1=tbl J tV B (ψ A) (2^B):=by have:=ps_row (b:=B) (r:=ψ A) Ă;rw[Ş (ψ A+1=2^A)]at this;unfold tbl;rw[this]
  exact⟨_,a.trans e⟩
def ft_len(b:tU)(a:tR):Ć (ft J m rows)=vL*CI/\ň (Ć (ft J m rows)):=by
  unfold ft;rw[tbl_len];have c:=CG ö;refine⟨?_,ps_few a c (p32 b) Ă⟩;have:=ps_len iA vL
  rwa [Ş (vL+1=2^ö)]at this
def e_ends_paper(rows:Ċ)(n m:Nat)(a:ŧ)(j:xN)(g:0<n)(b:n<=60)(l:0<m)(d:m<=60)(i:tU)(h:tR) :
    fO (qR 8 13) ((ft jE m rows).map tD):=by
  have e:=abU jE iK;rw[iz];unfold d_ends_paper;have c:=abT 16 d_ends_numbers;obtain⟨L,o⟩:=abS jE;exact Ł (abR jE)
def e_fewest(rows:Ċ)(n m:Nat)(a:ŧ)(h:xN)(e:0<n)(b:n<=60)(f:0<m)(d:m<=60)(l:tU)(j:tR) :
    qR 9 23=ā (lF (Rp jE:Nat)):=by
  have g:=e_ends_paper (fu:=fu) (k:=k) rows n m a h e b f d l j;obtain⟨L,o⟩:=abW;rw[o]at g;rw[iz];unfold d_fewest_ends;generalize vL=A at *;generalize CI=B at *;have c:=Wd g;rw[Ë]at c;exact abV
def e_bits_paper(rows:Ċ)(n m:Nat)(a:ŧ)(j:xN)(g:0<n)(b:n<=60)(l:0<m)(d:m<=60)(i:tU)(h:tR) :
    fO (qR 8 12) ((ft jB m rows).map tD):=by
  have e:=abU jB Ð;rw[iz];unfold d_bits_paper;have c:=abT 15 Q0;obtain⟨L,o⟩:=abS jB;exact Ł (abR jB)
def e_least(rows:Ċ)(n m:Nat)(a:ŧ)(h:xN)(e:0<n)(b:n<=60)(f:0<m)(d:m<=60)(l:tU)(j:tR) :
    qR 9 22=ā (lF (Rp jB:Nat)):=by
  have g:=e_bits_paper (fu:=fu) (k:=k) rows n m a h e b f d l j;obtain⟨L,o⟩:=abW;rw[o]at g;rw[iz];unfold d_least_bits;generalize vL=A at *;generalize CI=B at *;have c:=Wd g;rw[Ë]at c;exact abV
def ne_ii(a b:Int):cmpD .NotEq (.int a) (.int b)=ā (!(a==b)):=rfl
def forGo_rt(b:oV δ=ā δ1)(a:body δ1=ā (.rt v fr)):wM (d::r) δ=ā (.rt v fr):=by
  show O1 δ δ1 δ2 r;rw[b];show(Ei δ1 δ2 r)=_;rw[a]
def go_for(hw:uU=yN cl)(b:sD cl)(h:OX a=wP):sE Hf=wP:=by
  refine ib ?_;have e:uW Hf δ=KG _ _:=rfl;rw[e,hw,thnSi_ok,ĉ b,h]
def cs_eq(a0:0<a)(h:a<2^n):cs a=cg n a.testBit:=by
  unfold cs
  have hl:=Pw h
  obtain⟨d,rfl⟩:∃d,n=a.log2+1+d:=(o5 (n - (a.log2+1)))
  conv=>rhs;rw[List.range_add,Rq]
  have:(im (Ū d) x (a.log2+1+x)).filter a.testBit=[]:=by
    rw[List.filter_eq_nil_iff]
    intro j b
    obtain⟨x,_,rfl⟩:=Ő b
    rw[IL (xu Nat.lt_log2_self Bt)]
    exact BA
  rw[this,fv]
def iD_len(r:Ď):Ć (iD r)=Ű:=b_ iD ċ
def len_r0(R:ŧ)(b:0<n)(h:Ż x Õ c):fG (Þ [.ix x υ]) (m:Nat):=by
  have a:0<ő:=Ą R.1 b
  have q:=ev_lenT (FV h (at_row a));rw[iD_len,Ab a]at q;exact q
def len_tab(R:ŧ)(h:Ż x Õ c):fG (Þ [x]) (n:Nat):=by
  have q:=ev_lenT h;rw[ċ,R.1]at q;exact q
def bw(l:Ġ):Nat:=(i5 c (2^c)).sum
def bs_app(a b:Ġ):bw (a++b)=bw a+bw b:=vi bw Ë List.sum_append
theorem bs_f(p:gZ):∀n,M7<2^n/\∀j,d_ M7=(ě (j<n)&&p j)
  | 0=>⟨aC bw,fun j=>aC bw⟩
  | n+1=>by
    obtain⟨h1,h2⟩:=bs_f p n;rw[Ho,Rq,bs_app];by_cases hp:p n=true
    · have e:bw ([n].filter p)=2^n:=by simp[bw,hp]
      rw[e];refine⟨Ź tG,af j⟩;rw[Nat.add_comm];rcases KN j n with h | h | h
      · rw[Nat.testBit_two_pow_add_gt h,h2 j]
        simp[Ş (j<n),Ş (j<n+1)]
      · subst h
        rw[Nat.testBit_two_pow_add_eq,h2 j];simp[hp]
      · have:2^n+M7<2^j:=by
          refine ce (m:=2^Ò) (Ź tG) (tP h)
        rw[IL this];simp[Ş (¬j<n+1)]
    · have e:bw ([n].filter p)=0:=by simp[bw,hp]
      rw[e];refine⟨Ź tG,af j⟩;rw[Nat.add_zero,h2 j];rcases KN j n with h | h | h
      · simp[Ş (j<n),Ş (j<n+1)]
      · subst h;simp[hp]
      · simp[Ş (¬j<n),Ş (¬j<n+1)]
def bs_zero{l:Ġ}:bw l=0↔l=[]:=by
  cases l with
  | nil=>simp[bw]
  | cons a l=>
    have:0<2^a:=Nat.pow_pos đ;simp only[bw,Η,Jb];constructor
    · intro h;omega
    · intro h;cases h
def cs_bs{p:gZ}{n:Nat}(h:cg n p≠[]):cs M7=cg n p:=by
  have h0:0<M7:=Rr (h (bs_zero.mp z))
  rw[cs_eq h0 (bs_f p n).1];apply Wi;intro j hj;rw[(bs_f p n).2 j,þ (ź hj),qz]
def bs_cs{S n:Nat}(h0:0<S)(h:S<2^n):bw (cs S)=S:=by
  rw[cs_eq h0 h];apply QU;intro j;rw[(bs_f _ n).2 j];by_cases hj:j<n
  · rw[þ hj,qz]
  · rw[dt hj,Bool.false_and,IL (xu h Ă)]
def cs_ne{S n:Nat}(h0:0<S)(h:S<2^n):cs S≠[]:=fun z=>by
  have:=bs_cs h0 h;rw[z]at this;simp[bw]at this;omega
section
variable (rows:List (List Int)) (w:Int) (n m:Nat)
def jp(I:Ġ)(c:Nat):Bool:=I.all (FW r)
def rp(J:Ġ)(r:Nat):Bool:=J.all (FW c)
def JL(S:Nat):Ġ:=cg m Ru
def RL(J:Ġ):Ġ:=cg n (rp rows w J)
def good(S:Nat):Bool:=!(oa S).isEmpty&&Jk==S
def pr(S:Nat):B9:=((S:Int),ı (tW S))
def al:Ġ:=CB (ψ n)
def wdl:fW Int Int:=((al n).filter xO).map (pr rows w m)
def mp(S:Nat):B9:=(ı Jk,ı (tW S))
universe E_
def mem_al:S∈al n↔0<S/\S<2^n:=by
  unfold al;rw[Bm];constructor
  · rintro⟨j,h,rfl⟩;rw[L5]at h;omega
  · intro h;exact⟨S - 1,o6 Ă,Ę⟩
def closed{rows:Ċ}{w:Int}{n m:Nat}{S:Nat}(h0:0<S)(h:S<2^n)(hJ:oa S≠[]):∃S',0<S'/\S'<2^n/\Jk=S'/\oa S'=oa S:=by
  have sub:∀r∈cs S,r∈FX S:=fun r hr=>by refine gK (cs_lt h hr) (Ak (Ĝ c hc));exact qB (bN hc).2 r hr
  have ne:FX S≠[]:=fun z=>by obtain⟨r,hr⟩:=Wj (cs_ne h0 h);have:=sub r hr;rw[z]at this;cases this
  refine⟨_,Rr (ne (bs_zero.mp z)),(bs_f _ n).1,rfl,?_⟩;have e:cs Jk=FX S:=cs_bs ne;unfold JL at e ⊢;rw[e];apply Wi;intro c hc;rw[sM];constructor
  · intro z
    refine Ak fun r hr=>qB z r (sub r hr)
  · intro z
    refine Ak (Ĝ r hr)
    exact qB (bN hr).2 c (zR ⟨hc,z⟩)
def good_iff{rows:Ċ}{w:Int}{n m:Nat}{S:Nat}:xO S=true↔oa S≠[]/\Jk=S:=by
  unfold good;rw[Ĉ,ķ,ο,List.isEmpty_eq_false_iff]
theorem bools_map{b:Type}{p:ń b}:∀l:Ĳ b,Rv w (p w)=ā (aF p)
  | []=>rfl
  | a::r=>by show bools? (DV.bl (p a)::r.map fun w=>DV.bl (p w))=_;unfold bools?;rw[(bools_map r)];rfl
def ev_all{F:Ŵ}{δ:Ĕ}{cl:Cl}{α:Type}{p:ń α}{l:Ρ}{e:ME}(h:m_ e (i5 w (DV.bl (p w))) cl):Bo (.bi .all [e]) (l.all p):=by
  show MZ [e] (allD l)=_;rw[nR];show im (Rv w (p w)) bw (ke (.bl (bw.all id)))=_;rw[bools_map];show ā (ke (.bl ((aF p).all id)))=_;rw[List.all_map];rfl
theorem ints_nat:∀l:Ġ,ints? (aF (qX x))=ā Rx
  | []=>rfl
  | a::l=>MO (ints? _) (ints_nat l)
theorem sum_nat:∀l:Ġ,(Rx).sum=ı l.sum
  | []=>rfl
  | a::l=>by rw[Η,Jb,Jb,sum_nat l];rfl
def ev_sumN{l:Ġ}(h:m_ e (aF (qX x)) c):Ť (xz [e]) (ů l.sum):=by
  show sG;rw[nR];show(ints? _).map _=_;rw[ints_nat,gV,sum_nat]
def at_tc(R:ŧ)(d:r<n)(f:c<m)(h:Ż a Õ c1)(g:Ż b (Ō r) l)(e:Ż x (Ō c) j):∃i,jT (.ix (.ix a b) x) (pF r c) i:=
  ⟨_,dX (dX h g (at_row (Ą R.1 d))) e (MJ (Ab (Ą R.1 d)) f)⟩
def one_shl{j:Nat}(hj:ň j)(h:vA (Ō j)):Ť (nP e) (ů (2^j)):=by
  refine cA Ž h ?_;show(bU V' μ)=_;rw[ĉ ⟨mI j,Ę,Β⟩,aE,Mz]
  push_cast
  rfl
def two8(hn:n<=8)(h:S<2^n):S<2^64:=xu h Ă
def e_columns{fu k:Nat}{rows:Ċ}{w:Int}{n m:Nat}(R:ŧ)(hn0:0<n)(hn:n<=8)(hm:m<=8){S:Nat}(s0:0<S)(s1:S<2^n):cI 36 [Õ,.int S,.int w]=ε (ů (tW S)):=by
  rw[Ŧ Q5];have st:=Wl S s0 (two8 hn s1);unfold Q5;refine Ł (ab3 S (IZ ?_));have cm:=ab2 S m Ru (tg:=ma) (it:=.rng [vx 0])
    (cd:=ab1 Đ Ĭ) (fr:=Ry 3 2) (cl:=ĵ)
    (rng_w (len_r0 R hn0 ć) Ă) đ (xE hm) (fun c hc=>by
      have hc':=ź hc;refine(ab0 c S);refine Λ (ev_all (cl:=ĵ) (p:=FW r) (l:=cs S) ?_);refine abZ S r hn hr;obtain⟨c4,e⟩:=abY r c (cs_lt s1 hr) hc' Đ Ĭ;exact(jg _ (b_eq e ć)))
  have:=abX (oa S) (π 0) Đ Ĭ;exact this
def e_rows_with{fu k:Nat}{rows:Ċ}{w:Int}{n m:Nat}(R:ŧ)(hn0:0<n)(hn:n<=8)(hm:m<=8){C:Nat}(s0:0<C)(s1:C<2^m):cI 37 [Õ,.int C,.int w]=ε (ů (bw (RL rows w n (cs C)))):=by
  rw[Ŧ d_rows_with];have st:=Wl C s0 (two8 hm s1);unfold d_rows_with;refine Ł (ab3 C (IZ ?_));have cm:=ab2 C n (rp rows w (cs C)) (tg:=ma) (it:=.rng [pz])
    (cd:=ab1 Ĭ Đ) (fr:=Ry 3 2) (cl:=ĵ)
    (rng_w (len_tab R ć) Ă) đ (xE hn) (fun r hr=>by
      have hr':=ź hr;refine(ab0 r C);refine Λ (ev_all (cl:=ĵ) (p:=FW c) (l:=cs C) ?_);refine abZ C c hm hc;obtain⟨c4,e⟩:=abY c r hr' (cs_lt s1 hc) Ĭ Đ;exact(jg _ (b_eq e ć)))
  have:=abX (RL rows w n (cs C)) Đ Ĭ Đ;exact this
def pD(l:fW Int Int):Ĩ:=i5 p (ģ (Je p))
def wB:bI:=[Ŏ 4 (pv 36 ĺ ŝ),VV]
def al_succ(j:Nat):CB ż=CB j++[j+1]:=fA Ho Ë
def e_widest{fu k:Nat}{rows:Ċ}{w:Int}{n m:Nat}(R:ŧ)(hn0:0<n)(hn:n<=8)(hm:m<=8):fO (nW 35 vN) (pD (wdl rows w n m)):=by
  rw[Ŧ d_widest];have h8:2^n<=2^8:=tP hn;obtain⟨δ1,h1,z3,z4,rfl⟩:=M4 3 j (∃z3 z4:Sv,δ=[cG,iE,aI (pD (((CB j).filter xO).map (pr rows w m))),z3,z4])
    (body:=vJ (k+2) wB) (ψ n) 1 (δ:=[cG,iE,aI [],.no,.no])
    (fun j hj δ I=>by
      obtain⟨z3,z4,rfl⟩:=I;rw[aJ (AZ+É=ı ż)];have s1:j+1<2^n:=Ę
      have c1:=e_columns (fu:=fu) (k:=k) (w:=w) R hn0 hn hm (S:=j+1) Ă s1;obtain⟨L,hL⟩:∃L,((CB j).filter xO).map (pr rows w m)=L:=av;have hLl:B_<=255:=(by rw[←hL,ċ];refine Af ?_;rw[ċ,Μ];omega);rw[hL,al_succ,Rq,Ë,hL];have ecol:∀z:Sv,iB (k+2) (xL Í υ) Rz (fC (!RC)):=fun z=>by have e3:(ı vM==0)=RC:=(by rw[sM,ķ,List.isEmpty_iff];rw[aJ (ı vM=0↔vM=0)];exact bs_zero);refine M8 ?_;rw[ne_ii,e3]
      have main:∃δ2,eV (k+2) [VV] Rz=ſ δ2/\∃z3 z4:Sv,δ2=[cG,iE,aI (pD (L++([j+1].filter xO).map (pr rows w m))),z3,z4]:=by
        have ec:=ecol .no;by_cases hJ:oa ż=[]
        · have hg:xO ż=ă:=qI good hJ
          have hE:RC=true:=bQ hJ
          rw[hE]at ec;refine(Wm (dm (and_f ec) rfl));rw[MW hg,List.filter_nil,List.map_nil,fv]
        · have hne:RC=ă:=List.isEmpty_eq_false_iff.mpr hJ
          rw[hne]at ec;have c0:0<vM:=Rr (hJ (bs_zero.mp z))
          have cl2:vM<2^m:=(bs_f _ m).1;have r1:=e_rows_with (fu:=fu) (k:=k) (w:=w) R hn0 hn hm c0 cl2;have ecs:cs vM=oa ż:=cs_bs hJ;rw[ecs]at r1;have e2:iB (k+2) (br (pv 37 Í ŝ) ĺ) Rz (fC (xO ż)):=(by have q:=b_eq (CJ cI Rz 37 (dr 0 Õ) (dr 4 (ů vM)) (xG (pE 1 w)) r1) (dr 3 (ů (j+1)));have e3:(ı (bw (FX ż))==ı ż)=xO ż:=(by unfold good;rw[hne,Bool.not_false,qz,sM,ķ,ķ];omega);rw[q,e3]);cases hg:xO ż with
          | ă=>
            rw[hg]at e2;refine(Wm (dm (IY ec e2) rfl));rw[MW hg,List.filter_nil,List.map_nil,fv]
          | true=>
            rw[hg]at e2;refine(Wm (FT (IY ec e2) (xM (ev_app (d:=ģ [ů (j+1),ů vM]) (cl:=Ē) (ds:=pD L) rfl rfl rfl (L9 pD ċ (tm hLl đ)))) rfl));rw[Ej hg,List.filter_nil];unfold pD;rw[Ë];rfl
      obtain⟨δ2,g1,g2⟩:=main;exact⟨δ2,Ê (I_ (ů vM) Ē (vF (qU (dr 0 Õ) (dr 3 (ů (j+1))) (pE 1 w)) c1) rfl) g1,g2⟩) (f9 .no .no)
  unfold d_widest;exact Ł (Jg (Ai (rng_1n (n:=2^n) (one_shl (j:=n) Ă (len_tab R ć)) Ă) h1 (ib rfl)))
def eq_nil(h:zm 59):vO ŋ ee=ā Ky/\cmpD .NotEq ŋ ee=ā (!Ky):=by
  have p:bJ 60 ŋ=true:=h;have d:deq ŋ ee=Ky:=BQ ds
  refine(au ?_)
  · show(bU (_=true) μ)=_
    rw[p,d];rfl
  · show(bU (_=true) μ)=_
    rw[p,d];rfl
def qD(p:aW):DV:=ģ [Ō p.1,Ō p.2]
def hs(b e:aW):Bool:=b.1.testBit e.1&&b.2.testBit e.2
def nat_shr(o i:Nat):(o:Int)/pC i=ı (o/2^i):=by
   rfl
def and_bit(x y r c:Nat):(rW (rW ((x:Int)/pC r) ((y:Int)/pC c)) 1==1)=(x.testBit r&&y.testBit c):=by
  rw[nat_shr,nat_shr,band_nat];have:rW (ı (x/2^r &&& y/2^c)) 1=_:=band_nat _ 1;rw[this,Nat.and_one_is_mod];have h:=Nat.testBit_zero (x/2^r &&& y/2^c);rw[Nat.testBit_and,Nat.testBit_div_two_pow,Nat.testBit_div_two_pow,jW,jW]at h;rw[h];rcases Wn _ with z | z<;>rw[z]<;>rfl
def e_contains{fu k:Nat}(b e:aW):Ů 41 [qD b,qD e]=ε (.bl (hs b e)):=by
  rw[Ŧ d_contains];unfold d_contains;have i0:=ab4 (π 0) (π 1) b.1 e.1;have i1:=ab4 (Ã 0 1) (Ã 1 1) b.2 e.2;have q:=b_eq (cA (op:=rX) (cA (op:=rX) i0 i1 rfl) kR rfl) kR;rw[and_bit]at q;exact Ł (jh q)
def e_blocks{fu k:Nat}(bl:ø)(e:aW)(hb:M9):fO (cI 40 [kW,qD e]) (kU (CK e)):=by
  rw[Ŧ Q8];unfold Q8;exact Ł (gA (ab6 bl b (hs b e) e ab5))
def e_left{fu k:Nat}(es:ø)(b:aW)(hb:ň sP):fO (cI 42 [FY,qD b]) (kU (cv.lf hs es b)):=by
  rw[Ŧ d_left_bare];unfold d_left_bare;exact Ł (gA (ab6 es e (!hs b e) b (ev_not ab5)))
def cO:ĕ ø->Ou
  | Ś=>ab7 (c.map qD)
  | none=>Hh .non
def cB:bI:=aa9
def S5c(es bl:ø)(m:Nat)(z3 z4:Sv):Ĕ:=[ę FY,ę kW,aa m,z3,z4]
def lf_len(es:ø)(b:aW):Ć (cv.lf hs es b)<=sP:=Ac ..
theorem cov_loop{fu k:Nat}{es bl:ø}{m:Nat}(he:ň sP){g:aW->ĕ ø}(hg:∀b c,g b=Ś->ie<=999):∀(bw:ø) (z3 z4:Sv),
    (∀b∈bw,cI 43 [g_ (cv.lf hs es b) qD,kW,Ō m]=ā (cO (g b))) ->
    match cv.fst1 g bw with
    | Ś=>Wo z3 z4=ā (.rt (.lst (c.map qD)) true)
    | none=>∃z3' z4',Wo z3 z4=ſ (RE z3' z4')
  | [],z3,z4,_=>(f9 z3 z4)
  | b::bw,z3,z4,h=>by
    have hb:=h b ũ;have ih:=cov_loop (fu:=fu) (k:=k) (bl:=bl) (m:=m) he hg bw;have l:=bZ cI RD 42 [Đ,ĺ] [(FY,Ē),(qD b,Ē)] (e_left es b he);have m1:=i_sub (Jl cI RD 2 (ů (m+1))) kR;rw[aJ (ı (m+1) - 1=(m:Int))]at m1;unfold cv.fst1;cases q:g b with
    | some c=>
      rw[q]at hb;have cc:=ab8;refine forGo_rt (δ1:=RD) rfl (ac cc (Wp (gA (l_add (lst1 (xI 3) rfl) (xI 4) ?_))));rw[ċ];have:=hg b c q;show ň (1+ie);omega
    | none=>
      rw[q]at hb;have cc:=ab8;have st:∀δ2,Wo (ę (qD b)) (ę .non)=δ2->u0 3 (vJ (k+2) cB) (kU (b::bw)) (RE z3 z4)=δ2:=fun δ2 e=>ŏ e (FH (δ1:=RD) rfl (ac cc (go_ife (Λ (x:=ă) (cl:=Ē) rfl) rfl)))
      have:=ih (ę (qD b)) (ę .non) (fw b' hb')
      dsimp only;cases e':cv.fst1 g bw with
      | some c'=>rw[e']at this;exact st _ this
      | none=>
        rw[e']at this;obtain⟨z3',z4',e⟩:=this;exact⟨z3',z4',st _ e⟩
def ix0:ixD (.lst (d::ds)) υ=ā d:=by
  show atD _ 0=ā d;unfold atD fB;rw[ĉ đ,ĉ fz];rfl
def pl_qD(l:ø):gf 59 (aF qD)=true:=plains_of fun d a=>by
  obtain⟨p,_,rfl⟩:=Ő a;rfl
theorem e_cover{fu k:Nat}:∀(m:Nat) (es bl:ø),ň sP->M9->m<=900->tX (k+m+3) 43 [FY,kW,Ō m]=ā (cO (mh m es))
  | m,[],bl,_,_,_=>by
    rw[Ŧ Cu];unfold Cu;have:mh m []=ā []:=BQ m
    rw[this];exact Ł (Wp (gA RG))
  | 0,lG,bl,_,_,_=>by rw[Ŧ Cu];unfold Cu;have q:iB (k+0+2) (br Đ ee) (Ŗ 5 [CL es,kW,ů 0]) (fC ă):=aca;exact Ł (dm q (Wp ab9))
  | m+1,lG,bl,he,hb,hm=>by
    rw[Ş (k+(m+1)+3=(k+m+3)+1),Ŧ Cu];unfold Cu;have q:iB (k+m+3) (br Đ ee) RF (fC ă):=aca;have q2:iB (k+m+3) (br Ĭ υ) RF (fC ă):=by have:=b_eq (Jl (tX (k+m+3)) RF 2 (ů (m+1))) (Ν 0);rw[this,iF Ă]
    have w:ax (M' (k+m+3) (ľ 40 [ŝ,π 0]) RF)=bt (kU (CK e)):=(bQ (ev_call (f:=40) (es:=[ŝ,π 0]) (l:=[(kW,Ē),(qD e,Ē)]) (ab ć (fN (dr 0 (.lst (qD e::Jm))) (Ν 0) ix0) Α) rfl (e_blocks (fu:=fu) (k:=k+m+1) bl e hb)));have lp:=cov_loop (fu:=fu) (k:=k+m+1) (es:=lG) (bl:=bl) (m:=m) he (g:=Wq) (fun b c hc=>š (cv.cov_ok hs hc).2.2 Ă) (CK e) .no .no fun b _=>e_cover m (cv.lf hs ai b) bl (š (lf_len ..) he) hb Ă
    show _=ā (cO (cv.fst1 Wq (CK e)));cases e':cv.fst1 Wq (CK e)with
    | some c=>
      rw[e']at lp;exact Ł (dm q (dm q2 (go_for w iK lp)))
    | none=>
      rw[e']at lp;obtain⟨z3,z4,lp⟩:=lp;exact Ł (dm q (dm q2 (go_fo w iK lp ab9)))
section
variable {rows:List (List Int)} {w:Int} {n m:Nat}
def rE(rows:Ċ)(w:Int)(m r:Nat):ø:=ļ (cg m (FW c)) c (r,c)
def eE(rows:Ċ)(w:Int)(m:Nat)(l:Ġ):ø:=l.flatMap CM
def rE_len(r:Nat):Ć (CM r)<=m:=by
  unfold rE;rw[ċ];refine Af ?_;rw[Μ];exact ħ
def eE_len(l:Ġ):Ć (xP l)<=Ň*m:=by
  induction l with
  | nil=>exact cX
  | cons r l ih=>
    have h:=Wr r;show Ć (CM r++xP l)<=_;rw[Â,ť,Nat.succ_mul];omega
def rE_D(r:Nat):kU (CM r)=ļ (cg m (FW c)) (c:Nat) (pG r (Ō c)):=by
  unfold rE;rw[ŗ];rfl
def mem_eE:p∈xP l↔p.1∈l/\p.2<m/\pF p.1 p.2=w:=by
  unfold eE rE;rw[List.mem_flatMap];constructor
  · rintro⟨r,d,h⟩
    obtain⟨c,e,rfl⟩:=Ő h;obtain⟨b,a⟩:=bN e;exact⟨d,ź b,Ķ a⟩
  · rintro⟨b,a,f⟩
    exact⟨p.1,b,eO p.2 (gK a (Ķ f))⟩
universe E_
def ev_extL(c:dY sC)(h:m_ e a ĵ)(b:ň (œ+bR)):ic (.ext i e)=ā (wO (ds++a)):=by
  show(sA ω sC uX _ none)=_;rw[c];dsimp only;rw[h];show(abz Cl.fresh)=_;rw[ĉ iK,ĉ (Ç b)]
def run_lam{fu k:Nat}{m:LamD}{cs args:Ĩ}{d:DV}(h1:Tu)(h:fE m.body Tt=ā lE)(hd:zw):Ů cZ (dQ::args)=iY:=by
  have e1:Ů cZ (dQ::args)=lamR fE (dQ::args):=rfl;rw[e1];show(if Tu then(match fE m.body Tt with
    | ā lE=>VL
    | _=>none)else none)=_
  rw[ĉ h1,h];exact ĉ hd
theorem nl_q:∀l:ø,m9 (aF qD)
  | []=>rfl
  | p::l=>by show ņ ((qD p).nolam&&lC _);rw[nl_q l];rfl
theorem enu_mq:∀(l:Ċ) (j:Nat),enuD j (i5 r jf)=eS Ň cT (Ws j i)
  | [],_=>rfl
  | r::l,j=>by
    show pG j jf::enuD ż (i5 r jf)=_;rw[enu_mq l ż,ť,Bp,Η,ŗ]
    congr 1
    apply c_;intro i _;show Ws (j+1) i=Ws j ü;rw[Ş (j+1+i=j+ü)]
def xB:bI:=[Q4 (.rng [Þ [χ]]) Ĭ 5]
theorem cho_walk(R:ŧ)(v:m<=8):∀(l:Ġ) (a:ø) (o g:Sv),(∀r∈l,r<n)->bR+Ň*8<=900 ->
    ∃d b,jR (jP [4,5]) (fun q=>lH xB q) (i5 Cw (pG j (z_ j))) [cG,iE,ę x,RH,o,g]=ſ [cG,iE,ę x,aI (kU (a++xP l)),d,b]
  | [],a,o,g,_,_=>⟨o,g,Mw eE List.flatMap_nil fv⟩
  | r::l,a,o,g,h,B=>by
    have A:=h r ũ;have rl:=Wr r;rw[ť]at B;obtain⟨d,b,e⟩:=cho_walk (x:=x) R v l (a++CM r) _ _ (fw x z) (Ź Â);refine(bx d b);rw[show a++xP (r::l)=a++CM r++xP l by rw[wA];rfl,←e];have y:=Ab (Ą R.1 A);have u:=FB F [cG,iE,ę x,RH,aa r,ę (z_ r)] (e:=χ) (c:=Ē) rfl;rw[MK (az r) m y]at u;have c:=xF (F:=F) (f:=fun (c:Nat)=>pG r (Ō c)) (p:=FW c) (elt:=ģ IP) (tg:=ma)
      (fr:=[none,ā 4,ā 5,ā 1]) (cl:=ĵ) (rng_w u Ă) đ (xE v) (fun c C=>by
        have s:=ź C;refine(FM [ī c,ī r,ę _,iE] ?_ rfl);exact Λ (b_eq (dX (xI 2) (xI 0) (MJ y s)) (xI 3)))
    rw[←rE_D]at c;have ex:=ev_extL (fu:=fu) (i:=3) (ds:=a.map qD) rfl c (mQ ċ ċ);rw[←Ë]at ex;exact FH rfl (Ê ex rfl)
theorem keys_q(h:∀p,F cZ [mm,qD p]=ā (lF (g p))):∀l:ø,uR mm (aF qD)=ā (aF g)
  | []=>rfl
  | p::l=>by
    show(match F cZ _ with
      | ā (lF k)=>(uR mm _).map _
      | _=>none)=_
    rw[h p,keys_q h l];rfl
def put_map(h:∀i∈a,i<Ň):jO DV.non a (aF qD)=kU (jO (0,0) a l):=by
  unfold jO;rw[ŗ];apply c_;intro i b;have:=h i b;simp[Ħ,ō,Ľ this]
def sortIz_perm(ks:Ď)(h:¬cY<64->nonDec ks=true):∃ix,uP ks=ā ix/\ix.Perm (Ū cY):=by
  unfold uP;split
  · exact sortIx_perm ks
  · rename_i z
    rw[ĉ (h z)];exact(Á _ (.refl _))
def e_choice{fu k:Nat}{rows:Ċ}{w:Int}{n m:Nat}(R:ŧ)(hn0:0<n)(hn:n<=8)(hm:m<=8){bl:ø}(hb:M9)(h64:Ć pH<=64)(hnd:¬Ć pH<64->nonDec (ļ pH p (wS (CK p)))=true):∃es':ø,es'.Perm pH/\fO (fQ 4 39 [Õ,.int w,kW]) (es'.map qD):=by
  obtain⟨z4,z5,e⟩:=cho_walk (F:=nW) (fu:=fu) (w:=w) (x:=kW) R hm (Ū n) [] .no .no (fun r hr=>ź hr) (by rw[Μ];show 0+n*8<=900;omega);rw[Oy]at e;obtain⟨es,hes⟩:∃es,es=pH:=av;rw[←hes]at e h64 hnd ⊢;obtain⟨ix,i1,i2⟩:=sortIz_perm (es.map fun p=>wS (CK p)) (Ą ċ hnd);rw[ċ]at i2;refine(bx (jO (0,0) ix es) (putIx_perm i2));rw[Ŧ Q7];unfold Q7;have hk:=keys_q (F:=nW) (mm:=.lam (Bj ["entry",FZ] 1 Wt) [kW]) (g:=fun p=>wS (CK p)) (fun p=>by
    refine run_lam (k:=k+2) (args:=[qD p]) ⟨rfl,rfl,rfl,?_⟩ ?_ rfl
    · show ņ (lC Jn&&true)
      rw[nl_q];rfl
    · have:=ky (bZ cI [ę (qD p),ę kW] 40 IP [(kW,Ē),(qD p,Ē)] (e_blocks bl p hb))
      rw[ċ]at this;exact this) es
  have sr:tY 3 aa8 acb=bt (g_ (jO (0,0) ix es) qD):=by
    show srtkE G nW (evE G _ ĺ _) ["entry",FZ] 1 Wt (capD _ [2])=_;have cp:capD acb [2]=ā [kW]:=by show(JG (DV.lst Jn).nolam [DV.lst Jn])=_;rw[show(DV.lst Jn).nolam=lC Jn from rfl,nl_q];rfl
    rw[cp];unfold srtkE;dsimp only;rw[ĝ dh,ev_vown (d:=FY) rfl];show(if(true=true)/\Ć Jm<=64 then(keysL _ _ Jm).bind fun ks=>ļ (uP ks) ix (jS (OS Jm) ĵ) else none)=_;rw[ĉ (bG (Ą ċ h64)),hk,qf,i1,gV,put_map (Ĵ hi (ź (i2.mem_iff.mp hi)))]
  refine Ł (Ê (sF RG) (go_fo (cl:=Ē) ?_ Ð e (jh sr)));show ā (M_ (dn jf) _)=_;rw[enu_mq,R.1];simp only[jW];rfl
section
variable {rows:List (List Int)} {w:Int} {n m:Nat}
def wN(rows:Ċ)(w:Int)(n m:Nat):ø:=ļ ((al n).filter xO) S (S,tW S)
def pD_wl:pD (wdl rows w n m)=kU fR:=by
  unfold pD wdl wN;rw[ŗ,ŗ];rfl
def wN_len(a:n<=8):ň (Ć fR):=by
  unfold wN;rw[ċ];refine Af ?_;unfold al;rw[ċ,Μ];have:2^n<=2^8:=tP a;omega
def rb(rows:Ċ)(w:Int)(n m i:Nat):aW:=(bw (FX (2^i)),tW (2^i))
def cs_pow(h:r∈cs (2^i)):i=r:=by
  have a:=(bN h).2;rw[VQ]at a;exact Pl a
def mem_JL(b:j<m)(h:jn=w):j∈oa (2^i):=by
  refine gK b (Ak (Ĝ r a));rw[←cs_pow a,h];exact oK _
def rb_mem(e:i<n)(d:j<m)(h:jn=w):rb rows w n m i∈fR:=by
  have b:oa (2^i)≠[]:=fun q=>by have:=mem_JL d h;rw[q]at this;cases this
  obtain⟨l,g,f,c,a⟩:=closed (Nat.pow_pos đ) (Nat.pow_lt_pow_right đ e) b;refine Ke (bx l (zR ⟨mem_al.mpr ⟨g,f⟩,good_iff.mpr ⟨Ą a b,Ą a c⟩⟩));unfold rb;rw[a,c]
def rb_has{i j:Nat}(hi:i<n)(hj:j<m)(h:jn=w):hs (rb rows w n m i) (i,j)=true:=by
  unfold hs rb;rw[Ĉ];constructor
  · show zV (bw (FX (2^i)))=true
    unfold RL;rw[(bs_f _ n).2,þ hi,qz];refine Ak (Ĝ c hc)
    have h2:0<2^i:=Nat.pow_pos đ;exact qB (bN hc).2 i (gK (Ź Nat.log2_two_pow) (Ą VQ (þ rfl)))
  · show d_ (tW (2^i))=true
    unfold JL;rw[(bs_f _ m).2,þ hj,qz];exact(bN (mem_JL hj h)).2
def cov_rows(f:∀p∈es,p∈pH):cv.cov hs n es fR≠none:=by
  refine cv.cov_all hs (c:=(cg n fun i=>(Ū m).any fun j=>jn==w).map (rb rows w n m)) (cQ o) (Ĝ p h) ?_
  · obtain⟨i,l,rfl⟩:=Ő o
    obtain⟨d,a⟩:=bN l;obtain⟨j,g,q⟩:=Rj a;exact rb_mem (ź d) (ź g) (Ķ q)
  · obtain⟨d,a,e⟩:=mem_eE.mp (f p h)
    exact⟨_,eO p.1 (zR ⟨d,Rk ⟨p.2,o6 a,Ķ e⟩⟩),rb_has (ź d) a e⟩
  · rw[ċ]
    refine Af ?_;rw[Μ];exact ħ
universe E_
def const_hs{rows:Ċ}{w:Int}{n m:Nat}(hall:∀i<n,∀j<m,jn=w){b:aW}(hb:b∈fR){i j:Nat}(hi:i<n)(hj:j<m):hs b (i,j)=true:=by
  obtain⟨S,h,rfl⟩:=Ő hb;obtain⟨h1,h2⟩:=bN h;have h1:=mem_al.mp h1;have h2:=good_iff.mp h2;show ņ (S.testBit i&&d_ (tW S));rw[Ĉ];constructor
  · rw[←h2.2]
    unfold RL;rw[(bs_f _ n).2,þ hi,qz];refine Ak (Ĝ c hc)
    rw[hall i hi c (ź (bN hc).1)];exact oK _
  · unfold JL
    rw[(bs_f _ m).2,þ hj,qz];refine Ak (Ĝ r hr)
    rw[hall r (qZ h1.2 hr) j hj];exact oK _
theorem eE_full{rows:Ċ}{w:Int}{m:Nat}:∀{l:Ġ},Ć (xP l)=Ň*m->∀r∈l,∀j<m,pF r j=w
  | [],_,r,hr,_,_=>eP hr
  | a::l,h,r,hr,j,hj=>by
    have h1:=Wr a;have h2:=Wu l;have h3:Ć (xP (a::l))=Ć (CM a)+Ć (xP l):=Â ..;rw[ť,Nat.succ_mul]at h;rcases Ŀ hr with e | hr
    · have q:Ć (CM a)=m:=Ę
      unfold rE at q;rw[ċ]at q;have:=List.length_filter_eq_length_iff.mp (q.trans (Μ (n:=m)).symm) j (o6 hj);rw[e];simpa using this
    · exact eE_full (l:=l) Ă r hr j hj
theorem nonDec_const{α:Type}{f:α->Int}{c:Int}:xC Ρ x (f x=c) (nonDec (aF f)=true)
  | [],_=>rfl
  | [_],_=>rfl
  | a::b::l,h=>by show ņ (ě (f a<=f b)&&nonDec ((b::l).map f));rw[nonDec_const (l:=b::l) (fw x hx),h a ũ,h b (Ŕ ũ),þ (Int.le_refl _)];rfl
def eE_64{rows:Ċ}{w:Int}{n m:Nat}(hn:n<=8)(hm:m<=8):Ć pH<=64:=by
  have:=Wu (Ū n);rw[Μ]at this;exact š this (Cz hn hm)
def nd_keys{rows:Ċ}{w:Int}{n m:Nat}(hn:n<=8)(hm:m<=8)(h:¬Ć pH<64):nonDec (ļ pH p (wS (cv.wi hs fR p)))=true:=by
  have a:=Wu (Ū n);have b:n*m<=8*8:=Cz hn hm;have al:=eE_full (rows:=rows) (w:=w) (m:=m) (l:=Ū n) (by rw[Μ]at a ⊢;omega);refine nonDec_const (c:=(Ć fR:Int)) wE
  obtain⟨x1,x2,_⟩:=mem_eE.mp hx;have:cv.wi hs fR x=fR:=List.filter_eq_self.mpr fun b hb=>const_hs (tZ (al i (o6 hi) j hj)) hb (ź x1) x2
  rw[this]
def ev_ownN(h:Ť e .non):ic (fF i e)=ā (sB (ę .non)):=by
  have a:ic (fF i e)=uX:=rfl;rw[a,h];rfl
def ev_aug(f:dY (ī a))(h:jT e b c):ic (.aug i e)=ā (sB (ī (a+b))):=by
  have g:ic (.aug i e)=(asIv ω).bind fun a=>Ts _ μ:=rfl
  rw[g,f,h];rfl
def sv:ĕ ø->Sv
  | Ś=>aI (c.map qD)
  | none=>ę .non
def cE:ME:=VW
def wB':bI:=[.aug 4 Å,fF 5 cE]
def S6c(x:DV)(w:Int)(bl es:ø)(j:Nat)(z:Sv):Ĕ:=[ę x,iE,ę kW,ę FY,vE,z]
def set_cov{fu k:Nat}{x:DV}{w:Int}{bl es:ø}{z:Sv}{j:Nat}(hj:j<=8)(he:ň sP)(hb:M9):evS G (fQ 11) fu (fF 5 cE) (Jo j z)=ſ (Jo j (sv (mh j es))):=by
  have q:=e_cover (fu:=fu) (k:=k+(8 - j)) j es bl he hb Ă;rw[Ş (k+(8 - j)+j+3=k+11)]at q;cases z:mh j es with
  | some c=>
    rw[z]at q;exact sF acd
  | none=>
    rw[z]at q;exact ev_ownN acd
theorem wh_cov(m:n<=8)(g:ň sP)(l:M9)(h:mh n es≠none):∀(d j f:Nat),j+d=n->d<f->(∀i<j,mh i es=none) ->
    ∃t c,t<=n/\mh t es=Ś/\(∀i<t,mh i es=none)/\yR (fun a=>tstD (tY 11 VX a)) (fun a=>eV (k+11) wB' a) f (Jo j (sv (mh j es)))=ſ (Jo t (sv Ś))
  | d,j,0,_,e,_=>eP e
  | d,j,f+1,hd,e,b=>by
    cases z:mh j es with
    | some c=>
      refine⟨j,c,Ę,z,b,?_⟩;have t:tstD (tY 11 VX (Jo j (sv Ś)))=μ:=Λ rfl;exact while_f t
    | none=>
      cases d with
      | zero=>
        have:j=n:=Ę
        subst this;exact ĸ z h
      | succ d=>
        obtain⟨t,c,u,s,r,p⟩:=wh_cov m g l h d ż f Ă Ă (fun i o=>by
          rcases O5 (Tz o)with q | q
          · exact b i q
          · rw[q];exact z)
        refine⟨t,c,u,s,r,?_⟩;have v:=ev_aug (F:=fQ 11) (fu:=fu) (δ:=Jo j (sv none)) (i:=4) rfl kR;exact while_t (Λ rfl) (Ê v (xM (set_cov (j:=j+1) (z:=sv none) Ă g l))) p
def cov_perm{es:ø}(h:∀p∈es,p∈a)(q:mh m es=none):mh m a=none:=by
  cases z:mh m a with
  | none=>rfl
  | some c=>
    obtain⟨f,e,d⟩:=cv.cov_ok hs z;exact ĸ q (cv.cov_all hs f (fun p b=>e p (h p b)) d)
def e_fcover{fu k:Nat}{rows:Ċ}{w:Int}{n m:Nat}(R:ŧ)(hn0:0<n)(hn:n<=8)(hm:m<=8)(h1:tU)(h2:tR)(hf:100<=fu):∃(es' c:ø) (t:Nat),es'.Perm pH/\cv.cov k91.hs t es' fR=Ś/\(∀i<t,cv.cov k91.hs i es' fR=none)/\t<=n/\fO (fQ 12 38 vN) (c.map qD):=by
  have hb:=wN_len (rows:=rows) (w:=w) (m:=m) hn;obtain⟨es',p,ch⟩:=e_choice (fu:=fu) (k:=k+7) (w:=w) R hn0 hn hm hb (eE_64 hn hm) (nd_keys hn hm);have he:ň es'.length:=zK p.length_eq (eE_64 (rows:=rows) (w:=w) hn hm)
  obtain⟨t,c,q1,q2,q3,q4⟩:=wh_cov (fu:=fu) (k:=k) (x:=Õ) (w:=w) (bl:=fR) (es:=es') hn he hb (cov_rows fun q hq=>p.mem_iff.mp hq) n 0 fu Ă Ă (Ĵ hi (eP hi));refine⟨es',c,t,p,q2,q3,q1,?_⟩;have wd:=e_widest (fu:=fu) (k:=k+8) (w:=w) R hn0 hn hm;rw[pD_wl]at wd;have ck:=acf 6 hn0;rw[Ŧ Q6];unfold Q6;have e0:ace=ſ (Ŗ 6 vN):=by
    have e1:ace=Re.thnS (Ŗ 6 vN) (tY 11 (Ε 10) (Ŗ 6 vN)) fun _ _=>ſ (Ŗ 6 vN):=rfl
    rw[e1,me f 10 (l:=[tN]) rfl ck];rfl
  refine Ł (Ê e0 (tQ (me f 35 (l:=[tN,n6 w]) rfl wd) (me f 39 (l:=[tN,n6 w,(g_ fR qD,Ē)]) rfl ch) (Ê (I_ υ Ē rfl rfl) (Ê (set_cov (k:=k) (j:=0) (z:=.no) Ă he hb) (go_wh q4 (gA xQ))))))
def Lst(E bl:ø)(t:Nat):Prop:=mh t E≠none/\∀i<t,mh i E=none
def Lst.uniq(h:Lst E bl t)(g:Lst E bl u):t=u:=by
  rcases KN t u with z | z | z
  · exact ĸ (g.2 t z) h.1
  · exact z
  · exact ĸ (h.2 u z) g.1
def Lst.perm(h:Lst E bl t)(p:E.Perm b):Lst b bl t:=
  ⟨fun z=>h.1 (cov_perm (fun q a=>p.mem_iff.mpr a) z),Ĵ c (cov_perm (fun q a=>p.mem_iff.mp a) (h.2 i c))⟩
def e_few{fu k:Nat}{rows:Ċ}{w:Int}{n m:Nat}(R:ŧ)(hn0:0<n)(hn:n<=8)(hm:m<=8)(h1:tU)(h2:tR)(hf:100<=fu){t:Nat}(ht:RJ) :
    ∃c:ø,ie=t/\(mv c fR)/\(∀e∈pH,RI e)/\fO (fQ 12 38 vN) (c.map qD):=by
  obtain⟨es',c,u,p,h1,h2,_,h4⟩:=e_fcover (fu:=fu) (k:=k) R hn0 hn hm h1 h2 hf;have hu:Lst es' fR u:=⟨(fun z=>jb z h1 h1),h2⟩;have:=(hu.perm p).uniq ht;subst this;obtain⟨q1,q2,_⟩:=cv.cov_ok hs h1;exact⟨c,cv.cov_least hs h1 h2,q1,fun e he=>q2 e (p.mem_iff.mpr he),h4⟩
def ex_least(hn:n<=8):∃t,t<=n/\RJ:=by
  have g:∀d j,j+d=n->(∀i<j,cv.cov hs i pH fR=none)->∃t,t<=n/\RJ:=by
    intro d
    induction d with
    | zero=>
      intro j f a;have:j=n:=Ę
      subst this;exact⟨j,ħ,(cov_rows Na),a⟩
    | succ d e=>
      intro j f a;cases z:cv.cov hs j _ _ with
      | some c=>exact⟨j,Ę,(fun q=>jb z q q),a⟩
      | none=>
        refine e ż Ă (eZ b)
        rcases O5 (Tz b)with q | q
        · exact a i q
        · rw[q];exact z
  exact g n 0 Ă (Ĵ b (eP b))
section
variable {α β:Type}
def mA(ap:α->ń α):Ρ->Ρ
  | []=>[]
  | e::l=>acg ap (ap e)
termination_by l=>Ň
decreasing_by
  all_goals simp only[ť]
  all_goals first | exact Bs _ | exact Nat.lt_succ_of_le (Ac ..) | exact Nat.lt_succ_of_le (Ą List.length_unattach (Af (Ą List.length_attach ħ)))
def mA_nil:mA a []=[]:=by unfold mA;rfl
def mA_cons:mA a (e::l)=acg a (a e):=by
  rw[mA]
theorem mA_sub(a:α->ń α):∀(n:Nat) (l:Ρ),Ň<=n->(mA a l).Sublist l
  | _,[],_=>Ą mA_nil (List.Sublist.refl _)
  | 0,_::_,h=>og h
  | n+1,e::l,h=>by
    rw[ť]at h;rw[mA_cons];split
    · exact(Ţ (mA_sub a n _ (Af Ă)) Wv).cons₂ _
    · exact(mA_sub a n l Ă).cons _
theorem mA_apart(c:α->ń α):∀(n:Nat) (l:Ρ),Ň<=n->(mA c l).Pairwise fun a b=>c a b=true
  | _,[],_=>Ą mA_nil Oj
  | 0,_::_,h=>og h
  | n+1,e::l,h=>by
    rw[ť]at h;rw[mA_cons];have d:xH (c e)<=n:=Af Ă;split
    · refine Hk ⟨Ĝ x f,mA_apart c n _ d⟩
      exact(bN ((mA_sub c n _ d).subset f)).2
    · exact mA_apart c n l Ă
universe E_
def kp(f:iw)(p q:aW):Bool:=if f q.1 q.2 != CN then ă else(f p.1 q.2 != CN||f q.1 p.2 != CN)
def entsI(f:iw)(w:Int)(J:Ġ)(I:Ġ):ø:=I.flatMap fun r=>Ww
def mem_ents(h:p∈CO I):p.1∈I/\p.2∈J/\CN=w:=by
  obtain⟨r,a,b⟩:=List.mem_flatMap.mp h;obtain⟨c,d,rfl⟩:=Ő b;obtain⟨g,e⟩:=bN d;exact⟨a,g,eq_of_beq e⟩
def ev_p0(h:Ť e (qD p)):Ť (.ix e υ) (Ō p.1):=xR h
def ev_p1(h:Ť e (qD p)):Ť (.ix e Å) (Ō p.2):=xR h
def ev_or2{F:Ŵ}{δ:Ĕ}{a b:ME}{x y:Bool}{cx:Cl}(ha:Ť a (.bl x))(hb:Ť b (.bl y)):Bo (.or [a,b]) (x||y):=by
  cases x with
  | true=>exact ev_or2t ha
  | ă=>rw[Bool.false_or];exact ev_or2f ha hb
def ev_cross{F:Ŵ}{δ:Ĕ}{n m:Nat}{f:iw}{d:DV}{p q:aW}{w:Int}{wv:ME}(L:Jh)(h0:Ť Đ d)(h1:Ť Ń (qD p))(h2:Ť Ĭ (qD q))(h3:Ũ ĺ=ā (Ψ w))(p1:p.1<n)(p2:p.2<m)(q1:q.1<n)(q2:q.2<m) :
    Bo aa6 (f p.1 q.2 != w||f q.1 p.2 != w):=
  ev_or2 (cx:=Ē) (b_ne (ev_at L h0 (ev_p0 h1) (ev_p1 h2) p1 q2) h3) (b_ne (ev_at L h0 (ev_p0 h2) (ev_p1 h1) q1 p2) h3)
def e_keep{fu k n m:Nat}{f:iw}{d:DV}(L:Jh){p q:aW}(p1:p.1<n)(p2:p.2<m)(q1:q.1<n)(q2:q.2<m):Ů 34 [d,qD p,qD q]=ε (.bl (kp f p q)):=by
  rw[Ŧ d_keep_apart];unfold d_keep_apart kp;have s1:qV k (MC 1 1) (Ŗ 4 [d,qD p,qD q]) CN:=ev_at L ć (ev_p0 ć) (ev_p1 ć) p1 p2;have t1:=b_ne (F:=Ý) (δ:=[dP,ę (qD p),ę (qD q),ī CN]) (ev_at (a:=Đ) (b:=π 2) (e:=Ã 2 1) L ć (ev_p0 ć) (ev_p1 ć) q1 q2) (xI 3);refine Ł (ac s1 ?_);cases h:f q.1 q.2 != CN with
  | true=>
    rw[h]at t1;rw[js];exact go_ifr (Λ t1) (ib rfl)
  | ă=>
    rw[h]at t1;rw[oA];exact dm t1 (gA (ev_cross (wv:=ĺ) L ć ć ć ć p1 p2 q1 q2))
def ite_t(h:yP=ā Bh)(d:Ũ a=o):Ũ KF=o:=by
  show Rt.thn _ _=o;rw[h];exact d
def ite_f(h:yP=ā yM)(d:Ũ b=o):Ũ KF=o:=by
  show Rt.thn _ _=o;rw[h];exact d
def eq_nilQ(l:ø):vO (Ek qD) ee=ā (l==[]):=by
  have b:bJ 60 pL=true:=pl_qD l;show(JG (ņ (bJ 60 _&&bJ 60 _)) (deq _ _))=_;rw[b];cases l with
  | nil=>rfl
  | cons a r=>rfl
def b_ge(d:oX)(c:oW):O3 .GtE (j<=i):=KK
def ev_compiP{l:ø}{cd:ME}(hw:uU=ā (.ok (aF qD) cl))(c:qg cl)(b:ň Ň)
    (h:Tx a l δ' ((Tg.one 0).bind (qD a) EU) (ā δ') (Ų Đ δ'=eA (qD a))):Ż (xw it cd fr) (g_ (vG p) qD) ĵ:=
  xF hw c (Ç b) fun a d=>by obtain⟨δ',g,f,e⟩:=h a d;exact⟨δ',g,f,Ē,e,rfl⟩
theorem e_most{fu n m:Nat}{f:iw}{d:DV}(L:Jh):∀(N:Nat) (l:ø) (k:Nat),Ň<=N->N<=900->N+2<=k->(∀p∈l,p.1<n/\p.2<m)->fO (Ý 33 [d,Ek qD]) (kU Nb)
  | N,[],k+1,_,_,_,_=>by rw[Ŧ IN,mA_nil];unfold IN;exact Ł (go_ifr (Λ (iZ (x:=ee) (y:=ee) (cx:=Ē) (cy:=ĵ) ć rfl (eq_nilQ []))) (ib rfl))
  | 0,_::_,_,h,_,_,_=>og h
  | N+1,e::l,k+1,h,h9,hk,hr=>by
    rw[ť]at h;rw[Ŧ IN];unfold IN;have rl:∀p∈l,p.1<n/\p.2<m:=fun p hp=>hr p (Ŕ hp)
    have re:=hr e ũ;have hfl:xH (kp f e)<=N:=Af Ă;have r1:=e_most (fu:=fu) (k:=k) L N (vG (kp f e)) hfl Ă Ă fun p hp=>rl p (bN hp).1
    have r2:=e_most (fu:=fu) (k:=k) L N l Ă Ă Ă rl;have t0:tstD (fE (br Ń ee) (Ŗ 6 [d,CL l]))=ā yM:=Λ (iZ (cx:=Ē) (cy:=ĵ) (x:=CL l) (y:=ee) ć rfl (eq_nilQ (e::l)));have s1:iB k (π 1) (Ŗ 6 [d,CL l]) (dU (qD e)):=fN (x:=CL l) (y:=υ) ć Ž (by
      have h0:mJ<wS (kU (e::l)):=Ģ
      simp only[ixD,atD,fB,ĉ (Int.le_refl 0),ĉ h0,qf];rfl)
    have s2:fE (.slf Ń Å) [dP,ę (CL l),ę (qD e),.no,.no,.no]=bt (Ek qD):=ev_slf (c:=Ē) (c1:=Ē) (ds:=kU (e::l)) (h:=1) ć Ž;have cm:=ev_compiP (F:=Ý) (δ:=RM .no .no) (l:=l) (p:=kp f e) (it:=ĺ) (cd:=ľ 34 [ŝ,Ĭ,Đ]) (fr:=lW 0 2) (cl:=Ē) rfl đ Ă
      fun a ha=>⟨[ę (qD a),dP,ę (qD e)],rfl,Λ (cl:=Ē) (me fr ă (l:=[(d,Ē),(qD e,Ē),(qD a,Ē)]) rfl (by
        obtain⟨k',rfl⟩:∃k',k=k'+1:=(yH k);exact e_keep (fu:=fu) (k:=k') L re.1 re.2 (rl a ha).1 (rl a ha).2)),iC⟩
    have lt:∀l:ø,Ć (kU Nb)<=Ň:=fun l=>rF ċ (mA_sub (kp f) _ l ħ).length_le
    have s3:fE aa5 (RM .no .no)=bt (CL RK):=
      l_add (x:=[qD e]) (cx:=ĵ) (cy:=ĵ) rfl (MV cm r1) (by have:=lt (vG (kp f e));simp only[oI];omega)
    have s4:fE (gz 33 ĺ) (RM (aI (kU (e::RK))) .no)=bt (g_ Nb qD):=MV ć r2;have t1:=b_ge (F:=Ý) (δ:=RM (aI (kU (e::RK))) (aI (kU Nb))) (ky (ev_vown (n:=4) rfl)) (ky (ev_vown (n:=5) rfl));rw[ċ,ċ]at t1;refine Ł (go_ife t0 (tQ s1 s2 (Ê (sF s3) (Ê (sF s4) (ib ?_)))));rw[mA_cons];by_cases hle:Ć Nb<=Ć (e::RK)
    · rw[ĉ hle]
      rw[Co]at t1;exact uY (cl:=.top) (ite_t (Λ t1) xQ)
    · rw[ĝ hle]
      rw[r_]at t1;exact uY (cl:=.top) (ite_f (Λ t1) xQ)
variable {fu k:Nat} {F:Nat->List DV->Option Ou} {δ:List Sv} {ds:List DV} {cl:Cl} {n m:Nat} {f:Nat->Nat->Int} {d:DV}
variable {rows:List (List Int)}
theorem ents_len(f:iw)(w:Int)(J:Ġ):∀I:Ġ,Ć (CO I)<=B5*qH
  | []=>aC entsI
  | r::I=>by have q:=ents_len f w J I;show Ć (_++CO I)<=_;rw[Â,ċ,ť,Fz,Fd];have:=Ac (fun c=>f r c==w) J;omega
def ap_row(L:Jh)(e:r<n)(h:IV)(b:qH<=8)(a:Sv):Ų (sQ (ģ IP) ma Ĭ (br (.ix (Cs Ń) Đ) ĺ) (Ry 4 1)) [dP,iE,tL J,a,aa r]=bt (g_ Ww qD):=by
  rw[ŗ];exact xF rfl đ (Ç b) fun j g=>
    (FM [ę _,ę _,dP,ę _] (Λ (b_eq (ev_at L ć ć ć e (h j g)) ć)) rfl)
theorem ap_go(L:Jh)(l:IV)(g:qH<=8):∀(I:Ġ) (a:ø) (z:Sv),(zS I)->bR+B5*qH<=900->∃e,u0 4 (fun b=>lH [Q4 Ĭ (Cs Ń) 0] b) (nD I) [dP,iE,tL J,RH,z]=ſ [dP,iE,tL J,aI (kU (a++CO I)),e]
  | [],a,z,_,_=>⟨z,fA (show CO []=[]from rfl) fv⟩
  | r::I,a,z,o,p=>by rw[ť,Fz,Fd]at p;have cl:=Ac (fun c=>f r c==w) J;obtain⟨e,h⟩:=ap_go L l g I (a++Ww) _ (Ĵ q (o i (Ŕ q))) (mQ Â ċ);refine(au e);show jR _ _ (dL::nD I) _=_;rw[FH rfl (xM (ev_extL rfl (ap_row L (o r ũ) l g RH) (by rw[ċ,ċ,ċ];omega))),←Ë];rw[ž (CO (r::I)=_++CO I) rfl,←wA];exact h
def tell(rows:Ċ)(m:Nat)(w:Int):ø:=mA (kp (at2 rows)) (entsI (at2 rows) w nU θ)
theorem im_q:∀l:ø,oQ (aF qD)=true
  | []=>rfl
  | _::l=>im_q l
def e_apart(R:ŧ)(hn:0<n)(n8:n<=8)(m8:m<=8)(h1:tU)(h2:tR)(w:Int):fO (fQ 40 32 vN) (kU (tell rows m w)):=by
  have R':=eg R;have hI:zS θ:=Ĵ hi (kh (ji hi) R.1)
  have hJ:∀j∈nU,j<m:=fun j hj=>kh (ji hj) R'.1
  have s25:ö*iA<=25:=Cz h1 h2;have L:=look_t R;have c1:=acf 34 hn;have e1:tY 39 (Fr 7) (Ŗ 5 vN)=bt (cH nU):=(ach (Ŗ 5 vN) 7 Î (Rf (k:=k+37) rows n m R hn Ă Ă) R');have e2:tY 39 (Fr 6) Wx=bt (cH θ):=(ach Wx 6 rows (IW (k:=k+38) rows (Ź R.1)) R);have e2w:ax (tY 39 (Fr 6) Wx)=bt (nD θ):=bQ e2
  obtain⟨z',lp⟩:=ap_go (F:=fQ 39) (fu:=fu) (w:=w) (J:=nU) L hJ Ă θ [] .no hI (Ź Pb);rw[Oy]at lp;have el:=ents_len (at2 rows) w nU θ;have mm:=e_most (fu:=fu) L 25 (entsI (at2 rows) w nU θ) (k+39) Ă Ă Ă fun p hp=>⟨hI _ (mem_ents hp).1,hJ _ (mem_ents hp).2.1⟩
  rw[Ŧ d_apart];unfold d_apart;refine Ł (Ê (ev_exp (me l [tN] rfl c1)) (ac e1 (Ê (sF rfl) (go_fo (cl:=ĵ) e2w iK lp (ib (uY (cl:=ĵ) ?_))))));exact ev_callf (ab ć xQ Α) mm (im_q _)
universe k91
namespace k91
open PySem L2
def ev_bits(h:jT e i cl):fG (Fq e) (uO i):=by
  show(aaz Mt.bitLength D_)=_;rw[js,h];rfl
abbrev rw'(r:Ď):rk.Rw:=fun j=>gB j
def enuD_map(h:b->DV):∀(l:Ĳ b) (n:Nat),enuD n xD=eS Ň i (ģ [ů (n+i),(aF h).getD i .non]):=by
  intro l
  induction l with
  | nil=>intro n;rfl
  | cons a l c=>
    intro n;rw[ť,Bp,Η,Η,ŗ];show ģ _::enuD Ò _=_;rw[c Ò]
    congr 1
    refine c_ (eZ _)
    show _=vn _;rw[Ş (n+1+i=n+ü)];rfl
def enu_wL(h:Ť e xA):ax CP=ā aci:=by
  have q:CP=dW:=rfl;rw[q,h];show μ=_;unfold iD;rw[enuD_map]
  congr 2
  refine c_ (eZ a)
  have:=ź a;rw[jW,Ħ,Ħ,ō,Ľ this];rfl
def find_filter:∀{l:Ġ} {a:Nat} {r:Ġ},vG p=a::r->l.find? p=eF:=by
  intro l
  induction l with
  | nil=>intro a r h;cases h
  | cons x l b=>
    intro a r h;rw[List.find?_cons];cases q:p x with
    | true=>rw[Ej q]at h;cases h;rfl
    | ă=>rw[MW q]at h;exact b h
def e_lead{fu k:Nat}{r:Ď}(hl:ň Ű)(h0:¬vP Ű r):F1 48 [ß r]=ā (lF (F0 Ű r:Nat)):=by
  have c1:∀F:Ŵ,evE k91.G F abc [gE r]=bt (g_ (cg Ű RN) nT):=fun F=>
    xF (h:=fun cT=>pG i (Fy i)) (f:=nT) (p:=RN) (enu_wL ć) đ (xE hl) fun i hi=>⟨[aa i,ī (gB i)],rfl,by
      rw[Λ (x:=ě (rw' r i≠0)) (M8 ?_)];show ā (!ě (gB i=0))=ā (ě (gB i≠0));rw[decide_not],Ē,iC,rfl⟩
  obtain⟨h1,h2⟩:=rk.ld_ok h0;have hm:F0 Ű r∈cg Ű RN:=gK h1 (Ą ak h2)
  cases q:cg Ű RN with
  | nil=>rw[q]at hm;cases hm
  | cons a t=>
    have e:F0 Ű r=a:=qI rk.ld (find_filter q)
    rw[Ŧ d_leading_place];refine Ł (Aa (Cl.item ĵ) (FV (c1 _) ?_));rw[q,e];have:=at_getL (r:=ļ (a::t) Cw É) (j:=0) (mQ ċ ť);unfold iD at this;rw[ŗ]at this;exact this
def mul_ok(h1:i.natAbs<2^2000)(h2:j.natAbs<2^2000):mulOk i j=true:=by
  unfold mulOk;rw[þ h1,þ h2,Bool.and_self,Bool.or_true]
def stL(w x:Ď):Ď:=eS eQ j (acj j)
def rdL(K:Ċ)(x:Ď):Ď:=K.foldl (fun x w=>xS) x
def stL_len(w x:Ď):Ć xS=eQ:=vi stL ċ Μ
def zpD_map:∀(x w:Ď),eQ=q9->zpD (iD x) (iD w)=eS eQ cT Wz:=by
  intro x
  induction x with
  | nil=>intro w h;rfl
  | cons a x c=>
    intro w h;cases w with
    | nil=>cases h
    | cons b w=>
      rw[ť,Bp,Η,ŗ];show vn _::zpD (iD x) (iD w)=_;rw[c w (Nat.succ.inj h)];rfl
def Bd(e:Nat)(x:Ď):Prop:=∀a∈x,a.natAbs<2^e
def Bd.at(h:Bd e x)(j:Nat):(xT j).natAbs<2^e:=by
  rw[Ħ];cases q:x[j]? with
  | none=>exact CG e
  | some a=>exact h a (iO q)
def abs_st{d:Int}(i:a.natAbs<2^e)(h:b.natAbs<2^f)(g:c.natAbs<2^e)(hd:d.natAbs<2^f):(a*b - c*d).natAbs<2^(e+f+1):=by
  have h1:(a*b).natAbs<=2^(e+f):=(cw Int.natAbs_mul Nat.pow_add (Cz (ua i) (ua h)));have h2:(c*d).natAbs<2^(e+f):=(cw Int.natAbs_mul Nat.pow_add (Nat.mul_lt_mul'' g hd));have h3:=Int.natAbs_sub_le (a*b) (c*d);rw[tG];omega
def stL_bd(hw:Bd f w)(b:Bd e x):Bd (e+f+1) xS:=fun a c=>by
  obtain⟨j,_,rfl⟩:=Ő c;exact abs_st (b.at j) (hw.at _) (b.at _) (hw.at j)
def RdOk:Ċ->Œ Ď
  | [],_=>True
  | w::K,x=>(q9=eQ/\¬vP q9 w/\Bd 2000 x/\Bd 2000 w)/\RdOk K xS
def ev_listT(h:Ť e Κ):Ż (IR [e]) ŋ ĵ:=by
  show sG;rw[nR];rfl
def zp_w(d:Ż a (ß x) .top)(c:Ť b (ß w))(h:eQ=q9):qF (Ũ (.zp a b)) (.ok (eS eQ cT Wz) .top):=by
  have q:Ũ (.zp a b)=dW:=rfl;rw[q,d,bq,c,bq];show ā (Ri.ok _ .top)=_;rw[zpD_map x w h]
abbrev rS2(l:DV)(K:Ċ)(x:Ď)(a b c:Sv):Ĕ:=[ę l,kG K,qW x,a,b,c]
def rB2:bI:=abb
def r_in{fu k:Nat}{l:DV}{K:Ċ}{w x:Ď}{b c:Sv}(hl:ň eQ)(h:q9=eQ/\¬vP q9 w/\Bd 2000 x/\Bd 2000 w):∃b' c',evSs k91.G F1 fu rB2 (F2 K x b c)=ſ (F2 K xS b' c'):=by
  obtain⟨h1,h2,h3,h4⟩:=h;obtain⟨p,hp⟩:∃p,F0 q9 w=p:=av;have pl:=rk.ld_ok h2;rw[hp]at pl;have c1:evE k91.G F1 (ľ 48 [ĺ]) (F2 K x b c)=ā (Ψ (p:Nat)):=by have:=e_lead (fu:=fu) (k:=k) (r:=w) Ă h2;rw[hp]at this;exact tM ć this
  have c2:evE k91.G F1 (Cs Í) (F2 K x (gF p) c)=ā (Px (xT p) (Cl.item .top)):=dX xQ ć (at_getL Ă);have c3:evE k91.G F1 acl (F2 K x (gF p) (ī (xT p)))=bt (ß xS):=by
    have:=l_ (F:=F1) (it:=.zp Ĭ ĺ) (δ:=F2 K x (gF p) (ī (xT p))) (l:=Ū eQ) (h:=fun cT=>Wz) (f:=fun cT=>ŕ (xT i*w.getD p 0 - xT p*w.getD i 0)) (elt:=ack) (tg:=Cq) (fr:=[none,none,ā 3,ā 4,ā 5]) (zp_w xQ ć h1.symm) đ (xE hl) (Ĵ hi (jg [ī (xT i),ī (w.getD i 0),gE w,gF p,ī (xT p)] (i_sub (i_mul ć (dX ć ć (at_getL pl.1)) (mul_ok (h3.at i) (h4.at p))) (i_mul ć ć (mul_ok (h3.at p) (h4.at i))))))
    rw[this];unfold stL iD;rw[hp,ŗ];rfl
  exact⟨_,_,tQ c1 c2 (xM (sF c3))⟩
theorem r_loop2{fu k:Nat}{l:DV}{K0:Ċ}:∀(K:Ċ) (x:Ď) (a b c:Sv),ň eQ->RdOk K x->∃a' b' c',u0 3 (fun δ'=>evSs k91.G F1 fu rB2 δ') WA (rS2 l K0 x a b c)=ſ (rS2 l K0 (rdL K x) a' b' c')
  | [],x,a,b,c,_,_=>⟨a,b,c,rfl⟩
  | w::K,x,a,b,c,hl,h=>by obtain⟨b1,c1,e⟩:=r_in (fu:=fu) (k:=k) (l:=l) (K:=K0) (b:=b) (c:=c) hl h.1;obtain⟨a',b',c',e'⟩:=r_loop2 K xS (gE w) b1 c1 (Ą stL_len hl) h.2;refine⟨a',b',c',?_⟩;show u0 3 _ (ß w::WA) _=_;rw[FH (δ1:=F2 K0 x b c) rfl e];exact e'
def e_reduced{fu k:Nat}{K:Ċ}{x:Ď}(hl:ň eQ)(h:RdOk K x):run k91.G T fu (k+2) 47 [tJ x,rL K]=ā (MM (rdL K x)):=by
  obtain⟨a',b',c',e⟩:=r_loop2 (fu:=fu) (k:=k) (l:=tJ x) (K0:=K) K x .no .no .no hl h;rw[Ŧ d_reduced];refine Ł (Ê (sF (ev_listT ć)) ?_);exact Rl WA rfl M2
def rw_st(h:q9=eQ):rw' xS=acj:=by
  funext j
  show Ř xS j=rk.stz _ _ j;by_cases q:j<eQ
  · rw[Ħ]
    unfold stL;rw[ō,wX q];rfl
  · have c:Ř xS j=0:=fA Ħ (jY (Ź stL_len))
    have b:xT j=0:=fA Ħ (jY Ă)
    have a:w.getD j 0=0:=fA Ħ (jY Ă)
    rw[c];show 0=xT j*_ - _*w.getD j 0;rw[b,a,Mp,Fg];rfl
theorem rdL_len:∀(K:Ċ) (x:Ď),Ć (rdL K x)=eQ
  | [],x=>rfl
  | w::K,x=>by show Ć (rdL K _)=_;rw[rdL_len K,stL_len]
def kq(w:Ď):Nat×rk.Rw:=(F0 q9 w,rw' w)
theorem rw_rd:∀(K:Ċ) (x:Ď),(∀w∈K,q9=eQ)->rw' (rdL K x)=rk.rz (K.map kq) (rw' x)
  | [],x,_=>rfl
  | w::K,x,h=>by show rw' (rdL K _)=rk.rz _ _;rw[rw_rd K _ fun a b=>Ą stL_len (h a (Ŕ b)),rw_st (h w Υ)];rfl
def ex(s:Nat):Nat:=5*2^s - 1
def ex_succ(s:Nat):ex s+ex s+1=ex (s+1):=by
  unfold ex;have:=CG s;rw[tG];omega
def ex_small(h:s<=8):ex s<=2000:=by
  unfold ex;have:2^s<=2^8:=tP h;have e:2^8=256:=Β
  omega
def Bd.mono(h:Bd e x)(q:e<=f):Bd f x:=fun a b=>xu (h a b) q
theorem rd_ok:∀(K:Ċ) (s:Nat) (x:Ď),Bd (ex s) x->(∀i w,ĭ K w->q9=eQ/\¬vP q9 w/\Bd (ex (s+i)) w)->s+B4<=8->RdOk K x/\Bd (ex (s+B4)) (rdL K x)
  | [],s,x,a,_,_=>⟨p5,a⟩
  | w::K,s,x,a,h,hs=>by
    obtain⟨h1,h2,b⟩:=h 0 w rfl;rw[ť]at hs;have I:=rd_ok K (s+1) _ (ŏ ex_succ (stL_bd b a)) (fun i c j=>by
      obtain⟨g,f,d⟩:=h ü c j;rw[stL_len];exact⟨g,f,Ą (Ş (s+1+i=s+ü)) d⟩) Ă
    refine(au ⟨⟨h1,h2,a.mono (ex_small Ă),b.mono (ex_small Ă)⟩,I.1⟩);have:=I.2;rw[ť,Ş (s+_=s+1+B4)];exact this
def kl(rows:Ċ)(m:Nat):Nat->fW Nat Ď
  | 0=>[]
  | n+1=>
    let y:=F3
    acm y
def vv(rows:Ċ):Nat->rk.Rw:=fun i=>rw' vC
structure Kl(rows:Ċ)(m n:Nat):Prop where
  len:Ć (fT n)<=n
  ok:∀(i:Nat) q,ĭ (fT n) q->q.2.length=m/\¬vP m q.2/\Bd (ex i) q.2
  eq:rk.kz Al m n=ļ (fT n) q (q.1,kq q.2)
def Kl.all(I:Kl rows m n):∀q∈fT n,q.2.length=m:=fun q a=>by
  obtain⟨i,b,e⟩:=K' a;exact(I.ok i q (ţ (Ľ b) e)).1
def row_at(R:Jp)(h:n<N):az n∈rows/\Ć (az n)=m:=by
  have a:n<ő:=Ą R.1 h
  have:az n∈rows:=QP a
  exact⟨this,R.2 _ this⟩
def Kl.red(R:Jp)(l:FK)(I:Kl rows m n)(j:n<N)(h8:N<=8):RdOk F4 (az n)/\Bd (ex (Ć (fT n))) F3/\rw' F3=rk.rkz Al m n (Al n):=by
  obtain⟨r1,d⟩:=row_at R j;have:=rd_ok F4 0 _ (fun a k=>by
    have:=l _ r1 a k;show a.natAbs<2^4;have e:2^4=16:=Β
    omega) (fun i w b=>by
      rw[ō]at b;obtain⟨q,c,rfl⟩:=Θ b;obtain⟨f,h,g⟩:=I.ok i q c;rw[d,jW];exact⟨f,Ą f h,g⟩) (zK ċ I.len)
  rw[ċ,jW]at this;refine(bx this.1 this.2);rw[rw_rd _ _ fun w b=>by
    obtain⟨q,c,rfl⟩:=Ő b;rw[d];exact I.all q c]
  unfold rk.rkz;rw[I.eq,ŗ,ŗ];rfl
def kl_succ(rows:Ċ)(m n:Nat):fT Ò=acm F3:=rfl
theorem kl_ok(R:Jp)(d:FK)(f:N<=8):∀n,n<=N->Kl rows m n
  | 0,_=>(f9 ħ (fun i q h=>(by have g:ĭ ([]:Ĳ _) q:=h;rw[List.getElem?_nil]at g;cases g)))
  | n+1,hn=>by
    have I:=kl_ok R d f n Ă;obtain⟨_,b,e⟩:=I.red R d Ă f;obtain⟨_,c⟩:=row_at (n:=n) R Ă;by_cases z:vP m F3
    · have a:fT Ò=fT n:=ţ kl_succ (ĉ z)
      refine(bx (zK a I.len) (Ą a I.ok));rw[a,rk.kz_succ,ĉ (ŏ e z)];exact I.eq
    · have a:fT Ò=fT n++[(n,F3)]:=ţ kl_succ (ĝ z)
      refine(bx (by rw[a,Â,oI];have:=I.len;omega) (Ğ i q h))
      · rw[a]at h
        by_cases w:i<Ć (fT n)
        · rw[uv w]at h;exact I.ok i q h
        · rw[uw Ă]at h
          have j:i=Ć (fT n):=by
            refine Mm (af ne)
            rw[jY (Ź oI)]at h;cases h
          subst j;rw[Ms]at h;cases h;exact⟨ţ rdL_len c,z,b⟩
      · rw[a,rk.kz_succ,ĝ (ŏ e z),Ë,I.eq,←e]
        show _++[_]=_++[(n,kq _)];unfold kq;rw[rdL_len,c]
theorem imm_iD:∀(y:Ď),oQ (iD y)=true
  | []=>rfl
  | a::y=>by show ņ (DV.immut _&&oQ (iD y));rw[imm_iD y];rfl
theorem bools_mapB{b:Type}(f:ń b):∀(l:Ĳ b),Rv a (f a)=ā (aF f)
  | []=>rfl
  | a::l=>MO (bools? _) (bools_mapB f l)
def ev_anyB{F:Ŵ}{δ:Ĕ}{α:Type}{f:ń α}{l:Ρ}{e:ME}{c:Cl}(h:m_ e (i5 a (.bl (f a))) c):Bo (.bi .any [e]) (l.any f):=by
  show MZ [e] (anyD l)=_;rw[nR];show im (Rv a (f a)) bw (ke (.bl (bw.any id)))=_;rw[bools_mapB];show ā (ke (.bl ((aF f).any id)))=_;rw[List.any_map];rfl
def any_nil(hy:Du=m):y.any (fun a=>ě (a≠0)) = !ě (vP m y):=by
  by_cases z:vP m y
  · rw[þ z]
    show _=ă;rw[List.any_eq_false];intro a c;obtain⟨j,b,e⟩:=K' c;have:=z j Ă;have this:y.getD j 0=0:=this;rw[Ħ,Ľ b]at this;have:y[j]=0:=this;rw[e]at this;simp[this]
  · rw[dt z]
    show _=true;rw[K_];obtain⟨h1,h2⟩:=rk.ld_ok z;have b:F0 m y<Du:=Ę
    refine(bx y[rk.ld m _] (jV b));rw[ak];have h2:y.getD _ 0≠0:=h2;rw[Ħ,Ľ b]at h2;exact h2
abbrev bS(rows:Ċ)(m n:Nat)(a b c:Sv):Ĕ:=[cG,aI (Nc n),.own (rL F4),a,b,c]
def bB:bI:=aba
def b_in{fu k:Nat}{rows:Ċ}{N m n:Nat}(R:Jp)(h9:FK)(h8:N<=8)(m8:ň m)(hn:n<N)(c:Sv):∃c',eV (k+2) bB (RO n c)=ſ (RO Ò c'):=by
  have I:=kl_ok R h9 h8 n Ă;obtain⟨r1,_,_⟩:=I.red R h9 hn h8;obtain⟨_,r2⟩:=row_at R hn;have len:=I.len;obtain⟨y,hy⟩:∃y,F3=y:=av;have ly:Du=m:=by rw[←hy,rdL_len,r2]
  have c1:tY 2 (ľ 47 [Í,Ĭ]) (RO n c)=bt (ß y):=(GX e (e_reduced (fu:=fu) (k:=k) (Ą r2 m8) r1) hy (ev_callf (ab ć xQ Α) e (imm_iD y)));have c2:iB (k+2) acn (RO n (gE y)) (fC (!ě (vP m y))):=(by rw[←any_nil ly];refine ev_anyB (f:=fun a=>ě (a≠0)) (l:=y) (c:=ĵ) (l_ (h:=ŕ) (f:=fun a=>DV.bl (ě (a≠0))) (cl:=Ē) rfl đ (Ą ly (Ç m8)) fun a _=>jg [ī a] (M8 ?_));show ā (!ě (a=0))=ā (ě (a≠0));rw[decide_not]);refine⟨gE y,ac c1 ?_⟩;by_cases z:vP m y
  · rw[þ z]at c2
    refine dm c2 ?_;have e:fT Ò=fT n:=by rw[kl_succ,hy,ĉ z]
    show _=ā (uZ (Jq Ò _ _ _));unfold bS;rw[e];rfl
  · rw[dt z]at c2
    have e:fT Ò=fT n++[(n,y)]:=by rw[kl_succ,hy,ĝ z]
    have e1:Nc Ò=Nc n++[Ō n]:=(by unfold nD;rw[e,Ë,Ë];rfl);have e2:rL (aD (fT Ò))=.lst (im F4 r (vB r)++[ß y]):=(by unfold rL;rw[e,Ë,Ë];rfl);have l1:Ć (Nc n)<ÿ:=(rB nD ċ ċ (tm (Ş (_<=8)) đ));have l2:Ć (im F4 r (vB r))<ÿ:=(cw ċ ċ (tm (Ş (_<=8)) đ));refine FT c2 (Ê (ev_app (ds:=Nc n) rfl ć rfl l1) (xM (ev_app (ds:=ļ F4 r (vB r)) rfl ć rfl l2))) ?_;show _=ā (uZ (Jq Ò _ _ _));unfold bS;rw[e1,e2];rfl
theorem b_loop(R:Jp)(g:FK)(h:N<=8)(f:ň m):∀n,n<=N->∃a b c,jR (jP [3,4]) (fun d=>eV (k+2) bB d) (eS n cT (pG i (z_ i))) (Jq 0 .no .no .no)=ſ (Jq n a b c)
  | 0,_=>⟨_,_,_,rfl⟩
  | n+1,hn=>aco (b_loop R g h f n Ă) l j (b_in R g h f (n:=n) Ă c) (ī ρ) (ę (z_ n))
def enu_wT(h:Ť e Õ):ax CP=eA (eS ő cT (pG i (z_ i))):=by
  have q:CP=dW:=rfl;rw[q,h];show μ=_;rw[enuD_map]
  congr 2
  refine c_ (eZ a)
  have:=ź a;rw[jW,Ħ,Ħ,ō,Ľ this];rfl
def bl0(rows:Ċ)(m:Nat):Ġ:=rk.bz Al m ő
def e_base_lines{fu k:Nat}{rows:Ċ}{N m:Nat}(R:Jp)(h9:FK)(h8:N<=8)(m8:ň m):fO (qR 3 46) (nD F5):=by
  obtain⟨a,b,c,e⟩:=b_loop (fu:=fu) (k:=k) R h9 h8 m8 N ħ;have I:=kl_ok R h9 h8 N ħ;have eb:F5=uA (fT N):=by unfold bl0 rk.bz;rw[R.1,I.eq,ŗ];rfl
  rw[Ŧ d_base_lines,eb];refine Ł (Jg (Jg ?_));refine Rl (eS N cT (pG i (z_ i))) ?_ M2;have:=enu_wT (F:=cI) (δ:=Jq 0 .no .no .no) (rows:=rows) (e:=Đ) ć;rw[R.1]at this;exact this
def e_rank{fu k:Nat}{rows:Ċ}{n m:Nat}(R:ŧ)(h9:xN)(h8:n<=8)(m8:ň m):qR 4 45=ā (lF (Ć F5:Nat)):=by
  rw[Ŧ d_rank];have e:=ky (F:=nW) (δ:=[cG]) (tM (xI 0) (e_base_lines (fu:=fu) (k:=k) R h9 h8 m8));have l:Ć (nD F5)=Ć F5:=b_ nD ċ
  rw[l]at e;exact Ł (jh e)
def bnot(i:Int):RP i = -i - 1:=by unfold RP;omega
def bor_nat(a b:Nat):JZ Ag (b:Int)=ı (a ||| b):=by
  unfold JZ rW;rw[bnot Ag,bnot (b:Int),r_,r_];show RP (RP _)=_;rw[bnot (-_ - 1),bnot (-_ - 1),aJ (mF (-(-Ag - 1)) 1=a),aJ (mF (-(-(b:Int) - 1)) 1=b),bnot,bnot];omega
theorem or_split:∀(n a b:Nat),a<2^n->b<2^n->a ||| b=(a ^^^ b)+(a &&& b)
  | 0,a,b,d,c=>by
    have:a=0:=Ia Nat.pow_zero d
    have:b=0:=Ia Nat.pow_zero c
    subst a;subst b;rfl
  | n+1,a,b,d,c=>by
    have e:∀x:Nat,x=2*(x/2)+x%2:=fun x=>Ę
    rw[e (a ||| b),e (a ^^^ b),e (a &&& b),Nat.or_div_two,Nat.xor_div_two,Nat.and_div_two,(or_split n (a/2) (b/2) (Ia tG d) (Ia tG c))];have m:(a ||| b)%2=(a ^^^ b)%2+(a &&& b)%2:=by
      have h1:=Nat.or_mod_two_pow (a:=a) (b:=b) (n:=1);have h2:=Nat.xor_mod_two_pow (a:=a) (b:=b) (n:=1);have f:=Nat.and_mod_two_pow (a:=a) (b:=b) (n:=1);rw[Nat.pow_one]at h1 h2 f;rw[h1,h2,f];rcases Wn a with p | p<;>rcases Wn b with q | q<;>rw[p,q]<;>rfl
    omega
def bxor_nat(a b:Nat):J1 Ag (b:Int)=ı (a ^^^ b):=by
  unfold J1;rw[bor_nat,band_nat];have:=or_split (a+b) a b (xu Nat.lt_two_pow_self Ă) (xu Nat.lt_two_pow_self Ă);omega
abbrev K3:=Nat×rk.N2
def k3(q:K3):DV:=ģ [nh q.1,nh lU,nh q.2.2]
abbrev tS(l kd:DV)(p:rk.N2)(a b c:Sv):Ĕ:=[ę l,ę kd,gF p.1,gF p.2,a,b,c]
def tB:bI:=[abf]
def t_in{q:K3}(hq:lU≠0):lH tB (Nd b p)=ſ (Nd b (rk.st p q.2)):=by
  have f:uO (ı lU)=ı (F6+1):=(Mw uO nj Int.natAbs_natCast);have j:∀a:Ĕ,Į a 5 (gF lU)->RQ (tH (Fq χ)) a F6:=fun a h=>by have:=i_sub (ev_bits (gj h)) (Ž (G:=G) (F:=F) (δ:=a) (i:=1));rw[f,aJ (ı (F6+1) - 1=ı F6)]at this;exact this
  have g:Ų (Fv Ĭ (tH (Fq χ))) (Nd b p)=p_ (ı p.1/pC (F6:Nat)):=abA (j _ rfl) (ı F6) (ı p.1) (F6:Nat) _;have c:Ų _ _=ā (fC (Cm p q.2)):=(by have:=b_eq (cA g Ž (show binD rX _ _ _ _=ā (ke (.int (ĩ (Cm p q.2) 1 0))) by rw[←bit_of];rfl)) (Ž (G:=G) (F:=F) (i:=1));rw[this];cases Cm p q.2<;>rfl);have d:RQ (.bin .BitXor ĺ qP) (Nd b (p.1 ^^^ lU,p.2)) (p.2 ^^^ q.2.2):=(ŏ bxor_nat (cA ć ć rfl));unfold rk.st;cases z:Cm p q.2 with
  | ă=>
    rw[z]at c;exact dm c rfl
  | true=>
    rw[z]at c;exact FT c (ac ((ŏ bxor_nat (cA ć ć rfl))) (ac d rfl)) rfl
theorem t_loop{F:Ŵ}{fu:Nat}{l kd:DV}:∀(K:Ĳ K3) (p:rk.N2) (a b c:Sv),(∀q∈K,lU≠0)->∃a' b' c',jR (jP [4,5,6]) (fun δ'=>lH tB δ') (K.map k3) (tS l kd p a b c)=ſ (tS l kd (rk.red (K.map u8) p) a' b' c')
  | [],p,a,b,c,_=>⟨a,b,c,rfl⟩
  | q::K,p,a,b,c,h=>by
    obtain⟨a',b',c',e⟩:=t_loop K (rk.st p q.2) (gF q.1) (gF lU) (gF q.2.2) (fw r hr)
    refine⟨a',b',c',?_⟩;show jR _ _ (k3 q::K.map k3) _=_;rw[FH (δ1:=Nd kd p) rfl (t_in (h q Υ))];exact e
def e_reduced2{fu k:Nat}{K:Ĳ K3}{x:Nat}(h:∀q∈K,lU≠0):Ů 56 [nh x,.lst (K.map k3)]=ε (ģ (WB (rk.red (K.map u8) (x,0)))):=by
  obtain⟨a',b',c',e⟩:=t_loop (F:=Ý) (fu:=fu) (l:=nh x) (kd:=.lst (K.map k3)) K (x,0) .no .no .no h;rw[Ŧ VZ];refine Ł (ac ć (ac (Ν 0) ?_));exact Rl (K.map k3) rfl (gA (ev_tup (ab ć ć Α) (A0 ((2:Nat)<=ÿ)) rfl))
theorem kp_ne(L:À):∀n,∀q∈rk.kp L n,lU≠0
  | 0,q,h=>nL (aC rk.kp)
  | n+1,q,h=>by
    rw[rk.kp_succ]at h;split at h
    · exact kp_ne L n q h
    · rename_i z
      rcases gL h with w | w
      · exact kp_ne L n q w
      · have:=aG w
        subst this;exact z
theorem kp_len(L:À):∀n,Ć (rk.kp L n)<=n
  | 0=>ħ
  | n+1=>by
    rw[rk.kp_succ];have:=kp_len L n;split
    · omega
    · rw[Â,oI];omega
abbrev LL(ls:Ġ):À:=fun i=>F7 i
abbrev kS(ls:Ġ)(n:Nat)(a b c:Sv):Ĕ:=[tL ls,aI ((q_ n).map k3),a,b,c]
def kB:bI:=abe
def k_in{fu k:Nat}{ls:Ġ}{n:Nat}(hn:n<64)(c:Sv):∃c',eV ς kB (Nf n c)=ſ (Nf Ò c'):=by
  obtain⟨p,hp⟩:∃p,rk.rk (LL ls) n (LL ls n,0)=p:=av;have e0:=e_reduced2 (fu:=fu) (k:=k) (K:=q_ n) (x:=F7 n) (kp_ne (LL ls) n);have e0:Ů 56 [nh (F7 n),g_ (q_ n) k3]=ε Jr:=by rw[e0];show ā (Ou.v (ģ (WB (rk.rk (LL ls) n (LL ls n,0)))) ă)=_;rw[hp]
  have c1:iB ς (ľ 56 [ĺ,ŝ]) (Nf n c) (.ok Jr bp):=ev_callw (ab ć xQ Α) rfl e0;obtain⟨d,hd⟩:∃d,Nf n (ę Jr)=d:=av;have v4:CC Í d=ā (dU Jr):=ŏ hd iC
  have v2:CC Ĭ d=ā (Ψ (n:Nat)):=ŏ hd iC
  have i0:qV ς (π 4) d (p.1:Nat):=xR v4;have i1:qV ς (Ã 4 1) d (p.2:Nat):=xR v4;have c2:iB ς (xL (π 4) υ) d (fC (!ě (ı p.1=0))):=iZ i0 Ž rfl;have sh:iB ς (nP Ĭ) d (dU (ů (1<<<n))):=(by refine acp Ž v2 Å (nh n) 1 n Β;rw[aE,Mz,Nat.one_shiftLeft,Int.natCast_pow];rfl);have bo:CC WC d=eA (ů (p.2 ||| 1<<<n)):=(ŏ bor_nat (cA i1 sh rfl));have tp:iB ς (ģ [Ĭ,π 4,WC]) d (dU (k3 (QT p))):=ev_tup (qU v2 i0 bo) (A0 ((3:Nat)<=ÿ)) rfl;refine⟨ę Jr,ac c1 ?_⟩;show eV ς _ (Nf n (ę Jr))=_;by_cases z:p.1=0
  · rw[Co]at c2
    rw[hd];refine dm c2 ?_;have e:q_ Ò=q_ n:=by rw[rk.kp_succ,hp,ĉ z]
    rw[←hd];unfold kS;rw[e];rfl
  · rw[r_]at c2
    have e:q_ Ò=q_ n++[QT p]:=by rw[rk.kp_succ,hp,ĝ z]
    have l1:Ć ((q_ n).map k3)<ÿ:=(Ą ċ (tm (kp_len (LL ls) n) (ce hn đ)));rw[hd];refine FT c2 (xM (ev_app (ds:=(q_ n).map k3) (BW hd) tp rfl l1)) ?_;rw[←hd];unfold kS;rw[e,Ë];rfl
theorem k_loop:∀n,n<=64->∃a b c,jR (jP [2,3]) (fun d=>eV ς kB d) (eS n cT (pG i (ů (F7 i)))) (kS ls 0 .no .no .no)=ſ (kS ls n a b c)
  | 0,_=>⟨_,_,_,rfl⟩
  | n+1,hn=>aco (k_loop n Ă) g f (k_in (n:=n) Ă c) (gF n) (gF (F7 n))
def enu_wN(h:Ť e (cH ls)):ax CP=eA (eS xU cT (pG i (ů (F7 i)))):=by
  have q:CP=dW:=rfl;rw[q,h];show ā (M_ (ls.map (ş (ŕ _))) Ē)=_;rw[enuD_map]
  congr 2
  refine c_ (eZ a)
  have:=ź a;rw[jW,Ħ,Ħ,ō,Ľ this];rfl
def e_kept{fu k:Nat}{ls:Ġ}(hl:xU<=64):fO (cI 55 [cH ls]) ((q_ xU).map k3):=by
  obtain⟨a,b,c,e⟩:=k_loop (fu:=fu) (k:=k) (ls:=ls) xU hl;rw[Ŧ d_kept_lines];refine Ł (Jg ?_);exact go_fo (cl:=Ē) (enu_wN (δ:=kS ls 0 .no .no .no) ć) Ð e M2
def e_indexes{fu k:Nat}{ls:Ġ}(hl:xU<=64):fO (nW 54 [cH ls]) (nD (rk.bs (LL ls) xU)):=by
  rw[Ŧ d_base_indexes];have c1:tY 2 (Ε 55) [tL ls]=bt (g_ (q_ xU) k3):=tM (xI 0) (e_kept (fu:=fu) (k:=k) hl);have c2:=l_ (F:=cI) (δ:=[tL ls]) (it:=Ε 55) (l:=q_ xU) (h:=k3) (f:=fun q=>ŕ (q.1:Nat)) (elt:=Đ) (tg:=jP [0,1,2]) (fr:=[none,none,none]) (cl:=ĵ) (bQ c1) đ (š (kp_len _ _) (Ç hl)) fun q _=>jg [gF q.1,gF lU,gF q.2.2] iC
  have e:im (q_ xU) q (ŕ (q.1:Nat))=nD (rk.bs (LL ls) xU):=(ML nD rk.bs);rw[e]at c2;exact Ł (jh c2)
def tw:Ď->Nat
  | []=>0
  | a::r=>Ng
theorem tw_bit:∀(r:Ď) (j:Nat),d_ (tw r)=pq (gB j)
  | [],j=>by show Nat.testBit 0 j=_;rw[pp];rfl
  | a::r,j=>by
    have h0:0<=a%2:=FP a đ;have h1:a%2<2:=FO a đ;cases j with
    | zero=>
      rw[Nat.testBit_zero];show ě ((Ng%2)=1)=pq a;rw[Rg];omega
    | succ j=>
      rw[Nat.testBit_succ];have e:tw (a::r)/2=tw r:=by show Ng/2=tw r;omega
      rw[e,tw_bit r j];rfl
theorem tw_lt:∀(r:Ď),tw r<2^Ű
  | []=>Β
  | a::r=>by have:=tw_lt r;have h1:a%2<2:=FO a đ;rw[ť,tG];show Ng<_;omega
def tws(r:Ď)(o:Nat):Ď:=eS Ű j (gB j%2*2^(o+j))
def tws_cons(a:Int)(r:Ď)(o:Nat):tws (a::r) o=(a%2*2^o)::tws r (o+1):=by
  unfold tws;rw[ť,Bp,Η,ŗ]
  congr 1
  refine c_ (gw _)
  show Ř (a::r) ż%2*2^_=gB j%2*2^_;rw[Ş (o+ż=o+1+j)];rfl
theorem tw_sum:∀(r:Ď) (o:Nat),(tws r o).sum=(tw r:Int)*2^o
  | [],o=>by show mJ=0*2^o;rw[Mp]
  | a::r,o=>by
    rw[tws_cons,Jb,tw_sum r (o+1)];have h0:0<=a%2:=FP a đ;have e:ı (tw (a::r))=a%2+2*(tw r:Int):=by show ı Ng=_;omega
    rw[e,Int.add_mul,Int.pow_succ,lS _ 2,←pj,lS _ 2]
def ev_sumI(h:vA xA):fG (xz [e]) r.sum:=by
  show sG;rw[nR];show(MN).map _=_;rw[ints_iD];rfl
def enu_wR(h:Ť e jf):ax CP=ā aci:=by
  have q:CP=dW:=rfl;rw[q,h];show μ=_;unfold iD;rw[enuD_map]
  congr 2
  refine c_ (eZ a)
  have:=ź a;rw[jW,Ħ,Ħ,ō,Ľ this];rfl
def e_line(b:Ű<=64):F8 (xz [VY]) [ę jf] (tw r:Nat):=by
  have a:=l_ (F:=F) (δ:=[ę jf]) (it:=.enu Đ) (f:=fun cT=>ŕ (gB i%2*2^(0+i))) (elt:=Nh (gm Ń tI) Đ) (tg:=Cq) (fr:=[none,none]) (enu_wR ć) đ (xE b) fun i d=>⟨[ę _,ę _],Ē,rfl,by
    have c:=ź d;have h0:0<=gB i%2:=FP _ đ;have h1:gB i%2<2:=FO _ đ;refine acp (nb ć Ž đ) ć _ (Ō i) (gB i%2) i (ce (aJ ((gB i%2).natAbs<2)) đ);rw[aE,jW],rfl⟩
  have e:im (Ū Ű) cT (ŕ (gB i%2*2^(0+i)))=iD (tws r 0):=(ML tws iD);rw[e]at a;have s:=ev_sumI a;rw[tw_sum,Int.pow_zero,Int.mul_one]at s;exact s
def e_lines{fu k:Nat}{rows:Ċ}{n m:Nat}(R:ŧ)(hn:n<=64)(hm:m<=64):fO (Ů 53 [Õ]) (nD (vD tw)):=by
  rw[Ŧ d_lines_in_twos];have c:=l_ (F:=Ý) (δ:=[cG]) (it:=Đ) (l:=rows) (h:=fun r=>vn (iD r)) (f:=fun r=>ŕ (tw r:Nat)) (elt:=xz [VY]) (tg:=ma) (fr:=[none]) (cl:=Ē) rfl đ (Ą R.1 (Ç hn)) fun r hr=>jg [ę jf] (e_line (Ą (R.2 r hr) hm))
  have e:vD (fun r=>ŕ (tw r:Nat))=nD (vD tw):=qI nD ŗ
  rw[e]at c;exact Ł (jh c)
def bl2(rows:Ċ):Ġ:=rk.bs (LL (vD tw)) ő
def e_ix2{fu k:Nat}{δ:Ĕ}{rows:Ċ}{n m:Nat}(R:ŧ)(hn:n<=64)(hm:m<=64){e:ME}(h:tY 3 e δ=ā (.ok Õ Ē)):tY 3 (ľ 54 [ľ 53 [e]]) δ=bt (cH (bl2 rows)):=by
  have c1:tY 3 (ľ 53 [e]) δ=bt (cH (vD tw)):=tM h (e_lines (fu:=fu) (k:=k+2) R hn hm);have:=e_indexes (fu:=fu) (k:=k) (ls:=vD tw) (cw ċ R.1 hn);rw[ċ]at this;exact tM c1 this
def e_rank2{fu k:Nat}{rows:Ċ}{n m:Nat}(R:ŧ)(hn:n<=64)(hm:m<=64):qR 4 52=ā (lF (Ć (bl2 rows):Nat)):=by
  rw[Ŧ d_rank_in_twos];have e:=ky (e_ix2 (fu:=fu) (k:=k) (δ:=[cG]) (e:=Đ) R hn hm ć);have l:Ć (nD (bl2 rows))=Ć (bl2 rows):=b_ nD ċ
  rw[l]at e;exact Ł (jh e)
def base0(R:ŧ):rk.Bas rk.P0 Al n m F5:=by
  unfold bl0;rw[R.1];exact rk.bas0 ..
def base2(R:ŧ):rk.Bas rk.P2 Al n m (bl2 rows):=by
  have b:iu (LL _ i=tw vC):=fun i a=>by
    have c:fM:=Ą R.1 a
    show Ř (vD tw) i=_;rw[Ħ,Ħ,ō,Ľ c];rfl
  unfold bl2;rw[R.1];refine rk.bas2 (eZ a) (Ļ i a j hj)
  · rw[b i a]
    have:=tw_lt vC;rw[(row_at R a).2]at this;exact this
  · rw[b i a];exact tw_bit _ j
inductive Pn where
  | fin (w:Int) | ask (s:Bool) (c:Nat) (n y:Pn)
def Pn.D:Pn->DV
  | t4=>ģ [Ft,.int w]
  | xV y=>ģ [zX,sd s,.int c,n.D,y.D]
def Pn.deep:Pn->Nat
  | .fin _=>0
  | .ask _ _ n y=>1+Am
def Pn.rch:Pn->iw
  | t4,_,_=>w
  | xV y,i,j=>WD (y.rch i j)
def bs:Nat->gZ->Nat
  | 0,_=>0
  | n+1,q=>2^n*(ĩ (q n) 1 0)+bs n q
theorem bs_lt(q:gZ):∀n,bs n q<2^n
  | 0=>Nat.zero_lt_one
  | n+1=>by have:=bs_lt q n;show F9 q<2^Ò;rw[tG];split<;>omega
theorem bs_bit(q:gZ)(i:Nat):∀n,zV (bs n q)=(ě (i<n)&&q i)
  | 0=>by show Nat.testBit 0 i=_;rw[pp,dt (vg i)];rfl
  | n+1=>by
    show zV (F9 q)=_;rw[Nat.testBit_two_pow_mul_add _ (bs_lt q n)];split
    · rename_i h
      rw[bs_bit q i n,þ h,Co]
    · rename_i h
      by_cases e:i=n
      · subst e
        rw[Ms,þ (Bs i)];cases q i<;>rfl
      · rw[r_]
        obtain⟨d,hd⟩:∃d,i - n=d+1:=(yH (i - n));rw[hd];cases q n
        · exact pp _
        · show Nat.testBit 1 (d+1)=ă
          exact IL (zK tG (CG d))
theorem bs_congr:∀{n},(∀c,c<n->q c=a c)->bs n q=bs n a
  | 0,_=>rfl
  | n+1,h=>by show F9 q=F9 a;rw[h n Ă,bs_congr fun c hc=>h c Ă]
theorem bs_add:∀{n},(∀c,c<n->q c=true->a c=ă)->bs n q+bs n a=bs n fun c=>q c||a c
  | 0,_=>rfl
  | n+1,h=>by
    show(F9 q)+(F9 a)=2^n*(ĩ (q n||a n) 1 0)+bs n fun c=>q c||a c
    rw[←(bs_add fun c hc=>h c Ă)];have:=h n Ă;cases d:q n<;>cases b:a n
    · simp;
    · simp;omega
    · simp;omega
    · rw[d]at this;rw[this rfl]at b;cases b
theorem bs_none:∀n,bs n (ş ă)=0
  | 0=>rfl
  | n+1=>by show 2^n*0+bs n _=0;rw[bs_none n,Nat.mul_zero]
theorem bs_sum(q:gZ):∀n,(ļ (cg n q) c (vH c)).sum=(bs n q:Nat)
  | 0=>rfl
  | n+1=>by
    rw[Ho,Rq,Ë,List.sum_append,bs_sum q n];show _=ı (F9 q);cases e:q n
    · simp[e]
    · simp[e];omega
def kd(rows:Ċ)(c:Nat):Nat:=tK (az c)
def kx(rows:Ċ)(c:Nat):Nat:=(θ).idxOf (vQ c)
section
variable {rows:List (List Int)} {i j n m h:Nat}
def kd_in(a:fM):vQ i∈θ:=by
  unfold FI;have:=pB a;refine gK (idx_lt this) ?_;unfold kd;rw[idx_get this,oK]
def kx_lt(a:fM):pI<ö:=MR (kd_in a)
def kx_get(a:fM):Ř θ pI=vQ i:=by
  unfold kx;rw[Ħ,Ľ (MR (kd_in a))];exact FJ _
def FI_nodup(rows:Ċ):fU θ:=(Wv).nodup RS
def kx_uq(hi:fM)(a:t<ö):(vQ i==Ř θ t)=(pI==t):=by
  rw[Ħ,nv];show(vQ i==_[t])=_;rw[sM,ķ,ķ];constructor
  · intro e
    unfold kx;rw[e];exact acq a
  · intro e
    subst e;exact(FJ _).symm
def ks(rows:Ċ):Ġ:=ļ θ t (bs ő Js)
def ks_get(a:t<ö):Ř (ks rows) t=bs ő fun c=>kx rows c==t:=by
  unfold ks;rw[Ħ,ō,nv];show bs ő _=_;refine bs_congr (Ĝ c b)
  have:=kx_uq b a;rw[Ħ,nv]at this;exact this
theorem ks_sum:∀(L:Ġ),L.Nodup->(∀t∈L,t<ö)->(L.map fun t=>Ř (ks rows) t).sum=bs ő fun c=>L.contains (kx rows c)
  | [],_,_=>(bs_none _).symm
  | t::L,d,b=>by
    have a:=yx d;rw[Η,Jb,ks_sum L a.2 fun t f=>b t (Ŕ f),ks_get (b t ũ),bs_add (Ğ c g e)]
    · refine bs_congr (Ĝ c g)
      rw[List.contains_cons]
    · rw[ķ]at e
      rw[e];cases q:L.contains t with
      | ă=>rfl
      | true=>exact ĸ (Qx q) a.1
def wd(rows:Ċ)(h:Nat):Nat:=(ļ (cs h) t (Ř (ks rows) t)).sum
def wd_eq(b:h<2^ö):wd rows h=bs ő fun c=>nZ (kx rows c):=by
  unfold wd;rw[ks_sum (cs h) ((Wv).nodup RS) fun t a=>qZ b a];refine bs_congr (Ĝ c hc)
  rw[sM,HB];exact⟨cJ,kJ⟩
def wd_bit(b:h<2^ö)(a:fM):zV (wd rows h)=nZ pI:=by
  rw[wd_eq b,bs_bit,þ a,qz]
def wd_lt(a:h<2^ö):wd rows h<2^ő:=by
  rw[wd_eq a];exact bs_lt _ _
def wd_pos(f:h<2^ö)(g:0<h)(a:h<32):0<wd rows h:=by
  obtain⟨t,b⟩:=vI h a g;have d:=qZ f b;have c:=jV d;refine tb0 (j:=θ[t]) ?_;rw[wd_bit f (ji c)];have e:vQ θ[t]=θ[t]:=cu (bN c).2;have:kx rows θ[t]=t:=L9 kx e (acq d)
  rw[this];exact cJ b
def ent_eq(h:ŧ)(o:i<n)(f:j<m):tV pI CQ=jn:=by
  have a:fM:=Ą h.1 o
  have b:j<Ć Î:=Ą cK f
  have e:=kx_lt a;have d:=kx_lt b;have p:tV pI CQ=pF (Ř θ pI) (Ř nU CQ):=(by unfold mf rst sub;rw[Ħ (i:=pI),ō,Ľ e];show Ř (List.map _ _) _=_;rw[Ħ,ō,Ľ d,Ħ (i:=pI),Ľ e,mi nU,Ľ d];rfl);rw[p,kx_get a,kx_get b];have r1:az (vQ i)=az i:=idx_get (pB a);have g:(Î).getD (kd Î j) []=Ji:=idx_get (pB b);have k:kd Î j<m:=kh (idx_lt (pB b)) cK
  rw[flip_get k,flip_get f]at g;have c:Ř (z8 (kd Î j)) i=Ř (z8 j) i:=ų g
  unfold col at c;rw[Ħ,Ħ,ō,ō,nv]at c;unfold mf;rw[r1,mi rows,nv];exact c
universe E_
def ev_sum(h:vA xA):fG (xz [e]) r.sum:=by
  show sG;rw[nR];show(MN).map _=_;rw[ints_iD];rfl
theorem enu_map:∀(l:Ċ) (k:Nat),enuD k (aF g)=eS Ň c (ģ [ů (k+c),g (jN c [])])
  | [],_=>rfl
  | a::l,k=>by
    rw[Η,ť,Bp,Η,ŗ];show _::enuD ς _=_;rw[enu_map l ς]
    congr 1
    refine c_ (Ĝ c _)
    show vn _=ģ _;rw[Ş (k+1+c=k+(c+1))];rfl
def e_sets{fu k:Nat}(rows:Ċ)(h8:ő<=8):fO (Ů 26 [ß qQ]) (nD (ks rows)):=by
  rw[Ŧ Q3];unfold Q3;have s0:=ev_sset (F:=Ý) (δ:=Ŗ 1 [ß qQ]) (e:=Đ) (r:=qQ) ć (Ź kI_len);rw[MT,iD_nI]at s0;have w:ax (fE (Cp ff) (Ŗ 1 [ß qQ]))=bt ((θ).map (qX t)):=bQ s0
  have o:=FE Ý (Ŗ 1 [ß qQ]) (xz [aa4]) (Cp ff) zW (l:=θ) (h:=qX t) (f:=fun t=>ů (bs ő Js)) w đ (š (FI_len rows) (Ç h8)) (fun t ht=>jg [aa t,gE qQ] ?_)
  · have e2:(ļ θ t (ŕ (ı (bs ő Js))))=nD (ks rows):=ML nD ks
    rw[e2]at o;exact Ł (jh o)
  · have w2:qF (fE (.enu Ń) [aa t,gE qQ]) (dU (eS ő (c:Nat) (pG c (ů (vQ c))))):=by
      show ā (M_ (iD qQ) Ē)=_;unfold iD kI;rw[ŗ,enu_map]
      congr 3
      funext c
      rw[jW];rfl
    have c1:=xF (F:=Ý) (δ:=[aa t,gE qQ]) (l:=Ū ő) (h:=fun (c:Nat)=>pG c (ů (vQ c))) (f:=fun c=>ů (2^c)) (p:=Js) (elt:=nP Đ) (tg:=Cq) (cd:=br Ń Ĭ) (fr:=[none,none,ā 0]) w2 đ (xE h8) (fun c hc=>FM [aa c,qY (vQ c),aa t] (Λ (b_eqN ć ć)) (i_shl1 ć (fq (ź hc))));have e3:(ļ (cg ő Js) c (ŕ (vH c)))=iD (ļ (cg ő Js) c (vH c)):=qI iD ŗ
    rw[e3]at c1;have:=ev_sum c1;rw[bs_sum]at this;exact this
def at_nD{i:Nat}(h:i<Ň):na (cH l) (Ō i) (ů (jN i 0)):=by
  show(fB (Ć (nD l)) _).bind _=_;unfold nD;rw[ċ,ix_of h];show(List.map _ l)[i]? = _;rw[ō,jU,Ħ,jU];rfl
def e_widened{fu k:Nat}{S:Ġ}{h:Nat}(h0:0<h)(h32:h<32)(hh:h<2^S.length):cI 27 [Ō h,cH S]=ε (ů (ļ (cs h) t (S.getD t 0)).sum):=by
  rw[Ŧ d_widened];unfold d_widened;have c0:=bZ Ů WE 4 ff [CS h] (Wl h h0 Ă);have w:ax (CC (Ε 4) WE)=bt ((cs h).map (qX t)):=bQ c0
  have o:=FE Ů WE (.ix Ń Đ) (Ε 4) (pA 1) (l:=cs h) (h:=qX t) (f:=fun t=>ů (S.getD t 0)) w đ (Ç (cs5 h h32)) (fun t ht=>jg [aa t,tL S] (fN ć ć (at_nD (qZ hh ht))));have e2:(ļ (cs h) t (ŕ (ı (S.getD t 0))))=iD (ļ (ļ (cs h) t (S.getD t 0)) Cw É):=Mw iD ŗ ŗ
  rw[e2]at o;have:=ev_sum o;rw[sum_nat]at this;exact Ł (jh this)
def nolam_iD(r:Ď):m9 (iD r):=by
  induction r with
  | nil=>rfl
  | cons a r b=>exact b
def nolam_nD(r:Ġ):m9 (nD r):=by
  induction r with
  | nil=>rfl
  | cons a r b=>exact b
def nolam_tT(rows:Ċ):(Õ).nolam=true:=by
  show m9 _
  induction rows with
  | nil=>rfl
  | cons a r b=>
    show ņ (lC (iD a)&&lC _);rw[nolam_iD,b];rfl
def nolam_dC(L:Tb):(dC L).nolam=true:=by
  show m9 _
  induction L with
  | nil=>rfl
  | cons a r b=>exact b
theorem nolam_P:∀p:Pn,p.D.nolam=true
  | t4=>rfl
  | xV y=>by show ņ ((sd s).nolam&&(n.D.nolam&&(y.D.nolam&&true)));rw[nolam_P n,nolam_P y];cases s<;>rfl
abbrev own(m:Nat)(rows:Ċ):DV:=WF [cH (ks rows),cH (ks Î)]
abbrev caps(J:Jt)(m:Nat)(rows:Ċ):Ĩ:=[FU J,Ah,tT vK,own m rows]
def nolam_own(m:Nat)(rows:Ċ):(own m rows).nolam=true:=by
  show ņ (lC _&&(lC _&&true));rw[nolam_nD,nolam_nD];rfl
def nolam_caps(m:Nat)(rows:Ċ):m9 (caps J m rows):=by
  show ņ ((dC _).nolam&&(true&&((tT _).nolam&&((own m rows).nolam&&true))));rw[nolam_dC,nolam_tT,nolam_own];rfl
def clB:bI:=sA clo C C.body none []
def run_clo(h:eV k clB (Ŗ 10 (F' R C))=ā Eg)(hd:zw):Ů h_ (F' R C)=iY:=by
  show(if 6=2+4/\m9 _ then(match evSs G _ fu clB (Ŗ 10 _)with
    | ā Eg=>VL
    | _=>none)else none)=_
  rw[ĉ (bG (nolam_caps m rows)),h];exact ĉ hd
def ev_self{cs:Ĩ}(c:hZ [2,3,4,5]=qd)(e:wQ)(a:yO)(b:Ň=2)(h:F h_ (eM++cs)=iY)(hd:zw):Ť (.self 2 4 es) d:=by
  show(if 2=2/\4=4 then(hZ [2,3,4,5]).bind fun cs=>mZ _ (G_ 2) else none)=_;rw[ĉ pJ,c,e];show G_ 2=_;unfold callC;rw[ĉ ⟨a,b⟩,h];exact ĉ hd
def ev_mink{cs:Ĩ}{ks:Ď}(g:Ż a ŋ ĵ)(f:hZ fr=qd)(c:uR (.lam (Bj N np b) cs) ds=ā ks)(e:E5=eJ)(hd:ĭ ds d):Ť (.mink a N np b fr) d:=by
  show minkE G F _ N np b _=_;rw[f,g];show((uR _ ds).bind fun ks=>Tl (ke d))=_;rw[c];show(Tl (ke d))=_;rw[e];show(ds[i]?.map fun d=>ke d)=_;rw[hd];rfl
def minIx_ex{ks:Ď}(h:ks≠[]):∃i,E5=eJ/\i<cY/\∀x∈ks,mW i<=x:=by
  cases f:ks with
  | nil=>exact ĸ f h
  | cons m r=>
    obtain⟨v,u,p⟩:=min_low r m;have l:=v.elim (fun e=>Ą e ũ) fun e=>Ŕ e
    have c:=fun x k=>(Ŀ k).elim (fun e=>Ą e u) (p x)
    rw[←f]at l c ⊢;generalize qa m=z at l c;have d:=MR l;have n:mW (ks.idxOf z)=z:=cw Ħ (Ľ d) (FJ d)
    have w:∀j,j<cY->mW j∈ks:=fun j b=>QP b
    have ok:ņ ((Ū cY).all (Yt (ks.idxOf z) (ks.idxOf z))):=by
      rw[qt];intro j b;have b:=ź b;rw[Ĉ,gc,ak,ak,ak,n];have a:=c _ (w j b);refine(au a);rcases wU j (ks.idxOf z)with q | q
      · refine ė (Int.lt_iff_le_and_ne.mpr ⟨a,af e⟩)
        have:=List.not_of_lt_findIdx q;rw[Ħ,Ľ b]at e;have y:z=ks[j]:=e;rw[←y,oK]at this;cases this
      · exact ď q
    cases g:E5 with
    | none=>
      unfold minIx at g;have:=List.find?_eq_none.mp g _ (o6 d);exact ĸ ok this
    | some i=>
      unfold minIx at g;have o:=PM g;rw[qt]at o;refine⟨i,rfl,(ź (PN g)),Ĝ x k⟩;obtain⟨j,b,rfl⟩:=WG k;have:=o j (o6 b);rw[Ĉ,ak]at this;have e:=this.1;rw[Ħ (i:=j),Ľ b]at e;exact e
theorem keys_map{F:Ŵ}{m:DV}{α:Type}{h:α->DV}{g:α->Int}:xC Ρ a (F cZ [m,h a]=ā (lF (g a))) (uR m xD=ā (aF g))
  | [],_=>rfl
  | a::l,q=>by
    show(match F cZ [m,h a]with
      | ā (lF k)=>(uR m xD).map (k :: ·)
      | _=>none)=_
    rw[q a ũ,keys_map fun b hb=>q b (Ŕ hb)];rfl
def ev_dixP{r c:Nat}(b:Ż u (dC L) cx)(h:Ż e (ģ (gP r c)) cy)(a:L.lookup (r,c)=ā z):fG (.dix u e) z:=by
  have d:Ũ (.dix u e)=dW:=rfl;rw[d,b,bq,h,bq];show(match iW (kk (r,c)) _ (i_ dL)with
    | wK=>μ
    | _=>none)=_
  rw[look_kk,a];rfl
variable {fu k:Nat} {F:Nat->List DV->Option Ou} {δ:List Sv} {ds:List DV} {cl:Cl} {n m R C:Nat} {rows:List (List Int)}
def ev_dixS(b:Ť u (WF [d,a]))(h:Ż e (sd s) cy):Ť (.dix u e) (ĩ s d a):=by
  have c:Ũ (.dix u e)=dW:=rfl;rw[c,b,bq,h,bq];cases s
  · show acr lX=_
    rw[ĝ đ,js];rfl
  · show acr iy=_
    rw[js];rfl
def cap_cons(h:dY dP)(hd:zw)(b:hZ r=eF):hZ (i::r)=ā (d::a):=by
  show(match ω,hZ r with
    | ā dP,eF=>Ŭ yJ (d::a)
    | _,_=>none)=_
  rw[h,b];exact ĉ hd
def wl_all(h:w∈fP):(∃g,Sb g R/\w=(sd true,g,(R - g,C),(g,C)))\/∃g,Sb g C/\w=(sd ă,g,(R,C - g),(R,g)):=by
  unfold wl at h;rcases gL h with q | q
  · obtain⟨g,a,rfl⟩:=Ő q
    exact ď (f9 g (hv_sb a).1)
  · obtain⟨g,a,rfl⟩:=Ő q
    exact ė (f9 g (hv_sb a).1)
def cs_two:∀R,R<32->∀g,g<32->0<g/\g<R/\g &&& R=g->aK g+aK (R - g)=aK R:=ŵ
def Pn.ok(n m:Nat):Œ Pn
  | t4=>Ae w
  | .ask s c a b=>0<c/\c<2^(ĩ s n m)/\a.ok n m/\b.ok n m
def Pn.val(J:Jt):Pn->Nat
  | .fin _=>J.g
  | .ask _ _ n y=>J.j (n.val J) (y.val J)
structure PlOk(J:Jt)(n m:Nat)(rows:Ċ)(R C:Nat)(p:Pn):Prop where
  val:p.val J=V J tV R C
  few:p.deep+2<=aK R+aK C
  ok:p.ok n m
  to:CT n m (R.testBit pI=true->C.testBit CQ=true->vS=jn)
def e_key(l:gC)(rc:kC a)(h1:aX a<=5)(h2:aX (flip m a)<=5)(f:0<R)(hR:R<2^aX a)(h:0<C)(hC:C<2^aX (flip m a))(hw:w∈fP)(j:gQ=3) :
    nW cZ [.lam (Bj N 1 VT) [Ah,dC (ft J m a)],wD w]=ε (ů (wv J (Ju a) w)):=by
  have b:∀r c,0<r->r<=R->0<c->c<=C->cr (ft J m a) (r,c)=μ:=fun r c i r1 o c1=>vi ft look_tbl (ĉ (mem_ps.mpr (ď ⟨i,Jv,o,Jv⟩)))
  have d:cr (ft J m a) n9=ā (V J (Ju a) n9.1 n9.2)/\cr (ft J m a) lR=ā (V J (Ju a) lR.1 lR.2):=by
    rcases wl_all hw with⟨g,s,rfl⟩ | ⟨g,s,rfl⟩
    · have:=s.1;have:=jk
      exact⟨b _ _ Ă Ă h Ă,b _ _ s.1 Ă h Ă⟩
    · have:=s.1;have:=jk
      exact⟨b _ _ f Ă Ă Ă,b _ _ f Ă s.1 Ă⟩
  have nl:(wD w).nolam=true:=(by rcases wl_all hw with⟨g,s,rfl⟩ | ⟨g,s,rfl⟩<;>rfl);have e:∀F,Ų Đ (([wD w]++[Ah,dC (ft J m a)]).map Sv.val)=μ:=fun F=>iC
  refine run_lam ⟨rfl,j.symm,?_,?_⟩ (ev_joined l rfl (ab (ev_dixP ć (xR (e _)) d.1) (ev_dixP ć (xR (e _)) d.2) Α)) rfl
  · show ņ ((wD w).nolam&&true)
    rw[nl];rfl
  · show ņ (true&&((dC (ft J m a)).nolam&&true))
    rw[nolam_dC];rfl
theorem e_plan_of{J:Jt}(hJ:gC)(rc:ŧ)(w9:xN)(n0:0<n)(m0:0<m)(n8:n<=8)(m8:m<=8)(h1:tU)(h2:tR) :
    ∀(N R C:Nat),aK R+aK C<=N->0<R->R<2^ö->0<C->C<2^iA->∃p,PlOk J n m rows R C p/\Ni h_ (F' R C)=ε p.D
  | 0,R,C,hN,R0,hR,C0,hC=>fq (cs_pos R (ce hR (p32 h1)) R0)
  | N+1,R,C,hN,R0,hR,C0,hC=>by
    have pa:=p32 h1;have pb:=p32 h2;have r1:=cs_pos R Ă R0;have c1':=cs_pos C Ă C0;have rc':=Wh;have w9':=w9_rst rc w9;have a0:0<ö:=nX rc.1 n0;have ih:=e_plan_of hJ rc w9 n0 m0 n8 m8 h1 h2 N
    let F:=Ni
    let D0:Ĕ:=Ŗ 10 (F' R C)
    let f:=tV
    have rs:Rect (aK R) (aK C) (tO vK R C):=(abI hr);have w9s:W9 (tO vK R C):=fun r hr x hx=>UH hi (Ő hr) hj (Ő hx) (mf_in rc' w9' (qZ hR hi) (qZ hC hj))
    have c1:=bZ F D0 2 [Í,Đ,ŝ] [xW vK,n6 R,n6 C] (e_cut (fu:=fu) (k:=k+N+3) vK _ _ R C rc' a0 Ă Ă R0 hR C0 hC);have c2:=CU F D0 11 (es:=VU) (xG c1) rfl (e_words_in (fu:=fu) (k:=k+N+5) _ _ _ rs (Ç (cs5 R Ă)) (Ç (cs5 C Ă)) w9s);rw[wi_eq]at c2;obtain⟨ws,hws⟩:∃ws,CA f=ws:=av;have hwn:ej=lI:=BW hws
    rw[show CA tV=ws from hws]at c2
    let D1:Ĕ:=D0.set 6 (tL ws)
    have st1:uW (Ŏ 6 (ľ 11 VU)) D0=ſ D1:=ev_set c2 rfl;have l1:=ky (F:=F) (δ:=D1) (e:=qP) (ds:=nD ws) (c:=Ē) ć;unfold nD at l1;rw[ċ,←hwn]at l1;have t1:=b_eqN l1 kR;by_cases h1w:ej=1
    · obtain⟨w,rfl⟩:=List.length_eq_one_iff.mp (hwn.symm.trans h1w)
      refine⟨t4,⟨rF (V_eq _ Ă) (ĉ h1w).symm,p9 (0+2<=_),?_,fun i j hi hj hbi hbj=>?_⟩,acw⟩
      · have:w∈CA f:=Ą hws (K2 rfl)
        have:=ź (bN this).1;exact(o5 Ę)
      · have e:=ent_eq rc hi hj
        have b9:=mf_in rc' w9' (kx_lt (rows:=rows) (i:=i) (Ą rc.1 hi)) (kx_lt (rows:=Î) (i:=j) (Ą cK hj));have hx:(tV pI CQ).toNat∈CA f:=gK Ă (wp_iff.mpr ⟨_,_,kJ hbi,kJ hbj,p9 (mf _ _ _=_)⟩);rw[hws]at hx;have:=aG hx;rw[←e];show(w:Int)=_;omega
      · rw[show ņ (ej==1) by rw[h1w];rfl]at t1
        have x0:Ų (π 6) D1=eA (Ō w):=fN (dr 6 (cH [w])) Ž rfl;exact Ê st1 (go_ifr (Λ t1) (gA (ev_tup (ab (sH (x:="end")) x0 Α) (Jj 2) rfl)))
    · have hp:0<ej:=wn_pos rc' w9' h1 h2 R0 hR C0 hC
      have hwl:=wl_ne (f:=f) (R:=R) (C:=C) Ă Ă R0 C0 Ă;rw[show(ej==1)=ă from iF h1w]at t1;have sp:=bZ F D1 20 [Đ,ŝ] [n6 R,n6 C] (e_splits (fu:=fu) (k:=k+N+4) (R:=R) (C:=C) Ă Ă);have cp:capD D1 [3,2]=ā [Ah,FU J]:=Jw rfl (Jw (nolam_dC _) rfl);have hk:=keys_map (F:=F) (m:=.lam (Bj ["way","joined",IM] 1 VT) [Ah,FU J]) (h:=wD) (g:=fun w=>RT) (l:=fP) (fun w hw=>e_key (k:=k+N+3) hJ rc h1 h2 R0 hR C0 hC hw rfl);obtain⟨i,hi,hil,hmin⟩:=minIx_ex (ks:=ļ fP w RT) (fun z=>hwl (Ro z));rw[ċ]at hil;obtain⟨w,hw⟩:∃w,ĭ fP w:=(B2 hil);have hwm:=iO hw;have mk:=ev_mink sp cp hk hi (fA ō hw);have gi:Ř (ļ fP w RT) i=RT:=nH Ħ ō hw
      rw[gi]at hmin;have hV:wv J f w=n_:=by
        rw[V_eq f Ă];unfold stp;rw[ĝ h1w];refine minN_uq (eO w hwm) wE
        obtain⟨w',hw',rfl⟩:=Ő hx;have:=hmin _ (eO w' hw');exact Int.ofNat_le.mp this
      let D2:Ĕ:=D1.set 7 (ę (wD w))
      let D3:Ĕ:=D2.set 8 (ę (ģ (Je n9)))
      let D4:Ĕ:=D3.set 9 (ę (ģ (Je lR)))
      have cp4:capD D4 [2,3,4,5]=ā (caps J m rows):=acx;have fin:∀(s:Bool) (g c:Nat) (pn py:Pn),w.1=sd s->w.2.1=g->Ni 27 [Ō g,if s then cH (ks rows)else cH (ks Î)]=ε (Ō c) ->
          Ni h_ (F' n9.1 n9.2)=ε pn.D->Ni h_ (F' lR.1 lR.2)=ε py.D->tX (k+(N+1)+6) h_ (F' R C)=ε (Pn.ask s c pn py).D:=fun s g c pn py e1 e2 e3 e4 e5=>by
        refine acw;have v7:Ų (.var 7) D4=eA (wD w):=iC;have x0:Ų (π 7) D4=eA (sd s):=fN v7 Ž (BW e1);have x1:Ų (Ã 7 1) D4=eA (Ō g):=fN v7 Ž (BW e2);have x2:=CU F D4 27 (es:=[Ã 7 1,.dix χ (π 7)]) (ab x1 (ev_dixS (s:=s) (u:=χ) ć x0) Α) rfl e3;have y3:=acv 8 n9 e4;have y4:=acv 9 lR e5;exact Ê st1 (dm t1 (ac mk (Ê (acu D2) (Ê (acu D3) (gA (ev_tup (ab (sH (x:="ask")) x0 (qU x2 y3 y4)) (Jj 5) rfl))))))
      rcases wl_all hwm with⟨g,s,rfl⟩ | ⟨g,s,rfl⟩
      · have s1:=s.1
        have s2:=jk;have two:=cs_two R Ă g (s.lt Ă) s;have g1:=cs_pos g (s.lt Ă) s1;have g2:=cs_pos (R - g) Ă Ă;obtain⟨pn,okn,en⟩:=ih (R - g) C Ă Ă Ă C0 hC;obtain⟨py,oky,ey⟩:=ih g C Ă s1 Ă C0 hC;have hgl:g<2^ö:=Ę
        refine⟨.ask true (wd rows g) pn py,act (by show _<2^n;rw[←rc.1];exact wd_lt hgl),fin true g _ pn py rfl rfl ?_ en ey⟩
        · show J.j (pn.val J) (py.val J)=n_
          rw[okn.val,oky.val,←hV];rfl
        · have a:=okn.few
          have b:=oky.few;show 1+max pn.deep py.deep+2<=_;omega
        · have hil:fM:=Ą rc.1 hi
          have k5:pI<5:=ce (kx_lt hil) h1;have bits:=(MX R Ă g pI k5).1;show(mE (zV (wd rows g)) (py.rch i j) (pn.rch i j))=_;rw[wd_bit hgl hil];cases e:IJ pI with
          | true=>exact oky.to i j hi hj e hbj
          | ă=>exact okn.to i j hi hj (nH bits hbi e) hbj
        · exact acs
      · have s1:=s.1
        have s2:=jk;have two:=cs_two C Ă g (s.lt Ă) s;have g1:=cs_pos g (s.lt Ă) s1;have g2:=cs_pos (C - g) Ă Ă;obtain⟨pn,okn,en⟩:=ih R (C - g) Ă R0 hR Ă Ă;obtain⟨py,oky,ey⟩:=ih R g Ă R0 hR s1 Ă;have hgl:g<2^iA:=Ę
        refine⟨.ask ă (wd Î g) pn py,act (kh (wd_lt hgl) cK),fin ă g _ pn py rfl rfl ?_ en ey⟩
        · show J.j (pn.val J) (py.val J)=n_
          rw[okn.val,oky.val,←hV];rfl
        · have a:=okn.few
          have b:=oky.few;show 1+max pn.deep py.deep+2<=_;omega
        · have hjl:j<Ć Î:=Ą cK hj
          have k5:CQ<5:=ce (kx_lt hjl) h2;have bits:=(MX C Ă g CQ k5).1;show(mE (d_ (wd Î g)) (py.rch i j) (pn.rch i j))=_;rw[wd_bit hgl hjl];cases e:IJ CQ with
          | true=>exact oky.to i j hi hj hbi e
          | ă=>exact okn.to i j hi hj hbi (nH bits hbj e)
        · exact acs
universe k91
namespace k91
open PySem L2
variable {fu k:Nat} {F:Nat->List DV->Option Ou} {δ:List Sv} {ds:List DV} {cl:Cl} {n m:Nat} {rows:List (List Int)}
def ev_dc2(h:Ż a d c)(g:Ż b e f)(j:mY c=true)(i:stro e f=true):Ť (.dc2 iy lX a b) (WF [d,e]):=by
  show dW=_;rw[h,bq,g,bq];exact ĉ ⟨j,i,Β⟩
def ev_dfr{cs:Ĩ}(c:Į δ 5 .no)(e:hZ [1,2,3,4]=qd)(f:wQ)(a:yO)(b:Ň=2)(h:F h_ (eM++cs)=iY)(hd:zw):ic (.dfr 5 [1,2,3,4] es)=ā Eg:=by
  show dfrS G F _ _ _ δ[5]? = _;rw[f,e,c];show(G_ 2).bind (fun r=>match r with
      | .ok d _=>μ)=_
  unfold callC;rw[ĉ ⟨a,b⟩,h];show((Ŭ yJ (ke d)):Ŝ).bind _=_;rw[ĉ hd];rfl
structure PlF(J:Jt)(n m:Nat)(rows:Ċ)(p:Pn):Prop where
  val:p.val J=Rp J
  few:p.deep<=8
  ok:p.ok n m
  to:CT n m (vS=jn)
def e_least_plan(rc:ŧ)(w9:xN)(n0:0<n)(m0:0<m)(n8:n<=8)(m8:m<=8)(h1:tU)(h2:tR):∃p,PlF jB n m rows p/\qR 18 24=ε p.D:=by
  have pa:=p32 h1;have pb:=p32 h2;have a0:0<ö:=nX rc.1 n0;have b0:0<iA:=nX cK m0;have q1:2<=2^ö:=CH a0;have q2:2<=2^iA:=CH b0;have l1:=cs5 vL Ă;have l2:=cs5 CI Ă;obtain⟨p,ok,e⟩:=e_plan_of (J:=jB) (fu:=fu) (k:=k) Ð rc w9 n0 m0 n8 m8 h1 h2 10 vL CI Ă Ă Ă Ă Ă;refine(bx p ⟨ok.val,fq ok.few,ok.ok,fun i j hi hj=>ok.to i j hi hj ?_ ?_⟩)
  · rw[WH,þ (kx_lt (Ą rc.1 hi))]
  · rw[WH,þ (kx_lt (Ą cK hj))]
  have rc':=Wh;have en:=e_numbers (J:=jB) (fu:=fu) (k:=k+10) Ð rows n m rc w9 n0 Ă Ă h1 h2;have e14:qR 17 15=ε (FU jB):=(Ą (Ŧ Q0) (Ł (gA (me l [tN,(υ,Ē),(.fn qO,Ē)] rfl en))));have e21:fQ 17 25 [Õ,FU jB,.fn qO]=ε p.D:=by
    rw[Ŧ d_plan_by];unfold d_plan_by
    let F:=fQ 16
    let D0:Ĕ:=Ŗ 6 [Õ,FU jB,.fn qO]
    have c1:=bZ F D0 8 ff [tN] (e_trimmed (fu:=fu) (k:=k+13) rows n m rc n0 Ă Ă)
    let D1:Ĕ:=D0.set 3 (ę (tT vK))
    have k1:=bZ F D1 6 ff [tN] (IW (fu:=fu) (k:=k+15) rows (Ź rc.1));have k2:=bZ F D1 7 ff [tN] (Rf (fu:=fu) (k:=k+14) rows n m rc n0 Ă Ă);have s1:=Nj D1 26 k1 (e_sets (fu:=fu) (k:=k+15) rows (Ą rc.1 n8));have s2:=Nj D1 26 k2 (e_sets (fu:=fu) (k:=k+15) Î (Ą cK m8));have o:=ev_dc2 s1 s2 rfl rfl
    let D2:Ĕ:=D1.set 4 (ę (own m rows))
    have cp:capD D2 [1,2,3,4]=ā (caps jB m rows):=acx;have v3:Ų ĺ D2=eA (tT vK):=iC;have x1:=e_shift Ă (lenT rc' v3);have x2:=e_shift Ă (lenT0 rc' a0 v3);rw[aJ (vH ö - 1=ı vL)]at x1;rw[aJ (vH iA - 1=ı CI)]at x2;exact Ł (ac c1 (Ê (ev_set (δ:=D1) o rfl) (ib (ev_dfr (δ:=D2) rfl cp (ab x1 x2 Α) rfl rfl e (nolam_P _)))))
  rw[Ŧ d_least_plan];have c14:=bZ (fQ 17) IU 15 ff [tN] e14;have g0:iB (k+17) (.glb qO) IU (dU (.fn qO)):=rfl;have r:=uY (fu:=fu) (vF (qU (dr 0 Õ) c14 g0) e21);rw[show frD p.D _=ă by cases p<;>rfl]at r;exact Ł (ib r)
universe k91
namespace k91
open PySem L2
def sb_in(s:Sb h C)(a:C<32)(b:nY h):nY C:=kJ ((MX C a h j (tb5 (s.lt a) (cJ b))).2 (cJ b))
def wn_one{R C:Nat}{f:Mx}(h9:F_ (Ae lr)){i0 j0:Nat}(hi0:i0∈cs R)(hj0:j0∈cs C):ej=1↔F_ (lr=f i0 j0):=by
  unfold wn;have inF:F_ ((lr).toNat∈CA f):=tZ (by have:=h9 i hi j hj;exact gK Ă (MY i hi hj Ę))
  constructor
  · intro h i hi j hj
    obtain⟨w,hw⟩:=List.length_eq_one_iff.mp h;have q1:=inF i hi j hj;have q2:=inF i0 hi0 j0 hj0;rw[hw]at q1 q2;have:=aG q1;have:=aG q2;have:=h9 i hi j hj;have:=h9 i0 hi0 j0 hj0;omega
  · intro h
    have b0:=h9 i0 hi0 j0 hj0;have e:CA f=Cy (w==(f i0 j0).toNat):=by
      apply Wi;intro w _;rw[sM,wp_iff,ķ];constructor
      · rintro⟨i,j,hi,hj,q⟩;have:=h i hi j hj;omega
      · rintro rfl;exact⟨i0,j0,hi0,hj0,Ę⟩
    have q:=inF i0 hi0 j0 hj0;rw[e]at q ⊢;have:=one_at (f i0 j0).toNat Ă;have:=IX q;omega
def part(g:R<32)(q:gZ):(kX R (q i=ă))\/(kX R (q i=true))\/∃h,Sb h R/\(kX h (jm R/\q i=true))/\kX (R - h) (jm R/\q i=ă):=by
  obtain⟨h,d,c⟩:=sb_pred fun i=>q i&&R.testBit i
  by_cases z:kX R (q i=ă)
  · exact ď z
  by_cases o:kX R (q i=true)
  · exact mD o
  obtain⟨i,a,qi⟩:∃i∈cs R,q i=true:=by
    apply Mm;intro w;exact z fun i a=>by
      cases e:q i with
      | ă=>rfl
      | true=>exact ĸ ⟨i,a,e⟩ w
  obtain⟨j,f,qj⟩:∃i∈cs R,q i=ă:=by
    apply Mm;intro w;exact o fun i a=>by
      cases e:q i with
      | true=>rfl
      | ă=>exact ĸ ⟨i,a,e⟩ w
  have n:∀{i},R.testBit i=true->i<5:=fun {i} e=>tb5 g e
  have l:∀{i},nZ i=true->i<5:=fun {i} e=>tb5 d e
  have sub:=sb_of0 R g h d fun j f e=>by rw[c j f,Ĉ]at e;exact e.2
  have k:nZ i=true:=nH (c i (n (cJ a))) qi (cJ a)
  have b:nZ j=ă:=fA (c j (n (cJ f))) qj
  have s:Sb h R:=⟨tb0 k,Nat.lt_of_le_of_ne sub.2 (fun e=>by rw[e,cJ f]at b;cases b),sub.1⟩;refine uz ⟨h,s,Ĵ a (au (sb_in s g a)),eZ a⟩
  · have e:=cJ a
    rw[c i (l e),Ĉ]at e;exact e.1
  · obtain⟨m,p⟩:=kO s g a
    refine(au m);cases e:q i with
    | ă=>rfl
    | true=>exact ĸ (kJ (nH (c i (n (cJ m))) e (cJ m))) p
def JOk.mono(g:gC)(f:a<=d)(e:b<=c):J.j a b<=J.j d c:=by
  rcases g with rfl | rfl
  · show FN<=1+max d c
    omega
  · exact Rm f e
def V_one(R0:0<R)(a:ej=1):n_=J.g:=by
  rw[V_eq f Ă];exact ĉ a
def V_way(R0:0<R)(a:ej≠1)(hw:w∈fP):n_<=M5 n9 lR:=by
  rw[V_eq f Ă];unfold stp;rw[ĝ a];exact(minN_spec (Jx (eO w hw))).2 _ (eO w hw)
section
variable {f:Mx} {R C g:Nat}
def sb_un(s:Sb g R)(a:R<32)(d:jm R):jm (R - g)\/jm g:=by
  have c:=cJ d;cases b:IJ i with
  | true=>exact ė (kJ b)
  | ă=>exact ď (kJ (nH (MX R a g i (tb5 a c)).1 c b))
def V_min(g:0<R)(b:R<32)(h:0<C)(c:C<32)(d:ej≠1)(hp:0<ej):∃w∈fP,n_=M5 n9 lR:=by
  rw[V_eq f Ă];unfold stp;rw[ĝ d];obtain⟨w,a,e⟩:=Ő (minN_spec (Jx (eO _ (List.head_mem (wl_ne (f:=f) b c g h Ă))))).1;exact⟨w,a,e.symm⟩
def In9(f:Mx)(R C:Nat):Prop:=F_ (Ae lr)
def wn_p(e:In9 f R C)(g:0<R)(c:R<32)(h:0<C)(d:C<32):0<ej:=by
  obtain⟨i,b⟩:=vI R c g;obtain⟨j,a⟩:=vI C d h;have:=e i b j a;exact IX (gK (aJ ((lr).toNat<10)) (MY i b a Ę))
def two_parts{w:Wy}(h:w∈fP)(R0:0<R)(hR:R<32)(C0:0<C)(hC:C<32){P:Nat->Œ Nat}{Q:Prop}
    (k:∀R1 C1 R2 C2,Ci=((R1,C1),(R2,C2))->(R1+C1<R+C/\R2+C2<R+C)->(0<R1/\R1<32/\0<C1/\C1<32)->(0<R2/\R2<32/\0<C2/\C2<32)->(kX R1 (jm R))->(kX C1 (jm C))->(kX R2 (jm R))->(kX C2 (jm C))->(F_ ((jm R1/\nY C1)\/(jm R2/\nY C2)))->Q):Q:=by
  have l:=wl_lt h;rcases wl_parts h with⟨g,s,_,e⟩ | ⟨g,s,_,e⟩<;>rw[e]at l
  · have s1:=s.1
    have s2:=jk;exact fV _ _ e l ⟨Ę,Ę,C0,hC⟩ ⟨s1,s.lt hR,C0,hC⟩ (Ĵ hi (kO s hR hi).1) Na (Ĵ hi (sb_in s hR hi)) Na (tZ ((sb_un s hR hi).imp (⟨·,hj⟩) (⟨·,hj⟩)))
  · have s1:=s.1
    have s2:=jk;exact fV _ _ e l ⟨R0,hR,Ę,Ę⟩ ⟨R0,hR,s1,s.lt hC⟩ Na (Ĵ hi (kO s hC hi).1) Na (Ĵ hi (sb_in s hC hi)) (tZ ((sb_un s hC hj).imp (⟨hi,·⟩) (⟨hi,·⟩)))
universe E_
def mem_wN{rows:Ċ}{w:Int}{n m:Nat}{b:aW}:b∈fR↔∃S,(0<S/\S<2^n)/\(oa S≠[]/\Jk=S)/\b=(S,tW S):=by
  unfold wN;rw[Bm];constructor
  · rintro⟨S,h,rfl⟩
    obtain⟨h1,h2⟩:=bN h;exact⟨S,mem_al.mp h1,good_iff.mp h2,rfl⟩
  · rintro⟨S,h1,h2,rfl⟩
    exact(f9 S (zR ⟨mem_al.mpr h1,good_iff.mpr h2⟩))
def JL_bit{rows:Ċ}{w:Int}{m:Nat}{S j:Nat}:d_ (tW S)=(ě (j<m)&&Ru j):=(bs_f _ m).2 j
def RL_bit{rows:Ċ}{w:Int}{n:Nat}{J:Ġ}{i:Nat}:zV (bw (RL rows w n J))=(ě (i<n)&&rp rows w J i):=(bs_f _ n).2 i
def wN_word(h:b∈fR)(c:b.1.testBit i=true)(a:vw b=true):jn=w:=by
  obtain⟨S,h1,h2,rfl⟩:=mem_wN.mp h;rw[JL_bit,Ĉ]at a;exact eq_of_beq (qB a.2 i (kJ c))
def wide{rows:Ċ}{w:Int}{n m:Nat}{I J:Ġ}(hI:zS I)(hJ:IV)(I0:I≠[])(J0:J≠[])(h:∀i∈I,∀j∈J,jn=w):∃b∈fR,(∀i∈I,b.1.testBit i=true)/\∀j∈J,vw b=true:=by
  have ne:cg n (fun i=>I.contains i)≠[]:=(Gg i hi (Wj I0) (Jx (gK (hI i hi) (Vw hi))));obtain⟨S,hS⟩:∃S,S=bw (cg n fun i=>I.contains i):=av;have ec:cs S=cg n fun i=>I.contains i:=Ą hS (cs_bs ne)
  have S0:0<S:=Rr (ne (bs_zero.mp (ŏ hS z)))
  have S1:S<2^n:=rF hS (bs_f _ n).1
  have inS:∀i,jm S↔i∈I:=fun i=>by rw[ec,List.mem_filter,HB];exact⟨fun z=>z.2,fun z=>⟨o6 (hI i z),z⟩⟩
  have jpJ:∀j∈J,Ru j=true:=fun j hj=>Ak (Ĵ hi (beq_iff_eq.mpr (h i ((inS i).mp hi) j hj)))
  have hJL:oa S≠[]:=(Gg j hj (Wj J0) (Jx (gK (hJ j hj) (jpJ j hj))));obtain⟨S',a0,a1,a2,a3⟩:=closed (rows:=rows) (w:=w) (m:=m) S0 S1 hJL;refine⟨(S',tW S'),mem_wN.mpr ⟨S',⟨a0,a1⟩,⟨Ą a3 hJL,Ą a3 a2⟩,rfl⟩,eZ hi,gw hj⟩
  · show S'.testBit i=true
    rw[←a2,RL_bit,þ (hI i hi),qz];exact Ak fun c hc=>qB (bN hc).2 i ((inS i).mpr hi)
  · show d_ (tW S')=true
    rw[a3,JL_bit,þ (hJ j hj),qz];exact jpJ j hj
theorem cov_by{g:Type}{E bl:ø}{P:g->Œ aW}:∀{L:Ĳ g},acy->∃c:ø,ie<=B_/\(mv c bl)/\∀e∈E,(∃s∈L,P s e)->RI e
  | [],_=>⟨[],ħ,sj _ h,fun e _ ⟨s,hs,_⟩=>(eB hs)⟩
  | s::L,h=>by
    obtain⟨c,l,j,i⟩:=cov_by (fw d a)
    by_cases q:∃e∈E,P s e
    · obtain⟨b,u,r⟩:=h s ũ q
      refine⟨b::c,Nat.succ_le_succ l,fun x o=>(Ŀ o).elim (fun z=>z▸u) (j x),Ğ e f ⟨d,a,p⟩⟩;rcases Ŀ a with z | z
      · subst z;exact⟨b,ũ,r e f p⟩
      · obtain⟨v,n,m⟩:=i e f ⟨d,z,p⟩
        exact⟨v,Ŕ n,m⟩
    · refine⟨c,Nat.le_succ_of_le l,j,Ğ e f ⟨d,a,p⟩⟩
      rcases Ŀ a with z | z
      · subst z;exact ĸ ⟨e,f,p⟩ q
      · exact i e f ⟨d,z,p⟩
def Lst.le{c:ø}(h:Lst E bl t)(d:mv c bl)(a:∀e∈E,RI e):t<=ie:=by
  rcases wU ie t with z | z
  · exact ĸ (h.2 _ z) (cv.cov_all hs d a ħ)
  · exact z
theorem Lst.by{a:Type}(h:Lst E bl t){P:a->Œ aW}{L:Ĳ a}(g:∀e∈E,∃s∈L,P s e)(f:acy):t<=B_:=by
  obtain⟨c,l,j,i⟩:=cov_by f;exact š (h.le j fun e d=>i e d (g e d)) l
section
variable {rows:List (List Int)} {w:Int} {n m t:Nat}
def rep(h:r<ő):∃f∈θ,az f=az r:=by
  have a:=MR (pB h);have e:az (tK _)=az r:=(nH Ħ nv (FJ a));exact⟨_,gK a (Ą e (oK _)),e⟩
def mf_row(h:az i=az f):jn=pF f j:=b_ mf h
def mf_flip(R:ŧ)(b:j<m)(a:i<n):jn=Ř Ji i:=by
  rw[flip_get b];unfold col mf;rw[mi (vD _),ō,Ľ (Ą R.1 a),mi rows,Ľ (Ą R.1 a)];rfl
def mf_col(R:ŧ)(b:j<m)(c:f<m)(a:i<n)(h:Ji=(Î).getD f []):jn=pF i f:=by
  rw[mf_flip R b a,mf_flip R c a,h]
def wideP(p q:Œ Nat)(u:∃i,i<n/\p i)(s:∃j,j<m/\q j)(h:CT n m (p i->q j->jn=w)):∃b∈fR,CT n m (p i->q j->hs b (i,j)=true):=by
  classical
  obtain⟨i0,r,o⟩:=u;obtain⟨j0,l,g⟩:=s;have a:∀{N:Nat} {p:Œ Nat} {i:Nat},i∈cg N (fun i=>ě (p i))↔i<N/\p i:=fun {N p i}=>by rw[List.mem_filter,L5,xj]
  obtain⟨b,y,x,v⟩:=wide (Ĵ d (a.mp d).1) (fun j c=>(a.mp c).1) (Jx (a.mpr ⟨r,o⟩)) (Jx (a.mpr ⟨l,g⟩)) fun i d j c=>h i j (a.mp d).1 (a.mp c).1 (a.mp d).2 (a.mp c).2
  exact⟨b,y,fun i j d c f e=>by show ņ (b.1.testBit i&&vw b);rw[x i (a.mpr ⟨d,f⟩),v j (a.mpr ⟨c,e⟩)];rfl⟩
def mem_E:e∈pH↔e.1<n/\e.2<m/\pF e.1 e.2=w:=ţ mem_eE L5
abbrev LE(rows:Ċ)(w:Int)(n m t:Nat):Prop:=RJ
def Ga(R:ŧ)(h:p∈tell rows m w):p.1<n/\p.2<m/\pF p.1 p.2=w:=by
  obtain⟨a,b,c⟩:=acz;have e:=ji a;have d:=ji b;rw[R.1]at e;rw[cK]at d;exact⟨e,d,c⟩
def tell_pw:(tell rows m w).Pairwise fun p q=>kp (at2 rows) p q=true:=mA_apart _ _ _ ħ
universe E_
def mf_rst(b:i<ö)(a:j<iA):tV i j=pF (Ř θ i) (Ř nU j):=by
  unfold mf rst sub;rw[mi (List.map _ _),ō,Ľ b,gV,lZ,Ħ,ō,nv,gV,lZ,mi θ,Ľ b,lZ,mi (FI _),nv,lZ]
def rep_ix(h:r<ő):∃a,a<ö/\az (Ř θ a)=az r:=by
  obtain⟨f,e,d⟩:=rep h;obtain⟨a,b,c⟩:=K' e;exact⟨a,b,by rw[mi θ,Ľ b,lZ,c];exact d⟩
def FIx(h:a<ö):Ř θ a<ő:=by
  rw[Ħ,jU];exact ji (jV h)
def all_cs(h:i<a):jm (ψ a):=kJ (ţ WH (þ h))
def V_cut(i:gC)(d:0<R)(hw:∃w∈fP,Ci=(a,b)\/Ci=(b,a))(h:J.g<=M5 a b):n_<=M5 a b:=by
  by_cases h1:ej=1
  · rw[V_one d h1];exact h
  · obtain⟨w,g,c | c⟩:=hw
    · have:=V_way (J:=J) d h1 g
      rw[c]at this;exact this
    · have:=V_way (J:=J) d h1 g
      rw[c]at this;rw[i.comm];exact this
theorem V_g(k:gC):acA (J.g<=n_)
  | 0,R,C,h,a,_,_,_,_=>Ę
  | N+1,R,C,h,a,c,g,d,m=>by
    by_cases h1:ej=1
    · rw[V_one a h1];exact ħ
    · obtain⟨w,p,e⟩:=V_min a c g d h1 (wn_p m a c g d)
      rw[e];refine two_parts (P:=fun _ _=>True) p a c g d fun u v R2 C2 s l b p2 o n i3 i4 _=>?_
      have:=V_g k N u v Ă b.1 b.2.1 b.2.2.1 b.2.2.2 fun i r j q=>m i (o i r) j (n j q)
      rw[s];rcases k with rfl | rfl
      · exact cX
      · exact š this Bt
def J_g(a:gC)(h:J.g<=x):J.g<=J.j x y:=by
  rcases a with rfl | rfl
  · exact cX
  · exact š h Bt
def V_rows(d:gC)(n:In9 f R C)(o:0<R)(c:R<32)(p:0<C)(m:C<32)(s:Sb g R):n_<=Nk (R - g) C g C:=by
  have s1:=s.1;have s2:=jk;refine V_cut (a:=(R - g,C)) (b:=(g,C)) d o ?_ (J_g d (V_g d _ _ _ ħ Ă Ă p m fun i l j k=>n i (kO s c l).1 j k));rcases hv_all R c g (s.lt c) s with h | ⟨h,e⟩
  · exact⟨_,fh (eO g h),Ð⟩
  · exact⟨_,fh (eO (R - g) h),ė (ų e)⟩
def V_cols(c:gC)(o:In9 f R C)(k:0<R)(n:R<32)(C0:0<C)(d:C<32)(s:Sb g C):n_<=Nk R (C - g) R g:=by
  have s1:=s.1;have s2:=jk;refine V_cut (a:=(R,C - g)) (b:=(R,g)) c k ?_ (J_g c (V_g c _ _ _ ħ k n Ă Ă fun i m j l=>o i m j (kO s d l).1));rcases hv_all C d g (s.lt d) s with h | ⟨h,e⟩
  · exact⟨_,lv (eO g h),Ð⟩
  · exact⟨_,lv (eO (C - g) h),ė (ų e)⟩
def half_pre{al:À}(f:R<32)(l:d<32)(s:Sb g d)(h:Gb R d):(Gb R (d - g))\/(Gb R g)\/∃b,Sb b R/\(Gb b g)/\Gb (R - b) (d - g):=by
  obtain⟨b,r1,m⟩:=sb_pred fun i=>R.testBit i&&IJ (al i)
  have in1:kX b (jm R/\al i∈cs g):=Ĵ a (by have c:=cJ a;rw[m i (tb5 r1 c),Ĉ]at c;exact⟨kJ c.1,kJ c.2⟩)
  have in2:kX R (i∉cs b->al i∈cs _):=fun i a o=>by
    rcases sb_un s l (h i a)with q | q
    · exact q
    · exact ĸ (kJ (nH (m i (tb5 f (cJ a))) (cJ a) (cJ q))) o
  obtain⟨k,n⟩:=sb_of0 R f b r1 fun j hj c=>cJ (in1 j (kJ c)).1
  rcases O4 b with z | z
  · refine ď (Ĵ a (in2 i a (af w)))
    have:=cJ w;rw[z,pp]at this;cases this
  · rcases Nat.eq_or_lt_of_le n with w | w
    · exact mD (Ĵ a (in1 i (Ą w a)).2)
    · exact uz ⟨b,⟨z,w,k⟩,Ĵ a (in1 i a).2,Ĵ a (in2 i (kO ⟨z,w,k⟩ f a).1 (kO ⟨z,w,k⟩ f a).2)⟩
structure Op(J:Jt)(o:Nat->À):Prop where
  g:∀K,K<=o J.g K
  up:∀a b K,o a K<=o (J.j a b) K
  j:∀a b K x y,x<=o a K->y<=o b K->J.j x y<=o (J.j a b) K
def op_bits:Op jB (· + ·) where
  g:=fun K=>p9 (K<=0+K)
  up:=fun a b K=>p9 (a+K<=FN+K)
  j:=fun a b K x y h g=>by have h:=h;have g:=g;show 1+max x y<=FN+K;omega
def op_ends:Op jE (· * ·) where
  g:=fun K=>p9 (K<=1*K)
  up:=fun a b K=>V5 K (EY a b)
  j:=fun a b K x y h g=>by show x+y<=(a+b)*K;rw[Fz];exact Rm h g
theorem comb(y:gC)(O:Op J o){al ga:À}:∀(N v x:Nat),v+x<=N->0<v->v<32->0<x->x<32->In9 f v x->∀R C,0<R->R<32->0<C->C<32->In9 h R C->(Gb R v)->(∀j∈cs C,ga j∈cs x) ->
    (∀L M w,acB L M w V J h K)->V J h R C<=o (V J f v x) K
  | 0,_,_,l,A,_,_,_,_,_,_,_,_,_,_,_,_,_,_=>Ę
  | N+1,v,x,l,U,E,Y,B,X,R,C,A,n,H,p,F,u,r,I=>by
    obtain⟨i0,a2⟩:=vI R n A;obtain⟨j0,a1⟩:=vI C p H;by_cases h1:wn f v x=1
    · rw[V_one U h1]
      refine š (I R C (f (al i0) (ga j0)) A n H p (fun _ z=>z) (fun _ z=>z) (Ļ i k j m)) (O.g K);exact(wn_one X (u i0 a2) (r j0 a1)).mp h1 _ (u i k) _ (r j m)
    · obtain⟨w,hw,e⟩:=V_min (J:=J) U E Y B h1 (wn_p X U E Y B)
      rcases wl_parts hw with⟨g,s,_,q⟩ | ⟨g,s,_,q⟩
      · rw[q]at e
        have e:=e;have s1:=s.1;have s2:=jk;have Z:=s.lt E;have n1:=CV (X i (kO s E k).1 j m)
        have n2:In9 f g x:=CV (X i (sb_in s E k) j m)
        rw[e];rcases half_pre n E s u with z | z | ⟨L,t,z1,z2⟩
        · exact RV (v - g) x Ă Ă Y B n1 z r
        · rw[y.comm]
          exact RV g x s1 Z Y B n2 z r
        · have t1:=t.1;have t2:=dO
          refine š (V_rows y F A n H p t) (O.j _ _ _ _ _ ?_ ?_)
          · exact Nl (v - g) x Ă Ă Ă Y B n1 (R - L) C Ă Ă H p (CV (F i (kO t n k).1 j m)) z2 r (RU (Ĵ k (kO t n (S i k)).1) Q)
          · exact Nl g x Ă s1 Z Y B n2 L C t1 (t.lt n) H p (CV (F i (sb_in t n k) j m)) z1 r (RU (Ĵ k (sb_in t n (S i k))) Q)
      · rw[q]at e
        have s1:=s.1;have s2:=jk;have Z:=s.lt B;have n1:=CV (X i k j (kO s B m).1)
        have n2:In9 f v g:=CV (X i k j (sb_in s B m))
        rw[e];rcases half_pre p B s r with z | z | ⟨M,t,z1,z2⟩
        · exact RV v (x - g) U E Ă Ă n1 u z
        · rw[y.comm]
          exact RV v g U E s1 Z n2 u z
        · have t1:=t.1;have t2:=dO
          refine š (V_cols y F A n H p t) (O.j _ _ _ _ _ ?_ ?_)
          · exact Nl v (x - g) Ă U E Ă Ă n1 R (C - M) A n Ă Ă (CV (F i k j (kO t p m).1)) u z2 (RU S (Ĵ k (kO t p (Q i k)).1))
          · exact Nl v g Ă U E s1 Z n2 R M A n t1 (t.lt p) (CV (F i k j (sb_in t p m))) u z1 (RU S (Ĵ k (sb_in t p (Q i k))))
section
variable {A B:List (List Int)} {n m p q:Nat} {rule:Str}
def kindmap(R:kC X):∃b:À,acC (b r):=by
  have h:∀r,∃a,r<n->a<aX X/\CW _=CW r:=fun r=>by
    by_cases c:r<n
    · obtain⟨a,h⟩:=rep_ix (Ą R.1 c)
      exact⟨a,ş h⟩
    · exact⟨0,fun z=>ĸ z c⟩
  exact Classical.axiomOfChoice h
def rst_at(R:kC X){f a:À}(h:acC (f r))(g:∀r,r<m->a r<aX bu/\(bu).getD (Ř (FI bu) (a r)) []=(bu).getD r [])(b:r<n)(d:c<m):Ju X (f r) (a c)=mf X r c:=by
  have j:=FIx (h r b).1;have i:=FIx (g c d).1;rw[R.1]at j;rw[cK]at i;rw[mf_rst (h r b).1 (g c d).1,mf_row (h r b).2];exact mf_col R i d b (g c d).2
def full(b:0<n)(a:n<=5):0<ψ n/\ψ n<32:=by
  have h1:2^1<=2^n:=tP b;have h2:2^n<=2^5:=tP a;omega
def rd(h:jm (ψ n)):i<n:=qZ (fq (CG n)) h
def vv1(J:Jt)(m:Nat)(X:Ċ):Nat:=V J (Ju X) (xX X) (xX bu)
structure Fu(m:Nat)(X:Ċ):Prop where
  a:0<xX X/\xX X<32
  b:0<xX bu/\xX bu<32
  n:In9 (Ju X) (xX X) (xX bu)
universe E_
def row_ext(R:kC X)(a:i<n)(b:j<n):CW i=CW j↔∀x,x<m->mf X i x=mf X j x:=by
  refine⟨fun h x _=>b_ mf h,fun h=>RW (ţ (row_len R a) (row_len R b)) (Ğ x h1 h2)⟩;have e:=h x (ŏ (row_len R a) h1);unfold mf at e;rw[Ħ,Ľ h1,lZ,mi (CW j),Ľ h2,lZ]at e;exact e
def t5(R:kC X)(a:r<n)(b:c<m):mf bu c r=mf X r c:=(mf_flip R b a).symm
theorem pw_mem{c:Type}{R:c->Œ c}(d:∀a b,R a b->R b a):∀{l:Ĳ c},KO R->∀{a b:c},a∈l->kf->a≠b->R a b
  | [],_,_,_,h,_,_=>ζ
  | x::l,P,a,b,j,i,ne=>by
    rw[MP]at P;rcases Ŀ j with g | h1<;>rcases Ŀ i with f | h2
    · exact ĸ (g.trans f.symm) ne
    · rw[g];exact P.1 b h2
    · rw[f];exact d _ _ (P.1 a h1)
    · exact pw_mem d P.2 h1 h2 ne
theorem mA_max[C6 d](g:∀a b,c a b=true->c b a=true):∀(n:Nat) (l:Ĳ d),Ň<=n->∀S:Ĳ d,S.Nodup->(∀x∈S,x∈l)->S.Pairwise (fun a b=>c a b=true)->S.length<=Ć (mA c l)
  | _,[],_,S,_,hs,_=>by
    cases S with
    | nil=>exact cX
    | cons x r=>exact ĸ (hs x ũ) Ģ
  | 0,e::l,h,_,_,_,_=>og h
  | n+1,e::l,h,S,i,hs,P=>by
    have o:Ň<=n:=Ķ h
    rw[mA_cons];by_cases j:e∈S
    · have h1:Ć (S.erase e)<=Ć (mA c (vG (c e))):=mA_max g n _ (š (Ac _ _) o) _ (i.erase e) (fun x f=>by
        obtain⟨m,k⟩:=i.mem_erase_iff.mp f;refine zR ⟨(Ŀ (hs x k)).resolve_left m,pw_mem g P j k (jv m)⟩) (List.Pairwise.sublist List.erase_sublist P)
      rw[VO j]at h1;split
      · rw[ť];omega
      · rename_i z;rw[ť]at z;omega
    · have h1:=mA_max g n _ o _ i (fun x f=>(Ŀ (hs x f)).resolve_left fun z=>j (z▸f)) P
      split
      · omega
      · exact h1
def kp_comm(h:kp f a b=true):kp f b a=true:=by
  unfold kp at h ⊢;split at h
  · cases h
  · rename_i z
    have z:f b.1 b.2=f a.1 a.2:=Ķ z
    rw[ĝ (p6 z),z,Bool.or_comm];exact h
def kp_irr:kp f a a=ă:=by
  unfold kp;simp
def in_ents(h1:p.1∈I)(h2:p.2∈J)(a:CN=w):p∈CO I:=
  List.mem_flatMap.mpr ⟨p.1,h1,eO p.2 (zR ⟨h2,Ą ķ a⟩)⟩
def tell_in(h:e∈tell X m w):e.1∈FI X/\e.2∈FI bu/\mf X e.1 e.2=w:=acz
def bas_congr{P:Œ Int}{v w:Nat->rk.Rw}{n m:Nat}{b:Ġ}(h:iu (∀j,j<m->v i j=w i j))(B:rk.Bas P v n m b):rk.Bas P w n m b:=by
  have at':∀t,t<gX->vq t<n:=fun t ht=>B.lt _ (by
    rw[Ħ,Ľ ht];exact jV ht)
  refine⟨B.lt,B.up,fun c hs i hi=>B.ind c (gw hj) i hi,eZ hi⟩
  · have:=hs j hj
    rw[rk.sm_congr (g:=fun t=>c t*v (vq t) j) fun t ht=>ų (h _ (at' t ht) j hj)]at this;exact this
  · obtain⟨d,a,hd,q⟩:=B.sp i hi
    refine⟨d,a,hd,gw hj⟩;have:=q j hj;rw[h i hi j hj,rk.sm_congr (g:=fun s=>a s*w (vq s) j) fun t ht=>by show a t*v (vq t) j=_;rw[h _ (at' t ht) j hj]]at this;exact this
def vv_flip{rows:Ċ}{n m:Nat}(R:ŧ):∀j,j<m->iu (vv Î j i=Al i j):=fun j hj i hi=>by
  have hi':fM:=Ą R.1 hi
  have e:Ji=z8 j:=(by unfold flip;rw[Ħ,ō,wX hj];rfl);show Ř Ji i=z9;rw[e];unfold col;rw[Ħ,ō,Ľ hi',mi rows,Ľ hi'];rfl
section
variable {rows:List (List Int)} {n m:Nat} (R:Rect n m rows)
include R
theorem base0f:rk.Bas rk.P0 (fun j i=>Al i j) m n (bl0 Î n):=bas_congr (vv_flip R) (base0 (eg R))
theorem base2f:rk.Bas rk.P2 (fun j i=>Al i j) m n (bl2 Î):=bas_congr (vv_flip R) (base2 (eg R))
theorem len0f:Ć F5=Ć (bl0 Î n):=(base0 R).len rk.pr0 (base0f R)
theorem len2f:Ć (bl2 rows)=Ć (bl2 Î):=(base2 R).len rk.pr2 (base2f R)
universe E_
def q_ea:vO Ft zX=oR:=ŵ
def q_aa:vO zX zX=cV:=ŵ
def p0{p:Pn}(h:Ť e p.D):Ť (.ix e υ) (.str (match p with | .fin _=>"end" | .ask _ _ _ _=>"ask")):=FV h (BQ p)
def p1(h:RX):Ť (.ix e Å) (sd s):=xR h
def p2(h:RX):Ť (.ix e tI) (Ō x):=xR h
def p3(h:RX):Ť (.ix e (.int 3)) p.D:=xR h
def p4(h:RX):Ť (.ix e (.int 4)) q.D:=xR h
variable {fu k:Nat} {F:Nat->List DV->Option Ou} {δ:List Sv} {ds:List DV} {cl:Cl} {N M:Nat} {R:List (List Int)}
def deq_i(a b:Nat):deq (Ō a) (Ō b)=(a==b):=by
  unfold deq;rw[sM,ķ,ķ];omega
def idx_i{l:Ġ}{r:Nat}(h:r∈l)(hl:ň Ň):idxD (Ek nT) (Ō r)=ā (nh (l.idxOf r)):=by
  unfold idxD;dsimp only;rw[plain_i,plains_of fun d hd=>by obtain⟨j,_,rfl⟩:=Ő hd;exact plain_i 60 _,þ (Ą ċ (Ç hl)),find_idx (f:=nT) deq_i r h];rfl
def dR(σ:Ċ)(r:Ď):Ċ:=ĩ (r∈σ) σ (σ++[r])
def firsts(rows:Ċ):Ċ:=rows.foldl dR []
theorem idx_new{α:Type}[BEq α][Nm]{r:α}:∀{p q:Ρ},r∉p->(p++r::q).idxOf r=zG
  | [],q,_=>Ģ
  | a::p,q,h=>by
    have h1:¬a=r:=fun z=>h (z▸ũ)
    have h2:r∉p:=fun z=>h (Ŕ z)
    have hb:(a==r)=ă:=Ķ h1
    rw[Ki,MI,hb,idx_new h2];rfl
theorem idx_old{α:Type}[BEq α][Nm]{r:α}:∀{p q:Ρ},r∈p->(p++q).idxOf r<zG
  | a::p,q,h=>by
    rw[Ki,MI];by_cases z:a=r
    · have hb:ņ (a==r):=Ķ z
      rw[hb];exact Nat.succ_pos _
    · have hb:(a==r)=ă:=Ķ z
      rw[hb];have:r∈p:=by
        rcases Ŀ h with e | e
        · exact ĸ e.symm z
        · exact e
      exact Nat.succ_lt_succ (idx_old this)
inductive Asc:Œ Ď
  | nil:Asc []
  | snoc {l:Ď} {x:Int}:Asc l->(∀y∈l,y<x)->Asc (l++[x])
theorem firsts_go(rows:Ċ):∀(q p:Ċ),p++q=rows ->
    Bx (p.map fun r=>Cv)=Gc xY->(MQ xY p)->Asc (Gc xY)->Ć xY<=zG->fU xY ->
    (Bx (dn Cv)=Gc vT/\(MQ vT rows)/\Asc (Gc vT)/\Ć vT<=ő/\fU vT)
  | [],p,e,h1,h2,h3,h4,h5=>by rw[fv]at e;subst e;exact⟨h1,h2,h3,h4,h5⟩
  | r::q,p,e,h1,h2,h3,h4,h5=>by
    have lt:∀x∈p,tK x<zG:=fun x hx=>ŏ e (idx_old hx)
    by_cases hr:r∈p
    · have hd:r∈xY:=(h2 r).mpr hr
      have e1:(p++[r]).foldl dR []=xY:=(Ą En (ĉ hd));refine acD (Ą e1 h3) (mQ e1 Â) (Ą e1 h5)
      · rw[Ë,En,h1,e1]
        show dk _ _=_;unfold dk;rw[ĉ (eO r hd)]
      · intro x
        rw[e1,h2 x,Im,xp];exact⟨.inl,fun z=>z.elim id fun z=>z▸hr⟩
    · have hd:r∉xY:=fun z=>hr ((h2 r).mp z)
      have hn:tK r=zG:=ŏ e (idx_new hr)
      have e1:(p++[r]).foldl dR []=xY++[r]:=(Ą En (ĝ hd));have below:∀y∈Gc xY,y<Cv:=fun y hy=>by obtain⟨x,hx,rfl⟩:=Ő hy;have:=lt x ((h2 x).mp hx);rw[hn];omega
      refine acD (cw e1 Ë (.snoc h3 below)) (by rw[e1,Â,Â];simp only[oI];omega) ?_
      · rw[Ë,En,h1,e1,Ë]
        show dk _ _=_;unfold dk;rw[xm (Int.lt_irrefl _ (below _ z))];rfl
      · intro x
        rw[e1,Im,Im,h2 x]
      · rw[e1]
        refine List.nodup_append.mpr (bx h5 Ģ);intro a ha b hb;rw[xp]at hb;subst hb;exact fun z=>hd (z▸ha)
theorem insI_snoc{x z:Int}(hz:x<z\/¬x<z):xC Ď y (y<z) (x<z->oS (l++[z])=oS l++[z])
  | [],_,h=>by show oS [z]=_;unfold insI;rw[ĉ h];rfl
  | y::r,hl,h=>by
    rw[Ki];unfold insI;by_cases q:x<y
    · rw[ĉ q,ĉ q];rfl
    · rw[ĝ q,ĝ q,insI_snoc hz (fun y hy=>hl y (Ŕ hy)) h];rfl
theorem sort_snoc{z:Int}:xC Ď y (y<z) (bT (l++[z])=bT l++[z]/\∀y∈bT l,y<z)
  | [],_=>(bG (fun y hy=>eP hy))
  | x::r,h=>by
    obtain⟨h1,h2⟩:=sort_snoc (l:=r) (fw y hy)
    have hx:=h x ũ;refine(au ?_)
    · show oS (bT (r++[z]))=oS (bT r)++[z]
      rw[h1];exact insI_snoc (ď hx) h2 hx
    · have ins:∀{l:Ď} {y:Int},y∈oS l->y=x\/y∈l:=by
        intro l
        induction l with
        | nil=>intro y hy;exact ď (aG hy)
        | cons a l ih=>
          intro y hy;unfold insI at hy;split at hy
          · rcases Ŀ hy with e | e
            · exact ď e
            · exact ė e
          · rcases Ŀ hy with e | e
            · exact ė (e▸ũ)
            · rcases ih e with e | e
              · exact ď e
              · exact ė (Ŕ e)
      intro y hy;rcases ins (show y∈oS (bT r)from hy)with e | e
      · rw[e];exact hx
      · exact h2 y e
def sort_asc{l:Ď}(h:Asc l):bT l=l:=by
  induction h with
  | nil=>rfl
  | snoc h hb ih=>rw[(sort_snoc hb).1,ih]
def firsts_of(rows:Ċ):bT (Bx (dn Cv))=Gc vT/\Bx (dn Cv)=Gc vT/\(MQ vT rows)/\Ć vT<=ő/\fU vT:=by
  obtain⟨h1,h2,h3,h4,h5⟩:=firsts_go rows rows [] rfl rfl (fun x=>Ģ) .nil ħ Iz;exact⟨Ą h1 (sort_asc h3),h1,h2,h4,h5⟩
def idx_inj{α:Type}[BEq α][Nm]{l:Ρ}{a b:α}(ha:a∈l)(hb:kf)(h:l.idxOf a=l.idxOf b):a=b:=by
  have h1:=FJ (List.idxOf_lt_length_iff.mpr ha);have h2:=FJ (List.idxOf_lt_length_iff.mpr hb);rw[←h1,←h2];simp only[h]
theorem idx_map{α β:Type}[BEq α][Nm][BEq β][LawfulBEq β]{g:α->β}{r:α}:xC Ρ s (g s=g r->s=r) ((aF g).idxOf (g r)=l.idxOf r)
  | [],_=>rfl
  | a::l,h=>by
    rw[Η,MI,MI,idx_map (fw s hs)];by_cases z:a=r
    · subst z;simp
    · have h1:¬g a=g r:=fun q=>z (h a ũ q)
      have b1:(g a==g r)=ă:=Ķ h1
      have b2:(a==r)=ă:=Ķ z
      rw[b1,b2]
theorem cd_len(n:Nat):∀l,Ć (cd n l)=l
  | 0=>rfl
  | l+1=>by show Ć (cd n l)+1=_;rw[cd_len n l]
def down_w{a b c:ME}{i j:Int}(ha:Ũ a=ā (Ψ i))(hb:Ũ b=ā (Ψ j))(hc:Ũ c=p_ (-1))(h1 : -1000<=i)(h2:ň i)(h3 : -1000<=j)(h4:ň j):ax (Ũ (.rng [a,b,c]))=bt (qc i (mF i j)):=by
  show ax (MZ [a,b,c] (oT (rngD l) ds ŋ ĵ))=_;rw[qU ha hb hc,thns_ok];have s1:gh i=true:=acE h1 h2
  have s2:gh j=true:=(acE h3 h4);have s3:ě (i - j<=Fw)=true:=þ (Jd (Ş (i - j<=2000)) đ);show ax (oT (Yp Fw (-1:Int)) ds ŋ ĵ)=_;rw[s1,s2,s3];rfl
def down_cons(l:Nat):qc (l:Int) (l+1)=.int l::WJ:=by
  unfold qc;rw[Bp,Η,ŗ,aJ ((l:Int) - ı 0=l)]
  congr 1
  apply c_;intro a _;show ŕ ((l:Int) - ı (a+1))=ŕ _
  congr 1
  push_cast
  omega
theorem down_map(n:Nat)(f:DV->DV)(hf:∀j:Nat,f Ζ=ů (n/2^j%2)):∀l:Nat,(WJ).map f=iD (cd n l)
  | 0=>rfl
  | l+1=>by rw[aJ (ı (l+1) - 1=(l:Int)),down_cons,Η,down_map n f hf l,hf];rfl
def down_mem{l:Nat}{d:DV}(h:d∈WJ):∃j:Nat,j<l/\d=Ζ:=by
  unfold qc at h;obtain⟨a,ha,rfl⟩:=Ő h;have:=ź ha;exact⟨l - 1 - a,Ę,by congr 1;omega⟩
def e_digits(n l:Nat)(hl:l<=100):Ů 31 (gP n l)=ā (MM (cd n l)):=by
  rw[Ŧ d_digits];unfold d_digits;have w:=down_w (F:=Ý) (δ:=Ŗ 2 (gP n l)) (a:=tH Ń) (b:=Cr) (c:=Cr) (i_sub (pE 1 l) kR) (ev_neg kR) (ev_neg kR) Ă Ă Ă Ă;rw[aJ (mF ((l:Int) - 1) (-1)=l)]at w;have e:=ev_compS (F:=Ý) (δ:=Ŗ 2 (gP n l)) (elt:=Fp Ń Đ) (tg:=ma) (it:=.rng [tH Ń,Cr,Cr]) (fr:=pA 0) (f:=fun d=>match d with | Ζ=>ů (n/AQ%2) | d=>d) w đ (rB qc ċ Μ (Ç hl)) (fun d hd=>by
    obtain⟨j,hj,rfl⟩:=down_mem hd;refine(jg [lY,ī n] ?_);have h1:qV k (Fv Ń Đ) [lY,ī n] (ρ/pC j):=cA (op:=.RShift) (x:=.int n) (y:=Ζ) ć ć (show(if mJ<=É then ā (jS (ŕ (ρ/pC j)) Ad)else none)=_ from yT j);refine cA h1 Ž ?_;show ā (jS (ŕ (rW _ 1)) Ad)=_;rw[bit_of];show _=ā (jS (ŕ (ı (n/pC j%2))) Ad);rw[aE,VR];have:n/2^j%2=0\/n/2^j%2=1:=Ę
    rcases this with h | h<;>rw[h]<;>rfl)
  rw[down_map n _ (fun j=>by show ŕ (ı (n/pC j%2))=_;rw[aE])]at e;exact Ł (jh e)
def lin(m:Nat)(rows:Ċ)(s:Bool):Ċ:=ĩ s rows Î
def cmp_rr:vO nQ nQ=cV:=ŵ
def cmp_cr:vO z7 nQ=oR:=ŵ
def e_linesA(rows:Ċ)(n m:Nat)(R:ŧ)(hn:0<n)(hn2:ň n)(hm2:ň m)(s:Bool):cI 30 [Õ,sd s]=ε (tT Jy):=by
  rw[Ŧ d_lines_of];unfold d_lines_of;cases s with
  | true=>exact Ł (Aa Ē (ite_t (Λ (cl:=Ē) (iZ ć sH cmp_rr)) ć))
  | ă=>exact Ł (Aa Ē (ite_f (Λ (cl:=Ē) (iZ ć sH cmp_cr)) (tM ć (e_flipped rows n m R hn hn2 hm2))))
def lg(n:Nat):Nat:=[0,0,1,2,2,3,3,3,3].getD n 0
def cds(R:Ċ):Ċ:=R.map fun r=>WK
def cL(R:Ċ):DV:=rL (cds R)
def lg_le(n:Nat):lg n<=3:=by
  by_cases h:n<9
  · have:n=0\/acF:=Ę
    rcases this with rfl | rfl | rfl | rfl | rfl | rfl | rfl | rfl | rfl<;>decide
  · unfold lg
    rw[Ħ,jY Dr];decide
def lg_bits{n:Nat}(h0:0<n)(h:n<=8):uO (ρ - 1)=(lg n:Int)/\n<=2^lg n/\na (.lst [υ,υ,Å,tI,tI,.int 3,.int 3,.int 3,.int 3]) (.int n) (Ō (lg n)):=by
  have:acF:=Ę
  rcases this with rfl | rfl | rfl | rfl | rfl | rfl | rfl | rfl<;>exact(f9 ŵ Β)
def firsts_pos{R:Ċ}(h:0<R.length):0<Ć Gd:=by
  obtain⟨r,hr⟩:=Wa h;exact IX (((firsts_of R).2.2.1 r).mpr hr)
def ev_list{e:ME}(h:Ť e ŋ):Ż (IR [e]) ŋ ĵ:=by
  have q:Ũ (IR [e])=MZ [e] (listD l):=rfl;rw[q,nR];rfl
def cds0(h0:0<R.length):∃c cs,cds R=c::cs/\ie=Nn:=by
  cases R with
  | nil=>cases h0
  | cons r R=>exact⟨_,_,rfl,cd_len _ _⟩
def at0{c:Ď}{cs:Ċ}:na (rL (c::cs)) υ (ß c):=at_rowL (rows:=c::cs) (i:=0) Ģ
universe k91
namespace k91
open PySem L2
variable {n m:Nat} {rows:List (List Int)}
def range_getD{α:Type}(d:α)(r:Ρ):im (Ū Ű) j (r.getD j d)=r:=by
  apply List.ext_getElem?;intro i;rw[ō];by_cases h:i<Ű
  · rw[wX h,gV,Ħ,jU]
    rfl
  · rw[jY (Ź Μ),jY Ă]
    rfl
def sub_all{n m:Nat}{rows:Ċ}(R:ŧ):FC (Ū n) (Ū m)=rows:=by
  unfold sub;have e:∀i∈Ū n,(ļ (Ū m) j z9)=az i:=fun i hi=>by
    have hir:fM:=Ą R.1 (ź hi)
    have q:=range_getD mJ vC;rw[Ab hir]at q;exact q
  rw[c_ e,←R.1];exact range_getD [] rows
def CY{n m:Nat}{rows:Ċ}(R:ŧ):flip n Î=rows:=by
  have h:flip n Î=FC (Ū n) (Ū m):=by
    unfold flip sub;apply c_;intro i hi;have hir:fM:=Ą R.1 (ź hi)
    unfold col;rw[ŗ];apply c_;intro j _;show(Ř (dn (gB j)) i)=_;rw[Ħ,ō,Ľ hir,mi rows,Ľ hir];rfl
  rw[h,sub_all R]
def col_get{i j:Nat}(h:fM):Ř (z8 j) i=jn:=by
  unfold col mf;rw[Ħ,ō,jU,mi rows,jU];rfl
def fi(rows:Ċ)(i:Nat):Nat:=tK vC
def fi_mem{i:Nat}(h:fM):fi rows i∈θ:=by
  have hm:=pB h;refine gK (idx_lt hm) ?_;rw[ķ];unfold fi;rw[idx_get hm]
def fi_row{i:Nat}(h:fM):az (fi rows i)=az i:=idx_get (pB h)
def fi_self{i:Nat}(h:i∈θ):fi rows i=i:=cu (bN h).2
def fi_col(rc:ŧ){i j:Nat}(hi:i<n)(hj:j<m):pF i (fi Î j)=jn:=by
  have hj':j<Ć Î:=Ą cK hj
  have h1:=fi_row (rows:=Î) hj';have h2:fi Î j<m:=kh (ji (fi_mem (rows:=Î) hj')) cK
  rw[flip_get h2,flip_get hj]at h1;have hi':fM:=Ą rc.1 hi
  rw[←col_get hi',←col_get hi',h1]
def fi_rowm{i j:Nat}(hi:fM):pF (fi rows i) j=jn:=by
  unfold mf;rw[fi_row hi]
theorem nd_le{α:Type}[BEq α][Nm]:∀{l L:Ρ},l.Nodup->(∀x∈l,x∈L)->Ň<=B_
  | [],_,_,_=>cX
  | x::l,L,h,s=>by
    obtain⟨h1,h2⟩:=yx h;have hx:=s x ũ;have:=nd_le (l:=l) (L:=L.erase x) h2 fun y hy=>(List.mem_erase_of_ne (fun e=>h1 (ŏ e hy))).mpr (s y (Ŕ hy))
    rw[VO hx]at this;have:=IX hx;rw[ť];omega
theorem nd_map{α β:Type}{f:α->β}:∀{l:Ρ},l.Nodup->(∀x∈l,∀y∈l,f x=f y->x=y)->fU (aF f)
  | [],_,_=>Iz
  | x::l,h,s=>by obtain⟨h1,h2⟩:=yx h;refine List.nodup_cons.mpr ⟨mR,nd_map h2 fun a ha b hb=>s a (Ŕ ha) b (Ŕ hb)⟩;obtain⟨y,hy,e⟩:=Ő z;exact h1 (ŏ (s y (Ŕ hy) x ũ e) hy)
def FI_nd:fU θ:=V7 RS
def w9_flip(rc:ŧ)(w9:xN):W9 Î:=fun r hr x hx=>by
  obtain⟨j,hj,rfl⟩:=Ő hr;obtain⟨r',hr',rfl⟩:=Ő hx;exact w9 r' hr' _ (getD_in (Ą (rc.2 r' hr') (ź hj)))
def firsts_FI(rows:Ċ):Ć vT=ö:=by
  have h1:=(firsts_of rows).1;have h2:=MT rows;unfold kI at h2;rw[h1]at h2;have:=oy List.length h2;unfold nI at this;rw[ċ,ċ]at this;exact this
def FI_fewS{S:Ċ}(h:∀r∈rows,r∈S):ö<=S.length:=by
  have e:Ć (ļ θ i vC)=ö:=ċ ..;rw[←e];refine nd_le (nd_map FI_nd (ν i hi i' hi' q)) (Ĝ r hr)
  · rw[←fi_self hi,←fi_self hi']
    unfold fi;rw[q]
  · obtain⟨i,hi,rfl⟩:=Ő hr
    exact h _ (pB (ji hi))
universe k91
namespace k91
open PySem L2
def iD_set(xs:Ď)(j:Nat)(v:Int):(iD xs).set j yK=iD (xs.set j v):=b_ iD List.map_set
def lg_low:∀a,a<=8->0<a->a<=2^lg a/\(lg a=0\/2^(lg a - 1)<a):=ŵ
def dbB:bI:=[abj 8 kt (Ŏ 0) (.int 4) []]
def dbl_turn{fu:Nat}{F:Ŵ}{rows:Ċ}(xs:Ď)(hx:Ä=8)(h0:0<ő)(h8:ő<=8)(j:Nat)(hj:j<4)(w:Sv):∃rows' w',0<rows'.length/\rows'.length<=8/\(∀r∈rows',r∈rows)/\lH dbB (CZ w)=ſ [kG rows',gE xs,lY,w']:=by
  have ln:∀w:Sv,Ų pz (CZ w)=ā (Ψ (ő:Nat)):=fun w=>kh (ky (F:=F) (δ:=CZ w) (e:=Đ) (ds:=dn xA) (c:=Ē) rfl) ċ
  have t:=b_lt (ln w) (Ν 8);by_cases h:ő<8
  · rw[þ (aJ (ı ő<8))]at t
    obtain⟨a1,e1⟩:=vU (1+É);obtain⟨a2,e2⟩:=vU (4+É);obtain⟨p,hp⟩:∃p:Nat,a1%(qb ő)=(p:Int):=⟨(a1%(qb ő)).toNat,fq (FP a1 (aJ (qb ő≠0)))⟩;obtain⟨q,hq⟩:∃q:Nat,a2%(ő:Int)=(q:Int):=⟨(a2%(ő:Int)).toNat,fq (FP a2 (aJ ((ő:Int)≠0)))⟩;have q1:q<ő:=fq (FO a2 (Ş (0<(ő:Int))))
    have p1:p<=ő:=fq (FO a1 (Ş (0<qb ő)))
    have s1:F8 (RY Å (dZ pz Å)) (CZ w) p:=(ŏ hp (WM e1 (i_add (ln w) Ž) Ă));have s2:F8 (RY (.int 4) pz) (CZ (ī p)) q:=(ŏ hq (WM e2 (ln _) Ă));have s3:=fN (gj (G:=G) (F:=F) (n:=0) (d:=rL rows) (δ:=CZ (ī p)) rfl) s2 (at_rowL q1);have s4:=ev_lst (xG s3) (ln4 Ģ) rfl;have s5:=ev_slt (F:=F) (δ:=CZ (ī p)) (a:=Đ) (b:=ĺ) (ds:=dn xA) (c:=Ē) (h:=p) ć ć;have s6:=ev_slf (F:=F) (δ:=CZ (ī p)) (a:=Đ) (b:=ĺ) (ds:=dn xA) (c:=Ē) (h:=p) ć ć;have s7:=l_add s5 s4 Dr;have s8:=l_add s7 s6 Dr;have e:(dn (vB r)).take p++[vB (az q)]++(dn (vB r)).drop p=ļ WL r xA:=by rw[Ë,Ë,List.map_take,List.map_drop];rfl
    refine⟨WL,ī p,by rw[Â,Â,oI];omega,by rw[Â,Â,oI,mL,J9];omega,Ĝ r hr,?_⟩
    · rcases gL hr with z | z
      · rcases gL z with z | z
        · exact List.mem_of_mem_take z
        · rw[aG z];exact pB q1
      · exact List.mem_of_mem_drop z
    · refine FT t (ac s1 (xM (I_ (rL WL) ĵ ?_ rfl))) rfl
      unfold rL;rw[←e];exact s8
  · rw[dt (Ş (¬ı ő<8))]at t
    exact⟨rows,w,h0,h8,fun r hr=>hr,dm t rfl⟩
def e_doubled{fu k:Nat}{rows:Ċ}(xs:Ď)(hx:Ä=8)(h0:0<ő)(h8:ő<=8):∃rows',0<rows'.length/\rows'.length<=8/\(∀r∈rows',r∈rows)/\Ů 60 [rL rows,ß xs]=ε (rL rows'):=by
  obtain⟨a0,e0⟩:=vU 0;obtain⟨p,hp⟩:∃p:Nat,a0%4=(p:Int):=(o5 (a0%4).toNat);obtain⟨δ',e,R,z,w,r0,r8,rs,rfl⟩:=M4 2 j (∃R z w,0<R.length/\R.length<=8/\(∀r∈R,r∈rows)/\δ=[kG R,gE xs,z,w]) (body:=vJ k dbB) p 0 (δ:=[kG rows,gE xs,.no,.no])
    (fun j hj δ I=>by
      obtain⟨R,z,w,r0,r8,rs,rfl⟩:=I;obtain⟨R',w',q0,q8,qs,e⟩:=dbl_turn (F:=Ý) (fu:=fu) xs hx r0 r8 j Ă w;rw[aJ (mJ+É=j)];exact⟨_,e,R',_,w',q0,q8,fun r hr=>rs r (qs r hr),rfl⟩) ⟨rows,.no,.no,h0,h8,fun r hr=>hr,rfl⟩
  refine⟨R,r0,r8,rs,?_⟩;rw[Ŧ d__law_doubled];have em:qV k (Q_ 4) [kG rows,gE xs,.no,.no] p:=ŏ hp (nb (FV ć e0) Ž đ)
  show Ou.of (eV k [Ŏ 0 (IR ff),vz 2 [Q_ 4] dbB,.ret Đ] (Ŗ 4 [rL rows,ß xs]))=_;exact Ł (ac (ev_list ć) (Ai (rng_n em Ă) e (IZ ć)))
def cut_38{xs:Ď}{a b:Nat}(hx:Ä=20)(hab:a<=b)(hb:b<=20):cutD (iD xs) (ā Ag) (ā (b:Int))=iD ((xs.drop a).take (b - a)):=by
  unfold cutD slIx;dsimp only;rw[nj,nj,iD_len,hx,aE,aE,FA (Ş (a<=20)),FA hb];unfold iD;rw[List.map_take,List.map_drop]
def smT:bI:=d__law_small.body.drop 5
def flip_J{n m:Nat}{rows:Ċ}(rc:ŧ){cols:Ċ}(hc:∀c∈cols,c∈Î):∃J:Ġ,cols=J.map z8/\IV:=by
  induction cols with
  | nil=>exact(Á [] (AB j hj))
  | cons c cols ih=>
    obtain⟨J,e,hJ⟩:=ih fun c hc'=>hc c (Ŕ hc')
    obtain⟨j,hj,rfl⟩:=Ő (hc c ũ);exact⟨j::J,bQ e,fun i hi=>by
      rcases Ŀ hi with z | z
      · rw[z];exact ź hj
      · exact hJ i z⟩
def rowsOf_mem{n m:Nat}{ws:Ď}{r:Ď}(h:r∈MH){x:Int}(hx:x∈r):x∈ws:=by
  obtain⟨j,_,rfl⟩:=Ő h;exact List.mem_of_mem_drop (List.mem_of_mem_take hx)
def few_kinds{m:Nat}{rows:Ċ}{rows0:Ċ}{n':Nat}(n5:rows0.length<=5)(m5:m<=5)(rc:Rect n' m rows)(hr:∀r∈rows,r∈rows0){cols:Ċ}(hc:∀c∈cols,c∈Î)(w9:W9 rows0) :
    Rect n' cols.length No/\W9 No/\aX No<=5/\aX (flip cols.length No)<=5:=by
  obtain⟨J,e,hJ⟩:=flip_J rc hc;have rcc:Rect cols.length n' cols:=⟨rfl,fun c h=>by
    obtain⟨j,_,rfl⟩:=Ő (hc c h);unfold col;rw[ċ,rc.1]⟩
  have eR:No=dn (J.map fun j=>gB j):=by
    rw[e];unfold flip;apply RW
    · rw[ċ,Μ,ċ,rc.1]
    · intro i h1 h2
      rw[ċ,Μ]at h1;rw[OO,List.getElem_range,OO];unfold col;rw[ŗ];apply c_;intro j _;show Ř (dn (gB j)) i=_;rw[Ħ,ō,Ľ (Ą rc.1 h1)];rfl
  refine⟨eg rcc,Ļ r h x hx,?_,?_⟩
  · rw[eR]at h
    obtain⟨r',hr',rfl⟩:=Ő h;obtain⟨j,hj,rfl⟩:=Ő hx;exact w9 r' (hr r' hr') _ (getD_in (Ą (rc.2 r' hr') (hJ j hj)))
  · refine š (FI_fewS (S:=rows0.map fun r=>J.map fun j=>gB j) (Ĝ r h)) (Ą ċ n5)
    rw[eR]at h;obtain⟨r',hr',rfl⟩:=Ő h;exact eO r' (hr r' hr')
  · rw[CY rcc]
    exact š (FI_fewS hc) (Ą cK m5)
def e_flipG{F:Ŵ}{δ:Ĕ}{i:Nat}{e:ME}{rows:Ċ}{m:Nat}(hi:dY (kG rows))(he:Ũ e=ā (Ψ m))(hm:MG)(hl:ň ő)(m8:ň m) :
    Ż (fe Fo (.rng [e]) (pA i)) (rL Î) ĵ:=by
  rw[l_ (h:=nT) (f:=fun j=>ß (z8 j)) (rng_w he m8) đ (xE m8) fun j hj=>⟨[lY,kG rows],ĵ,by
    show ā ((mX (pA i) δ).set 0 lY)=_;unfold mX;show ā [Sv.val Ζ,OR]=_;rw[Ħ,hi];rfl,e_colL rows m j hm (ź hj) hl,rfl⟩]
  unfold rL flip;rw[ŗ];rfl
def small_tail{fu k n m:Nat}(ns:Ď)(hns:eL<=63)(tp:Int)(htp:0<tp)(t10:tp<=10)(xs:Ď)(hx:Ä=20)(far:Sv)(n0:0<n)(n5:n<=5)(m0:0<m)(m5:m<=5) :
    acL n' m' (Rect n' m' R) (eV ς smT WP) (.rt (rL R) true):=by
  obtain⟨v1,c1⟩:=R5 fu k 1;have nm:n*m<=25:=Cz n5 m5;obtain⟨ws0,hw0,st1⟩:=e_stream (fu:=fu) (k:=k) v1 (n*m) Ă;have mk1:mulOk ρ (m:Int)=true:=by unfold mulOk;simp;omega
  have cm:=FE Ů WP (gm Đ Ń) acK (pA 1) (l:=ws0) (h:=ŕ) (f:=fun x=>.int (x%tp)) (cl:=ĵ)
    (by
      have q:=CJ Ů WP 59 (R4 1 c1) (i_mul (pE 4 n) (pE 5 m) mk1) Α (Ą (show(ρ*(m:Int))=ı (n*m) by push_cast;rfl) st1);rw[q];rfl) đ (Ą hw0 (Ç nm)) (fun x _=>jg [ī x,ī tp] (nb ć ć htp))
  rw[show ws0.map (fun x=>ŕ (x%tp))=iD WO by unfold iD;rw[ŗ];rfl]at cm;obtain⟨b,hb,hb1,hb2⟩:∃b:Int,(if(eL:Int) - 4<ρ*m then(eL:Int) - 4 else ρ*m)=b/\b<=ı (n*m)/\b<=(eL:Int) - 4:=by refine⟨_,rfl,?_,?_⟩<;>split<;>push_cast<;>omega
  have hb3 : -1000<=b:=(by rw[←hb];have:mJ<=ρ*m:=Int.mul_nonneg (mI n) (mI m);split<;>omega);have md:∀x:Int,Ae (x%tp):=fun x=>by have h1:=FP x (Ş (tp≠0));have h2:=FO x htp;omega
  obtain⟨δ1,l1,ws,z,hw,hw9,rfl⟩:=M4 7 _ (∃(ws:Ď) (z:Sv),lI=n*m/\(∀x∈ws,Ae x)/\δ=Ge (qW ws) z .no .no)
    (body:=vJ ς [V0]) b.toNat 0 (δ:=WN)
    (fun j hj δ I=>by
      obtain⟨ws,z,hw,hw9,rfl⟩:=I;rw[aJ (mJ+É=j)];have h3:4+j<eL:=Ę
      have hv:na iX (.int (4+É)) (.int ns[4+j]):=(by rw[show(4:Int)+É=ı (4+j) by push_cast;rfl];show Tk (ı (4+j)) ŕ=_;rw[ix_of h3,qf,Ľ h3];rfl);refine⟨_,xM (ev_seti (d:=.int (ns[4+j]%tp)) (cl:=Ē) (n:=j) (cx:=Ē) (j:=j) rfl (WM hv ć htp) ć rfl (ix_of (mQ iD_len hw))),ws.set j (ns[4+j]%tp),lY,Ą sf hw,Ĝ x h,?_⟩
      · rcases List.mem_or_eq_of_mem_set h with q | q
        · exact hw9 x q
        · rw[q];exact md _
      · rw[←iD_set]
        rfl) ⟨WO,.no,Ą ċ hw0,fun x h=>by obtain⟨y,_,rfl⟩:=Ő h;exact md y,rfl⟩
  have em:iB ς V1 WN (Ψ b):=(by have e1:CC pz WN=ā (Ψ eL):=rfl;rw[ev_min (ab (i_mul (pE 4 n) (pE 5 m) mk1) (i_sub e1 (Ν 4)) Α),←hb];rfl);have rt:=FE Ů (Ge (qW ws) z .no .no) acJ (.rng [Í]) (lW 6 5) (h:=nT) (f:=fun j=>ß Rb)
    (rng_w (n:=n) ć Ă) đ (xE n5) (fun j hj=>by
      have hj:=ź hj;have mk2:mulOk É (m:Int)=true:=by unfold mulOk;simp;omega
      refine⟨[lY,qW ws,ī m],ĵ,rfl,?_,rfl⟩;rw[←cut_row hw hj];exact ev_sl xQ (i_mul ć ć mk2) (i_add (i_mul ć ć mk2) ć))
  have eR0:(.lst (eS n j (vB Rb)):DV)=rL MH:=(ML rL rowsOf);rw[eR0]at rt;have rc0:=rect_rows hw;have w90:W9 MH:=fun r hr x hx=>hw9 x (rowsOf_mem hr hx)
  obtain⟨R1,r0,r8,rs,e1⟩:=e_doubled (fu:=fu) (k:=k) ((xs.drop 3).take 8) (nH mL J9 hx) (show 0<Ć MH by rw[rc0.1];exact n0) (Ź rc0.1);have rc1:Rect R1.length m R1:=(bG (fun r hr=>rc0.2 r (rs r hr)));have x1:=acI .no 3 11;rw[acH 3 11]at x1;have c2:=RZ (F:=Ů) (f:=60) (ab rt x1 Α) rfl e1;obtain⟨C1,q0,q8,qs,e2⟩:=e_doubled (fu:=fu) (k:=k) (rows:=flip m R1) ((xs.drop 11).take 8) (nH mL J9 hx) (Ą cK m0) (Ź cK);have cf:=acG .no 8 χ R1 m ć rc1.2 Ă Ă;have x2:=acI (kG R1) 11 19;rw[acH 11 19]at x2;have c3:=RZ (F:=Ů) (f:=60) (ab cf x2 Α) rfl e2;obtain⟨f1,f2,f3,f4⟩:=few_kinds (Ą rc0.1 n5) m5 rc1 rs qs w90;have lc:∀c∈C1,ie=R1.length:=fun c hc=>by obtain⟨j,_,rfl⟩:=Ő (qs c hc);unfold col;rw[ċ]
  have ll:=ky (F:=Ů) (δ:=Ge (qW ws) z (kG R1) (kG C1)) (e:=.var 8) (ds:=R1.map fun r=>ß r) (c:=Ē) rfl;rw[ċ]at ll;have cl:=acG (kG C1) 9 (Þ [.var 8]) C1 R1.length ll lc Ă Ă;refine⟨R1.length,C1.length,flip R1.length C1,r0,r8,q0,q8,f1,f2,f3,f4,?_⟩;show eV ς [abn,vz 7 [V1] [V0],abm,abl,abk] _=_;exact Ê (sF cm) (Ai (rng_i em Ă hb3) l1 (tQ c2 c3 (jh cl)))
def e_small{fu k:Nat}(ns:Ď)(hns:eL<=63)(tp:Int)(htp:0<tp)(t10:tp<=10) :
    acL n m (kC R) (cI 61 [iX,.int tp]) (.v (rL R) true):=by
  obtain⟨v0,c0⟩:=R5 fu k 0;obtain⟨xs,hx,st0⟩:=e_stream (fu:=fu) (k:=k) v0 20 đ;obtain⟨a0,h0⟩:=vU 0;obtain⟨a1,h1⟩:=vU 1;obtain⟨a2,h2⟩:=vU 2;obtain⟨q,hq⟩:∃q:Int,a2%8/7=q:=av;have q01:q=0\/q=1:=Ę
  have s2:=CJ Ů (Ŗ 10 [iX,.int tp]) 59 (R4 0 c0) (Ν 20) Α st0;have iq:∀δ:Ĕ,Į δ 2 (gE xs)->qV ς (WQ (Ã 2 2) 8) δ q:=fun δ h=>ŏ hq (i_div (nb (FV (gj h) h2) Ž đ) Ž đ)
  rcases q01 with rfl | rfl
  · obtain⟨n,hn⟩:∃n:Nat,1+a0%4=ρ:=(o5 (1+a0%4).toNat)
    obtain⟨m,hm⟩:∃m:Nat,1+a1%4=(m:Int):=(o5 (1+a1%4).toNat);obtain⟨n',m',R,g1,g2,g3,g4,g5,g6,g7,g8,e⟩:=acP 4 n m;refine acO;rw[Ŧ d__law_small];show acN=_;exact Ł (ac s2 (acM 4 (R6 n hn h0 (R6 m hm h1 (dm (M8 (ž (vO (.int 4) (.int 5)=oR) rfl)) e)))))
  · obtain⟨n,hn⟩:∃n:Nat,1+a0%5=ρ:=(o5 (1+a0%5).toNat)
    obtain⟨m,hm⟩:∃m:Nat,1+a1%5=(m:Int):=(o5 (1+a1%5).toNat);obtain⟨n',m',R,g1,g2,g3,g4,g5,g6,g7,g8,e⟩:=acP 5 5 5;refine acO;rw[Ŧ d__law_small];show acN=_;exact Ł (ac s2 (acM 5 (R6 n hn h0 (R6 m hm h1 (FT (M8 (ž (vO (.int 5) (.int 5)=cV) rfl)) (ac Ž (ac Ž rfl)) e)))))
def e_codes{fu k:Nat}(tb s:DV)(R:Ċ)(h0:0<R.length)(h8:R.length<=8)(hl:cI 30 [tb,s]=ε (tT R)):nW 28 [tb,s]=ā (.v (cL R) true):=by
  rw[Ŧ d_codes];obtain⟨f1,f2,f3,f4,f5⟩:=firsts_of R;have fp:=firsts_pos h0;obtain⟨b1,b2,b3⟩:=lg_bits fp (aJ (Ć Gd<=8));have rk:=IW (fu:=fu) (k:=k+1) R Ă;have kl:Ć (kI R)<=60:=by unfold kI;rw[ċ];omega
  have s1:iD (bT (Bx (kI R)))=(Np).map nT:=by show iD (bT (Bx (R.map fun r=>ı Jz)))=_;rw[f1];unfold iD;rw[ŗ,ŗ];rfl
  have cm:=FE cI (acQ (aa Nn)) (ľ 31 [.idx Ń Đ,Ĭ]) Ĭ (lW 3 4) (l:=R) (h:=fun r=>ů Jz) (f:=fun r=>ß WK) (cl:=Ē)
    (by rw[gj (d:=ß (kI R)) rfl];unfold iD kI;rw[ŗ];rfl) đ (Ç h8) (fun r hr=>by
      refine⟨[qY Jz,ę (g_ Np nT),aa Nn],ĵ,rfl,?_,rfl⟩;have hm:Jz∈Np:=eO r ((f3 r).mpr hr);have ei:=idx_i hm (Ź ċ);rw[idx_map (g:=fun r=>Jz) (r:=r) (l:=Gd) fun x hx e=>idx_inj ((f3 x).mp hx) hr e]at ei;exact me fr true (ab (ev_idx ć rfl ć ei) ć Α) (e_digits ((Gd).idxOf r) Nn (Ç (lg_le _))))
  have e2:(.lst (R.map fun r=>vB WK):DV)=cL R:=by unfold cL rL cds;rw[ŗ];rfl
  rw[e2]at cm;have se:=ev_sset (F:=cI) (δ:=[ę (tb),ę s,gE (kI R),.no,.no]) (e:=Ĭ) (r:=kI R) (c:=Ē) ć kl;rw[s1]at se;have be:=ev_bits (F:=cI) (i_sub (ky (gj (n:=3) (d:=g_ Np nT) (δ:=acQ .no) rfl)) kR);rw[ċ,ċ,b1]at be;unfold d_codes;exact Ł (Ê (ev_set (cl:=ĵ) (me fr true (xG (MV ć hl)) rk) rfl) (tQ se be (jh cm)))
def e_alone{fu k n m:Nat}{rows:Ċ}(rc:ŧ)(n0:0<n)(n8:n<=8)(m0:0<m)(m8:m<=8)(s:Bool):fQ 4 29 [Õ,sd s]=ā (lF (lg (aX Jy):Nat)):=by
  have hl:=e_linesA (fu:=fu) (k:=k) rows n m rc n0 Ă Ă s;have l1:0<Ć Jy/\Ć Jy<=8:=by
    cases s with
    | true=>show 0<ő/\ő<=8;rw[rc.1];exact⟨n0,n8⟩
    | ă=>show 0<Ć Î/\Ć Î<=8;rw[cK];exact⟨m0,m8⟩
  have h:=e_codes (fu:=fu) (k:=k) Õ (sd s) Jy l1.1 l1.2 hl;rw[Ŧ MB];unfold MB;obtain⟨c,cs,e1,e2⟩:=cds0 l1.1;have t:=ky (dX (bZ nW (Ŗ 2 [Õ,sd s]) 28 [Đ,ŝ] [tN,(sd s,Ē)] h) (Ν 0) (show na (cL Jy) υ (ß c) by unfold cL;rw[e1];exact at0));rw[iD_len,e2,firsts_FI]at t;exact Ł (jh t)
def top_at(n:Int):∃tp:Int,0<tp/\tp<=10/\na (.lst [tI,.int 4,.int 10]) (.int (n%3)) (.int tp):=by
  have:n%3=0\/n%3=1\/n%3=2:=Ę
  rcases this with h | h | h<;>rw[h]
  · exact⟨2,Β,Β,rfl⟩
  · exact⟨4,Β,Β,rfl⟩
  · exact⟨10,Β,Β,rfl⟩
variable {fu k:Nat} {n m p q:Nat} {A B X:List (List Int)} {al ga:Nat->Nat} {w:Int} {J:Jt}
structure Sm(n m:Nat)(X:Ċ):Prop where
  n0:0<n
  n8:n<=8
  m0:0<m
  m8:m<=8
  R:kC X
  w9:W9 X
  h1:aX X<=5
  h2:aX bu<=5
theorem Sm.flip(s:xZ):Sm m n bu:=⟨s.m0,s.m8,s.n0,s.n8,eg s.R,w9_flip s.R s.w9,s.h2,Ą (CY s.R) s.h1⟩
structure Pu(n m:Nat)(A:Ċ)(p q:Nat)(B:Ċ)(al ga:À):Prop where
  a:∀i,i<p->al i<n
  g:∀j,j<q->ga j<m
  e:CT p q (mf B i j=mf A (al i) (ga j))
theorem Pu.flip(P:C3)(RA:kC A)(RB:Nr):Pu m n (flip m A) q p (flip q B) ga al:=
  ⟨P.g,P.a,fun j i hj hi=>by rw[t5 RB hi hj,t5 RA (P.a i hi) (P.g j hj),Nq]⟩
def Pu.kinds(P:C3)(RA:kC A)(RB:Nr):aX B<=aX A:=by
  have e:Ć (ļ (FI B) i (fi A (al i)))=aX B:=ċ ..;rw[←e];have lt:∀{i},i∈FI B->i<p:=fun h=>by have:=ji h;rwa [RB.1]at this
  refine nd_le (nd_map FI_nd (ν x hx y hy h)) wE
  · have hx':=lt hx;have hy':=lt hy
    have h:fi A (al x)=fi A (al y):=h;have r:A.getD (al x) []=A.getD (al y) []:=(by rw[←fi_row (rows:=A) (i:=al x) (Nt x hx'),←fi_row (rows:=A) (i:=al y) (Nt y hy'),h]);have s:B.getD x []=B.getD y []:=(row_ext RB hx' hy').mpr fun j hj=>by rw[P.e x j hx' hj,P.e y j hy' hj];unfold mf;rw[r]
    rw[←fi_self hx,←fi_self hy];unfold fi;rw[s]
  · obtain⟨i,hi,rfl⟩:=Ő hx
    exact fi_mem (Nt i (lt hi))
def Pu.sm(P:C3)(s:Sm n m A)(RB:Nr)(p0:0<p)(p8:p<=8)(q0:0<q)(q8:q<=8):Sm p q B:=
  ⟨p0,p8,q0,q8,RB,fun r hr x hx=>by
    obtain⟨i,hi,rfl⟩:=WG hr;obtain⟨j,hj,rfl⟩:=WG hx;have hj':j<q:=ŏ (RB.2 _ (jV hi)) hj
    have hi':i<p:=ŏ RB.1 hi
    have:=P.e i j hi' hj';have h9:=mf_in s.R s.w9 (P.a i hi') (P.g j hj');rw[←this]at h9;unfold mf at h9;rw[mi B,Ľ hi,lZ,Ħ,Ľ hj,lZ]at h9;exact h9,š (P.kinds s.R RB) s.h1,š ((P.flip s.R RB).kinds (eg s.R) (eg RB)) s.h2⟩
def Sm.fus(s:xZ):Fu m X:=⟨full (nX s.R.1 s.n0) s.h1,full (nX cK s.m0) s.h2,tZ (mf_in rc_rst (w9_rst s.R s.w9) (rd hi) (rd hj))⟩
def V_pull(hJ:gC){f h:Mx}{Ra Ca R C:Nat}(a0:0<Ra)(a1:Ra<32)(c0:0<Ca)(c1:Ca<32)(h9:In9 f Ra Ca)(R0:0<R)(R1:R<32)(C0:0<C)(C1:C<32)(g9:In9 h R C)(ha:Gb R Ra)(hg:∀j∈cs C,ga j∈cs Ca)(e:F_ (h i j=f (al i) (ga j))):V J h R C<=V J f Ra Ca:=by
  have hk:∀R1 C1 w,acB R1 C1 w V J h J.g:=fun R1 C1 w r0 r1 c0 c1 i1 i2 hw=>by obtain⟨i0,hi0⟩:=vI R1 r1 r0;obtain⟨j0,hj0⟩:=vI C1 c1 c0;rw[V_one r0 ((wn_one (tZ (g9 i (i1 i hi) j (i2 j hj))) hi0 hj0).mpr (tZ (by rw[e i (i1 i hi) j (i2 j hj),e i0 (i1 i0 hi0) j0 (i2 j0 hj0),hw i hi j hj,hw i0 hi0 j0 hj0])))];exact ħ
  rcases hJ with rfl | rfl
  · exact acR Ð op_bits 0
  · have:=acR iK op_ends 1
    exact š this (Nat.le_of_eq (Nat.mul_one _))
theorem V_swap(hJ:gC){f h:Mx}:acA ((F_ (h j i=lr))->V J h C R<=n_)
  | 0,R,C,l,R0,_,_,_,_,_=>Ę
  | N+1,R,C,l,R0,hR,C0,hC,h9,e=>by
    have g9:In9 h C R:=fun j hj i hi=>Ą (e i hi j hj) (h9 i hi j hj)
    obtain⟨i0,hi0⟩:=vI R hR R0;obtain⟨j0,hj0⟩:=vI C hC C0;by_cases h1:ej=1
    · rw[V_one R0 h1,V_one C0 ((wn_one g9 hj0 hi0).mpr fun j hj i hi=>by rw[e i hi j hj,e i0 hi0 j0 hj0];exact(wn_one h9 hi0 hj0).mp h1 i hi j hj)]
      exact ħ
    · obtain⟨w,hw,e1⟩:=V_min (J:=J) R0 hR C0 hC h1 (wn_p h9 R0 hR C0 hC)
      rcases wl_parts hw with⟨g,s,_,q⟩ | ⟨g,s,_,q⟩
      · rw[q]at e1
        have e1:n_=Nk (R - g) C g C:=e1;have s1:=s.1;have s2:=jk;have s3:=s.lt hR;rw[e1];exact š (V_cols hJ g9 C0 hC R0 hR s) (hJ.mono
          (R7 (R - g) C Ă Ă C0 hC (kO s hR hi).1 hj)
          (R7 g C s1 s3 C0 hC (sb_in s hR hi) hj))
      · rw[q]at e1
        have e1:n_=Nk R (C - g) R g:=e1;have s1:=s.1;have s2:=jk;have s3:=s.lt hC;rw[e1];exact š (V_rows hJ g9 C0 hC R0 hR s) (hJ.mono
          (R7 R (C - g) R0 hR Ă Ă hi (kO s hC hj).1)
          (R7 R g R0 hR s1 s3 hi (sb_in s hC hj)))
def Pu.vv(P:C3)(hJ:gC)(a:Sm n m A)(b:Sm p q B):vv1 J q B<=vv1 J m A:=by
  obtain⟨ka,hka⟩:=kindmap a.R;obtain⟨la,hla⟩:=kindmap (eg a.R);have fa:=a.fus;have fb:=b.fus;have ri:kX (xX B) (Ř (FI B) i<p):=Ĵ hi (kh (FIx (rd hi)) b.R.1)
  have ci:∀j∈cs (xX (C4 q B)),Ř (FI (C4 q B)) j<q:=fun j hj=>kh (FIx (rd hj)) cK
  exact V_pull hJ fa.a.1 fa.a.2 fa.b.1 fa.b.2 fa.n fb.a.1 fb.a.2 fb.b.1 fb.b.2 fb.n (al:=fun i=>ka (al (Ř (FI B) i))) (ga:=fun j=>la (ga (Ř (FI (C4 q B)) j))) (Ĵ hi (all_cs (hka _ (P.a _ (ri i hi))).1)) (fun j hj=>all_cs (hla _ (P.g _ (ci j hj))).1) (tZ (by rw[mf_rst (rd hi) (rd hj),rst_at a.R hka hla (P.a _ (ri i hi)) (P.g _ (ci j hj)),P.e _ _ (ri i hi) (ci j hj)]))
def Sm.vvf(s:xZ)(hJ:gC):vv1 J n (C4 m X)<=vv1 J m X:=by
  have f:=s.fus;unfold vv1;rw[CY s.R];refine V_swap hJ _ _ _ ħ f.a.1 f.a.2 f.b.1 f.b.2 f.n (Ļ i hi j hj)
  have a:=FIx (rd hi);have b:=FIx (rd hj);rw[s.R.1]at a;rw[cK]at b;rw[mf_rst (rd hi) (rd hj),mf_rst (rd hj) (Ą (CY s.R) (rd hi)),CY s.R,t5 s.R a b]
def Pu.rank(P:C3)(RA:kC A)(RB:Nr):Ć (bl0 B q)<=Ć (bl0 A m)/\Ć (bl2 B)<=Ć (bl2 A):=
  ⟨(base0 RA).le rk.pr0 (base0 RB) al ga P.a P.g (tZ Nq),(base2 RA).le rk.pr2 (base2 RB) al ga P.a P.g (tZ Nq)⟩
def cov_w{u:Nat}(h:JA u):∃c:ø,ie<=u/\(mv c (wN X w n m))/\CT n m (mf X i j=w->RI (i,j)):=by
  cases e:cv.cov hs u (eE X w m (Ū n)) (wN X w n m)with
  | none=>exact ĸ e h.1
  | some c=>
    obtain⟨h1,h2,h3⟩:=cv.cov_ok hs e;exact⟨c,h3,h1,fun i j hi hj hv=>h2 _ (mem_E.mpr ⟨hi,hj,hv⟩)⟩
def Pu.cover(P:C3){a b:Nat}(ha:LE A w n m a)(hb:LE B w p q b):b<=a:=by
  obtain⟨c,c1,c2,c3⟩:=cov_w ha;refine acS (al e.1) (ga e.2)
  · obtain⟨i1,i2,i3⟩:=mem_E.mp he
    exact c3 _ _ (P.a _ i1) (P.g _ i2) ((P.e _ _ i1 i2).symm.trans i3)
  · obtain⟨e,he,k⟩:=hx
    obtain⟨i1,i2,i3⟩:=mem_E.mp he;unfold hs at k;rw[Ĉ]at k;obtain⟨b,g1,g2⟩:=wideP (rows:=B) (w:=w) (n:=p) (m:=q) (fun i=>s.1.testBit (al i)=true) (fun j=>s.2.testBit (ga j)=true) ⟨e.1,i1,k.1⟩ ⟨e.2,i2,k.2⟩ fun i j hi hj hp hq=>Ą Nq (wN_word (c2 s hs') hp hq)
    refine⟨b,g1,Ğ e' he' hh⟩;obtain⟨j1,j2,_⟩:=mem_E.mp he';have hh:hs s (al e'.1,ga e'.2)=true:=hh;unfold hs at hh;rw[Ĉ]at hh;exact g2 e'.1 e'.2 j1 j2 hh.1 hh.2
def cover_flip(R:kC X){a b:Nat}(ha:JA a)(hb:LE bu w m n b):b<=a:=by
  obtain⟨c,c1,c2,c3⟩:=cov_w ha;refine acS e.2 e.1
  · obtain⟨i1,i2,i3⟩:=mem_E.mp he
    exact c3 _ _ i2 i1 ((t5 R i2 i1).symm.trans i3)
  · obtain⟨e,he,k⟩:=hx
    obtain⟨i1,i2,i3⟩:=mem_E.mp he;unfold hs at k;rw[Ĉ]at k;obtain⟨b,g1,g2⟩:=wideP (rows:=bu) (w:=w) (n:=m) (m:=n) (fun i=>s.2.testBit i=true) (fun j=>s.1.testBit j=true) ⟨e.1,i1,k.2⟩ ⟨e.2,i2,k.1⟩ fun i j hi hj hp hq=>Ą (t5 R hj hi) (wN_word (c2 s hs') hq hp)
    refine⟨b,g1,Ğ e' he' hh⟩;obtain⟨j1,j2,_⟩:=mem_E.mp he';have hh:hs s (e'.2,e'.1)=true:=hh;unfold hs at hh;rw[Ĉ]at hh;exact g2 e'.1 e'.2 j1 j2 hh.2 hh.1
def tell_max{S:ø}(h:∀x∈S,x.1∈FI X/\x.2∈FI bu/\mf X x.1 x.2=w)(P:S.Pairwise fun a b=>kp (at2 X) a b=true):S.length<=R8:=
  mA_max (fun _ _=>kp_comm) _ _ ħ S (P.imp fun {a b} q z=>by subst z;rw[kp_irr]at q;cases q) (fun x hx=>in_ents (h x hx).1 (h x hx).2.1 (h x hx).2.2) P
def Pu.apart(P:C3)(RA:kC A)(RB:Nr):Ć (tell B q w)<=Ć (tell A m w):=by
  let φ:aW->aW:=fun e=>(fi A (al e.1),fi (C4 m A) (ga e.2))
  have val:CT p q (mf A (fi A (al i)) (fi (C4 m A) (ga j))=mf B i j):=fun i j hi hj=>by rw[fi_rowm (Nt i hi),fi_col RA (P.a i hi) (P.g j hj),Nq]
  have e:Ć ((tell B q w).map φ)=Ć (tell B q w):=ċ ..;rw[←e];refine acU
  · obtain⟨y,hy,rfl⟩:=Ő hx
    obtain⟨h1,h2,h3⟩:=Ga RB hy;exact⟨fi_mem (Nt _ h1),fi_mem (Ą cK (P.g _ h2)),Ţ (val _ _ h1 h2) h3⟩
  · refine acT
    obtain⟨x1,x2,_⟩:=Ga RB hx;obtain⟨y1,y2,_⟩:=Ga RB hy;unfold kp at h ⊢;show ņ (WR (mf A) (φ y).1 (φ y).2 (φ x).1 (φ x).2);rw[val _ _ x1 x2,val _ _ y1 y2,val _ _ x1 y2,val _ _ y1 x2];exact h
def apart_flip(R:kC X):Ć (tell bu n w)<=R8:=by
  let φ:aW->aW:=fun e=>(e.2,e.1)
  have e:Ć ((tell bu n w).map φ)=Ć (tell bu n w):=ċ ..;rw[←e];refine acU
  · obtain⟨y,hy,rfl⟩:=Ő hx
    obtain⟨h1,h2,h3⟩:=Ga (eg R) hy;obtain⟨k1,k2,_⟩:=tell_in hy;rw[CY R]at k2;exact⟨k2,k1,(t5 R h2 h1).symm.trans h3⟩
  · refine acT
    obtain⟨x1,x2,_⟩:=Ga (eg R) hx;obtain⟨y1,y2,_⟩:=Ga (eg R) hy;unfold kp at h ⊢;have h:ņ (WR (mf bu) y.1 y.2 x.1 x.2):=h;rw[t5 R x2 x1,t5 R y2 y1,t5 R y2 x1,t5 R x2 y1]at h;show ņ (WR (mf X) y.2 y.1 x.2 x.1);rw[Bool.or_comm];exact h
universe k91
namespace k91
open PySem L2
variable {fu k n m:Nat} {F:Nat->List DV->Option Ou} {δ:List Sv} {rows:List (List Int)}
def q_row(s:Bool):vO (sd s) nQ=ā s:=by cases s<;>decide +kernel
def q_ee':vO Ft Ft=cV:=ŵ
def q_ae':vO zX Ft=oR:=ŵ
def wyB:bI:=abd
theorem w_loop(P0:DV)(i j:Nat):∀(p:Pn) (z:Nat) (bs:Ĩ) (x y:Sv),p.deep<z->ň (BB+p.deep)->∃bs' x' y',Tr (br (π 4) zX) wyB z [ę P0,aa i,vE,aI bs,ę p.D,x,y]=ſ [ę P0,aa i,vE,aI bs',ę (Pn.fin vS).D,x',y']
  | p,0,bs,x,y,h,_=>nL (vg _)
  | t4,z+1,bs,x,y,_,_=>⟨bs,x,y,while_f (Λ (iZ (p0 (p:=t4) ć) sH q_ea))⟩
  | xV y',z+1,bs,x,y,h,hl=>by
    have hd:1+max n.deep y'.deep<z+1:=h;have hl:ň (BB+(1+max n.deep y'.deep)):=hl;obtain⟨t,ht⟩:∃t:Nat,t=(ĩ s i j):=av
    let D (l:Ĩ) (u v:Sv):Ĕ:=[ę P0,aa i,vE,aI l,ę (Nu y').D,u,v]
    have v4:∀l u v,Ų Í (D l u v)=ā (.ok (Nu y').D Ē):=fun l u v=>iC
    have c5:Ų acV (D bs x y)=eA (Ō t):=by
      have tc:=Λ (iZ (p1 (v4 bs x y)) (sH (x:=iy)) (q_row s));rw[ht];cases s with
      | true=>exact ite_t tc ć
      | ă=>exact ite_f tc ć
    have c6:F8 (Fp (Ã 4 2) χ) (D bs (aa t) y) vV:=(by have sh:=i_shr (p2 (v4 bs (aa t) y)) (dr 5 (Ō t)) (mI t);have:=cA (op:=rX) sh kR (r:=p_ (rW ((c:Int)/pC t) 1)) rfl;rw[bit_of]at this;exact this);have body:lH wyB (D bs x y)=ſ [ę P0,aa i,vE,aI (bs++[.int vV]),ę (ĩ (kH t) y' n).D,aa t,ī vV]:=by
      refine tQ c5 c6 (Ê (ev_app (d:=.int vV) (cl:=Ē) rfl ć rfl (tm (Ş (ň BB)) đ)) ?_);have v4':=v4 (bs++[.int vV]) (aa t) (ī vV);have q:=b_eq (Jl F (D (bs++[.int vV]) (aa t) (ī vV)) 6 (.int vV)) kR;cases hb:kH t with
      | true=>rw[hb]at q v4';exact ac (ite_t (Λ q) (p4 v4')) rfl
      | ă=>rw[hb]at q v4';exact ac (ite_f (Λ q) (p3 v4')) rfl
    obtain⟨bs',x',z',ih⟩:=w_loop P0 i j (ĩ (kH t) y' n) z (bs++[.int vV]) (aa t) (ī vV) (by split<;>omega) (by rw[Â];show ň (BB+1+_);split<;>omega);refine⟨bs',x',z',while_t (Λ (iZ (p0 (p:=xV y') (v4 bs x y)) sH q_aa)) body (ih.trans ?_)⟩;have e:(ĩ (kH t) y' n).rch i j=(Nu y').rch i j:=by show _=(WD (y'.rch i j));rw[ht];generalize (ĩ s i j)=u;cases kH u<;>rfl
    rw[e]
def e_reached{p:Pn}{i j:Nat}(h:p.deep<fu)(hl:ň p.deep):cI 50 WS=ā (lF vS):=by
  obtain⟨bs,x,y,e⟩:=w_loop (F:=Ý) (fu:=fu) p.D i j p fu [] .no .no h (p9 (ň (0+_)));have w:Ů 49 WS=ε (ģ [.lst bs,.int vS]):=by
    rw[Ŧ d_way];unfold d_way;refine Ł (Ê (sF RG) (ac (dr 0 p.D) (go_wh e ?_)));have i1:=dX (G:=G) (F:=Ý) (δ:=WT) (a:=Í) (b:=Å) (d:=.int vS) ć Ž rfl;have t:=ab (ev_vown (G:=G) (F:=Ý) (δ:=WT) (n:=3) (d:=.lst bs) rfl) i1 Α;have e2:iB k (ģ [ĺ,Ã 4 1]) WT (.ok (ģ [.lst bs,.int vS]) bp):=by show mV (evEs G Ý [ĺ,Ã 4 1] _) _=_;rw[t];rfl
    exact jh e2
  rw[Ŧ d_reached];exact Ł (Aa Ē (fN (bZ Ů (Ŗ 3 WS) 49 [Đ,ŝ,Ĭ] [(p.D,Ē),CS i,CS j] w) Ž rfl))
theorem enu_iD:∀(r:Ď) (k:Nat),enuD k (iD r)=eS Ű c (ģ [ů (k+c),Fy c])
  | [],_=>rfl
  | x::r,k=>by
    show pG k (.int x)::enuD ς (iD r)=_;rw[enu_iD r ς,ť,Bp,Η,ŗ]
    congr 1
    apply c_;intro c _;show vn [ů (k+1+c),Fy c]=ģ [ů (k+(c+1)),.int (Ř (x::r) (c+1))];rw[Ş (k+1+c=k+(c+1))];rfl
def e_settles(rc:ŧ)(n8:n<=8)(m8:m<=8){p:Pn}(h:p.deep<fu)(hl:ň p.deep)(to:CT n m (vS=jn)):nW 51 [p.D,Õ]=ε fx:=by
  rw[Ŧ d_settles];unfold d_settles
  let D (u v x y:Sv):Ĕ:=[ę p.D,cG,u,v,x,y]
  let F:=cI
  have wk:qF (Ų (.enu Ń) (D .no .no .no .no)) (dU (eS n (c:Nat) (ģ [Ō c,z_ c]))):=(by show ā (M_ (dn jf) _)=_;rw[enu_mq,rc.1];simp only[jW];rfl);refine Ł (go_foE (J:=fun δ=>∃u v x y,δ=D u v x y) wk Ð (forGo_all (I:=fun δ=>∃u v x y,δ=D u v x y) (Ļ d hd δ ⟨u,v,x,y,e⟩) ⟨_,_,_,_,rfl⟩) fun δ ⟨u,v,x,y,e⟩=>by subst e;exact ib rfl);subst e;obtain⟨i,hi,rfl⟩:=Ő hd;have hi:=ź hi;have rl:=row_len rc hi;have wk2:qF (Ų (.enu ĺ) (Nv x y)) (dU (eS m (c:Nat) (ģ [Ō c,.int (Ř vC c)]))):=by show ā (M_ (iD vC) _)=_;rw[enu_iD,rl];simp only[jW];rfl
  obtain⟨δ',e2,x',y',rfl⟩:=forGo_all (I:=fun δ=>∃x y,δ=Nv x y) (tg:=jP [4,5]) (body:=fun δ'=>lH [IO (pv 50 Ĭ Í) χ] δ') (ds:=eS m Cw (pG j (.int z9))) (δ:=Nv x y) (fun d hd δ ⟨x,y,e⟩=>by
    subst e;obtain⟨j,hj,rfl⟩:=Ő hd;have hj:=ź hj
    let E:=Nv vE (ī z9)
    have rr:=bZ F E 50 [Đ,Ĭ,Í] [(p.D,Ē),CS i,CS j] (e_reached (k:=k) h hl);have ne:=b_ne rr (pE 5 z9);rw[show(vS != z9)=ă by rw[to i j hi hj];exact T0 _]at ne;exact⟨_,E,rfl,dm ne rfl,_,_,rfl⟩) (f9 x y)
  exact⟨Nv x y,_,rfl,go_fo wk2 Ð e2 rfl,_,_,_,_,rfl⟩
def Pn.fl:Pn->Pn
  | t4=>t4
  | xV y=>.ask (!s) c n.fl y.fl
theorem fl_deep:∀p:Pn,p.fl.deep=p.deep
  | .fin _=>rfl
  | .ask _ _ n y=>by show 1+max n.fl.deep y.fl.deep=1+Am;rw[fl_deep n,fl_deep y]
theorem fl_rch(i j:Nat):∀p:Pn,p.fl.rch j i=vS
  | .fin _=>rfl
  | xV y=>by
    show(if kH (ĩ (!s) j i)then y.fl.rch j i else n.fl.rch j i)=WD (y.rch i j)
    rw[fl_rch i j n,fl_rch i j y];cases s<;>rfl
def g_sd(s:Bool):gdxD G (sd s)=eA (sd !s):=by
  have h1:G.gk.lookup (iy : Str)=ā (lX : Str):=ŵ
  have h2:G.gk.lookup (lX : Str)=ā (iy : Str):=ŵ
  cases s with
  | true=>show Vv (iy : Str)=_;rw[h1];rfl
  | ă=>show Vv (lX : Str)=_;rw[h2];rfl
theorem e_fl:∀(p:Pn) (k:Nat),tX (k+1+p.deep) 44 [p.D]=ε p.fl.D
  | t4,k=>by rw[ž (k+1+Pn.deep t4=k+1) rfl,Ŧ IQ];unfold IQ;exact Ł (go_ifr (Λ (iZ (p0 (p:=t4) ć) sH q_ee')) (IZ ć))
  | xV y,k=>by
    have hn:∃a,k+1+Am=a+1+n.deep:=(o5 (k+Am - n.deep));have hy:∃a,k+1+Am=a+1+y.deep:=(o5 (k+Am - y.deep));obtain⟨a,ha⟩:=hn;obtain⟨b,hb⟩:=hy;have e1:=e_fl n a;have e2:=e_fl y b;rw[←ha]at e1;rw[←hb]at e2;rw[show k+1+Pn.deep (xV y)=(k+1+Am)+1 by show k+1+(1+Am)=_;omega,Ŧ IQ];unfold IQ
    let F:=tX (k+1+Am)
    let D:Ĕ:=Ŗ 1 [(Nu y).D]
    have v0:Ų Đ D=ā (.ok (Nu y).D Ē):=iC;refine Ł (dm (iZ (p0 (p:=xV y) v0) sH q_ae') (ib ?_));have g1:Ų (.gdx (Ã 0 1)) D=eA (sd !s):=(by show Χ (Ų (Ã 0 1) D) Tn=_;rw[p1 v0,bq,g_sd]);have c1:=Nj D 44 (p3 v0) e1;have c2:=Nj D 44 (p4 v0) e2;have st:stros [(DV.str "ask",Ad),(sd !s,Ē),CS c,(n.fl.D,Ē),(y.fl.D,Ē)]=true:=rfl;have:=ev_tup (ab (sH (G:=G) (F:=F) (δ:=D) (x:="ask")) g1 (qU (p2 v0) c1 c2)) (Jj 5) st;exact uY this
universe k91
namespace k91
open PySem L2
variable {fu k n m p q:Nat} {F:Nat->List DV->Option Ou} {δ:List Sv} {X:List (List Int)} {w:Int}
def nl(n m:Nat)(X:Ċ)(w:Int)(c:Nat):Ġ:=[vv1 jB m X,vv1 jE m X,Ć (bl0 X m),Ć (bl2 X),c,R8,lg (aX X),lg (aX bu)]
def nV(l:Ġ):DV:=ß Rx
def e_num(s:xZ)(w:Int)(hf:100<=fu):∃c,JA c/\∀{k:Nat},fQ 42 62 [tT X,.int w]=ā (.v (nV (t6 X)) true):=by
  obtain⟨c,_,hc⟩:=ex_least (rows:=X) (w:=w) (n:=n) (m:=m) s.n8;refine⟨c,hc,fun {k}=>?_⟩;have n0:=s.n0;have n8:=s.n8;have m0:=s.m0;have m8:=s.m8
  let F:=fQ 41
  let D (u:Sv):Ĕ:=[ę (tT X),iE,u]
  have call1:∀{f:Nat} {x:Int} {u:Sv},F f [tT X]=ā (lF x)->F8 (Ε f) (D u) x:=fun {f x u} h=>bZ F (D u) f ff [xW X] h
  have a1:=R9 22 (e_least (fu:=fu) (k:=k+32) X n m s.R s.w9 n0 Ă m0 Ă s.h1 s.h2);have a2:=R9 23 (e_fewest (fu:=fu) (k:=k+32) X n m s.R s.w9 n0 Ă m0 Ă s.h1 s.h2);have a3:=R9 45 (e_rank (fu:=fu) (k:=k+37) s.R s.w9 n8 Ă);have a4:=R9 52 (e_rank2 (fu:=fu) (k:=k+37) s.R Ă Ă);have s1:=ev_lst (ab a1 a2 (ab a3 a4 Α)) (Jj 4) rfl
  let L1:Ĩ:=[nh (vv1 jB m X),nh (vv1 jE m X),nh (Ć (bl0 X m)),nh (Ć (bl2 X))]
  obtain⟨cv,c1,_,_,c4⟩:=e_few (fu:=fu) (k:=k+29) (w:=w) s.R n0 n8 m8 s.h1 s.h2 hf hc;have call2:∀{f:Nat} {l:Ĩ} {u:Sv},F f [tT X,.int w]=ā (.v (.lst l) true)->F8 (Þ [gz f ŝ]) (D u) (Ň:Nat):=fun {f l u} h=>ky (bZ F (D u) f [Đ,ŝ] [xW X,n6 w] h)
  have b1:=call2 (f:=38) (u:=ę (.lst L1)) c4;have b2:=call2 (f:=32) (u:=ę (.lst L1)) (e_apart (fu:=fu) (k:=k+1) s.R n0 n8 m8 s.h1 s.h2 w);rw[ċ]at b1 b2;rw[c1]at b1;have s2:=acW L1 b1 b2 4
  let L2:Ĩ:=L1++gP (c:Nat) (R8:Nat)
  have al1:=acY true;have al2:=acY ă;rw[ž (lin m X true=X) rfl]at al1;rw[ž (lin m X ă=bu) rfl]at al2;have d1:=acX nQ al1;have d2:=acX z7 al2;have s3:=acW L2 d1 d2 6;rw[Ŧ d__law_numbers];exact Ł (tQ s1 s2 (jh s3))
def mf_sub{I J:Ġ}{i j:Nat}(hi:i<B5)(hj:j<qH):mf (sub X I J) i j=mf X (I.getD i 0) (J.getD j 0):=by
  unfold mf sub;rw[mi (I.map _),ō,Ľ hi,gV,lZ,Ħ,ō,Ľ hj,gV,lZ,mi I,Ľ hi,mi J,Ľ hj];rfl
def rect_sub{I J:Ġ}:Rect B5 qH (sub X I J):=⟨ċ ..,fun r hr=>by
  obtain⟨i,_,rfl⟩:=Ő hr;exact ċ ..⟩
def pu_sub{I J:Ġ}(hI:zS I)(hJ:IV):Pu n m X B5 qH (sub X I J) (fun i=>I.getD i 0) (fun j=>J.getD j 0):=by
  have at':∀{L:Ġ} {N i:Nat},(∀x∈L,x<N)->i<B_->L.getD i 0<N:=fun {L N i} h hi=>cw Ħ (Ľ hi) (h _ (jV hi))
  exact⟨Ĵ hi (at' hI hi),fun j hj=>at' hJ hj,fun i j hi hj=>mf_sub hi hj⟩
def lg_mono{a b:Nat}(a0:0<a)(h8:b<=8)(h:a<=b):lg a<=lg b:=by
  have l1:=lg_low a Ă a0;have l2:=lg_low b h8 Ă;rcases l1.2 with z | z
  · omega
  · have:=(Nat.pow_lt_pow_iff_right (a:=2) đ).mp (ce z (š h l2.1))
    omega
def Sm.k8(s:xZ):aX X<=8:=Ç s.h1
def Pu.all{A B:Ċ}{al ga:À}{c d:Nat}(P:C3)(a:Sm n m A)(b:Sm p q B)(hc:LE A w n m c)(hd:LE B w p q d):∀i,Ř (nl p q B w d) i<=Ř (t6 A) i:=by
  have r:=P.rank a.R b.R;have k1:=lg_mono (nX b.R.1 b.n0) a.k8 (P.kinds a.R b.R);have k2:=lg_mono (nX cK b.m0) a.flip.k8 ((P.flip a.R b.R).kinds (eg a.R) (eg b.R))
  rintro(_ | _ | _ | _ | _ | _ | _ | _ | i)
  · exact P.vv Ð a b
  · exact P.vv iK a b
  · exact r.1
  · exact r.2
  · exact P.cover hc hd
  · exact P.apart a.R b.R
  · exact k1
  · exact k2
  · have e:∀l:Ġ,Ň=8->jN (i+1+1+1+1+1+1+1+1) 0=0:=fun l h=>by
      rw[Ħ,jY Ă];rfl
    exact Nat.le_of_eq (Ţ (e (nl p q B w d) rfl) (e (t6 A) rfl).symm)
def nl_ext{l l':Ġ}(h:Ň=8)(h':l'.length=8)(e:∀i,jN i 0<=l'.getD i 0)(e':∀i,l'.getD i 0<=jN i 0):l=l':=
  RW (h.trans h'.symm) fun i h1 h2=>by
    have:=Fi (e i) (e' i)
    rwa [Ħ,Ħ,Ľ h1,Ľ h2]at this
def Sm.trim(s:xZ):Sm (aX X) (aX (C4 m X)) (rst m X):=by
  refine(acZ (C4 m X)).sm s rect_sub (nX s.R.1 s.n0) s.k8 (nX cK s.m0) s.flip.k8
  · have:=ji hi;rwa [s.R.1]at this
  · have:=ji hj;rwa [cK]at this
def num_trim(s:xZ){c d:Nat}(hc:JA c)(hd:LE (rst m X) w (aX X) (aX bu) d):nl (aX X) (aX bu) (rst m X) w d=t6 X:=by
  obtain⟨ka,hka⟩:=kindmap s.R;obtain⟨la,hla⟩:=kindmap (eg s.R);refine nl_ext rfl rfl ?_ ?_
  · refine(acZ bu).all s s.trim hc hd
    · have:=ji hi;rwa [s.R.1]at this
    · have:=ji hj;rwa [cK]at this
  · exact Pu.all (al:=ka) (ga:=la) ⟨Ĵ hi (hka i hi).1,fun j hj=>(hla j hj).1,fun i j hi hj=>(rst_at s.R hka hla hi hj).symm⟩ s.trim s hd hc
def xn(l:Ġ):Ġ:=l.take 6++[jN 7 0,jN 6 0]
def num_flip(s:xZ){c d:Nat}(hc:JA c)(hd:LE bu w m n d):nl m n bu w d=xn (t6 X):=by
  have f:=CY s.R;have hc':LE (flip n bu) w n m c:=Ą f hc
  have v:∀{J:Jt},gC->vv1 J n bu=vv1 J m X:=fun {J} hJ=>GX h (s.flip.vvf hJ) f (Fi (s.vvf hJ) h)
  have a:=apart_flip (w:=w) (eg s.R);rw[f]at a;unfold nl xn;rw[f,v Ð,v iK,←len0f s.R,←len2f s.R,Fi (cover_flip s.R hc hd) (cover_flip (eg s.R) hd hc'),Fi (apart_flip s.R) a];rfl
universe k91
namespace k91
open PySem L2
def e_pow{fu k:Nat}{a:Nat}(ha:a<=8):Ů 63 [Ō a]=ε (ů (2^a)):=by
  rw[Ŧ d__law_power];unfold d__law_power;obtain⟨δ',e,z,rfl⟩:=M4 2 j (∃z:Sv,δ=[aa a,qY (2^j),z]) (body:=vJ k [Ŏ 1 (oY Ń tI)]) a 0 (δ:=[aa a,ī 1,.no])
    (fun j _ δ h=>by
      obtain⟨z,rfl⟩:=h;have q:=i_mul (Jl Ý [aa a,qY (2^j),CF 0] 1 (ů (2^j))) (Ν 2) (mul_r đ đ);rw[show vH j*2=vH ż by rw[tG];push_cast;rfl]at q;exact⟨_,ac q rfl,_,rfl⟩) (bn .no)
  exact Ł (ac kR (Ai (rng_n (gj (d:=Ō a) rfl) Ă) e (IZ ć)))
def len_L{n m:Nat}{F:Ŵ}{δ:Ĕ}{X:Ċ}(R:kC X){e:ME}{c:Cl}(h:vA (rL X)):Ť (Þ [e]) (Ō n):=by
  have q:=ky h;rw[ċ,R.1]at q;exact q
def len_L0{n m:Nat}{F:Ŵ}{δ:Ĕ}{X:Ċ}(R:kC X)(hn:0<n){e:ME}{c:Cl}(h:vA (rL X)):Ť (Þ [.ix e υ]) (Ō m):=by
  have r0:0<X.length:=Ą R.1 hn
  have t:=ky (dX h (Ν (ı 0)) (at_rowL (rows:=X) r0));rw[show Ć (iD (CW 0))=m by rw[iD_len];exact Ab r0]at t;exact t
def cmp_ne(x y:Ď):cmpD .NotEq (ß x) (ß y)=ā (!(x==y)):=by
  show(JG ((vB x).plain 60&&(vB y).plain 60) (!deq (ß x) (ß y)))=_;rw[plain_l 59,plain_l 59,deq_l];rfl
def cs_nd(c:Nat):fU (cs c):=V7 RS
def cs_few{c n:Nat}(h:c<2^n):aK c<=n:=by
  have:=nd_le (cs_nd c) (L:=Ū n) fun x hx=>o6 (qZ h hx)
  rwa [Μ]at this
def cs_rng:∀a,a<=8->cs (ψ a)=Ū a:=ŵ
def Sm.cut{n m:Nat}{X:Ċ}(s:xZ){a b:Nat}(a0:0<a)(a1:a<2^n)(b0:0<b)(b1:b<2^m):Sm (aK a) (aK b) (tO X a b):=
  (ac0).sm s rect_sub (T7 (cs_ne a0 a1)) (š (cs_few a1) s.n8) (T7 (cs_ne b0 b1)) (š (cs_few b1) s.m8)
def num_cut{n m:Nat}{X:Ċ}{w:Int}(s:xZ){a b c d:Nat}(a0:0<a)(a1:a<2^n)(b0:0<b)(b1:b<2^m)(hc:JA c)(hd:LE (tO X a b) w (aK a) (aK b) d):∀i,Ř (nl (aK a) (aK b) (tO X a b) w d) i<=Ř (t6 X) i:=
  (ac0).all s (s.cut a0 a1 b0 b1) hc hd
def nV_at{l:Ġ}{j:Nat}(h:j<Ň):na (nV l) (Ō j) (ů (jN j 0)):=by
  unfold nV;rw[at_getL (Ą ċ h),Ħ,ō,jU,Ħ,jU];rfl
def ev_is{F:Ŵ}{δ:Ĕ}{a:ME}{c:Cl}(h:Ż a fx c):Ť (.cmp .Is a fx) fx:=iZ h (show Ť fx fx from rfl) rfl
def ints_all{fu k:Nat}{δ:Ĕ}{l:Ġ}(h:Ň<=8){i:Nat}(hi:dY (t7 l)):qV ς (Þ [xw (.var i) (Ε 57) [none]]) δ (Ň:Nat):=by
  have hw:qF (CC (.var i) δ) (dU (aF (qX x))):=(by rw[gj hi];show ā (Ri.ok (iD Rx) Ē)=_;unfold iD;rw[ŗ];rfl);have c:=xF (elt:=Đ) (tg:=ma) (fr:=[none]) (cd:=Ε 57) (f:=qX x) (p:=ş true) hw đ (Ç h) fun x _=>FM [aa x] (Λ (bZ Ů [aa x] 57 ff [CS x] e_int)) iC
  have q:=ky c;rw[ċ,List.filter_eq_self.mpr DI]at q;exact q
def none_gt{F:Ŵ}{δ:Ĕ}{l l':Ġ}(h:Ň=8)(h':l'.length=8)(le:∀i,jN i 0<=l'.getD i 0){i j:Nat}(hi:dY (t7 l))(hj:Į δ j (t7 l')):fG (Þ [xw (.rng [.int 8]) V2 (lW i j)]) 0:=by
  have ei:mX (lW i j) δ=[.no,t7 l,t7 l']:=(by show[Sv.no,OR,δ.getD j .no]=_;rw[Ħ,Ħ,hi,hj];rfl);have c:=xF (F:=F) (δ:=δ) (elt:=Đ) (tg:=ma) (it:=.rng [.int 8]) (fr:=lW i j) (cd:=V2) (f:=qX x) (p:=ş ă) (rng_w (n:=8) Ž đ) đ đ fun x hx=>by have hx:=ź hx;refine⟨[aa x,t7 l,t7 l'],bQ ei,?_,Ē,iC,rfl⟩;have g:=b_gt (fN (Jl F [aa x,t7 l,t7 l'] 1 (nV l)) (dr 0 (Ō x)) (nV_at Ă)) (fN (dr 2 (nV l')) (dr 0 (Ō x)) (nV_at Ă));rw[dt (fq (le x))]at g;exact Λ g
  have q:=ky c;rw[ċ,List.filter_eq_nil_iff.mpr (bc z (eP z))]at q;exact q
def law_run(ns:Ď)(hns:eL<=63):run G T 100 60 64 [iX]=ε fx:=by
  obtain⟨v2,c2⟩:=R5 100 58 2;obtain⟨v3,c3⟩:=R5 100 58 3;obtain⟨xs,hx,st⟩:=e_stream (fu:=100) (k:=58) v2 5 đ;obtain⟨a0,h0⟩:=vU 0;obtain⟨a1,h1⟩:=vU 1;obtain⟨a2,h2⟩:=vU 2;obtain⟨a3,h3⟩:=vU 3;obtain⟨a4,h4⟩:=vU 4;obtain⟨tp,t0,t10,ht⟩:=top_at a0;obtain⟨n,m,R,n0,n8,m0,m8,rc,w9,f1,f2,es⟩:=e_small (fu:=100) (k:=57) ns hns tp t0 t10;have s:Sm n m R:=⟨n0,n8,m0,m8,rc,w9,f1,f2⟩;obtain⟨i,hi,il⟩:=mod_nat a1 n0;obtain⟨j,hj,jl⟩:=mod_nat a2 m0;obtain⟨w,hw⟩:∃w,w=Ř (R.getD i []) j:=av;obtain⟨c,hc,en⟩:=R_ s;obtain⟨cf,hcf,enf⟩:=R_ s.flip;obtain⟨ct,hct,ent⟩:=R_ s.trim;have q1:=num_flip s hc hcf;have q2:=num_trim s hc hct;have pn:2<=2^n:=CH n0;have pm:2<=2^m:=CH m0;obtain⟨u,hu,ul⟩:=mod_nat v3 (n:=ψ n) Ă;obtain⟨v,hv,vl⟩:=mod_nat a3 (n:=ψ m) Ă;obtain⟨cc,hcc,enc⟩:=R_ (s.cut (a:=1+u) (b:=1+v) Ă Ă Ă Ă);have q3:=num_cut s (a:=1+u) (b:=1+v) Ă Ă Ă Ă hc hcc;obtain⟨g,hg,gl⟩:=mod_nat a4 n0;obtain⟨h,hh,hl⟩:=mod_nat a3 m0;have gp:2^(1+g)<=2^n:=tP Ă;have hp:2^(1+h)<=2^m:=tP Ă;have g2:2<=2^(1+g):=CH Ă;have h2':2<=2^(1+h):=CH Ă;obtain⟨pl,hpl,epl⟩:=e_least_plan (fu:=100) (k:=41) rc w9 n0 m0 n8 m8 f1 f2;have few:=hpl.few
  let F:=run G T 100 59
  let D0:Ĕ:=Ŗ 11 [iX]
  let D1:Ĕ:=D0.set 1 (gE xs)
  let D2:Ĕ:=D1.set 2 (kG R)
  let D3:Ĕ:=D2.set 3 (ę (tT R))
  let D4:Ĕ:=D3.set 4 iE
  let D5:Ĕ:=D4.set 5 (t7 (t6 R))
  let D6:Ĕ:=D5.set 6 (ę (tT (flip m R)))
  let D7:Ĕ:=D6.set 7 (ę WV)
  let D8:Ĕ:=D7.set 8 (t7 (nl (aK (1+u)) (aK (1+v)) (tO R (1+u) (1+v)) w cc))
  let D9:Ĕ:=D8.set 9 (ę pl.D)
  let D10:Ĕ:=D9.set 10 (ę (tT (tO R (ψ (1+g)) (ψ (1+h)))))
  have s1:=CJ F D0 59 (R4 2 c2) (Ν 5) Α st;have x:∀{D:Ĕ} {z:Int} {i:Int},Į D 1 (gE xs)->na (.lst (xs.map ŕ)) ĳ (.int z)->F8 (Ã 1 i) D z:=fun {D z i} hD h=>fN (gj hD) Ž h
  have s2:=CJ F D1 61 (dr 0 iX) (dX (ev_lst (qU (Ν 2) (Ν 4) (Ν 10)) (ln4 Ģ) rfl) (nb (x (D:=D1) rfl h0) (Ν 3) đ) ht) Α es;have s3:Ų (xv [fe (xv ff) Ĭ [none]]) D2=eA (tT R):=by
    have c:=FE F D2 (xv ff) Ĭ [none] (l:=R) (h:=fun r=>ß r) (f:=fun r=>tJ r) (cl:=Ē) rfl đ (Ą rc.1 (Ç n8)) fun r _=>jg [gE r] (Fx (c:=Ē) ć)
    exact Fx c
  have vR:∀{D:Ĕ},Į D 2 (kG R)->Ų Ĭ D=eA (rL R):=fun h=>gj h
  have mdn:ac5 z ρ i e Ĭ D:=ac4 (len_L rc (vR hD))
  have mdm:ac5 z (m:Int) i e (π 2) D:=ac4 (len_L0 rc n0 (vR hD))
  have s4:Ų abt D3=ā (Ψ w):=(Ą hw (fN (fN (vR rfl) (mdn rfl (x rfl h1) hi) (at_rowL (Ą rc.1 il))) (mdm rfl (x rfl h2) hj) (at_getL (Ą (row_len rc il) jl))));have s5:=bZ F D4 62 [ĺ,Í] [xW R,n6 w] (en (k:=17));have i1:=b_ne (ints_all (fu:=100) (k:=58) (l:=t6 R) (δ:=D5) (i:=5) (Nat.le_refl 8) rfl) (Ν 8);have s6:=bZ F D5 1 [ĺ] [xW R] (e_flipped (fu:=100) (k:=58) R n m rc n0 Ă Ă);have nf:=bZ F D6 62 [qP,Í] [xW (flip m R),n6 w] (enf (k:=17));rw[q1]at nf;have v5:∀{D:Ĕ},Į D 5 (t7 (t6 R))->Ų χ D=eA (nV (t6 R)):=fun h=>gj h
  have rx:=l_add (ev_slt (h:=6) (v5 (D:=D6) rfl) Ž) (WW (ac3 7) (ac3 6)) (show ň (6+2) by decide);have i2:=iZ nf rx (ac2 (xn (t6 R)));rw[oK]at i2;have tr:=bZ F D6 8 [ĺ] [xW R] (e_trimmed (fu:=100) (k:=56) R n m rc n0 Ă Ă);have nt:=CU F D6 62 (ab tr (pE 4 w) Α) rfl (ent (k:=17));rw[q2]at nt;have i3:=iZ nt (v5 (D:=D6) rfl) (ac2 (t6 R));rw[oK]at i3;have pw:∀{D:Ĕ} {e:ME} {a:Nat},a<=8->Ų e D=eA (Ō a)->RQ (IT e) D (ψ a):=fun {D e a} ha he=>kh (i_sub (Nj D 63 he (e_pow (fu:=100) (k:=58) ha)) kR) (show vH a - 1=ı (ψ a) by have:=CG a;omega)
  have add1':∀{D:Ĕ} {e:ME} {a:Nat},Ų e D=eA (Ō a)->RQ (xx e) D (1+a):=fun {D e a} he=>kh (i_add kR he) (aJ (AZ+Ag=ı (1+a)))
  have y1:Ų abr D6=eA (Ō u):=(ŏ hu (nb (R4 3 c3) (pw n8 (len_L rc (vR rfl))) Ă));have y2:Ų (IS 3 (IT (vx 2))) D6=eA (Ō v):=(ŏ hv (nb (x rfl h3) (pw m8 (len_L0 rc n0 (vR rfl))) Ă));have s7:=WW (add1' y1) (add1' y2);have ct':=CJ F D7 2 (dr 3 (tT R)) (fN (dr 7 WV) (Ν 0) (d:=ů (1+u)) rfl) (xG (fN (dr 7 WV) kR (d:=ů (1+v)) rfl)) (ac1 (1+u) (1+v));have s8:=CU F D7 62 (ab ct' (pE 4 w) Α) rfl (enc (k:=17));have i4:=b_gt (none_gt (F:=F) (δ:=D8) (i:=8) (j:=5) rfl rfl q3 rfl rfl) (Ν 0);have s9:=bZ F D8 24 [ĺ] [xW R] epl;have s10:=CJ F D9 2 (dr 3 (tT R)) (pw (a:=1+g) Ă (add1' (mdn (D:=D9) rfl (x rfl h4) hg))) (xG (pw (a:=1+h) Ă (add1' (mdm (D:=D9) rfl (x rfl h3) hh)))) (ac1 (ψ (1+g)) (ψ (1+h)));have z1:=ev_is (bZ F D10 51 [.var 9,ĺ] [(pl.D,Ē),xW R] (WU rc n8 m8 Ă Ă hpl.to));have z2:=ev_is (bZ F D10 51 [.var 9,.var 10] [(pl.D,Ē),xW (tO R (ψ (1+g)) (ψ (1+h)))] (WU (n:=1+g) (m:=1+h) (by
    have:=rect_sub (X:=R) (I:=cs (ψ (1+g))) (J:=cs (ψ (1+h)));rw[JB,JB,Μ,Μ]at this;rw[JB,JB];exact this) Ă Ă Ă Ă fun i j hi hj=>by
    rw[hpl.to i j Ă Ă,JB,JB,mf_sub (Ą Μ hi) (Ą Μ hj),Ħ,wX hi,Ħ,wX hj];rfl))
  obtain⟨kk,hk⟩:∃kk,59=kk+1+pl.deep:=(o5 (58 - pl.deep));have ef:=e_fl (fu:=100) pl kk;rw[←hk]at ef;have z3:=ev_is (CJ F D10 51 (bZ F D10 44 [.var 9] [(pl.D,Ē)] ef) (dr 6 (tT (flip m R))) Α (WU (eg rc) m8 n8 (p:=pl.fl) (Ź fl_deep) (Ź fl_deep) fun j i hj hi=>by rw[fl_rch,hpl.to i j hi hj,t5 rc hi hj]));rw[Ŧ d_law];show Ou.of (evSs G F 100 d_law.body D0)=_;unfold d_law;exact Ł (tQ s1 s2 (tQ s3 s4 (ac s5 (dm i1 (ac s6 (dm i2 (dm i3 (tQ s7 s8 (dm i4 (tQ s9 s10 (gA (and_t z1 (IY z2 z3)))))))))))))
universe k91
namespace k91
open PySem PySem.W L2 PySem.Spec PyProof.Rows
def lnS(h:gX=n+1):∃a r,b=a::r/\Ű=n:=by cases b with | nil=>cases h | cons a r=>exact⟨a,r,rfl,Nat.succ.inj h⟩
def ln0(h:bR=0):a=[]:=TF h
def ln1{α:Type}{us:Ρ}(h:aY=1):∃a0,us=[a0]:=by obtain⟨_,_,rfl,h0⟩:=lnS h;obtain rfl:=ln0 h0;exact av
def ln2{α:Type}{us:Ρ}(h:aY=2):∃a0 a1,us=[a0,a1]:=by obtain⟨_,_,rfl,h0⟩:=lnS h;obtain⟨_,_,rfl,h1⟩:=lnS h0;obtain rfl:=ln0 h1;exact(aQ _)
def ln3{α:Type}{us:Ρ}(h:aY=3):∃a0 a1 a2,us=[a0,a1,a2]:=by obtain⟨_,_,rfl,h0⟩:=lnS h;obtain⟨_,_,rfl,h1⟩:=lnS h0;obtain⟨_,_,rfl,h2⟩:=lnS h1;obtain rfl:=ln0 h2;exact⟨_,_,_,rfl⟩
def fn:ĥ:=fnl
def bl:ĥ:=bll
def cl:ĥ:=cll
def ok17:Fe Q1 ["no","yes"] ["no","yes"] (top 25)=true:=ŵ
def ok18:Fe d_joined_ends ["no","yes"] ["no","yes"] (top 26)=true:=ŵ
def ok29:Fe MB [gG,"side"] [gG,"side"] (top 39)=true:=ŵ
def ok64:Fe d_law [JC,"_law_xs","_law_rows","_law_table","_law_word","_law_every","_law_there","_law_some","_law_part","_law_plan","_law_first"] [JC] (top 83)=true:=ŵ
abbrev ck(P:Params)(x:Str)(f:Addr)(i:Nat)(dV pm:Ě)(cd:Addr):Prop:=(nsIn rf bO x,cr rf f,codeIn rf (Č cd) x,keepIn rf bE)=(ā pX,ā (fo x i dV pm cd),true,true)
def ck4{P:Params}{x:Str}{f:Addr}{i:Nat}{dV pm:Ě}{cd:Addr}(q:ck P x f i dV pm cd):nsIn rf bO x=ā pX/\cr rf f=ā (fo x i dV pm cd)/\codeIn rf (Č cd) x=true/\keepIn rf bE=true:=by
  obtain⟨a,b⟩:=Prod.mk.inj q;obtain⟨b,c⟩:=Prod.mk.inj b;exact⟨a,b,Prod.mk.inj c⟩
def kN(P:Params):fU (uA rf):=by rw[show uA rf=zA by kernel_rfl];decide +kernel
def kM(P:Params):fU (uA (fX rf)):=by rw[show uA (fX rf)=kT.map eD by kernel_rfl];decide +kernel
def zz(P:Params):bl.map (nsIn rf bO)=bl.map (ş (ā none)):=sJ
abbrev zd(j:Nat):Rw:=zD.getD j ⟨"",0,0,0,0,ă,0,0,0⟩
def sk{w:ł}{h:Heap}{mg:Τ}(j:Nat){d:FD}(N:ĥ)(X:(t8).In h)(Ns:Kg)(ok:Fe d N (mK d.np) Nw=true:=by decide +kernel)(q:ck jI (zd j).n ((zd j).c+1) (zd j).i Ĺ (zP (zd j).m) (zd j).c:=by kernel_rfl)(hb:∀(kV doc pm:Ě) (an:AC) (cdv ct:Ě) (us:ŉ),aY=Ć (mK d.np)->HH (ac6 kV doc pm an cdv ct) us=pure ((mK d.np).zip us):=by(intro _ _ _ _ _ _ us hl;first | (obtain⟨_,rfl⟩:=ln1 hl;rfl) | (obtain⟨_,_,rfl⟩:=ln2 hl;rfl) | (obtain⟨_,_,_,rfl⟩:=ln3 hl;rfl)))(dq:dqB (zd j).n (Fa Nw).names=true:=by decide +kernel):VN t8 (zd j).n ((zd j).c+1) (ac6 Ĺ Ĺ (zP (zd j).m) none (Č (zd j).c) Ĺ) (mK d.np):=by
  obtain⟨a,l,c,k⟩:=ck4 q;exact Sa ok a l c k hb dq
def all_mk{l:OpenLaw}{w:ł}{h:Heap}{mg:Τ}{fa:Addr}(X:(t8).In h)(Ns:Kg)(hfa:mg "law" = ā (Č fa)):∃fd:rZ,(Om v fd JC)/\X6 t8 CX0 60 JC (spS t8):=by
  obtain⟨a17,l17,c17,k17⟩:=Sd qO 167 25 Ĺ "talkleast.parts" 333 166;have S17:=Sa ok17 a17 l17 c17 k17 ac8
  obtain⟨a18,l18,c18,k18⟩:=Sd Fs 174 26 Ĺ "talkleast.parts" 333 173;have S18:=Sa ok18 a18 l18 c18 k18 ac8
  obtain⟨a29,l29,c29,k29⟩:=Sd "alone_bits" 240 39 (Č 233) "talkleast.alone" 452 239;have tl29:cr t8 233=ā ⟨Ÿ ad,none,.seq #[nQ 460] 0,#[]⟩:=sJ
  have S29:=stands_mkG X Ns ok29 a29 l29 c29 k29 (fun s us hK hl=>by rw[fv]at hl ⊢;obtain⟨_,_,rfl,h0⟩:=lnS hl;obtain⟨_,_,rfl,h1⟩:=lnS h0;obtain rfl:=ln0 h1;first | exact .of_eq rfl | exact .of_defaults rfl (hK _ _ tl29) rfl rfl rfl);obtain⟨a64,l64,c64,k64⟩:=Sd "law" 456 83 Ĺ "law_talkleast_k91_whole_exchanged_and_cut" 707 455;have S64:=Sa ok64 a64 l64 c64 k64 (ym us hl (by obtain⟨_,rfl⟩:=ln1 hl;rfl))
  have e:=hfa.symm.trans (mg_of X Ns a64);cases e;have HC:Vs (mg x) ⟨t8,mg⟩:=by
    intro x d h;have g0:Sc bO MA (.int 5 252):=sJ
    exact con_cons ⟨_,dL,mg_of X Ns g0,bn _,fun H=>BK⟩ (ac7 S17.mg (ac7 S18.mg (con_nil))) x d h
  have da:Sc bO "OTHER_SIDE" (Č 323):=sJ
  have dl:cr t8 323=ā ⟨Ÿ iN,none,.dict #[en jI iy 585 (z7 586),en jI lX 587 (nQ 588)] 2,#[]⟩:=sJ
  have dv0:Sc 323 iy (z7 586):=sJ
  have dv1:Sc 323 lX (nQ 588):=sJ
  have HD:IA t8 w mg:=by
    refine⟨_,_,_,ė ⟨mg_of X Ns da,dl,⟨uI _,uI _,p5⟩,Ğ k r q⟩⟩;unfold G at q;rw[gR]at q;split at q
    · rename_i e;cases q;rw[eq_of_beq e];exact⟨Β,_,dv0⟩
    rw[gR]at q;split at q
    · rename_i e;cases q;rw[eq_of_beq e];exact⟨Β,_,dv1⟩
    cases q
  have HSS:HS t8 mg fn bl cl T fn:=(Ŷ 0 ["thing","least","most"] (oe 1 (Ŷ 2 [gG,"rows",vb] (Ŷ 3 ["cards","size"] (Ŷ 4 ["cards"] (Ŷ 5 [gG,"rows",vb] (oe 6 (oe 7 (oe 8 (Ŷ 9 [gG,"rest"] (oe 10 (Ŷ 11 [gG,"words",iy] (oe 12 (oe 13 (Ŷ 14 [IM] (oe 15 (oe 16 (hs_cons S17 (hs_cons S18 (Ŷ 19 [gG,"ground","joined","rest",IM,"rows",vb,"ways"] (Ŷ 20 ["rows",vb,"by_rows","by_columns"] (Ŷ 21 ["cards"] (oe 22 (oe 23 (oe 24 (Ŷ 25 [gG,IM,"joined","rest","own","plan_of"] (Ŷ 26 ["kinds"] (Ŷ 27 ["cards","sets"] (Ŷ 28 [gG,"side","kinds","firsts","length"] (hs_cons S29 (Ŷ 29 [gG,"side"] (Ŷ 30 ["number","length"] (Ŷ 31 [gG,"word",vb,"entries",iy] (Ŷ 32 [gG,"entries","first","later","taken","passed"] (Ŷ 33 [gG,"one","other","word"] (Ŷ 34 [gG,"word","found","rows",vb] (Ŷ 35 [gG,"rows","word","inside"] (Ŷ 36 [gG,vb,"word","inside"] (Ŷ 37 [gG,"word",FZ,"bare","most","cover"] (Ŷ 38 [gG,"word",FZ,"entries",iy,"words"] (Ŷ 39 [FZ,"entry"] (Ŷ 40 ["block","entry"] (Ŷ 41 ["bare","block"] (Ŷ 42 ["bare",FZ,"most","block","others"] (Ŷ 43 ["plan"] (oe 44 (Ŷ 45 ["lines","found","kept",zb,"line","rest"] (Ŷ 46 ["line","kept","rest","other","place","taken"] (Ŷ 47 ["line"] (Ŷ 48 ["plan",iy,lX,"bits","place","card","bit"] (Ŷ 49 ["plan",iy,lX] (Ŷ 50 ["plan",gG,iy,"words",lX,"word"] (oe 51 (oe 52 (Ŷ 53 ["lines"] (Ŷ 54 ["lines","kept",zb,"line","rest"] (Ŷ 55 ["line","kept","left","taken",zb,"rest","makers"] (Ŷ 56 ["_law_found"] (Ŷ 57 [JC,"_law_k"] (Ŷ 58 ["_law_cell","_law_many","_law_found","_law_rest","_law_k","_law_number","_law_mixed"] (Ŷ 59 ["_law_rows","_law_xs","_law_k","_law_at"] (Ŷ 60 [JC,"_law_most","_law_xs","_law_far","_law_many","_law_wide","_law_words","_law_k","_law_rows","_law_columns"] (Ŷ 61 ["_law_table","_law_word","_law_found"] (Ŷ 62 ["_law_many","_law_found","_law_k"] (hs_cons S64 hs_nil)))))))))))))))))))))))))))))))))))))))))))))))))))))))))))))))));refine⟨_,fun s v=>.of_eq rfl,fun base _ _=>law_fnok (T:=T) (G:=G) (fu:=100) rfl HSS (fun x hx=>mg_none_of X Ns (List.map_inj_left.mp (zz _) x hx)) HD HC (i:=64) rfl rfl S64 (ş ⟨u6 rfl,Β,fun i d x qual st fa fd _ _ _ F=>hlm_of (K:=t8) sJ F⟩) (by unfold T;repeat' (first | (refine List.forall_mem_cons.mpr (au ?_)) | exact Or.inl rfl | exact Or.inr rfl | exact AB _ h)) law_run⟩
universe k91
end
open PySem PySem.W PyProof.Rows
set_option maxRecDepth 100000 in
set_option maxHeartbeats 0 in
theorem PySem.Challenge.cw_talkleast_k91_whole_exchanged_and_cut_holds : PySem.Challenge.rw_talkleast_k91_whole_exchanged_and_cut.Holds := by
  refine k91.kH0 fun said => ?_
  refine holds_open (q := k91.kQ) (loose := k91.kL) (Xt := fun s => xlAt k91.kQ [] s && recOk (RowW.records (OpenRow.toRowW (OpenLaw.row PySem.Challenge.rw_talkleast_k91_whole_exchanged_and_cut))) s) (XP := XL k91.kQ []) (Yf := (kHook k91.kAll k91.zB k91.kE).obs) (Ya := (kHook k91.kAll k91.zB k91.kE).val) (YP := (kHook k91.kAll k91.zB k91.kE).says) (N := 5464) k91.kLeft (kHook k91.kAll k91.zB k91.kE).of (kHook k91.kAll k91.zB k91.kE).keeps (fun s e => xl_of s (Bool.and_eq_true_iff.mp e).1) XL.keeps (by rfl) (by rfl) (by rfl) (fun s e => recFacts_of (Bool.and_eq_true_iff.mp e).2) (by rfl) said k91.kok k91.khb ?hw ?hc
  case hw => w_witness2
  exact L2.walkE (l := PySem.Challenge.rw_talkleast_k91_whole_exchanged_and_cut) (k := 60) (p := "_law_script") rfl rfl ⟨rfl, by decide, by decide⟩ (fun w h Y => (L2.in_app (kIn_of Y) (by kernel_rfl)).1) (fun w h Y => ⟨L2.htb_of (T := k91.kT) (L2.in_app (kIn_of Y) (by kernel_rfl)).1 (L2.in_app (kIn_of Y) (by kernel_rfl)).2 (k91.kN _) (by kernel_rfl), k91.kM _⟩) fun w mg fa h KX G hmg => k91.all_mk KX G hmg

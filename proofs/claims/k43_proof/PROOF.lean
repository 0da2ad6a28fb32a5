import PyProof.Rows.All
import Wide.All
import OpenK.AllK
import Wide.FinOn
import Lean
import PyProof.EqAt
import PyProof.EqKinds
import PyProof.TupleCall
import PyProof.ExcAttrAll.ValueError
import PyProof.ZipIter
import PyProof.TupleIter
import PyProof.P3In
import PyProof.Rows.SeqMore2
import PyProof.FactsAll.tuple_3
import PyProof.FactsAll.list_3
import PyProof.Rows.Range3
import KE.KRevIter
import PyProof.Rows.FactsT2
import PySem.Builtin.Int.W1All
import PyProof.SetScanFacts
import PyProof.SetKind
import PyProof.DictKinds
import PyProof.DictStraight
import PyProof.Rows.SetFrom
import PyProof.CollectWalk
import PyProof.Seq
import PyProof.DictIter
import PyProof.Rows.Tup
import PyProof.FactsAll.set_1
import PyProof.FactsAll.set_2
import PyProof.Rows.SortWalk
import PyProof.ConsumeWalk
import PyProof.Rows.SumAny
import PySem.Syntax
import PySem.Eval
import PyProof.DictTable
import PyProof.ListRange
import PyProof.EnumMake
import PyProof.DictItems
import PyProof.DictItemsLoops
import PyProof.MeetsDict
import PyProof.DictWalks
import PyProof.RulesTry
import KE.KPairComp
import PySem.Challenge.RW_talkleast_k43_in_twos
set_option Elab.async false
set_option linter.all false
set_option bootstrap.genMatcherCode false
set_option genSizeOfSpec false
set_option compiler.extract_closed false
set_option maxRecDepth 100000
set_option maxHeartbeats 4000000
noncomputable section
namespace L2
open PySem
def q1d(s:Stmt):Arguments:=match s with
 | .FunctionDef _ a _ _ _ _ _ _ _ _=>a
 | _=>{posonlyargs:=[],args:=[],vararg:=none,kwonlyargs:=[],kw_defaults:=[],kwarg:=none,defaults:=[]}
def q0N(s:Stmt):List Stmt:=match s with
 | .FunctionDef _ _ b _ _ _ _ _ _ _=>b
 | _=>[]
def q0f(s:Stmt):Scope:=match s with
 | .FunctionDef _ _ _ _ _ _ sc _ _ _=>sc
 | _=>{kind:=.function,names:=[],isGenerator:=false,isCoroutine:=false}
end L2
namespace k43
open PySem PySem.W L2 PySem.Spec PyProof.Rows
def top(i:Nat):Stmt:=PySem.Challenge.pw_talkleast_k43_in_twos.main.body.getD i (.Pass ⟨0,0,0,0⟩)
def fo(n:Str)(i:Nat)(dV pm:Value)(cd:Addr):Obj:=⟨.type "function",none,.func (fnOf n n (q1d (top i)) (q0N (top i)) (q0f (top i)) dV .none .none pm none (.ref cd) .none),#[]⟩
def en(P:Params)(s:Str)(t:Nat)(v:Value):DictEntry:=⟨PyData.keyHash P s,.str s t,v⟩
def co(n:Str)(t:Nat)(ln na fl:Int)(a b c d e:Value)(q:Int)(r:Nat):Obj:=⟨.type "code",none,.fields #[.str n t,.str n (t+1),.str "/claim/cut.py" (t+2),.int ln 0,.int na 0,.int 0 0,.int 0 0,.int fl 0,a,.bool true,.int 181 0,b,.none,c,d,e,.int q 0,.int ln 0,.str "/claim/cut.py" r],#[]⟩
def kK(P:Params):Frag:=[(2,⟨.none,none,.dict #[] 0,#[]⟩),
 (3,⟨.type "dict",none,.dict #[en P "__name__" 165 (.str "law_talkleast_k43_in_twos" 360),en P "__doc__" 166 .none,en P "__package__" 167 .none,en P "__loader__" 168 (.builtin "__main__.__loader__#opaque"),en P "__spec__" 169 .none,en P "__annotations__" 170 (.ref 6),en P "__builtins__" 171 (.ref 4),en P "__file__" 173 (.str "/claim/cut.py" 172),en P "__cached__" 174 .none,en P "is_int" 197 (.ref 21),en P "TalkError" 217 (.ref 31),en P "NoCard" 233 (.ref 44),en P "TooGreat" 249 (.ref 56),en P "flipped" 257 (.ref 63),en P "check_card" 265 (.ref 70),en P "cards_in" 271 (.ref 75),en P "base_in_twos" 280 (.ref 82),en P "rank_in_twos" 287 (.ref 89),en P "makeup_in_twos" 296 (.ref 96),en P "lines_in_twos" 302 (.ref 101),en P "base_indexes" 308 (.ref 106),en P "kept_lines" 319 (.ref 113),en P "reduced_in_twos" 332 (.ref 120),en P "rank" 341 (.ref 127),en P "base_lines" 347 (.ref 132),en P "reduced" 353 (.ref 137),en P "leading_place" 359 (.ref 142),en P "_law_int" 368 (.ref 149),en P "_law_cell_at" 376 (.ref 156),en P "_law_stream" 387 (.ref 163),en P "_law_table" 393 (.ref 168),en P "_law_as_table" 399 (.ref 173),en P "_law_mixed" 405 (.ref 178),en P "_law_rising" 415 (.ref 185),en P "_law_sum" 421 (.ref 190),en P "_law_alone" 432 (.ref 197),en P "_law_refused" 442 (.ref 204),en P "_law_makeups" 448 (.ref 209),en P "law" 454 (.ref 214)] 39,#[]⟩),
 (20,co "is_int" 189 2 3 3 (.ref 15) (.ref 16) (.ref 17) (.ref 18) (.ref 19) 195 196),
 (21,fo "is_int" 1 .none (.str "talkleast.checks" 187) 20),
 (30,⟨.type "dict",none,.dict #[en P "__module__" 207 (.str "talkleast.errors" 198),en P "__firstlineno__" 211 (.int 5 210),en P "__static_attributes__" 212 (.ref 29),en P "__weakref__" 214 (.ref 32),en P "__doc__" 215 .none] 3,#[]⟩),
 (31,⟨.type "type",none,.cls ⟨"TalkError",[.type "ValueError"],[.ref 31,.type "ValueError",.type "Exception",.type "BaseException",.type "object"],30,"TalkError",true,[],[.ref 44,.ref 56],false,none,false⟩,#[some (.ref 22),none,some (.str "TalkError" 200),some (.str "TalkError" 208),some (.builtin "ValueError.__new__"),some (.bool true)]⟩),
 (32,⟨.type "getset_descriptor",none,.fields #[.str "__weakref__" 213,.ref 31,.builtin "ExceptionGroup.__weakref__",.none],#[]⟩),
 (43,⟨.type "dict",none,.dict #[en P "__module__" 225 (.str "talkleast.errors" 198),en P "__firstlineno__" 229 (.int 7 228),en P "__static_attributes__" 230 (.ref 42),en P "__doc__" 231 .none] 2,#[]⟩),
 (44,⟨.type "type",none,.cls ⟨"NoCard",[.ref 31],[.ref 44,.ref 31,.type "ValueError",.type "Exception",.type "BaseException",.type "object"],43,"NoCard",true,[],[],false,none,false⟩,#[some (.ref 35),none,some (.str "NoCard" 218),some (.str "NoCard" 226),some (.builtin "ValueError.__new__"),some (.bool true)]⟩),
 (55,⟨.type "dict",none,.dict #[en P "__module__" 241 (.str "talkleast.errors" 198),en P "__firstlineno__" 245 (.int 9 244),en P "__static_attributes__" 246 (.ref 54),en P "__doc__" 247 .none] 2,#[]⟩),
 (56,⟨.type "type",none,.cls ⟨"TooGreat",[.ref 31],[.ref 56,.ref 31,.type "ValueError",.type "Exception",.type "BaseException",.type "object"],55,"TooGreat",true,[],[],false,none,false⟩,#[some (.ref 47),none,some (.str "TooGreat" 234),some (.str "TooGreat" 242),some (.builtin "ValueError.__new__"),some (.bool true)]⟩),
 (62,co "flipped" 252 12 1 3 (.ref 59) (.ref 60) .none .none (.ref 61) 255 256),
 (63,fo "flipped" 7 .none (.str "talkleast.tables" 250) 62),
 (69,co "check_card" 258 14 2 3 (.ref 64) (.ref 65) (.ref 66) (.ref 67) (.ref 68) 263 264),
 (70,fo "check_card" 8 .none (.str "talkleast.tables" 250) 69),
 (74,co "cards_in" 266 17 1 3 (.ref 71) (.ref 72) .none .none (.ref 73) 269 270),
 (75,fo "cards_in" 9 .none (.str "talkleast.tables" 250) 74),
 (81,co "base_in_twos" 274 20 1 3 (.ref 76) (.ref 77) (.ref 78) (.ref 79) (.ref 80) 278 279),
 (82,fo "base_in_twos" 11 .none (.str "talkleast.twos" 272) 81),
 (88,co "rank_in_twos" 281 22 1 3 (.ref 83) (.ref 84) (.ref 85) (.ref 86) (.ref 87) 285 286),
 (89,fo "rank_in_twos" 12 .none (.str "talkleast.twos" 272) 88),
 (95,co "makeup_in_twos" 288 24 2 3 (.ref 90) (.ref 91) (.ref 92) (.ref 93) (.ref 94) 294 295),
 (96,fo "makeup_in_twos" 13 .none (.str "talkleast.twos" 272) 95),
 (100,co "lines_in_twos" 297 28 1 3 (.ref 97) (.ref 98) .none .none (.ref 99) 300 301),
 (101,fo "lines_in_twos" 14 .none (.str "talkleast.twos" 272) 100),
 (105,co "base_indexes" 303 30 1 3 (.ref 102) (.ref 103) .none .none (.ref 104) 306 307),
 (106,fo "base_indexes" 15 .none (.str "talkleast.twos" 272) 105),
 (112,co "kept_lines" 309 32 1 3 (.ref 107) (.ref 108) (.ref 109) (.ref 110) (.ref 111) 317 318),
 (113,fo "kept_lines" 16 .none (.str "talkleast.twos" 272) 112),
 (119,co "reduced_in_twos" 320 39 2 3 (.ref 114) (.ref 115) (.ref 116) (.ref 117) (.ref 118) 330 331),
 (120,fo "reduced_in_twos" 17 .none (.str "talkleast.twos" 272) 119),
 (126,co "rank" 335 48 1 3 (.ref 121) (.ref 122) (.ref 123) (.ref 124) (.ref 125) 339 340),
 (127,fo "rank" 19 .none (.str "talkleast.ranks" 333) 126),
 (131,co "base_lines" 342 50 1 3 (.ref 128) (.ref 129) .none .none (.ref 130) 345 346),
 (132,fo "base_lines" 20 .none (.str "talkleast.ranks" 333) 131),
 (136,co "reduced" 348 59 2 3 (.ref 133) (.ref 134) .none .none (.ref 135) 351 352),
 (137,fo "reduced" 21 .none (.str "talkleast.ranks" 333) 136),
 (141,co "leading_place" 354 66 1 3 (.ref 138) (.ref 139) .none .none (.ref 140) 357 358),
 (142,fo "leading_place" 22 .none (.str "talkleast.ranks" 333) 141),
 (148,co "_law_int" 362 69 1 3 (.ref 143) (.ref 144) (.ref 145) (.ref 146) (.ref 147) 366 367),
 (149,fo "_law_int" 24 .none (.str "law_talkleast_k43_in_twos" 360) 148),
 (155,co "_law_cell_at" 369 71 2 3 (.ref 150) (.ref 151) (.ref 152) (.ref 153) (.ref 154) 374 375),
 (156,fo "_law_cell_at" 25 .none (.str "law_talkleast_k43_in_twos" 360) 155),
 (162,co "_law_stream" 377 75 2 3 (.ref 157) (.ref 158) (.ref 159) (.ref 160) (.ref 161) 385 386),
 (163,fo "_law_stream" 26 .none (.str "law_talkleast_k43_in_twos" 360) 162),
 (167,co "_law_table" 388 82 3 3 (.ref 164) (.ref 165) .none .none (.ref 166) 391 392),
 (168,fo "_law_table" 27 .none (.str "law_talkleast_k43_in_twos" 360) 167),
 (172,co "_law_as_table" 394 90 1 3 (.ref 169) (.ref 170) .none .none (.ref 171) 397 398),
 (173,fo "_law_as_table" 28 .none (.str "law_talkleast_k43_in_twos" 360) 172),
 (177,co "_law_mixed" 400 92 2 3 (.ref 174) (.ref 175) .none .none (.ref 176) 403 404),
 (178,fo "_law_mixed" 29 .none (.str "law_talkleast_k43_in_twos" 360) 177),
 (184,co "_law_rising" 406 108 2 3 (.ref 179) (.ref 180) (.ref 181) (.ref 182) (.ref 183) 413 414),
 (185,fo "_law_rising" 30 .none (.str "law_talkleast_k43_in_twos" 360) 184),
 (189,co "_law_sum" 416 117 2 3 (.ref 186) (.ref 187) .none .none (.ref 188) 419 420),
 (190,fo "_law_sum" 31 .none (.str "law_talkleast_k43_in_twos" 360) 189),
 (196,co "_law_alone" 422 119 2 3 (.ref 191) (.ref 192) (.ref 193) (.ref 194) (.ref 195) 430 431),
 (197,fo "_law_alone" 32 .none (.str "law_talkleast_k43_in_twos" 360) 196),
 (203,co "_law_refused" 433 129 2 3 (.ref 198) (.ref 199) (.ref 200) (.ref 201) (.ref 202) 440 441),
 (204,fo "_law_refused" 33 .none (.str "law_talkleast_k43_in_twos" 360) 203),
 (208,co "_law_makeups" 443 138 3 3 (.ref 205) (.ref 206) .none .none (.ref 207) 446 447),
 (209,fo "_law_makeups" 34 .none (.str "law_talkleast_k43_in_twos" 360) 208),
 (213,co "law" 449 149 1 3 (.ref 210) (.ref 211) .none .none (.ref 212) 452 453),
 (214,fo "law" 35 .none (.str "law_talkleast_k43_in_twos" 360) 213)]
def kA:List Addr:=[2,3,20,21,30,31,32,43,44,55,56,62,63,69,70,74,75,81,82,88,89,95,96,100,101,105,106,112,113,119,120,126,127,131,132,136,137,141,142,148,149,155,156,162,163,167,168,172,173,177,178,184,185,189,190,196,197,203,204,208,209,213,214]
theorem kE:∀P,kA=(kK P).map (·.1):=λ_=>by kernel_rfl
def kQ:Program:=view PySem.Challenge.pw_talkleast_k43_in_twos [1,3,4,5,7,8,9,11,12,13,14,15,16,17,19,20,21,22,24,25,26,27,28,29,30,31,32,33,34,35]
def kL:List Str:=[]
set_option maxHeartbeats 0 in
theorem kLeft:LeftO PySem.Challenge.pw_talkleast_k43_in_twos kQ kL (λs=>xlAt kQ [] s&&recOk (RowW.records (OpenRow.toRowW (OpenLaw.row PySem.Challenge.rw_talkleast_k43_in_twos))) s) (kHook kK kA kE).obs (kHook kK kA kE).val 3006:=by
 intro w
 kernel_rfl
end k43
end
noncomputable section
namespace L2
open PySem PySem.Spec PyProof.Rows
abbrev Key:=Sum Int Str
def z6v:Key->Value->Bool
 | .inl k,v=>Value.isInt k v
 | .inr x,v=>Value.isStrOf x v
def keyH(w:World):Key->Int
 | .inl k=>hashInt k
 | .inr x=>hashStr w x
theorem q0P:∀{k:Key} {v:Value},z6v k v=true->(∃i t,k=Sum.inl i/\v=Value.int i t)\/(∃x t,k=Sum.inr x/\v=Value.str x t)
 | .inl i,v,h=>by obtain⟨t,e⟩:=Value.isInt_shape (k:=i) (v:=v) h;exact .inl ⟨i,t,rfl,e⟩
 | .inr x,v,h=>by obtain⟨t,e⟩:=Value.isStrOf_shape (x:=x) (v:=v) h;exact .inr ⟨x,t,rfl,e⟩
theorem z5b(a b:Int):decide ((Sum.inl a:Key)=Sum.inl b)=(a==b):=by
 by_cases e:a=b
 ·subst e;simp
 ·have h:¬(Sum.inl a:Key)=Sum.inl b:=λq=>e (Sum.inl.inj q);rw[decide_eq_false h];exact(beq_eq_false_iff_ne.mpr e).symm
theorem z6M(a b:Str):decide ((Sum.inr a:Key)=Sum.inr b)=decide (a=b):=by
 by_cases e:a=b
 ·subst e;simp
 ·have h:¬(Sum.inr a:Key)=Sum.inr b:=λq=>e (Sum.inr.inj q);rw[decide_eq_false h,decide_eq_false e]
theorem z5t(a:Int)(b:Str):decide ((Sum.inl a:Key)=Sum.inr b)=false:=decide_eq_false (λq=>nomatch q)
theorem z5z(a:Str)(b:Int):decide ((Sum.inr a:Key)=Sum.inl b)=false:=decide_eq_false (λq=>nomatch q)
def q6O(prog:Program)(w:World):PySem.KeyKind prog w Key where
 is:=z6v
 hash:=keyH w
 inj:=λv a b ha hb=>by
  rcases q0P ha with⟨i,t,rfl,rfl⟩ | ⟨x,t,rfl,rfl⟩
  ·rcases q0P hb with⟨j,u,rfl,e⟩ | ⟨y,u,rfl,e⟩
   ·injection e with e1 _;rw[e1]
   ·exact nomatch e
  ·rcases q0P hb with⟨j,u,rfl,e⟩ | ⟨y,u,rfl,e⟩
   ·exact nomatch e
   ·injection e with e1 _;rw[e1]
 byValue:=λk v h=>by rcases q0P h with⟨i,t,rfl,rfl⟩ | ⟨x,t,rfl,rfl⟩<;>rfl
 pyHash:=λhv h=>by
  rcases q0P hv with⟨i,t,rfl,rfl⟩ | ⟨x,t,rfl,rfl⟩
  ·exact wpAny_pyHash_int h
  ·exact wpAny_pyHash_str h
 eqBool:=λhu hv h=>by
  rcases q0P hu with⟨i,t,rfl,rfl⟩ | ⟨x,t,rfl,rfl⟩
  ·rcases q0P hv with⟨j,u,rfl,rfl⟩ | ⟨y,u,rfl,rfl⟩
   ·rw[z5b]at h;exact wpAny_eqBool_int h
   ·rw[z5t]at h;exact SeqAt.EqAt.int_str i t y u _ _ _ _ h
  ·rcases q0P hv with⟨j,u,rfl,rfl⟩ | ⟨y,u,rfl,rfl⟩
   ·rw[z5z]at h;exact SeqAt.EqAt.str_int x t j u _ _ _ _ h
   ·rw[z6M]at h;exact wpAny_eqBool_str h
 «strs»:=λk x t v h=>by
  rcases q0P h with⟨i,u,rfl,e⟩ | ⟨y,u,rfl,e⟩
  ·exact nomatch e
  ·injection e with e1 _
   subst e1;cases v<;>rfl
end L2
namespace L2
open PySem PySem.Spec PyProof.Rows
inductive V where
 | non | bl (b:Bool) | int (i:Int) | str (x:Str) | byt (b:Array UInt8) | flt (b:UInt64) | ref (a:Addr) | ty (n:String)
 deriving DecidableEq
def RelV:V->Value->Prop
 | .non,u=>u=Value.none
 | .bl b,u=>u=Value.bool b
 | .int i,u=>∃t,u=Value.int i t
 | .str x,u=>∃t,u=Value.str x t
 | .byt b,u=>∃t,u=Value.bytes b t
 | .flt b,u=>∃t,u=Value.float b t
 | .ref a,u=>u=Value.ref a
 | .ty n,u=>u=Value.type n
abbrev Vals:List V->List Value->Prop:=Paired RelV
theorem Vals.length{xs:List V}{us:List Value}(r:Vals xs us):xs.length=us.length:=Paired.length r
theorem Vals.get:∀{xs:List V} {us:List Value} {i:Nat} {x:V},Vals xs us->xs[i]? = some x->∃u,us[i]? = some u/\RelV x u
 | _,_,_,_,.nil,e=>by simp at e
 | _,_,0,_,.cons r _,e=>by simp at e;subst e;exact⟨_,rfl,r⟩
 | _,_,i+1,x,.cons _ t,e=>by obtain⟨u,h1,h2⟩:=Vals.get (i:=i) (x:=x) t (by simpa using e);exact⟨u,by simpa using h1,h2⟩
theorem Vals.set{x:V}{u:Value}(r:RelV x u):∀{xs:List V} {us:List Value} (i:Nat),Vals xs us->Vals (xs.set i x) (us.set i u)
 | _,_,_,.nil=>.nil
 | _,_,0,.cons _ t=>.cons r t
 | _,_,i+1,.cons q t=>.cons q (Vals.set r i t)
theorem Vals.append:∀{xs ys:List V} {us ws:List Value},Vals xs us->Vals ys ws->Vals (xs++ys) (us++ws)
 | _,_,_,_,.nil,s=>s
 | _,_,_,_,.cons r t,s=>.cons r (Vals.append t s)
theorem Vals.take:∀{xs:List V} {us:List Value} (n:Nat),Vals xs us->Vals (xs.take n) (us.take n)
 | _,_,0,_=>.nil
 | _,_,_+1,.nil=>.nil
 | _,_,n+1,.cons r t=>.cons r (Vals.take n t)
theorem Vals.drop:∀{xs:List V} {us:List Value} (n:Nat),Vals xs us->Vals (xs.drop n) (us.drop n)
 | _,_,0,r=>r
 | _,_,_+1,.nil=>.nil
 | _,_,n+1,.cons _ t=>Vals.drop n t
def RelO:Option V->Option Value->Prop
 | some v,some u=>RelV v u
 | none,none=>True
 | _,_=>False
def KV{κ:Type}:List (κ×V)->List (κ×Value)->Prop:=Paired λ(p:κ×V) (q:κ×Value)=>p.1=q.1/\RelV p.2 q.2
def kV:Key->V
 | .inl i=>.int i
 | .inr x=>.str x
inductive HO where
 | lst (xs:List V)
 | tup (xs:List V)
 | dK (kvs:List (Key×V)) | dT (kvs:List (List Key×V))
 | set (S:Int->Bool) (n:Nat)
 | ins (C dx:Addr) (fs:List (Str×V))
 | own (x:Addr)
 | xd (fs:List (Str×V))
 | met (f x:Addr)
 | rng (lo hi:Int)
 | frz (o:Obj) (u:HO)
 | tbl (ps:Array Value)
 | ext (φ:Heap->Prop)
abbrev Hp:=Addr->Option HO
def upd(H:Hp)(a:Addr)(o:HO):Hp:=λb=>if b=a then some o else H b
theorem q0D{H:Hp}{a:Addr}{o:HO}:upd H a o a=some o:=by unfold upd;rw[if_pos rfl]
theorem q0l{H:Hp}{a b:Addr}{o:HO}(h:b≠a):upd H a o b=H b:=by unfold upd;rw[if_neg h]
theorem q0w{H:Hp}{a b:Addr}{o:HO}(h:H a=some o)(h':H b=none):a≠b:=by
 intro e;subst e;rw[h]at h';cases h'
def q3m(h:Heap)(a:Addr)(items:Array Value):Prop:=∃o,h.get? a=some o/\(o.cls=.type "tuple" /\ o.dict=none)/\∃n,o.data=.seq items n
theorem q3m.tup{h:Heap}{a items}(x:q3m h a items):IsTup h a items:=let ⟨o,ho,hc,r⟩:=x;⟨o,ho,hc.1,r⟩
theorem q3m.lt{h:Heap}{a items}(x:q3m h a items):a<h.objs.size:=let ⟨_,ho,_⟩:=x;Heap.lt_size ho
theorem q3m.new(h:Heap)(items:Array Value):q3m (h.push {cls:=.type "tuple",data:=.seq items}) h.objs.size items:=⟨_,Heap.get?_push_size _ rfl,⟨rfl,rfl⟩,_,rfl⟩
section
variable (P:Program) (w:World)
def q1J(H:Hp)(h:Heap)(a:Addr):HO->Prop
 | .lst xs=>xs.length<=sizeLine/\∃(its:List Value) (n:Nat),Vals xs its/\h.get? a=some {cls:=.type "list",data:=.seq its.toArray n}
 | .tup xs=>xs.length<=sizeLine/\∃its:List Value,Vals xs its/\q3m h a its.toArray
 | .dK kvs=>kvs.length<=sizeLine/\(a==sysModules)=false/\∃vs,KV kvs vs/\h.DictOf (q6O P w) a vs
 | .dT kvs=>kvs.length<=sizeLine/\(a==sysModules)=false/\∃xs:List (List Key×Addr×Value),
   Paired (λ(p:List Key×V) (q:List Key×Addr×Value)=>p.1=q.1/\H q.2.1=some (.tup (p.1.map kV))/\RelV p.2 q.2.2) kvs xs /\
   ∃o es ep,h.get? a=some o/\o.ExactDict/\o.data=.dict es ep/\es.toList=xs.map (entryOfKey (tupleKind (q6O P w)))/\(xs.map (·.1)).Nodup
 | .set S n=>h.SetOf (intKind P w) a S n
 | .ins C dx fs=>H dx=some (.own a)/\fs.length<=1000/\dx≠a/\h.get? a=some (PySem.W.instObj C dx) /\
   ∃mA,h.Ns1 dx mA/\(∀f,RelO (fs.lookup f) (mA f))/\PySem.Within mA (fs.map (·.1))
 | .own _=>∃o,h.get? a=some o
 | .xd fs=>∃mA,h.Ns1 a mA/\∀f,RelO (fs.lookup f) (mA f)
 | .rng lo hi=>∃t u v,h.get? a=some {cls:=.type "range",data:=.fields #[.int lo t,.int hi u,.int 1 v]}
 | .frz o u=>h.get? a=some o/\q1J H h a u
 | .tbl ps=>h.get? a=some {cls:=.none,data:=.fields ps}
 | .met f x=>h.get? a=some (PySem.W.methodObj (.ref f) (.ref x))
 | .ext φ=>φ h/\(∃o,h.get? a=some o)/\∀h1 h2:Heap,φ h1->(∀o,h1.get? a=some o->h2.get? a=some o)->φ h2
def HOk(H:Hp)(h:Heap):Prop:=∀a o,H a=some o->q1J P w H h a o
end
section
variable {P:Program} {w:World} {H H':Hp} {h h':Heap} {a:Addr} {o:HO}
theorem q1J.lt(x:q1J P w H h a o):a<h.objs.size:=by
 cases o with
 | lst xs=>obtain⟨_,_,_,_,e⟩:=x;exact Heap.lt_size e
 | tup xs=>obtain⟨_,_,_,p⟩:=x;exact p.lt
 | dK kvs=>obtain⟨_,_,_,_,o,_,_,e,_⟩:=x;exact Heap.lt_size e
 | dT kvs=>obtain⟨_,_,_,_,o,_,_,e,_⟩:=x;exact Heap.lt_size e
 | set S n=>obtain⟨o,_,_,_,e,_⟩:=x;exact Heap.lt_size e
 | ins C dx fs=>obtain⟨_,_,_,e,_⟩:=x;exact Heap.lt_size e
 | own y=>obtain⟨_,e⟩:=x;exact Heap.lt_size e
 | xd fs=>obtain⟨_,⟨_,_,_,e,_⟩,_⟩:=x;exact Heap.lt_size e
 | rng lo hi=>obtain⟨_,_,_,e⟩:=x;exact Heap.lt_size e
 | frz ob u=>obtain⟨e,_⟩:=x;exact Heap.lt_size e
 | tbl ps=>exact Heap.lt_size (show h.get? a=some _ from x)
 | met f y=>exact Heap.lt_size (show h.get? a=some _ from x)
 | ext φ=>obtain⟨_,⟨_,e⟩,_⟩:=x;exact Heap.lt_size e
theorem Paired.mapP{α β:Type}{F G:α->β->Prop}:∀{l₁:List α} {l₂:List β},Paired F l₁ l₂->(∀a b,F a b->G a b)->Paired G l₁ l₂
 | _,_,.nil,_=>.nil
 | _,_,.cons r t,f=>.cons (f _ _ r) (Paired.mapP t f)
theorem q1J.stay(x:q1J P w H h a o)(k:∀b u,(b=a\/H b=some (.own a))->h.get? b=some u->h'.get? b=some u)
  (ho:∀b,H b=some (.own a)->H' b=some (.own a)) (ht:∀b xs,H b=some (.tup xs)->H' b=some (.tup xs)):q1J P w H' h' a o:=by
 induction o with
 | lst xs=>obtain⟨z,its,n,r,e⟩:=x;exact⟨z,its,n,r,k _ _ (.inl rfl) e⟩
 | tup xs=>obtain⟨z,its,r,ob,e,c⟩:=x;exact⟨z,its,r,ob,k _ _ (.inl rfl) e,c⟩
 | dK kvs=>obtain⟨z,y,vs,r,ob,es,ep,e,c⟩:=x;exact⟨z,y,vs,r,ob,es,ep,k _ _ (.inl rfl) e,c⟩
 | dT kvs=>
  obtain⟨z,y,xs,r,ob,es,ep,e,c⟩:=x;exact⟨z,y,xs,Paired.mapP r λp q z=>⟨z.1,ht _ _ z.2.1,z.2.2⟩,ob,es,ep,k _ _ (.inl rfl) e,c⟩
 | set S n=>obtain⟨ob,es,ep,t,e,c⟩:=x;exact⟨ob,es,ep,t,k _ _ (.inl rfl) e,c⟩
 | ins C dx fs=>
  obtain⟨d,z,ne,e,mA,⟨od,es,ep,e2,c⟩,r⟩:=x;exact⟨ho _ d,z,ne,k _ _ (.inl rfl) e,mA,⟨od,es,ep,k _ _ (.inr d) e2,c⟩,r⟩
 | own y=>obtain⟨ob,e⟩:=x;exact⟨ob,k _ _ (.inl rfl) e⟩
 | xd fs=>obtain⟨mA,⟨od,es,ep,e,c⟩,r⟩:=x;exact⟨mA,⟨od,es,ep,k _ _ (.inl rfl) e,c⟩,r⟩
 | rng lo hi=>obtain⟨t,u,v,e⟩:=x;exact⟨t,u,v,k _ _ (.inl rfl) e⟩
 | frz ob u ih=>obtain⟨e,q⟩:=x;exact⟨k _ _ (.inl rfl) e,ih q⟩
 | tbl ps=>
  have e:h.get? a=some {cls:=.none,data:=.fields ps}:=x;show h'.get? a=some {cls:=.none,data:=.fields ps};exact k a _ (.inl rfl) e
 | met f y=>
  have e:h.get? a=some (PySem.W.methodObj (.ref f) (.ref y)):=x;show h'.get? a=some (PySem.W.methodObj (.ref f) (.ref y));exact k a _ (.inl rfl) e
 | ext φ=>obtain⟨p,⟨o,e⟩,st⟩:=x;exact⟨st _ _ p λo q=>k _ _ (.inl rfl) q,⟨o,k _ _ (.inl rfl) e⟩,st⟩
theorem HOk.lt(x:HOk P w H h)(e:H a=some o):a<h.objs.size:=(x a o e).lt
theorem HOk.fresh(x:HOk P w H h)(e:h.objs.size<=a):H a=none:=by
 cases q:H a with
 | none=>rfl
 | some u=>exact absurd (Nat.lt_of_lt_of_le (x.lt q) e) (Nat.lt_irrefl _)
theorem HOk.kept(x:HOk P w H h)(k:∀b u,h.get? b=some u->h'.get? b=some u):HOk P w H h':=λa o e=>
 (x a o e).stay (λb u _ q=>k b u q) (λ_ q=>q) λ_ _ q=>q
theorem HOk.laid(x:HOk P w H h)(k:∀b u,h.get? b=some u->h'.get? b=some u)(hp:h.objs.size<=a)(new:q1J P w (upd H a o) h' a o):HOk P w (upd H a o) h':=λb u e=>by
 have hn:=x.fresh hp;by_cases hb:b=a
 ·subst hb;rw[q0D]at e;cases e;exact new
 ·rw[q0l hb]at e;exact(x b u e).stay (λc v _ q=>k c v q) (λc q=>by rw[q0l (q0w q hn)];exact q) λc xs q=>by rw[q0l (q0w q hn)];exact q
end
def Rd(H:Hp)(a:Addr)(u:HO):Prop:=H a=some u\/∃o,H a=some (.frz o u)
theorem Rd.ok{P:Program}{w:World}{H:Hp}{h:Heap}{a:Addr}{u:HO}(r:Rd H a u)(x:HOk P w H h):q1J P w H h a u:=by
 rcases r with r | ⟨o,r⟩
 ·exact x a u r
 ·obtain⟨_,q⟩:=x a _ r;exact q
def Mut:Option HO->Prop
 | some (.lst _)=>True
 | some (.dK _)=>True
 | some (.dT _)=>True
 | some (.set _ _)=>True
 | some (.ins _ _ _)=>True
 | some (.ext _)=>True
 | _=>False
section
variable {P:Program} {w:World} {H:Hp} {h h':Heap} {x e:Addr} {o':HO}
theorem HOk.write(ok:HOk P w H h)(mu:Mut (H x))(he:e=x\/H e=some (.own x))(k:∀b u,b≠e->h.get? b=some u->h'.get? b=some u)(heo:∃u,h'.get? e=some u)
  (new:q1J P w (upd H x o') h' x o'):HOk P w (upd H x o') h':=λb u q=>by
 have nown:∀c y,H c=some (.own y)->c≠x:=λc y r z=>by subst z;rw[r]at mu;exact mu
 have ntup:∀c xs,H c=some (.tup xs)->c≠x:=λc xs r z=>by subst z;rw[r]at mu;exact mu
 by_cases hb:b=x
 ·subst hb;rw[q0D]at q;cases q;exact new
 ·rw[q0l hb]at q;by_cases hbe:b=e
  ·have q':H b=some (.own x):=by
    rcases he with z | z
    ·exact absurd (hbe.trans z) hb
    ·rw[hbe];exact z
   rw[q]at q';cases q';obtain⟨v,hv⟩:=heo;exact⟨v,by rw[hbe];exact hv⟩
  ·refine(ok b u q).stay (λc v hc r=>k c v ?_ r) (λc r=>by rw[q0l (nown c b r)];exact r) λc xs r=>by rw[q0l (ntup c xs r)];exact r
   rcases hc with rfl | hc
   ·exact hbe
   ·rintro rfl
    rcases he with z | z
    ·exact nown c b hc z
    ·rw[hc]at z;cases z;exact hb rfl
end
structure Un(fs ex:List Addr)(H H':Hp)(h h':Heap):Prop where
 keep:∀b o,h.get? b=some o->H b=none->b∉fs->b∉ex->h'.get? b=some o
 slot:∀b o,h.get? b=some o->H b=none->b∈fs->b∉ex->∃sl,h'.get? b=some {o with slots:=sl}
 free:∀b o,h.get? b=some o->H b=none->b∉ex->H' b=none
 there:∀b o,h.get? b=some o->b∉ex->∃o',h'.get? b=some o'
 tups:∀b xs,H b=some (.tup xs)->H' b=some (.tup xs)
 frzs:∀b o u,H b=some (.frz o u)->H' b=some (.frz o u)
 tbls:∀b ps,H b=some (.tbl ps)->∃more,H' b=some (.tbl (ps++more))
section
variable {fs fs' ex ex':List Addr} {H H1 H2:Hp} {h h1 h2 h':Heap} {a x e:Addr} {o:HO}
theorem Un.any(u:Un fs ex H H1 h h1){b:Addr}{ob:Obj}(q:h.get? b=some ob)(n:H b=none)(hx:b∉ex):∃sl,h1.get? b=some {ob with slots:=sl}:=by
 by_cases hb:b∈fs
 ·exact u.slot b ob q n hb hx
 ·exact⟨ob.slots,u.keep b ob q n hb hx⟩
theorem Un.kept(k:∀b u,h.get? b=some u->h'.get? b=some u):Un fs ex H H h h':=
 ⟨λb ob q _ _ _=>k b ob q,λb ob q _ _ _=>⟨ob.slots,k b ob q⟩,λ_ _ _ n _=>n,λb ob q _=>⟨ob,k b ob q⟩,λ_ _ q=>q,λ_ _ _ q=>q,λ_ ps q=>⟨#[],by rw[q];simp⟩⟩
theorem Un.refl:Un fs ex H H h h:=Un.kept λ_ _ q=>q
theorem Un.laid(k:∀b u,h.get? b=some u->h'.get? b=some u)(hp:h.objs.size<=a)(hn:H a=none):Un fs ex H (upd H a o) h h' where
 keep:=λb u q _ _ _=>k b u q
 slot:=λb u q _ _ _=>⟨u.slots,k b u q⟩
 free:=λb u q n _=>by rw[q0l (Nat.ne_of_lt (Nat.lt_of_lt_of_le (Heap.lt_size q) hp))];exact n
 there:=λb u q _=>⟨u,k b u q⟩
 tups:=λb xs q=>by rw[q0l (q0w q hn)];exact q
 frzs:=λb u xs q=>by rw[q0l (q0w q hn)];exact q
 tbls:=λb ps q=>⟨#[],by rw[q0l (q0w q hn),q];simp⟩
theorem Un.write(mu:Mut (H x))(he:e=x\/H e=some (.own x))(k:∀b u,b≠e->h.get? b=some u->h'.get? b=some u)(heo:∃u,h'.get? e=some u):Un fs ex H (upd H x o) h h':=by
 have hx:∀b,H b=none->b≠x:=λb n z=>by subst z;rw[n]at mu;exact mu
 have hb:∀b,H b=none->b≠e:=λb n z=>by
  subst z;rcases he with r | r
  ·exact hx b n r
  ·rw[n]at r;cases r
 have hm:∀b u,H b=some u->¬Mut (some u)->b≠x:=λb u q nm z=>by subst z;rw[q]at mu;exact nm mu
 refine⟨λb u q n _ _=>k b u (hb b n) q,λb u q n _ _=>⟨u.slots,k b u (hb b n) q⟩,λb u q n _=>by rw[q0l (hx b n)];exact n,λb u q _=>?_,
  λb xs q=>by rw[q0l (hm b _ q λz=>z)];exact q,λb u xs q=>by rw[q0l (hm b _ q λz=>z)];exact q,λb ps q=>⟨#[],by rw[q0l (hm b _ q λz=>z),q];simp⟩⟩
 by_cases hbe:b=e
 ·subst hbe;exact heo
 ·exact⟨u,k b u hbe q⟩
end
def trk(h:Heap)(H:Hp):List Addr:=(List.range h.objs.size).filter λa=>(H a).isSome
def hidT(h:Heap)(H:Hp):Heap:=PySem.W.hideAll h (trk h H)
theorem z0b(h:Heap)(H:Hp):(hidT h H).objs.size=h.objs.size:=PySem.W.hideAll_size _ _
theorem z1s{h:Heap}{H:Hp}{b:Addr}{o:Obj}(e:h.get? b=some o)(n:H b=none):(hidT h H).get? b=some o:=
 PySem.W.hideAll_get _ e λhm=>by have q:(H b).isSome=true:=(List.mem_filter.mp hm).2;rw[n]at q;simp at q
theorem z4n{h:Heap}{H:Hp}{b:Addr}{o:Obj}(e:(hidT h H).get? b=some o):h.get? b=some o/\H b=none:=by
 have e':h.get? b=some o:=PySem.W.of_hideAll (trk h H) e;refine⟨e',?_⟩;cases q:H b with
 | none=>rfl
 | some x=>
  have hm:b∈trk h H:=List.mem_filter.mpr ⟨List.mem_range.mpr (Heap.lt_size e'),by simp[q]⟩;have z:(hidT h H).get? b=none:=PySem.W.hideAll_none (trk h H) hm;rw[z]at e;cases e
def z3u(g h:Heap)(L:Addr):List (Addr×Obj):=(List.range h.objs.size).filterMap λa=>if a=L\/(g.get? a).isSome=true then none else(h.get? a).map λo=>(a,o)
def rest(g h:Heap)(L d:Addr):List (Addr×Obj):=(z3u g h L).filter λp=>decide (p.1≠d)
end L2
namespace L2
open PySem PySem.Spec PyProof.Rows
structure Mod(K:PySem.W.Frag)(mg:Str->Option Value)(base:Heap):Prop where
 kin:K.In base
 glob:base.Ns mainGlobals mg
 blt:∃mb,base.Ns builtinsNs mb/\∀x:Str,x ≠ "__name__" -> mb x=bootBuiltins x
 nolimit:base.NoLimit
structure Cx where
 prog:Program
 w:World
 K:PySem.W.Frag
 mg:Str->Option Value
 base:Heap
 A:Around
 N:List Str
 s₀:Shared
 H₀:Hp
 env:Env
 outer:List Env
 stack:List Env
 ex:List Addr
 fn:Str->Bool
 calm:Bool
 pn:List (Addr×Obj)
 xe:Value->Shared->Prop
def frs(l:List Env):List Addr:=l.filterMap (·.frame)
abbrev Cx.fs(X:Cx):List Addr:=frs X.outer
def Vis(sc:Scope)(x:Str):Prop:=sc.names.lookup x=some .local\/sc.names.lookup x=some .cell\/sc.names.lookup x=some .free
def Loc(sc:Scope)(x:Str):Prop:=sc.names.lookup x=some .local\/sc.names.lookup x=some .cell
def Look(env:Env)(h:Heap)(m:Str->Option Value)(x:Str)(u:Value):Prop:=
 (env.kindOf x=some .local/\m x=some u)\/((env.kindOf x=some .cell\/env.kindOf x=some .free)/\∃c,env.cells.lookup x=some c/\h.IsCell c (some u))
structure Cx.Ok(X:Cx):Prop where
 mod:Mod X.K X.mg X.base
 kind:X.env.scope.kind=.function
 glob:X.env.globals=mainGlobals
 blt:X.env.builtins=builtinsNs
 above:X.s₀.heap.objs.size<=X.env.locals
 inj:∀x y c,X.env.cells.lookup x=some c->X.env.cells.lookup y=some c->x=y
 has:∀x,(X.env.kindOf x=some .cell\/X.env.kindOf x=some .free)->∃c,X.env.cells.lookup x=some c
 cab:∀x c,X.fn x=true->X.env.cells.lookup x=some c->X.s₀.heap.objs.size<=c
 hd:X.calm=true->X.A.handled=none
 frames:X.A.frames=some X.stack
 stk:X.stack=X.outer\/(X.stack=X.env::X.outer/\X.env.frame=some X.env.locals)
 exf:∀b∈X.ex,b≠X.env.locals/\∀x c,X.env.cells.lookup x=some c->c≠b
 bs:∀b o,X.base.get? b=some o->X.s₀.heap.get? b=some o/\X.H₀ b=none
 bsz:X.base.objs.size<=X.s₀.heap.objs.size
 noex:∀b o,X.base.get? b=some o->b∉X.ex
 exfs:∀b∈X.ex,b∉X.fs
 funs:X.s₀.heap.FunFrames X.base X.outer
 frf:∀b∈X.fs,X.H₀ b=none
structure Inv(X:Cx)(pins:List (Addr×Obj))(σ:List (Option V))(H:Hp)(s:Shared):Prop where
 ok:X.Ok
 os:s.os=X.s₀.os
 bare:AllBare s.gens
 base:Un X.fs X.ex X.H₀ H X.s₀.heap s.heap
 loc:∃m,s.heap.Ns X.env.locals m/\∀(i:Nat) (x:Str) (v:V),X.N[i]? = some x->σ[i]? = some (some v)->Vis X.env.scope x->∃u,RelV v u/\Look X.env s.heap m x u
 cell:∀x c,X.env.cells.lookup x=some c->∃v,s.heap.IsCell c v
 free:H X.env.locals=none
 freeC:∀x c,X.env.cells.lookup x=some c->H c=none
 pin:∀p∈X.pn++pins,s.heap.get? p.1=some p.2/\H p.1=none/\p.1≠X.env.locals/\p.1∉X.fs/\∀v,p.2.data ≠ .cell v
 hok:HOk X.prog X.w H s.heap
 len:σ.length=X.N.length
section
variable {X:Cx} {pins:List (Addr×Obj)} {σ:List (Option V)} {H H':Hp} {s:Shared} {h':Heap}
theorem Cx.Ok.nofr(ok:X.Ok){b:Addr}{o:Obj}(e:X.base.get? b=some o):b∉X.fs:=λhb=>by
 have:=(ok.funs.mem hb).1;rw[e]at this;cases this
theorem Inv.bs(I:Inv X pins σ H s):∀b o,X.base.get? b=some o->s.heap.get? b=some o/\H b=none:=λb o e=>
 ⟨I.base.keep b o (I.ok.bs b o e).1 (I.ok.bs b o e).2 (I.ok.nofr e) (I.ok.noex b o e),I.base.free b o (I.ok.bs b o e).1 (I.ok.bs b o e).2 (I.ok.noex b o e)⟩
theorem Inv.bk(I:Inv X pins σ H s):∀b o,X.base.get? b=some o->s.heap.get? b=some o:=λb o e=>(I.bs b o e).1
theorem Inv.mod(I:Inv X pins σ H s):Mod X.K X.mg X.base:=I.ok.mod
theorem Inv.kIn(I:Inv X pins σ H s):X.K.In s.heap:=I.ok.mod.kin.keeps I.bk
theorem Inv.lt(I:Inv X pins σ H s):X.env.locals<s.heap.objs.size:=let ⟨_,hn,_⟩:=I.loc;hn.lt
theorem Inv.sz(I:Inv X pins σ H s):X.s₀.heap.objs.size<=s.heap.objs.size:=Nat.le_trans I.ok.above (Nat.le_of_lt I.lt)
theorem Inv.nofs(I:Inv X pins σ H s){a:Addr}(h:s.heap.objs.size<=a):a∉X.fs:=λhb=>by
 obtain⟨_,o,ho,_⟩:=I.ok.funs.mem hb
 exact absurd (Nat.lt_of_lt_of_le (Heap.lt_size ho) (Nat.le_trans I.sz h)) (Nat.lt_irrefl _)
theorem Inv.cne(I:Inv X pins σ H s):∀x c,X.env.cells.lookup x=some c->c≠X.env.locals:=λx c e z=>by
 obtain⟨v,o,ho,hd⟩:=I.cell x c e;obtain⟨m,⟨o',es,ep,ho',hd',_⟩,_⟩:=I.loc;rw[z,ho']at ho;cases ho;rw[hd']at hd;cases hd
theorem Inv.funs(I:Inv X pins σ H s):s.heap.FunFrames X.base X.outer:=by
 have all:∀(l:List Env),(∀b∈frs l,b∈X.fs)->X.s₀.heap.FunFrames X.base l->s.heap.FunFrames X.base l:=by
  intro l
  induction l with
  | nil=>intro _ _;trivial
  | cons env r ih=>
   intro hs hl;obtain⟨hk,⟨L,o,hf,hn,ho,hd⟩,hr⟩:=hl;have hL:L∈X.fs:=hs L (by unfold frs;rw[List.filterMap_cons,hf];exact List.mem_cons_self);obtain⟨sl,e⟩:=I.base.slot L o ho (I.ok.frf L hL) hL λz=>I.ok.exfs L z hL
   exact⟨hk,⟨L,_,hf,hn,e,hd⟩,ih (λb hb=>hs b (by unfold frs;rw[List.filterMap_cons,hf];exact List.mem_cons_of_mem _ hb)) hr⟩
 exact all X.outer (λ_ hb=>hb) I.ok.funs
theorem Inv.stack(I:Inv X pins σ H s):s.heap.FunFrames X.base X.stack:=by
 rcases I.ok.stk with e | ⟨e,hf⟩
 ·rw[e];exact I.funs
 ·rw[e];obtain⟨m,hn,_⟩:=I.loc;refine .cons (by rw[I.ok.kind];decide) hf hn ?_ I.funs
  exact Heap.get?_none_of_le (Nat.le_trans I.ok.bsz I.ok.above)
theorem Inv.stkSub(I:Inv X pins σ H s):∀b∈frs X.stack,b∈X.env.locals::X.fs:=λb hb=>by
 rcases I.ok.stk with e | ⟨e,hf⟩
 ·rw[e]at hb;exact List.mem_cons_of_mem _ hb
 ·rw[e]at hb;unfold frs at hb;rw[List.filterMap_cons,hf]at hb;exact hb
theorem Inv.stkFree(I:Inv X pins σ H s):∀b∈frs X.stack,H b=none:=λb hb=>by
 rcases List.mem_cons.mp (I.stkSub b hb)with e | hb
 ·rw[e];exact I.free
 ·obtain⟨_,o,ho,_⟩:=I.ok.funs.mem hb
  exact I.base.free b o ho (I.ok.frf b hb) λz=>I.ok.exfs b z hb
theorem Inv.step{g':Array GenState}{t':Nat}{d':Drawn}{ch:List Addr}(I:Inv X pins σ H s)
  (hch:∀b∈ch,(b∈X.ex\/X.s₀.heap.objs.size<=b)/\b≠X.env.locals/\(∀x c,X.env.cells.lookup x=some c->c≠b)/\∀p∈X.pn++pins,p.1≠b)
  (keep:∀b o,b≠X.env.locals->b∉X.fs->b∉ch->s.heap.get? b=some o->H b=none->h'.get? b=some o)
  (slot:∀b o,b≠X.env.locals->b∈X.fs->b∉ch->s.heap.get? b=some o->H b=none->∃sl,h'.get? b=some {o with slots:=sl}) (free:∀b o,b∉ch->s.heap.get? b=some o->H b=none->H' b=none)
  (there:∀b o,b∉ch->s.heap.get? b=some o->∃o',h'.get? b=some o')
  (tups:∀b xs,H b=some (.tup xs)->H' b=some (.tup xs)) (frzs:∀b o u,H b=some (.frz o u)->H' b=some (.frz o u)) (tbls:∀b ps,H b=some (.tbl ps)->∃more,H' b=some (.tbl (ps++more)))
  (ns:∀m,s.heap.Ns X.env.locals m->h'.Ns X.env.locals m) (hok:HOk X.prog X.w H' h') (hg:AllBare g') :
  Inv X pins σ H' {s with heap:=h',gens:=g',drawn:=d',toks:=t'}:=by
 have neL:∀b o,X.s₀.heap.get? b=some o->b≠X.env.locals:=λb o e=>Nat.ne_of_lt (Nat.lt_of_lt_of_le (Heap.lt_size e) I.ok.above);have neC:∀b o,X.s₀.heap.get? b=some o->b∉X.ex->b∉ch:=λb o e hx hb=>by
  rcases(hch b hb).1 with z | z
  ·exact hx z
  ·exact absurd (Nat.lt_of_lt_of_le (Heap.lt_size e) z) (Nat.lt_irrefl _)
 have cellK:∀x c,X.env.cells.lookup x=some c->∀v,s.heap.IsCell c v->h'.IsCell c v:=λx c e v ⟨o,ho,hd⟩=>by
  have nch:c∉ch:=λz=>(hch c z).2.2.1 x c e rfl;by_cases hc:c∈X.fs
  ·obtain⟨sl,q⟩:=slot c o (I.cne x c e) hc nch ho (I.freeC x c e);exact⟨_,q,hd⟩
  ·exact⟨o,keep c o (I.cne x c e) hc nch ho (I.freeC x c e),hd⟩
 refine⟨I.ok,I.os,hg,⟨λb o e n hb hx=>?_,λb o e n hb hx=>?_,λb o e n hx=>?_,λb o e hx=>?_,λb xs e=>tups b xs (I.base.tups b xs e),λb o xs e=>frzs b o xs (I.base.frzs b o xs e),λb ps e=>?_⟩,?_,λx c e=>?_,?_,λx c e=>?_,λp hp=>?_,hok,I.len⟩
 ·exact keep b o (neL b o e) hb (neC b o e hx) (I.base.keep b o e n hb hx) (I.base.free b o e n hx)
 ·obtain⟨sl,e1⟩:=I.base.slot b o e n hb hx;obtain⟨sl',e2⟩:=slot b _ (neL b o e) hb (neC b o e hx) e1 (I.base.free b o e n hx);exact⟨sl',e2⟩
 ·obtain⟨o',e1⟩:=I.base.there b o e hx;exact free b o' (neC b o e hx) e1 (I.base.free b o e n hx)
 ·obtain⟨o',e1⟩:=I.base.there b o e hx;exact there b o' (neC b o e hx) e1
 ·obtain⟨m1,e1⟩:=I.base.tbls b ps e;obtain⟨m2,e2⟩:=tbls b _ e1;exact⟨m1++m2,by rw[e2,Array.append_assoc]⟩
 ·obtain⟨m,hn,hl⟩:=I.loc;refine⟨m,ns m hn,λi x v e1 e2 e3=>?_⟩;obtain⟨u,r,l⟩:=hl i x v e1 e2 e3;refine⟨u,r,?_⟩;rcases l with l | ⟨k,c,e,z⟩
  ·exact .inl l
  ·exact .inr ⟨k,c,e,cellK x c e _ z⟩
 ·obtain⟨v,z⟩:=I.cell x c e;exact⟨v,cellK x c e v z⟩
 ·obtain⟨m,⟨o,_,_,ho,_⟩,_⟩:=I.loc;exact free _ o (λz=>(hch _ z).2.1 rfl) ho I.free
 ·obtain⟨v,o,ho,hd⟩:=I.cell x c e;exact free c o (λz=>(hch c z).2.2.1 x c e rfl) ho (I.freeC x c e)
 ·obtain⟨e,n,ne,nf,d⟩:=I.pin p hp;have nch:p.1∉ch:=λz=>(hch p.1 z).2.2.2 p hp rfl
  exact⟨keep p.1 p.2 ne nf nch e n,free p.1 p.2 nch e n,ne,nf,d⟩
theorem Inv.un{t':Nat}(I:Inv X pins σ H s)(u:Un X.fs [] H H' s.heap h')(hok:HOk X.prog X.w H' h'):Inv X pins σ H' {s with heap:=h',toks:=t'}:=by
 obtain⟨m,⟨o,es,ep,ho,r⟩,_⟩:=id I.loc;obtain⟨sl,hL⟩:=u.any ho I.free (by simp);exact I.step (g':=s.gens) (d':=s.drawn) (ch:=[]) (λ_ z=>nomatch z) (λb o _ hb _ e n=>u.keep b o e n hb (by simp)) (λb o _ hb _ e n=>u.slot b o e n hb (by simp)) (λb o _ e n=>u.free b o e n (by simp)) (λb o _ e=>u.there b o e (by simp)) u.tups u.frzs u.tbls (λm' hm=>by
  obtain⟨o',es',ep',ho',r'⟩:=hm;rw[ho]at ho';cases ho';exact⟨_,es',ep',hL,r'⟩) hok I.bare
theorem Inv.call{g':Array GenState}{t':Nat}{d':Drawn}{ch:List Addr}(I:Inv X pins σ H s)(u:Un (frs X.stack) ch H H' s.heap h')(hok:HOk X.prog X.w H' h')(hg:AllBare g')
  (hch:∀b∈ch,(b∈X.ex\/X.s₀.heap.objs.size<=b)/\b≠X.env.locals/\(∀x c,X.env.cells.lookup x=some c->c≠b)/\∀p∈X.pn++pins,p.1≠b) :
  Inv X pins σ H' {s with heap:=h',gens:=g',drawn:=d',toks:=t'}:=by
 obtain⟨m,⟨o,es,ep,ho,r⟩,_⟩:=id I.loc;obtain⟨sl,hL⟩:=u.any ho I.free λz=>(hch _ z).2.1 rfl
 exact I.step (ch:=ch) hch (λb o hL hb hc e n=>u.keep b o e n (λz=>(List.mem_cons.mp (I.stkSub b z)).elim hL hb) hc) (λb o _ _ hc e n=>u.any e n hc) (λb o hc e n=>u.free b o e n hc) (λb o hc e=>u.there b o e hc) u.tups u.frzs u.tbls (λm' hm=>by
  obtain⟨o',es',ep',ho',r'⟩:=hm;rw[ho]at ho';cases ho';exact⟨_,es',ep',hL,r'⟩) hok hg
theorem Inv.turned{t':Nat}{it:Addr}(I:Inv X pins σ H s)(k:∀b o,b≠it->s.heap.get? b=some o->h'.get? b=some o)(hn:H it=none)(hL:it≠X.env.locals)
  (h1:it∈X.ex\/X.s₀.heap.objs.size<=it) (h2:∀x c,X.env.cells.lookup x=some c->c≠it) (h3:∀p∈X.pn++pins,p.1≠it):Inv X pins σ H {s with heap:=h',toks:=t'}:=by
 have nit:∀b u,H b=some u->b≠it:=λb u e z=>by rw[z,hn]at e;cases e
 refine I.step (g':=s.gens) (d':=s.drawn) (ch:=[it]) (λb hb=>?_) (λb o _ _ hc e _=>k b o (λz=>hc (by simp[z])) e) (λb o _ _ hc e _=>⟨o.slots,k b o (λz=>hc (by simp[z])) e⟩) (λ_ _ _ _ n=>n)
  (λb o hc e=>⟨o,k b o (λz=>hc (by simp[z])) e⟩) (λ_ _ e=>e) (λ_ _ _ e=>e) (λb ps e=>⟨#[],by rw[e];simp⟩) (λm hm=>?_) (λb u e=>?_) I.bare
 ·have e:b=it:=by simpa using hb
  subst e;exact⟨h1,hL,h2,h3⟩
 ·obtain⟨o,es,ep,ho,r⟩:=hm;exact⟨o,es,ep,k _ o (Ne.symm hL) ho,r⟩
 ·refine(I.hok b u e).stay (λc v hc q=>k c v ?_ q) (λ_ q=>q) λ_ _ q=>q;rcases hc with z | z
  ·rw[z];exact nit b u e
  ·exact nit c _ z
theorem Inv.tok(I:Inv X pins σ H s)(t:Nat):Inv X pins σ H {s with toks:=t}:=I.un (h':=s.heap) (t':=t) Un.refl I.hok
theorem Inv.kept{t':Nat}(I:Inv X pins σ H s)(k:∀b u,s.heap.get? b=some u->h'.get? b=some u):Inv X pins σ H {s with heap:=h',toks:=t'}:=I.un (Un.kept k) (I.hok.kept k)
theorem Inv.laid{a:Addr}{o:HO}{t':Nat}(I:Inv X pins σ H s)(k:∀b u,s.heap.get? b=some u->h'.get? b=some u)(hp:s.heap.objs.size<=a)(new:q1J X.prog X.w (upd H a o) h' a o) :
  Inv X pins σ (upd H a o) {s with heap:=h',toks:=t'}:=I.un (Un.laid k hp (I.hok.fresh hp)) (I.hok.laid k hp new)
theorem Inv.write{x e:Addr}{o:HO}{t':Nat}(I:Inv X pins σ H s)(mu:Mut (H x))(he:e=x\/H e=some (.own x))(k:∀b u,b≠e->s.heap.get? b=some u->h'.get? b=some u)(heo:∃u,h'.get? e=some u)
  (new:q1J X.prog X.w (upd H x o) h' x o):Inv X pins σ (upd H x o) {s with heap:=h',toks:=t'}:=I.un (Un.write mu he k heo) (I.hok.write mu he k heo new)
theorem Inv.pins_of{pins':List (Addr×Obj)}(I:Inv X pins σ H s)(h:∀p∈pins',s.heap.get? p.1=some p.2/\H p.1=none/\p.1≠X.env.locals/\p.1∉X.fs/\∀v,p.2.data ≠ .cell v):Inv X pins' σ H s:=
 ⟨I.ok,I.os,I.bare,I.base,I.loc,I.cell,I.free,I.freeC,λp hp=>(List.mem_append.mp hp).elim (λz=>I.pin p (List.mem_append_left _ z)) (h p),I.hok,I.len⟩
theorem q3L{N:List Str}(hN:N.Nodup){i j:Nat}{x:Str}(a:N[i]? = some x)(b:N[j]? = some x):i=j:=by
 obtain⟨h1,e1⟩:=List.getElem?_eq_some_iff.mp a;obtain⟨h2,e2⟩:=List.getElem?_eq_some_iff.mp b;exact(List.getElem_inj hN).mp (e1.trans e2.symm)
theorem q5L{M:Model}{A:Around}{E:Value->Shared->Prop}{i:Nat}{x:Str}{v:V}{u:Value}{Q:Unit->Shared->Prop}(I:Inv X pins σ H s)(hN:X.N.Nodup)(hi:X.N[i]? = some x)(hx:Loc X.env.scope x)(r:RelV v u)
  (h:∀s',Inv X pins (σ.set i (some v)) H s'->(∃a,Heap.SameBut a s.heap s'.heap/\(a=X.env.locals\/X.env.cells.lookup x=some a))->Q () s') (hf:X.fn x=true\/X.env.scope.names.lookup x=some .local:=by first | exact .inl rfl | exact .inr rfl | assumption):wpAny M A (storeName X.env x u) Q E s:=by
 obtain⟨m,hn,hl⟩:=id I.loc;have hcls:(X.env.scope.kind == .class||(X.env.scope.kind == .module&&X.env.locals != X.env.globals))=false:=by rw[I.ok.kind];rfl
 have hiσ:i<σ.length:=by rw[I.len];exact(List.getElem?_eq_some_iff.mp hi).1
 have cne:=I.cne;have tracked:∀{a:Addr} {h':Heap},(∃o,s.heap.get? a=some o/\H a=none)->Heap.SameBut a s.heap h'->HOk X.prog X.w H h':=λ{a h'} ha hs b ob e=>by
  obtain⟨_,_,hfree⟩:=ha;refine(I.hok b ob e).stay (λc w' hc q=>(hs.2 c ?_).trans q) (λ_ q=>q) λ_ _ q=>q
  rintro rfl
  rcases hc with rfl | hc
  ·rw[hfree]at e;cases e
  ·rw[hfree]at hc;cases hc
 rcases hx with hk | hk
 ·refine wpAny_storeName_local hk hn (λh' hn' hs=>?_) hcls;obtain⟨oL,_,_,hoL,_⟩:=id hn;refine h _ ⟨I.ok,I.os,I.bare,⟨λb o e n hb hx=>?_,λb o e n hb hx=>?_,I.base.free,λb o e hx=>?_,I.base.tups,I.base.frzs,I.base.tbls⟩,⟨_,hn',λj y v' e1 e2 e3=>?_⟩,λy c e=>?_,I.free,I.freeC,λp hp=>?_,tracked ⟨oL,hoL,I.free⟩ hs,by simpa using I.len⟩ ⟨_,hs,.inl rfl⟩
  ·exact(hs.2 b (Nat.ne_of_lt (Nat.lt_of_lt_of_le (Heap.lt_size e) I.ok.above))).trans (I.base.keep b o e n hb hx)
  ·obtain⟨sl,e1⟩:=I.base.slot b o e n hb hx;exact⟨sl,(hs.2 b (Nat.ne_of_lt (Nat.lt_of_lt_of_le (Heap.lt_size e) I.ok.above))).trans e1⟩
  ·obtain⟨o',e1⟩:=I.base.there b o e hx;exact⟨o',(hs.2 b (Nat.ne_of_lt (Nat.lt_of_lt_of_le (Heap.lt_size e) I.ok.above))).trans e1⟩
  ·by_cases hj:j=i
   ·subst hj;rw[hi]at e1;cases e1;rw[List.getElem?_set_self hiσ]at e2;cases e2;exact⟨u,r,.inl ⟨hk,by simp⟩⟩
   ·rw[List.getElem?_set_ne (Ne.symm hj)]at e2;obtain⟨u',r',q⟩:=hl j y v' e1 e2 e3;refine⟨u',r',?_⟩;rcases q with⟨k,e⟩ | ⟨k,c,e,z⟩
    ·refine .inl ⟨k,?_⟩;have:y≠x:=λe=>hj (q3L hN e1 (e▸hi));simp[this,e]
    ·exact .inr ⟨k,c,e,z.sameBut hs (cne y c e)⟩
  ·obtain⟨w',z⟩:=I.cell y c e;exact⟨w',z.sameBut hs (cne y c e)⟩
  ·obtain⟨e,n,ne,nf,d⟩:=I.pin p hp;exact⟨(hs.2 p.1 ne).trans e,n,ne,nf,d⟩
 ·have hfn:X.fn x=true:=by
   rcases hf with z | z
   ·exact z
   ·rw[z]at hk;cases hk
  obtain⟨c,hc⟩:=I.ok.has x (.inl hk);obtain⟨w',z⟩:=I.cell x c hc;refine wpAny_storeName_cell I.ok.kind hk hc z (λh' hc' hs=>?_);obtain⟨oc,hoc,hocd⟩:=id z;refine h {s with heap:=h'} ⟨I.ok,I.os,I.bare,⟨λb o e n hb hx=>?_,λb o e n hb hx=>?_,I.base.free,λb o e hx=>?_,I.base.tups,I.base.frzs,I.base.tbls⟩,⟨m,hn.sameBut hs (Ne.symm (cne x c hc)),λj y v' e1 e2 e3=>?_⟩,λy c' e=>?_,I.free,I.freeC,λp hp=>?_,tracked ⟨oc,hoc,I.freeC x c hc⟩ hs,by simpa using I.len⟩ ⟨c,hs,.inr hc⟩
  ·exact(hs.2 b (Nat.ne_of_lt (Nat.lt_of_lt_of_le (Heap.lt_size e) (I.ok.cab x c hfn hc)))).trans (I.base.keep b o e n hb hx)
  ·obtain⟨sl,e1⟩:=I.base.slot b o e n hb hx;exact⟨sl,(hs.2 b (Nat.ne_of_lt (Nat.lt_of_lt_of_le (Heap.lt_size e) (I.ok.cab x c hfn hc)))).trans e1⟩
  ·obtain⟨o',e1⟩:=I.base.there b o e hx;exact⟨o',(hs.2 b (Nat.ne_of_lt (Nat.lt_of_lt_of_le (Heap.lt_size e) (I.ok.cab x c hfn hc)))).trans e1⟩
  ·by_cases hj:j=i
   ·subst hj;rw[hi]at e1;cases e1;rw[List.getElem?_set_self hiσ]at e2;cases e2;exact⟨u,r,.inr ⟨.inl hk,c,hc,hc'⟩⟩
   ·rw[List.getElem?_set_ne (Ne.symm hj)]at e2;obtain⟨u',r',q⟩:=hl j y v' e1 e2 e3;refine⟨u',r',?_⟩;rcases q with q | ⟨k,c',e,z'⟩
    ·exact .inl q
    ·refine .inr ⟨k,c',e,z'.sameBut hs ?_⟩
     rintro rfl
     exact hj (q3L hN e1 (I.ok.inj _ _ _ e hc▸hi))
  ·by_cases hcc:c'=c
   ·subst hcc;exact⟨_,hc'⟩
   ·obtain⟨w2,z2⟩:=I.cell y c' e;exact⟨w2,z2.sameBut hs hcc⟩
  ·obtain⟨e,n,ne,nf,d⟩:=I.pin p hp;refine⟨(hs.2 p.1 ?_).trans e,n,ne,nf,d⟩;intro q;rw[q,hoc]at e;have q':oc=p.2:=Option.some.inj e;exact d w' (by rw[←q'];exact hocd)
theorem q5c{M:Model}{A:Around}{E:Value->Shared->Prop}{i:Nat}{x:Str}{v:V}{u:Value}{Q:Unit->Shared->Prop}(I:Inv X pins σ H s)(hN:X.N.Nodup)(hi:X.N[i]? = some x)(hx:Loc X.env.scope x)(r:RelV v u)
  (h:∀s',Inv X pins (σ.set i (some v)) H s'->Q () s') (hf:X.fn x=true\/X.env.scope.names.lookup x=some .local:=by first | exact .inl rfl | exact .inr rfl | assumption):wpAny M A (storeName X.env x u) Q E s:=
 q5L I hN hi hx r (λs' I' _=>h s' I') hf
theorem Inv.call'{s':Shared}{ch:List Addr}(I:Inv X pins σ H s)(ho:s'.os=s.os)(u:Un (frs X.stack) ch H H' s.heap s'.heap)(hok:HOk X.prog X.w H' s'.heap)(hg:AllBare s'.gens)
  (hch:∀b∈ch,(b∈X.ex\/X.s₀.heap.objs.size<=b)/\b≠X.env.locals/\(∀x c,X.env.cells.lookup x=some c->c≠b)/\∀p∈X.pn++pins,p.1≠b):Inv X pins σ H' s':=by
 obtain⟨h',g',d',t',o'⟩:=s';have e:o'=s.os:=ho;subst e;exact I.call (g':=g') (t':=t') (d':=d') u hok hg hch
end
abbrev XK:=Value->Option Addr->Hp->Prop
abbrev St:=List (Option V)
abbrev VK:=V->Hp->Prop
abbrev TE:=St->Hp->VK->Prop
abbrev TT:=St->Hp->(Bool->Hp->Prop)->Prop
abbrev TA:=St->Hp->(List V->Hp->Prop)->Prop
structure Ends where
 nx:St->Hp->Prop
 rt:VK
 bk:St->Hp->Prop:=λ_ _=>False
 ct:St->Hp->Prop:=λ_ _=>False
abbrev TS:=Ends->St->Hp->Prop
def EP(X:Cx)(pins:List (Addr×Obj))(σ:St)(Q:VK)(u:Value)(s':Shared):Prop:=∃v H',Inv X pins σ H' s'/\RelV v u/\Q v H'
def TP(X:Cx)(pins:List (Addr×Obj))(σ:St)(Q:Bool->Hp->Prop)(b:Bool)(s':Shared):Prop:=∃H',Inv X pins σ H' s'/\Q b H'
def AP(X:Cx)(pins:List (Addr×Obj))(σ:St)(Q:List V->Hp->Prop)(us:List Value)(s':Shared):Prop:=∃vs H',Inv X pins σ H' s'/\Vals vs us/\Q vs H'
def SP(X:Cx)(pins:List (Addr×Obj))(D:Ends)(f:Flow)(s':Shared):Prop:=
 match f with
 | .next=>∃σ' H',Inv X pins σ' H' s'/\D.nx σ' H'
 | .brk=>∃σ' H',Inv X pins σ' H' s'/\D.bk σ' H'
 | .cont=>∃σ' H',Inv X pins σ' H' s'/\D.ct σ' H'
 | .ret u=>∃v σ' H',Inv X pins σ' H' s'/\RelV v u/\D.rt v H'
def PE(X:Cx)(e:Expr)(t:TE):Prop:=
 ∀(pins:List (Addr×Obj)) (s:Shared) (σ:St) (H:Hp) (Q:VK),Inv X pins σ H s->t σ H Q->wpAny (model X.prog X.w) X.A (eval e X.env) (EP X pins σ Q) X.xe s
def PT(X:Cx)(e:Expr)(t:TT):Prop:=
 ∀(pins:List (Addr×Obj)) (s:Shared) (σ:St) (H:Hp) (Q:Bool->Hp->Prop),Inv X pins σ H s->t σ H Q->wpAny (model X.prog X.w) X.A (isTrue e X.env (eval e X.env)) (TP X pins σ Q) X.xe s
def PW(X:Cx)(e:Expr)(t:TT):Prop:=
 ∀(whole:Sem Value) (pins:List (Addr×Obj)) (s:Shared) (σ:St) (H:Hp) (Q:Bool->Hp->Prop),Inv X pins σ H s->t σ H Q->wpAny (model X.prog X.w) X.A (isTrue e X.env whole) (TP X pins σ Q) X.xe s
theorem PW.pt{X:Cx}{e:Expr}{t:TT}(h:PW X e t):PT X e t:=h _
def PA(X:Cx)(es:List Expr)(t:TA):Prop:=
 ∀(pos:Pos) (pins:List (Addr×Obj)) (s:Shared) (σ:St) (H:Hp) (Q:List V->Hp->Prop),Inv X pins σ H s->t σ H Q->wpAny (model X.prog X.w) X.A (spliced (backTo pos (starEach es X.env))) (AP X pins σ Q) X.xe s
def PS(X:Cx)(st:Stmt)(t:TS):Prop:=
 ∀(pins:List (Addr×Obj)) (s:Shared) (σ:St) (H:Hp) (D:Ends),Inv X pins σ H s->t D σ H->wpAny (model X.prog X.w) X.A (exec st X.env) (SP X pins D) X.xe s
def PSs(X:Cx)(st:List Stmt)(t:TS):Prop:=
 ∀(pins:List (Addr×Obj)) (s:Shared) (σ:St) (H:Hp) (D:Ends),Inv X pins σ H s->t D σ H->wpAny (model X.prog X.w) X.A (execs st X.env) (SP X pins D) X.xe s
theorem thn{α:Type}{t:Sem α}{Q Q':α->Shared->Prop}{M:Model}{A:Around}{E:Value->Shared->Prop}{s:Shared}(h:wpAny M A t Q E s)(hQ:∀a s,Q a s->Q' a s):wpAny M A t Q' E s:=wpAny_mono h hQ λ_ _ x=>x
end L2
namespace L2
open PySem PySem.Spec PyProof.Rows
section
variable {X:Cx}
theorem bin{a b:Expr}{ta tb:TE}(ha:PE X a ta)(hb:PE X b tb){pins:List (Addr×Obj)}{s:Shared}{σ:St}{H:Hp}{R:V->V->Hp->Prop}(I:Inv X pins σ H s)(h:ta σ H λx H1=>tb σ H1 λy H2=>R x y H2)
  {α:Type} {Q:α->Shared->Prop} {f:Value->Value->Sem α}
  (hf:∀v u s2 x y H2,Inv X pins σ H2 s2->RelV x v->RelV y u->R x y H2->wpAny (model X.prog X.w) X.A (f v u) Q X.xe s2) :
  wpAny (model X.prog X.w) X.A (eval a X.env) (λv s₁=>wpAny (model X.prog X.w) X.A (eval b X.env) (λu s₂=>wpAny (model X.prog X.w) X.A (f v u) Q X.xe s₂) X.xe s₁) X.xe s:=by
 refine thn (ha pins s σ H _ I h) λv s1 ⟨x,H1,I1,r1,q1⟩=>?_;refine thn (hb pins s1 σ H1 _ I1 q1) λu s2 ⟨y,H2,I2,r2,q2⟩=>?_;exact hf v u s2 x y H2 I2 r1 r2 q2
def tVar(i:Nat):TE:=λσ H Q=>∃v,σ[i]? = some (some v)/\Q v H
def tC(v:V):TE:=λ_ H Q=>Q v H
theorem q4z{i:Nat}{x:Str}{pos:Pos}(hN:X.N[i]? = some x)(hv:Vis X.env.scope x)(hd:(x==("__debug__" : Str))=false:=by decide)(hcd:(x==("__classdict__" : Str))=false:=by decide):PE X (.Name x pos) (tVar i):=by
 intro pins s σ H Q I h;obtain⟨v,e,h⟩:=h;obtain⟨m,hn,hl⟩:=I.loc;obtain⟨u,r,l⟩:=hl i x v hN e hv;have fin:EP X pins σ Q u s:=⟨v,H,I,r,h⟩;rcases l with⟨hk,hm⟩ | ⟨hk,c,hc,hcell⟩
 ·exact wpAny_Name (wpAny_loadName_local I.ok.kind hk hn hm fin) hd
 ·rcases hk with hk | hk
  ·exact wpAny_Name (wpAny_loadName_cell I.ok.kind hk hc hcell fin) hd
  ·exact wpAny_Name (wpAny_loadName_free I.ok.kind hk hc hcell fin hcd) hd
theorem z0z{i j pos}:PE X (.Constant (.int i) j pos) (tC (.int i)):=λ_ _ _ H _ I h=>wpAny_Constant_int ⟨.int i,H,I.tok _,⟨_,rfl⟩,h⟩
theorem z7L{b j pos}:PE X (.Constant (.bool b) j pos) (tC (.bl b)):=λ_ _ _ H _ I h=>Constant_bool ⟨.bl b,H,I,rfl,h⟩
theorem z7c{j pos}:PE X (.Constant .none j pos) (tC .non):=λ_ _ _ H _ I h=>Constant_none ⟨.non,H,I,rfl,h⟩
theorem z5n{x j pos}:PE X (.Constant (.str x) j pos) (tC (.str x)):=λ_ _ _ H _ I h=>Calls.Constant_str ⟨.str x,H,I.tok _,⟨_,rfl⟩,h⟩
def Gl(X:Cx)(x:Str):Prop:=X.env.kindOf x=some .globalImplicit
theorem q5l{E:Value->Shared->Prop}{pins:List (Addr×Obj)}{s:Shared}{σ:St}{H:Hp}{x:Str}{u:Value}{pos:Pos}{Q:Value->Shared->Prop}(I:Inv X pins σ H s)(hg:Gl X x)(hm:X.mg x=some u)(h:Q u s)
  (hd:(x==("__debug__" : Str))=false:=by decide):wpAny (model X.prog X.w) X.A (eval (.Name x pos) X.env) Q E s:=
 Calls.Name_function_global I.ok.kind hg (Calls.loadGlobal_global (by rw[I.ok.glob];exact I.mod.glob.keeps I.bk) hm h) hd
theorem q3D{E:Value->Shared->Prop}{pins:List (Addr×Obj)}{s:Shared}{σ:St}{H:Hp}{x:Str}{u:Value}{pos:Pos}{Q:Value->Shared->Prop}(I:Inv X pins σ H s)(hg:Gl X x)(hm:X.mg x=none)(hv:bootBuiltins x=some u)(h:Q u s)
  (hn:x ≠ "__name__":=by decide) (hd:(x==("__debug__" : Str))=false:=by decide):wpAny (model X.prog X.w) X.A (eval (.Name x pos) X.env) Q E s:=by
 obtain⟨mb,h1,h2⟩:=I.mod.blt;exact Calls.Name_function_global I.ok.kind hg (Calls.loadGlobal_builtin (by rw[I.ok.glob];exact I.mod.glob.keeps I.bk) hm (by rw[I.ok.blt];exact h1.keeps I.bk) ((h2 x hn).trans hv) h) hd
theorem z0d{x:Str}{v:V}{u:Value}{pos:Pos}(hg:Gl X x)(hm:X.mg x=some u)(r:RelV v u)(hd:(x==("__debug__" : Str))=false:=by decide):PE X (.Name x pos) (tC v):=
 λ_ _ _ H _ I h=>q5l I hg hm ⟨v,H,I,r,h⟩ hd
theorem q8Z{x:Str}{v:V}{u:Value}{pos:Pos}(hg:Gl X x)(hm:X.mg x=none)(hv:bootBuiltins x=some u)(r:RelV v u)(hn:x ≠ "__name__":=by decide)(hd:(x==("__debug__" : Str))=false:=by decide):PE X (.Name x pos) (tC v):=
 λ_ _ _ H _ I h=>q3D I hg hm hv ⟨v,H,I,r,h⟩ hn hd
variable {a b:Expr} {ta tb:TE} {pos:Pos}
def tB(t:TE):TT:=λσ H Q=>t σ H λx H1=>∃c,x=.bl c/\Q c H1
variable {tA tB':TT} {rest:List Expr}
def tAnd(t u:TT):TT:=λσ H Q=>t σ H λc H1=>if c=true then u σ H1 Q else Q false H1
def tOr(t u:TT):TT:=λσ H Q=>t σ H λc H1=>if c=true then Q true H1 else u σ H1 Q
def tNot(t:TT):TT:=λσ H Q=>t σ H λc H1=>Q (!c) H1
theorem z3n(ha:PT X a tA):PW X (.BoolOp .And [a] pos) tA:=by
 intro wh pins s σ H Q I h;refine isTrue_and (thn (ha pins s σ H Q I h) λc s1 e=>?_);cases c with
 | true=>exact isTrue_and_nil e
 | false=>exact e
theorem z7y(ha:PT X a tA):PW X (.BoolOp .Or [a] pos) tA:=by
 intro wh pins s σ H Q I h;refine isTrue_or (thn (ha pins s σ H Q I h) λc s1 e=>?_);cases c with
 | false=>exact isTrue_or_nil e
 | true=>exact e
theorem z0B(ha:PT X a tA)(hb:PW X (.BoolOp .And (b::rest) pos) tB'):PW X (.BoolOp .And (a::b::rest) pos) (tAnd tA tB'):=by
 intro wh pins s σ H Q I h;refine isTrue_and (thn (ha pins s σ H _ I h) λc s1 ⟨H1,I1,q1⟩=>?_);cases c with
 | true=>exact hb wh pins s1 σ H1 Q I1 q1
 | false=>exact⟨H1,I1,q1⟩
theorem z2P(ha:PT X a tA)(hb:PW X (.BoolOp .Or (b::rest) pos) tB'):PW X (.BoolOp .Or (a::b::rest) pos) (tOr tA tB'):=by
 intro wh pins s σ H Q I h;refine isTrue_or (thn (ha pins s σ H _ I h) λc s1 ⟨H1,I1,q1⟩=>?_);cases c with
 | true=>exact⟨H1,I1,q1⟩
 | false=>exact hb wh pins s1 σ H1 Q I1 q1
theorem z2q(ha:PT X a tA):PT X (.UnaryOp .Not a pos) (tNot tA):=by
 intro pins s σ H Q I h;exact isTrue_not (ha pins s σ H (λc H1=>Q (!c) H1) I h)
theorem z2y{op}{t:TE}(h:PE X a t):PE X (.BoolOp op [a] pos) t:=λpins s σ H Q I hw=>BoolOp_one (h pins s σ H Q I hw)
end
end L2
namespace L2
open PySem PySem.Spec PyProof.Rows
def SqL(K:PySem.W.Frag)(H:Hp)(a:Addr)(xs:List V):Prop:=
 Rd H a (.lst xs) \/
  ∃(o:Obj) (its:Array Value) (n:Nat),K.lookup a=some o/\o.cls=.type "list" /\ o.dict=none/\o.data=.seq its n/\its.size<=sizeLine/\Vals xs its.toList
def SqT(K:PySem.W.Frag)(H:Hp)(a:Addr)(xs:List V):Prop:=
 Rd H a (.tup xs) \/
  ∃(o:Obj) (its:Array Value) (n:Nat),K.lookup a=some o/\(o.cls=.type "tuple" /\ o.dict=none)/\o.data=.seq its n/\its.size<=sizeLine/\Vals xs its.toList
def absV:Value->Option V
 | .none=>some .non
 | .bool b=>some (.bl b)
 | .int i _=>some (.int i)
 | .str x _=>some (.str x)
 | .bytes b _=>some (.byt b)
 | .float b _=>some (.flt b)
 | .ref a=>some (.ref a)
 | .type n=>some (.ty n)
 | _=>none
theorem RelV.abs{x:V}{u:Value}(r:RelV x u):absV u=some x:=by
 cases x with
 | non=>cases r;rfl
 | bl _=>cases r;rfl
 | int _=>obtain⟨t,rfl⟩:=r;rfl
 | str _=>obtain⟨t,rfl⟩:=r;rfl
 | byt _=>obtain⟨t,rfl⟩:=r;rfl
 | flt _=>obtain⟨t,rfl⟩:=r;rfl
 | ref _=>cases r;rfl
 | ty _=>cases r;rfl
theorem RelV.inj{x y:V}{u:Value}(r:RelV x u)(q:RelV y u):x=y:=Option.some.inj (r.abs.symm.trans q.abs)
theorem Vals.inj{xs ys:List V}{us:List Value}(h:Vals xs us):Vals ys us->xs=ys:=by
 induction h generalizing ys with
 | nil=>intro t;cases t;rfl
 | cons r _ ih=>intro t;cases t with | cons r' t'=>rw[r.inj r',ih t']
section
variable {X:Cx} {pins:List (Addr×Obj)} {σ:St} {H:Hp} {s:Shared} {a:Addr} {xs ys:List V}
theorem SqL.of{K:PySem.W.Frag}(h:H a=some (.lst xs)):SqL K H a xs:=.inl (.inl h)
theorem SqT.of{K:PySem.W.Frag}(h:H a=some (.tup xs)):SqT K H a xs:=.inl (.inl h)
theorem Inv.list(I:Inv X pins σ H s)(h:SqL X.K H a xs):∃its:List Value,Vals xs its/\PlainL s.heap a its.toArray/\xs.length<=sizeLine:=by
 rcases h with h | ⟨o,its,n,hk,hc,hd,hs,hz,r⟩
 ·obtain⟨z,its,n,r,e⟩:=h.ok I.hok;exact⟨its,r,⟨_,n,e,rfl,rfl,rfl⟩,z⟩
 ·refine⟨its.toList,r,⟨o,n,I.kIn a o hk,hc,hd,by simpa using hs⟩,?_⟩;have e:=r.length;simp only[Array.length_toList]at e;omega
theorem Inv.tuple(I:Inv X pins σ H s)(h:SqT X.K H a xs):∃its:List Value,Vals xs its/\IsTup s.heap a its.toArray/\xs.length<=sizeLine:=by
 rcases h with h | ⟨o,its,n,hk,hc,hs,hz,r⟩
 ·obtain⟨z,its,r,p⟩:=h.ok I.hok;exact⟨its,r,p.tup,z⟩
 ·refine⟨its.toList,r,⟨o,I.kIn a o hk,hc.1,n,by simpa using hs⟩,?_⟩;have e:=r.length;simp only[Array.length_toList]at e;omega
theorem Inv.list_inj(I:Inv X pins σ H s)(h:SqL X.K H a xs)(h':SqL X.K H a ys):xs=ys:=by
 obtain⟨its,r,⟨o,n,e,_,_,d⟩,_⟩:=I.list h;obtain⟨its',r',⟨o',n',e',_,_,d'⟩,_⟩:=I.list h';rw[e]at e';cases e';rw[d]at d';injection d' with d1 _
 have:its=its':=by simpa using congrArg Array.toList d1
 subst this;exact r.inj r'
theorem Inv.tuple_inj(I:Inv X pins σ H s)(h:SqT X.K H a xs)(h':SqT X.K H a ys):xs=ys:=by
 obtain⟨its,r,⟨o,e,_,n,d⟩,_⟩:=I.tuple h;obtain⟨its',r',⟨o',e',_,n',d'⟩,_⟩:=I.tuple h';rw[e]at e';cases e';rw[d]at d';injection d' with d1 _
 have:its=its':=by simpa using congrArg Array.toList d1
 subst this;exact r.inj r'
end
section
variable {X:Cx} {pins:List (Addr×Obj)} {σ:St} {H:Hp} {s:Shared} {E:Value->Shared->Prop}
end
section
variable {X:Cx} {st:Stmt} {rest:List Stmt} {t u:TS} {e:Expr} {te:TE} {pos:Pos}
def z7P:TS:=λD σ H=>D.nx σ H
def tSeq(t u:TS):TS:=λD σ H=>t {D with nx:=u D} σ H
theorem z4a:PSs X [] z7P:=λ_ _ σ H _ I h=>wpAny_execs_nil ⟨σ,H,I,h⟩
theorem q3I(h1:PS X st t)(h2:PSs X rest u):PSs X (st::rest) (tSeq t u):=by
 intro pins s σ H D I h;refine wpAny_execs_cons (thn (h1 pins s σ H {D with nx:=u D} I h) λf s1 q=>?_);cases f with
 | next=>
  obtain⟨σ',H',I',q⟩:=q;exact h2 pins s1 σ' H' D I' q
 | ret v=>exact q
 | brk=>exact q
 | cont=>exact q
theorem z4T(h1:PS X st t):PSs X [st] t:=by
 intro pins s σ H D I h;refine wpAny_execs_cons (thn (h1 pins s σ H D I h) λf s1 q=>?_);cases f with
 | next=>exact wpAny_execs_nil q
 | ret v=>exact q
 | brk=>exact q
 | cont=>exact q
theorem Inv.quiet{pins:List (Addr×Obj)}{σ:St}{H:Hp}{s:Shared}(I:Inv X pins σ H s):interactive X.env=false:=by simp[interactive,I.ok.kind]
def z7G(te:TE):TS:=λD σ H=>te σ H λ_ H1=>D.nx σ H1
theorem q4d(he:PE X e te)(hs:swapsWith e none pos.line X.env=pure false:=by rfl):PS X (.Expr e pos) (z7G te):=by
 intro pins s σ H D I h;exact wpAny_Expr_any (thn (he pins s σ H _ I h) λv s1 ⟨x,H1,I1,r1,q1⟩=>⟨σ,H1,I1,q1⟩) I.quiet hs
def tRet(te:TE):TS:=λD σ H=>te σ H D.rt
theorem q7I(he:PE X e te):PS X (.Return (some e) pos) (tRet te):=by
 intro pins s σ H D I h;exact wpAny_Return_some (thn (he pins s σ H _ I h) λv s1 ⟨x,H1,I1,r1,q1⟩=>⟨x,σ,H1,I1,r1,q1⟩)
def tIfS(c:TT)(t u:TS):TS:=λD σ H=>c σ H λb H1=>if b=true then t D σ H1 else u D σ H1
theorem z4l{c:Expr}{a b:List Stmt}{tc:TT}(hc:PT X c tc)(ha:PSs X a t)(hb:PSs X b u):PS X (.If c a b pos) (tIfS tc t u):=by
 intro pins s σ H D I h;refine wpAny_If (thn (hc pins s σ H _ I h) λd s1 ⟨H1,I1,q1⟩=>?_);cases d with
 | true=>exact ha pins s1 σ H1 D I1 q1
 | false=>exact hb pins s1 σ H1 D I1 q1
def z5Q:TS:=λ_ _ _=>False
theorem q1G{sts:List Stmt}:PSs X sts z5Q:=λ_ _ _ _ _ _ h=>h.elim
end
abbrev TG:=V->St->Hp->(St->Hp->Prop)->Prop
abbrev TGs:=List V->St->Hp->(St->Hp->Prop)->Prop
def PG(X:Cx)(target:Expr)(t:TG):Prop:=
 ∀(pins:List (Addr×Obj)) (s:Shared) (σ:St) (H:Hp) (v:V) (u:Value) (Q:St->Hp->Prop),Inv X pins σ H s->RelV v u->t v σ H Q ->
  wpAny (model X.prog X.w) X.A (assign target X.env u) (λ_ s'=>∃σ' H',Inv X pins σ' H' s'/\Q σ' H') X.xe s
def PGs(X:Cx)(ts:List Expr)(t:TGs):Prop:=
 ∀(pins:List (Addr×Obj)) (s:Shared) (σ:St) (H:Hp) (vs:List V) (us:List Value) (Q:St->Hp->Prop),Inv X pins σ H s->Vals vs us->t vs σ H Q ->
  wpAny (model X.prog X.w) X.A (assignInOrder ((assignEach ts X.env).map (·.2)) us) (λ_ s'=>∃σ' H',Inv X pins σ' H' s'/\Q σ' H') X.xe s
abbrev TSet:=V->V->V->Hp->(Hp->Prop)->Prop
def PSet(X:Cx)(t:TSet):Prop:=
 ∀(pins:List (Addr×Obj)) (s:Shared) (σ:St) (H:Hp) (o i v:V) (ov iv u:Value) (Q:Hp->Prop),Inv X pins σ H s->RelV o ov->RelV i iv->RelV v u->t o i v H Q ->
  wpAny (model X.prog X.w) X.A (setItem ov iv u) (λ_ s'=>∃H',Inv X pins σ H' s'/\Q H') X.xe s
section
variable {X:Cx} {pos:Pos}
def q7Z(i:Nat):TG:=λv σ H Q=>Q (σ.set i (some v)) H
theorem q9e{i:Nat}{x:Str}(hN:X.N.Nodup)(hi:X.N[i]? = some x)(hx:Loc X.env.scope x)(hf:X.fn x=true\/X.env.scope.names.lookup x=some .local:=by first | exact .inl rfl | exact .inr rfl | assumption):PG X (.Name x pos) (q7Z i):=by
 intro pins s σ H v u Q I r h;exact wpAny_assign_Name (q5c I hN hi hx r (λs' I'=>⟨_,H,I',h⟩) hf)
def gNil:TGs:=λvs σ H Q=>vs=[]/\Q σ H
def z6W(t:TG)(u:TGs):TGs:=λvs σ H Q=>∃v r,vs=v::r/\t v σ H λσ' H'=>u r σ' H' Q
theorem z4y:PGs X [] gNil:=by
 intro pins s σ H vs us Q I r h;obtain⟨e,h⟩:=h;subst e;cases r;exact assignInOrder_nil ⟨σ,H,I,h⟩
theorem z1R{e:Expr}{es:List Expr}{t:TG}{u:TGs}(h1:PG X e t)(h2:PGs X es u)
  (hs:(assignEach (e::es) X.env).map (·.2)=assign e X.env::(assignEach es X.env).map (·.2):=by rfl):PGs X (e::es) (z6W t u):=by
 intro pins s σ H vs us Q I r h;obtain⟨v,vr,e1,h⟩:=h;subst e1;cases r with
 | cons r rr=>
  rw[hs];refine assignInOrder_cons (thn (h1 pins s σ H _ _ _ I r h) λ_ s1 ⟨σ1,H1,I1,q1⟩=>?_);exact h2 pins s1 σ1 H1 _ _ Q I1 rr q1
def gTup(K:PySem.W.Frag)(n:Nat)(t:TGs):TG:=λv σ H Q=>∃a xs,v=.ref a/\SqT K H a xs/\xs.length=n/\t xs σ H Q
theorem z5q{es:List Expr}{k:Nat}{t:TGs}{n:Nat}(hc:X.calm=true)(h:PGs X es t)
  (hn:(assignEach es X.env).length=n:=by rfl) (hst:(assignEach es X.env).findIdx? (·.1)=none:=by rfl):PG X (.Tuple es k pos) (gTup X.K n t):=by
 intro pins s σ H v u Q I r hw;obtain⟨a,xs,e1,hq,hl,hw⟩:=hw;subst e1;cases r;obtain⟨its,rv,ht,hz⟩:=I.tuple hq;refine assign_Tuple_tuple (I.ok.hd hc) ht (by simp[hn,←hl,rv.length]) hst λh' hx=>?_
 have I1:Inv X pins σ H {s with heap:=h'}:=I.kept (t':=s.toks) λb o e=>hx b o (Nat.ne_of_lt (Heap.lt_size e)) e;exact h pins _ σ H xs _ Q I1 (by simpa using rv) hw
def gSub(to ti:TE)(t:TSet):TG:=λv σ H Q=>to σ H λo H1=>ti σ H1 λi H2=>t o i v H2 λH3=>Q σ H3
theorem z5H{o i:Expr}{to ti:TE}{t:TSet}(ho:PE X o to)(hi:PE X i ti)(hs:PSet X t)
  (ha:∀v,assign (.Subscript o i pos) X.env v=(do
   let ov ←holding [v] (eval o X.env)
   let iv ←holding [v,ov] (eval i X.env)
   standAt pos
   holding [v,ov,iv] (setItem ov iv v)
   release [v,ov,iv] []):=by intro _;rfl):PG X (.Subscript o i pos) (gSub to ti t):=by
 intro pins s σ H v u Q I r h;rw[ha];refine wpAny_bind (wpAny_holding (thn (ho pins s σ H _ I h) λov s1 ⟨x,H1,I1,r1,q1⟩=>?_));refine wpAny_bind (wpAny_holding (thn (hi pins s1 σ H1 _ I1 q1) λiv s2 ⟨y,H2,I2,r2,q2⟩=>?_));refine wpAny_bind (wpAny_standAt (wpAny_bind (wpAny_holding (thn (hs pins s2 σ H2 x y v ov iv u _ I2 r1 r2 r q2) λ_ s3 ⟨H3,I3,q3⟩=>?_))));exact wpAny_release ⟨σ,H3,I3,q3⟩
def tAsg(te:TE)(g:TG):TS:=λD σ H=>te σ H λx H1=>g x σ H1 D.nx
theorem z5l{tg e:Expr}{te:TE}{g:TG}(he:PE X e te)(hg:PG X tg g)(hs:swapsWithSole [tg] e pos.line X.env=pure false:=by rfl)(hw:swappedStores [tg] e X.env=pure none:=by rfl)
  (h1:(assignEach [tg] X.env).map (·.2)=[assign tg X.env]:=by rfl):PS X (.Assign [tg] e pos) (tAsg te g):=by
 intro pins s σ H D I h;refine wpAny_Assign_stores (thn (he pins s σ H _ I h) λv s1 ⟨x,H1,I1,r1,q1⟩=>?_) hs hw;rw[h1];exact thn (hg pins s1 σ H1 x v _ I1 r1 q1) λ_ s2 q=>q
theorem q7v{i:Nat}{x:Str}{e:Expr}{te:TE}{pos':Pos}(hN:X.N.Nodup)(hi:X.N[i]? = some x)(hx:Loc X.env.scope x)(he:PE X e te)(hs:swapsWith e (some (.Name x pos')) pos.line X.env=pure false:=by rfl)(hf:X.fn x=true\/X.env.scope.names.lookup x=some .local:=by first | exact .inl rfl | exact .inr rfl | assumption) :
  PS X (.Assign [.Name x pos'] e pos) (tAsg te (q7Z i)):=by
 intro pins s σ H D I h;refine wpAny_Assign_Name (thn (he pins s σ H _ I h) λv s1 ⟨y,H1,I1,r1,q1⟩=>?_) hs;exact q5c I1 hN hi hx r1 (λs2 I2=>⟨_,H1,I2,q1⟩) hf
end
section
variable {X:Cx} {pos:Pos}
end
structure It where
 go:Nat->Hp->Prop
 yld:Nat->Hp->V->Hp->Prop
 stop:Nat->Hp->Prop
def FpOk(X:Cx)(pins:List (Addr×Obj))(H:Hp)(b:Addr):Prop:=
 H b=none/\b≠X.env.locals/\b∉X.fs/\(b∈X.ex\/X.s₀.heap.objs.size<=b)/\(∀x c,X.env.cells.lookup x=some c->c≠b)/\∀p∈X.pn++pins,p.1≠b
theorem Inv.fpOk{X:Cx}{pins:List (Addr×Obj)}{σ:St}{H H':Hp}{s:Shared}{b:Addr}(I:Inv X pins σ H s)(hb:s.heap.objs.size<=b)(hn:H' b=none):FpOk X pins H' b:=by
 refine⟨hn,Nat.ne_of_gt (Nat.lt_of_lt_of_le I.lt hb),I.nofs hb,.inr (Nat.le_trans I.sz hb),λx c e z=>?_,λp hp z=>?_⟩
 ·obtain⟨v,q⟩:=I.cell x c e;exact absurd (Nat.lt_of_lt_of_le q.lt (by rw[z];exact hb)) (Nat.lt_irrefl _)
 ·exact absurd (Nat.lt_of_lt_of_le (Heap.lt_size (I.pin p hp).1) (by rw[z];exact hb)) (Nat.lt_irrefl _)
structure Turn(P:Program)(w:World)(K:PySem.W.Frag)(tg:Expr)(J:It)(fp:List Addr)(it:Addr)(tn:Nat->Heap->Prop):Prop where
 mem:it∈fp
 obj:∀i h,tn i h->∀b∈fp,∃o,h.get? b=some o/\∀v,o.data ≠ .cell v
 keep:∀i h h',tn i h->(∀b∈fp,∀o,h.get? b=some o->h'.get? b=some o)->tn i h'
 item:∀(X:Cx),X.prog=P->X.w=w->X.K=K->X.calm=true->∀(i:Nat) (pins:List (Addr×Obj)) (s:Shared) (σ:St) (H:Hp) (E:Value->Shared->Prop),Inv X pins σ H s->(∀b∈fp,FpOk X pins H b)->tn i s.heap->J.go i H ->
  wpAny (model P w) X.A (pyNext (.ref it)) (λr s1=>∃u,r=some u /\
   wpAny (model P w) X.A (letOwnedTupleGo tg (.ref it) u) (λ_ s2=>∃x H',Inv X pins σ H' s2/\RelV x u/\J.yld i H x H'/\tn (i+1) s2.heap/\∀b∈fp,H' b=none) E s1) E s
 done:∀(X:Cx),X.prog=P->X.w=w->X.K=K->X.calm=true->∀(i:Nat) (pins:List (Addr×Obj)) (s:Shared) (σ:St) (H:Hp) (E:Value->Shared->Prop),Inv X pins σ H s->(∀b∈fp,FpOk X pins H b)->tn i s.heap->J.stop i H ->
  wpAny (model P w) X.A (pyNext (.ref it)) (λr s1=>r=none/\Inv X pins σ H s1) E s
 self:∀(A:Around) (i:Nat) (s:Shared) (Q:Value->Shared->Prop) (E:Value->Shared->Prop),tn i s.heap->Q (.ref it) s->wpAny (model P w) A (pyIter (.ref it)) Q E s
abbrev TI:=St->Hp->(It->Hp->Prop)->Prop
def PIE(X:Cx)(pins:List (Addr×Obj))(σ:St)(tg:Expr)(R:It->Hp->Prop)(itv:Value)(s2:Shared):Prop:=
 ∃(it:Addr) (fp:List Addr) (tn:Nat->Heap->Prop) (J:It) (H':Hp),itv=.ref it/\Inv X pins σ H' s2/\Turn X.prog X.w X.K tg J fp it tn/\tn 0 s2.heap/\(∀b∈fp,FpOk X pins H' b)/\R J H'
def PI(X:Cx)(tg iter:Expr)(wi:TI):Prop:=
 ∀(pins:List (Addr×Obj)) (s:Shared) (σ:St) (H:Hp) (R:It->Hp->Prop),Inv X pins σ H s->wi σ H R ->
  wpAny (model X.prog X.w) X.A (eval iter X.env) (λv s1=>wpAny (model X.prog X.w) X.A (pyIter v) (PIE X pins σ tg R) X.xe s1) X.xe s
theorem z1U{M:Model}{A:Around}{E:Value->Shared->Prop}{s:Shared}{tg:Expr}{it:Addr}{u:Value}{o:Obj}{n:String}{vs:Array Value}{Q:Unit->Shared->Prop}(ho:s.heap.get? it=some o)(hc:o.cls=.type n)(hd:o.data=.fields vs)
    (hn : ["enumerate","zip","dict_itemiterator","dict_reverseitemiterator","odict_iterator","itertools.zip_longest","itertools.pairwise"].contains n=false) (hQ:Q () s):wpAny M A (letOwnedTupleGo tg (.ref it) u) Q E s:=by
  unfold letOwnedTupleGo;cases tg<;>first
    | exact wpAny_pure hQ
    | (cases u<;>first
        | exact wpAny_pure hQ
        | (refine wpAny_bind (wpAny_load ho ?_)
           rw[hc,hd];show wpAny M A (if(["enumerate","zip","dict_itemiterator","dict_reverseitemiterator","odict_iterator","itertools.zip_longest","itertools.pairwise"].contains n&&vs[0]? == some (rawInt _))=true then _ else _) Q E s;rw[if_neg (by intro h;rw[hn,Bool.false_and]at h;cases h)];exact wpAny_pure hQ))
def Itl(K:PySem.W.Frag)(a:Addr):It:=
 ⟨λi H=>∃xs x,SqL K H a xs/\xs[i]? = some x,λi H x H'=>H'=H/\∀xs,SqL K H a xs->xs[i]? = some x,λi H=>∃xs,SqL K H a xs/\xs.length<=i⟩
def Itt(K:PySem.W.Frag)(a:Addr):It:=
 ⟨λi H=>∃xs x,SqT K H a xs/\xs[i]? = some x,λi H x H'=>H'=H/\∀xs,SqT K H a xs->xs[i]? = some x,λi H=>∃xs,SqT K H a xs/\xs.length<=i⟩
def Itr(lo:Int)(n:Nat):It:=⟨λi _=>i<n,λi H x H'=>H'=H/\x=.int (lo+i),λi _=>n<=i⟩
theorem q9c{P:Program}{w:World}{K:PySem.W.Frag}{tg:Expr}(a it:Addr):Turn P w K tg (Itl K a) [it] it (λi h=>h.IsListIter it a i) where
 mem:=by simp
 obj:=λi h st b hb=>by
  have e:b=it:=by simpa using hb
  subst e;obtain⟨o,e,c,d⟩:=st;exact⟨o,e,λv z=>by rw[d]at z;cases z⟩
 keep:=λi h h' st k=>st.at λo e=>k it (by simp) o e
 item:=by
  intro X hP hw hK hc i pins s σ H E I hf st hg;subst hP hw hK;obtain⟨xs,x,hq,hx⟩:=hg;obtain⟨its,rv,p,hz⟩:=I.list hq;obtain⟨u,hu,ru⟩:=rv.get hx;obtain⟨f0,f1,f2,f3,f4,f5⟩:=hf it (by simp);refine wpAny_pyNext_list_item st p.isList (x:=u) (by simpa using hu) λh' st' sb=>?_
  have I1:Inv X pins σ H {s with heap:=h'}:=I.turned (t':=s.toks) (λb o hb e=>(sb.2 b hb).trans e) f0 f1 f3 f4 f5;obtain⟨o,e,c,d⟩:=id st';exact⟨u,rfl,z1U (s:={s with heap:=h'}) e c d (by decide) ⟨x,H,I1,ru,⟨rfl,λys hy=>by rw[I.list_inj hy hq];exact hx⟩,st',λb hb=>(hf b hb).1⟩⟩
 done:=by
  intro X hP hw hK hc i pins s σ H E I hf st hg;subst hP hw hK;obtain⟨xs,hq,hx⟩:=hg;obtain⟨its,rv,p,hz⟩:=I.list hq;obtain⟨f0,f1,f2,f3,f4,f5⟩:=hf it (by simp);have hl:=rv.length;exact wpAny_pyNext_list_end (I.ok.hd hc) st p.isList (by simp;omega) λh' eb=>⟨rfl,I.turned (t':=s.toks) (λb o hb e=>eb b o hb e) f0 f1 f3 f4 f5⟩
 self:=λ_ _ _ _ _ st h=>wpAny_pyIter_listiter st h
theorem q7Y{P:Program}{w:World}{K:PySem.W.Frag}{tg:Expr}(a it:Addr):Turn P w K tg (Itt K a) [it] it (λi h=>h.IsTupleIter it a i) where
 mem:=by simp
 obj:=λi h st b hb=>by
  have e:b=it:=by simpa using hb
  subst e;obtain⟨o,e,c,d⟩:=st;exact⟨o,e,λv z=>by rw[d]at z;cases z⟩
 keep:=λi h h' st k=>st.at λo e=>k it (by simp) o e
 item:=by
  intro X hP hw hK hc i pins s σ H E I hf st hg;subst hP hw hK;obtain⟨xs,x,hq,hx⟩:=hg;obtain⟨its,rv,p,hz⟩:=I.tuple hq;obtain⟨u,hu,ru⟩:=rv.get hx;obtain⟨f0,f1,f2,f3,f4,f5⟩:=hf it (by simp);refine wpAny_pyNext_tuple_item st (show s.heap.IsTuple a its.toArray from p) (x:=u) (by simpa using hu) λh' st' sb=>?_
  have I1:Inv X pins σ H {s with heap:=h'}:=I.turned (t':=s.toks) (λb o hb e=>(sb.2 b hb).trans e) f0 f1 f3 f4 f5;obtain⟨o,e,c,d⟩:=id st';exact⟨u,rfl,z1U (s:={s with heap:=h'}) e c d (by decide) ⟨x,H,I1,ru,⟨rfl,λys hy=>by rw[I.tuple_inj hy hq];exact hx⟩,st',λb hb=>(hf b hb).1⟩⟩
 done:=by
  intro X hP hw hK hc i pins s σ H E I hf st hg;subst hP hw hK;obtain⟨xs,hq,hx⟩:=hg;obtain⟨its,rv,p,hz⟩:=I.tuple hq;obtain⟨f0,f1,f2,f3,f4,f5⟩:=hf it (by simp);have hl:=rv.length;exact wpAny_pyNext_tuple_end (I.ok.hd hc) st (show s.heap.IsTuple a its.toArray from p) (by simp;omega) λh' eb=>⟨rfl,I.turned (t':=s.toks) (λb o hb e=>eb b o hb e) f0 f1 f3 f4 f5⟩
 self:=λ_ _ _ _ _ st h=>wpAny_pyIter_tupleiter st h
theorem q8f{P:Program}{w:World}{K:PySem.W.Frag}{tg:Expr}(it:Addr)(lo:Int)(n:Nat):Turn P w K tg (Itr lo n) [it] it (λi h=>IsRangeIter h it (lo+(i:Nat)*1) ((n:Int) - (i:Nat)) 1) where
 mem:=by simp
 obj:=λi h st b hb=>by
  have e:b=it:=by simpa using hb
  subst e;exact⟨_,st,λv z=>by
   have z':Data.fields _=Data.cell v:=z;cases z'⟩
 keep:=λi h h' st k=>k it (by simp) _ st
 item:=by
  intro X hP hw hK hc i pins s σ H E I hf st hg;subst hP hw hK;obtain⟨f0,f1,f2,f3,f4,f5⟩:=hf it (by simp);have W:=Walks.range (prog:=X.prog) (w:=X.w) (I.ok.hd hc) it lo 1 n;refine W.item i s _ _ hg st λv h' tk hv st' kk=>?_
  obtain⟨t,rfl⟩:=hv;have I1:Inv X pins σ H {s with heap:=h',toks:=tk}:=I.turned (λb o hb e=>kk b o (by simpa using hb) e) f0 f1 f3 f4 f5;refine⟨_,rfl,z1U (s:={s with heap:=h',toks:=tk}) (n:="range_iterator") st' rfl rfl (by decide) ⟨.int (lo+i),H,I1,⟨t,?_⟩,⟨rfl,rfl⟩,st',λb hb=>(hf b hb).1⟩⟩;rw[Int.mul_one]
 done:=by
  intro X hP hw hK hc i pins s σ H E I hf st hg;subst hP hw hK;obtain⟨f0,f1,f2,f3,f4,f5⟩:=hf it (by simp);exact wpAny_pyNext_range_end (I.ok.hd hc) st (by have:n<=i:=hg;omega) λh' eb=>⟨rfl,I.turned (t':=s.toks) (λb o hb e=>eb b o hb e) f0 f1 f3 f4 f5⟩
 self:=λ_ _ _ _ _ st h=>wpAny_pyIter_rangeiter st h
end L2
namespace L2
open PySem PySem.Spec PyProof.Rows
section
variable {X:Cx} {tg:Expr}
def z8j(K:PySem.W.Frag)(tl:TE):TI:=λσ H R=>tl σ H λx H1=>∃a,x=.ref a/\(∃xs,SqL K H1 a xs)/\R (Itl K a) H1
def iTup(K:PySem.W.Frag)(tl:TE):TI:=λσ H R=>tl σ H λx H1=>∃a,x=.ref a/\(∃xs,SqT K H1 a xs)/\R (Itt K a) H1
theorem q6M{l:Expr}{tl:TE}(hl:PE X l tl):PI X tg l (z8j X.K tl):=by
 intro pins s σ H R I h;refine thn (hl pins s σ H _ I h) λv s1 ⟨x,H1,I1,r1,q1⟩=>?_
 obtain⟨a,e,⟨xs,hq⟩,q⟩:=q1;subst e;cases r1;obtain⟨its,rv,p,hz⟩:=I1.list hq;refine wpAny_pyIter_list p.isList ?_;refine⟨s1.heap.objs.size,[s1.heap.objs.size],_,_,H1,rfl,I1.kept (t':=s1.toks) λb o e=>Heap.get?_push_of_some _ e,q9c a _,⟨_,Heap.get?_push_size _ rfl,rfl,rfl⟩,λb hb=>?_,q⟩;have e:b=s1.heap.objs.size:=by simpa using hb
 subst e;exact I1.fpOk (Nat.le_refl _) (I1.hok.fresh (Nat.le_refl _))
theorem z6p{l:Expr}{tl:TE}(hl:PE X l tl):PI X tg l (iTup X.K tl):=by
 intro pins s σ H R I h;refine thn (hl pins s σ H _ I h) λv s1 ⟨x,H1,I1,r1,q1⟩=>?_
 obtain⟨a,e,⟨xs,hq⟩,q⟩:=q1;subst e;cases r1;obtain⟨its,rv,p,hz⟩:=I1.tuple hq;refine wpAny_pyIter_tuple (show s1.heap.IsTuple a its.toArray from p) ?_;refine⟨s1.heap.objs.size,[s1.heap.objs.size],_,_,H1,rfl,I1.kept (t':=s1.toks) λb o e=>Heap.get?_push_of_some _ e,q7Y a _,⟨_,Heap.get?_push_size _ rfl,rfl,rfl⟩,λb hb=>?_,q⟩;have e:b=s1.heap.objs.size:=by simpa using hb
 subst e;exact I1.fpOk (Nat.le_refl _) (I1.hok.fresh (Nat.le_refl _))
theorem q7d{pins:List (Addr×Obj)}{σ:St}{H:Hp}{s:Shared}{R:It->Hp->Prop}{E:Value->Shared->Prop}{lo hi:Int}{t u v:Tok}{tk:Nat}(I:Inv X pins σ H s)(h1 : -(2^62)<=lo)(h2:lo<2^62)(h3 : -(2^62)<=hi)(h4:hi<2^62)
  (q:R (Itr lo (hi - lo).toNat) H):wpAny (model X.prog X.w) X.A (pyIter (.ref s.heap.objs.size)) (PIE X pins σ tg R) E {s with heap:=s.heap.push {cls:=.type "range",data:=.fields #[.int lo t,.int hi u,.int 1 v]},toks:=tk}:=by
 refine wpAny_pyIter_range (IsRange.new ..) (small_one h1 h2 h3 h4) ?_;have I1:Inv X pins σ H {s with heap:=s.heap.push {cls:=.type "range",data:=.fields #[.int lo t,.int hi u,.int 1 v]},toks:=tk}:=I.kept λb o e=>Heap.get?_push_of_some _ e;refine⟨(s.heap.push {cls:=.type "range",data:=.fields #[.int lo t,.int hi u,.int 1 v]}).objs.size,[(s.heap.push {cls:=.type "range",data:=.fields #[.int lo t,.int hi u,.int 1 v]}).objs.size],_,_,H,rfl,
  I1.kept (t':=tk) λb o e=>Heap.get?_push_of_some _ e,q8f _ lo (hi - lo).toNat,?_,λb hb=>?_,q⟩
 ·have e1:lo+((0:Nat):Int)*1=lo:=by simp
  have e2:(((hi - lo).toNat:Nat):Int) - ((0:Nat):Int)=Builtin.Range.rangeSize lo hi 1:=by rw[rangeSize_one];split<;>omega
  show IsRangeIter _ _ (lo+((0:Nat):Int)*1) ((((hi - lo).toNat:Nat):Int) - ((0:Nat):Int)) 1;rw[e1,e2];exact Heap.get?_push_size _ rfl
 ·have e:b=(s.heap.push {cls:=.type "range",data:=.fields #[.int lo t,.int hi u,.int 1 v]}).objs.size:=by simpa using hb
  subst e;exact I1.fpOk (Nat.le_refl _) (I1.hok.fresh (Nat.le_refl _))
def z8S(ta:TA):TI:=λσ H R=>ta σ H λvs H1=>∃j:Int,vs=[.int j] /\ -(2^62)<=j/\j<2^62/\R (Itr 0 j.toNat) H1
def z7N(ta:TA):TI:=λσ H R=>ta σ H λvs H1=>∃i j:Int,vs=[.int i,.int j]/\(-(2^62)<=i/\i<2^62 /\ -(2^62)<=j/\j<2^62)/\R (Itr i (j - i).toNat) H1
theorem q9s{a:Expr}{ta:TA}{p pos:Pos}(hg:Gl X "range")(hm:X.mg "range" = none)(ha:PA X [a] ta)(hs:starEach [a] X.env=[(false,eval a X.env)]:=by rfl):PI X tg (.Call (.Name "range" p) [a] [] pos) (z8S ta):=by
 intro pins s σ H R I h;refine Call_ (q3D I hg hm boot_range (PyProof.Rows.callWith_type1 (thn (ha pos pins s σ H _ I h) λus s1 ⟨vs,H1,I1,r1,q1⟩=>?_) hs rfl));obtain⟨j,e,q1,q2,q⟩:=q1;subst e;cases r1 with
 | cons r rr=>
  cases rr;obtain⟨t,rfl⟩:=r;exact call_range_1 (q7d I1 (by omega) (by omega) q1 q2 (by simpa using q))
theorem q8T{a b:Expr}{ta:TA}{p pos:Pos}(hg:Gl X "range")(hm:X.mg "range" = none)(ha:PA X [a,b] ta)(hs:starEach [a,b] X.env=[(false,eval a X.env),(false,eval b X.env)]:=by rfl)(hs2:starEach [b] X.env=[(false,eval b X.env)]:=by rfl) :
  PI X tg (.Call (.Name "range" p) [a,b] [] pos) (z7N ta):=by
 intro pins s σ H R I h;refine Call_ (q3D I hg hm boot_range (PyProof.Rows.callWith_type1 (thn (ha pos pins s σ H _ I h) λus s1 ⟨vs,H1,I1,r1,q1⟩=>?_) (by rw[hs,hs2]) (by rw[hs2];rfl)));obtain⟨i,j,e,⟨q1,q2,q3,q4⟩,q⟩:=q1;subst e;cases r1 with
 | cons r rr=>
  cases rr with
  | cons r' rr=>
   cases rr;obtain⟨t,rfl⟩:=r;obtain⟨t',rfl⟩:=r';exact call_range_2 (q7d I1 q1 q2 q3 q4 q)
def tFor(wi:TI)(g:TG)(tb:TS):TS:=λD σ H=>wi σ H λJ H1=>∃W:Nat->Nat->St->Hp->Prop,(∃m,W 0 m σ H1)/\∀i m σ H,W i m σ H ->
 (J.stop i H/\D.nx σ H)\/(J.go i H/\∃N:St->Hp->Prop,(∀σ' H',N σ' H'->∃m',m'<m/\W (i+1) m' σ' H')/\∀x H',J.yld i H x H'->g x σ H' λσ2 H2=>tb {D with nx:=N,ct:=N,bk:=D.nx} σ2 H2)
def q5G(fp:List Addr)(h:Heap):List (Addr×Obj):=fp.filterMap λb=>(h.get? b).map λo=>(b,o)
theorem q2K{fp:List Addr}{h:Heap}{b:Addr}{o:Obj}(hb:b∈fp)(e:h.get? b=some o):(b,o)∈q5G fp h:=List.mem_filterMap.mpr ⟨b,hb,by rw[e];rfl⟩
theorem q9J{fp:List Addr}{h:Heap}{p:Addr×Obj}(hp:p∈q5G fp h):p.1∈fp/\h.get? p.1=some p.2:=by
 obtain⟨b,hb,e⟩:=List.mem_filterMap.mp hp;cases q:h.get? b with
 | none=>rw[q]at e;cases e
 | some o=>
  rw[q]at e;have e':(b,o)=p:=Option.some.inj e;subst e';exact⟨hb,q⟩
theorem Inv.pinned{pins:List (Addr×Obj)}{σ:St}{H:Hp}{s:Shared}{fp:List Addr}(I:Inv X pins σ H s)(hf:∀b∈fp,FpOk X pins H b)(ho:∀b∈fp,∃o,s.heap.get? b=some o/\∀v,o.data ≠ .cell v):Inv X (pins++q5G fp s.heap) σ H s:=
 I.pins_of λp hp=>(List.mem_append.mp hp).elim (λz=>I.pin p (List.mem_append_right _ z)) λz=>by obtain⟨hb,e⟩:=q9J z;obtain⟨f0,f1,f2,_⟩:=hf p.1 hb;obtain⟨o,e',d⟩:=ho p.1 hb;rw[e]at e';cases e';exact⟨e,f0,f1,f2,d⟩
theorem Inv.unpinned{pins pl:List (Addr×Obj)}{σ:St}{H:Hp}{s:Shared}(I:Inv X (pins++pl) σ H s):Inv X pins σ H s:=I.pins_of λp hp=>I.pin p (List.mem_append_right _ (List.mem_append_left _ hp))
theorem z2A{iter:Expr}{body:List Stmt}{wi:TI}{g:TG}{tb:TS}{pos:Pos}(hp:PassesOwn (model X.prog X.w) X.A X.env X.xe)(hc:X.calm=true)(hi:PI X tg iter wi)(hg:PG X tg g)(hb:PSs X body tb)
  (hs:∀x,foldedSetIterable iter X.env x=pure x:=by intro _;rfl):PS X (.For tg iter body [] pos) (tFor wi g tb):=by
 intro pins s σ H D I h;refine wpAny_For (thn (hi pins s σ H _ I h) λv s1 h1=>thn h1 λitv s2 h2=>?_) hs;obtain⟨it,fp,tn,J,H2,e,I2,T,st2,f2,W,⟨m0,w0⟩,turn⟩:=h2;subst e;have stat:∀{H':Hp},(∀b∈fp,H' b=none)->∀b∈fp,FpOk X pins H' b:=λhn b hb=>⟨hn b hb,(f2 b hb).2⟩
 refine codeAny_forLoop_any (λn s'=>∃i σ' H',Inv X pins σ' H' s'/\tn i s'.heap/\(∀b∈fp,H' b=none)/\W i n σ' H') ?_ m0 ⟨0,σ,H2,I2,st2,λb hb=>(f2 b hb).1,w0⟩
 rintro n s3 ⟨i,σ3,H3,I3,st3,fr3,w3⟩
 rcases turn i n σ3 H3 w3 with⟨stop,qn⟩ | ⟨go,N,hN,step⟩
 ·refine wpAny_passesOwn hp (thn (T.done X rfl rfl rfl hc i pins s3 σ3 H3 X.xe I3 (stat fr3) st3 stop) λr s4 ⟨hr,I4⟩=>?_);subst hr;exact wpAny_execs_nil ⟨σ3,H3,I4,qn⟩
 ·refine wpAny_passesOwn hp (thn (T.item X rfl rfl rfl hc i pins s3 σ3 H3 X.xe I3 (stat fr3) st3 go) λr s4 ⟨u,hr,h4⟩=>?_);subst hr;refine wpAny_passesOwn hp (thn h4 λ_ s5 ⟨x,H5,I5,r5,y5,st5,fr5⟩=>?_);have I5':=I5.pinned (stat fr5) (T.obj _ _ st5);refine wpAny_passesOwn hp (thn (hg _ s5 σ3 H5 x u _ I5' r5 (step x H5 y5)) λ_ s6 ⟨σ6,H6,I6,q6⟩=>?_);refine wpAny_passesOwn hp (thn (hb _ s6 σ6 H6 _ I6 q6) λf s7 q7=>?_);have again:∀{σ7:St} {H7:Hp},Inv X (pins++q5G fp s5.heap) σ7 H7 s7->N σ7 H7->∃m,m<n/\∃i σ' H',Inv X pins σ' H' s7/\tn i s7.heap/\(∀b∈fp,H' b=none)/\W i m σ' H':=λ{σ7 H7} I7 n7=>by
   obtain⟨m',hm,w7⟩:=hN σ7 H7 n7;refine⟨m',hm,i+1,σ7,H7,I7.unpinned,T.keep _ _ _ st5 λb hb o e=>(I7.pin (b,o) (List.mem_append_right _ (List.mem_append_right _ (q2K hb e)))).1,λb hb=>?_,w7⟩;obtain⟨o,e,d⟩:=T.obj _ _ st5 b hb;exact(I7.pin (b,o) (List.mem_append_right _ (List.mem_append_right _ (q2K hb e)))).2.1
  cases f with
  | next=>obtain⟨σ7,H7,I7,n7⟩:=q7;exact again I7 n7
  | cont=>obtain⟨σ7,H7,I7,n7⟩:=q7;exact again I7 n7
  | brk=>obtain⟨σ7,H7,I7,q7⟩:=q7;exact⟨σ7,H7,I7.unpinned,q7⟩
  | ret v=>obtain⟨x7,σ7,H7,I7,r7,q7⟩:=q7;exact⟨x7,σ7,H7,I7.unpinned,r7,q7⟩
end
end L2
namespace L2
open PySem PySem.Spec PyProof.Rows
abbrev R2:=V->V->Hp->VK->Prop
def OpR(X:Cx)(f:Value->Value->Sem Value)(r:R2):Prop:=
 ∀(pins:List (Addr×Obj)) (s:Shared) (σ:St) (H:Hp) (x y:V) (v u:Value) (Q:VK),Inv X pins σ H s->RelV x v->RelV y u->r x y H Q ->
  wpAny (model X.prog X.w) X.A (f v u) (EP X pins σ Q) X.xe s
def UnR(X:Cx)(f:Value->Sem Value)(r:V->Hp->VK->Prop):Prop:=
 ∀(pins:List (Addr×Obj)) (s:Shared) (σ:St) (H:Hp) (x:V) (v:Value) (Q:VK),Inv X pins σ H s->RelV x v->r x H Q ->
  wpAny (model X.prog X.w) X.A (f v) (EP X pins σ Q) X.xe s
def q1q(X:Cx)(f:Value)(r:List V->Hp->VK->Prop):Prop:=
 ∀(pins:List (Addr×Obj)) (s:Shared) (σ:St) (H:Hp) (xs:List V) (us:List Value) (Q:VK),Inv X pins σ H s->Vals xs us->r xs H Q ->
  wpAny (model X.prog X.w) X.A (call f us) (EP X pins σ Q) X.xe s
def TruR(X:Cx)(r:V->Hp->(Bool->Hp->Prop)->Prop):Prop:=
 ∀(pins:List (Addr×Obj)) (s:Shared) (σ:St) (H:Hp) (x:V) (v:Value) (Q:Bool->Hp->Prop),Inv X pins σ H s->RelV x v->r x H Q ->
  wpAny (model X.prog X.w) X.A (truthy v) (TP X pins σ Q) X.xe s
def tOp(r:R2)(ta tb:TE):TE:=λσ H Q=>ta σ H λx H1=>tb σ H1 λy H2=>r x y H2 Q
def tUn(r:V->Hp->VK->Prop)(ta:TE):TE:=λσ H Q=>ta σ H λx H1=>r x H1 Q
def rI(C:Int->Int->Prop)(g:Int->Int->V):R2:=λx y H Q=>∃i j,x=.int i/\y=.int j/\C i j/\Q (g i j) H
def rI0(g:Int->Int->V):R2:=λx y H Q=>∃i j,x=.int i/\y=.int j/\Q (g i j) H
def rU(g:Int->V):V->Hp->VK->Prop:=λx H Q=>∃i,x=.int i/\Q (g i) H
section
variable {X:Cx} {a b c:Expr} {ta tb tc:TE} {pos:Pos}
theorem binT(ha:PE X a ta)(hb:PE X b tb){pins:List (Addr×Obj)}{s:Shared}{σ:St}{H:Hp}{R:V->V->Hp->Prop}(I:Inv X pins σ H s)
  (h:ta σ H λx H1=>tb σ H1 λy H2=>R x y H2) {Q:Value->Shared->Prop} {f:Value->Value->Sem Value}
  (hf:∀v u s2 x y H2,Inv X pins σ H2 s2->RelV x v->RelV y u->R x y H2->wpAny (model X.prog X.w) X.A (f v u) Q X.xe s2) :
  wpAny (model X.prog X.w) X.A (eval a X.env) (λv s₁=>wpAny (model X.prog X.w) X.A (eval b X.env) (λu s₂=>wpAny (model X.prog X.w) X.A (f v u) Q X.xe s₂) X.xe s₁) X.xe s:=by
 refine thn (ha pins s σ H _ I h) λv s1 ⟨x,H1,I1,r1,q1⟩=>?_;refine thn (hb pins s1 σ H1 _ I1 q1) λu s2 ⟨y,H2,I2,r2,q2⟩=>?_;exact hf v u s2 x y H2 I2 r1 r2 q2
theorem z8t{op:Operator}{r:R2}(ho:OpR X (binaryOp op) r)(ha:PE X a ta)(hb:PE X b tb):PE X (.BinOp a op b pos) (tOp r ta tb):=by
 intro pins s σ H Q I h;exact wpAny_BinOp (binT ha hb I h λv u s2 x y H2 I2 rx ry q=>ho pins s2 σ H2 x y v u Q I2 rx ry q)
theorem z8z{op:UnaryOp}{r:V->Hp->VK->Prop}(ho:UnR X (unaryOp op) r)(ha:PE X a ta):PE X (.UnaryOp op a pos) (tUn r ta):=by
 intro pins s σ H Q I h;exact UnaryOp_ (thn (ha pins s σ H _ I h) λv s1 ⟨x,H1,I1,r1,q1⟩=>ho pins s1 σ H1 x v Q I1 r1 q1)
theorem opI{f:Value->Value->Sem Value}{C:Int->Int->Prop}{g:Int->Int->Int}
  (rule:∀(i j:Int) (t u:Tok) (s:Shared) (Q:Value->Shared->Prop) (E:Value->Shared->Prop),C i j->Q (.int (g i j) s.toks) {s with toks:=s.toks+1} -> wpAny (model X.prog X.w) X.A (f (.int i t) (.int j u)) Q E s) :
  OpR X f (rI C λi j=>.int (g i j)):=by
 intro pins s σ H x y v u Q I rx ry h;obtain⟨i,j,rfl,rfl,hc,q⟩:=h;obtain⟨t,rfl⟩:=rx;obtain⟨t',rfl⟩:=ry;exact rule i j t t' s _ _ hc ⟨.int (g i j),H,I.tok _,⟨_,rfl⟩,q⟩
theorem opI0{f:Value->Value->Sem Value}{g:Int->Int->Int}
  (rule:∀(i j:Int) (t u:Tok) (s:Shared) (Q:Value->Shared->Prop) (E:Value->Shared->Prop),Q (.int (g i j) s.toks) {s with toks:=s.toks+1} -> wpAny (model X.prog X.w) X.A (f (.int i t) (.int j u)) Q E s) :
  OpR X f (rI0 λi j=>.int (g i j)):=by
 intro pins s σ H x y v u Q I rx ry h;obtain⟨i,j,rfl,rfl,q⟩:=h;obtain⟨t,rfl⟩:=rx;obtain⟨t',rfl⟩:=ry;exact rule i j t t' s _ _ ⟨.int (g i j),H,I.tok _,⟨_,rfl⟩,q⟩
theorem opB0{f:Value->Value->Sem Value}{g:Int->Int->Bool}
  (rule:∀(i j:Int) (t u:Tok) (s:Shared) (Q:Value->Shared->Prop) (E:Value->Shared->Prop),Q (.bool (g i j)) s->wpAny (model X.prog X.w) X.A (f (.int i t) (.int j u)) Q E s) :
  OpR X f (rI0 λi j=>.bl (g i j)):=by
 intro pins s σ H x y v u Q I rx ry h;obtain⟨i,j,rfl,rfl,q⟩:=h;obtain⟨t,rfl⟩:=rx;obtain⟨t',rfl⟩:=ry;exact rule i j t t' s _ _ ⟨.bl (g i j),H,I,rfl,q⟩
def CPow(i j:Int):Prop:=0<=j/\j<=1000000/\i.natAbs<2^64
def CMul(i j:Int):Prop:=(-(2^64)<i/\i<2^64)\/(-(2^64)<j/\j<2^64)
theorem CMul.ok{i j:Int}(h:CMul i j):IntMulOk i j:=by
 rcases h with⟨h1,h2⟩ | ⟨h1,h2⟩
 ·exact .of_left (intBits_le_64 h1 h2)
 ·exact .of_right (intBits_le_64 h1 h2)
theorem q8x(k:Nat):(0:Int)<=2^k:=by
 rw[two_pow_cast];exact Int.natCast_nonneg _
theorem z5G:OpR X (binaryOp .Add) (rI0 λi j=>.int (i+j)):=opI0 λ_ _ _ _ _ _ _ q=>add_int q
theorem z6T:OpR X (binaryOp .Sub) (rI0 λi j=>.int (i - j)):=opI0 λ_ _ _ _ _ _ _ q=>sub_int q
theorem z6C:OpR X (binaryOp .Mod) (rI (λ_ j=>0<j) λi j=>.int (i%j)):=opI λi j _ _ _ _ _ hc q=>by
 have h1:(0:Int)<j:=hc;exact mod_int' (by omega) (by rw[Int.fmod_eq_emod_of_nonneg i (by omega)];exact q)
theorem z6o:OpR X (binaryOp .LShift) (rI CPow λi j=>.int (i*2^j.toNat)):=opI λ_ _ _ _ _ _ _ hc q=>lshift_int_small hc.1 hc.2.1 hc.2.2 q
theorem z6E:OpR X (binaryOp .RShift) (rI (λ_ j=>0<=j) λi j=>.int (i/2^j.toNat)):=opI λi j _ _ _ _ _ hc q=>
 rshift_int hc (by rw[Int.fdiv_eq_ediv_of_nonneg i (q8x _)];exact q)
theorem z6Z:OpR X (binaryOp .BitAnd) (rI0 λi j=>.int (Builtin.bitAnd i j)):=opI0 λ_ _ _ _ _ _ _ q=>and_int q
theorem z8U:OpR X (binaryOp .BitOr) (rI0 λi j=>.int (Builtin.bitOr i j)):=opI0 λ_ _ _ _ _ _ _ q=>or_int q
theorem z5o:OpR X (binaryOp .BitXor) (rI0 λi j=>.int (Builtin.bitXor i j)):=opI0 λ_ _ _ _ _ _ _ q=>xor_int q
theorem unI{f:Value->Sem Value}{g:Int->Int}
  (rule:∀(i:Int) (t:Tok) (s:Shared) (Q:Value->Shared->Prop) (E:Value->Shared->Prop),Q (.int (g i) s.toks) {s with toks:=s.toks+1} -> wpAny (model X.prog X.w) X.A (f (.int i t)) Q E s) :
  UnR X f (rU λi=>.int (g i)):=by
 intro pins s σ H x v Q I rx h;obtain⟨i,rfl,q⟩:=h;obtain⟨t,rfl⟩:=rx;exact rule i t s _ _ ⟨.int (g i),H,I.tok _,⟨_,rfl⟩,q⟩
theorem z5S:UnR X (unaryOp .USub) (rU λi=>.int (-i)):=unI λ_ _ _ _ _ q=>neg_int q
end
section
variable {X:Cx} {a b c:Expr} {ta tb tc:TE} {pos:Pos}
theorem z6O{pins:List (Addr×Obj)}{σ:St}{H:Hp}{s:Shared}{Q:VK}{k k':Bool}(I:Inv X pins σ H s)(q:Q (.bl k) H)(e:k=k'):EP X pins σ Q (.bool k') s:=by
 subst e;exact⟨.bl k,H,I,rfl,q⟩
theorem z8f:OpR X (compareOp .Lt) (rI0 λi j=>.bl (decide (i<j))):=opB0 λ_ _ _ _ _ _ _ q=>lt_int q
theorem z8Y:OpR X (compareOp .LtE) (rI0 λi j=>.bl (decide (i<=j))):=opB0 λ_ _ _ _ _ _ _ q=>le_int q
theorem z8C:OpR X (compareOp .Gt) (rI0 λi j=>.bl (decide (j<i))):=opB0 λ_ _ _ _ _ _ _ q=>gt_int q
theorem z8w:OpR X (compareOp .GtE) (rI0 λi j=>.bl (decide (j<=i))):=opB0 λ_ _ _ _ _ _ _ q=>ge_int q
theorem z7i:OpR X (compareOp .Is) (λx y H Q=>y=.non/\Q (.bl (decide (x=.non))) H):=by
 intro pins s σ H x y v u Q I rx ry h;obtain⟨rfl,q⟩:=h;cases ry;refine is_none_gen (z6O I q ?_);cases x<;>first
  | (cases rx;rfl)
  | (obtain⟨t,rfl⟩:=rx;rfl)
theorem OpR.or{f:Value->Value->Sem Value}{r r':R2}(h:OpR X f r)(h':OpR X f r'):OpR X f (λx y H Q=>r x y H Q\/r' x y H Q):=by
 intro pins s σ H x y v u Q I rx ry q;rcases q with q | q
 ·exact h pins s σ H x y v u Q I rx ry q
 ·exact h' pins s σ H x y v u Q I rx ry q
theorem z9b(b:Expr){op:CmpOp}(h:op ≠ .In:=by decide)(h2:op ≠ .NotIn:=by decide):behindInMarks op b=false:=by
 have e1:(op==CmpOp.In)=false:=by cases op<;>first | rfl | exact absurd rfl h
 have e2:(op==CmpOp.NotIn)=false:=by cases op<;>first | rfl | exact absurd rfl h2
 cases b<;>simp[behindInMarks,e1,e2]
theorem z3Z{op:CmpOp}{r:R2}(ho:OpR X (compareOp op) r)(ha:PE X a ta)(hb:PE X b tb)(hm:behindInMarks op b=false):PE X (.Compare a [op] [b] pos) (tOp r ta tb):=by
 intro pins s σ H Q I h;exact wpAny_Compare1 (binT ha hb I h λv u s2 x y H2 I2 rx ry q=>ho pins s2 σ H2 x y v u Q I2 rx ry q) hm
def z5I(t:TE):TT:=λσ H Q=>t σ H λx H'=>∃k,x=.bl k/\Q k H'
theorem z4b{op:CmpOp}{r:R2}(ho:OpR X (compareOp op) r)(ha:PE X a ta)(hb:PE X b tb)(hm:behindInMarks op b=false):PT X (.Compare a [op] [b] pos) (z5I (tOp r ta tb)):=by
 intro pins s σ H Q I h;refine wpAny_isTrue_Compare1 (thn (ha pins s σ H _ I h) λv s1 ⟨x,H1,I1,r1,q1⟩=>thn (hb pins s1 σ H1 _ I1 q1) λu s2 ⟨y,H2,I2,r2,q2⟩=>
  thn (ho pins s2 σ H2 x y v u _ I2 r1 r2 q2) λc s3 ⟨z,H3,I3,r3,k,e,q3⟩=>?_) hm
 subst e;cases r3;exact wpAny_truthy_bool ⟨H3,I3,q3⟩
def z0k(r r':R2)(ta tb tc:TE):TE:=λσ H Q=>ta σ H λx H1=>tb σ H1 λy H2=>r x y H2 λz H3=>∃k,z=.bl k /\
 (if k=true then tc σ H3 λw' H4=>r' y w' H4 Q else Q (.bl false) H3)
theorem z0N{op op':CmpOp}{r r':R2}(ho:OpR X (compareOp op) r)(ho':OpR X (compareOp op') r')(ha:PE X a ta)(hb:PE X b tb)(hc:PE X c tc)
  (hm:lastMarks [op,op'] [b,c]=false:=by with_unfolding_all rfl):PE X (.Compare a [op,op'] [b,c] pos) (z0k r r' ta tb tc):=by
 intro pins s σ H Q I h;refine Compare_chain (thn (ha pins s σ H _ I h) λv s1 ⟨x,H1,I1,r1,q1⟩=>chain_link (thn (hb pins s1 σ H1 _ I1 q1) λu s2 ⟨y,H2,I2,r2,q2⟩=>
  thn (ho pins s2 σ H2 x y v u _ I2 r1 r2 q2) λd s3 ⟨z,H3,I3,r3,k,e,q3⟩=>?_)) hm
 subst e;cases r3;refine wpAny_truthy_bool ?_;cases k with
 | false=>exact ite_ff ⟨.bl false,H3,I3,rfl,q3⟩
 | true=>exact ite_tt (chain_last (thn (hc pins s3 σ H3 _ I3 q3) λw' s4 ⟨z',H4,I4,r4,q4⟩=>ho' pins s4 σ H4 y z' u w' Q I4 r2 r4 q4))
theorem z1H{op op':CmpOp}{r r':R2}(ho:OpR X (compareOp op) r)(ho':OpR X (compareOp op') r')(ha:PE X a ta)(hb:PE X b tb)(hc:PE X c tc)
  (hm:lastMarks [op,op'] [b,c]=false:=by with_unfolding_all rfl):PT X (.Compare a [op,op'] [b,c] pos) (z5I (z0k r r' ta tb tc)):=by
 intro pins s σ H Q I h;refine isTrue_chain (thn (ha pins s σ H _ I h) λv s1 ⟨x,H1,I1,r1,q1⟩=>test_link (thn (hb pins s1 σ H1 _ I1 q1) λu s2 ⟨y,H2,I2,r2,q2⟩=>
  thn (ho pins s2 σ H2 x y v u _ I2 r1 r2 q2) λd s3 ⟨z,H3,I3,r3,k,e,q3⟩=>?_)) hm
 subst e;cases r3;refine wpAny_truthy_bool ?_;cases k with
 | false=>
  obtain⟨k',e',q'⟩:=q3;cases e';exact ite_ff ⟨H3,I3,q'⟩
 | true=>
  refine ite_tt (test_last (thn (hc pins s3 σ H3 _ I3 q3) λw' s4 ⟨z',H4,I4,r4,q4⟩=>thn (ho' pins s4 σ H4 y z' u w' _ I4 r2 r4 q4) λd' s5 ⟨z2,H5,I5,r5,k2,e2,q5⟩=>?_));subst e2;cases r5;exact wpAny_truthy_bool ⟨H5,I5,q5⟩
def TruV(K:PySem.W.Frag)(x:V)(H:Hp)(k:Bool):Prop:=
 match x with
 | .non=>k=false
 | .bl b=>k=b
 | .int i=>k=(i != 0)
 | .str y=>y.length<=sizeLine/\k=((y.length:Int) != 0)
 | .byt y=>y.size<=sizeLine/\k=((y.size:Int) != 0)
 | .ref p=>(∃xs,SqL K H p xs/\k = !xs.isEmpty)\/(∃xs,SqT K H p xs/\k = !xs.isEmpty)\/∃kvs,H p=some (.dK kvs)/\k = !kvs.isEmpty
 | _=>False
theorem q8u{κ:Type}{kvs:List (κ×V)}{vs:List (κ×Value)}(r:KV kvs vs):(!vs.isEmpty) = !kvs.isEmpty:=by
 cases r<;>rfl
theorem q4D{xs:List V}{its:List Value}(r:Vals xs its):(!its.toArray.isEmpty) = !xs.isEmpty:=by
 cases r<;>simp
theorem q4p:(sizeLine:Nat)<2^63:=by rw[sizeLine_eq];decide
theorem q7f:TruR X (λx H Q=>∃k,TruV X.K x H k/\Q k H):=by
 intro pins s σ H x v Q I rx h;obtain⟨k,e,q⟩:=h;have hl:=q4p;have hs:sizeLine=16777216:=sizeLine_eq;cases x with
 | non=>
  cases rx;have e':k=false:=e;subst e';exact truthy_none ⟨H,I,q⟩
 | bl b=>
  cases rx;have e':k=b:=e;subst e';exact wpAny_truthy_bool ⟨H,I,q⟩
 | int i=>
  obtain⟨t,rfl⟩:=rx;have e':k=(i != 0):=e;subst e';exact PySem.P.truthy_int ⟨H,I,q⟩
 | str y=>
  obtain⟨t,rfl⟩:=rx;obtain⟨hy,e'⟩:y.length<=sizeLine/\k=((y.length:Int) != 0):=e;subst e';exact PySem.P.truthy_str (by omega) ⟨H,I.tok _,q⟩
 | byt y=>
  obtain⟨t,rfl⟩:=rx;obtain⟨hy,e'⟩:y.size<=sizeLine/\k=((y.size:Int) != 0):=e;subst e';exact PySem.W.truthy_bytes (by omega) ⟨H,I.tok _,q⟩
 | ref p=>
  cases rx;have e':(∃xs,SqL X.K H p xs/\k = !xs.isEmpty)\/(∃xs,SqT X.K H p xs/\k = !xs.isEmpty)\/∃kvs,H p=some (.dK kvs)/\k = !kvs.isEmpty:=e;rcases e' with⟨xs,hx,e'⟩ | ⟨xs,hx,e'⟩ | ⟨kvs,hx,e'⟩
  ·subst e';obtain⟨its,r,pl,hz⟩:=I.list hx;have hlen:=r.length;exact wpAny_truthy_list pl.isList (by simp only[List.size_toArray];omega) ⟨H,I.tok _,by rw[q4D r];exact q⟩
  ·subst e';obtain⟨its,r,pl,hz⟩:=I.tuple hx;have hlen:=r.length;exact truthy_tuple pl (by simp only[List.size_toArray];omega) ⟨H,I.tok _,by rw[q4D r];exact q⟩
  ·subst e';obtain⟨hz,hS,vs,r,m⟩:kvs.length<=sizeLine/\(p==sysModules)=false/\∃vs,KV kvs vs/\s.heap.DictOf (q6O X.prog X.w) p vs:=I.hok p _ hx;have hlen:kvs.length=vs.length:=Paired.length r;exact wpAny_truthy_dict hS m (by omega) ⟨H,I.tok _,by rw[q8u r];exact q⟩
 | _=>exact(show False from e).elim
theorem q7x(ha:PE X a ta)(he:∀whole,isTrue a X.env whole=(do let v ←whole;standAt a.pos;holding [v] (truthy v))) :
  PT X a (λσ H Q=>ta σ H λx H'=>∃k,TruV X.K x H' k/\Q k H'):=by
 intro pins s σ H Q I h;exact isTrue_plain (thn (ha pins s σ H _ I h) λv s1 ⟨x,H1,I1,r1,q1⟩=>q7f pins s1 σ H1 x v Q I1 r1 q1) (he _)
theorem q4X{x:V}{us:List Value}(r:Vals [x] us):∃u,us=[u]/\RelV x u:=by
 cases r with
 | cons r1 r2=>cases r2;exact⟨_,rfl,r1⟩
theorem z1B{x y:V}{us:List Value}(r:Vals [x,y] us):∃u w',us=[u,w']/\RelV x u/\RelV y w':=by
 cases r with
 | cons r1 r2=>
  cases r2 with
  | cons r3 r4=>cases r4;exact⟨_,_,rfl,r1,r3⟩
theorem q9l(hc:X.calm=true):q1q X (.builtin "max") (λxs H Q=>∃i j,xs=[.int i,.int j]/\Q (.int (if j>i then j else i)) H):=by
 intro pins s σ H xs us Q I r h;obtain⟨i,j,rfl,q⟩:=h;obtain⟨u,w',rfl,⟨t,rfl⟩,⟨t',rfl⟩⟩:=z1B r;refine max_two_ints (I.ok.hd hc) λh' tk k=>⟨_,H,I.kept k,?_,q⟩
 by_cases hj:j>i
 ·rw[if_pos hj,if_pos hj];exact⟨_,rfl⟩
 ·rw[if_neg hj,if_neg hj];exact⟨_,rfl⟩
theorem q9V(hc:X.calm=true):q1q X (.builtin "min") (λxs H Q=>∃i j,xs=[.int i,.int j]/\Q (.int (if j<i then j else i)) H):=by
 intro pins s σ H xs us Q I r h;obtain⟨i,j,rfl,q⟩:=h;obtain⟨u,w',rfl,⟨t,rfl⟩,⟨t',rfl⟩⟩:=z1B r;refine min_two_ints (I.ok.hd hc) λh' tk k=>⟨_,H,I.kept k,?_,q⟩
 by_cases hj:j<i
 ·rw[if_pos hj,if_pos hj];exact⟨_,rfl⟩
 ·rw[if_neg hj,if_neg hj];exact⟨_,rfl⟩
end
end L2
namespace L2
open PySem PySem.Spec PyProof.Rows
structure ObjM(h:Heap)(x dx C:Addr)(mA:Str->Option Value):Prop where
 obj:h.get? x=some (PySem.W.instObj C dx)
 ns:h.Ns1 dx mA
 ne:dx≠x
section
variable {prog:Program} {w:World} {A:Around} {E:Value->Shared->Prop} {s:Shared} {K:PySem.W.Frag} {x dx C f:Addr} {mA:Str->Option Value} {name:Str} {v:Value}
end
section
variable {P:Program} {w:World} {H H':Hp} {h h':Heap} {a C dx:Addr} {fs fs':List (Str×V)}
end
structure Cls(K:PySem.W.Frag)(C:Addr):Prop where
 pg:PySem.W.plainGet K C Str.empty=true
 hd:PySem.W.hasDictIn K C=true
 po:PySem.W.plainOver K C=true
 sa:PySem.W.findIn K (.ref C) "__setattr__" = some (some (.builtin "object.__setattr__"))
structure Con(K:PySem.W.Frag)(C:Addr)(f:Str)(v:V)(u:Value):Prop where
 at_:PySem.W.findIn K (.ref C) f=some (some u)
 rel:RelV v u
 get:PySem.W.specialIn K u "__get__" = some none
 cp:PySem.W.copiedNames.contains f=false
structure Meth(K:PySem.W.Frag)(C:Addr)(m:Str)(f:Addr):Prop where
 at_:PySem.W.findIn K (.ref C) m=some (some (.ref f))
 fn:PySem.W.isFn K (.ref f)=true
 kp:PySem.W.keepIn K (.ref f)=true
section
variable {X:Cx} {pins:List (Addr×Obj)} {σ:St} {H:Hp} {s:Shared} {a C dx:Addr} {fs:List (Str×V)} {f:Str} {v:V} {A:Around} {E:Value->Shared->Prop}
end
section
variable {X:Cx} {o e value:Expr} {f:Str} {pos pos' tpos:Pos} {ta tv:TE}
end
section
variable {X:Cx} {pins:List (Addr×Obj)} {σ:St} {H:Hp} {s:Shared} {A:Around} {E:Value->Shared->Prop} {Q:Value->Shared->Prop} {c:Value} {b:Bool}
inductive TyOf (K:PySem.W.Frag) (H:Hp):V->Value->Prop where
 | non:TyOf K H .non (.type "NoneType")
 | bl (x:Bool):TyOf K H (.bl x) (.type "bool")
 | int (i:Int):TyOf K H (.int i) (.type "int")
 | str (x:Str):TyOf K H (.str x) (.type "str")
 | flt (x:UInt64):TyOf K H (.flt x) (.type "float")
 | lst {a:Addr} {xs:List V} (e:H a=some (.lst xs)):TyOf K H (.ref a) (.type "list")
 | frz {a:Addr} {o:Obj} {xs:List V} (e:H a=some (.frz o (.lst xs))):TyOf K H (.ref a) (.type "list")
 | tup {a:Addr} {xs:List V} (e:H a=some (.tup xs)):TyOf K H (.ref a) (.type "tuple")
 | dK {a:Addr} {kvs:List (Key×V)} (e:H a=some (.dK kvs)):TyOf K H (.ref a) (.type "dict")
 | dT {a:Addr} {kvs:List (List Key×V)} (e:H a=some (.dT kvs)):TyOf K H (.ref a) (.type "dict")
 | ins {a C dx:Addr} {fs:List (Str×V)} (e:H a=some (.ins C dx fs)) (cl:Cls K C) (ha:PySem.W.findIn K (.ref C) "__class__" = some (some (.builtin "object.__class__")))
   (hn:PySem.W.specialIn K (.builtin "object.__class__") "__get__" = some (some (.builtin "getset_descriptor.__get__"))) (htk:PySem.W.takesIn K (.builtin "object.__class__")=some true)
   (hm:PySem.W.mroIn K C (.type "object")=some true):TyOf K H (.ref a) (.ref C)
end
end L2
namespace L2
open PySem PySem.Spec PyProof.Rows
structure Room(k:Nat)(A:Around):Prop where
 hd:A.handled=none
 dp:A.depth+3*k+5<recursionLimit
 un:A.units+16*k+200<cLine
theorem Room.deeper{k:Nat}{A:Around}(r:Room (k+1) A)(env:Env):Room k (A.deeper env):=
 ⟨r.hd,by have:=r.dp;show A.depth+1+3*k+5<_;omega,by have:=r.un;show A.units+3+16*k+200<_;omega⟩
theorem Room.depth{k:Nat}{A:Around}(r:Room k A):A.depth<recursionLimit:=by have:=r.dp;omega
theorem Room.units{k:Nat}{A:Around}(r:Room k A):A.units+64<cLine:=by have:=r.un;omega
def tNil:TA:=λ_ H Q=>Q [] H
def z8V(ta:TE)(tr:TA):TA:=λσ H Q=>ta σ H λx H1=>tr σ H1 λxs H2=>Q (x::xs) H2
section
variable {X:Cx} {e:Expr} {es:List Expr} {te:TE} {t:TA} {pos:Pos}
theorem q3k:PA X [] tNil:=λ_ _ _ _ H Q I h=>Calls.spliced_nil ⟨[],H,I,.nil,h⟩
theorem q0W(ha:PE X e te)(hr:PA X es t)(hs:starEach (e::es) X.env=(false,eval e X.env)::starEach es X.env:=by rfl):PA X (e::es) (z8V te t):=by
 intro pos pins s σ H Q I h;rw[hs];show wpAny _ _ (spliced ((false,eval e X.env)::backTo pos (starEach es X.env))) _ _ s;refine Calls.spliced_cons (thn (ha pins s σ H _ I h) λu s1 ⟨x,H1,I1,r1,q1⟩=>?_);exact thn (hr pos pins s1 σ H1 _ I1 q1) λus s2 ⟨xs,H2,I2,r2,q2⟩=>⟨x::xs,H2,I2,.cons r1 r2,q2⟩
def tTup(t:TA):TE:=λσ H Q=>t σ H λxs H1=>xs.length<=sizeLine/\∀p,H1 p=none->Q (.ref p) (upd H1 p (.tup xs))
def tLst(t:TA):TE:=λσ H Q=>t σ H λxs H1=>xs.length<=sizeLine/\∀p,H1 p=none->Q (.ref p) (upd H1 p (.lst xs))
theorem z2J{x1}(h:PA X es t):PE X (.Tuple es x1 pos) (tTup t):=by
 intro pins s σ H Q I hq;refine wpAny_Tuple_spliced (thn (h pos pins s σ H _ I hq) λus s1 ⟨xs,H1,I1,r,z,q⟩=>⟨by rw[←r.length];exact z,?_⟩);have hf:H1 s1.heap.objs.size=none:=I1.hok.fresh (Nat.le_refl _);refine⟨.ref s1.heap.objs.size,upd H1 s1.heap.objs.size (.tup xs),I1.laid (t':=s1.toks) (λb u e=>Heap.get?_push_of_some _ e) (Nat.le_refl _) ?_,rfl,q _ hf⟩;exact⟨z,us,r,⟨_,Heap.get?_push_size _ rfl,⟨rfl,rfl⟩,_,rfl⟩⟩
theorem z6z(h:PA X es t):PE X (.List es pos) (tLst t):=by
 intro pins s σ H Q I hq;refine wpAny_List_spliced (thn (h pos pins s σ H _ I hq) λus s1 ⟨xs,H1,I1,r,z,q⟩=>⟨by rw[←r.length];exact z,?_⟩);have hf:H1 s1.heap.objs.size=none:=I1.hok.fresh (Nat.le_refl _);refine⟨.ref s1.heap.objs.size,upd H1 s1.heap.objs.size (.lst xs),I1.laid (t':=s1.toks) (λb u e=>Heap.get?_push_of_some _ e) (Nat.le_refl _) ?_,rfl,q _ hf⟩;exact⟨z,us,0,r,Heap.get?_push_size _ rfl⟩
end
abbrev Sp:=List V->Hp->VK->XK->Prop
abbrev CXT:=List Env->Hp->Shared->XK->Value->Shared->Prop
structure Env0(P:Program)(w:World)(K:PySem.W.Frag)(mg:Str->Option Value)(base:Heap)(A:Around)(outer:List Env)(s:Shared)(H:Hp):Prop where
 frames:A.frames=some outer
 mod:Mod K mg base
 bs:∀b o,base.get? b=some o->s.heap.get? b=some o/\H b=none
 bsz:base.objs.size<=s.heap.objs.size
 funs:s.heap.FunFrames base outer
 frf:∀b∈frs outer,H b=none
 hok:HOk P w H s.heap
 bare:AllBare s.gens
def CE(outer:List Env)(P:Program)(w:World)(H:Hp)(s:Shared)(Q:VK)(u:Value)(s':Shared):Prop:=
 ∃v H',s'.os=s.os/\AllBare s'.gens/\Un (frs outer) [] H H' s.heap s'.heap/\HOk P w H' s'.heap/\RelV v u/\Q v H'
def CR(CX:CXT)(outer:List Env)(P:Program)(w:World)(H:Hp)(s:Shared)(Q:VK)(E:XK)(r:Result)(s':Shared):Prop:=
 match r with
 | .ok (.ret u)=>CE outer P w H s Q u s'
 | .ok _=>False
 | .error e=>CX outer H s E e s'
structure FnOk(P:Program)(w:World)(K:PySem.W.Frag)(mg:Str->Option Value)(base:Heap)(CX:CXT)(k:Nat)(f:Addr)(fd:FuncData)(ps:List Str)(sp:Sp):Prop where
 len:∀vs H Q E,sp vs H Q E->vs.length=ps.length
 run:∀(A:Around) (outer:List Env) (s:Shared) (H:Hp) (args:Args) (us:List Value) (vs:List V) (Q:VK) (E:XK),Room k A->Env0 P w K mg base A outer s H->BindsTo s fd args (ps.zip us)->Vals vs us->sp vs H Q E ->
  codeAny (model P w) A (.call (.ref f) args) (CR CX outer P w H s Q E) s
section
variable {X:Cx} {pins:List (Addr×Obj)} {σ:St} {H:Hp} {s s':Shared}
theorem Inv.env0(I:Inv X pins σ H s):Env0 X.prog X.w X.K X.mg X.base X.A X.stack s H:=
 ⟨I.ok.frames,I.ok.mod,I.bs,Nat.le_trans I.ok.bsz I.sz,I.stack,I.stkFree,I.hok,I.bare⟩
theorem Inv.after{Q:VK}{u:Value}(I:Inv X pins σ H s)(h:CE X.stack X.prog X.w H s Q u s'):EP X pins σ Q u s':=by
 obtain⟨v,H',os,bare,un,hok,r,q⟩:=h;obtain⟨hh,g,d,t,os'⟩:=s';obtain rfl:os'=s.os:=os;exact⟨v,H',I.call (h':=hh) (g':=g) (d':=d) (t':=t) (ch:=[]) un hok bare (λb z=>absurd z (by simp)),r,q⟩
end
def q2Y(K:PySem.W.Frag)(fd:FuncData)(ps:List Str)(ds:List Value):Prop:=
 ∀(s:Shared) (us:List Value),K.In s.heap->(us++ds).length=ps.length->BindsTo s fd ⟨us,[]⟩ (ps.zip (us++ds))
theorem q2Y.all{K:PySem.W.Frag}{fd:FuncData}{ps:List Str}(h:∀us:List Value,us.length=ps.length->bindArgs fd ⟨us,[]⟩=pure (ps.zip us)):q2Y K fd ps []:=λs us _ hl=>by
 rw[List.append_nil]at hl ⊢;exact .of_eq (h us hl)
def z0h(CX:CXT)(X:Cx)(E:XK):Prop:=∀(pins:List (Addr×Obj)) (σ:St) (H:Hp) (s:Shared) (e:Value) (s':Shared),Inv X pins σ H s->CX X.stack H s E e s'->X.xe e s'
section
variable {X:Cx} {CX:CXT} {k:Nat} {f C:Addr} {fd:FuncData} {ps:List Str} {sp:Sp} {dvs:List V} {ds:List Value} {E:XK} {x m:Str} {p pos apos:Pos} {e o:Expr} {es:List Expr} {ta:TE} {t:TA}
structure Mk(K:PySem.W.Frag)(C f:Addr):Prop where
 makes:PySem.W.makesIn K C=true
 init:PySem.W.findIn K (.ref C) "__init__" = some (some (.ref f))
 fn:PySem.W.isFn K (.ref f)=true
 kp:PySem.W.keepIn K (.ref C)=true
end
section
variable {X:Cx} {CX:CXT} {k:Nat} {f C:Addr} {fd:FuncData} {ps ks:List Str} {sp:Sp} {E:XK} {x m:Str} {p pos apos kpos:Pos} {e o:Expr} {es:List Expr} {kws:List Keyword} {te ta:TE} {t tk:TA} {nm:Option Str}
structure KBinds(K:PySem.W.Frag)(fd:FuncData)(ps ks:List Str)(g:List Value->List Value->List Value)(gV:List V->List V->List V):Prop where
 to:∀(s:Shared) (us ws:List Value),K.In s.heap->(g us ws).length=ps.length->BindsTo s fd ⟨us,ks.zip ws⟩ (ps.zip (g us ws))
 rel:∀{vs:List V} {us:List Value} {zs:List V} {ws:List Value},Vals vs us->Vals zs ws->Vals (gV vs zs) (g us ws)
variable {g:List Value->List Value->List Value} {gV:List V->List V->List V}
end
structure FnScope(N P:List Str)(sc:Scope):Prop where
 kind:sc.kind=.function
 co:sc.isCoroutine=false
 gen:sc.isGenerator=false
 nd:N.Nodup
 pre:N.take P.length=P
 par:∀x∈P,sc.names.lookup x=some .local\/sc.names.lookup x=some .cell
 nofree:∀y∈sc.names,y.2 ≠ .free
theorem q6d{kindOf:Str->Option NameKind}{x:Str}:∀{binds:List (Str×Value)} {m:Str->Option Value},(∀v,(x,v)∉binds)->bindL kindOf binds m x=m x
 | [],_,_=>rfl
 | (n,v)::r,m,h=>by
  unfold bindL;rw[q6d λw hw=>h w (List.mem_cons_of_mem _ hw)];split
  ·have:x≠n:=by rintro rfl;exact h v List.mem_cons_self
   simp[this]
  ·rfl
theorem q5K{kindOf:Str->Option NameKind}{x:Str}:∀{binds:List (Str×Value)} {m:Str->Option Value},(∀v,(x,v)∉binds)->bindC kindOf binds m x=m x
 | [],_,_=>rfl
 | (n,v)::r,m,h=>by
  unfold bindC;rw[q5K λw hw=>h w (List.mem_cons_of_mem _ hw)];split
  ·rfl
  ·have:x≠n:=by rintro rfl;exact h v List.mem_cons_self
   simp[this]
theorem q5V{kindOf:Str->Option NameKind}{x:Str}{v:Value}:∀{P:List Str} {vs:List Value} {i:Nat} {m:Str->Option Value},P.Nodup->P[i]? = some x->vs[i]? = some v->kindOf x=some .local ->
  bindL kindOf (P.zip vs) m x=some v
 | [],_,_,_,_,h,_,_=>by simp at h
 | _::_,[],_,_,_,_,h,_=>by simp at h
 | p::P,w::vs,0,m,nd,h1,h2,hk=>by simp at h1 h2;subst h1;subst h2;show bindL kindOf ((p,w)::P.zip vs) m p=_;unfold bindL;rw[q6d λv hv=>(List.nodup_cons.mp nd).1 (List.of_mem_zip hv).1,if_pos hk];simp
 | p::P,w::vs,i+1,m,nd,h1,h2,hk=>by show bindL kindOf ((p,w)::P.zip vs) m x=_;unfold bindL;exact q5V (i:=i) (List.nodup_cons.mp nd).2 (by simpa using h1) (by simpa using h2) hk
theorem q5X{kindOf:Str->Option NameKind}{x:Str}{v:Value}:∀{P:List Str} {vs:List Value} {i:Nat} {m:Str->Option Value},P.Nodup->P[i]? = some x->vs[i]? = some v->kindOf x≠some .local ->
  bindC kindOf (P.zip vs) m x=some v
 | [],_,_,_,_,h,_,_=>by simp at h
 | _::_,[],_,_,_,_,h,_=>by simp at h
 | p::P,w::vs,0,m,nd,h1,h2,hk=>by simp at h1 h2;subst h1;subst h2;show bindC kindOf ((p,w)::P.zip vs) m p=_;unfold bindC;rw[q5K λv hv=>(List.nodup_cons.mp nd).1 (List.of_mem_zip hv).1,if_neg hk];simp
 | p::P,w::vs,i+1,m,nd,h1,h2,hk=>by show bindC kindOf ((p,w)::P.zip vs) m x=_;unfold bindC;exact q5X (i:=i) (List.nodup_cons.mp nd).2 (by simpa using h1) (by simpa using h2) hk
def start(N:List Str)(vs:List V):St:=vs.map some++List.replicate (N.length - vs.length) none
def cxOf(CX:CXT)(P:Program)(w:World)(K:PySem.W.Frag)(mg:Str->Option Value)(base:Heap)(N:List Str)(qual:Str)(scope:Scope)(f:Addr)(cd:Value)(A:Around)(outer:List Env)(s:Shared)(H:Hp)(E:XK):Cx where
 prog:=P
 w:=w
 K:=K
 mg:=mg
 base:=base
 A:=A.deeper (envOfC qual scope s.heap.objs.size f cd)
 N:=N
 s₀:=s
 H₀:=H
 env:=envOfC qual scope s.heap.objs.size f cd
 outer:=outer
 stack:=envOfC qual scope s.heap.objs.size f cd::outer
 ex:=[]
 calm:=true
 fn:=λ_=>true
 pn:=[]
 xe:=λe s'=>wpAny (model P w) (A.deeper (envOfC qual scope s.heap.objs.size f cd)) (leaving (envOfC qual scope s.heap.objs.size f cd) e) (λ_ s''=>CX outer H s E e s'') (λe' s''=>CX outer H s E e' s'') s'
theorem q7p{sc:Scope}{n:Nat}{x:Str}(h:sc.names.lookup x=some .cell):∃c,(cellsFrom n sc.names []).lookup x=some c:=by
 have q:=PySem.W.cellsFrom_some sc.names n [] (.inl h);exact Option.isSome_iff_exists.mp q
theorem q8R{CX:CXT}{P:Program}{w:World}{K:PySem.W.Frag}{mg:Str->Option Value}{base:Heap}{N ps:List Str}{qual:Str}{scope:Scope}{f:Addr}{cd:Value}{A:Around}{outer:List Env}{s s1:Shared}{H:Hp}{E:XK}{us:List Value}{vs:List V}
  (S:FnScope N ps scope) (hd:A.handled=none) (e0:Env0 P w K mg base A outer s H) (hl:vs.length=ps.length) (r:Vals vs us)
  (x:InCallC s s.heap.objs.size (bindL (envOfC qual scope s.heap.objs.size f cd).kindOf (ps.zip us) λ_=>none) (cellsFrom (s.heap.objs.size+1) scope.names []) (bindC (envOfC qual scope s.heap.objs.size f cd).kindOf (ps.zip us) λ_=>none) s1) :
  Inv (cxOf CX P w K mg base N qual scope f cd A outer s H E) [] (start N vs) H s1:=by
 have hpl:ps.length<=N.length:=by have:=congrArg List.length S.pre;rw[List.length_take]at this;omega
 obtain⟨h1,tk,rfl,hk⟩:=x.done;have noA:∀b:Addr,b∉(cxOf CX P w K mg base N qual scope f cd A outer s H E).ex:=λb z=>absurd (show b∈([]:List Addr)from z) (by simp)
 refine⟨⟨e0.mod,S.kind,rfl,rfl,Nat.le_refl _,λy z c h1 h2=>?_,λy hy=>?_,λy c _ h=>?_,λ_=>hd,Around.frames_deeper e0.frames,.inr ⟨rfl,rfl⟩,λb z=>absurd z (noA b),e0.bs,e0.bsz,λb _ _=>noA b,λb z=>absurd z (noA b),e0.funs,e0.frf⟩,
  rfl,e0.bare,Un.kept hk,⟨_,x.toInCall.ns,λi y v h1 h2 h3=>?_⟩,λy c h=>⟨_,x.cell y c h⟩,e0.hok.fresh (Nat.le_refl _),λy c h=>?_,λp hp=>absurd (show p∈([]:List (Addr×Obj))from hp) (by simp),e0.hok.kept hk,?_⟩
 ·exact name_of_addr x.apart (PySem.mem_of_lookup h1) (PySem.mem_of_lookup h2)
 ·have hy:scope.names.lookup y=some .cell\/scope.names.lookup y=some .free:=hy;rcases hy with hy | hy
  ·exact q7p hy
  ·exact absurd rfl (S.nofree _ (PySem.mem_of_lookup hy))
 ·exact Nat.le_of_lt (x.above y c (PySem.mem_of_lookup h))
 ·have hi:i<vs.length:=by
   unfold start at h2;by_cases hi:i<vs.length
   ·exact hi
   ·rw[List.getElem?_append_right (by simpa using hi)]at h2;rw[List.getElem?_replicate]at h2;split at h2<;>cases h2
  have ha:vs[i]? = some v:=by
   unfold start at h2;rw[List.getElem?_append_left (by simpa using hi),List.getElem?_map]at h2;cases e:vs[i]? with
   | none=>rw[e]at h2;cases h2
   | some a=>rw[e]at h2;cases h2;rfl
  obtain⟨u,hu,rv⟩:=r.get ha;have hp:ps[i]? = some y:=(by rw[←S.pre,List.getElem?_take_of_lt (by omega)];exact h1);have ndP:ps.Nodup:=by rw[←S.pre];exact S.nd.sublist (List.take_sublist _ _)
  refine⟨u,rv,?_⟩;rcases S.par y (List.mem_of_getElem? hp)with k | k
  ·exact .inl ⟨k,q5V ndP hp hu k⟩
  ·obtain⟨c,e⟩:=q7p (n:=s.heap.objs.size+1) k;refine .inr ⟨.inl k,c,e,?_⟩;have q:=x.cell y c e;rw[q5X ndP hp hu (by show scope.names.lookup y≠_;rw[k];decide)]at q;exact q
 ·exact e0.hok.fresh (Nat.le_of_lt (x.above y c (PySem.mem_of_lookup h)))
 ·unfold start;show _=N.length;rw[List.length_append,List.length_map,List.length_replicate];omega
theorem z8v{CX:CXT}{P:Program}{w:World}{K:PySem.W.Frag}{mg:Str->Option Value}{base:Heap}{k:Nat}{f:Addr}{name qual:Str}{params:Arguments}{body:List Stmt}{scope:Scope}{dV kV doc pm cdv ct oc:Value}{an od:Option Addr}
  {osl:Array (Option Value)} {N ps:List Str} {sp:Sp} (lk:K.lookup f=some ⟨oc,od,.func (PySem.W.fnOf name qual params body scope dV kV doc pm an cdv ct),osl⟩) (hcd:PySem.W.codeIn K cdv qual=true) (S:FnScope N ps scope)
  (len:∀vs H Q E,sp vs H Q E->vs.length=ps.length)
  (hbody:∀(A:Around) (outer:List Env) (s:Shared) (H:Hp) (vs:List V) (Q:VK) (E:XK),Room k (A.deeper (envOfC qual scope s.heap.objs.size f cdv))->sp vs H Q E ->
   ∃t,PSs (cxOf CX P w K mg base N qual scope f cdv A outer s H E) body t/\t {nx:=λ_ H'=>Q .non H',rt:=Q} (start N vs) H) :
  FnOk P w K mg base CX (k+1) f (PySem.W.fnOf name qual params body scope dV kV doc pm an cdv ct) ps sp:=by
 refine⟨len,λA outer s H args us vs Q E hr e0 hb r hsp=>?_⟩;have hl:=len _ _ _ _ hsp;have KX:K.In s.heap:=e0.mod.kin.keeps λb o e=>(e0.bs b o e).1;have lim:s.heap.NoLimit:=e0.mod.nolimit.keeps λb o e=>(e0.bs b o e).1;have hkind:∀y∈ps.zip us,scope.names.lookup y.1=some .local\/(scope.names.lookup y.1=some .cell/\((cellsFrom (s.heap.objs.size+1) scope.names []).lookup y.1).isSome=true):=λ⟨n,v⟩ hy=>by
  rcases S.par n (List.of_mem_zip hy).1 with q | q
  ·exact .inl q
  ·exact .inr ⟨q,PySem.W.cellsFrom_some _ _ _ (.inl q)⟩
 refine codeAny_call_function hr.depth (KX _ _ lk) rfl S.co S.gen rfl (PySem.W.codeRec_of KX hcd) (hb _ _ _ _ ?_)
 refine wpAny_newFunctionEnv_cells S.kind hkind λenv he s1 x=>?_;subst he;refine⟨lim.keeps x.toInCall.keep,codeAny_func ?_⟩;obtain⟨t,ht,hq⟩:=hbody A outer s H vs Q E (hr.deeper _) hsp;have I:Inv (cxOf CX P w K mg base N qual scope f cdv A outer s H E) [] (start N vs) H s1:=q8R S hr.hd e0 hl r x;refine wpAny_mono (ht [] s1 (start N vs) H _ I hq) (λfl s' hs=>?_) λe s' hs=>hs;have fin:∀{σ':St} {H':Hp} {v:V} {u:Value},Inv (cxOf CX P w K mg base N qual scope f cdv A outer s H E) [] σ' H' s'->RelV v u->Q v H'->CE outer P w H s Q u s':=
  λ{σ' H' v u} J rv q=>⟨v,H',J.os,J.bare,J.base,J.hok,rv,q⟩
 cases fl with
 | ret u=>
  obtain⟨v,σ',H',J,rv,q⟩:=hs;exact fin J rv q
 | next=>
  obtain⟨σ',H',J,q⟩:=hs;exact fin (v:=V.non) (u:=Value.none) J rfl q
 | brk=>
  obtain⟨_,_,_,q⟩:=hs;exact False.elim q
 | cont=>
  obtain⟨_,_,_,q⟩:=hs;exact False.elim q
end L2
namespace L2
open PySem PySem.Spec PyProof.Rows
section
variable {X:Cx} {x:Str} {p pos:Pos} {e:Expr} {es:List Expr} {t:TA} {id T:String} {r:List V->Hp->VK->Prop}
def tCB(r:List V->Hp->VK->Prop)(t:TA):TE:=λσ H Q=>t σ H λvs H1=>r vs H1 Q
theorem q5m(hc:q1q X (.builtin id) r)(hg:Gl X x)(hm:X.mg x=none)(hv:bootBuiltins x=some (.builtin id))(ha:PA X (e::es) t)(hn:x ≠ "__name__":=by decide)(hdb:(x==("__debug__" : Str))=false:=by decide)
  (he:starEach (e::es) X.env=(false,eval e X.env)::starEach es X.env:=by rfl) (hpl:(backTo pos (starEach es X.env)).any (·.1)=false:=by rfl):PE X (.Call (.Name x p) (e::es) [] pos) (tCB r t):=by
 intro pins s σ H Q I h;refine wpAny_Call_Name_kw (q3D I hg hm hv ?_ hn hdb);exact PyProof.Rows.callWith_builtin1 (thn (ha pos pins s σ H _ I h) λus s1 ⟨vs,H1,I1,r1,q1⟩=>hc pins s1 σ H1 vs us Q I1 r1 q1) he hpl
theorem q8H(hc:q1q X (.type T) r)(hg:Gl X x)(hm:X.mg x=none)(hv:bootBuiltins x=some (.type T))(ha:PA X (e::es) t)(hn:x ≠ "__name__":=by decide)(hdb:(x==("__debug__" : Str))=false:=by decide)
  (he:starEach (e::es) X.env=(false,eval e X.env)::starEach es X.env:=by rfl) (hpl:(backTo pos (starEach es X.env)).any (·.1)=false:=by rfl):PE X (.Call (.Name x p) (e::es) [] pos) (tCB r t):=by
 intro pins s σ H Q I h;refine wpAny_Call_Name_kw (q3D I hg hm hv ?_ hn hdb);exact PyProof.Rows.callWith_type1 (thn (ha pos pins s σ H _ I h) λus s1 ⟨vs,H1,I1,r1,q1⟩=>hc pins s1 σ H1 vs us Q I1 r1 q1) he hpl
end
end L2
namespace HT
open PySem PyProof.Rows
section
open PySem.SeqAt
open PySem.AutoSeq1 (wpAny_loadPart')
open PySem.MeetsSeq PySem.MeetsSeq2 PySem.MeetsSeq3
end
section
variable {prog:Program} {w:World} {A:Around} {E:Value->Shared->Prop} {s:Shared}
def sIx(n d:Nat):Option Int->Nat
 | none=>d
 | some v=>if v<0 then(v+(n:Int)).toNat else min v.toNat n
theorem z5A(n d:Nat)(hd:d<=n)(o:Option Int):sIx n d o<=n:=by
 cases o with
 | none=>exact hd
 | some v=>
  show(if v<0 then(v+(n:Int)).toNat else min v.toNat n)<=n;by_cases hv:v<0
  ·rw[if_pos hv];omega
  ·rw[if_neg hv];exact Nat.min_le_right _ _
theorem z0y(v:Int)(n d:Nat):(if v<0 then max (v+(n:Int)) 0 else min v (n:Int))=((sIx n d (some v):Nat):Int):=by
 show(if v<0 then max (v+(n:Int)) 0 else min v (n:Int))=(((if v<0 then(v+(n:Int)).toNat else min v.toNat n):Nat):Int);by_cases hv:v<0
 ·simp only[if_pos hv];omega
 ·simp only[if_neg hv];omega
theorem q8g(lo hi:Option Int)(n:Nat):Builtin.Slice.sliceAdjust lo hi 1 (n:Int)=(((sIx n 0 lo:Nat):Int),((sIx n n hi:Nat):Int)):=by
 have h1:¬((1:Int)<0):=by omega
 unfold Builtin.Slice.sliceAdjust;simp only[h1,if_false];refine Prod.ext ?_ ?_
 ·cases lo with
  | none=>rfl
  | some v=>exact z0y v n 0
 ·cases hi with
  | none=>rfl
  | some v=>exact z0y v n n
theorem q7V(i j:Nat):Builtin.Slice.slicePlaces (i:Int) (j:Int) 1=j - i:=by
 unfold Builtin.Slice.slicePlaces;have h1:(1:Int)>0:=by omega
 simp only[h1,if_true,Int.ediv_one];split<;>omega
theorem q4A{v:Value}{o:Option Int}{Q:Option Int->Shared->Prop}(p:IsPart v o)(h:Q o s):wpAny (model prog w) A (Builtin.Slice.slicePartIndex v) Q E s:=by
 cases p with
 | none=>exact slicePart_none h
 | int i t=>exact slicePart_int h
theorem q3F{sl:Addr}{vl vu:Value}{lo hi:Option Int}{n:Nat}{Q:Int×Int×Nat->Shared->Prop}(hs:s.heap.IsSliceOf sl vl vu .none)(pl:IsPart vl lo)(pu:IsPart vu hi)
  (h:Q (((sIx n 0 lo:Nat):Int),1,sIx n n hi - sIx n 0 lo) s):wpAny (model prog w) A (Builtin.Slice.sliceApplied (.ref sl) (pure (n:Int))) Q E s:=by
 obtain⟨os,hos,hcs,hds⟩:=id hs;unfold Builtin.Slice.sliceApplied Builtin.Slice.sliceFields;refine wpAny_bind (wpAny_bind (wpAny_field hos hds (x:=vl) rfl (wpAny_bind (wpAny_field hos hds (x:=vu) rfl (wpAny_bind (wpAny_field hos hds (x:=.none) rfl (wpAny_pure ?_)))))));refine wpAny_bind (slicePart_none ?_);show wpAny _ _ (if((1:Int)==0)=true then _ else _) _ _ s;rw[if_neg (by decide)];refine wpAny_bind (q4A pl (wpAny_bind (q4A pu (wpAny_bind (wpAny_pure ?_)))));show wpAny _ _ (match Builtin.Slice.sliceAdjust lo hi 1 (n:Int)with | (lo,hi)=>pure (lo,(1:Int),Builtin.Slice.slicePlaces lo hi 1)) _ _ s;rw[q8g lo hi n];show wpAny _ _ (pure (((sIx n 0 lo:Nat):Int),(1:Int),Builtin.Slice.slicePlaces ((sIx n 0 lo:Nat):Int) ((sIx n n hi:Nat):Int) 1)) _ _ s;rw[q7V];exact wpAny_pure h
theorem z1t(xs:Array Value)(i k:Nat):((List.range k).filterMap λ(m:Nat)=>xs[((i:Int)+(m:Int)*1).toNat]?).toArray=((xs.toList.drop i).take k).toArray:=by
 have e:(λ(m:Nat)=>xs[((i:Int)+(m:Int)*1).toNat]?)=λm=>xs[i+m]?:=by
  funext m
  have:((i:Int)+(m:Int)*1).toNat=i+m:=by omega
  rw[this]
 rw[e];have:=pick_run xs i k;rw[List.filterMap_map]at this;have e2:((λx=>xs[x]?) ∘ λx=>i+x)=λm=>xs[i+m]?:=rfl
 rw[e2]at this;rw[this]
theorem getItem_tuple_cut{t sl:Addr}{items:Array Value}{vl vu:Value}{lo hi:Option Int}{Q:Value->Shared->Prop}(ht:IsTup s.heap t items)(hs:s.heap.IsSliceOf sl vl vu .none)(pl:IsPart vl lo)(pu:IsPart vu hi)
  (hw:¬(sIx items.size 0 lo=0/\sIx items.size items.size hi=items.size))
  (h:Q (.ref s.heap.objs.size) {s with heap:=s.heap.push {cls:=.type "tuple",data:=.seq ((items.toList.drop (sIx items.size 0 lo)).take (sIx items.size items.size hi - sIx items.size 0 lo)).toArray}})
  (hsz:items.size<=sizeLine):wpAny (model prog w) A (getItem (.ref t) (.ref sl)) Q E s:=by
 have htake:sizeOk (.seq ((items.toList.drop (sIx items.size 0 lo)).take (sIx items.size items.size hi - sIx items.size 0 lo)).toArray):=(by show((items.toList.drop (sIx items.size 0 lo)).take (sIx items.size items.size hi - sIx items.size 0 lo)).toArray.size<=sizeLine;rw[List.size_toArray,List.length_take,List.length_drop,Array.length_toList];omega);have hj:sIx items.size items.size hi<=items.size:=z5A _ _ (Nat.le_refl _) hi;obtain⟨os,hos,hcs,hds⟩:=id hs;have hTs:s.TypeIs (.ref sl) "slice":=⟨os,hos,hcs⟩;unfold getItem
 try with_reducible refine wpAny_holding ?_
 first | refine wpAny_bind (wpAny_pure ?_) | skip
 refine wpAny_bind (wpAny_sequenceKey ht.typeIs (by decide) ?_);refine wpAny_bind (wpAny_callSpecial?_slot (name:=Str.ofString "__getitem__") ht.typeIs PyProof.Rows.slot_tuple_getitem
  (wpAny_call_entry PyProof.Rows.slot_tuple_getitem ht.typeIs entry_tuple_getitem ?_ (args_tuple_getitem _ _)))
 show wpAny _ _ (Builtin.Tuple.tupleItemsOf (.ref t) >>= _) _ _ s;refine wpAny_bind (tupleItemsOf_ ht ?_);refine wpAny_bind (wpAny_typeOf hTs ?_);rw[if_pos (by decide)];refine wpAny_bind (q3F hs pl pu ?_);have hno:¬((((sIx items.size 0 lo:Nat):Int)==0&&(1:Int)==1&&(sIx items.size items.size hi - sIx items.size 0 lo)==items.size)=true):=by intro q;rw[Bool.and_eq_true,Bool.and_eq_true]at q;have q1:((sIx items.size 0 lo:Nat):Int)=0:=eq_of_beq q.1.1;have q2:sIx items.size items.size hi - sIx items.size 0 lo=items.size:=eq_of_beq q.2;exact hw ⟨by omega,by omega⟩
 show wpAny _ _ (if(((sIx items.size 0 lo:Nat):Int)==0&&(1:Int)==1&&(sIx items.size items.size hi - sIx items.size 0 lo)==items.size)=true then _ else _) _ _ s;rw[if_neg hno,z1t]
 first
  | exact wpAny_bind (m:=Builtin.Tuple.tupleExact _) (wpAny_newObj_type (wpAny_pure ⟨_,rfl,wpAny_pure h⟩) htake)
  | exact wpAny_bind (m:=Builtin.Tuple.tupleExact _) (wpAny_newObj_type (wpAny_bind (wpAny_pure (wpAny_pure ⟨_,rfl,wpAny_pure h⟩))) htake)
  | exact wpAny_bind (wpAny_bind (m:=Builtin.Tuple.tupleExact _) (wpAny_newObj_type (wpAny_pure (wpAny_pure ⟨_,rfl,wpAny_pure h⟩)) htake))
  | exact wpAny_bind (wpAny_bind (m:=Builtin.Tuple.tupleExact _) (wpAny_newObj_type (wpAny_pure ⟨_,rfl,wpAny_pure h⟩) htake))
end
end HT
namespace L2
open PySem PySem.Spec PyProof.Rows
abbrev TO:=St->Hp->(Option Int->Hp->Prop)->Prop
def PO(X:Cx)(e:Option Expr)(t:TO):Prop:=
 ∀(pins:List (Addr×Obj)) (s:Shared) (σ:St) (H:Hp) (Q:Option Int->Hp->Prop),Inv X pins σ H s->t σ H Q ->
  wpAny (model X.prog X.w) X.A (evalPart e X.env) (λu s'=>∃o H',Inv X pins σ H' s'/\IsPart u o/\Q o H') X.xe s
def z3g:TO:=λ_ H Q=>Q none H
def z9a(t:TE):TO:=λσ H Q=>t σ H λx H1=>∃i,x=.int i/\Q (some i) H1
section
variable {X:Cx} {e:Expr} {te:TE} {lo hi:Option Expr} {tl th:TO} {pos p2:Pos}
theorem q6J:PO X none z3g:=by
 intro pins s σ H Q I h;rw[evalPart_none];exact wpAny_pure ⟨none,H,I,.none,h⟩
theorem z0x(h:PE X e te):PO X (some e) (z9a te):=by
 intro pins s σ H Q I hw;rw[evalPart_some];refine thn (h pins s σ H _ I hw) λu s1 ⟨x,H1,I1,r1,q1⟩=>?_
 obtain⟨i,rfl,q⟩:=q1;obtain⟨t,rfl⟩:=r1;exact⟨some i,H1,I1,.int i t,q⟩
def SlR(X:Cx)(r:V->Option Int->Option Int->Hp->VK->Prop):Prop:=
 ∀(pins:List (Addr×Obj)) (s:Shared) (σ:St) (H:Hp) (x:V) (v vl vu:Value) (lo hi:Option Int) (sl:Addr) (Q:VK),Inv X pins σ H s->RelV x v->s.heap.IsSliceOf sl vl vu .none->IsPart vl lo->IsPart vu hi->r x lo hi H Q ->
  ∃T id,typeLookup (.type T) "__getitem__" = pure (some (.builtin id))/\s.TypeIs v T/\wpAny (model X.prog X.w) X.A (getItem v (.ref sl)) (EP X pins σ Q) X.xe s
theorem SlR.or{r r':V->Option Int->Option Int->Hp->VK->Prop}(h:SlR X r)(h':SlR X r'):SlR X (λx lo hi H Q=>r x lo hi H Q\/r' x lo hi H Q):=by
 intro pins s σ H x v vl vu lo hi sl Q I rx hs pl pu q;rcases q with q | q
 ·exact h pins s σ H x v vl vu lo hi sl Q I rx hs pl pu q
 ·exact h' pins s σ H x v vl vu lo hi sl Q I rx hs pl pu q
def tSl(r:V->Option Int->Option Int->Hp->VK->Prop)(te:TE)(tl th:TO):TE:=λσ H Q=>te σ H λx H1=>tl σ H1 λl H2=>th σ H2 λu H3=>r x l u H3 Q
theorem q2h{r:V->Option Int->Option Int->Hp->VK->Prop}(hr:SlR X r)(he:PE X e te)(hl:PO X lo tl)(hu:PO X hi th):PE X (.Subscript e (.Slice lo hi none p2) pos) (tSl r te tl th):=by
 intro pins s σ H Q I h;refine Subscript_ (thn (he pins s σ H _ I h) λv s1 ⟨x,H1,I1,r1,q1⟩=>?_);refine wpAny_Slice (thn (hl pins s1 σ H1 _ I1 q1) λvl s2 ⟨l,H2,I2,pl,q2⟩=>thn (hu pins s2 σ H2 _ I2 q2) λvu s3 ⟨u,H3,I3,pu,q3⟩=>?_);rw[evalPart_none];refine wpAny_pure ?_;have I4:Inv X pins σ H3 {s3 with heap:=s3.heap.push {cls:=.type "slice",data:=.fields #[vl,vu,.none]}}:=I3.kept (t':=s3.toks) λb ob q=>Heap.get?_push_of_some _ q
 obtain⟨T,id,hT,ht,hg⟩:=hr pins {s3 with heap:=s3.heap.push {cls:=.type "slice",data:=.fields #[vl,vu,.none]}} σ H3 x v vl vu l u s3.heap.objs.size Q I4 r1 (Heap.IsSliceOf.new ..) pl pu q3;show wpAny (model X.prog X.w) X.A (subscriptTail e (.Slice lo hi none p2) v (.ref s3.heap.objs.size)) (EP X pins σ Q) X.xe {s3 with heap:=s3.heap.push {cls:=.type "slice",data:=.fields #[vl,vu,.none]}};exact tail_any (ops:=[.ref s3.heap.objs.size,v]) ht hT hg (by with_unfolding_all rfl)
def cutV(xs:List V)(lo hi:Option Int):List V:=(xs.drop (HT.sIx xs.length 0 lo)).take (HT.sIx xs.length xs.length hi - HT.sIx xs.length 0 lo)
theorem q4t(xs:List V)(lo hi:Option Int):(cutV xs lo hi).length<=xs.length:=by
 unfold cutV;rw[List.length_take,List.length_drop];omega
def rSlT(K:PySem.W.Frag):V->Option Int->Option Int->Hp->VK->Prop:=λx lo hi H Q=>∃a xs,x=.ref a/\SqT K H a xs /\
 ¬(HT.sIx xs.length 0 lo=0/\HT.sIx xs.length xs.length hi=xs.length)/\∀p,H p=none->Q (.ref p) (upd H p (.tup (cutV xs lo hi)))
theorem z6x:SlR X (rSlT X.K):=by
 intro pins s σ H x v vl vu lo hi sl Q I rx hs pl pu h;obtain⟨a,xs,rfl,hx,hw,q⟩:=h;cases rx;obtain⟨its,r,ht,hz⟩:=I.tuple hx;have hlen:its.toArray.size=xs.length:=by rw[List.size_toArray];exact r.length.symm
 refine⟨"tuple",_,PyProof.Rows.slot_tuple_getitem.lookup,ht.typeIs,?_⟩;refine HT.getItem_tuple_cut ht hs pl pu (by rw[hlen];exact hw) ?_ (by rw[hlen];exact hz);rw[hlen];refine⟨.ref s.heap.objs.size,_,I.laid (t':=s.toks) (o:=.tup (cutV xs lo hi)) (λb ob q=>Heap.get?_push_of_some _ q) (Nat.le_refl _) ?_,rfl,q _ (I.hok.fresh (Nat.le_refl _))⟩;exact⟨Nat.le_trans (q4t xs lo hi) hz,_,(r.drop (HT.sIx xs.length 0 lo)).take (HT.sIx xs.length xs.length hi - HT.sIx xs.length 0 lo),q3m.new _ _⟩
end
end L2
namespace L2
open PySem PySem.Spec PyProof.Rows
def ixN(n:Nat)(i:Int):Option Nat:=if 0<=i then(if i<n then some i.toNat else none)else if -(n:Int)<=i then some (i+n).toNat else none
def atI{α:Type}(xs:List α)(i:Int):Option α:=(ixN xs.length i).bind λj=>xs[j]?
theorem z0f{n:Nat}{i:Int}{j:Nat}(h:ixN n i=some j):seqIndex? i n=some j/\j<n /\ -(n:Int)<=i/\i<n:=by
 unfold ixN at h;by_cases h0:0<=i
 ·rw[if_pos h0]at h;by_cases h1:i<n
  ·rw[if_pos h1]at h;have e:i.toNat=j:=Option.some.inj h;exact⟨by rw[seqIndex_of h0 h1,e],by omega,by omega,h1⟩
  ·rw[if_neg h1]at h;cases h
 ·rw[if_neg h0]at h;by_cases h1 : -(n:Int)<=i
  ·rw[if_pos h1]at h;have e:(i+n).toNat=j:=Option.some.inj h;exact⟨by rw[seqIndex_neg (by omega) h1,e],by omega,h1,by omega⟩
  ·rw[if_neg h1]at h;cases h
theorem q6K{α:Type}{xs:List α}{i:Int}{v:α}(h:atI xs i=some v):∃j,seqIndex? i xs.length=some j/\xs[j]? = some v/\j<xs.length /\ -(xs.length:Int)<=i/\i<xs.length:=by
 unfold atI at h;cases e:ixN xs.length i with
 | none=>rw[e]at h;cases h
 | some j=>
  rw[e]at h;obtain⟨h1,h2,h3,h4⟩:=z0f e;exact⟨j,h1,h,h2,h3,h4⟩
theorem q8U{α:Type}{xs:List α}{j:Nat}{v:α}(h:xs[j]? = some v):atI xs (j:Int)=some v:=by
 have hj:j<xs.length:=(List.getElem?_eq_some_iff.mp h).1;have e:ixN xs.length (j:Int)=some j:=(by unfold ixN;rw[if_pos (by omega),if_pos (by omega)];simp);unfold atI;rw[e];exact h
def z4g(b:Expr):Prop:=∀o i,subscripted b false o i=operate [o,i] (getItem o i)
def IxR(X:Cx)(r:R2):Prop:=
 ∀(value slice:Expr) (pins:List (Addr×Obj)) (s:Shared) (σ:St) (H:Hp) (x y:V) (v u:Value) (Q:VK),Inv X pins σ H s->RelV x v->RelV y u->r x y H Q ->
  subscripted slice false v u=operate [v,u] (getItem v u)->wpAny (model X.prog X.w) X.A (subscriptTail value slice v u) (EP X pins σ Q) X.xe s
def MtR(X:Cx)(id:String)(r:V->List V->Hp->VK->Prop):Prop:=
 ∀(pins:List (Addr×Obj)) (s:Shared) (σ:St) (H:Hp) (x:V) (xs:List V) (v:Value) (us:List Value) (Q:VK),Inv X pins σ H s->RelV x v->Vals xs us->r x xs H Q ->
  wpAny (model X.prog X.w) X.A (call (.builtin id) (v::us)) (EP X pins σ Q) X.xe s
section
variable {X:Cx} {a b:Expr} {ta tb:TE} {pos:Pos}
theorem IxR.or{r r':R2}(h:IxR X r)(h':IxR X r'):IxR X (λx y H Q=>r x y H Q\/r' x y H Q):=by
 intro value slice pins s σ H x y v u Q I rx ry q hs;rcases q with q | q
 ·exact h value slice pins s σ H x y v u Q I rx ry q hs
 ·exact h' value slice pins s σ H x y v u Q I rx ry q hs
theorem z3B{r:R2}(hr:IxR X r)(ha:PE X a ta)(hb:PE X b tb)(hs:z4g b):PE X (.Subscript a b pos) (tOp r ta tb):=by
 intro pins s σ H Q I h;exact Subscript_ (binT ha hb I h λv u s2 x y H2 I2 rx ry q=>hr a b pins s2 σ H2 x y v u Q I2 rx ry q (hs _ _))
def rIxL(K:PySem.W.Frag):R2:=λx y H Q=>∃p xs i v,x=.ref p/\y=.int i/\SqL K H p xs/\atI xs i=some v/\Q v H
def rIxT(K:PySem.W.Frag):R2:=λx y H Q=>∃p xs i v,x=.ref p/\y=.int i/\SqT K H p xs/\atI xs i=some v/\Q v H
def rIxS:R2:=λx y H Q=>∃z i c,x=.str z/\y=.int i/\z.length<=sizeLine/\atI z.cps.toList i=some c/\Q (.str ⟨#[c]⟩) H
theorem z2V:IxR X (rIxL X.K):=by
 intro value slice pins s σ H x y v u Q I rx ry h hs;obtain⟨p,xs,i,z,rfl,rfl,hq,he,q⟩:=h;cases rx;obtain⟨t,rfl⟩:=ry;obtain⟨its,r,pl,hz⟩:=I.list hq;obtain⟨j,h1,h2,h3,h4,h5⟩:=q6K he;obtain⟨w,ew,rw'⟩:=r.get h2;have hl:=r.length;have hn:=q4p;have fin:EP X pins σ Q w s:=⟨z,H,I,rw',q⟩;by_cases h0:0<=i
 ·have hj:i.toNat=j:=by
   rw[seqIndex_of h0 h5]at h1;exact Option.some.inj h1
  exact item_listR pl.isList h0 (by omega) (by rw[hj];simpa using ew) fin hs
 ·have hj:(i+(its.toArray.size:Int)).toNat=j:=by
   rw[seqIndex_neg (by omega) h4]at h1;rw[List.size_toArray,←hl];exact Option.some.inj h1
  exact subscriptTail_builtinR (x:=w) pl.isList.typeIs slot_list_getitem.lookup
   (wpAny_getItem_list_neg (Q:=λr s'=>r=w/\EP X pins σ Q r s') pl.isList (by omega) (by rw[List.size_toArray]<;>omega) (by omega) (by rw[hj];simpa using ew) ⟨rfl,fin⟩) hs
theorem q9H:IxR X (rIxT X.K):=by
 intro value slice pins s σ H x y v u Q I rx ry h hs;obtain⟨p,xs,i,z,rfl,rfl,hq,he,q⟩:=h;cases rx;obtain⟨t,rfl⟩:=ry;obtain⟨its,r,pl,hz⟩:=I.tuple hq;obtain⟨j,h1,h2,h3,h4,h5⟩:=q6K he;obtain⟨w,ew,rw'⟩:=r.get h2;have hl:=r.length;have hn:=q4p;have fin:EP X pins σ Q w s:=⟨z,H,I,rw',q⟩;exact subscriptTail_builtinR (x:=w) pl.typeIs slot_tuple_getitem.lookup
  (getItem_tuple (j:=j) (Q:=λr s'=>r=w/\EP X pins σ Q r s') pl (by omega) (by omega) (by rw[List.size_toArray,←hl];exact h1) (by simpa using ew) ⟨rfl,fin⟩) hs
theorem z6B:IxR X rIxS:=by
 intro value slice pins s σ H x y v u Q I rx ry h hs;obtain⟨z,i,c,rfl,rfl,hz,he,q⟩:=h;obtain⟨t,rfl⟩:=rx;obtain⟨t',rfl⟩:=ry;obtain⟨j,h1,h2,h3,h4,h5⟩:=q6K he;have hl:z.cps.toList.length=z.length:=by simp[Str.length]
 rw[hl]at h1 h4 h5;have hn:=q4p;exact tail_any (typeIs_str s z t) slot_str_getitem.lookup (getItem_str (c:=c) (by
  have e1:decide (i < -(2^63:Int))=false:=decide_eq_false (by omega);have e2:decide (i ≥ 2^63)=false:=decide_eq_false (by omega);rw[e1,e2,Bool.or_false]) (by rw[h1];simpa using h2) ⟨.str ⟨#[c]⟩,H,I.tok _,⟨_,rfl⟩,q⟩) hs
def rIx(K:PySem.W.Frag):R2:=λx y H Q=>rIxL K x y H Q\/rIxT K x y H Q\/rIxS x y H Q
theorem z7z:IxR X (rIx X.K):=z2V.or (q9H.or z6B)
theorem q8d(its:List Value)(n j:Nat)(u:Value):Obj.mapSeq (·.setIfInBounds j u) {cls:=.type "list",data:=.seq its.toArray n} = {cls:=.type "list",data:=.seq (its.set j u).toArray n}:=by
 simp[Obj.mapSeq]
theorem Inv.lst{pins:List (Addr×Obj)}{σ:St}{H:Hp}{s:Shared}{p:Addr}{xs:List V}(I:Inv X pins σ H s)(h:H p=some (.lst xs)) :
  ∃(its:List Value) (n:Nat),Vals xs its/\s.heap.get? p=some {cls:=.type "list",data:=.seq its.toArray n} /\ xs.length<=sizeLine:=by
 obtain⟨z,its,n,r,e⟩:=I.hok p _ h;exact⟨its,n,r,e,z⟩
theorem Inv.lstUpd{pins:List (Addr×Obj)}{σ:St}{H:Hp}{s:Shared}{p:Addr}{xs ys:List V}{its its':List Value}{n n':Nat}{f:Obj->Obj}(I:Inv X pins σ H s)(h:H p=some (.lst xs))
  (ho:s.heap.get? p=some {cls:=.type "list",data:=.seq its.toArray n}) (hf:f {cls:=.type "list",data:=.seq its.toArray n} = {cls:=.type "list",data:=.seq its'.toArray n'}) (r:Vals ys its') (hz:ys.length<=sizeLine) (t:Nat) :
  Inv X pins σ (upd H p (.lst ys)) {s with heap:=s.heap.update p f,toks:=t}:=by
 have e:(s.heap.update p f).get? p=some {cls:=.type "list",data:=.seq its'.toArray n'}:=(by rw[Heap.get?_update_self f ho (by rw[hf]<;>rfl),hf]);refine I.write (x:=p) (e:=p) (by rw[h];trivial) (.inl rfl) (λb u hb q=>(Heap.get?_update_other _ _ (Ne.symm hb)).trans q) ⟨_,e⟩ ?_;exact⟨hz,its',n',r,e⟩
def z7Z:V->V->V->Hp->(Hp->Prop)->Prop:=λo i v H Q=>∃p xs k j,o=.ref p/\i=.int k/\H p=some (.lst xs)/\ixN xs.length k=some j/\Q (upd H p (.lst (xs.set j v)))
theorem z0U:PSet X z7Z:=by
 intro pins s σ H o i v ov iv u Q I ro ri rv h;obtain⟨p,xs,k,j,rfl,rfl,hp,hj,q⟩:=h;cases ro;obtain⟨t,rfl⟩:=ri;obtain⟨its,n,r,ho,hz⟩:=I.lst hp;obtain⟨h1,h2,h3,h4⟩:=z0f hj;have hl:=r.length;have hn:=q4p;have I':Inv X pins σ (upd H p (.lst (xs.set j v))) {s with heap:=s.heap.update p (Obj.mapSeq (·.setIfInBounds j u))}:=
  I.lstUpd hp ho (q8d its n j u) (r.set rv j) (by rw[List.length_set];exact hz) s.toks
 by_cases h0:0<=k
 ·have hk:k.toNat=j:=by
   rw[seqIndex_of h0 h4]at h1;exact Option.some.inj h1
  exact PySem.W.ki_setAt ho h0 (by omega) (by rw[List.size_toArray,←hl];exact h4) (by rw[hk];exact⟨_,I',q⟩)
 ·have hk:(k+(its.toArray.size:Int)).toNat=j:=by
   rw[seqIndex_neg (by omega) h3]at h1;rw[List.size_toArray,←hl];exact Option.some.inj h1
  exact PySem.W.ki_setBack ho (by omega) (by rw[List.size_toArray,←hl];exact h3) (by omega) (by rw[hk];exact⟨_,I',q⟩)
theorem q6e(lo hi:Option Int)(n:Nat):(sliceBounds lo hi none n).1=((HT.sIx n 0 lo:Nat):Int)/\(sliceBounds lo hi none n).2.1=((HT.sIx n n hi:Nat):Int)/\(sliceBounds lo hi none n).2.2=1:=by
 refine⟨?_,?_,rfl⟩
 ·cases lo with
  | none=>simp[sliceBounds,HT.sIx]
  | some i=>
   simp only[sliceBounds,HT.sIx,Option.getD_none,show(1:Int)>0 by decide,if_true];by_cases h:i<0
   ·simp only[h,if_true]<;>omega
   ·simp only[h,if_false]<;>omega
 ·cases hi with
  | none=>simp[sliceBounds,HT.sIx]
  | some i=>
   simp only[sliceBounds,HT.sIx,Option.getD_none,show(1:Int)>0 by decide,if_true];by_cases h:i<0
   ·simp only[h,if_true]<;>omega
   ·simp only[h,if_false]<;>omega
theorem q5p(its:List Value)(lo hi:Option Int):slicePick its.toArray lo hi none=((its.drop (HT.sIx its.length 0 lo)).take (HT.sIx its.length its.length hi - HT.sIx its.length 0 lo)).toArray:=by
 obtain⟨h1,h2,h3⟩:=q6e lo hi its.toArray.size;unfold slicePick;rw[h1,h2,h3];simp only[sliceRange_one,pick_run,List.size_toArray]<;>rfl
def rSlL(K:PySem.W.Frag):V->Option Int->Option Int->Hp->VK->Prop:=λx lo hi H Q=>∃a xs,x=.ref a/\SqL K H a xs/\∀p,H p=none->Q (.ref p) (upd H p (.lst (cutV xs lo hi)))
theorem z3s:SlR X (rSlL X.K):=by
 intro pins s σ H x v vl vu lo hi sl Q I rx hs pl pu h;obtain⟨a,xs,rfl,hx,q⟩:=h;cases rx;obtain⟨its,r,ht,hz⟩:=I.list hx;have hlen:=r.length;refine⟨"list",_,slot_list_getitem.lookup,ht.isList.typeIs,?_⟩;refine wpAny_getItem_list_slice ht.isList hs pl pu .none (by simp) ?_ (by rw[List.size_toArray]<;>omega);rw[q5p,←hlen];refine⟨.ref s.heap.objs.size,_,I.laid (t':=s.toks) (o:=.lst (cutV xs lo hi)) (λb ob q=>Heap.get?_push_of_some _ q) (Nat.le_refl _) ?_,rfl,q _ (I.hok.fresh (Nat.le_refl _))⟩;exact⟨Nat.le_trans (q4t xs lo hi) hz,_,0,(r.drop (HT.sIx xs.length 0 lo)).take (HT.sIx xs.length xs.length hi - HT.sIx xs.length 0 lo),Heap.get?_push_size _ rfl⟩
theorem q2u:q1q X (.builtin "len") (λxs H Q=>∃p ys,xs=[.ref p]/\(SqL X.K H p ys\/SqT X.K H p ys)/\Q (.int ys.length) H):=by
 intro pins s σ H xs us Q I r h;obtain⟨p,ys,rfl,hq,q⟩:=h;obtain⟨u,rfl,rx⟩:=q4X r;cases rx;have hn:=q4p;rcases hq with hq | hq
 ·obtain⟨its,r',pl,hz⟩:=I.list hq;have hlen:=r'.length;exact Calls.call_len_list pl.isList (by simp only[List.size_toArray]<;>omega) ⟨.int ys.length,H,I.tok _,⟨s.toks+1,by rw[List.size_toArray,hlen]⟩,q⟩
 ·obtain⟨its,r',pl,hz⟩:=I.tuple hq;have hlen:=r'.length;exact len_tuple pl (by simp only[List.size_toArray]<;>omega) ⟨.int ys.length,H,I.tok _,⟨s.toks+1,by rw[List.size_toArray,hlen]⟩,q⟩
theorem q6j:q1q X (.builtin "len") (λxs H Q=>∃z,xs=[.str z]/\z.length<=sizeLine/\Q (.int z.length) H):=by
 intro pins s σ H xs us Q I r h;obtain⟨z,rfl,hz,q⟩:=h;obtain⟨u,rfl,t,rfl⟩:=q4X r;have hn:=q4p;exact len_str (by omega) ⟨.int z.length,H,I.tok _,⟨_,rfl⟩,q⟩
theorem q1M:q1q X (.type "list") (λxs H Q=>∃p ys,xs=[.ref p]/\(SqL X.K H p ys\/SqT X.K H p ys)/\∀l,H l=none->Q (.ref l) (upd H l (.lst ys))):=by
 intro pins s σ H xs us Q I r h;obtain⟨p,ys,rfl,hq,q⟩:=h;obtain⟨u,rfl,rx⟩:=q4X r;cases rx;have fin:∀(its:List Value),Vals ys its->ys.length<=sizeLine->∀(h':Heap) (c':Nat),(∀b o',s.heap.get? b=some o'->h'.get? b=some o') ->
   h'.get? s.heap.objs.size=some {cls:=.type "list",dict:=none,data:=.seq its.toArray c',slots:=#[]} -> EP X pins σ Q (.ref s.heap.objs.size) {s with heap:=h'}:=λits r' hz h' c' kp e=>
  ⟨.ref s.heap.objs.size,_,I.laid (t':=s.toks) kp (Nat.le_refl _) (show q1J X.prog X.w _ h' _ (.lst ys)from⟨hz,its,c',r',e⟩),rfl,q _ (I.hok.fresh (Nat.le_refl _))⟩
 rcases hq with hq | hq
 ·obtain⟨its,r',pl,hz⟩:=I.list hq;have hlen:=r'.length;obtain⟨o,ho,hc,n,hd⟩:=pl.isList;exact call_list_seq p (.inl rfl) ho hc hd (λh' c' kp e=>fin its r' hz h' c' kp e) (by simp only[List.size_toArray]<;>omega)
 ·obtain⟨its,r',pl,hz⟩:=I.tuple hq;have hlen:=r'.length;obtain⟨o,ho,hc,n,hd⟩:=pl;exact call_list_seq p (.inr rfl) ho hc hd (λh' c' kp e=>fin its r' hz h' c' kp e) (by simp only[List.size_toArray]<;>omega)
theorem q3d:q1q X (.type "tuple") (λxs H Q=>∃p ys,xs=[.ref p]/\((SqL X.K H p ys/\∀l,H l=none->Q (.ref l) (upd H l (.tup ys)))\/(SqT X.K H p ys/\Q (.ref p) H))):=by
 intro pins s σ H xs us Q I r h;obtain⟨p,ys,rfl,h⟩:=h;obtain⟨u,rfl,rx⟩:=q4X r;cases rx;rcases h with⟨hq,q⟩ | ⟨hq,q⟩
 ·obtain⟨its,r',pl,hz⟩:=I.list hq;have hlen:=r'.length;refine call_tuple_list pl.isList (λh' kp=>?_) (by simp only[List.size_toArray]<;>omega);have I1:Inv X pins σ H {s with heap:=h'}:=I.kept (t':=s.toks) kp;have I2:Inv X pins σ (upd H h'.objs.size (.tup ys)) {s with heap:=h'.push {cls:=.type "tuple",data:=.seq its.toArray}}:=
   I1.laid (t':=s.toks) (λb o e=>Heap.get?_push_of_some _ e) (Nat.le_refl _) (show q1J X.prog X.w _ _ _ (.tup ys)from⟨hz,its,r',q3m.new _ _⟩)
  exact⟨.ref h'.objs.size,_,I2,rfl,q _ (I1.hok.fresh (Nat.le_refl _))⟩
 ·obtain⟨its,r',pl,hz⟩:=I.tuple hq;exact call_tuple_same pl ⟨.ref p,H,I,rfl,q⟩
def tyV(K:PySem.W.Frag)(T:String)(x:V)(H:Hp):Prop:=match x with
 | .str _=>T = "str"
 | .int _=>T = "int"
 | .ref p=>(T = "list" /\ ∃xs,SqL K H p xs)\/(T = "tuple" /\ ∃o,K.lookup p=some o/\o.cls=.type "tuple" /\ o.dict=none) \/
   (T = "dict" /\ ((∃kvs,H p=some (.dK kvs))\/∃kvs,H p=some (.dT kvs)))\/(T = "set" /\ ∃S n,H p=some (.set S n))
 | _=>False
theorem z2g{pins:List (Addr×Obj)}{σ:St}{H:Hp}{s:Shared}{T:String}{x:V}{v:Value}(I:Inv X pins σ H s)(r:RelV x v)(ty:tyV X.K T x H) :
  s.TypeIs v T/\∀a,v=.ref a->∃ob,s.heap.get? a=some ob/\ob.dict=none:=by
 cases x with
 | str z=>
  obtain⟨t,rfl⟩:=r;cases(show T = "str" from ty);exact⟨typeIs_str s z t,λ_ e=>nomatch e⟩
 | int i=>
  obtain⟨t,rfl⟩:=r;cases(show T = "int" from ty);exact⟨typeIs_int s i t,λ_ e=>nomatch e⟩
 | ref p=>
  cases r;rcases ty with⟨rfl,xs,hq⟩ | ⟨rfl,o,hk,hc,hd⟩ | ⟨rfl,hk⟩ | ⟨rfl,S,n,hk⟩
  ·obtain⟨its,_,pl,_⟩:=I.list hq;refine⟨pl.isList.typeIs,λa e=>?_⟩;cases e;obtain⟨o,n,e,c,hd,_⟩:=pl;exact⟨o,e,hd⟩
  ·refine⟨⟨o,I.kIn p o hk,hc⟩,λa e=>?_⟩;cases e;exact⟨o,I.kIn _ o hk,hd⟩
  ·have z:∃o,s.heap.get? p=some o/\o.ExactDict:=by
    rcases hk with⟨kvs,hk⟩ | ⟨kvs,hk⟩
    ·obtain⟨_,_,_,_,o,_,_,e,ex,_⟩:=I.hok p _ hk;exact⟨o,e,ex⟩
    ·obtain⟨_,_,_,_,o,_,_,e,ex,_⟩:=I.hok p _ hk;exact⟨o,e,ex⟩
   obtain⟨o,e,ex⟩:=z;refine⟨⟨o,e,ex.1⟩,λa e2=>?_⟩;cases e2;exact⟨o,e,ex.2.1⟩
  ·obtain⟨o,_,_,_,e,ex,_⟩:=I.hok p _ hk;refine⟨⟨o,e,ex.1⟩,λa e2=>?_⟩;cases e2;exact⟨o,e,ex.2.1⟩
 | _=>exact False.elim ty
def tBM0(K:PySem.W.Frag)(T:String)(r:V->List V->Hp->VK->Prop)(to:TE):TE:=λσ H Q=>to σ H λx H1=>tyV K T x H1/\r x [] H1 Q
def tBM(K:PySem.W.Frag)(T:String)(r:V->List V->Hp->VK->Prop)(to:TE)(t:TA):TE:=λσ H Q=>to σ H λx H1=>tyV K T x H1/\t σ H1 λxs H2=>r x xs H2 Q
variable {o e:Expr} {es:List Expr} {to:TE} {t:TA} {name:Str} {apos cpos:Pos} {T id:String} {r:V->List V->Hp->VK->Prop}
theorem z2p(pa:PlainAttrs T)(slot:Slot T name id)(hty:typeOf (.builtin id)=pure (.type "method_descriptor"))(hm:MtR X id r)(ho:PE X o to)
  (hbase:attributeBase o name X.env (eval o X.env)=eval o X.env:=by rfl) (hline:(apos.endLine==cpos.line)=true:=by rfl):PE X (.Call (.Attribute o name apos) [] [] cpos) (tBM0 X.K T r to):=by
 intro pins s σ H Q I h;refine wpAny_Call_method0_late hbase hline (thn (ho pins s σ H _ I h) λv s1 ⟨x,H1,I1,r1,ty,q1⟩=>?_);obtain⟨h1,h2⟩:=z2g I1 r1 ty;exact⟨T,id,pa,slot,hty,h1,h2,Calls.callWith_builtin rfl (PySem.evalArgs_none (hm pins s1 σ H1 x [] v [] Q I1 r1 .nil q1))⟩
theorem z5R(pa:PlainAttrs T)(slot:Slot T name id)(hty:typeOf (.builtin id)=pure (.type "method_descriptor"))(hm:MtR X id r)(ho:PE X o to)(ha:PA X (e::es) t)
  (hbase:attributeBase o name X.env (eval o X.env)=eval o X.env:=by rfl)
  (hfew:((backTo cpos (starEach (e::es) X.env)).all (λx=>!x.1)&&(backToKw cpos (keywordEach [] X.env)).all (λx=>x.1.isSome)
   && decide ((e::es).length+([]:List Keyword).length+(if([]:List Keyword).isEmpty then 0 else 1)<30))=true:=by rfl)
  (hline:(apos.endLine==cpos.line)=true:=by rfl) (hs:starEach (e::es) X.env=(false,eval e X.env)::starEach es X.env:=by rfl) (hplain:(backTo cpos (starEach es X.env)).any (·.1)=false:=by rfl) :
  PE X (.Call (.Attribute o name apos) (e::es) [] cpos) (tBM X.K T r to t):=by
 intro pins s σ H Q I h;refine wpAny_Call_method_late hbase hfew hline rfl (thn (ho pins s σ H _ I h) λv s1 ⟨x,H1,I1,r1,ty,q1⟩=>?_);obtain⟨h1,h2⟩:=z2g I1 r1 ty;refine⟨T,id,pa,slot,hty,h1,h2,?_⟩;have hA:=ha cpos pins s1 σ H1 _ I1 q1;rw[hs]at hA ⊢;refine Calls.callWith_builtin (by show(false||(backTo cpos (starEach es X.env)).any (·.1))=false;rw[hplain]<;>rfl) (Calls.evalArgs_plain ?_);exact thn hA λus s2 ⟨vs,H2,I2,r2,q2⟩=>hm pins s2 σ H2 x vs v us Q I2 r1 r2 q2
end
end L2
namespace L2
open PySem PySem.Spec PyProof.Rows
def MtM(X:Cx)(id:String)(r:V->List V->Hp->VK->Prop):Prop:=
 ∀(pins:List (Addr×Obj)) (s:Shared) (σ:St) (H:Hp) (x:V) (xs:List V) (v:Value) (us:List Value) (Q:VK),Inv X pins σ H s->RelV x v->Vals xs us->r x xs H Q ->
  wpAny (model X.prog X.w) X.A (call (.builtin id) (v::us)) (EP X pins σ Q) X.xe s
theorem Vals.unc{x:V}{xs:List V}{us:List Value}(h:Vals (x::xs) us):∃u ws,us=u::ws/\RelV x u/\Vals xs ws:=by
 cases h with
 | cons r t=>exact⟨_,_,rfl,r,t⟩
theorem Vals.nl{us:List Value}(h:Vals [] us):us=[]:=by cases h;rfl
theorem Vals.zero{us:List Value}(h:Vals [] us):us=[]:=by cases h;rfl
theorem Vals.one{x:V}{us:List Value}(h:Vals [x] us):∃u,us=[u]/\RelV x u:=by
 obtain⟨u,ws,rfl,r,t⟩:=h.unc;cases t.nl;exact⟨_,rfl,r⟩
theorem Vals.two{x y:V}{us:List Value}(h:Vals [x,y] us):∃u v,us=[u,v]/\RelV x u/\RelV y v:=by
 obtain⟨u,ws,rfl,r,t⟩:=h.unc;obtain⟨v,rfl,q⟩:=t.one;exact⟨_,_,rfl,r,q⟩
theorem Vals.rep{xs:List V}{us:List Value}(h:Vals xs us):∀k:Nat,Vals (List.replicate k xs).flatten (List.replicate k us).flatten
 | 0=>.nil
 | k+1=>by rw[List.replicate_succ,List.replicate_succ,List.flatten_cons,List.flatten_cons];exact Vals.append h (Vals.rep h k)
theorem q5Y(its:List Value):∀(k:Nat) (acc:List Value),
  List.foldl (λx1 x2=>x1++x2) acc.toArray (List.replicate k its.toArray)=(acc++(List.replicate k its).flatten).toArray
 | 0,acc=>by simp
 | k+1,acc=>by
  have e:acc.toArray++its.toArray=(acc++its).toArray:=by simp
  have e2:(acc++its)++(List.replicate k its).flatten=acc++(List.replicate (k+1) its).flatten:=(by rw[List.replicate_succ,List.flatten_cons,List.append_assoc]);rw[←e2,←q5Y its k (acc++its),←e,List.replicate_succ,List.foldl_cons]
section
variable {X:Cx} {pins:List (Addr×Obj)} {σ:St} {H:Hp} {s:Shared} {l b:Addr} {xs ys zs:List V}
theorem Inv.lset{its its':List Value}{n:Nat}{f:Array Value->Array Value}{t':Nat}(I:Inv X pins σ H s)(hH:H l=some (.lst xs))
  (e:s.heap.get? l=some {cls:=.type "list",data:=.seq its.toArray n}) (hf:f its.toArray=its'.toArray) (hv:Vals ys its') (hz:ys.length<=sizeLine) :
  Inv X pins σ (upd H l (.lst ys)) {s with heap:=s.heap.update l (Obj.mapSeq f),toks:=t'}:=by
 have q:=PySem.IsL.update e f;rw[hf]at q;refine I.write (x:=l) (e:=l) (by rw[hH];exact trivial) (.inl rfl) (λb' u hb hu=>(Heap.get?_update_other s.heap (Obj.mapSeq f) (Ne.symm hb)).trans hu) ⟨_,q⟩ ?_;exact⟨hz,its',_,hv,q⟩
theorem Inv.lnew{its:List Value}{t':Nat}(I:Inv X pins σ H s)(hv:Vals ys its)(hz:ys.length<=sizeLine) :
  Inv X pins σ (upd H s.heap.objs.size (.lst ys)) {s with heap:=s.heap.push {cls:=.type "list",data:=.seq its.toArray},toks:=t'}:=
 I.laid (λ_ _ q=>Heap.get?_push_of_some _ q) (Nat.le_refl _) ⟨hz,its,0,hv,Heap.get?_push_size _ rfl⟩
theorem Inv.fresh(I:Inv X pins σ H s):H s.heap.objs.size=none:=I.hok.fresh (Nat.le_refl _)
theorem Inv.lstM(I:Inv X pins σ H s)(hH:H l=some (.lst xs)):xs.length<=sizeLine/\∃(its:List Value) (n:Nat),Vals xs its/\xs.length=its.length/\s.heap.get? l=some {cls:=.type "list",data:=.seq its.toArray n}:=by
 obtain⟨z,its,n,r,e⟩:=I.hok l _ hH;exact⟨z,its,n,r,r.length,e⟩
theorem z0S{n:Nat}(h:n<=sizeLine):Builtin.List.listTooLong n=false:=by
 unfold Builtin.List.listTooLong;exact decide_eq_false (by omega)
end
section
variable {X:Cx}
def z3F:V->List V->Hp->VK->Prop:=λx vs H Q=>∃l xs y,x=.ref l/\vs=[y]/\H l=some (.lst xs)/\xs.length<sizeLine/\Q .non (upd H l (.lst (xs++[y])))
theorem q6n:MtM X "list.append" z3F:=by
 intro pins s σ H x vs v us Q I rx rv h;obtain⟨l,xs,y,rfl,rfl,hH,hz,q⟩:=h;cases rx;obtain⟨u,rfl,ru⟩:=rv.one;obtain⟨z,its,n,r,hl,e⟩:=I.lstM hH;refine call_meets F.slot_list_append ⟨_,e,rfl⟩ F.entry_list_append (F.args_list_append_2 _ _) (PySem.list_append l its.toArray n u (by rw[List.size_toArray];omega)) ⟨e,?_⟩;refine⟨.non,_,I.lset (its':=its++[u]) hH e (by simp) (r.append (.cons ru .nil)) ?_,rfl,q⟩;rw[List.length_append,List.length_singleton];omega
def z5r:V->List V->Hp->VK->Prop:=λx vs H Q=>∃l xs,x=.ref l/\vs=[]/\H l=some (.lst xs)/\Q .non (upd H l (.lst []))
theorem z1w:MtM X "list.clear" z5r:=by
 intro pins s σ H x vs v us Q I rx rv h;obtain⟨l,xs,rfl,rfl,hH,q⟩:=h;cases rx;have hus:=Vals.zero rv;subst hus;obtain⟨z,its,n,r,hl,e⟩:=I.lstM hH;refine call_meets F.slot_list_clear ⟨_,e,rfl⟩ F.entry_list_clear (F.args_list_clear_1 _) (AutoSeq1.list_clear_list_0 l its.toArray n (by rw[List.size_toArray];omega)) ⟨e,?_⟩;exact⟨.non,_,I.lset (its':=[]) (ys:=[]) hH e rfl .nil (Nat.zero_le _),rfl,q⟩
def rCat:R2:=λx y H Q=>∃l b xs zs,x=.ref l/\y=.ref b/\H l=some (.lst xs)/\H b=some (.lst zs)/\xs.length+zs.length<=sizeLine/\∀p,H p=none->Q (.ref p) (upd H p (.lst (xs++zs)))
theorem z6k:OpR X (binaryOp .Add) rCat:=by
 intro pins s σ H x y v u Q I rx ry h;obtain⟨l,b,xs,zs,rfl,rfl,hH,hB,hz,q⟩:=h;cases rx;cases ry;obtain⟨z,its,n,r,hl,e⟩:=I.lstM hH;obtain⟨z2,its2,n2,r2,hl2,e2⟩:=I.lstM hB;refine PySem.P.add_list e e2 ?_ (by rw[List.size_toArray,List.size_toArray];omega);have ea:its.toArray++its2.toArray=(its++its2).toArray:=by simp
 rw[ea];exact⟨.ref _,_,I.lnew (t':=s.toks) (r.append r2) (by rw[List.length_append];omega),rfl,q _ I.fresh⟩
def rRep:R2:=λx y H Q=>∃l k xs,x=.ref l/\y=.int k/\H l=some (.lst xs) /\ -(2^63)<=k/\k<2^63/\xs.length*k.toNat<=sizeLine /\
 ∀p,H p=none->Q (.ref p) (upd H p (.lst (List.replicate k.toNat xs).flatten))
theorem z4t{α:Type}(xs:List α)(k:Nat):(List.replicate k xs).flatten.length=k*xs.length:=by
 induction k with
 | zero=>simp
 | succ k ih=>rw[List.replicate_succ,List.flatten_cons,List.length_append,ih,Nat.succ_mul,Nat.add_comm]
theorem z5P:OpR X (binaryOp .Mult) rRep:=by
 intro pins s σ H x y v u Q I rx ry h;obtain⟨l,k,xs,rfl,rfl,hH,h1,h2,hz,q⟩:=h;cases rx;obtain⟨t,rfl⟩:=ry;obtain⟨z,its,n,r,hl,e⟩:=I.lstM hH;have hlen:its.toArray.size*k.toNat<=sizeLine:=by rw[List.size_toArray,←hl];exact hz
 have hcap:¬its.toArray.size*k.toNat>(2^63 - 1)/8:=by
  have:(sizeLine:Nat)<=(2^63 - 1)/8:=by decide
  omega
 have hfit:¬(!Builtin.List.listFitsIndex k)=true:=(by rw[fitsIndex_both h1 h2];exact Bool.false_ne_true);have hlong:¬Builtin.List.listTooLong (its.toArray.size*k.toNat)=true:=(by rw[z0S hlen];exact Bool.false_ne_true);have hnew:List.foldl (λx1 x2=>x1++x2) #[] (List.replicate (if its.toArray.isEmpty=true then 0 else k.toNat) its.toArray)=(List.replicate k.toNat its).flatten.toArray:=by
  have f0:∀m:Nat,List.foldl (λx1 x2=>x1++x2) #[] (List.replicate m its.toArray)=(List.replicate m its).flatten.toArray:=λm=>by have:=q5Y its m [];rw[List.nil_append]at this;exact this
  rw[f0];cases its with
  | nil=>simp
  | cons a r'=>rw[if_neg (by simp)]
 refine wpAny_binaryOp_repeat_ref (T:="list") (U:="int") (by decide) ⟨_,e,rfl⟩ (λs'=>typeIs_int s' k t) noFill_list_mul F.fills_int_mul F.slot_int_rmul repeat_list F.slot_int_index.lookup
  (call_meets F.slot_int_rmul (typeIs_int s k t) F.entry_int_rmul (F.args_int_rmul_2 _ _) (int___rmul___int_list k t l its.toArray n)
   ⟨e,rfl,⟨_,e,rfl⟩,call_meets F.slot_list_mul ⟨_,e,rfl⟩ F.entry_list_mul (F.args_list_mul_2 _ _) (AutoListH.list___mul___list_int_3 l its.toArray n k t hfit hcap hlong) ⟨e,?_⟩⟩)
 rw[hnew];exact⟨.ref _,_,I.lnew (t':=s.toks) (r.rep k.toNat) (by rw[z4t,Nat.mul_comm];exact hz),rfl,q _ I.fresh⟩
end
section
variable {prog:Program} {w:World} {A:Around} {E:Value->Shared->Prop} {s:Shared}
end
section
variable {X:Cx}
end
end L2
namespace Att
open PySem PySem.W PySem.Calls PyProof.Rows
theorem q3U{P:Params}{h:Heap}:∀(ns:List Int) (vs:List Value),WellAll P h vs (ns.map WData.int)->IntsAre vs ns:=by
 intro ns
 induction ns with
 | nil=>
  intro vs w;rw[List.map_nil]at w;cases w;exact .nil
 | cons n ns ih=>
  intro vs w;rw[List.map_cons]at w;cases w with
  | cons a b=>
   cases a;exact .cons _ _ (ih _ b)
theorem z0v{l:OpenLaw}{n:Nat}(hn:l.most=some n){P:Params}{h:Heap}{args:List WData}{vals:List Value}
  (hpre:l.row.toRowW.claim.pre args=true) (hwl:WellAll P h vals args) :
  ∃a vs ns,vals=[Value.ref a]/\args=[WData.list (ns.map WData.int)]/\h.get? a=some {cls:=.type "list",data:=.seq vs.toArray} /\ IntsAre vs ns/\ns.length<=n:=by
 have hsh:WShape.hasAll [] args [.list .int]=true:=(pre_splitW hpre).1;have hc:l.pre.holds [] {args:=args} = true:=(pre_splitW hpre).2;obtain⟨d,r,rfl,h1,h2⟩:=hasAllW_cons hsh;obtain rfl:=hasAllW_nil h2;obtain⟨xs,rfl,h3⟩:=hasW_list h1;obtain⟨ns,rfl⟩:=items_int h3;have hlen:ns.length<=n:=by
  unfold OpenLaw.pre at hc;have h4:(WTm.not (.lt (.lit (.int (n:Int))) (.len (.arg 0)))).holds [] {args:=[.list (ns.map .int)]} = true:=by have h4:=(holds_andW hc).1;rw[hn]at h4;exact h4
  have h5:=condW_of h4 (w_not (w_lt w_lit (w_len_list (w_arg rfl))));rw[List.length_map]at h5;refine Nat.le_of_not_lt λq=>?_;have q':(n:Int)<((ns.length:Nat):Int):=by omega
  first
   | (rw[decide_eq_true q']at h5;exact absurd h5 (by decide))
   | (simp at h5;omega)
 cases hwl with
 | cons w1 w2=>
  cases w2;cases w1 with
  | list ho hall=>exact⟨_,_,ns,rfl,rfl,ho,q3U ns _ hall,hlen⟩
theorem q9w(l:OpenLaw)(args:List WData):l.row.toRowW.claim.post args (.bool true) args=true:=
 postW_of (r:=l.row.toRowW) (X:=(true==true))
  (show WShape.has [] (.bool true) .bool=true by first | rfl | decide | simp[WShape.has,WShape.arms,WShape.armsAll])
  (show(WTm.eq .res (.lit (.bool true))).value [] {args:=args,res:=some (.bool true),after:=args} = some (.bool (true==true))from w_eq_bool (w_res rfl) w_lit) rfl
theorem attach_call{l:OpenLaw}{n:Nat}{q:Program}{loose:List Str}{XP:(Str->Option Value)->Heap->Prop}{YP:World->Heap->Prop}{d:DefRec}
  (hn:l.most=some n) (hdf:d.params.defaults=[])
  (call:∀(w:World) (s₀ s₁:Shared) (mg mb:Str->Option Value) (fa:Addr) (o:Obj) (pm cd doc:Value) (a:Addr) (vs:List Value) (ns:List Int),
   Ground q loose [] XP w s₀ mg mb s₁.heap->YP w s₁.heap ->
   s₁.heap.get? fa=some o->o.data=.func (docDef d.name d.params d.body d.scope pm cd doc)->s₁.heap.CodeRec cd d.name->mg d.name=some (.ref fa) ->
   s₁.heap.get? a=some {cls:=.type "list",data:=.seq vs.toArray} -> IntsAre vs ns->ns.length<=n->s₁.gens = #[] ->
   codeAny (model l.prog w) callerA (.call (.ref fa) ⟨[.ref a],[]⟩) (λr s'=>r=.ok (.ret (.bool true))/\OldK s₁.heap s'.heap/\s'.os=s₁.os/\AllBare s'.gens) s₁) :
  WalkO q loose XP YP l.row.toRowW d [] (λf vs=>PySem.call f vs):=by
 intro w s₀ s₁ mg mb G Y fa o pm cd doc dV kV ho hd hcd hD hmg hg args vals as hpre hlay hrd hwl hlo;obtain rfl:dV=.none:=Dflts.none hD hdf;obtain rfl:kV=.none:=Dflts.noKw hD;obtain⟨a,vs,ns,rfl,rfl,hobj,hints,hlen⟩:=z0v hn hpre hwl;refine enter_call (codeAny_mono (call w s₀ s₁ mg mb fa o pm cd doc a vs ns G Y ho (fd_plain hd) hcd hmg hobj hints hlen hg) λr s' hq=>?_);obtain⟨rfl,h2,h3,h4⟩:=hq;exact⟨.inl ⟨.bool true,.bool true,[],rfl,λ_=>rfl,.bool true,q9w l _,λ_=>⟨List.Pairwise.nil,λ_ hm=>(nomatch hm)⟩⟩,h2,h3,h4⟩
section
variable {prog:Program} {w:World} {A:Around} {E:Value->Shared->Prop} {s:Shared} {K:Frag}
def z9c(h:Heap)(L d:Addr):List (Addr×Obj):=(List.range h.objs.size).filterMap λa=>if a=L\/a=d then none else(h.get? a).map λo=>(a,o)
end
end Att
namespace L2
open PySem PySem.Spec PyProof.Rows
theorem q6b:∀{vs:List Value} {ns:List Int},IntsAre vs ns->Vals (ns.map V.int) vs
 | _,_,.nil=>.nil
 | _,_,.cons n t h=>.cons ⟨t,rfl⟩ (q6b h)
def Only(H:Hp):Prop:=∀b,H b=none\/∃o xs,H b=some (.frz o (.lst xs))
theorem z1v{P:Program}{w:World}{K:PySem.W.Frag}{mg mb:Str->Option Value}{CX:CXT}{k:Nat}{fa a:Addr}{fd:FuncData}{x:Str}{sp:Sp}{s₁:Shared}{vs:List Value}{ns:List Int}
  (KX:K.In s₁.heap) (hns:s₁.heap.Ns mainGlobals mg) (hb:s₁.heap.Ns builtinsNs mb) (hbb:∀x:Str,x ≠ "__name__" -> mb x=bootBuiltins x) (hlim:s₁.heap.NoLimit) (hg:s₁.gens = #[])
  (ha:s₁.heap.get? a=some {cls:=.type "list",data:=.seq vs.toArray}) (hi:IntsAre vs ns) (hl:ns.length<=sizeLine) (hr:Room k callerA)
  (F:∀base:Heap,K.In base->base.Ns mainGlobals mg->FnOk P w K mg base CX k fa fd [x] sp) (hbind:∀(s:Shared) (u:Value),BindsTo s fd ⟨[u],[]⟩ [(x,u)])
  (hsp:∀H:Hp,Only H->SqL K H a (ns.map V.int)->sp [.ref a] H (λv _=>v=.bl true) λ_ _ _=>False)
  (hCX:∀H e s',CX [] H s₁ (λ_ _ _=>False) e s'->False) :
  codeAny (model P w) callerA (.call (.ref fa) ⟨[.ref a],[]⟩) (λr s'=>r=.ok (.ret (.bool true))/\OldK s₁.heap s'.heap/\s'.os=s₁.os/\AllBare s'.gens) s₁:=by
 have rv:=q6b hi;have lenV:=hi.length;have core:∀H:Hp,Only H->SqL K H a (ns.map V.int)->HOk P w H s₁.heap->(∀b,H b≠none->b=a)->(H a≠none->K.lookup a=none) ->
   codeAny (model P w) callerA (.call (.ref fa) ⟨[.ref a],[]⟩) (λr s'=>r=.ok (.ret (.bool true))/\OldK s₁.heap s'.heap/\s'.os=s₁.os/\AllBare s'.gens) s₁:=by
  intro H hO hS hok hA hK;have base_of:∀{b:Addr} {o:Obj},s₁.heap.get? b=some o->H b=none->(hidT s₁.heap H).get? b=some o:=λe n=>z1s e n
  have noA:∀{b:Addr} {o:Obj} {es:Array DictEntry} {ep:Nat},s₁.heap.get? b=some o->o.data=.dict es ep->H b=none:=λ{b o es ep} e d=>by
   cases q:H b with
   | none=>rfl
   | some u=>
    have e':b=a:=hA b (by rw[q];simp);subst e';rw[ha]at e;cases e;have d':Data.seq vs.toArray _=Data.dict es ep:=d;cases d'
  have nsK:∀{b:Addr} {m:Str->Option Value},s₁.heap.Ns b m->(hidT s₁.heap H).Ns b m:=λ{b m} ⟨o,es,ep,e,d,r⟩=>⟨o,es,ep,base_of e (noA e d),d,r⟩;have hKb:K.In (hidT s₁.heap H):=λb o e=>base_of (KX b o e) (by
   cases q:H b with
   | none=>rfl
   | some u=>
    have e':b=a:=hA b (by rw[q];simp);subst e';rw[hK (by rw[q];simp)]at e;cases e)
  have hM:Mod K mg (hidT s₁.heap H):=⟨hKb,nsK hns,⟨mb,nsK hb,hbb⟩,let ⟨mc,h1,h2⟩:=hlim;⟨mc,nsK h1,h2⟩⟩;have e0:Env0 P w K mg (hidT s₁.heap H) callerA [] s₁ H:=⟨rfl,hM,λb o e=>z4n e,Nat.le_of_eq (z0b _ _),trivial,λb hb=>absurd (show b∈([]:List Addr)from hb) (by simp),hok,.of_eq hg⟩;refine codeAny_mono ((F _ hKb (nsK hns)).run callerA [] s₁ H ⟨[.ref a],[]⟩ [.ref a] [.ref a] _ _ hr e0 (hbind s₁ (.ref a)) (.cons rfl .nil) (hsp H hO hS)) λr s' h=>?_;cases r with
  | error e=>exact(hCX H e s' h).elim
  | ok fl=>
   cases fl with
   | next=>exact False.elim h
   | brk=>exact False.elim h
   | cont=>exact False.elim h
   | ret u=>
    obtain⟨v,H',os,bare,un,hok',r',q⟩:=h;have q':v=.bl true:=q;subst q';obtain rfl:u=Value.bool true:=r';refine⟨rfl,OldK.of_keep λb o e=>?_,os,bare⟩;cases q:H b with
    | none=>exact un.keep b o e q (by intro z;exact absurd (show b∈([]:List Addr)from z) (by simp)) (by simp)
    | some u=>
     rcases hO b with z | ⟨ob,xs,z⟩
     ·rw[q]at z;cases z
     ·have z2:=un.frzs b ob _ z;obtain⟨e1,_⟩:=hok b _ z;obtain⟨e2,_⟩:=hok' b _ z2;rw[e]at e1;cases e1;exact e2
 cases hk:K.lookup a with
 | some o=>
  have e:=KX a o hk;rw[ha]at e;cases e;refine core (λ_=>none) (λ_=>.inl rfl) (.inr ⟨_,vs.toArray,_,hk,rfl,rfl,rfl,by rw[List.size_toArray,lenV];exact hl,by simpa using rv⟩) (λb u z=>by have z':(none:Option HO)=some u:=z;cases z') (λb z=>absurd rfl z) λz=>absurd rfl z
 | none=>
  refine core (λb=>if b=a then some (.frz {cls:=.type "list",data:=.seq vs.toArray} (.lst (ns.map V.int)))else none) (λb=>?_) (.inl (.inr ⟨{cls:=.type "list",data:=.seq vs.toArray},if_pos rfl⟩)) (λb u z=>?_) (λb z=>?_) λ_=>hk
  ·by_cases hb:b=a
   ·exact .inr ⟨_,_,if_pos hb⟩
   ·exact .inl (if_neg hb)
  ·by_cases hb:b=a
   ·have z':=(if_pos hb).symm.trans z;cases z';subst hb;exact⟨ha,by rw[List.length_map];exact hl,vs,_,rv,ha⟩
   ·have z':=(if_neg hb).symm.trans z;cases z'
  ·by_cases hb:b=a
   ·exact hb
   ·exact absurd (if_neg hb) z
end L2
namespace L2
open PySem PySem.Spec PyProof.Rows
abbrev KOf{K:PySem.W.Frag}{h:Heap}(_:K.In h):PySem.W.Frag:=K
theorem walk_of{l:PySem.W.OpenLaw}{n k:Nat}{q:Program}{loose:List Str}{XP:(Str->Option Value)->Heap->Prop}{YP:World->Heap->Prop}{d:DefRec}{K:Params->PySem.W.Frag}{CX:World->CXT}{sp:World->Sp}{x:Str}
  (hn:l.most=some n) (hn2:n<=sizeLine) (hdf:d.params.defaults=[]) (hr:Room k callerA)
  (hY:∀(w:World) (h:Heap),YP w h->(K w.params).In h)
  (F:∀(w:World) (mg:Str->Option Value) (fa:Addr) (h:Heap),(K w.params).In h->h.Ns mainGlobals mg->mg d.name=some (.ref fa) ->
   ∃fd:FuncData,(∀(s:Shared) (u:Value),BindsTo s fd ⟨[u],[]⟩ [(x,u)]) /\
    ∀base:Heap,(K w.params).In base->base.Ns mainGlobals mg->FnOk l.prog w (K w.params) mg base (CX w) k fa fd [x] (sp w))
  (hsp:∀(w:World) (H:Hp) (a:Addr) (ns:List Int),ns.length<=n->Only H->SqL (K w.params) H a (ns.map V.int)->sp w [.ref a] H (λv _=>v=.bl true) λ_ _ _=>False)
  (hCX:∀(w:World) (H:Hp) (s:Shared) (e:Value) (s':Shared),CX w [] H s (λ_ _ _=>False) e s'->False) :
  PySem.W.WalkO q loose XP YP l.row.toRowW d [] (λf vs=>PySem.call f vs):=by
 refine Att.attach_call hn hdf λw s₀ s₁ mg mb fa o pm cd doc a vs ns G Y ho hd hcd hmg hobj hints hlen hg=>?_;have KX:=hY w _ Y;obtain⟨fd,hb,hF⟩:=F w mg fa _ KX G.T.g hmg;exact z1v KX G.T.g G.T.b G.T.builtins G.T.nolimit hg hobj hints (Nat.le_trans hlen hn2) hr hF hb (λH hO hS=>hsp w H a ns hlen hO hS) λH e s'=>hCX w H s₁ e s'
end L2
namespace L2
open PySem PySem.Spec PyProof.Rows
abbrev CX0:CXT:=λ_ _ _ _ _ _=>False
abbrev E0:XK:=λ_ _ _=>False
structure Fun(K:PySem.W.Frag)(x qual:Str)(st:Stmt)(f:Addr)(fd:FuncData):Prop where
 ex:∃(oc:Value) (od:Option Addr) (kV doc pm:Value) (an:Option Addr) (cdv ct:Value) (osl:Array (Option Value)),
  fd=PySem.W.fnOf x qual (q1d st) (q0N st) (q0f st) .none kV doc pm an cdv ct/\K.lookup f=some ⟨oc,od,.func fd,osl⟩/\PySem.W.codeIn K cdv qual=true
 kp:PySem.W.keepIn K (.ref f)=true
section
variable {P:Program} {w:World} {K:PySem.W.Frag} {mg:Str->Option Value} {base:Heap}
end
section
variable {X:Cx}
end
theorem iteF{A B:Prop}(h:B):if false=true then A else B:=by
 rw[if_neg Bool.false_ne_true];exact h
theorem iteT{A B:Prop}(h:A):if true=true then A else B:=by
 rw[if_pos rfl];exact h
def Same(H H':Hp):Prop:=∀b o,H b=some o->H' b=some o
theorem Same.refl(H:Hp):Same H H:=λ_ _ h=>h
theorem Same.trans{H H1 H2:Hp}(a:Same H H1)(b:Same H1 H2):Same H H2:=λc o h=>b c o (a c o h)
theorem Same.free{H H':Hp}(e:Same H H'){l:Addr}(h:H' l=Option.none):H l=Option.none:=by
 cases q:H l with
 | none=>rfl
 | some o=>
  rw[e l o q]at h;cases h
theorem Same.seq{K:PySem.W.Frag}{H H':Hp}{a:Addr}{xs:List V}(e:Same H H')(h:SqL K H a xs):SqL K H' a xs:=by
 rcases h with(h | ⟨o,h⟩) | h
 ·exact .inl (.inl (e _ _ h))
 ·exact .inl (.inr ⟨o,e _ _ h⟩)
 ·exact .inr h
end L2
end
noncomputable section
namespace L2
open PySem PySem.Spec PyProof.Rows
def q0n(cells:List (Str×Addr)):List (Str×NameKind)->List (Str×Addr)->List (Str×Addr)
 | [],acc=>acc
 | (n,k)::r,acc=>if(k==NameKind.free)=true then q0n cells r ((n,(cells.lookup n).getD 0)::acc)else q0n cells r acc
theorem q1T{env:Env}:∀(names:List (Str×NameKind)) (acc:List (Str×Addr)),(∀y∈names,y.2=NameKind.free->∃c,env.cells.lookup y.1=some c) ->
  (forIn names acc (λ(x:Str×NameKind) (cs:List (Str×Addr))=>(match x with | (name,kind)=>if(kind==NameKind.free)=true then(do let a ←cellOf env name;pure (ForInStep.yield ((name,a)::cs)))else pure (ForInStep.yield cs):Sem (ForInStep (List (Str×Addr))))):Sem (List (Str×Addr)))=pure (q0n env.cells names acc)
 | [],acc,_=>rfl
 | (n,k)::r,acc,h=>by
  have hr:∀y∈r,y.2=NameKind.free->∃c,env.cells.lookup y.1=some c:=λy hy=>h y (List.mem_cons_of_mem _ hy);rw[List.forIn_cons];by_cases hk:(k==NameKind.free)=true
  ·obtain⟨c,hc⟩:=h (n,k) List.mem_cons_self (beq_iff_eq.mp hk);have e1:cellOf env n=pure c:=by unfold cellOf;rw[hc]
   have e2:q0n env.cells ((n,k)::r) acc=q0n env.cells r ((n,c)::acc):=(by show(if(k==NameKind.free)=true then q0n env.cells r ((n,(env.cells.lookup n).getD 0)::acc)else q0n env.cells r acc)=_;rw[if_pos hk,hc];rfl);rw[e2,←q1T r ((n,c)::acc) hr];simp only[hk,if_true,e1];rfl
  ·have e2:q0n env.cells ((n,k)::r) acc=q0n env.cells r acc:=by
    show(if(k==NameKind.free)=true then q0n env.cells r ((n,(env.cells.lookup n).getD 0)::acc)else q0n env.cells r acc)=_;rw[if_neg hk]
   rw[e2,←q1T r acc hr];simp only[hk,if_false];rfl
theorem q2z{scope:Scope}{env:Env}(h:∀y∈scope.names,y.2=NameKind.free->∃c,env.cells.lookup y.1=some c):closureFor scope env=pure (q0n env.cells scope.names []):=by
 have q:=q1T (env:=env) scope.names [] h;unfold closureFor
 first
  | exact(congrArg (λt=>(t >>= λcs=>pure cs)) q).trans rfl
  | (simp only[q];rfl)
theorem q2f{cells:List (Str×Addr)}:∀{names:List (Str×NameKind)} {acc:List (Str×Addr)} {x:Str} {c:Addr},(∀y∈names,y.2=NameKind.free->∃c,cells.lookup y.1=some c) ->
  (x,c)∈q0n cells names acc->(x,c)∈acc\/(cells.lookup x=some c/\(x,NameKind.free)∈names)
 | [],acc,x,c,_,h=>.inl h
 | (n,k)::r,acc,x,c,hh,h=>by
  have hr:∀y∈r,y.2=NameKind.free->∃c,cells.lookup y.1=some c:=λy hy=>hh y (List.mem_cons_of_mem _ hy);unfold q0n at h;by_cases hk:(k==NameKind.free)=true
  ·rw[if_pos hk]at h;obtain⟨c',hc⟩:=hh (n,k) List.mem_cons_self (beq_iff_eq.mp hk);rcases q2f hr h with z | ⟨z1,z2⟩
   ·rcases List.mem_cons.mp z with z | z
    ·cases z;exact .inr ⟨by rw[hc];rfl,by rw[←beq_iff_eq.mp hk];exact List.mem_cons_self⟩
    ·exact .inl z
   ·exact .inr ⟨z1,List.mem_cons_of_mem _ z2⟩
  ·rw[if_neg hk]at h;rcases q2f hr h with z | ⟨z1,z2⟩
   ·exact .inl z
   ·exact .inr ⟨z1,List.mem_cons_of_mem _ z2⟩
theorem q2m{cells:List (Str×Addr)}:∀{names:List (Str×NameKind)} {acc:List (Str×Addr)} {y:Str×Addr},y∈acc->y∈q0n cells names acc
 | [],_,_,h=>h
 | (n,k)::r,acc,y,h=>by
  unfold q0n;split
  ·exact q2m (List.mem_cons_of_mem _ h)
  ·exact q2m h
theorem q2i{cells:List (Str×Addr)}:∀{names:List (Str×NameKind)} {acc:List (Str×Addr)} {x:Str} {c:Addr},(x,NameKind.free)∈names->cells.lookup x=some c->(x,c)∈q0n cells names acc
 | (n,k)::r,acc,x,c,h,hc=>by
  unfold q0n;rcases List.mem_cons.mp h with z | z
  ·cases z;rw[if_pos (show(NameKind.free==NameKind.free)=true from rfl),hc];exact q2m List.mem_cons_self
  ·split
   ·exact q2i z hc
   ·exact q2i z hc
theorem q1c:∀(names:List (Str×NameKind)) (n:Nat) (acc:List (Str×Addr)),cellsFrom n names acc=cellsFrom n names []++acc
 | [],_,_=>rfl
 | (x,k)::r,n,acc=>by
  unfold cellsFrom;split
  ·rw[q1c r (n+1) ((x,n)::acc),q1c r (n+1) [(x,n)],List.append_assoc];rfl
  ·exact q1c r n acc
theorem q2d:∀{names:List (Str×NameKind)} {n:Nat} {x:Str} {c:Addr},(x,c)∈cellsFrom n names []->(x,NameKind.cell)∈names
 | [],_,_,_,h=>nomatch h
 | (y,k)::r,n,x,c,h=>by
  unfold cellsFrom at h;by_cases hk:(k==NameKind.cell)=true
  ·rw[if_pos hk,q1c]at h;rcases List.mem_append.mp h with z | z
   ·exact List.mem_cons_of_mem _ (q2d z)
   ·have z':(x,c)=(y,n):=by simpa using z
    cases z';rw[beq_iff_eq.mp hk];exact List.mem_cons_self
  ·rw[if_neg hk]at h;exact List.mem_cons_of_mem _ (q2d h)
theorem q1Z{α:Type}{x:Str}:∀{l r:List (Str×α)},(l++r).lookup x=(l.lookup x).or (r.lookup x)
 | [],r=>by simp
 | (y,v)::l,r=>by
  rw[List.cons_append,List.lookup_cons,List.lookup_cons];cases hb:x==y with
  | true=>rfl
  | false=>exact q1Z
theorem q2O{α:Type}{x:Str}:∀{l:List (Str×α)},(∀c,(x,c)∉l)->l.lookup x=none
 | [],_=>rfl
 | (y,v)::l,h=>by
  rw[List.lookup_cons];cases hb:x==y with
  | true=>exact absurd (by rw[beq_iff_eq.mp hb];exact List.mem_cons_self) (h v)
  | false=>exact q2O λc hc=>h c (List.mem_cons_of_mem _ hc)
theorem q2R{α:Type}{x:Str}:∀{l:List (Str×α)} {c:α},(x,c)∈l->∃c',l.lookup x=some c'
 | (y,v)::l,c,h=>by
  rw[List.lookup_cons];cases hb:x==y with
  | true=>exact⟨v,rfl⟩
  | false=>
   rcases List.mem_cons.mp h with z | z
   ·cases z;rw[beq_self_eq_true]at hb;cases hb
   ·exact q2R z
theorem q0L{α:Type}{x:Str}:∀{l:List (Str×α)} {c:α},(l.map (·.1)).Nodup->(x,c)∈l->l.lookup x=some c
 | (y,v)::l,c,nd,h=>by
  rw[List.lookup_cons];rw[List.map_cons]at nd;have nd':=List.nodup_cons.mp nd;rcases List.mem_cons.mp h with z | z
  ·cases z;rw[beq_self_eq_true]
  ·have:x≠y:=λe=>nd'.1 (by rw[←e];exact List.mem_map.mpr ⟨_,z,rfl⟩);rw[beq_eq_false_iff_ne.mpr this];exact q0L nd'.2 z
theorem q1S{scope:Scope}{env:Env}{x:Str}:(relabel scope env).names.lookup x=(scope.names.lookup x).map λk=>if(k==NameKind.free&&env.scope.kind == .function&&env.kindOf x==some .cell)=true then NameKind.cell else k:=by
 unfold relabel;show(scope.names.map _).lookup x=_;generalize scope.names=l
 induction l with
 | nil=>rfl
 | cons y r ih=>
  obtain⟨n,k⟩:=y;rw[List.map_cons];show List.lookup x ((if(k==NameKind.free&&env.scope.kind == .function&&env.kindOf n==some .cell)=true then(n,NameKind.cell)else(n,k))::_)=_;have e:(if(k==NameKind.free&&env.scope.kind == .function&&env.kindOf n==some .cell)=true then(n,NameKind.cell)else(n,k))=(n,if(k==NameKind.free&&env.scope.kind == .function&&env.kindOf n==some .cell)=true then NameKind.cell else k):=by split<;>rfl
  rw[e,List.lookup_cons,List.lookup_cons];cases hb:x==n with
  | true=>rw[beq_iff_eq.mp hb];rfl
  | false=>exact ih
theorem q6P{M:Model}{A:Around}{E:Value->Shared->Prop}{s:Shared}{scope:Scope}{g:Addr}{cl:List (Str×Addr)}{q:Str}{env:Env}{Q:Env->Shared->Prop}
  (hQ:Q (newEnv scope s.heap.objs.size g (cellsFrom (s.heap.objs.size+1) scope.names cl) q none .none (some env) builtinsNs) {s with heap:=pushCells (s.heap.push {cls:=.type "dict",data:=.dict #[]}) scope.names}) :
  wpAny M A (newFunctionEnv scope g cl [] q none .none (some env)) Q E s:=by
 simp only[newFunctionEnv,Option.isSome_some,if_true];refine wpAny_bind (wpAny_alloc ?_);refine wpAny_bind (wpAny_layCells _ (λname kind cells=>by cases hkc:kind==NameKind.cell<;>simp[hkc]) _ _ _ _ ?_);rw[show({s with heap:=s.heap.push {cls:=.type "dict",data:=.dict #[]}}:Shared).heap.objs.size=s.heap.objs.size+1 from Heap.size_push ..];exact wpAny_bind (wpAny_pure (wpAny_pure hQ))
theorem q5U{prog:Program}{w:World}{A:Around}{R:Result->Shared->Prop}{s:Shared}{elt target iter:Expr}{ifs:List Expr}{scope:Scope}{pos:Pos}{it acc:Value}{env:Env}(I:Nat->Shared->Prop)
  (turn:∀n s,I n s->wpAny (model prog w) A (pyNext it) (λr s₁=>match r with
   | none=>R (.ok .next) s₁
   | some v=>wpAny (model prog w) A (letOwnedTupleGo target it v) (λ_ s₁'=>wpAny (model prog w) A (assign target env v) (λ_ s₂=>
     wpAny (model prog w) A (forIn ifs true λc r=>if r=true then do let ok ←isTrue c env (eval c env);pure (ForInStep.yield ok)else pure (ForInStep.yield r)) (λok s₃=>
      if ok=true then wpAny (model prog w) A (eval elt env) (λx s₄=>
       wpAny (model prog w) A (call (.builtin "list.append") [acc,x]) (λ_ s₅=>∃m,m<n/\I m s₅) (notedBy (model prog w) A env λe s'=>R (.error e) s') s₄) (notedBy (model prog w) A env λe s'=>R (.error e) s') s₃
      else ∃m,m<n/\I m s₃) (notedBy (model prog w) A env λe s'=>R (.error e) s') s₂) (notedBy (model prog w) A env λe s'=>R (.error e) s') s₁') (notedBy (model prog w) A env λe s'=>R (.error e) s') s₁) (notedBy (model prog w) A env λe s'=>R (.error e) s') s)
  (n:Nat) (h:I n s) :
  codeAny (model prog w) A (.compLoop (.ListComp elt [⟨target,iter,ifs,0⟩] scope pos) 0 it acc env) R s:=by
 refine codeAny_loop rfl I (λn s hI=>?_) n h;show wpAny _ A ((compTurn (.ListComp elt [⟨target,iter,ifs,0⟩] scope pos) 0 it acc env).onRaise (λx=>do noteFrame x env;theTreesLotGoes x)) _ _ s;refine wpAny_noted ?_;rw[compTurn_list];refine wpAny_bind (wpAny_standAt (wpAny_bind (wpAny_mono (turn n s hI) (λr s₁ h₁=>?_) λ_ _ h'=>h')));cases r with
 | none=>exact wpAny_pure h₁
 | some v=>
  refine wpAny_bind (wpAny_mono h₁ (λ_ s₁' h₁'=>?_) λ_ _ h'=>h');refine wpAny_bind (wpAny_mono h₁' (λ_ s₂ h₂=>wpAny_bind (wpAny_mono h₂ (λok s₃ h₃=>?_) λ_ _ h'=>h')) λ_ _ h'=>h');cases ok with
  | false=>exact wpAny_pure ⟨rfl,h₃⟩
  | true=>
   exact wpAny_bind (wpAny_bind (wpAny_mono h₃ (λx s₄ h₄=>wpAny_bind (wpAny_mono h₄ (λ_ s₅ h₅=>wpAny_pure (wpAny_pure ⟨rfl,h₅⟩)) λ_ _ h'=>h')) λ_ _ h'=>h'))
theorem HOk.track{P:Program}{w:World}{H:Hp}{h:Heap}{a:Addr}{o:HO}(x:HOk P w H h)(hn:H a=none)(new:q1J P w (upd H a o) h a o):HOk P w (upd H a o) h:=λb u e=>by
 by_cases hb:b=a
 ·subst hb;rw[q0D]at e;cases e;exact new
 ·rw[q0l hb]at e;exact(x b u e).stay (λc v _ q=>q) (λc q=>by rw[q0l (q0w q hn)];exact q) λc xs q=>by rw[q0l (q0w q hn)];exact q
theorem Un.track{fs ex:List Addr}{H H':Hp}{h h':Heap}{a:Addr}{o:HO}(u:Un fs ex H H' h h')(hn:H' a=none)(hh:h.get? a=none):Un fs ex H (upd H' a o) h h' where
 keep:=u.keep
 slot:=u.slot
 free:=λb ob q n hx=>by
  have:b≠a:=λz=>by rw[z,hh]at q;cases q
  rw[q0l this];exact u.free b ob q n hx
 there:=u.there
 tups:=λb xs q=>by have z:=u.tups b xs q;rw[q0l (q0w z hn)];exact z
 frzs:=λb ob xs q=>by have z:=u.frzs b ob xs q;rw[q0l (q0w z hn)];exact z
 tbls:=λb ps q=>by obtain⟨m,z⟩:=u.tbls b ps q;exact⟨m,by rw[q0l (q0w z hn)];exact z⟩
structure CompScope(N N':List Str)(sc osc:Scope)(fr:List (Option Nat)):Prop where
 kind:sc.kind=.function
 nd:N'.Nodup
 snd:(sc.names.map (·.1)).Nodup
 len:fr.length=N'.length
 fre:∀(j i:Nat),fr[j]? = some (some i)->∃x,N'[j]? = some x/\N[i]? = some x/\(x,NameKind.free)∈sc.names
 out:∀y∈sc.names,y.2=NameKind.free->osc.names.lookup y.1=some .cell\/osc.names.lookup y.1=some .free
def inner(fr:List (Option Nat))(σ:St):St:=fr.map λo=>o.bind λi=>(σ[i]?).join
def q0x(X:Cx)(scope:Scope)(N':List Str)(C:Addr)(cells:List (Str×Addr))(s₂:Shared)(H₂:Hp)(fp:List Addr):Cx:=
 {X with N:=N',s₀:=s₂,H₀:=H₂,env:=compEnvC scope cells C X.env,outer:=X.stack,stack:=X.stack,ex:=fp,fn:=λx=>scope.names.lookup x==some .cell,pn:=[],xe:=λ_ _=>False}
section
variable {X:Cx} {pins:List (Addr×Obj)} {σ:St} {H:Hp} {s₂:Shared} {N':List Str} {scope:Scope} {fr:List (Option Nat)} {fp:List Addr}
abbrev q1Y:Obj:={cls:=.type "list",dict:=none,data:=.seq ([]:List Value).toArray}
abbrev q5W:Obj:={cls:=.type "dict",data:=.dict #[]}
theorem z1q(S:CompScope X.N N' scope X.env.scope fr)(I:Inv X pins σ H s₂)(f:∀b∈fp,FpOk X pins H b)(ho:∀b∈fp,@LT.lt Nat _ b s₂.heap.objs.size){C:Nat}(hC:C=s₂.heap.objs.size+1){h4:Heap}(h4e:h4=pushCells ((s₂.heap.push q1Y).push q5W) scope.names) :
  Inv (q0x X scope N' C (cellsFrom (C+1) scope.names (q0n X.env.cells scope.names [])) s₂ H fp) [] (inner fr σ) H {s₂ with heap:=h4} /\ h4.get? s₂.heap.objs.size=some q1Y/\(∀b o,s₂.heap.get? b=some o->h4.get? b=some o):=by
 have hsz1:(s₂.heap.push q1Y).objs.size=s₂.heap.objs.size+1:=Heap.size_push ..;have hsz2:((s₂.heap.push q1Y).push q5W).objs.size=C+1:=by rw[Heap.size_push,hsz1,hC]
 have keep:∀b o,s₂.heap.get? b=some o->h4.get? b=some o:=λb o e=>by rw[h4e];exact pushCells_keeps _ _ b o (Heap.get?_push_of_some _ (Heap.get?_push_of_some _ e))
 have hD:h4.get? s₂.heap.objs.size=some q1Y:=by rw[h4e];exact pushCells_keeps _ _ _ _ (Heap.get?_push_of_some _ (Heap.get?_push_size _ rfl))
 have hns:h4.Ns C λ_=>none:=by have q:=(Heap.Ns.new (s₂.heap.push q1Y) (.type "dict")).keeps (pushCells_keeps scope.names _);rw[hsz1,←hC]at q;rw[h4e];exact q
 have ok:=cellsFrom_ok scope.names ((s₂.heap.push q1Y).push q5W) (C+1) [] ⟨λ_ _ hm=>(nomatch hm),List.Pairwise.nil⟩ (by rw[hsz2];exact Nat.le_refl _);rw[hsz2,←h4e]at ok;have hfree:∀y∈scope.names,y.2=NameKind.free->∃c,X.env.cells.lookup y.1=some c:=λy hy hk=>I.ok.has y.1 (S.out y hy hk);generalize hcl:q0n X.env.cells scope.names []=cl;have memcl:∀{x:Str} {c:Addr},(x,c)∈cl->X.env.cells.lookup x=some c/\(x,NameKind.free)∈scope.names:=λ{x c} hm=>by
  rw[←hcl]at hm;rcases q2f hfree hm with z | z
  ·exact nomatch z
  ·exact z
 generalize hown:cellsFrom (C+1) scope.names []=own at ok;have app:cellsFrom (C+1) scope.names cl=own++cl:=by rw[q1c,hown]
 rw[app];have memown:∀{x:Str} {c:Addr},(x,c)∈own->(x,NameKind.cell)∈scope.names:=λ{x c} hm=>by rw[←hown]at hm;exact q2d hm
 have L1:∀x c,(own++cl).lookup x=some c->((x,c)∈own)\/(X.env.cells.lookup x=some c/\(x,NameKind.free)∈scope.names/\own.lookup x=none):=λx c e=>by
  rw[q1Z]at e;cases q:own.lookup x with
  | some c'=>rw[q]at e;cases e;exact .inl (PySem.mem_of_lookup q)
  | none=>rw[q]at e;have z:=memcl (PySem.mem_of_lookup (show cl.lookup x=some c from e));exact .inr ⟨z.1,z.2,rfl⟩
 have own_ge:∀{x:Str} {c:Nat},(x,c)∈own->@LE.le Nat _ (C+1) c:=λ{x c} hm=>(ok.empty x c hm).2;have cell_lt:∀{x:Str} {c:Nat},X.env.cells.lookup x=some c->@LT.lt Nat _ c s₂.heap.objs.size:=λ{x c} e=>by obtain⟨v,z⟩:=I.cell x c e;exact z.lt
 have free_no:∀{x:Str},(x,NameKind.free)∈scope.names->own.lookup x=none:=λ{x} hm=>by refine q2O λc hc=>?_;have a:=q0L S.snd hm;have b:=q0L S.snd (memown hc);rw[a]at b;cases b
 have cl_get:∀{x:Str} {c:Addr},(x,NameKind.free)∈scope.names->X.env.cells.lookup x=some c->(own++cl).lookup x=some c:=λ{x c} hm hc=>by rw[q1Z,free_no hm];obtain⟨c',e⟩:=q2R (l:=cl) (by rw[←hcl];exact q2i hm hc);have z:=(memcl (PySem.mem_of_lookup e)).1;rw[hc]at z;cases z;exact e
 have hX:(q0x X scope N' C (own++cl) s₂ H fp).Ok:=by
  refine⟨I.ok.mod,S.kind,I.ok.glob,I.ok.blt,?_,λx y c h1 h2=>?_,λx hx=>?_,λx c hf hc=>?_,I.ok.hd,I.ok.frames,.inl rfl,λb hb=>⟨?_,λx c e=>?_⟩,I.bs,Nat.le_trans I.ok.bsz I.sz,λb o e hb=>?_,λb hb hs=>?_,I.stack,I.stkFree⟩
  ·show s₂.heap.objs.size<=C;rw[hC];exact Nat.le_succ _
  ·have h1:(own++cl).lookup x=some c:=h1;have h2:(own++cl).lookup y=some c:=h2;rcases L1 x c h1 with a | ⟨a,_⟩<;>rcases L1 y c h2 with b | ⟨b,_⟩
   ·exact name_of_addr ok.apart a b
   ·exfalso;have q1:=own_ge a;have q2:=cell_lt b;omega
   ·exfalso;have q1:=own_ge b;have q2:=cell_lt a;omega
   ·exact I.ok.inj x y c a b
  ·have hx':(relabel scope X.env).names.lookup x=some .cell\/(relabel scope X.env).names.lookup x=some .free:=hx;show ∃c,(own++cl).lookup x=some c;rw[q1S]at hx';cases q:scope.names.lookup x with
   | none=>rw[q]at hx';rcases hx' with z | z<;>cases z
   | some k=>
    have km:=PySem.mem_of_lookup q;by_cases k1:k=.cell
    ·subst k1;have z:=PySem.W.cellsFrom_some scope.names (C+1) [] (.inl q);rw[hown]at z;obtain⟨c,z⟩:=Option.isSome_iff_exists.mp z;exact⟨c,by rw[q1Z,z];rfl⟩
    ·by_cases k2:k=.free
     ·subst k2;obtain⟨c,e⟩:=hfree _ km rfl;exact⟨c,cl_get km e⟩
     ·exfalso;rw[q]at hx';have e0:(k==NameKind.free)=false:=beq_eq_false_iff_ne.mpr k2;simp only[Option.map_some,e0,Bool.false_and]at hx';rcases hx' with z | z
      ·exact k1 (by simpa using z)
      ·exact k2 (by simpa using z)
  ·have hf':(scope.names.lookup x==some .cell)=true:=hf;have q:scope.names.lookup x=some .cell:=by simpa using hf'
   have z:=PySem.W.cellsFrom_some scope.names (C+1) [] (.inl q);rw[hown]at z;obtain⟨c',z⟩:=Option.isSome_iff_exists.mp z;have hc':(own++cl).lookup x=some c:=hc;rw[q1Z,z]at hc';have e:c'=c:=Option.some.inj hc';subst e;have:=own_ge (PySem.mem_of_lookup z);show @LE.le Nat _ s₂.heap.objs.size c';omega
  ·have:=ho b hb;show @Ne Nat b C;omega
  ·rcases L1 x c e with a | ⟨a,_⟩
   ·have:=own_ge a;have:=ho b hb;show @Ne Nat c b;omega
   ·exact(f b hb).2.2.2.2.1 x c a
  ·rcases(f b hb).2.2.2.1 with z | z
   ·exact I.ok.noex b o e z
   ·exact absurd (Nat.lt_of_lt_of_le (Heap.lt_size e) (Nat.le_trans I.ok.bsz z)) (Nat.lt_irrefl _)
  ·rcases List.mem_cons.mp (I.stkSub b hs)with z | z
   ·exact(f b hb).2.1 z
   ·exact(f b hb).2.2.1 z
 refine⟨⟨hX,rfl,I.bare,Un.kept keep,⟨_,hns,λi x v e1 e2 e3=>?_⟩,λx c e=>?_,I.hok.fresh (by show @LE.le Nat _ s₂.heap.objs.size C;omega),λx c e=>?_,λp hp=>absurd (show p∈([]:List (Addr×Obj))from hp) (by simp),I.hok.kept keep,?_⟩,hD,keep⟩
 ·have e1:N'[i]? = some x:=e1;unfold inner at e2;rw[List.getElem?_map]at e2;cases q:fr[i]? with
  | none=>rw[q]at e2;cases e2
  | some o=>
   rw[q]at e2;cases o with
   | none=>cases e2
   | some j=>
    have e2':(σ[j]?).join=some v:=Option.some.inj e2;have hv:σ[j]? = some (some v):=by
     cases z:σ[j]? with
     | none=>rw[z]at e2';cases e2'
     | some o=>rw[z]at e2';rw[show o=some v from e2']
    obtain⟨x',a1,a2,a3⟩:=S.fre i j q;rw[e1]at a1;cases a1;obtain⟨m,hn,hl⟩:=I.loc;have ko:=S.out _ a3 rfl;obtain⟨u,r,l⟩:=hl j x v a2 hv (ko.elim (λz=>.inr (.inl z)) λz=>.inr (.inr z));rcases l with⟨k,_⟩ | ⟨k,c,e,z⟩
    ·have k':X.env.scope.names.lookup x=some .local:=k;rcases ko with w | w<;>(rw[show X.env.scope.names.lookup x=_ from w]at k';cases k')
    ·refine⟨u,r,.inr ⟨?_,c,cl_get a3 e,z.keeps keep⟩⟩;show(relabel scope X.env).names.lookup x=some .cell\/(relabel scope X.env).names.lookup x=some .free;rw[q1S,q0L S.snd a3];simp only[Option.map_some];split
     ·exact .inl rfl
     ·exact .inr rfl
 ·rcases L1 x c e with a | ⟨a,_⟩
  ·exact⟨none,(ok.empty x c a).1⟩
  ·obtain⟨v,z⟩:=I.cell x c a;exact⟨v,z.keeps keep⟩
 ·rcases L1 x c e with a | ⟨a,_⟩
  ·exact I.hok.fresh (by have:=own_ge a;show @LE.le Nat _ s₂.heap.objs.size c;omega)
  ·exact I.freeC x c a
 ·show(inner fr σ).length=N'.length;unfold inner;rw[List.length_map,S.len]
end
def PTs(X:Cx)(ifs:List Expr)(t:TT):Prop:=
 ∀(pins:List (Addr×Obj)) (s:Shared) (σ:St) (H:Hp) (Q:Bool->Hp->Prop),Inv X pins σ H s->t σ H Q ->
  wpAny (model X.prog X.w) X.A (forIn ifs true λc r=>if r=true then do let ok ←isTrue c X.env (eval c X.env);pure (ForInStep.yield ok)else pure (ForInStep.yield r)) (TP X pins σ Q) X.xe s
def tYes:TT:=λ_ H Q=>Q true H
theorem z3R{X:Cx}:PTs X [] tYes:=λ_ _ _ H _ I h=>wpAny_tests_nil ⟨H,I,h⟩
theorem z4c{X:Cx}{c:Expr}{t:TT}(h:PT X c t):PTs X [c] t:=λpins s σ H Q I hq=>wpAny_tests_one (h pins s σ H Q I hq)
def z4h(J:It)(g:TG)(tc:TT)(te:TE)(Fin:List V->Hp->Prop)(σ:St)(H:Hp):Prop:=
 ∃W:Nat->Nat->List V->St->Hp->Prop,(∃m,W 0 m [] σ H)/\∀i m ys σ H,W i m ys σ H ->
  (J.stop i H/\Fin ys H)\/(J.go i H/\ys.length<sizeLine/\∀x H',J.yld i H x H'->g x σ H' λσ2 H2=>tc σ2 H2 λb H3=>
   if b=true then te σ2 H3 λy H4=>∃m',m'<m/\W (i+1) m' (ys++[y]) σ2 H4 else ∃m',m'<m/\W (i+1) m' ys σ2 H3)
theorem Vals.snoc{xs:List V}{us:List Value}{x:V}{u:Value}(r:Vals xs us)(q:RelV x u):Vals (xs++[x]) (us++[u]):=r.append (.cons q .nil)
theorem q7s{X:Cx}{pins:List (Addr×Obj)}{σ:St}{H:Hp}{s₂:Shared}{N':List Str}{scope:Scope}{fr:List (Option Nat)}{fp:List Addr}{iter elt tg:Expr}{ifs:List Expr}{pos:Pos}{g:TG}{te:TE}{tc:TT}{it:Addr}{tn:Nat->Heap->Prop}{J:It}
  {E:Value->Shared->Prop} {Fin:List V->Hp->Prop} {RR:Value->Addr->Result->Shared->Prop}
  (S:CompScope X.N N' scope X.env.scope fr) (hc:X.calm=true)
  (hg:∀C cells s₂ H₂ fp,PG (q0x X scope N' C cells s₂ H₂ fp) tg g) (ht:∀C cells s₂ H₂ fp,PTs (q0x X scope N' C cells s₂ H₂ fp) ifs tc) (he:∀C cells s₂ H₂ fp,PE (q0x X scope N' C cells s₂ H₂ fp) elt te)
  (I:Inv X pins σ H s₂) (T:Turn X.prog X.w X.K tg J fp it tn) (st:tn 0 s₂.heap) (f:∀b∈fp,FpOk X pins H b) (h:z4h J g tc te Fin (inner fr σ) H)
  (hRR:∀D C H' s' m ys,Inv X pins σ (upd H' D (.lst ys)) s'->H' D=none->s'.heap.Ns C m->upd H' D (.lst ys) C=none->C≠X.env.locals->X.s₀.heap.objs.size<=C->(∀x c,X.env.cells.lookup x=some c->c≠C)->(∀p∈X.pn++pins,p.1≠C)->Fin ys H'->RR (.ref D) C (.ok .next) s') :
  wpAny (model X.prog X.w) X.A (newList []) (λacc s₃=>wpAny (model X.prog X.w) X.A (newFunctionEnv scope X.env.globals (q0n X.env.cells scope.names []) [] X.env.qual none .none (some X.env)) (λcenv s₄=>
   codeAny (model X.prog X.w) X.A (.compStart (.ListComp elt [⟨tg,iter,ifs,0⟩] scope pos) 0 (.ref it) acc {cenv with scope:=relabel scope X.env}) (RR acc cenv.locals) s₄) E s₃) E s₂:=by
 have ho:∀b∈fp,b<s₂.heap.objs.size:=λb hb=>by obtain⟨o,e,_⟩:=T.obj _ _ st b hb;exact Heap.lt_size e
 refine wpAny_newObj_type (q6P ?_);have hsz1:(s₂.heap.push q1Y).objs.size=s₂.heap.objs.size+1:=Heap.size_push ..;obtain⟨I4,hD4,keep⟩:=z1q (C:=s₂.heap.objs.size+1) S I f ho rfl rfl;show codeAny _ _ (.compStart _ 0 (.ref it) (.ref s₂.heap.objs.size) (compEnvC scope (cellsFrom ((s₂.heap.push q1Y).objs.size+1) scope.names (q0n X.env.cells scope.names [])) (s₂.heap.push q1Y).objs.size X.env)) (RR (.ref s₂.heap.objs.size) (s₂.heap.push q1Y).objs.size) {s₂ with heap:=pushCells ((s₂.heap.push q1Y).push q5W) scope.names};rw[hsz1];generalize hDe:s₂.heap.objs.size=D at *;generalize cellsFrom (D+1+1) scope.names (q0n X.env.cells scope.names [])=cells at *;generalize pushCells ((s₂.heap.push q1Y).push q5W) scope.names=h4 at *;have hfp:∀{pins':List (Addr×Obj)} {H':Hp},(∀b∈fp,H' b=none)->(∀p∈pins',p.1=D)->∀b∈fp,FpOk (q0x X scope N' (D+1) cells s₂ H fp) pins' H' b:=λ{pins' H'} hn hp b hb=>
  ⟨hn b hb,(I4.ok.exf b hb).1,I4.ok.exfs b hb,.inl hb,(I4.ok.exf b hb).2,λp hp' z=>by
   have hp':p∈([]:List (Addr×Obj))++pins':=hp';rw[List.nil_append]at hp';have:=ho b hb;rw[←z,hp p hp']at this;exact Nat.lt_irrefl _ this⟩
 obtain⟨W,⟨m0,w0⟩,turn⟩:=h;have hDC:D≠(q0x X scope N' (D+1) cells s₂ H fp).env.locals:=by show D≠D+1;omega
 have hDcell:∀x c,(q0x X scope N' (D+1) cells s₂ H fp).env.cells.lookup x=some c->c≠D:=λx c e z=>by
  obtain⟨v,o,hoc,hd⟩:=I4.cell x c e;have q:h4.get? D=some o:=by rw[←z];exact hoc
  rw[hD4]at q;cases q;cases hd
 have hDfs:D∉(q0x X scope N' (D+1) cells s₂ H fp).fs:=λz=>by
  obtain⟨_,o,ho',_⟩:=I4.ok.funs.mem z
  have:=Heap.lt_size ho';have e:s₂.heap.objs.size=D:=hDe;exact absurd this (by show ¬D<s₂.heap.objs.size;omega)
 have loop:codeAny (model X.prog X.w) X.A (.compLoop (.ListComp elt [⟨tg,iter,ifs,0⟩] scope pos) 0 (.ref it) (.ref D) (compEnvC scope cells (D+1) X.env)) (RR (.ref D) (D+1)) {s₂ with heap:=h4}:=by
  refine q5U (λn s'=>∃i ys its k σ' H',Inv (q0x X scope N' (D+1) cells s₂ H fp) [] σ' H' s'/\tn i s'.heap/\(∀b∈fp,H' b=none)/\H' D=none /\
   s'.heap.get? D=some {cls:=.type "list",data:=.seq (its:List Value).toArray k} /\ Vals ys its/\ys.length<=sizeLine/\W i n ys σ' H') ?_ m0
   ⟨0,[],[],_,_,H,I4,T.keep _ _ _ st λb _ o e=>keep b o e,λb hb=>(f b hb).1,I.hok.fresh (by omega),hD4,.nil,Nat.zero_le _,w0⟩
  rintro n s3 ⟨i,ys,its,k,σ3,H3,I3,st3,fr3,hD3,oD3,rv,hl,w3⟩
  have I3p:Inv (q0x X scope N' (D+1) cells s₂ H fp) [(D,{cls:=.type "list",data:=.seq its.toArray k})] σ3 H3 s3:=I3.pins_of λp hp=>by
   have e:p=(D,{cls:=.type "list",data:=.seq its.toArray k}):=by simpa using hp
   subst e;exact⟨oD3,hD3,hDC,hDfs,λv z=>by cases z⟩
  have pinD:∀p∈[((D:Addr),({cls:=.type "list",data:=.seq its.toArray k}:Obj))],p.1=D:=λp hp=>by
   have e:p=(D,{cls:=.type "list",data:=.seq its.toArray k}):=by simpa using hp
   subst e;rfl
  rcases turn i n ys σ3 H3 w3 with⟨stop,fin⟩ | ⟨go,hlt,step⟩
  ·refine thn (T.done (q0x X scope N' (D+1) cells s₂ H fp) rfl rfl rfl hc i _ s3 σ3 H3 _ I3p (hfp fr3 pinD) st3 stop) λr s4 ⟨hr,I4'⟩=>?_;subst hr;have oD:=(I4'.pin (D,_) (List.mem_append_right _ List.mem_cons_self)).1;have un:Un (frs X.stack) fp H H3 s₂.heap s4.heap:=I4'.base;have hn:s₂.heap.get? D=none:=Heap.get?_none_of_le (by rw[hDe];exact Nat.le_refl _);obtain⟨mC,hnC,_⟩:=I4'.loc;refine hRR D (D+1) H3 s4 mC ys (I.call' I4'.os (un.track hD3 hn) (I4'.hok.track hD3 ⟨hl,its,k,rv,oD⟩) I4'.bare λb hb=>?_) hD3 hnC ?_ ?_ ?_ (λx c e=>?_) (λp hp=>?_) fin
   ·obtain⟨_,f1,f2,f3,f4,f5⟩:=f b hb;exact⟨f3,f1,f4,f5⟩
   ·rw[q0l (show @Ne Nat (D+1) D by omega)];exact I4'.free
   ·have q:@LT.lt Nat _ X.env.locals s₂.heap.objs.size:=I.lt;show @Ne Nat (D+1) X.env.locals;omega
   ·have q:@LE.le Nat _ X.s₀.heap.objs.size s₂.heap.objs.size:=I.sz;show @LE.le Nat _ X.s₀.heap.objs.size (D+1);omega
   ·obtain⟨v,z⟩:=I.cell x c e;have q:@LT.lt Nat _ c s₂.heap.objs.size:=z.lt;show @Ne Nat c (D+1);omega
   ·have q:@LT.lt Nat _ p.1 s₂.heap.objs.size:=Heap.lt_size (I.pin p hp).1;show @Ne Nat p.1 (D+1);omega
  ·refine thn (T.item (q0x X scope N' (D+1) cells s₂ H fp) rfl rfl rfl hc i _ s3 σ3 H3 _ I3p (hfp fr3 pinD) st3 go) λr s4 ⟨u,hr,h4'⟩=>?_;subst hr;refine thn h4' λ_ s5 ⟨x,H5,I5,r5,y5,st5,fr5⟩=>?_;have I5':=I5.pinned (hfp fr5 pinD) (T.obj _ _ st5);refine wpAny_mono (hg (D+1) cells s₂ H fp _ s5 σ3 H5 x u _ I5' r5 (step x H5 y5)) (λ_ s6 ⟨σ6,H6,I6,q6⟩=>?_) λ_ _ z=>z.elim;refine wpAny_mono (ht (D+1) cells s₂ H fp _ s6 σ6 H6 _ I6 q6) (λb s7 ⟨H7,I7,q7⟩=>?_) λ_ _ z=>z.elim;have fpK:∀{H':Hp} {s':Shared},Inv (q0x X scope N' (D+1) cells s₂ H fp) ([(D,{cls:=.type "list",data:=.seq its.toArray k})]++q5G fp s5.heap) σ6 H' s'->tn (i+1) s'.heap/\(∀b∈fp,H' b=none)/\s'.heap.get? D=some {cls:=.type "list",data:=.seq its.toArray k} /\ H' D=none:=λ{H' s'} J'=>by
    refine⟨T.keep _ _ _ st5 λb hb o e=>(J'.pin (b,o) (List.mem_append_right _ (List.mem_append_right _ (q2K hb e)))).1,λb hb=>?_,?_,?_⟩
    ·obtain⟨o,e,d⟩:=T.obj _ _ st5 b hb;exact(J'.pin (b,o) (List.mem_append_right _ (List.mem_append_right _ (q2K hb e)))).2.1
    ·exact(J'.pin (D,_) (List.mem_append_right _ (List.mem_append_left _ List.mem_cons_self))).1
    ·exact(J'.pin (D,_) (List.mem_append_right _ (List.mem_append_left _ List.mem_cons_self))).2.1
   cases b with
   | false=>
    rw[if_neg Bool.false_ne_true]at q7 ⊢;obtain⟨m',hm,w7⟩:=q7;obtain⟨k1,k2,k3,k4⟩:=fpK I7;exact⟨m',hm,i+1,ys,its,k,σ6,H7,I7.pins_of (λp hp=>(nomatch hp)),k1,k2,k4,k3,rv,hl,w7⟩
   | true=>
    rw[if_pos rfl]at q7 ⊢;refine wpAny_mono (he (D+1) cells s₂ H fp _ s7 σ6 H7 _ I7 q7) (λy s8 ⟨v8,H8,I8,r8,q8⟩=>?_) λ_ _ z=>z.elim
    obtain⟨m',hm,w8⟩:=q8;obtain⟨k1,k2,k3,k4⟩:=fpK I8;have hits:its.length<=sizeLine:=by rw[←rv.length];exact hl
    refine append_at k3 (λh9 hs9 hD9=>?_) (by rw[List.size_toArray];exact hits);have I9:Inv (q0x X scope N' (D+1) cells s₂ H fp) [] σ6 H8 s8:=I8.pins_of λp hp=>(nomatch hp);refine⟨m',hm,i+1,ys++[v8],its++[y],k+1,σ6,H8,I9.turned (it:=D) (t':=s8.toks) (λb o hb e=>(hs9.2 b hb).trans e) k4 hDC (.inr (by show s₂.heap.objs.size<=D;omega)) hDcell (λp hp=>(nomatch hp)),?_,k2,k4,?_,rv.snoc r8,?_,w8⟩
    ·exact T.keep _ _ _ k1 λb hb o e=>(hs9.2 b (by have q:@LT.lt Nat _ b D:=ho b hb;show @Ne Nat b D;omega)).trans e
    ·rw[hD9,List.push_toArray]
    ·rw[List.length_append,List.length_singleton];omega
 exact codeAny_compStart_list loop (T.self X.A 0 _ _ _ (T.keep _ _ _ st λb _ o e=>keep b o e) loop)
def z2U(fr:List (Option Nat))(wi:TI)(g:TG)(tc:TT)(te:TE):TE:=λσ H Q=>wi σ H λJ H1=>z4h J g tc te (λys H'=>∀p,H' p=none->Q (.ref p) (upd H' p (.lst ys))) (inner fr σ) H1
theorem z4D{X:Cx}{N':List Str}{scope:Scope}{fr:List (Option Nat)}{iter elt tg:Expr}{ifs:List Expr}{pos:Pos}{wi:TI}{g:TG}{te:TE}{tc:TT}(S:CompScope X.N N' scope X.env.scope fr)(hc:X.calm=true)(hi:PI X tg iter wi)
  (hg:∀C cells s₂ H₂ fp,PG (q0x X scope N' C cells s₂ H₂ fp) tg g) (ht:∀C cells s₂ H₂ fp,PTs (q0x X scope N' C cells s₂ H₂ fp) ifs tc) (he:∀C cells s₂ H₂ fp,PE (q0x X scope N' C cells s₂ H₂ fp) elt te)
  (hs:∀x,foldedSetIterable iter X.env x=pure x:=by intro _;rfl):PE X (.ListComp elt [⟨tg,iter,ifs,0⟩] scope pos) (z2U fr wi g tc te):=by
 intro pins s σ H Q I h;rw[eval_ListComp];have hfree:∀y∈scope.names,y.2=NameKind.free->∃c,X.env.cells.lookup y.1=some c:=λy hy hk=>I.ok.has y.1 (S.out y hy hk)
 refine wpAny_comprehension_free (use:=none) rfl hs (q2z hfree) S.kind (λx hx hl=>q0L S.snd (by rw[←hl];exact hx)) (thn (hi pins s σ H _ I h) λv s1 h1=>thn h1 λitv s2 h2=>?_);obtain⟨it,fp,tn,J,H2,e,I2,T,st2,f2,w⟩:=h2;subst e;refine q7s (RR:=λacc C=>compPost (model X.prog X.w) X.A X.xe none (EP X pins σ Q) acc C) S hc hg ht he I2 T st2 f2 w ?_;intro D C H' s' m ys I' hD hnC hCn hCL hCs hCc hCp fin;exact⟨m,hnC,λh' hs'=>⟨.ref D,_,I'.turned (it:=C) (t':=s'.toks) (λb o hb e=>(hs'.2 b hb).trans e) hCn hCL (.inr hCs) hCc hCp,rfl,fin D hD⟩⟩
theorem q8c{X:Cx}{N':List Str}{scope:Scope}{fr:List (Option Nat)}{iter elt tg:Expr}{ifs:List Expr}{pos spos py:Pos}{y:Str}{i:Nat}{wi:TI}{g:TG}{te:TE}{tc:TT}(S:CompScope X.N N' scope X.env.scope fr)(hc:X.calm=true)(hN:X.N.Nodup)(hiN:X.N[i]? = some y)
  (hy:X.env.scope.names.lookup y=some .local) (hi:PI X tg iter wi)
  (hg:∀C cells s₂ H₂ fp,PG (q0x X scope N' C cells s₂ H₂ fp) tg g) (ht:∀C cells s₂ H₂ fp,PTs (q0x X scope N' C cells s₂ H₂ fp) ifs tc) (he:∀C cells s₂ H₂ fp,PE (q0x X scope N' C cells s₂ H₂ fp) elt te)
  (hsw:swapsWith (.ListComp elt [⟨tg,iter,ifs,0⟩] scope pos) (some (.Name y py)) spos.line X.env=pure true:=by rfl)
  (hs:∀x,foldedSetIterable iter X.env x=pure x:=by intro _;rfl):PS X (.Assign [.Name y py] (.ListComp elt [⟨tg,iter,ifs,0⟩] scope pos) spos) (tAsg (z2U fr wi g tc te) (q7Z i)):=by
 intro pins s σ H Dn I h;rw[exec_Assign_Name_used _ _ _ _ hsw];refine wpAny_bind (wpAny_standAt (wpAny_bind ?_));show wpAny _ _ (do let _ ←comprehension (.ListComp elt [⟨tg,iter,ifs,0⟩] scope pos) scope X.env _ (newList []) false (eval iter X.env) (some (assign (.Name y py) X.env))) _ _ s;have hfree:∀y∈scope.names,y.2=NameKind.free->∃c,X.env.cells.lookup y.1=some c:=λy hy hk=>I.ok.has y.1 (S.out y hy hk)
 refine wpAny_bind (wpAny_mono (wpAny_comprehension_free (use:=some (assign (.Name y py) X.env)) (Q:=λ_ s'=>SP X pins Dn .next s') rfl hs (q2z hfree) S.kind (λx hx hl=>q0L S.snd (by rw[←hl];exact hx))
  (thn (hi pins s σ H _ I h) λv s1 h1=>thn h1 λitv s2 h2=>?_)) (λ_ s' hq=>wpAny_pure (wpAny_pure hq)) λ_ _ e=>e)
 obtain⟨it,fp,tn,J,H2,e,I2,T,st2,f2,w⟩:=h2;subst e;refine q7s (RR:=λacc C=>compPost (model X.prog X.w) X.A X.xe (some (assign (.Name y py) X.env)) (λ_ s'=>SP X pins Dn .next s') acc C) S hc hg ht he I2 T st2 f2 w ?_;intro D C H' s' m ys I' hD hnC hCn hCL hCs hCc hCp fin;refine wpAny_assign_Name (q5L (v:=.ref D) I' hN hiN (Or.inl hy) rfl (λs'' I'' ⟨a,hsb,ha⟩=>⟨m,hnC.sameBut hsb ?_,λh' hs'=>⟨_,_,I''.turned (it:=C) (t':=s''.toks) (λb o hb e=>(hs'.2 b hb).trans e) hCn hCL (.inr hCs) hCc hCp,fin D hD⟩⟩) (.inr hy));rcases ha with z | z
 ·rw[z];exact hCL
 ·exact Ne.symm (hCc y a z)
end L2
end
noncomputable section
namespace L2
open PySem PySem.Spec PyProof.Rows
theorem q1J.there{P:Program}{w:World}{H:Hp}{h:Heap}{a:Addr}{o:HO}(x:q1J P w H h a o):∃ob,h.get? a=some ob:=by
 cases o with
 | lst xs=>obtain⟨_,_,_,_,e⟩:=x;exact⟨_,e⟩
 | tup xs=>obtain⟨_,_,_,ob,e,_⟩:=x;exact⟨_,e⟩
 | dK kvs=>obtain⟨_,_,_,_,o,_,_,e,_⟩:=x;exact⟨_,e⟩
 | dT kvs=>obtain⟨_,_,_,_,o,_,_,e,_⟩:=x;exact⟨_,e⟩
 | set S n=>obtain⟨o,_,_,_,e,_⟩:=x;exact⟨_,e⟩
 | ins C dx fs=>obtain⟨_,_,_,e,_⟩:=x;exact⟨_,e⟩
 | own y=>obtain⟨_,e⟩:=x;exact⟨_,e⟩
 | xd fs=>obtain⟨_,⟨_,_,_,e,_⟩,_⟩:=x;exact⟨_,e⟩
 | rng lo hi=>obtain⟨_,_,_,e⟩:=x;exact⟨_,e⟩
 | frz ob u=>obtain⟨e,_⟩:=x;exact⟨_,e⟩
 | tbl ps=>exact⟨_,(show h.get? a=some _ from x)⟩
 | met f y=>exact⟨_,(show h.get? a=some _ from x)⟩
 | ext φ=>obtain⟨_,⟨_,e⟩,_⟩:=x;exact⟨_,e⟩
structure Fly(P:Program)(w:World)(base:Heap)(l:List Env)(ea:Addr)(C:Value)(H:Hp)(B h:Heap):Prop where
 fly:∃a0,Heap.FlyingW B l ea C a0 h
 bas:∀b o,base.get? b=some o->B.get? b=some o
 hok:HOk P w H B
theorem Fly.stays{P:Program}{w:World}{base:Heap}{l:List Env}{ea:Addr}{C:Value}{H:Hp}{B h:Heap}(F:Fly P w base l ea C H B h):∀b o,B.get? b=some o->h.get? b=some o:=by
 obtain⟨a0,f⟩:=F.fly;exact f.1
theorem Fly.newE{P:Program}{w:World}{base:Heap}{l:List Env}{ea:Addr}{C:Value}{H:Hp}{B h:Heap}(F:Fly P w base l ea C H B h):B.get? ea=none:=by
 obtain⟨a0,f⟩:=F.fly;exact f.2.1
theorem Fly.untr{P:Program}{w:World}{base:Heap}{l:List Env}{ea:Addr}{C:Value}{H:Hp}{B h:Heap}(F:Fly P w base l ea C H B h):H ea=none:=by
 cases q:H ea with
 | none=>rfl
 | some o=>
  obtain⟨ob,e⟩:=(F.hok ea o q).there;rw[F.newE]at e;cases e
def CXx(P:Program)(w:World)(base:Heap):CXT:=λouter H s E e s'=>∃(ea:Addr) (C:Value) (H':Hp) (B:Heap),e=.ref ea/\s'.os=s.os/\AllBare s'.gens/\Un (frs outer) [] H H' s.heap s'.heap /\
 Fly P w base outer ea C H' B s'.heap/\(∀b o,s.heap.get? b=some o->b∉frs outer->∃o',B.get? b=some o')/\E C none H'
theorem Un.flown{fs ex:List Addr}{H H':Hp}{h0 h1 h2 B:Heap}(u:Un fs ex H H' h0 h1)(cov:∀b o,h0.get? b=some o->b∉fs->b∉ex->∃o',B.get? b=some o')(s1:∀b o,B.get? b=some o->h1.get? b=some o)(s2:∀b o,B.get? b=some o->h2.get? b=some o)
  (up:h1.UpToSlots h2) (fd:∀b∈fs,b∉ex/\H b=none/\∀o,h0.get? b=some o->∀vs,o.data ≠ .fields vs):Un fs ex H H' h0 h2:=by
 have keep:∀b o,h0.get? b=some o->H b=none->b∉fs->b∉ex->h2.get? b=some o:=λb o e n hb hx=>by have e1:=u.keep b o e n hb hx;obtain⟨o',q⟩:=cov b o e hb hx;have q1:=s1 b o' q;rw[e1]at q1;cases q1;exact s2 b o q
 have slot:∀b o,h0.get? b=some o->H b=none->b∈fs->b∉ex->∃sl,h2.get? b=some {o with slots:=sl}:=λb o e n hb hx=>by obtain⟨sl,e1⟩:=u.slot b o e n hb hx;obtain⟨sl',e2⟩:=up b _ e1 ((fd b hb).2.2 o e);exact⟨sl',e2⟩
 refine⟨keep,slot,u.free,λb o e hx=>?_,u.tups,u.frzs,u.tbls⟩;by_cases hb:b∈fs
 ·obtain⟨sl,q⟩:=slot b o e (fd b hb).2.1 hb hx;exact⟨_,q⟩
 ·obtain⟨o',q⟩:=cov b o e hb hx;exact⟨o',s2 b o' q⟩
section
variable {X:Cx} {pins:List (Addr×Obj)} {σ:St} {H:Hp} {s:Shared}
theorem Inv.frameData(I:Inv X pins σ H s):∀b∈X.fs,b∉X.ex/\X.H₀ b=none/\∀o,X.s₀.heap.get? b=some o->∀vs,o.data ≠ .fields vs:=λb hb=>by
 refine⟨λz=>I.ok.exfs b z hb,I.ok.frf b hb,λo e=>?_⟩;obtain⟨_,o',e',d⟩:=I.ok.funs.mem hb
 rw[e]at e';cases e';exact d
theorem Inv.notStk(I:Inv X pins σ H s){b:Addr}{o:Obj}(e:X.s₀.heap.get? b=some o)(hb:b∉X.fs):b∉frs X.stack:=λz=>by
 rcases List.mem_cons.mp (I.stkSub b z)with q | q
 ·exact absurd (Nat.lt_of_lt_of_le (Heap.lt_size e) I.ok.above) (by rw[q];exact Nat.lt_irrefl _)
 ·exact hb q
theorem Inv.flown{h':Heap}{t':Nat}{l:List Env}{ea:Addr}{C:Value}{B:Heap}(I:Inv X pins σ H s)(F:Fly X.prog X.w X.base l ea C H B s.heap)(cov:∀b o,X.s₀.heap.get? b=some o->b∉frs X.stack->b∉X.ex->∃o',B.get? b=some o')
  (pc:∀p∈X.pn++pins,∃o',B.get? p.1=some o') (st:∀b o,B.get? b=some o->h'.get? b=some o) (up:s.heap.UpToSlots h'):Inv X pins σ H {s with heap:=h',toks:=t'}:=by
 have cellK:∀c v,s.heap.IsCell c v->h'.IsCell c v:=λc v ⟨o,ho,hd⟩=>by obtain⟨sl,q⟩:=up c o ho (λvs z=>by rw[hd]at z;cases z);exact⟨_,q,hd⟩
 refine⟨I.ok,I.os,I.bare,I.base.flown (λb o e hb hx=>cov b o e (I.notStk e hb) hx) F.stays st up I.frameData,?_,λx c e=>?_,I.free,I.freeC,λp hp=>?_,F.hok.kept st,I.len⟩
 ·obtain⟨m,hn,hl⟩:=I.loc;refine⟨m,up.ns hn,λi x v e1 e2 e3=>?_⟩;obtain⟨u,r,l⟩:=hl i x v e1 e2 e3;refine⟨u,r,?_⟩;rcases l with l | ⟨k,c,e,z⟩
  ·exact .inl l
  ·exact .inr ⟨k,c,e,cellK c _ z⟩
 ·obtain⟨v,z⟩:=I.cell x c e;exact⟨v,cellK c v z⟩
 ·obtain⟨e,n,ne,nf,d⟩:=I.pin p hp;obtain⟨o',q⟩:=pc p hp;have q1:=F.stays _ _ q;rw[e]at q1;cases q1;exact⟨st _ _ q,n,ne,nf,d⟩
end
section
variable {P:Program} {w:World} {K:PySem.W.Frag} {mg:Str->Option Value} {base:Heap} {N:List Str} {qual:Str} {scope:Scope} {f:Addr} {cd:Value} {A:Around} {outer:List Env} {s:Shared} {H:Hp} {E:XK}
abbrev cxD(P:Program)(w:World)(K:PySem.W.Frag)(mg:Str->Option Value)(base:Heap)(N:List Str)(qual:Str)(scope:Scope)(f:Addr)(cd:Value)(A:Around)(outer:List Env)(s:Shared)(H:Hp)(E:XK):Cx:=
 cxOf (CXx P w base) P w K mg base N qual scope f cd A outer s H E
theorem q6C{pins:List (Addr×Obj)}{σ:St}{H1:Hp}{s1:Shared}{h':Heap}{ea:Addr}{C:Value}{vs:List Value}(I:Inv (cxD P w K mg base N qual scope f cd A outer s H E) pins σ H1 s1)(hx:Heap.MadeExcOf s1.heap h' ea C vs)(hE:E C none H1) :
  (cxD P w K mg base N qual scope f cd A outer s H E).xe (.ref ea) {s1 with heap:=h'}:=by
 have hstk:=I.stack;have hin:∀env∈(cxD P w K mg base N qual scope f cd A outer s H E).stack,∀a,env.frame=some a->a∈frs (cxD P w K mg base N qual scope f cd A outer s H E).stack:=λenv he b hb=>List.mem_filterMap.mpr ⟨env,he,hb⟩;have hB1:∀b o,(PySem.W.hideAll s1.heap (frs (cxD P w K mg base N qual scope f cd A outer s H E).stack)).get? b=some o->s1.heap.get? b=some o:=λb o q=>PySem.W.of_hideAll _ q;have hHid:∀b u,H1 b≠none->s1.heap.get? b=some u->(PySem.W.hideAll s1.heap (frs (cxD P w K mg base N qual scope f cd A outer s H E).stack)).get? b=some u:=λb u hb q=>PySem.W.hideAll_get _ q λz=>hb (I.stkFree b z);refine wpAny_leaves_madeW (base:=PySem.W.hideAll s1.heap (frs (cxD P w K mg base N qual scope f cd A outer s H E).stack)) (h:=s1.heap) I.ok.frames rfl hB1 (PySem.W.funFrames_hide hstk hin) hx λh2 t fl tup nt up=>?_;have hcov:∀b o,s.heap.get? b=some o->b∉frs outer->∃o',(PySem.W.hideAll s1.heap (frs (cxD P w K mg base N qual scope f cd A outer s H E).stack)).get? b=some o':=λb o e hb=>by obtain⟨o1,e1⟩:=I.base.there b o e (by intro z;exact nomatch z);exact⟨o1,PySem.W.hideAll_get _ e1 (I.notStk e hb)⟩
 refine⟨ea,C,H1,_,rfl,I.os,I.bare,I.base.flown (λb o e hb _=>hcov b o e hb) hB1 fl.1 ((Heap.UpToSlots.of_keeps hx.keeps).trans up) I.frameData,⟨⟨_,fl⟩,λb o e=>?_,λa o q=>?_⟩,hcov,hE⟩
 ·refine PySem.W.hideAll_get _ (I.bk b o e) λz=>?_;have q:base.get? b=none:=(hstk.mem z).1;rw[q]at e;cases e
 ·refine(I.hok a o q).stay (λb u hc e=>hHid b u ?_ e) (λ_ z=>z) λ_ _ z=>z;rcases hc with z | z
  ·subst z;rw[q];intro z;cases z
  ·rw[z];intro z;cases z
theorem z0R{pins:List (Addr×Obj)}{σ:St}{H1:Hp}{s1:Shared}{ea:Addr}{C:Value}{B:Heap}(I:Inv (cxD P w K mg base N qual scope f cd A outer s H E) pins σ H1 s1)(F:Fly P w base (cxD P w K mg base N qual scope f cd A outer s H E).stack ea C H1 B s1.heap)
  (cov:∀b o,s.heap.get? b=some o->b∉frs (cxD P w K mg base N qual scope f cd A outer s H E).stack->∃o',B.get? b=some o') (hE:E C none H1):(cxD P w K mg base N qual scope f cd A outer s H E).xe (.ref ea) s1:=by
 obtain⟨a0,fl⟩:=F.fly;refine wpAny_leaves_onW I.ok.frames rfl fl λh2 fl2 up=>?_
 have hcov:∀b o,s.heap.get? b=some o->b∉frs outer->∃o',B.get? b=some o':=λb o e hb=>cov b o e (I.notStk e hb);exact⟨ea,C,H1,B,rfl,I.os,I.bare,I.base.flown (λb o e hb _=>hcov b o e hb) F.stays fl2.1 up I.frameData,⟨⟨_,fl2⟩,F.bas,F.hok⟩,hcov,hE⟩
theorem q7Q:z0h (CXx P w base) (cxD P w K mg base N qual scope f cd A outer s H E) E:=by
 intro pins σ H0 s0 e s' I hcx;obtain⟨ea,C,H',B,rfl,os,bare,un,F,cov,hE⟩:=hcx;have I':Inv (cxD P w K mg base N qual scope f cd A outer s H E) pins σ H' s':=I.call' os un (F.hok.kept F.stays) bare λb hb=>nomatch hb
 refine z0R I' F (λb o e hb=>?_) hE;obtain⟨o1,e1⟩:=I.base.there b o e (by intro z;exact nomatch z);exact cov b o1 e1 hb
end
def excO(ea:Addr)(C:Value):HO:=.ext λh=>∃oe vs,h.get? ea=some oe/\oe.cls=C/\oe.data=.fields vs
theorem z4k{P:Program}{w:World}{H:Hp}{h:Heap}{ea:Addr}{C:Value}(x:∃oe vs,h.get? ea=some oe/\oe.cls=C/\oe.data=.fields vs):q1J P w H h ea (excO ea C):=by
 refine⟨x,?_,λh1 h2 p k=>?_⟩
 ·obtain⟨oe,_,e,_⟩:=x;exact⟨oe,e⟩
 ·obtain⟨oe,vs,e,c,d⟩:=p;exact⟨oe,vs,k oe e,c,d⟩
def XP(X:Cx)(pins:List (Addr×Obj))(E:St->Value->Hp->Prop)(e:Value)(s':Shared):Prop:=∃(ea:Addr) (C:Value) (σ':St) (H':Hp) (B:Heap),e=.ref ea/\Inv X pins σ' H' s'/\Fly X.prog X.w X.base X.stack ea C H' B s'.heap /\
 (∀b o,X.s₀.heap.get? b=some o->b∉frs X.stack->b∉X.ex->∃o',B.get? b=some o')/\(∀p∈X.pn++pins,∃o',B.get? p.1=some o')/\E σ' C H'
abbrev Cx.tryIn(X:Cx)(pins:List (Addr×Obj))(E:St->Value->Hp->Prop):Cx:={X with pn:=X.pn++pins,xe:=XP X pins E}
abbrev Cx.inExc(X:Cx)(ea:Addr):Cx:={X with A:=X.A.mark (some (.ref ea)),calm:=false,xe:=λ_ _=>False}
section
variable {X:Cx} {pins pins':List (Addr×Obj)} {σ:St} {H:Hp} {s:Shared} {E:St->Value->Hp->Prop} {ea:Addr}
theorem Cx.Ok.tryIn(k:X.Ok):(X.tryIn pins E).Ok:=⟨k.mod,k.kind,k.glob,k.blt,k.above,k.inj,k.has,k.cab,k.hd,k.frames,k.stk,k.exf,k.bs,k.bsz,k.noex,k.exfs,k.funs,k.frf⟩
theorem Cx.Ok.untry(k:(X.tryIn pins E).Ok):X.Ok:=⟨k.mod,k.kind,k.glob,k.blt,k.above,k.inj,k.has,k.cab,k.hd,k.frames,k.stk,k.exf,k.bs,k.bsz,k.noex,k.exfs,k.funs,k.frf⟩
theorem Cx.Ok.inExc(k:X.Ok):(X.inExc ea).Ok:=⟨k.mod,k.kind,k.glob,k.blt,k.above,k.inj,k.has,k.cab,(λz=>(nomatch z)),k.frames,k.stk,k.exf,k.bs,k.bsz,k.noex,k.exfs,k.funs,k.frf⟩
theorem Inv.tryIn(I:Inv X (pins++pins') σ H s):Inv (X.tryIn pins E) pins' σ H s:=
 ⟨I.ok.tryIn,I.os,I.bare,I.base,I.loc,I.cell,I.free,I.freeC,λp hp=>I.pin p (by have hp:p∈(X.pn++pins)++pins':=hp;rw[List.append_assoc]at hp;exact hp),I.hok,I.len⟩
theorem Inv.untry(I:Inv (X.tryIn pins E) pins' σ H s):Inv X (pins++pins') σ H s:=
 ⟨I.ok.untry,I.os,I.bare,I.base,I.loc,I.cell,I.free,I.freeC,λp hp=>I.pin p (by show p∈(X.pn++pins)++pins';rw[List.append_assoc];exact hp),I.hok,I.len⟩
theorem Inv.inExc(I:Inv X pins σ H s):Inv (X.inExc ea) pins σ H s:=⟨I.ok.inExc,I.os,I.bare,I.base,I.loc,I.cell,I.free,I.freeC,I.pin,I.hok,I.len⟩
theorem Inv.unExc(I:Inv (X.inExc ea) pins σ H s)(k:X.Ok):Inv X pins σ H s:=⟨k,I.os,I.bare,I.base,I.loc,I.cell,I.free,I.freeC,I.pin,I.hok,I.len⟩
theorem Inv.track{a:Addr}{o:HO}(I:Inv X pins σ H s)(hn:H a=none)(h0:X.s₀.heap.get? a=none)(hL:a≠X.env.locals)(hc:∀x c,X.env.cells.lookup x=some c->c≠a)(hp:∀p∈X.pn++pins,p.1≠a)(new:q1J X.prog X.w (upd H a o) s.heap a o) :
  Inv X pins σ (upd H a o) s:=
 ⟨I.ok,I.os,I.bare,I.base.track hn h0,I.loc,I.cell,by rw[q0l (Ne.symm hL)];exact I.free,λx c e=>by rw[q0l (hc x c e)];exact I.freeC x c e,λp hq=>by
  obtain⟨e,n,ne,nf,d⟩:=I.pin p hq;exact⟨e,by rw[q0l (hp p hq)];exact n,ne,nf,d⟩,I.hok.track hn new,I.len⟩
theorem q3o{M:Model}{A:Around}{EE:Value->Shared->Prop}{i:Nat}{x:Str}{pos:Pos}{Q:Unit->Shared->Prop}(I:Inv X pins σ H s)(hN:X.N.Nodup)(hi:X.N[i]? = some x)(hx:X.env.scope.names.lookup x=some .local)
  (h:∀s',Inv X pins (σ.set i none) H s'->Q () s'):wpAny M A (do bindName X.env x .none;unbindBehindTheSuite X.env x pos) Q EE s:=by
 obtain⟨m,hn,hl⟩:=id I.loc;have hcls:(X.env.scope.kind == .class||(X.env.scope.kind == .module&&X.env.locals != X.env.globals))=false:=by rw[I.ok.kind];rfl
 have hiσ:i<σ.length:=by rw[I.len];exact(List.getElem?_eq_some_iff.mp hi).1
 have cne:=I.cne;have tracked:∀{h':Heap},Heap.SameBut X.env.locals s.heap h'->HOk X.prog X.w H h':=λ{h'} hs b ob e=>by
  refine(I.hok b ob e).stay (λc w' hc q=>(hs.2 c ?_).trans q) (λ_ q=>q) λ_ _ q=>q
  rintro rfl
  rcases hc with rfl | hc
  ·rw[I.free]at e;cases e
  ·rw[I.free]at hc;cases hc
 refine wpAny_nameGoes_keeps hx hn hcls λh' v hn' hs=>?_;refine h _ ⟨I.ok,I.os,I.bare,⟨λb o e n hb hx=>?_,λb o e n hb hx=>?_,I.base.free,λb o e hx=>?_,I.base.tups,I.base.frzs,I.base.tbls⟩,⟨_,hn',λj y v' e1 e2 e3=>?_⟩,λy c e=>?_,I.free,I.freeC,λp hp=>?_,tracked hs,by simpa using I.len⟩
 ·exact(hs.2 b (Nat.ne_of_lt (Nat.lt_of_lt_of_le (Heap.lt_size e) I.ok.above))).trans (I.base.keep b o e n hb hx)
 ·obtain⟨sl,e1⟩:=I.base.slot b o e n hb hx;exact⟨sl,(hs.2 b (Nat.ne_of_lt (Nat.lt_of_lt_of_le (Heap.lt_size e) I.ok.above))).trans e1⟩
 ·obtain⟨o',e1⟩:=I.base.there b o e hx;exact⟨o',(hs.2 b (Nat.ne_of_lt (Nat.lt_of_lt_of_le (Heap.lt_size e) I.ok.above))).trans e1⟩
 ·by_cases hj:j=i
  ·subst hj;rw[List.getElem?_set_self hiσ]at e2;cases e2
  ·rw[List.getElem?_set_ne (Ne.symm hj)]at e2;obtain⟨u',r',q⟩:=hl j y v' e1 e2 e3;refine⟨u',r',?_⟩;rcases q with⟨k,e⟩ | ⟨k,c,e,z⟩
   ·refine .inl ⟨k,?_⟩;have:y≠x:=λe=>hj (q3L hN e1 (e▸hi));simp[this,e]
   ·exact .inr ⟨k,c,e,z.sameBut hs (cne y c e)⟩
 ·obtain⟨w',z⟩:=I.cell y c e;exact⟨w',z.sameBut hs (cne y c e)⟩
 ·obtain⟨e,n,ne,nf,d⟩:=I.pin p hp;exact⟨(hs.2 p.1 ne).trans e,n,ne,nf,d⟩
end
def q3x(CX:CXT)(X:Cx)(E:St->XK):Prop:=∀(pins:List (Addr×Obj)) (σ:St) (H:Hp) (s:Shared) (e:Value) (s':Shared),Inv X pins σ H s->CX X.stack H s (E σ) e s'->X.xe e s'
theorem z0h.s{CX:CXT}{X:Cx}{E:XK}(h:z0h CX X E):q3x CX X λ_=>E:=λpins σ H s e s' I q=>h pins σ H s e s' I q
theorem q8n{X:Cx}{pins:List (Addr×Obj)}{E:St->Value->Hp->Prop}:q3x (CXx X.prog X.w X.base) (X.tryIn pins E) (λσ C _ H=>E σ C H):=by
 intro pins' σ H0 s0 e s' I hcx;obtain⟨ea,C,H',B,rfl,os,bare,un,F,cov,hE⟩:=hcx;have I':Inv (X.tryIn pins E) pins' σ H' s':=I.call' os un (F.hok.kept F.stays) bare λb hb=>nomatch hb
 have J:=I'.untry;refine⟨ea,C,σ,H',B,rfl,J.pins_of λp hp=>J.pin p (List.mem_append_right _ (List.mem_append_left _ hp)),F,λb o e hb hx=>?_,λp hp=>?_,hE⟩
 ·obtain⟨o1,e1⟩:=I.base.there b o e hx;exact cov b o1 e1 hb
 ·obtain⟨e,n,ne,nf,d⟩:=I.pin p (List.mem_append_left _ hp);exact cov p.1 p.2 e λz=>(List.mem_cons.mp (I.stkSub _ z)).elim ne nf
section
variable {X:Cx} {CX:CXT} {k:Nat} {f C:Addr} {fd:FuncData} {ps:List Str} {sp:Sp} {dvs:List V} {ds:List Value} {E:St->XK} {x m:Str} {p pos apos:Pos} {e o:Expr} {es:List Expr} {ta:TE} {t:TA}
theorem z4B{pins:List (Addr×Obj)}{σ:St}{H:Hp}{s:Shared}{Q:VK}{us:List Value}{vs:List V}(F:FnOk X.prog X.w X.K X.mg X.base CX k f fd ps sp)(hr:Room k X.A)(hb:q2Y X.K fd ps ds)(hd:Vals dvs ds)(hx:q3x CX X E)
  (I:Inv X pins σ H s) (r:Vals vs us) (h:sp (vs++dvs) H Q (E σ)):wpAny (model X.prog X.w) X.A (call (.ref f) us) (EP X pins σ Q) X.xe s:=by
 have r2:Vals (vs++dvs) (us++ds):=r.append hd;have hl:(us++ds).length=ps.length:=by rw[←r2.length];exact F.len _ _ _ _ h
 refine wpAny_call (codeAny_mono (F.run X.A X.stack s H ⟨us,[]⟩ (us++ds) (vs++dvs) Q (E σ) hr I.env0 (hb s us I.kIn hl) r2 h) λr s' hq=>?_);cases r with
 | error e=>exact hx pins σ H s e s' I hq
 | ok fl=>
  cases fl with
  | ret u=>exact I.after hq
  | next=>exact False.elim hq
  | brk=>exact False.elim hq
  | cont=>exact False.elim hq
def z2o(sp:Sp)(dvs:List V)(E:St->XK)(t:TA):TE:=λσ H Q=>t σ H λvs H1=>sp (vs++dvs) H1 Q (E σ)
theorem q6Z(F:FnOk X.prog X.w X.K X.mg X.base CX k f fd ps sp)(hr:Room k X.A)(hg:Gl X x)(hm:X.mg x=some (.ref f))(hk:PySem.W.keepIn X.K (.ref f)=true)(hb:q2Y X.K fd ps ds)(hd:Vals dvs ds)(hx:q3x CX X E)
  (ha:PA X (e::es) t) (hdb:(x==("__debug__" : Str))=false:=by decide) (he:starEach (e::es) X.env=(false,eval e X.env)::starEach es X.env:=by rfl) (hpl:(backTo pos (starEach es X.env)).any (·.1)=false:=by rfl) :
  PE X (.Call (.Name x p) (e::es) [] pos) (z2o sp dvs E t):=by
 intro pins s σ H Q I h;refine wpAny_Call_Name_kw (q5l I hg hm ?_ hdb);refine PySem.W.callWith_K (h₀:=X.base) I.ok.mod.kin hk (thn (ha pos pins s σ H _ I h) λus s1 ⟨vs,H1,I1,r,q⟩=>⟨I1.kIn,?_⟩) he hpl;exact z4B F hr hb hd hx I1 r q
end
def tTry(K:PySem.W.Frag)(cv:Value)(i:Nat)(tb:(St->Value->Hp->Prop)->TS)(ts:TS):TS:=λD σ H=>
 tb (λσ' C H'=>PySem.W.exmOne K C cv=some true/\∀ea,H' ea=none->ts {nx:=λσ2 H2=>D.nx (σ2.set i none) H2,rt:=D.rt,bk:=λσ2 H2=>D.bk (σ2.set i none) H2,ct:=λσ2 H2=>D.ct (σ2.set i none) H2} (σ'.set i (some (.ref ea))) (upd H' ea (excO ea C))) D σ H
theorem z6a{X:Cx}{body suite:List Stmt}{b₀:Stmt}{c n:Str}{np hpos pos:Pos}{i:Nat}{tb:(St->Value->Hp->Prop)->TS}{ts:TS}{cv:Value}(hst:X.stack=X.env::X.outer)(hfr:X.env.frame=some X.env.locals)(hex:X.ex=[])(hgl:Gl X c)(hm:X.mg c=some cv)
  (hN:X.N.Nodup) (hi:X.N[i]? = some n) (hl:X.env.scope.names.lookup n=some .local) (hb:∀pins E,PSs (X.tryIn pins E) body (tb E)) (hs:∀ea,PSs (X.inExc ea) (b₀::suite) ts) (hd:(c==("__debug__" : Str))=false:=by decide) :
  PS X (.Try body [.ExceptHandler (some (.Name c np)) (some n) (b₀::suite) hpos] [] [] pos) (tTry X.K cv i tb ts):=by
 intro pins s σ H D I h;refine wpAny_Try_except ?_;have un:∀{σ1:St} {H1:Hp} {s1:Shared} {E:St->Value->Hp->Prop},Inv (X.tryIn pins E) [] σ1 H1 s1->Inv X pins σ1 H1 s1:=λ{σ1 H1 s1 E} J=>by have q:=J.untry;rw[List.append_nil]at q;exact q
 refine wpAny_mono (hb pins _ [] s σ H D (Inv.tryIn (pins':=[]) (by rw[List.append_nil];exact I)) h) (λf s1 q=>?_) (λe s1 q=>?_)
 ·cases f with
  | next=>obtain⟨σ1,H1,I1,q1⟩:=q;exact wpAny_execs_nil ⟨σ1,H1,un I1,q1⟩
  | brk=>obtain⟨σ1,H1,I1,q1⟩:=q;exact⟨σ1,H1,un I1,q1⟩
  | cont=>obtain⟨σ1,H1,I1,q1⟩:=q;exact⟨σ1,H1,un I1,q1⟩
  | ret u=>obtain⟨v,σ1,H1,I1,r1,q1⟩:=q;exact⟨v,σ1,H1,un I1,r1,q1⟩
 ·obtain⟨ea,C,σ1,H1,B,rfl,I1,F,cov,pc,hE,hsuite⟩:=q;obtain⟨a0,fl⟩:=F.fly;have fl':Heap.FlyingW B (X.env::X.outer) ea C a0 s1.heap:=by rw[←hst];exact fl
  refine wpAny_looks_onW (by rw[←hst];exact I1.ok.frames) hfr fl' λh4 held up4=>?_;refine wpAny_landsW held λh5 fl5 up5=>?_;have up:=up4.trans up5;have I5:Inv X pins σ1 H1 {s1 with heap:=h5}:=I1.flown (t':=s1.toks) F cov pc fl5.1 up;have J5:Inv (X.inExc ea) pins σ1 H1 {s1 with heap:=h5}:=I5.inExc;obtain⟨oe,ws,hoe,hoec,hoed,hoe0⟩:=fl5.first
  refine wpAny_handleBy_cons (codeAny_handlers_test ?_) (by intro q;cases q);refine q5l J5 hgl hm ?_ hd;have LT:PySem.W.Looks (model X.prog X.w) h5 (typeOf (.ref ea)) C:=hoec▸(PySem.W.Looks.ld hoe).andThen .now;refine(PySem.W.exm_one (M:=model X.prog X.w) (K:=X.K) (h:=h5) J5.kIn LT hE).here ?_;show codeAny _ _ (.handlers (.ref ea) [.ExceptHandler none (some n) (b₀::suite) hpos] X.env) _ _;refine codeAny_handlers_suite_as ?_;refine lands_againW fl5 λh6 fl6 up6=>?_;have I6:Inv X pins σ1 H1 {s1 with heap:=h6}:=I1.flown (t':=s1.toks) F cov pc fl6.1 (up.trans up6);obtain⟨oe6,ws6,hoe6,hoec6,hoed6,_⟩:=fl6.first
  have hn:H1 ea=none:=F.untr;have h0:X.s₀.heap.get? ea=none:=by
   cases q:X.s₀.heap.get? ea with
   | none=>rfl
   | some o=>
    exfalso;by_cases hf:ea∈frs X.stack
    ·obtain⟨_,o',e',d⟩:=I6.stack.mem hf;have e'':h6.get? ea=some o':=e';rw[hoe6]at e'';cases e'';exact d _ hoed6
    ·obtain⟨o',z⟩:=cov ea o q hf (by rw[hex];intro z;exact nomatch z);rw[F.newE]at z;cases z
  have hL:ea≠X.env.locals:=λz=>by
   obtain⟨m,⟨o,es,ep,ho,hdd,_⟩,_⟩:=I6.loc;have ho':h6.get? ea=some o:=by rw[z];exact ho
   rw[hoe6]at ho';cases ho';rw[hoed6]at hdd;cases hdd
  have hc:∀x c,X.env.cells.lookup x=some c->c≠ea:=λx c e z=>by
   obtain⟨v,o,ho,hdd⟩:=I6.cell x c e;have ho':h6.get? ea=some o:=by rw[←z];exact ho
   rw[hoe6]at ho';cases ho';rw[hoed6]at hdd;cases hdd
  have hp:∀p∈X.pn++pins,p.1≠ea:=λp hp z=>by obtain⟨o',q⟩:=pc p hp;rw[z,F.newE]at q;cases q
  have J6:Inv (X.inExc ea) pins σ1 (upd H1 ea (excO ea C)) {s1 with heap:=h6}:=(I6.track hn h0 hL hc hp (z4k ⟨oe6,ws6,hoe6,hoec6,hoed6⟩)).inExc;refine q5c (X:=X.inExc ea) (i:=i) (v:=.ref ea) J6 hN hi (Or.inl hl) rfl (λs7 I7=>?_) (.inr hl);refine wpAny_mono (hs ea pins s7 _ _ _ I7 (hsuite ea hn)) (λf s8 q=>?_) λ_ _ z=>z.elim;cases f with
  | next=>obtain⟨σ8,H8,I8,q8⟩:=q;exact q3o (I8.unExc I.ok) hN hi hl λs9 I9=>⟨_,H8,I9,q8⟩
  | brk=>obtain⟨σ8,H8,I8,q8⟩:=q;exact q3o (I8.unExc I.ok) hN hi hl λs9 I9=>⟨_,H8,I9,q8⟩
  | cont=>obtain⟨σ8,H8,I8,q8⟩:=q;exact q3o (I8.unExc I.ok) hN hi hl λs9 I9=>⟨_,H8,I9,q8⟩
  | ret u=>obtain⟨v,σ8,H8,I8,r8,q8⟩:=q;exact q3o (I8.unExc I.ok) hN hi hl λs9 I9=>⟨v,_,H8,I9,r8,q8⟩
theorem z1J{K:PySem.W.Frag}{h₀:Heap}{mg:Str->Option Value}{x:Str}{C:Addr}{bmB:List Value}{newId:String}(X:K.In h₀)(hm:mg x=some (.ref C))(q:PySem.W.excIn K C bmB newId=true):OwnCls x C bmB newId mg h₀:=by
 refine⟨hm,?_⟩;unfold PySem.W.excIn at q;split at q
 ·rename_i dd cd sl ho;split at q
  ·rename_i C' bm k0 k1 k2 k3 n k5 hm hs;simp only[Bool.and_eq_true,beq_iff_eq,Bool.not_eq_true']at q;obtain⟨⟨⟨⟨⟨rfl,rfl⟩,hdel⟩,ht⟩,hok⟩,hni⟩:=q;obtain⟨nm,bs,mro,ns,qn,hd,sn,sub,ab,col,del⟩:=cd;dsimp only at hm hdel hok hni;subst hm hdel;have hsl:sl = #[k0,k1,k2,k3,some (.builtin n),k5]:=by
    obtain⟨l⟩:=sl;simp only at hs;rw[hs]
   subst hsl;exact⟨bm,ns,nm,qn,bs,hd,sn,sub,ab,col,dd,k0,k1,k2,k3,k5,_,X _ _ ho,.of_isNs (PySem.W.isNs_of_in X hok),PySem.W.nsMap_none_of_in X hok hni,PySem.W.tail_of_in X ht⟩
  ·cases q
 ·cases q
def q3K(X:Cx)(E:St->XK):Prop:=∀(pins:List (Addr×Obj)) (σ:St) (H:Hp) (s:Shared) (h':Heap) (ea:Addr) (C:Value) (vs:List Value),Inv X pins σ H s->Heap.MadeExcOf s.heap h' ea C vs->E σ C none H->X.xe (.ref ea) {s with heap:=h'}
theorem q8v{P:Program}{w:World}{K:PySem.W.Frag}{mg:Str->Option Value}{base:Heap}{N:List Str}{qual:Str}{scope:Scope}{f:Addr}{cd:Value}{A:Around}{outer:List Env}{s:Shared}{H:Hp}{E:XK} :
  q3K (cxD P w K mg base N qual scope f cd A outer s H E) λ_=>E:=λpins σ H1 s1 h' ea C vs I hx hE=>q6C I hx hE
def z6e(C:Addr)(E:St->XK)(t:TA):TS:=λ_ σ H=>t σ H λvs H1=>vs.length<=sizeLine/\E σ (.ref C) none H1
theorem z1g{X:Cx}{x:Str}{C:Addr}{bmB:List Value}{B newId initId:String}{np cpos pos:Pos}{e₀:Expr}{rest:List Expr}{t:TA}{E:St->XK}(FB:ExcBaseFacts B newId initId bmB)(hc:X.calm=true)(hg:Gl X x)(hm:X.mg x=some (.ref C))(hx:PySem.W.excIn X.K C bmB newId=true)
  (hR:q3K X E) (ha:PA X (e₀::rest) t) (hd:(x==("__debug__" : Str))=false:=by decide) (he:starEach (e₀::rest) X.env=(false,eval e₀ X.env)::starEach rest X.env:=by rfl) (hpl:(backTo cpos (starEach rest X.env)).any (·.1)=false:=by rfl) :
  PS X (.Raise (some (.Call (.Name x np) (e₀::rest) [] cpos)) none pos) (z6e C E t):=by
 intro pins s σ H D I h;obtain⟨tl,N,nm,q,bs,hdct,sn,sub,ab,col,dd,k0,k1,k2,k3,k5,mN,hC,hN,hni,T⟩:=(z1J I.mod.kin hm hx).obj;refine wpAny_Raise_call_subT (C:=C) (nm:=nm) (q:=q) (N:=N) (bs:=bs) (bm:=tl) (hdct:=hdct) (sn:=sn) (sub:=sub) (ab:=ab) (col:=col) (dd:=dd) (k0:=k0) (k1:=k1) (k2:=k2) (k3:=k3) (k5:=k5)
  FB (mN:=mN) (T.hasType FB.hasBase) (I.ok.hd hc) (by rw[he];show(false||(backTo cpos (starEach rest X.env)).any (·.1))=false;rw[hpl];rfl) hni (q5l I hg hm ⟨rfl,?_⟩ hd)
 have hq:=ha cpos pins s σ H _ I h;rw[he]at hq ⊢;exact Calls.evalArgs_plain (thn hq λvs s₂ ⟨xs,H2,I2,r2,hl,hE⟩=>⟨rfl,by show vs.length<=sizeLine;rw[←r2.length];exact hl,I2.bk _ _ hC,hN.keeps I2.bk,T.keeps I2.bk,λh' e hm'=>hR pins σ H2 s₂ h' e _ _ I2 hm' hE⟩)
end L2
end
noncomputable section
namespace L2
open PySem PySem.W PySem.Spec PySem.Calls PyProof.Rows PySem.Builtin PySem.Builtin.ObjectAttr PySem.Builtin.Getset_descriptor
def q6h(x D:Addr)(h:Heap):Prop:=∃o,h.get? x=some o/\o.cls=.ref D
section
variable {prog:Program} {w:World} {K:Frag} {x D:Addr} {M:Model} {h:Heap}
theorem q6h.ty(p:q6h x D h):Looks M h (typeOf (.ref x)) (.ref D):=by
 obtain⟨o,e,c⟩:=p;exact c▸(Looks.ld e).andThen .now
theorem q9U{a g:Value}{n:Str}(X:K.In h)(h1:findIn K (.ref D) n=some (some a))(h2:specialIn K a "__get__" = some (some g))(h3:takesIn K a=some true):Looks M h (find (.ref x) (.ref D) n) (.bind g a):=by
 have T:Looks M h (dataDescriptor? (some a) (some g)) (some (g,a)):=(looks_takesIn X h3).andThen .now;exact(looks_findIn X h1).andThen ((show Looks M h (getOf (some a)) (some g)from looks_specialIn X h2).andThen (T.andThen (Looks.tag .now)))
structure ClsK(K:Frag)(D:Addr):Prop where
 ga:findIn K (.ref D) "__getattribute__" = some (some (.builtin "BaseException.__getattribute__"))
 gt:findIn K (.ref D) "__getattr__" = some none
 mb:mroIn K D (.type "BaseException")=some true
 hd:hasDictIn K D=true
 fc:findIn K (.ref D) "__class__" = some (some (.builtin "object.__class__"))
 sg:specialIn K (.builtin "object.__class__") "__get__" = some (some (.builtin "getset_descriptor.__get__"))
 tk:takesIn K (.builtin "object.__class__")=some true
 mo:mroIn K D (.type "object")=some true
variable {A:Around} {E:Value->Shared->Prop} {s:Shared}
theorem z3q{tp:Value}{R:Result->Shared->Prop}(X:K.In s.heap)(p:q6h x D s.heap)(hm:mroIn K D (.type "object")=some true)(q:R (.ok (.ret (.ref D))) s) :
  codeAny (model prog w) A (.call (.builtin "getset_descriptor.__get__") ⟨[.builtin "object.__class__",.ref x,tp],[]⟩) R s:=by
 obtain⟨h0,g0,d0,t0,o0⟩:=s;have T0:=p.ty (M:=model prog w);have T1:=looks_mroIn (M:=model prog w) X hm;refine codeAny_call_builtin KF.slot_gs.plain KF.entry_gs (KF.slot_gs.check _ _ _ _ _ _ _ _ KF.type_class (KF.args_gs _ _ _) ?_);unfold Builtin.«getset_descriptor.__get__»;unfold descrGet;rw[dga_obj];refine wpAny_bind (wpAny_pure ?_);unfold descrGetter;unfold descrCheckInstance;unfold descrNameAndClass;unfold isInstance;simp only[KF.owner_class]
 repeat lk
 refine⟨Code.quiet_builtin _ (by decide +kernel),codeAny_builtin KF.entry_class ?_⟩;unfold Builtin.«object.__class__»;unfold shownTypeOf
 repeat lk
 exact q
theorem z1f{nm:Value}{Q:Unit->Shared->Prop}(C:ClsK K D)(X:K.In s.heap)(p:q6h x D s.heap)(q:Q () s):wpAny (model prog w) A (checkBuiltinCall "BaseException.__getattribute__" ⟨[.ref x,nm],[]⟩) Q E s:=by
 obtain⟨h0,g0,d0,t0,o0⟩:=s;have k1:builtinKind "BaseException.__getattribute__" = some .slot:=by decide +kernel
 have k2:splitId "BaseException.__getattribute__" = some ("BaseException","__getattribute__"):=by decide +kernel
 have T0:=p.ty (M:=model prog w);have T1:=looks_mroIn (M:=model prog w) X C.mb;have ha:=F.args_bexc_ga (.ref x) nm;simp only[checkBuiltinCall,k1,k2];refine wpAny_bind ((show Looks (model prog w) _ (isInstance (.ref x) (.type "BaseException")) true from T0.andThen T1).at ?_)
 repeat (any_goals (first | assumption | wp_step))
theorem q9M{tk:Tok}{Q:Fin->Shared->Prop}(C:ClsK K D)(X:K.In s.heap)(p:q6h x D s.heap)(q:Q (.done (.ret (.ref D))) s):wpAny (model prog w) A (Builtin.«object.__getattribute__» ⟨[.ref x,.str "__class__" tk],[]⟩) Q E s:=by
 obtain⟨h0,g0,d0,t0,o0⟩:=s;have T0:=p.ty (M:=model prog w);have T3:=q9U (M:=model prog w) (x:=x) X C.fc C.sg C.tk;unfold Builtin.«object.__getattribute__»
 repeat (any_goals (first | assumption | with_reducible refine T0.at ?_ | with_reducible refine T3.at ?_ | wp_step))
 refine z3q X p C.mo ?_
 repeat (any_goals (first | assumption | wp_step))
theorem z0X{Q:Option Value->Shared->Prop}(C:ClsK K D)(X:K.In s.heap)(p:q6h x D s.heap)(q:Q (some (.ref D)) {s with toks:=s.toks+1}):wpAny (model prog w) A (getAttr? (.ref x) "__class__") Q E s:=by
 obtain⟨h0,g0,d0,t0,o0⟩:=s;have T0:=p.ty (M:=model prog w);have T1:=looks_findIn (M:=model prog w) X C.ga;have T2:=looks_findIn (M:=model prog w) X C.gt;have f3:=F.attr_ValueError.ga.bind (.ref x);unfold getAttr?;unfold getAttrBy?;unfold getAttrBy;refine wpAny_bind (wpAny_mkText (wpAny_bind (wpAny_attempt (wpAny_holding (wpAny_bind (T0.at (wpAny_bind (T1.at ?_))))))));dsimp only;have ne:(onTheHeap (Value.ref D)&&Value.builtin "BaseException.__getattribute__" == Value.builtin "object.__getattribute__")=false:=(by rw[show(Value.builtin "BaseException.__getattribute__" == Value.builtin "object.__getattribute__")=false by decide +kernel,Bool.and_false]);rw[if_neg (by rw[ne];exact Bool.false_ne_true)];unfold getAttrByItsOwn;unfold hookBefore;rw[if_pos (show onTheHeap (Value.ref D)=true from rfl)];refine wpAny_bind (T2.at ?_);refine wpAny_bind (wpAny_attempt (wpAny_holding ?_));unfold callGetattribute;rw[if_neg (by decide)]
 repeat (any_goals (first | assumption | wp_step))
 refine codeAny_call_builtin F.attr_ValueError.ga.plain F.entry_bexc_ga (z1f C X p (q9M C X p ?_));exact handed_on rfl (wpAny_pure q)
theorem z3W(C:ClsK K D):KitX K (.ref x) (.ref D) (q6h x D) where
 ty:=λ_ _ _ p=>p.ty
 it:=λM h X _=>by
  obtain⟨cd,e,_⟩:=any_some C.hd;unfold clsIn at e;split at e
  ·rename_i ho;intro A1 Q1 E1 s1 k1 q1;unfold isType;unfold loadHead;exact wpAny_bind (wpAny_loadPart (k1 _ _ (X _ _ ho)) (wpAny_pure q1))
  ·cases e
 ne:=λh tp dd its n sl X e2=>by
  obtain⟨cd,e,_⟩:=any_some C.hd;rw[Bool.eq_false_iff];intro z;have e1:D=tp:=Value.ref.inj (beq_iff_eq.mp z);subst e1;unfold clsIn at e;split at e
  ·rename_i ho;cases(X _ _ ho).symm.trans e2
  ·cases e
 ca:=λX p k=>z0X C X p k
theorem z3E{c:Value}{b:Bool}{Q:Value->Shared->Prop}(C:ClsK K D)(X:K.In s.heap)(p:q6h x D s.heap)(e:kitOne K (.ref D) c=some b)(q:∀tk,Q (.bool b) {s with toks:=tk}):wpAny (model prog w) A (call (.builtin "isinstance") [.ref x,c]) Q E s:=
 kia_one (z3W C) X p e (λz=>nomatch z) q
end
end L2
end
noncomputable section
namespace L2
open PySem PySem.Spec PyProof.Rows
structure Src(P:Program)(w:World)(ia la:Addr)(vs:Array Value)(S:Nat->Heap->Prop):Prop where
 keep:∀k h h',S k h->(∀o,h.get? ia=some o->h'.get? ia=some o)->(∀o,h.get? la=some o->h'.get? la=some o)->S k h'
 there:∀k h,S k h->∃o xs,h.get? ia=some o/\o.data=.fields xs
 step:∀{A:Around} {E:Value->Shared->Prop} {s:Shared} {Q:Value->Shared->Prop} (k:Nat) (x:Value),S k s.heap->vs[k]? = some x->(∀h',S (k+1) h'->Heap.SameBut ia s.heap h'->Q x {s with heap:=h'}) ->
  wpAny (model P w) A (Builtin.SmallTypes.nextOf (.ref ia)) Q E s
 stop:∀{A:Around} {E:Value->Shared->Prop} {s:Shared} {Q:Value->Shared->Prop} (k:Nat),A.handled=none->S k s.heap->vs[k]? = none ->
  (∀h' e,Heap.ExtBut ia s.heap h'->(∃o,h'.get? e=some o/\o.cls=.type "StopIteration")->E (.ref e) {s with heap:=h'})->wpAny (model P w) A (Builtin.SmallTypes.nextOf (.ref ia)) Q E s
def sL(ia la:Addr)(vs:Array Value):Nat->Heap->Prop:=λk h=>h.IsListIter ia la k/\h.IsList la vs
def sT(ia la:Addr)(vs:Array Value):Nat->Heap->Prop:=λk h=>h.IsTupleIter ia la k/\h.IsTuple la vs
theorem z1x{P:Program}{w:World}{ia la:Addr}{vs:Array Value}(ne:la≠ia):Src P w ia la vs (sL ia la vs) where
 keep:=λk h h' ⟨p,q⟩ e1 e2=>⟨p.at e1,q.at e2⟩
 there:=λk h ⟨p,q⟩=>by obtain⟨o,e,_,d⟩:=p;exact⟨o,_,e,d⟩
 step:=λk x ⟨p,q⟩ hx hq=>wpAny_nextOf_list_item p q hx λh' p' sb=>hq h' ⟨p',q.extBut sb.extBut ne⟩ sb
 stop:=λk hh ⟨p,q⟩ hx hq=>wpAny_nextOf_list_end hh p q hx hq
section
variable {P:Program} {w:World} {A:Around} {E:Value->Shared->Prop} {s:Shared}
theorem z0Q{ja ta:Addr}{k:Nat}{vs:Array Value}{x:Value}{Q:Value->Shared->Prop}(p:s.heap.IsTupleIter ja ta k)(q:s.heap.IsTuple ta vs)(hx:vs[k]? = some x)(hq:∀h',h'.IsTupleIter ja ta (k+1)->Heap.SameBut ja s.heap h'->Q x {s with heap:=h'}) :
  wpAny (model P w) A (Builtin.SmallTypes.nextOf (.ref ja)) Q E s:=by
 obtain⟨ob,e1,e2,e3⟩:=id p;obtain⟨ot,f1,_,nn,f3⟩:=q;unfold Builtin.SmallTypes.nextOf;refine wpAny_bind (wpAny_callSpecial?_slot (name:=Str.ofString "__next__") p.typeIs F.slot_tuple_iterator_next (wpAny_call_entry F.slot_tuple_iterator_next p.typeIs F.entry_tuple_iterator_next ?_ (F.args_tuple_iterator_next_1 _)));show wpAny _ _ (field (.ref ja) 0 >>= _) _ _ s;refine wpAny_bind (wpAny_field e1 e3 (x:=.ref ta) rfl ?_);show wpAny _ _ (if(Value.ref ta==Value.none)=true then _ else _) _ _ s;rw[if_neg (show ¬((Value.ref ta==Value.none)=true)from Bool.false_ne_true)];show wpAny _ _ (field (.ref ja) 1 >>= _) _ _ s;refine wpAny_bind (wpAny_field e1 e3 (x:=.int k 0) rfl ?_);show wpAny _ _ (seqItems? (.ref ta) >>= _) _ _ s;refine wpAny_bind (wpAny_seqItems f1 f3 ?_);simp only[Int.toNat_natCast,hx];refine wpAny_bind (wpAny_setField e1 e3 (by simp) (wpAny_pure ⟨x,rfl,wpAny_pure (hq _ ?_ (Heap.SameBut.update ..))⟩));exact⟨_,Heap.get?_update_self _ e1 (Obj.isFreed_of_fields (Obj.data_mapFields e3 _)),(Obj.cls_mapFields ..).trans e2,by rw[Obj.data_mapFields e3];simp[rawInt]⟩
theorem z1Q{ja ta:Addr}{k:Nat}{vs:Array Value}{Q:Value->Shared->Prop}(hh:A.handled=none)(p:s.heap.IsTupleIter ja ta k)(q:s.heap.IsTuple ta vs)(hx:vs[k]? = none)(hE:∀h' e,Heap.ExtBut ja s.heap h'->(∃o,h'.get? e=some o/\o.cls=.type "StopIteration")->E (.ref e) {s with heap:=h'}) :
  wpAny (model P w) A (Builtin.SmallTypes.nextOf (.ref ja)) Q E s:=by
 obtain⟨ob,e1,e2,e3⟩:=id p;obtain⟨ot,f1,_,nn,f3⟩:=q;unfold Builtin.SmallTypes.nextOf;refine wpAny_bind (wpAny_callSpecial?_slot (name:=Str.ofString "__next__") p.typeIs F.slot_tuple_iterator_next (wpAny_call_entry F.slot_tuple_iterator_next p.typeIs F.entry_tuple_iterator_next ?_ (F.args_tuple_iterator_next_1 _)));show wpAny _ _ (field (.ref ja) 0 >>= _) _ _ s;refine wpAny_bind (wpAny_field e1 e3 (x:=.ref ta) rfl ?_);show wpAny _ _ (if(Value.ref ta==Value.none)=true then _ else _) _ _ s;rw[if_neg (show ¬((Value.ref ta==Value.none)=true)from Bool.false_ne_true)];show wpAny _ _ (field (.ref ja) 1 >>= _) _ _ s;refine wpAny_bind (wpAny_field e1 e3 (x:=.int k 0) rfl ?_);show wpAny _ _ (seqItems? (.ref ta) >>= _) _ _ s;refine wpAny_bind (wpAny_seqItems f1 f3 ?_);simp only[Int.toNat_natCast,hx];refine wpAny_bind (wpAny_rule (wpAny_bind (wpAny_setField e1 e3 (by simp) ?_)));show wpAny _ _ (newExc (.type "StopIteration") [] >>= λy=>raiseNew y) _ _ _;refine wpAny_bind ?_;simp only[newExc,newTuple];refine wpAny_bind (wpAny_newObj_type ?_ (by size_fits));refine wpAny_bind (m:=firstArgMember _ _) (wpAny_of_eq (a:=Value.none) (by first | rfl | (simp only[firstArgMember];rfl)) ?_);refine wpAny_newObj_type ?_ (by size_fits);simp only[raiseNew];refine wpAny_bind (wpAny_handled ?_)
 first | rw[show A.in1.handled=none from hh] | rw[hh]
 refine wpAny_bind (wpAny_pure (wpAny_throw (hE _ _ (((Heap.SameBut.update ..).extBut.push _).push _) ⟨_,Heap.get?_push_size _ rfl,rfl⟩)))
theorem z3j{ia la:Addr}{vs:Array Value}(ne:la≠ia):Src P w ia la vs (sT ia la vs) where
 keep:=λk h h' ⟨p,q⟩ e1 e2=>⟨by obtain⟨o,e,r⟩:=p;exact⟨o,e1 o e,r⟩,by obtain⟨o,e,r⟩:=q;exact⟨o,e2 o e,r⟩⟩
 there:=λk h ⟨p,q⟩=>by obtain⟨o,e,_,d⟩:=p;exact⟨o,_,e,d⟩
 step:=λk x ⟨p,q⟩ hx hq=>z0Q p q hx λh' p' sb=>hq h' ⟨p',q.extBut sb.extBut ne⟩ sb
 stop:=λk hh ⟨p,q⟩ hx hq=>z1Q hh p q hx hq
variable {Z U W a b l1 l2:Addr} {k:Nat} {vs1 vs2:Array Value} {S1 S2:Nat->Heap->Prop} {x y c d:Value}
theorem Src.ext{ia la:Addr}{vs:Array Value}{S:Nat->Heap->Prop}{h h':Heap}{e:Addr}(R:Src P w ia la vs S)(q:S k h)(hs:Heap.ExtBut e h h')(n1:ia≠e)(n2:la≠e):S k h':=R.keep k h h' q (λo z=>hs _ _ n1 z) (λo z=>hs _ _ n2 z)
theorem z0O{Q:Value->Shared->Prop}(D:ZipApart Z U W a b l1 l2)(R1:Src P w a l1 vs1 S1)(R2:Src P w b l2 vs2 S2)(hz:IsZip s.heap Z U W .none)(hU:IsPair s.heap U (.ref a) (.ref b))(hW:IsPair s.heap W c d)(h1:S1 k s.heap)(h2:S2 k s.heap)(hx:vs1[k]? = some x)(hy:vs2[k]? = some y)
  (hQ:∀h',IsZip h' Z U W (rawInt s.heap.objs.size)->IsPair h' W x y->S1 (k+1) h'->S2 (k+1) h'->IsPair h' s.heap.objs.size x y->h'.objs.size=s.heap.objs.size+1->(∀e o,e≠Z->e≠W->e≠a->e≠b->s.heap.get? e=some o->h'.get? e=some o)->Q (.ref s.heap.objs.size) {s with heap:=h'}) :
  wpAny (model P w) A (Builtin.«zip.__next__» ⟨[.ref Z],[]⟩) (λfin s'=>∃v,fin=.done (.ret v)/\Q v s') E s:=by
 show wpAny _ _ (field (.ref Z) 2 >>= _) _ _ _;refine wpAny_bind (wpAny_field hz rfl (x:=.bool false) rfl ?_);show wpAny _ _ (field (.ref Z) 3 >>= _) _ _ _;refine wpAny_bind (wpAny_field hz rfl (x:=.ref U) rfl (wpAny_bind (wpAny_seqItems hU rfl ?_)));show wpAny _ _ (Builtin.SmallTypes.ownedTupleIsFree (.ref Z) >>= _) _ _ _;refine wpAny_bind ?_;unfold Builtin.SmallTypes.ownedTupleIsFree;refine wpAny_bind (wpAny_field hz rfl (x:=.none) rfl (wpAny_pure ?_));simp only[if_true];refine wpAny_bind (wpAny_rule (wpAny_bind (wpAny_field hz rfl (x:=.ref W) rfl ?_)));refine wpAny_bind (wpAny_setField_rec hz (by simp) λg1 z1 t1=>?_)
 replace z1:IsZip g1 Z U W .ellipsis:=z1
 refine wpAny_bind ?_;simp only[List.zipIdx_cons,List.zipIdx_nil,List.forIn_cons,List.forIn_nil];refine wpAny_bind (wpAny_bind (wpAny_onRaise ?_));show wpAny _ _ (Builtin.SmallTypes.nextOf (.ref a) >>= _) _ _ _;refine wpAny_bind (R1.step k x (R1.ext h1 t1.extBut D.i1z D.l1z) hx λg2 r2 t2=>wpAny_pure ?_);have w2:IsPair g2 W c d:=t2.extBut _ _ D.TOi1 (t1.extBut _ _ D.TOz hW);refine wpAny_bind (wpAny_seqItems w2 rfl (wpAny_bind (wpAny_updateSeq_pair w2 λg3 w3 t3=>?_)))
 replace w3:IsPair g3 W x d:=w3
 refine wpAny_bind (wpAny_letGo (wpAny_pure ?_));refine wpAny_bind (wpAny_bind (wpAny_onRaise ?_));show wpAny _ _ (Builtin.SmallTypes.nextOf (.ref b) >>= _) _ _ _;refine wpAny_bind (R2.step k y (R2.ext (R2.ext (R2.ext h2 t1.extBut D.i2z D.l2z) t2.extBut D.i12.symm D.l2i1) t3.extBut D.TOi2.symm D.l2TO) hy λg4 r4 t4=>wpAny_pure ?_);have w4:IsPair g4 W x d:=t4.extBut _ _ D.TOi2 w3;refine wpAny_bind (wpAny_seqItems w4 rfl (wpAny_bind (wpAny_updateSeq_pair w4 λg5 w5 t5=>?_)))
 replace w5:IsPair g5 W x y:=w5
 refine wpAny_bind (wpAny_letGo (wpAny_pure (wpAny_pure (wpAny_bind (wpAny_seqItems w5 rfl (wpAny_bind (wpAny_newTuple ?_)))))));have sz:g5.objs.size=s.heap.objs.size:=by rw[t5.1,t4.1,t3.1,t2.1,t1.1]
 have z5:IsZip g5 Z U W .ellipsis:=t5.extBut _ _ D.TOz.symm (t4.extBut _ _ D.i2z.symm (t3.extBut _ _ D.TOz.symm (t2.extBut _ _ D.i1z.symm z1)));have kk:∀e o,e≠Z->e≠W->e≠a->e≠b->s.heap.get? e=some o->g5.get? e=some o:=λe o n1 n2 n3 n4 z=>t5.extBut _ _ n2 (t4.extBut _ _ n4 (t3.extBut _ _ n2 (t2.extBut _ _ n3 (t1.extBut _ _ n1 z))));have r15:S1 (k+1) g5:=R1.ext (R1.ext (R1.ext r2 t3.extBut D.TOi1.symm D.l1TO) t4.extBut D.i12 D.l1i2) t5.extBut D.TOi1.symm D.l1TO;have r25:S2 (k+1) g5:=R2.ext r4 t5.extBut D.TOi2.symm D.l2TO;have zlt:Z<g5.objs.size:=Heap.lt_size z5;show wpAny _ _ (Builtin.SmallTypes.ownedTupleHandOut (.ref Z) (.ref g5.objs.size) >>= _) _ _ _;refine wpAny_bind ?_;unfold Builtin.SmallTypes.ownedTupleHandOut;have z6:IsZip (g5.push {cls:=.type "tuple",data:=.seq #[x,y]}) Z U W .ellipsis:=Heap.get?_push_of_some _ z5;refine wpAny_bind (wpAny_setField_rec z6 (by simp) λg7 z7 t7=>?_)
 replace z7:IsZip g7 Z U W (rawInt g5.objs.size):=z7
 refine wpAny_setField_rec z7 (by simp) λg8 z8 t8=>?_
 replace z8:IsZip g8 Z U W (rawInt g5.objs.size):=z8
 have up:∀e o,e≠Z->g5.get? e=some o->g8.get? e=some o:=λe o n z=>t8.extBut _ _ n (t7.extBut _ _ n (Heap.get?_push_of_some _ z));have T8:IsPair g8 g5.objs.size x y:=t8.extBut _ _ (Nat.ne_of_gt zlt) (t7.extBut _ _ (Nat.ne_of_gt zlt) (Heap.get?_push_size _ rfl));have s8:g8.objs.size=g5.objs.size+1:=by rw[t8.1,t7.1,Heap.size_push]
 rw[sz]at z8 T8 s8;refine wpAny_pure ⟨_,rfl,?_⟩;show Q (.ref g5.objs.size) _;rw[sz];exact hQ g8 z8 (up _ _ D.TOz w5) (R1.keep _ _ _ r15 (λo z=>up _ o D.i1z z) (λo z=>up _ o D.l1z z)) (R2.keep _ _ _ r25 (λo z=>up _ o D.i2z z) (λo z=>up _ o D.l2z z)) T8 s8 λe o n1 n2 n3 n4 z=>up e o n1 (kk e o n1 n2 n3 n4 z)
theorem z1d{Q:Fin->Shared->Prop}(hh:A.handled=none)(D:ZipApart Z U W a b l1 l2)(R1:Src P w a l1 vs1 S1)(R2:Src P w b l2 vs2 S2)(hz:IsZip s.heap Z U W .none)(hU:IsPair s.heap U (.ref a) (.ref b))(hW:IsPair s.heap W c d)(h1:S1 k s.heap)(h2:S2 k s.heap)(hend:vs1[k]? = none\/vs2[k]? = none)
  (hE:∀h' e,(∀f o,f≠Z->f≠W->f≠a->f≠b->s.heap.get? f=some o->h'.get? f=some o)->(∃o,h'.get? e=some o/\o.cls=.type "StopIteration")->E (.ref e) {s with heap:=h'}) :
  wpAny (model P w) A (Builtin.«zip.__next__» ⟨[.ref Z],[]⟩) Q E s:=by
 show wpAny _ _ (field (.ref Z) 2 >>= _) _ _ _;refine wpAny_bind (wpAny_field hz rfl (x:=.bool false) rfl ?_);show wpAny _ _ (field (.ref Z) 3 >>= _) _ _ _;refine wpAny_bind (wpAny_field hz rfl (x:=.ref U) rfl (wpAny_bind (wpAny_seqItems hU rfl ?_)));show wpAny _ _ (Builtin.SmallTypes.ownedTupleIsFree (.ref Z) >>= _) _ _ _;refine wpAny_bind ?_;unfold Builtin.SmallTypes.ownedTupleIsFree;refine wpAny_bind (wpAny_field hz rfl (x:=.none) rfl (wpAny_pure ?_));simp only[if_true];refine wpAny_bind (wpAny_rule (wpAny_bind (wpAny_field hz rfl (x:=.ref W) rfl ?_)));refine wpAny_bind (wpAny_setField_rec hz (by simp) λg1 z1 t1=>?_)
 replace z1:IsZip g1 Z U W .ellipsis:=z1
 refine wpAny_bind ?_;simp only[List.zipIdx_cons,List.zipIdx_nil,List.forIn_cons,List.forIn_nil];refine wpAny_bind (wpAny_bind (wpAny_onRaise ?_));show wpAny _ _ (Builtin.SmallTypes.nextOf (.ref a) >>= _) _ _ _;cases hx:vs1[k]? with
 | none=>
  refine wpAny_bind (R1.stop k hh (R1.ext h1 t1.extBut D.i1z D.l1z) hx λg2 e t2 he=>?_);obtain⟨oe,q1,q2⟩:=he;have z2:IsZip g2 Z U W .ellipsis:=t2 _ _ D.i1z.symm z1;have ez:e≠Z:=λz=>by subst z;rw[z2]at q1;cases q1;simp at q2
  exact wpAny_setField_rec z2 (by simp) λg3 _ t3=>hE g3 e (λf o n1 _ n3 _ z=>t3.extBut _ _ n1 (t2 _ _ n3 (t1.extBut _ _ n1 z))) ⟨oe,t3.extBut _ _ ez q1,q2⟩
 | some x=>
  have hy:vs2[k]? = none:=by rcases hend with h | h;rw[hx]at h;cases h;exact h
  refine wpAny_bind (R1.step k x (R1.ext h1 t1.extBut D.i1z D.l1z) hx λg2 r2 t2=>wpAny_pure ?_);have w2:IsPair g2 W c d:=t2.extBut _ _ D.TOi1 (t1.extBut _ _ D.TOz hW);refine wpAny_bind (wpAny_seqItems w2 rfl (wpAny_bind (wpAny_updateSeq_pair w2 λg3 w3 t3=>?_)));refine wpAny_bind (wpAny_letGo (wpAny_pure ?_));refine wpAny_bind (wpAny_bind (wpAny_onRaise ?_));show wpAny _ _ (Builtin.SmallTypes.nextOf (.ref b) >>= _) _ _ _;refine wpAny_bind (R2.stop k hh (R2.ext (R2.ext (R2.ext h2 t1.extBut D.i2z D.l2z) t2.extBut D.i12.symm D.l2i1) t3.extBut D.TOi2.symm D.l2TO) hy λg4 e t4 he=>?_);obtain⟨oe,q1,q2⟩:=he;have z4:IsZip g4 Z U W .ellipsis:=t4 _ _ D.i2z.symm (t3.extBut _ _ D.TOz.symm (t2.extBut _ _ D.i1z.symm z1));have ez:e≠Z:=λz=>by subst z;rw[z4]at q1;cases q1;simp at q2
  exact wpAny_setField_rec z4 (by simp) λg5 _ t5=>hE g5 e (λf o n1 n2 n3 n4 z=>t5.extBut _ _ n1 (t4 _ _ n4 (t3.extBut _ _ n2 (t2.extBut _ _ n3 (t1.extBut _ _ n1 z))))) ⟨oe,t5.extBut _ _ ez q1,q2⟩
theorem q9X{Q:Option Value->Shared->Prop}(D:ZipApart Z U W a b l1 l2)(R1:Src P w a l1 vs1 S1)(R2:Src P w b l2 vs2 S2)(hz:IsZip s.heap Z U W .none)(hU:IsPair s.heap U (.ref a) (.ref b))(hW:IsPair s.heap W c d)(h1:S1 k s.heap)(h2:S2 k s.heap)(hx:vs1[k]? = some x)(hy:vs2[k]? = some y)
  (hQ:∀h',IsZip h' Z U W (rawInt s.heap.objs.size)->IsPair h' W x y->S1 (k+1) h'->S2 (k+1) h'->IsPair h' s.heap.objs.size x y->h'.objs.size=s.heap.objs.size+1->(∀e o,e≠Z->e≠W->e≠a->e≠b->s.heap.get? e=some o->h'.get? e=some o)->Q (some (.ref s.heap.objs.size)) {s with heap:=h'}) :
  wpAny (model P w) A (pyNext (.ref Z)) Q E s:=by
 have T:s.TypeIs (.ref Z) "zip":=⟨_,hz,rfl⟩;unfold pyNext;exact wpAny_bind (wpAny_attempt (wpAny_callSpecial?_slot (name:=Str.ofString "__next__") T F.slot_zip_next (wpAny_call_entry F.slot_zip_next T F.entry_zip_next (z0O D R1 R2 hz hU hW h1 h2 hx hy λh' b1 b2 b3 b4 b5 b6 b7=>wpAny_pure (hQ h' b1 b2 b3 b4 b5 b6 b7)) (F.args_zip_next_1 _))))
theorem z0r{Q:Option Value->Shared->Prop}(hh:A.handled=none)(D:ZipApart Z U W a b l1 l2)(R1:Src P w a l1 vs1 S1)(R2:Src P w b l2 vs2 S2)(hz:IsZip s.heap Z U W .none)(hU:IsPair s.heap U (.ref a) (.ref b))(hW:IsPair s.heap W c d)(h1:S1 k s.heap)(h2:S2 k s.heap)(hend:vs1[k]? = none\/vs2[k]? = none)
  (hQ:∀h',(∀f o,f≠Z->f≠W->f≠a->f≠b->s.heap.get? f=some o->h'.get? f=some o)->Q none {s with heap:=h'}):wpAny (model P w) A (pyNext (.ref Z)) Q E s:=by
 have T:s.TypeIs (.ref Z) "zip":=⟨_,hz,rfl⟩;unfold pyNext;refine wpAny_bind (wpAny_attempt (wpAny_callSpecial?_slot (name:=Str.ofString "__next__") T F.slot_zip_next (wpAny_call_entry F.slot_zip_next T F.entry_zip_next (z1d hh D R1 R2 hz hU hW h1 h2 hend λh' e hk he=>?_) (F.args_zip_next_1 _))));obtain⟨o,q1,q2⟩:=he;exact wpAny_bind (wpAny_isInstance (T:="StopIteration") (b:=true) ⟨o,q1,q2⟩ isSubtype_stop (wpAny_pure (hQ _ hk)))
end
def SqK(t:Bool)(h:Heap)(l:Addr)(vs:Array Value):Prop:=match t with | false=>h.IsList l vs | true=>h.IsTuple l vs
def sK(t:Bool)(ia la:Addr)(vs:Array Value):Nat->Heap->Prop:=match t with | false=>sL ia la vs | true=>sT ia la vs
theorem q8y{P:Program}{w:World}{ia la:Addr}{vs:Array Value}(t:Bool)(ne:la≠ia):Src P w ia la vs (sK t ia la vs):=by
 cases t
 ·exact z1x ne
 ·exact z3j ne
def itN:Bool->String | false=>"list_iterator" | true=>"tuple_iterator"
abbrev itO(t:Bool)(l:Addr):Obj:={cls:=.type (itN t),data:=.fields #[.ref l,.int 0 0]}
abbrev zH1(h:Heap)(t1:Bool)(l1:Addr):Heap:=h.push (itO t1 l1)
abbrev zH2(h:Heap)(t1 t2:Bool)(l1 l2:Addr):Heap:=(zH1 h t1 l1).push (itO t2 l2)
abbrev zH3(h:Heap)(t1 t2:Bool)(l1 l2:Addr):Heap:=(zH2 h t1 t2 l1 l2).push {cls:=.type "tuple",data:=.seq #[.ref h.objs.size,.ref (zH1 h t1 l1).objs.size]}
abbrev zH4(h:Heap)(t1 t2:Bool)(l1 l2:Addr):Heap:=(zH3 h t1 t2 l1 l2).push {cls:=.type "tuple",data:=.seq #[.none,.none]}
abbrev zH5(h:Heap)(t1 t2:Bool)(l1 l2:Addr):Heap:=(zH4 h t1 t2 l1 l2).push {cls:=.type "zip",data:=.fields #[.none,.bool false,.bool false,.ref (zH2 h t1 t2 l1 l2).objs.size,.ref (zH3 h t1 t2 l1 l2).objs.size]}
theorem z1z(t1 t2:Bool)(l1 l2:Addr)(vs1 vs2:Array Value):Meets (Builtin.«zip.__new__» ⟨[.type "zip",.ref l1,.ref l2],[]⟩) (λ_ R s=>SqK t1 s.heap l1 vs1/\SqK t2 s.heap l2 vs2/\R (.ok (.ret (.ref (zH4 s.heap t1 t2 l1 l2).objs.size))) {s with heap:=zH5 s.heap t1 t2 l1 l2}):=
 .of_wp λP w A R s h=>by
  obtain⟨h0,g0,d0,k0,o0⟩:=s;obtain⟨q1,q2,h⟩:=h;have hsub:=sub_zip;cases t1<;>cases t2
  ·have e1:Heap.IsList (Shared.heap ⟨h0,g0,d0,k0,o0⟩) l1 vs1:=q1;have e2:Heap.IsList (Shared.heap ⟨h0.push {cls:=.type "list_iterator",data:=.fields #[.ref l1,.int 0 0]},g0,d0,k0,o0⟩) l2 vs2:=Heap.IsList.push q2 _
   wp_walk using wpAny_pyIter_list e1,wpAny_pyIter_list e2
   exact⟨_,rfl,h⟩
  ·have e1:Heap.IsList (Shared.heap ⟨h0,g0,d0,k0,o0⟩) l1 vs1:=q1;have e2:Heap.IsTuple (Shared.heap ⟨h0.push {cls:=.type "list_iterator",data:=.fields #[.ref l1,.int 0 0]},g0,d0,k0,o0⟩) l2 vs2:=Heap.IsTuple.push q2 _
   wp_walk using wpAny_pyIter_list e1,wpAny_pyIter_tuple e2
   exact⟨_,rfl,h⟩
  ·have e1:Heap.IsTuple (Shared.heap ⟨h0,g0,d0,k0,o0⟩) l1 vs1:=q1;have e2:Heap.IsList (Shared.heap ⟨h0.push {cls:=.type "tuple_iterator",data:=.fields #[.ref l1,.int 0 0]},g0,d0,k0,o0⟩) l2 vs2:=Heap.IsList.push q2 _
   wp_walk using wpAny_pyIter_tuple e1,wpAny_pyIter_list e2
   exact⟨_,rfl,h⟩
  ·have e1:Heap.IsTuple (Shared.heap ⟨h0,g0,d0,k0,o0⟩) l1 vs1:=q1;have e2:Heap.IsTuple (Shared.heap ⟨h0.push {cls:=.type "tuple_iterator",data:=.fields #[.ref l1,.int 0 0]},g0,d0,k0,o0⟩) l2 vs2:=Heap.IsTuple.push q2 _
   wp_walk using wpAny_pyIter_tuple e1,wpAny_pyIter_tuple e2
   exact⟨_,rfl,h⟩
theorem z0j{t:Bool}{ia la:Addr}{vs:Array Value}{h h':Heap}(e:h'.get? ia=some (itO t la))(q:SqK t h la vs)(k:∀c o,h.get? c=some o->h'.get? c=some o):sK t ia la vs 0 h':=by
 cases t
 ·exact⟨⟨_,e,rfl,rfl⟩,Heap.IsList.at q λo z=>k _ o z⟩
 ·exact⟨⟨_,e,rfl,rfl⟩,by obtain⟨o,z,r⟩:=q;exact⟨o,k _ o z,r⟩⟩
theorem q9r{P:Program}{w:World}{A:Around}{E:Value->Shared->Prop}{s:Shared}{l1 l2:Addr}{vs1 vs2:Array Value}{Q:Value->Shared->Prop}(t1 t2:Bool)(q1:SqK t1 s.heap l1 vs1)(q2:SqK t2 s.heap l2 vs2)
  (h:∀h',IsZip h' (s.heap.objs.size+4) (s.heap.objs.size+2) (s.heap.objs.size+3) .none->IsPair h' (s.heap.objs.size+2) (.ref s.heap.objs.size) (.ref (s.heap.objs.size+1))->IsPair h' (s.heap.objs.size+3) .none .none->sK t1 s.heap.objs.size l1 vs1 0 h'->sK t2 (s.heap.objs.size+1) l2 vs2 0 h'->h'.objs.size=s.heap.objs.size+5 ->
   (∀c o,s.heap.get? c=some o->h'.get? c=some o)->Q (.ref (s.heap.objs.size+4)) {s with heap:=h'}):wpAny (model P w) A (call (.type "zip") [.ref l1,.ref l2]) Q E s:=by
 refine callType_new F.called_zip (by decide) (F.typeCall_zip_2 _ _) (F.newCall_zip_2 _ _) (λobj=>F.args_object_init_3 obj _ _) F.entry_zip_new (z1z t1 t2 l1 l2 vs1 vs2) ⟨q1,q2,?_⟩;have n1:(zH1 s.heap t1 l1).objs.size=s.heap.objs.size+1:=Heap.size_push ..;have n2:(zH2 s.heap t1 t2 l1 l2).objs.size=s.heap.objs.size+2:=by rw[Heap.size_push,n1]
 have n3:(zH3 s.heap t1 t2 l1 l2).objs.size=s.heap.objs.size+3:=by rw[Heap.size_push,n2]
 have n4:(zH4 s.heap t1 t2 l1 l2).objs.size=s.heap.objs.size+4:=by rw[Heap.size_push,n3]
 have n5:(zH5 s.heap t1 t2 l1 l2).objs.size=s.heap.objs.size+5:=by rw[Heap.size_push,n4]
 have e5:(zH5 s.heap t1 t2 l1 l2).get? (zH4 s.heap t1 t2 l1 l2).objs.size=some _:=Heap.get?_push_size _ rfl;have e4:(zH5 s.heap t1 t2 l1 l2).get? (zH3 s.heap t1 t2 l1 l2).objs.size=some _:=Heap.get?_push_of_some _ (Heap.get?_push_size _ rfl);have e3:(zH5 s.heap t1 t2 l1 l2).get? (zH2 s.heap t1 t2 l1 l2).objs.size=some _:=Heap.get?_push_of_some _ (Heap.get?_push_of_some _ (Heap.get?_push_size _ rfl));have e2:(zH5 s.heap t1 t2 l1 l2).get? (zH1 s.heap t1 l1).objs.size=some _:=Heap.get?_push_of_some _ (Heap.get?_push_of_some _ (Heap.get?_push_of_some _ (Heap.get?_push_size _ rfl)));have e1:(zH5 s.heap t1 t2 l1 l2).get? s.heap.objs.size=some _:=Heap.get?_push_of_some _ (Heap.get?_push_of_some _ (Heap.get?_push_of_some _ (Heap.get?_push_of_some _ (Heap.get?_push_size _ rfl))));have kp:∀c o,s.heap.get? c=some o->(zH5 s.heap t1 t2 l1 l2).get? c=some o:=λc o z=>Heap.get?_push_of_some _ (Heap.get?_push_of_some _ (Heap.get?_push_of_some _ (Heap.get?_push_of_some _ (Heap.get?_push_of_some _ z))));show _/\_;rw[n2,n3,n4]at e5;rw[n1,n2]at e3;rw[n3]at e4;rw[n1]at e2;rw[n4];exact⟨⟨_,e5,rfl⟩,h _ e5 e3 e4 (z0j e1 q1 kp) (z0j e2 q2 kp) n5 kp⟩
end L2
end
noncomputable section
namespace PySem
section
variable {prog:Program} {w:World} {A:Around} {E:Value->Shared->Prop} {s:Shared}
theorem q2P(a b:Int):Builtin.Range.rangeSize a b (-1)=if b<a then a - b else 0:=by
 unfold Builtin.Range.rangeSize;simp
theorem q8r{a b:Int}(ha : -(2^62)<=a)(ha':a<2^62)(hb : -(2^62)<=b)(hb':b<2^62):Builtin.Range.small a b (-1)=true:=by
 unfold Builtin.Range.small;rw[q2P];simp only[Builtin.Range.rangeFitsLong,Bool.and_eq_true,Bool.or_eq_true,decide_eq_true_eq,beq_iff_eq,show ¬((-1:Int)>0) by decide,if_false];split<;>omega
end
end PySem
namespace L2
open PySem PySem.Spec PyProof.Rows
variable {X:Cx} {tg:Expr}
def Itd(hi:Int)(n:Nat):It:=⟨λi _=>i<n,λi H x H'=>H'=H/\x=.int (hi - i),λi _=>n<=i⟩
theorem q9n{P:Program}{w:World}{K:PySem.W.Frag}{tg:Expr}(it:Addr)(hi:Int)(n:Nat):Turn P w K tg (Itd hi n) [it] it (λi h=>IsRangeIter h it (hi+(i:Nat)*(-1)) ((n:Int) - (i:Nat)) (-1)) where
 mem:=by simp
 obj:=λi h st b hb=>by
  have e:b=it:=by simpa using hb
  subst e;exact⟨_,st,λv z=>by
   have z':Data.fields _=Data.cell v:=z;cases z'⟩
 keep:=λi h h' st k=>k it (by simp) _ st
 item:=by
  intro X hP hw hK hc i pins s σ H E I hf st hg;subst hP hw hK;obtain⟨f0,f1,f2,f3,f4,f5⟩:=hf it (by simp);have W:=Walks.range (prog:=X.prog) (w:=X.w) (I.ok.hd hc) it hi (-1) n;refine W.item i s _ _ hg st λv h' tk hv st' kk=>?_
  obtain⟨t,rfl⟩:=hv;have I1:Inv X pins σ H {s with heap:=h',toks:=tk}:=I.turned (λb o hb e=>kk b o (by simpa using hb) e) f0 f1 f3 f4 f5;refine⟨_,rfl,z1U (s:={s with heap:=h',toks:=tk}) (n:="range_iterator") st' rfl rfl (by decide) ⟨.int (hi - i),H,I1,⟨t,?_⟩,⟨rfl,rfl⟩,st',λb hb=>(hf b hb).1⟩⟩;rw[show hi+(i:Int)*(-1)=hi - i by omega]
 done:=by
  intro X hP hw hK hc i pins s σ H E I hf st hg;subst hP hw hK;obtain⟨f0,f1,f2,f3,f4,f5⟩:=hf it (by simp);exact wpAny_pyNext_range_end (I.ok.hd hc) st (by have:n<=i:=hg;omega) λh' eb=>⟨rfl,I.turned (t':=s.toks) (λb o hb e=>eb b o hb e) f0 f1 f3 f4 f5⟩
 self:=λ_ _ _ _ _ st h=>wpAny_pyIter_rangeiter st h
theorem z3x{pins:List (Addr×Obj)}{σ:St}{H:Hp}{s:Shared}{R:It->Hp->Prop}{E:Value->Shared->Prop}{lo hi:Int}{t u v:Tok}{tk:Nat}(I:Inv X pins σ H s)(h1 : -(2^62)<=lo)(h2:lo<2^62)(h3 : -(2^62)<=hi)(h4:hi<2^62)
  (q:R (Itd lo (lo - hi).toNat) H):wpAny (model X.prog X.w) X.A (pyIter (.ref s.heap.objs.size)) (PIE X pins σ tg R) E {s with heap:=s.heap.push {cls:=.type "range",data:=.fields #[.int lo t,.int hi u,.int (-1) v]},toks:=tk}:=by
 refine wpAny_pyIter_range (IsRange.new ..) (q8r h1 h2 h3 h4) ?_;have I1:Inv X pins σ H {s with heap:=s.heap.push {cls:=.type "range",data:=.fields #[.int lo t,.int hi u,.int (-1) v]},toks:=tk}:=I.kept λb o e=>Heap.get?_push_of_some _ e;refine⟨(s.heap.push {cls:=.type "range",data:=.fields #[.int lo t,.int hi u,.int (-1) v]}).objs.size,[(s.heap.push {cls:=.type "range",data:=.fields #[.int lo t,.int hi u,.int (-1) v]}).objs.size],_,_,H,rfl,
  I1.kept (t':=tk) λb o e=>Heap.get?_push_of_some _ e,q9n _ lo (lo - hi).toNat,?_,λb hb=>?_,q⟩
 ·have e1:lo+((0:Nat):Int)*(-1)=lo:=by simp
  have e2:(((lo - hi).toNat:Nat):Int) - ((0:Nat):Int)=Builtin.Range.rangeSize lo hi (-1):=by rw[q2P];split<;>omega
  show IsRangeIter _ _ (lo+((0:Nat):Int)*(-1)) ((((lo - hi).toNat:Nat):Int) - ((0:Nat):Int)) (-1);rw[e1,e2];exact Heap.get?_push_size _ rfl
 ·have e:b=(s.heap.push {cls:=.type "range",data:=.fields #[.int lo t,.int hi u,.int (-1) v]}).objs.size:=by simpa using hb
  subst e;exact I1.fpOk (Nat.le_refl _) (I1.hok.fresh (Nat.le_refl _))
def z8u(ta:TA):TI:=λσ H R=>ta σ H λvs H1=>∃i j:Int,vs=[.int i,.int j,.int (-1)]/\(-(2^62)<=i/\i<2^62 /\ -(2^62)<=j/\j<2^62)/\R (Itd i (i - j).toNat) H1
theorem noPl(a:Int):Builtin.divisionGoesByPylong a (-1)=false:=PyProof.noPylong_small (by omega)
theorem q8X{a b c:Expr}{ta:TA}{p pos:Pos}(hg:Gl X "range")(hm:X.mg "range" = none)(ha:PA X [a,b,c] ta)(hs:starEach [a,b,c] X.env=[(false,eval a X.env),(false,eval b X.env),(false,eval c X.env)])(hs2:starEach [b,c] X.env=[(false,eval b X.env),(false,eval c X.env)]) :
  PI X tg (.Call (.Name "range" p) [a,b,c] [] pos) (z8u ta):=by
 intro pins s σ H R I h;refine Call_ (q3D I hg hm boot_range (PyProof.Rows.callWith_type1 (thn (ha pos pins s σ H _ I h) λus s1 ⟨vs,H1,I1,r1,q1⟩=>?_) (by rw[hs,hs2]) (by rw[hs2];rfl)));obtain⟨i,j,e,⟨q1,q2,q3,q4⟩,q⟩:=q1;subst e;cases r1 with
 | cons r rr=>
  cases rr with
  | cons r' rr=>
   cases rr with
   | cons r'' rr=>
    cases rr;obtain⟨t,rfl⟩:=r;obtain⟨t',rfl⟩:=r';obtain⟨t'',rfl⟩:=r'';exact call_range_3 (by decide) (z3x I1 q1 q2 q3 q4 q) (Or.inl (noPl _))
end L2
end
noncomputable section
namespace L2
open PySem
inductive DKey where
 | i (n:Int) | s (x:Str) | t (l:List (Sum Int Str))
 deriving DecidableEq
inductive DV where
 | non | bl (b:Bool) | int (i:Int) | str (x:Str) | tup (ds:List DV) | lst (ds:List DV) | dct (ks:List DKey) (vs:List DV)
 | exc (c:Str) | fn (x:Str)
 | scr (ns:List Int)
inductive Cl where
 | weak | top | strong | fresh | ft
 deriving DecidableEq
inductive Re where
 | ok (d:DV) (c:Cl) | ex (c:Str)
inductive Rs where
 | ok (l:List (DV×Cl)) | ex (c:Str)
inductive Rt where
 | ok (b:Bool) | ex (c:Str)
inductive Sv where
 | no | val (d:DV) | own (d:DV) | ot (d:DV)
 | o2 (d:DV)
 | od (d:DV)
def otD:DV->DV
 | .dct _ ds=>.tup ds
 | d=>d
inductive Ou where
 | v (d:DV) (fr:Bool) | x (c:Str) | t (d:DV)
inductive Out where
 | nx (δ:List Sv) | rt (d:DV) (fr:Bool) | ex (c:Str) (δ:List Sv) | rtt (d:DV)
inductive Bi where
 | len | min | max | sum | any | list | tuple | lsti
 deriving DecidableEq
inductive Mt where
 | bitLength | index | get
 deriving DecidableEq
inductive Tg where
 | one (i:Nat) | many (is:List Nat)
inductive ME where
 | var (i:Nat) | int (i:Int) | bl (b:Bool) | str (x:Str) | non | glb (x:Str)
 | bin (op:Operator) (a b:ME) | neg (a:ME)  | not (a:ME)
 | cmp (op:CmpOp) (a b:ME) | chain (op op':CmpOp) (a b c:ME)
 | and (es:List ME) | or (es:List ME)
 | lst (es:List ME) | tup (es:List ME)  | dc0
 | ix (a b:ME) | sl (a lo hi:ME)  | slt (a hi:ME)
 | call (f:Nat) (es:List ME)   | bi (f:Bi) (es:List ME) | isi (a:ME) (ts:List Str) | isx (a:ME) (t:Str) | meth (m:Mt) (a:ME) (es:List ME)
 | comp (elt:ME) (tg:Tg) (it:ME) (fr:List (Option Nat)) | compi (elt:ME) (tg:Tg) (it c:ME) (fr:List (Option Nat))
 | rng (es:List ME) | enu (a:ME) | zp (a b:ME)
inductive MS where
 | set (i:Nat) (own:Bool) (e:ME)
 | app (i:Nat) (e:ME)  | seti (i:Nat) (k e:ME)
 | exp (e:ME) | ret (e:ME)  | iff (c:ME) (a b:List MS) | fo (tg:Tg) (it:ME) (body:List MS)
 | ret2 (a b:ME) | setp (i:Nat) (f:Nat) (es:List ME) | oapp (i k:Nat) (e:ME) | oclr (i k:Nat)
 | rse (c:Str) (e:ME) | tryc (body:List MS) (c:Str) (ie ic:Nat)
 | frz (i:Nat)
structure FD where
 n:Nat
 np:Nat
 dfl:List DV:=[]
 kn:Option Str:=none
 body:List MS
def Re.thn(r:Option Re)(k:DV->Cl->Option Re):Option Re:=match r with
 | none=>none
 | some (.ex c)=>some (.ex c)
 | some (.ok d c)=>k d c
def Rs.thn(r:Option Rs)(k:List (DV×Cl)->Option Re):Option Re:=match r with
 | none=>none
 | some (.ex c)=>some (.ex c)
 | some (.ok l)=>k l
def Re.thnT(r:Option Re)(k:DV->Cl->Option Rt):Option Rt:=match r with
 | none=>none
 | some (.ex c)=>some (.ex c)
 | some (.ok d c)=>k d c
mutual
def DV.immut:DV->Bool
 | .non=>true | .bl _=>true | .int _=>true | .str _=>true | .exc _=>true | .fn _=>true | .scr _=>true
 | .tup ds=>DV.immuts ds
 | .lst _=>false
 | .dct _ vs=>DV.immuts vs
def DV.immuts:List DV->Bool
 | []=>true
 | d::r=>d.immut&&DV.immuts r
end
def stro(d:DV):Cl->Bool
 | .strong=>true | .fresh=>true | .ft=>true | _=>d.immut
def stros(l:List (DV×Cl)):Bool:=l.all λp=>stro p.1 p.2
def Cl.item:Cl->Cl
 | .weak=>.weak | _=>.strong
def Cl.anew:Cl->Cl->Cl
 | .weak,_=>.weak | _,.weak=>.weak | _,_=>.fresh
def mostLen:Nat:=1000000
mutual
def deq:DV->DV->Bool
 | .non,.non=>true
 | .bl a,.bl b=>a==b
 | .bl a,.int j=>(if a then 1 else 0)==j
 | .int i,.bl b=>i==(if b then 1 else 0)
 | .int i,.int j=>i==j
 | .str a,.str b=>decide (a=b)
 | .tup a,.tup b=>deqs a b
 | .lst a,.lst b=>deqs a b
 | _,_=>false
def deqs:List DV->List DV->Bool
 | [],[]=>true
 | a::r,b::s=>deq a b&&deqs r s
 | _,_=>false
end
mutual
def DV.plain:Nat->DV->Bool
 | _,.non=>true | _,.bl _=>true | _,.int _=>true
 | _,.str x=>x.cps.all (· < 0x110000)
 | 0,_=>false
 | n+1,.tup ds=>DV.plains n ds | n+1,.lst ds=>DV.plains n ds
 | _,_=>false
def DV.plains:Nat->List DV->Bool
 | _,[]=>true
 | n,d::r=>d.plain n&&DV.plains n r
end
def q2e:DV->Option Bool
 | .non=>some false
 | .bl b=>some b
 | .int i=>some (i != 0)
 | .str x=>some (x.cps.size != 0)
 | .tup ds=>some (!ds.isEmpty)
 | .lst ds=>some (!ds.isEmpty)
 | _=>none
def q2s(n:Nat)(i:Int):Option Nat:=if 0<=i then(if i<n then some i.toNat else none)else if -(n:Int)<=i then some (i+n).toNat else none
def atD(ds:List DV)(i:Int):Option DV:=(q2s ds.length i).bind λj=>ds[j]?
def ixD(a b:DV):Option DV:=match a,b with
 | .scr ns,.int i=>((q2s ns.length i).bind λj=>ns[j]?).map DV.int
 | .lst ds,.int i=>atD ds i
 | .tup ds,.int i=>atD ds i
 | .str z,.int i=>(q2s z.cps.size i).bind λj=>(z.cps[j]?).map λc=>.str ⟨#[c]⟩
 | _,_=>none
def slIx(n d:Nat):Option Int->Nat
 | none=>d
 | some v=>if v<0 then(v+(n:Int)).toNat else min v.toNat n
def cutD(ds:List DV)(lo hi:Option Int):List DV:=(ds.drop (slIx ds.length 0 lo)).take (slIx ds.length ds.length hi - slIx ds.length 0 lo)
def slD(a:DV)(lo hi:Option Int):Option DV:=match a with
 | .scr ns=>some (.lst (cutD (ns.map DV.int) lo hi))
 | .lst ds=>some (.lst (cutD ds lo hi))
 | .tup ds=>if slIx ds.length 0 lo=0/\slIx ds.length ds.length hi=ds.length then none else some (.tup (cutD ds lo hi))
 | _=>none
def slCl(a:DV)(c:Cl):Cl:=match a with
 | .scr _=>.fresh
 | .lst _=>Cl.anew c c
 | _=>c.item
def q2Z(i j:Int):Bool:=(decide (-(2^64)<i)&&decide (i<2^64))||(decide (-(2^64)<j)&&decide (j<2^64))||(decide (i.natAbs<2^2000)&&decide (j.natAbs<2^2000))
def binD(op:Operator)(a b:DV)(ca cb:Cl):Option Re:=match op,a,b with
 | .Add,.int i,.int j=>some (.ok (.int (i+j)) .strong)
 | .Sub,.int i,.int j=>some (.ok (.int (i - j)) .strong)
 | .Mult,.int i,.int j=>if q2Z i j then some (.ok (.int (i*j)) .strong)else none
 | .Mod,.int i,.int j=>if 0<j then some (.ok (.int (i%j)) .strong)else none
 | .FloorDiv,.int i,.int j=>if 0<j/\j<2^200 then some (.ok (.int (i/j)) .strong)else none
 | .LShift,.int i,.int j=>if 0<=j/\j<=1000000/\i.natAbs<2^64 then some (.ok (.int (i*2^j.toNat)) .strong)else none
 | .RShift,.int i,.int j=>if 0<=j then some (.ok (.int (i/2^j.toNat)) .strong)else none
 | .BitAnd,.int i,.int j=>some (.ok (.int (Builtin.bitAnd i j)) .strong)
 | .BitOr,.int i,.int j=>some (.ok (.int (Builtin.bitOr i j)) .strong)
 | .BitXor,.int i,.int j=>some (.ok (.int (Builtin.bitXor i j)) .strong)
 | .Add,.lst x,.lst y=>if x.length+y.length<=mostLen then some (.ok (.lst (x++y)) (Cl.anew ca cb))else none
 | .Mult,.lst x,.int k=>if x.length*k.toNat<=mostLen /\ -(2^63)<=k/\k<2^63 then some (.ok (.lst (List.replicate k.toNat x).flatten) (Cl.anew ca ca))else none
 | _,_,_=>none
def isN:DV->Bool
 | .non=>true
 | _=>false
def cmpD(op:CmpOp)(a b:DV):Option Bool:=match op,a,b with
 | .Lt,.int i,.int j=>some (decide (i<j))
 | .LtE,.int i,.int j=>some (decide (i<=j))
 | .Gt,.int i,.int j=>some (decide (j<i))
 | .GtE,.int i,.int j=>some (decide (j<=i))
 | .Eq,a,b=>if a.plain 60&&b.plain 60 then some (deq a b)else none
 | .NotEq,a,b=>if a.plain 60&&b.plain 60 then some (!deq a b)else none
 | .Is,a,.non=>some (isN a)
 | .In,a,.lst ds=>if a.plain 60&&DV.plains 60 ds then some (ds.any λd=>deq d a)else none
 | .NotIn,a,.lst ds=>if a.plain 60&&DV.plains 60 ds then some (!ds.any λd=>deq d a)else none
 | _,_,_=>none
def ints?:List DV->Option (List Int)
 | []=>some []
 | .int i::r=>(ints? r).map (i :: ·)
 | _=>none
def bools?:List DV->Option (List Bool)
 | []=>some []
 | .bl i::r=>(bools? r).map (i :: ·)
 | _=>none
def minI:Int->List Int->Int
 | m,[]=>m
 | m,x::r=>minI (if x<m then x else m) r
def maxI:Int->List Int->Int
 | m,[]=>m
 | m,x::r=>maxI (if m<x then x else m) r
def dk(σ:List Int)(k:Int):List Int:=if k∈σ then σ else σ++[k]
def q2M(i:Int):Int:=if i=0 then 0 else(i.natAbs.log2:Int)+1
def lenD:List (DV×Cl)->Option Re
 | [(.lst ds,_)]=>some (.ok (.int ds.length) .strong)
 | [(.tup ds,_)]=>some (.ok (.int ds.length) .strong)
 | [(.scr ns,_)]=>some (.ok (.int ns.length) .strong)
 | [(.str z,_)]=>some (.ok (.int z.length) .strong)
 | _=>none
def minD:List (DV×Cl)->Option Re
 | [(.int i,_),(.int j,_)]=>some (.ok (.int (if j<i then j else i)) .strong)
 | [(.lst ds,c)]=>match ints? ds with
  | some (n::r)=>some (.ok (.int (minI n r)) .strong)
  | _=>none
 | [(.tup ds,_)]=>match ints? ds with
  | some (n::r)=>some (.ok (.int (minI n r)) .strong)
  | _=>none
 | _=>none
def maxD:List (DV×Cl)->Option Re
 | [(.int i,_),(.int j,_)]=>some (.ok (.int (if j>i then j else i)) .strong)
 | [(.lst ds,_)]=>match ints? ds with
  | some (n::r)=>some (.ok (.int (maxI n r)) .strong)
  | _=>none
 | _=>none
def sumD:List (DV×Cl)->Option Re
 | [(.lst ds,_)]=>(ints? ds).map λns=>.ok (.int ns.sum) .strong
 | _=>none
def anyD:List (DV×Cl)->Option Re
 | [(.lst ds,_)]=>(bools? ds).map λbs=>.ok (.bl (bs.any id)) .strong
 | _=>none
def q8b:List (DV×Cl)->Option Re
 | [(.scr ns,_)]=>some (.ok (.lst (ns.map DV.int)) .fresh)
 | [(.lst ds,c)]=>some (.ok (.lst ds) (Cl.anew c c))
 | [(.tup ds,c)]=>some (.ok (.lst ds) (Cl.anew c c))
 | _=>none
def q4C:List (DV×Cl)->Option Re
 | [(.lst ds,c)]=>some (.ok (.tup ds) c.item)
 | [(.tup ds,c)]=>some (.ok (.tup ds) c)
 | _=>none
def q7P:List (DV×Cl)->Option Re
 | [(.lst ds,_)]=>match ints? ds with
  | some _=>some (.ok (.lst ds) .fresh)
  | none=>none
 | _=>none
def biD(f:Bi)(l:List (DV×Cl)):Option Re:=match f with
 | .len=>lenD l
 | .min=>minD l
 | .max=>maxD l
 | .list=>q8b l
 | .tuple=>q4C l
 | .lsti=>q7P l
 | .sum=>sumD l
 | .any=>anyD l
def biOk:Bi->Bool
 | .len=>true | .min=>true | .max=>true | .list=>true | .tuple=>true | .lsti=>true | .sum=>true | .any=>true
def mtD(m:Mt)(a:DV):Option Re:=match m,a with
 | .bitLength,.int i=>some (.ok (.int (q2M i)) .strong)
 | _,_=>none
structure Gs where
 dcs:List (Str×List (Str×Str)):=[]
 con:List (Str×DV)
 cls:List (Str×List Str)
 dfl:List (Nat×List DV):=[]
 kws:List (Nat×Str):=[]
 hun:Bool:=false
def q1C(G:Gs)(c c':Str):Bool:=c==c'||((G.cls.lookup c).getD []).contains c'
def isxD(G:Gs)(d:DV)(t:Str):Option Bool:=match d with
 | .exc c=>if(G.cls.lookup c).isSome then some (q1C G c t)else none
 | _=>none
def tyOf:DV->List Str
 | .non=>["NoneType"]
 | .bl _=>["bool","int"]
 | .int _=>["int"]
 | .str _=>["str"]
 | .tup _=>["tuple"]
 | .lst _=>["list"]
 | .dct _ _=>["dict"]
 | _=>[]
def q2x:List Str:=["int","bool","str","list","tuple","dict"]
def isiD(G:Gs)(d:DV)(ts:List Str):Option Bool:=match d with
 | .scr _=>none
 | .exc _=>none
 | .fn _=>none
 | d=>match ts with
  | [t]=>if q2x.contains t then some ((tyOf d).contains t)else none
  | _=>none
def upTo(lo:Int)(n:Nat):List DV:=(List.range n).map λ(i:Nat)=>DV.int (lo+i)
def q4R(lo:Int)(n:Nat):List DV:=(List.range n).map λ(i:Nat)=>DV.int (lo - i)
def q0R(i:Int):Bool:=decide (-(2^62)<=i)&&decide (i<2^62)
def rngD(l:List (DV×Cl)):Option (List DV):=match l with
 | [(.int j,_)]=>if q0R j&&decide (j<=mostLen)then some (upTo 0 j.toNat)else none
 | [(.int i,_),(.int j,_)]=>if q0R i&&q0R j&&decide (j - i<=mostLen)then some (upTo i (j - i).toNat)else none
 | [(.int i,_),(.int j,_),(.int k,_)]=>if q0R i&&q0R j&&decide (i - j<=mostLen)&&decide (k = -1)then some (q4R i (i - j).toNat)else none
 | _=>none
def enuD:Nat->List DV->List DV
 | _,[]=>[]
 | k,d::r=>.tup [.int k,d]::enuD (k+1) r
def zpD:List DV->List DV->List DV
 | a::r,b::s=>.tup [a,b]::zpD r s
 | _,_=>[]
def Cl.meet:Cl->Cl->Cl
 | .weak,_=>.weak | _,.weak=>.weak | .top,_=>.top | _,.top=>.top | _,_=>.strong
def z1C:DV->Option (Bool×List DV)
 | .lst ds=>some (false,ds)
 | .tup ds=>some (true,ds)
 | _=>none
def q6q(x:DV)(c:Cl):Option Re:=match z1C x with
 | some (_,xs)=>some (.ok (.lst (enuD 0 xs)) (Cl.meet c c))
 | _=>none
def zipD(x y:DV)(c c':Cl):Option Re:=match z1C x,z1C y with
 | some (_,xs),some (_,ys)=>some (.ok (.lst (zpD xs ys)) (Cl.meet c c'))
 | _,_=>none
def seqD:DV->Option (List DV)
 | .scr ns=>some (ns.map DV.int)
 | .lst ds=>some ds
 | .tup ds=>some ds
 | _=>none
def q4N(δ:List Sv):List Nat->List DV->Option (List Sv)
 | [],[]=>some δ
 | i::is,d::ds=>q4N (δ.set i (.val d)) is ds
 | _,_=>none
def Tg.bind(tg:Tg)(d:DV)(δ:List Sv):Option (List Sv):=match tg with
 | .one i=>some (δ.set i (.val d))
 | .many is=>match d with
  | .tup ds=>q4N δ is ds
  | _=>none
def Sv.plain:Sv->Sv
 | .ot _=>.no
 | .o2 _=>.no
 | s=>s
def q0K(fr:List (Option Nat))(δ:List Sv):List Sv:=fr.map λo=>match o with
 | some i=>(δ.getD i .no).plain
 | none=>.no
inductive Rc where
 | skip | item (d:DV)
def q0C(g:DV->Option Rc):List DV->Option (List DV)
 | []=>some []
 | d::r=>match g d with
  | none=>none
  | some .skip=>q0C g r
  | some (.item x)=>match q0C g r with
   | none=>none
   | some xs=>some (x::xs)
def q1h(r:Option (List DV)):Option Re:=match r with
 | none=>none
 | some xs=>some (.ok (.lst xs) .fresh)
def Rc.of(r:Option Re):Option Rc:=match r with
 | some (.ok d c)=>if stro d c then some (.item d)else none
 | _=>none
def Rc.test(t:Option Rt)(r:Option Rc):Option Rc:=match t with
 | some (.ok true)=>r
 | some (.ok false)=>some .skip
 | _=>none
inductive Ri where
 | ok (ds:List DV) (c:Cl) | ex (c:Str)
def Ri.thn(r:Option Ri)(k:List DV->Cl->Option Re):Option Re:=match r with
 | none=>none
 | some (.ex c)=>some (.ex c)
 | some (.ok ds c)=>k ds c
def Re.thnI(r:Option Re)(k:DV->Cl->Option Ri):Option Ri:=match r with
 | none=>none
 | some (.ex c)=>some (.ex c)
 | some (.ok d c)=>k d c
def z8g(d:DV)(c:Cl):Option Ri:=(seqD d).map λds=>.ok ds c
def imL:DV->Bool
 | .lst ds=>DV.immuts ds
 | _=>false
def q1W(F:Nat->List DV->Option Ou)(f:Nat)(l:List (DV×Cl)):Option Re:=match F f (l.map (·.1))with
 | none=>none
 | some (.x c)=>some (.ex c)
 | some (.t (.dct _ ds))=>some (.ok (.tup ds) .strong)
 | some (.t d)=>some (.ok d (if l.all λp=>p.2 == .strong||p.2 == .fresh then(match d with | .lst _=>.fresh | _=>.ft)else .weak))
 | some (.v d fr)=>some (.ok d (if l.all λp=>p.2 == .strong||p.2 == .fresh then(if fr then .fresh else .strong)else if fr&&imL d then .fresh else .weak))
def andD(x:DV)(c:Cl)(r:Option Re):Option Re:=match q2e x with
 | none=>none
 | some true=>r
 | some false=>some (.ok x c)
def orD(x:DV)(c:Cl)(r:Option Re):Option Re:=match q2e x with
 | none=>none
 | some true=>some (.ok x c)
 | some false=>r
def tstD(r:Option Re):Option Rt:=Re.thnT r λx _=>(q2e x).map Rt.ok
def q0A(r:Option Re):Option Ri:=Re.thnI r λx c=>z8g x c
mutual
def evE(G:Gs)(F:Nat->List DV->Option Ou):ME->List Sv->Option Re
 | .var i,δ=>match δ[i]? with
  | some (.val d)=>some (.ok d .strong)
  | some (.own d)=>some (.ok d .top)
  | some (.ot d)=>some (.ok (otD d) .weak)
  | some (.o2 d)=>some (.ok d .weak)
  | _=>none
 | .int i,_=>some (.ok (.int i) .strong)
 | .bl i,_=>some (.ok (.bl i) .strong)
 | .str i,_=>some (.ok (.str i) .strong)
 | .non,_=>some (.ok .non .strong)
 | .glb x,_=>(G.con.lookup x).map λd=>.ok d .strong
 | .bin op a b,δ=>Re.thn (evE G F a δ) λx cx=>Re.thn (evE G F b δ) λy cy=>binD op x y cx cy
 | .neg a,δ=>Re.thn (evE G F a δ) λx _=>match x with | .int i=>some (.ok (.int (-i)) .strong) | _=>none
 | .not a,δ=>Re.thn (evE G F a δ) λx _=>(q2e x).map λk=>.ok (.bl (!k)) .strong
 | .cmp op a b,δ=>Re.thn (evE G F a δ) λx _=>Re.thn (evE G F b δ) λy _=>(cmpD op x y).map λk=>.ok (.bl k) .strong
 | .chain op op' a b c,δ=>Re.thn (evE G F a δ) λx _=>Re.thn (evE G F b δ) λy _=>match cmpD op x y with
  | none=>none
  | some false=>some (.ok (.bl false) .strong)
  | some true=>Re.thn (evE G F c δ) λz _=>(cmpD op' y z).map λk=>.ok (.bl k) .strong
 | .and es,δ=>q3H G F es δ
 | .or es,δ=>evOr G F es δ
 | .lst es,δ=>Rs.thn (evEs G F es δ) λl=>if l.length<=mostLen then some (.ok (.lst (l.map (·.1))) (if stros l then .fresh else .weak))else none
 | .tup es,δ=>Rs.thn (evEs G F es δ) λl=>if l.length<=mostLen then some (.ok (.tup (l.map (·.1))) (if stros l then .strong else .weak))else none
 | .dc0,_=>some (.ok (.dct [] []) .strong)
 | .ix a b,δ=>Re.thn (evE G F a δ) λx cx=>Re.thn (evE G F b δ) λy _=>(ixD x y).map λd=>.ok d cx.item
 | .sl a lo hi,δ=>Re.thn (evE G F a δ) λx cx=>Re.thn (evE G F lo δ) λl _=>match l with
  | .int l=>Re.thn (evE G F hi δ) λh _=>(match h with
   | .int h=>(slD x (some l) (some h)).map λd=>.ok d (slCl x cx)
   | _=>none)
  | _=>none
 | .slt a hi,δ=>Re.thn (evE G F a δ) λx cx=>Re.thn (evE G F hi δ) λh _=>match h with
  | .int h=>(slD x none (some h)).map λd=>.ok d (slCl x cx)
  | _=>none
 | .call f es,δ=>Rs.thn (evEs G F es δ) λl=>q1W F f l
 | .bi f es,δ=>if biOk f then Rs.thn (evEs G F es δ) λl=>biD f l else none
 | .isi a ts,δ=>Re.thn (evE G F a δ) λx _=>(isiD G x ts).map λk=>.ok (.bl k) .strong
 | .isx a t,δ=>Re.thn (evE G F a δ) λx _=>(isxD G x t).map λk=>.ok (.bl k) .strong
 | .meth m a _,δ=>if m=.bitLength then Re.thn (evE G F a δ) λx _=>mtD m x else none
 | .comp elt tg it fr,δ=>Ri.thn (q0A (evE G F it δ)) λds c=>if c=.weak\/mostLen<ds.length then none else q1h (q0C (λd=>(tg.bind d (q0K fr δ)).bind λδ'=>Rc.of (evE G F elt δ')) ds)
 | .compi elt tg it cd fr,δ=>Ri.thn (q0A (evE G F it δ)) λds c=>if c=.weak\/mostLen<ds.length then none else q1h (q0C (λd=>(tg.bind d (q0K fr δ)).bind λδ'=>Rc.test (tstD (evE G F cd δ')) (Rc.of (evE G F elt δ'))) ds)
 | .rng es,δ=>Rs.thn (evEs G F es δ) λl=>(rngD l).map λds=>.ok (.lst ds) .fresh
 | .zp a b,δ=>Re.thn (evE G F a δ) λx c=>Re.thn (evE G F b δ) λy c'=>zipD x y c c'
 | .enu a,δ=>Re.thn (evE G F a δ) λx c=>q6q x c
def evEs(G:Gs)(F:Nat->List DV->Option Ou):List ME->List Sv->Option Rs
 | [],_=>some (.ok [])
 | e::es,δ=>match evE G F e δ with
  | none=>none
  | some (.ex c)=>some (.ex c)
  | some (.ok d c)=>match evEs G F es δ with
   | none=>none
   | some (.ex c)=>some (.ex c)
   | some (.ok l)=>some (.ok ((d,c)::l))
def q3H(G:Gs)(F:Nat->List DV->Option Ou):List ME->List Sv->Option Re
 | [],_=>none
 | e::es,δ=>if es.isEmpty then evE G F e δ else Re.thn (evE G F e δ) λx c=>andD x c (q3H G F es δ)
def evOr(G:Gs)(F:Nat->List DV->Option Ou):List ME->List Sv->Option Re
 | [],_=>none
 | e::es,δ=>if es.isEmpty then evE G F e δ else Re.thn (evE G F e δ) λx c=>orD x c (evOr G F es δ)
end
def q5A:Nat:=1000
def Re.thnS(δ:List Sv)(r:Option Re)(k:DV->Cl->Option Out):Option Out:=match r with
 | none=>none
 | some (.ex c)=>some (.ex c δ)
 | some (.ok d c)=>k d c
def Rt.thnS(δ:List Sv)(r:Option Rt)(k:Bool->Option Out):Option Out:=match r with
 | none=>none
 | some (.ex c)=>some (.ex c δ)
 | some (.ok b)=>k b
def Ri.thnS(δ:List Sv)(r:Option Ri)(k:List DV->Cl->Option Out):Option Out:=match r with
 | none=>none
 | some (.ex c)=>some (.ex c δ)
 | some (.ok ds c)=>k ds c
def q0O(tg:Tg)(body:List Sv->Option Out):List DV->List Sv->Option Out
 | [],δ=>some (.nx δ)
 | d::r,δ=>match tg.bind d δ with
  | none=>none
  | some δ1=>match body δ1 with
   | some (.nx δ2)=>q0O tg body r δ2
   | o=>o
def frD:DV->Cl->Bool
 | .lst _,.fresh=>true | .lst _,.top=>true
 | _,_=>false
def noOt(i:Nat)(δ:List Sv):Bool:=(List.range δ.length).all λj=>j==i||(match δ[j]? with | some (.ot _)=>false | some (.o2 _)=>false | some (.od _)=>false | _=>true)
def q3T(i:Nat)(δ:List Sv)(d:DV)(c:Cl):Option Out:=match c with
 | .fresh=>some (.nx (δ.set i (.own d)))
 | .ft=>if noOt i δ then some (.nx (δ.set i (.ot d)))else none
 | _=>none
def retD(d:DV)(c:Cl):Out:=match c with
 | .ft=>.rtt d
 | _=>.rt d (frD d c)
def newI(d:DV)(c:Cl):Bool:=match d,c with
 | .lst ds,.fresh=>(ints? ds).isSome
 | _,_=>false
def q5j(d:DV)(c:Cl):Bool:=match d with
 | .int _=>true
 | _=>newI d c
def tryD(G:Gs)(c:Str)(ie ic:Nat)(r:Option Out):Option Out:=match r with
 | some (.ex c' δ')=>if(G.cls.lookup c').isSome/\q1C G c' c/\ie<δ'.length/\ie≠ic then some (.nx ((δ'.set ic (.val (.exc c'))).set ie .no))else none
 | o=>o
mutual
def evS(G:Gs)(F:Nat->List DV->Option Ou)(fu:Nat):MS->List Sv->Option Out
 | .set i own e,δ=>Re.thnS δ (evE G F e δ) λd c=>if own then q3T i δ d c else(if stro d c then some (.nx (δ.set i (.val d)))else none)
 | .app i e,δ=>match δ[i]? with
  | some (.own (.lst ds))=>Re.thnS δ (evE G F e δ) λd c=>if stro d c/\ds.length<mostLen then some (.nx (δ.set i (.own (.lst (ds++[d])))))else none
  | _=>none
 | .seti i k e,δ=>match δ[i]? with
  | some (.own (.lst ds))=>Re.thnS δ (evE G F e δ) λd c=>Re.thnS δ (evE G F k δ) λk _=>(match k with
   | .int k=>(match q2s ds.length k with
    | some j=>if stro d c then some (.nx (δ.set i (.own (.lst (ds.set j d)))))else none
    | none=>none)
   | _=>none)
  | _=>none
 | .exp e,δ=>Re.thnS δ (evE G F e δ) λ_ _=>some (.nx δ)
 | .ret e,δ=>Re.thnS δ (evE G F e δ) λd c=>some (retD d c)
 | .iff c a b,δ=>Rt.thnS δ (tstD (evE G F c δ)) λk=>if k then evSs G F fu a δ else evSs G F fu b δ
 | .fo tg it body,δ=>Ri.thnS δ (q0A (evE G F it δ)) λds c=>if c=.strong\/c=.fresh then q0O tg (λδ'=>evSs G F fu body δ') ds δ else none
 | .ret2 a b,δ=>match evE G F a δ,evE G F b δ with
  | some (.ok d c),some (.ok d' c')=>if q5j d c=true/\q5j d' c'=true then some (.rtt (.dct [] [d,d']))else none
  | _,_=>none
 | .setp i f es,δ=>match evEs G F es δ with
  | some (.ok l)=>if noOt i δ=true then(match F f (l.map (·.1))with
   | some (.t (.dct ks ds))=>some (.nx (δ.set i (.ot (.dct ks ds))))
   | _=>none)else none
  | _=>none
 | .oapp i k e,δ=>match δ[i]? with
  | some (.ot (.dct ks ds))=>match ds[k]?,evE G F e δ with
   | some (.lst xs),some (.ok (.int z) _)=>if xs.length<mostLen then some (.nx (δ.set i (.ot (.dct ks (ds.set k (.lst (xs++[.int z])))))))else none
   | _,_=>none
  | _=>none
 | .oclr i k,δ=>match δ[i]? with
  | some (.ot (.dct ks ds))=>match ds[k]? with
   | some (.lst _)=>some (.nx (δ.set i (.ot (.dct ks (ds.set k (.lst []))))))
   | _=>none
  | _=>none
 | .rse c e,δ=>if(G.cls.lookup c).isSome then Re.thnS δ (evE G F e δ) λ_ _=>some (.ex c δ)else none
 | .tryc body c ie ic,δ=>tryD G c ie ic (evSs G F fu body δ)
 | .frz i,δ=>match δ[i]? with
  | some (.own d)=>some (.nx (δ.set i (.val d)))
  | _=>some (.nx δ)
def evSs(G:Gs)(F:Nat->List DV->Option Ou)(fu:Nat):List MS->List Sv->Option Out
 | [],δ=>some (.nx δ)
 | s::r,δ=>match evS G F fu s δ with
  | some (.nx δ')=>evSs G F fu r δ'
  | o=>o
end
def q0m(n:Nat)(ds:List DV):List Sv:=ds.map Sv.val++List.replicate (n - ds.length) .no
def Ou.of(o:Option Out):Option Ou:=match o with
 | some (.nx _)=>some (.v .non false)
 | some (.rt d fr)=>some (.v d fr)
 | some (.rtt d)=>some (.t d)
 | some (.ex c _)=>some (.x c)
 | none=>none
def q6D:Nat->DV->List DV->Option (DV×List DV)
 | 0,_,_=>none
 | k+1,d,l=>match d with
  | .tup [.str s,x]=>if decide (s = "end")&&d.plain 60&&DV.plains 59 l then(match l with
   | []=>some (d,[])
   | y::l'=>some (y,l'))else none
  | .tup [.str s,a,b,c,e]=>if decide (s ≠ "end")&&(s.cps.all (· < 0x110000))then(match q6D k c l with
   | none=>none
   | some (n,l1)=>match q6D k e l1 with
    | none=>none
    | some (y,l2)=>some (.tup [.str "ask",a,b,n,y],l2))else none
  | _=>none
def q7U(k:Nat)(f:Nat)(ds:List DV):Option Ou:=match ds with
 | [d,.lst l]=>if f=q5A then(q6D k d l).map (λr=>.v r.1 false)else none
 | _=>none
def run(G:Gs)(T:List FD)(fu:Nat):Nat->Nat->List DV->Option Ou
 | 0,_,_=>none
 | k+1,f,ds=>match T[f]? with
  | none=>q7U (k+1) f ds
  | some fd=>if ds.length=fd.np then Ou.of (evSs G (run G T fu k) fu fd.body (q0m fd.n ds))else none
end L2
end
noncomputable section
namespace L2
open PySem
section
variable {G:Gs} {F:Nat->List DV->Option Ou} {fu:Nat} {δ:List Sv}
theorem q0V{d:DV}{c:Cl}{k:DV->Cl->Option Re}:Re.thn (some (.ok d c)) k=k d c:=rfl
theorem q3b{l:List (DV×Cl)}{k:List (DV×Cl)->Option Re}:Rs.thn (some (.ok l)) k=k l:=rfl
theorem q4v{ds:List DV}{c:Cl}{k:List DV->Cl->Option Re}:Ri.thn (some (.ok ds c)) k=k ds c:=rfl
theorem q9F{d:DV}{c:Cl}{k:DV->Cl->Option Out}:Re.thnS δ (some (.ok d c)) k=k d c:=rfl
theorem z5i{m:MS}{r:List MS}{δ':List Sv}(h:evS G F fu m δ=some (.nx δ')):evSs G F fu (m::r) δ=evSs G F fu r δ':=by
 rw[show evSs G F fu (m::r) δ=(match evS G F fu m δ with | some (.nx δ')=>evSs G F fu r δ' | o=>o)from rfl,h]
theorem z6S{m:MS}{r:List MS}{d:DV}{fr:Bool}(h:evS G F fu m δ=some (.rt d fr)):evSs G F fu (m::r) δ=some (.rt d fr):=by
 rw[show evSs G F fu (m::r) δ=(match evS G F fu m δ with | some (.nx δ')=>evSs G F fu r δ' | o=>o)from rfl,h]
theorem q0E{T:List FD}{k f:Nat}{ds:List DV}{fd:FD}(h:T[f]? = some fd)(hl:ds.length=fd.np):run G T fu (k+1) f ds=Ou.of (evSs G (run G T fu k) fu fd.body (q0m fd.n ds)):=by
 show(match T[f]? with | none=>q7U (k+1) f ds | some fd=>if ds.length=fd.np then Ou.of (evSs G (run G T fu k) fu fd.body (q0m fd.n ds))else none)=_;rw[h];exact if_pos hl
end
end L2
namespace L2
open PySem
theorem q3Z{I:List Sv->Prop}{tg:Tg}{body:List Sv->Option Out}:∀{ds:List DV} {δ:List Sv},(∀d∈ds,∀δ,I δ->∃δ1 δ2,tg.bind d δ=some δ1/\body δ1=some (.nx δ2)/\I δ2)->I δ->∃δ',q0O tg body ds δ=some (.nx δ')/\I δ'
 | [],δ,_,i=>⟨δ,rfl,i⟩
 | d::r,δ,h,i=>by obtain⟨δ1,δ2,e1,e2,i2⟩:=h d (List.mem_cons_self ..) δ i;obtain⟨δ',e3,i3⟩:=q3Z (ds:=r) (λd hd=>h d (List.mem_cons_of_mem _ hd)) i2;refine⟨δ',?_,i3⟩;show(match tg.bind d δ with | none=>none | some δ1=>(match body δ1 with | some (.nx δ2)=>q0O tg body r δ2 | o=>o))=_;rw[e1];show(match body δ1 with | some (.nx δ2)=>q0O tg body r δ2 | o=>o)=_;rw[e2];exact e3
theorem q3q{g:DV->Option Rc}{p:DV->Bool}:∀{ds:List DV},(∀d∈ds,g d=some (if p d then .item d else .skip))->q0C g ds=some (ds.filter p)
 | [],_=>rfl
 | d::r,h=>by
  have h0:=h d (List.mem_cons_self ..);have ih:=q3q (ds:=r) (λd hd=>h d (List.mem_cons_of_mem _ hd));unfold q0C;rw[h0];cases hp:p d with
  | false=>rw[List.filter_cons_of_neg (by rw[hp];exact Bool.false_ne_true)];exact ih
  | true=>
   rw[List.filter_cons_of_pos hp];show(match q0C g r with | none=>none | some xs=>some (d::xs))=_;rw[ih]
theorem q3u{g:DV->Option Rc}{f:DV->DV}:∀{ds:List DV},(∀d∈ds,g d=some (.item (f d)))->q0C g ds=some (ds.map f)
 | [],_=>rfl
 | d::r,h=>by have h0:=h d (List.mem_cons_self ..);have ih:=q3u (ds:=r) (λd hd=>h d (List.mem_cons_of_mem _ hd));unfold q0C;rw[h0];show(match q0C g r with | none=>none | some xs=>some (f d::xs))=_;rw[ih];rfl
theorem q7i{lo:Int}{n:Nat}{d:DV}(h:d∈upTo lo n):∃j:Nat,j<n/\d=.int (lo+j):=by
 unfold upTo at h;rw[List.mem_map]at h;obtain⟨j,hj,rfl⟩:=h;exact⟨j,List.mem_range.mp hj,rfl⟩
end L2
namespace L2
open PySem
section
variable {G:Gs} {F:Nat->List DV->Option Ou} {fu:Nat} {δ δ':List Sv} {m:MS} {r a b body:List MS} {o:Option Out} {c it:ME} {d:DV} {fr:Bool} {tg:Tg} {ds:List DV} {cl:Cl}
theorem q1x(h:evSs G F fu r δ=some (.rt d fr)):Ou.of (evSs G F fu r δ)=some (.v d fr):=by rw[h];rfl
theorem z7Y(h:evSs G F fu r δ=some (.nx δ')):Ou.of (evSs G F fu r δ)=some (.v .non false):=by rw[h];rfl
theorem q0s(h:evS G F fu m δ=some (.nx δ'))(h2:evSs G F fu r δ'=o):evSs G F fu (m::r) δ=o:=(z5i h).trans h2
theorem q1p(h:evS G F fu m δ=some (.rt d fr)):evSs G F fu (m::r) δ=some (.rt d fr):=z6S h
theorem q8a{bb:Bool}(hc:tstD (evE G F c δ)=some (.ok bb)):evS G F fu (.iff c a b) δ=if bb then evSs G F fu a δ else evSs G F fu b δ:=by
 show Rt.thnS δ (tstD (evE G F c δ)) (λk=>if k then evSs G F fu a δ else evSs G F fu b δ)=_;rw[hc];rfl
theorem q4K(hc:tstD (evE G F c δ)=some (.ok true))(h:evSs G F fu a δ=some (.nx δ'))(h2:evSs G F fu r δ'=o):evSs G F fu (.iff c a b::r) δ=o:=q0s ((q8a hc).trans h) h2
theorem z6A(hc:tstD (evE G F c δ)=some (.ok false))(h:evSs G F fu b δ=some (.nx δ'))(h2:evSs G F fu r δ'=o):evSs G F fu (.iff c a b::r) δ=o:=q0s ((q8a hc).trans h) h2
theorem z7o(hc:tstD (evE G F c δ)=some (.ok true))(h:evSs G F fu a δ=some (.rt d fr)):evSs G F fu (.iff c a b::r) δ=some (.rt d fr):=q1p ((q8a hc).trans h)
theorem q1f(hc:tstD (evE G F c δ)=some (.ok false))(h2:evSs G F fu r δ=o):evSs G F fu (.iff c a []::r) δ=o:=z6A hc rfl h2
theorem q3X(hw:q0A (evE G F it δ)=some (.ok ds cl))(hc:cl=.strong\/cl=.fresh)(h:q0O tg (λδ'=>evSs G F fu body δ') ds δ=some (.nx δ'))(h2:evSs G F fu r δ'=o):evSs G F fu (.fo tg it body::r) δ=o:=by
 refine q0s ?_ h2;show Ri.thnS δ (q0A (evE G F it δ)) (λds c=>if c=.strong\/c=.fresh then q0O tg (λδ'=>evSs G F fu body δ') ds δ else none)=_;rw[hw];show(if cl=.strong\/cl=.fresh then q0O tg (λδ'=>evSs G F fu body δ') ds δ else none)=_;rw[if_pos hc];exact h
theorem q0F{i:Nat}{e:ME}(h:evE G F e δ=some (.ok d cl))(hs:stro d cl=true):evS G F fu (.set i false e) δ=some (.nx (δ.set i (.val d))):=by
 show Re.thnS δ (evE G F e δ) (λd c=>if false then q3T i δ d c else(if stro d c then some (.nx (δ.set i (.val d)))else none))=_;rw[h];show(if stro d cl then some (Out.nx (δ.set i (.val d)))else none)=_;rw[if_pos hs]
theorem q2Q{i:Nat}{e:ME}(h:evE G F e δ=some (.ok d .fresh)):evS G F fu (.set i true e) δ=some (.nx (δ.set i (.own d))):=by
 show Re.thnS δ (evE G F e δ) (λd c=>if true then q3T i δ d c else(if stro d c then some (.nx (δ.set i (.val d)))else none))=_;rw[h];rfl
theorem q1b{e:ME}(h:evE G F e δ=some (.ok d cl))(hc:cl ≠ .ft:=by first | decide | (intro z;cases z)):evS G F fu (.ret e) δ=some (.rt d (frD d cl)):=by
 show Re.thnS δ (evE G F e δ) (λd c=>some (retD d c))=_;rw[h];show some (retD d cl)=_;cases cl<;>first | rfl | exact absurd rfl hc
theorem z7v{e:ME}(h:evE G F e δ=some (.ok d cl)):evS G F fu (.exp e) δ=some (.nx δ):=by
 show Re.thnS δ (evE G F e δ) (λ_ _=>some (.nx δ))=_;rw[h];rfl
theorem q0r{f:Nat}{es:List ME}{l:List (DV×Cl)}(ha:evEs G F es δ=some (.ok l))(hs:(l.all λp=>p.2 == .strong||p.2 == .fresh)=true)(h:F f (l.map (·.1))=some (.v d fr)):evE G F (.call f es) δ=some (.ok d (if fr then .fresh else .strong)):=by
 show Rs.thn (evEs G F es δ) (λl=>q1W F f l)=_;rw[ha];show q1W F f l=_;unfold q1W;rw[h,hs];rfl
theorem q3p{f:Nat}{es:List ME}{l:List (DV×Cl)}(ha:evEs G F es δ=some (.ok l))(hs:(l.all λp=>p.2 == .strong||p.2 == .fresh)=false)(h:F f (l.map (·.1))=some (.v d fr))(hf:(fr&&imL d)=false:=by rfl):evE G F (.call f es) δ=some (.ok d .weak):=by
 show Rs.thn (evEs G F es δ) (λl=>q1W F f l)=_;rw[ha];show q1W F f l=_;unfold q1W;rw[h,hs];show some (Re.ok d (if fr&&imL d then .fresh else .weak))=_;rw[hf];rfl
theorem q4U{f:Nat}{es:List ME}{l:List (DV×Cl)}{ds:List DV}(ha:evEs G F es δ=some (.ok l))(h:F f (l.map (·.1))=some (.v (.lst ds) true))(hf:DV.immuts ds=true):evE G F (.call f es) δ=some (.ok (.lst ds) .fresh):=by
 show Rs.thn (evEs G F es δ) (λl=>q1W F f l)=_;rw[ha];show q1W F f l=_;unfold q1W;rw[h];show some (Re.ok (.lst ds) (if(l.all λp=>p.2 == .strong||p.2 == .fresh)then .fresh else if DV.immuts ds then .fresh else .weak))=_;rw[hf];cases(l.all λp=>p.2 == .strong||p.2 == .fresh)<;>rfl
theorem q0B{e:ME}{x:Bool}(h:evE G F e δ=some (.ok (.bl x) cl)):tstD (evE G F e δ)=some (.ok x):=by rw[h];rfl
theorem q2N{e:ME}{x:Bool}(h:evE G F e δ=some (.ok (.bl x) cl)):evE G F (.not e) δ=some (.ok (.bl (!x)) .strong):=by
 show Re.thn (evE G F e δ) (λx _=>(q2e x).map λk=>.ok (.bl (!k)) .strong)=_;rw[h];rfl
end
end L2
namespace L2
open PySem
section
variable {G:Gs} {F:Nat->List DV->Option Ou} {fu:Nat} {δ δ':List Sv} {a b:ME} {x y:DV} {cx cy:Cl}
theorem q1A{op:Operator}{r:Option Re}(ha:evE G F a δ=some (.ok x cx))(hb:evE G F b δ=some (.ok y cy))(h:binD op x y cx cy=r):evE G F (.bin op a b) δ=r:=by
 show Re.thn (evE G F a δ) (λx cx=>Re.thn (evE G F b δ) λy cy=>binD op x y cx cy)=_;rw[ha,q0V,hb,q0V,h]
theorem q1g{op:CmpOp}{t:Bool}(ha:evE G F a δ=some (.ok x cx))(hb:evE G F b δ=some (.ok y cy))(h:cmpD op x y=some t):evE G F (.cmp op a b) δ=some (.ok (.bl t) .strong):=by
 show Re.thn (evE G F a δ) (λx _=>Re.thn (evE G F b δ) λy _=>(cmpD op x y).map λk=>.ok (.bl k) .strong)=_;rw[ha,q0V,hb,q0V,h];rfl
theorem q0U{d:DV}(ha:evE G F a δ=some (.ok x cx))(hb:evE G F b δ=some (.ok y cy))(h:ixD x y=some d):evE G F (.ix a b) δ=some (.ok d cx.item):=by
 show Re.thn (evE G F a δ) (λx cx=>Re.thn (evE G F b δ) λy _=>(ixD x y).map λd=>.ok d cx.item)=_;rw[ha,q0V,hb,q0V,h];rfl
theorem q7r{t:Bool}(ha:evE G F a δ=some (.ok (.bl false) cx)):evE G F (.and [a,b]) δ=some (.ok (.bl false) cx):=by
 show Re.thn (evE G F a δ) (λx c=>andD x c (evE G F b δ))=_;rw[ha];rfl
theorem q7t{o:Option Re}(ha:evE G F a δ=some (.ok (.bl true) cx))(hb:evE G F b δ=o):evE G F (.and [a,b]) δ=o:=by
 show Re.thn (evE G F a δ) (λx c=>andD x c (evE G F b δ))=_;rw[ha];exact hb
theorem q5r{o:Option Re}(ha:evE G F a δ=some (.ok (.bl false) cx))(hb:evE G F b δ=o):evE G F (.or [a,b]) δ=o:=by
 show Re.thn (evE G F a δ) (λx c=>orD x c (evE G F b δ))=_;rw[ha];exact hb
theorem q0d:evEs G F [] δ=some (.ok []):=rfl
theorem q0a{es:List ME}{l:List (DV×Cl)}(ha:evE G F a δ=some (.ok x cx))(h:evEs G F es δ=some (.ok l)):evEs G F (a::es) δ=some (.ok ((x,cx)::l)):=by
 unfold evEs;rw[ha,h]
end
end L2
namespace L2
open PySem
section
variable {G:Gs} {F:Nat->List DV->Option Ou} {fu:Nat} {δ δ':List Sv} {a b c e:ME} {x y d:DV} {cx cy cl:Cl} {i:Nat} {ds:List DV}
theorem q4B(h0:δ[i]? = some (.own (.lst ds)))(h:evE G F e δ=some (.ok d cl))(hs:stro d cl=true)(hl:ds.length<mostLen):evS G F fu (.app i e) δ=some (.nx (δ.set i (.own (.lst (ds++[d]))))):=by
 unfold evS;rw[h0];show Re.thnS δ (evE G F e δ) (λd c=>if stro d c/\ds.length<mostLen then some (.nx (δ.set i (.own (.lst (ds++[d])))))else none)=_;rw[h];exact if_pos ⟨hs,hl⟩
theorem q9S{k:ME}{n:Int}{j:Nat}(h0:δ[i]? = some (.own (.lst ds)))(h:evE G F e δ=some (.ok d cl))(hk:evE G F k δ=some (.ok (.int n) cx))(hs:stro d cl=true)(hj:q2s ds.length n=some j):evS G F fu (.seti i k e) δ=some (.nx (δ.set i (.own (.lst (ds.set j d))))):=by
 unfold evS;rw[h0];show Re.thnS δ (evE G F e δ) (λd c=>Re.thnS δ (evE G F k δ) λk _=>(match k with | .int k=>(match q2s ds.length k with | some j=>if stro d c then some (.nx (δ.set i (.own (.lst (ds.set j d)))))else none | none=>none) | _=>none))=_;rw[h,q9F,hk,q9F];show(match q2s ds.length n with | some j=>if stro d cl then some (Out.nx (δ.set i (.own (.lst (ds.set j d)))))else none | none=>none)=_;rw[hj];exact if_pos hs
end
end L2
namespace L2
open PySem
section
variable {G:Gs} {F:Nat->List DV->Option Ou} {fu:Nat} {δ δ':List Sv} {a b c e:ME} {x y d:DV} {cx cy cl:Cl} {i:Nat} {ds:List DV}
theorem q3h{I:Nat->List Sv->Prop}{body:List Sv->Option Out}:∀(n:Nat) (lo:Int) {δ:List Sv},(∀j<n,∀δ,I j δ->∃δ2,body (δ.set i (.val (.int (lo+j))))=some (.nx δ2)/\I (j+1) δ2)->I 0 δ->∃δ',q0O (.one i) body (upTo lo n) δ=some (.nx δ')/\I n δ'
 | 0,_,δ,_,i0=>⟨δ,rfl,i0⟩
 | n+1,lo,δ,h,i0=>by
  have e:upTo lo (n+1)=.int lo::upTo (lo+1) n:=by
   unfold upTo;rw[List.range_succ_eq_map,List.map_cons,List.map_map]
   congr 1
   ·congr 1;omega
   ·apply List.map_congr_left;intro a _;show DV.int _=DV.int _
    congr 1
    push_cast
    omega
  obtain⟨δ2,h0,i1⟩:=h 0 (by omega) δ i0;rw[show lo+((0:Nat):Int)=lo by omega]at h0;obtain⟨δ',h1,i2⟩:=q3h (I:=λj=>I (j+1)) n (lo+1) (δ:=δ2) (λj hj δ q=>by
   obtain⟨δ3,q1,q2⟩:=h (j+1) (by omega) δ q;refine⟨δ3,?_,q2⟩;rw[show lo+1+((j:Nat):Int)=lo+((j+1:Nat):Int) by push_cast;omega];exact q1) i1
  refine⟨δ',?_,i2⟩;rw[e];show(match body (δ.set i (.val (.int lo)))with | some (.nx δ2)=>q0O (.one i) body (upTo (lo+1) n) δ2 | o=>o)=_;rw[h0];exact h1
theorem q7M{elt it cd:ME}{tg:Tg}{fr:List (Option Nat)}{p:DV->Bool}(hw:q0A (evE G F it δ)=some (.ok ds cl))(hc:cl ≠ .weak)(hl:ds.length<=mostLen)
  (h:∀d∈ds,∃δ',tg.bind d (q0K fr δ)=some δ'/\tstD (evE G F cd δ')=some (.ok (p d))/\evE G F elt δ'=some (.ok d .strong)):evE G F (.compi elt tg it cd fr) δ=some (.ok (.lst (ds.filter p)) .fresh):=by
 show Ri.thn (q0A (evE G F it δ)) (λds c=>if c=.weak\/mostLen<ds.length then none else q1h (q0C (λd=>(tg.bind d (q0K fr δ)).bind λδ'=>Rc.test (tstD (evE G F cd δ')) (Rc.of (evE G F elt δ'))) ds))=_;rw[hw,q4v,if_neg (by rintro(z | z);exact hc z;omega),q3q (p:=p) (λd hd=>?_)]
 ·rfl
 ·obtain⟨δ',e1,e2,e3⟩:=h d hd;rw[e1,Option.bind_some,e2,e3];cases p d<;>rfl
theorem z0a{elt it:ME}{tg:Tg}{fr:List (Option Nat)}{f:DV->DV}(hw:q0A (evE G F it δ)=some (.ok ds cl))(hc:cl ≠ .weak)(hl:ds.length<=mostLen)
  (h:∀d∈ds,∃δ',tg.bind d (q0K fr δ)=some δ'/\evE G F elt δ'=some (.ok (f d) .strong)):evE G F (.comp elt tg it fr) δ=some (.ok (.lst (ds.map f)) .fresh):=by
 show Ri.thn (q0A (evE G F it δ)) (λds c=>if c=.weak\/mostLen<ds.length then none else q1h (q0C (λd=>(tg.bind d (q0K fr δ)).bind λδ'=>Rc.of (evE G F elt δ')) ds))=_;rw[hw,q4v,if_neg (by rintro(z | z);exact hc z;omega),q3u (f:=f) (λd hd=>?_)]
 ·rfl
 ·obtain⟨δ',e1,e2⟩:=h d hd;rw[e1,Option.bind_some,e2];rfl
theorem z5M{l:List Int}{j:Nat}(h:j<l.length):ixD (.lst (l.map DV.int)) (.int j)=some (.int l[j]):=by
 have hh:(j:Int)<((l.map DV.int).length:Int):=by rw[List.length_map];exact_mod_cast h
 simp only[ixD,atD,q2s,if_pos (Int.natCast_nonneg j),if_pos hh,Option.bind_some,Int.toNat_natCast,List.getElem?_map,List.getElem?_eq_getElem h,Option.map_some]
theorem z2r{l:List Int}{i:Int}(h0:0<=i)(h:i<l.length):∃v,ixD (.lst (l.map DV.int)) (.int i)=some (.int v):=by
 obtain⟨j,rfl⟩:=Int.eq_ofNat_of_zero_le h0;exact⟨_,z5M (by omega)⟩
end
end L2
namespace L2
open PySem
section
variable {G:Gs} {F:Nat->List DV->Option Ou} {fu:Nat} {δ δ':List Sv} {r body:List MS} {it:ME} {cl:Cl} {ds:List DV} {tg:Tg} {o:Option Out}
end
end L2
namespace L2
open PySem
section
variable {G:Gs} {F:Nat->List DV->Option Ou} {fu:Nat} {δ δ':List Sv} {a b:ME} {i j:Int} {cx cy:Cl}
theorem q0e:evE G F (.int i) δ=some (.ok (.int i) .strong):=rfl
theorem q0b{n:Nat}{d:DV}(h:δ[n]? = some (.val d)):evE G F (.var n) δ=some (.ok d .strong):=by unfold evE;rw[h]
theorem q0X{n:Nat}{d:DV}(h:δ[n]? = some (.own d)):evE G F (.var n) δ=some (.ok d .top):=by unfold evE;rw[h]
theorem q4s(ha:evE G F a δ=some (.ok (.int i) cx))(hb:evE G F b δ=some (.ok (.int j) cy)):evE G F (.bin .Add a b) δ=some (.ok (.int (i+j)) .strong):=q1A ha hb rfl
theorem z1j(ha:evE G F a δ=some (.ok (.int i) cx))(hb:evE G F b δ=some (.ok (.int j) cy)):evE G F (.bin .Sub a b) δ=some (.ok (.int (i - j)) .strong):=q1A ha hb rfl
theorem q5o(ha:evE G F a δ=some (.ok (.int i) cx))(hb:evE G F b δ=some (.ok (.int j) cy))(h:q2Z i j=true):evE G F (.bin .Mult a b) δ=some (.ok (.int (i*j)) .strong):=q1A ha hb (if_pos h)
theorem q2l(ha:evE G F a δ=some (.ok (.int i) cx))(hb:evE G F b δ=some (.ok (.int j) cy))(h:0<j):evE G F (.bin .Mod a b) δ=some (.ok (.int (i%j)) .strong):=q1A ha hb (if_pos h)
theorem z6b(ha:evE G F a δ=some (.ok (.int i) cx))(hb:evE G F b δ=some (.ok (.int j) cy))(h:0<j/\j<1073741824):evE G F (.bin .FloorDiv a b) δ=some (.ok (.int (i/j)) .strong):=q1A ha hb (if_pos ⟨h.1,Int.lt_trans h.2 (by decide)⟩)
theorem b_eq(ha:evE G F a δ=some (.ok (.int i) cx))(hb:evE G F b δ=some (.ok (.int j) cy)):evE G F (.cmp .Eq a b) δ=some (.ok (.bl (i==j)) .strong):=q1g ha hb rfl
theorem b_lt(ha:evE G F a δ=some (.ok (.int i) cx))(hb:evE G F b δ=some (.ok (.int j) cy)):evE G F (.cmp .Lt a b) δ=some (.ok (.bl (decide (i<j))) .strong):=q1g ha hb rfl
theorem b_gt(ha:evE G F a δ=some (.ok (.int i) cx))(hb:evE G F b δ=some (.ok (.int j) cy)):evE G F (.cmp .Gt a b) δ=some (.ok (.bl (decide (j<i))) .strong):=q1g ha hb rfl
end
end L2
namespace L2
open PySem
section
variable {G:Gs} {F:Nat->List DV->Option Ou} {fu:Nat} {δ δ':List Sv} {es:List ME} {l:List (DV×Cl)}
theorem q7h(h:evEs G F es δ=some (.ok l))(hl:l.length<=mostLen)(hs:stros l=true):evE G F (.tup es) δ=some (.ok (.tup (l.map (·.1))) .strong):=by
 show Rs.thn (evEs G F es δ) (λl=>if l.length<=mostLen then some (.ok (.tup (l.map (·.1))) (if stros l then .strong else .weak))else none)=_;rw[h,q3b,if_pos hl,hs];rfl
end
end L2
namespace L2
open PySem
theorem q2y{tg:Tg}{body:List Sv->Option Out}:∀{ds es:List DV} {δ δ':List Sv},q0O tg body ds δ=some (.nx δ')->q0O tg body (ds++es) δ=q0O tg body es δ'
 | [],es,δ,δ',h=>by cases h;rfl
 | d::r,es,δ,δ',h=>by
  show(match tg.bind d δ with | none=>none | some δ1=>(match body δ1 with | some (.nx δ2)=>q0O tg body (r++es) δ2 | o=>o))=_;have h':(match tg.bind d δ with | none=>none | some δ1=>(match body δ1 with | some (.nx δ2)=>q0O tg body r δ2 | o=>o))=some (.nx δ'):=h;cases e1:tg.bind d δ with
  | none=>rw[e1]at h';cases h'
  | some δ1=>
   rw[e1]at h';have h'':(match body δ1 with | some (.nx δ2)=>q0O tg body r δ2 | o=>o)=some (.nx δ'):=h';show(match body δ1 with | some (.nx δ2)=>q0O tg body (r++es) δ2 | o=>o)=_;cases e2:body δ1 with
   | none=>rw[e2]at h'';cases h''
   | some o=>
    rw[e2]at h'';cases o with
    | nx δ2=>exact q2y h''
    | rt d fr=>cases h''
    | ex c δ2=>cases h''
    | rtt d=>cases h''
end L2
namespace L2
open PySem
theorem q4T{tg:Tg}{body:List Sv->Option Out}{d:DV}{δ δ1 δ2:List Sv}(h1:tg.bind d δ=some δ1)(h2:body δ1=some (.nx δ2)):q0O tg body [d] δ=some (.nx δ2):=by
 unfold q0O;rw[h1];simp only[h2];rfl
end L2
end
noncomputable section
namespace L2
open PySem
def Rise(xs:Array Nat):Prop:=∀(i k x y:Nat),i<k->xs[i]? = some x->xs[k]? = some y->x<y
structure Tab(t:SetTable)(b:Bool):Prop where
 rise:Rise t.place
 dum:t.dummies = #[]
 led:t.led=b
end L2
end
noncomputable section
namespace L2
open PySem PySem.Spec PyProof.Rows
section
variable {prog:Program} {w:World} {A:Around} {E:Value->Shared->Prop} {s:Shared}
theorem z3Y{l:List Int}{i:Nat}(h:i<l.length):l.getD i 0∈l:=by
 rw[List.getD_eq_getElem?_getD,List.getElem?_eq_getElem h];exact List.getElem_mem h
theorem minL{l:Addr}{vs:List Value}{ns:List Int}{Q:Value->Shared->Prop}(hh:A.handled=none)(hl:s.heap.IsList l vs.toArray)(hi:IntsAre vs ns)(hz:ns≠[])
  (h:∀h' M (t:Tok) tk,(∀b o,s.heap.get? b=some o->h'.get? b=some o)->M∈ns->(∀a∈ns,M<=a)->Q (.int M t) {s with heap:=h',toks:=tk}):wpAny (model prog w) A (call (.builtin "min") [.ref l]) Q E s:=by
 obtain⟨ys,e⟩:=hi.allInts.items;have en:ns=ys.toList.map (·.1):=by rw[←hi.numsOf,←nums_intItems,←e]
 have zy:0<ys.size:=by
  have q:0<ns.length:=List.length_pos_iff.mpr hz
  rwa [en,List.length_map,Array.length_toList]at q
 rw[e]at hl;refine min_intList hh hl zy λv h1 tk q k=>?_
 obtain⟨t,ev⟩:=intItems_at q;subst ev;obtain⟨g1,g2⟩:=argBest_lt (numAt ys) (ys.size - 1);refine h h1 _ t tk k ?_ λa ha=>?_
 ·rw[en,numAt_eq];exact z3Y (by rw[List.length_map,Array.length_toList];omega)
 ·rw[en]at ha;obtain⟨j,hj,ej⟩:=mem_getD ha;subst ej;rw[List.length_map,Array.length_toList]at hj;rw[←numAt_eq];exact g2 j (by omega)
theorem maxL{l:Addr}{vs:List Value}{ns:List Int}{Q:Value->Shared->Prop}(hh:A.handled=none)(hl:s.heap.IsList l vs.toArray)(hi:IntsAre vs ns)(hz:ns≠[])
  (h:∀h' M (t:Tok) tk,(∀b o,s.heap.get? b=some o->h'.get? b=some o)->M∈ns->(∀a∈ns,a<=M)->Q (.int M t) {s with heap:=h',toks:=tk}):wpAny (model prog w) A (call (.builtin "max") [.ref l]) Q E s:=by
 obtain⟨ys,e⟩:=hi.allInts.items;have en:ns=ys.toList.map (·.1):=by rw[←hi.numsOf,←nums_intItems,←e]
 have zy:0<ys.size:=by
  have q:0<ns.length:=List.length_pos_iff.mpr hz
  rwa [en,List.length_map,Array.length_toList]at q
 rw[e]at hl;refine max_intList hh hl zy λv h1 tk q k=>?_
 obtain⟨t,ev⟩:=intItems_at q;subst ev;obtain⟨g1,g2⟩:=argBest_gt (numAt ys) (ys.size - 1);refine h h1 _ t tk k ?_ λa ha=>?_
 ·rw[en,numAt_eq];exact z3Y (by rw[List.length_map,Array.length_toList];omega)
 ·rw[en]at ha;obtain⟨j,hj,ej⟩:=mem_getD ha;subst ej;rw[List.length_map,Array.length_toList]at hj;rw[←numAt_eq];exact g2 j (by omega)
end
section
variable {X:Cx} {pos:Pos}
theorem q9j:∀{ns:List Int} {us:List Value},Vals (ns.map V.int) us->IntsAre us ns
 | [],us,h=>by cases h;exact .nil
 | n::ns,us,h=>by
  cases h with
  | cons r t=>
   obtain⟨tk,rfl⟩:=r;exact .cons n tk (q9j t)
theorem q9k(hc:X.calm=true):q1q X (.builtin "min") (λxs H Q=>∃(a:Addr) (ns:List Int),xs=[.ref a]/\SqL X.K H a (ns.map V.int)/\ns≠[]/\∀M,M∈ns->(∀x∈ns,M<=x)->Q (.int M) H):=by
 intro pins s σ H xs us Q I r h;obtain⟨a,ns,rfl,hq,hz,q⟩:=h;obtain⟨u,rfl,r1⟩:=q4X r;cases r1;obtain⟨its,rv,pl,_⟩:=I.list hq;exact minL (I.ok.hd hc) pl.isList (q9j rv) hz λh' M t tk k m1 m2=>⟨.int M,H,I.kept k,⟨t,rfl⟩,q M m1 m2⟩
theorem z0u(hc:X.calm=true):q1q X (.builtin "max") (λxs H Q=>∃(a:Addr) (ns:List Int),xs=[.ref a]/\SqL X.K H a (ns.map V.int)/\ns≠[]/\∀M,M∈ns->(∀x∈ns,x<=M)->Q (.int M) H):=by
 intro pins s σ H xs us Q I r h;obtain⟨a,ns,rfl,hq,hz,q⟩:=h;obtain⟨u,rfl,r1⟩:=q4X r;cases r1;obtain⟨its,rv,pl,_⟩:=I.list hq;exact maxL (I.ok.hd hc) pl.isList (q9j rv) hz λh' M t tk k m1 m2=>⟨.int M,H,I.kept k,⟨t,rfl⟩,q M m1 m2⟩
end
end L2
end
noncomputable section
namespace L2
open PySem PySem.Spec PySem.Calls PyProof.Rows PySem.W
section
variable {prog:Program} {w:World} {A:Around} {E:Value->Shared->Prop} {s:Shared}
theorem q5H{t:Addr}{xs:Array (Int×Tok)}{Q:Value->Shared->Prop}(hh:A.handled=none)(ht:s.heap.IsTuple t (intItems xs))(hne:0<xs.size)
  (h:∀v h' tk,(intItems xs)[argBest (λi j=>decide (numAt xs i<numAt xs j)) (xs.size - 1)]? = some v->(∀b o,s.heap.get? b=some o->h'.get? b=some o)->Q v {s with heap:=h',toks:=tk}) :
  wpAny (model prog w) A (call (.builtin "min") [.ref t]) Q E s:=by
 obtain⟨o,ho,hc,n,hd⟩:=id ht;have hlt:t<s.heap.objs.size:=Heap.lt_size ho;refine call_min_walk (wpAny_pyIter_tuple ht ?_);refine⟨_,_,_,_,_,_,_,rfl,Walks.tuple (A:=A.in1) hh _ t (Nat.ne_of_lt hlt) (intItems xs),⟨⟨_,Heap.get?_push_size _ rfl,rfl,rfl⟩,ht.push _⟩,λb hb=>?_,by simpa[intItems]using hne,CmpOf.ints_lt (numAt xs) (λ_ _=>intItems_at),λv h' tk hP hk=>?_⟩
 ·show b<(s.heap.push _).objs.size;rw[Heap.size_push];rcases List.mem_cons.mp hb with rfl | hb
  ·exact Nat.lt_succ_self _
  ·rcases List.mem_cons.mp hb with rfl | hb
   ·exact Nat.lt_succ_of_lt hlt
   ·cases hb
 ·refine h v h' tk (by simpa[intItems]using hP) λb o e=>hk b o (λhm=>?_) (Heap.get?_push_of_some _ e);rcases List.mem_cons.mp hm with e1 | hm
  ·exact absurd (e1▸Heap.lt_size e) (Nat.lt_irrefl _)
  ·cases hm
end
section
variable {prog:Program} {w:World} {A:Around} {E:Value->Shared->Prop} {s:Shared}
end
end L2
end
noncomputable section
namespace L2
open PySem PySem.Spec PyProof.Rows
section
variable {prog:Program} {w:World} {A:Around} {E:Value->Shared->Prop} {s:Shared}
theorem minT{l:Addr}{vs:List Value}{ns:List Int}{Q:Value->Shared->Prop}(hh:A.handled=none)(hl:s.heap.IsTuple l vs.toArray)(hi:IntsAre vs ns)(hz:ns≠[])
  (h:∀h' M (t:Tok) tk,(∀b o,s.heap.get? b=some o->h'.get? b=some o)->M∈ns->(∀a∈ns,M<=a)->Q (.int M t) {s with heap:=h',toks:=tk}):wpAny (model prog w) A (call (.builtin "min") [.ref l]) Q E s:=by
 obtain⟨ys,e⟩:=hi.allInts.items;have en:ns=ys.toList.map (·.1):=by rw[←hi.numsOf,←nums_intItems,←e]
 have zy:0<ys.size:=by
  have q:0<ns.length:=List.length_pos_iff.mpr hz
  rwa [en,List.length_map,Array.length_toList]at q
 rw[e]at hl;refine q5H hh hl zy λv h1 tk q k=>?_
 obtain⟨t,ev⟩:=intItems_at q;subst ev;obtain⟨g1,g2⟩:=argBest_lt (numAt ys) (ys.size - 1);refine h h1 _ t tk k ?_ λa ha=>?_
 ·rw[en,numAt_eq];exact z3Y (by rw[List.length_map,Array.length_toList];omega)
 ·rw[en]at ha;obtain⟨j,hj,ej⟩:=mem_getD ha;subst ej;rw[List.length_map,Array.length_toList]at hj;rw[←numAt_eq];exact g2 j (by omega)
end
section
variable {X:Cx}
theorem q8S(hc:X.calm=true):q1q X (.builtin "min") (λxs H Q=>∃(a:Addr) (ns:List Int),xs=[.ref a]/\SqT X.K H a (ns.map V.int)/\ns≠[]/\∀M,M∈ns->(∀x∈ns,M<=x)->Q (.int M) H):=by
 intro pins s σ H xs us Q I r h;obtain⟨a,ns,rfl,hq,hz,q⟩:=h;obtain⟨u,rfl,r1⟩:=q4X r;cases r1;obtain⟨its,rv,pl,_⟩:=I.tuple hq;exact minT (I.ok.hd hc) pl (q9j rv) hz λh' M t tk k m1 m2=>⟨.int M,H,I.kept k,⟨t,rfl⟩,q M m1 m2⟩
end
end L2
end
noncomputable section
namespace L2
open PySem PySem.Spec PyProof.Rows
section
variable {prog:Program} {w:World} {A:Around} {E:Value->Shared->Prop} {s:Shared}
theorem z1i{items:Array Value}{bs:List Bool}(e:items.toList=bs.map Value.bool):TruthOf prog w A (λi v=>items[i]? = some v) (λi=>bs.getD i false):=by
 intro i v s Q E hP hQ;have h1:(bs.map Value.bool)[i]? = some v:=by rw[←e,Array.getElem?_toList];exact hP
 rw[List.getElem?_map]at h1;obtain⟨b,h2,rfl⟩:=Option.map_eq_some_iff.mp h1;have hQ':Q (bs.getD i false) s:=hQ;rw[List.getD_eq_getElem?_getD,h2]at hQ';exact PySem.wpAny_truthy_bool hQ'
theorem q9a(bs:List Bool):(List.range bs.length).any (λi=>bs.getD i false)=bs.any id:=by
 rw[Bool.eq_iff_iff,List.any_eq_true,List.any_eq_true];constructor
 ·rintro⟨i,hi,h⟩
  have hi:=List.mem_range.mp hi;rw[List.getD_eq_getElem?_getD,List.getElem?_eq_getElem hi]at h;exact⟨_,List.getElem_mem hi,h⟩
 ·rintro⟨x,hx,h⟩
  obtain⟨i,hi,rfl⟩:=List.getElem_of_mem hx;refine⟨i,List.mem_range.mpr hi,?_⟩;rw[List.getD_eq_getElem?_getD,List.getElem?_eq_getElem hi];exact h
theorem anyL{l:Addr}{items:Array Value}{bs:List Bool}{Q:Value->Shared->Prop}(hh:A.handled=none)(hl:s.heap.IsList l items)(e:items.toList=bs.map Value.bool)
  (h:∀h' tk,(∀b o,s.heap.get? b=some o->h'.get? b=some o)->Q (.bool (bs.any id)) {s with heap:=h',toks:=tk}):wpAny (model prog w) A (call (.builtin "any") [.ref l]) Q E s:=by
 have hlt:l<s.heap.objs.size:=by obtain⟨_,e,_⟩:=hl;exact Heap.lt_size e
 have hn:items.size=bs.length:=by rw[←Array.length_toList,e,List.length_map]
 refine call_any_walk (wpAny_pyIter_list hl ⟨_,_,_,_,_,_,λi=>bs.getD i false,rfl,Walks.list (A:=A.in1) hh s.heap.objs.size l (Nat.ne_of_lt hlt) items,⟨⟨_,Heap.get?_push_size _ rfl,rfl,rfl⟩,hl.push _⟩,z1i e,λh' tk hk=>?_⟩);rw[hn,q9a];exact h h' tk λb o eb=>hk b o (by simp;exact Nat.ne_of_lt (Heap.lt_size eb)) (Heap.get?_push_of_some _ eb)
theorem sumL{l:Addr}{vs:List Value}{ns:List Int}{Q:Value->Shared->Prop}(hh:A.handled=none)(hl:s.heap.IsList l vs.toArray)(hi:IntsAre vs ns)
  (h:∀h' tk t,(∀b o,s.heap.get? b=some o->h'.get? b=some o)->Q (.int ns.sum t) {s with heap:=h',toks:=tk}):wpAny (model prog w) A (call (.builtin "sum") [.ref l]) Q E s:=by
 obtain⟨ys,e⟩:=hi.allInts.items;have en:ns=ys.toList.map (·.1):=by rw[←hi.numsOf,←nums_intItems,←e]
 rw[e]at hl;refine sum_intListG hh hl λh' tk t' hk=>?_
 have:=h h' tk t' hk;rw[preSum_eq,List.take_of_length_le (by simp)];rw[en]at this;exact this
end
section
variable {X:Cx}
theorem z5d:∀{bs:List Bool} {us:List Value},Vals (bs.map V.bl) us->us=bs.map Value.bool
 | [],_,h=>by cases h;rfl
 | b::bs,_,h=>by
  cases h with
  | cons r t=>
   rw[z5d t];cases(show _=Value.bool b from r);rfl
theorem q9g(hc:X.calm=true):q1q X (.builtin "any") (λxs H Q=>∃(a:Addr) (bs:List Bool),xs=[.ref a]/\SqL X.K H a (bs.map V.bl)/\Q (.bl (bs.any id)) H):=by
 intro pins s σ H xs us Q I r h;obtain⟨a,bs,rfl,hq,q⟩:=h;obtain⟨u,rfl,r1⟩:=q4X r;cases r1;obtain⟨its,rv,pl,_⟩:=I.list hq;exact anyL (I.ok.hd hc) pl.isList (by simpa using z5d rv) λh' tk k=>⟨.bl _,H,I.kept k,rfl,q⟩
theorem z0m(hc:X.calm=true):q1q X (.builtin "sum") (λxs H Q=>∃(a:Addr) (ns:List Int),xs=[.ref a]/\SqL X.K H a (ns.map V.int)/\Q (.int ns.sum) H):=by
 intro pins s σ H xs us Q I r h;obtain⟨a,ns,rfl,hq,q⟩:=h;obtain⟨u,rfl,r1⟩:=q4X r;cases r1;obtain⟨its,rv,pl,_⟩:=I.list hq;exact sumL (I.ok.hd hc) pl.isList (q9j rv) λh' tk t k=>⟨.int _,H,I.kept k,⟨t,rfl⟩,q⟩
end
end L2
end
noncomputable section
namespace L2
open PySem
structure Sg where
 N:List Str
 sc:List (Str×NameKind)
 fn:List Str
 bl:List Str
 cl:List Str
 top:Bool
 lp:Bool
def z0E:List Str:=["ValueError"]
def q0Q:Expr->Option Str | .Name x _=>some x | _=>none
def q2j:Expr->Option Const | .Constant c _ _=>some c | _=>none
def z0W:Expr->Option (Expr×Operator×Expr) | .BinOp a o b _=>some (a,o,b) | _=>none
def asUn:Expr->Option (UnaryOp×Expr) | .UnaryOp o a _=>some (o,a) | _=>none
def z1a:Expr->Option (Expr×List CmpOp×List Expr) | .Compare a o b _=>some (a,o,b) | _=>none
def q7O:Expr->Option (BoolOp×List Expr) | .BoolOp o es _=>some (o,es) | _=>none
def q8F:Expr->Option (List Expr) | .List es _=>some es | _=>none
def q2S:Expr->Option (List Expr) | .Tuple es _ _=>some es | _=>none
def q6c:Expr->Option (Expr×Expr) | .Subscript a b _=>some (a,b) | _=>none
def q5h:Expr->Option (Option Expr×Option Expr×Option Expr) | .Slice a b c _=>some (a,b,c) | _=>none
def q1r:Expr->Option (Expr×List Expr×List Keyword×Pos) | .Call f as ks p=>some (f,as,ks,p) | _=>none
def q4f:Expr->Option (Expr×Str×Pos) | .Attribute a n p=>some (a,n,p) | _=>none
def q8W:Expr->Option (Expr×List Comprehension×Scope) | .ListComp e gs sc _=>some (e,gs,sc) | _=>none
def q0j:Expr->Bool | .Starred _ _=>true | _=>false
def q5v:Expr->Bool | .Slice _ _ _ _=>true | _=>false
def q2L:Expr->Bool | .Set _ _ _=>true | _=>false
def q4G:Expr->Bool | .ListComp _ _ _ _=>true | .SetComp _ _ _ _=>true | .DictComp _ _ _ _ _=>true | _=>false
theorem q0q{e:Expr}{x:Str}(h:q0Q e=some x):∃p,e=.Name x p:=by
 cases e<;>simp[q0Q]at h;subst h;exact⟨_,rfl⟩
theorem q2H{e:Expr}{x:Const}(h:q2j e=some x):∃k p,e=.Constant x k p:=by
 cases e<;>simp[q2j]at h;subst h;exact⟨_,_,rfl⟩
theorem q5a{e a b:Expr}{o:Operator}(h:z0W e=some (a,o,b)):∃p,e=.BinOp a o b p:=by
 cases e<;>simp[z0W]at h;obtain⟨rfl,rfl,rfl⟩:=h;exact⟨_,rfl⟩
theorem q5d{e a:Expr}{o:UnaryOp}(h:asUn e=some (o,a)):∃p,e=.UnaryOp o a p:=by
 cases e<;>simp[asUn]at h;obtain⟨rfl,rfl⟩:=h;exact⟨_,rfl⟩
theorem q3J{e a:Expr}{os:List CmpOp}{bs:List Expr}(h:z1a e=some (a,os,bs)):∃p,e=.Compare a os bs p:=by
 cases e<;>simp[z1a]at h;obtain⟨rfl,rfl,rfl⟩:=h;exact⟨_,rfl⟩
theorem q3j{e:Expr}{o:BoolOp}{es:List Expr}(h:q7O e=some (o,es)):∃p,e=.BoolOp o es p:=by
 cases e<;>simp[q7O]at h;obtain⟨rfl,rfl⟩:=h;exact⟨_,rfl⟩
theorem q5E{e:Expr}{es:List Expr}(h:q8F e=some es):∃p,e=.List es p:=by
 cases e<;>simp[q8F]at h;subst h;exact⟨_,rfl⟩
theorem q2D{e:Expr}{es:List Expr}(h:q2S e=some es):∃k p,e=.Tuple es k p:=by
 cases e<;>simp[q2S]at h;subst h;exact⟨_,_,rfl⟩
theorem q1u{e a b:Expr}(h:q6c e=some (a,b)):∃p,e=.Subscript a b p:=by
 cases e<;>simp[q6c]at h;obtain⟨rfl,rfl⟩:=h;exact⟨_,rfl⟩
theorem q4L{e:Expr}{a b c:Option Expr}(h:q5h e=some (a,b,c)):∃p,e=.Slice a b c p:=by
 cases e<;>simp[q5h]at h;obtain⟨rfl,rfl,rfl⟩:=h;exact⟨_,rfl⟩
theorem q0u{e f:Expr}{as:List Expr}{ks:List Keyword}{p:Pos}(h:q1r e=some (f,as,ks,p)):e=.Call f as ks p:=by
 cases e<;>simp[q1r]at h;obtain⟨rfl,rfl,rfl,rfl⟩:=h;rfl
theorem q3e{e a:Expr}{n:Str}{p:Pos}(h:q4f e=some (a,n,p)):e=.Attribute a n p:=by
 cases e<;>simp[q4f]at h;obtain⟨rfl,rfl,rfl⟩:=h;rfl
theorem z0c{e x:Expr}{gs:List Comprehension}{sc:Scope}(h:q8W e=some (x,gs,sc)):∃p,e=.ListComp x gs sc p:=by
 cases e<;>simp[q8W]at h;obtain⟨rfl,rfl,rfl⟩:=h;exact⟨_,rfl⟩
def visB(sg:Sg)(x:Str):Bool:=sg.sc.lookup x==some .local||sg.sc.lookup x==some .cell||sg.sc.lookup x==some .free
def gloB(sg:Sg)(x:Str):Bool:=sg.sc.lookup x==some .globalImplicit
def locB(sg:Sg)(x:Str):Bool:=sg.sc.lookup x==some .local||sg.sc.lookup x==some .cell
def q5z(sg:Sg)(i:Nat)(x:Str):Bool:=sg.N[i]? == some x&&visB sg x&&x != "__debug__" && x != "__classdict__"
def bltB(sg:Sg)(x:Str)(f:Expr):Bool:=q0Q f==some x&&gloB sg x&&sg.bl.contains x
def z5E:Bi->Str
 | .len=>"len" | .min=>"min" | .max=>"max" | .sum=>"sum" | .any=>"any" | .list=>"list" | .tuple=>"tuple" | .lsti=>"list"
def z2d:Mt->Str
 | .bitLength=>"bit_length" | .index=>"index" | .get=>"get"
structure CParts where
 elt:Expr
 tg:Expr
 it:Expr
 ifs:List Expr
 sc:Scope
def q4J(e:Expr):Option CParts:=match q8W e with
 | some (elt,[⟨tg,it,ifs,a⟩],sc)=>if a=0 then some ⟨elt,tg,it,ifs,sc⟩else none
 | _=>none
theorem q4r{e:Expr}{c:CParts}(h:q4J e=some c):∃p,e=.ListComp c.elt [⟨c.tg,c.it,c.ifs,0⟩] c.sc p:=by
 unfold q4J at h;split at h
 ·rename_i elt tg it ifs a sc q;split at h
  ·rename_i ha;cases h;subst ha;exact z0c q
  ·cases h
 ·cases h
def q1s(sg:Sg)(tn:List Str)(fr:List (Option Nat)):List Str:=tn++(fr.drop tn.length).map λo=>match o with | some i=>sg.N.getD i "" | none=>""
def z0w:Tg->Expr->Option (List Str)
 | .one _,e=>(q0Q e).map λx=>[x]
 | .many is,e=>match q2S e with
  | some es=>if es.length=is.length then es.mapM q0Q else none
  | none=>none
def tgOk(sg:Sg):Tg->Expr->Bool
 | .one i,e=>match q0Q e with
  | some x=>sg.N[i]? == some x&&locB sg x
  | none=>false
 | .many is,e=>match q2S e with
  | some es=>es.length==is.length&&2<=es.length&&(is.zip es).all λp=>match q0Q p.2 with
   | some x=>sg.N[p.1]? == some x&&locB sg x
   | none=>false
  | none=>false
def q4u:List Str->Bool
 | []=>true
 | x::r=>!r.contains x&&q4u r
def q2V:Tg->List Nat
 | .one i=>[i]
 | .many is=>is
def q3a(sg:Sg)(N':List Str)(fr:List (Option Nat))(sc:Scope)(tg:Tg):Bool:=(q2V tg).all (λi=>fr[i]? == some none) &&
 sc.kind == .function&&q4u N'&&q4u (sc.names.map (·.1))&&fr.length==N'.length &&
 (fr.zip N').all (λp=>match p.1 with | some i=>sg.N[i]? == some p.2&&sc.names.contains (p.2,.free) | none=>true) &&
 sc.names.all λy=>if y.2 == .free then sg.sc.lookup y.1==some .cell||sg.sc.lookup y.1==some .free else true
def z0K:ME->Bool
 | .comp _ _ _ _=>true
 | .compi _ _ _ _ _=>true
 | _=>false
def isZp:ME->Bool
 | .zp _ _=>true
 | .enu _=>true
 | _=>false
mutual
def corE(sg:Sg)(w:Bool):ME->Expr->Bool
 | .var i,e=>match q0Q e with | some x=>q5z sg i x | none=>false
 | .int i,e=>q2j e==some (.int i)
 | .bl i,e=>q2j e==some (.bool i)
 | .str x,e=>q2j e==some (.str x)&&decide (x.length<=1000)
 | .non,e=>q2j e==some .none
 | .glb x,e=>q0Q e==some x&&gloB sg x&&x != "__debug__"
 | .bin op a b,e=>match z0W e with | some (ea,o,eb)=>o==op&&corE sg false a ea&&corE sg false b eb | none=>false
 | .neg a,e=>match asUn e with | some (o,ea)=>o == .USub&&corE sg false a ea | none=>false
 | .not a,e=>match asUn e with | some (o,ea)=>o == .Not&&corE sg false a ea | none=>false
 | .cmp op a b,e=>match z1a e with | some (ea,[o],[eb])=>o==op&&corE sg false a ea&&corE sg false b eb && !q2L eb | _=>false
 | .chain op op' a b c,e=>match z1a e with | some (ea,[o,o'],[eb,ec])=>o==op&&o'==op'&&corE sg false a ea&&corE sg false b eb&&corE sg false c ec && !q2L ec | _=>false
 | .and ms,e=>match q7O e with | some (o,es)=>o == .And&&q0Z sg ms es | none=>false
 | .or ms,e=>match q7O e with | some (o,es)=>o == .Or&&q0Z sg ms es | none=>false
 | .lst ms,e=>match q8F e with | some es=>q0Z sg ms es | none=>false
 | .tup ms,e=>match q2S e with | some es=>q0Z sg ms es | none=>false
 | .dc0,e=>match e with | .Dict [] [] _=>true | _=>false
 | .ix a b,e=>match q6c e with | some (ea,eb)=>corE sg false a ea&&corE sg false b eb && !q5v eb | none=>false
 | .sl a lo hi,e=>match q6c e with
  | some (ea,es)=>(match q5h es with | some (some el,some eh,none)=>corE sg false a ea&&corE sg false lo el&&corE sg false hi eh | _=>false)
  | none=>false
 | .slt a hi,e=>match q6c e with
  | some (ea,es)=>(match q5h es with | some (none,some eh,none)=>corE sg false a ea&&corE sg false hi eh | _=>false)
  | none=>false
 | .call f ms,e=>match q1r e with
  | some (ef,es,[],_)=>(match q0Q ef with | some x=>sg.fn[f]? == some x&&gloB sg x&&x != "__debug__" | none=>false) && !es.isEmpty&&q0Z sg ms es
  | _=>false
 | .bi f ms,e=>match q1r e with
  | some (ef,es,[],_)=>bltB sg (z5E f) ef && !es.isEmpty&&(match f with
   | _=>q0Z sg ms es)
  | _=>false
 | .isi a ts,e=>match q1r e with
  | some (ef,[ea,et],[],_)=>bltB sg "isinstance" ef&&corE sg false a ea && !q0j ea && !q0j et&&(match ts with
   | [t]=>q0Q et==some t&&gloB sg t&&sg.bl.contains t&&q2x.contains t
   | _=>false)
  | _=>false
 | .isx a t,e=>match q1r e with
  | some (ef,[ea,et],[],_)=>bltB sg "isinstance" ef&&corE sg false a ea && !q0j ea && !q0j et&&q0Q et==some t&&gloB sg t&&((sg.cl.contains t&&t != "__debug__")||(sg.bl.contains t&&z0E.contains t))
  | _=>false
 | .meth m a ms,e=>match q1r e with
  | some (ef,[],[],pos)=>(match q4f ef with
   | some (ea,n,apos)=>n==z2d m&&corE sg false a ea&&((q0Q ea).isSome||(z0W ea).isSome)&&apos.endLine==pos.line&&ms.isEmpty
   | none=>false)
  | _=>false
 | .comp elt tg it fr,e=>match q4J e with
  | some c=>c.ifs.isEmpty&&(corE sg true it c.it&&(!isZp it||(q2S c.tg).isSome)) && !q2L c.it&&(match z0w tg c.tg with
   | some tn=>q3a sg (q1s sg tn fr) fr c.sc tg&&tgOk ⟨q1s sg tn fr,c.sc.names,sg.fn,sg.bl,sg.cl,false,true⟩ tg c.tg&&corE ⟨q1s sg tn fr,c.sc.names,sg.fn,sg.bl,sg.cl,false,true⟩ false elt c.elt
   | none=>false)
  | none=>false
 | .compi elt tg it cd fr,e=>match q4J e with
  | some c=>(corE sg true it c.it&&(!isZp it||(q2S c.tg).isSome)) && !q2L c.it&&(match z0w tg c.tg,c.ifs with
   | some tn,[ec]=>q3a sg (q1s sg tn fr) fr c.sc tg&&tgOk ⟨q1s sg tn fr,c.sc.names,sg.fn,sg.bl,sg.cl,false,true⟩ tg c.tg&&corE ⟨q1s sg tn fr,c.sc.names,sg.fn,sg.bl,sg.cl,false,true⟩ false elt c.elt&&corE ⟨q1s sg tn fr,c.sc.names,sg.fn,sg.bl,sg.cl,false,true⟩ false cd ec
   | _,_=>false)
  | none=>false
 | .rng ms,e=>w&&(match q1r e with
  | some (ef,es,[],_)=>bltB sg "range" ef&&q0Z sg ms es&&decide (es.length<=3)
  | _=>false)
 | .zp a b,e=>w&&(match q1r e with
  | some (ef,[ea,eb],[],_)=>bltB sg "zip" ef&&corE sg false a ea&&corE sg false b eb && !q0j ea && !q0j eb
  | _=>false)
 | .enu a,e=>w&&(match q1r e with
  | some (ef,[ea],[],_)=>bltB sg "enumerate" ef&&corE sg false a ea && !q0j ea
  | _=>false)
def q0Z(sg:Sg):List ME->List Expr->Bool
 | [],[]=>true
 | m::ms,e::es=>corE sg false m e && !q0j e&&q0Z sg ms es
 | _,_=>false
end
def q5N:ExceptHandler->Option (Option Expr×Option Str×List Stmt) | .ExceptHandler t n b _=>some (t,n,b)
def q1a:Str:="_law_hung"
def hunB(sg:Sg)(i:Nat)(v:Expr):Option Expr:=match q1r v with
 | some (ef,[ea,eo],[],_)=>(match q0Q ef,q0Q eo with
  | some f,some x=>if f==q1a&&gloB sg f&&q5z sg i x && !q0j ea then some ea else none
  | _,_=>none)
 | _=>none
mutual
def corS(sg:Sg):MS->Stmt->Bool
 | .set i _ e,s=>match s with
  | .Assign [t] v pos=>(match t with
   | .Name x pt=>sg.N[i]? == some x&&locB sg x&&corE sg false e v&&(!q4G v||z0K e)
   | _=>false)
  | _=>false
 | .app i e,s=>match s with
  | .Expr v _=>(match q1r v with
   | some (ef,[ea],[],pos)=>(match q4f ef with
    | some (o,n,apos)=>n == "append" && (match q0Q o with | some x=>q5z sg i x | none=>false)&&corE sg false e ea && !q0j ea&&apos.endLine==pos.line
    | none=>false)
   | _=>false)
  | _=>false
 | .seti i k e,s=>match s with
  | .Assign [t] v _=>(match q6c t with
   | some (o,ek)=>(match q0Q o with | some x=>q5z sg i x | none=>false)&&corE sg false k ek && !q5v ek&&corE sg false e v
   | none=>false)
  | _=>false
 | .exp e,s=>match s with
  | .Expr v _=>corE sg false e v && !q4G v
  | _=>false
 | .ret e,s=>match s with
  | .Return (some v) _=>corE sg false e v
  | _=>false
 | .ret2 a b,s=>match s with
  | .Return (some v) _=>(match q2S v with | some [ea,eb]=>corE sg false a ea&&corE sg false b eb && !q0j ea && !q0j eb | _=>false)
  | _=>false
 | .setp i f es,s=>match s with
  | .Assign [t] v _=>(match t with
   | .Name x _=>sg.N[i]? == some x&&locB sg x&&corE sg false (.call f es) v
   | _=>false)
  | _=>false
 | .oapp i k e,s=>match s with
  | .Expr v _=>(match q1r v with
   | some (ef,[ea],[],pos)=>(match q4f ef with
    | some (o,n,apos)=>n == "append" && (match q6c o with
     | some (ob,oi)=>(match q0Q ob with | some x=>q5z sg i x | none=>false)&&q2j oi==some (.int k)
     | none=>false)&&corE sg false e ea && !q0j ea&&apos.endLine==pos.line
    | none=>false)
   | _=>false)
  | _=>false
 | .oclr i k,s=>match s with
  | .Expr v _=>(match q1r v with
   | some (ef,[],[],pos)=>(match q4f ef with
    | some (o,n,apos)=>n == "clear" && (match q6c o with
     | some (ob,oi)=>(match q0Q ob with | some x=>q5z sg i x | none=>false)&&q2j oi==some (.int k)
     | none=>false)&&apos.endLine==pos.line
    | none=>false)
   | _=>false)
  | _=>false
 | .iff c a b,s=>match s with
  | .If ec ea eb _=>corE sg false c ec&&q2X sg a ea&&q2X sg b eb
  | _=>false
 | .fo tg it body,s=>match s with
  | .For t i b [] _=>sg.lp&&tgOk sg tg t&&(corE sg true it i&&(!isZp it||(q2S t).isSome)) && !q2L i&&q2X sg body b
  | _=>false
 | .rse c e,s=>match s with
  | .Raise (some v) none _=>(match q1r v with
   | some (ef,[ea],[],_)=>sg.top&&q0Q ef==some c&&gloB sg c&&c != "__debug__" && corE sg false e ea && !q0j ea
   | _=>false)
  | _=>false
 | .tryc body c ie ic,s=>match s with
  | .Try b [h] [] [] _=>sg.top&&q2X ⟨sg.N,sg.sc,sg.fn,sg.bl,sg.cl,false,false⟩ body b&&(match q5N h with
   | some (some t,some n,[.Assign [t2] v2 _])=>q0Q t==some c&&gloB sg c&&c != "__debug__" && sg.cl.contains c&&sg.N[ie]? == some n&&sg.sc.lookup n==some .local&&n != "__debug__" && n != "__classdict__" &&
     q0Q v2==some n&&(match q0Q t2 with | some x=>sg.N[ic]? == some x&&locB sg x | none=>false)&&ie != ic
   | _=>false)
  | _=>false
 | .frz _,_=>false
def q2X(sg:Sg):List MS->List Stmt->Bool
 | [],[]=>true
 | .frz _::ms,ss=>q2X sg ms ss
 | m::ms,s::ss=>corS sg m s&&q2X sg ms ss
 | _,_=>false
end
end L2
end
noncomputable section
namespace L2
open PySem PySem.Spec PyProof.Rows
structure Dm where
 K:PySem.W.Frag
 mg:Str->Option Value
abbrev Cx.D(X:Cx):Dm:=⟨X.K,X.mg⟩
def SqS(K:PySem.W.Frag)(H:Hp)(a:Addr)(xs:List V):Prop:=(∃o,H a=some (.frz o (.lst xs))) \/
 ∃(o:Obj) (its:Array Value) (n:Nat),K.lookup a=some o/\o.cls=.type "list" /\ o.dict=none/\o.data=.seq its n/\its.size<=sizeLine/\Vals xs its.toList
theorem SqS.sq{K:PySem.W.Frag}{H:Hp}{a:Addr}{xs:List V}(h:SqS K H a xs):SqL K H a xs:=by
 rcases h with h | h
 ·exact .inl (.inr h)
 ·exact .inr h
theorem SqS.of{K:PySem.W.Frag}{H:Hp}{a:Addr}{xs:List V}(hO:Only H)(h:SqL K H a xs):SqS K H a xs:=by
 rcases h with(h | h) | h
 ·rcases hO a with z | ⟨o,ys,z⟩
  ·rw[h]at z;cases z
  ·rw[h]at z;cases z
 ·exact .inl h
 ·exact .inr h
theorem Same.sqs{K:PySem.W.Frag}{H H':Hp}{a:Addr}{xs:List V}(e:Same H H')(h:SqS K H a xs):SqS K H' a xs:=by
 rcases h with⟨o,h⟩ | h
 ·exact .inl ⟨o,e _ _ h⟩
 ·exact .inr h
def dKey:Key->DKey
 | .inl i=>.i i
 | .inr x=>.s x
def mutO:HO->Bool
 | .lst _=>true
 | .dK _=>true
 | .dT _=>true
 | _=>false
mutual
def Rep(D:Dm)(H:Hp):DV->V->Prop
 | .non,v=>v=.non
 | .bl b,v=>v=.bl b
 | .int i,v=>v=.int i
 | .str x,v=>v=.str x/\x.length<=sizeLine
 | .tup ds,v=>∃a xs,v=.ref a/\SqT D.K H a xs/\RepL D H ds xs
 | .lst ds,v=>∃a xs,v=.ref a/\H a=some (.lst xs)/\RepL D H ds xs
 | .dct ks vs,v=>(∃a o kvs,v=.ref a/\H a=some (.frz o (.dK kvs))/\kvs.map (λp=>dKey p.1)=ks/\RepL D H vs (kvs.map (·.2)))\/∃a o kvs,v=.ref a/\H a=some (.frz o (.dT kvs))/\kvs.map (λp=>DKey.t p.1)=ks/\RepL D H vs (kvs.map (·.2))
 | .exc c,v=>∃a C,v=.ref a/\D.mg c=some C/\H a=some (excO a C)
 | .fn x,v=>∃f,v=.ref f/\D.mg x=some (.ref f)
 | .scr ns,v=>∃a,v=.ref a/\SqS D.K H a (ns.map V.int)
def RepL(D:Dm)(H:Hp):List DV->List V->Prop
 | [],xs=>xs=[]
 | d::ds,xs=>∃v vs,xs=v::vs/\Rep D H d v/\RepL D H ds vs
end
theorem Same.tseq{K:PySem.W.Frag}{H H':Hp}{a:Addr}{xs:List V}(e:Same H H')(h:SqT K H a xs):SqT K H' a xs:=by
 rcases h with(h | ⟨o,h⟩) | h
 ·exact .inl (.inl (e _ _ h))
 ·exact .inl (.inr ⟨o,e _ _ h⟩)
 ·exact .inr h
mutual
theorem Rep.mono{D:Dm}{H H':Hp}(e:Same H H'):∀{d:DV} {v:V},Rep D H d v->Rep D H' d v
 | .non,_,h=>by unfold Rep at h ⊢;exact h
 | .bl _,_,h=>by unfold Rep at h ⊢;exact h
 | .int _,_,h=>by unfold Rep at h ⊢;exact h
 | .str _,_,h=>by unfold Rep at h ⊢;exact h
 | .tup ds,_,h=>by unfold Rep at h ⊢;obtain⟨a,xs,e1,e2,e3⟩:=h;exact⟨a,xs,e1,e.tseq e2,RepL.mono e e3⟩
 | .lst ds,_,h=>by unfold Rep at h ⊢;obtain⟨a,xs,e1,e2,e3⟩:=h;exact⟨a,xs,e1,e _ _ e2,RepL.mono e e3⟩
 | .dct _ _,_,h=>by
  unfold Rep at h ⊢;rcases h with⟨a,o,kvs,e1,e2,e3,e4⟩ | ⟨a,o,kvs,e1,e2,e3,e4⟩
  ·exact .inl ⟨a,o,kvs,e1,e _ _ e2,e3,RepL.mono e e4⟩
  ·exact .inr ⟨a,o,kvs,e1,e _ _ e2,e3,RepL.mono e e4⟩
 | .exc C,_,h=>by unfold Rep at h ⊢;obtain⟨a,C,e1,e2,e3⟩:=h;exact⟨a,C,e1,e2,e _ _ e3⟩
 | .fn _,_,h=>by unfold Rep at h ⊢;exact h
 | .scr _,_,h=>by unfold Rep at h ⊢;obtain⟨a,e1,e2⟩:=h;exact⟨a,e1,e.sqs e2⟩
theorem RepL.mono{D:Dm}{H H':Hp}(e:Same H H'):∀{ds:List DV} {xs:List V},RepL D H ds xs->RepL D H' ds xs
 | [],_,h=>by unfold RepL at h ⊢;exact h
 | d::ds,_,h=>by unfold RepL at h ⊢;obtain⟨v,vs,e1,e2,e3⟩:=h;exact⟨v,vs,e1,Rep.mono e e2,RepL.mono e e3⟩
end
section
variable {D:Dm} {H H':Hp} {v:V} {xs ys:List V} {ds es:List DV} {d:DV}
theorem q0J{i:Int}:Rep D H (.int i) v↔v=.int i:=by unfold Rep;exact Iff.rfl
theorem q3E{i:Bool}:Rep D H (.bl i) v↔v=.bl i:=by unfold Rep;exact Iff.rfl
theorem q2B{i:Str}:Rep D H (.str i) v↔(v=.str i/\i.length<=sizeLine):=by unfold Rep;exact Iff.rfl
theorem q3w:Rep D H .non v↔v=.non:=by unfold Rep;exact Iff.rfl
theorem q0G:Rep D H (.tup ds) v↔∃a xs,v=.ref a/\SqT D.K H a xs/\RepL D H ds xs:=by unfold Rep;exact Iff.rfl
theorem q0z:Rep D H (.lst ds) v↔∃a xs,v=.ref a/\H a=some (.lst xs)/\RepL D H ds xs:=by unfold Rep;exact Iff.rfl
theorem q6I{c:Str}:Rep D H (.exc c) v↔∃a C,v=.ref a/\D.mg c=some C/\H a=some (excO a C):=by unfold Rep;exact Iff.rfl
theorem z7u{x:Str}:Rep D H (.fn x) v↔∃f,v=.ref f/\D.mg x=some (.ref f):=by unfold Rep;exact Iff.rfl
theorem q1R{ns:List Int}:Rep D H (.scr ns) v↔∃a,v=.ref a/\SqS D.K H a (ns.map V.int):=by unfold Rep;exact Iff.rfl
theorem q3s{ks:List DKey}{vs:List DV}:Rep D H (.dct ks vs) v↔((∃a o kvs,v=.ref a/\H a=some (.frz o (.dK kvs))/\kvs.map (λp=>dKey p.1)=ks/\RepL D H vs (kvs.map (·.2)))\/∃a o kvs,v=.ref a/\H a=some (.frz o (.dT kvs))/\kvs.map (λp=>DKey.t p.1)=ks/\RepL D H vs (kvs.map (·.2))):=by unfold Rep;exact Iff.rfl
theorem q0t:RepL D H [] xs↔xs=[]:=by unfold RepL;exact Iff.rfl
theorem q0h:RepL D H (d::ds) xs↔∃v vs,xs=v::vs/\Rep D H d v/\RepL D H ds vs:=by
 constructor
 ·intro h;unfold RepL at h;exact h
 ·intro h;unfold RepL;exact h
end
theorem RepL.length{D:Dm}{H:Hp}:∀{ds:List DV} {xs:List V},RepL D H ds xs->xs.length=ds.length
 | [],_,h=>by rw[q0t.mp h];rfl
 | d::ds,_,h=>by obtain⟨v,vs,e1,_,e3⟩:=q0h.mp h;rw[e1,List.length_cons,List.length_cons,RepL.length e3]
theorem RepL.get{D:Dm}{H:Hp}:∀{ds:List DV} {xs:List V} {i:Nat} {d:DV},RepL D H ds xs->ds[i]? = some d->∃v,xs[i]? = some v/\Rep D H d v
 | [],_,_,_,_,e=>by simp at e
 | d::ds,_,i,d',h,e=>by
  obtain⟨v,vs,e1,e2,e3⟩:=q0h.mp h;subst e1;cases i with
  | zero=>simp at e;subst e;exact⟨v,rfl,e2⟩
  | succ i=>simpa using RepL.get (i:=i) e3 (by simpa using e)
theorem RepL.append{D:Dm}{H:Hp}:∀{ds es:List DV} {xs ys:List V},RepL D H ds xs->RepL D H es ys->RepL D H (ds++es) (xs++ys)
 | [],_,_,_,h,h'=>by rw[q0t.mp h];exact h'
 | d::ds,_,_,_,h,h'=>by obtain⟨v,vs,e1,e2,e3⟩:=q0h.mp h;subst e1;exact q0h.mpr ⟨v,_,rfl,e2,RepL.append e3 h'⟩
theorem RepL.one{D:Dm}{H:Hp}{d:DV}{v:V}(h:Rep D H d v):RepL D H [d] [v]:=q0h.mpr ⟨v,[],rfl,h,q0t.mpr rfl⟩
theorem RepL.take{D:Dm}{H:Hp}:∀{ds:List DV} {xs:List V} (n:Nat),RepL D H ds xs->RepL D H (ds.take n) (xs.take n)
 | _,_,0,_=>q0t.mpr rfl
 | [],_,n+1,h=>by rw[q0t.mp h];exact q0t.mpr rfl
 | d::ds,_,n+1,h=>by obtain⟨v,vs,e1,e2,e3⟩:=q0h.mp h;subst e1;exact q0h.mpr ⟨v,_,rfl,e2,RepL.take n e3⟩
theorem RepL.drop{D:Dm}{H:Hp}:∀{ds:List DV} {xs:List V} (n:Nat),RepL D H ds xs->RepL D H (ds.drop n) (xs.drop n)
 | _,_,0,h=>h
 | [],_,n+1,h=>by rw[q0t.mp h];exact q0t.mpr rfl
 | d::ds,_,n+1,h=>by obtain⟨v,vs,e1,e2,e3⟩:=q0h.mp h;subst e1;exact RepL.drop n e3
theorem RepL.set{D:Dm}{H:Hp}{d:DV}{v:V}(q:Rep D H d v):∀{ds:List DV} {xs:List V} (n:Nat),RepL D H ds xs->RepL D H (ds.set n d) (xs.set n v)
 | [],_,n,h=>by rw[q0t.mp h];exact q0t.mpr rfl
 | _::ds,_,0,h=>by obtain⟨v,vs,e1,e2,e3⟩:=q0h.mp h;subst e1;exact q0h.mpr ⟨_,_,rfl,q,e3⟩
 | _::ds,_,n+1,h=>by obtain⟨v,vs,e1,e2,e3⟩:=q0h.mp h;subst e1;exact q0h.mpr ⟨_,_,rfl,e2,RepL.set q n e3⟩
theorem RepL.rep{D:Dm}{H:Hp}{ds:List DV}{xs:List V}(h:RepL D H ds xs):∀k:Nat,RepL D H (List.replicate k ds).flatten (List.replicate k xs).flatten
 | 0=>q0t.mpr rfl
 | k+1=>by rw[List.replicate_succ,List.replicate_succ,List.flatten_cons,List.flatten_cons];exact h.append (RepL.rep h k)
theorem q1B{D:Dm}{H:Hp}:∀(ns:List Int),RepL D H (ns.map DV.int) (ns.map V.int)
 | []=>q0t.mpr rfl
 | n::ns=>q0h.mpr ⟨_,_,rfl,q0J.mpr rfl,q1B ns⟩
def wo(O:List Addr)(H:Hp):Hp:=λb=>if b∈O then none else H b
theorem z6c{O:List Addr}{H:Hp}{b:Addr}(h:b∈O):wo O H b=none:=if_pos h
theorem q0o{O:List Addr}{H:Hp}{b:Addr}(h:b∉O):wo O H b=H b:=if_neg h
theorem q0M{O:List Addr}{H:Hp}{b:Addr}{o:HO}(h:wo O H b=some o):b∉O/\H b=some o:=by
 by_cases hb:b∈O
 ·rw[z6c hb]at h;cases h
 ·rw[q0o hb]at h;exact⟨hb,h⟩
theorem Same.wo{O:List Addr}{H H':Hp}(e:Same H H'):Same (wo O H) (wo O H'):=λb o h=>by
 obtain⟨hb,h⟩:=q0M h;rw[q0o hb];exact e b o h
theorem q0T{O:List Addr}{H:Hp}:Same (L2.wo O H) H:=λb o h=>(q0M h).2
theorem q0I{O O':List Addr}{H:Hp}(h:∀b∈O',b∈O):Same (L2.wo O H) (L2.wo O' H):=λb o e=>by
 obtain⟨hb,e⟩:=q0M e;rw[q0o λz=>hb (h b z)];exact e
theorem q0p{H:Hp}{p:Addr}{o:HO}(h:H p=none):Same H (upd H p o):=λb u q=>by rw[q0l (q0w q h)];exact q
structure Hid(O W:List Addr)(H0 H:Hp):Prop where
 ot:∀a∈O++W,H0 a≠none
 same:Same H0 H
 wl:∀a∈W,∃o,H0 a=some o/\mutO o=true
 dj:∀a∈W,a∉O
 om:∀a∈O,∃o,H0 a=some o/\mutO o=true
def Hdn(O:List Addr)(H:Hp):Prop:=∀a∈O,∃o,H a=some o/\mutO o=true
theorem Hdn.ne{O:List Addr}{H:Hp}(h:Hdn O H):∀a∈O,H a≠none:=λa ha q=>by obtain⟨o,e,_⟩:=h a ha;rw[q]at e;cases e
theorem Hid.omS{O W:List Addr}{H0 H H':Hp}(h:Hid O W H0 H)(e:Same H0 H'):Hdn O H':=λa ha=>by obtain⟨o,q,m⟩:=h.om a ha;exact⟨o,e _ _ q,m⟩
theorem Hid.omW{O W:List Addr}{H0 H:Hp}{p:Addr}{x:HO}(h:Hid O W H0 H)(hp:p∈W):Hdn O (upd H0 p x):=λa ha=>by
 obtain⟨o,q,m⟩:=h.om a ha;exact⟨o,by rw[q0l λz=>h.dj p hp (by rw[←z];exact ha)];exact q,m⟩
theorem Hid.hdO{O W:List Addr}{H0 H:Hp}(h:Hid O W H0 H):Hdn O H:=h.omS h.same
theorem Hid.hdA{O W:List Addr}{H0 H:Hp}(h:Hid O W H0 H):Hdn (O++W) H:=λa ha=>by
 rcases List.mem_append.mp ha with z | z
 ·exact h.hdO a z
 ·obtain⟨o,q,m⟩:=h.wl a z;exact⟨o,h.same _ _ q,m⟩
theorem Hid.mono{O W:List Addr}{H0 H H':Hp}(h:Hid O W H0 H)(e:Same H H'):Hid O W H0 H':=⟨h.ot,h.same.trans e,h.wl,h.dj,h.om⟩
theorem Hid.newOut{O W:List Addr}{H0 H:Hp}(h:Hid O W H0 H){p:Addr}(hp:H p=none):p∉O++W:=λz=>h.ot p z (h.same.free hp)
mutual
theorem Rep.immut{D:Dm}{O W:List Addr}{H:Hp}(hw:∀a∈W,∃o,H a=some o/\mutO o=true):∀{d:DV} {v:V},d.immut=true->Rep D (L2.wo O H) d v->Rep D (L2.wo (O++W) H) d v
 | .non,_,_,h=>by unfold Rep at h ⊢;exact h
 | .bl _,_,_,h=>by unfold Rep at h ⊢;exact h
 | .int _,_,_,h=>by unfold Rep at h ⊢;exact h
 | .str _,_,_,h=>by unfold Rep at h ⊢;exact h
 | .tup ds,_,m,h=>by
  unfold Rep at h ⊢;obtain⟨a,xs,e1,e2,e3⟩:=h;have m':DV.immuts ds=true:=by unfold DV.immut at m;exact m
  refine⟨a,xs,e1,?_,RepL.immut hw m' e3⟩;rcases e2 with(h | ⟨o,h⟩) | h
  ·obtain⟨ha,h⟩:=q0M h;refine .inl (.inl ?_);rw[q0o λz=>?_]
   ·exact h
   ·rcases List.mem_append.mp z with z | z
    ·exact ha z
    ·obtain⟨ys,q,m⟩:=hw a z;rw[h]at q;cases q;cases m
  ·obtain⟨ha,h⟩:=q0M h;refine .inl (.inr ⟨o,?_⟩);rw[q0o λz=>?_]
   ·exact h
   ·rcases List.mem_append.mp z with z | z
    ·exact ha z
    ·obtain⟨ys,q,m⟩:=hw a z;rw[h]at q;cases q;cases m
  ·exact .inr h
 | .lst ds,_,m,_=>by unfold DV.immut at m;cases m
 | .dct ks vs,_,m,h=>by
  have m':DV.immuts vs=true:=by unfold DV.immut at m;exact m
  have ou:∀{a:Addr} {o:Obj} {u:HO},L2.wo O H a=some (.frz o u)->L2.wo (O++W) H a=some (.frz o u):=λ{a o u} e=>by
   obtain⟨ha,h⟩:=q0M e;rw[q0o λz=>?_]
   ·exact h
   ·rcases List.mem_append.mp z with z | z
    ·exact ha z
    ·obtain⟨ys,q,m⟩:=hw a z;rw[h]at q;cases q;cases m
  rcases q3s.mp h with⟨a,o,kvs,e1,e2,e3,e4⟩ | ⟨a,o,kvs,e1,e2,e3,e4⟩
  ·exact q3s.mpr (.inl ⟨a,o,kvs,e1,ou e2,e3,RepL.immut hw m' e4⟩)
  ·exact q3s.mpr (.inr ⟨a,o,kvs,e1,ou e2,e3,RepL.immut hw m' e4⟩)
 | .exc C,_,_,h=>by
  unfold Rep at h ⊢;obtain⟨a,C,e1,e2,e3⟩:=h;obtain⟨ha,h⟩:=q0M e3;refine⟨a,C,e1,e2,?_⟩;rw[q0o λz=>?_]
  ·exact h
  ·rcases List.mem_append.mp z with z | z
   ·exact ha z
   ·obtain⟨ys,q,m⟩:=hw a z;rw[h]at q;cases q;cases m
 | .fn _,_,_,h=>by unfold Rep at h ⊢;exact h
 | .scr ns,_,_,h=>by
  unfold Rep at h ⊢;obtain⟨a,e1,e2⟩:=h;refine⟨a,e1,?_⟩;rcases e2 with⟨o,h⟩ | h
  ·obtain⟨ha,h⟩:=q0M h;refine .inl ⟨o,?_⟩;rw[q0o λz=>?_]
   ·exact h
   ·rcases List.mem_append.mp z with z | z
    ·exact ha z
    ·obtain⟨ys,q,m⟩:=hw a z;rw[h]at q;cases q;cases m
  ·exact .inr h
theorem RepL.immut{D:Dm}{O W:List Addr}{H:Hp}(hw:∀a∈W,∃o,H a=some o/\mutO o=true):∀{ds:List DV} {xs:List V},DV.immuts ds=true->RepL D (L2.wo O H) ds xs->RepL D (L2.wo (O++W) H) ds xs
 | [],_,_,h=>by unfold RepL at h ⊢;exact h
 | d::ds,_,m,h=>by unfold RepL at h ⊢;obtain⟨v,vs,e1,e2,e3⟩:=h;unfold DV.immuts at m;rw[Bool.and_eq_true]at m;exact⟨v,vs,e1,Rep.immut hw m.1 e2,RepL.immut hw m.2 e3⟩
end
def RepT(D:Dm)(W:List Addr)(Ht H:Hp)(d:DV)(v:V):Prop:=match d with
 | .lst ds=>∃a xs,v=.ref a/\a∈W/\Ht a=some (.lst xs)/\RepL D H ds xs
 | d=>Rep D H d v
theorem RepT.mono{D:Dm}{W:List Addr}{Ht Ht' H H':Hp}{d:DV}{v:V}(et:Same Ht Ht')(e:Same H H')(h:RepT D W Ht H d v):RepT D W Ht' H' d v:=by
 cases d with
 | lst ds=>obtain⟨a,xs,e1,e0,e2,e3⟩:=h;exact⟨a,xs,e1,e0,et _ _ e2,e3.mono e⟩
 | non=>exact Rep.mono (D:=D) (d:=.non) (v:=v) e h
 | bl b=>exact Rep.mono (D:=D) (d:=.bl b) (v:=v) e h
 | int b=>exact Rep.mono (D:=D) (d:=.int b) (v:=v) e h
 | str b=>exact Rep.mono (D:=D) (d:=.str b) (v:=v) e h
 | tup b=>exact Rep.mono (D:=D) (d:=.tup b) (v:=v) e h
 | dct b c=>exact Rep.mono (D:=D) (d:=.dct b c) (v:=v) e h
 | exc b=>exact Rep.mono (D:=D) (d:=.exc b) (v:=v) e h
 | fn b=>exact Rep.mono (D:=D) (d:=.fn b) (v:=v) e h
 | scr b=>exact Rep.mono (D:=D) (d:=.scr b) (v:=v) e h
theorem RepT.rep{D:Dm}{W:List Addr}{Ht H:Hp}{d:DV}{v:V}(e:Same H Ht)(h:RepT D W Ht H d v):Rep D Ht d v:=by
 cases d with
 | lst ds=>obtain⟨a,xs,e1,e0,e2,e3⟩:=h;exact q0z.mpr ⟨a,xs,e1,e2,e3.mono e⟩
 | non=>exact Rep.mono (D:=D) (d:=.non) (v:=v) e h
 | bl b=>exact Rep.mono (D:=D) (d:=.bl b) (v:=v) e h
 | int b=>exact Rep.mono (D:=D) (d:=.int b) (v:=v) e h
 | str b=>exact Rep.mono (D:=D) (d:=.str b) (v:=v) e h
 | tup b=>exact Rep.mono (D:=D) (d:=.tup b) (v:=v) e h
 | dct b c=>exact Rep.mono (D:=D) (d:=.dct b c) (v:=v) e h
 | exc b=>exact Rep.mono (D:=D) (d:=.exc b) (v:=v) e h
 | fn b=>exact Rep.mono (D:=D) (d:=.fn b) (v:=v) e h
 | scr b=>exact Rep.mono (D:=D) (d:=.scr b) (v:=v) e h
def Got(D:Dm)(O W:List Addr)(H0 H:Hp)(d:DV)(c:Cl)(v:V):Prop:=match c with
 | .weak=>Rep D (L2.wo O H) d v
 | .top=>RepT D W (L2.wo O H) (L2.wo (O++W) H) d v
 | .strong=>Rep D (L2.wo (O++W) H) d v
 | .fresh=>∃p xs ds,v=.ref p/\d=.lst ds/\H0 p=none/\H p=some (.lst xs)/\RepL D (L2.wo (p::(O++W)) H) ds xs
 | .ft=>∃t ts p xs ds es,v=.ref t/\d=.tup (.lst ds::es)/\SqT D.K (L2.wo (O++W) H) t (.ref p::ts)/\H0 p=none/\H p=some (.lst xs)/\RepL D (L2.wo (p::(O++W)) H) ds xs/\RepL D (L2.wo (p::(O++W)) H) es ts
section
variable {D:Dm} {O W:List Addr} {H0 H H':Hp} {d:DV} {ds:List DV} {c:Cl} {v:V}
theorem q6p:∀b∈O,b∈O++W:=λ_ h=>List.mem_append_left _ h
theorem Got.mono(h:Got D O W H0 H d c v)(e:Same H H'):Got D O W H0 H' d c v:=by
 cases c with
 | weak=>exact Rep.mono e.wo h
 | top=>exact RepT.mono e.wo e.wo h
 | strong=>exact Rep.mono e.wo h
 | fresh=>
  obtain⟨p,xs,ds,e1,e2,e3,e4,e5⟩:=h;exact⟨p,xs,ds,e1,e2,e3,e _ _ e4,e5.mono e.wo⟩
 | ft=>
  obtain⟨t,ts,p,xs,ds,es,e1,e2,e0,e3,e4,e5,e6⟩:=h;exact⟨t,ts,p,xs,ds,es,e1,e2,e.wo.tseq e0,e3,e _ _ e4,e5.mono e.wo,e6.mono e.wo⟩
theorem Got.since{H1:Hp}(h:Got D O W H1 H d c v)(e:Same H0 H1):Got D O W H0 H d c v:=by
 cases c with
 | weak=>exact h
 | top=>exact h
 | strong=>exact h
 | fresh=>
  obtain⟨p,xs,ds,e1,e2,e3,e4,e5⟩:=h;exact⟨p,xs,ds,e1,e2,e.free e3,e4,e5⟩
 | ft=>
  obtain⟨t,ts,p,xs,ds,es,e1,e2,e0,e3,e4,e5,e6⟩:=h;exact⟨t,ts,p,xs,ds,es,e1,e2,e0,e.free e3,e4,e5,e6⟩
theorem Got.ft(h:Got D O W H0 H d .ft v)(hd:Hid O W H0 H):Rep D (L2.wo (O++W) H) d v:=by
 obtain⟨t,ts,p,xs,ds,es,e1,e2,e0,e3,e4,e5,e6⟩:=h;have hp:p∉O++W:=λz=>hd.ot p z e3
 have up:Same (L2.wo (p::(O++W)) H) (L2.wo (O++W) H):=q0I λb hb=>List.mem_cons_of_mem _ hb;rw[e2];exact q0G.mpr ⟨t,_,e1,e0,q0h.mpr ⟨_,_,rfl,q0z.mpr ⟨p,xs,rfl,by rw[q0o hp];exact e4,e5.mono up⟩,e6.mono up⟩⟩
theorem Got.strong(h:Got D O W H0 H d .fresh v)(hd:Hid O W H0 H):Rep D (L2.wo (O++W) H) d v:=by
 obtain⟨p,xs,ds,e1,e2,e3,e4,e5⟩:=h;have hp:p∉O++W:=λz=>hd.ot p z e3
 rw[e2];exact q0z.mpr ⟨p,xs,e1,by rw[q0o hp];exact e4,e5.mono (q0I λb hb=>List.mem_cons_of_mem _ hb)⟩
theorem Got.weak(h:Got D O W H0 H d c v)(hd:Hid O W H0 H):Rep D (L2.wo O H) d v:=by
 cases c with
 | weak=>exact h
 | top=>exact RepT.rep (q0I q6p) h
 | strong=>exact Rep.mono (q0I q6p) h
 | fresh=>exact Rep.mono (q0I q6p) (h.strong hd)
 | ft=>exact Rep.mono (q0I q6p) (h.ft hd)
theorem Got.all(h:Got D O W H0 H d c v)(hd:Hid O W H0 H):Rep D H d v:=Rep.mono q0T (h.weak hd)
theorem Got.stro(h:Got D O W H0 H d c v)(hd:Hid O W H0 H)(hs:L2.stro d c=true):Rep D (L2.wo (O++W) H) d v:=by
 cases c with
 | strong=>exact h
 | fresh=>exact h.strong hd
 | ft=>exact h.ft hd
 | weak=>exact Rep.immut (λa ha=>by obtain⟨xs,e,m⟩:=hd.wl a ha;exact⟨xs,hd.same _ _ e,m⟩) hs (h.weak hd)
 | top=>exact Rep.immut (λa ha=>by obtain⟨xs,e,m⟩:=hd.wl a ha;exact⟨xs,hd.same _ _ e,m⟩) hs (h.weak hd)
theorem Got.items(h:Got D O W H0 H (.lst ds) c v)(hd:Hid O W H0 H)(hc:c ≠ .weak):∃a xs,v=.ref a/\H a=some (.lst xs)/\RepL D (L2.wo (O++W) H) ds xs:=by
 cases c with
 | weak=>exact absurd rfl hc
 | top=>
  obtain⟨a,xs,e1,e0,e2,e3⟩:=h;exact⟨a,xs,e1,q0T _ _ e2,e3⟩
 | strong=>
  obtain⟨a,xs,e1,e2,e3⟩:=q0z.mp h;exact⟨a,xs,e1,q0T _ _ e2,e3⟩
 | fresh=>
  obtain⟨a,xs,e1,e2,e3⟩:=q0z.mp (h.strong hd);exact⟨a,xs,e1,q0T _ _ e2,e3⟩
 | ft=>
  obtain⟨a,xs,e1,e2,e3⟩:=q0z.mp (h.ft hd);exact⟨a,xs,e1,q0T _ _ e2,e3⟩
theorem Got.itemsT(h:Got D O W H0 H (.tup ds) c v)(hd:Hid O W H0 H)(hc:c ≠ .weak):∃a xs,v=.ref a/\SqT D.K H a xs/\RepL D (L2.wo (O++W) H) ds xs:=by
 cases c with
 | weak=>exact absurd rfl hc
 | top=>
  obtain⟨a,xs,e1,e2,e3⟩:=q0G.mp (show Rep D (L2.wo (O++W) H) (.tup ds) v from h);exact⟨a,xs,e1,q0T.tseq e2,e3⟩
 | strong=>
  obtain⟨a,xs,e1,e2,e3⟩:=q0G.mp h;exact⟨a,xs,e1,q0T.tseq e2,e3⟩
 | fresh=>
  obtain⟨p,xs,ds,e1,e2,e3,e4,e5⟩:=h;cases e2
 | ft=>
  obtain⟨a,xs,e1,e2,e3⟩:=q0G.mp (h.ft hd);exact⟨a,xs,e1,q0T.tseq e2,e3⟩
theorem Got.lst(h:Got D O W H0 H (.lst ds) c v)(hd:Hid O W H0 H):∃a xs,v=.ref a/\H a=some (.lst xs)/\RepL D (L2.wo O H) ds xs:=by
 obtain⟨a,xs,e1,e2,e3⟩:=q0z.mp (h.weak hd);exact⟨a,xs,e1,q0T _ _ e2,e3⟩
theorem Got.tup(h:Got D O W H0 H (.tup ds) c v)(hd:Hid O W H0 H):∃a xs,v=.ref a/\SqT D.K H a xs/\RepL D (L2.wo O H) ds xs:=by
 obtain⟨a,xs,e1,e2,e3⟩:=q0G.mp (h.weak hd);exact⟨a,xs,e1,q0T.tseq e2,e3⟩
def q0Y(O W:List Addr):Cl->List Addr
 | .weak=>O
 | _=>O++W
theorem Got.lstC(h:Got D O W H0 H (.lst ds) c v)(hd:Hid O W H0 H):∃a xs,v=.ref a/\H a=some (.lst xs)/\RepL D (L2.wo (q0Y O W c) H) ds xs:=by
 cases c with
 | weak=>exact h.lst hd
 | top=>exact h.items hd (by intro z;cases z)
 | strong=>exact h.items hd (by intro z;cases z)
 | fresh=>exact h.items hd (by intro z;cases z)
 | ft=>exact h.items hd (by intro z;cases z)
theorem Got.tupC(h:Got D O W H0 H (.tup ds) c v)(hd:Hid O W H0 H):∃a xs,v=.ref a/\SqT D.K H a xs/\RepL D (L2.wo (q0Y O W c) H) ds xs:=by
 cases c with
 | weak=>exact h.tup hd
 | top=>exact h.itemsT hd (by intro z;cases z)
 | strong=>exact h.itemsT hd (by intro z;cases z)
 | fresh=>exact h.itemsT hd (by intro z;cases z)
 | ft=>exact h.itemsT hd (by intro z;cases z)
theorem Got.item(h:Rep D (L2.wo (q0Y O W c) H) d v):Got D O W H0 H d c.item v:=by
 cases c<;>exact h
theorem q0y{i:Int}(hc:c ≠ .fresh:=by intro z;cases z)(hc':c ≠ .ft:=by intro z;cases z):Got D O W H0 H (.int i) c (.int i):=by
 have q:∀H,Rep D H (.int i) (.int i):=λH=>q0J.mpr rfl;cases c with
 | fresh=>exact absurd rfl hc
 | ft=>exact absurd rfl hc'
 | weak=>exact q (L2.wo O H)
 | strong=>exact q (L2.wo (O++W) H)
 | top=>exact q (L2.wo (O++W) H)
theorem q3c{i:Bool}:Got D O W H0 H (.bl i) .strong (.bl i):=(q3E.mpr rfl:Rep D (L2.wo (O++W) H) (.bl i) (.bl i))
theorem z4M:Got D O W H0 H .non .strong .non:=(q3w.mpr rfl:Rep D (L2.wo (O++W) H) .non .non)
theorem Got.int{i:Int}(h:Got D O W H0 H (.int i) c v)(hd:Hid O W H0 H):v=.int i:=q0J.mp (h.weak hd)
theorem Got.bl{i:Bool}(h:Got D O W H0 H (.bl i) c v)(hd:Hid O W H0 H):v=.bl i:=q3E.mp (h.weak hd)
theorem Got.str{x:Str}(h:Got D O W H0 H (.str x) c v)(hd:Hid O W H0 H):v=.str x/\x.length<=sizeLine:=q2B.mp (h.weak hd)
theorem q1P{p:Addr}{xs:List V}(hd:Hid O W H0 H)(hp:H p=none)(r:RepL D (L2.wo (O++W) H) ds xs):Got D O W H0 (upd H p (.lst xs)) (.lst ds) .fresh (.ref p):=by
 refine⟨p,xs,ds,rfl,rfl,hd.same.free hp,q0D,r.mono λb o e=>?_⟩;obtain⟨hb,e⟩:=q0M e;have hbp:b≠p:=q0w e hp;rw[q0o (by intro z;rcases List.mem_cons.mp z with z | z;exact hbp z;exact hb z),q0l hbp];exact e
theorem q5x{p:Addr}{xs:List V}(hd:Hid O W H0 H)(hp:H p=none)(r:RepL D (L2.wo O H) ds xs):Got D O W H0 (upd H p (.lst xs)) (.lst ds) .weak (.ref p):=by
 have hpo:p∉O:=λz=>hd.newOut hp (List.mem_append_left _ z);exact q0z.mpr ⟨p,xs,rfl,by rw[q0o hpo];exact q0D,r.mono (q0p hp).wo⟩
theorem q3R{p:Addr}{xs:List V}(hd:Hid O W H0 H)(hp:H p=none)(r:RepL D (L2.wo (q0Y O W c) H) ds xs):Got D O W H0 (upd H p (.lst xs)) (.lst ds) (Cl.anew c c) (.ref p):=by
 cases c with
 | weak=>exact q5x hd hp r
 | top=>exact q1P hd hp r
 | strong=>exact q1P hd hp r
 | fresh=>exact q1P hd hp r
 | ft=>exact q1P hd hp r
theorem q4e{p:Addr}{xs:List V}(hd:Hid O W H0 H)(hp:H p=none)(r:RepL D (L2.wo (O++W) H) ds xs):Got D O W H0 (upd H p (.tup xs)) (.tup ds) .strong (.ref p):=
 q0G.mpr ⟨p,xs,rfl,SqT.of (by rw[q0o (hd.newOut hp)];exact q0D),r.mono (q0p hp).wo⟩
theorem q7B{p:Addr}{xs:List V}(hd:Hid O W H0 H)(hp:H p=none)(r:RepL D (L2.wo O H) ds xs):Got D O W H0 (upd H p (.tup xs)) (.tup ds) .weak (.ref p):=
 q0G.mpr ⟨p,xs,rfl,SqT.of (by rw[q0o λz=>hd.newOut hp (List.mem_append_left _ z)];exact q0D),r.mono (q0p hp).wo⟩
theorem q7K{p:Addr}{xs:List V}(hd:Hid O W H0 H)(hp:H p=none)(r:RepL D (L2.wo (q0Y O W c) H) ds xs):Got D O W H0 (upd H p (.tup xs)) (.tup ds) c.item (.ref p):=by
 cases c with
 | weak=>exact q7B hd hp r
 | top=>exact q4e hd hp r
 | strong=>exact q4e hd hp r
 | fresh=>exact q4e hd hp r
 | ft=>exact q4e hd hp r
end
inductive GotL (D:Dm) (O W:List Addr) (H0 H:Hp):List (DV×Cl)->List V->Prop where
 | nil:GotL D O W H0 H [] []
 | cons {d:DV} {c:Cl} {v:V} {l:List (DV×Cl)} {vs:List V}:Got D O W H0 H d c v->GotL D O W H0 H l vs->GotL D O W H0 H ((d,c)::l) (v::vs)
section
variable {D:Dm} {O W:List Addr} {H0 H H':Hp}
theorem GotL.repL{l:List (DV×Cl)}{vs:List V}(h:GotL D O W H0 H l vs)(hd:Hid O W H0 H):RepL D (L2.wo O H) (l.map (·.1)) vs:=by
 induction h with
 | nil=>exact q0t.mpr rfl
 | cons h _ ih=>exact q0h.mpr ⟨_,_,rfl,h.weak hd,ih⟩
theorem GotL.stros{l:List (DV×Cl)}{vs:List V}(h:GotL D O W H0 H l vs)(hd:Hid O W H0 H)(hs:L2.stros l=true):RepL D (L2.wo (O++W) H) (l.map (·.1)) vs:=by
 induction h with
 | nil=>exact q0t.mpr rfl
 | cons h _ ih=>
  unfold L2.stros at hs;rw[List.all_cons,Bool.and_eq_true]at hs;exact q0h.mpr ⟨_,_,rfl,h.stro hd hs.1,ih hs.2⟩
theorem GotL.length{l:List (DV×Cl)}{vs:List V}(h:GotL D O W H0 H l vs):vs.length=l.length:=by
 induction h with
 | nil=>rfl
 | cons _ _ ih=>rw[List.length_cons,List.length_cons,ih]
theorem GotL.strong{l:List (DV×Cl)}{vs:List V}(h:GotL D O W H0 H l vs)(hd:Hid O W H0 H)(hs:(l.all λp=>p.2 == .strong||p.2 == .fresh)=true):RepL D (L2.wo (O++W) H) (l.map (·.1)) vs:=by
 refine h.stros hd ?_;unfold L2.stros;rw[List.all_eq_true]at hs ⊢;intro p hp;have:=hs p hp;unfold L2.stro;cases e:p.2<;>rw[e]at this<;>first | rfl | cases this
theorem GotL.one{d:DV}{c:Cl}{vs:List V}(h:GotL D O W H0 H [(d,c)] vs):∃v,vs=[v]/\Got D O W H0 H d c v:=by
 cases h with
 | cons h t=>cases t;exact⟨_,rfl,h⟩
theorem GotL.two{d d':DV}{c c':Cl}{vs:List V}(h:GotL D O W H0 H [(d,c),(d',c')] vs):∃v v',vs=[v,v']/\Got D O W H0 H d c v/\Got D O W H0 H d' c' v':=by
 cases h with
 | cons h t=>obtain⟨v',e,h'⟩:=t.one;subst e;exact⟨_,_,rfl,h,h'⟩
theorem GotL.three{d d' d2:DV}{c c' c2:Cl}{vs:List V}(h:GotL D O W H0 H [(d,c),(d',c'),(d2,c2)] vs):∃v v' v2,vs=[v,v',v2]/\Got D O W H0 H d c v/\Got D O W H0 H d' c' v'/\Got D O W H0 H d2 c2 v2:=by
 cases h with
 | cons h t=>obtain⟨v',v2,e,h',h2⟩:=t.two;subst e;exact⟨_,_,_,rfl,h,h',h2⟩
end
def O2At(H:Hp)(W:List Addr)(p:Addr)(L:List (Addr×List Int)):Prop:=p∈W/\H p=some (.lst (L.map λq=>.ref q.1))/\(∀q∈L,q.1∈W/\H q.1=some (.lst (q.2.map V.int)))/\(p::L.map (·.1)).Nodup
def o2D(L:List (Addr×List Int)):DV:=.lst (L.map λq=>.lst (q.2.map DV.int))
theorem O2At.mono{H H':Hp}{W:List Addr}{p:Addr}{L:List (Addr×List Int)}(h:O2At H W p L)(e:Same H H'):O2At H' W p L:=⟨h.1,e _ _ h.2.1,λq hq=>⟨(h.2.2.1 q hq).1,e _ _ (h.2.2.1 q hq).2⟩,h.2.2.2⟩
theorem O2At.sub{H:Hp}{W W':List Addr}{p:Addr}{L:List (Addr×List Int)}(h:O2At H W p L)(e:∀a∈p::L.map (·.1),a∈W->a∈W'):O2At H W' p L:=
 ⟨e _ (List.mem_cons_self ..) h.1,h.2.1,λq hq=>⟨e _ (List.mem_cons_of_mem _ (List.mem_map.mpr ⟨q,hq,rfl⟩)) (h.2.2.1 q hq).1,(h.2.2.1 q hq).2⟩,h.2.2.2⟩
theorem O2At.dom{H:Hp}{W:List Addr}{p a:Addr}{L:List (Addr×List Int)}(h:O2At H W p L)(ha:a∈p::L.map (·.1)):a∈W/\∃xs,H a=some (.lst xs):=by
 rcases List.mem_cons.mp ha with z | z
 ·rw[z];exact⟨h.1,_,h.2.1⟩
 ·obtain⟨q,hq,rfl⟩:=List.mem_map.mp z;exact⟨(h.2.2.1 q hq).1,_,(h.2.2.1 q hq).2⟩
theorem O2At.write{H:Hp}{W:List Addr}{p a:Addr}{o:HO}{L:List (Addr×List Int)}(h:O2At H W p L)(ha:a∉p::L.map (·.1)):O2At (upd H a o) W p L:=
 ⟨h.1,by rw[q0l λz=>ha (by rw[←z];exact List.mem_cons_self ..)];exact h.2.1,λq hq=>⟨(h.2.2.1 q hq).1,by rw[q0l λz=>ha (by rw[←z];exact List.mem_cons_of_mem _ (List.mem_map.mpr ⟨q,hq,rfl⟩))];exact(h.2.2.1 q hq).2⟩,h.2.2.2⟩
def odD(L:List (Int×Int)):DV:=.dct (L.map λp=>.i p.1) (L.map λp=>.int p.2)
def odK(L:List (Int×Int)):List (Key×V):=L.map λp=>(.inl p.1,.int p.2)
def oeD(L:List ((Int×Int)×Int)):DV:=.dct (L.map λp=>.t [.inl p.1.1,.inl p.1.2]) (L.map λp=>.int p.2)
def oeK(L:List ((Int×Int)×Int)):List (List Key×V):=L.map λp=>([.inl p.1.1,.inl p.1.2],.int p.2)
def dicO:HO->Bool
 | .dK _=>true
 | .dT _=>true
 | _=>false
def OdOk(d:DV)(o:HO):Prop:=(∃L,d=odD L/\o=.dK (odK L))\/∃L,d=.tup [oeD L]/\o=.dT (oeK L)
theorem OdOk.dic{d:DV}{o:HO}(h:OdOk d o):dicO o=true:=by rcases h with⟨L,_,e⟩ | ⟨L,_,e⟩<;>rw[e]<;>rfl
def OdAt(H:Hp)(σ:St)(δ:List Sv)(W:List Addr):Prop:=∀(i:Nat) d,δ[i]? = some (.od d)->(∃a o,OdOk d o/\σ[i]? = some (some (.ref a))/\a∈W/\H a=some o)/\∀(j:Nat) d',δ[j]? = some (.od d')->j=i
theorem OdAt.step{H H':Hp}{σ σ':St}{δ δ':List Sv}{W W':List Addr}(h:OdAt H σ δ W)(hδ:∀(j:Nat) d,δ'[j]? = some (.od d)->δ[j]? = some (.od d)/\σ'[j]? = σ[j]?)(hW:∀a∈W,(∃o,H a=some o/\dicO o=true)->a∈W')(hH:∀a o,a∈W->H a=some o->dicO o=true->H' a=some o):OdAt H' σ' δ' W':=λi d q=>by
 obtain⟨q1,q2⟩:=hδ i d q;obtain⟨⟨a,L,e0,e1,e2,e3⟩,u⟩:=h i d q1;exact⟨⟨a,L,e0,by rw[q2];exact e1,hW a e2 ⟨_,e3,e0.dic⟩,hH a _ e2 e3 e0.dic⟩,λj d' z=>u j d' (hδ j d' z).1⟩
theorem q4Q{σ:St}{δ:List Sv}{i:Nat}{X:Sv}(x:Option V)(hX:∀d,X ≠ .od d):∀(j:Nat) d,(δ.set i X)[j]? = some (.od d)->δ[j]? = some (.od d)/\(σ.set i x)[j]? = σ[j]?:=λj d h=>by
 have hj:j≠i:=λz=>by
  subst z;have hl:j<δ.length:=by have:=(List.getElem?_eq_some_iff.mp h).1;rw[List.length_set]at this;exact this
  rw[List.getElem?_set_self hl]at h;exact hX d (Option.some.inj h)
 rw[List.getElem?_set_ne (Ne.symm hj)]at h ⊢;exact⟨h,rfl⟩
theorem q9D{σ:St}{δ:List Sv}{i:Nat}{X:Sv}(hX:∀d,X ≠ .od d):∀(j:Nat) d,(δ.set i X)[j]? = some (.od d)->δ[j]? = some (.od d)/\σ[j]? = σ[j]?:=λj d h=>⟨(q4Q (σ:=σ) none hX j d h).1,rfl⟩
def itD:Option Addr×List Int->DV
 | (none,ns)=>.int (ns.headD 0)
 | (some _,ns)=>.lst (ns.map DV.int)
def itV:Option Addr×List Int->V
 | (none,ns)=>.int (ns.headD 0)
 | (some p,_)=>.ref p
def ItAt(H:Hp)(M:List (Option Addr×List Int)):Prop:=∀p ns,(some p,ns)∈M->H p=some (.lst (ns.map V.int))
def OtV(D:Dm)(Hs H:Hp)(d:DV)(ts:List V)(L:List Addr):Prop:=(∃p xs ds es us,d=.tup (.lst ds::es)/\ts=.ref p::us/\L=[p]/\H p=some (.lst xs)/\RepL D Hs ds xs/\RepL D Hs es us)\/∃M,d=.dct [] (M.map itD)/\ts=M.map itV/\L=M.filterMap (·.1)/\L.Nodup/\ItAt H M
def OtL(σ:St)(δ:List Sv)(H:Hp)(W L:List Addr):Prop:=∀p∈L,p∈W/\(∃xs,H p=some (.lst xs))/\∀(j:Nat) d',δ[j]? = some (.own d')->σ[j]? ≠ some (some (.ref p))
theorem OtV.mono{D:Dm}{Hs Hs' H H':Hp}{d:DV}{ts:List V}{L:List Addr}(h:OtV D Hs H d ts L)(e:Same Hs Hs')(f:∀p∈L,∀xs,H p=some (.lst xs)->H' p=some (.lst xs)):OtV D Hs' H' d ts L:=by
 rcases h with⟨p,xs,ds,es,us,e0,e1,e2,e3,e4,e5⟩ | ⟨M,e0,e1,e2,e3,e4⟩
 ·exact .inl ⟨p,xs,ds,es,us,e0,e1,e2,f p (by rw[e2];exact List.mem_singleton.mpr rfl) _ e3,e4.mono e,e5.mono e⟩
 ·exact .inr ⟨M,e0,e1,e2,e3,λp ns hm=>f p (by rw[e2];exact List.mem_filterMap.mpr ⟨_,hm,rfl⟩) _ (e4 p ns hm)⟩
structure RSt(D:Dm)(H:Hp)(σ:St)(δ:List Sv)(O W:List Addr):Prop where
 val:∀(i:Nat) d,δ[i]? = some (.val d)->∃v,σ[i]? = some (some v)/\Rep D (L2.wo (O++W) H) d v
 own:∀(i:Nat) d,δ[i]? = some (.own d)->∃a xs ds,d=.lst ds/\σ[i]? = some (some (.ref a))/\a∈W/\H a=some (.lst xs)/\RepL D (L2.wo (O++W) H) ds xs
 inj:∀(i j:Nat) a d d',δ[i]? = some (.own d)->δ[j]? = some (.own d')->σ[i]? = some (some (.ref a))->σ[j]? = some (some (.ref a))->i=j
 ot:∀(i:Nat) d,δ[i]? = some (.ot d)->(∃t ts L,σ[i]? = some (some (.ref t))/\SqT D.K (L2.wo (O++W) H) t ts/\OtV D (L2.wo (O++W) H) H d ts L/\OtL σ δ H W L)/\∀(j:Nat) d',δ[j]? = some (.ot d')->j=i
 o2:∀(i:Nat) d,δ[i]? = some (.o2 d)->(∃p L,d=o2D L/\σ[i]? = some (some (.ref p))/\O2At H W p L/\∀(j:Nat) d' a,δ[j]? = some (.own d')->σ[j]? = some (some (.ref a))->a∉p::L.map (·.1))/\(∀(j:Nat) d',δ[j]? = some (.o2 d')->j=i)/\∀(j:Nat) d',δ[j]? ≠ some (.ot d')
 od:OdAt H σ δ W
 len:σ.length=δ.length
 hid:Hid O W H H
theorem Hid.later{O W:List Addr}{H H':Hp}(h:Hid O W H H)(e:Same H H'):Hid O W H' H':=⟨λa ha q=>h.ot a ha (e.free q),Same.refl _,λa ha=>by obtain⟨xs,q,m⟩:=h.wl a ha;exact⟨xs,e _ _ q,m⟩,h.dj,h.omS e⟩
theorem RSt.mono{D:Dm}{H H':Hp}{σ:St}{δ:List Sv}{O W:List Addr}(R:RSt D H σ δ O W)(e:Same H H'):RSt D H' σ δ O W where
 val:=λi d h=>by obtain⟨v,e1,e2⟩:=R.val i d h;exact⟨v,e1,e2.mono e.wo⟩
 own:=λi ds h=>by obtain⟨a,xs,ds,e0,e1,e2,e3,e4⟩:=R.own i ds h;exact⟨a,xs,ds,e0,e1,e2,e _ _ e3,e4.mono e.wo⟩
 inj:=R.inj
 ot:=λi d h=>by obtain⟨⟨t,ts,L,e1,e2,e3,e4⟩,u⟩:=R.ot i d h;exact⟨⟨t,ts,L,e1,e.wo.tseq e2,e3.mono e.wo λp _ xs q=>e _ _ q,λp hp=>⟨(e4 p hp).1,(e4 p hp).2.1.imp λxs q=>e _ _ q,(e4 p hp).2.2⟩⟩,u⟩
 o2:=λi d h=>by obtain⟨⟨p,L,e0,e1,e2,e3⟩,u,n⟩:=R.o2 i d h;exact⟨⟨p,L,e0,e1,e2.mono e,e3⟩,u,n⟩
 od:=R.od.step (λj d h=>⟨h,rfl⟩) (λ_ h _=>h) (λa kvs _ h _=>e _ _ h)
 len:=R.len
 hid:=R.hid.later e
def Post(D:Dm)(E:St->XK)(σ:St)(O W:List Addr)(H0 H:Hp)(Q:VK):Re->Prop
 | .ok d c=>∀v H',Same H H'->Got D O W H0 H' d c v->Q v H'
 | .ex c=>∀H' C,D.mg c=some C->Same H H'->E σ C none H'
def dE(D:Dm)(E:St->XK)(δ:List Sv)(r:Re):TE:=λσ H Q=>∃O W,RSt D H σ δ O W/\Post D E σ O W H H Q r
def z8T(D:Dm)(E:St->XK)(σ:St)(O W:List Addr)(H0 H:Hp)(Q:List V->Hp->Prop):Rs->Prop
 | .ok l=>∀vs H',Same H H'->GotL D O W H0 H' l vs->Q vs H'
 | .ex c=>∀H' C,D.mg c=some C->Same H H'->E σ C none H'
def dA(D:Dm)(E:St->XK)(δ:List Sv)(r:Rs):TA:=λσ H Q=>∃O W,RSt D H σ δ O W/\z8T D E σ O W H H Q r
def z1S(D:Dm)(E:St->XK)(σ:St)(H:Hp)(Q:Bool->Hp->Prop):Rt->Prop
 | .ok b=>∀H',Same H H'->Q b H'
 | .ex c=>∀H' C,D.mg c=some C->Same H H'->E σ C none H'
def dT(D:Dm)(E:St->XK)(δ:List Sv)(r:Rt):TT:=λσ H Q=>∃O W,RSt D H σ δ O W/\z1S D E σ H Q r
theorem Post.step{D:Dm}{E:St->XK}{σ:St}{O W:List Addr}{H0 H H1:Hp}{Q:VK}{r:Re}(h:Post D E σ O W H0 H Q r)(e:Same H H1):Post D E σ O W H0 H1 Q r:=by
 cases r with
 | ok d c=>exact λv H' s g=>h v H' (e.trans s) g
 | ex c=>exact λH' C m s=>h H' C m (e.trans s)
theorem Post.later{D:Dm}{E:St->XK}{σ:St}{O W:List Addr}{H0 H H1:Hp}{Q:VK}{r:Re}(h:Post D E σ O W H0 H Q r)(e:Same H H1)(e0:Same H0 H1):Post D E σ O W H1 H1 Q r:=by
 cases r with
 | ok d c=>exact λv H' s g=>h v H' (e.trans s) (g.since e0)
 | ex c=>exact λH' C m s=>h H' C m (e.trans s)
theorem GotL.since{D:Dm}{O W:List Addr}{H0 H1 H:Hp}{l:List (DV×Cl)}{vs:List V}(h:GotL D O W H1 H l vs)(e:Same H0 H1):GotL D O W H0 H l vs:=by
 induction h with
 | nil=>exact .nil
 | cons g _ ih=>exact .cons (g.since e) ih
theorem z1S.later{D:Dm}{E:St->XK}{σ:St}{H H1:Hp}{Q:Bool->Hp->Prop}{r:Rt}(h:z1S D E σ H Q r)(e:Same H H1):z1S D E σ H1 Q r:=by
 cases r with
 | ok b=>exact λH' s=>h H' (e.trans s)
 | ex c=>exact λH' C m s=>h H' C m (e.trans s)
theorem PE.weak{X:Cx}{e:Expr}{t t':TE}(h:PE X e t)(k:∀σ H Q,t' σ H Q->t σ H Q):PE X e t':=λpins s σ H Q I q=>h pins s σ H Q I (k σ H Q q)
theorem PT.weak{X:Cx}{e:Expr}{t t':TT}(h:PT X e t)(k:∀σ H Q,t' σ H Q->t σ H Q):PT X e t':=λpins s σ H Q I q=>h pins s σ H Q I (k σ H Q q)
theorem PW.weak{X:Cx}{e:Expr}{t t':TT}(h:PW X e t)(k:∀σ H Q,t' σ H Q->t σ H Q):PW X e t':=λwhole pins s σ H Q I q=>h whole pins s σ H Q I (k σ H Q q)
theorem PA.weak{X:Cx}{e:List Expr}{t t':TA}(h:PA X e t)(k:∀σ H Q,t' σ H Q->t σ H Q):PA X e t':=λpos pins s σ H Q I q=>h pos pins s σ H Q I (k σ H Q q)
theorem PS.weak{X:Cx}{e:Stmt}{t t':TS}(h:PS X e t)(k:∀D σ H,t' D σ H->t D σ H):PS X e t':=λpins s σ H D I q=>h pins s σ H D I (k D σ H q)
theorem PSs.weak{X:Cx}{e:List Stmt}{t t':TS}(h:PSs X e t)(k:∀D σ H,t' D σ H->t D σ H):PSs X e t':=λpins s σ H D I q=>h pins s σ H D I (k D σ H q)
theorem q4Y{X:Cx}{e:Expr}:PW X e (λ_ _ _=>False):=λ_ _ _ _ _ _ _ h=>h.elim
theorem q1H{X:Cx}{e:Expr}:PE X e (λ_ _ _=>False):=λ_ _ _ _ _ _ h=>h.elim
theorem z4A{X:Cx}{e:List Expr}:PA X e (λ_ _ _=>False):=λ_ _ _ _ _ _ _ h=>h.elim
end L2
end
noncomputable section
namespace L2
open PySem PySem.Spec PyProof.Rows
theorem q2p{n:Nat}(h:n<=mostLen):n<=sizeLine:=Nat.le_trans h (by decide)
section
variable {X:Cx} {E:St->XK} {δ:List Sv} {a b c e:Expr} {es:List Expr}
theorem z2f{r:V->Hp->VK->Prop}{k:DV->Cl->Option Re}{ra:Option Re}{re:Re}(hop:∀ta,PE X a ta->PE X e (tUn r ta))(ha:∀q,ra=some q->PE X a (dE X.D E δ q))(h:Re.thn ra k=some re)
  (hr:∀O W H0 H x Q dx cx σ,k dx cx=some re->Hid O W H0 H->Got X.D O W H0 H dx cx x->Post X.D E σ O W H0 H Q re->r x H Q):PE X e (dE X.D E δ re):=by
 cases hra:ra with
 | none=>rw[hra]at h;cases h
 | some q=>
  rw[hra]at h;have A:=ha q hra;cases q with
  | ex c=>
   cases h;exact(hop _ A).weak λσ H Q ⟨O,W,R,p⟩=>⟨O,W,R,p⟩
  | ok dx cx=>
   have h':k dx cx=some re:=h;exact(hop _ A).weak λσ H Q ⟨O,W,R,p⟩=>⟨O,W,R,λx H1 s1 g1=>hr O W H H1 x Q dx cx σ h' (R.hid.mono s1) g1 (p.step s1)⟩
theorem q7l{r:R2}{k:DV->Cl->DV->Cl->Option Re}{ra rb:Option Re}{re:Re}(ha:∀q,ra=some q->PE X a (dE X.D E δ q))(hb:∀q,rb=some q->PE X b (dE X.D E δ q))
  (h:(Re.thn ra λx cx=>Re.thn rb λy cy=>k x cx y cy)=some re)
  (hr:∀O W H0 H x y Q dx cx dy cy σ,k dx cx dy cy=some re->Hid O W H0 H->Got X.D O W H0 H dx cx x->Got X.D O W H0 H dy cy y->Post X.D E σ O W H0 H Q re->r x y H Q) :
  ∃ta tb,PE X a ta/\PE X b tb/\∀σ H Q,dE X.D E δ re σ H Q->tOp r ta tb σ H Q:=by
 cases hra:ra with
 | none=>rw[hra]at h;cases h
 | some q=>
  rw[hra]at h;have A:=ha q hra;cases q with
  | ex c=>
   cases h;exact⟨_,_,A,q1H,λσ H Q ⟨O,W,R,p⟩=>⟨O,W,R,p⟩⟩
  | ok dx cx=>
   have h':(Re.thn rb λy cy=>k dx cx y cy)=some re:=h;cases hrb:rb with
   | none=>rw[hrb]at h';cases h'
   | some q=>
    rw[hrb]at h';have B:=hb q hrb;cases q with
    | ex c=>
     cases h';exact⟨_,_,A,B,λσ H Q ⟨O,W,R,p⟩=>⟨O,W,R,λx H1 s1 g1=>⟨O,W,R.mono s1,λH' C m s=>p H' C m (s1.trans s)⟩⟩⟩
    | ok dy cy=>
     have h2:k dx cx dy cy=some re:=h';exact⟨_,_,A,B,λσ H Q ⟨O,W,R,p⟩=>⟨O,W,R,λx H1 s1 g1=>⟨O,W,R.mono s1,λy H2 s2 g2=>
      hr O W H H2 x y Q dx cx dy cy σ h2 ((R.hid.mono s1).mono s2) (g1.mono s2) (g2.since s1) (p.step (s1.trans s2))⟩⟩⟩
theorem q8C{r:R2}{k:DV->Cl->DV->Cl->Option Re}{ra rb:Option Re}{re:Re}(hop:∀ta tb,PE X a ta->PE X b tb->PE X e (tOp r ta tb))(ha:∀q,ra=some q->PE X a (dE X.D E δ q))(hb:∀q,rb=some q->PE X b (dE X.D E δ q))
  (h:(Re.thn ra λx cx=>Re.thn rb λy cy=>k x cx y cy)=some re)
  (hr:∀O W H0 H x y Q dx cx dy cy σ,k dx cx dy cy=some re->Hid O W H0 H->Got X.D O W H0 H dx cx x->Got X.D O W H0 H dy cy y->Post X.D E σ O W H0 H Q re->r x y H Q):PE X e (dE X.D E δ re):=by
 obtain⟨ta,tb,A,B,q⟩:=q7l ha hb h hr;exact(hop _ _ A B).weak q
theorem q3M{r:List V->Hp->VK->Prop}{k:List (DV×Cl)->Option Re}{ra:Option Rs}{re:Re}(hop:∀t,PA X es t->PE X e (tCB r t))(ha:∀q,ra=some q->PA X es (dA X.D E δ q))(h:Rs.thn ra k=some re)
  (hr:∀O W H0 H vs Q l σ,k l=some re->Hid O W H0 H->GotL X.D O W H0 H l vs->Post X.D E σ O W H0 H Q re->r vs H Q):PE X e (dE X.D E δ re):=by
 cases hra:ra with
 | none=>rw[hra]at h;cases h
 | some q=>
  rw[hra]at h;have A:=ha q hra;cases q with
  | ex c=>
   cases h;exact(hop _ A).weak λσ H Q ⟨O,W,R,p⟩=>⟨O,W,R,p⟩
  | ok l=>
   have h':k l=some re:=h;exact(hop _ A).weak λσ H Q ⟨O,W,R,p⟩=>⟨O,W,R,λvs H1 s1 g1=>hr O W H H1 vs Q l σ h' (R.hid.mono s1) g1 (p.step s1)⟩
end
theorem q6A{D:Dm}{H:Hp}:∀{L:List (Addr×List Int)},(∀q∈L,H q.1=some (.lst (q.2.map V.int)))->RepL D H (L.map λq=>.lst (q.2.map DV.int)) (L.map λq=>.ref q.1)
 | [],_=>q0t.mpr rfl
 | q::L,h=>q0h.mpr ⟨_,_,rfl,q0z.mpr ⟨q.1,_,rfl,h q (List.mem_cons_self ..),q1B _⟩,q6A λq' hq=>h q' (List.mem_cons_of_mem _ hq)⟩
theorem q5B{D:Dm}{H:Hp}:∀{M:List (Option Addr×List Int)},ItAt H M->RepL D H (M.map itD) (M.map itV)
 | [],_=>q0t.mpr rfl
 | (none,ns)::M,h=>q0h.mpr ⟨_,_,rfl,q0J.mpr rfl,q5B λp ns hm=>h p ns (List.mem_cons_of_mem _ hm)⟩
 | (some q,ns)::M,h=>q0h.mpr ⟨_,_,rfl,q0z.mpr ⟨q,_,rfl,h q ns (List.mem_cons_self ..),q1B _⟩,q5B λp ns hm=>h p ns (List.mem_cons_of_mem _ hm)⟩
section
variable {X:Cx} {E:St->XK} {δ:List Sv} {pos:Pos}
theorem z2Z{i:Nat}{x:Str}{r:Re}(hN:X.N[i]? = some x)(hv:Vis X.env.scope x)(hd:(x==("__debug__" : Str))=false)(hcd:(x==("__classdict__" : Str))=false)
  (h:(match δ[i]? with | some (.val d)=>some (Re.ok d .strong) | some (.own d)=>some (.ok d .top) | some (.ot d)=>some (.ok (otD d) .weak) | some (.o2 d)=>some (.ok d .weak) | _=>none)=some r):PE X (.Name x pos) (dE X.D E δ r):=
 (q4z hN hv hd hcd).weak λσ H Q ⟨O,W,R,p⟩=>by
  split at h
  ·rename_i d q;cases h;obtain⟨v,e1,e2⟩:=R.val i d q;exact⟨v,e1,p v H (Same.refl H) e2⟩
  ·rename_i d q;cases h;obtain⟨a,xs,ds,e0,e1,e2,e3,e4⟩:=R.own i d q;subst e0;refine⟨.ref a,e1,p _ H (Same.refl H) ⟨a,xs,rfl,e2,?_,e4⟩⟩;rw[q0o (R.hid.dj a e2)];exact e3
  ·rename_i d q;cases h;obtain⟨⟨t,ts,L,e1,e2,e3,e4⟩,_⟩:=R.ot i d q;have up:Same (L2.wo (O++W) H) (L2.wo O H):=q0I q6p;refine⟨.ref t,e1,p _ H (Same.refl H) ?_⟩;rcases e3 with⟨p1,xs,ds,es,us,f0,f1,f2,f3,f4,f5⟩ | ⟨M,f0,f1,f2,f3,f4⟩
   ·subst f0 f1 f2;exact(q0G.mpr ⟨t,_,rfl,up.tseq e2,q0h.mpr ⟨_,_,rfl,q0z.mpr ⟨p1,xs,rfl,by rw[q0o (R.hid.dj p1 (e4 p1 (List.mem_singleton.mpr rfl)).1)];exact f3,f4.mono up⟩,f5.mono up⟩⟩:Rep X.D (L2.wo O H) (.tup (.lst ds::es)) (.ref t))
   ·subst f0 f1 f2;exact(q0G.mpr ⟨t,_,rfl,up.tseq e2,q5B λp ns hm=>by rw[q0o (R.hid.dj p (e4 p (List.mem_filterMap.mpr ⟨_,hm,rfl⟩)).1)];exact f4 p ns hm⟩:Rep X.D (L2.wo O H) (.tup (M.map itD)) (.ref t))
  ·rename_i d q;cases h;obtain⟨⟨a,L,e0,e1,e2,_⟩,_,_⟩:=R.o2 i d q;subst e0;refine⟨.ref a,e1,p _ H (Same.refl H) (q0z.mpr ⟨a,_,rfl,by rw[q0o (R.hid.dj a e2.1)];exact e2.2.1,?_⟩:Rep X.D (L2.wo O H) (o2D L) (.ref a))⟩;exact q6A λq hq=>by rw[q0o (R.hid.dj q.1 (e2.2.2.1 q hq).1)];exact(e2.2.2.1 q hq).2
  ·cases h
theorem z3L{i:Int}{j:Nat}:PE X (.Constant (.int i) j pos) (dE X.D E δ (.ok (.int i) .strong)):=z0z.weak λσ H Q ⟨O,W,R,p⟩=>p _ H (Same.refl H) q0y
theorem z7s{i:Bool}{j:Nat}:PE X (.Constant (.bool i) j pos) (dE X.D E δ (.ok (.bl i) .strong)):=z7L.weak λσ H Q ⟨O,W,R,p⟩=>p _ H (Same.refl H) q3c
theorem z2Y{i:Str}{j:Nat}(h:i.length<=sizeLine):PE X (.Constant (.str i) j pos) (dE X.D E δ (.ok (.str i) .strong)):=z5n.weak λσ H Q ⟨O,W,R,p⟩=>p _ H (Same.refl H) (q2B.mpr ⟨rfl,h⟩:Rep X.D (L2.wo (O++W) H) (.str i) (.str i))
theorem z4W{j:Nat}:PE X (.Constant .none j pos) (dE X.D E δ (.ok .non .strong)):=z7c.weak λσ H Q ⟨O,W,R,p⟩=>p _ H (Same.refl H) z4M
end
section
variable {X:Cx} {E:St->XK} {δ:List Sv} {a b c e:Expr} {pos:Pos} {ra rb:Option Re} {re:Re}
theorem q9O{O W:List Addr}{H0 H:Hp}{C:Int->Int->Prop}{g:Int->Int->V}{x y:V}{Q:VK}{i j:Int}{ca cb:Cl}{D:Dm}(hd:Hid O W H0 H)(gx:Got D O W H0 H (.int i) ca x)(gy:Got D O W H0 H (.int j) cb y)(hc:C i j)(q:Q (g i j) H):rI C g x y H Q:=
 ⟨i,j,gx.int hd,gy.int hd,hc,q⟩
theorem q5Q{O W:List Addr}{H0 H:Hp}{g:Int->Int->V}{x y:V}{Q:VK}{i j:Int}{ca cb:Cl}{D:Dm}(hd:Hid O W H0 H)(gx:Got D O W H0 H (.int i) ca x)(gy:Got D O W H0 H (.int j) cb y)(q:Q (g i j) H):rI0 g x y H Q:=
 ⟨i,j,gx.int hd,gy.int hd,q⟩
theorem z4z{ca cb:Cl}(h:ca ≠ .weak)(h':cb ≠ .weak):Cl.anew ca cb=.fresh:=by
 cases ca<;>cases cb<;>first | rfl | exact absurd rfl h | exact absurd rfl h'
def z1u(i j:Int):Prop:=CMul i j\/(i.natAbs<2^2000/\j.natAbs<2^2000)
theorem q9N{i:Int}{n:Nat}(h:i.natAbs<2^n):Builtin.Int.intBits i<=n:=by
 unfold Builtin.Int.intBits;by_cases hi:i=0
 ·subst hi;exact Nat.zero_le n
 ·rw[if_neg (by simpa using hi)];have:i.natAbs≠0:=λz=>hi (Int.natAbs_eq_zero.mp z)
  exact(Nat.log2_lt this).mpr h
theorem z1u.ok{i j:Int}(h:z1u i j):IntMulOk i j:=by
 rcases h with h | ⟨h1,h2⟩
 ·exact h.ok
 ·unfold IntMulOk;have b1:=q9N h1;have b2:=q9N h2;have:Builtin.Int.intTooBig ((Builtin.Int.intBits i:Int)+(Builtin.Int.intBits j:Int))=false:=by
   unfold Builtin.Int.intTooBig;rw[decide_eq_false];have:((bitsLine:Nat):Int)=134217728:=by decide
   omega
  rw[this,Bool.and_false];exact Bool.false_ne_true
theorem z3p:OpR X (binaryOp .Mult) (rI z1u λi j=>.int (i*j)):=opI λ_ _ _ _ _ _ _ hc q=>mul_int q hc.ok
theorem z1y:OpR X (binaryOp .FloorDiv) (rI (λ_ j=>0<j/\j<2^200) λi j=>.int (i/j)):=opI λi j _ _ _ _ _ hc q=>by
 have h1:(0:Int)<j:=hc.1;have h2:j.natAbs<2^200:=by have:=hc.2;omega
 refine floordiv_int (by omega) (by rw[Int.fdiv_eq_ediv_of_nonneg i (by omega)];exact q) (.inl (PyProof.noPylong_of_log2 ?_));exact Nat.lt_of_lt_of_le ((Nat.log2_lt (by omega)).mpr h2) (by decide)
def binR(X:Cx):Operator->R2
 | .Add=>λx y H Q=>rI0 (λi j=>.int (i+j)) x y H Q\/rCat x y H Q
 | .Sub=>rI0 λi j=>.int (i - j)
 | .Mult=>λx y H Q=>rI z1u (λi j=>.int (i*j)) x y H Q\/rRep x y H Q
 | .Mod=>rI (λ_ j=>0<j) λi j=>.int (i%j)
 | .FloorDiv=>rI (λ_ j=>0<j/\j<2^200) λi j=>.int (i/j)
 | .LShift=>rI CPow λi j=>.int (i*2^j.toNat)
 | .RShift=>rI (λ_ j=>0<=j) λi j=>.int (i/2^j.toNat)
 | .BitAnd=>rI0 λi j=>.int (Builtin.bitAnd i j)
 | .BitOr=>rI0 λi j=>.int (Builtin.bitOr i j)
 | .BitXor=>rI0 λi j=>.int (Builtin.bitXor i j)
 | _=>λ_ _ _ _=>False
theorem z6F{op:Operator}:OpR X (binaryOp op) (binR X op):=by
 cases op with
 | Add=>exact z5G.or z6k
 | Sub=>exact z6T
 | Mult=>exact z3p.or z5P
 | Mod=>exact z6C
 | FloorDiv=>exact z1y
 | LShift=>exact z6o
 | RShift=>exact z6E
 | BitAnd=>exact z6Z
 | BitOr=>exact z8U
 | BitXor=>exact z5o
 | MatMult=>exact λ_ _ _ _ _ _ _ _ _ _ _ _ h=>h.elim
 | Div=>exact λ_ _ _ _ _ _ _ _ _ _ _ _ h=>h.elim
 | Pow=>exact λ_ _ _ _ _ _ _ _ _ _ _ _ h=>h.elim
theorem z6J{O W:List Addr}{H0 H:Hp}{op:Operator}{x y:V}{dx dy:DV}{cx cy:Cl}{Q:VK}{σ:St}(h:binD op dx dy cx cy=some re)(hd:Hid O W H0 H)(gx:Got X.D O W H0 H dx cx x)(gy:Got X.D O W H0 H dy cy y)
  (p:Post X.D E σ O W H0 H Q re):binR X op x y H Q:=by
 unfold binD at h;split at h
 ·cases h;exact .inl (q5Q hd gx gy (p _ H (Same.refl H) q0y))
 ·cases h;exact q5Q hd gx gy (p _ H (Same.refl H) q0y)
 ·split at h
  ·rename_i m;cases h;refine .inl (q9O hd gx gy ?_ (p _ H (Same.refl H) q0y));unfold q2Z at m;simp only[Bool.or_eq_true,Bool.and_eq_true,decide_eq_true_eq]at m;exact m
  ·cases h
 ·split at h
  ·rename_i m;cases h;exact q9O hd gx gy m (p _ H (Same.refl H) q0y)
  ·cases h
 ·split at h
  ·rename_i m;cases h;exact q9O hd gx gy m (p _ H (Same.refl H) q0y)
  ·cases h
 ·split at h
  ·rename_i m;cases h;exact q9O hd gx gy m (p _ H (Same.refl H) q0y)
  ·cases h
 ·split at h
  ·rename_i m;cases h;exact q9O hd gx gy m (p _ H (Same.refl H) q0y)
  ·cases h
 ·cases h;exact q5Q hd gx gy (p _ H (Same.refl H) q0y)
 ·cases h;exact q5Q hd gx gy (p _ H (Same.refl H) q0y)
 ·cases h;exact q5Q hd gx gy (p _ H (Same.refl H) q0y)
 ·rename_i xs ys;split at h
  ·rename_i m;cases h;by_cases hw:cx ≠ .weak/\cy ≠ .weak
   ·obtain⟨l1,v1,e1,k1,r1⟩:=gx.items hd hw.1;obtain⟨l2,v2,e2,k2,r2⟩:=gy.items hd hw.2;refine .inr (⟨l1,l2,v1,v2,e1,e2,k1,k2,by rw[r1.length,r2.length];exact q2p m,λq hq=>p _ _ (q0p hq) ?_⟩);rw[z4z hw.1 hw.2];exact q1P hd hq (r1.append r2)
   ·obtain⟨l1,v1,e1,k1,r1⟩:=gx.lst hd;obtain⟨l2,v2,e2,k2,r2⟩:=gy.lst hd;refine .inr (⟨l1,l2,v1,v2,e1,e2,k1,k2,by rw[r1.length,r2.length];exact q2p m,λq hq=>p _ _ (q0p hq) ?_⟩);have:Cl.anew cx cy=.weak:=(by cases cx<;>cases cy<;>first | rfl | exact absurd ⟨(by intro z;cases z),(by intro z;cases z)⟩ hw);rw[this];exact q5x hd hq (r1.append r2)
  ·cases h
 ·rename_i xs k;split at h
  ·rename_i m;cases h;obtain⟨l1,v1,e1,k1,r1⟩:=gx.lstC hd;refine .inr ⟨l1,k,v1,e1,gy.int hd,k1,m.2.1,m.2.2,by rw[r1.length];exact q2p m.1,λq hq=>p _ _ (q0p hq) (q3R hd hq (r1.rep _))⟩
  ·cases h
 ·cases h
theorem z3f{op:Operator}(ha:∀q,ra=some q->PE X a (dE X.D E δ q))(hb:∀q,rb=some q->PE X b (dE X.D E δ q))(h:(Re.thn ra λx cx=>Re.thn rb λy cy=>binD op x y cx cy)=some re):PE X (.BinOp a op b pos) (dE X.D E δ re):=
 q8C (λ_ _=>z8t z6F) ha hb h λO W H0 H x y Q dx cx dy cy σ k hd gx gy p=>z6J k hd gx gy p
theorem z2T(ha:∀q,ra=some q->PE X a (dE X.D E δ q))(h:(Re.thn ra λx _=>match x with | .int i=>some (.ok (.int (-i)) .strong) | _=>none)=some re):PE X (.UnaryOp .USub a pos) (dE X.D E δ re):=
 z2f (λ_=>z8z z5S) ha h λO W H0 H x Q dx cx σ k hd gx p=>by
  split at k
  ·cases k;exact⟨_,gx.int hd,p _ H (Same.refl H) q0y⟩
  ·cases k
theorem z6s{ds:List DV}{i:Int}:atD ds i=L2.atI ds i:=rfl
theorem RepL.atI{D:Dm}{H:Hp}{ds:List DV}{xs:List V}{i:Int}{d:DV}(h:RepL D H ds xs)(e:atD ds i=some d):∃v,L2.atI xs i=some v/\Rep D H d v:=by
 rw[z6s]at e;unfold L2.atI at e ⊢;rw[h.length];cases q:ixN ds.length i with
 | none=>rw[q]at e;cases e
 | some j=>
  rw[q]at e;exact h.get e
theorem z8O{O W:List Addr}{H0 H:Hp}{x y:V}{dx dy:DV}{cx cy:Cl}{Q:VK}{σ:St}(h:((ixD dx dy).map λd=>Re.ok d cx.item)=some re)(hd:Hid O W H0 H)(gx:Got X.D O W H0 H dx cx x)(gy:Got X.D O W H0 H dy cy y)
  (p:Post X.D E σ O W H0 H Q re):rIx X.K x y H Q:=by
 obtain⟨d,h1,h2⟩:=Option.map_eq_some_iff.mp h;cases h2;unfold ixD at h1;split at h1
 ·rename_i ns i;obtain⟨a,e1,e2⟩:=q1R.mp (gx.all hd);obtain⟨n,h3,h4⟩:=Option.map_eq_some_iff.mp h1;cases h4;have q:L2.atI (ns.map V.int) i=some (.int n):=by
   unfold L2.atI;rw[List.length_map];have h3':((ixN ns.length i).bind λj=>ns[j]?)=some n:=h3;cases z:ixN ns.length i with
   | none=>rw[z]at h3';cases h3'
   | some j=>
    rw[z]at h3';have h5:ns[j]? = some n:=h3';show(ns.map V.int)[j]? = _;rw[List.getElem?_map,h5];rfl
  refine .inl ⟨a,_,i,_,e1,gy.int hd,e2.sq,q,p _ H (Same.refl H) ?_⟩;cases cx<;>exact q0y
 ·obtain⟨a,xs,e1,e2,e3⟩:=gx.lstC hd;obtain⟨v,q1,q2⟩:=e3.atI h1;exact .inl ⟨a,xs,_,v,e1,gy.int hd,SqL.of e2,q1,p _ H (Same.refl H) (Got.item q2)⟩
 ·obtain⟨a,xs,e1,e2,e3⟩:=gx.tupC hd;obtain⟨v,q1,q2⟩:=e3.atI h1;exact .inr (.inl ⟨a,xs,_,v,e1,gy.int hd,e2,q1,p _ H (Same.refl H) (Got.item q2)⟩)
 ·rename_i z i;obtain⟨e1,e2⟩:=gx.str hd;cases q:q2s z.cps.size i with
  | none=>rw[q]at h1;cases h1
  | some j=>
   rw[q]at h1;obtain⟨ch,h3,h4⟩:=Option.map_eq_some_iff.mp (show((z.cps[j]?).map λc=>DV.str ⟨#[c]⟩)=some d from h1);cases h4;refine .inr (.inr ⟨z,i,ch,e1,gy.int hd,e2,?_,p _ H (Same.refl H) ?_⟩)
   ·unfold L2.atI;have:ixN z.cps.toList.length i=some j:=by rw[Array.length_toList];exact q
    rw[this];show z.cps.toList[j]? = some ch;rw[Array.getElem?_toList];exact h3
   ·have one:Rep X.D (L2.wo (O++W) H) (.str ⟨#[ch]⟩) (.str ⟨#[ch]⟩):=q2B.mpr ⟨rfl,by show(1:Nat)<=sizeLine;decide⟩;have one':Rep X.D (L2.wo O H) (.str ⟨#[ch]⟩) (.str ⟨#[ch]⟩):=q2B.mpr ⟨rfl,by show(1:Nat)<=sizeLine;decide⟩;cases cx<;>first | exact one | exact one'
 ·cases h1
theorem z7w(ha:∀q,ra=some q->PE X a (dE X.D E δ q))(hb:∀q,rb=some q->PE X b (dE X.D E δ q))(hs:q5v b=false)(h:(Re.thn ra λx cx=>Re.thn rb λy _=>(ixD x y).map λd=>.ok d cx.item)=some re):PE X (.Subscript a b pos) (dE X.D E δ re):=
 q8C (λ_ _ h1 h2=>z3B z7z h1 h2 (by cases b<;>first | (intro _ _;rfl) | cases hs)) ha hb h λO W H0 H x y Q dx cx dy cy σ k hd gx gy p=>z8O k hd gx gy p
theorem q5u(n d:Nat)(o:Option Int):slIx n d o=HT.sIx n d o:=by cases o<;>rfl
theorem RepL.cut{D:Dm}{H:Hp}{ds:List DV}{xs:List V}(h:RepL D H ds xs)(lo hi:Option Int):RepL D H (cutD ds lo hi) (cutV xs lo hi):=by
 unfold cutD cutV;rw[q5u,q5u,←h.length];exact(h.drop _).take _
theorem z5f{O W:List Addr}{H0 H:Hp}{x:V}{dx:DV}{cx:Cl}{Q:VK}{σ:St}{lo hi:Option Int}(h:((slD dx lo hi).map λd=>Re.ok d (slCl dx cx))=some re)(hd:Hid O W H0 H)(gx:Got X.D O W H0 H dx cx x)
  (p:Post X.D E σ O W H0 H Q re):rSlL X.K x lo hi H Q\/rSlT X.K x lo hi H Q:=by
 obtain⟨d,h1,h2⟩:=Option.map_eq_some_iff.mp h;cases h2;unfold slD at h1;split at h1
 ·rename_i ns;cases h1;obtain⟨a,e1,e2⟩:=q1R.mp (gx.all hd);exact .inl ⟨a,_,e1,e2.sq,λq hq=>p _ _ (q0p hq) (q1P hd hq ((q1B ns).cut lo hi))⟩
 ·cases h1;obtain⟨a,xs,e1,e2,e3⟩:=gx.lstC hd;exact .inl ⟨a,xs,e1,SqL.of e2,λq hq=>p _ _ (q0p hq) (q3R hd hq (e3.cut lo hi))⟩
 ·rename_i ds;split at h1
  ·cases h1
  ·rename_i m;cases h1;obtain⟨a,xs,e1,e2,e3⟩:=gx.tupC hd;refine .inr ⟨a,xs,e1,e2,?_,λq hq=>p _ _ (q0p hq) (q7K hd hq (e3.cut lo hi))⟩;rw[q5u,q5u,←e3.length]at m;exact m
 ·cases h1
theorem q4h:SlR X (λx lo hi H Q=>rSlL X.K x lo hi H Q\/rSlT X.K x lo hi H Q):=z3s.or z6x
theorem q7n{i:Int}{cl:Cl}(h:PE X b (dE X.D E δ (.ok (.int i) cl))):PO X (some b) (λσ H Q=>∃O W,RSt X.D H σ δ O W/\∀H',Same H H'->Q (some i) H'):=λpins s σ H Q I ⟨O,W,R,p⟩=>
 z0x h pins s σ H Q I ⟨O,W,R,λv H' s1 g=>⟨i,g.int (R.hid.mono s1),p H' s1⟩⟩
theorem z2O{c:Str}(h:PE X b (dE X.D E δ (.ex c))):PO X (some b) (λσ H Q=>∃O W,RSt X.D H σ δ O W/\Post X.D E σ O W H H (λ_ _=>False) (.ex c)):=λpins s σ H Q I ⟨O,W,R,p⟩=>
 z0x h pins s σ H Q I ⟨O,W,R,p⟩
theorem q3Q{o:Option Expr}:PO X o (λ_ _ _=>False):=λ_ _ _ _ _ _ h=>h.elim
theorem z4P{p2:Pos}(ha:∀q,ra=some q->PE X a (dE X.D E δ q))(hb:∀q,rb=some q->PE X b (dE X.D E δ q))(h:(Re.thn ra λx cx=>Re.thn rb λl _=>match l with
  | .int l=>(slD x none (some l)).map λd=>.ok d (slCl x cx) | _=>none)=some re):PE X (.Subscript a (.Slice none (some b) none p2) pos) (dE X.D E δ re):=by
 cases hra:ra with
 | none=>rw[hra]at h;cases h
 | some q=>
  rw[hra]at h;have A:=ha q hra;cases q with
  | ex c=>cases h;exact(q2h q4h A q6J q3Q).weak λσ H Q ⟨O,W,R,p⟩=>⟨O,W,R,p⟩
  | ok dx cx=>
   cases hrb:rb with
   | none=>rw[hrb]at h;cases h
   | some q=>
    rw[hrb]at h;have B:=hb q hrb;cases q with
    | ex c=>cases h;exact(q2h q4h A q6J (z2O B)).weak λσ H Q ⟨O,W,R,p⟩=>⟨O,W,R,λx H1 s1 g1=>⟨O,W,R.mono s1,λH' C m s=>p H' C m (s1.trans s)⟩⟩
    | ok dy cy=>
     have h':(match(generalizing:=false) dy with | .int l=>(slD dx none (some l)).map λd=>Re.ok d (slCl dx cx) | _=>none)=some re:=h;split at h'
     ·rename_i l;exact(q2h q4h A q6J (q7n B)).weak λσ H Q ⟨O,W,R,p⟩=>⟨O,W,R,λx H1 s1 g1=>⟨O,W,R.mono s1,λH2 s2=>z5f h' ((R.hid.mono s1).mono s2) (g1.mono s2) (p.step (s1.trans s2))⟩⟩
     ·cases h'
theorem z6n{p2:Pos}{rc:Option Re}(ha:∀q,ra=some q->PE X a (dE X.D E δ q))(hb:∀q,rb=some q->PE X b (dE X.D E δ q))(hc:∀q,rc=some q->PE X c (dE X.D E δ q))(h:(Re.thn ra λx cx=>Re.thn rb λl _=>match l with
  | .int l=>Re.thn rc λu _=>(match u with
   | .int u=>(slD x (some l) (some u)).map λd=>.ok d (slCl x cx) | _=>none) | _=>none)=some re):PE X (.Subscript a (.Slice (some b) (some c) none p2) pos) (dE X.D E δ re):=by
 cases hra:ra with
 | none=>rw[hra]at h;cases h
 | some q=>
  rw[hra]at h;have A:=ha q hra;cases q with
  | ex c=>cases h;exact(q2h q4h A q3Q q3Q).weak λσ H Q ⟨O,W,R,p⟩=>⟨O,W,R,p⟩
  | ok dx cx=>
   cases hrb:rb with
   | none=>rw[hrb]at h;cases h
   | some q=>
    rw[hrb]at h;have B:=hb q hrb;cases q with
    | ex c=>cases h;exact(q2h q4h A (z2O B) q3Q).weak λσ H Q ⟨O,W,R,p⟩=>⟨O,W,R,λx H1 s1 g1=>⟨O,W,R.mono s1,λH' C m s=>p H' C m (s1.trans s)⟩⟩
    | ok dy cy=>
     have h':(match(generalizing:=false) dy with | .int l=>Re.thn rc λu _=>(match u with | .int u=>(slD dx (some l) (some u)).map λd=>Re.ok d (slCl dx cx) | _=>none) | _=>none)=some re:=h;split at h'
     ·rename_i l;cases hrc:rc with
      | none=>rw[hrc]at h';cases h'
      | some q=>
       rw[hrc]at h';have C:=hc q hrc;cases q with
       | ex c'=>
        cases h';exact(q2h q4h A (q7n B) (z2O C)).weak λσ H Q ⟨O,W,R,p⟩=>⟨O,W,R,λx H1 s1 g1=>⟨O,W,R.mono s1,λH2 s2=>⟨O,W,(R.mono s1).mono s2,λH' C m s=>p H' C m (s1.trans (s2.trans s))⟩⟩⟩
       | ok dz cz=>
        have h2:(match(generalizing:=false) dz with | .int u=>(slD dx (some l) (some u)).map λd=>Re.ok d (slCl dx cx) | _=>none)=some re:=h';split at h2
        ·rename_i u;exact(q2h q4h A (q7n B) (q7n C)).weak λσ H Q ⟨O,W,R,p⟩=>⟨O,W,R,λx H1 s1 g1=>⟨O,W,R.mono s1,λH2 s2=>⟨O,W,(R.mono s1).mono s2,λH3 s3=>z5f h2 (((R.hid.mono s1).mono s2).mono s3) ((g1.mono s2).mono s3) (p.step (s1.trans (s2.trans s3)))⟩⟩⟩
        ·cases h2
     ·cases h'
end
end L2
end
noncomputable section
namespace L2
open PySem PySem.Spec PyProof.Rows
mutual
def toP:DV->PyData
 | .non=>.none | .bl b=>.bool b | .int i=>.int i | .str x=>.str x
 | .tup ds=>.tuple (toPs ds) | .lst ds=>.list (toPs ds)
 | _=>.none
def toPs:List DV->List PyData
 | []=>[]
 | d::r=>toP d::toPs r
end
mutual
theorem q5f:∀(n m:Nat) (d e:DV),d.plain n=true->e.plain m=true->PyData.eqv (toP d) (toP e)=deq d e
 | n,m,.non,e,_,h=>by cases e<;>first | (cases m<;>simp[DV.plain]at h;done) | (simp only[toP,PyData.eqv,deq])
 | n,m,.bl _,e,_,h=>by cases e<;>first | (cases m<;>simp[DV.plain]at h;done) | (simp only[toP,PyData.eqv,deq])
 | n,m,.int _,e,_,h=>by cases e<;>first | (cases m<;>simp[DV.plain]at h;done) | (simp only[toP,PyData.eqv,deq])
 | n,m,.str x,e,_,h=>by
  cases e with
  | str y=>simp only[toP,PyData.eqv,deq];rfl
  | non=>simp only[toP,PyData.eqv,deq]
  | bl _=>simp only[toP,PyData.eqv,deq]
  | int _=>simp only[toP,PyData.eqv,deq]
  | tup _=>simp only[toP,PyData.eqv,deq]
  | lst _=>simp only[toP,PyData.eqv,deq]
  | dct _ _=>cases m<;>simp[DV.plain]at h
  | exc _=>cases m<;>simp[DV.plain]at h
  | fn _=>cases m<;>simp[DV.plain]at h
  | scr _=>cases m<;>simp[DV.plain]at h
 | 0,_,.tup _,_,h,_=>by simp[DV.plain]at h
 | 0,_,.lst _,_,h,_=>by simp[DV.plain]at h
 | n+1,m,.tup ds,e,h,h'=>by
  cases e with
  | tup es=>
   cases m with
   | zero=>simp[DV.plain]at h'
   | succ m=>
    simp only[toP,PyData.eqv,deq];exact q5n n m ds es (by simpa[DV.plain]using h) (by simpa[DV.plain]using h')
  | non=>simp only[toP,PyData.eqv,deq]
  | bl _=>simp only[toP,PyData.eqv,deq]
  | int _=>simp only[toP,PyData.eqv,deq]
  | str _=>simp only[toP,PyData.eqv,deq]
  | lst _=>simp only[toP,PyData.eqv,deq]
  | dct _ _=>cases m<;>simp[DV.plain]at h'
  | exc _=>cases m<;>simp[DV.plain]at h'
  | fn _=>cases m<;>simp[DV.plain]at h'
  | scr _=>cases m<;>simp[DV.plain]at h'
 | n+1,m,.lst ds,e,h,h'=>by
  cases e with
  | lst es=>
   cases m with
   | zero=>simp[DV.plain]at h'
   | succ m=>
    simp only[toP,PyData.eqv,deq];exact q5n n m ds es (by simpa[DV.plain]using h) (by simpa[DV.plain]using h')
  | non=>simp only[toP,PyData.eqv,deq]
  | bl _=>simp only[toP,PyData.eqv,deq]
  | int _=>simp only[toP,PyData.eqv,deq]
  | str _=>simp only[toP,PyData.eqv,deq]
  | tup _=>simp only[toP,PyData.eqv,deq]
  | dct _ _=>cases m<;>simp[DV.plain]at h'
  | exc _=>cases m<;>simp[DV.plain]at h'
  | fn _=>cases m<;>simp[DV.plain]at h'
  | scr _=>cases m<;>simp[DV.plain]at h'
 | n,_,.dct _ _,_,h,_=>by cases n<;>simp[DV.plain]at h
 | n,_,.exc _,_,h,_=>by cases n<;>simp[DV.plain]at h
 | n,_,.fn _,_,h,_=>by cases n<;>simp[DV.plain]at h
 | n,_,.scr _,_,h,_=>by cases n<;>simp[DV.plain]at h
theorem q5n:∀(n m:Nat) (ds es:List DV),DV.plains n ds=true->DV.plains m es=true->PyData.eqvAll (toPs ds) (toPs es)=deqs ds es
 | _,_,[],[],_,_=>by simp only[toPs,PyData.eqvAll,deqs]
 | _,_,[],_::_,_,_=>by simp only[toPs,PyData.eqvAll,deqs]
 | _,_,_::_,[],_,_=>by simp only[toPs,PyData.eqvAll,deqs]
 | n,m,d::ds,e::es,h,h'=>by simp only[DV.plains,Bool.and_eq_true]at h h';simp only[toPs,PyData.eqvAll,deqs,q5f n m d e h.1 h'.1,q5n n m ds es h.2 h'.2]
end
mutual
theorem q5D:∀(n:Nat) (d:DV),d.plain n=true->(toP d).canLay0=true/\(toP d).depth<=n
 | n,.non,_=>by simp[toP,PyData.canLay0,PyData.depth]
 | n,.bl _,_=>by simp[toP,PyData.canLay0,PyData.depth]
 | n,.int _,_=>by simp[toP,PyData.canLay0,PyData.depth]
 | n,.str x,h=>by
  have h':(x.cps.all (· < 0x110000))=true:=by cases n<;>simpa[DV.plain]using h
  simp only[toP,PyData.canLay0,PyData.depth];exact⟨h',Nat.zero_le _⟩
 | 0,.tup _,h=>by simp[DV.plain]at h
 | 0,.lst _,h=>by simp[DV.plain]at h
 | n+1,.tup ds,h=>by have q:=q3l n ds (by simpa[DV.plain]using h);simp only[toP,PyData.canLay0,PyData.depth,q.1,true_and];have:=q.2;omega
 | n+1,.lst ds,h=>by have q:=q3l n ds (by simpa[DV.plain]using h);simp only[toP,PyData.canLay0,PyData.depth,q.1,true_and];have:=q.2;omega
 | n,.dct _ _,h=>by cases n<;>simp[DV.plain]at h
 | n,.exc _,h=>by cases n<;>simp[DV.plain]at h
 | n,.fn _,h=>by cases n<;>simp[DV.plain]at h
 | n,.scr _,h=>by cases n<;>simp[DV.plain]at h
theorem q3l:∀(n:Nat) (ds:List DV),DV.plains n ds=true->PyData.canLayAll0 (toPs ds)=true/\PyData.depthAll (toPs ds)<=n
 | _,[],_=>by simp[toPs,PyData.canLayAll0,PyData.depthAll]
 | n,d::ds,h=>by simp only[DV.plains,Bool.and_eq_true]at h;have q:=q5D n d h.1;have q':=q3l n ds h.2;simp only[toPs,PyData.canLayAll0,PyData.depthAll,q.1,q'.1,Bool.and_self,true_and];have a:=q.2;have b:=q'.2;omega
end
section
variable {X:Cx} {pins:List (Addr×Obj)} {σ:St} {H:Hp} {s:Shared}
mutual
theorem q1y(I:Inv X pins σ H s):∀(n:Nat) {d:DV} {v:V} {u:Value},d.plain n=true->Rep X.D H d v->RelV v u->∃as,Reads s.heap u (toP d) as
 | _,.non,_,_,_,h,r=>by rw[q3w.mp h]at r;cases r;exact⟨_,Reads.none⟩
 | _,.bl b,_,_,_,h,r=>by rw[q3E.mp h]at r;cases r;exact⟨_,Reads.bool b⟩
 | _,.int i,_,_,_,h,r=>by rw[q0J.mp h]at r;obtain⟨t,rfl⟩:=r;exact⟨_,Reads.int i t⟩
 | _,.str x,_,_,_,h,r=>by rw[(q2B.mp h).1]at r;obtain⟨t,rfl⟩:=r;exact⟨_,Reads.str x t⟩
 | 0,.tup _,_,_,p,_,_=>by simp[DV.plain]at p
 | 0,.lst _,_,_,p,_,_=>by simp[DV.plain]at p
 | n+1,.tup ds,_,_,p,h,r=>by obtain⟨a,xs,e1,e2,e3⟩:=q0G.mp h;rw[e1]at r;cases r;obtain⟨its,rv,⟨o,h1,h2,k,h3⟩,_⟩:=I.tuple e2;obtain⟨as,q⟩:=q4m I n (by simpa[DV.plain]using p) e3 rv;rw[toP];exact⟨as,Reads.tuple h1 h2 h3 (by simpa using q)⟩
 | n+1,.lst ds,_,_,p,h,r=>by obtain⟨a,xs,e1,e2,e3⟩:=q0z.mp h;rw[e1]at r;cases r;obtain⟨_,its,k,rv,_,h1⟩:=I.lstM e2;obtain⟨as,q⟩:=q4m I n (by simpa[DV.plain]using p) e3 rv;rw[toP];exact⟨_,Reads.list h1 rfl rfl (by simpa using q)⟩
 | n,.dct _ _,_,_,h,_,_=>by cases n<;>simp[DV.plain]at h
 | n,.exc _,_,_,h,_,_=>by cases n<;>simp[DV.plain]at h
 | n,.fn _,_,_,h,_,_=>by cases n<;>simp[DV.plain]at h
 | n,.scr _,_,_,h,_,_=>by cases n<;>simp[DV.plain]at h
theorem q4m(I:Inv X pins σ H s):∀(n:Nat) {ds:List DV} {vs:List V} {us:List Value},DV.plains n ds=true->RepL X.D H ds vs->Vals vs us->∃as,ReadsAll s.heap us (toPs ds) as
 | _,[],_,_,_,h,r=>by rw[q0t.mp h]at r;cases r;exact⟨_,ReadsAll.nil⟩
 | n,d::ds,_,_,p,h,r=>by
  simp only[DV.plains,Bool.and_eq_true]at p;obtain⟨v,vs,e1,e2,e3⟩:=q0h.mp h;subst e1;cases r with
  | cons r1 r2=>
   obtain⟨as,q⟩:=q1y I n p.1 e2 r1;obtain⟨bs,q'⟩:=q4m I n p.2 e3 r2;rw[toPs];exact⟨_,ReadsAll.cons q q'⟩
end
theorem q3f{d:DV}(h:d.plain 60=true):SeqAt.shaped (toP d)=true:=by
 have q:=q5D 60 d h;unfold SeqAt.shaped;rw[q.1,Bool.true_and];exact decide_eq_true (Nat.le_trans q.2 (by decide))
theorem q6Q{d:DV}(h:d.plain 60=true):∀(ds:List DV),DV.plains 60 ds=true->((toPs ds).any λy=>PyData.eqv y (toP d))=ds.any λx=>deq x d
 | [],_=>rfl
 | e::ds,p=>by simp only[DV.plains,Bool.and_eq_true]at p;rw[toPs,List.any_cons,List.any_cons,q5f 60 60 e d p.1 h,q6Q h ds p.2]
end
section
variable {X:Cx} {E:St->XK} {δ:List Sv} {a b c e:Expr} {pos:Pos} {ra rb rc:Option Re} {re:Re}
def cmpR(X:Cx)(op:CmpOp):R2:=λx y H Q=>∃dx dy k,cmpD op dx dy=some k/\Rep X.D H dx x/\Rep X.D H dy y/\Q (.bl k) H
theorem z6P{D:Dm}{H:Hp}{d:DV}{v:V}(r:Rep D H d v):decide (v=.non)=isN d:=by
 cases d with
 | non=>rw[q3w.mp r];rfl
 | bl _=>rw[q3E.mp r];rfl
 | int _=>rw[q0J.mp r];rfl
 | str _=>rw[(q2B.mp r).1];rfl
 | tup _=>obtain⟨a,xs,e,_⟩:=q0G.mp r;rw[e];rfl
 | lst _=>obtain⟨a,xs,e,_⟩:=q0z.mp r;rw[e];rfl
 | exc _=>obtain⟨a,C,e,_⟩:=q6I.mp r;rw[e];rfl
 | fn _=>obtain⟨a,e,_⟩:=z7u.mp r;rw[e];rfl
 | scr _=>obtain⟨a,e,_⟩:=q1R.mp r;rw[e];rfl
 | dct _ _=>rcases q3s.mp r with⟨a,o,kvs,e,_⟩ | ⟨a,o,kvs,e,_⟩<;>rw[e]<;>rfl
theorem q4H{op:CmpOp}(hu:X.A.units+64<cLine):OpR X (compareOp op) (cmpR X op):=by
 intro pins s σ H x y v u Q I rx ry h;obtain⟨dx,dy,k,hk,r1,r2,q⟩:=h;have fin:∀{k':Bool},k'=k->EP X pins σ Q (.bool k') s:=λ{k'} e=>⟨.bl k',H,I,rfl,by rw[e];exact q⟩
 unfold cmpD at hk;split at hk
 ·cases hk;exact z8f pins s σ H x y v u Q I rx ry ⟨_,_,q0J.mp r1,q0J.mp r2,q⟩
 ·cases hk;exact z8Y pins s σ H x y v u Q I rx ry ⟨_,_,q0J.mp r1,q0J.mp r2,q⟩
 ·cases hk;exact z8C pins s σ H x y v u Q I rx ry ⟨_,_,q0J.mp r1,q0J.mp r2,q⟩
 ·cases hk;exact z8w pins s σ H x y v u Q I rx ry ⟨_,_,q0J.mp r1,q0J.mp r2,q⟩
 ·split at hk
  ·rename_i p;rw[Bool.and_eq_true]at p;cases hk;obtain⟨as,q1⟩:=q1y I 60 p.1 r1 rx;obtain⟨bs,q2⟩:=q1y I 60 p.2 r2 ry;exact eq_dataH q1 q2 (q3f p.1) (q3f p.2) hu (fin (q5f 60 60 _ _ p.1 p.2))
  ·cases hk
 ·split at hk
  ·rename_i p;rw[Bool.and_eq_true]at p;cases hk;obtain⟨as,q1⟩:=q1y I 60 p.1 r1 rx;obtain⟨bs,q2⟩:=q1y I 60 p.2 r2 ry;exact ne_dataH q1 q2 (q3f p.1) (q3f p.2) hu (fin (by rw[q5f 60 60 _ _ p.1 p.2]))
  ·cases hk
 ·cases hk;exact z7i pins s σ H x y v u Q I rx ry ⟨q3w.mp r2,by rw[z6P r1];exact q⟩
 ·rename_i ds;split at hk
  ·rename_i p;rw[Bool.and_eq_true]at p;cases hk;obtain⟨as,q1⟩:=q1y I 60 p.1 r1 rx;obtain⟨bs,q2⟩:=q1y I 61 (d:=.lst ds) (by simpa[DV.plain]using p.2) r2 ry;rw[toP]at q2;have l1:=q5D 60 _ p.1;have l2:=q3l 60 ds p.2;have l3:=l1.2;exact SeqAt.in_list_reads q2 q1 l2.1 l1.1 (by omega) (fin (q6Q p.1 ds p.2))
  ·cases hk
 ·rename_i ds;split at hk
  ·rename_i p;rw[Bool.and_eq_true]at p;cases hk;obtain⟨as,q1⟩:=q1y I 60 p.1 r1 rx;obtain⟨bs,q2⟩:=q1y I 61 (d:=.lst ds) (by simpa[DV.plain]using p.2) r2 ry;rw[toP]at q2;have l1:=q5D 60 _ p.1;have l2:=q3l 60 ds p.2;have l3:=l1.2;exact SeqAt.notIn_list_reads q2 q1 l2.1 l1.1 (by omega) (fin (by rw[q6Q p.1 ds p.2]))
  ·cases hk
 ·cases hk
theorem q3S{op:CmpOp}{b:Expr}(h:q2L b=false):behindInMarks op b=false:=by
 cases b<;>first | rfl | cases h
theorem z4d{op:CmpOp}(hu:X.A.units+64<cLine)(ha:∀q,ra=some q->PE X a (dE X.D E δ q))(hb:∀q,rb=some q->PE X b (dE X.D E δ q))(hs:q2L b=false)
  (h:(Re.thn ra λx _=>Re.thn rb λy _=>(cmpD op x y).map λk=>.ok (.bl k) .strong)=some re):PE X (.Compare a [op] [b] pos) (dE X.D E δ re):=
 q8C (λ_ _ h1 h2=>z3Z (q4H hu) h1 h2 (q3S hs)) ha hb h λO W H0 H x y Q dx cx dy cy σ k hd gx gy p=>by obtain⟨k',e1,e2⟩:=Option.map_eq_some_iff.mp k;cases e2;exact⟨dx,dy,k',e1,gx.all hd,gy.all hd,p _ H (Same.refl H) q3c⟩
theorem q8I{op:CmpOp}(ha:∀q,ra=some q->PE X a (dE X.D E δ q))(hb:∀q,rb=some q->PE X b (dE X.D E δ q))
  (h:(Re.thn ra λx _=>Re.thn rb λy _=>(cmpD op x y).map λk=>.ok (.bl k) .strong)=some re):∃ta tb,PE X a ta/\PE X b tb/\∀σ H Q,dE X.D E δ re σ H Q->tOp (cmpR X op) ta tb σ H Q:=
 q7l ha hb h λO W H0 H x y Q dx cx dy cy σ k hd gx gy p=>by obtain⟨k',e1,e2⟩:=Option.map_eq_some_iff.mp k;cases e2;exact⟨dx,dy,k',e1,gx.all hd,gy.all hd,p _ H (Same.refl H) q3c⟩
theorem z2j{r:Rt}{σ:St}{H:Hp}{Q:Bool->Hp->Prop}(hb:∀d c,re=.ok d c->∃k,d=.bl k)(h:tstD (some re)=some r)(q:dT X.D E δ r σ H Q):dE X.D E δ re σ H (λx H'=>∃k,x=.bl k/\Q k H'):=by
 obtain⟨O,W,R,p⟩:=q;cases re with
 | ex c=>cases h;exact⟨O,W,R,p⟩
 | ok d c=>
  obtain⟨k,rfl⟩:=hb d c rfl;cases h;exact⟨O,W,R,λv H' s g=>⟨k,g.bl (R.hid.mono s),p H' s⟩⟩
theorem z5y{op:CmpOp}(h:(Re.thn ra λx _=>Re.thn rb λy _=>(cmpD op x y).map λk=>.ok (.bl k) .strong)=some re):∀d c,re=.ok d c->∃k,d=.bl k:=by
 intro d c e;subst e;cases ra with
 | none=>cases h
 | some q=>
  cases q with
  | ex c=>cases h
  | ok d c=>
   cases rb with
   | none=>cases h
   | some q=>
    cases q with
    | ex c=>cases h
    | ok d' c'=>
     obtain⟨k,_,e⟩:=Option.map_eq_some_iff.mp (show((cmpD op d d').map λk=>Re.ok (.bl k) .strong)=_ from h);cases e;exact⟨k,rfl⟩
theorem z1r{op:CmpOp}{r:Rt}(hu:X.A.units+64<cLine)(ha:∀q,ra=some q->PE X a (dE X.D E δ q))(hb:∀q,rb=some q->PE X b (dE X.D E δ q))(hs:q2L b=false)
  (h:tstD (Re.thn ra λx _=>Re.thn rb λy _=>(cmpD op x y).map λk=>.ok (.bl k) .strong)=some r):PT X (.Compare a [op] [b] pos) (dT X.D E δ r):=by
 cases q:(Re.thn ra λx _=>Re.thn rb λy _=>(cmpD op x y).map λk=>Re.ok (.bl k) .strong)with
 | none=>rw[q]at h;cases h
 | some re=>
  rw[q]at h;obtain⟨ta,tb,A,B,w⟩:=q8I ha hb q;exact(z4b (q4H hu) A B (q3S hs)).weak λσ H Q z=>w σ H _ (z2j (z5y q) h z)
theorem q3C{op op':CmpOp}{b c:Expr}(h:q2L c=false):lastMarks [op,op'] [b,c]=false:=by
 show behindInMarks op' c=false;exact q3S h
theorem q4g{op op':CmpOp}(ha:∀q,ra=some q->PE X a (dE X.D E δ q))(hb:∀q,rb=some q->PE X b (dE X.D E δ q))(hc:∀q,rc=some q->PE X c (dE X.D E δ q))
  (h:(Re.thn ra λx _=>Re.thn rb λy _=>match cmpD op x y with
   | none=>none
   | some false=>some (.ok (.bl false) .strong)
   | some true=>Re.thn rc λz _=>(cmpD op' y z).map λk=>.ok (.bl k) .strong)=some re):∃ta tb tc,PE X a ta/\PE X b tb/\PE X c tc/\(∀σ H Q,dE X.D E δ re σ H Q->z0k (cmpR X op) (cmpR X op') ta tb tc σ H Q)/\∀d cl,re=.ok d cl->∃k,d=.bl k:=by
 cases hra:ra with
 | none=>rw[hra]at h;cases h
 | some q=>
  rw[hra]at h;have A:=ha q hra;cases q with
  | ex c=>cases h;exact⟨_,_,_,A,q1H,q1H,λσ H Q ⟨O,W,R,p⟩=>⟨O,W,R,p⟩,λd cl z=>nomatch z⟩
  | ok dx cx=>
   cases hrb:rb with
   | none=>rw[hrb]at h;cases h
   | some q=>
    rw[hrb]at h;have B:=hb q hrb;cases q with
    | ex c=>cases h;exact⟨_,_,_,A,B,q1H,λσ H Q ⟨O,W,R,p⟩=>⟨O,W,R,λx H1 s1 g1=>⟨O,W,R.mono s1,λH' C m s=>p H' C m (s1.trans s)⟩⟩,λd cl z=>nomatch z⟩
    | ok dy cy=>
     have h':(match(generalizing:=false) cmpD op dx dy with
      | none=>none
      | some false=>some (Re.ok (.bl false) .strong)
      | some true=>Re.thn rc λz _=>(cmpD op' dy z).map λk=>.ok (.bl k) .strong)=some re:=h
     split at h'
     ·cases h'
     ·rename_i e1;cases h';exact⟨_,_,_,A,B,q1H,λσ H Q ⟨O,W,R,p⟩=>⟨O,W,R,λx H1 s1 g1=>⟨O,W,R.mono s1,λy H2 s2 g2=>
       ⟨dx,dy,false,e1,(g1.mono s2).all ((R.hid.mono s1).mono s2),g2.all ((R.mono s1).hid.mono s2),false,rfl,by rw[if_neg Bool.false_ne_true];exact p _ _ (s1.trans s2) q3c⟩⟩⟩,λd cl z=>by cases z;exact⟨_,rfl⟩⟩
     ·rename_i e1;cases hrc:rc with
      | none=>rw[hrc]at h';cases h'
      | some q=>
       rw[hrc]at h';have C:=hc q hrc;cases q with
       | ex c'=>
        cases h';exact⟨_,_,_,A,B,C,λσ H Q ⟨O,W,R,p⟩=>⟨O,W,R,λx H1 s1 g1=>⟨O,W,R.mono s1,λy H2 s2 g2=>
         ⟨dx,dy,true,e1,(g1.mono s2).all ((R.hid.mono s1).mono s2),g2.all ((R.mono s1).hid.mono s2),true,rfl,by rw[if_pos rfl];exact⟨O,W,(R.mono s1).mono s2,λH' C m s=>p H' C m (s1.trans (s2.trans s))⟩⟩⟩⟩,λd cl z=>nomatch z⟩
       | ok dz cz=>
        obtain⟨k,e2,e3⟩:=Option.map_eq_some_iff.mp (show((cmpD op' dy dz).map λk=>Re.ok (.bl k) .strong)=some re from h');cases e3;exact⟨_,_,_,A,B,C,λσ H Q ⟨O,W,R,p⟩=>⟨O,W,R,λx H1 s1 g1=>⟨O,W,R.mono s1,λy H2 s2 g2=>
         ⟨dx,dy,true,e1,(g1.mono s2).all ((R.hid.mono s1).mono s2),g2.all ((R.mono s1).hid.mono s2),true,rfl,by
          rw[if_pos rfl];exact⟨O,W,(R.mono s1).mono s2,λz H3 s3 g3=>⟨dy,dz,k,e2,(g2.mono s3).all (((R.mono s1).hid.mono s2).mono s3),g3.all (((R.mono s1).mono s2).hid.mono s3),p _ _ (s1.trans (s2.trans s3)) q3c⟩⟩⟩⟩⟩,λd cl z=>by cases z;exact⟨_,rfl⟩⟩
theorem q9q{op op':CmpOp}(hu:X.A.units+64<cLine)(ha:∀q,ra=some q->PE X a (dE X.D E δ q))(hb:∀q,rb=some q->PE X b (dE X.D E δ q))(hc:∀q,rc=some q->PE X c (dE X.D E δ q))(hs:q2L c=false)
  (h:(Re.thn ra λx _=>Re.thn rb λy _=>match cmpD op x y with
   | none=>none
   | some false=>some (.ok (.bl false) .strong)
   | some true=>Re.thn rc λz _=>(cmpD op' y z).map λk=>.ok (.bl k) .strong)=some re):PE X (.Compare a [op,op'] [b,c] pos) (dE X.D E δ re):=by
 obtain⟨ta,tb,tc,A,B,C,w,_⟩:=q4g ha hb hc h;exact(z0N (q4H hu) (q4H hu) A B C (q3C hs)).weak w
theorem q8j{op op':CmpOp}{r:Rt}(hu:X.A.units+64<cLine)(ha:∀q,ra=some q->PE X a (dE X.D E δ q))(hb:∀q,rb=some q->PE X b (dE X.D E δ q))(hc:∀q,rc=some q->PE X c (dE X.D E δ q))(hs:q2L c=false)
  (h:tstD (Re.thn ra λx _=>Re.thn rb λy _=>match cmpD op x y with
   | none=>none
   | some false=>some (.ok (.bl false) .strong)
   | some true=>Re.thn rc λz _=>(cmpD op' y z).map λk=>.ok (.bl k) .strong)=some r):PT X (.Compare a [op,op'] [b,c] pos) (dT X.D E δ r):=by
 cases q:(Re.thn ra λx _=>Re.thn rb λy _=>match cmpD op x y with
   | none=>none
   | some false=>some (Re.ok (.bl false) .strong)
   | some true=>Re.thn rc λz _=>(cmpD op' y z).map λk=>.ok (.bl k) .strong)with
 | none=>rw[q]at h;cases h
 | some re=>
  rw[q]at h;obtain⟨ta,tb,tc,A,B,C,w,hbl⟩:=q4g ha hb hc q;exact(z1H (q4H hu) (q4H hu) A B C (q3C hs)).weak λσ H Q z=>w σ H _ (z2j hbl h z)
end
section
variable {X:Cx} {E:St->XK} {δ:List Sv} {a b c e:Expr} {es:List Expr} {pos:Pos} {ra:Option Re} {rt ru:Option Rt} {r:Rt} {re:Re}
theorem q4O{D:Dm}{H:Hp}{d:DV}{v:V}{k:Bool}(h:q2e d=some k)(r:Rep D H d v):TruV D.K v H k:=by
 cases d with
 | non=>cases h;rw[q3w.mp r];rfl
 | bl b=>cases h;rw[q3E.mp r];rfl
 | int i=>cases h;rw[q0J.mp r];rfl
 | str x=>
  cases h;obtain⟨e1,e2⟩:=q2B.mp r;rw[e1];refine⟨e2,?_⟩;show(x.cps.size != 0)=(((x.cps.size:Nat):Int) != 0);cases x.cps.size with
  | zero=>rfl
  | succ n=>simp only[bne,Nat.add_eq_zero_iff];rw[Bool.eq_iff_iff];simp;omega
 | tup ds=>
  cases h;obtain⟨a,xs,e1,e2,e3⟩:=q0G.mp r;rw[e1];refine .inr (.inl ⟨xs,e2,?_⟩);have:=e3.length;cases xs<;>cases ds<;>first | rfl | cases this
 | lst ds=>
  cases h;obtain⟨a,xs,e1,e2,e3⟩:=q0z.mp r;rw[e1];refine .inl ⟨xs,SqL.of e2,?_⟩;have:=e3.length;cases xs<;>cases ds<;>first | rfl | cases this
 | dct _ _=>cases h
 | exc _=>cases h
 | fn _=>cases h
 | scr _=>cases h
theorem z0G(ha:∀q,ra=some q->PE X e (dE X.D E δ q))(he:∀whole,isTrue e X.env whole=(do let v ←whole;standAt e.pos;holding [v] (truthy v)))(h:tstD ra=some r):PT X e (dT X.D E δ r):=by
 cases hra:ra with
 | none=>rw[hra]at h;cases h
 | some q=>
  rw[hra]at h;have A:=ha q hra;cases q with
  | ex c=>cases h;exact(q7x A he).weak λσ H Q ⟨O,W,R,p⟩=>⟨O,W,R,p⟩
  | ok d cl=>
   obtain⟨k,e1,e2⟩:=Option.map_eq_some_iff.mp (show(q2e d).map Rt.ok=some r from h);cases e2;exact(q7x A he).weak λσ H Q ⟨O,W,R,p⟩=>⟨O,W,R,λx H1 s1 g1=>⟨k,q4O e1 (g1.all (R.hid.mono s1)),p H1 s1⟩⟩
theorem z2R{ta:TE}(ha:PE X a ta):PE X (.UnaryOp .Not a pos) (tUn (λx H Q=>∃k,TruV X.K x H k/\Q (.bl (!k)) H) ta):=by
 intro pins s σ H Q I h;refine UnaryOp_ (thn (ha pins s σ H _ I h) λv s1 ⟨x,H1,I1,r1,q1⟩=>?_);obtain⟨k,t,q1⟩:=q1;exact not_of (thn (q7f pins s1 σ H1 x v (λb H'=>b=k/\H'=H1) I1 r1 ⟨k,t,rfl,rfl⟩) λb s2 ⟨H2,I2,e1,e2⟩=>by
  subst e1 e2;exact⟨.bl (!b),H2,I2,rfl,q1⟩)
theorem z3I(ha:∀q,ra=some q->PE X a (dE X.D E δ q))(h:(Re.thn ra λx _=>(q2e x).map λk=>.ok (.bl (!k)) .strong)=some re):PE X (.UnaryOp .Not a pos) (dE X.D E δ re):=
 z2f (λ_=>z2R) ha h λO W H0 H x Q dx cx σ k hd gx p=>by obtain⟨b,e1,e2⟩:=Option.map_eq_some_iff.mp k;cases e2;exact⟨b,q4O e1 (gx.all hd),p _ H (Same.refl H) q3c⟩
theorem q6N{ta tb:TE}(ha:PE X a ta)(hb:PE X (.BoolOp .And (b::es) pos) tb):PE X (.BoolOp .And (a::b::es) pos) (λσ H Q=>ta σ H λx H1=>∃k,TruV X.K x H1 k/\if k=true then tb σ H1 Q else Q x H1):=by
 intro pins s σ H Q I h;refine BoolOp_and (thn (ha pins s σ H _ I h) λv s1 ⟨x,H1,I1,r1,q1⟩=>?_);obtain⟨k,t,q1⟩:=q1;refine thn (q7f pins s1 σ H1 x v (λb H'=>b=k/\H'=H1) I1 r1 ⟨k,t,rfl,rfl⟩) λc s2 ⟨H2,I2,e1,e2⟩=>?_
 subst e1 e2;cases c with
 | true=>exact hb pins s2 σ H2 Q I2 q1
 | false=>exact⟨x,H2,I2,r1,q1⟩
theorem q9L{ta tb:TE}(ha:PE X a ta)(hb:PE X (.BoolOp .Or (b::es) pos) tb):PE X (.BoolOp .Or (a::b::es) pos) (λσ H Q=>ta σ H λx H1=>∃k,TruV X.K x H1 k/\if k=true then Q x H1 else tb σ H1 Q):=by
 intro pins s σ H Q I h;refine BoolOp_or (thn (ha pins s σ H _ I h) λv s1 ⟨x,H1,I1,r1,q1⟩=>?_);obtain⟨k,t,q1⟩:=q1;refine thn (q7f pins s1 σ H1 x v (λb H'=>b=k/\H'=H1) I1 r1 ⟨k,t,rfl,rfl⟩) λc s2 ⟨H2,I2,e1,e2⟩=>?_
 subst e1 e2;cases c with
 | false=>exact hb pins s2 σ H2 Q I2 q1
 | true=>exact⟨x,H2,I2,r1,q1⟩
theorem z4m{rb:Option Re}(ha:∀q,ra=some q->PE X a (dE X.D E δ q))(hb:∀q,rb=some q->PE X (.BoolOp .And (b::es) pos) (dE X.D E δ q))(h:(Re.thn ra λx c=>andD x c rb)=some re):PE X (.BoolOp .And (a::b::es) pos) (dE X.D E δ re):=by
 cases hra:ra with
 | none=>rw[hra]at h;cases h
 | some q=>
  rw[hra]at h;have A:=ha q hra;cases q with
  | ex c=>cases h;exact(q6N A q1H).weak λσ H Q ⟨O,W,R,p⟩=>⟨O,W,R,p⟩
  | ok d cl=>
   have h':andD d cl rb=some re:=h;unfold andD at h';split at h'
   ·cases h'
   ·rename_i t;exact(q6N A (hb re h')).weak λσ H Q ⟨O,W,R,p⟩=>⟨O,W,R,λx H1 s1 g1=>⟨true,q4O t (g1.all (R.hid.mono s1)),iteT ⟨O,W,R.mono s1,p.later s1 s1⟩⟩⟩
   ·rename_i t;cases h';exact(q6N A q1H).weak λσ H Q ⟨O,W,R,p⟩=>⟨O,W,R,λx H1 s1 g1=>⟨false,q4O t (g1.all (R.hid.mono s1)),iteF (p _ H1 s1 g1)⟩⟩
theorem z5W{rb:Option Re}(ha:∀q,ra=some q->PE X a (dE X.D E δ q))(hb:∀q,rb=some q->PE X (.BoolOp .Or (b::es) pos) (dE X.D E δ q))(h:(Re.thn ra λx c=>orD x c rb)=some re):PE X (.BoolOp .Or (a::b::es) pos) (dE X.D E δ re):=by
 cases hra:ra with
 | none=>rw[hra]at h;cases h
 | some q=>
  rw[hra]at h;have A:=ha q hra;cases q with
  | ex c=>cases h;exact(q9L A q1H).weak λσ H Q ⟨O,W,R,p⟩=>⟨O,W,R,p⟩
  | ok d cl=>
   have h':orD d cl rb=some re:=h;unfold orD at h';split at h'
   ·cases h'
   ·rename_i t;cases h';exact(q9L A q1H).weak λσ H Q ⟨O,W,R,p⟩=>⟨O,W,R,λx H1 s1 g1=>⟨true,q4O t (g1.all (R.hid.mono s1)),iteT (p _ H1 s1 g1)⟩⟩
   ·rename_i t;exact(q9L A (hb re h')).weak λσ H Q ⟨O,W,R,p⟩=>⟨O,W,R,λx H1 s1 g1=>⟨false,q4O t (g1.all (R.hid.mono s1)),iteF ⟨O,W,R.mono s1,p.later s1 s1⟩⟩⟩
theorem q6v{k:DV->Cl->Option Re}(h:tstD (Re.thn ra k)=some r):(ra=none/\False)\/(∃c,ra=some (.ex c)/\r=.ex c)\/∃d c,ra=some (.ok d c)/\tstD (k d c)=some r:=by
 cases hra:ra with
 | none=>rw[hra]at h;cases h
 | some q=>
  rw[hra]at h;cases q with
  | ex c=>cases h;exact .inr (.inl ⟨c,rfl,rfl⟩)
  | ok d c=>exact .inr (.inr ⟨d,c,rfl,h⟩)
theorem z2m{d:DV}{c:Cl}{r:Rt}(h:tstD (some (.ok d c))=some r):∃k,q2e d=some k/\r=.ok k:=by
 obtain⟨k,e1,e2⟩:=Option.map_eq_some_iff.mp (show(q2e d).map Rt.ok=some r from h);exact⟨k,e1,e2.symm⟩
theorem z1L(ha:∀q,tstD ra=some q->PT X a (dT X.D E δ q))(h:tstD (Re.thn ra λx _=>(q2e x).map λk=>.ok (.bl (!k)) .strong)=some r):PT X (.UnaryOp .Not a pos) (dT X.D E δ r):=by
 rcases q6v h with⟨_,z⟩ | ⟨c,e1,e2⟩ | ⟨d,c,e1,e2⟩
 ·exact z.elim
 ·subst e1 e2;exact(z2q (ha (.ex c) rfl)).weak λσ H Q ⟨O,W,R,p⟩=>⟨O,W,R,p⟩
 ·cases t:q2e d with
  | none=>rw[t]at e2;cases e2
  | some k=>
   rw[t]at e2;cases e2;have A:=ha (.ok k) (by rw[e1];show(q2e d).map Rt.ok=_;rw[t];rfl);exact(z2q A).weak λσ H Q ⟨O,W,R,p⟩=>⟨O,W,R,λH1 s1=>p H1 s1⟩
theorem z1c{rb:Option Re}(ha:∀q,tstD ra=some q->PT X a (dT X.D E δ q))(hb:∀q,tstD rb=some q->PW X (.BoolOp .And (b::es) pos) (dT X.D E δ q))(h:tstD (Re.thn ra λx c=>andD x c rb)=some r):PW X (.BoolOp .And (a::b::es) pos) (dT X.D E δ r):=by
 rcases q6v h with⟨_,z⟩ | ⟨c,e1,e2⟩ | ⟨d,c,e1,e2⟩
 ·exact z.elim
 ·subst e1 e2;exact(z0B (ha (.ex c) rfl) q4Y).weak λσ H Q ⟨O,W,R,p⟩=>⟨O,W,R,p⟩
 ·unfold andD at e2;cases t:q2e d with
  | none=>rw[t]at e2;cases e2
  | some k=>
   rw[t]at e2;have A:=ha (.ok k) (by rw[e1];show(q2e d).map Rt.ok=_;rw[t];rfl);cases k with
   | true=>exact(z0B A (hb r e2)).weak λσ H Q ⟨O,W,R,p⟩=>⟨O,W,R,λH1 s1=>iteT ⟨O,W,R.mono s1,p.later s1⟩⟩
   | false=>
    obtain⟨k,t',rfl⟩:=z2m e2;rw[t]at t';cases t';exact(z0B A q4Y).weak λσ H Q ⟨O,W,R,p⟩=>⟨O,W,R,λH1 s1=>iteF (p H1 s1)⟩
theorem z3S{rb:Option Re}(ha:∀q,tstD ra=some q->PT X a (dT X.D E δ q))(hb:∀q,tstD rb=some q->PW X (.BoolOp .Or (b::es) pos) (dT X.D E δ q))(h:tstD (Re.thn ra λx c=>orD x c rb)=some r):PW X (.BoolOp .Or (a::b::es) pos) (dT X.D E δ r):=by
 rcases q6v h with⟨_,z⟩ | ⟨c,e1,e2⟩ | ⟨d,c,e1,e2⟩
 ·exact z.elim
 ·subst e1 e2;exact(z2P (ha (.ex c) rfl) q4Y).weak λσ H Q ⟨O,W,R,p⟩=>⟨O,W,R,p⟩
 ·unfold orD at e2;cases t:q2e d with
  | none=>rw[t]at e2;cases e2
  | some k=>
   rw[t]at e2;have A:=ha (.ok k) (by rw[e1];show(q2e d).map Rt.ok=_;rw[t];rfl);cases k with
   | false=>exact(z2P A (hb r e2)).weak λσ H Q ⟨O,W,R,p⟩=>⟨O,W,R,λH1 s1=>iteF ⟨O,W,R.mono s1,p.later s1⟩⟩
   | true=>
    obtain⟨k,t',rfl⟩:=z2m e2;rw[t]at t';cases t';exact(z2P A q4Y).weak λσ H Q ⟨O,W,R,p⟩=>⟨O,W,R,λH1 s1=>iteT (p H1 s1)⟩
theorem q0k{e:Expr}{es:List Expr}{env:Env}(h:q0j e=false):starEach (e::es) env=(false,eval e env)::starEach es env:=by
 cases e<;>first | rfl | cases h
theorem z1n:PA X [] (dA X.D E δ (.ok [])):=q3k.weak λσ H Q ⟨O,W,R,p⟩=>p [] H (Same.refl H) .nil
theorem q8D{rs:Option Rs}{q:Rs}(hs:q0j e=false)(ha:∀q,ra=some q->PE X e (dE X.D E δ q))(hb:∀q,rs=some q->PA X es (dA X.D E δ q))
  (h:(match(generalizing:=false) ra with | none=>none | some (.ex c)=>some (Rs.ex c) | some (.ok d c)=>(match(generalizing:=false) rs with | none=>none | some (.ex c)=>some (.ex c) | some (.ok l)=>some (.ok ((d,c)::l))))=some q):PA X (e::es) (dA X.D E δ q):=by
 cases hra:ra with
 | none=>rw[hra]at h;cases h
 | some z=>
  rw[hra]at h;have A:=ha z hra;cases z with
  | ex c=>cases h;exact(q0W A z4A (q0k hs)).weak λσ H Q ⟨O,W,R,p⟩=>⟨O,W,R,p⟩
  | ok d cl=>
   cases hrs:rs with
   | none=>rw[hrs]at h;cases h
   | some y=>
    rw[hrs]at h;have B:=hb y hrs;cases y with
    | ex c=>cases h;exact(q0W A B (q0k hs)).weak λσ H Q ⟨O,W,R,p⟩=>⟨O,W,R,λx H1 s1 g1=>⟨O,W,R.mono s1,λH' C m s=>p H' C m (s1.trans s)⟩⟩
    | ok l=>
     cases h;exact(q0W A B (q0k hs)).weak λσ H Q ⟨O,W,R,p⟩=>⟨O,W,R,λx H1 s1 g1=>⟨O,W,R.mono s1,λvs H2 s2 g2=>p _ H2 (s1.trans s2) (.cons (g1.mono s2) (g2.since s1))⟩⟩
theorem z4X{rs:Option Rs}(ha:∀q,rs=some q->PA X es (dA X.D E δ q))(h:(Rs.thn rs λl=>if l.length<=mostLen then some (.ok (.lst (l.map (·.1))) (if stros l then .fresh else .weak))else none)=some re):PE X (.List es pos) (dE X.D E δ re):=
 q3M (r:=λvs H Q=>vs.length<=sizeLine/\∀p,H p=none->Q (.ref p) (upd H p (.lst vs))) (λ_=>z6z) ha h λO W H0 H vs Q l σ k hd g p=>by
  split at k
  ·rename_i m;cases k;refine⟨by rw[g.length];exact q2p m,λq hq=>p _ _ (q0p hq) ?_⟩;by_cases z:stros l=true
   ·rw[if_pos z];exact q1P hd hq (g.stros hd z)
   ·rw[if_neg z];exact q5x hd hq (g.repL hd)
  ·cases k
theorem z3e{rs:Option Rs}{x1:Nat}(ha:∀q,rs=some q->PA X es (dA X.D E δ q))(h:(Rs.thn rs λl=>if l.length<=mostLen then some (.ok (.tup (l.map (·.1))) (if stros l then .strong else .weak))else none)=some re):PE X (.Tuple es x1 pos) (dE X.D E δ re):=
 q3M (r:=λvs H Q=>vs.length<=sizeLine/\∀p,H p=none->Q (.ref p) (upd H p (.tup vs))) (λ_=>z2J) ha h λO W H0 H vs Q l σ k hd g p=>by
  split at k
  ·rename_i m;cases k;refine⟨by rw[g.length];exact q2p m,λq hq=>p _ _ (q0p hq) ?_⟩;by_cases z:stros l=true
   ·rw[if_pos z];exact q4e hd hq (g.stros hd z)
   ·rw[if_neg z];exact q7B hd hq (g.repL hd)
  ·cases k
end
end L2
end
noncomputable section
namespace L2
open PySem PySem.Spec PyProof.Rows
def GotR(D:Dm)(O:List Addr)(H0 H:Hp)(d:DV)(fr:Bool)(v:V):Prop:=match fr with
 | false=>Rep D (L2.wo O H) d v
 | true=>∃p xs ds,v=.ref p/\d=.lst ds/\H0 p=none/\H p=some (.lst xs)/\RepL D (L2.wo (p::O) H) ds xs
def GotF(H H':Hp)(xs:List DV)(v:V):Prop:=∃(p:Addr) (L:List (Addr×List Int)),v=.ref p/\xs=L.map (λq=>.lst (q.2.map DV.int))/\H p=none/\H' p=some (.lst (L.map λq=>.ref q.1))/\(∀q∈L,H q.1=none/\H' q.1=some (.lst (q.2.map V.int)))/\(p::L.map (·.1)).Nodup
theorem GotF.since{H0 H1 H:Hp}{xs:List DV}{v:V}(g:GotF H1 H xs v)(f:∀a,H1 a=none->H0 a=none):GotF H0 H xs v:=by
 obtain⟨p,L,e1,e2,e3,e4,e5,e6⟩:=g;exact⟨p,L,e1,e2,f _ e3,e4,λq hq=>⟨f _ (e5 q hq).1,(e5 q hq).2⟩,e6⟩
theorem GotF.items{D:Dm}{H0 H:Hp}{xs:List DV}{v:V}{Z:List Addr}(g:GotF H0 H xs v)(hz:∀a∈Z,H0 a≠none):∃p vs,v=.ref p/\H0 p=none/\H p=some (.lst vs)/\RepL D (L2.wo (p::Z) H) xs vs:=by
 obtain⟨p,L,e1,e2,e3,e4,e5,e6⟩:=g;refine⟨p,_,e1,e3,e4,?_⟩;rw[e2];refine q6A λq hq=>?_
 rw[q0o λz=>?_]
 ·exact(e5 q hq).2
 ·rcases List.mem_cons.mp z with z | z
  ·exact(List.nodup_cons.mp e6).1 (List.mem_map.mpr ⟨q,hq,z⟩)
  ·exact hz _ z (e5 q hq).1
theorem GotF.fresh{D:Dm}{O W:List Addr}{H0 H1 H:Hp}{xs:List DV}{v:V}(g:GotF H0 H xs v)(hd:Hid O W H0 H1):Got D O W H0 H (.lst xs) .fresh v:=by
 obtain⟨p,vs,e1,e2,e3,e4⟩:=g.items (D:=D) (Z:=O++W) hd.ot;exact⟨p,vs,xs,e1,rfl,e2,e3,e4⟩
def GotP(H0 H:Hp)(d:DV)(v:V):Prop:=∃t M,v=.ref t/\d=.dct [] (M.map itD)/\H0 t=none/\H t=some (.tup (M.map itV))/\(M.filterMap (·.1)).Nodup/\(∀p∈M.filterMap (·.1),H0 p=none)/\ItAt H M
theorem GotP.since{H0 H1 H:Hp}{d:DV}{v:V}(g:GotP H0 H d v)(f:∀a,H0 a=none->H1 a=none):GotP H1 H d v:=by
 obtain⟨t,M,e1,e2,e3,e4,e5,e6,e7⟩:=g;exact⟨t,M,e1,e2,f _ e3,e4,e5,λp hp=>f _ (e6 p hp),e7⟩
theorem GotP.rep{D:Dm}{H0 H:Hp}{ks:List DKey}{ds:List DV}{v:V}{Z:List Addr}(g:GotP H0 H (.dct ks ds) v)(hz:∀a∈Z,H0 a≠none):Rep D (L2.wo Z H) (.tup ds) v:=by
 obtain⟨t,M,e1,e2,e3,e4,e5,e6,e7⟩:=g;cases e2;exact q0G.mpr ⟨t,_,e1,SqT.of (by rw[q0o λz=>hz t z e3];exact e4),q5B λp ns hm=>by rw[q0o λz=>hz p z (e6 p (List.mem_filterMap.mpr ⟨_,hm,rfl⟩))];exact e7 p ns hm⟩
def GotT(D:Dm)(O:List Addr)(H0 H:Hp)(d:DV)(v:V):Prop:=(∃t ts p xs ds es,v=.ref t/\d=.tup (.lst ds::es)/\SqT D.K (L2.wo O H) t (.ref p::ts)/\H0 p=none/\H p=some (.lst xs)/\RepL D (L2.wo (p::O) H) ds xs/\RepL D (L2.wo (p::O) H) es ts)\/(∃xs,d=.lst xs/\GotF H0 H xs v)\/GotP H0 H d v
theorem z2n{D:Dm}{O:List Addr}{H0 H:Hp}{ks:List DKey}{ds:List DV}{v:V}(g:GotT D O H0 H (.dct ks ds) v):GotP H0 H (.dct ks ds) v:=by
 rcases g with⟨_,_,_,_,_,_,_,e,_⟩ | ⟨_,e,_⟩ | g
 ·cases e
 ·cases e
 ·exact g
def spF(D:Dm)(n:Nat)(f:List DV->Option Ou):Sp:=λvs H Q E=>∃O ds o,Hdn O H/\ds.length=n/\RepL D (L2.wo O H) ds vs/\f ds=some o /\
 (match o with | .v d fr=>∀v H',Same H H'->GotR D O H H' d fr v->Q v H' | .t d=>∀v H',Same H H'->GotT D O H H' d v->Q v H' | .x c=>∀H' C,D.mg c=some C->Same H H'->E C none H')
def spH(D:Dm)(f:DV->List DV->Option (DV×List DV)):Sp:=λvs H Q _=>∃O p v d ds xs r,vs=[v,.ref p]/\Hdn O H/\p∉O/\H p=some (.lst xs)/\Rep D (L2.wo (O++[p]) H) d v/\RepL D (L2.wo (O++[p]) H) ds xs/\f d ds=some r /\
 ∀v' H' xs',Same (L2.wo [p] H) H'->H' p=some (.lst xs')->Rep D (L2.wo (O++[p]) H') r.1 v'->RepL D (L2.wo (O++[p]) H') r.2 xs'->Q v' H'
section
variable {X:Cx} {E:St->XK} {δ:List Sv} {e:Expr} {es:List Expr} {pos p:Pos} {re:Re} {rs:Option Rs} {k:Nat} {fa:Addr} {fd:FuncData} {ps:List Str} {x:Str}
theorem q9R{F:Nat->List DV->Option Ou}{f:Nat}{e0:Expr}{Pre:St->Hp->Prop}(hn:∀ds o,F f ds=some o->ds.length=ps.length)(C:∀t,PA X (e::es) t->PE X e0 (λσ H Q=>Pre σ H/\z2o (spF X.D ps.length (F f)) [] E t σ H Q))(pre:∀σ H O W,RSt X.D H σ δ O W->Pre σ H)(ha:∀q,rs=some q->PA X (e::es) (dA X.D E δ q))
  (h:(Rs.thn rs λl=>q1W F f l)=some re):PE X e0 (dE X.D E δ re):=by
 cases hrs:rs with
 | none=>rw[hrs]at h;cases h
 | some q=>
  rw[hrs]at h;have A:=ha q hrs;cases q with
  | ex c=>cases h;exact(C _ A).weak λσ H Q ⟨O,W,R,p⟩=>⟨pre _ _ _ _ R,O,W,R,p⟩
  | ok l=>
   have h':q1W F f l=some re:=h;unfold q1W at h';split at h'
   ·cases h'
   ·rename_i c e1;cases h';refine(C _ A).weak λσ H Q ⟨O,W,R,p⟩=>⟨pre _ _ _ _ R,O,W,R,λvs H1 s1 g1=>?_⟩
    have hd:=R.hid.mono s1;show spF X.D ps.length (F f) (vs++[]) H1 Q (E σ);rw[List.append_nil];exact⟨O,_,_,hd.hdO,hn _ _ e1,g1.repL hd,e1,λH' C m s=>p H' C m (s1.trans s)⟩
   ·rename_i ks ds e1;cases h';refine(C _ A).weak λσ H Q ⟨O,W,R,p⟩=>⟨pre _ _ _ _ R,O,W,R,λvs H1 s1 g1=>?_⟩
    have hd:=R.hid.mono s1;show spF X.D ps.length (F f) (vs++[]) H1 Q (E σ);rw[List.append_nil];refine⟨O,_,_,hd.hdO,hn _ _ e1,g1.repL hd,e1,λv H' s g=>p v H' (s1.trans s) ?_⟩;exact(z2n g).rep λa ha q=>hd.ot a ha (s1.free q)
   ·rename_i d hne e1;cases h';refine(C _ A).weak λσ H Q ⟨O,W,R,p⟩=>⟨pre _ _ _ _ R,O,W,R,λvs H1 s1 g1=>?_⟩
    have hd:=R.hid.mono s1;show spF X.D ps.length (F f) (vs++[]) H1 Q (E σ);rw[List.append_nil];by_cases z:(l.all λp=>p.2 == .strong||p.2 == .fresh)=true
    ·rw[if_pos z]at p;refine⟨O++W,_,_,hd.hdA,hn _ _ e1,g1.strong hd z,e1,λv H' s g=>p v H' (s1.trans s) ?_⟩;rcases g with⟨t,ts,q,xs,ds,es,f1,f2,f0,f3,f4,f5,f6⟩ | ⟨xs,f1,f2⟩ | ⟨_,_,_,f2,_⟩
     ·subst f2;exact⟨t,ts,q,xs,ds,es,f1,rfl,f0,s1.free f3,f4,f5,f6⟩
     ·subst f1;exact(f2.since λa ha=>s1.free ha).fresh hd
     ·exact absurd f2 (hne _ _)
    ·rw[if_neg z]at p;refine⟨O,_,_,hd.hdO,hn _ _ e1,g1.repL hd,e1,λv H' s g=>p v H' (s1.trans s) ?_⟩;rcases g with⟨t,ts,q,xs,ds,es,f1,f2,f0,f3,f4,f5,f6⟩ | ⟨xs,f1,f2⟩ | ⟨_,_,_,f2,_⟩
     ·have hq:q∉O:=λz=>hd.ot q (List.mem_append_left _ z) (s1.free f3);have up:Same (L2.wo (q::O) H') (L2.wo O H'):=q0I λb hb=>List.mem_cons_of_mem _ hb;rw[f2];exact q0G.mpr ⟨t,_,f1,f0,q0h.mpr ⟨_,_,rfl,q0z.mpr ⟨q,xs,rfl,by rw[q0o hq];exact f4,f5.mono up⟩,f6.mono up⟩⟩
     ·subst f1;have hO:∀a∈O,H1 a≠none:=λa ha q=>hd.ot a (List.mem_append_left _ ha) (s1.free q)
      obtain⟨q,vs,g1',g2',g3',g4'⟩:=f2.items (D:=X.D) hO;have hq:q∉O:=λz=>hO q z g2'
      exact q0z.mpr ⟨q,vs,g1',by rw[q0o hq];exact g3',g4'.mono (q0I λb hb=>List.mem_cons_of_mem _ hb)⟩
     ·exact absurd f2 (hne _ _)
   ·rename_i d fr e1;cases h';refine(C _ A).weak λσ H Q ⟨O,W,R,p⟩=>⟨pre _ _ _ _ R,O,W,R,λvs H1 s1 g1=>?_⟩
    have hd:=R.hid.mono s1;show spF X.D ps.length (F f) (vs++[]) H1 Q (E σ);rw[List.append_nil];by_cases z:(l.all λp=>p.2 == .strong||p.2 == .fresh)=true
    ·rw[if_pos z]at p;refine⟨O++W,_,_,hd.hdA,hn _ _ e1,g1.strong hd z,e1,λv H' s g=>p v H' (s1.trans s) ?_⟩;cases fr with
     | false=>exact g
     | true=>
      obtain⟨q,xs,ds,e1,e2,e3,e4,e5⟩:=g;exact⟨q,xs,ds,e1,e2,s1.free e3,e4,e5⟩
    ·rw[if_neg z]at p;refine⟨O,_,_,hd.hdO,hn _ _ e1,g1.repL hd,e1,λv H' s g=>p v H' (s1.trans s) ?_⟩;cases fr with
     | false=>exact g
     | true=>
      obtain⟨q,xs,ds,u1,e2,e3,e4,e5⟩:=g;subst e2;rw[Bool.true_and];cases y:imL (.lst ds)with
      | true=>exact⟨q,xs,ds,u1,rfl,s1.free e3,e4,RepL.immut (O:=q::O) (λa ha=>by obtain⟨o,e,m⟩:=hd.wl a ha;exact⟨o,s _ _ (hd.same _ _ e),m⟩) y e5⟩
      | false=>
       have hq:q∉O:=λz=>hd.ot q (List.mem_append_left _ z) (s1.free e3);exact q0z.mpr ⟨q,xs,u1,by rw[q0o hq];exact e4,e5.mono (q0I λb hb=>List.mem_cons_of_mem _ hb)⟩
theorem z2a{F:Nat->List DV->Option Ou}{f:Nat}(fo:FnOk X.prog X.w X.K X.mg X.base (CXx X.prog X.w X.base) k fa fd ps (spF X.D ps.length (F f)))(hn:∀ds o,F f ds=some o->ds.length=ps.length)(hr:Room k X.A)(hg:Gl X x)(hm:X.mg x=some (.ref fa))(hk:PySem.W.keepIn X.K (.ref fa)=true)
  (hb:q2Y X.K fd ps []) (hx:q3x (CXx X.prog X.w X.base) X E) (ha:∀q,rs=some q->PA X (e::es) (dA X.D E δ q)) (hdb:(x==("__debug__" : Str))=false) (hs:q0j e=false) (hss:es.any q0j=false)
  (h:(Rs.thn rs λl=>q1W F f l)=some re):PE X (.Call (.Name x p) (e::es) [] pos) (dE X.D E δ re):=by
 have plain:∀(es:List Expr),es.any q0j=false->(backTo pos (starEach es X.env)).any (·.1)=false:=by
  intro es
  induction es with
  | nil=>intro _;rfl
  | cons y ys ih=>
   intro q;rw[List.any_cons,Bool.or_eq_false_iff]at q;rw[q0k q.1];show(false||(backTo pos (starEach ys X.env)).any (·.1))=false;rw[ih q.2];rfl
 exact q9R (Pre:=λ_ _=>True) hn (λt hA=>(q6Z (p:=p) (pos:=pos) fo hr hg hm hk hb .nil hx hA hdb (q0k hs) (plain es hss)).weak λσ H Q h=>h.2) (λ_ _ _ _ _=>trivial) ha h
end
section
variable {X:Cx} {E:St->XK} {δ:List Sv} {e:Expr} {es:List Expr} {pos p:Pos} {re:Re} {rs:Option Rs}
theorem q1z{env:Env}{pos:Pos}:∀(es:List Expr),es.any q0j=false->(backTo pos (starEach es env)).any (·.1)=false
 | [],_=>rfl
 | y::ys,q=>by rw[List.any_cons,Bool.or_eq_false_iff]at q;rw[q0k q.1];show(false||(backTo pos (starEach ys env)).any (·.1))=false;rw[q1z ys q.2];rfl
def biR(X:Cx)(k:List (DV×Cl)->Option Re):List V->Hp->VK->Prop:=λvs H Q=>∃l re O W H0,k l=some re/\Hid O W H0 H/\GotL X.D O W H0 H l vs/\∃d c,re=.ok d c/\∀v H',Same H H'->Got X.D O W H0 H' d c v->Q v H'
theorem q6a{k:List (DV×Cl)->Option Re}{x:Str}{id:String}(hc:q1q X (.builtin id) (biR X k))(hk:∀l re,k l=some re->∃d c,re=.ok d c)(hg:Gl X x)(hm:X.mg x=none)(hv:bootBuiltins x=some (.builtin id))(hn:x ≠ "__name__")(hdb:(x==("__debug__" : Str))=false)
  (ha:∀q,rs=some q->PA X (e::es) (dA X.D E δ q)) (hs:q0j e=false) (hss:es.any q0j=false) (h:Rs.thn rs k=some re):PE X (.Call (.Name x p) (e::es) [] pos) (dE X.D E δ re):=
 q3M (λ_ hA=>q5m hc hg hm hv hA hn hdb (q0k hs) (q1z es hss)) ha h λO W H0 H vs Q l σ hl hd g p=>by obtain⟨d,c,rfl⟩:=hk l re hl;exact⟨l,_,O,W,H0,hl,hd,g,d,c,rfl,p⟩
theorem q6w{k:List (DV×Cl)->Option Re}{x:Str}{T:String}(hc:q1q X (.type T) (biR X k))(hk:∀l re,k l=some re->∃d c,re=.ok d c)(hg:Gl X x)(hm:X.mg x=none)(hv:bootBuiltins x=some (.type T))(hn:x ≠ "__name__")(hdb:(x==("__debug__" : Str))=false)
  (ha:∀q,rs=some q->PA X (e::es) (dA X.D E δ q)) (hs:q0j e=false) (hss:es.any q0j=false) (h:Rs.thn rs k=some re):PE X (.Call (.Name x p) (e::es) [] pos) (dE X.D E δ re):=
 q3M (λ_ hA=>q8H hc hg hm hv hA hn hdb (q0k hs) (q1z es hss)) ha h λO W H0 H vs Q l σ hl hd g p=>by obtain⟨d,c,rfl⟩:=hk l re hl;exact⟨l,_,O,W,H0,hl,hd,g,d,c,rfl,p⟩
theorem z4H:∀l re,lenD l=some re->∃d c,re=.ok d c:=λl re h=>by unfold lenD at h;split at h<;>cases h<;>exact⟨_,_,rfl⟩
theorem z4i:∀l re,minD l=some re->∃d c,re=.ok d c:=λl re h=>by
 unfold minD at h;split at h
 ·cases h;exact⟨_,_,rfl⟩
 ·split at h
  ·cases h;exact⟨_,_,rfl⟩
  ·cases h
 ·split at h
  ·cases h;exact⟨_,_,rfl⟩
  ·cases h
 ·cases h
theorem z3C:∀l re,maxD l=some re->∃d c,re=.ok d c:=λl re h=>by
 unfold maxD at h;split at h
 ·cases h;exact⟨_,_,rfl⟩
 ·split at h
  ·cases h;exact⟨_,_,rfl⟩
  ·cases h
 ·cases h
theorem q2G{D:Dm}{H:Hp}:∀{ds:List DV} {ns:List Int} {xs:List V},ints? ds=some ns->RepL D H ds xs->xs=ns.map V.int
 | [],ns,xs,h,r=>by cases h;exact q0t.mp r
 | .int i::ds,ns,xs,h,r=>by have h':(ints? ds).map (i :: ·)=some ns:=h;obtain⟨ms,e1,e2⟩:=Option.map_eq_some_iff.mp h';obtain⟨v,vs,e3,e4,e5⟩:=q0h.mp r;have q:=q2G e1 e5;rw[←e2,e3,List.map_cons,q0J.mp e4,q]
 | .non::ds,ns,xs,h,_=>by cases h
 | .bl _::ds,ns,xs,h,_=>by cases h
 | .str _::ds,ns,xs,h,_=>by cases h
 | .tup _::ds,ns,xs,h,_=>by cases h
 | .lst _::ds,ns,xs,h,_=>by cases h
 | .dct _ _::ds,ns,xs,h,_=>by cases h
 | .exc _::ds,ns,xs,h,_=>by cases h
 | .fn _::ds,ns,xs,h,_=>by cases h
 | .scr _::ds,ns,xs,h,_=>by cases h
theorem q7D:∀(r:List Int) (m:Int),(minI m r=m\/minI m r∈r)/\minI m r<=m/\∀x∈r,minI m r<=x
 | [],m=>⟨.inl rfl,Int.le_refl _,λx h=>by cases h⟩
 | y::r,m=>by
  obtain⟨h0,h1,h2⟩:=q7D r (if y<m then y else m);unfold minI;by_cases q:y<m
  ·rw[if_pos q]at h0 h1 h2 ⊢;refine⟨.inr ?_,by omega,λx hx=>?_⟩
   ·rcases h0 with z | z
    ·rw[z];exact List.mem_cons_self ..
    ·exact List.mem_cons_of_mem _ z
   ·rcases List.mem_cons.mp hx with z | z
    ·rw[z];exact h1
    ·exact h2 x z
  ·rw[if_neg q]at h0 h1 h2 ⊢;refine⟨h0.imp id (List.mem_cons_of_mem _),h1,λx hx=>?_⟩;rcases List.mem_cons.mp hx with z | z
   ·rw[z];omega
   ·exact h2 x z
theorem q5S:∀(r:List Int) (m:Int),(maxI m r=m\/maxI m r∈r)/\m<=maxI m r/\∀x∈r,x<=maxI m r
 | [],m=>⟨.inl rfl,Int.le_refl _,λx h=>by cases h⟩
 | y::r,m=>by
  obtain⟨h0,h1,h2⟩:=q5S r (if m<y then y else m);unfold maxI;by_cases q:m<y
  ·rw[if_pos q]at h0 h1 h2 ⊢;refine⟨.inr ?_,by omega,λx hx=>?_⟩
   ·rcases h0 with z | z
    ·rw[z];exact List.mem_cons_self ..
    ·exact List.mem_cons_of_mem _ z
   ·rcases List.mem_cons.mp hx with z | z
    ·rw[z];exact h1
    ·exact h2 x z
  ·rw[if_neg q]at h0 h1 h2 ⊢;refine⟨h0.imp id (List.mem_cons_of_mem _),h1,λx hx=>?_⟩;rcases List.mem_cons.mp hx with z | z
   ·rw[z];omega
   ·exact h2 x z
theorem q7b{n M:Int}{r:List Int}(h1:M∈n::r)(h2:∀x∈n::r,M<=x):M=minI n r:=by
 obtain⟨a,b,c⟩:=q7D r n;have d:minI n r∈n::r:=a.elim (λz=>by rw[z];exact List.mem_cons_self ..) (List.mem_cons_of_mem _);have e:=h2 _ d;have f:minI n r<=M:=by
  rcases List.mem_cons.mp h1 with z | z
  ·rw[z];exact b
  ·exact c M z
 omega
theorem z1Y{n M:Int}{r:List Int}(h1:M∈n::r)(h2:∀x∈n::r,x<=M):M=maxI n r:=by
 obtain⟨a,b,c⟩:=q5S r n;have d:maxI n r∈n::r:=a.elim (λz=>by rw[z];exact List.mem_cons_self ..) (List.mem_cons_of_mem _);have e:=h2 _ d;have f:M<=maxI n r:=by
  rcases List.mem_cons.mp h1 with z | z
  ·rw[z];exact b
  ·exact c M z
 omega
theorem z1k:∀l re,q8b l=some re->∃d c,re=.ok d c:=λl re h=>by unfold q8b at h;split at h<;>cases h<;>exact⟨_,_,rfl⟩
theorem z0l:∀l re,q4C l=some re->∃d c,re=.ok d c:=λl re h=>by unfold q4C at h;split at h<;>cases h<;>exact⟨_,_,rfl⟩
theorem z7b:q1q X (.builtin "len") (biR X lenD):=by
 intro pins s σ H xs us Q I r h;obtain⟨l,re,O,W,H0,hb,hd,g,d,c,rfl,p⟩:=h;unfold lenD at hb;split at hb
 ·cases hb;obtain⟨v,rfl,gv⟩:=g.one;obtain⟨a,ys,e1,e2,e3⟩:=gv.lst hd;exact q2u pins s σ H _ us Q I r ⟨a,ys,by rw[e1],.inl (SqL.of e2),by rw[e3.length];exact p _ H (Same.refl H) q0y⟩
 ·cases hb;obtain⟨v,rfl,gv⟩:=g.one;obtain⟨a,ys,e1,e2,e3⟩:=gv.tup hd;exact q2u pins s σ H _ us Q I r ⟨a,ys,by rw[e1],.inr e2,by rw[e3.length];exact p _ H (Same.refl H) q0y⟩
 ·cases hb;obtain⟨v,rfl,gv⟩:=g.one;obtain⟨a,e1,e2⟩:=q1R.mp (gv.all hd);exact q2u pins s σ H _ us Q I r ⟨a,_,by rw[e1],.inl e2.sq,by rw[List.length_map];exact p _ H (Same.refl H) q0y⟩
 ·cases hb;obtain⟨v,rfl,gv⟩:=g.one;obtain⟨e1,e2⟩:=gv.str hd;exact q6j pins s σ H _ us Q I r ⟨_,by rw[e1],e2,p _ H (Same.refl H) q0y⟩
 ·cases hb
theorem z5g(hc:X.calm=true)(hu:X.A.units+1<cLine):q1q X (.builtin "min") (biR X minD):=by
 intro pins s σ H xs us Q I r h;obtain⟨l,re,O,W,H0,hb,hd,g,d,c,rfl,p⟩:=h;unfold minD at hb;split at hb
 ·cases hb;obtain⟨v,v',rfl,gv,gv'⟩:=g.two;exact q9V hc pins s σ H _ us Q I r ⟨_,_,by rw[gv.int hd,gv'.int hd],p _ H (Same.refl H) q0y⟩
 ·split at hb
  ·rename_i n r' hq;cases hb;obtain⟨v,rfl,gv⟩:=g.one;obtain⟨a,ys,e1,e2,e3⟩:=gv.lst hd;have e4:=q2G hq e3;subst e4;exact q9k hc pins s σ H _ us Q I r ⟨a,n::r',by rw[e1],SqL.of e2,by simp,λM m1 m2=>by rw[q7b m1 m2];exact p _ H (Same.refl H) q0y⟩
  ·cases hb
 ·split at hb
  ·rename_i n r' hq;cases hb;obtain⟨v,rfl,gv⟩:=g.one;obtain⟨a,ys,e1,e2,e3⟩:=gv.tup hd;have e4:=q2G hq e3;subst e4;exact q8S hc pins s σ H _ us Q I r ⟨a,n::r',by rw[e1],e2,by simp,λM m1 m2=>by rw[q7b m1 m2];exact p _ H (Same.refl H) q0y⟩
  ·cases hb
 ·cases hb
theorem z6u(hc:X.calm=true):q1q X (.builtin "max") (biR X maxD):=by
 intro pins s σ H xs us Q I r h;obtain⟨l,re,O,W,H0,hb,hd,g,d,c,rfl,p⟩:=h;unfold maxD at hb;split at hb
 ·cases hb;obtain⟨v,v',rfl,gv,gv'⟩:=g.two;exact q9l hc pins s σ H _ us Q I r ⟨_,_,by rw[gv.int hd,gv'.int hd],p _ H (Same.refl H) q0y⟩
 ·split at hb
  ·rename_i n r' hq;cases hb;obtain⟨v,rfl,gv⟩:=g.one;obtain⟨a,ys,e1,e2,e3⟩:=gv.lst hd;have e4:=q2G hq e3;subst e4;exact z0u hc pins s σ H _ us Q I r ⟨a,n::r',by rw[e1],SqL.of e2,by simp,λM m1 m2=>by rw[z1Y m1 m2];exact p _ H (Same.refl H) q0y⟩
  ·cases hb
 ·cases hb
theorem q6i{D:Dm}{H:Hp}:∀{ds:List DV} {bs:List Bool} {xs:List V},bools? ds=some bs->RepL D H ds xs->xs=bs.map V.bl
 | [],bs,xs,h,r=>by cases h;exact q0t.mp r
 | .bl i::ds,bs,xs,h,r=>by have h':(bools? ds).map (i :: ·)=some bs:=h;obtain⟨ms,e1,e2⟩:=Option.map_eq_some_iff.mp h';obtain⟨v,vs,e3,e4,e5⟩:=q0h.mp r;have q:=q6i e1 e5;subst e2 e3 q;rw[q3E.mp e4];rfl
 | .non::_,_,_,h,_=>by cases h
 | .int _::_,_,_,h,_=>by cases h
 | .str _::_,_,_,h,_=>by cases h
 | .tup _::_,_,_,h,_=>by cases h
 | .lst _::_,_,_,h,_=>by cases h
 | .exc _::_,_,_,h,_=>by cases h
 | .fn _::_,_,_,h,_=>by cases h
 | .scr _::_,_,_,h,_=>by cases h
 | .dct _ _::_,_,_,h,_=>by cases h
theorem z6Y(hc:X.calm=true):q1q X (.builtin "sum") (biR X sumD):=by
 intro pins s σ H xs us Q I r h;obtain⟨l,re,O,W,H0,hb,hd,g,d,c,rfl,p⟩:=h;unfold sumD at hb;split at hb
 ·obtain⟨ns,hq,e⟩:=Option.map_eq_some_iff.mp hb;cases e;obtain⟨v,rfl,gv⟩:=g.one;obtain⟨a,ys,e1,e2,e3⟩:=gv.lst hd;have e4:=q2G hq e3;subst e4;exact z0m hc pins s σ H _ us Q I r ⟨a,ns,by rw[e1],SqL.of e2,p _ H (Same.refl H) q0y⟩
 ·cases hb
theorem z6r(hc:X.calm=true):q1q X (.builtin "any") (biR X anyD):=by
 intro pins s σ H xs us Q I r h;obtain⟨l,re,O,W,H0,hb,hd,g,d,c,rfl,p⟩:=h;unfold anyD at hb;split at hb
 ·obtain⟨bs,hq,e⟩:=Option.map_eq_some_iff.mp hb;cases e;obtain⟨v,rfl,gv⟩:=g.one;obtain⟨a,ys,e1,e2,e3⟩:=gv.lst hd;have e4:=q6i hq e3;subst e4;exact q9g hc pins s σ H _ us Q I r ⟨a,bs,by rw[e1],SqL.of e2,p _ H (Same.refl H) q3c⟩
 ·cases hb
theorem z0M:bootBuiltins "sum" = some (.builtin "sum"):=by decide +kernel
theorem q8V:bootBuiltins "any" = some (.builtin "any"):=by decide +kernel
theorem z4o:∀l re,sumD l=some re->∃d c,re=.ok d c:=by
 intro l re h;unfold sumD at h;split at h
 ·obtain⟨_,_,e⟩:=Option.map_eq_some_iff.mp h;cases e;exact⟨_,_,rfl⟩
 ·cases h
theorem z3K:∀l re,anyD l=some re->∃d c,re=.ok d c:=by
 intro l re h;unfold anyD at h;split at h
 ·obtain⟨_,_,e⟩:=Option.map_eq_some_iff.mp h;cases e;exact⟨_,_,rfl⟩
 ·cases h
theorem z2N:q1q X (.type "list") (biR X q8b):=by
 intro pins s σ H xs us Q I r h;obtain⟨l,re,O,W,H0,hb,hd,g,d,c,rfl,p⟩:=h;unfold q8b at hb;split at hb
 ·cases hb;obtain⟨v,rfl,gv⟩:=g.one;obtain⟨a,e1,e2⟩:=q1R.mp (gv.all hd);exact q1M pins s σ H _ us Q I r ⟨a,_,by rw[e1],.inl e2.sq,λq hq=>p _ _ (q0p hq) (q1P hd hq (q1B _))⟩
 ·cases hb;obtain⟨v,rfl,gv⟩:=g.one;obtain⟨a,ys,e1,e2,e3⟩:=gv.lstC hd;exact q1M pins s σ H _ us Q I r ⟨a,ys,by rw[e1],.inl (SqL.of e2),λq hq=>p _ _ (q0p hq) (q3R hd hq e3)⟩
 ·cases hb;obtain⟨v,rfl,gv⟩:=g.one;obtain⟨a,ys,e1,e2,e3⟩:=gv.tupC hd;exact q1M pins s σ H _ us Q I r ⟨a,ys,by rw[e1],.inr e2,λq hq=>p _ _ (q0p hq) (q3R hd hq e3)⟩
 ·cases hb
theorem q5i:∀{ds:List DV} {ns:List Int},ints? ds=some ns->ds=ns.map DV.int
 | [],ns,h=>by cases h;rfl
 | .int i::ds,ns,h=>by have h':(ints? ds).map (i :: ·)=some ns:=h;obtain⟨ms,e1,e2⟩:=Option.map_eq_some_iff.mp h';rw[←e2,List.map_cons,q5i e1]
 | .non::_,_,h=>by cases h
 | .bl _::_,_,h=>by cases h
 | .str _::_,_,h=>by cases h
 | .tup _::_,_,h=>by cases h
 | .lst _::_,_,h=>by cases h
 | .dct _ _::_,_,h=>by cases h
 | .exc _::_,_,h=>by cases h
 | .fn _::_,_,h=>by cases h
 | .scr _::_,_,h=>by cases h
theorem z1N:∀l re,q7P l=some re->∃d c,re=.ok d c:=λl re h=>by
 unfold q7P at h;split at h
 ·split at h
  ·cases h;exact⟨_,_,rfl⟩
  ·cases h
 ·cases h
theorem z2X:q1q X (.type "list") (biR X q7P):=by
 intro pins s σ H xs us Q I r h;obtain⟨l,re,O,W,H0,hb,hd,g,d,c,rfl,p⟩:=h;unfold q7P at hb;split at hb
 ·split at hb
  ·rename_i ns hq;cases hb;obtain⟨v,rfl,gv⟩:=g.one;obtain⟨a,ys,e1,e2,e3⟩:=gv.lst hd;have e4:=q2G hq e3;subst e4;have e5:=q5i hq;subst e5;exact q1M pins s σ H _ us Q I r ⟨a,_,by rw[e1],.inl (SqL.of e2),λq hq=>p _ _ (q0p hq) (q1P hd hq (q1B _))⟩
  ·cases hb
 ·cases hb
theorem z1E:q1q X (.type "tuple") (biR X q4C):=by
 intro pins s σ H xs us Q I r h;obtain⟨l,re,O,W,H0,hb,hd,g,d,c,rfl,p⟩:=h;unfold q4C at hb;split at hb
 ·cases hb;obtain⟨v,rfl,gv⟩:=g.one;obtain⟨a,ys,e1,e2,e3⟩:=gv.lstC hd;exact q3d pins s σ H _ us Q I r ⟨a,ys,by rw[e1],.inl ⟨SqL.of e2,λq hq=>p _ _ (q0p hq) (q7K hd hq e3)⟩⟩
 ·cases hb;obtain⟨v,rfl,gv⟩:=g.one;obtain⟨a,ys,e1,e2,e3⟩:=gv.tupC hd;exact q3d pins s σ H _ us Q I r ⟨a,ys,by rw[e1],.inr ⟨e2,p _ _ (Same.refl H) (by rw[←e1];exact gv)⟩⟩
 ·cases hb
end
def tyS:DV->Option String
 | .non=>some "NoneType" | .bl _=>some "bool" | .int _=>some "int" | .str _=>some "str" | .tup _=>some "tuple" | .lst _=>some "list" | .dct _ _=>some "dict"
 | _=>none
def z5u(T t:String):Option Bool:=if(Value.type T==Value.type t)=true then some true else if PySem.W.kitMeta t=true then(fastBuiltinMro T).map (·.contains (.type t))else none
theorem q9Q:(["NoneType","bool","int","str","tuple","list","dict"]:List String).all (λT=>(["int","bool","str","list","tuple","dict"]:List String).all λt=>z5u T t==some (T==t||(T == "bool" && t == "int")))=true:=by decide +kernel
theorem q3A{K:PySem.W.Frag}(T t:String)(h1:T∈["NoneType","bool","int","str","tuple","list","dict"])(h2:t∈["int","bool","str","list","tuple","dict"]) :
  PySem.W.kitOne K (.type T) (.type t)=some (T==t||(T == "bool" && t == "int")):=by
 have q:=List.all_eq_true.mp (List.all_eq_true.mp q9Q T h1) t h2;exact(show z5u T t=_ from by simpa using q)
section
variable {X:Cx} {E:St->XK} {δ:List Sv} {e e':Expr} {pos p p':Pos} {re:Re} {ra:Option Re}
theorem z5U{pins:List (Addr×Obj)}{σ:St}{H:Hp}{s:Shared}{Q:Value->Shared->Prop}{EE:Value->Shared->Prop}{d:DV}{v:V}{u:Value}{T t:String}(I:Inv X pins σ H s)(r:Rep X.D H d v)(rv:RelV v u)(hT:tyS d=some T)(ht:t∈["int","bool","str","list","tuple","dict"])
  (h:∀tk,Q (.bool (T==t||(T == "bool" && t == "int"))) {s with toks:=tk}):wpAny (model X.prog X.w) X.A (call (.builtin "isinstance") [u,.type t]) Q EE s:=by
 cases d with
 | non=>cases hT;rw[q3w.mp r]at rv;cases rv;exact PySem.W.kia_one PySem.W.kitx_none I.kIn True.intro (q3A _ _ (by simp) ht) (λz=>nomatch z) h
 | bl b=>cases hT;rw[q3E.mp r]at rv;cases rv;exact PySem.W.kia_one PySem.W.kitx_bool I.kIn True.intro (q3A _ _ (by simp) ht) (λz=>nomatch z) h
 | int b=>cases hT;rw[q0J.mp r]at rv;obtain⟨tk,rfl⟩:=rv;exact PySem.W.kia_one PySem.W.kitx_int I.kIn True.intro (q3A _ _ (by simp) ht) (λz=>nomatch z) h
 | str b=>cases hT;rw[(q2B.mp r).1]at rv;obtain⟨tk,rfl⟩:=rv;exact PySem.W.kia_one PySem.W.kitx_str I.kIn True.intro (q3A _ _ (by simp) ht) (λz=>nomatch z) h
 | tup ds=>
  cases hT;obtain⟨a,xs,e1,e2,e3⟩:=q0G.mp r;rw[e1]at rv;cases rv;obtain⟨its,_,⟨o,h1,h2,_⟩,_⟩:=I.tuple e2;exact PySem.W.kia_one PySem.W.kitx_tuple I.kIn ⟨o,h1,h2⟩ (q3A _ _ (by simp) ht) (λz=>nomatch z) h
 | lst ds=>
  cases hT;obtain⟨a,xs,e1,e2,e3⟩:=q0z.mp r;rw[e1]at rv;cases rv;obtain⟨_,its,n,_,_,h1⟩:=I.lstM e2;exact PySem.W.kia_one PySem.W.kitx_list I.kIn ⟨_,h1,rfl⟩ (q3A _ _ (by simp) ht) (λz=>nomatch z) h
 | dct ks vs=>
  cases hT;rcases q3s.mp r with⟨a,ob,kvs,e1,e2,_⟩ | ⟨a,ob,kvs,e1,e2,_⟩
  ·rw[e1]at rv;cases rv;obtain⟨_,_,_,_,_,⟨o,_,_,h1,h2,_⟩⟩:=(show q1J X.prog X.w H s.heap a (.frz ob (.dK kvs))from I.hok a _ e2);exact PySem.W.kia_one PySem.W.kitx_dict I.kIn ⟨o,h1,h2.1⟩ (q3A _ _ (by simp) ht) (λz=>nomatch z) h
  ·rw[e1]at rv;cases rv;obtain⟨_,_,_,_,_,o,_,_,h1,h2,_⟩:=(show q1J X.prog X.w H s.heap a (.frz ob (.dT kvs))from I.hok a _ e2);exact PySem.W.kia_one PySem.W.kitx_dict I.kIn ⟨o,h1,h2.1⟩ (q3A _ _ (by simp) ht) (λz=>nomatch z) h
 | exc _=>cases hT
 | fn _=>cases hT
 | scr _=>cases hT
def rIsi(X:Cx):List V->Hp->VK->Prop:=λxs H Q=>∃d T t x,xs=[x,.ty t]/\Rep X.D H d x/\tyS d=some T/\t∈["int","bool","str","list","tuple","dict"]/\Q (.bl (T==t||(T == "bool" && t == "int"))) H
theorem z0Y:q1q X (.builtin "isinstance") (rIsi X):=by
 intro pins s σ H xs us Q I r h;obtain⟨d,T,t,x,rfl,r1,hT,ht,q⟩:=h;obtain⟨u,w',rfl,ru,rw'⟩:=z1B r;cases rw';exact z5U I r1 ru hT ht λtk=>⟨.bl _,H,I.tok tk,rfl,q⟩
def q4P:Str->Option String:=λx=>(["int","bool","str","list","tuple","dict"]:List String).find? λt=>Str.ofString t==x
theorem q9m{x:Str}{t:String}(h:q4P x=some t):bootBuiltins x=some (.type t)/\t∈["int","bool","str","list","tuple","dict"]/\Str.ofString t=x:=by
 unfold q4P at h;have h1:=List.find?_some h;have h2:=List.mem_of_find?_eq_some h;have h3:Str.ofString t=x:=by simpa using h1
 refine⟨?_,h2,h3⟩;subst h3;simp only[List.mem_cons,List.not_mem_nil,or_false]at h2;rcases h2 with rfl | rfl | rfl | rfl | rfl | rfl
 ·exact boot_int
 ·exact boot_bool
 ·exact boot_str
 ·exact boot_list
 ·exact boot_tuple
 ·exact boot_dict
def q9z:String->List Str
 | "NoneType"=>["NoneType"] | "bool"=>["bool","int"] | "int"=>["int"] | "str"=>["str"] | "tuple"=>["tuple"] | "list"=>["list"] | "dict"=>["dict"]
 | _=>[]
theorem q6s:(["NoneType","bool","int","str","tuple","list","dict"]:List String).all (λT=>(["int","bool","str","list","tuple","dict"]:List String).all λt=>(q9z T).contains (Str.ofString t)==(T==t||(T == "bool" && t == "int")))=true:=by decide +kernel
theorem z6D{d:DV}{x:Str}{t T:String}(h:q4P x=some t)(hT:tyS d=some T):(tyOf d).contains x=(T==t||(T == "bool" && t == "int")):=by
 obtain⟨_,h2,h3⟩:=q9m h;subst h3;have key:∀T∈(["NoneType","bool","int","str","tuple","list","dict"]:List String),(q9z T).contains (Str.ofString t)=(T==t||(T == "bool" && t == "int")):=λT hT=>by have q:=List.all_eq_true.mp (List.all_eq_true.mp q6s T hT) t h2;simpa using q
 cases d<;>cases hT
 ·exact key "NoneType" (by simp)
 ·exact key "bool" (by simp)
 ·exact key "int" (by simp)
 ·exact key "str" (by simp)
 ·exact key "tuple" (by simp)
 ·exact key "list" (by simp)
 ·exact key "dict" (by simp)
theorem z3l{G:Gs}{x:Str}{t:String}(ht:q4P x=some t)(hg:Gl X "isinstance")(hm:X.mg "isinstance" = none)(hgx:Gl X x)(hmx:X.mg x=none)(hnx:x ≠ "__name__")(hdx:(x==("__debug__" : Str))=false)
  (ha:∀q,ra=some q->PE X e (dE X.D E δ q)) (hs:q0j e=false) (h:(Re.thn ra λy _=>(isiD G y [x]).map λk=>.ok (.bl k) .strong)=some re):PE X (.Call (.Name "isinstance" p) [e,.Name x p'] [] pos) (dE X.D E δ re):=by
 obtain⟨b1,b2,b3⟩:=q9m ht;have T:PE X (.Name x p') (tC (.ty t)):=q8Z hgx hmx b1 rfl hnx hdx;have C:=λta (hA:PE X e ta)=>q5m (p:=p) (pos:=pos) z0Y hg hm boot_isinstance (q0W hA (q0W T q3k) (q0k hs)) (by decide) (by decide) (q0k hs)
 cases hra:ra with
 | none=>rw[hra]at h;cases h
 | some q=>
  rw[hra]at h;have A:=ha q hra;cases q with
  | ex c=>cases h;exact(C _ A).weak λσ H Q ⟨O,W,R,p⟩=>⟨O,W,R,p⟩
  | ok d cl=>
   obtain⟨k,e1,e2⟩:=Option.map_eq_some_iff.mp (show((isiD G d [x]).map λk=>Re.ok (.bl k) .strong)=some re from h);cases e2;have key:∃T,tyS d=some T/\k=(tyOf d).contains x:=by
    unfold isiD at e1;have px:q2x.contains x=true:=by
     rw[←b3];simp only[List.mem_cons,List.not_mem_nil,or_false]at b2;rcases b2 with rfl | rfl | rfl | rfl | rfl | rfl<;>decide +kernel
    cases d<;>first
     | (simp only[px,if_true]at e1;cases e1;exact⟨_,rfl,rfl⟩)
     | cases e1
   obtain⟨T,hT,hk⟩:=key;exact(C _ A).weak λσ H Q ⟨O,W,R,p⟩=>⟨O,W,R,λv H1 s1 g1=>⟨d,T,t,v,rfl,g1.all (R.hid.mono s1),hT,b2,by rw[←z6D ht hT,←hk];exact p _ H1 s1 q3c⟩⟩
end
end L2
end
noncomputable section
namespace L2
open PySem PySem.Spec PyProof.Rows
section
variable {X:Cx} {E:St->XK} {δ:List Sv} {v:Expr} {te:TE} {pos kpos:Pos} {i:Int} {j:Nat}
theorem Inv.notSys{pins:List (Addr×Obj)}{σ:St}{H:Hp}{s:Shared}(I:Inv X pins σ H s){a:Addr}(h:s.heap.objs.size<=a):(a==sysModules)=false:=by
 have h1:mainGlobals<X.base.objs.size:=I.mod.glob.lt;have h2:=Nat.le_trans I.ok.bsz I.sz;have:(1:Nat)<a:=Nat.lt_of_lt_of_le (Nat.lt_of_le_of_lt (by decide:(1:Nat)<=mainGlobals) h1) (Nat.le_trans h2 h);exact beq_eq_false_iff_ne.mpr (Nat.ne_of_gt this)
theorem q4n{O:List Addr}{H:Hp}{p b:Addr}{o u:HO}(hp:H p=some (.dK []))(h:L2.wo O H b=some u)(hu:u ≠ .dK []):L2.wo O (upd H p o) b=some u:=by
 obtain⟨hb,e⟩:=q0M h;rw[q0o hb,q0l (λz=>by rw[z,hp]at e;cases e;exact hu rfl)];exact e
mutual
theorem z3N{D:Dm}{O:List Addr}{H:Hp}{p:Addr}{o:HO}(hp:H p=some (.dK [])):∀{d:DV} {v:V},Rep D (L2.wo O H) d v->Rep D (L2.wo O (upd H p o)) d v
 | .non,_,h=>by unfold Rep at h ⊢;exact h
 | .bl _,_,h=>by unfold Rep at h ⊢;exact h
 | .int _,_,h=>by unfold Rep at h ⊢;exact h
 | .str _,_,h=>by unfold Rep at h ⊢;exact h
 | .tup ds,_,h=>by
  unfold Rep at h ⊢;obtain⟨a,xs,e1,e2,e3⟩:=h;refine⟨a,xs,e1,?_,q3n hp e3⟩;rcases e2 with(h | ⟨o,h⟩) | h
  ·exact .inl (.inl (q4n hp h (by intro z;cases z)))
  ·exact .inl (.inr ⟨o,q4n hp h (by intro z;cases z)⟩)
  ·exact .inr h
 | .lst ds,_,h=>by unfold Rep at h ⊢;obtain⟨a,xs,e1,e2,e3⟩:=h;exact⟨a,xs,e1,q4n hp e2 (by intro z;cases z),q3n hp e3⟩
 | .dct _ _,_,h=>by
  unfold Rep at h ⊢;rcases h with⟨a,ob,kvs,e1,e2,e3,e4⟩ | ⟨a,ob,kvs,e1,e2,e3,e4⟩
  ·exact .inl ⟨a,ob,kvs,e1,q4n hp e2 (by intro z;cases z),e3,q3n hp e4⟩
  ·exact .inr ⟨a,ob,kvs,e1,q4n hp e2 (by intro z;cases z),e3,q3n hp e4⟩
 | .exc C,_,h=>by unfold Rep at h ⊢;obtain⟨a,C,e1,e2,e3⟩:=h;exact⟨a,C,e1,e2,q4n hp e3 (by intro z;cases z)⟩
 | .fn _,_,h=>by unfold Rep at h ⊢;exact h
 | .scr _,_,h=>by
  unfold Rep at h ⊢;obtain⟨a,e1,e2⟩:=h;refine⟨a,e1,?_⟩;rcases e2 with⟨o,h⟩ | h
  ·exact .inl ⟨o,q4n hp h (by intro z;cases z)⟩
  ·exact .inr h
theorem q3n{D:Dm}{O:List Addr}{H:Hp}{p:Addr}{o:HO}(hp:H p=some (.dK [])):∀{ds:List DV} {xs:List V},RepL D (L2.wo O H) ds xs->RepL D (L2.wo O (upd H p o)) ds xs
 | [],_,h=>by unfold RepL at h ⊢;exact h
 | d::ds,_,h=>by unfold RepL at h ⊢;obtain⟨v,vs,e1,e2,e3⟩:=h;exact⟨v,vs,e1,z3N hp e2,q3n hp e3⟩
end
theorem z4q:PE X (.Dict [] [] pos) (λσ H Q=>∀a o,H a=none->Q (.ref a) (upd H a (.frz o (.dK [])))):=λpins s σ H Q I h=>
 wpAny_Dict_empty ⟨.ref s.heap.objs.size,_,I.laid (a:=s.heap.objs.size) (o:=.frz {cls:=.type "dict",data:=.dict #[]} (.dK [])) (t':=s.toks) (λ_ _ q=>Heap.get?_push_of_some _ q) (Nat.le_refl _) ⟨Heap.get?_push_size _ rfl,Nat.zero_le _,I.notSys (Nat.le_refl _),[],.nil,Heap.DictOf.new _⟩,rfl,h _ _ (I.hok.fresh (Nat.le_refl _))⟩
theorem z3w:PE X (.Dict [] [] pos) (dE X.D E δ (.ok (.dct [] []) .strong)):=
 z4q.weak λσ H Q ⟨O,W,R,p⟩ a ob ha=>p _ _ (q0p ha) (q3s.mpr (.inl ⟨a,ob,_,rfl,by rw[q0o λz=>R.hid.ot a z ha];exact q0D,rfl,q0t.mpr rfl⟩):Rep X.D (L2.wo (O++W) _) (.dct [] []) _)
end
end L2
end
noncomputable section
namespace L2
open PySem PySem.Spec PyProof.Rows
structure Wk(D:Dm)(J:It)(ds:List DV)(Oc Oi:List Addr)(H1:Hp):Prop where
 go:∀i H,Same (L2.wo Oc H1) (L2.wo Oc H)->i<ds.length->J.go i H
 same:∀i H x H',J.yld i H x H'->Same H H'
 yld:∀i H x H' d O2,Same (L2.wo Oc H1) (L2.wo Oc H)->Same (L2.wo Oi H1) (L2.wo Oi H)->J.yld i H x H'->ds[i]? = some d->(∀a∈O2,H a≠none/\(a∈Oi\/H1 a=none))->Rep D (L2.wo O2 H') d x
 stop:∀H,Same (L2.wo Oc H1) (L2.wo Oc H)->J.stop ds.length H
def hidW(O W:List Addr):Cl->List Addr
 | .top=>O
 | .weak=>O
 | _=>O++W
def z7I(D:Dm)(E:St->XK)(σ:St)(O W:List Addr)(H:Hp)(R:It->Hp->Prop):Ri->Prop
 | .ok ds c=>∀J H',Same H H'->Wk D J ds (hidW O W c) (q0Y O W c) H'->R J H'
 | .ex c=>∀H' C,D.mg c=some C->Same H H'->E σ C none H'
def dI(D:Dm)(E:St->XK)(δ:List Sv)(r:Ri):TI:=λσ H R=>∃O W,RSt D H σ δ O W/\z7I D E σ O W H R r
theorem PI.weak{X:Cx}{tg iter:Expr}{t t':TI}(h:PI X tg iter t)(k:∀σ H R,t' σ H R->t σ H R):PI X tg iter t':=λpins s σ H R I q=>h pins s σ H R I (k σ H R q)
theorem q7k{O O2:List Addr}{H1 H:Hp}(s:Same (L2.wo O H1) (L2.wo O H))(h:∀a∈O2,H a≠none/\(a∈O\/H1 a=none)):Same (L2.wo O H1) (L2.wo O2 H):=λb o e=>by
 have q:=s b o e;obtain⟨hb,e⟩:=q0M e;obtain⟨_,q⟩:=q0M q;rw[q0o λz=>?_]
 ·exact q
 ·rcases(h b z).2 with w | w
  ·exact hb w
  ·rw[w]at e;cases e
theorem Wk.list{D:Dm}{ds:List DV}{Oc Oi:List Addr}{H1:Hp}{a:Addr}{xs:List V}(h:SqL D.K (L2.wo Oc H1) a xs)(r:RepL D (L2.wo Oi H1) ds xs):Wk D (Itl D.K a) ds Oc Oi H1 where
 go:=λi H s hi=>⟨xs,xs[i]'(by rw[r.length];exact hi),q0T.seq (s.seq h),List.getElem?_eq_getElem _⟩
 same:=λi H x H' y=>by rw[y.1];exact Same.refl _
 yld:=λi H x H' d O2 s s' y e ho=>by obtain⟨e1,y⟩:=y;subst e1;obtain⟨v,q1,q2⟩:=r.get e;have:=y xs (q0T.seq (s.seq h));rw[q1]at this;cases this;exact q2.mono (q7k s' ho)
 stop:=λH s=>⟨xs,q0T.seq (s.seq h),by rw[r.length];exact Nat.le_refl _⟩
theorem Wk.tup{D:Dm}{ds:List DV}{Oc Oi:List Addr}{H1:Hp}{a:Addr}{xs:List V}(h:SqT D.K (L2.wo Oc H1) a xs)(r:RepL D (L2.wo Oi H1) ds xs):Wk D (Itt D.K a) ds Oc Oi H1 where
 go:=λi H s hi=>⟨xs,xs[i]'(by rw[r.length];exact hi),q0T.tseq (s.tseq h),List.getElem?_eq_getElem _⟩
 same:=λi H x H' y=>by rw[y.1];exact Same.refl _
 yld:=λi H x H' d O2 s s' y e ho=>by obtain⟨e1,y⟩:=y;subst e1;obtain⟨v,q1,q2⟩:=r.get e;have:=y xs (q0T.tseq (s.tseq h));rw[q1]at this;cases this;exact q2.mono (q7k s' ho)
 stop:=λH s=>⟨xs,q0T.tseq (s.tseq h),by rw[r.length];exact Nat.le_refl _⟩
theorem q2U(lo:Int)(n:Nat):(upTo lo n).length=n:=by unfold upTo;rw[List.length_map,List.length_range]
theorem z1K{lo:Int}{n i:Nat}{d:DV}(h:(upTo lo n)[i]? = some d):i<n/\d=.int (lo+i):=by
 have hl:i<n:=by have:=(List.getElem?_eq_some_iff.mp h).1;rw[q2U]at this;exact this
 unfold upTo at h;rw[List.getElem?_map,List.getElem?_range hl]at h;cases h;exact⟨hl,rfl⟩
theorem Wk.range{D:Dm}{Oc Oi:List Addr}{H1:Hp}(lo:Int)(n:Nat):Wk D (Itr lo n) (upTo lo n) Oc Oi H1 where
 go:=λi H s hi=>by rw[q2U]at hi;exact hi
 same:=λi H x H' y=>by rw[y.1];exact Same.refl _
 yld:=λi H x H' d O2 s s' y e ho=>by obtain⟨e1,y⟩:=y;subst e1;obtain⟨_,e2⟩:=z1K e;subst e2;exact q0J.mpr y
 stop:=λH s=>by rw[q2U];exact Nat.le_refl _
theorem q2g(hi:Int)(n:Nat):(q4R hi n).length=n:=by unfold q4R;rw[List.length_map,List.length_range]
theorem q8m{hi:Int}{n i:Nat}{d:DV}(h:(q4R hi n)[i]? = some d):i<n/\d=.int (hi - i):=by
 have hl:i<n:=by have:=(List.getElem?_eq_some_iff.mp h).1;rw[q2g]at this;exact this
 unfold q4R at h;rw[List.getElem?_map,List.getElem?_range hl]at h;cases h;exact⟨hl,rfl⟩
theorem Wk.down{D:Dm}{Oc Oi:List Addr}{H1:Hp}(hi:Int)(n:Nat):Wk D (Itd hi n) (q4R hi n) Oc Oi H1 where
 go:=λi H s h=>by rw[q2g]at h;exact h
 same:=λi H x H' y=>by rw[y.1];exact Same.refl _
 yld:=λi H x H' d O2 s s' y e ho=>by obtain⟨e1,y⟩:=y;subst e1;obtain⟨_,e2⟩:=q8m e;subst e2;exact q0J.mpr y
 stop:=λH s=>by rw[q2g];exact Nat.le_refl _
section
variable {X:Cx} {E:St->XK} {δ:List Sv} {tg e e':Expr} {es:List Expr} {pos p:Pos} {ra rb:Option Re} {rs:Option Rs} {ri:Ri}
theorem Got.walkL{D:Dm}{O W:List Addr}{H0 H:Hp}{ds:List DV}{c:Cl}{v:V}(g:Got D O W H0 H (.lst ds) c v)(hd:Hid O W H0 H):∃a xs,v=.ref a/\SqL D.K (L2.wo (hidW O W c) H) a xs/\RepL D (L2.wo (q0Y O W c) H) ds xs:=by
 cases c with
 | weak=>obtain⟨a,xs,e1,e2,e3⟩:=q0z.mp g;exact⟨a,xs,e1,SqL.of e2,e3⟩
 | top=>obtain⟨a,xs,e1,e0,e2,e3⟩:=g;exact⟨a,xs,e1,SqL.of e2,e3⟩
 | strong=>obtain⟨a,xs,e1,e2,e3⟩:=q0z.mp g;exact⟨a,xs,e1,SqL.of e2,e3⟩
 | fresh=>obtain⟨a,xs,e1,e2,e3⟩:=q0z.mp (g.strong hd);exact⟨a,xs,e1,SqL.of e2,e3⟩
 | ft=>obtain⟨a,xs,e1,e2,e3⟩:=q0z.mp (g.ft hd);exact⟨a,xs,e1,SqL.of e2,e3⟩
theorem Got.walkT{D:Dm}{O W:List Addr}{H0 H:Hp}{ds:List DV}{c:Cl}{v:V}(g:Got D O W H0 H (.tup ds) c v)(hd:Hid O W H0 H):∃a xs,v=.ref a/\SqT D.K (L2.wo (hidW O W c) H) a xs/\RepL D (L2.wo (q0Y O W c) H) ds xs:=by
 cases c with
 | weak=>exact q0G.mp g
 | top=>
  obtain⟨a,xs,e1,e2,e3⟩:=q0G.mp (show Rep D (L2.wo (O++W) H) (.tup ds) v from g);exact⟨a,xs,e1,(q0I q6p).tseq e2,e3⟩
 | strong=>exact q0G.mp g
 | fresh=>obtain⟨_,_,_,_,q,_⟩:=g;cases q
 | ft=>exact q0G.mp (g.ft hd)
theorem Got.walkS{D:Dm}{O W:List Addr}{H0 H:Hp}{ns:List Int}{c:Cl}{v:V}(g:Got D O W H0 H (.scr ns) c v)(hd:Hid O W H0 H):∃a,v=.ref a/\SqL D.K (L2.wo (hidW O W c) H) a (ns.map V.int):=by
 cases c with
 | weak=>obtain⟨a,e1,e2⟩:=q1R.mp g;exact⟨a,e1,e2.sq⟩
 | top=>obtain⟨a,e1,e2⟩:=q1R.mp (show Rep D (L2.wo (O++W) H) (.scr ns) v from g);exact⟨a,e1,(q0I q6p).seq e2.sq⟩
 | strong=>obtain⟨a,e1,e2⟩:=q1R.mp g;exact⟨a,e1,e2.sq⟩
 | fresh=>obtain⟨_,_,_,_,q,_⟩:=g;cases q
 | ft=>obtain⟨a,e1,e2⟩:=q1R.mp (g.ft hd);exact⟨a,e1,e2.sq⟩
theorem q7y(ha:∀q,ra=some q->PE X e (dE X.D E δ q))(h:q0A ra=some ri):PI X tg e (dI X.D E δ ri):=by
 cases hra:ra with
 | none=>rw[hra]at h;cases h
 | some q=>
  rw[hra]at h;have A:=ha q hra;cases q with
  | ex c=>cases h;exact(q6M A).weak λσ H R' ⟨O,W,R,p⟩=>⟨O,W,R,p⟩
  | ok d c=>
   obtain⟨ds,e1,e2⟩:=Option.map_eq_some_iff.mp (show((seqD d).map λds=>Ri.ok ds c)=some ri from h);cases e2;unfold seqD at e1;split at e1
   ·cases e1;exact(q6M A).weak λσ H R' ⟨O,W,R,p⟩=>⟨O,W,R,λv H1 s1 g1=>by
     obtain⟨a,e1,e2⟩:=g1.walkS (R.hid.mono s1);exact⟨a,e1,⟨_,q0T.seq e2⟩,p _ H1 s1 (.list e2 (q1B _))⟩⟩
   ·cases e1;exact(q6M A).weak λσ H R' ⟨O,W,R,p⟩=>⟨O,W,R,λv H1 s1 g1=>by
     obtain⟨a,xs,e1,e2,e3⟩:=g1.walkL (R.hid.mono s1);exact⟨a,e1,⟨xs,q0T.seq e2⟩,p _ H1 s1 (.list e2 e3)⟩⟩
   ·cases e1;exact(z6p A).weak λσ H R' ⟨O,W,R,p⟩=>⟨O,W,R,λv H1 s1 g1=>by
     obtain⟨a,xs,e1,e2,e3⟩:=g1.walkT (R.hid.mono s1);exact⟨a,e1,⟨xs,q0T.tseq e2⟩,p _ H1 s1 (.tup e2 e3)⟩⟩
   ·cases e1
theorem q2a{i:Int}(h:q0R i=true) : -(2^62)<=i/\i<2^62:=by
 unfold q0R at h;simpa[Bool.and_eq_true]using h
theorem q5C{o:Option (List DV)}{ri:Ri}(h:q0A (o.map λds=>Re.ok (.lst ds) .fresh)=some ri):∃ds,o=some ds/\ri=.ok ds .fresh:=by
 cases o with
 | none=>cases h
 | some ds=>cases h;exact⟨ds,rfl,rfl⟩
theorem q8l(hg:Gl X "range")(hm:X.mg "range" = none)(ha:∀q,rs=some q->PA X [e] (dA X.D E δ q))(hs:q0j e=false)(h:q0A (Rs.thn rs λl=>(rngD l).map λds=>Re.ok (.lst ds) .fresh)=some ri)(hl:∀l,rs=some (.ok l)->l.length=1) :
  PI X tg (.Call (.Name "range" p) [e] [] pos) (dI X.D E δ ri):=by
 have C:=λt (hA:PA X [e] t)=>q9s (tg:=tg) (p:=p) (pos:=pos) hg hm hA (q0k hs);cases hrs:rs with
 | none=>rw[hrs]at h;cases h
 | some q=>
  rw[hrs]at h;have A:=ha q hrs;cases q with
  | ex c=>cases h;exact(C _ A).weak λσ H R' ⟨O,W,R,p⟩=>⟨O,W,R,p⟩
  | ok l=>
   have l1:=hl l hrs;obtain⟨ds,e1,e2⟩:=q5C (show q0A ((rngD l).map λds=>Re.ok (.lst ds) .fresh)=some ri from h);cases e2;unfold rngD at e1;split at e1
   ·rename_i j c;split at e1
    ·rename_i m;cases e1;rw[Bool.and_eq_true]at m;have q:=q2a m.1;exact(C _ A).weak λσ H R' ⟨O,W,R,p⟩=>⟨O,W,R,λvs H1 s1 g1=>by
      obtain⟨v,rfl,gv⟩:=g1.one;exact⟨j,by rw[gv.int (R.hid.mono s1)],q.1,q.2,p _ H1 s1 (.range _ _)⟩⟩
    ·cases e1
   ·cases l1
   ·cases l1
   ·cases e1
theorem q7R(hg:Gl X "range")(hm:X.mg "range" = none)(ha:∀q,rs=some q->PA X [e,e'] (dA X.D E δ q))(hs:q0j e=false)(hs':q0j e'=false)(h:q0A (Rs.thn rs λl=>(rngD l).map λds=>Re.ok (.lst ds) .fresh)=some ri)(hl:∀l,rs=some (.ok l)->l.length=2) :
  PI X tg (.Call (.Name "range" p) [e,e'] [] pos) (dI X.D E δ ri):=by
 have C:=λt (hA:PA X [e,e'] t)=>q8T (tg:=tg) (p:=p) (pos:=pos) hg hm hA (by rw[q0k hs,q0k hs'];rfl) (q0k hs');cases hrs:rs with
 | none=>rw[hrs]at h;cases h
 | some q=>
  rw[hrs]at h;have A:=ha q hrs;cases q with
  | ex c=>cases h;exact(C _ A).weak λσ H R' ⟨O,W,R,p⟩=>⟨O,W,R,p⟩
  | ok l=>
   have l1:=hl l hrs;obtain⟨ds,e1,e2⟩:=q5C (show q0A ((rngD l).map λds=>Re.ok (.lst ds) .fresh)=some ri from h);cases e2;unfold rngD at e1;split at e1
   ·cases l1
   ·rename_i i c j c';split at e1
    ·rename_i m;cases e1;rw[Bool.and_eq_true,Bool.and_eq_true]at m;have q:=q2a m.1.1;have q':=q2a m.1.2;exact(C _ A).weak λσ H R' ⟨O,W,R,p⟩=>⟨O,W,R,λvs H1 s1 g1=>by
      obtain⟨v,v',rfl,gv,gv'⟩:=g1.two;exact⟨i,j,by rw[gv.int (R.hid.mono s1),gv'.int (R.hid.mono s1)],⟨q.1,q.2,q'.1,q'.2⟩,p _ H1 s1 (.range _ _)⟩⟩
    ·cases e1
   ·cases l1
   ·cases e1
theorem q7X{e'':Expr}(hg:Gl X "range")(hm:X.mg "range" = none)(ha:∀q,rs=some q->PA X [e,e',e''] (dA X.D E δ q))(hs:q0j e=false)(hs':q0j e'=false)(hs'':q0j e''=false)(h:q0A (Rs.thn rs λl=>(rngD l).map λds=>Re.ok (.lst ds) .fresh)=some ri)(hl:∀l,rs=some (.ok l)->l.length=3) :
  PI X tg (.Call (.Name "range" p) [e,e',e''] [] pos) (dI X.D E δ ri):=by
 have C:=λt (hA:PA X [e,e',e''] t)=>q8X (tg:=tg) (p:=p) (pos:=pos) hg hm hA (by rw[q0k hs,q0k hs',q0k hs''];rfl) (by rw[q0k hs',q0k hs''];rfl);cases hrs:rs with
 | none=>rw[hrs]at h;cases h
 | some q=>
  rw[hrs]at h;have A:=ha q hrs;cases q with
  | ex c=>cases h;exact(C _ A).weak λσ H R' ⟨O,W,R,p⟩=>⟨O,W,R,p⟩
  | ok l=>
   have l1:=hl l hrs;obtain⟨ds,e1,e2⟩:=q5C (show q0A ((rngD l).map λds=>Re.ok (.lst ds) .fresh)=some ri from h);cases e2;unfold rngD at e1;split at e1
   ·cases l1
   ·cases l1
   ·rename_i i c j c' k c'';split at e1
    ·rename_i m;cases e1;rw[Bool.and_eq_true,Bool.and_eq_true,Bool.and_eq_true,decide_eq_true_eq,decide_eq_true_eq]at m;have q:=q2a m.1.1.1;have q':=q2a m.1.1.2;have k1:=m.2;subst k1;exact(C _ A).weak λσ H R' ⟨O,W,R,p⟩=>⟨O,W,R,λvs H1 s1 g1=>by
      obtain⟨v,v',v'',rfl,gv,gv',gv''⟩:=g1.three;exact⟨i,j,by rw[gv.int (R.hid.mono s1),gv'.int (R.hid.mono s1),gv''.int (R.hid.mono s1)],⟨q.1,q.2,q'.1,q'.2⟩,p _ H1 s1 (.down _ _)⟩⟩
    ·cases e1
   ·cases e1
end
def q7H:List Nat->TGs
 | []=>gNil
 | i::is=>z6W (q7Z i) (q7H is)
def gT(K:PySem.W.Frag):Tg->TG
 | .one i=>q7Z i
 | .many is=>gTup K is.length (q7H is)
theorem RSt.setVal{D:Dm}{H:Hp}{σ:St}{δ:List Sv}{O W:List Addr}{v:V}{d:DV}(R:RSt D H σ δ O W)(r:Rep D (L2.wo (O++W) H) d v)(i:Nat):RSt D H (σ.set i (some v)) (δ.set i (.val d)) O W where
 val:=λj d' h=>by
  by_cases hj:j=i
  ·subst hj;have hl:j<δ.length:=by
    have:=(List.getElem?_eq_some_iff.mp h).1;rw[List.length_set]at this;exact this
   rw[List.getElem?_set_self hl]at h;cases h;exact⟨v,List.getElem?_set_self (by rw[R.len];exact hl),r⟩
  ·rw[List.getElem?_set_ne (Ne.symm hj)]at h ⊢;exact R.val j d' h
 own:=λj ds' h=>by
  by_cases hj:j=i
  ·subst hj;have hl:j<δ.length:=by
    have:=(List.getElem?_eq_some_iff.mp h).1;rw[List.length_set]at this;exact this
   rw[List.getElem?_set_self hl]at h;cases h
  ·rw[List.getElem?_set_ne (Ne.symm hj)]at h ⊢;exact R.own j ds' h
 inj:=λj k a d1 d2 h1 h2 e1 e2=>by
  have ne:∀{j:Nat} {d1:DV},(δ.set i (.val d))[j]? = some (.own d1)->j≠i:=λ{j d1} h1 z=>by
   subst z;have hl:j<δ.length:=by have:=(List.getElem?_eq_some_iff.mp h1).1;rw[List.length_set]at this;exact this
   rw[List.getElem?_set_self hl]at h1;cases h1
  have n1:=ne h1;have n2:=ne h2;rw[List.getElem?_set_ne (Ne.symm n1)]at h1 e1;rw[List.getElem?_set_ne (Ne.symm n2)]at h2 e2;exact R.inj j k a d1 d2 h1 h2 e1 e2
 ot:=λj d' h=>by
  have ne:∀{j:Nat} {s:Sv},(∀d,s ≠ .val d)->(δ.set i (.val d))[j]? = some s->j≠i:=λ{j s} hs h1 z=>by
   subst z;have hl:j<δ.length:=by have:=(List.getElem?_eq_some_iff.mp h1).1;rw[List.length_set]at this;exact this
   rw[List.getElem?_set_self hl]at h1;cases h1;exact hs _ rfl
  have nj:=ne (by intro d z;cases z) h;rw[List.getElem?_set_ne (Ne.symm nj)]at h ⊢;obtain⟨⟨t,ts,L,e1,e2,e3,e4⟩,u⟩:=R.ot j d' h;refine⟨⟨t,ts,L,e1,e2,e3,λp hp=>⟨(e4 p hp).1,(e4 p hp).2.1,λk d2 q=>?_⟩⟩,λk d2 q=>?_⟩
  ·have nk:=ne (by intro d z;cases z) q;rw[List.getElem?_set_ne (Ne.symm nk)]at q ⊢;exact(e4 p hp).2.2 k d2 q
  ·have nk:=ne (by intro d z;cases z) q;rw[List.getElem?_set_ne (Ne.symm nk)]at q;exact u k d2 q
 o2:=λj d' h=>by
  have ne:∀{j:Nat} {s:Sv},(∀d,s ≠ .val d)->(δ.set i (.val d))[j]? = some s->j≠i:=λ{j s} hs h1 z=>by
   subst z;have hl:j<δ.length:=by have:=(List.getElem?_eq_some_iff.mp h1).1;rw[List.length_set]at this;exact this
   rw[List.getElem?_set_self hl]at h1;cases h1;exact hs _ rfl
  have nj:=ne (by intro d z;cases z) h;rw[List.getElem?_set_ne (Ne.symm nj)]at h ⊢;obtain⟨⟨p,L,e0,e1,e2,e3⟩,u,n⟩:=R.o2 j d' h;refine⟨⟨p,L,e0,e1,e2,λk d2 a q q2=>?_⟩,λk d2 q=>?_,λk d2 q=>?_⟩
  ·have nk:=ne (by intro d z;cases z) q;rw[List.getElem?_set_ne (Ne.symm nk)]at q q2;exact e3 k d2 a q q2
  ·have nk:=ne (by intro d z;cases z) q;rw[List.getElem?_set_ne (Ne.symm nk)]at q;exact u k d2 q
  ·have nk:=ne (by intro d z;cases z) q;rw[List.getElem?_set_ne (Ne.symm nk)]at q;exact n k d2 q
 od:=R.od.step (q4Q _ (by intro d z;cases z)) (λ_ h _=>h) (λ_ _ _ h _=>h)
 len:=by rw[List.length_set,List.length_set];exact R.len
 hid:=R.hid
theorem q6f{D:Dm}{H:Hp}{O W:List Addr}{Q:St->Hp->Prop}:∀{is:List Nat} {ds:List DV} {xs:List V} {σ:St} {δ δ':List Sv},RSt D H σ δ O W->RepL D (L2.wo (O++W) H) ds xs->q4N δ is ds=some δ'->(∀σ',RSt D H σ' δ' O W->Q σ' H)->q7H is xs σ H Q
 | [],[],xs,σ,δ,δ',R,r,h,q=>by cases h;exact⟨q0t.mp r,q σ R⟩
 | i::is,d::ds,xs,σ,δ,δ',R,r,h,q=>by obtain⟨v,vs,e1,e2,e3⟩:=q0h.mp r;exact⟨v,vs,e1,q6f (R.setVal e2 i) e3 h q⟩
 | [],_::_,_,_,_,_,_,_,h,_=>by cases h
 | _::_,[],_,_,_,_,_,_,h,_=>by cases h
theorem q2o:∀{is:List Nat} {ds:List DV} {δ δ':List Sv},q4N δ is ds=some δ'->is.length=ds.length/\δ'.length=δ.length
 | [],[],_,_,h=>by cases h;exact⟨rfl,rfl⟩
 | i::is,d::ds,δ,δ',h=>by obtain⟨a,b⟩:=q2o (is:=is) h;exact⟨by rw[List.length_cons,List.length_cons,a],by rw[b,List.length_set]⟩
 | [],_::_,_,_,h=>by cases h
 | _::_,[],_,_,h=>by cases h
theorem q6W{D:Dm}{H:Hp}{O W:List Addr}{Q:St->Hp->Prop}{tg:Tg}{d:DV}{x:V}{σ:St}{δ δ':List Sv}(R:RSt D H σ δ O W)(r:Rep D (L2.wo (O++W) H) d x)(h:tg.bind d δ=some δ')(q:∀σ',RSt D H σ' δ' O W->Q σ' H):gT D.K tg x σ H Q:=by
 cases tg with
 | one i=>cases h;exact q _ (R.setVal r i)
 | many is=>
  unfold Tg.bind at h;dsimp only at h;split at h
  ·rename_i ds;obtain⟨a,xs,e1,e2,e3⟩:=q0G.mp r;exact⟨a,xs,e1,q0T.tseq e2,by rw[e3.length,(q2o h).1],q6f R e3 h q⟩
  ·cases h
theorem RSt.less{D:Dm}{H:Hp}{σ:St}{δ δ':List Sv}{O W:List Addr}(R:RSt D H σ δ' O W)(hl:δ.length=δ'.length)(h:∀(i:Nat) sv,δ[i]? = some sv->sv=.no\/δ'[i]? = some sv):RSt D H σ δ O W where
 val:=λi d e=>by
  rcases h i _ e with z | z
  ·cases z
  ·exact R.val i d z
 own:=λi d e=>by
  rcases h i _ e with z | z
  ·cases z
  ·exact R.own i d z
 inj:=λi j a d d' e e'=>by
  rcases h i _ e with z | z
  ·cases z
  ·rcases h j _ e' with y | y
   ·cases y
   ·exact R.inj i j a d d' z y
 ot:=λi d e=>by
  rcases h i _ e with z | z
  ·cases z
  ·obtain⟨⟨t,ts,L,e1,e2,e3,e4⟩,u⟩:=R.ot i d z;refine⟨⟨t,ts,L,e1,e2,e3,λp hp=>⟨(e4 p hp).1,(e4 p hp).2.1,λk d2 q=>?_⟩⟩,λk d2 q=>?_⟩
   ·rcases h k _ q with y | y
    ·cases y
    ·exact(e4 p hp).2.2 k d2 y
   ·rcases h k _ q with y | y
    ·cases y
    ·exact u k d2 y
 o2:=λi d e=>by
  rcases h i _ e with z | z
  ·cases z
  ·obtain⟨⟨p,L,e0,e1,e2,e3⟩,u,n⟩:=R.o2 i d z;refine⟨⟨p,L,e0,e1,e2,λk d2 a q q2=>?_⟩,λk d2 q=>?_,λk d2 q=>?_⟩
   ·rcases h k _ q with y | y
    ·cases y
    ·exact e3 k d2 a y q2
   ·rcases h k _ q with y | y
    ·cases y
    ·exact u k d2 y
   ·rcases h k _ q with y | y
    ·cases y
    ·exact n k d2 y
 od:=R.od.step (λj d e=>by
  rcases h j _ e with z | z
  ·cases z
  ·exact⟨z,rfl⟩) (λ_ h _=>h) (λ_ _ _ h _=>h)
 len:=by rw[hl];exact R.len
 hid:=R.hid
theorem q6t:∀{is:List Nat} {ds:List DV} {δ δ':List Sv},q4N δ is ds=some δ'->(∀i∈is,δ[i]? = some .no\/δ[i]? = none)->∀(i:Nat) sv,δ[i]? = some sv->sv=.no\/δ'[i]? = some sv
 | [],[],_,_,h,_,i,sv,e=>by cases h;exact .inr e
 | j::is,d::ds,δ,δ',h,hn,i,sv,e=>by
  by_cases hij:i∈j::is
  ·rcases hn i hij with z | z
   ·rw[z]at e;cases e;exact .inl rfl
   ·rw[z]at e;cases e
  ·have hne:j≠i:=λz=>hij (by rw[z];exact List.mem_cons_self);have hni:i∉is:=λz=>hij (List.mem_cons_of_mem _ z);have key:∀{is:List Nat} {ds:List DV} {δ δ':List Sv},q4N δ is ds=some δ'->i∉is->δ[i]? = some sv->δ'[i]? = some sv:=by
    intro is
    induction is with
    | nil=>intro ds δ δ' h _ e;cases ds with
     | nil=>cases h;exact e
     | cons _ _=>cases h
    | cons k is ih=>intro ds δ δ' h hi e;cases ds with
     | nil=>cases h
     | cons d ds=>
      refine ih h (λz=>hi (List.mem_cons_of_mem _ z)) ?_;rw[List.getElem?_set_ne (λz=>hi (by rw[z];exact List.mem_cons_self))];exact e
   exact .inr (key h hij e)
 | [],_::_,_,_,h,_,_,_,_=>by cases h
 | _::_,[],_,_,h,_,_,_,_=>by cases h
theorem q5P{tg:Tg}{d:DV}{δ δ':List Sv}(h:tg.bind d δ=some δ')(hn:∀i∈q2V tg,δ[i]? = some .no\/δ[i]? = none):δ.length=δ'.length/\∀(i:Nat) sv,δ[i]? = some sv->sv=.no\/δ'[i]? = some sv:=by
 cases tg with
 | one j=>
  cases h;refine⟨(List.length_set ..).symm,λi sv e=>?_⟩;by_cases hij:i=j
  ·subst hij;rcases hn i (by simp[q2V])with z | z
   ·rw[z]at e;cases e;exact .inl rfl
   ·rw[z]at e;cases e
  ·exact .inr (by rw[List.getElem?_set_ne (Ne.symm hij)];exact e)
 | many is=>
  unfold Tg.bind at h;dsimp only at h;split at h
  ·exact⟨(q2o h).2.symm,q6t h hn⟩
  ·cases h
theorem RSt.inner{D:Dm}{H:Hp}{σ:St}{δ:List Sv}{O W:List Addr}(R:RSt D H σ δ O W)(fr:List (Option Nat))(hnd:∀(j k i:Nat),fr[j]? = some (some i)->fr[k]? = some (some i)->j=k):RSt D H (L2.inner fr σ) (q0K fr δ) O W:=by
 have look:∀(j:Nat) sv,(q0K fr δ)[j]? = some sv->sv ≠ .no->∃i,fr[j]? = some (some i)/\δ[i]? = some sv:=λj sv h hn=>by
  unfold q0K at h;rw[List.getElem?_map]at h;cases q:fr[j]? with
  | none=>rw[q]at h;cases h
  | some o=>
   rw[q]at h;cases o with
   | none=>cases h;exact absurd rfl hn
   | some i=>
    refine⟨i,rfl,?_⟩;have h':(δ.getD i .no).plain=sv:=by simpa using h
    rw[List.getD_eq_getElem?_getD]at h';cases z:δ[i]? with
    | none=>rw[z]at h';exact absurd h'.symm hn
    | some sv'=>
     rw[z]at h';cases sv' with
     | ot d=>exact absurd h'.symm hn
     | o2 d=>exact absurd h'.symm hn
     | od d=>exact congrArg some h'
     | no=>exact congrArg some h'
     | val d=>exact congrArg some h'
     | own d=>exact congrArg some h'
 have sig:∀(j i:Nat) (v:V),fr[j]? = some (some i)->σ[i]? = some (some v)->(L2.inner fr σ)[j]? = some (some v):=λj i v q e=>by unfold L2.inner;rw[List.getElem?_map,q];simp[e]
 have noot:∀(j:Nat) d,(q0K fr δ)[j]? ≠ some (.ot d):=λj d h=>by
  unfold q0K at h;rw[List.getElem?_map]at h;cases q:fr[j]? with
  | none=>rw[q]at h;cases h
  | some o=>
   rw[q]at h;cases o with
   | none=>cases h
   | some i=>
    have h':(δ.getD i .no).plain=.ot d:=by simpa using h
    cases z:δ.getD i .no with
    | ot d2=>rw[z]at h';cases h'
    | o2 d2=>rw[z]at h';cases h'
    | od d2=>rw[z]at h';cases h'
    | no=>rw[z]at h';cases h'
    | val d2=>rw[z]at h';cases h'
    | own d2=>rw[z]at h';cases h'
 have noo2:∀(j:Nat) d,(q0K fr δ)[j]? ≠ some (.o2 d):=λj d h=>by
  unfold q0K at h;rw[List.getElem?_map]at h;cases q:fr[j]? with
  | none=>rw[q]at h;cases h
  | some o=>
   rw[q]at h;cases o with
   | none=>cases h
   | some i=>
    have h':(δ.getD i .no).plain=.o2 d:=by simpa using h
    cases z:δ.getD i .no with
    | ot d2=>rw[z]at h';cases h'
    | o2 d2=>rw[z]at h';cases h'
    | od d2=>rw[z]at h';cases h'
    | no=>rw[z]at h';cases h'
    | val d2=>rw[z]at h';cases h'
    | own d2=>rw[z]at h';cases h'
 refine⟨λj d h=>?_,λj d h=>?_,λj k a d d' h1 h2 e1 e2=>?_,λj d h=>absurd h (noot j d),λj d h=>absurd h (noo2 j d),λj d h=>?_,?_,R.hid⟩
 ·obtain⟨i,q1,q2⟩:=look j _ h (by intro z;cases z);obtain⟨v,e1,e2⟩:=R.val i d q2;exact⟨v,sig j i v q1 e1,e2⟩
 ·obtain⟨i,q1,q2⟩:=look j _ h (by intro z;cases z);obtain⟨a,xs,ds,e0,e1,e2⟩:=R.own i d q2;exact⟨a,xs,ds,e0,sig j i _ q1 e1,e2⟩
 ·obtain⟨i,q1,q2⟩:=look j _ h1 (by intro z;cases z);obtain⟨i',q1',q2'⟩:=look k _ h2 (by intro z;cases z);obtain⟨b,xs,ds,_,z1,_⟩:=R.own i d q2;obtain⟨b',xs',ds',_,z1',_⟩:=R.own i' d' q2';have y:=sig j i _ q1 z1;have y':=sig k i' _ q1' z1';rw[e1]at y;rw[e2]at y';cases y;cases y';have:=R.inj i i' a d d' q2 q2' z1 z1';subst this;exact hnd j k i q1 q1'
 ·obtain⟨i,q1,q2⟩:=look j _ h (by intro z;cases z);obtain⟨⟨a,o,e0,e1,e2⟩,u⟩:=R.od i d q2;refine⟨⟨a,o,e0,sig j i _ q1 e1,e2⟩,λk d' z=>?_⟩;obtain⟨i',q1',q2'⟩:=look k _ z (by intro z;cases z);rw[u i' d' q2']at q1';exact hnd k j i q1' q1
 ·unfold L2.inner q0K;rw[List.length_map,List.length_map]
section
variable {X:Cx} {E:St->XK} {δ:List Sv} {iter elt tgE:Expr} {ifs:List Expr} {pos:Pos} {N':List Str} {scope:Scope} {fr:List (Option Nat)} {tg:Tg} {ri:Option Ri} {re:Re}
theorem q7j{D:Dm}{J:It}{ds:List DV}{O W:List Addr}{H H1:Hp}{σ:St}{c:Cl}{g:DV->Option Rc}{xs:List DV}{tc:TT}{te:TE}{δ0:List Sv}{Q:VK}(w:Wk D J ds (hidW O W c) (q0Y O W c) H1)(hd0:Hid O W H H)(hc:c ≠ .weak)(R:RSt D H1 σ δ0 O W)
  (hn:∀i∈q2V tg,δ0[i]? = some .no\/δ0[i]? = none) (hz:ds.length<=sizeLine) (hx:q0C g ds=some xs) (s1:Same H H1)
  (step:∀d rc,d∈ds->g d=some rc->∃δ',tg.bind d δ0=some δ'/\∀σ' H2,Same H1 H2->RSt D H2 σ' δ' O W->∀K:Bool->Hp->Prop,(rc=.skip->∀H3,Same H2 H3->K false H3)->(∀x,rc=.item x->∀H3,Same H2 H3->K true H3)->tc σ' H2 K)
  (stepE:∀d x,d∈ds->g d=some (.item x)->∀δ',tg.bind d δ0=some δ'->∀σ' H2,Same H1 H2->RSt D H2 σ' δ' O W->∀K:VK,(∀v H3,Same H2 H3->Rep D (L2.wo (O++W) H3) x v->K v H3)->te σ' H2 K)
  (fin:∀v H',Same H H'->Got D O W H H' (.lst xs) .fresh v->Q v H') :
  z4h J (gT D.K tg) tc te (λys H'=>∀p,H' p=none->Q (.ref p) (upd H' p (.lst ys))) σ H1:=by
 have ci:q0Y O W c=O++W:=by cases c<;>first | rfl | exact absurd rfl hc
 rw[ci]at w;refine⟨λi n ys σ' H'=>n=ds.length - i/\i<=ds.length/\ys.length<=i/\RSt D H' σ' δ0 O W/\Same H1 H'/\∃done rest,q0C g (ds.drop i)=some rest/\done++rest=xs/\RepL D (L2.wo (O++W) H') done ys,
  ⟨ds.length,rfl,Nat.zero_le _,Nat.zero_le _,R,Same.refl _,[],xs,hx,rfl,q0t.mpr rfl⟩,?_⟩
 rintro i n ys σ2 H2 ⟨rfl,hi',hy,R2,s2,done,rest,h1,h2,r2⟩
 by_cases hlt:i<ds.length
 ·refine .inr ⟨w.go i H2 s2.wo hlt,Nat.lt_of_le_of_lt hy (Nat.lt_of_lt_of_le hlt hz),λx' H3 y=>?_⟩;have y1:=w.same i H2 x' H3 y;have y3:Rep D (L2.wo (O++W) H3) ds[i] x':=w.yld i H2 x' H3 _ (O++W) s2.wo s2.wo y (List.getElem?_eq_getElem hlt) λa ha=>⟨R2.hid.ot a ha,.inl ha⟩;rw[List.drop_eq_getElem_cons hlt]at h1;have hm:ds[i]∈ds:=List.getElem_mem hlt;unfold q0C at h1;split at h1
  ·cases h1
  ·rename_i q;obtain⟨δ',b1,b2⟩:=step _ _ hm q;refine q6W (R2.mono y1) y3 b1 λσ3 R3=>?_
   have back:=q5P b1 hn;refine b2 σ3 H3 (s2.trans y1) R3 _ (λ_ H4 s4=>?_) (λx z=>nomatch z);show if false=true then _ else _
   rw[if_neg Bool.false_ne_true];exact⟨ds.length - (i+1),by omega,rfl,hlt,Nat.le_succ_of_le hy,(R3.less back.1 back.2).mono s4,(s2.trans y1).trans s4,done,rest,h1,h2,r2.mono (y1.trans s4).wo⟩
  ·rename_i x q;split at h1
   ·cases h1
   ·rename_i rest' q';cases h1;obtain⟨δ',b1,b2⟩:=step _ _ hm q;refine q6W (R2.mono y1) y3 b1 λσ3 R3=>?_
    have back:=q5P b1 hn;refine b2 σ3 H3 (s2.trans y1) R3 _ (λz=>nomatch z) (λx' z H4 s4=>?_);cases z;show if true=true then _ else _
    rw[if_pos rfl];refine stepE _ x hm q δ' b1 σ3 H4 ((s2.trans y1).trans s4) (R3.mono s4) _ λv H5 s5 rv=>?_
    exact⟨ds.length - (i+1),by omega,rfl,hlt,by rw[List.length_append,List.length_singleton];omega,(R3.less back.1 back.2).mono (s4.trans s5),((s2.trans y1).trans s4).trans s5,done++[x],rest',q',by rw[List.append_assoc];exact h2,
     (r2.mono ((y1.trans s4).trans s5).wo).append (RepL.one rv)⟩
 ·have e:i=ds.length:=by omega
  subst e;rw[List.drop_length]at h1;cases h1;rw[List.append_nil]at h2;subst h2;have s0:=s1.trans s2;refine .inl ⟨w.stop H2 s2.wo,λp hp=>fin _ _ (s0.trans (q0p hp)) ?_⟩;have hd:Hid O W H H2:=hd0.mono s0;exact q1P hd hp r2
abbrev E0s:St->XK:=λ_ _ _ _=>False
theorem PE.any{Y:Cx}{e:Expr}{ι:Sort _}{t:ι->TE}(h:∀k,PE Y e (t k)):PE Y e (λσ H Q=>∃k,t k σ H Q):=λpins s σ H Q I ⟨k,q⟩=>h k pins s σ H Q I q
theorem PTs.any{Y:Cx}{ι:Sort _}{es:List Expr}{t:ι->TT}(h:∀k,PTs Y es (t k)):PTs Y es (λσ H Q=>∃k,t k σ H Q):=λpins s σ H Q I ⟨k,q⟩=>h k pins s σ H Q I q
theorem Rc.of_item{r:Option Re}{x:DV}(h:Rc.of r=some (.item x)):∃c,r=some (.ok x c)/\stro x c=true:=by
 unfold Rc.of at h;split at h
 ·rename_i d c;split at h
  ·rename_i m;cases h;exact⟨c,rfl,m⟩
  ·cases h
 ·cases h
theorem Rc.of_skip{r:Option Re}(h:Rc.of r=some .skip):False:=by
 unfold Rc.of at h;split at h
 ·split at h<;>cases h
 ·cases h
theorem q6r{fr:List (Option Nat)}{δ:List Sv}{i:Nat}(h:fr[i]? = some none):(q0K fr δ)[i]? = some .no:=by
 unfold q0K;rw[List.getElem?_map,h];rfl
def q1o(X:Cx)(E:St->XK)(δ:List Sv)(tgE iter:Expr)(ifs:List Expr)(elt:Expr)(scope:Scope)(N':List Str)(fr:List (Option Nat))(tg:Tg)(re:Re):Prop:=
 ∃wi tc te,PI X tgE iter wi/\(∀C cells s₂ H₂ fp,PTs (q0x X scope N' C cells s₂ H₂ fp) ifs tc)/\(∀C cells s₂ H₂ fp,PE (q0x X scope N' C cells s₂ H₂ fp) elt te) /\
  ∀σ H Q,dE X.D E δ re σ H Q->z2U fr wi (gT X.K tg) tc te σ H Q
theorem q5y{iter:Expr}{env:Env}(hset:q2L iter=false):∀x,foldedSetIterable iter env x=pure x:=by cases iter<;>first | (intro _;rfl) | cases hset
theorem q1o.pe(P:q1o X E δ tgE iter ifs elt scope N' fr tg re)(S:CompScope X.N N' scope X.env.scope fr)(hc:X.calm=true)(hG:∀C cells s₂ H₂ fp,PG (q0x X scope N' C cells s₂ H₂ fp) tgE (gT X.K tg))(hset:q2L iter=false) :
  PE X (.ListComp elt [⟨tgE,iter,ifs,0⟩] scope pos) (dE X.D E δ re):=by
 obtain⟨wi,tc,te,h1,h2,h3,h4⟩:=P;exact(z4D (pos:=pos) S hc h1 hG h2 h3 (q5y hset)).weak h4
theorem q4x{evElt:List Sv->Option Re}(S:CompScope X.N N' scope X.env.scope fr)(hc:X.calm=true)(hnd:∀(j k i:Nat),fr[j]? = some (some i)->fr[k]? = some (some i)->j=k)(hsl:∀i∈q2V tg,fr[i]? = some none)(hi:∀q,ri=some q->PI X tgE iter (dI X.D E δ q))
  (hG:∀C cells s₂ H₂ fp,PG (q0x X scope N' C cells s₂ H₂ fp) tgE (gT X.K tg)) (he:∀δ' r,evElt δ'=some r->∀C cells s₂ H₂ fp,PE (q0x X scope N' C cells s₂ H₂ fp) elt (dE X.D E0s δ' r))
  (h:(Ri.thn ri λds c=>if c=.weak\/mostLen<ds.length then none else q1h (q0C (λd=>(tg.bind d (q0K fr δ)).bind λδ'=>Rc.of (evElt δ')) ds))=some re):q1o X E δ tgE iter [] elt scope N' fr tg re:=by
 cases hri:ri with
 | none=>rw[hri]at h;cases h
 | some q=>
  rw[hri]at h;have A:=hi q hri;refine⟨_,_,_,A,(λC cells s₂ H₂ fp=>z3R),(λC cells s₂ H₂ fp=>PE.any (ι:={p:List Sv×Re // evElt p.1=some p.2}) (t:=λk=>dE X.D E0s k.1.1 k.1.2) λk=>he k.1.1 k.1.2 k.2 C cells s₂ H₂ fp),?_⟩;cases q with
  | ex c=>cases h;exact λσ H Q ⟨O,W,R,p⟩=>⟨O,W,R,p⟩
  | ok ds c=>
   have h':(if c=.weak\/mostLen<ds.length then none else q1h (q0C (λd=>(tg.bind d (q0K fr δ)).bind λδ'=>Rc.of (evElt δ')) ds))=some re:=h;split at h'
   ·cases h'
   ·rename_i m;rw[not_or]at m;unfold q1h at h';split at h'
    ·cases h'
    ·rename_i xs hx;cases h';refine λσ H Q ⟨O,W,R,p⟩=>⟨O,W,R,λJ H1 s1 w=>?_⟩
     refine q7j (tg:=tg) (D:=X.D) w R.hid m.1 ((R.mono s1).inner fr hnd) (λi hi=>.inl (q6r (hsl i hi))) (q2p (by omega)) hx s1 (λd rc hm hg=>?_) (λd x hm hg δ' hb σ' H2 s2 R2 K hK=>?_) p
     ·cases hb:tg.bind d (q0K fr δ)with
      | none=>rw[hb]at hg;cases hg
      | some δ'=>
       rw[hb]at hg;refine⟨δ',rfl,λσ' H2 s2 R2 K k1 k2=>?_⟩;cases rc with
       | skip=>exact(Rc.of_skip hg).elim
       | item x=>exact k2 x rfl H2 (Same.refl _)
     ·rw[hb]at hg;obtain⟨cl,e1,e2⟩:=Rc.of_item hg;exact⟨⟨⟨δ',.ok x cl⟩,e1⟩,O,W,R2,λv H3 s3 g3=>hK v H3 s3 (g3.stro (R2.hid.mono s3) e2)⟩
theorem q4w{evElt:List Sv->Option Re}{evC:List Sv->Option Rt}{cond:Expr}(S:CompScope X.N N' scope X.env.scope fr)(hc:X.calm=true)(hnd:∀(j k i:Nat),fr[j]? = some (some i)->fr[k]? = some (some i)->j=k)(hsl:∀i∈q2V tg,fr[i]? = some none)(hi:∀q,ri=some q->PI X tgE iter (dI X.D E δ q))
  (hG:∀C cells s₂ H₂ fp,PG (q0x X scope N' C cells s₂ H₂ fp) tgE (gT X.K tg)) (he:∀δ' r,evElt δ'=some r->∀C cells s₂ H₂ fp,PE (q0x X scope N' C cells s₂ H₂ fp) elt (dE X.D E0s δ' r))
  (ht:∀δ' r,evC δ'=some r->∀C cells s₂ H₂ fp,PT (q0x X scope N' C cells s₂ H₂ fp) cond (dT X.D E0s δ' r))
  (h:(Ri.thn ri λds c=>if c=.weak\/mostLen<ds.length then none else q1h (q0C (λd=>(tg.bind d (q0K fr δ)).bind λδ'=>Rc.test (evC δ') (Rc.of (evElt δ'))) ds))=some re):q1o X E δ tgE iter [cond] elt scope N' fr tg re:=by
 cases hri:ri with
 | none=>rw[hri]at h;cases h
 | some q=>
  rw[hri]at h;have A:=hi q hri;refine⟨_,_,_,A,(λC cells s₂ H₂ fp=>PTs.any (ι:={p:List Sv×Rt // evC p.1=some p.2}) (t:=λk=>dT X.D E0s k.1.1 k.1.2) λk=>z4c (ht k.1.1 k.1.2 k.2 C cells s₂ H₂ fp)),
   (λC cells s₂ H₂ fp=>PE.any (ι:={p:List Sv×Re // evElt p.1=some p.2}) (t:=λk=>dE X.D E0s k.1.1 k.1.2) λk=>he k.1.1 k.1.2 k.2 C cells s₂ H₂ fp),?_⟩
  cases q with
  | ex c=>cases h;exact λσ H Q ⟨O,W,R,p⟩=>⟨O,W,R,p⟩
  | ok ds c=>
   have h':(if c=.weak\/mostLen<ds.length then none else q1h (q0C (λd=>(tg.bind d (q0K fr δ)).bind λδ'=>Rc.test (evC δ') (Rc.of (evElt δ'))) ds))=some re:=h;split at h'
   ·cases h'
   ·rename_i m;rw[not_or]at m;unfold q1h at h';split at h'
    ·cases h'
    ·rename_i xs hx;cases h';refine λσ H Q ⟨O,W,R,p⟩=>⟨O,W,R,λJ H1 s1 w=>?_⟩
     refine q7j (tg:=tg) (D:=X.D) w R.hid m.1 ((R.mono s1).inner fr hnd) (λi hi=>.inl (q6r (hsl i hi))) (q2p (by omega)) hx s1 (λd rc hm hg=>?_) (λd x hm hg δ' hb σ' H2 s2 R2 K hK=>?_) p
     ·cases hb:tg.bind d (q0K fr δ)with
      | none=>rw[hb]at hg;cases hg
      | some δ'=>
       rw[hb]at hg;have hg':Rc.test (evC δ') (Rc.of (evElt δ'))=some rc:=hg;refine⟨δ',rfl,λσ' H2 s2 R2 K k1 k2=>?_⟩;unfold Rc.test at hg';split at hg'
       ·rename_i q;refine⟨⟨⟨δ',.ok true⟩,q⟩,O,W,R2,λH3 s3=>?_⟩;cases rc with
        | skip=>exact(Rc.of_skip hg').elim
        | item x=>exact k2 x rfl H3 s3
       ·rename_i q;cases hg';exact⟨⟨⟨δ',.ok false⟩,q⟩,O,W,R2,λH3 s3=>k1 rfl H3 s3⟩
       ·cases hg'
     ·rw[hb]at hg;have hg':Rc.test (evC δ') (Rc.of (evElt δ'))=some (.item x):=hg;unfold Rc.test at hg';split at hg'
      ·obtain⟨cl,e1,e2⟩:=Rc.of_item hg';exact⟨⟨⟨δ',.ok x cl⟩,e1⟩,O,W,R2,λv H3 s3 g3=>hK v H3 s3 (g3.stro (R2.hid.mono s3) e2)⟩
      ·cases hg'
      ·cases hg'
end
end L2
end
noncomputable section
namespace L2
open PySem PySem.Spec PyProof.Rows
theorem Inv.turnedL{X:Cx}{pins:List (Addr×Obj)}{σ:St}{H:Hp}{s:Shared}{h':Heap}{t':Nat}{ch:List Addr}(I:Inv X pins σ H s)(k:∀b o,b∉ch->s.heap.get? b=some o->h'.get? b=some o)(hf:∀b∈ch,FpOk X pins H b):Inv X pins σ H {s with heap:=h',toks:=t'}:=by
 have nit:∀b u,H b=some u->b∉ch:=λb u e z=>by rw[(hf b z).1]at e;cases e
 refine I.step (g':=s.gens) (d':=s.drawn) (ch:=ch) (λb hb=>?_) (λb o _ _ hc e _=>k b o hc e) (λb o _ _ hc e _=>⟨o.slots,k b o hc e⟩) (λ_ _ _ _ n=>n)
  (λb o hc e=>⟨o,k b o hc e⟩) (λ_ _ e=>e) (λ_ _ _ e=>e) (λb ps e=>⟨#[],by rw[e];simp⟩) (λm hm=>?_) (λb u e=>?_) I.bare
 ·obtain⟨_,f1,_,f3,f4,f5⟩:=hf b hb;exact⟨f3,f1,f4,f5⟩
 ·obtain⟨o,es,ep,ho,r⟩:=hm;exact⟨o,es,ep,k _ o (λz=>(hf _ z).2.1 rfl) ho,r⟩
 ·refine(I.hok b u e).stay (λc v hc q=>k c v ?_ q) (λ_ q=>q) λ_ _ q=>q;rcases hc with z | z
  ·rw[z];exact nit b u e
  ·exact nit c _ z
def SqD(t:Bool)(K:PySem.W.Frag)(H:Hp)(a:Addr)(xs:List V):Prop:=match t with | false=>SqL K H a xs | true=>SqT K H a xs
theorem Same.sqd{t:Bool}{K:PySem.W.Frag}{H H':Hp}{a:Addr}{xs:List V}(e:Same H H')(h:SqD t K H a xs):SqD t K H' a xs:=by
 cases t
 ·exact e.seq h
 ·exact e.tseq h
theorem Inv.sqd{X:Cx}{pins:List (Addr×Obj)}{σ:St}{H:Hp}{s:Shared}{t:Bool}{a:Addr}{xs:List V}(I:Inv X pins σ H s)(h:SqD t X.K H a xs):∃its:List Value,Vals xs its/\SqK t s.heap a its.toArray:=by
 cases t
 ·obtain⟨its,rv,p,_⟩:=I.list h;exact⟨its,rv,p.isList⟩
 ·obtain⟨its,rv,p,_⟩:=I.tuple h;exact⟨its,rv,p⟩
theorem Inv.sqd_inj{X:Cx}{pins:List (Addr×Obj)}{σ:St}{H:Hp}{s:Shared}{t:Bool}{a:Addr}{xs ys:List V}(I:Inv X pins σ H s)(h:SqD t X.K H a xs)(h':SqD t X.K H a ys):xs=ys:=by
 cases t
 ·exact I.list_inj h h'
 ·exact I.tuple_inj h h'
def itK(t:Bool)(h:Heap)(ia la:Addr)(k:Nat):Prop:=match t with | false=>h.IsListIter ia la k | true=>h.IsTupleIter ia la k
theorem q8e{t:Bool}{ia la:Addr}{vs:Array Value}{k:Nat}{h:Heap}(p:itK t h ia la k)(q:SqK t h la vs):sK t ia la vs k h:=by
 cases t<;>exact⟨p,q⟩
theorem q8o{t:Bool}{ia la:Addr}{vs:Array Value}{k:Nat}{h:Heap}(p:sK t ia la vs k h):itK t h ia la k:=by
 cases t<;>exact p.1
theorem q4M{t:Bool}{ia la:Addr}{k:Nat}{h h':Heap}(p:itK t h ia la k)(e:∀o,h.get? ia=some o->h'.get? ia=some o):itK t h' ia la k:=by
 cases t
 ·exact Heap.IsListIter.at p e
 ·obtain⟨o,z,r⟩:=p;exact⟨o,e o z,r⟩
theorem q1X{t:Bool}{ia la:Addr}{k:Nat}{h:Heap}(p:itK t h ia la k):∃o xs,h.get? ia=some o/\o.data=.fields xs:=by
 cases t
 ·obtain⟨o,e,_,d⟩:=p;exact⟨o,_,e,d⟩
 ·obtain⟨o,e,_,d⟩:=p;exact⟨o,_,e,d⟩
theorem SqK.lt{t:Bool}{h:Heap}{a:Addr}{vs:Array Value}(p:SqK t h a vs):a<h.objs.size:=by
 cases t
 ·obtain⟨o,e,_⟩:=p;exact Heap.lt_size e
 ·obtain⟨o,e,_⟩:=p;exact Heap.lt_size e
def Itz(K:PySem.W.Frag)(t1 t2:Bool)(a b:Addr):It:=
  ⟨λi H=>∃xs ys x y,SqD t1 K H a xs/\SqD t2 K H b ys/\xs[i]? = some x/\ys[i]? = some y,
   λi H x H'=>∃p v u,x=.ref p/\H p=none/\(∀xs,SqD t1 K H a xs->xs[i]? = some v)/\(∀ys,SqD t2 K H b ys->ys[i]? = some u)/\H'=upd H p (.tup [v,u]),
   λi H=>∃xs ys,SqD t1 K H a xs/\SqD t2 K H b ys/\(xs.length<=i\/ys.length<=i)⟩
theorem z1G{P:Program}{w:World}{K:PySem.W.Frag}{elts:List Expr}{k:Nat}{pos:Pos}{z TI TO i1 i2 l1 l2:Addr}(t1 t2:Bool)(D:ZipApart z TI TO i1 i2 l1 l2) :
  Turn P w K (.Tuple elts k pos) (Itz K t1 t2 l1 l2) [z,TI,TO,i1,i2] z (λi h=>IsZip h z TI TO .none/\IsPair h TI (.ref i1) (.ref i2)/\(∃a b,IsPair h TO a b)/\itK t1 h i1 l1 i/\itK t2 h i2 l2 i) where
 mem:=by simp
 obj:=λi h st b hb=>by
  obtain⟨hz,hTI,⟨a,a',hTO⟩,h1,h2⟩:=st;simp only[List.mem_cons,List.not_mem_nil,or_false]at hb;rcases hb with rfl | rfl | rfl | rfl | rfl
  ·exact⟨_,hz,λv q=>by cases q⟩
  ·exact⟨_,hTI,λv q=>by cases q⟩
  ·exact⟨_,hTO,λv q=>by cases q⟩
  ·obtain⟨o,xs,e,d⟩:=q1X h1;exact⟨o,e,λv q=>by rw[d]at q;cases q⟩
  ·obtain⟨o,xs,e,d⟩:=q1X h2;exact⟨o,e,λv q=>by rw[d]at q;cases q⟩
 keep:=λi h h' st q=>by obtain⟨hz,hTI,⟨a,a',hTO⟩,h1,h2⟩:=st;exact⟨q z (by simp) _ hz,q TI (by simp) _ hTI,⟨a,a',q TO (by simp) _ hTO⟩,q4M h1 λo e=>q i1 (by simp) o e,q4M h2 λo e=>q i2 (by simp) o e⟩
 item:=by
  intro X hP hw hK hc i pins s σ H E I hf st hg;subst hP hw hK;obtain⟨hz,hTI,⟨a,a',hTO⟩,h1,h2⟩:=st;obtain⟨xs,ys,x,y,q1,q2,hx,hy⟩:=hg;obtain⟨its,rv,p⟩:=I.sqd q1;obtain⟨its2,rv2,p2⟩:=I.sqd q2;obtain⟨u,hu,ru⟩:=rv.get hx;obtain⟨u2,hu2,ru2⟩:=rv2.get hy;refine q9X D (q8y t1 D.l1i1) (q8y t2 D.l2i2) hz hTI hTO (q8e h1 p) (q8e h2 p2) (x:=u) (y:=u2) (by simpa using hu) (by simpa using hu2) λh' a1 a2 a3 a4 a5 a6 a7=>⟨_,rfl,?_⟩
  refine wpAny_letOwnedTupleGo_zip a1 λh2' hz' hs'=>?_;have hsz:s.heap.objs.size≠z:=Nat.ne_of_gt (Heap.lt_size hz);have keep:∀b o,b∉[z,TI,TO,i1,i2]->s.heap.get? b=some o->h2'.get? b=some o:=λb o hb e=>
   hs'.extBut _ _ (λq=>hb (by simp[q])) (a7 b o (λq=>hb (by simp[q])) (λq=>hb (by simp[q])) (λq=>hb (by simp[q])) (λq=>hb (by simp[q])) e)
  have I1:Inv X pins σ H {s with heap:=h2'}:=I.turnedL (t':=s.toks) keep hf;have hn:H s.heap.objs.size=none:=I.hok.fresh (Nat.le_refl _);have f5:=I.fpOk (Nat.le_refl _) hn;have new:h2'.get? s.heap.objs.size=some {cls:=.type "tuple",data:=.seq #[u,u2]}:=hs'.extBut _ _ hsz a5;have h0:X.s₀.heap.get? s.heap.objs.size=none:=Heap.get?_none_of_le I.sz;have I2:Inv X pins σ (upd H s.heap.objs.size (.tup [x,y])) {s with heap:=h2'}:=I1.track hn h0 f5.2.1 (λn c e=>f5.2.2.2.2.1 n c e) (λq hq=>f5.2.2.2.2.2 q hq)
   ⟨by show(2:Nat)<=sizeLine;decide,[u,u2],.cons ru (.cons ru2 .nil),_,new,⟨rfl,rfl⟩,_,rfl⟩
  refine⟨.ref s.heap.objs.size,_,I2,rfl,⟨_,x,y,rfl,hn,λxs' e=>by rw[I.sqd_inj e q1];exact hx,λys' e=>by rw[I.sqd_inj e q2];exact hy,rfl⟩,
   ⟨hz',hs'.extBut _ _ D.TIz (a7 _ _ D.TIz D.TITO D.TIi1 D.TIi2 hTI),⟨_,_,hs'.extBut _ _ D.TOz a2⟩,q4M (q8o a3) (λo e=>hs'.extBut _ _ D.i1z e),q4M (q8o a4) (λo e=>hs'.extBut _ _ D.i2z e)⟩,λb hb=>?_⟩
  have lt:∀b∈[z,TI,TO,i1,i2],b≠s.heap.objs.size:=λb hb=>by
   simp only[List.mem_cons,List.not_mem_nil,or_false]at hb;rcases hb with rfl | rfl | rfl | rfl | rfl
   ·exact Ne.symm hsz
   ·exact Nat.ne_of_lt (Heap.lt_size hTI)
   ·exact Nat.ne_of_lt (Heap.lt_size hTO)
   ·obtain⟨o,_,e,_⟩:=q1X h1;exact Nat.ne_of_lt (Heap.lt_size e)
   ·obtain⟨o,_,e,_⟩:=q1X h2;exact Nat.ne_of_lt (Heap.lt_size e)
  rw[q0l (lt b hb)];exact(hf b hb).1
 done:=by
  intro X hP hw hK hc i pins s σ H E I hf st hg;subst hP hw hK;obtain⟨hz,hTI,⟨a,a',hTO⟩,h1,h2⟩:=st;obtain⟨xs,ys,q1,q2,hx⟩:=hg;obtain⟨its,rv,p⟩:=I.sqd q1;obtain⟨its2,rv2,p2⟩:=I.sqd q2;have e1:=rv.length;have e2:=rv2.length;refine z0r (I.ok.hd hc) D (q8y t1 D.l1i1) (q8y t2 D.l2i2) hz hTI hTO (q8e h1 p) (q8e h2 p2) (by
   rcases hx with q | q
   ·left;simp;omega
   ·right;simp;omega) λh' a7=>⟨rfl,I.turnedL (t':=s.toks) (ch:=[z,TI,TO,i1,i2]) (λb o hb e=>a7 b o (λq=>hb (by simp[q])) (λq=>hb (by simp[q])) (λq=>hb (by simp[q])) (λq=>hb (by simp[q])) e) hf⟩
 self:=λ_ _ _ _ _ st h=>wpAny_pyIter_zip st.1 h
theorem q3v:∀(xs ys:List DV),(zpD xs ys).length=min xs.length ys.length
 | [],ys=>by simp[zpD]
 | _::_,[]=>by simp[zpD]
 | x::xs,y::ys=>by rw[zpD,List.length_cons,q3v xs ys,List.length_cons,List.length_cons];omega
theorem q9C:∀{xs ys:List DV} {i:Nat} {d:DV},(zpD xs ys)[i]? = some d->∃x y,xs[i]? = some x/\ys[i]? = some y/\d=.tup [x,y]
 | [],_,_,_,h=>by simp[zpD]at h
 | _::_,[],_,_,h=>by simp[zpD]at h
 | x::xs,y::ys,0,d,h=>by simp[zpD]at h;exact⟨x,y,rfl,rfl,h.symm⟩
 | x::xs,y::ys,i+1,d,h=>by rw[zpD,List.getElem?_cons_succ]at h;simpa using q9C h
theorem q4F{O W:List Addr}{c c':Cl}:∀b∈hidW O W (Cl.meet c c'),b∈hidW O W c:=by
 cases c<;>cases c'<;>intro b hb<;>first | exact hb | exact List.mem_append_left _ hb
theorem q8w{O W:List Addr}{c c':Cl}:∀b∈hidW O W (Cl.meet c c'),b∈hidW O W c':=by
 cases c<;>cases c'<;>intro b hb<;>first | exact hb | exact List.mem_append_left _ hb
theorem q3r{O W:List Addr}{c c':Cl}:∀b∈q0Y O W (Cl.meet c c'),b∈q0Y O W c:=by
 cases c<;>cases c'<;>intro b hb<;>first | exact hb | exact List.mem_append_left _ hb
theorem q5b{O W:List Addr}{c c':Cl}:∀b∈q0Y O W (Cl.meet c c'),b∈q0Y O W c':=by
 cases c<;>cases c'<;>intro b hb<;>first | exact hb | exact List.mem_append_left _ hb
theorem Wk.zip{D:Dm}{ds es:List DV}{Oc Oi:List Addr}{H1:Hp}{a b:Addr}{xs ys:List V}{t1 t2:Bool}(h:SqD t1 D.K (L2.wo Oc H1) a xs)(r:RepL D (L2.wo Oi H1) ds xs)(h':SqD t2 D.K (L2.wo Oc H1) b ys)(r':RepL D (L2.wo Oi H1) es ys):Wk D (Itz D.K t1 t2 a b) (zpD ds es) Oc Oi H1 where
 go:=λi H s hi=>by rw[q3v]at hi;exact⟨xs,ys,xs[i]'(by rw[r.length];omega),ys[i]'(by rw[r'.length];omega),q0T.sqd (s.sqd h),q0T.sqd (s.sqd h'),List.getElem?_eq_getElem _,List.getElem?_eq_getElem _⟩
 same:=λi H x H' y=>by obtain⟨p,v,u,_,hp,_,_,e⟩:=y;rw[e];exact q0p hp
 yld:=λi H x H' d O2 s s' y e ho=>by
  obtain⟨p,v,u,ex,hp,y1,y2,eH⟩:=y;obtain⟨d1,d2,q1,q2,rfl⟩:=q9C e;obtain⟨v1,z1,z2⟩:=r.get q1;obtain⟨v2,z3,z4⟩:=r'.get q2;have w1:=y1 xs (q0T.sqd (s.sqd h));have w2:=y2 ys (q0T.sqd (s.sqd h'));rw[z1]at w1;cases w1;rw[z3]at w2;cases w2;have hpo:p∉O2:=λz=>(ho p z).1 hp
  subst eH;refine q0G.mpr ⟨p,_,ex,SqT.of (by rw[q0o hpo];exact q0D),?_⟩;have up:Same (L2.wo Oi H1) (L2.wo O2 (upd H p (.tup [v,u]))):=(q7k s' ho).trans (q0p hp).wo;exact q0h.mpr ⟨_,_,rfl,z2.mono up,RepL.one (z4.mono up)⟩
 stop:=λH s=>by refine⟨xs,ys,q0T.sqd (s.sqd h),q0T.sqd (s.sqd h'),?_⟩;rw[q3v,r.length,r'.length];omega
section
variable {X:Cx} {E:St->XK} {δ:List Sv} {e e':Expr} {elts:List Expr} {k:Nat} {tpos pos p:Pos} {ra rb:Option Re} {ri:Ri}
theorem q6H{n a b:Nat}(ha:a<n)(hb:b<n):ZipApart (n+4) (n+2) (n+3) n (n+1) a b:=by
 constructor<;>(show @Ne Nat _ _)<;>omega
theorem z5c{ta:TA}(hg:Gl X "zip")(hm:X.mg "zip" = none)(ha:PA X [e,e'] ta)(hs:q0j e=false)(hs':q0j e'=false) :
  PI X (.Tuple elts k tpos) (.Call (.Name "zip" p) [e,e'] [] pos) (λσ H R=>ta σ H λvs H1=>∃t1 t2 a b,vs=[.ref a,.ref b]/\(∃xs,SqD t1 X.K H1 a xs)/\(∃ys,SqD t2 X.K H1 b ys)/\R (Itz X.K t1 t2 a b) H1):=by
 intro pins s σ H R I h;refine Call_ (q3D I hg hm boot_zip (PyProof.Rows.callWith_type1 (thn (ha pos pins s σ H _ I h) λus s1 ⟨vs,H1,I1,r1,q1⟩=>?_) (by rw[q0k hs]) (q1z [e'] (by simp[hs']))));obtain⟨t1,t2,a,b,e1,⟨xs,hx⟩,⟨ys,hy⟩,q⟩:=q1;subst e1;obtain⟨u,u',rfl,ru,ru'⟩:=r1.two;cases ru;cases ru';obtain⟨its,rv,p1⟩:=I1.sqd hx;obtain⟨its2,rv2,p2⟩:=I1.sqd hy;have la:=p1.lt;have lb:=p2.lt;refine q9r t1 t2 p1 p2 λh' z1 z2 z3 z4 z5 z6 z7=>?_
 have I2:Inv X pins σ H1 {s1 with heap:=h'}:=I1.kept (t':=s1.toks) z7;refine wpAny_pyIter_zip z1 ⟨s1.heap.objs.size+4,[s1.heap.objs.size+4,s1.heap.objs.size+2,s1.heap.objs.size+3,s1.heap.objs.size,s1.heap.objs.size+1],_,_,H1,rfl,I2,
  z1G (l1:=a) (l2:=b) t1 t2 (q6H la lb),⟨z1,z2,⟨_,_,z3⟩,q8o z4,q8o z5⟩,λc hc=>?_,q⟩
 have hc':s1.heap.objs.size<=c:=by
  simp only[List.mem_cons,List.not_mem_nil,or_false]at hc;rcases hc with rfl | rfl | rfl | rfl | rfl
  ·exact Nat.le_add_right ..
  ·exact Nat.le_add_right ..
  ·exact Nat.le_add_right ..
  ·exact Nat.le_refl _
  ·exact Nat.le_add_right ..
 exact I1.fpOk hc' (I1.hok.fresh hc')
theorem q3W{D:Dm}{O W:List Addr}{H0 H:Hp}{d:DV}{t:Bool}{ds:List DV}{c:Cl}{v:V}(k:z1C d=some (t,ds))(g:Got D O W H0 H d c v)(hd:Hid O W H0 H):∃a xs,v=.ref a/\SqD t D.K (L2.wo (hidW O W c) H) a xs/\RepL D (L2.wo (q0Y O W c) H) ds xs:=by
 cases d<;>cases k
 ·exact g.walkT hd
 ·exact g.walkL hd
theorem z4J(hg:Gl X "zip")(hm:X.mg "zip" = none)(hs:q0j e=false)(hs':q0j e'=false)(ha:∀q,ra=some q->PE X e (dE X.D E δ q))(hb:∀q,rb=some q->PE X e' (dE X.D E δ q))
  (h:q0A (Re.thn ra λx c=>Re.thn rb λy c'=>zipD x y c c')=some ri):PI X (.Tuple elts k tpos) (.Call (.Name "zip" p) [e,e'] [] pos) (dI X.D E δ ri):=by
 have C:=λta tb (hA:PE X e ta) (hB:PE X e' tb)=>z5c (elts:=elts) (k:=k) (tpos:=tpos) (p:=p) (pos:=pos) hg hm (q0W hA (q0W hB q3k (q0k hs')) (q0k hs)) hs hs';cases hra:ra with
 | none=>rw[hra]at h;cases h
 | some q=>
  rw[hra]at h;have A:=ha q hra;cases q with
  | ex c=>cases h;exact(C _ _ A q1H).weak λσ H R' ⟨O,W,R,p⟩=>⟨O,W,R,p⟩
  | ok dx cx=>
   cases hrb:rb with
   | none=>rw[hrb]at h;cases h
   | some q=>
    rw[hrb]at h;have B:=hb q hrb;cases q with
    | ex c=>cases h;exact(C _ _ A B).weak λσ H R' ⟨O,W,R,p⟩=>⟨O,W,R,λx H1 s1 g1=>⟨O,W,R.mono s1,λH' C m s=>p H' C m (s1.trans s)⟩⟩
    | ok dy cy=>
     have h':q0A (zipD dx dy cx cy)=some ri:=h;unfold zipD at h';split at h'
     ·rename_i t1 ds1 t2 ds2 k1 k2;cases h';exact(C _ _ A B).weak λσ H R' ⟨O,W,R,p⟩=>⟨O,W,R,λx H1 s1 g1=>⟨O,W,R.mono s1,λy H2 s2 g2=>by
       have hd:=(R.hid.mono s1).mono s2;obtain⟨a,xs,e1,e2,e3⟩:=q3W k1 (g1.mono s2) hd;obtain⟨b,ys,e1',e2',e3'⟩:=q3W k2 (g2.since s1) hd;refine⟨t1,t2,a,b,by rw[e1,e1'],⟨xs,q0T.sqd e2⟩,⟨ys,q0T.sqd e2'⟩,p _ H2 (s1.trans s2) (.zip ((q0I q4F).sqd e2) (e3.mono (q0I q3r)) ((q0I q8w).sqd e2') (e3'.mono (q0I q5b)))⟩⟩⟩
     ·cases h'
end
end L2
end
noncomputable section
namespace L2
open PySem PySem.Spec PyProof.Rows
section
variable {P:Program} {w:World} {A:Around} {E:Value->Shared->Prop} {s:Shared} {n c l:Addr} {k:Nat} {vs:Array Value} {S:Nat->Heap->Prop} {x old:Value}
abbrev z7r(s:Shared)(h':Heap)(n c:Addr)(k:Nat)(x:Value)(S:Nat->Heap->Prop):Prop:=
 IsEnumOut h' n c ((k:Int)+1) x s.heap.objs.size/\S (k+1) h'/\h'.get? s.heap.objs.size=some {cls:=.type "tuple",data:=.seq #[.int k s.toks,x]} /\ h'.objs.size=s.heap.objs.size+1/\(∀b o,b≠n->b≠c->s.heap.get? b=some o->h'.get? b=some o)
theorem z0I{Q:Value->Shared->Prop}(R:Src P w c l vs S)(hn:IsEnum s.heap n c k old)(hS:S k s.heap)(hx:vs[k]? = some x)(d1:n≠c)(d2:l≠n)(hQ:∀h',z7r s h' n c k x S->Q (.ref s.heap.objs.size) {s with heap:=h',toks:=s.toks+1}) :
  wpAny (model P w) A (Builtin.«enumerate.__next__» ⟨[.ref n],[]⟩) (λfin s'=>∃v,fin=.done (.ret v)/\Q v s') E s:=by
 obtain⟨g0,gg,gd,gt,go⟩:=s;show wpAny _ _ (field (.ref n) 2 >>= _) _ _ _;refine wpAny_bind (wpAny_field hn rfl (x:=.ref c) rfl (wpAny_bind (R.step k x hS hx λg1 r1 t1=>?_)))
 replace t1:Heap.SameBut c g0 g1:=t1
 have n1:IsEnum g1 n c k old:=(t1.2 n d1).trans hn;show wpAny _ _ (field (.ref n) 3 >>= _) _ _ ⟨g1,gg,gd,gt,go⟩;refine wpAny_bind (wpAny_field n1 rfl (x:=rawInt k) rfl ?_);show wpAny _ _ (field (.ref n) 4 >>= _) _ _ ⟨g1,gg,gd,gt,go⟩;refine wpAny_bind (wpAny_field n1 rfl (x:=.none) rfl ?_);show wpAny _ _ (mkInt k >>= _) _ _ ⟨g1,gg,gd,gt,go⟩;refine wpAny_bind (wpAny_mkInt ?_);show wpAny _ _ (setField (.ref n) 3 (rawInt ((k:Int)+1)) >>= _) _ _ ⟨g1,gg,gd,gt+1,go⟩;refine wpAny_bind (wpAny_setField_rec n1 (by simp) λg2 n2 t2=>?_)
 replace t2:Heap.SameBut n g1 g2:=t2
 replace n2:IsEnum g2 n c ((k:Int)+1) old:=n2
 show wpAny _ _ (setField (.ref n) 4 .none >>= _) _ _ ⟨g2,gg,gd,gt+1,go⟩;refine wpAny_bind (wpAny_setField_rec n2 (by simp) λg3 n3 t3=>?_)
 replace t3:Heap.SameBut n g2 g3:=t3
 replace n3:IsEnum g3 n c ((k:Int)+1) old:=n3
 show wpAny _ _ (newTuple [.int k gt,x] >>= _) _ _ ⟨g3,gg,gd,gt+1,go⟩;refine wpAny_bind (wpAny_newTuple ?_);have n4:IsEnum (g3.push {cls:=.type "tuple",data:=.seq #[.int k gt,x]}) n c ((k:Int)+1) old:=Heap.get?_push_of_some _ n3;have z3:g3.objs.size=g0.objs.size:=by rw[t3.1,t2.1,t1.1]
 have q4:(g3.push {cls:=.type "tuple",data:=.seq #[.int k gt,x]}).get? g0.objs.size=some {cls:=.type "tuple",data:=.seq #[.int k gt,x]}:=by rw[←z3];exact Heap.get?_push_size _ rfl
 have z4:(g3.push {cls:=.type "tuple",data:=.seq #[.int k gt,x]}).objs.size=g0.objs.size+1:=by rw[Heap.size_push,z3]
 have k4:∀b o,b≠n->b≠c->g0.get? b=some o->(g3.push {cls:=.type "tuple",data:=.seq #[.int k gt,x]}).get? b=some o:=λb o b1 b2 e=>
  Heap.get?_push_of_some _ (t3.extBut b o b1 (t2.extBut b o b1 (t1.extBut b o b2 e)))
 have r4:S (k+1) (g3.push {cls:=.type "tuple",data:=.seq #[.int k gt,x]}):=
  R.keep _ _ _ (R.ext (R.ext r1 t2.extBut (Ne.symm d1) d2) t3.extBut (Ne.symm d1) d2) (λo e=>Heap.get?_push_of_some _ e) (λo e=>Heap.get?_push_of_some _ e)
 generalize (g3.push {cls:=.type "tuple",data:=.seq #[.int k gt,x]})=g4 at n4 q4 z4 k4 r4 ⊢;have lt:n<g0.objs.size:=Heap.lt_size hn;show wpAny _ _ (Builtin.SmallTypes.ownedTupleIsFree (.ref n) >>= _) _ _ ⟨g4,gg,gd,gt+1,go⟩;rw[z3];refine wpAny_bind ?_;unfold Builtin.SmallTypes.ownedTupleIsFree;refine wpAny_bind (wpAny_field n4 rfl (x:=.none) rfl (wpAny_pure ?_));simp only[if_true];refine wpAny_bind (wpAny_rule (wpAny_bind (wpAny_field n4 rfl (x:=old) rfl (wpAny_bind (wpAny_setField_rec n4 (by simp) λg5 n5 t5=>?_)))))
 replace t5:Heap.SameBut n g4 g5:=t5
 replace n5:IsEnum g5 n c ((k:Int)+1) x:=n5
 show wpAny _ _ (Builtin.SmallTypes.ownedTupleHandOut (.ref n) (.ref g0.objs.size) >>= _) _ _ ⟨g5,gg,gd,gt+1,go⟩;refine wpAny_bind ?_;unfold Builtin.SmallTypes.ownedTupleHandOut;refine wpAny_bind (wpAny_setField_rec n5 (by simp) λg6 n6 t6=>?_)
 replace t6:Heap.SameBut n g5 g6:=t6
 replace n6:IsEnumOut g6 n c ((k:Int)+1) x g0.objs.size:=n6
 refine wpAny_setField_rec n6 (by simp) λg7 n7 t7=>?_
 replace t7:Heap.SameBut n g6 g7:=t7
 replace n7:IsEnumOut g7 n c ((k:Int)+1) x g0.objs.size:=n7
 have up:∀b o,b≠n->g4.get? b=some o->g7.get? b=some o:=λb o b1 e=>t7.extBut b o b1 (t6.extBut b o b1 (t5.extBut b o b1 e));exact wpAny_bind (wpAny_letGo (wpAny_pure ⟨_,rfl,hQ g7 ⟨n7,R.keep _ _ _ r4 (λo e=>up _ o (Ne.symm d1) e) (λo e=>up _ o d2 e),up _ _ (Nat.ne_of_gt lt) q4,by rw[t7.1,t6.1,t5.1,z4],λb o b1 b2 e=>up b o b1 (k4 b o b1 b2 e)⟩⟩))
theorem q9i{Q:Option Value->Shared->Prop}(R:Src P w c l vs S)(hn:IsEnum s.heap n c k old)(hS:S k s.heap)(hx:vs[k]? = some x)(d1:n≠c)(d2:l≠n)(hQ:∀h',z7r s h' n c k x S->Q (some (.ref s.heap.objs.size)) {s with heap:=h',toks:=s.toks+1}) :
  wpAny (model P w) A (pyNext (.ref n)) Q E s:=by
 have T:s.TypeIs (.ref n) "enumerate":=⟨_,hn,rfl⟩;unfold pyNext;exact wpAny_bind (wpAny_attempt (wpAny_callSpecial?_slot (name:=Str.ofString "__next__") T F.slot_enumerate_next (wpAny_call_entry F.slot_enumerate_next T F.entry_enumerate_next (z0I R hn hS hx d1 d2 λh' a=>wpAny_pure (hQ h' a)) (F.args_enumerate_next_1 _))))
theorem q9f{Q:Option Value->Shared->Prop}(hh:A.handled=none)(R:Src P w c l vs S)(hn:IsEnum s.heap n c k old)(hS:S k s.heap)(hx:vs[k]? = none)(hQ:∀h',Heap.ExtBut c s.heap h'->Q none {s with heap:=h'}) :
  wpAny (model P w) A (pyNext (.ref n)) Q E s:=by
 have T:s.TypeIs (.ref n) "enumerate":=⟨_,hn,rfl⟩;unfold pyNext;refine wpAny_bind (wpAny_attempt (wpAny_callSpecial?_slot (name:=Str.ofString "__next__") T F.slot_enumerate_next (wpAny_call_entry F.slot_enumerate_next T F.entry_enumerate_next ?_ (F.args_enumerate_next_1 _))));show wpAny _ _ (field (.ref n) 2 >>= _) _ _ _;refine wpAny_bind (wpAny_field hn rfl (x:=.ref c) rfl (wpAny_bind (R.stop k hh hS hx λg1 e t1 he=>?_)));obtain⟨o,q1,q2⟩:=he;exact wpAny_bind (wpAny_isInstance (T:="StopIteration") (b:=true) ⟨o,q1,q2⟩ isSubtype_stop (wpAny_pure (hQ _ t1)))
end
open AutoSeq1 (wpAny_loadPart') in
theorem q8p(l:Addr)(vs:Array Value)(m:Nat)(dc:Option Addr)(sl:Array (Option Value)):Meets (Builtin.«enumerate.__new__» ⟨[.type "enumerate",.ref l],[]⟩) (λ_ R s=>s.heap.get? l=some {cls:=.type "tuple",dict:=dc,data:=.seq vs m,slots:=sl} /\
  R (.ok (.ret (.ref (zH1 s.heap true l).objs.size))) {s with heap:=(zH1 s.heap true l).push {cls:=.type "enumerate",data:=.fields #[.none,.bool false,.ref s.heap.objs.size,rawInt 0,.none,.none]}}):=
 .of_wp λP w A R s h=>by
  obtain⟨g0,gg,gd,gt,go⟩:=s;obtain⟨q,h⟩:=h;have hsub:=sub_enumerate;have qT:Heap.IsTuple (Shared.heap ⟨g0,gg,gd,gt,go⟩) l vs:=⟨_,q,rfl,m,rfl⟩
  wp_walk using wpAny_loadPart' q
  refine wpAny_stack_any λst=>wpAny_pure ?_;split
  ·rename_i y _ _ _ _ _;cases(y==Value.type "enumerate")
   ·wp_walk using wpAny_loadPart' q,wpAny_pyIter_tuple qT
    exact⟨_,rfl,h⟩
   ·wp_walk using wpAny_loadPart' q,wpAny_pyIter_tuple qT
    exact⟨_,rfl,h⟩
  ·wp_walk using wpAny_loadPart' q,wpAny_pyIter_tuple qT
   exact⟨_,rfl,h⟩
theorem q8h {P : Program} {w : World} {A : Around} {E : Value -> Shared -> Prop} {s : Shared} {l : Addr} {vs : Array Value} {Q : Value -> Shared -> Prop} (t : Bool) (q : SqK t s.heap l vs)
    (h : ∀ h', IsEnum h' (s.heap.objs.size + 1) s.heap.objs.size 0 .none -> sK t s.heap.objs.size l vs 0 h' -> h'.objs.size = s.heap.objs.size + 2 -> (∀ b o, s.heap.get? b = some o -> h'.get? b = some o) -> Q (.ref (s.heap.objs.size + 1)) { s with heap := h' }) :
    wpAny (model P w) A (call (.type "enumerate") [.ref l]) Q E s := by
  cases t with
  | false => exact call_enumerate_list (show s.heap.IsList l vs from q) λ h' a1 a2 a3 a4 => h h' a1 ⟨a2, Heap.IsList.at (show s.heap.IsList l vs from q) λ o e => a4 _ o e⟩ a3 a4
  | true =>
    obtain ⟨⟨y, dc, dt, sl⟩, q1, q2, m, q3⟩ := id (show s.heap.IsTuple l vs from q)
    replace q2 : y = .type "tuple" := q2
    replace q3 : dt = .seq vs m := q3
    subst q2 q3;refine callType_new F.called_enumerate (by decide) (F.typeCall_enumerate_1 _) (F.newCall_enumerate_1 _) (λ obj => F.args_object_init_2 obj _) F.entry_enumerate_new (q8p l vs m dc sl) ⟨q1, ?_⟩;have n1 : (zH1 s.heap true l).objs.size = s.heap.objs.size + 1 := Heap.size_push ..;have e2 := Heap.get?_push_size (zH1 s.heap true l) (o := { cls := .type "enumerate", data := .fields #[.none, .bool false, .ref s.heap.objs.size, rawInt 0, .none, .none] }) rfl;have e1 : ((zH1 s.heap true l).push { cls := .type "enumerate", data := .fields #[.none, .bool false, .ref s.heap.objs.size, rawInt 0, .none, .none] }).get? s.heap.objs.size = some (itO true l) := Heap.get?_push_of_some _ (Heap.get?_push_size _ rfl);have kp : ∀ b o, s.heap.get? b = some o -> ((zH1 s.heap true l).push { cls := .type "enumerate", data := .fields #[.none, .bool false, .ref s.heap.objs.size, rawInt 0, .none, .none] }).get? b = some o := λ b o e => Heap.get?_push_of_some _ (Heap.get?_push_of_some _ e)
    rw [n1] at e2;show _ /\ _;rw [n1];exact ⟨⟨_, e2, rfl⟩, h _ e2 (z0j e1 q kp) (by rw [Heap.size_push, n1]) kp⟩
end L2
end
noncomputable section
namespace L2
open PySem PySem.Spec PyProof.Rows
def Ite(K:PySem.W.Frag)(t:Bool)(a:Addr):It:=
  ⟨λi H=>∃xs x,SqD t K H a xs/\xs[i]? = some x,
   λi H x H'=>∃p v,x=.ref p/\H p=none/\(∀xs,SqD t K H a xs->xs[i]? = some v)/\H'=upd H p (.tup [.int i,v]),
   λi H=>∃xs,SqD t K H a xs/\xs.length<=i⟩
theorem q9y{P:Program}{w:World}{K:PySem.W.Frag}{elts:List Expr}{k:Nat}{pos:Pos}{n c l:Addr}(t:Bool)(d1:n≠c)(d2:l≠n)(d3:l≠c) :
  Turn P w K (.Tuple elts k pos) (Ite K t l) [n,c] n (λi h=>(∃old,IsEnum h n c (i:Nat) old)/\itK t h c l i) where
 mem:=by simp
 obj:=λi h st b hb=>by
  obtain⟨⟨old,hn⟩,h1⟩:=st;simp only[List.mem_cons,List.not_mem_nil,or_false]at hb;rcases hb with rfl | rfl
  ·exact⟨_,hn,λv q=>by cases q⟩
  ·obtain⟨o,xs,e,d⟩:=q1X h1;exact⟨o,e,λv q=>by rw[d]at q;cases q⟩
 keep:=λi h h' st q=>by obtain⟨⟨old,hn⟩,h1⟩:=st;exact⟨⟨old,q n (by simp) _ hn⟩,q4M h1 λo e=>q c (by simp) o e⟩
 item:=by
  intro X hP hw hK hc i pins s σ H E I hf st hg;subst hP hw hK;obtain⟨⟨old,hn⟩,h1⟩:=st;obtain⟨xs,x,q1,hx⟩:=hg;obtain⟨its,rv,p⟩:=I.sqd q1;obtain⟨u,hu,ru⟩:=rv.get hx;refine q9i (q8y t d3) hn (q8e h1 p) (x:=u) (by simpa using hu) d1 d2 λh' a=>⟨_,rfl,?_⟩
  obtain⟨a1,a2,a3,a4,a5⟩:=a;refine wpAny_letOwnedTupleGo_enum a1 λh2 hn2 t2=>?_
  have hsz:s.heap.objs.size≠n:=Nat.ne_of_gt (Heap.lt_size hn);have keep:∀b o,b∉[n,c]->s.heap.get? b=some o->h2.get? b=some o:=λb o hb e=>t2.extBut _ _ (λq=>hb (by simp[q])) (a5 b o (λq=>hb (by simp[q])) (λq=>hb (by simp[q])) e);have I1:Inv X pins σ H {s with heap:=h2,toks:=s.toks+1}:=I.turnedL (t':=s.toks+1) keep hf;have hn':H s.heap.objs.size=none:=I.hok.fresh (Nat.le_refl _);have f5:=I.fpOk (Nat.le_refl _) hn';have new:h2.get? s.heap.objs.size=some {cls:=.type "tuple",data:=.seq #[.int i s.toks,u]}:=t2.extBut _ _ hsz a3;have h0:X.s₀.heap.get? s.heap.objs.size=none:=Heap.get?_none_of_le I.sz;have I2:Inv X pins σ (upd H s.heap.objs.size (.tup [.int i,x])) {s with heap:=h2,toks:=s.toks+1}:=I1.track hn' h0 f5.2.1 (λn c e=>f5.2.2.2.2.1 n c e) (λq hq=>f5.2.2.2.2.2 q hq)
   ⟨by show(2:Nat)<=sizeLine;decide,[.int i s.toks,u],.cons ⟨_,rfl⟩ (.cons ru .nil),_,new,⟨rfl,rfl⟩,_,rfl⟩
  refine⟨.ref s.heap.objs.size,_,I2,rfl,⟨_,x,rfl,hn',λxs' e=>by rw[I.sqd_inj e q1];exact hx,rfl⟩,⟨⟨_,by simpa using hn2⟩,q4M (q8o a2) λo e=>t2.extBut _ _ (Ne.symm d1) e⟩,λb hb=>?_⟩;have lt:b≠s.heap.objs.size:=by
   simp only[List.mem_cons,List.not_mem_nil,or_false]at hb;rcases hb with rfl | rfl
   ·exact Ne.symm hsz
   ·obtain⟨o,_,e,_⟩:=q1X h1;exact Nat.ne_of_lt (Heap.lt_size e)
  rw[q0l lt];exact(hf b hb).1
 done:=by
  intro X hP hw hK hc i pins s σ H E I hf st hg;subst hP hw hK;obtain⟨⟨old,hn⟩,h1⟩:=st;obtain⟨xs,q1,hx⟩:=hg;obtain⟨its,rv,p⟩:=I.sqd q1;have e1:=rv.length;exact q9f (I.ok.hd hc) (q8y t d3) hn (q8e h1 p) (by simp;omega) λh' a=>⟨rfl,I.turnedL (t':=s.toks) (ch:=[n,c]) (λb o hb e=>a b o (λq=>hb (by simp[q])) e) hf⟩
 self:=λ_ _ _ _ _ st h=>by obtain⟨⟨old,hn⟩,_⟩:=st;exact wpAny_pyIter_enum hn h
theorem q2T:∀(k:Nat) (xs:List DV),(enuD k xs).length=xs.length
 | _,[]=>rfl
 | k,x::xs=>by rw[enuD,List.length_cons,q2T (k+1) xs,List.length_cons]
theorem q7a:∀{k:Nat} {xs:List DV} {i:Nat} {d:DV},(enuD k xs)[i]? = some d->∃x,xs[i]? = some x/\d=.tup [.int ((k+i:Nat):Int),x]
 | _,[],_,_,h=>by simp[enuD]at h
 | k,x::xs,0,d,h=>by simp[enuD]at h;exact⟨x,rfl,h.symm⟩
 | k,x::xs,i+1,d,h=>by rw[enuD,List.getElem?_cons_succ]at h;obtain⟨y,e1,e2⟩:=q7a h;exact⟨y,by simpa using e1,by rw[e2,show k+1+i=k+(i+1)from by omega]⟩
theorem Wk.enum{D:Dm}{ds:List DV}{Oc Oi:List Addr}{H1:Hp}{a:Addr}{xs:List V}{t:Bool}(h:SqD t D.K (L2.wo Oc H1) a xs)(r:RepL D (L2.wo Oi H1) ds xs):Wk D (Ite D.K t a) (enuD 0 ds) Oc Oi H1 where
 go:=λi H s hi=>by rw[q2T]at hi;exact⟨xs,xs[i]'(by rw[r.length];omega),q0T.sqd (s.sqd h),List.getElem?_eq_getElem _⟩
 same:=λi H x H' y=>by obtain⟨p,v,_,hp,_,e⟩:=y;rw[e];exact q0p hp
 yld:=λi H x H' d O2 s s' y e ho=>by
  obtain⟨p,v,ex,hp,y1,eH⟩:=y;obtain⟨d1,q1,rfl⟩:=q7a e;obtain⟨v1,z1,z2⟩:=r.get q1;have w1:=y1 xs (q0T.sqd (s.sqd h));rw[z1]at w1;cases w1;have hpo:p∉O2:=λz=>(ho p z).1 hp
  subst eH;refine q0G.mpr ⟨p,_,ex,SqT.of (by rw[q0o hpo];exact q0D),?_⟩;have up:Same (L2.wo Oi H1) (L2.wo O2 (upd H p (.tup [.int i,v]))):=(q7k s' ho).trans (q0p hp).wo;exact q0h.mpr ⟨_,_,rfl,q0J.mpr (by rw[Nat.zero_add]),RepL.one (z2.mono up)⟩
 stop:=λH s=>⟨xs,q0T.sqd (s.sqd h),by rw[q2T,r.length];exact Nat.le_refl _⟩
section
variable {X:Cx} {E:St->XK} {δ:List Sv} {e:Expr} {elts:List Expr} {k:Nat} {tpos pos p:Pos} {ra:Option Re} {ri:Ri}
theorem q4k{n a:Nat}(h:a<n):n+1≠n/\a≠n+1/\a≠n:=by omega
theorem q8s:bootBuiltins "enumerate" = some (.type "enumerate"):=by decide +kernel
theorem z4f{ta:TA}(hg:Gl X "enumerate")(hm:X.mg "enumerate" = none)(ha:PA X [e] ta)(hs:q0j e=false) :
  PI X (.Tuple elts k tpos) (.Call (.Name "enumerate" p) [e] [] pos) (λσ H R=>ta σ H λvs H1=>∃t a,vs=[.ref a]/\(∃xs,SqD t X.K H1 a xs)/\R (Ite X.K t a) H1):=by
 intro pins s σ H R I h;refine Call_ (q3D I hg hm q8s (PyProof.Rows.callWith_type1 (thn (ha pos pins s σ H _ I h) λus s1 ⟨vs,H1,I1,r1,q1⟩=>?_) (by rw[q0k hs]) (q1z [] (by simp))));obtain⟨t,a,e1,⟨xs,hx⟩,q⟩:=q1;subst e1;obtain⟨u,rfl,ru⟩:=r1.one;cases ru;obtain⟨its,rv,p1⟩:=I1.sqd hx;have la:=p1.lt;refine q8h t p1 λh' z1 z4 z6 z7=>?_
 have I2:Inv X pins σ H1 {s1 with heap:=h'}:=I1.kept (t':=s1.toks) z7;refine wpAny_pyIter_enum z1 ⟨s1.heap.objs.size+1,[s1.heap.objs.size+1,s1.heap.objs.size],_,_,H1,rfl,I2,
  q9y (l:=a) t (q4k la).1 (q4k la).2.1 (q4k la).2.2,⟨⟨_,z1⟩,q8o z4⟩,λc hc=>?_,q⟩
 have hc':s1.heap.objs.size<=c:=by
  simp only[List.mem_cons,List.not_mem_nil,or_false]at hc;rcases hc with rfl | rfl
  ·exact Nat.le_add_right ..
  ·exact Nat.le_refl _
 exact I1.fpOk hc' (I1.hok.fresh hc')
theorem z1M(hg:Gl X "enumerate")(hm:X.mg "enumerate" = none)(hs:q0j e=false)(ha:∀q,ra=some q->PE X e (dE X.D E δ q))
  (h:q0A (Re.thn ra λx c=>q6q x c)=some ri):PI X (.Tuple elts k tpos) (.Call (.Name "enumerate" p) [e] [] pos) (dI X.D E δ ri):=by
 have C:=λta (hA:PE X e ta)=>z4f (elts:=elts) (k:=k) (tpos:=tpos) (p:=p) (pos:=pos) hg hm (q0W hA q3k (q0k hs)) hs;cases hra:ra with
 | none=>rw[hra]at h;cases h
 | some q=>
  rw[hra]at h;have A:=ha q hra;cases q with
  | ex c=>cases h;exact(C _ A).weak λσ H R' ⟨O,W,R,p⟩=>⟨O,W,R,p⟩
  | ok dx cx=>
   have h':q0A (q6q dx cx)=some ri:=h;unfold q6q at h';split at h'
   ·rename_i t1 ds1 k1;cases h';exact(C _ A).weak λσ H R' ⟨O,W,R,p⟩=>⟨O,W,R,λx H1 s1 g1=>by
     have hd:=R.hid.mono s1;obtain⟨a,xs,e1,e2,e3⟩:=q3W k1 g1 hd;exact⟨t1,a,by rw[e1],⟨xs,q0T.sqd e2⟩,p _ H1 s1 (.enum ((q0I q4F).sqd e2) (e3.mono (q0I q3r)))⟩⟩
   ·cases h'
end
end L2
end
noncomputable section
namespace L2
open PySem PySem.Spec PyProof.Rows
def dEnd(D:Dm)(E:St->XK)(H0:Hp)(O:List Addr)(Dn:Ends):Out->Prop
 | .nx δ=>∀σ H W,RSt D H σ δ O W->(∀a∈W,H0 a=none)->Same H0 H->Dn.nx σ H
 | .rt d fr=>∀v H,Same H0 H->GotR D O H0 H d fr v->Dn.rt v H
 | .rtt d=>∀v H,Same H0 H->GotT D O H0 H d v->Dn.rt v H
 | .ex c δ=>∀σ H W C,D.mg c=some C->RSt D H σ δ O W->(∀a∈W,H0 a=none)->Same H0 H->E σ C none H
def dS(D:Dm)(E:St->XK)(δ:List Sv)(o:Out):TS:=λDn σ H=>∃H0 O W,RSt D H σ δ O W/\(∀a∈W,H0 a=none)/\(∀a∈O,H0 a≠none)/\Same H0 H/\dEnd D E H0 O Dn o
section
variable {X:Cx} {E:St->XK} {δ δ1:List Sv} {st:Stmt} {rest body els:List Stmt} {o:Out} {e c:Expr} {pos pos':Pos} {ra:Option Re} {rt:Option Rt} {i:Nat} {x:Str}
theorem z4C:PSs X [] (dS X.D E δ (.nx δ)):=z4a.weak λDn σ H ⟨H0,O,W,R,fr,fo,sm,k⟩=>k σ H W R fr sm
theorem z1m(h1:PS X st (dS X.D E δ (.nx δ1)))(h2:PSs X rest (dS X.D E δ1 o)):PSs X (st::rest) (dS X.D E δ o):=
 (q3I h1 h2).weak λDn σ H ⟨H0,O,W,R,fr,fo,sm,k⟩=>⟨H0,O,W,R,fr,fo,sm,λσ' H' W' R' fr' sm'=>⟨H0,O,W',R',fr',fo,sm',k⟩⟩
theorem z6m{d:DV}{fr:Bool}(h1:PS X st (dS X.D E δ (.rt d fr))):PSs X (st::rest) (dS X.D E δ (.rt d fr)):=
 (q3I h1 q1G).weak λDn σ H ⟨H0,O,W,R,fr,fo,sm,k⟩=>⟨H0,O,W,R,fr,fo,sm,k⟩
theorem z4F{d:DV}(h1:PS X st (dS X.D E δ (.rtt d))):PSs X (st::rest) (dS X.D E δ (.rtt d)):=
 (q3I h1 q1G).weak λDn σ H ⟨H0,O,W,R,fr,fo,sm,k⟩=>⟨H0,O,W,R,fr,fo,sm,k⟩
theorem z5v{c:Str}{δ':List Sv}(h1:PS X st (dS X.D E δ (.ex c δ'))):PSs X (st::rest) (dS X.D E δ (.ex c δ')):=
 (q3I h1 q1G).weak λDn σ H ⟨H0,O,W,R,fr,fo,sm,k⟩=>⟨H0,O,W,R,fr,fo,sm,k⟩
theorem q5I{D:Dm}{H0 H:Hp}{O W:List Addr}{σ:St}{Dn:Ends}{c:Str}{Q:VK}(R:RSt D H σ δ O W)(fr:∀a∈W,H0 a=none)(sm:Same H0 H)(k:dEnd D E H0 O Dn (.ex c δ)):Post D E σ O W H H Q (.ex c):=
 λH' C m s=>k σ H' W C m (R.mono s) fr (sm.trans s)
theorem z5j(hc:∀q,rt=some q->PT X c (dT X.D E δ q)){ro rp:Option Out}(h1:∀q,ro=some q->PSs X body (dS X.D E δ q))(h2:∀q,rp=some q->PSs X els (dS X.D E δ q))(h:(Rt.thnS δ rt λk=>if k then ro else rp)=some o):PS X (.If c body els pos) (dS X.D E δ o):=by
 cases hrt:rt with
 | none=>rw[hrt]at h;cases h
 | some q=>
  rw[hrt]at h;have C:=hc q hrt;cases q with
  | ex c=>cases h;exact(z4l C q1G q1G).weak λDn σ H ⟨H0,O,W,R,fr,fo,sm,k⟩=>⟨O,W,R,λH' C m s=>k σ H' W C m (R.mono s) fr (sm.trans s)⟩
  | ok b=>
   cases b with
   | true=>
    have h':ro=some o:=h;exact(z4l C (h1 o h') q1G).weak λDn σ H ⟨H0,O,W,R,fr,fo,sm,k⟩=>⟨O,W,R,λH1 s1=>iteT ⟨H0,O,W,R.mono s1,fr,fo,sm.trans s1,k⟩⟩
   | false=>
    have h':rp=some o:=h;exact(z4l C q1G (h2 o h')).weak λDn σ H ⟨H0,O,W,R,fr,fo,sm,k⟩=>⟨O,W,R,λH1 s1=>iteF ⟨H0,O,W,R.mono s1,fr,fo,sm.trans s1,k⟩⟩
theorem z4K(ha:∀q,ra=some q->PE X e (dE X.D E δ q))(h:(Re.thnS δ ra λd c=>some (retD d c))=some o):PS X (.Return (some e) pos) (dS X.D E δ o):=by
 cases hra:ra with
 | none=>rw[hra]at h;cases h
 | some q=>
  rw[hra]at h;have A:=ha q hra;cases q with
  | ex c=>cases h;exact(q7I A).weak λDn σ H ⟨H0,O,W,R,fr,fo,sm,k⟩=>⟨O,W,R,q5I R fr sm k⟩
  | ok d cl=>
   have h2:some (retD d cl)=some o:=h;cases h2;by_cases hft:cl=.ft
   ·subst hft;refine(q7I A).weak λDn σ H ⟨H0,O,W,R,fr,fo,sm,k⟩=>⟨O,W,R,λv H1 s1 g=>(k:dEnd X.D E H0 O Dn (.rtt d)) v H1 (sm.trans s1) ?_⟩
    obtain⟨t,ts,p,xs,ds,es,e1,e2,e0,e3,e4,e5,e6⟩:=g;have up:Same (L2.wo (p::(O++W)) H1) (L2.wo (p::O) H1):=q0I λb hb=>by rcases List.mem_cons.mp hb with z | z;exact List.mem_cons.mpr (.inl z);exact List.mem_cons_of_mem _ (List.mem_append_left _ z)
    exact .inl ⟨t,ts,p,xs,ds,es,e1,e2,(q0I q6p).tseq e0,sm.free e3,e4,e5.mono up,e6.mono up⟩
   have hrt:retD d cl=.rt d (frD d cl):=by cases cl<;>first | rfl | exact absurd rfl hft
   rw[hrt];refine(q7I A).weak λDn σ H ⟨H0,O,W,R,fr,fo,sm,k⟩=>⟨O,W,R,λv H1 s1 g=>(k:dEnd X.D E H0 O Dn (.rt d (frD d cl))) v H1 (sm.trans s1) ?_⟩
   have hd:=R.hid.mono s1;cases hf:frD d cl with
   | false=>exact g.weak hd
   | true=>
    unfold frD at hf;split at hf
    ·obtain⟨p,xs,ds,e1,e2,e3,e4,e5⟩:=g;exact⟨p,xs,ds,e1,e2,sm.free e3,e4,e5.mono (q0I λb hb=>by rcases List.mem_cons.mp hb with z | z;exact List.mem_cons.mpr (.inl z);exact List.mem_cons_of_mem _ (List.mem_append_left _ z))⟩
    ·obtain⟨a,xs,e1,e0,e2,e3⟩:=g;exact⟨a,xs,_,e1,rfl,fr a e0,q0T _ _ e2,e3.mono (q0I λb hb=>by rcases List.mem_cons.mp hb with z | z;rw[z];exact List.mem_append_right _ e0;exact List.mem_append_left _ z)⟩
    ·cases hf
theorem q2C{v:Expr}{t:Option Expr}{l:Nat}{env:Env}(h:q4G v=false):swapsWith v t l env=pure false:=by
 cases v<;>first | rfl | cases h
theorem z4Y(ha:∀q,ra=some q->PE X e (dE X.D E δ q))(hc:q4G e=false)(h:(Re.thnS δ ra λ_ _=>some (.nx δ))=some o):PS X (.Expr e pos) (dS X.D E δ o):=by
 cases hra:ra with
 | none=>rw[hra]at h;cases h
 | some q=>
  rw[hra]at h;have A:=ha q hra;cases q with
  | ex c=>cases h;exact(q4d A (q2C hc)).weak λDn σ H ⟨H0,O,W,R,fr,fo,sm,k⟩=>⟨O,W,R,q5I R fr sm k⟩
  | ok d cl=>cases h;exact(q4d A (q2C hc)).weak λDn σ H ⟨H0,O,W,R,fr,fo,sm,k⟩=>⟨O,W,R,λv H1 s1 g=>k σ H1 W (R.mono s1) fr (sm.trans s1)⟩
theorem q2n{O W:List Addr}{p b:Addr}:b∈O++p::W↔b∈p::(O++W):=by
 simp only[List.mem_append,List.mem_cons];constructor
 ·rintro(h | h | h)
  ·exact .inr (.inl h)
  ·exact .inl h
  ·exact .inr (.inr h)
 ·rintro(h | h | h)
  ·exact .inr (.inl h)
  ·exact .inl h
  ·exact .inr (.inr h)
theorem q0c{α:Type}{l:List α}{i j:Nat}{a b:α}(h:(l.set i a)[j]? = some b)(hn:a≠b):j≠i:=λz=>by
 subst z;have hl:j<l.length:=by have:=(List.getElem?_eq_some_iff.mp h).1;rw[List.length_set]at this;exact this
 rw[List.getElem?_set_self hl]at h;exact hn (Option.some.inj h)
theorem q3g{α:Type}{l:List α}{i:Nat}{a b:α}(h:(l.set i a)[i]? = some b):i<l.length/\a=b:=by
 have hl:i<l.length:=(by have:=(List.getElem?_eq_some_iff.mp h).1;rw[List.length_set]at this;exact this);rw[List.getElem?_set_self hl]at h;exact⟨hl,Option.some.inj h⟩
theorem RSt.alloc{D:Dm}{H H':Hp}{σ:St}{O W:List Addr}{p:Addr}{xs:List V}{ds:List DV}(R:RSt D H σ δ O W)(s:Same H H')(hp:H p=none)(hp':H' p=some (.lst xs))(r:RepL D (L2.wo (p::(O++W)) H') ds xs)(i:Nat) :
  RSt D H' (σ.set i (some (.ref p))) (δ.set i (.own (.lst ds))) O (p::W):=by
 have old:Same (L2.wo (O++W) H) (L2.wo (O++p::W) H'):=λb o e=>by obtain⟨hb,e⟩:=q0M e;have hbp:b≠p:=q0w e hp;rw[q0o (λz=>by rcases List.mem_cons.mp (q2n.mp z)with z | z;exact hbp z;exact hb z)];exact s b o e
 have eqv:Same (L2.wo (p::(O++W)) H') (L2.wo (O++p::W) H'):=q0I λb hb=>q2n.mp hb;refine⟨λj d h=>?_,λj ds' h=>?_,λj k a d1 d2 h1 h2 e1 e2=>?_,λj d h=>?_,λj d h=>by
   have hj:=q0c h (by intro z;cases z);rw[List.getElem?_set_ne (Ne.symm hj)]at h ⊢;obtain⟨⟨p1,L,e0,e1,e2,e3⟩,u,n⟩:=R.o2 j d h;refine⟨⟨p1,L,e0,e1,(e2.mono s).sub λa _ ha=>List.mem_cons_of_mem _ ha,λk d2 a q q2=>?_⟩,λk d2 q=>?_,λk d2 q=>?_⟩
   ·by_cases hk:k=i
    ·subst hk;obtain⟨_,z⟩:=q3g q2;cases z;intro z;obtain⟨_,ys,w⟩:=e2.dom z;rw[hp]at w;cases w
    ·rw[List.getElem?_set_ne (Ne.symm hk)]at q q2;exact e3 k d2 a q q2
   ·have hk:=q0c q (by intro z;cases z);rw[List.getElem?_set_ne (Ne.symm hk)]at q;exact u k d2 q
   ·have hk:=q0c q (by intro z;cases z);rw[List.getElem?_set_ne (Ne.symm hk)]at q;exact n k d2 q,R.od.step (q4Q _ (by intro d z;cases z)) (λ_ h _=>List.mem_cons_of_mem _ h) (λa kvs _ h _=>s _ _ h),by rw[List.length_set,List.length_set];exact R.len,⟨λa ha=>?_,Same.refl _,λa ha=>?_,λa ha=>?_,R.hid.omS s⟩⟩
 ·have hj:=q0c h (by intro z;cases z);rw[List.getElem?_set_ne (Ne.symm hj)]at h ⊢;obtain⟨v,e1,e2⟩:=R.val j d h;exact⟨v,e1,e2.mono old⟩
 ·by_cases hj:j=i
  ·subst hj;obtain⟨hl,e⟩:=q3g h;cases e;exact⟨p,xs,ds,rfl,List.getElem?_set_self (by rw[R.len];exact hl),List.mem_cons_self,hp',r.mono eqv⟩
  ·rw[List.getElem?_set_ne (Ne.symm hj)]at h ⊢;obtain⟨a,ys,ds1,e0,e1,e2,e3,e4⟩:=R.own j ds' h;exact⟨a,ys,ds1,e0,e1,List.mem_cons_of_mem _ e2,s _ _ e3,e4.mono old⟩
 ·have key:∀{j:Nat} {d1:DV},(δ.set i (.own (.lst ds)))[j]? = some (.own d1)->(σ.set i (some (.ref p)))[j]? = some (some (V.ref a))->(j=i/\a=p)\/(j≠i/\δ[j]? = some (.own d1)/\σ[j]? = some (some (V.ref a))/\a≠p):=λ{j d1} h e=>by
   by_cases hj:j=i
   ·subst hj;obtain⟨_,z⟩:=q3g e;cases z;exact .inl ⟨rfl,rfl⟩
   ·rw[List.getElem?_set_ne (Ne.symm hj)]at h e;refine .inr ⟨hj,h,e,λz=>?_⟩;obtain⟨a',ys,ds1,_,q1,_,q3,_⟩:=R.own j d1 h;rw[e]at q1;cases q1;rw[z,hp]at q3;cases q3
  rcases key h1 e1 with⟨z1,z2⟩ | ⟨z1,z2,z3,z4⟩<;>rcases key h2 e2 with⟨y1,y2⟩ | ⟨y1,y2,y3,y4⟩
  ·rw[z1,y1]
  ·exact absurd z2 y4
  ·exact absurd y2 z4
  ·exact R.inj j k a d1 d2 z2 y2 z3 y3
 ·have hj:=q0c h (by intro z;cases z);rw[List.getElem?_set_ne (Ne.symm hj)]at h ⊢;obtain⟨⟨t,ts,L,e1,e2,e3,e4⟩,u⟩:=R.ot j d h;refine⟨⟨t,ts,L,e1,old.tseq e2,e3.mono old λp1 _ ys q=>s _ _ q,λp1 hp1=>⟨List.mem_cons_of_mem _ (e4 p1 hp1).1,(e4 p1 hp1).2.1.imp λys q=>s _ _ q,λk d2 q=>?_⟩⟩,λk d2 q=>?_⟩
  ·by_cases hk:k=i
   ·subst hk;intro z;obtain⟨_,z⟩:=q3g z;obtain⟨ys,y⟩:=(e4 p1 hp1).2.1;cases z;rw[hp]at y;cases y
   ·rw[List.getElem?_set_ne (Ne.symm hk)]at q ⊢;exact(e4 p1 hp1).2.2 k d2 q
  ·have hk:=q0c q (by intro z;cases z);rw[List.getElem?_set_ne (Ne.symm hk)]at q;exact u k d2 q
 ·rcases List.mem_cons.mp (q2n.mp ha)with z | z
  ·rw[z,hp'];intro q;cases q
  ·intro q;exact R.hid.ot a z (s.free q)
 ·rcases List.mem_cons.mp ha with z | z
  ·exact⟨_,by rw[z];exact hp',rfl⟩
  ·obtain⟨ys,q,m⟩:=R.hid.wl a z;exact⟨ys,s _ _ q,m⟩
 ·rcases List.mem_cons.mp ha with z | z
  ·intro q;exact R.hid.ot p (List.mem_append_left _ (by rw[←z];exact q)) hp
  ·exact R.hid.dj a z
theorem q6X{i:Nat}{δ:List Sv}(h:noOt i δ=true){j:Nat}{d:DV}(q:δ[j]? = some (.ot d)):j=i:=by
 unfold noOt at h;rw[List.all_eq_true]at h;have hj:j<δ.length:=(List.getElem?_eq_some_iff.mp q).1;have:=h j (List.mem_range.mpr hj);rw[q]at this;simpa using this
theorem q9K{i:Nat}{δ:List Sv}(h:noOt i δ=true){j:Nat}{d:DV}(q:δ[j]? = some (.o2 d)):j=i:=by
 unfold noOt at h;rw[List.all_eq_true]at h;have hj:j<δ.length:=(List.getElem?_eq_some_iff.mp q).1;have:=h j (List.mem_range.mpr hj);rw[q]at this;simpa using this
theorem RSt.allocT{D:Dm}{H H':Hp}{σ:St}{O W:List Addr}{t p:Addr}{ts xs:List V}{ds es:List DV}(R:RSt D H σ δ O W)(s:Same H H')(ht:SqT D.K (L2.wo (O++W) H') t (.ref p::ts))(hp:H p=none)(hp':H' p=some (.lst xs))(r:RepL D (L2.wo (p::(O++W)) H') ds xs)(r2:RepL D (L2.wo (p::(O++W)) H') es ts)(i:Nat)(hno:noOt i δ=true) :
  RSt D H' (σ.set i (some (.ref t))) (δ.set i (.ot (.tup (.lst ds::es)))) O (p::W):=by
 have old:Same (L2.wo (O++W) H) (L2.wo (O++p::W) H'):=λb o e=>by obtain⟨hb,e⟩:=q0M e;have hbp:b≠p:=q0w e hp;rw[q0o (λz=>by rcases List.mem_cons.mp (q2n.mp z)with z | z;exact hbp z;exact hb z)];exact s b o e
 have eqv:Same (L2.wo (p::(O++W)) H') (L2.wo (O++p::W) H'):=q0I λb hb=>q2n.mp hb;have ht':SqT D.K (L2.wo (O++p::W) H') t (.ref p::ts):=by
  have ne:∀{o:HO},L2.wo (O++W) H' t=some o->(∀ys,o ≠ .lst ys)->L2.wo (O++p::W) H' t=some o:=λ{o} e ho=>by
   obtain⟨hb,e⟩:=q0M e;rw[q0o (λz=>by
    rcases List.mem_cons.mp (q2n.mp z)with z | z
    ·rw[z,hp']at e;cases e;exact ho _ rfl
    ·exact hb z)]
   exact e
  rcases ht with(h | ⟨o,h⟩) | h
  ·exact .inl (.inl (ne h (by intro ys z;cases z)))
  ·exact .inl (.inr ⟨o,ne h (by intro ys z;cases z)⟩)
  ·exact .inr h
 refine⟨λj d h=>?_,λj ds' h=>?_,λj k a d1 d2 h1 h2 e1 e2=>?_,λj d h=>?_,λj d h=>absurd (q9K hno (by have hj:=q0c h (by intro z;cases z);rw[List.getElem?_set_ne (Ne.symm hj)]at h;exact h)) (q0c h (by intro z;cases z)),R.od.step (q4Q _ (by intro d z;cases z)) (λ_ h _=>List.mem_cons_of_mem _ h) (λa kvs _ h _=>s _ _ h),by rw[List.length_set,List.length_set];exact R.len,⟨λa ha=>?_,Same.refl _,λa ha=>?_,λa ha=>?_,R.hid.omS s⟩⟩
 ·have hj:=q0c h (by intro z;cases z);rw[List.getElem?_set_ne (Ne.symm hj)]at h ⊢;obtain⟨v,e1,e2⟩:=R.val j d h;exact⟨v,e1,e2.mono old⟩
 ·have hj:=q0c h (by intro z;cases z);rw[List.getElem?_set_ne (Ne.symm hj)]at h ⊢;obtain⟨a,ys,ds1,e0,e1,e2,e3,e4⟩:=R.own j ds' h;exact⟨a,ys,ds1,e0,e1,List.mem_cons_of_mem _ e2,s _ _ e3,e4.mono old⟩
 ·have n1:=q0c h1 (by intro z;cases z);have n2:=q0c h2 (by intro z;cases z);rw[List.getElem?_set_ne (Ne.symm n1)]at h1 e1;rw[List.getElem?_set_ne (Ne.symm n2)]at h2 e2;exact R.inj j k a d1 d2 h1 h2 e1 e2
 ·have hj:j=i:=by
   by_cases hj:j=i
   ·exact hj
   ·rw[List.getElem?_set_ne (Ne.symm hj)]at h;exact q6X hno h
  subst hj;obtain⟨hl,e⟩:=q3g h;cases e;refine⟨⟨t,_,[p],List.getElem?_set_self (by rw[R.len];exact hl),ht',.inl ⟨p,xs,ds,es,ts,rfl,rfl,rfl,hp',r.mono eqv,r2.mono eqv⟩,λp1 hp1=>?_⟩,λk d2 q=>?_⟩
  ·rw[List.mem_singleton.mp hp1];refine⟨List.mem_cons_self,⟨xs,hp'⟩,λk d2 q=>?_⟩;have hk:=q0c q (by intro z;cases z);rw[List.getElem?_set_ne (Ne.symm hk)]at q ⊢;intro z;obtain⟨a,ys,ds1,f0,f1,f2,f3,f4⟩:=R.own k d2 q;rw[z]at f1;cases f1;rw[hp]at f3;cases f3
  ·by_cases hk:k=j
   ·exact hk
   ·rw[List.getElem?_set_ne (Ne.symm hk)]at q;exact q6X hno q
 ·rcases List.mem_cons.mp (q2n.mp ha)with z | z
  ·rw[z,hp'];intro q;cases q
  ·intro q;exact R.hid.ot a z (s.free q)
 ·rcases List.mem_cons.mp ha with z | z
  ·exact⟨_,by rw[z];exact hp',rfl⟩
  ·obtain⟨ys,q,m⟩:=R.hid.wl a z;exact⟨ys,s _ _ q,m⟩
 ·rcases List.mem_cons.mp ha with z | z
  ·intro q;exact R.hid.ot p (List.mem_append_left _ (by rw[←z];exact q)) hp
  ·exact R.hid.dj a z
theorem RSt.write{D:Dm}{H:Hp}{σ:St}{O W:List Addr}{a:Addr}{xs':List V}{ds ds':List DV}(R:RSt D H σ δ O W)(hi:δ[i]? = some (.own (.lst ds)))(ha:σ[i]? = some (some (.ref a)))(r:RepL D (L2.wo (O++W) H) ds' xs') :
  RSt D (upd H a (.lst xs')) σ (δ.set i (.own (.lst ds'))) O W:=by
 obtain⟨a',xs,ds0,e0,e1,e2,e3,e4⟩:=R.own i _ hi;rw[ha]at e1;cases e1;have old:Same (L2.wo (O++W) H) (L2.wo (O++W) (upd H a (.lst xs'))):=λb o e=>by obtain⟨hb,e⟩:=q0M e;rw[q0o hb,q0l λz=>hb (by rw[z];exact List.mem_append_right _ e2)];exact e
 have hl:i<δ.length:=(List.getElem?_eq_some_iff.mp hi).1;refine⟨λj d h=>?_,λj ds'' h=>?_,λj k b d1 d2 h1 h2 q1 q2=>?_,λj d h=>?_,λj d h=>by
   have hj:=q0c h (by intro z;cases z);rw[List.getElem?_set_ne (Ne.symm hj)]at h;obtain⟨⟨p1,L,f0,f1,f2,f3⟩,u,n⟩:=R.o2 j d h;refine⟨⟨p1,L,f0,f1,f2.write (f3 i _ a hi ha),λk d2 b q q2=>?_⟩,λk d2 q=>?_,λk d2 q=>?_⟩
   ·by_cases hk:k=i
    ·subst hk;exact f3 k _ b hi q2
    ·rw[List.getElem?_set_ne (Ne.symm hk)]at q;exact f3 k d2 b q q2
   ·have hk:=q0c q (by intro z;cases z);rw[List.getElem?_set_ne (Ne.symm hk)]at q;exact u k d2 q
   ·have hk:=q0c q (by intro z;cases z);rw[List.getElem?_set_ne (Ne.symm hk)]at q;exact n k d2 q,R.od.step (q9D (by intro d z;cases z)) (λ_ h _=>h) (λb kvs _ h m=>by rw[q0l (λz=>by rw[z,e3]at h;cases h;cases m)];exact h),by rw[List.length_set];exact R.len,⟨λb hb q=>?_,Same.refl _,λb hb=>?_,R.hid.dj,R.hid.omW (by assumption)⟩⟩
 ·have hj:=q0c h (by intro z;cases z);rw[List.getElem?_set_ne (Ne.symm hj)]at h;obtain⟨v,q1,q2⟩:=R.val j d h;exact⟨v,q1,q2.mono old⟩
 ·by_cases hj:j=i
  ·subst hj;obtain⟨_,e⟩:=q3g h;cases e;exact⟨a,xs',ds',rfl,ha,e2,q0D,r.mono old⟩
  ·rw[List.getElem?_set_ne (Ne.symm hj)]at h;obtain⟨b,ys,ds1,q0,q1,q2,q3,q4⟩:=R.own j ds'' h;refine⟨b,ys,ds1,q0,q1,q2,?_,q4.mono old⟩;rw[q0l λz=>hj (R.inj j i a ds'' _ h hi (by rw[←z];exact q1) ha)];exact q3
 ·have key:∀{j:Nat} {d1:DV},(δ.set i (.own (.lst ds')))[j]? = some (.own d1)->∃d0,δ[j]? = some (.own d0):=λ{j d1} h=>by
   by_cases hj:j=i
   ·subst hj;exact⟨_,hi⟩
   ·rw[List.getElem?_set_ne (Ne.symm hj)]at h;exact⟨d1,h⟩
  obtain⟨d1',z1⟩:=key h1;obtain⟨d2',z2⟩:=key h2;exact R.inj j k b d1' d2' z1 z2 q1 q2
 ·have hj:=q0c h (by intro z;cases z);rw[List.getElem?_set_ne (Ne.symm hj)]at h;obtain⟨⟨t,ts,L,f1,f2,f3,f4⟩,u⟩:=R.ot j d h;have un:∀p1∈L,∀ys,H p1=some (.lst ys)->upd H a (.lst xs') p1=some (.lst ys):=λp1 hp1 ys q=>by
   rw[q0l λz=>(f4 p1 hp1).2.2 i _ hi (by rw[z];exact ha)];exact q
  refine⟨⟨t,ts,L,f1,old.tseq f2,f3.mono old un,λp1 hp1=>⟨(f4 p1 hp1).1,(f4 p1 hp1).2.1.imp λys q=>un p1 hp1 ys q,λk d2 q=>?_⟩⟩,λk d2 q=>?_⟩
  ·by_cases hk:k=i
   ·subst hk;exact(f4 p1 hp1).2.2 k _ hi
   ·rw[List.getElem?_set_ne (Ne.symm hk)]at q;exact(f4 p1 hp1).2.2 k d2 q
  ·have hk:=q0c q (by intro z;cases z);rw[List.getElem?_set_ne (Ne.symm hk)]at q;exact u k d2 q
 ·by_cases hba:b=a
  ·rw[hba,q0D]at q;cases q
  ·rw[q0l hba]at q;exact R.hid.ot b hb q
 ·by_cases hba:b=a
  ·exact⟨_,by rw[hba];exact q0D,rfl⟩
  ·obtain⟨ys,q,m⟩:=R.hid.wl b hb;exact⟨ys,by rw[q0l hba];exact q,m⟩
theorem q2F{H0 H:Hp}{a:Addr}{o:HO}(h:Same H0 H)(ha:H0 a=none):Same H0 (upd H a o):=λb u e=>by
 rw[q0l (q0w e ha)];exact h b u e
theorem z2K{Dn:Ends}{σ:St}{H H0:Hp}{O W:List Addr}{own:Bool}{d:DV}{cl:Cl}{D:Dm}(h:(if own then q3T i δ d cl else(if stro d cl then some (.nx (δ.set i (.val d)))else none))=some o)
  (R:RSt D H σ δ O W) (fr:∀a∈W,H0 a=none) (sm:Same H0 H) (k:dEnd D E H0 O Dn o):∀v H',Same H H'->Got D O W H H' d cl v->Dn.nx (σ.set i (some v)) H':=λv H1 s1 g=>by
 cases own with
 | true=>
  simp only[if_true]at h;unfold q3T at h;split at h
  ·cases h;obtain⟨p,xs,ds,e1,e2,e3,e4,e5⟩:=g;subst e1 e2;exact k _ H1 (p::W) (R.alloc s1 e3 e4 e5 i) (λa ha=>by
    rcases List.mem_cons.mp ha with z | z
    ·rw[z];exact sm.free e3
    ·exact fr a z) (sm.trans s1)
  ·split at h
   ·rename_i hno;cases h;obtain⟨t,ts,p,xs,ds,es,e1,e2,e0,e3,e4,e5,e6⟩:=g;subst e1 e2;exact k _ H1 (p::W) (R.allocT s1 e0 e3 e4 e5 e6 i hno) (λa ha=>by
     rcases List.mem_cons.mp ha with z | z
     ·rw[z];exact sm.free e3
     ·exact fr a z) (sm.trans s1)
   ·cases h
  ·cases h
 | false=>
  simp only[Bool.false_eq_true,if_false]at h;split at h
  ·rename_i m;cases h;exact k _ H1 W ((R.mono s1).setVal (g.stro (R.hid.mono s1) m) i) fr (sm.trans s1)
  ·cases h
theorem q8E{own:Bool}(hN:X.N.Nodup)(hi:X.N[i]? = some x)(hx:Loc X.env.scope x)(hf:X.fn x=true\/X.env.scope.names.lookup x=some .local)(ha:∀q,ra=some q->PE X e (dE X.D E δ q))(hc:swapsWith e (some (.Name x pos')) pos.line X.env=pure false)
  (h:(Re.thnS δ ra λd c=>if own then q3T i δ d c else(if stro d c then some (.nx (δ.set i (.val d)))else none))=some o):PS X (.Assign [.Name x pos'] e pos) (dS X.D E δ o):=by
 cases hra:ra with
 | none=>rw[hra]at h;cases h
 | some q=>
  rw[hra]at h;have A:=ha q hra;cases q with
  | ex c=>cases h;exact(q7v hN hi hx A hc hf).weak λDn σ H ⟨H0,O,W,R,fr,fo,sm,k⟩=>⟨O,W,R,q5I R fr sm k⟩
  | ok d cl=>exact(q7v hN hi hx A hc hf).weak λDn σ H ⟨H0,O,W,R,fr,fo,sm,k⟩=>⟨O,W,R,z2K h R fr sm k⟩
theorem q6y{own:Bool}{tgE iter elt:Expr}{ifs:List Expr}{scope:Scope}{N':List Str}{fr:List (Option Nat)}{tg:Tg}{re:Re}(S:CompScope X.N N' scope X.env.scope fr)(hc:X.calm=true)(hN:X.N.Nodup)(hi:X.N[i]? = some x)(hx:X.env.scope.names.lookup x=some .local)
  (P:q1o X E δ tgE iter ifs elt scope N' fr tg re) (hG:∀C cells s₂ H₂ fp,PG (q0x X scope N' C cells s₂ H₂ fp) tgE (gT X.K tg)) (hset:q2L iter=false) {cpos:Pos} (hsw:swapsWith (.ListComp elt [⟨tgE,iter,ifs,0⟩] scope cpos) (some (.Name x pos')) pos.line X.env=pure true)
  (h:(Re.thnS δ (some re) λd c=>if own then q3T i δ d c else(if stro d c then some (.nx (δ.set i (.val d)))else none))=some o):PS X (.Assign [.Name x pos'] (.ListComp elt [⟨tgE,iter,ifs,0⟩] scope cpos) pos) (dS X.D E δ o):=by
 obtain⟨wi,tc,te,h1,h2,h3,h4⟩:=P;refine(q8c S hc hN hi hx h1 hG h2 h3 hsw (q5y hset)).weak λDn σ H ⟨H0,O,W,R,fr,fo,sm,k⟩=>h4 σ H _ ⟨O,W,R,?_⟩
 cases re with
 | ex c=>cases h;exact q5I R fr sm k
 | ok d cl=>exact z2K h R fr sm k
theorem q7W{apos cpos npos:Pos}(hv:PE X (.Name x npos) (tVar i))(he:∀q,ra=some q->PE X e (dE X.D E δ q))(hs:q0j e=false)(hline:(apos.endLine==cpos.line)=true)
  (h:(match δ[i]? with
   | some (.own (.lst ds))=>Re.thnS δ ra λd c=>if stro d c/\ds.length<mostLen then some (.nx (δ.set i (.own (.lst (ds++[d])))))else none
   | _=>none)=some o):PS X (.Expr (.Call (.Attribute (.Name x npos) "append" apos) [e] [] cpos) pos) (dS X.D E δ o):=by
 split at h
 ·rename_i ds hi;have C:=λt (hA:PE X e t)=>q4d (pos:=pos) (z5R PySem.F.plainAttrs_list PySem.F.slot_list_append PySem.F.type_list_append q6n hv (q0W hA q3k (q0k hs)) rfl (by rw[q0k hs];rfl) hline (q0k hs) rfl) rfl
  cases hra:ra with
  | none=>rw[hra]at h;cases h
  | some q=>
   rw[hra]at h;have A:=he q hra;cases q with
   | ex c=>
    cases h;exact(C _ A).weak λDn σ H ⟨H0,O,W,R,fr,fo,sm,k⟩=>by obtain⟨a,xs,ds0,e0,e1,e2,e3,e4⟩:=R.own i _ hi;exact⟨.ref a,e1,.inl ⟨rfl,xs,SqL.of e3⟩,O,W,R,q5I (Q:=λ_ _=>False) R fr sm k⟩
   | ok d cl=>
    have h':(if stro d cl/\ds.length<mostLen then some (Out.nx (δ.set i (.own (.lst (ds++[d])))))else none)=some o:=h;split at h'
    ·rename_i m;cases h';exact(C _ A).weak λDn σ H ⟨H0,O,W,R,fr,fo,sm,k⟩=>by obtain⟨a,xs,ds0,e0,e1,e2,e3,e4⟩:=R.own i _ hi;cases e0;refine⟨.ref a,e1,.inl ⟨rfl,xs,SqL.of e3⟩,O,W,R,λv H1 s1 g=>?_⟩;have R1:=R.mono s1;refine⟨a,xs,v,rfl,rfl,s1 _ _ e3,by rw[e4.length];exact Nat.lt_of_lt_of_le m.2 (by decide),?_⟩;exact k σ _ W (R1.write hi e1 ((e4.mono s1.wo).append (RepL.one (g.stro (R.hid.mono s1) m.1)))) fr (q2F (sm.trans s1) (fr a e2))
    ·cases h'
 ·cases h
theorem q8B{npos spos:Pos}{ix:Expr}{rb:Option Re}(hv:PE X (.Name x npos) (tVar i))(he:∀q,ra=some q->PE X e (dE X.D E δ q))(hx:∀q,rb=some q->PE X ix (dE X.D E δ q))(hsl:q5v ix=false)
  (h:(match δ[i]? with
   | some (.own (.lst ds))=>Re.thnS δ ra λd c=>Re.thnS δ rb λk _=>(match k with
    | .int k=>(match q2s ds.length k with
     | some j=>if stro d c then some (.nx (δ.set i (.own (.lst (ds.set j d)))))else none
     | none=>none)
    | _=>none)
   | _=>none)=some o):PS X (.Assign [.Subscript (.Name x npos) ix spos] e pos) (dS X.D E δ o):=by
 have sub:∀v,assign (.Subscript (.Name x npos) ix spos) X.env v=(do
   let ov ←holding [v] (eval (.Name x npos) X.env)
   let iv ←holding [v,ov] (eval ix X.env)
   standAt spos
   holding [v,ov,iv] (setItem ov iv v)
   release [v,ov,iv] []):=by cases ix<;>first | (intro _;rfl) | cases hsl
 have C:=λt tk (hA:PE X e t) (hK:PE X ix tk)=>z5l (pos:=pos) hA (z5H hv hK z0U sub) (by cases e<;>rfl) (by cases e<;>rfl) rfl;split at h
 ·rename_i ds hi;cases hra:ra with
  | none=>rw[hra]at h;cases h
  | some q=>
   rw[hra]at h;have A:=he q hra;cases q with
   | ex c=>
    cases h;exact(C _ _ A q1H).weak λDn σ H ⟨H0,O,W,R,fr,fo,sm,k⟩=>⟨O,W,R,q5I (Q:=λ_ _=>False) R fr sm k⟩
   | ok d cl=>
    cases hrb:rb with
    | none=>rw[hrb]at h;cases h
    | some q=>
     rw[hrb]at h;have B:=hx q hrb;cases q with
     | ex c=>
      cases h;exact(C _ _ A B).weak λDn σ H ⟨H0,O,W,R,fr,fo,sm,k⟩=>⟨O,W,R,λv H1 s1 g=>by
       have R1:=R.mono s1;obtain⟨a,xs,ds0,e0,e1,e2,e3,e4⟩:=R1.own i _ hi;exact⟨.ref a,e1,O,W,R1,q5I (Q:=λ_ _=>False) R1 fr (sm.trans s1) k⟩⟩
     | ok dk ck=>
      have h':(match(generalizing:=false) dk with
       | .int k=>(match q2s ds.length k with
        | some j=>if stro d cl then some (Out.nx (δ.set i (.own (.lst (ds.set j d)))))else none
        | none=>none)
       | _=>none)=some o:=h
      split at h'
      ·rename_i k0;split at h'
       ·rename_i j hj;split at h'
        ·rename_i m;cases h';exact(C _ _ A B).weak λDn σ H ⟨H0,O,W,R,fr,fo,sm,k⟩=>⟨O,W,R,λv H1 s1 g=>by
          have R1:=R.mono s1;obtain⟨a,xs,ds0,e0,e1,e2,e3,e4⟩:=R1.own i _ hi;cases e0;refine⟨.ref a,e1,O,W,R1,λy H2 s2 g2=>?_⟩;have R2:=R1.mono s2;refine⟨a,xs,k0,j,rfl,g2.int (R1.hid.mono s2),s2 _ _ e3,by rw[e4.length];exact hj,?_⟩;exact k σ _ W (R2.write hi e1 (RepL.set ((g.mono s2).stro ((R.hid.mono s1).mono s2) m) j (e4.mono s2.wo))) fr (q2F ((sm.trans s1).trans s2) (fr a e2))⟩
        ·cases h'
       ·cases h'
      ·cases h'
 ·cases h
theorem RSt.freeze{D:Dm}{H:Hp}{σ:St}{O W:List Addr}{d:DV}(R:RSt D H σ δ O W)(hi:δ[i]? = some (.own d)):∃W',(∀a∈W',a∈W)/\RSt D H σ (δ.set i (.val d)) O W':=by
 obtain⟨a,xs,ds,e0,e1,e2,e3,e4⟩:=R.own i d hi;subst e0;have hl:i<δ.length:=(List.getElem?_eq_some_iff.mp hi).1;have sub:∀b∈O++W.filter (λb=>decide (b≠a)),b∈O++W:=λb hb=>by
  rcases List.mem_append.mp hb with z | z
  ·exact List.mem_append_left _ z
  ·exact List.mem_append_right _ (List.mem_filter.mp z).1
 have hao:a∉O++W.filter (λb=>decide (b≠a)):=λz=>by
  rcases List.mem_append.mp z with z | z
  ·exact R.hid.dj a e2 z
  ·exact absurd rfl (of_decide_eq_true (List.mem_filter.mp z).2)
 refine⟨W.filter λb=>decide (b≠a),λb hb=>(List.mem_filter.mp hb).1,⟨λj d h=>?_,λj ds' h=>?_,λj k b d1 d2 h1 h2 q1 q2=>?_,λj d h=>?_,λj d h=>by
   have hj:=q0c h (by intro z;cases z);rw[List.getElem?_set_ne (Ne.symm hj)]at h;obtain⟨⟨p1,L,f0,f1,f2,f3⟩,u,n⟩:=R.o2 j d h;refine⟨⟨p1,L,f0,f1,f2.sub λb hb hbw=>List.mem_filter.mpr ⟨hbw,decide_eq_true λz=>f3 i _ a hi e1 (by rw[←z];exact hb)⟩,λk d2 b q q2=>?_⟩,λk d2 q=>?_,λk d2 q=>?_⟩
   ·have hk:=q0c q (by intro z;cases z);rw[List.getElem?_set_ne (Ne.symm hk)]at q;exact f3 k d2 b q q2
   ·have hk:=q0c q (by intro z;cases z);rw[List.getElem?_set_ne (Ne.symm hk)]at q;exact u k d2 q
   ·have hk:=q0c q (by intro z;cases z);rw[List.getElem?_set_ne (Ne.symm hk)]at q;exact n k d2 q,R.od.step (q9D (by intro d z;cases z)) (λb hb ⟨kvs,h,m⟩=>List.mem_filter.mpr ⟨hb,decide_eq_true λz=>by rw[z,e3]at h;cases h;cases m⟩) (λ_ _ _ h _=>h),by rw[List.length_set];exact R.len,
  ⟨λb hb=>R.hid.ot b (sub b hb),Same.refl _,λb hb=>R.hid.wl b (List.mem_filter.mp hb).1,λb hb=>R.hid.dj b (List.mem_filter.mp hb).1,R.hid.om⟩⟩⟩
 ·by_cases hj:j=i
  ·subst hj;obtain⟨_,e⟩:=q3g h;cases e;exact⟨.ref a,e1,q0z.mpr ⟨a,xs,rfl,by rw[q0o hao];exact e3,e4.mono (q0I sub)⟩⟩
  ·rw[List.getElem?_set_ne (Ne.symm hj)]at h;obtain⟨v,q1,q2⟩:=R.val j d h;exact⟨v,q1,q2.mono (q0I sub)⟩
 ·have hj:=q0c h (by intro z;cases z);rw[List.getElem?_set_ne (Ne.symm hj)]at h;obtain⟨b,ys,ds1,q0,q1,q2,q3,q4⟩:=R.own j ds' h;refine⟨b,ys,ds1,q0,q1,List.mem_filter.mpr ⟨q2,decide_eq_true λz=>hj (R.inj j i a ds' _ h hi (by rw[←z];exact q1) e1)⟩,q3,q4.mono (q0I sub)⟩
 ·have n1:=q0c h1 (by intro z;cases z);have n2:=q0c h2 (by intro z;cases z);rw[List.getElem?_set_ne (Ne.symm n1)]at h1;rw[List.getElem?_set_ne (Ne.symm n2)]at h2;exact R.inj j k b d1 d2 h1 h2 q1 q2
 ·have hj:=q0c h (by intro z;cases z);rw[List.getElem?_set_ne (Ne.symm hj)]at h;obtain⟨⟨t,ts,L,f1,f2,f3,f4⟩,u⟩:=R.ot j d h;refine⟨⟨t,ts,L,f1,(q0I sub).tseq f2,f3.mono (q0I sub) λ_ _ _ q=>q,λp1 hp1=>⟨List.mem_filter.mpr ⟨(f4 p1 hp1).1,decide_eq_true λz=>(f4 p1 hp1).2.2 i _ hi (by rw[z];exact e1)⟩,(f4 p1 hp1).2.1,λk d2 q=>?_⟩⟩,λk d2 q=>?_⟩
  ·have hk:=q0c q (by intro z;cases z);rw[List.getElem?_set_ne (Ne.symm hk)]at q;exact(f4 p1 hp1).2.2 k d2 q
  ·have hk:=q0c q (by intro z;cases z);rw[List.getElem?_set_ne (Ne.symm hk)]at q;exact u k d2 q
theorem q8z{d:DV}(hi:δ[i]? = some (.own d))(h:PSs X rest (dS X.D E (δ.set i (.val d)) o)):PSs X rest (dS X.D E δ o):=h.weak λDn σ H ⟨H0,O,W,R,fr,fo,sm,k⟩=>by
 obtain⟨W',hs,R'⟩:=R.freeze hi;exact⟨H0,O,W',R',λa ha=>fr a (hs a ha),fo,sm,k⟩
end
end L2
end
noncomputable section
namespace L2
open PySem PySem.Spec PyProof.Rows
theorem PSs.any{X:Cx}{body:List Stmt}{ι:Sort _}{t:ι->TS}(h:∀k,PSs X body (t k)):PSs X body (λD σ H=>∃k,t k D σ H):=λpins s σ H D I ⟨k,q⟩=>h k pins s σ H D I q
structure Lp(H0 H1:Hp)(O W:List Addr):Prop where
 out:∀{H:Hp},Same (L2.wo W H1) H->Same H0 H
 outW:∀{a:Addr},L2.wo W H1 a=none->H0 a=none
 in1:∀a∈W,L2.wo W H1 a=none
 in2:∀a∈O,L2.wo W H1 a≠none
 wsame:∀{H:Hp},Same (L2.wo W H1) H->Same (L2.wo (O++W) H1) (L2.wo (O++W) H)
theorem Lp.mk'{H0 H1:Hp}{O W:List Addr}(fr:∀a∈W,H0 a=none)(fo:∀a∈O,H0 a≠none)(sm:Same H0 H1):Lp H0 H1 O W where
 out:=λ{H} s b u e=>s b u (by
  rw[q0o λz=>by rw[fr b z]at e;cases e];exact sm b u e)
 outW:=λ{a} q=>by
  by_cases z:a∈W
  ·exact fr a z
  ·rw[q0o z]at q;exact sm.free q
 in1:=λa ha=>z6c ha
 in2:=λa ha=>by rw[q0o λz=>fo a ha (fr a z)];intro q;exact fo a ha (sm.free q)
 wsame:=λ{H} s b u e=>by obtain⟨hb,e⟩:=q0M e;rw[q0o hb];exact s b u (by rw[q0o λz=>hb (List.mem_append_right _ z)];exact e)
theorem Lp.gotR{H0 H1:Hp}{O W:List Addr}{D:Dm}{H:Hp}{d:DV}{fr:Bool}{v:V}(L:Lp H0 H1 O W)(g:GotR D O (L2.wo W H1) H d fr v):GotR D O H0 H d fr v:=by
 cases fr with
 | false=>exact g
 | true=>
  obtain⟨p,xs,ds,e1,e2,e3,e4,e5⟩:=g;exact⟨p,xs,ds,e1,e2,L.outW e3,e4,e5⟩
theorem Lp.gotT{H0 H1:Hp}{O W:List Addr}{D:Dm}{H:Hp}{d:DV}{v:V}(L:Lp H0 H1 O W)(g:GotT D O (L2.wo W H1) H d v):GotT D O H0 H d v:=by
 rcases g with⟨t,ts,p,xs,ds,es,e1,e2,e0,e3,e4,e5,e6⟩ | ⟨xs,e1,e2⟩ | g
 ·exact .inl ⟨t,ts,p,xs,ds,es,e1,e2,e0,L.outW e3,e4,e5,e6⟩
 ·exact .inr (.inl ⟨xs,e1,e2.since λa ha=>L.outW ha⟩)
 ·exact .inr (.inr (g.since λa ha=>L.outW ha))
section
variable {X:Cx} {E:St->XK} {δ:List Sv} {tgE iter c:Expr} {body:List Stmt} {o:Out} {pos:Pos} {tg:Tg} {ri:Option Ri} {evB:List Sv->Option Out} {evC:List Sv->Option Rt}
theorem z4I(hp:PassesOwn (model X.prog X.w) X.A X.env X.xe)(hc:X.calm=true)(hi:∀q,ri=some q->PI X tgE iter (dI X.D E δ q))(hG:PG X tgE (gT X.K tg))(hb:∀δ' o,evB δ'=some o->PSs X body (dS X.D E δ' o))(hset:q2L iter=false)
  (h:(Ri.thnS δ ri λds c=>if c=.strong\/c=.fresh then q0O tg evB ds δ else none)=some o):PS X (.For tgE iter body [] pos) (dS X.D E δ o):=by
 have B:PSs X body (λD σ H=>∃k:{p:List Sv×Out // evB p.1=some p.2},dS X.D E k.1.1 k.1.2 D σ H):=PSs.any λk=>hb k.1.1 k.1.2 k.2;cases hri:ri with
 | none=>rw[hri]at h;cases h
 | some q=>
  rw[hri]at h;have A:=hi q hri;cases q with
  | ex c=>cases h;exact(z2A hp hc A hG B (q5y hset)).weak λDn σ H ⟨H0,O,W,R,fr,fo,sm,k⟩=>⟨O,W,R,λH' C m s=>k σ H' W C m (R.mono s) fr (sm.trans s)⟩
  | ok ds c=>
   have h':(if c=.strong\/c=.fresh then q0O tg evB ds δ else none)=some o:=h;split at h'
   ·rename_i m;refine(z2A hp hc A hG B (q5y hset)).weak λDn σ H ⟨H0,O,W,R,fr,fo,sm,k⟩=>⟨O,W,R,λJ H1 s1 w=>?_⟩
    have R1:=R.mono s1;have L:=Lp.mk' fr fo (sm.trans s1);have w:Wk X.D J ds (O++W) (O++W) H1:=(by rcases m with m | m<;>subst m<;>exact w);refine⟨λi n σ H=>n=ds.length - i/\i<=ds.length/\∃δi W',q0O tg evB (ds.drop i) δi=some o/\RSt X.D H σ δi O W'/\(∀a∈W',L2.wo W H1 a=none)/\Same (L2.wo W H1) H,
     ⟨ds.length,rfl,Nat.zero_le _,δ,W,h',R1,L.in1,q0T⟩,?_⟩
    rintro i n σ2 H2 ⟨rfl,hi,δi,W2,hgo,R2,b1,b2⟩
    by_cases hlt:i<ds.length
    ·refine .inr ⟨w.go i H2 (L.wsame b2) hlt,λσ H=>∃δi W',q0O tg evB (ds.drop (i+1)) δi=some o/\RSt X.D H σ δi O W'/\(∀a∈W',L2.wo W H1 a=none)/\Same (L2.wo W H1) H,
      λσ' H' q=>⟨ds.length - (i+1),by omega,rfl,hlt,q⟩,λx H3 y=>?_⟩
     have y1:=w.same i H2 x H3 y;have y3:Rep X.D (L2.wo (O++W2) H3) ds[i] x:=w.yld i H2 x H3 _ (O++W2) (L.wsame b2) (L.wsame b2) y (List.getElem?_eq_getElem hlt) λa ha=>⟨R2.hid.ot a ha,by
      rcases List.mem_append.mp ha with z | z
      ·exact .inl (List.mem_append_left _ z)
      ·have q:=b1 a z;by_cases hw:a∈W
       ·exact .inl (List.mem_append_right _ hw)
       ·rw[q0o hw]at q;exact .inr q⟩
     rw[List.drop_eq_getElem_cons hlt]at hgo;unfold q0O at hgo;split at hgo
     ·cases hgo
     ·rename_i δ1 hb1;refine q6W (R2.mono y1) y3 hb1 λσ3 R3=>?_
      split at hgo
      ·rename_i δ2 hev;exact⟨⟨⟨δ1,.nx δ2⟩,hev⟩,L2.wo W H1,O,W2,R3,b1,L.in2,b2.trans y1,λσ' H' W' R' fr' sm'=>⟨δ2,W',hgo,R',fr',sm'⟩⟩
      ·rename_i hne;refine⟨⟨⟨δ1,o⟩,hgo⟩,L2.wo W H1,O,W2,R3,b1,L.in2,b2.trans y1,?_⟩;cases o with
       | nx δ2=>exact absurd hgo (hne δ2)
       | rt d fr'=>exact λv H' s' g=>k v H' (L.out s') (L.gotR g)
       | rtt d=>exact λv H' s' g=>k v H' (L.out s') (L.gotT g)
       | ex c' δ'=>exact λσ' H' W' C m R' fr' sm'=>k σ' H' W' C m R' (λa ha=>L.outW (fr' a ha)) (L.out sm')
    ·have e:i=ds.length:=by omega
     subst e;rw[List.drop_length]at hgo;cases hgo;exact .inl ⟨w.stop H2 (L.wsame b2),k σ2 H2 W2 R2 (λa ha=>L.outW (b1 a ha)) (L.out b2)⟩
   ·cases h'
end
end L2
end
noncomputable section
namespace L2
open PySem PySem.Spec PyProof.Rows
section
variable {D:Dm} {H H':Hp} {σ:St} {δ:List Sv} {O W:List Addr} {i:Nat}
theorem RSt.grow(R:RSt D H σ δ O W)(s:Same H H')(N:List Addr)(hN:∀a∈N,H a=none/\∃xs,H' a=some (.lst xs)):RSt D H' σ δ O (N++W):=by
 have old:Same (L2.wo (O++W) H) (L2.wo (O++(N++W)) H'):=λb o e=>by
  obtain⟨hb,e⟩:=q0M e;rw[q0o λz=>?_]
  ·exact s b o e
  ·rcases List.mem_append.mp z with z | z
   ·exact hb (List.mem_append_left _ z)
   ·rcases List.mem_append.mp z with z | z
    ·rw[(hN b z).1]at e;cases e
    ·exact hb (List.mem_append_right _ z)
 refine⟨λj d h=>?_,λj d h=>?_,R.inj,λj d h=>?_,λj d h=>?_,R.od.step (λj d h=>⟨h,rfl⟩) (λ_ h _=>List.mem_append_right _ h) (λa _ _ h _=>s _ _ h),R.len,⟨λa ha=>?_,Same.refl _,λa ha=>?_,λa ha=>?_,R.hid.omS s⟩⟩
 ·obtain⟨v,e1,e2⟩:=R.val j d h;exact⟨v,e1,e2.mono old⟩
 ·obtain⟨a,ys,ds1,e0,e1,e2,e3,e4⟩:=R.own j d h;exact⟨a,ys,ds1,e0,e1,List.mem_append_right _ e2,s _ _ e3,e4.mono old⟩
 ·obtain⟨⟨t,ts,L,e1,e2,e3,e4⟩,u⟩:=R.ot j d h;exact⟨⟨t,ts,L,e1,old.tseq e2,e3.mono old λ_ _ _ q=>s _ _ q,λp hp=>⟨List.mem_append_right _ (e4 p hp).1,(e4 p hp).2.1.imp λ_ q=>s _ _ q,(e4 p hp).2.2⟩⟩,u⟩
 ·obtain⟨⟨p1,L,e0,e1,e2,e3⟩,u,n⟩:=R.o2 j d h;exact⟨⟨p1,L,e0,e1,(e2.mono s).sub λa _ ha=>List.mem_append_right _ ha,e3⟩,u,n⟩
 ·rcases List.mem_append.mp ha with z | z
  ·intro q;exact R.hid.ot a (List.mem_append_left _ z) (s.free q)
  ·rcases List.mem_append.mp z with z | z
   ·obtain⟨xs,e⟩:=(hN a z).2;rw[e];intro q;cases q
   ·intro q;exact R.hid.ot a (List.mem_append_right _ z) (s.free q)
 ·rcases List.mem_append.mp ha with z | z
  ·obtain⟨xs,e⟩:=(hN a z).2;exact⟨_,e,rfl⟩
  ·obtain⟨ys,q,m⟩:=R.hid.wl a z;exact⟨ys,s _ _ q,m⟩
 ·rcases List.mem_append.mp ha with z | z
  ·intro q;exact R.hid.ot a (List.mem_append_left _ q) (hN a z).1
  ·exact R.hid.dj a z
theorem RSt.forget(R:RSt D H σ δ O W)(i:Nat):RSt D H σ (δ.set i .no) O W:=R.less (by rw[List.length_set]) λj sv h=>by
 by_cases hj:j=i
 ·subst hj;obtain⟨_,e⟩:=q3g h;exact .inl e.symm
 ·rw[List.getElem?_set_ne (Ne.symm hj)]at h;exact .inr h
theorem RSt.poke{a:Addr}{xs:List V}(R:RSt D H σ δ O W)(ha:a∈W)(ho:∀(j:Nat) d',δ[j]? = some (.own d')->σ[j]? ≠ some (some (.ref a)))(h1:∀(j:Nat) d',δ[j]? ≠ some (.ot d'))(h2:∀(j:Nat) d',δ[j]? ≠ some (.o2 d'))(hal:∃ys,H a=some (.lst ys)):RSt D (upd H a (.lst xs)) σ δ O W:=by
 have old:Same (L2.wo (O++W) H) (L2.wo (O++W) (upd H a (.lst xs))):=λb o e=>by obtain⟨hb,e⟩:=q0M e;rw[q0o hb,q0l λz=>hb (by rw[z];exact List.mem_append_right _ ha)];exact e
 refine⟨λj d h=>?_,λj d h=>?_,R.inj,λj d h=>absurd h (h1 j d),λj d h=>absurd h (h2 j d),R.od.step (λj d h=>⟨h,rfl⟩) (λ_ h _=>h) (λb kvs _ h m=>by obtain⟨ys,w⟩:=hal;rw[q0l (λz=>by rw[z,w]at h;cases h;cases m)];exact h),R.len,⟨λb hb q=>?_,Same.refl _,λb hb=>?_,R.hid.dj,R.hid.omW (by assumption)⟩⟩
 ·obtain⟨v,q1,q2⟩:=R.val j d h;exact⟨v,q1,q2.mono old⟩
 ·obtain⟨b,ys,ds1,q0,q1,q2,q3,q4⟩:=R.own j d h;refine⟨b,ys,ds1,q0,q1,q2,?_,q4.mono old⟩;rw[q0l λz=>ho j _ h (by rw[←z];exact q1)];exact q3
 ·by_cases hba:b=a
  ·rw[hba,q0D]at q;cases q
  ·rw[q0l hba]at q;exact R.hid.ot b hb q
 ·by_cases hba:b=a
  ·exact⟨_,by rw[hba];exact q0D,rfl⟩
  ·obtain⟨ys,q,m⟩:=R.hid.wl b hb;exact⟨ys,by rw[q0l hba];exact q,m⟩
theorem q4V{α:Type}{l:List α}{i:Nat}{a:α}(h:l[i]? = some a):l.set i a=l:=by
 obtain⟨hl,e⟩:=List.getElem?_eq_some_iff.mp h;rw[←e,List.set_getElem_self]
end
end L2
end
noncomputable section
namespace L2
open PySem PySem.Spec PyProof.Rows
section
variable {X:Cx} {E:St->XK} {δ:List Sv} {o:Out} {e fe:Expr} {pos pos':Pos} {ra rb:Option Re} {i:Nat} {x:Str}
theorem z3A{d:DV}{c:Cl}(h:newI d c=true):∃ns:List Int,d=.lst (ns.map DV.int)/\c=.fresh:=by
 unfold newI at h;split at h
 ·rename_i ds;cases q:ints? ds with
  | none=>rw[q]at h;cases h
  | some ns=>exact⟨ns,by rw[q5i q],rfl⟩
 ·cases h
theorem gotI{D:Dm}{O W:List Addr}{H0 H:Hp}{ns:List Int}{v:V}(g:Got D O W H0 H (.lst (ns.map DV.int)) .fresh v):∃q,v=.ref q/\H0 q=none/\H q=some (.lst (ns.map V.int)):=by
 obtain⟨q,xs,ds,e1,e2,e3,e4,e5⟩:=g;cases e2;have:xs=ns.map V.int:=by
  clear e4
  induction ns generalizing xs with
  | nil=>exact q0t.mp e5
  | cons n ns ih=>
   obtain⟨v',vs,f1,f2,f3⟩:=q0h.mp e5;rw[f1,ih vs f3,q0J.mp f2];rfl
 rw[this]at e4;exact⟨q,e1,e3,e4⟩
theorem z6g{D:Dm}{H:Hp}{σ:St}{O W:List Addr}{q:Addr}(R:RSt D H σ δ O W)(hq:H q=none){j:Nat}{d':DV}{a:Addr}(h:δ[j]? = some (.own d'))(h2:σ[j]? = some (some (.ref a))):a≠q:=λz=>by
 obtain⟨b,xs,ds,_,e1,_,e3,_⟩:=R.own j d' h;rw[h2]at e1;cases e1;rw[z,hq]at e3;cases e3
end
section
variable {X:Cx} {E:St->XK} {δ:List Sv} {o:Out} {iter elt tgE:Expr} {pos pos':Pos} {N':List Str} {scope:Scope} {fr:List (Option Nat)} {tg:Tg} {ri:Option Ri} {i:Nat} {x:Str}
end
end L2
end
noncomputable section
namespace L2
open PySem PySem.Spec PyProof.Rows
theorem z0q{p:Addr}:∀{M:List (Option Addr×List Int)} {m k:Nat} {x y:List Int},(M.filterMap (·.1)).Nodup->M[m]? = some (some p,x)->M[k]? = some (some p,y)->m=k
 | [],_,_,_,_,_,h,_=>by simp at h
 | (none,_)::M,0,_,_,_,_,h,_=>by simp at h
 | (none,_)::M,_+1,0,_,_,_,_,h=>by simp at h
 | (none,_)::M,m+1,k+1,_,_,n,h1,h2=>by rw[z0q (M:=M) (m:=m) (k:=k) (by simpa using n) (by simpa using h1) (by simpa using h2)]
 | (some q,_)::M,0,0,_,_,_,_,_=>rfl
 | (some q,_)::M,0,k+1,_,_,n,h1,h2=>by simp at h1 h2 n;obtain⟨h1,_⟩:=h1;subst h1;exact absurd (List.mem_of_getElem? h2) (n.1 _)
 | (some q,_)::M,m+1,0,_,_,n,h1,h2=>by simp at h1 h2 n;obtain⟨h2,_⟩:=h2;subst h2;exact absurd (List.mem_of_getElem? h1) (n.1 _)
 | (some q,_)::M,m+1,k+1,_,_,n,h1,h2=>by rw[z0q (M:=M) (m:=m) (k:=k) (by simp at n;exact n.2) (by simpa using h1) (by simpa using h2)]
theorem z4E{M:List (Option Addr×List Int)}{k:Nat}{a:Addr}{x y:List Int}(h:M[k]? = some (some a,x)):(M.set k (some a,y)).filterMap (·.1)=M.filterMap (·.1):=by
 have e:∀N:List (Option Addr×List Int),N.filterMap (·.1)=(N.map (·.1)).filterMap id:=λN=>by rw[List.filterMap_map];rfl
 rw[e,e,List.map_set,q4V (by rw[List.getElem?_map,h];rfl)]
theorem it_V{M:List (Option Addr×List Int)}{k:Nat}{a:Addr}{x y:List Int}(h:M[k]? = some (some a,x)):(M.set k (some a,y)).map itV=M.map itV:=by
 rw[List.map_set,q4V (by rw[List.getElem?_map,h];rfl)]
section
variable {D:Dm} {H H':Hp} {σ:St} {δ:List Sv} {O W:List Addr} {i:Nat}
theorem RSt.setOt{t:Addr}{M:List (Option Addr×List Int)}(R:RSt D H σ δ O W)(i:Nat)(ht:SqT D.K (L2.wo (O++W) H) t (M.map itV))(nd:(M.filterMap (·.1)).Nodup)(hM:ItAt H M)(hw:∀p∈M.filterMap (·.1),p∈W)(ho:∀p∈M.filterMap (·.1),∀(j:Nat) d',j≠i->δ[j]? = some (.own d')->σ[j]? ≠ some (some (.ref p)))
  (h1:∀(j:Nat) d',j≠i->δ[j]? ≠ some (.ot d')) (h2:∀(j:Nat) d',j≠i->δ[j]? ≠ some (.o2 d')):RSt D H (σ.set i (some (.ref t))) (δ.set i (.ot (.dct [] (M.map itD)))) O W:=by
 refine⟨λj d h=>?_,λj d h=>?_,λj k a d1 d2 q1 q2 e1 e2=>?_,λj d h=>?_,λj d h=>?_,R.od.step (q4Q _ (by intro d z;cases z)) (λ_ h _=>h) (λ_ _ _ h _=>h),by rw[List.length_set,List.length_set];exact R.len,R.hid⟩
 ·have hj:=q0c h (by intro z;cases z);rw[List.getElem?_set_ne (Ne.symm hj)]at h ⊢;exact R.val j d h
 ·have hj:=q0c h (by intro z;cases z);rw[List.getElem?_set_ne (Ne.symm hj)]at h ⊢;exact R.own j d h
 ·have n1:=q0c q1 (by intro z;cases z);have n2:=q0c q2 (by intro z;cases z);rw[List.getElem?_set_ne (Ne.symm n1)]at q1 e1;rw[List.getElem?_set_ne (Ne.symm n2)]at q2 e2;exact R.inj j k a d1 d2 q1 q2 e1 e2
 ·have hj:j=i:=by
   by_cases hj:j=i
   ·exact hj
   ·rw[List.getElem?_set_ne (Ne.symm hj)]at h;exact absurd h (h1 j d hj)
  subst hj;obtain⟨hl,e⟩:=q3g h;cases e;refine⟨⟨t,_,_,List.getElem?_set_self (by rw[R.len];exact hl),ht,.inr ⟨M,rfl,rfl,rfl,nd,hM⟩,λp hp=>⟨hw p hp,?_,λk d' q=>?_⟩⟩,λk d' q=>?_⟩
  ·obtain⟨⟨o,ns⟩,hm,e⟩:=List.mem_filterMap.mp hp;have e:o=some p:=e;subst e;exact⟨_,hM p ns hm⟩
  ·have hk:=q0c q (by intro z;cases z);rw[List.getElem?_set_ne (Ne.symm hk)]at q ⊢;exact ho p hp k d' hk q
  ·by_cases hk:k=j
   ·exact hk
   ·rw[List.getElem?_set_ne (Ne.symm hk)]at q;exact absurd q (h1 k d' hk)
 ·have hj:=q0c h (by intro z;cases z);rw[List.getElem?_set_ne (Ne.symm hj)]at h;exact absurd h (h2 j d hj)
theorem RSt.otAt{ks:List DKey}{ds xs:List DV}{k:Nat}(R:RSt D H σ δ O W)(hi:δ[i]? = some (.ot (.dct ks ds)))(hk:ds[k]? = some (.lst xs)):∃(t:Addr) (ts:List V) (a:Addr) (ns:List Int),σ[i]? = some (some (.ref t))/\SqT D.K H t ts/\ts[k]? = some (.ref a)/\xs=ns.map DV.int/\H a=some (.lst (ns.map V.int))/\a∈W /\
  ∀H1,Same H H1->∀ns':List Int,RSt D (upd H1 a (.lst (ns'.map V.int))) σ (δ.set i (.ot (.dct ks (ds.set k (.lst (ns'.map DV.int)))))) O W:=by
 obtain⟨⟨t,ts,L,e1,e2,e3,e4⟩,u⟩:=R.ot i _ hi;rcases e3 with⟨p,xs,ds1,es1,us,f0,f1,f2,f3,f4,f5⟩ | ⟨M,f0,f1,f2,f3,f4⟩
 ·cases f0
 ·cases f0;subst f1 f2;rw[List.getElem?_map]at hk;cases hm:M[k]? with
  | none=>rw[hm]at hk;cases hk
  | some m=>
   obtain⟨o,ns⟩:=m;rw[hm]at hk;cases o with
   | none=>cases hk
   | some a=>
    have hk':DV.lst (ns.map DV.int)=.lst xs:=Option.some.inj hk;cases hk';have hmem:(some a,ns)∈M:=List.mem_of_getElem? hm;have hf:a∈M.filterMap (·.1):=List.mem_filterMap.mpr ⟨_,hmem,rfl⟩;have ha:=e4 a hf;refine⟨t,_,a,ns,e1,q0T.tseq e2,by rw[List.getElem?_map,hm];rfl,rfl,f4 a ns hmem,ha.1,λH1 s1 ns'=>?_⟩;have R1:=R.mono s1;have no2:∀(j:Nat) d',(δ.set i .no)[j]? ≠ some (.o2 d'):=λj d' q=>by have hj:=q0c q (by intro z;cases z);rw[List.getElem?_set_ne (Ne.symm hj)]at q;exact(R.o2 j d' q).2.2 i _ hi
    have noT:∀(j:Nat) d',(δ.set i .no)[j]? ≠ some (.ot d'):=λj d' q=>by have hj:=q0c q (by intro z;cases z);rw[List.getElem?_set_ne (Ne.symm hj)]at q;exact hj (u j d' q)
    have R2:=(R1.forget i).poke (xs:=ns'.map V.int) ha.1 (λj d' q=>by
     have hj:=q0c q (by intro z;cases z);rw[List.getElem?_set_ne (Ne.symm hj)]at q;exact ha.2.2 j d' q) noT no2 ⟨_,s1 _ _ (f4 a ns hmem)⟩
    have old:Same (L2.wo (O++W) H) (L2.wo (O++W) (upd H1 a (.lst (ns'.map V.int)))):=λb o e=>by obtain⟨hb,e⟩:=q0M e;rw[q0o hb,q0l λz=>hb (by rw[z];exact List.mem_append_right _ ha.1)];exact s1 _ _ e
    have R3:=R2.setOt (t:=t) (M:=M.set k (some a,ns')) i (by rw[it_V hm];exact old.tseq e2) (by rw[z4E hm];exact f3) (λp ns1 hp=>by
     obtain⟨m,hm'⟩:=List.mem_iff_getElem?.mp hp;by_cases hmk:m=k
     ·subst hmk;rw[List.getElem?_set_self (List.getElem?_eq_some_iff.mp hm).1]at hm';cases hm';exact q0D
     ·rw[List.getElem?_set_ne (Ne.symm hmk)]at hm';rw[q0l λz=>hmk (z0q f3 hm' (by rw[z];exact hm))];exact s1 _ _ (f4 p ns1 (List.mem_of_getElem? hm'))) (λp hp=>by rw[z4E hm]at hp;exact(e4 p hp).1) (λp hp j d' hj q=>by
       rw[z4E hm]at hp;rw[List.getElem?_set_ne (Ne.symm hj)]at q;exact(e4 p hp).2.2 j d' q) (λj d' _=>noT j d') (λj d' _=>no2 j d')
    rw[q4V e1,List.set_set,List.map_set]at R3;exact R3
end
def dP(D:Dm)(δ:List Sv)(d:DV):TE:=λσ H Q=>∃O W,RSt D H σ δ O W/\∀v H',Same H H'->GotP H H' d v->Q v H'
section
variable {X:Cx} {E:St->XK} {δ:List Sv} {o:Out} {pos pos':Pos} {i:Nat} {x:Str} {e ea eb:Expr} {ra:Option Re}
theorem z4U{Dn:Ends}{σ:St}{H H0:Hp}{O W:List Addr}{D:Dm}{ks:List DKey}{ds:List DV}(hno:noOt i δ=true)(R:RSt D H σ δ O W)(fr:∀a∈W,H0 a=none)(sm:Same H0 H)(k:dEnd D E H0 O Dn (.nx (δ.set i (.ot (.dct ks ds))))):∀v H',Same H H'->GotP H H' (.dct ks ds) v->Dn.nx (σ.set i (some v)) H':=λv H1 s1 g=>by
 obtain⟨t,M,rfl,e1,e2,e3,e4,e5,e6⟩:=g;cases e1;have inN:∀a∈M.filterMap (·.1),H a=none/\∃xs,H1 a=some (.lst xs):=λa ha=>by obtain⟨⟨o,ns⟩,hm,e⟩:=List.mem_filterMap.mp ha;have e:o=some a:=e;subst e;exact⟨e5 a ha,_,e6 a ns hm⟩
 have R1:=R.grow s1 (M.filterMap (·.1)) inN;have ht:t∉O++(M.filterMap (·.1)++W):=λz=>by
  rcases List.mem_append.mp z with z | z
  ·exact R.hid.ot t (List.mem_append_left _ z) e2
  ·rcases List.mem_append.mp z with z | z
   ·obtain⟨_,xs,q⟩:=inN t z;rw[e3]at q;cases q
   ·exact R.hid.ot t (List.mem_append_right _ z) e2
 have R2:=R1.setOt (t:=t) (M:=M) i (SqT.of (by rw[q0o ht];exact e3)) e4 e6 (λp hp=>List.mem_append_left _ hp) (λp hp j d' _ z w=>z6g R (inN p hp).1 z w rfl) (λj d' hj z=>hj (q6X hno z)) (λj d' hj z=>hj (q9K hno z));exact k _ H1 _ R2 (λa ha=>by
  rcases List.mem_append.mp ha with z | z
  ·exact sm.free (inN a z).1
  ·exact fr a z) (sm.trans s1)
theorem z0t{F:Nat->List DV->Option Ou}{f n:Nat}{ex:Expr}{l:List (DV×Cl)}{ks:List DKey}{ds:List DV}(hn:∀ds o,F f ds=some o->ds.length=n)
  (C:PE X ex (λσ H Q=>dA X.D E δ (.ok l) σ H λvs H1=>spF X.D n (F f) vs H1 Q (E σ))) (e1:F f (l.map (·.1))=some (.t (.dct ks ds))):PE X ex (dP X.D δ (.dct ks ds)):=
 C.weak λσ H Q ⟨O,W,R,p⟩=>⟨O,W,R,λvs H1 s1 g1=>by
  have hd:=R.hid.mono s1;refine⟨O,_,_,hd.hdO,hn _ _ e1,g1.repL hd,e1,λv H' s g=>p v H' (s1.trans s) ?_⟩;exact(z2n g).since λa ha=>s1.free ha⟩
theorem z1e{ks:List DKey}{ds:List DV}(hN:X.N.Nodup)(hi:X.N[i]? = some x)(hx:Loc X.env.scope x)(hf:X.fn x=true\/X.env.scope.names.lookup x=some .local)(A:PE X e (dP X.D δ (.dct ks ds)))(hc:swapsWith e (some (.Name x pos')) pos.line X.env=pure false)(hno:noOt i δ=true) :
  PS X (.Assign [.Name x pos'] e pos) (dS X.D E δ (.nx (δ.set i (.ot (.dct ks ds))))):=
 (q7v hN hi hx A hc hf).weak λDn σ H ⟨H0,O,W,R,fr,fo,sm,k⟩=>⟨O,W,R,z4U hno R fr sm k⟩
theorem q9Y{D:Dm}{O W:List Addr}{H0 H1:Hp}{d:DV}{c:Cl}{v:V}(hd:Hid O W H0 H1)(h:q5j d c=true)(g:Got D O W H0 H1 d c v):∃m,d=itD m/\v=itV m/\∀p,m.1=some p->H0 p=none/\H1 p=some (.lst (m.2.map V.int)):=by
 unfold q5j at h;split at h
 ·rename_i n;exact⟨(none,[n]),rfl,g.int hd,λp z=>by cases z⟩
 ·obtain⟨ns,e1,e2⟩:=z3A h;subst e1 e2;obtain⟨q,e3,e4,e5⟩:=gotI g;exact⟨(some q,ns),rfl,e3,λp z=>by cases z;exact⟨e4,e5⟩⟩
theorem z1O{kk:Nat}{tp:Pos}{d d':DV}{c c':Cl}(ha:PE X ea (dE X.D E δ (.ok d c)))(hb:PE X eb (dE X.D E δ (.ok d' c')))(sa:q0j ea=false)(sb:q0j eb=false)(h:q5j d c=true/\q5j d' c'=true):PS X (.Return (some (.Tuple [ea,eb] kk tp)) pos) (dS X.D E δ (.rtt (.dct [] [d,d']))):=by
 refine(q7I (z2J (q0W ha (q0W hb q3k (q0k sb)) (q0k sa)))).weak λDn σ H ⟨H0,O,W,R,fr,fo,sm,k⟩=>⟨O,W,R,λv1 H1 s1 g1=>⟨O,W,R.mono s1,λv2 H2 s2 g2=>⟨(by decide:2<=sizeLine),λq hq=>?_⟩⟩⟩;obtain⟨m1,a1,a2,a3⟩:=q9Y (R.hid.mono s1) h.1 g1;obtain⟨m2,b1,b2,b3⟩:=q9Y ((R.mono s1).hid.mono s2) h.2 g2;subst a1 a2 b1 b2;have s3:Same H2 (upd H2 q (.tup [itV m1,itV m2])):=q0p hq;refine(k:dEnd X.D E H0 O Dn (.rtt (.dct [] [itD m1,itD m2]))) (.ref q) _ (((sm.trans s1).trans s2).trans s3) (.inr (.inr ⟨q,[m1,m2],rfl,rfl,sm.free (s1.free (s2.free hq)),q0D,?_,λp hp=>?_,λp ns hp=>?_⟩))
 ·obtain⟨o1,n1⟩:=m1;obtain⟨o2,n2⟩:=m2;cases o1 with
  | none=>cases o2<;>simp
  | some p1=>
   cases o2 with
   | none=>simp
   | some p2=>
    have ne:p1≠p2:=λz=>by have w1:=(a3 p1 rfl).2;rw[z,(b3 p2 rfl).1]at w1;cases w1
    simp[ne]
 ·obtain⟨m,hm,e⟩:=List.mem_filterMap.mp hp;rcases List.mem_cons.mp hm with z | z
  ·subst z;exact sm.free (a3 p e).1
  ·rw[List.mem_singleton.mp z]at e;exact sm.free (s1.free (b3 p e).1)
 ·rcases List.mem_cons.mp hp with z | z
  ·subst z;exact s3 _ _ (s2 _ _ (a3 p rfl).2)
  ·rw[←List.mem_singleton.mp z]at b3;exact s3 _ _ (b3 p rfl).2
theorem z0V{apos cpos npos spos ipos:Pos}{j kk:Nat}(hv:PE X (.Name x npos) (tVar i))(he:∀q,ra=some q->PE X e (dE X.D E δ q))(hs:q0j e=false)(hline:(apos.endLine==cpos.line)=true)
  (h:(match δ[i]? with
   | some (.ot (.dct ks ds))=>(match(generalizing:=false) ds[kk]?,ra with
    | some (.lst xs),some (.ok (.int z) _)=>if xs.length<mostLen then some (Out.nx (δ.set i (.ot (.dct ks (ds.set kk (.lst (xs++[.int z])))))))else none
    | _,_=>none)
   | _=>none)=some o):PS X (.Expr (.Call (.Attribute (.Subscript (.Name x npos) (.Constant (.int (kk:Int)) j ipos) spos) "append" apos) [e] [] cpos) pos) (dS X.D E δ o):=by
 split at h
 ·rename_i ks ds hi;split at h
  ·rename_i xs z cz hk;split at h
   ·rename_i m;cases h;have S:PE X (.Subscript (.Name x npos) (.Constant (.int (kk:Int)) j ipos) spos) (tOp (rIxT X.K) (tVar i) (tC (.int (kk:Int)))):=z3B q9H hv z0z (by intro _ _;rfl);have C:=λt (hA:PE X e t)=>q4d (pos:=pos) (z5R PySem.F.plainAttrs_list PySem.F.slot_list_append PySem.F.type_list_append q6n S (q0W hA q3k (q0k hs)) rfl (by rw[q0k hs];rfl) hline (q0k hs) rfl) rfl
    exact(C _ (he _ rfl)).weak λDn σ H ⟨H0,O,W,R,fr,fo,sm,k⟩=>by obtain⟨t,ts,a,ns,e1,e2,e3,e4,e5,e6,e7⟩:=R.otAt hi hk;refine⟨.ref t,e1,t,_,(kk:Int),.ref a,rfl,rfl,e2,q8U e3,.inl ⟨rfl,_,SqL.of e5⟩,O,W,R,λv H1 s1 g=>?_⟩;have hv':=g.int (R.hid.mono s1);subst hv' e4;rw[List.length_map]at m;refine⟨a,_,.int z,rfl,rfl,s1 _ _ e5,by rw[List.length_map];exact Nat.lt_of_lt_of_le m (by decide),?_⟩;have R4:=e7 H1 s1 (ns++[z]);rw[List.map_append,List.map_append]at R4;exact k σ _ W R4 fr (q2F (sm.trans s1) (fr a e6))
   ·cases h
  ·cases h
 ·cases h
theorem z1W{apos cpos npos spos ipos:Pos}{j kk:Nat}(hv:PE X (.Name x npos) (tVar i))(hline:(apos.endLine==cpos.line)=true)
  (h:(match δ[i]? with
   | some (.ot (.dct ks ds))=>(match(generalizing:=false) ds[kk]? with
    | some (.lst _)=>some (Out.nx (δ.set i (.ot (.dct ks (ds.set kk (.lst []))))))
    | _=>none)
   | _=>none)=some o):PS X (.Expr (.Call (.Attribute (.Subscript (.Name x npos) (.Constant (.int (kk:Int)) j ipos) spos) "clear" apos) [] [] cpos) pos) (dS X.D E δ o):=by
 split at h
 ·rename_i ks ds hi;split at h
  ·rename_i xs hk;cases h;have S:PE X (.Subscript (.Name x npos) (.Constant (.int (kk:Int)) j ipos) spos) (tOp (rIxT X.K) (tVar i) (tC (.int (kk:Int)))):=z3B q9H hv z0z (by intro _ _;rfl);exact(q4d (pos:=pos) (z2p PySem.F.plainAttrs_list PySem.F.slot_list_clear PySem.F.type_list_clear z1w S rfl hline) rfl).weak λDn σ H ⟨H0,O,W,R,fr,fo,sm,k⟩=>by obtain⟨t,ts,a,ns,e1,e2,e3,e4,e5,e6,e7⟩:=R.otAt hi hk;refine⟨.ref t,e1,t,_,(kk:Int),.ref a,rfl,rfl,e2,q8U e3,.inl ⟨rfl,_,SqL.of e5⟩,a,_,rfl,rfl,e5,?_⟩;exact k σ _ W (e7 H (Same.refl H) []) fr (q2F sm (fr a e6))
  ·cases h
 ·cases h
end
end L2
end
noncomputable section
namespace L2
open PySem
def Kp(a:Addr)(h h':Heap):Prop:=∀b o,b≠a->h.get? b=some o->h'.get? b=some o
section
variable {prog:Program} {w:World} {A:Around} {E:Value->Shared->Prop} {s:Shared} {d it:Addr} {i ep:Nat} {od:Obj} {es:Array DictEntry} {ok ov:Value}
end
end L2
end
noncomputable section
namespace L2
open PySem PySem.Spec PyProof.Rows
section
variable {X:Cx} {CX:CXT} {k:Nat} {f:Addr} {fd:FuncData} {ps ks:List Str} {sp:Sp} {E:St->XK} {x:Str} {p pos:Pos} {e:Expr} {es:List Expr} {kws:List Keyword} {t tk:TA} {g:List Value->List Value->List Value} {gV:List V->List V->List V}
end
section
variable {X:Cx} {E:St->XK} {δ:List Sv} {re:Re} {rs:Option Rs}
end
section
variable {X:Cx} {E:St->XK} {δ:List Sv} {e:Expr} {es:List Expr} {pos p:Pos} {re:Re} {rs rs':Option Rs} {k:Nat} {fa:Addr} {fd:FuncData} {ps:List Str} {x:Str}
def q3G{α:Type}(n:Nat)(us ws:List α):List α:=if us.length+1=n/\ws.length=1 then us++ws else[]
theorem z0L{n:Nat}{vs zs:List V}{us ws:List Value}(r:Vals vs us)(q:Vals zs ws):Vals (q3G n vs zs) (q3G n us ws):=by
 unfold q3G;rw[r.length,q.length];split
 ·exact r.append q
 ·exact .nil
end
end L2
end
noncomputable section
namespace L2
open PySem PySem.Spec PyProof.Rows
def z6w(K:PySem.W.Frag)(C:Addr):Prop:=∃B newId initId bmB,ExcBaseFacts B newId initId bmB/\PySem.W.excIn K C bmB newId=true
structure XOne(K:PySem.W.Frag)(mg:Str->Option Value)(G:Gs)(cl:List Str)(c:Str)(C:Addr):Prop where
 mc:mg c=some (.ref C)
 ck:ClsK K C
 rk:z6w K C
 own:∀t∈cl,∀Ct,mg t=some (.ref Ct)->PySem.W.kitOne K (.ref C) (.ref Ct)=some (q1C G c t)/\(q1C G c t=true->PySem.W.exmOne K (.ref C) (.ref Ct)=some true)
 blt:PySem.W.kitOne K (.ref C) (.type "ValueError")=some (q1C G c "ValueError")
structure XFacts(K:PySem.W.Frag)(mg:Str->Option Value)(G:Gs)(cl:List Str):Prop where
 one:∀c,(G.cls.lookup c).isSome=true->∃C,XOne K mg G cl c C
 all:∀t∈cl,∃Ct,mg t=some (.ref Ct)
section
variable {X:Cx} {E:St->XK} {δ:List Sv} {e:Expr} {pos p p':Pos} {re:Re} {ra:Option Re} {G:Gs} {cl:List Str} {t:Str} {o:Out}
def rIsx(X:Cx):List V->Hp->VK->Prop:=λxs H Q=>∃(a C:Addr) (y:V) (c:Value) (b:Bool),xs=[.ref a,y]/\H a=some (excO a (.ref C))/\ClsK X.K C/\((∃Ct,y=.ref Ct/\c=.ref Ct)\/∃n,y=.ty n/\c=.type n)/\PySem.W.kitOne X.K (.ref C) c=some b/\Q (.bl b) H
theorem z0P:q1q X (.builtin "isinstance") (rIsx X):=by
 intro pins s σ H xs us Q I r h;obtain⟨a,C,y,c,b,rfl,ea,ck,hy,hk,q⟩:=h;obtain⟨u,w',rfl,ru,rw'⟩:=z1B r;cases(show u=Value.ref a from ru);obtain⟨⟨oe,vs,h1,h2,_⟩,_⟩:=(show q1J X.prog X.w H s.heap a (excO a (.ref C))from I.hok a _ ea);have hw:w'=c:=by
  rcases hy with⟨Ct,rfl,rfl⟩ | ⟨n,rfl,rfl⟩
  ·exact rw'
  ·exact rw'
 subst hw;exact z3E ck I.kIn ⟨oe,h1,h2⟩ hk λtk=>⟨.bl b,H,I.tok tk,rfl,q⟩
theorem q4l:bootBuiltins "ValueError" = some (.type "ValueError"):=by decide +kernel
theorem z3G(F:XFacts X.K X.mg G cl)(hg:Gl X "isinstance")(hm:X.mg "isinstance" = none)(hgt:Gl X t)(ht:(t∈cl/\(t==("__debug__" : Str))=false)\/(X.mg t=none/\t = "ValueError"))
  (ha:∀q,ra=some q->PE X e (dE X.D E δ q)) (hs:q0j e=false) (h:(Re.thn ra λy _=>(isxD G y t).map λk=>.ok (.bl k) .strong)=some re):PE X (.Call (.Name "isinstance" p) [e,.Name t p'] [] pos) (dE X.D E δ re):=by
 have T:∃(v:V) (c:Value),PE X (.Name t p') (tC v)/\((∃Ct,v=.ref Ct/\c=.ref Ct)\/∃n,v=.ty n/\c=.type n)/\∀c' C,XOne X.K X.mg G cl c' C->PySem.W.kitOne X.K (.ref C) c=some (q1C G c' t):=by
  rcases ht with⟨h1,h2⟩ | ⟨h1,h2⟩
  ·obtain⟨Ct,hC⟩:=F.all t h1;exact⟨.ref Ct,.ref Ct,z0d hgt hC rfl h2,.inl ⟨Ct,rfl,rfl⟩,λc' C x=>(x.own t h1 Ct hC).1⟩
  ·subst h2;exact⟨.ty "ValueError",.type "ValueError",q8Z hgt h1 q4l rfl (by decide +kernel) (by decide +kernel),.inr ⟨_,rfl,rfl⟩,λc' C x=>x.blt⟩
 obtain⟨v,c,T,hv,hk⟩:=T;have C:=λta (hA:PE X e ta)=>q5m (p:=p) (pos:=pos) z0P hg hm boot_isinstance (q0W hA (q0W T q3k) (q0k hs)) (by decide) (by decide) (q0k hs)
 cases hra:ra with
 | none=>rw[hra]at h;cases h
 | some q=>
  rw[hra]at h;have A:=ha q hra;cases q with
  | ex c=>cases h;exact(C _ A).weak λσ H Q ⟨O,W,R,p⟩=>⟨O,W,R,p⟩
  | ok d dc=>
   obtain⟨k,e1,e2⟩:=Option.map_eq_some_iff.mp (show((isxD G d t).map λk=>Re.ok (.bl k) .strong)=some re from h);cases e2;unfold isxD at e1;split at e1
   ·rename_i c';split at e1
    ·rename_i hc;cases e1;obtain⟨C0,x⟩:=F.one c' hc;refine(C _ A).weak λσ H Q ⟨O,W,R,p⟩=>⟨O,W,R,λv1 H1 s1 g1=>?_⟩
     obtain⟨a,C1,z1,z2,z3⟩:=q6I.mp (g1.all (R.hid.mono s1));rw[show C1=Value.ref C0 from Option.some.inj (z2.symm.trans x.mc)]at z3;exact⟨a,C0,v,c,_,by rw[z1],z3,x.ck,hv,hk c' C0 x,p _ H1 s1 q3c⟩
    ·cases e1
   ·cases e1
theorem q9P{c:Str}{np cpos:Pos}(F:XFacts X.K X.mg G cl)(hc:X.calm=true)(hg:Gl X c)(hd:(c==("__debug__" : Str))=false)(hR:q3K X E)(ha:∀q,ra=some q->PE X e (dE X.D E δ q))(hs:q0j e=false)
  (h:(if(G.cls.lookup c).isSome then Re.thnS δ ra λ_ _=>some (.ex c δ)else none)=some o):PS X (.Raise (some (.Call (.Name c np) [e] [] cpos)) none pos) (dS X.D E δ o):=by
 split at h
 ·rename_i hc';obtain⟨C,x⟩:=F.one c hc';obtain⟨B,newId,initId,bmB,FB,hx⟩:=x.rk;cases hra:ra with
  | none=>rw[hra]at h;cases h
  | some q=>
   rw[hra]at h;have A:=ha q hra;have P:=z1g (np:=np) (cpos:=cpos) (pos:=pos) FB hc hg x.mc hx hR (q0W A q3k (q0k hs)) hd (q0k hs) rfl;cases q with
   | ex c2=>cases h;exact P.weak λDn σ H ⟨H0,O,W,R,fr,fo,sm,k⟩=>⟨O,W,R,q5I R fr sm k⟩
   | ok d dc=>cases h;exact P.weak λDn σ H ⟨H0,O,W,R,fr,fo,sm,k⟩=>⟨O,W,R,λv H1 s1 g=>⟨by show 1<=sizeLine;decide,k σ H1 W _ x.mc (R.mono s1) fr (sm.trans s1)⟩⟩
 ·cases h
theorem RSt.unset{D:Dm}{H:Hp}{σ:St}{O W:List Addr}(R:RSt D H σ δ O W)(i:Nat):RSt D H (σ.set i none) (δ.set i .no) O W where
 val:=λj d h=>by
  by_cases hj:j=i
  ·subst hj;have hl:j<δ.length:=by
    have:=(List.getElem?_eq_some_iff.mp h).1;rw[List.length_set]at this;exact this
   rw[List.getElem?_set_self hl]at h;cases h
  ·rw[List.getElem?_set_ne (Ne.symm hj)]at h ⊢;exact R.val j d h
 own:=λj d h=>by
  by_cases hj:j=i
  ·subst hj;have hl:j<δ.length:=by
    have:=(List.getElem?_eq_some_iff.mp h).1;rw[List.length_set]at this;exact this
   rw[List.getElem?_set_self hl]at h;cases h
  ·rw[List.getElem?_set_ne (Ne.symm hj)]at h ⊢;exact R.own j d h
 inj:=λj k a d d' h1 h2 h3 h4=>by
  have ne:∀(j:Nat) d,(δ.set i .no)[j]? = some (.own d)->j≠i:=λj d h z=>by
   subst z;have hl:j<δ.length:=by have:=(List.getElem?_eq_some_iff.mp h).1;rw[List.length_set]at this;exact this
   rw[List.getElem?_set_self hl]at h;cases h
  have nj:=ne j d h1;have nk:=ne k d' h2;rw[List.getElem?_set_ne (Ne.symm nj)]at h1 h3;rw[List.getElem?_set_ne (Ne.symm nk)]at h2 h4;exact R.inj j k a d d' h1 h2 h3 h4
 ot:=λj d h=>by
  have nj:=q0c h (by intro z;cases z);rw[List.getElem?_set_ne (Ne.symm nj)]at h ⊢;obtain⟨⟨t,ts,L,e1,e2,e3,e4⟩,u⟩:=R.ot j d h;refine⟨⟨t,ts,L,e1,e2,e3,λp hp=>⟨(e4 p hp).1,(e4 p hp).2.1,λk d2 q=>?_⟩⟩,λk d2 q=>?_⟩
  ·have nk:=q0c q (by intro z;cases z);rw[List.getElem?_set_ne (Ne.symm nk)]at q ⊢;exact(e4 p hp).2.2 k d2 q
  ·have nk:=q0c q (by intro z;cases z);rw[List.getElem?_set_ne (Ne.symm nk)]at q;exact u k d2 q
 o2:=λj d h=>by
  have nj:=q0c h (by intro z;cases z);rw[List.getElem?_set_ne (Ne.symm nj)]at h ⊢;obtain⟨⟨p,L,e0,e1,e2,e3⟩,u,n⟩:=R.o2 j d h;refine⟨⟨p,L,e0,e1,e2,λk d2 a q q2=>?_⟩,λk d2 q=>?_,λk d2 q=>?_⟩
  ·have nk:=q0c q (by intro z;cases z);rw[List.getElem?_set_ne (Ne.symm nk)]at q q2;exact e3 k d2 a q q2
  ·have nk:=q0c q (by intro z;cases z);rw[List.getElem?_set_ne (Ne.symm nk)]at q;exact u k d2 q
  ·have nk:=q0c q (by intro z;cases z);rw[List.getElem?_set_ne (Ne.symm nk)]at q;exact n k d2 q
 od:=R.od.step (q4Q _ (by intro d z;cases z)) (λ_ h _=>h) (λ_ _ _ h _=>h)
 len:=by rw[List.length_set,List.length_set];exact R.len
 hid:=R.hid
theorem z3o{body:List Stmt}{c n x:Str}{np hpos tp vp ap:Pos}{ie ic:Nat}{ob:Option Out}(F:XFacts X.K X.mg G cl)(hst:X.stack=X.env::X.outer)(hfr:X.env.frame=some X.env.locals)(hex:X.ex=[])(hgl:Gl X c)(hc:c∈cl)(hd:(c==("__debug__" : Str))=false)(hN:X.N.Nodup)(hi:X.N[ie]? = some n)(hl:X.env.scope.names.lookup n=some .local)
  (hn1:(n==("__debug__" : Str))=false) (hn2:(n==("__classdict__" : Str))=false) (hi2:X.N[ic]? = some x) (hx:Loc X.env.scope x) (hf:X.fn x=true\/X.env.scope.names.lookup x=some .local)
  (hb:∀pins (E':St->Value->Hp->Prop) q,ob=some q->PSs (X.tryIn pins E') body (dS X.D (λσ C _ H=>E' σ C H) δ q))
  (h:tryD G c ie ic ob=some o) :
  PS X (.Try body [.ExceptHandler (some (.Name c np)) (some n) [.Assign [.Name x tp] (.Name n vp) ap] hpos] [] [] pos) (dS X.D E δ o):=by
 obtain⟨Ct,hCt⟩:=F.all c hc;cases hob:ob with
 | none=>rw[hob]at h;cases h
 | some q=>
  rw[hob]at h;have S:∀ea,PSs (X.inExc ea) [.Assign [.Name x tp] (.Name n vp) ap] (tAsg (tVar ie) (q7Z ic)):=λea=>z4T (q7v (X:=X.inExc ea) hN hi2 hx (q4z (X:=X.inExc ea) hi (.inl hl) hn1 hn2) rfl hf)
  refine(z6a (i:=ie) (cv:=.ref Ct) (tb:=λE'=>dS X.D (λσ C _ H=>E' σ C H) δ q) hst hfr hex hgl hCt hN hi hl (λpins E'=>hb pins E' q hob) S hd).weak λDn σ H ⟨H0,O,W,R,fr,fo,sm,k⟩=>⟨H0,O,W,R,fr,fo,sm,?_⟩;cases q with
  | nx δ'=>cases h;exact k
  | rt d f=>cases h;exact k
  | rtt d=>cases h;exact k
  | ex c' δ'=>
   have h':(if(G.cls.lookup c').isSome/\q1C G c' c/\ie<δ'.length/\ie≠ic then some (Out.nx ((δ'.set ic (.val (.exc c'))).set ie .no))else none)=some o:=h;split at h'
   ·rename_i hh;cases h';obtain⟨hh1,hh2,hh3,hh4⟩:=hh;obtain⟨C0,xo⟩:=F.one c' hh1;intro σ' H' W' C hm R' fr' sm';rw[show C=Value.ref C0 from Option.some.inj (hm.symm.trans xo.mc)];refine⟨(xo.own c hc Ct hCt).2 hh2,λea hea=>?_⟩;have hout:ea∉O++W':=R'.hid.newOut hea;have R1:=R'.mono (q0p (o:=excO ea (.ref C0)) hea);have rp:Rep X.D (L2.wo (O++W') (upd H' ea (excO ea (.ref C0)))) (.exc c') (.ref ea):=q6I.mpr ⟨ea,_,rfl,xo.mc,by rw[q0o hout];exact q0D⟩;refine⟨.ref ea,List.getElem?_set_self (by rw[R'.len];exact hh3),?_⟩;refine k _ _ W' ?_ fr' (sm'.trans (q0p hea));have R2:=((R1.setVal rp ie).setVal rp ic).unset ie;rw[show((δ'.set ie (Sv.val (.exc c'))).set ic (Sv.val (.exc c'))).set ie Sv.no=(δ'.set ic (Sv.val (.exc c'))).set ie Sv.no by rw[List.set_comm _ _ hh4,List.set_set]]at R2;exact R2
   ·cases h'
end
end L2
end
noncomputable section
namespace L2
open PySem PySem.Spec PyProof.Rows
def q9A(K:PySem.W.Frag)(w:World)(mg:Str->Option Value)(x:Str)(kvs:List (Str×Str)):Prop:=
 ∃a es n,mg x=some (.ref a)/\K.lookup a=some ⟨.type "dict",none,.dict es n,#[]⟩/\PySem.W.KeysLit w.params es.toList/\∀k v,kvs.lookup k=some v->v.length<=sizeLine/\∃t,PySem.W.nsIn K a k=some (some (.str v t))
def DK(K:PySem.W.Frag)(D:Dm)(G:Gs)(f:Nat)(fd:FuncData)(ps:List Str):Prop:=
 (∀ds,G.dfl.lookup f=some ds->∃us dvs,q2Y K fd ps us/\Vals dvs us/\∀H,RepL D H ds dvs)/\∀n,G.kws.lookup f=some n->KBinds K fd ps [n] (q3G ps.length) (q3G ps.length)
structure Good(sg:Sg)(G:Gs)(F:Nat->List DV->Option Ou)(X:Cx)(E:St->XK):Prop where
 N:X.N=sg.N
 nd:X.N.Nodup
 vis:∀x,visB sg x=true->Vis X.env.scope x
 glo:∀x,gloB sg x=true->Gl X x
 loc:∀x,locB sg x=true->Loc X.env.scope x/\(X.fn x=true\/X.env.scope.names.lookup x=some .local)
 lcl:∀x,sg.sc.lookup x=some .local->X.env.scope.names.lookup x=some .local
 cel:∀x,(sg.sc.lookup x=some .cell\/sg.sc.lookup x=some .free)->X.env.scope.names.lookup x=some .cell\/X.env.scope.names.lookup x=some .free
 calm:X.calm=true
 hu:X.A.units+64<cLine
 fns:∀f x,sg.fn[f]? = some x->∃k fa fd ps,Room k X.A/\X.mg x=some (.ref fa)/\PySem.W.keepIn X.K (.ref fa)=true/\q2Y X.K fd ps []/\(∀ds o,F f ds=some o->ds.length=ps.length) /\
  FnOk X.prog X.w X.K X.mg X.base (CXx X.prog X.w X.base) k fa fd ps (spF X.D ps.length (F f))/\DK X.K X.D G f fd ps
 blt:∀x∈sg.bl,X.mg x=none
 pas:q3x (CXx X.prog X.w X.base) X E
 con:∀x d,G.con.lookup x=some d->∃u v,X.mg x=some u/\RelV v u/\∀H,Rep X.D H d v
 own:sg.lp=true->PassesOwn (model X.prog X.w) X.A X.env X.xe
 xf:XFacts X.K X.mg G sg.cl
 st:sg.top=true->X.stack=X.env::X.outer/\X.env.frame=some X.env.locals/\X.ex=[]/\q3K X E
 dcs:∀x kvs,G.dcs.lookup x=some kvs->q9A X.K X.w X.mg x kvs
 hun:G.hun=true->∃k fa fd ps hf,Room k X.A/\X.mg q1a=some (.ref fa)/\PySem.W.keepIn X.K (.ref fa)=true/\q2Y X.K fd ps []/\(∀d l,F q5A [d,.lst l]=(hf d l).map λr=>.v r.1 false)/\FnOk X.prog X.w X.K X.mg X.base (CXx X.prog X.w X.base) k fa fd ps (spH X.D hf)
theorem q2b:∀{l:List Str},q4u l=true->l.Nodup
 | [],_=>List.nodup_nil
 | x::r,h=>by unfold q4u at h;rw[Bool.and_eq_true]at h;refine List.nodup_cons.mpr ⟨λz=>?_,q2b h.2⟩;have:=h.1;rw[List.contains_iff_mem.mpr z]at this;cases this
section
variable {sg:Sg} {G:Gs} {F:Nat->List DV->Option Ou} {X:Cx} {E:St->XK} {tg:Tg} {sc:Scope} {N':List Str} {fr:List (Option Nat)}
theorem q1E(g:Good sg G F X E)(h:q3a sg N' fr sc tg=true):CompScope X.N N' sc X.env.scope fr/\(∀(j k i:Nat),fr[j]? = some (some i)->fr[k]? = some (some i)->j=k)/\∀i∈q2V tg,fr[i]? = some none:=by
 unfold q3a at h;simp only[Bool.and_eq_true,List.all_eq_true,beq_iff_eq]at h;obtain⟨⟨⟨⟨⟨⟨h0,h1⟩,h2⟩,h3⟩,h4⟩,h5⟩,h6⟩:=h;have h5':∀(j i:Nat),fr[j]? = some (some i)->∃x,N'[j]? = some x/\sg.N[i]? = some x/\(x,NameKind.free)∈sc.names:=λj i e=>by
  have hj:j<fr.length:=(List.getElem?_eq_some_iff.mp e).1;have hj':j<N'.length:=by rw[←h4];exact hj
  have hz:(some i,N'[j])∈fr.zip N':=(by refine List.mem_of_getElem? (i:=j) ?_;rw[List.getElem?_zip_eq_some];exact⟨e,List.getElem?_eq_getElem hj'⟩);have q:=h5 _ hz;simp only[Bool.and_eq_true,beq_iff_eq,List.contains_iff_mem]at q;exact⟨_,List.getElem?_eq_getElem hj',q.1,q.2⟩
 refine⟨⟨h1,q2b h2,q2b h3,h4,λj i e=>?_,λy hy hk=>?_⟩,λj k i e1 e2=>?_,h0⟩
 ·obtain⟨x,a,b,c⟩:=h5' j i e;exact⟨x,a,by rw[g.N];exact b,c⟩
 ·have q:=h6 y hy;rw[if_pos hk]at q;simp only[Bool.or_eq_true,beq_iff_eq]at q;exact g.cel _ q
 ·obtain⟨x,a,b,_⟩:=h5' j i e1;obtain⟨x',a',b',_⟩:=h5' k i e2;rw[b]at b';cases b';exact q3L (q2b h2) a a'
theorem q1I(g:Good sg G F X E)(h:q3a sg N' fr sc tg=true)(C:Addr)(cells:List (Str×Addr))(s₂:Shared)(H₂:Hp)(fp:List Addr):Good ⟨N',sc.names,sg.fn,sg.bl,sg.cl,false,true⟩ G F (q0x X sc N' C cells s₂ H₂ fp) E0s:=by
 obtain⟨S,_,_⟩:=q1E g h;have look:∀x,(q0x X sc N' C cells s₂ H₂ fp).env.scope.names.lookup x=(sc.names.lookup x).map λk=>if(k==NameKind.free&&X.env.scope.kind == .function&&X.env.kindOf x==some .cell)=true then NameKind.cell else k:=λx=>q1S
 have one:∀x k,sc.names.lookup x=some k->k ≠ .free->(q0x X sc N' C cells s₂ H₂ fp).env.scope.names.lookup x=some k:=λx k e hk=>by rw[look,e,Option.map_some,if_neg];intro z;simp only[Bool.and_eq_true,beq_iff_eq]at z;exact hk z.1.1
 have two:∀x,sc.names.lookup x=some .free->(q0x X sc N' C cells s₂ H₂ fp).env.scope.names.lookup x=some .cell\/(q0x X sc N' C cells s₂ H₂ fp).env.scope.names.lookup x=some .free:=λx e=>by
  rw[look,e,Option.map_some];split
  ·exact .inl rfl
  ·exact .inr rfl
 refine⟨rfl,S.nd,λx hx=>?_,λx hx=>?_,λx hx=>?_,λx hx=>one x _ hx (by intro z;cases z),λx hx=>?_,g.calm,g.hu,g.fns,g.blt,?_,g.con,λ_=>.never,g.xf,(λz=>nomatch z),g.dcs,g.hun⟩
 ·unfold visB at hx;simp only[Bool.or_eq_true,beq_iff_eq]at hx;rcases hx with(hx | hx) | hx
  ·exact .inl (one x _ hx (by intro z;cases z))
  ·exact .inr (.inl (one x _ hx (by intro z;cases z)))
  ·exact .inr (two x hx)
 ·unfold gloB at hx;rw[beq_iff_eq]at hx;exact one x _ hx (by intro z;cases z)
 ·unfold locB at hx;simp only[Bool.or_eq_true,beq_iff_eq]at hx;rcases hx with hx | hx
  ·exact⟨.inl (one x _ hx (by intro z;cases z)),.inr (one x _ hx (by intro z;cases z))⟩
  ·exact⟨.inr (one x _ hx (by intro z;cases z)),.inl (by show(sc.names.lookup x==some .cell)=true;rw[hx];rfl)⟩
 ·rcases hx with hx | hx
  ·exact .inl (one x _ hx (by intro z;cases z))
  ·exact two x hx
 ·intro pins σ H s e s' I z;obtain⟨_,_,_,_,_,_,_,_,_,_,q⟩:=z;exact q.elim
theorem q3V(g:Good sg G F X E){i:Nat}{x:Str}(h:q5z sg i x=true):X.N[i]? = some x/\Vis X.env.scope x/\(x==("__debug__" : Str))=false/\(x==("__classdict__" : Str))=false:=by
 unfold q5z at h;simp only[Bool.and_eq_true,beq_iff_eq,bne_iff_ne,ne_eq]at h;obtain⟨⟨⟨h1,h2⟩,h3⟩,h4⟩:=h;exact⟨by rw[g.N];exact h1,g.vis x h2,beq_eq_false_iff_ne.mpr h3,beq_eq_false_iff_ne.mpr h4⟩
theorem q4S(g:Good sg G F X E){x:Str}{f:Expr}(h:bltB sg x f=true):(∃p,f=.Name x p)/\Gl X x/\X.mg x=none:=by
 unfold bltB at h;simp only[Bool.and_eq_true,beq_iff_eq,List.contains_iff_mem]at h;obtain⟨⟨h1,h2⟩,h3⟩:=h;exact⟨q0q h1,g.glo x h2,g.blt x h3⟩
theorem z1P(g:Good sg G F X E)(pins:List (Addr×Obj))(E':St->Value->Hp->Prop):Good ⟨sg.N,sg.sc,sg.fn,sg.bl,sg.cl,false,false⟩ G F (X.tryIn pins E') (λσ C _ H=>E' σ C H):=
 ⟨g.N,g.nd,g.vis,g.glo,g.loc,g.lcl,g.cel,g.calm,g.hu,g.fns,g.blt,q8n,g.con,(λz=>nomatch z),g.xf,(λz=>nomatch z),g.dcs,g.hun⟩
theorem q6g(g:Good sg G F X E):∀(is:List Nat) (es:List Expr),es.length=is.length->((is.zip es).all λp=>match q0Q p.2 with | some x=>sg.N[p.1]? == some x&&locB sg x | none=>false)=true ->
  PGs X es (q7H is)/\(assignEach es X.env).length=is.length/\(assignEach es X.env).findIdx? (·.1)=none
 | [],[],_,_=>⟨z4y,rfl,rfl⟩
 | [],_::_,h,_=>by cases h
 | _::_,[],h,_=>by cases h
 | i::is,e::es,hl,h=>by
  rw[List.zip_cons_cons,List.all_cons,Bool.and_eq_true]at h;obtain⟨h1,h2⟩:=h;obtain⟨A,B,C⟩:=q6g g is es (by simpa using hl) h2;split at h1
  ·rename_i x q;obtain⟨p,rfl⟩:=q0q q;simp only[Bool.and_eq_true,beq_iff_eq]at h1;have l:=g.loc x h1.2;refine⟨z1R (q9e g.nd (by rw[g.N];exact h1.1) l.1 l.2) A rfl,?_,?_⟩
   ·show(assignEach es X.env).length+1=is.length+1;rw[B]
   ·show((false,assign (.Name x p) X.env)::assignEach es X.env).findIdx? (·.1)=none;rw[List.findIdx?_cons,C];rfl
  ·cases h1
theorem q8M(g:Good sg G F X E){tgE:Expr}(h:tgOk sg tg tgE=true):PG X tgE (gT X.K tg):=by
 cases tg with
 | one i=>
  unfold tgOk at h;dsimp only at h;split at h
  ·rename_i x q;obtain⟨p,rfl⟩:=q0q q;simp only[Bool.and_eq_true,beq_iff_eq]at h;have l:=g.loc x h.2;exact q9e g.nd (by rw[g.N];exact h.1) l.1 l.2
  ·cases h
 | many is=>
  unfold tgOk at h;dsimp only at h;split at h
  ·rename_i es q;obtain⟨k,p,rfl⟩:=q2D q;rw[Bool.and_eq_true,Bool.and_eq_true,beq_iff_eq]at h;obtain⟨A,B,C⟩:=q6g g is es h.1.1 h.2;exact z5q g.calm A B C
  ·cases h
end
section
variable (G:Gs) (F:Nat->List DV->Option Ou)
def SE(m:ME):Prop:=∀{sg:Sg} {X:Cx} {E:St->XK} {e:Expr} {δ:List Sv} {r:Re},Good sg G F X E->corE sg false m e=true->evE G F m δ=some r->PE X e (dE X.D E δ r)
def ST(m:ME):Prop:=∀{sg:Sg} {X:Cx} {E:St->XK} {e:Expr} {δ:List Sv} {r:Rt},Good sg G F X E->corE sg false m e=true->tstD (evE G F m δ)=some r->PT X e (dT X.D E δ r)
def SI(m:ME):Prop:=∀{sg:Sg} {X:Cx} {E:St->XK} {e tg:Expr} {δ:List Sv} {r:Ri},Good sg G F X E->corE sg true m e=true->(isZp m=true->(q2S tg).isSome=true)->q0A (evE G F m δ)=some r->PI X tg e (dI X.D E δ r)
def SEs(ms:List ME):Prop:=∀{sg:Sg} {X:Cx} {E:St->XK} {es:List Expr} {δ:List Sv} {r:Rs},Good sg G F X E->q0Z sg ms es=true->evEs G F ms δ=some r->PA X es (dA X.D E δ r)
def SAnd(ms:List ME):Prop:=∀{sg:Sg} {X:Cx} {E:St->XK} {es:List Expr} {δ:List Sv} {pos:Pos},Good sg G F X E->q0Z sg ms es=true ->
 (∀r,q3H G F ms δ=some r->PE X (.BoolOp .And es pos) (dE X.D E δ r))/\(∀r,tstD (q3H G F ms δ)=some r->PW X (.BoolOp .And es pos) (dT X.D E δ r))
def SOr(ms:List ME):Prop:=∀{sg:Sg} {X:Cx} {E:St->XK} {es:List Expr} {δ:List Sv} {pos:Pos},Good sg G F X E->q0Z sg ms es=true ->
 (∀r,evOr G F ms δ=some r->PE X (.BoolOp .Or es pos) (dE X.D E δ r))/\(∀r,tstD (evOr G F ms δ)=some r->PW X (.BoolOp .Or es pos) (dT X.D E δ r))
def S1(m:ME):Prop:=SE G F m/\ST G F m/\SI G F m
end
section
variable {G:Gs} {F:Nat->List DV->Option Ou}
theorem S1.of{m:ME}(h:SE G F m)(hw:∀sg e,corE sg true m e=corE sg false m e)(ht:∀sg e env,corE sg false m e=true->∀whole,isTrue e env whole=(do let v ←whole;standAt e.pos;holding [v] (truthy v))):S1 G F m:=
 ⟨h,λ{sg X E e δ r} g hc q=>z0G (λz hz=>h g hc hz) (ht sg e X.env hc) q,λ{sg X E e tg δ r} g hc _ q=>q7y (λz hz=>h g (by rw[←hw];exact hc) hz) q⟩
theorem S1.of2{m:ME}(h:SE G F m)(ht:ST G F m)(hw:∀sg e,corE sg true m e=corE sg false m e):S1 G F m:=
 ⟨h,ht,λ{sg X E e tg δ r} g hc _ q=>q7y (λz hz=>h g (by rw[←hw];exact hc) hz) q⟩
end
end L2
end
noncomputable section
namespace L2
open PySem PySem.Spec PyProof.Rows
def z6i:Expr->Bool
 | .UnaryOp .Not _ _=>false | .BoolOp _ _ _=>false | .IfExp _ _ _ _=>false | .Compare _ _ _ _=>false
 | _=>true
theorem q0g{e:Expr}(h:z6i e=true)(env:Env):∀whole,isTrue e env whole=(do let v ←whole;standAt e.pos;holding [v] (truthy v)):=by
 cases e with
 | UnaryOp o a p=>cases o<;>first | (intro _;rfl) | cases h
 | BoolOp _ _ _=>cases h
 | IfExp _ _ _ _=>cases h
 | Compare _ _ _ _=>cases h
 | _=>intro _;rfl
section
variable {G:Gs} {F:Nat->List DV->Option Ou} {a b c:ME}
theorem z8E{i:Nat}:S1 G F (.var i):=by
 refine .of (λ{sg X E e δ r} g hc h=>?_) (λ_ _=>rfl) (λsg e env hc=>?_)
 ·unfold corE at hc;split at hc
  ·rename_i x q;obtain⟨p,rfl⟩:=q0q q;obtain⟨h1,h2,h3,h4⟩:=q3V g hc;exact z2Z h1 h2 h3 h4 (by unfold evE at h;exact h)
  ·cases hc
 ·unfold corE at hc;split at hc
  ·rename_i x q;obtain⟨p,rfl⟩:=q0q q;exact q0g rfl env
  ·cases hc
theorem q5k{m:ME}{k:Const}{d:DV}(hm:∀sg w e,corE sg w m e=true->q2j e=some k)(he:∀δ,evE G F m δ=some (.ok d .strong))(hw:∀sg e,corE sg true m e=corE sg false m e)
  (hp:∀{X:Cx} {E:St->XK} {δ:List Sv} {j:Nat} {pos:Pos} sg e,corE sg false m e=true->PE X (.Constant k j pos) (dE X.D E δ (.ok d .strong))):S1 G F m:=by
 refine .of (λ{sg X E e δ r} g hc h=>?_) hw (λsg e env hc=>?_)
 ·obtain⟨j,p,rfl⟩:=q2H (hm sg false e hc);rw[he]at h;cases h;exact hp sg _ hc
 ·obtain⟨j,p,rfl⟩:=q2H (hm sg false e hc);exact q0g rfl env
theorem z8J{i:Int}:S1 G F (.int i):=q5k (λsg w e h=>by unfold corE at h;exact beq_iff_eq.mp h) (λδ=>by unfold evE;rfl) (λ_ _=>rfl) λ_ _ _=>z3L
theorem s_bl{i:Bool}:S1 G F (.bl i):=q5k (λsg w e h=>by unfold corE at h;exact beq_iff_eq.mp h) (λδ=>by unfold evE;rfl) (λ_ _=>rfl) λ_ _ _=>z7s
theorem z8k:S1 G F .non:=q5k (λsg w e h=>by unfold corE at h;exact beq_iff_eq.mp h) (λδ=>by unfold evE;rfl) (λ_ _=>rfl) λ_ _ _=>z4W
theorem z7F{i:Str}:S1 G F (.str i):=q5k (λsg w e h=>by unfold corE at h;rw[Bool.and_eq_true]at h;exact beq_iff_eq.mp h.1) (λδ=>by unfold evE;rfl) (λ_ _=>rfl) λ_ _ h=>by
 unfold corE at h;rw[Bool.and_eq_true,decide_eq_true_eq]at h;exact z2Y (Nat.le_trans h.2 (by decide))
theorem z8W{x:Str}:S1 G F (.glb x):=by
 refine .of (λ{sg X E e δ r} g hc h=>?_) (λ_ _=>rfl) (λsg e env hc=>?_)
 ·unfold corE at hc;simp only[Bool.and_eq_true,beq_iff_eq,bne_iff_ne,ne_eq]at hc;obtain⟨p,rfl⟩:=q0q hc.1.1;unfold evE at h;obtain⟨d,h1,h2⟩:=Option.map_eq_some_iff.mp h;cases h2;obtain⟨u,v,m,rv,rp⟩:=g.con x d h1;exact(z0d (g.glo x hc.1.2) m rv (beq_eq_false_iff_ne.mpr hc.2)).weak λσ H Q ⟨O,W,R,p⟩=>p v H (Same.refl H) (rp _)
 ·unfold corE at hc;simp only[Bool.and_eq_true,beq_iff_eq]at hc;obtain⟨p,rfl⟩:=q0q hc.1.1;exact q0g rfl env
theorem z7H{op:Operator}(ha:S1 G F a)(hb:S1 G F b):S1 G F (.bin op a b):=by
 refine .of (λ{sg X E e δ r} g hc h=>?_) (λ_ _=>rfl) (λsg e env hc=>?_)
 ·unfold corE at hc;split at hc
  ·rename_i ea o eb q;obtain⟨p,rfl⟩:=q5a q;simp only[Bool.and_eq_true,beq_iff_eq]at hc;obtain⟨⟨h1,h2⟩,h3⟩:=hc;subst h1;unfold evE at h;exact z3f (λz hz=>ha.1 g h2 hz) (λz hz=>hb.1 g h3 hz) h
  ·cases hc
 ·unfold corE at hc;split at hc
  ·rename_i q;obtain⟨p,rfl⟩:=q5a q;exact q0g rfl env
  ·cases hc
theorem z7O(ha:S1 G F a):S1 G F (.neg a):=by
 refine .of (λ{sg X E e δ r} g hc h=>?_) (λ_ _=>rfl) (λsg e env hc=>?_)
 ·unfold corE at hc;split at hc
  ·rename_i o ea q;obtain⟨p,rfl⟩:=q5d q;simp only[Bool.and_eq_true,beq_iff_eq]at hc;obtain⟨h1,h2⟩:=hc;subst h1;unfold evE at h;exact z2T (λz hz=>ha.1 g h2 hz) h
  ·cases hc
 ·unfold corE at hc;split at hc
  ·rename_i q;obtain⟨p,rfl⟩:=q5d q;simp only[Bool.and_eq_true,beq_iff_eq]at hc;obtain⟨h1,h2⟩:=hc;subst h1;exact q0g rfl env
  ·cases hc
theorem z8X(ha:S1 G F a):S1 G F (.not a):=by
 refine .of2 (λ{sg X E e δ r} g hc h=>?_) (λ{sg X E e δ r} g hc h=>?_) (λ_ _=>rfl)
 ·unfold corE at hc;split at hc
  ·rename_i o ea q;obtain⟨p,rfl⟩:=q5d q;simp only[Bool.and_eq_true,beq_iff_eq]at hc;obtain⟨h1,h2⟩:=hc;subst h1;unfold evE at h;exact z3I (λz hz=>ha.1 g h2 hz) h
  ·cases hc
 ·unfold corE at hc;split at hc
  ·rename_i o ea q;obtain⟨p,rfl⟩:=q5d q;simp only[Bool.and_eq_true,beq_iff_eq]at hc;obtain⟨h1,h2⟩:=hc;subst h1;unfold evE at h;exact z1L (λz hz=>ha.2.1 g h2 hz) h
  ·cases hc
theorem z7M{op:CmpOp}(ha:S1 G F a)(hb:S1 G F b):S1 G F (.cmp op a b):=by
 refine .of2 (λ{sg X E e δ r} g hc h=>?_) (λ{sg X E e δ r} g hc h=>?_) (λ_ _=>rfl)
 ·unfold corE at hc;split at hc
  ·rename_i ea o eb q;obtain⟨p,rfl⟩:=q3J q;simp only[Bool.and_eq_true,beq_iff_eq,Bool.not_eq_true']at hc;obtain⟨⟨⟨h1,h2⟩,h3⟩,h4⟩:=hc;subst h1;unfold evE at h;exact z4d g.hu (λz hz=>ha.1 g h2 hz) (λz hz=>hb.1 g h3 hz) h4 h
  ·cases hc
 ·unfold corE at hc;split at hc
  ·rename_i ea o eb q;obtain⟨p,rfl⟩:=q3J q;simp only[Bool.and_eq_true,beq_iff_eq,Bool.not_eq_true']at hc;obtain⟨⟨⟨h1,h2⟩,h3⟩,h4⟩:=hc;subst h1;unfold evE at h;exact z1r g.hu (λz hz=>ha.1 g h2 hz) (λz hz=>hb.1 g h3 hz) h4 h
  ·cases hc
theorem z2M{op op':CmpOp}(ha:S1 G F a)(hb:S1 G F b)(hcc:S1 G F c):S1 G F (.chain op op' a b c):=by
 refine .of2 (λ{sg X E e δ r} g hc h=>?_) (λ{sg X E e δ r} g hc h=>?_) (λ_ _=>rfl)
 ·unfold corE at hc;split at hc
  ·rename_i ea o o' eb ec q;obtain⟨p,rfl⟩:=q3J q;simp only[Bool.and_eq_true,beq_iff_eq,Bool.not_eq_true']at hc;obtain⟨⟨⟨⟨⟨h1,h1'⟩,h2⟩,h3⟩,h4⟩,h5⟩:=hc;subst h1 h1';unfold evE at h;exact q9q g.hu (λz hz=>ha.1 g h2 hz) (λz hz=>hb.1 g h3 hz) (λz hz=>hcc.1 g h4 hz) h5 h
  ·cases hc
 ·unfold corE at hc;split at hc
  ·rename_i ea o o' eb ec q;obtain⟨p,rfl⟩:=q3J q;simp only[Bool.and_eq_true,beq_iff_eq,Bool.not_eq_true']at hc;obtain⟨⟨⟨⟨⟨h1,h1'⟩,h2⟩,h3⟩,h4⟩,h5⟩:=hc;subst h1 h1';unfold evE at h;exact q8j g.hu (λz hz=>ha.1 g h2 hz) (λz hz=>hb.1 g h3 hz) (λz hz=>hcc.1 g h4 hz) h5 h
  ·cases hc
theorem s_ix(ha:S1 G F a)(hb:S1 G F b):S1 G F (.ix a b):=by
 refine .of (λ{sg X E e δ r} g hc h=>?_) (λ_ _=>rfl) (λsg e env hc=>?_)
 ·unfold corE at hc;split at hc
  ·rename_i ea eb q;obtain⟨p,rfl⟩:=q1u q;simp only[Bool.and_eq_true,Bool.not_eq_true']at hc;obtain⟨⟨h1,h2⟩,h3⟩:=hc;unfold evE at h;exact z7w (λz hz=>ha.1 g h1 hz) (λz hz=>hb.1 g h2 hz) h3 h
  ·cases hc
 ·unfold corE at hc;split at hc
  ·rename_i q;obtain⟨p,rfl⟩:=q1u q;exact q0g rfl env
  ·cases hc
theorem s_sl(ha:S1 G F a)(hb:S1 G F b)(hcc:S1 G F c):S1 G F (.sl a b c):=by
 refine .of (λ{sg X E e δ r} g hc h=>?_) (λ_ _=>rfl) (λsg e env hc=>?_)
 ·unfold corE at hc;split at hc
  ·rename_i ea es q;obtain⟨p,rfl⟩:=q1u q;split at hc
   ·rename_i q2;obtain⟨p2,rfl⟩:=q4L q2;simp only[Bool.and_eq_true]at hc;obtain⟨⟨h1,h2⟩,h3⟩:=hc;unfold evE at h;exact z6n (λz hz=>ha.1 g h1 hz) (λz hz=>hb.1 g h2 hz) (λz hz=>hcc.1 g h3 hz) h
   ·cases hc
  ·cases hc
 ·unfold corE at hc;split at hc
  ·rename_i q;obtain⟨p,rfl⟩:=q1u q;exact q0g rfl env
  ·cases hc
theorem z7J(ha:S1 G F a)(hb:S1 G F b):S1 G F (.slt a b):=by
 refine .of (λ{sg X E e δ r} g hc h=>?_) (λ_ _=>rfl) (λsg e env hc=>?_)
 ·unfold corE at hc;split at hc
  ·rename_i ea es q;obtain⟨p,rfl⟩:=q1u q;split at hc
   ·rename_i q2;obtain⟨p2,rfl⟩:=q4L q2;simp only[Bool.and_eq_true]at hc;obtain⟨h1,h2⟩:=hc;unfold evE at h;exact z4P (λz hz=>ha.1 g h1 hz) (λz hz=>hb.1 g h2 hz) h
   ·cases hc
  ·cases hc
 ·unfold corE at hc;split at hc
  ·rename_i q;obtain⟨p,rfl⟩:=q1u q;exact q0g rfl env
  ·cases hc
variable {ms:List ME}
theorem q4q:∀{sg:Sg} {ms:List ME} {es:List Expr},q0Z sg ms es=true->es.any q0j=false
 | _,[],[],_=>rfl
 | _,[],_::_,h=>by unfold q0Z at h;cases h
 | _,_::_,[],h=>by unfold q0Z at h;cases h
 | sg,m::ms,e::es,h=>by unfold q0Z at h;simp only[Bool.and_eq_true,Bool.not_eq_true']at h;rw[List.any_cons,h.1.2,q4q h.2];rfl
theorem z7V(ha:SEs G F ms):S1 G F (.lst ms):=by
 refine .of (λ{sg X E e δ r} g hc h=>?_) (λ_ _=>rfl) (λsg e env hc=>?_)
 ·unfold corE at hc;split at hc
  ·rename_i es q;obtain⟨p,rfl⟩:=q5E q;unfold evE at h;exact z4X (λz hz=>ha g hc hz) h
  ·cases hc
 ·unfold corE at hc;split at hc
  ·rename_i q;obtain⟨p,rfl⟩:=q5E q;exact q0g rfl env
  ·cases hc
theorem z8D(ha:SEs G F ms):S1 G F (.tup ms):=by
 refine .of (λ{sg X E e δ r} g hc h=>?_) (λ_ _=>rfl) (λsg e env hc=>?_)
 ·unfold corE at hc;split at hc
  ·rename_i es q;obtain⟨k,p,rfl⟩:=q2D q;unfold evE at h;exact z3e (λz hz=>ha g hc hz) h
  ·cases hc
 ·unfold corE at hc;split at hc
  ·rename_i q;obtain⟨k,p,rfl⟩:=q2D q;exact q0g rfl env
  ·cases hc
theorem z7x{f:Nat}(ha:SEs G F ms):S1 G F (.call f ms):=by
 refine .of (λ{sg X E e δ r} g hc h=>?_) (λ_ _=>rfl) (λsg e env hc=>?_)
 ·unfold corE at hc;split at hc
  ·rename_i ef es pos q;have:=q0u q;subst this;rw[Bool.and_eq_true,Bool.and_eq_true]at hc;obtain⟨⟨h1,h2⟩,h3⟩:=hc;split at h1
   ·rename_i x qx;obtain⟨p,rfl⟩:=q0q qx;simp only[Bool.and_eq_true,beq_iff_eq,bne_iff_ne,ne_eq]at h1;obtain⟨k,fa,fd,ps,hr,hm,hk,hb,hl,fo,dk⟩:=g.fns f x h1.1.1;cases es with
    | nil=>cases h2
    | cons y ys=>
     have ns:=q4q h3;rw[List.any_cons,Bool.or_eq_false_iff]at ns;unfold evE at h;exact z2a fo hl hr (g.glo x h1.1.2) hm hk hb g.pas (λz hz=>ha g h3 hz) (beq_eq_false_iff_ne.mpr h1.2) ns.1 ns.2 h
   ·cases h1
  ·cases hc
 ·unfold corE at hc;split at hc
  ·rename_i q;have:=q0u q;subst this;exact q0g rfl env
  ·cases hc
theorem s_bi{f:Bi}(ha:SEs G F ms):S1 G F (.bi f ms):=by
 refine .of (λ{sg X E e δ r} g hc h=>?_) (λ_ _=>rfl) (λsg e env hc=>?_)
 ·unfold corE at hc;split at hc
  ·rename_i ef es pos q;have:=q0u q;subst this;rw[Bool.and_eq_true,Bool.and_eq_true]at hc;obtain⟨⟨h1,h2⟩,h3⟩:=hc;obtain⟨⟨p,rfl⟩,hg,hm⟩:=q4S g h1;unfold evE at h;cases es with
   | nil=>cases h2
   | cons y ys=>
    have go:q0Z sg ms (y::ys)=true->(∀q,evEs G F ms δ=some q->PA X (y::ys) (dA X.D E δ q))/\q0j y=false/\ys.any q0j=false:=λz=>by have ns:=q4q z;rw[List.any_cons,Bool.or_eq_false_iff]at ns;exact⟨λw hw=>ha g z hw,ns.1,ns.2⟩
    cases f with
    | len=>obtain⟨A,s1,s2⟩:=go h3;exact q6a z7b z4H hg hm boot_len (by decide) (by decide) A s1 s2 h
    | min=>obtain⟨A,s1,s2⟩:=go h3;exact q6a (z5g g.calm (by have:=g.hu;omega)) z4i hg hm boot_min (by decide) (by decide) A s1 s2 h
    | max=>obtain⟨A,s1,s2⟩:=go h3;exact q6a (z6u g.calm) z3C hg hm boot_max (by decide) (by decide) A s1 s2 h
    | sum=>obtain⟨A,s1,s2⟩:=go h3;exact q6a (z6Y g.calm) z4o hg hm z0M (by decide) (by decide) A s1 s2 h
    | any=>obtain⟨A,s1,s2⟩:=go h3;exact q6a (z6r g.calm) z3K hg hm q8V (by decide) (by decide) A s1 s2 h
    | list=>obtain⟨A,s1,s2⟩:=go h3;exact q6w z2N z1k hg hm boot_list (by decide) (by decide) A s1 s2 h
    | lsti=>obtain⟨A,s1,s2⟩:=go h3;exact q6w z2X z1N hg hm boot_list (by decide) (by decide) A s1 s2 h
    | tuple=>obtain⟨A,s1,s2⟩:=go h3;exact q6w z1E z0l hg hm boot_tuple (by decide) (by decide) A s1 s2 h
  ·cases hc
 ·unfold corE at hc;split at hc
  ·rename_i q;have:=q0u q;subst this;exact q0g rfl env
  ·cases hc
theorem q9o{x:Str}(h:q2x.contains x=true):∃t,q4P x=some t:=by
 have key:∀x∈q2x,∃t,q4P x=some t:=by
  intro x hx;simp only[q2x,List.mem_cons,List.not_mem_nil,or_false]at hx;rcases hx with rfl | rfl | rfl | rfl | rfl | rfl
  ·exact⟨"int",by decide +kernel⟩
  ·exact⟨"bool",by decide +kernel⟩
  ·exact⟨"str",by decide +kernel⟩
  ·exact⟨"list",by decide +kernel⟩
  ·exact⟨"tuple",by decide +kernel⟩
  ·exact⟨"dict",by decide +kernel⟩
 exact key x (List.contains_iff_mem.mp h)
theorem q5s:∀x∈q2x,x ≠ "__name__" /\ (x==("__debug__" : Str))=false:=by
 intro x hx;simp only[q2x,List.mem_cons,List.not_mem_nil,or_false]at hx;rcases hx with rfl | rfl | rfl | rfl | rfl | rfl<;>exact⟨by decide +kernel,by decide +kernel⟩
def z7K:V->List V->Hp->VK->Prop:=λx xs H Q=>∃i,x=.int i/\xs=[]/\Q (.int (q2M i)) H
theorem z4Q(i:Int):((Builtin.Int.intBits i:Nat):Int)=q2M i:=by
 unfold Builtin.Int.intBits q2M;by_cases h:i=0
 ·subst h;rfl
 ·rw[if_neg (by simpa using h),if_neg h];push_cast;rfl
theorem z4L{X:Cx}:MtR X "int.bit_length" z7K:=by
 intro pins s σ H x xs v us Q I rx rv h;obtain⟨i,rfl,rfl,q⟩:=h;obtain⟨t,rfl⟩:=(show ∃t,v=Value.int i t from rx);cases rv;exact PyProof.Rows.call_int_bit_length ⟨.int (q2M i),H,I.tok _,by rw[←z4Q];exact⟨_,rfl⟩,q⟩
theorem z5F{m:Mt}{es:List ME}(ha:S1 G F a):S1 G F (.meth m a es):=by
 refine .of (λ{sg X E e δ r} g hc h=>?_) (λ_ _=>rfl) (λsg e env hc=>?_)
 ·unfold corE at hc;split at hc
  ·rename_i ef pos q;have:=q0u q;subst this;split at hc
   ·rename_i ea n apos q2;have:=q3e q2;subst this;simp only[Bool.and_eq_true,beq_iff_eq]at hc;obtain⟨⟨⟨⟨h1,h2⟩,h3⟩,h4⟩,h5⟩:=hc;subst h1;have hbs:attributeBase ea (z2d m) X.env (eval ea X.env)=eval ea X.env:=by
     rw[Bool.or_eq_true]at h3;rcases h3 with h3 | h3
     ·obtain⟨y,hy⟩:=Option.isSome_iff_exists.mp h3;obtain⟨np,rfl⟩:=q0q hy;rfl
     ·obtain⟨⟨a1,o1,b1⟩,hy⟩:=Option.isSome_iff_exists.mp h3;obtain⟨np,rfl⟩:=q5a hy;rfl
    unfold evE at h;cases m with
    | bitLength=>
     rw[if_pos rfl]at h;have P:=λt (hA:PE X ea t)=>z2p (apos:=apos) (cpos:=pos) PySem.F.plainAttrs_int PySem.F.slot_int_bit_length PySem.F.type_int_bit_length z4L hA hbs (by rw[beq_iff_eq];exact h4)
     cases hra:evE G F a δ with
     | none=>rw[hra]at h;cases h
     | some q=>
      rw[hra]at h;have A:=ha.1 g h2 hra;cases q with
      | ex c=>cases h;exact(P _ A).weak λσ H Q ⟨O,W,R,p⟩=>⟨O,W,R,p⟩
      | ok d dc=>
       have h':mtD .bitLength d=some r:=h;unfold mtD at h';split at h'
       ·rename_i i _;cases h';exact(P _ A).weak λσ H Q ⟨O,W,R,p⟩=>⟨O,W,R,λv H1 s1 g1=>by
         have hv:=g1.int (R.hid.mono s1);subst hv;exact⟨rfl,i,rfl,rfl,p _ H1 s1 q0y⟩⟩
       ·cases h'
    | index=>rw[if_neg (by decide)]at h;cases h
    | get=>rw[if_neg (by decide)]at h;cases h
   ·cases hc
  ·cases hc
 ·unfold corE at hc;split at hc
  ·rename_i q;have:=q0u q;subst this;exact q0g rfl env
  ·cases hc
theorem z8b{t:Str}(ha:S1 G F a):S1 G F (.isx a t):=by
 refine .of (λ{sg X E e δ r} g hc h=>?_) (λ_ _=>rfl) (λsg e env hc=>?_)
 ·unfold corE at hc;split at hc
  ·rename_i ef ea et pos q;have:=q0u q;subst this;simp only[Bool.and_eq_true,Bool.not_eq_true',beq_iff_eq,Bool.or_eq_true,List.contains_iff_mem,bne_iff_ne,ne_eq]at hc;obtain⟨⟨⟨⟨⟨⟨h1,h2⟩,h3⟩,h4⟩,h5⟩,h6⟩,h7⟩:=hc;obtain⟨⟨p,rfl⟩,hg,hm⟩:=q4S g h1;obtain⟨p',rfl⟩:=q0q h5;unfold evE at h;refine z3G g.xf hg hm (g.glo t h6) ?_ (λz hz=>ha.1 g h2 hz) h3 h;rcases h7 with⟨k1,k2⟩ | ⟨k1,k2⟩
   ·exact .inl ⟨k1,beq_eq_false_iff_ne.mpr k2⟩
   ·refine .inr ⟨g.blt t k1,?_⟩;simp only[z0E,List.mem_cons,List.not_mem_nil,or_false]at k2;exact k2
  ·cases hc
 ·unfold corE at hc;split at hc
  ·rename_i q;have:=q0u q;subst this;exact q0g rfl env
  ·cases hc
theorem z8A:S1 G F .dc0:=by
 refine .of (λ{sg X E e δ r} g hc h=>?_) (λ_ _=>rfl) (λsg e env hc=>?_)
 ·unfold corE at hc;split at hc
  ·unfold evE at h;cases h;exact z3w
  ·cases hc
 ·unfold corE at hc;split at hc
  ·exact q0g rfl env
  ·cases hc
theorem z8F{ts:List Str}(ha:S1 G F a):S1 G F (.isi a ts):=by
 refine .of (λ{sg X E e δ r} g hc h=>?_) (λ_ _=>rfl) (λsg e env hc=>?_)
 ·unfold corE at hc;split at hc
  ·rename_i ef ea et pos q;have:=q0u q;subst this;simp only[Bool.and_eq_true,Bool.not_eq_true']at hc;obtain⟨⟨⟨⟨h1,h2⟩,h3⟩,h4⟩,h5⟩:=hc;obtain⟨⟨p,rfl⟩,hg,hm⟩:=q4S g h1;split at h5
   ·rename_i t;simp only[Bool.and_eq_true,beq_iff_eq,List.contains_iff_mem]at h5;obtain⟨⟨⟨k1,k2⟩,k3⟩,k4⟩:=h5;obtain⟨p',rfl⟩:=q0q k1;obtain⟨T,hT⟩:=q9o (List.contains_iff_mem.mpr k4);obtain⟨n1,n2⟩:=q5s t k4;unfold evE at h;exact z3l hT hg hm (g.glo t k2) (g.blt t k3) n1 n2 (λz hz=>ha.1 g h2 hz) h3 h
   ·cases h5
  ·cases hc
 ·unfold corE at hc;split at hc
  ·rename_i q;have:=q0u q;subst this;exact q0g rfl env
  ·cases hc
theorem q2q:∀{ms:List ME} {δ:List Sv} {l:List (DV×Cl)},evEs G F ms δ=some (.ok l)->l.length=ms.length
 | [],_,_,h=>by unfold evEs at h;cases h;rfl
 | m::ms,δ,l,h=>by
  unfold evEs at h;split at h
  ·cases h
  ·cases h
  ·split at h
   ·cases h
   ·cases h
   ·rename_i l' q;cases h;rw[List.length_cons,List.length_cons,q2q q]
theorem q3z:∀{sg:Sg} {ms:List ME} {es:List Expr},q0Z sg ms es=true->ms.length=es.length
 | _,[],[],_=>rfl
 | _,[],_::_,h=>by unfold q0Z at h;cases h
 | _,_::_,[],h=>by unfold q0Z at h;cases h
 | sg,m::ms,e::es,h=>by unfold q0Z at h;simp only[Bool.and_eq_true]at h;rw[List.length_cons,List.length_cons,q3z h.2]
theorem z7S(ha:SEs G F ms):S1 G F (.rng ms):=by
 refine⟨λ{sg X E e δ r} g hc h=>?_,λ{sg X E e δ r} g hc h=>?_,λ{sg X E e tg δ r} g hc _ h=>?_⟩
 ·unfold corE at hc;rw[Bool.false_and]at hc;cases hc
 ·unfold corE at hc;rw[Bool.false_and]at hc;cases hc
 ·unfold corE at hc;rw[Bool.true_and]at hc;split at hc
  ·rename_i ef es pos q;have:=q0u q;subst this;rw[Bool.and_eq_true,decide_eq_true_eq]at hc;obtain⟨hc,hle⟩:=hc;rw[Bool.and_eq_true]at hc;obtain⟨⟨p,rfl⟩,hg,hm⟩:=q4S g hc.1;have l1:=q3z hc.2;have ns:=q4q hc.2;unfold evE at h;cases es with
   | nil=>
    exfalso;cases ms with
    | nil=>unfold evEs at h;cases h
    | cons _ _=>cases l1
   | cons y ys=>
    rw[List.any_cons,Bool.or_eq_false_iff]at ns;cases ys with
    | nil=>exact q8l hg hm (λz hz=>ha g hc.2 hz) ns.1 h λl hl=>by rw[q2q hl,l1];rfl
    | cons z zs=>
     cases zs with
     | nil=>
      have ns2:=ns.2;rw[List.any_cons,Bool.or_eq_false_iff]at ns2;exact q7R hg hm (λz hz=>ha g hc.2 hz) ns.1 ns2.1 h λl hl=>by rw[q2q hl,l1];rfl
     | cons u us=>
      cases us with
      | nil=>
       have ns2:=ns.2;rw[List.any_cons,Bool.or_eq_false_iff]at ns2;have ns3:=ns2.2;rw[List.any_cons,Bool.or_eq_false_iff]at ns3;exact q7X hg hm (λz hz=>ha g hc.2 hz) ns.1 ns2.1 ns3.1 h λl hl=>by rw[q2q hl,l1];rfl
      | cons _ _=>simp at hle
  ·cases hc
theorem s_zp(ha:S1 G F a)(hb:S1 G F b):S1 G F (.zp a b):=by
 refine⟨λ{sg X E e δ r} g hc h=>?_,λ{sg X E e δ r} g hc h=>?_,λ{sg X E e tg δ r} g hc ht h=>?_⟩
 ·unfold corE at hc;rw[Bool.false_and]at hc;cases hc
 ·unfold corE at hc;rw[Bool.false_and]at hc;cases hc
 ·unfold corE at hc;rw[Bool.true_and]at hc;split at hc
  ·rename_i ef ea eb pos q;have:=q0u q;subst this;simp only[Bool.and_eq_true,Bool.not_eq_true']at hc;obtain⟨⟨⟨⟨h1,h2⟩,h3⟩,h4⟩,h5⟩:=hc;obtain⟨⟨p,rfl⟩,hg,hm⟩:=q4S g h1;have t:=ht rfl;cases q2:q2S tg with
   | none=>rw[q2]at t;cases t
   | some elts=>
    obtain⟨k,tp,rfl⟩:=q2D q2;unfold evE at h;exact z4J hg hm h4 h5 (λz hz=>ha.1 g h2 hz) (λz hz=>hb.1 g h3 hz) h
  ·cases hc
theorem z8Z(ha:S1 G F a):S1 G F (.enu a):=by
 refine⟨λ{sg X E e δ r} g hc h=>?_,λ{sg X E e δ r} g hc h=>?_,λ{sg X E e tg δ r} g hc ht h=>?_⟩
 ·unfold corE at hc;rw[Bool.false_and]at hc;cases hc
 ·unfold corE at hc;rw[Bool.false_and]at hc;cases hc
 ·unfold corE at hc;rw[Bool.true_and]at hc;split at hc
  ·rename_i ef ea pos q;have:=q0u q;subst this;simp only[Bool.and_eq_true,Bool.not_eq_true']at hc;obtain⟨⟨h1,h2⟩,h3⟩:=hc;obtain⟨⟨p,rfl⟩,hg,hm⟩:=q4S g h1;have t:=ht rfl;cases q2:q2S tg with
   | none=>rw[q2]at t;cases t
   | some elts=>
    obtain⟨k,tp,rfl⟩:=q2D q2;unfold evE at h;exact z1M hg hm h3 (λz hz=>ha.1 g h2 hz) h
  ·cases hc
theorem z4V{sg:Sg}{X:Cx}{E:St->XK}{e:Expr}{δ:List Sv}{r:Re}{tg:Tg}{fr:List (Option Nat)}{cp:CParts}{tn:List Str}(ha:S1 G F a)(hb:S1 G F b)(g:Good sg G F X E)(hemp:cp.ifs=[])
  (h2:corE sg true b cp.it=true) (hz:isZp b=true->(q2S cp.tg).isSome=true) (h4:q3a sg (q1s sg tn fr) fr cp.sc tg=true) (h5:tgOk ⟨q1s sg tn fr,cp.sc.names,sg.fn,sg.bl,sg.cl,false,true⟩ tg cp.tg=true) (h6:corE ⟨q1s sg tn fr,cp.sc.names,sg.fn,sg.bl,sg.cl,false,true⟩ false a cp.elt=true)
  (h:evE G F (.comp a tg b fr) δ=some r):q1o X E δ cp.tg cp.it cp.ifs cp.elt cp.sc (q1s sg tn fr) fr tg r:=by
 obtain⟨S,nd,sl⟩:=q1E g h4;rw[hemp];unfold evE at h;exact q4x S g.calm nd sl (λz hz'=>hb.2.2 g h2 hz hz') (λC cells s₂ H₂ fp=>q8M (q1I g h4 C cells s₂ H₂ fp) h5) (λδ' r' hr C cells s₂ H₂ fp=>ha.1 (q1I g h4 C cells s₂ H₂ fp) h6 hr) h
theorem z1p{sg:Sg}{X:Cx}{E:St->XK}{e cd:Expr}{δ:List Sv}{r:Re}{tg:Tg}{fr:List (Option Nat)}{cp:CParts}{tn:List Str}(ha:S1 G F a)(hb:S1 G F b)(hcc:S1 G F c)(g:Good sg G F X E)(hemp:cp.ifs=[cd])
  (h2:corE sg true b cp.it=true) (hz:isZp b=true->(q2S cp.tg).isSome=true) (h4:q3a sg (q1s sg tn fr) fr cp.sc tg=true) (h5:tgOk ⟨q1s sg tn fr,cp.sc.names,sg.fn,sg.bl,sg.cl,false,true⟩ tg cp.tg=true) (h6:corE ⟨q1s sg tn fr,cp.sc.names,sg.fn,sg.bl,sg.cl,false,true⟩ false a cp.elt=true)
  (h7:corE ⟨q1s sg tn fr,cp.sc.names,sg.fn,sg.bl,sg.cl,false,true⟩ false c cd=true) (h:evE G F (.compi a tg b c fr) δ=some r):q1o X E δ cp.tg cp.it cp.ifs cp.elt cp.sc (q1s sg tn fr) fr tg r:=by
 obtain⟨S,nd,sl⟩:=q1E g h4;rw[hemp];unfold evE at h;exact q4w S g.calm nd sl (λz hz'=>hb.2.2 g h2 hz hz') (λC cells s₂ H₂ fp=>q8M (q1I g h4 C cells s₂ H₂ fp) h5) (λδ' r' hr C cells s₂ H₂ fp=>ha.1 (q1I g h4 C cells s₂ H₂ fp) h6 hr)
  (λδ' r' hr C cells s₂ H₂ fp=>hcc.2.1 (q1I g h4 C cells s₂ H₂ fp) h7 hr) h
def q3Y(G:Gs)(F:Nat->List DV->Option Ou)(m:ME):Prop:=∀{sg:Sg} {X:Cx} {E:St->XK} {e:Expr} {δ:List Sv} {r:Re},Good sg G F X E->corE sg false m e=true->evE G F m δ=some r ->
 ∃(cp:CParts) (N':List Str) (fr:List (Option Nat)) (tg:Tg) (p:Pos),e=.ListComp cp.elt [⟨cp.tg,cp.it,cp.ifs,0⟩] cp.sc p/\CompScope X.N N' cp.sc X.env.scope fr/\q1o X E δ cp.tg cp.it cp.ifs cp.elt cp.sc N' fr tg r /\
  (∀C cells s₂ H₂ fp,PG (q0x X cp.sc N' C cells s₂ H₂ fp) cp.tg (gT X.K tg))/\q2L cp.it=false
theorem q3Y.s1{m:ME}(h:q3Y G F m)(hw:∀sg e,corE sg true m e=corE sg false m e)(hl:∀sg e,corE sg false m e=true->(q4J e).isSome=true):S1 G F m:=by
 refine .of (λ{sg X E e δ r} g hc q=>?_) hw (λsg e env hc=>?_)
 ·obtain⟨cp,N',fr,tg,p,rfl,S,P,hG,hs⟩:=h g hc q;exact P.pe S g.calm hG hs
 ·have:=hl sg e hc;cases z:q4J e with
  | none=>rw[z]at this;cases this
  | some cp=>obtain⟨p,rfl⟩:=q4r z;exact q0g rfl env
theorem z2c{tg:Tg}{fr:List (Option Nat)}(ha:S1 G F a)(hb:S1 G F b):q3Y G F (.comp a tg b fr):=by
 intro sg X E e δ r g hc h;unfold corE at hc;split at hc
 ·rename_i cp q;obtain⟨p,rfl⟩:=q4r q;simp only[Bool.and_eq_true,Bool.not_eq_true',Bool.or_eq_true]at hc;obtain⟨⟨⟨h1,h2,h3⟩,h4⟩,h5⟩:=hc;split at h5
  ·rename_i tn qt;simp only[Bool.and_eq_true]at h5;refine⟨cp,_,fr,tg,p,rfl,(q1E g h5.1.1).1,z4V (e:=.ListComp cp.elt [⟨cp.tg,cp.it,cp.ifs,0⟩] cp.sc p) ha hb g (List.isEmpty_iff.mp h1) h2 (λz=>?_) h5.1.1 h5.1.2 h5.2 h,λC cells s₂ H₂ fp=>q8M (q1I g h5.1.1 C cells s₂ H₂ fp) h5.1.2,h4⟩;rcases h3 with w | w
   ·rw[z]at w;cases w
   ·exact w
  ·cases h5
 ·cases hc
theorem q8Y{tg:Tg}{fr:List (Option Nat)}(ha:S1 G F a)(hb:S1 G F b)(hcc:S1 G F c):q3Y G F (.compi a tg b c fr):=by
 intro sg X E e δ r g hc h;unfold corE at hc;split at hc
 ·rename_i cp q;obtain⟨p,rfl⟩:=q4r q;simp only[Bool.and_eq_true,Bool.not_eq_true',Bool.or_eq_true]at hc;obtain⟨⟨⟨h2,h3⟩,h4⟩,h5⟩:=hc;split at h5
  ·rename_i tn ec qt qi;simp only[Bool.and_eq_true]at h5;refine⟨cp,_,fr,tg,p,rfl,(q1E g h5.1.1.1).1,z1p (e:=.ListComp cp.elt [⟨cp.tg,cp.it,cp.ifs,0⟩] cp.sc p) ha hb hcc g qi h2 (λz=>?_) h5.1.1.1 h5.1.1.2 h5.1.2 h5.2 h,λC cells s₂ H₂ fp=>q8M (q1I g h5.1.1.1 C cells s₂ H₂ fp) h5.1.1.2,h4⟩;rcases h3 with w | w
   ·rw[z]at w;cases w
   ·exact w
  ·cases h5
 ·cases hc
theorem z7k{tg:Tg}{fr:List (Option Nat)}(ha:S1 G F a)(hb:S1 G F b):S1 G F (.comp a tg b fr):=q3Y.s1 (λ{sg X E e δ r}=>z2c ha hb) (λ_ _=>rfl) λsg e hc=>by
 unfold corE at hc;split at hc
 ·rename_i q;rw[q];rfl
 ·cases hc
theorem z3H{tg:Tg}{fr:List (Option Nat)}(ha:S1 G F a)(hb:S1 G F b)(hcc:S1 G F c):S1 G F (.compi a tg b c fr):=q3Y.s1 (λ{sg X E e δ r}=>q8Y ha hb hcc) (λ_ _=>rfl) λsg e hc=>by
 unfold corE at hc;split at hc
 ·rename_i q;rw[q];rfl
 ·cases hc
theorem z7D:SEs G F []:=λ{sg X E es δ r} g hc h=>by
 cases es with
 | nil=>unfold evEs at h;cases h;exact z1n
 | cons _ _=>unfold q0Z at hc;cases hc
theorem z7l(ha:S1 G F a)(hb:SEs G F ms):SEs G F (a::ms):=λ{sg X E es δ r} g hc h=>by
 cases es with
 | nil=>unfold q0Z at hc;cases hc
 | cons e es=>
  unfold q0Z at hc;simp only[Bool.and_eq_true,Bool.not_eq_true']at hc;unfold evEs at h;exact q8D hc.1.2 (λz hz=>ha.1 g hc.1.1 hz) (λz hz=>hb g hc.2 hz) h
theorem z4p:SAnd G F []:=λ{sg X E es δ pos} g hc=>⟨λr h=>(by unfold q3H at h;cases h),λr h=>(by unfold q3H at h;cases h)⟩
theorem z5s:SOr G F []:=λ{sg X E es δ pos} g hc=>⟨λr h=>(by unfold evOr at h;cases h),λr h=>(by unfold evOr at h;cases h)⟩
theorem z0T(ha:S1 G F a)(hb:SAnd G F ms):SAnd G F (a::ms):=λ{sg X E es δ pos} g hc=>by
 cases es with
 | nil=>unfold q0Z at hc;cases hc
 | cons e es=>
  unfold q0Z at hc;simp only[Bool.and_eq_true,Bool.not_eq_true']at hc;cases ms with
  | nil=>
   cases es with
   | nil=>
    refine⟨λr h=>?_,λr h=>?_⟩
    ·unfold q3H at h;exact z2y (ha.1 g hc.1.1 h)
    ·unfold q3H at h;exact z3n (ha.2.1 g hc.1.1 h)
   | cons _ _=>have:=hc.2;unfold q0Z at this;cases this
  | cons m ms=>
   cases es with
   | nil=>have:=hc.2;unfold q0Z at this;cases this
   | cons e' es=>
    have B:=@hb sg X E (e'::es) δ pos g hc.2;refine⟨λr h=>?_,λr h=>?_⟩
    ·unfold q3H at h;exact z4m (λz hz=>ha.1 g hc.1.1 hz) (λz hz=>B.1 z hz) h
    ·unfold q3H at h;exact z1c (λz hz=>ha.2.1 g hc.1.1 hz) (λz hz=>B.2 z hz) h
theorem z3X(ha:S1 G F a)(hb:SOr G F ms):SOr G F (a::ms):=λ{sg X E es δ pos} g hc=>by
 cases es with
 | nil=>unfold q0Z at hc;cases hc
 | cons e es=>
  unfold q0Z at hc;simp only[Bool.and_eq_true,Bool.not_eq_true']at hc;cases ms with
  | nil=>
   cases es with
   | nil=>
    refine⟨λr h=>?_,λr h=>?_⟩
    ·unfold evOr at h;exact z2y (ha.1 g hc.1.1 h)
    ·unfold evOr at h;exact z7y (ha.2.1 g hc.1.1 h)
   | cons _ _=>have:=hc.2;unfold q0Z at this;cases this
  | cons m ms=>
   cases es with
   | nil=>have:=hc.2;unfold q0Z at this;cases this
   | cons e' es=>
    have B:=@hb sg X E (e'::es) δ pos g hc.2;refine⟨λr h=>?_,λr h=>?_⟩
    ·unfold evOr at h;exact z5W (λz hz=>ha.1 g hc.1.1 hz) (λz hz=>B.1 z hz) h
    ·unfold evOr at h;exact z3S (λz hz=>ha.2.1 g hc.1.1 hz) (λz hz=>B.2 z hz) h
theorem z8G(ha:SAnd G F ms):S1 G F (.and ms):=by
 refine .of2 (λ{sg X E e δ r} g hc h=>?_) (λ{sg X E e δ r} g hc h=>?_) (λ_ _=>rfl)
 ·unfold corE at hc;split at hc
  ·rename_i o es q;obtain⟨p,rfl⟩:=q3j q;simp only[Bool.and_eq_true,beq_iff_eq]at hc;obtain⟨h1,h2⟩:=hc;subst h1;unfold evE at h;exact(ha g h2).1 r h
  ·cases hc
 ·unfold corE at hc;split at hc
  ·rename_i o es q;obtain⟨p,rfl⟩:=q3j q;simp only[Bool.and_eq_true,beq_iff_eq]at hc;obtain⟨h1,h2⟩:=hc;subst h1;unfold evE at h;exact((ha g h2).2 r h).pt
  ·cases hc
theorem s_or(ha:SOr G F ms):S1 G F (.or ms):=by
 refine .of2 (λ{sg X E e δ r} g hc h=>?_) (λ{sg X E e δ r} g hc h=>?_) (λ_ _=>rfl)
 ·unfold corE at hc;split at hc
  ·rename_i o es q;obtain⟨p,rfl⟩:=q3j q;simp only[Bool.and_eq_true,beq_iff_eq]at hc;obtain⟨h1,h2⟩:=hc;subst h1;unfold evE at h;exact(ha g h2).1 r h
  ·cases hc
 ·unfold corE at hc;split at hc
  ·rename_i o es q;obtain⟨p,rfl⟩:=q3j q;simp only[Bool.and_eq_true,beq_iff_eq]at hc;obtain⟨h1,h2⟩:=hc;subst h1;unfold evE at h;exact((ha g h2).2 r h).pt
  ·cases hc
end
section
variable {G:Gs} {F:Nat->List DV->Option Ou}
mutual
theorem snd:∀m:ME,S1 G F m
 | .var _=>z8E
 | .int _=>z8J
 | .bl _=>s_bl
 | .str _=>z7F
 | .non=>z8k
 | .glb _=>z8W
 | .bin _ a b=>z7H (snd a) (snd b)
 | .neg a=>z7O (snd a)
 | .not a=>z8X (snd a)
 | .cmp _ a b=>z7M (snd a) (snd b)
 | .chain _ _ a b c=>z2M (snd a) (snd b) (snd c)
 | .and es=>z8G (z2k es)
 | .or es=>s_or (z7j es)
 | .lst es=>z7V (sndL es)
 | .tup es=>z8D (sndL es)
 | .dc0=>z8A
 | .ix a b=>s_ix (snd a) (snd b)
 | .sl a b c=>s_sl (snd a) (snd b) (snd c)
 | .slt a b=>z7J (snd a) (snd b)
 | .call _ es=>z7x (sndL es)
 | .bi _ es=>s_bi (sndL es)
 | .isi a _=>z8F (snd a)
 | .isx a _=>z8b (snd a)
 | .meth _ a _=>z5F (snd a)
 | .comp a _ b _=>z7k (snd a) (snd b)
 | .compi a _ b c _=>z3H (snd a) (snd b) (snd c)
 | .rng es=>z7S (sndL es)
 | .zp a b=>s_zp (snd a) (snd b)
 | .enu a=>z8Z (snd a)
theorem sndL:∀ms:List ME,SEs G F ms
 | []=>z7D
 | a::ms=>z7l (snd a) (sndL ms)
theorem z2k:∀ms:List ME,SAnd G F ms
 | []=>z4p
 | a::ms=>z0T (snd a) (z2k ms)
theorem z7j:∀ms:List ME,SOr G F ms
 | []=>z5s
 | a::ms=>z3X (snd a) (z7j ms)
end
end
end L2
end
noncomputable section
namespace L2
open PySem PySem.Spec PyProof.Rows
section
variable (G:Gs) (F:Nat->List DV->Option Ou) (fu:Nat)
def SS(m:MS):Prop:=∀{sg:Sg} {X:Cx} {E:St->XK} {st:Stmt} {δ:List Sv} {o:Out},Good sg G F X E->corS sg m st=true->evS G F fu m δ=some o->PS X st (dS X.D E δ o)
def SSs(ms:List MS):Prop:=∀{sg:Sg} {X:Cx} {E:St->XK} {sts:List Stmt} {δ:List Sv} {o:Out},Good sg G F X E->q2X sg ms sts=true->evSs G F fu ms δ=some o->PSs X sts (dS X.D E δ o)
end
section
variable {G:Gs} {F:Nat->List DV->Option Ou} {fu:Nat} {e k:ME} {i:Nat}
theorem z5w:∀{e:ME},z0K e=true->q3Y G F e
 | .comp a _ b _,_=>z2c (snd a) (snd b)
 | .compi a _ b c _,_=>q8Y (snd a) (snd b) (snd c)
theorem z8H{own:Bool}:SS G F fu (.set i own e):=by
 intro sg X E st δ o g hc h;unfold corS at hc;split at hc
 ·rename_i t v pos;split at hc
  ·rename_i x pt;simp only[Bool.and_eq_true,beq_iff_eq,Bool.or_eq_true,Bool.not_eq_true']at hc;obtain⟨⟨⟨h1,h2⟩,h3⟩,h4⟩:=hc;have l:=g.loc x h2;have hN:X.N[i]? = some x:=by rw[g.N];exact h1
   unfold evS at h;cases hv:q4G v with
   | false=>exact q8E g.nd hN l.1 l.2 (λz hz=>(snd e).1 g h3 hz) (q2C hv) h
   | true=>
    rcases h4 with h4 | h5
    ·rw[hv]at h4;cases h4
    ·cases hr:evE G F e δ with
     | none=>rw[hr]at h;cases h
     | some r=>
      obtain⟨cp,N',fr,tg,p,rfl,S,P,hG,hs⟩:=z5w h5 g h3 hr;cases hb:(X.env.blockKind == .function&&X.env.kindOf x==some .local&&pt.line==(Expr.ListComp cp.elt [⟨cp.tg,cp.it,cp.ifs,0⟩] cp.sc p).pos.line && !(cp.sc.names.any λ(n,k)=>n==x&&(k == .local||k == .cell)))with
      | false=>
       have hsw:swapsWith (.ListComp cp.elt [⟨cp.tg,cp.it,cp.ifs,0⟩] cp.sc p) (some (.Name x pt)) pos.line X.env=pure false:=(by show(pure (X.env.blockKind == .function&&X.env.kindOf x==some .local&&pt.line==(Expr.ListComp cp.elt [⟨cp.tg,cp.it,cp.ifs,0⟩] cp.sc p).pos.line && !(cp.sc.names.any λ(n,k)=>n==x&&(k == .local||k == .cell))):Sem Bool)=pure false;rw[hb]);exact q8E g.nd hN l.1 l.2 (λz hz=>(snd e).1 g h3 hz) hsw h
      | true=>
       have hsw:swapsWith (.ListComp cp.elt [⟨cp.tg,cp.it,cp.ifs,0⟩] cp.sc p) (some (.Name x pt)) pos.line X.env=pure true:=(by show(pure (X.env.blockKind == .function&&X.env.kindOf x==some .local&&pt.line==(Expr.ListComp cp.elt [⟨cp.tg,cp.it,cp.ifs,0⟩] cp.sc p).pos.line && !(cp.sc.names.any λ(n,k)=>n==x&&(k == .local||k == .cell))):Sem Bool)=pure true;rw[hb]);rw[hr]at h;have h4:X.env.kindOf x=some .local:=by simp only[Bool.and_eq_true,beq_iff_eq]at hb;exact hb.1.1.2
       exact q6y S g.calm g.nd hN h4 P hG hs hsw h
  ·cases hc
 ·cases hc
theorem z7W:SS G F fu (.app i e):=by
 intro sg X E st δ o g hc h;unfold corS at hc;split at hc
 ·rename_i v pos;split at hc
  ·rename_i ef ea cpos q;have:=q0u q;subst this;split at hc
   ·rename_i ob n apos q2;have:=q3e q2;subst this;simp only[Bool.and_eq_true,Bool.not_eq_true']at hc;obtain⟨⟨⟨⟨h1,h2⟩,h3⟩,h4⟩,h5⟩:=hc;split at h2
    ·rename_i x q3;obtain⟨np,rfl⟩:=q0q q3;obtain⟨s1,s2,s3,s4⟩:=q3V g h2;have hn:n = "append":=beq_iff_eq.mp h1;subst hn;unfold evS at h;exact q7W (q4z s1 s2 s3 s4) (λz hz=>(snd e).1 g h3 hz) h4 h5 h
    ·cases h2
   ·cases hc
  ·cases hc
 ·cases hc
theorem z7g:SS G F fu (.seti i k e):=by
 intro sg X E st δ o g hc h;unfold corS at hc;split at hc
 ·rename_i t v pos;split at hc
  ·rename_i ob ek q;obtain⟨sp,rfl⟩:=q1u q;simp only[Bool.and_eq_true,Bool.not_eq_true']at hc;obtain⟨⟨⟨h2,h3⟩,h4⟩,h5⟩:=hc;split at h2
   ·rename_i x q3;obtain⟨np,rfl⟩:=q0q q3;obtain⟨s1,s2,s3,s4⟩:=q3V g h2;unfold evS at h;exact q8B (q4z s1 s2 s3 s4) (λz hz=>(snd e).1 g h5 hz) (λz hz=>(snd k).1 g h3 hz) h4 h
   ·cases h2
  ·cases hc
 ·cases hc
theorem z8c:SS G F fu (.exp e):=by
 intro sg X E st δ o g hc h;unfold corS at hc;split at hc
 ·simp only[Bool.and_eq_true,Bool.not_eq_true']at hc;unfold evS at h;exact z4Y (λz hz=>(snd e).1 g hc.1 hz) hc.2 h
 ·cases hc
theorem z7R:SS G F fu (.ret e):=by
 intro sg X E st δ o g hc h;unfold corS at hc;split at hc
 ·unfold evS at h;exact z4K (λz hz=>(snd e).1 g hc hz) h
 ·cases hc
theorem z6y{k:Nat}:SS G F fu (.oapp i k e):=by
 intro sg X E st δ o g hc h;unfold corS at hc;split at hc
 ·rename_i v pos;split at hc
  ·rename_i ef ea cpos q;have:=q0u q;subst this;split at hc
   ·rename_i ob n apos q2;have:=q3e q2;subst this;simp only[Bool.and_eq_true,Bool.not_eq_true']at hc;obtain⟨⟨⟨⟨h1,h2⟩,h3⟩,h4⟩,h5⟩:=hc;split at h2
    ·rename_i oa oi q3;obtain⟨sp,rfl⟩:=q1u q3;rw[Bool.and_eq_true]at h2;obtain⟨h2,h6⟩:=h2;split at h2
     ·rename_i x q4;obtain⟨np,rfl⟩:=q0q q4;obtain⟨jj,ip,rfl⟩:=q2H (beq_iff_eq.mp h6);obtain⟨s1,s2,s3,s4⟩:=q3V g h2;have hn:n = "append":=beq_iff_eq.mp h1;subst hn;unfold evS at h;exact z0V (q4z s1 s2 s3 s4) (λz hz=>(snd e).1 g h3 hz) h4 h5 h
     ·cases h2
    ·cases h2
   ·cases hc
  ·cases hc
 ·cases hc
theorem z5D{k:Nat}:SS G F fu (.oclr i k):=by
 intro sg X E st δ o g hc h;unfold corS at hc;split at hc
 ·rename_i v pos;split at hc
  ·rename_i ef cpos q;have:=q0u q;subst this;split at hc
   ·rename_i ob n apos q2;have:=q3e q2;subst this;simp only[Bool.and_eq_true,Bool.not_eq_true']at hc;obtain⟨⟨h1,h2⟩,h5⟩:=hc;split at h2
    ·rename_i oa oi q3;obtain⟨sp,rfl⟩:=q1u q3;rw[Bool.and_eq_true]at h2;obtain⟨h2,h6⟩:=h2;split at h2
     ·rename_i x q4;obtain⟨np,rfl⟩:=q0q q4;obtain⟨jj,ip,rfl⟩:=q2H (beq_iff_eq.mp h6);obtain⟨s1,s2,s3,s4⟩:=q3V g h2;have hn:n = "clear":=beq_iff_eq.mp h1;subst hn;unfold evS at h;exact z1W (q4z s1 s2 s3 s4) h5 h
     ·cases h2
    ·cases h2
   ·cases hc
  ·cases hc
 ·cases hc
theorem z5p{a b:ME}:SS G F fu (.ret2 a b):=by
 intro sg X E st δ o g hc h;unfold corS at hc;split at hc
 ·rename_i v pos;split at hc
  ·rename_i ea eb q;obtain⟨kk,tp,rfl⟩:=q2D q;simp only[Bool.and_eq_true,Bool.not_eq_true']at hc;obtain⟨⟨⟨h1,h2⟩,h3⟩,h4⟩:=hc;unfold evS at h;split at h
   ·rename_i d c d' c' q1 q2;split at h
    ·rename_i m;cases h;exact z1O ((snd a).1 g h1 q1) ((snd b).1 g h2 q2) h3 h4 m
    ·cases h
   ·cases h
  ·cases hc
 ·cases hc
theorem z7d{f:Nat}{es:List ME}:SS G F fu (.setp i f es):=by
 intro sg X E st δ o g hc h;unfold corS at hc;split at hc
 ·rename_i t v pos;split at hc
  ·rename_i x pt;simp only[Bool.and_eq_true,beq_iff_eq]at hc;obtain⟨⟨h1,h2⟩,h3⟩:=hc;have l:=g.loc x h2;have hN:X.N[i]? = some x:=by rw[g.N];exact h1
   unfold corE at h3;split at h3
   ·rename_i ef as cpos q;have:=q0u q;subst this;rw[Bool.and_eq_true,Bool.and_eq_true]at h3;obtain⟨⟨k1,k2⟩,k3⟩:=h3;split at k1
    ·rename_i y qx;obtain⟨p,rfl⟩:=q0q qx;simp only[Bool.and_eq_true,beq_iff_eq,bne_iff_ne,ne_eq]at k1;obtain⟨k,fa,fd,ps,hr,hm,hk,hb,hl,fo,dk⟩:=g.fns f y k1.1.1;cases as with
     | nil=>cases k2
     | cons a as=>
      have ns:=q4q k3;rw[List.any_cons,Bool.or_eq_false_iff]at ns;unfold evS at h;split at h
      ·rename_i l' hl';split at h
       ·rename_i m;split at h
        ·rename_i ks ds q1;cases h;have A:=q6Z (p:=p) (pos:=cpos) fo hr (g.glo y k1.1.2) hm hk hb .nil g.pas (sndL es g k3 hl') (beq_eq_false_iff_ne.mpr k1.2) (q0k ns.1) (q1z as ns.2);refine z1e g.nd hN l.1 l.2 (z0t (E:=E) (n:=ps.length) hl (A.weak λσ H Q z=>?_) q1) (q2C rfl) m;obtain⟨O,W,R,p⟩:=z;exact⟨O,W,R,λvs H1 s1 g1=>by
          show spF X.D ps.length (F f) (vs++[]) H1 Q (E σ);rw[List.append_nil];exact p vs H1 s1 g1⟩
        ·cases h
       ·cases h
      ·cases h
    ·cases k1
   ·cases h3
  ·cases hc
 ·cases hc
theorem z8d{c:Str}:SS G F fu (.rse c e):=by
 intro sg X E st δ o g hc h;unfold corS at hc;split at hc
 ·rename_i v pos;split at hc
  ·rename_i ef ea cpos q;have:=q0u q;subst this;simp only[Bool.and_eq_true,Bool.not_eq_true',beq_iff_eq,bne_iff_ne,ne_eq]at hc;obtain⟨⟨⟨⟨⟨h0,h1⟩,h2⟩,h3⟩,h4⟩,h5⟩:=hc;obtain⟨np,rfl⟩:=q0q h1;unfold evS at h;exact q9P g.xf g.calm (g.glo c h2) (beq_eq_false_iff_ne.mpr h3) (g.st h0).2.2.2 (λz hz=>(snd e).1 g h4 hz) h5 h
  ·cases hc
 ·cases hc
theorem z8h{body:List MS}{c:Str}{ie ic:Nat}(hb:SSs G F fu body):SS G F fu (.tryc body c ie ic):=by
 intro sg X E st δ o g hc h;unfold corS at hc;split at hc
 ·rename_i b hd pos;cases hd with
  | ExceptHandler t n bd hp=>
  simp only[Bool.and_eq_true,q5N]at hc;obtain⟨⟨h0,h1⟩,h2⟩:=hc;split at h2
  ·rename_i t' n' t2 v2 ap q;simp only[Option.some.injEq,Prod.mk.injEq]at q;obtain⟨rfl,rfl,rfl⟩:=q;simp only[Bool.and_eq_true,beq_iff_eq,bne_iff_ne,ne_eq,List.contains_iff_mem]at h2;obtain⟨⟨⟨⟨⟨⟨⟨⟨⟨⟨k1,k2⟩,k3⟩,k4⟩,k5⟩,k6⟩,k7⟩,k8⟩,k9⟩,k10⟩,k11⟩:=h2;split at k10
   ·rename_i x q2;simp only[Bool.and_eq_true,beq_iff_eq]at k10;obtain⟨tp,rfl⟩:=q0q q2;obtain⟨vp,rfl⟩:=q0q k9;obtain⟨np,rfl⟩:=q0q k1;have l:=g.loc x k10.2;obtain⟨s1,s2,s3,_⟩:=g.st h0;unfold evS at h;exact z3o g.xf s1 s2 s3 (g.glo c k2) k4 (beq_eq_false_iff_ne.mpr k3) g.nd (by rw[g.N];exact k5) (g.lcl _ k6) (beq_eq_false_iff_ne.mpr k7) (beq_eq_false_iff_ne.mpr k8) (by rw[g.N];exact k10.1) l.1 l.2
     (λpins E' q hq=>hb (z1P g pins E') h1 hq) h
   ·cases k10
  ·cases h2
 ·cases hc
theorem z8s:SS G F fu (.frz i):=by
 intro sg X E st δ o g hc h;unfold corS at hc;cases hc
variable {a b body:List MS} {c:ME} {tg:Tg}
theorem z8i(ha:SSs G F fu a)(hb:SSs G F fu b):SS G F fu (.iff c a b):=by
 intro sg X E st δ o g hc h;unfold corS at hc;split at hc
 ·simp only[Bool.and_eq_true]at hc;unfold evS at h;exact z5j (λz hz=>(snd c).2.1 g hc.1.1 hz) (λz hz=>ha g hc.1.2 hz) (λz hz=>hb g hc.2 hz) h
 ·cases hc
theorem t_fo(hb:SSs G F fu body):SS G F fu (.fo tg e body):=by
 intro sg X E st δ o g hc h;unfold corS at hc;split at hc
 ·simp only[Bool.and_eq_true,Bool.not_eq_true',Bool.or_eq_true]at hc;obtain⟨⟨⟨⟨h0,h1⟩,h2,h3⟩,h4⟩,h5⟩:=hc;unfold evS at h;exact z4I (g.own h0) g.calm (λz hz=>(snd e).2.2 g h2 (λw=>by
   rcases h3 with q | q
   ·rw[w]at q;cases q
   ·exact q) hz) (q8M g h1) (λδ' o' ho=>hb g h5 ho) h4 h
 ·cases hc
theorem z5X:SSs G F fu []:=by
 intro sg X E sts δ o g hc h;cases sts with
 | nil=>unfold evSs at h;cases h;exact z4C
 | cons a b=>unfold q2X at hc;cases hc
theorem z7a{ms:List MS}(hb:SSs G F fu ms):SSs G F fu (.frz i::ms):=by
 intro sg X E sts δ o g hc h;have hc':q2X sg ms sts=true:=by unfold q2X at hc;exact hc
 unfold evSs at h;have key:evS G F fu (.frz i) δ=(match δ[i]? with | some (.own d)=>some (.nx (δ.set i (.val d))) | _=>some (.nx δ)):=by unfold evS;rfl
 rw[key]at h;cases q:δ[i]? with
 | none=>rw[q]at h;exact hb g hc' h
 | some sv=>
  rw[q]at h;cases sv with
  | own d=>exact q8z q (hb g hc' h)
  | no=>exact hb g hc' h
  | val d=>exact hb g hc' h
  | ot d=>exact hb g hc' h
  | o2 d=>exact hb g hc' h
  | od d=>exact hb g hc' h
theorem q1j{m:MS}{ms:List MS}(ha:SS G F fu m)(hb:SSs G F fu ms)(hm:∀i,m ≠ .frz i):SSs G F fu (m::ms):=by
 intro sg X E sts δ o g hc h;cases sts with
 | nil=>
  exfalso;cases m<;>first | exact hm _ rfl | (unfold q2X at hc;cases hc)
 | cons st sts=>
  have hc':corS sg m st=true/\q2X sg ms sts=true:=(by cases m<;>first | exact absurd rfl (hm _) | (unfold q2X at hc;rw[Bool.and_eq_true]at hc;exact hc));unfold evSs at h;split at h
  ·rename_i δ' q;exact z1m (ha g hc'.1 q) (hb g hc'.2 h)
  ·rename_i hne;have A:=ha g hc'.1 h;cases o with
   | nx δ'=>exact absurd h (hne δ')
   | rt d fr=>exact z6m A
   | rtt d=>exact z4F A
   | ex c δ'=>exact z5v A
end
section
variable {G:Gs} {F:Nat->List DV->Option Ou} {fu:Nat}
mutual
theorem sndS:∀m:MS,SS G F fu m
 | .set _ _ _=>z8H
 | .app _ _=>z7W
 | .seti _ _ _=>z7g
 | .exp _=>z8c
 | .ret _=>z7R
 | .ret2 _ _=>z5p
 | .setp _ _ _=>z7d
 | .oapp _ _ _=>z6y
 | .oclr _ _=>z5D
 | .iff _ a b=>z8i (q2k a) (q2k b)
 | .fo _ _ body=>t_fo (q2k body)
 | .rse _ _=>z8d
 | .tryc body _ _ _=>z8h (q2k body)
 | .frz _=>z8s
theorem q2k:∀ms:List MS,SSs G F fu ms
 | []=>z5X
 | .frz _::ms=>z7a (q2k ms)
 | .set i o e::ms=>q1j (sndS (.set i o e)) (q2k ms) (by intro i z;cases z)
 | .app i o::ms=>q1j (sndS (.app i o)) (q2k ms) (by intro i z;cases z)
 | .seti i k o::ms=>q1j (sndS (.seti i k o)) (q2k ms) (by intro i z;cases z)
 | .exp e::ms=>q1j (sndS (.exp e)) (q2k ms) (by intro i z;cases z)
 | .ret e::ms=>q1j (sndS (.ret e)) (q2k ms) (by intro i z;cases z)
 | .ret2 a b::ms=>q1j (sndS (.ret2 a b)) (q2k ms) (by intro i z;cases z)
 | .setp i f e::ms=>q1j (sndS (.setp i f e)) (q2k ms) (by intro i z;cases z)
 | .oapp i k e::ms=>q1j (sndS (.oapp i k e)) (q2k ms) (by intro i z;cases z)
 | .oclr i k::ms=>q1j (sndS (.oclr i k)) (q2k ms) (by intro i z;cases z)
 | .iff c a b::ms=>q1j (sndS (.iff c a b)) (q2k ms) (by intro i z;cases z)
 | .fo t i b::ms=>q1j (sndS (.fo t i b)) (q2k ms) (by intro i z;cases z)
 | .rse c e::ms=>q1j (sndS (.rse c e)) (q2k ms) (by intro i z;cases z)
 | .tryc a b c d::ms=>q1j (sndS (.tryc a b c d)) (q2k ms) (by intro i z;cases z)
end
end
end L2
end
noncomputable section
namespace L2
open PySem PySem.Spec PyProof.Rows
structure FunD(K:PySem.W.Frag)(x qual:Str)(st:Stmt)(f:Addr)(fd:FuncData):Prop where
 ex:∃(oc:Value) (od:Option Addr) (dV kV doc pm:Value) (an:Option Addr) (cdv ct:Value) (osl:Array (Option Value)),
  fd=PySem.W.fnOf x qual (q1d st) (q0N st) (q0f st) dV kV doc pm an cdv ct/\K.lookup f=some ⟨oc,od,.func fd,osl⟩/\PySem.W.codeIn K cdv qual=true
theorem FunD.okX{P:Program}{w:World}{K:PySem.W.Frag}{mg:Str->Option Value}{base:Heap}{x qual:Str}{st:Stmt}{f:Addr}{fd:FuncData}{N ps:List Str}{k:Nat}{sp:Sp}(F:FunD K x qual st f fd)(S:FnScope N ps (q0f st))(len:∀vs H Q E,sp vs H Q E->vs.length=ps.length)
  (hbody:∀(cdv:Value) (A:Around) (outer:List Env) (s:Shared) (H:Hp) (vs:List V) (Q:VK) (E:XK),Room k (A.deeper (envOfC qual (q0f st) s.heap.objs.size f cdv))->sp vs H Q E ->
   ∃t,PSs (cxD P w K mg base N qual (q0f st) f cdv A outer s H E) (q0N st) t/\t {nx:=λ_ H'=>Q .non H',rt:=Q} (start N vs) H):FnOk P w K mg base (CXx P w base) (k+1) f fd ps sp:=by
 obtain⟨oc,od,dV,kV,doc,pm,an,cdv,ct,osl,rfl,lk,hcd⟩:=F.ex;exact z8v lk hcd S len λA outer s H vs Q E hr hsp=>hbody cdv A outer s H vs Q E hr hsp
def popB(sg:Sg)(v:Expr):Bool:=match q1r v with
 | some (ef,[ea],[],pos)=>(match q4f ef with
  | some (o,n,apos)=>n == "pop" && (match q0Q o with | some x=>q5z sg 1 x | none=>false)&&corE sg false (.int 0) ea && !q0j ea&&apos.endLine==pos.line
  | none=>false)
 | _=>false
def hunC(sg:Sg)(m:ME)(v:Expr):Bool:=match hunB sg 1 v with | some ea=>corE sg false m ea | none=>false
def hm0:ME:=.cmp .Eq (.ix (.var 0) (.int 0)) (.str "end")
def hm1:ME:=.cmp .Eq (.var 1) (.lst [])
def corH(sg:Sg)(b:List Stmt):Bool:=match b with
 | [.If c [.If c2 [.Return (some e1) _] [] _,.Return (some e2) _] [] _,.Assign [.Name x _] e3 _,.Return (some e4) _]=>
  corE sg false hm0 c&&corE sg false hm1 c2&&corE sg false (.var 0) e1&&popB sg e2&&sg.N[2]? == some x&&locB sg x && !q4G e3&&hunC sg (.ix (.var 0) (.int 3)) e3 &&
  (match q2S e4 with
   | some [a,b,c,d,e]=>corE sg false (.str "ask") a&&corE sg false (.ix (.var 0) (.int 1)) b&&corE sg false (.ix (.var 0) (.int 2)) c&&corE sg false (.var 2) d&&hunC sg (.ix (.var 0) (.int 4)) e && !q0j a && !q0j b && !q0j c && !q0j d && !q0j e
   | _=>false)
 | _=>false
def hG:Gs:={con:=[],cls:=[],hun:=true}
structure HStands(K:PySem.W.Frag)(mg:Str->Option Value)(fa:Addr)(fd:FuncData)(ps:List Str):Prop where
 mg:mg q1a=some (.ref fa)
 kp:PySem.W.keepIn K (.ref fa)=true
 bi:q2Y K fd ps []
 np:ps.length=2
 ex:∃qual st N,FunD K q1a qual st fa fd/\FnScope N ps (q0f st)/\N.length=3/\corH ⟨N,(q0f st).names,[],[],[],true,true⟩ (q0N st)=true
theorem z3m{k:Nat}{d:DV}{l:List DV}:q7U k q5A [d,.lst l]=(q6D k d l).map λr=>.v r.1 false:=by
 show(if q5A=q5A then _ else none)=_;exact if_pos rfl
def hδ(d:DV)(ds:List DV)(x:Sv):List Sv:=[.val d,.own (.lst ds),x]
section
variable {F:Nat->List DV->Option Ou} {d:DV} {ds:List DV} {x:Sv} {s:Str}
end
section
variable {P:Program} {w:World} {K:PySem.W.Frag} {mg:Str->Option Value} {base:Heap} {fa:Addr} {fd:FuncData} {ps:List Str}
end
end L2
end
noncomputable section
namespace L2
open PySem PySem.Spec PyProof.Rows
theorem RSt.start{D:Dm}{H:Hp}{N:List Str}{ds:List DV}{vs:List V}{O:List Addr}{n:Nat}(hn:n=N.length)(r:RepL D (L2.wo O H) ds vs)(ho:Hdn O H):RSt D H (L2.start N vs) (q0m n ds) O []:=by
 subst hn;have ino:∀(i:Nat) ds',(q0m N.length ds)[i]? ≠ some (.own ds'):=λi ds' h=>by
  unfold q0m at h;by_cases hi:i<(ds.map Sv.val).length
  ·rw[List.getElem?_append_left hi,List.getElem?_map]at h;cases q:ds[i]? with
   | none=>rw[q]at h;cases h
   | some d=>rw[q]at h;cases h
  ·rw[List.getElem?_append_right (by omega),List.getElem?_replicate]at h;split at h<;>cases h
 have iot:∀(i:Nat) ds',(q0m N.length ds)[i]? ≠ some (.ot ds'):=λi ds' h=>by
  unfold q0m at h;by_cases hi:i<(ds.map Sv.val).length
  ·rw[List.getElem?_append_left hi,List.getElem?_map]at h;cases q:ds[i]? with
   | none=>rw[q]at h;cases h
   | some d=>rw[q]at h;cases h
  ·rw[List.getElem?_append_right (by omega),List.getElem?_replicate]at h;split at h<;>cases h
 have io2:∀(i:Nat) ds',(q0m N.length ds)[i]? ≠ some (.o2 ds'):=λi ds' h=>by
  unfold q0m at h;by_cases hi:i<(ds.map Sv.val).length
  ·rw[List.getElem?_append_left hi,List.getElem?_map]at h;cases q:ds[i]? with
   | none=>rw[q]at h;cases h
   | some d=>rw[q]at h;cases h
  ·rw[List.getElem?_append_right (by omega),List.getElem?_replicate]at h;split at h<;>cases h
 have iod:∀(i:Nat) ds',(q0m N.length ds)[i]? ≠ some (.od ds'):=λi ds' h=>by
  unfold q0m at h;by_cases hi:i<(ds.map Sv.val).length
  ·rw[List.getElem?_append_left hi,List.getElem?_map]at h;cases q:ds[i]? with
   | none=>rw[q]at h;cases h
   | some d=>rw[q]at h;cases h
  ·rw[List.getElem?_append_right (by omega),List.getElem?_replicate]at h;split at h<;>cases h
 refine⟨λi d h=>?_,λi ds' h=>absurd h (ino i ds'),λi j a d1 d2 h=>absurd h (ino i d1),λi d h=>absurd h (iot i d),λi d h=>absurd h (io2 i d),λi d h=>absurd h (iod i d),?_,⟨λa ha=>ho.ne a (by simpa using ha),Same.refl _,λa ha=>(nomatch ha),λa ha=>(nomatch ha),ho⟩⟩
 ·unfold q0m at h;by_cases hi:i<(ds.map Sv.val).length
  ·rw[List.getElem?_append_left hi,List.getElem?_map]at h;cases q:ds[i]? with
   | none=>rw[q]at h;cases h
   | some d'=>
    rw[q]at h;cases h;obtain⟨v,e1,e2⟩:=r.get q;refine⟨v,?_,by rw[List.append_nil];exact e2⟩;unfold L2.start;rw[List.getElem?_append_left (by rw[List.length_map];exact(List.getElem?_eq_some_iff.mp e1).1),List.getElem?_map,e1];rfl
  ·rw[List.getElem?_append_right (by omega),List.getElem?_replicate]at h;split at h<;>cases h
 ·unfold L2.start q0m;rw[List.length_append,List.length_append,List.length_map,List.length_map,List.length_replicate,List.length_replicate,r.length]
def DfOk(G:Gs)(T:List FD):Prop:=(∀f ds,G.dfl.lookup f=some ds->∃d,T[f]? = some d/\d.dfl=ds/\ds≠[])/\∀f n,G.kws.lookup f=some n->∃d,T[f]? = some d/\d.kn=some n
structure Stands(K:PySem.W.Frag)(mg:Str->Option Value)(fn bl cl:List Str)(d:FD)(x:Str)(fa:Addr)(fd:FuncData)(ps:List Str):Prop where
 dk:(d.dfl≠[]->∃us dvs,q2Y K fd ps us/\Vals dvs us/\∀H,RepL ⟨K,mg⟩ H d.dfl dvs)/\∀n,d.kn=some n->KBinds K fd ps [n] (q3G ps.length) (q3G ps.length)
 mg:mg x=some (.ref fa)
 kp:PySem.W.keepIn K (.ref fa)=true
 bi:q2Y K fd ps []
 np:d.np=ps.length
 ex:∃qual st N,FunD K x qual st fa fd/\FnScope N ps (q0f st)/\d.n=N.length/\q2X ⟨N,(q0f st).names,fn,bl,cl,true,true⟩ d.body (q0N st)=true
section
variable {P:Program} {w:World} {K:PySem.W.Frag} {mg:Str->Option Value} {base:Heap} {G:Gs} {T:List FD} {fu:Nat} {fn bl cl:List Str}
theorem z2u(hT:T.length=fn.length)(hs:∀(i:Nat) d x,T[i]? = some d->fn[i]? = some x->∃fa fd ps,Stands K mg fn bl cl d x fa fd ps)(hbl:∀x∈bl,mg x=none)(hxf:XFacts K mg G cl)
  (hcon:∀x d,G.con.lookup x=some d->∃u v,mg x=some u/\RelV v u/\∀H,Rep ⟨K,mg⟩ H d v) (hdc:∀x kvs,G.dcs.lookup x=some kvs->q9A K w mg x kvs) (hdf:DfOk G T) (hh:G.hun=true->T.length<=q5A/\∃fa fd ps,mg q1a=some (.ref fa)/\PySem.W.keepIn K (.ref fa)=true/\q2Y K fd ps []/\∀k,FnOk P w K mg base (CXx P w base) k fa fd ps (spH ⟨K,mg⟩ (q6D k))):∀(k i:Nat) d x fa fd ps,T[i]? = some d->fn[i]? = some x->Stands K mg fn bl cl d x fa fd ps ->
  FnOk P w K mg base (CXx P w base) k fa fd ps (spF ⟨K,mg⟩ ps.length (run G T fu k i))
 | 0,i,d,x,fa,fd,ps,h1,h2,S=>by
  refine⟨λvs H Q E h=>?_,λA outer s H args us vs Q E hr he hb hv h=>?_⟩
  ·obtain⟨_,_,_,_,_,_,q,_⟩:=h;cases q
  ·obtain⟨_,_,_,_,_,_,q,_⟩:=h;cases q
 | k+1,i,d,x,fa,fd,ps,h1,h2,S=>by
  obtain⟨qual,st,N,F,FS,hn,hc⟩:=S.ex;refine F.okX FS (λvs H Q E h=>?_) (λcdv A outer s H vs Q E hr h=>?_)
  ·obtain⟨O,ds,o,_,e1,e2,_⟩:=h;rw[e2.length,e1]
  ·obtain⟨O,ds,o,ho,e1,e2,e3,e4⟩:=h;have e3':(match T[i]? with | none=>q7U (k+1) i ds | some fd=>if ds.length=fd.np then Ou.of (evSs G (run G T fu k) fu fd.body (q0m fd.n ds))else none)=some o:=e3;rw[h1]at e3';have e3'':(if ds.length=d.np then Ou.of (evSs G (run G T fu k) fu d.body (q0m d.n ds))else none)=some o:=e3';rw[if_pos (e1.trans S.np.symm)]at e3'';have g:Good ⟨N,(q0f st).names,fn,bl,cl,true,true⟩ G (run G T fu k) (cxD P w K mg base N qual (q0f st) fa cdv A outer s H E) (λ_=>E):=by
    refine⟨rfl,FS.nd,λy hy=>?_,λy hy=>?_,λy hy=>⟨?_,.inl rfl⟩,λy hy=>hy,λy hy=>hy,rfl,hr.units,λf y hy=>?_,hbl,q7Q.s,hcon,λ_=>PassesOwn.leaving,hxf,λ_=>⟨rfl,rfl,rfl,q8v⟩,hdc,λz=>by
     obtain⟨hl,fa',fd',ps',s1,s2,s3,s4⟩:=hh z;refine⟨k,fa',fd',ps',q6D k,hr,s1,s2,s3,λd l=>?_,s4 k⟩;cases k with
     | zero=>rfl
     | succ k=>
      show(match T[q5A]? with | none=>q7U (k+1) q5A [d,.lst l] | some fd=>if[d,.lst l].length=fd.np then Ou.of (evSs G (run G T fu k) fu fd.body (q0m fd.n [d,.lst l]))else none)=_;rw[List.getElem?_eq_none hl];exact z3m⟩
    ·unfold visB at hy;simp only[Bool.or_eq_true,beq_iff_eq]at hy;rcases hy with(hy | hy) | hy
     ·exact .inl hy
     ·exact .inr (.inl hy)
     ·exact .inr (.inr hy)
    ·unfold gloB at hy;rw[beq_iff_eq]at hy;exact hy
    ·unfold locB at hy;simp only[Bool.or_eq_true,beq_iff_eq]at hy;exact hy
    ·have hf:f<T.length:=by rw[hT];exact(List.getElem?_eq_some_iff.mp hy).1
     obtain⟨d',hd'⟩:∃d',T[f]? = some d':=⟨_,List.getElem?_eq_getElem hf⟩;obtain⟨fa',fd',ps',S'⟩:=hs f d' y hd' hy;refine⟨k,fa',fd',ps',hr,S'.mg,S'.kp,S'.bi,λds o q=>?_,z2u hT hs hbl hxf hcon hdc hdf hh k f d' y fa' fd' ps' hd' hy S',?_,?_⟩
     rotate_left
     ·intro ds q;obtain⟨d2,q1,q2,q3⟩:=hdf.1 f ds q;rw[hd']at q1;cases q1;have:=S'.dk.1 (by rw[q2];exact q3);rw[q2]at this;exact this
     ·intro n q;obtain⟨d2,q1,q2⟩:=hdf.2 f n q;rw[hd']at q1;cases q1;exact S'.dk.2 n q2
     cases k with
     | zero=>cases q
     | succ k=>
      have q':(match T[f]? with | none=>q7U (k+1) f ds | some fd=>if ds.length=fd.np then Ou.of (evSs G (run G T fu k) fu fd.body (q0m fd.n ds))else none)=some o:=q;rw[hd']at q';have q'':(if ds.length=d'.np then Ou.of (evSs G (run G T fu k) fu d'.body (q0m d'.n ds))else none)=some o:=q';split at q''
      ·rename_i z;rw[z,S'.np]
      ·cases q''
   cases ho':evSs G (run G T fu k) fu d.body (q0m d.n ds)with
   | none=>rw[ho']at e3'';cases e3''
   | some oo=>
    rw[ho']at e3'';refine⟨_,q2k d.body g hc ho',H,O,[],RSt.start hn e2 ho,(λa ha=>(nomatch ha)),ho.ne,Same.refl H,?_⟩;cases oo with
    | nx δ=>cases e3'';exact λσ' H' W R fr sm=>e4 .non H' sm (show Rep ⟨K,mg⟩ (L2.wo O H') .non .non by unfold Rep;rfl)
    | rt d fr=>cases e3'';exact λv H' sm gt=>e4 v H' sm gt
    | rtt d=>cases e3'';exact λv H' sm gt=>e4 v H' sm gt
    | ex c δ=>cases e3'';exact λσ' H' W C hm R fr sm=>e4 H' C hm sm
end
end L2
end
noncomputable section
namespace L2
open PySem PySem.Spec PyProof.Rows
def okD(fn bl cl:List Str)(d:FD)(N ps:List Str)(st:Stmt):Bool:=
 (q0f st).kind == .function && !(q0f st).isCoroutine && !(q0f st).isGenerator&&q4u N&&(N.take ps.length==ps) &&
 ps.all (λx=>(q0f st).names.lookup x==some .local||(q0f st).names.lookup x==some .cell)&&(q0f st).names.all (λy=>!(y.2 == .free)) &&
 d.n==N.length&&d.np==ps.length&&q2X ⟨N,(q0f st).names,fn,bl,cl,true,true⟩ d.body (q0N st)
section
variable {P:Program} {w:World} {K:PySem.W.Frag} {mg:Str->Option Value} {base h:Heap} {G:Gs} {T:List FD} {fu:Nat} {fn bl cl:List Str}
theorem q8t{d:FD}{x:Str}{N ps:List Str}{st:Stmt}{f:Addr}{oc:Value}{od an:Option Addr}{osl:Array (Option Value)}{dV kV doc pm cdv ct:Value}(X:K.In h)(Ns:h.Ns mainGlobals mg)(ok:okD fn bl cl d N ps st=true)
  (a:PySem.W.nsIn K mainGlobals x=some (some (.ref f))) (l:K.lookup f=some ⟨oc,od,.func (PySem.W.fnOf x x (q1d st) (q0N st) (q0f st) dV kV doc pm an cdv ct),osl⟩)
  (c:PySem.W.codeIn K cdv x=true) (k:PySem.W.keepIn K (.ref f)=true)
  (hb:q2Y K (PySem.W.fnOf x x (q1d st) (q0N st) (q0f st) dV kV doc pm an cdv ct) ps [])
  (dk:(d.dfl≠[]->∃us dvs,q2Y K (PySem.W.fnOf x x (q1d st) (q0N st) (q0f st) dV kV doc pm an cdv ct) ps us/\Vals dvs us/\∀H,RepL ⟨K,mg⟩ H d.dfl dvs)/\∀n,d.kn=some n->KBinds K (PySem.W.fnOf x x (q1d st) (q0N st) (q0f st) dV kV doc pm an cdv ct) ps [n] (q3G ps.length) (q3G ps.length)) :
  Stands K mg fn bl cl d x f (PySem.W.fnOf x x (q1d st) (q0N st) (q0f st) dV kV doc pm an cdv ct) ps:=by
 unfold okD at ok;simp only[Bool.and_eq_true,beq_iff_eq,Bool.not_eq_true',List.all_eq_true,Bool.or_eq_true,beq_eq_false_iff_ne]at ok;obtain⟨⟨⟨⟨⟨⟨⟨⟨⟨h1,h2⟩,h3⟩,h4⟩,h5⟩,h6⟩,h7⟩,h8⟩,h9⟩,h10⟩:=ok;exact⟨dk,PySem.W.mg_of X Ns a,k,hb,h9,x,st,N,⟨oc,od,dV,kV,doc,pm,an,cdv,ct,osl,rfl,l,c⟩,⟨h1,h2,h3,q2b h4,h5,h6,h7⟩,h8,h10⟩
theorem q0i{d:FD}{x:Str}{N ps:List Str}{st:Stmt}{f:Addr}{oc:Value}{od an:Option Addr}{osl:Array (Option Value)}{kV doc pm cdv ct:Value}(X:K.In h)(Ns:h.Ns mainGlobals mg)(ok:okD fn bl cl d N ps st=true)
  (a:PySem.W.nsIn K mainGlobals x=some (some (.ref f))) (l:K.lookup f=some ⟨oc,od,.func (PySem.W.fnOf x x (q1d st) (q0N st) (q0f st) .none kV doc pm an cdv ct),osl⟩)
  (c:PySem.W.codeIn K cdv x=true) (k:PySem.W.keepIn K (.ref f)=true)
  (hb:∀(kV doc pm:Value) (an:Option Addr) (cdv ct:Value) (us:List Value),us.length=ps.length->bindArgs (PySem.W.fnOf x x (q1d st) (q0N st) (q0f st) .none kV doc pm an cdv ct) ⟨us,[]⟩=pure (ps.zip us)) (e1:d.dfl=[]:=by rfl) (e2:d.kn=none:=by rfl) :
  Stands K mg fn bl cl d x f (PySem.W.fnOf x x (q1d st) (q0N st) (q0f st) .none kV doc pm an cdv ct) ps:=
 q8t X Ns ok a l c k (.all (hb kV doc pm an cdv ct)) ⟨λz=>absurd e1 z,λn z=>by rw[e2]at z;cases z⟩
theorem z7t{fd:FuncData}{ps:List Str}{n:Str}(h:∀(s:Shared) (us:List Value) (w:Value),K.In s.heap->us.length+1=ps.length->BindsTo s fd ⟨us,[(n,w)]⟩ (ps.zip (us++[w])))(hp:ps≠[]):KBinds K fd ps [n] (q3G ps.length) (q3G ps.length):=by
 refine⟨λs us ws hK hl=>?_,λr q=>z0L r q⟩;unfold q3G at hl ⊢;split at hl
 ·rename_i c;rw[if_pos c];obtain⟨w,rfl⟩:=List.length_eq_one_iff.mp c.2;exact h s us w hK c.1
 ·exact absurd (List.length_eq_zero_iff.mp hl.symm) hp
theorem z4s{G:Gs}{T:List FD}(e1:G.dfl=[]:=by rfl)(e2:G.kws=[]:=by rfl):DfOk G T:=⟨λf ds q=>(by rw[e1]at q;cases q),λf n q=>(by rw[e2]at q;cases q)⟩
theorem z1h{G:Gs}{p:Prop}(e:G.hun=false:=by rfl):G.hun=true->p:=λz=>by rw[e]at z;cases z
def okH(N ps:List Str)(st:Stmt):Bool:=
 (q0f st).kind == .function && !(q0f st).isCoroutine && !(q0f st).isGenerator&&q4u N&&(N.take ps.length==ps) &&
 ps.all (λx=>(q0f st).names.lookup x==some .local||(q0f st).names.lookup x==some .cell)&&(q0f st).names.all (λy=>!(y.2 == .free)) &&
 N.length==3&&ps.length==2&&corH ⟨N,(q0f st).names,[],[],[],true,true⟩ (q0N st)
theorem z4Z{N ps:List Str}{st:Stmt}{f:Addr}{oc:Value}{od an:Option Addr}{osl:Array (Option Value)}{kV doc pm cdv ct:Value}(X:K.In h)(Ns:h.Ns mainGlobals mg)(ok:okH N ps st=true)
  (a:PySem.W.nsIn K mainGlobals q1a=some (some (.ref f))) (l:K.lookup f=some ⟨oc,od,.func (PySem.W.fnOf q1a q1a (q1d st) (q0N st) (q0f st) .none kV doc pm an cdv ct),osl⟩)
  (c:PySem.W.codeIn K cdv q1a=true) (k:PySem.W.keepIn K (.ref f)=true)
  (hb:∀(kV doc pm:Value) (an:Option Addr) (cdv ct:Value) (us:List Value),us.length=ps.length->bindArgs (PySem.W.fnOf q1a q1a (q1d st) (q0N st) (q0f st) .none kV doc pm an cdv ct) ⟨us,[]⟩=pure (ps.zip us)) :
  HStands K mg f (PySem.W.fnOf q1a q1a (q1d st) (q0N st) (q0f st) .none kV doc pm an cdv ct) ps:=by
 unfold okH at ok;simp only[Bool.and_eq_true,beq_iff_eq,Bool.not_eq_true',List.all_eq_true,Bool.or_eq_true,beq_eq_false_iff_ne]at ok;obtain⟨⟨⟨⟨⟨⟨⟨⟨⟨h1,h2⟩,h3⟩,h4⟩,h5⟩,h6⟩,h7⟩,h8⟩,h9⟩,h10⟩:=ok;exact⟨PySem.W.mg_of X Ns a,k,.all (hb kV doc pm an cdv ct),h9,q1a,st,N,⟨oc,od,.none,kV,doc,pm,an,cdv,ct,osl,rfl,l,c⟩,⟨h1,h2,h3,q2b h4,h5,h6,h7⟩,h8,h10⟩
def HS(K:PySem.W.Frag)(mg:Str->Option Value)(fn bl cl:List Str)(T:List FD)(fs:List Str):Prop:=∀(i:Nat) d x,T[i]? = some d->fs[i]? = some x->∃fa fd ps,Stands K mg fn bl cl d x fa fd ps
theorem z5Y{fs:List Str}:HS K mg fn bl cl [] fs:=λi d x h=>by cases h
theorem q0v{d:FD}{x:Str}{fs:List Str}{fa:Addr}{fd:FuncData}{ps:List Str}(h:Stands K mg fn bl cl d x fa fd ps)(t:HS K mg fn bl cl T fs):HS K mg fn bl cl (d::T) (x::fs):=λi d' x' h1 h2=>by
 cases i with
 | zero=>cases h1;cases h2;exact⟨_,_,_,h⟩
 | succ i=>exact t i d' x' h1 h2
theorem z7q{H:Hp}:L2.wo [] H=H:=by
 funext b
 unfold L2.wo;simp
def HC(K:PySem.W.Frag)(mg:Str->Option Value)(c:List (Str×DV)):Prop:=∀x d,c.lookup x=some d->∃u v,mg x=some u/\RelV v u/\∀H,Rep ⟨K,mg⟩ H d v
theorem z3b:HC K mg []:=λx d h=>by cases h
theorem z7A{c:List (Str×DV)}{y:Str}{d:DV}(h:∃u v,mg y=some u/\RelV v u/\∀H,Rep ⟨K,mg⟩ H d v)(t:HC K mg c):HC K mg ((y,d)::c):=λx d' q=>by
 rw[List.lookup_cons]at q;split at q
 ·rename_i e;cases q;rw[eq_of_beq e];exact h
 ·exact t x d' q
def OneL(K:PySem.W.Frag)(mg:Str->Option Value)(G:Gs)(cl:List Str)(l:List (Str×List Str)):Prop:=∀c,(l.lookup c).isSome=true->∃C,XOne K mg G cl c C
theorem z3T{cl:List Str}:OneL K mg G cl []:=λc h=>by cases h
theorem q5q{cl:List Str}{c:Str}{b:List Str}{l:List (Str×List Str)}(h:∃C,XOne K mg G cl c C)(t:OneL K mg G cl l):OneL K mg G cl ((c,b)::l):=λc' q=>by
 rw[List.lookup_cons]at q;split at q
 ·rename_i e;rw[eq_of_beq e];exact h
 ·exact t c' q
def AllL(mg:Str->Option Value)(l:List Str):Prop:=∀t∈l,∃Ct,mg t=some (.ref Ct)
theorem z2S:AllL mg []:=λt h=>by cases h
theorem all_cons{t:Str}{l:List Str}(h:∃Ct,mg t=some (.ref Ct))(r:AllL mg l):AllL mg (t::l):=λt' q=>by
 rcases List.mem_cons.mp q with e | e
 ·rw[e];exact h
 ·exact r t' e
def OwnL(K:PySem.W.Frag)(mg:Str->Option Value)(G:Gs)(c:Str)(C:Addr)(l:List Str):Prop:=∀t∈l,∀Ct,mg t=some (.ref Ct)->PySem.W.kitOne K (.ref C) (.ref Ct)=some (q1C G c t)/\(q1C G c t=true->PySem.W.exmOne K (.ref C) (.ref Ct)=some true)
theorem q6G{c:Str}{C:Addr}:OwnL K mg G c C []:=λt h=>by cases h
theorem q1t{c t:Str}{C Ct:Addr}{l:List Str}(m:mg t=some (.ref Ct))(h:PySem.W.kitOne K (.ref C) (.ref Ct)=some (q1C G c t)/\(q1C G c t=true->PySem.W.exmOne K (.ref C) (.ref Ct)=some true))(r:OwnL K mg G c C l):OwnL K mg G c C (t::l):=λt' q Ct' m'=>by
 rcases List.mem_cons.mp q with e | e
 ·subst e;cases m.symm.trans m';exact h
 ·exact r t' e Ct' m'
def spS(K:PySem.W.Frag):Sp:=λvs H Q _=>∃(a:Addr) (ns:List Int),vs=[.ref a]/\ns.length<=63/\SqS K H a (ns.map V.int)/\∀H',Q (.bl true) H'
def DCL(K:PySem.W.Frag)(w:World)(mg:Str->Option Value)(l:List (Str×List (Str×Str))):Prop:=∀x kvs,l.lookup x=some kvs->q9A K w mg x kvs
theorem z3V{w:World}:DCL K w mg []:=λx kvs h=>by cases h
theorem z7C{w:World}{y:Str}{kv:List (Str×Str)}{l:List (Str×List (Str×Str))}(h:q9A K w mg y kv)(t:DCL K w mg l):DCL K w mg ((y,kv)::l):=λx kvs q=>by
 rw[List.lookup_cons]at q;split at q
 ·rename_i e;cases q;rw[beq_iff_eq.mp e];exact h
 ·exact t x kvs q
def KVL(K:PySem.W.Frag)(a:Addr)(l:List (Str×Str)):Prop:=∀k v,l.lookup k=some v->v.length<=sizeLine/\∃t,PySem.W.nsIn K a k=some (some (.str v t))
theorem z7X{a:Addr}:KVL K a []:=λk v h=>by cases h
theorem z7B{a:Addr}{k v:Str}{t:Tok}{l:List (Str×Str)}(h1:v.length<=sizeLine)(h2:PySem.W.nsIn K a k=some (some (.str v t)))(r:KVL K a l):KVL K a ((k,v)::l):=λk' v' q=>by
 rw[List.lookup_cons]at q;split at q
 ·rename_i e;cases q;rw[beq_iff_eq.mp e];exact⟨h1,t,h2⟩
 ·exact r k' v' q
theorem z1l{k i:Nat}{d:FD}{x p:Str}{fa:Addr}{fd:FuncData}(hT:T.length=fn.length)(hs:HS K mg fn bl cl T fn)(hbl:∀x∈bl,mg x=none)(hxf:XFacts K mg G cl)
  (hcon:∀x d,G.con.lookup x=some d->∃u v,mg x=some u/\RelV v u/\∀H,Rep ⟨K,mg⟩ H d v) (hdc:∀x kvs,G.dcs.lookup x=some kvs->q9A K w mg x kvs) (hdf:DfOk G T) (hh:G.hun=true->T.length<=q5A/\∃fa fd ps,mg q1a=some (.ref fa)/\PySem.W.keepIn K (.ref fa)=true/\q2Y K fd ps []/\∀k,FnOk P w K mg base (CXx P w base) k fa fd ps (spH ⟨K,mg⟩ (q6D k))) (h1:T[i]? = some d) (h2:fn[i]? = some x) (S:Stands K mg fn bl cl d x fa fd [p])
  (law:∀ns:List Int,ns.length<=63->run G T fu k i [.scr ns]=some (.v (.bl true) false)):FnOk P w K mg base CX0 k fa fd [p] (spS K):=by
 have R:=z2u (P:=P) (w:=w) (base:=base) (fu:=fu) hT hs hbl hxf hcon hdc hdf hh k i d x fa fd [p] h1 h2 S;refine⟨λvs H Q E h=>?_,λA outer s H args us vs Q E hr he hb hv h=>?_⟩
 ·obtain⟨a,ns,rfl,_⟩:=h;rfl
 ·obtain⟨a,ns,rfl,hl,hS,hq⟩:=h;refine codeAny_mono (R.run A outer s H args us [.ref a] Q E0 hr he hb hv ⟨[],[.scr ns],_,(λa ha=>(nomatch ha)),rfl,?_,law ns hl,λv H' _ g=>?_⟩) λr s' q=>?_
  ·refine RepL.one (q1R.mpr ⟨a,rfl,?_⟩);rw[z7q];exact hS
  ·have g':Rep ⟨K,mg⟩ (L2.wo [] H') (.bl true) v:=g;rw[q3E]at g';subst g';exact hq H'
  ·cases r with
   | error e=>
    obtain⟨_,_,_,_,_,_,_,_,_,_,z⟩:=(q:CXx P w base outer H s E0 e s');exact z.elim
   | ok fl=>cases fl<;>first | exact False.elim q | exact q
end
theorem walkE{l:PySem.W.OpenLaw}{q:Program}{loose:List Str}{XP:(Str->Option Value)->Heap->Prop}{YP:World->Heap->Prop}{d:DefRec}{K:Params->PySem.W.Frag}{k:Nat}{p:Str}(hn:l.most=some 63)(hdf:d.params.defaults=[])(hr:Room k callerA)
  (hY:∀(w:World) (h:Heap),YP w h->(K w.params).In h)
  (F:∀(w:World) (mg:Str->Option Value) (fa:Addr) (h:Heap),(K w.params).In h->h.Ns mainGlobals mg->mg d.name=some (.ref fa) ->
   ∃fd:FuncData,(∀(s:Shared) (u:Value),BindsTo s fd ⟨[u],[]⟩ [(p,u)])/\∀base:Heap,(K w.params).In base->base.Ns mainGlobals mg->FnOk l.prog w (K w.params) mg base CX0 k fa fd [p] (spS (K w.params))) :
  PySem.W.WalkO q loose XP YP l.row.toRowW d [] (λf vs=>PySem.call f vs):=
 L2.walk_of (n:=63) (k:=k) (x:=p) (CX:=λ_=>CX0) (sp:=λw=>spS (K w.params)) hn (by decide) hdf hr hY F (λ_ _ a ns hl hO hS=>⟨a,ns,rfl,hl,SqS.of hO hS,λ_=>rfl⟩) λ_ _ _ _ _ z=>z
end L2
end
noncomputable section
namespace rk
def sm(f:Nat->Int):Nat->Int
 | 0=>0
 | n+1=>sm f n+f n
theorem sm_congr{f g:Nat->Int}:∀{n:Nat},(∀i,i<n->f i=g i)->sm f n=sm g n
 | 0,_=>rfl
 | n+1,h=>by show sm f n+f n=sm g n+g n;rw[sm_congr (λi hi=>h i (by omega)),h n (by omega)]
theorem q4i:∀{n:Nat} {f:Nat->Int},(∀i,i<n->f i=0)->sm f n=0
 | 0,_,_=>rfl
 | n+1,f,h=>by show sm f n+f n=0;rw[q4i (λi hi=>h i (by omega)),h n (by omega)];rfl
theorem q2r(a:Int)(f:Nat->Int):∀n,sm (λi=>a*f i) n=a*sm f n
 | 0=>by show(0:Int)=a*0;rw[Int.mul_zero]
 | n+1=>by show sm (λi=>a*f i) n+a*f n=a*(sm f n+f n);rw[q2r a f n,Int.mul_add]
theorem q7C(f g:Nat->Int):∀n,sm (λi=>f i+g i) n=sm f n+sm g n
 | 0=>rfl
 | n+1=>by show sm (λi=>f i+g i) n+(f n+g n)=(sm f n+f n)+(sm g n+g n);rw[q7C f g n];omega
theorem q6Y(f g:Nat->Int):∀n,sm (λi=>f i - g i) n=sm f n - sm g n
 | 0=>rfl
 | n+1=>by show sm (λi=>f i - g i) n+(f n - g n)=(sm f n+f n) - (sm g n+g n);rw[q6Y f g n];omega
theorem q6T(f:Nat->Nat->Int)(m:Nat):∀n,sm (λi=>sm (f i) m) n=sm (λj=>sm (λi=>f i j) n) m
 | 0=>by symm;exact q4i λ_ _=>rfl
 | n+1=>by show sm (λi=>sm (f i) m) n+sm (f n) m=sm (λj=>sm (λi=>f i j) n+f n j) m;rw[q6T f m n,q7C (λj=>sm (λi=>f i j) n) (λj=>f n j)]
def sk(p i:Nat):Nat:=if i<p then i else i+1
def usk(p i:Nat):Nat:=if i<p then i else i - 1
theorem z6Q(p i:Nat):sk p i≠p:=by unfold sk;split<;>omega
theorem z2H(p i:Nat):usk p (sk p i)=i:=by
 unfold usk sk;by_cases h:i<p
 ·rw[if_pos h,if_pos h]
 ·rw[if_neg h,if_neg (by omega)];omega
theorem z7T{p i r:Nat}(h:i<r):sk p i<r+1:=by unfold sk;split<;>omega
theorem z0F(f:Nat->Int)(p:Nat):∀r,p<=r->sm f (r+1)=f p+sm (λi=>f (sk p i)) r
 | 0,h=>by
  have:p=0:=by omega
  subst this;show 0+f 0=f 0+0;omega
 | r+1,h=>by
  show sm f (r+1)+f (r+1)=f p+(sm (λi=>f (sk p i)) r+f (sk p r));by_cases q:p=r+1
  ·subst q;have e:sm (λi=>f (sk (r+1) i)) r=sm f r:=sm_congr λi hi=>by
    show f (sk (r+1) i)=f i;unfold sk;rw[if_pos (by omega)]
   have e2:sk (r+1) r=r:=by unfold sk;rw[if_pos (by omega)]
   rw[e,e2];show sm f r+f r+f (r+1)=_;omega
  ·have e2:sk p r=r+1:=by unfold sk;rw[if_neg (by omega)]
   rw[z0F f p r (by omega),e2];omega
theorem dep:∀(k r:Nat) (A:Nat->Nat->Int),k<r->∃c:Nat->Int,(∃i,i<r/\c i≠0)/\∀j,j<k->sm (λi=>c i*A i j) r=0
 | 0,r,A,h=>⟨λ_=>1,⟨0,h,by decide⟩,λj hj=>absurd hj (Nat.not_lt_zero j)⟩
 | k+1,r,A,h=>by
  by_cases q:∃p,p<r/\A p k≠0
  ·obtain⟨p,hp,hA⟩:=q;obtain⟨r',rfl⟩:∃r',r=r'+1:=⟨r - 1,by omega⟩;obtain⟨c,⟨i,hi,hc⟩,hs⟩:=dep k r' (λi j=>A p k*A (sk p i) j - A (sk p i) k*A p j) (by omega);have key:∀j,sm (λi=>(if i=p then -(sm (λi=>c i*A (sk p i) k) r')else A p k*c (usk p i))*A i j) (r'+1)=sm (λi=>c i*(A p k*A (sk p i) j - A (sk p i) k*A p j)) r':=λj=>by
    rw[z0F _ p r' (by omega)];rw[if_pos rfl];have e:∀i,(if sk p i=p then -(sm (λi=>c i*A (sk p i) k) r')else A p k*c (usk p (sk p i)))=A p k*c i:=λi=>by rw[if_neg (z6Q p i),z2H]
    rw[show(λi=>(if sk p i=p then -(sm (λi=>c i*A (sk p i) k) r')else A p k*c (usk p (sk p i)))*A (sk p i) j)=λi=>A p k*c i*A (sk p i) j from funext λi=>by rw[e i]];rw[show(λi=>c i*(A p k*A (sk p i) j - A (sk p i) k*A p j))=λi=>A p k*c i*A (sk p i) j - A p j*(c i*A (sk p i) k)from funext λi=>by
     rw[Int.mul_sub]
     congr 1
     ·rw[←Int.mul_assoc,Int.mul_comm (c i)]
     ·rw[←Int.mul_assoc,Int.mul_comm]]
    rw[q6Y (λi=>A p k*c i*A (sk p i) j) (λi=>A p j*(c i*A (sk p i) k)),q2r (A p j) (λi=>c i*A (sk p i) k),Int.neg_mul,Int.mul_comm (sm _ _) (A p j)];omega
   refine⟨λi=>if i=p then -(sm (λi=>c i*A (sk p i) k) r')else A p k*c (usk p i),⟨sk p i,z7T hi,?_⟩,λj hj=>?_⟩
   ·show(if sk p i=p then _ else A p k*c (usk p (sk p i)))≠0;rw[if_neg (z6Q p i),z2H];exact Int.mul_ne_zero hA hc
   ·rw[key j];by_cases z:j<k
    ·exact hs j z
    ·have:j=k:=by omega
     subst this;exact q4i λi _=>by show c i*(A p j*A (sk p i) j - A (sk p i) j*A p j)=0;rw[Int.mul_comm (A p j),Int.sub_self,Int.mul_zero]
  ·obtain⟨c,hc,hs⟩:=dep k r A (by omega);refine⟨c,hc,λj hj=>?_⟩;by_cases z:j<k
   ·exact hs j z
   ·have:j=k:=by omega
    subst this;exact q4i λi hi=>by have:A i j=0:=Classical.byContradiction λn=>q ⟨i,hi,n⟩;show c i*A i j=0;rw[this,Int.mul_zero]
theorem z0J(r k:Nat)(A:Nat->Nat->Int):∀(n:Nat) (c:Nat->Int) (i:Nat),i<r->c i≠0->(c i).natAbs<=n->(∀j,j<k->sm (λi=>c i*A i j) r=0)->∃c:Nat->Int,(∃i,i<r/\c i%2=1)/\∀j,j<k->sm (λi=>c i*A i j) r=0
 | 0,c,i,hi,hc,hn,hs=>absurd (Int.natAbs_eq_zero.mp (by omega)) hc
 | n+1,c,i,hi,hc,hn,hs=>by
  by_cases q:∃i,i<r/\c i%2=1
  ·exact⟨c,q,hs⟩
  ·have ev:∀i,i<r->c i=2*(c i/2):=λi hi=>by
    have:¬c i%2=1:=λz=>q ⟨i,hi,z⟩;omega
   refine z0J r k A n (λi=>c i/2) i hi ?_ ?_ λj hj=>?_
   ·have:=ev i hi;intro z;have z':c i/2=0:=z;rw[z']at this;exact hc (by omega)
   ·have:=ev i hi;show(c i/2).natAbs<=n;omega
   ·have e:sm (λi=>c i*A i j) r=2*sm (λi=>c i/2*A i j) r:=by
     rw[←q2r 2 (λi=>c i/2*A i j)];exact sm_congr λi hi=>by show c i*A i j=2*(c i/2*A i j);rw[←Int.mul_assoc,←ev i hi]
    have:=hs j hj;rw[e]at this;show sm (λi=>c i/2*A i j) r=0;omega
theorem z4N{k r:Nat}(A:Nat->Nat->Int)(h:k<r):∃c:Nat->Int,(∃i,i<r/\c i%2=1)/\∀j,j<k->sm (λi=>c i*A i j) r=0:=by
 obtain⟨c,⟨i,hi,hc⟩,hs⟩:=dep k r A h;exact z0J r k A _ c i hi hc (Nat.le_refl _) hs
end rk
end
noncomputable section
namespace rk
structure Pr(P:Int->Prop):Prop where
 zero:P 0
 add:∀{a b},P a->P b->P (a+b)
 mul:∀c {a},P a->P (c*a)
 prime:∀{a b},P (a*b)->P a\/P b
 one:¬P 1
 dep:∀(k r:Nat) (A:Nat->Nat->Int),k<r->∃c:Nat->Int,(∃i,i<r/\¬P (c i))/\∀j,j<k->P (sm (λi=>c i*A i j) r)
def P0(a:Int):Prop:=a=0
def P2(a:Int):Prop:=a%2=0
theorem pr0:Pr P0 where
 zero:=rfl
 add:=λh g=>by show _=_;rw[show _=(0:Int)from h,show _=(0:Int)from g];rfl
 mul:=λc a h=>by show c*a=0;rw[show a=0 from h,Int.mul_zero]
 prime:=λh=>Int.mul_eq_zero.mp h
 one:=by intro h;cases h
 dep:=λk r A h=>by obtain⟨c,⟨i,hi,hc⟩,hs⟩:=rk.dep k r A h;exact⟨c,⟨i,hi,hc⟩,hs⟩
theorem pr2:Pr P2 where
 zero:=rfl
 add:=λ{a b} h g=>by have h':a%2=0:=h;have g':b%2=0:=g;show(a+b)%2=0;omega
 mul:=λc {a} h=>by show c*a%2=0;rw[Int.mul_emod,show a%2=0 from h,Int.mul_zero];rfl
 prime:=λ{a b} h=>by
  have h':a*b%2=0:=h;rw[Int.mul_emod]at h';rcases Int.emod_two_eq a with p | p
  ·exact .inl p
  ·rcases Int.emod_two_eq b with q | q
   ·exact .inr q
   ·rw[p,q]at h';cases h'
 one:=by intro h;cases h
 dep:=λk r A h=>by
  obtain⟨c,⟨i,hi,hc⟩,hs⟩:=z4N A h;refine⟨c,⟨i,hi,λz=>?_⟩,λj hj=>?_⟩
  ·have z':c i%2=0:=z;omega
  ·show _%2=0;rw[hs j hj];rfl
section
variable {P:Int->Prop} (R:Pr P)
include R
theorem Pr.sum{f:Nat->Int}{n:Nat}(h:∀i,i<n->P (f i)):P (sm f n):=by
 induction n with
 | zero=>exact R.zero
 | succ n ih=>exact R.add (ih λi hi=>h i (by omega)) (h n (by omega))
end
def Ind(P:Int->Prop)(v:Nat->Nat->Int)(n m:Nat):Prop:=∀c:Nat->Int,(∀j,j<m->P (sm (λi=>c i*v i j) n))->∀i,i<n->P (c i)
def InSp(P:Int->Prop)(w:Nat->Nat->Int)(k m:Nat)(x:Nat->Int):Prop:=∃(d:Int) (a:Nat->Int),¬P d/\∀j,j<m->P (d*x j - sm (λs=>a s*w s j) k)
section
variable {P:Int->Prop} (R:Pr P)
include R
theorem exch{v w:Nat->Nat->Int}{c k m:Nat}(hv:Ind P v c m)(hw:∀i,i<c->InSp P w k m (v i)):c<=k:=by
 refine Nat.le_of_not_lt λlt=>?_;have hw':∀i,∃da:Int×(Nat->Int),i<c->¬P da.1/\∀j,j<m->P (da.1*v i j - sm (λs=>da.2 s*w s j) k):=λi=>by
  by_cases h:i<c
  ·obtain⟨d,a,q⟩:=hw i h;exact⟨(d,a),λ_=>q⟩
  ·exact⟨(0,λ_=>0),λz=>absurd z h⟩
 obtain⟨da,hda'⟩:=Classical.axiomOfChoice hw';obtain⟨d,hd⟩:∃d:Nat->Int,d=λi=>(da i).1:=⟨_,rfl⟩
 obtain⟨a,ha⟩:∃a:Nat->Nat->Int,a=λi=>(da i).2:=⟨_,rfl⟩
 have hda:∀i,i<c->¬P (d i)/\∀j,j<m->P (d i*v i j - sm (λs=>a i s*w s j) k):=λi hi=>by rw[hd,ha];exact hda' i hi
 obtain⟨z,⟨i,hi,hz⟩,hs⟩:=R.dep k c (λi s=>a i s) lt;have q:=hv (λi=>z i*d i) (λj hj=>?_) i hi
 ·rcases R.prime q with q | q
  ·exact hz q
  ·exact(hda i hi).1 q
 ·have e:sm (λi=>z i*d i*v i j) c=sm (λi=>z i*(d i*v i j - sm (λs=>a i s*w s j) k)) c+sm (λs=>w s j*sm (λi=>z i*a i s) c) k:=by
   have e2:sm (λs=>w s j*sm (λi=>z i*a i s) c) k=sm (λi=>z i*sm (λs=>a i s*w s j) k) c:=by
    rw[sm_congr (g:=λs=>sm (λi=>w s j*(z i*a i s)) c) (λs _=>(q2r (w s j) (λi=>z i*a i s) c).symm)];rw[sm_congr (f:=λi=>z i*sm (λs=>a i s*w s j) k) (g:=λi=>sm (λs=>z i*(a i s*w s j)) k) (λi _=>(q2r (z i) (λs=>a i s*w s j) k).symm)];rw[q6T (λi s=>z i*(a i s*w s j)) k c];refine sm_congr λs _=>sm_congr λi _=>?_
    rw[Int.mul_comm (w s j),Int.mul_assoc]
   rw[e2,←q7C];refine sm_congr λi _=>?_
   rw[Int.mul_sub,Int.sub_add_cancel,Int.mul_assoc]
  show P (sm (λi=>z i*d i*v i j) c);rw[e];exact R.add (R.sum λi hi=>R.mul _ ((hda i hi).2 j hj)) (R.sum λs hs'=>R.mul _ (hs s hs'))
theorem z1D{v:Nat->Nat->Int}{b e:Nat->Nat}{n m r k:Nat}(hb:∀t,t<r->b t<n)(hv:Ind P (λt=>v (b t)) r m)(he:∀j,j<m->InSp P (λs i=>v i (e s)) k n (λi=>v i j)):Ind P (λt s=>v (b t) (e s)) r k:=by
 intro z hs t ht;refine hv z (λj hj=>?_) t ht;obtain⟨d,a,hd,ha⟩:=he j hj;have q:P (d*sm (λt=>z t*v (b t) j) r):=by
  have e:d*sm (λt=>z t*v (b t) j) r=sm (λt=>z t*(d*v (b t) j - sm (λs=>a s*v (b t) (e s)) k)) r+sm (λs=>a s*sm (λt=>z t*v (b t) (e s)) r) k:=by
   have e2:sm (λs=>a s*sm (λt=>z t*v (b t) (e s)) r) k=sm (λt=>z t*sm (λs=>a s*v (b t) (e s)) k) r:=by
    rw[sm_congr (g:=λs=>sm (λt=>a s*(z t*v (b t) (e s))) r) (λs _=>(q2r (a s) (λt=>z t*v (b t) (e s)) r).symm)];rw[sm_congr (f:=λt=>z t*sm (λs=>a s*v (b t) (e s)) k) (g:=λt=>sm (λs=>z t*(a s*v (b t) (e s))) k) (λt _=>(q2r (z t) (λs=>a s*v (b t) (e s)) k).symm)];rw[q6T (λt s=>z t*(a s*v (b t) (e s))) k r];refine sm_congr λs _=>sm_congr λt _=>?_
    rw[←Int.mul_assoc,Int.mul_comm (a s),Int.mul_assoc]
   rw[e2,←q7C,←q2r d (λt=>z t*v (b t) j)];refine sm_congr λt _=>?_
   rw[Int.mul_sub,Int.sub_add_cancel,←Int.mul_assoc,Int.mul_comm d,Int.mul_assoc]
  rw[e];exact R.add (R.sum λt ht=>R.mul _ (ha (b t) (hb t ht))) (R.sum λs hs'=>R.mul _ (hs s hs'))
 rcases R.prime q with q | q
 ·exact absurd q hd
 ·exact q
theorem cols{v:Nat->Nat->Int}{b e:Nat->Nat}{n m r k:Nat}(hb:∀t,t<r->b t<n)(hv:Ind P (λt=>v (b t)) r m)(he:∀j,j<m->InSp P (λs i=>v i (e s)) k n (λi=>v i j)):r<=k:=by
 refine Nat.le_of_not_lt λlt=>?_;obtain⟨z,⟨t,ht,hz⟩,hs⟩:=R.dep k r (λt s=>v (b t) (e s)) lt;exact hz (z1D R hb hv he z hs t ht)
end
end rk
end
noncomputable section
namespace rk
variable {α β:Type}
abbrev Rw:=Nat->Int
end rk
end
noncomputable section
namespace rk
section
variable {P:Int->Prop} (R:Pr P)
include R
end
theorem q7m(f:Nat->Int):∀n,sm f (n+1)=f 0+sm (λi=>f (i+1)) n
 | 0=>by show 0+f 0=f 0+0;omega
 | n+1=>by show sm f (n+1)+f (n+1)=f 0+(sm (λi=>f (i+1)) n+f (n+1));rw[q7m f n];omega
def elim(c:Nat)(x y:Rw):Rw:=λd=>x c*y d + -(y c)*x d
section
variable {P:Int->Prop} (R:Pr P)
include R
end
end rk
end
noncomputable section
namespace rk
def stz(q:Nat×Rw)(x:Rw):Rw:=λj=>x j*q.2 q.1 - x q.1*q.2 j
def rz(K:List (Nat×Rw))(x:Rw):Rw:=K.foldl (λx q=>stz q x) x
theorem z3U(q:Nat×Rw)(K:List (Nat×Rw))(x:Rw):rz (q::K) x=rz K (stz q x):=rfl
theorem z2l(q:Nat×Rw)(K:List (Nat×Rw))(x:Rw):rz (K++[q]) x=stz q (rz K x):=by unfold rz;rw[List.foldl_append];rfl
theorem z3h(q:Nat×Rw)(c:Nat->Int)(v:Nat->Rw)(n:Nat):stz q (λj=>sm (λi=>c i*v i j) n)=λj=>sm (λi=>c i*stz q (v i) j) n:=by
 funext j
 show sm (λi=>c i*v i j) n*q.2 q.1 - sm (λi=>c i*v i q.1) n*q.2 j=sm (λi=>c i*(v i j*q.2 q.1 - v i q.1*q.2 j)) n;rw[Int.mul_comm,←q2r (q.2 q.1) (λi=>c i*v i j),Int.mul_comm (sm _ _),←q2r (q.2 j) (λi=>c i*v i q.1),←q6Y];refine sm_congr λi _=>?_
 rw[Int.mul_sub,Int.mul_left_comm,Int.mul_comm (q.2 q.1),Int.mul_left_comm (q.2 j),Int.mul_comm (q.2 j)]
theorem z6H(K:List (Nat×Rw)):∀(c:Nat->Int) (v:Nat->Rw) (n:Nat),rz K (λj=>sm (λi=>c i*v i j) n)=λj=>sm (λi=>c i*rz K (v i) j) n:=by
 induction K with
 | nil=>intro c v n;rfl
 | cons q K ih=>
  intro c v n;rw[z3U,z3h,ih];rfl
def Nil(m:Nat)(x:Rw):Prop:=∀j,j<m->x j=0
theorem z0e{q:Nat×Rw}{x:Rw}{m:Nat}(hq:q.1<m)(h:Nil m x):Nil m (stz q x):=λj hj=>by
 show x j*_ - x q.1*_=0;rw[h j hj,h q.1 hq,Int.zero_mul,Int.zero_mul];rfl
theorem z1Z{q:Nat×Rw}{m:Nat}:Nil m (stz q q.2):=λj _=>by
 show q.2 j*q.2 q.1 - q.2 q.1*q.2 j=0;rw[Int.mul_comm,Int.sub_self]
def ld(m:Nat)(x:Rw):Nat:=((List.range m).find? λj=>decide (x j≠0)).getD 0
theorem ld_ok{m:Nat}{x:Rw}(h:¬Nil m x):ld m x<m/\x (ld m x)≠0:=by
 cases q:(List.range m).find? λj=>decide (x j≠0)with
 | none=>
  refine absurd (λj hj=>?_) h;have:=List.find?_eq_none.mp q j (List.mem_range.mpr hj);simpa using this
 | some j=>
  have e:ld m x=j:=by unfold ld;rw[q];rfl
  rw[e];refine⟨List.mem_range.mp (List.mem_of_find?_eq_some q),?_⟩;have:=List.find?_some q;simpa using this
instance (m:Nat) (x:Rw):Decidable (Nil m x):=inferInstanceAs (Decidable (∀j,j<m->x j=0))
def kz(v:Nat->Rw)(m:Nat):Nat->List (Nat×(Nat×Rw))
 | 0=>[]
 | n+1=>
  let y:=rz ((kz v m n).map (·.2)) (v n)
  if Nil m y then kz v m n else kz v m n++[(n,(ld m y,y))]
def rkz(v:Nat->Rw)(m n:Nat)(x:Rw):Rw:=rz ((kz v m n).map (·.2)) x
def bz(v:Nat->Rw)(m n:Nat):List Nat:=(kz v m n).map (·.1)
theorem kz_succ(v:Nat->Rw)(m n:Nat):kz v m (n+1)=if Nil m (rkz v m n (v n))then kz v m n else kz v m n++[(n,(ld m (rkz v m n (v n)),rkz v m n (v n)))]:=rfl
theorem q4Z(v:Nat->Rw)(m n:Nat):bz v m (n+1)=if Nil m (rkz v m n (v n))then bz v m n else bz v m n++[n]:=by
 unfold bz;rw[kz_succ];split
 ·rfl
 ·rw[List.map_append];rfl
structure Kz(v:Nat->Rw)(m n:Nat):Prop where
 ld:∀q∈kz v m n,q.2.1<m/\q.2.2 q.2.1≠0
 all:∀i,i<n->Nil m (rkz v m n (v i))
 lt:∀i∈bz v m n,i<n
 up:(bz v m n).Pairwise (· < ·)
theorem q9E(v:Nat->Rw)(m:Nat):∀n,Kz v m n
 | 0=>⟨λq h=>absurd h (by simp[kz]),λi h=>absurd h (Nat.not_lt_zero i),λi h=>absurd h (by simp[bz,kz]),.nil⟩
 | n+1=>by
  have I:=q9E v m n;by_cases z:Nil m (rkz v m n (v n))
  ·have e:kz v m (n+1)=kz v m n:=by rw[kz_succ,if_pos z]
   have eb:bz v m (n+1)=bz v m n:=by unfold bz;rw[e]
   have er:∀x,rkz v m (n+1) x=rkz v m n x:=λx=>by unfold rkz;rw[e]
   refine⟨by rw[e];exact I.ld,λi hi=>?_,λi hi=>?_,by rw[eb];exact I.up⟩
   ·rw[er];by_cases q:i<n
    ·exact I.all i q
    ·have:i=n:=by omega
     subst this;exact z
   ·rw[eb]at hi;have:=I.lt i hi;omega
  ·have e:kz v m (n+1)=kz v m n++[(n,(rk.ld m (rkz v m n (v n)),rkz v m n (v n)))]:=by rw[kz_succ,if_neg z]
   have eb:bz v m (n+1)=bz v m n++[n]:=by rw[q4Z,if_neg z]
   have er:∀x,rkz v m (n+1) x=stz (rk.ld m (rkz v m n (v n)),rkz v m n (v n)) (rkz v m n x):=λx=>by unfold rkz;rw[e,List.map_append];exact z2l ..
   refine⟨λq hq=>?_,λi hi=>?_,λi hi=>?_,?_⟩
   ·rw[e]at hq;rcases List.mem_append.mp hq with w | w
    ·exact I.ld q w
    ·have:=List.mem_singleton.mp w;subst this;exact ld_ok z
   ·rw[er];by_cases q:i<n
    ·exact z0e (ld_ok z).1 (I.all i q)
    ·have:i=n:=by omega
     subst this;exact z1Z (q:=(rk.ld m (rkz v m i (v i)),rkz v m i (v i)))
   ·rw[eb]at hi;rcases List.mem_append.mp hi with w | w
    ·have:=I.lt i w;omega
    ·have:=List.mem_singleton.mp w;omega
   ·rw[eb,List.pairwise_append];exact⟨I.up,List.pairwise_singleton ..,λa ha b hb=>by
     have:=List.mem_singleton.mp hb;subst this;exact I.lt a ha⟩
theorem z2v(v:Nat->Rw)(m:Nat):∀n,Ind P0 (λt=>v ((bz v m n).getD t 0)) (bz v m n).length m
 | 0=>λc _ i hi=>absurd hi (Nat.not_lt_zero i)
 | n+1=>by
  have I:=z2v v m n;have K:=q9E v m n;by_cases z:Nil m (rkz v m n (v n))
  ·rw[q4Z,if_pos z];exact I
  ·rw[q4Z,if_neg z];intro c hs;have lo:∀t,t<(bz v m n).length->(bz v m n++[n]).getD t 0=(bz v m n).getD t 0:=λt ht=>by rw[List.getD_eq_getElem?_getD,List.getD_eq_getElem?_getD,List.getElem?_append_left ht]
   have hi:(bz v m n++[n]).getD (bz v m n).length 0=n:=(by rw[List.getD_eq_getElem?_getD,List.getElem?_append_right (Nat.le_refl _),Nat.sub_self];rfl);have hs':∀j,j<m->sm (λt=>c t*v ((bz v m n).getD t 0) j) (bz v m n).length+c (bz v m n).length*v n j=0:=λj hj=>by have:=hs j hj;rw[List.length_append,List.length_singleton]at this;have q:sm (λt=>c t*v ((bz v m n++[n]).getD t 0) j) (bz v m n).length+c (bz v m n).length*v ((bz v m n++[n]).getD (bz v m n).length 0) j=0:=this;rw[hi,sm_congr (g:=λt=>c t*v ((bz v m n).getD t 0) j) λt ht=>by rw[lo t ht]]at q;exact q
   have last:c (bz v m n).length=0:=by
    have e1:Nil m (rkz v m n λj=>sm (λt=>c t*v (if t<(bz v m n).length then(bz v m n).getD t 0 else n) j) ((bz v m n).length+1)):=by
     have:Nil m (λj=>sm (λt=>c t*v (if t<(bz v m n).length then(bz v m n).getD t 0 else n) j) ((bz v m n).length+1)):=λj hj=>by show sm _ (bz v m n).length+c (bz v m n).length*v (if(bz v m n).length<(bz v m n).length then _ else n) j=0;rw[if_neg (Nat.lt_irrefl _),sm_congr (g:=λt=>c t*v ((bz v m n).getD t 0) j) λt ht=>by rw[if_pos ht]];exact hs' j hj
     have gen:∀(K:List (Nat×Rw)) (x:Rw),(∀q∈K,q.1<m)->Nil m x->Nil m (rz K x):=by
      intro K
      induction K with
      | nil=>intro x _ h;exact h
      | cons q K ih=>intro x hq h;exact ih _ (λr hr=>hq r (List.mem_cons_of_mem _ hr)) (z0e (hq q List.mem_cons_self) h)
     exact gen _ _ (λq hq=>by
      obtain⟨q',h1,rfl⟩:=List.mem_map.mp hq;exact(K.ld q' h1).1) this
    have e2:=z6H ((kz v m n).map (·.2)) c (λt=>v (if t<(bz v m n).length then(bz v m n).getD t 0 else n)) ((bz v m n).length+1);have e3:∀j,j<m->c (bz v m n).length*rkz v m n (v n) j=0:=λj hj=>by
     have:=e1 j hj;unfold rkz at this;rw[e2]at this;have q:sm (λt=>c t*rz ((kz v m n).map (·.2)) (v (if t<(bz v m n).length then(bz v m n).getD t 0 else n)) j) (bz v m n).length+c (bz v m n).length*rz ((kz v m n).map (·.2)) (v (if(bz v m n).length<(bz v m n).length then(bz v m n).getD (bz v m n).length 0 else n)) j=0:=this;rw[if_neg (Nat.lt_irrefl _),q4i λt ht=>?_,Int.zero_add]at q
     ·exact q
     ·rw[if_pos ht];have hb:(bz v m n).getD t 0∈bz v m n:=by rw[List.getD_eq_getElem?_getD,List.getElem?_eq_getElem ht];exact List.getElem_mem ht
      have:=K.all _ (K.lt _ hb) j hj;unfold rkz at this;rw[this,Int.mul_zero]
    have p:=ld_ok z;rcases Int.mul_eq_zero.mp (e3 _ p.1)with w | w
    ·exact w
    ·exact absurd w p.2
   intro i hi';rw[List.length_append,List.length_singleton]at hi';by_cases q:i<(bz v m n).length
   ·refine I c (λj hj=>?_) i q;have:=hs' j hj;rw[last,Int.zero_mul,Int.add_zero]at this;exact this
   ·have:i=(bz v m n).length:=by omega
    rw[this];exact last
theorem q9d{l:List Nat}{n t:Nat}(ht:t<l.length):(l++[n]).getD t 0=l.getD t 0:=by
 rw[List.getD_eq_getElem?_getD,List.getD_eq_getElem?_getD,List.getElem?_append_left ht]
theorem q8O{l:List Nat}{n:Nat}:(l++[n]).getD l.length 0=n:=by
 rw[List.getD_eq_getElem?_getD,List.getElem?_append_right (Nat.le_refl _),Nat.sub_self];rfl
theorem z8o{l:List Nat}{n:Nat}(c:Nat->Int)(v:Nat->Rw)(j:Nat):sm (λt=>c t*v ((l++[n]).getD t 0) j) (l++[n]).length=sm (λt=>c t*v (l.getD t 0) j) l.length+c l.length*v n j:=by
 rw[List.length_append,List.length_singleton];show sm (λt=>c t*v ((l++[n]).getD t 0) j) l.length+c l.length*v ((l++[n]).getD l.length 0) j=_;rw[q8O,sm_congr (g:=λt=>c t*v (l.getD t 0) j) λt ht=>by rw[q9d ht]]
theorem q5e(v:Nat->Rw)(m:Nat):∀(n:Nat) (x:Rw),∃(D:Int) (b:Nat->Int),D≠0/\∀j,rkz v m n x j=D*x j - sm (λt=>b t*v ((bz v m n).getD t 0) j) (bz v m n).length
 | 0,x=>⟨1,λ_=>0,by decide,λj=>by show x j=1*x j - 0;omega⟩
 | n+1,x=>by
  by_cases z:Nil m (rkz v m n (v n))
  ·have e:kz v m (n+1)=kz v m n:=by rw[kz_succ,if_pos z]
   obtain⟨D,b,hD,h⟩:=q5e v m n x;refine⟨D,b,hD,λj=>?_⟩;unfold rkz bz;rw[e];exact h j
  ·have e:kz v m (n+1)=kz v m n++[(n,(rk.ld m (rkz v m n (v n)),rkz v m n (v n)))]:=by rw[kz_succ,if_neg z]
   have er:rkz v m (n+1) x=stz (rk.ld m (rkz v m n (v n)),rkz v m n (v n)) (rkz v m n x):=by unfold rkz;rw[e,List.map_append];exact z2l ..
   obtain⟨D,b,hD,h⟩:=q5e v m n x;obtain⟨D',b',hD',h'⟩:=q5e v m n (v n);obtain⟨p,hp⟩:∃p,rk.ld m (rkz v m n (v n))=p:=⟨_,rfl⟩;have hy:=(ld_ok z).2;rw[hp]at er hy;obtain⟨Y,hY⟩:∃Y,rkz v m n (v n) p=Y:=⟨_,rfl⟩;obtain⟨U,hU⟩:∃U,rkz v m n x p=U:=⟨_,rfl⟩;rw[hY]at hy;refine⟨Y*D,λt=>if t<(bz v m n).length then Y*b t - U*b' t else U*D',Int.mul_ne_zero hy hD,λj=>?_⟩;rw[er];show rkz v m n x j*rkz v m n (v n) p - rkz v m n x p*rkz v m n (v n) j=_;rw[hY,hU,h j,h' j,q4Z,if_neg z,z8o,if_neg (Nat.lt_irrefl _)];have e9:sm (λt=>(if t<(bz v m n).length then Y*b t - U*b' t else U*D')*v ((bz v m n).getD t 0) j) (bz v m n).length=Y*sm (λt=>b t*v ((bz v m n).getD t 0) j) (bz v m n).length - U*sm (λt=>b' t*v ((bz v m n).getD t 0) j) (bz v m n).length:=by
    rw[←q2r Y (λt=>b t*v ((bz v m n).getD t 0) j),←q2r U (λt=>b' t*v ((bz v m n).getD t 0) j),←q6Y];exact sm_congr λt ht=>by rw[if_pos ht,Int.sub_mul,Int.mul_assoc,Int.mul_assoc]
   rw[e9];obtain⟨S,hS⟩:∃S,sm (λt=>b t*v ((bz v m n).getD t 0) j) (bz v m n).length=S:=⟨_,rfl⟩;obtain⟨S',hS'⟩:∃S',sm (λt=>b' t*v ((bz v m n).getD t 0) j) (bz v m n).length=S':=⟨_,rfl⟩;rw[hS,hS',Int.sub_mul,Int.mul_sub,Int.mul_comm (D*x j),Int.mul_comm S,←Int.mul_assoc,←Int.mul_assoc U];omega
theorem z8M(v:Nat->Rw)(m n i:Nat)(hi:i<n):InSp P0 (λs=>v ((bz v m n).getD s 0)) (bz v m n).length m (v i):=by
 obtain⟨D,b,hD,h⟩:=q5e v m n (v i);exact⟨D,b,hD,λj hj=>by rw[←h j];exact(q9E v m n).all i hi j hj⟩
structure Bas(P:Int->Prop)(v:Nat->Rw)(n m:Nat)(b:List Nat):Prop where
 lt:∀i∈b,i<n
 up:b.Pairwise (· < ·)
 ind:Ind P (λt=>v (b.getD t 0)) b.length m
 sp:∀i,i<n->InSp P (λs=>v (b.getD s 0)) b.length m (v i)
theorem bas0(v:Nat->Rw)(n m:Nat):Bas P0 v n m (bz v m n):=⟨(q9E v m n).lt,(q9E v m n).up,z2v v m n,λi hi=>z8M v m n i hi⟩
section
variable {P:Int->Prop} (R:Pr P)
include R
theorem Bas.at{v:Nat->Rw}{n m:Nat}{b:List Nat}(B:Bas P v n m b):∀t,t<b.length->b.getD t 0<n:=λt ht=>B.lt _ (by
 rw[List.getD_eq_getElem?_getD,List.getElem?_eq_getElem ht];exact List.getElem_mem ht)
theorem Bas.len{v:Nat->Rw}{n m:Nat}{b e:List Nat}(B:Bas P v n m b)(C:Bas P (λj i=>v i j) m n e):b.length=e.length:=by
 apply Nat.le_antisymm
 ·exact cols R (v:=v) (b:=λt=>b.getD t 0) (e:=λs=>e.getD s 0) (B.at R) B.ind λj hj=>C.sp j hj
 ·exact cols R (v:=λj i=>v i j) (b:=λt=>e.getD t 0) (e:=λs=>b.getD s 0) (C.at R) C.ind λj hj=>B.sp j hj
end
end rk
end
noncomputable section
namespace rk
abbrev N2:=Nat×Nat
def px(a b:N2):N2:=(a.1 ^^^ b.1,a.2 ^^^ b.2)
def st(p:N2)(q:N2):N2:=if p.1.testBit q.1.log2 then px p q else p
def red(K:List N2)(p:N2):N2:=K.foldl st p
theorem z3i(a:N2):px a (0,0)=a:=by unfold px;rw[Nat.xor_zero,Nat.xor_zero]
theorem q9h(a b:N2):px a b=px b a:=by unfold px;rw[Nat.xor_comm a.1,Nat.xor_comm a.2]
theorem q2E(a b c:N2):px (px a b) c=px a (px b c):=by unfold px;simp only[Nat.xor_assoc]
theorem z3r(a:N2):px a a=(0,0):=by unfold px;rw[Nat.xor_self,Nat.xor_self]
theorem z5h(a b q:N2):st (px a b) q=px (st a q) (st b q):=by
 have t:(px a b).1.testBit q.1.log2=(a.1.testBit q.1.log2 ^^ b.1.testBit q.1.log2):=Nat.testBit_xor ..;unfold st;rw[t];cases a.1.testBit q.1.log2<;>cases b.1.testBit q.1.log2
 ·rfl
 ·exact q2E a b q
 ·show px (px a b) q=px (px a q) b;rw[q2E,q9h b q,←q2E]
 ·show px a b=px (px a q) (px b q);rw[q2E,←q2E q b q,q9h q b,q2E b q q,z3r,z3i]
theorem z4r(K:List N2):∀a b:N2,red K (px a b)=px (red K a) (red K b):=by
 induction K with
 | nil=>intro a b;rfl
 | cons q K ih=>
  intro a b;show red K (st (px a b) q)=px (red K (st a q)) (red K (st b q));rw[z5h,ih]
theorem q8P(t:Nat)(q:N2):st (0,t) q=(0,t):=by
 unfold st;rw[if_neg];show ¬(Nat.testBit 0 q.1.log2=true);rw[Nat.zero_testBit];decide
theorem q7g(K:List N2)(t:Nat):red K (0,t)=(0,t):=by
 induction K with
 | nil=>rfl
 | cons q K ih=>show red K (st (0,t) q)=_;rw[q8P,ih]
theorem z4x(K:List N2)(q:N2)(p:N2):red (K++[q]) p=st (red K p) q:=by
 unfold red;rw[List.foldl_append];rfl
def xo(L:Nat->Nat)(m:Nat):Nat->Nat
 | 0=>0
 | n+1=>if m.testBit n then xo L m n ^^^ L n else xo L m n
theorem xo_zero(L:Nat->Nat):∀n,xo L 0 n=0
 | 0=>rfl
 | n+1=>by unfold xo;rw[Nat.zero_testBit,if_neg (by decide),xo_zero L n]
theorem q6k(L:Nat->Nat)(a b:Nat):∀n,xo L (a ^^^ b) n=xo L a n ^^^ xo L b n
 | 0=>by show 0=0 ^^^ 0;rw[Nat.xor_zero]
 | n+1=>by
  unfold xo;rw[Nat.testBit_xor,q6k L a b n];cases a.testBit n<;>cases b.testBit n
  ·rfl
  ·show(xo L a n ^^^ xo L b n) ^^^ L n=xo L a n ^^^ (xo L b n ^^^ L n);rw[Nat.xor_assoc]
  ·show(xo L a n ^^^ xo L b n) ^^^ L n=(xo L a n ^^^ L n) ^^^ xo L b n;rw[Nat.xor_assoc,Nat.xor_comm (xo L b n),←Nat.xor_assoc]
  ·show xo L a n ^^^ xo L b n=(xo L a n ^^^ L n) ^^^ (xo L b n ^^^ L n);rw[Nat.xor_assoc,Nat.xor_comm (xo L b n) (L n),←Nat.xor_assoc (L n),Nat.xor_self,Nat.zero_xor]
theorem bit1(i j:Nat):(1<<<i).testBit j=decide (i=j):=by
 rw[Nat.one_shiftLeft,Nat.testBit_two_pow]
theorem q7z(L:Nat->Nat)(i:Nat):∀n,xo L (1<<<i) n=if i<n then L i else 0
 | 0=>rfl
 | n+1=>by
  unfold xo;rw[bit1,q7z L i n];by_cases h:i=n
  ·subst h;rw[if_pos (by simp),if_neg (by omega),if_pos (by omega),Nat.zero_xor]
  ·rw[if_neg (by simp[h])];by_cases q:i<n
   ·rw[if_pos q,if_pos (by omega)]
   ·rw[if_neg q,if_neg (by omega)]
def kp(L:Nat->Nat):Nat->List (Nat×N2)
 | 0=>[]
 | n+1=>
  let p:=red ((kp L n).map (·.2)) (L n,0)
  if p.1=0 then kp L n else kp L n++[(n,(p.1,p.2 ||| 1<<<n))]
def rk(L:Nat->Nat)(n:Nat)(p:N2):N2:=red ((kp L n).map (·.2)) p
def bs(L:Nat->Nat)(n:Nat):List Nat:=(kp L n).map (·.1)
theorem kp_succ(L:Nat->Nat)(n:Nat):kp L (n+1)=if(rk L n (L n,0)).1=0 then kp L n else kp L n++[(n,((rk L n (L n,0)).1,(rk L n (L n,0)).2 ||| 1<<<n))]:=rfl
theorem z3d{r:Nat}(h:r≠0):r.testBit r.log2=true:=by
 rw[Nat.testBit_eq_decide_div_mod_eq,decide_eq_true_eq];have h1:=Nat.log2_self_le h;have h2:=Nat.lt_log2_self (n:=r);have:r/2^r.log2=1:=by refine Nat.div_eq_of_lt_le (by omega) ?_;rw[Nat.pow_succ]at h2;omega
 rw[this]
theorem z7e{a i:Nat}(h:a.testBit i=false):a ^^^ (a ||| 1<<<i)=1<<<i:=by
 apply Nat.eq_of_testBit_eq;intro j;rw[Nat.testBit_xor,Nat.testBit_or,bit1];by_cases q:i=j
 ·subst q;rw[h];simp
 ·simp[q]
structure Kp(L:Nat->Nat)(n N:Nat):Prop where
 bs:∀i∈bs L n,i<n/\rk L n (L i,0)=(0,1<<<i)
 all:∀i,i<n->(rk L n (L i,0)).1=0
 sub:∀i j,i<n->(rk L n (L i,0)).2.testBit j=true->j<=i/\j∈rk.bs L n
 mak:∀q∈kp L n,q.2.1=xo L q.2.2 N/\(∀j,q.2.2.testBit j=true->j<=q.1/\j∈rk.bs L n)/\q.1<n
theorem red_inv(L:Nat->Nat)(N:Nat):∀(K:List N2) (p:N2),(∀q∈K,q.1=xo L q.2 N)->(red K p).1 ^^^ xo L (red K p).2 N=p.1 ^^^ xo L p.2 N:=by
 intro K
 induction K with
 | nil=>intro p _;rfl
 | cons q K ih=>
  intro p h;show(red K (st p q)).1 ^^^ xo L (red K (st p q)).2 N=_;rw[ih _ (λq' hq=>h q' (List.mem_cons_of_mem _ hq))];unfold st;split
  ·show(p.1 ^^^ q.1) ^^^ xo L (p.2 ^^^ q.2) N=_;rw[q6k,h q List.mem_cons_self,Nat.xor_assoc,Nat.xor_comm (xo L p.2 N),←Nat.xor_assoc (xo L q.2 N),Nat.xor_self,Nat.zero_xor]
  ·rfl
theorem z2L(P:Nat->Prop):∀(K:List N2) (p:N2),(∀q∈K,∀j,q.2.testBit j=true->P j)->(∀j,p.2.testBit j=true->P j)->∀j,(red K p).2.testBit j=true->P j:=by
 intro K
 induction K with
 | nil=>intro p _ h;exact h
 | cons q K ih=>
  intro p h h';refine ih (st p q) (λq' hq=>h q' (List.mem_cons_of_mem _ hq)) λj hj=>?_
  unfold st at hj;split at hj
  ·have e:(px p q).2.testBit j=(p.2.testBit j ^^ q.2.testBit j):=Nat.testBit_xor ..;rw[e]at hj;cases a:p.2.testBit j with
   | true=>exact h' j a
   | false=>
    rw[a,Bool.false_xor]at hj;exact h q List.mem_cons_self j hj
  ·exact h' j hj
theorem q6u(L:Nat->Nat)(n j:Nat)(h:j∈bs L n):j∈bs L (n+1):=by
 unfold bs at h ⊢;rw[kp_succ];split
 ·exact h
 ·rw[List.map_append];exact List.mem_append_left _ h
theorem kp_ok(L:Nat->Nat)(N:Nat):∀n,n<=N->Kp L n N
 | 0,_=>⟨λi h=>absurd h (by simp[bs,kp]),λi h=>absurd h (Nat.not_lt_zero i),λi j h=>absurd h (Nat.not_lt_zero i),λq h=>absurd h (by simp[kp])⟩
 | n+1,hN=>by
  have I:=kp_ok L N n (by omega);have sub:∀j,(rk L n (L n,0)).2.testBit j=true->j<n/\j∈bs L n:=by
   intro j hj;refine z2L (λj=>j<n/\j∈bs L n) ((kp L n).map Prod.snd) (L n,0) (λq hq j hj=>?_) (λj hj=>?_) j hj
   ·obtain⟨q',h1,rfl⟩:=List.mem_map.mp hq;obtain⟨_,h2,h3⟩:=I.mak q' h1;have:=h2 j hj;exact⟨by omega,this.2⟩
   ·rw[Nat.zero_testBit]at hj;cases hj
  have inv:=red_inv L N ((kp L n).map Prod.snd) (L n,0) (λq hq=>by
   obtain⟨q',h1,rfl⟩:=List.mem_map.mp hq;exact(I.mak q' h1).1)
  have inv':(rk L n (L n,0)).1 ^^^ xo L (rk L n (L n,0)).2 N=L n:=(by have:(rk L n (L n,0)).1 ^^^ xo L (rk L n (L n,0)).2 N=L n ^^^ xo L 0 N:=inv;rw[this,xo_zero,Nat.xor_zero]);by_cases z:(rk L n (L n,0)).1=0
  ·have e:kp L (n+1)=kp L n:=by rw[kp_succ,if_pos z]
   have er:∀p,rk L (n+1) p=rk L n p:=λp=>by unfold rk;rw[e]
   have eb:bs L (n+1)=bs L n:=by unfold bs;rw[e]
   refine⟨λi hi=>?_,λi hi=>?_,λi j hi hj=>?_,λq hq=>?_⟩
   ·rw[eb]at hi;rw[er];exact⟨by have:=(I.bs i hi).1;omega,(I.bs i hi).2⟩
   ·rw[er];by_cases q:i<n
    ·exact I.all i q
    ·have:i=n:=by omega
     subst this;exact z
   ·rw[er]at hj;rw[eb];by_cases q:i<n
    ·exact I.sub i j q hj
    ·have:i=n:=by omega
     subst this;have:=sub j hj;exact⟨by omega,this.2⟩
   ·rw[e]at hq;rw[eb];obtain⟨h1,h2,h3⟩:=I.mak q hq;exact⟨h1,h2,by omega⟩
  ·obtain⟨p1,p2,hp⟩:∃p1 p2,rk L n (L n,0)=(p1,p2):=⟨_,_,rfl⟩;rw[hp]at z sub inv';have e:kp L (n+1)=kp L n++[(n,(p1,p2 ||| 1<<<n))]:=by rw[kp_succ,hp,if_neg z]
   have er:∀p,rk L (n+1) p=st (rk L n p) (p1,p2 ||| 1<<<n):=λp=>by unfold rk;rw[e,List.map_append];exact z4x ..
   have eb:bs L (n+1)=bs L n++[n]:=by unfold bs;rw[e,List.map_append];rfl
   have new:rk L (n+1) (L n,0)=(0,1<<<n):=by
    rw[er,hp];unfold st;rw[if_pos (z3d z)];show(p1 ^^^ p1,p2 ^^^ (p2 ||| 1<<<n))=_;rw[Nat.xor_self,z7e];cases q:p2.testBit n with
    | false=>rfl
    | true=>have:=(sub n q).1;omega
   have old:∀i,i<n->rk L (n+1) (L i,0)=rk L n (L i,0):=λi hi=>by rw[er];have:=I.all i hi;obtain⟨a,b,hab⟩:∃a b,rk L n (L i,0)=(a,b):=⟨_,_,rfl⟩;rw[hab]at this ⊢;have:a=0:=this;subst this;exact q8P ..
   refine⟨λi hi=>?_,λi hi=>?_,λi j hi hj=>?_,λq hq=>?_⟩
   ·rw[eb]at hi;rcases List.mem_append.mp hi with q | q
    ·have:=I.bs i q;rw[old i this.1];exact⟨by omega,this.2⟩
    ·have:=List.mem_singleton.mp q;subst this;exact⟨by omega,new⟩
   ·by_cases q:i<n
    ·rw[old i q];exact I.all i q
    ·have:i=n:=by omega
     subst this;rw[new]
   ·by_cases q:i<n
    ·rw[old i q]at hj;have:=I.sub i j q hj;exact⟨this.1,q6u L n j this.2⟩
    ·have:i=n:=by omega
     subst this;rw[new]at hj;have hj':(1<<<i).testBit j=true:=hj;rw[bit1,decide_eq_true_eq]at hj';subst hj';exact⟨Nat.le_refl _,by rw[eb];exact List.mem_append_right _ (List.mem_singleton.mpr rfl)⟩
   ·rw[e]at hq;rcases List.mem_append.mp hq with q' | q'
    ·obtain⟨h1,h2,h3⟩:=I.mak q q';exact⟨h1,λj hj=>⟨(h2 j hj).1,q6u L n j (h2 j hj).2⟩,by omega⟩
    ·have:=List.mem_singleton.mp q';subst this;refine⟨?_,λj hj=>?_,Nat.lt_succ_self n⟩
     ·show p1=xo L (p2 ||| 1<<<n) N;have e1:p2 ||| 1<<<n=p2 ^^^ 1<<<n:=by
       apply Nat.eq_of_testBit_eq;intro j;rw[Nat.testBit_xor,Nat.testBit_or,bit1];by_cases q:n=j
       ·subst q;cases q:p2.testBit n with
        | false=>simp
        | true=>have:=(sub n q).1;omega
       ·simp[q]
      have i2:p1 ^^^ xo L p2 N=L n:=inv';rw[e1,q6k,q7z,if_pos (by omega),←i2,Nat.xor_comm p1,←Nat.xor_assoc,Nat.xor_self,Nat.zero_xor]
     ·have hj':(p2 ||| 1<<<n).testBit j=true:=hj;rw[Nat.testBit_or,bit1]at hj';by_cases q:n=j
      ·subst q;exact⟨Nat.le_refl _,by rw[eb];exact List.mem_append_right _ (List.mem_singleton.mpr rfl)⟩
      ·rw[show decide (n=j)=false from decide_eq_false q,Bool.or_false]at hj';have:=sub j hj';exact⟨by show j<=n;omega,q6u L n j this.2⟩
end rk
end
noncomputable section
namespace rk
def xb(f:Nat->Bool):Nat->Bool
 | 0=>false
 | n+1=>xb f n ^^ f n
theorem xb_congr{f g:Nat->Bool}:∀{n:Nat},(∀i,i<n->f i=g i)->xb f n=xb g n
 | 0,_=>rfl
 | n+1,h=>by show(xb f n ^^ f n)=(xb g n ^^ g n);rw[xb_congr (λi hi=>h i (by omega)),h n (by omega)]
theorem q6U{f:Nat->Bool}:∀{n:Nat},(∀i,i<n->f i=false)->xb f n=false
 | 0,_=>rfl
 | n+1,h=>by show(xb f n ^^ f n)=false;rw[q6U (λi hi=>h i (by omega)),h n (by omega)];rfl
theorem z2F{f:Nat->Bool}{t:Nat}:∀{n:Nat},t<n->f t=true->(∀i,i<n->i≠t->f i=false)->xb f n=true
 | 0,h,_,_=>absurd h (Nat.not_lt_zero t)
 | n+1,h,ht,ho=>by
  show(xb f n ^^ f n)=true;by_cases q:t=n
  ·subst q;rw[q6U (λi hi=>ho i (by omega) (by omega)),ht];rfl
  ·rw[z2F (t:=t) (by omega) ht (λi hi ne=>ho i (by omega) ne),ho n (by omega) (by omega)];rfl
theorem par(f:Nat->Int):∀n,decide (sm f n%2=1)=xb (λi=>decide (f i%2=1)) n
 | 0=>rfl
 | n+1=>by
  show decide ((sm f n+f n)%2=1)=(xb (λi=>decide (f i%2=1)) n ^^ decide (f n%2=1));rw[←par f n];by_cases a:sm f n%2=1<;>by_cases b:f n%2=1
  ·rw[decide_eq_true a,decide_eq_true b,decide_eq_false (by omega)];rfl
  ·rw[decide_eq_true a,decide_eq_false b,decide_eq_true (by omega)];rfl
  ·rw[decide_eq_false a,decide_eq_true b,decide_eq_true (by omega)];rfl
  ·rw[decide_eq_false a,decide_eq_false b,decide_eq_false (by omega)];rfl
theorem q9I(a b:Int):decide (a*b%2=1)=(decide (a%2=1)&&decide (b%2=1)):=by
 have h:a*b%2=(a%2)*(b%2)%2:=Int.mul_emod a b 2;rcases Int.emod_two_eq a with p | p<;>rcases Int.emod_two_eq b with q | q<;>rw[h,p,q]<;>rfl
def SS(z:Nat->Bool)(b:Nat->Nat):Nat->Nat
 | 0=>0
 | t+1=>if z t then SS z b t ^^^ 1<<<b t else SS z b t
theorem z2h(z:Nat->Bool)(b:Nat->Nat)(i:Nat):∀c,(SS z b c).testBit i=xb (λt=>z t&&decide (b t=i)) c
 | 0=>Nat.zero_testBit i
 | c+1=>by
  show(if z c then SS z b c ^^^ 1<<<b c else SS z b c).testBit i=(xb (λt=>z t&&decide (b t=i)) c ^^ (z c&&decide (b c=i)));rw[←z2h z b i c];cases z c with
  | false=>show _=(_ ^^ false);rw[Bool.xor_false];rfl
  | true=>show(SS z b c ^^^ 1<<<b c).testBit i=_;rw[Nat.testBit_xor,bit1];rfl
theorem q6m(L:Nat->Nat)(z:Nat->Bool)(b:Nat->Nat)(n j:Nat):∀c,(∀t,t<c->b t<n)->(xo L (SS z b c) n).testBit j=xb (λt=>z t&&(L (b t)).testBit j) c
 | 0,_=>by show(xo L 0 n).testBit j=false;rw[xo_zero,Nat.zero_testBit]
 | c+1,h=>by
  show(xo L (if z c then SS z b c ^^^ 1<<<b c else SS z b c) n).testBit j=(xb (λt=>z t&&(L (b t)).testBit j) c ^^ (z c&&(L (b c)).testBit j));rw[←q6m L z b n j c (λt ht=>h t (by omega))];cases z c with
  | false=>show _=(_ ^^ false);rw[Bool.xor_false];rfl
  | true=>
   show(xo L (SS z b c ^^^ 1<<<b c) n).testBit j=_;rw[q6k,q7z,if_pos (h c (by omega)),Nat.testBit_xor];rfl
theorem z6K(L:Nat->Nat)(n:Nat)(z:Nat->Bool)(b:Nat->Nat):∀c,(∀t,t<c->b t∈bs L n)->rk L n (xo L (SS z b c) n,0)=(0,SS z b c)
 | 0,_=>by show rk L n (xo L 0 n,0)=(0,0);rw[xo_zero];exact q7g ..
 | c+1,h=>by
  have I:=z6K L n z b c (λt ht=>h t (by omega));show rk L n (xo L (if z c then SS z b c ^^^ 1<<<b c else SS z b c) n,0)=(0,if z c then SS z b c ^^^ 1<<<b c else SS z b c);cases z c with
  | false=>exact I
  | true=>
   show rk L n (xo L (SS z b c ^^^ 1<<<b c) n,0)=(0,SS z b c ^^^ 1<<<b c);have K:=(kp_ok L n n (Nat.le_refl _)).bs (b c) (h c (by omega));rw[q6k,q7z,if_pos K.1];have e:=z4r ((kp L n).map (·.2)) (xo L (SS z b c) n,0) (L (b c),0);have e2:px (xo L (SS z b c) n,0) (L (b c),0)=(xo L (SS z b c) n ^^^ L (b c),0):=by unfold px;rw[Nat.xor_zero]
   rw[e2]at e;show red ((kp L n).map (·.2)) _=_;rw[e];show px (rk L n (xo L (SS z b c) n,0)) (rk L n (L (b c),0))=_;rw[I,K.2];show(0 ^^^ 0,_)=_;rw[Nat.xor_zero]
theorem q8q(L:Nat->Nat)(n:Nat):∀i∈bs L n,i<n:=λi h=>((kp_ok L n n (Nat.le_refl _)).bs i h).1
theorem z1V(L:Nat->Nat):∀n,(bs L n).Pairwise (· < ·)
 | 0=>.nil
 | n+1=>by
  have I:=z1V L n;unfold bs at I ⊢;rw[kp_succ];split
  ·exact I
  ·rw[List.map_append,List.pairwise_append];refine⟨I,List.pairwise_singleton ..,λa ha b hb=>?_⟩;have:b=n:=List.mem_singleton.mp hb;subst this;exact q8q L b a ha
theorem z8I{L:Nat->Nat}{n m:Nat}{z:Nat->Bool}(hL:∀i,i<n->L i<2^m)(hz:∃t,t<(bs L n).length/\z t=true)(h:∀j,j<m->xb (λt=>z t&&(L ((bs L n).getD t 0)).testBit j) (bs L n).length=false):False:=by
 obtain⟨t,ht,zt⟩:=hz;have hb:∀t,t<(bs L n).length->(bs L n).getD t 0∈bs L n:=λt ht=>by rw[List.getD_eq_getElem?_getD,List.getElem?_eq_getElem ht];exact List.getElem_mem ht
 have hx:xo L (SS z (λt=>(bs L n).getD t 0) (bs L n).length) n=0:=by
  apply Nat.eq_of_testBit_eq;intro j;rw[Nat.zero_testBit,q6m L z _ n j _ (λt ht=>q8q L n _ (hb t ht))];by_cases q:j<m
  ·exact h j q
  ·refine q6U λt ht=>?_;have:(L ((bs L n).getD t 0)).testBit j=false:=Nat.testBit_lt_two_pow (Nat.lt_of_lt_of_le (hL _ (q8q L n _ (hb t ht))) (Nat.pow_le_pow_right (by decide) (by omega)));rw[this,Bool.and_false]
 have e:=z6K L n z (λt=>(bs L n).getD t 0) (bs L n).length hb;rw[hx]at e;have e0:rk L n (0,0)=(0,0):=q7g ..;rw[e0]at e;have e1:SS z (λt=>(bs L n).getD t 0) (bs L n).length=0:=(congrArg Prod.snd e).symm;have e2:=z2h z (λt=>(bs L n).getD t 0) ((bs L n).getD t 0) (bs L n).length;rw[e1,Nat.zero_testBit]at e2;rw[z2F (t:=t) ht (by show(z t&&decide ((bs L n).getD t 0=(bs L n).getD t 0))=true;rw[zt];simp) (λi hi ne=>?_)]at e2
 ·cases e2
 ·have:(bs L n).getD i 0≠(bs L n).getD t 0:=by
   rw[List.getD_eq_getElem?_getD,List.getD_eq_getElem?_getD,List.getElem?_eq_getElem hi,List.getElem?_eq_getElem ht];show(bs L n)[i]≠(bs L n)[t];have P:=List.pairwise_iff_getElem.mp (z1V L n);rcases Nat.lt_or_gt_of_ne ne with q | q
   ·have:=P i t hi ht q;omega
   ·have:=P t i ht hi q;omega
  show(z i&&decide ((bs L n).getD i 0=(bs L n).getD t 0))=false;rw[decide_eq_false this,Bool.and_false]
theorem z0D(a:Int):P2 a↔decide (a%2=1)=false:=by
 show a%2=0↔_;rw[decide_eq_false_iff_not];omega
theorem xo_bits(L:Nat->Nat)(k j:Nat):∀n,(xo L k n).testBit j=xb (λi=>k.testBit i&&(L i).testBit j) n
 | 0=>Nat.zero_testBit j
 | n+1=>by
  show(if k.testBit n then xo L k n ^^^ L n else xo L k n).testBit j=(xb (λi=>k.testBit i&&(L i).testBit j) n ^^ (k.testBit n&&(L n).testBit j));rw[←xo_bits L k j n];cases k.testBit n with
  | false=>show _=(_ ^^ false);rw[Bool.xor_false];rfl
  | true=>show(xo L k n ^^^ L n).testBit j=_;rw[Nat.testBit_xor];rfl
theorem z2W(f:Nat->Bool)(n:Nat):∀(b:List Nat),b.Pairwise (· < ·)->(∀i∈b,i<n)->(∀i,i<n->f i=true->i∈b)->xb f n=xb (λt=>f (b.getD t 0)) b.length:=by
 induction n with
 | zero=>
  intro b _ h _;cases b with
  | nil=>rfl
  | cons x b=>exact absurd (h x List.mem_cons_self) (Nat.not_lt_zero x)
 | succ n ih=>
  intro b up h hf;show(xb f n ^^ f n)=_;by_cases q:n∈b
  ·-- the last one
   obtain⟨b',rfl⟩:∃b',b=b'++[n]:=by
    obtain⟨A,C,rfl⟩:=List.append_of_mem q;cases C with
    | nil=>exact⟨A,rfl⟩
    | cons y C=>
     have h1:=(List.pairwise_append.mp up).2.1;have h2:=(List.pairwise_cons.mp h1).1 y List.mem_cons_self;have h3:=h y (List.mem_append_right _ (List.mem_cons_of_mem _ List.mem_cons_self));omega
   have up':=(List.pairwise_append.mp up).1;have lt':∀i∈b',i<n:=λi hi=>(List.pairwise_append.mp up).2.2 i hi n (List.mem_singleton.mpr rfl);rw[ih b' up' lt' (λi hi q=>by
    rcases List.mem_append.mp (hf i (by omega) q)with w | w
    ·exact w
    ·have:=List.mem_singleton.mp w;omega)]
   rw[List.length_append,List.length_singleton];show _=(xb (λt=>f ((b'++[n]).getD t 0)) b'.length ^^ f ((b'++[n]).getD b'.length 0));rw[q8O,xb_congr (f:=λt=>f ((b'++[n]).getD t 0)) (g:=λt=>f (b'.getD t 0)) λt ht=>by rw[q9d ht]]
  ·have fn:f n=false:=by
    cases w:f n with
    | false=>rfl
    | true=>exact absurd (hf n (by omega) w) q
   rw[fn,Bool.xor_false];refine ih b up (λi hi=>?_) (λi hi w=>hf i (by omega) w);have:=h i hi;rcases Nat.lt_or_ge i n with w | w
   ·exact w
   ·have:i=n:=by omega
    subst this;exact absurd hi q
theorem bas2{v:Nat->Rw}{L:Nat->Nat}{n m:Nat}(hL:∀i,i<n->L i<2^m)(h:∀i,i<n->∀j,j<m->(L i).testBit j=decide (v i j%2=1)):Bas P2 v n m (bs L n):=by
 have hb:∀t,t<(bs L n).length->(bs L n).getD t 0<n:=λt ht=>q8q L n _ (by
  rw[List.getD_eq_getElem?_getD,List.getElem?_eq_getElem ht];exact List.getElem_mem ht)
 refine⟨q8q L n,z1V L n,λc hs i hi=>?_,λi hi=>?_⟩
 ·refine Classical.byContradiction λnc=>?_;have nc':c i%2=1:=by
   have:¬c i%2=0:=nc;omega
  refine z8I hL ⟨i,hi,by show decide (c i%2=1)=true;rw[decide_eq_true_eq];exact nc'⟩ (z:=λt=>decide (c t%2=1)) λj hj=>?_;have p:=par (λt=>c t*v ((bs L n).getD t 0) j) (bs L n).length;rw[(z0D _).mp (hs j hj)]at p;rw[p];exact xb_congr λt ht=>by rw[q9I,h _ (hb t ht) j hj]
 ·have K:=kp_ok L n n (Nat.le_refl _);have inv:=red_inv L n ((kp L n).map Prod.snd) (L i,0) (λq hq=>by
   obtain⟨q',h1,rfl⟩:=List.mem_map.mp hq;exact(K.mak q' h1).1)
  have inv':(rk L n (L i,0)).1 ^^^ xo L (rk L n (L i,0)).2 n=L i ^^^ xo L 0 n:=inv;rw[K.all i hi,Nat.zero_xor,xo_zero,Nat.xor_zero]at inv';obtain⟨k,hk⟩:∃k,(rk L n (L i,0)).2=k:=⟨_,rfl⟩;rw[hk]at inv';refine⟨1,λs=>if k.testBit ((bs L n).getD s 0)then 1 else 0,pr2.one,λj hj=>?_⟩;rw[z0D,Int.one_mul];have e1:decide (v i j%2=1)=decide (sm (λs=>(if k.testBit ((bs L n).getD s 0)then 1 else 0)*v ((bs L n).getD s 0) j) (bs L n).length%2=1):=by
   rw[←h i hi j hj,←inv',xo_bits,par,z2W _ n (bs L n) (z1V L n) (q8q L n) (λi' hi' w=>by
    rw[Bool.and_eq_true]at w;exact(K.sub i i' hi (by rw[hk];exact w.1)).2)]
   refine xb_congr λt ht=>?_;rw[q9I,h _ (hb t ht) j hj];cases k.testBit ((bs L n).getD t 0)<;>rfl
  have e2:=decide_eq_decide.mp e1;have gen:∀a S:Int,(a%2=1↔S%2=1)->decide ((a - S)%2=1)=false:=(by intro a S q;rw[decide_eq_false_iff_not];omega);exact gen _ _ e2
end rk
end
noncomputable section
namespace rk
theorem z8R{v:Nat->Nat->Int}{r m:Nat}(h:Ind P2 v r m):Ind P0 v r m:=λc hc i hi=>by
 refine Classical.byContradiction λne=>?_;obtain⟨c',⟨i',hi',o⟩,h'⟩:=z0J r m v (c i).natAbs c i hi ne (Nat.le_refl _) hc;have q:c' i'%2=0:=h c' (λj hj=>by show _%2=0;rw[h' j hj];rfl) i' hi';omega
theorem rank_le{v:Nat->Rw}{n m:Nat}{b e:List Nat}(B:Bas P2 v n m b)(C:Bas P0 v n m e):b.length<=e.length:=exch pr0 (z8R B.ind) λi hi=>C.sp _ (Bas.at pr2 B i hi)
theorem par_flt(f:Nat->Int)(p:Nat->Bool):∀n,decide ((((List.range n).filter p).map f).sum%2=1)=xb (λi=>p i&&decide (f i%2=1)) n
 | 0=>rfl
 | n+1=>by
  show _=(xb (λi=>p i&&decide (f i%2=1)) n ^^ (p n&&decide (f n%2=1)));rw[←par_flt f p n,List.range_succ,List.filter_append,List.map_append,List.sum_append];cases q:p n with
  | false=>rw[List.filter_cons_of_neg (by rw[q];decide)];simp
  | true=>
   rw[List.filter_cons_of_pos q];generalize (((List.range n).filter p).map f).sum=S;simp only[List.filter_nil,List.map_cons,List.map_nil,List.sum_cons,List.sum_nil,Int.add_zero,Bool.true_and];by_cases a:S%2=1<;>by_cases b:f n%2=1
   ·rw[decide_eq_true a,decide_eq_true b,decide_eq_false (by omega)];rfl
   ·rw[decide_eq_true a,decide_eq_false b,decide_eq_true (by omega)];rfl
   ·rw[decide_eq_false a,decide_eq_true b,decide_eq_true (by omega)];rfl
   ·rw[decide_eq_false a,decide_eq_false b,decide_eq_false (by omega)];rfl
def pt:Nat->List Nat->List Nat
 | _,[]=>[]
 | x,r::l=>if x%2=1 then r::pt (x/2) l else pt (x/2) l
theorem pt_in:∀(l:List Nat) (x:Nat),∀r∈pt x l,r∈l
 | [],_,r,h=>by cases h
 | a::l,x,r,h=>by
  unfold pt at h;split at h
  ·rcases List.mem_cons.mp h with z | z
   ·rw[z];exact List.mem_cons_self
   ·exact List.mem_cons_of_mem _ (pt_in l _ r z)
  ·exact List.mem_cons_of_mem _ (pt_in l _ r h)
theorem z2i(f:Nat->Int):∀(l:List Nat) (x:Nat),((pt x l).map f).sum=sm (λt=>((x/2^t%2:Nat):Int)*f (l.getD t 0)) l.length
 | [],_=>rfl
 | a::l,x=>by
  rw[List.length_cons,q7m];have e:sm (λi=>((x/2^(i+1)%2:Nat):Int)*f ((a::l).getD (i+1) 0)) l.length=((pt (x/2) l).map f).sum:=by
   rw[z2i f l (x/2)];refine sm_congr λi _=>?_
   rw[List.getD_cons_succ,Nat.pow_succ,Nat.mul_comm,←Nat.div_div_eq_div_mul]
  rw[e,List.getD_cons_zero,Nat.pow_zero,Nat.div_one];rw[show pt x (a::l)=if x%2=1 then a::pt (x/2) l else pt (x/2) l from rfl];rcases Nat.mod_two_eq_zero_or_one x with q | q
  ·rw[q,if_neg (by omega),show((0:Nat):Int)=0 from rfl,Int.zero_mul,Int.zero_add]
  ·rw[q,if_pos rfl,List.map_cons,List.sum_cons,show((1:Nat):Int)=1 from rfl,Int.one_mul]
theorem z6t:∀(n x:Nat),x<2^n->(∀t,t<n->x/2^t%2=0)->x=0
 | 0,x,h,_=>by rw[Nat.pow_zero]at h;omega
 | n+1,x,h,q=>by
  have q0:=q 0 (by omega);rw[Nat.pow_zero,Nat.div_one]at q0;have:=z6t n (x/2) (by rw[Nat.pow_succ]at h;omega) λt ht=>by have:=q (t+1) (by omega);rw[Nat.pow_succ,Nat.mul_comm,←Nat.div_div_eq_div_mul]at this;exact this
  omega
theorem Bas.odd{v:Nat->Rw}{n m:Nat}{b:List Nat}(B:Bas P2 v n m b){x:Nat}(x0:0<x)(hx:x<2^b.length):∃j,j<m/\((pt x b).map λi=>v i j).sum%2=1:=by
 refine Classical.byContradiction λno=>?_;have hz:=B.ind (λt=>((x/2^t%2:Nat):Int)) λj hj=>by
  show _%2=0;have e:=z2i (λi=>v i j) b x;rw[←e];have:¬((pt x b).map λi=>v i j).sum%2=1:=λz=>no ⟨j,hj,z⟩
  omega
 have:=z6t b.length x hx λt ht=>by have:((x/2^t%2:Nat):Int)%2=0:=hz t ht;omega
 omega
end rk
end
noncomputable section
namespace k43
open PySem L2
def q2J:FD:={n:=3,np:=3,dfl:=[],body:=[.ret (.and [.isi (.var 0) ["int"],.not (.isi (.var 0) ["bool"]),.chain .LtE .LtE (.var 1) (.var 0) (.var 2)])]}
def q3i:FD:={n:=1,np:=1,dfl:=[],body:=[.ret (.bi .tuple [.comp (.bi .tuple [.comp (.ix (.var 0) (.var 1)) (.one 0) (.var 1) [none,some 0]]) (.one 0) (.rng [.bi .len [.ix (.var 0) (.int 0)]]) [none,some 0]])]}
def q1K:FD:={n:=2,np:=2,dfl:=[],body:=[.iff (.not (.call 0 [.var 0,.int 0,.bin .Sub (.var 1) (.int 1)])) [.rse "NoCard" (.str "a card is an int from 0 on, less than the number of its side's cards")] []]}
def q2c:FD:={n:=1,np:=1,dfl:=[],body:=[.ret (.compi (.var 0) (.one 0) (.rng [.meth .bitLength (.var 0) []]) (.bin .BitAnd (.bin .RShift (.var 1) (.var 0)) (.int 1)) [none,some 0])]}
def q1n:FD:={n:=1,np:=1,dfl:=[],body:=[.ret2 (.call 8 [.call 7 [.var 0]]) (.call 8 [.call 7 [.call 1 [.var 0]]])]}
def q1Q:FD:={n:=1,np:=1,dfl:=[],body:=[.ret (.bi .len [.call 8 [.call 7 [.var 0]]])]}
def q0H:FD:={n:=3,np:=2,dfl:=[],body:=[.exp (.call 2 [.var 1,.bi .len [.var 0]]),.set 2 false (.call 7 [.var 0]),.ret (.call 3 [.ix (.call 10 [.ix (.var 2) (.var 1),.call 9 [.var 2]]) (.int 1)])]}
def q1F:FD:={n:=1,np:=1,dfl:=[],body:=[.ret (.comp (.bi .sum [.comp (.bin .LShift (.bin .Mod (.var 1) (.int 2)) (.var 0)) (.many [0,1]) (.enu (.var 0)) [none,none]]) (.one 0) (.var 0) [none])]}
def q1V:FD:={n:=1,np:=1,dfl:=[],body:=[.ret (.comp (.var 0) (.many [0,1,2]) (.call 9 [.var 0]) [none,none,none])]}
def q2A:FD:={n:=5,np:=1,dfl:=[],body:=[.set 1 true (.lst []),.fo (.many [2,3]) (.enu (.var 0)) [.set 4 false (.call 10 [.var 3,.var 1]),.iff (.cmp .NotEq (.ix (.var 4) (.int 0)) (.int 0)) [.app 1 (.tup [.var 2,.ix (.var 4) (.int 0),.bin .BitOr (.ix (.var 4) (.int 1)) (.bin .LShift (.int 1) (.var 2))])] []],.ret (.var 1)]}
def q1i:FD:={n:=7,np:=2,dfl:=[],body:=[.set 2 false (.var 0),.set 3 false (.int 0),.fo (.many [4,5,6]) (.var 1) [.iff (.cmp .Eq (.bin .BitAnd (.bin .RShift (.var 2) (.bin .Sub (.meth .bitLength (.var 5) []) (.int 1))) (.int 1)) (.int 1)) [.set 2 false (.bin .BitXor (.var 2) (.var 5)),.set 3 false (.bin .BitXor (.var 3) (.var 6))] []],.ret (.tup [.var 2,.var 3])]}
def z0g:FD:={n:=1,np:=1,dfl:=[],body:=[.ret (.bi .len [.call 12 [.var 0]])]}
def q2t:FD:={n:=6,np:=1,dfl:=[],body:=[.set 1 true (.lst []),.set 2 true (.lst []),.fo (.many [3,4]) (.enu (.var 0)) [.set 5 false (.call 13 [.var 4,.var 2]),.iff (.bi .any [.comp (.cmp .NotEq (.var 0) (.int 0)) (.one 0) (.var 5) [none]]) [.app 1 (.var 3),.app 2 (.var 5)] []],.ret (.var 1)]}
def q4j:FD:={n:=6,np:=2,dfl:=[],body:=[.set 2 true (.bi .list [.var 0]),.fo (.one 3) (.var 1) [.set 4 false (.call 14 [.var 3]),.set 5 false (.ix (.var 2) (.var 4)),.set 2 true (.comp (.bin .Sub (.bin .Mult (.var 0) (.ix (.var 2) (.var 3))) (.bin .Mult (.var 4) (.var 1))) (.many [0,1]) (.zp (.var 2) (.var 3)) [none,none,some 3,some 4,some 5])],.ret (.var 2)]}
def q1D:FD:={n:=1,np:=1,dfl:=[],body:=[.ret (.ix (.compi (.var 0) (.many [0,1]) (.enu (.var 0)) (.cmp .NotEq (.var 1) (.int 0)) [none,none]) (.int 0))]}
def q3t:FD:={n:=1,np:=1,dfl:=[],body:=[.ret (.and [.isi (.var 0) ["int"],.not (.isi (.var 0) ["bool"])])]}
def q1l:FD:={n:=2,np:=2,dfl:=[],body:=[.iff (.cmp .Lt (.var 1) (.bi .len [.var 0])) [.ret (.ix (.var 0) (.var 1))] [],.ret (.int 0)]}
def q1w:FD:={n:=5,np:=2,dfl:=[],body:=[.set 2 true (.lst []),.set 3 false (.bin .Add (.bin .Mod (.var 0) (.int 2147483647)) (.int 48271)),.fo (.one 4) (.rng [.var 1]) [.set 3 false (.bin .Mod (.bin .Add (.bin .Add (.bin .Mult (.var 3) (.int 48271)) (.bin .Mult (.var 4) (.var 4))) (.int 11)) (.int 2147483647)),.app 2 (.bin .FloorDiv (.var 3) (.int 7))],.ret (.var 2)]}
def q1L:FD:={n:=8,np:=3,dfl:=[],body:=[.set 3 false (.call 17 [.call 16 [.var 0,.int 0],.int 3]),.set 4 false (.bin .Add (.int 1) (.bin .Mod (.ix (.var 3) (.int 0)) (.int 8))),.set 5 false (.bin .Add (.int 1) (.bin .Mod (.ix (.var 3) (.int 1)) (.int 8))),.set 6 true (.comp (.bin .Mod (.var 0) (.var 1)) (.one 0) (.call 17 [.call 16 [.var 0,.int 1],.bin .Mult (.var 4) (.var 5)]) [none,some 2]),.fo (.one 7) (.rng [.bi .min [.bin .Mult (.var 4) (.var 5),.bin .Sub (.bi .len [.var 0]) (.var 1)]]) [.seti 6 (.var 7) (.bin .Mod (.ix (.var 0) (.bin .Add (.var 1) (.var 7))) (.var 2))],.ret (.comp (.sl (.var 1) (.bin .Mult (.var 0) (.var 2)) (.bin .Add (.bin .Mult (.var 0) (.var 2)) (.var 2))) (.one 0) (.rng [.var 4]) [none,some 6,some 5])]}
def q1e:FD:={n:=1,np:=1,dfl:=[],body:=[.ret (.bi .tuple [.comp (.bi .tuple [.var 0]) (.one 0) (.var 0) [none]])]}
def q2v:FD:={n:=7,np:=2,dfl:=[],body:=[.set 0 true (.comp (.bi .list [.var 0]) (.one 0) (.var 0) [none]),.fo (.one 2) (.rng [.bin .Mod (.ix (.var 1) (.int 0)) (.int 4)]) [.set 3 false (.bin .Mod (.ix (.var 1) (.bin .Add (.int 1) (.var 2))) (.bi .len [.var 0])),.set 4 false (.ix (.var 0) (.bin .Mod (.ix (.var 1) (.bin .Add (.int 5) (.var 2))) (.bi .len [.var 0]))),.set 5 false (.ix (.var 0) (.bin .Mod (.ix (.var 1) (.bin .Add (.int 9) (.var 2))) (.bi .len [.var 0]))),.set 6 false (.bin .Mod (.ix (.var 1) (.bin .Add (.int 13) (.var 2))) (.int 4)),.iff (.cmp .Eq (.var 6) (.int 0)) [.seti 0 (.var 3) (.bi .list [.var 4])] [],.iff (.and [.cmp .Eq (.var 6) (.int 1),.cmp .Lt (.bin .Add (.bi .max [.var 4]) (.bi .max [.var 5])) (.int 10)]) [.seti 0 (.var 3) (.comp (.bin .Add (.var 0) (.var 1)) (.many [0,1]) (.zp (.var 4) (.var 5)) [none,none])] [],.iff (.and [.cmp .Eq (.var 6) (.int 2),.cmp .Lt (.bi .max [.var 4]) (.int 5)]) [.seti 0 (.var 3) (.comp (.bin .Mult (.int 2) (.var 0)) (.one 0) (.var 4) [none])] [],.iff (.cmp .Eq (.var 6) (.int 3)) [.seti 0 (.var 3) (.bin .Mult (.lst [.int 0]) (.bi .len [.var 4]))] []],.ret (.var 0)]}
def q1v:FD:={n:=4,np:=2,dfl:=[],body:=[.iff (.not (.isi (.var 0) ["list"])) [.ret (.bl false)] [],.set 2 false (.neg (.int 1)),.fo (.one 3) (.var 0) [.iff (.or [.not (.call 15 [.var 3]),.cmp .LtE (.var 3) (.var 2),.cmp .GtE (.var 3) (.var 1)]) [.ret (.bl false)] [],.set 2 false (.var 3)],.ret (.bl true)]}
def q2I:FD:={n:=2,np:=2,dfl:=[],body:=[.ret (.comp (.bin .Mod (.bi .sum [.comp (.ix (.ix (.var 1) (.var 0)) (.var 2)) (.one 0) (.var 1) [none,some 2,some 0]]) (.int 2)) (.one 0) (.rng [.bi .len [.ix (.var 0) (.int 0)]]) [none,some 1,some 0])]}
def q1N:FD:={n:=5,np:=2,dfl:=[],body:=[.fo (.one 2) (.rng [.int 1,.ix (.lst [.int 1,.int 2,.int 4,.int 8,.int 16,.int 32,.int 64,.int 128,.int 256]) (.bi .len [.var 1])]) [.set 3 true (.lst []),.fo (.one 4) (.var 1) [.iff (.cmp .Eq (.bin .Mod (.var 2) (.int 2)) (.int 1)) [.app 3 (.var 4)] [],.set 2 false (.bin .FloorDiv (.var 2) (.int 2))],.iff (.cmp .Eq (.bi .sum [.call 22 [.var 0,.var 3]]) (.int 0)) [.ret (.bl false)] []],.ret (.bl true)]}
def q1k:FD:={n:=4,np:=2,dfl:=[],body:=[.set 2 false (.non),.tryc [.exp (.call 6 [.var 0,.var 1])] "TalkError" 3 2,.iff (.or [.cmp .Is (.var 2) (.non),.not (.isx (.var 2) "NoCard"),.not (.isx (.var 2) "ValueError")]) [.ret (.bl false)] [],.ret (.not (.isx (.var 2) "TooGreat"))]}
def q1m:FD:={n:=5,np:=3,dfl:=[],body:=[.fo (.one 3) (.rng [.bi .len [.var 0]]) [.set 4 true (.call 6 [.var 1,.var 3]),.iff (.or [.not (.call 21 [.var 4,.bin .Add (.var 3) (.int 1)]),.cmp .NotEq (.call 22 [.var 0,.var 4]) (.comp (.bin .Mod (.var 0) (.int 2)) (.one 0) (.ix (.var 0) (.var 3)) [none])]) [.ret (.bl false)] [],.iff (.or [.cmp .Gt (.bi .len [.compi (.var 0) (.one 0) (.var 4) (.cmp .NotIn (.var 0) (.var 1)) [none,some 2]]) (.int 0),.and [.cmp .In (.var 3) (.var 2),.cmp .NotEq (.var 4) (.lst [.var 3])]]) [.ret (.bl false)] [],.app 4 (.int 0),.iff (.cmp .NotEq (.call 6 [.var 1,.var 3]) (.slt (.var 4) (.neg (.int 1)))) [.ret (.bl false)] []],.ret (.bl true)]}
def q6o:FD:={n:=8,np:=1,dfl:=[],body:=[.set 1 false (.call 17 [.call 16 [.var 0,.int 2],.int 20]),.set 2 false (.call 18 [.var 0,.int 4,.ix (.lst [.int 2,.int 4,.int 10]) (.bin .Mod (.ix (.var 1) (.int 17)) (.int 3))]),.iff (.cmp .Gt (.bin .Mod (.ix (.var 1) (.int 18)) (.int 3)) (.int 0)) [.set 2 false (.call 20 [.var 2,.var 1])] [],.iff (.cmp .Eq (.bin .Mod (.ix (.var 1) (.int 18)) (.int 3)) (.int 2)) [.set 2 false (.comp (.comp (.ix (.var 0) (.var 1)) (.one 0) (.var 1) [none,some 0]) (.one 0) (.rng [.bi .len [.ix (.var 2) (.int 0)]]) [none,some 2])] [],.set 3 false (.call 19 [.var 2]),.setp 4 4 [.var 3],.set 5 false (.call 5 [.var 3]),.iff (.or [.not (.isi (.var 4) ["tuple"]),.cmp .NotEq (.bi .len [.var 4]) (.int 2),.not (.call 15 [.var 5]),.cmp .Gt (.var 5) (.call 11 [.var 3])]) [.ret (.bl false)] [],.iff (.or [.not (.call 21 [.ix (.var 4) (.int 0),.bi .len [.var 2]]),.not (.call 21 [.ix (.var 4) (.int 1),.bi .len [.ix (.var 2) (.int 0)]])]) [.ret (.bl false)] [],.iff (.or [.cmp .NotEq (.bi .len [.ix (.var 4) (.int 0)]) (.var 5),.cmp .NotEq (.bi .len [.ix (.var 4) (.int 1)]) (.var 5),.not (.call 23 [.var 2,.ix (.var 4) (.int 0)])]) [.ret (.bl false)] [],.set 6 false (.tup [.bi .lsti [.ix (.var 4) (.int 0)],.bi .lsti [.ix (.var 4) (.int 1)]]),.oclr 4 0,.oapp 4 1 (.int 0),.iff (.or [.not (.call 25 [.var 2,.var 3,.ix (.var 6) (.int 0)]),.cmp .NotEq (.call 4 [.var 3]) (.var 6)]) [.ret (.bl false)] [],.set 7 false (.ix (.lst [.bi .len [.var 2],.neg (.int 1),.int 10000,.bl true,.non,.str "0",.lst [.int 0],.bl false]) (.bin .Mod (.ix (.var 1) (.int 19)) (.int 8))),.ret (.and [.call 24 [.var 3,.var 7],.cmp .Eq (.call 4 [.call 1 [.var 3]]) (.tup [.ix (.var 6) (.int 1),.ix (.var 6) (.int 0)])])]}
def T:List FD:=[q2J,q3i,q1K,q2c,q1n,q1Q,q0H,q1F,q1V,q2A,q1i,z0g,q2t,q4j,q1D,q3t,q1l,q1w,q1L,q1e,q2v,q1v,q2I,q1N,q1k,q1m,q6o]
def G:Gs:={con:=[],cls:=[("TalkError",["ValueError","Exception","BaseException","object"]),("NoCard",["TalkError","ValueError","Exception","BaseException","object"]),("TooGreat",["TalkError","ValueError","Exception","BaseException","object"])]}
end k43
namespace k43
open PySem L2
variable {fu k:Nat} {F:Nat->List DV->Option Ou} {δ:List Sv} {ds:List DV} {cl:Cl} {N M:Nat} {R:List (List Int)}
theorem q8G(ns:List Int)(j:Nat):∃v:Int,run G T fu (k+1) 16 [.scr ns,.int j]=some (.v (.int v) false):=by
 rw[q0E (fd:=q1l) rfl rfl];unfold q1l;by_cases h:j<ns.length
 ·refine⟨ns[j],q1x (z7o (q0B (cl:=.strong) ?_) (q1p ?_))⟩
  ·simp[evE,evEs,q0V,q3b,q0m,biOk,biD,lenD,cmpD,h]
  ·simp[evS,evE,q0V,q0m,ixD,q2s,h,Re.thnS,frD,retD,Cl.item]
 ·refine⟨0,q1x (q1f (q0B (cl:=.strong) ?_) (q1p rfl))⟩;simp[evE,evEs,q0V,q3b,q0m,biOk,biD,lenD,cmpD];omega
theorem z1T(xs:List Int)(v:Int):xs.map DV.int++[.int v]=(xs++[v]).map DV.int:=by rw[List.map_append];rfl
theorem q9v{F:Nat->List DV->Option Ou}{δ:List Sv}{e:ME}{n:Nat}{cl:Cl}(h:evE G F e δ=some (.ok (.int n) cl))(hn:n<=1000):q0A (evE G F (.rng [e]) δ)=some (.ok (upTo 0 n) .fresh):=by
 show q0A (Rs.thn (evEs G F [e] δ) (λl=>(rngD l).map λds=>.ok (.lst ds) .fresh))=_;rw[q0a h q0d,q3b];have hs:(q0R (n:Int)&&decide ((n:Int)<=(mostLen:Int)))=true:=by rw[Bool.and_eq_true,decide_eq_true_iff];refine⟨?_,Int.le_trans (show(n:Int)<=1000 by omega) (by decide)⟩;unfold q0R;rw[Bool.and_eq_true,decide_eq_true_iff,decide_eq_true_iff];exact⟨Int.le_trans (by decide) (Int.natCast_nonneg n),Int.lt_of_le_of_lt (show(n:Int)<=1000 by omega) (by decide)⟩
 show q0A ((if q0R (n:Int)&&decide ((n:Int)<=(mostLen:Int))then some (upTo 0 (n:Int).toNat)else none).map λds=>.ok (.lst ds) .fresh)=_;rw[if_pos hs,Int.toNat_natCast];rfl
theorem z8B{j:Nat}(hj:j<1000):q2Z (j:Int) (j:Int)=true:=by unfold q2Z;simp;omega
theorem m48(x:Int):q2Z x 48271=true:=by unfold q2Z;simp
theorem q3P{e:ME}{ds:List DV}{c:Cl}(h:evE G F e δ=some (.ok (.lst ds) c)):evE G F (.bi .tuple [e]) δ=some (.ok (.tup ds) c.item):=by
 show Rs.thn (evEs G F [e] δ) (λl=>q4C l)=_;rw[q0a h q0d];rfl
theorem q2w{e:ME}{ds:List DV}{c:Cl}(h:evE G F e δ=some (.ok (.lst ds) c)):evE G F (.bi .len [e]) δ=some (.ok (.int ds.length) .strong):=by
 show Rs.thn (evEs G F [e] δ) (λl=>lenD l)=_;rw[q0a h q0d];rfl
theorem q6S{e:ME}{ds:List DV}{c:Cl}(h:evE G F e δ=some (.ok (.tup ds) c)):evE G F (.bi .len [e]) δ=some (.ok (.int ds.length) .strong):=by
 show Rs.thn (evEs G F [e] δ) (λl=>lenD l)=_;rw[q0a h q0d];rfl
def iD(r:List Int):List DV:=r.map DV.int
def rL(rows:List (List Int)):DV:=.lst (rows.map λr=>.lst (iD r))
def tT(rows:List (List Int)):DV:=.tup (rows.map λr=>.tup (iD r))
def Rect(n m:Nat)(rows:List (List Int)):Prop:=rows.length=n/\∀r∈rows,r.length=m
def col(rows:List (List Int))(j:Nat):List Int:=rows.map λr=>r.getD j 0
def flip(m:Nat)(rows:List (List Int)):List (List Int):=(List.range m).map (col rows)
theorem z3y{r:List Int}{j:Nat}(h:j<r.length):ixD (.tup (iD r)) (.int j)=some (.int (r.getD j 0)):=by
 have hh:(j:Int)<((r.map DV.int).length:Int):=by rw[List.length_map];exact_mod_cast h
 unfold iD;simp only[ixD,atD,q2s,if_pos (Int.natCast_nonneg j),if_pos hh,Option.bind_some,Int.toNat_natCast,List.getElem?_map,List.getElem?_eq_getElem h,Option.map_some,List.getD_eq_getElem?_getD,Option.getD_some]
theorem q1U{r:List Int}{j:Nat}(h:j<r.length):ixD (.lst (iD r)) (.int j)=some (.int (r.getD j 0)):=by
 have hh:(j:Int)<((r.map DV.int).length:Int):=by rw[List.length_map];exact_mod_cast h
 unfold iD;simp only[ixD,atD,q2s,if_pos (Int.natCast_nonneg j),if_pos hh,Option.bind_some,Int.toNat_natCast,List.getElem?_map,List.getElem?_eq_getElem h,Option.map_some,List.getD_eq_getElem?_getD,Option.getD_some]
def sub(rows:List (List Int))(I J:List Nat):List (List Int):=I.map λi=>J.map λj=>(rows.getD i []).getD j 0
theorem z6L{rows:List (List Int)}{i:Nat}(h:i<rows.length):ixD (tT rows) (.int i)=some (.tup (iD (rows.getD i []))):=by
 have hh:(i:Int)<((rows.map λr=>DV.tup (iD r)).length:Int):=by rw[List.length_map];exact_mod_cast h
 simp only[tT,ixD,atD,q2s,if_pos (Int.natCast_nonneg i),if_pos hh,Option.bind_some,Int.toNat_natCast,List.getElem?_map,List.getElem?_eq_getElem h,Option.map_some,List.getD_eq_getElem?_getD,Option.getD_some]
theorem q1O{rows:List (List Int)}{i:Nat}(h:i<rows.length):rows.getD i []∈rows:=by
 rw[List.getD_eq_getElem?_getD,List.getElem?_eq_getElem h];exact List.getElem_mem h
theorem q2W(n:Nat):∀r:List Int,DV.plains n (iD r)=true
 | []=>by unfold iD;simp[DV.plains]
 | a::r=>by have q:=q2W n r;unfold iD at q ⊢;rw[List.map_cons];unfold DV.plains;rw[q];cases n<;>rfl
theorem z1F{elt it:ME}{tg:Tg}{fr:List (Option Nat)}{f:DV->DV}(hw:q0A (evE G F it δ)=some (.ok ds cl))(hc:cl ≠ .weak)(hl:ds.length<=mostLen)
  (h:∀d∈ds,∃δ' c,tg.bind d (q0K fr δ)=some δ'/\evE G F elt δ'=some (.ok (f d) c)/\stro (f d) c=true):evE G F (.comp elt tg it fr) δ=some (.ok (.lst (ds.map f)) .fresh):=by
 show Ri.thn (q0A (evE G F it δ)) (λds c=>if c=.weak\/mostLen<ds.length then none else q1h (q0C (λd=>(tg.bind d (q0K fr δ)).bind λδ'=>Rc.of (evE G F elt δ')) ds))=_;rw[hw,q4v,if_neg (by rintro(z | z);exact hc z;omega),q3u (f:=f) (λd hd=>?_)]
 ·rfl
 ·obtain⟨δ',c,e1,e2,e3⟩:=h d hd;rw[e1,Option.bind_some,e2];show(if stro (f d) c then some (Rc.item (f d))else none)=_;rw[if_pos e3]
theorem z8q{e:ME}{i:Int}{cl:Cl}(h:evE G F e δ=some (.ok (.int i) cl))(h1:i<=1000)(h2 : -1000<=i):q0A (evE G F (.rng [e]) δ)=some (.ok (upTo 0 i.toNat) .fresh):=by
 show q0A (Rs.thn (evEs G F [e] δ) (λl=>(rngD l).map λds=>.ok (.lst ds) .fresh))=_;rw[q0a h q0d,q3b];have hs:(q0R i&&decide (i<=(mostLen:Int)))=true:=by rw[Bool.and_eq_true,decide_eq_true_iff];refine⟨?_,Int.le_trans h1 (by decide)⟩;unfold q0R;rw[Bool.and_eq_true,decide_eq_true_iff,decide_eq_true_iff];exact⟨Int.le_trans (by decide) h2,Int.lt_of_le_of_lt h1 (by decide)⟩
 show q0A ((if q0R i&&decide (i<=(mostLen:Int))then some (upTo 0 i.toNat)else none).map λds=>.ok (.lst ds) .fresh)=_;rw[if_pos hs];rfl
def q5J(n m:Nat)(ws:List Int):List (List Int):=(List.range n).map λj=>(ws.drop (j*m)).take m
theorem q9Z{n m:Nat}{ws:List Int}(h:ws.length=n*m):Rect n m (q5J n m ws):=by
 unfold q5J;refine⟨by rw[List.length_map,List.length_range],λr hr=>?_⟩;obtain⟨j,hj,rfl⟩:=List.mem_map.mp hr;have hj':=List.mem_range.mp hj;rw[List.length_take,List.length_drop,h];have:(j+1)*m<=n*m:=Nat.mul_le_mul_right m hj';rw[Nat.add_mul,Nat.one_mul]at this;omega
theorem z8m{a lo hi:ME}{ds:List DV}{c c1 c2:Cl}{l h:Int}(ha:evE G F a δ=some (.ok (.lst ds) c))(hl:evE G F lo δ=some (.ok (.int l) c1))(hh:evE G F hi δ=some (.ok (.int h) c2)):evE G F (.sl a lo hi) δ=some (.ok (.lst (cutD ds (some l) (some h))) (Cl.anew c c)):=by
 unfold evE;rw[ha,q0V,hl,q0V];show Re.thn (evE G F hi δ) _=_;rw[hh];rfl
theorem z3k{ws:List Int}{n m j:Nat}(h:ws.length=n*m)(hj:j<n):cutD (iD ws) (some ((j:Int)*m)) (some ((j:Int)*m+m))=iD ((ws.drop (j*m)).take m):=by
 have e1:((j:Int)*m)=((j*m:Nat):Int):=by push_cast;rfl
 have e2:((j:Int)*m+m)=((j*m+m:Nat):Int):=by push_cast;rfl
 have le:j*m+m<=n*m:=(by have:(j+1)*m<=n*m:=Nat.mul_le_mul_right m hj;rw[Nat.add_mul,Nat.one_mul]at this;exact this);have len:(iD ws).length=n*m:=by unfold iD;rw[List.length_map,h]
 unfold cutD slIx;rw[e2,e1];simp only[len];rw[if_neg (by omega),if_neg (by omega),Int.toNat_natCast,Int.toNat_natCast,Nat.min_eq_left le,Nat.min_eq_left (show j*m<=n*m by omega),show j*m+m - j*m=m by omega];unfold iD;rw[←List.map_drop,←List.map_take]
theorem q9T{n j:Nat}(h:j<n):q2s n (j:Int)=some j:=by
 unfold q2s;rw[if_pos (Int.natCast_nonneg j),if_pos (by omega),Int.toNat_natCast]
theorem z7n{F:Nat->List DV->Option Ou}{δ:List Sv}{es:List ME}{l:List (DV×Cl)}(h:evEs G F es δ=some (.ok l)):evE G F (.bi .min es) δ=minD l:=by
 have e:evE G F (.bi .min es) δ=Rs.thn (evEs G F es δ) (λl=>minD l):=rfl;rw[e,h];rfl
theorem z0p{F:Nat->List DV->Option Ou}{δ:List Sv}{es:List ME}{l:List (DV×Cl)}(h:evEs G F es δ=some (.ok l))(hl:l.length<=mostLen)(hs:stros l=true):evE G F (.lst es) δ=some (.ok (.lst (l.map (·.1))) .fresh):=by
 have e:evE G F (.lst es) δ=Rs.thn (evEs G F es δ) (λl=>if l.length<=mostLen then some (.ok (.lst (l.map (·.1))) (if stros l then .fresh else .weak))else none):=rfl;rw[e,h,q3b,if_pos hl,hs];rfl
def nD(l:List Nat):List DV:=l.map λ(j:Nat)=>DV.int (j:Int)
theorem q9b:∀a b:List Int,deqs (iD a) (iD b)=(a==b)
 | [],[]=>rfl
 | [],_::_=>rfl
 | _::_,[]=>rfl
 | x::a,y::b=>by have ih:=q9b a b;unfold iD at ih ⊢;rw[List.map_cons,List.map_cons];unfold deqs;rw[ih];unfold deq;rfl
theorem z3a(a b:List Int):deq (.lst (iD a)) (.lst (iD b))=(a==b):=q9b a b
theorem q6l{n:Nat}:∀{l:List DV},(∀d∈l,d.plain n=true)->DV.plains n l=true
 | [],_=>by unfold DV.plains;rfl
 | d::r,h=>by unfold DV.plains;rw[h d (List.mem_cons_self ..),q6l λx hx=>h x (List.mem_cons_of_mem _ hx)];rfl
theorem q6E(n:Nat)(a:List Int):DV.plain (n+1) (.lst (iD a))=true:=q2W n a
theorem q4a{α:Type}{g:DV->Option Rc}{h f:α->DV}:∀{l:List α},(∀a∈l,g (h a)=some (.item (f a)))->q0C g (l.map h)=some (l.map f)
 | [],_=>rfl
 | a::r,q=>by rw[List.map_cons,List.map_cons];unfold q0C;rw[q a (List.mem_cons_self ..)];show(match q0C g (r.map h)with | none=>none | some xs=>some (f a::xs))=_;rw[q4a λx hx=>q x (List.mem_cons_of_mem _ hx)]
theorem q0S{α:Type}{l:List α}{h f:α->DV}{elt it:ME}{tg:Tg}{fr:List (Option Nat)}(hw:q0A (evE G F it δ)=some (.ok (l.map h) cl))(hc:cl ≠ .weak)(hl:l.length<=mostLen)
  (q:∀a∈l,∃δ' c,tg.bind (h a) (q0K fr δ)=some δ'/\evE G F elt δ'=some (.ok (f a) c)/\stro (f a) c=true):evE G F (.comp elt tg it fr) δ=some (.ok (.lst (l.map f)) .fresh):=by
 show Ri.thn (q0A (evE G F it δ)) (λds c=>if c=.weak\/mostLen<ds.length then none else q1h (q0C (λd=>(tg.bind d (q0K fr δ)).bind λδ'=>Rc.of (evE G F elt δ')) ds))=_;rw[hw,q4v,if_neg (by rintro(z | z);exact hc z;rw[List.length_map]at z;omega),q4a (f:=f) (λa ha=>?_)]
 ·rfl
 ·obtain⟨δ',c,e1,e2,e3⟩:=q a ha;rw[e1,Option.bind_some,e2];show(if stro (f a) c then some (Rc.item (f a))else none)=_;rw[if_pos e3]
theorem z2D{rows:List (List Int)}{j:Nat}{d:DV}{h:List Int->DV}(hl:rows.length<=1000)(w:q0A (evE G F (.var 1) [.val (.int (j:Int)),.val d])=some (.ok (rows.map h) .strong))(hh:∀r∈rows,ixD (h r) (.int j)=some (.int (r.getD j 0))):evE G F (.comp (.ix (.var 0) (.var 1)) (.one 0) (.var 1) [none,some 0]) [.val (.int j),.val d]=some (.ok (.lst (iD (col rows j))) .fresh):=by
 rw[q0S (h:=h) (f:=λr=>.int (r.getD j 0)) w (by decide) (Nat.le_trans hl (by decide)) λr hr=>⟨[.val (h r),.val (.int j)],.strong,rfl,q0U (cx:=.strong) (q0b rfl) (q0b rfl) (hh r hr),rfl⟩];unfold iD col;rw[List.map_map];rfl
theorem z8N(rows:List (List Int))(m j:Nat)(hm:∀r∈rows,r.length=m)(hj:j<m)(hl:rows.length<=1000):evE G F (.comp (.ix (.var 0) (.var 1)) (.one 0) (.var 1) [none,some 0]) [.val (.int j),.val (tT rows)]=some (.ok (.lst (iD (col rows j))) .fresh):=z2D hl rfl λr hr=>z3y (by rw[hm r hr];exact hj)
theorem z5B(rows:List (List Int))(m j:Nat)(hm:∀r∈rows,r.length=m)(hj:j<m)(hl:rows.length<=1000):evE G F (.comp (.ix (.var 0) (.var 1)) (.one 0) (.var 1) [none,some 0]) [.val (.int j),.val (rL rows)]=some (.ok (.lst (iD (col rows j))) .fresh):=z2D hl rfl λr hr=>q1U (by rw[hm r hr];exact hj)
theorem z1A{e:ME}{c:Cl}{n:Nat}(h:evE G F e δ=some (.ok (.int (n:Int)) c))(hn:n<=1000):q0A (evE G F (.rng [e]) δ)=some (.ok ((List.range n).map λ(j:Nat)=>DV.int (j:Int)) .fresh):=by
 rw[q9v h hn];unfold L2.upTo
 congr 2
 apply List.map_congr_left;intro j _
 congr 1
 omega
theorem q5T(rows:List (List Int))(n m:Nat)(R:Rect n m rows)(hn:0<n)(hn2:n<=1000)(hm2:m<=1000):run G T fu (k+1) 1 [tT rows]=some (.v (tT (flip m rows)) false):=by
 rw[q0E (fd:=q3i) rfl rfl];have r0:0<rows.length:=by rw[R.1];exact hn
 have hl:=q6S (F:=run G T fu k) (δ:=q0m 1 [tT rows]) (q0U (a:=.var 0) (b:=.int 0) (cx:=.strong) (q0b rfl) (q0e (i:=((0:Nat):Int))) (z6L r0));rw[show(iD (rows.getD 0 [])).length=m by unfold iD;rw[List.length_map];exact R.2 _ (q1O r0)]at hl;have cm:=q0S (elt:=.bi .tuple [.comp (.ix (.var 0) (.var 1)) (.one 0) (.var 1) [none,some 0]]) (tg:=.one 0) (fr:=[none,some 0]) (f:=λj=>.tup (iD (col rows j))) (z1A hl hm2) (by decide) (by rw[List.length_range];exact Nat.le_trans hm2 (by decide)) λj hj=>
  ⟨[.val (.int j),.val (tT rows)],.strong,rfl,q3P (z8N rows m j R.2 (List.mem_range.mp hj) (by rw[R.1];exact hn2)),rfl⟩
 unfold q3i;refine q1x (q1p (q1b (cl:=.strong) ((q3P cm).trans ?_)));unfold tT flip;rw[List.map_map];rfl
theorem z7f(a b:Int):cmpD .NotEq (.int a) (.int b)=some (!(a==b)):=rfl
theorem q6F:∀r:List Int,ints? (iD r)=some r
 | []=>rfl
 | x::r=>by show(ints? (iD r)).map (x :: ·)=_;rw[q6F r];rfl
section
variable {G:Gs} {a b:ME} {r:List ME} {cx:Cl} {o:Option Re}
end
section
variable {G:Gs} {a b:ME} {r:List ME} {cx:Cl} {o:Option Re}
end
section
variable {G:Gs} {a b:ME} {r:List ME} {cx:Cl} {o:Option Re}
end
section
variable {G:Gs} {a b:ME} {r:List ME} {cx:Cl} {o:Option Re}
theorem q7L{tg:Tg}{body:List Sv->Option Out}{d:DV}{r:List DV}{δ1 δ2:List Sv}(h1:tg.bind d δ=some δ1)(h2:body δ1=some (.nx δ2)):q0O tg body (d::r) δ=q0O tg body r δ2:=by
 show(match tg.bind d δ with | none=>none | some δ1=>match body δ1 with | some (.nx δ2)=>q0O tg body r δ2 | o=>o)=_;rw[h1];show(match body δ1 with | some (.nx δ2)=>q0O tg body r δ2 | o=>o)=_;rw[h2]
end
section
variable {G:Gs} {a b:ME} {r:List ME} {cx:Cl} {o:Option Re}
end
section
variable {G:Gs} {a b:ME} {r:List ME} {cx:Cl} {o:Option Re}
end
theorem b_le{a b:ME}{i j:Int}{cx cy:Cl}(ha:evE G F a δ=some (.ok (.int i) cx))(hb:evE G F b δ=some (.ok (.int j) cy)):evE G F (.cmp .LtE a b) δ=some (.ok (.bl (decide (i<=j))) .strong):=q1g ha hb rfl
def sm(a b:Nat):Bool:=decide (a<6)&&decide (b<6)
theorem q5Z{α:Type}{g:DV->Option Rc}{h f:α->DV}{p:α->Bool}:∀{l:List α},(∀a∈l,g (h a)=some (if p a then .item (f a)else .skip))->q0C g (l.map h)=some ((l.filter p).map f)
 | [],_=>rfl
 | a::l,q=>by
  have h0:=q a (List.mem_cons_self ..);have ih:=q5Z (g:=g) (h:=h) (f:=f) (p:=p) (l:=l) λb hb=>q b (List.mem_cons_of_mem _ hb);cases e:p a with
  | true=>
   rw[e]at h0;show(match g (h a)with | none=>none | some .skip=>q0C g (l.map h) | some (.item x)=>match q0C g (l.map h)with | none=>none | some xs=>some (x::xs))=_;rw[h0,List.filter_cons_of_pos e,List.map_cons];show(match q0C g (l.map h)with | none=>none | some xs=>some (f a::xs))=_;rw[ih]
  | false=>
   rw[e]at h0;show(match g (h a)with | none=>none | some .skip=>q0C g (l.map h) | some (.item x)=>match q0C g (l.map h)with | none=>none | some xs=>some (x::xs))=_;rw[h0,List.filter_cons_of_neg (by rw[e];simp)];exact ih
theorem z0i{α:Type}{l:List α}{h f:α->DV}{p:α->Bool}{elt it cd:ME}{tg:Tg}{fr:List (Option Nat)}(hw:q0A (evE G F it δ)=some (.ok (l.map h) cl))(hc:cl ≠ .weak)(hl:l.length<=mostLen)
  (q:∀a∈l,∃δ',tg.bind (h a) (q0K fr δ)=some δ'/\tstD (evE G F cd δ')=some (.ok (p a))/\∃c,evE G F elt δ'=some (.ok (f a) c)/\stro (f a) c=true):evE G F (.compi elt tg it cd fr) δ=some (.ok (.lst ((l.filter p).map f)) .fresh):=by
 show Ri.thn (q0A (evE G F it δ)) (λds c=>if c=.weak\/mostLen<ds.length then none else q1h (q0C (λd=>(tg.bind d (q0K fr δ)).bind λδ'=>Rc.test (tstD (evE G F cd δ')) (Rc.of (evE G F elt δ'))) ds))=_;rw[hw,q4v,if_neg (by rintro(z | z);exact hc z;rw[List.length_map]at z;omega),q5Z (f:=f) (p:=p) (λa ha=>?_)]
 ·rfl
 ·obtain⟨δ',e1,e2,c,e3,e4⟩:=q a ha;rw[e1,Option.bind_some,e2,e3];cases p a with
  | false=>rfl
  | true=>
   show(if stro (f a) c then some (Rc.item (f a))else none)=_;rw[if_pos e4];rfl
theorem q4c{x:Int}:isiD G (.int x) ["int"]=some true:=rfl
theorem q3B{x:Int}:isiD G (.int x) ["bool"]=some false:=rfl
theorem q3O{x a b:Int}:run G T fu (k+1) 0 [.int x,.int a,.int b]=some (.v (.bl (decide (a<=x)&&decide (x<=b))) false):=by
 rw[q0E (fd:=q2J) rfl rfl];by_cases h1:a<=x
 ·simp[q2J,q0m,evSs,evS,evE,q3H,Re.thnS,q0V,q4c,q3B,andD,q2e,cmpD,h1,Ou.of,frD,retD,Cl.item]
 ·simp[q2J,q0m,evSs,evS,evE,q3H,Re.thnS,q0V,q4c,q3B,andD,q2e,cmpD,h1,Ou.of,frD,retD,Cl.item]
theorem q7q(r o:Nat):Builtin.bitAnd r o=((r &&& o:Nat):Int):=by
 unfold Builtin.bitAnd;rw[decide_eq_true (Int.natCast_nonneg r),decide_eq_true (Int.natCast_nonneg o)];rfl
theorem z2e(o i:Nat):Builtin.bitAnd ((o:Int)/2^((i:Int).toNat)) 1=if o.testBit i then 1 else 0:=by
 have e:(o:Int)/2^((i:Int).toNat)=((o/2^i:Nat):Int):=(by rw[Int.toNat_natCast];push_cast;rfl);rw[e,show(1:Int)=((1:Nat):Int)from rfl,q7q,Nat.and_one_is_mod,Nat.testBit_eq_decide_div_mod_eq];have:o/2^i%2=0\/o/2^i%2=1:=by omega
 rcases this with h | h<;>rw[h]<;>rfl
def cs(c:Nat):List Nat:=(List.range (c.log2+1)).filter c.testBit
theorem q7T(c:Nat)(h0:0<c)(h:c<2^64):run G T fu (k+1) 3 [.int c]=some (.v (.lst (nD (cs c))) true):=by
 rw[q0E (fd:=q2c) rfl rfl];have hb:q2M (c:Int)=((c.log2+1:Nat):Int):=by unfold q2M;rw[if_neg (by omega),Int.natAbs_natCast];push_cast;rfl
 have hl:c.log2<64:=(Nat.log2_lt (by omega)).mpr h;have hm:evE G (run G T fu k) (.meth .bitLength (.var 0) []) (q0m 1 [.int c])=some (.ok (.int ((c.log2+1:Nat):Int)) .strong):=(by rw[←hb];rfl);have cm:=q7M (G:=G) (F:=run G T fu k) (δ:=q0m 1 [.int c]) (elt:=.var 0) (tg:=.one 0) (it:=.rng [.meth .bitLength (.var 0) []]) (cd:=.bin .BitAnd (.bin .RShift (.var 1) (.var 0)) (.int 1)) (fr:=[none,some 0]) (p:=λd=>match d with | .int i=>c.testBit i.toNat | _=>false) (cl:=.fresh) (ds:=upTo 0 (c.log2+1))
  (q9v hm (by omega)) (by decide) (by unfold L2.upTo;rw[List.length_map,List.length_range];exact Nat.le_trans (show c.log2+1<=64 by omega) (by decide)) (λd hd=>by
   obtain⟨j,hj,rfl⟩:=q7i hd;rw[show(0:Int)+(j:Int)=j by omega];refine⟨[.val (.int j),.val (.int c)],rfl,?_,rfl⟩;have e1:evE G (run G T fu k) (.bin .RShift (.var 1) (.var 0)) [.val (.int j),.val (.int c)]=some (.ok (.int ((c:Int)/2^((j:Int).toNat))) .strong):=q1A (q0b rfl) (q0b rfl) (show(if 0<=(j:Int)then some (Re.ok (.int ((c:Int)/2^((j:Int).toNat))) Cl.strong)else none)=_ from if_pos (Int.natCast_nonneg j));have e2:evE G (run G T fu k) (.bin .BitAnd (.bin .RShift (.var 1) (.var 0)) (.int 1)) [.val (.int j),.val (.int c)]=some (.ok (.int (if c.testBit j then 1 else 0)) .strong):=q1A e1 q0e (by rw[←z2e];rfl);have tt:∀t:Bool,tstD (some (Re.ok (DV.int (if t=true then 1 else 0)) Cl.strong))=some (Rt.ok t):=λt=>by cases t<;>rfl
   rw[e2];refine(tt _).trans ?_;show _=some (Rt.ok (c.testBit (j:Int).toNat));rw[Int.toNat_natCast])
 have hf:(upTo 0 (c.log2+1)).filter (λd=>match d with | .int i=>c.testBit i.toNat | _=>false)=nD (cs c):=by
  unfold L2.upTo nD cs;rw[List.filter_map];have:((λd=>match d with | DV.int i=>c.testBit i.toNat | _=>false) ∘ λ(i:Nat)=>DV.int (0+(i:Int)))=c.testBit:=by
   funext j
   show c.testBit ((0:Int)+(j:Int)).toNat=_;rw[show((0:Int)+(j:Int)).toNat=j by omega]
  rw[this];apply List.map_congr_left;intro j _;show DV.int _=DV.int _
  congr 1
  omega
 rw[hf]at cm;unfold q2c;exact q1x (q1p (q1b cm))
def cd(n:Nat):Nat->List Int
 | 0=>[]
 | l+1=>((n/2^l%2:Nat):Int)::cd n l
theorem z4G{e:ME}{i:Int}(h:evE G F e δ=some (.ok (.int i) cl)):evE G F (.meth .bitLength e []) δ=some (.ok (.int (q2M i)) .strong):=by
 unfold evE;rw[if_pos rfl,h];rfl
def hd(l:List Nat):DV:=match l with | []=>.non | c::_=>.int c
theorem q9B{e:ME}(h:evE G F e δ=some (.ok (.lst ds) .strong)):evE G F (.bi .list [e]) δ=some (.ok (.lst ds) .fresh):=by
 have q:evE G F (.bi .list [e]) δ=Rs.thn (evEs G F [e] δ) (λl=>q8b l):=rfl;rw[q,q0a h q0d];rfl
section
variable {G:Gs} {F:Nat->List DV->Option Ou} {δ:List Sv} {fu:Nat} {d:DV} {r:List MS}
theorem z3D{a b c:ME}{cx cy:Cl}{o:Option Re}(ha:evE G F a δ=some (.ok (.bl false) cx))(hb:evE G F b δ=some (.ok (.bl false) cy))(hc:evE G F c δ=o):evE G F (.or [a,b,c]) δ=o:=by
 have e:evE G F (.or [a,b,c]) δ=Re.thn (evE G F a δ) (λx cc=>orD x cc (Re.thn (evE G F b δ) λy cd=>orD y cd (evE G F c δ))):=(by rw[evE,evOr,evOr,evOr];rfl);rw[e,ha,q0V];show Re.thn (evE G F b δ) (λy cd=>orD y cd (evE G F c δ))=_;rw[hb,q0V];exact hc
end
end k43
end
noncomputable section
namespace k43
open PySem L2
theorem z6h{c j:Nat}(h:j∈cs c):c.testBit j=true:=(List.mem_filter.mp h).2
def hv(R:Nat):List Nat:=((List.range (R - 1)).map (· + 1)).filter λh=>h &&& R==h&&decide (h<R - h)
variable {fu k:Nat} {F:Nat->List DV->Option Ou} {δ:List Sv} {ds:List DV} {cl:Cl} {N M:Nat} {R C:Nat}
theorem z6l{b:ME}{n:Nat}{cx:Cl}(hb:evE G F b δ=some (.ok (.int n) cx))(hn:n<=1000):q0A (evE G F (.rng [.int 1,b]) δ)=some (.ok (upTo 1 (n - 1)) .fresh):=by
 show q0A (Rs.thn (evEs G F [.int 1,b] δ) (λl=>(rngD l).map λds=>.ok (.lst ds) .fresh))=_;rw[q0a q0e (q0a hb q0d),q3b];have hs:(q0R 1&&q0R (n:Int)&&decide ((n:Int) - 1<=(mostLen:Int)))=true:=by rw[Bool.and_eq_true,Bool.and_eq_true,decide_eq_true_iff];refine⟨⟨by decide,?_⟩,Int.le_trans (show(n:Int) - 1<=1000 by omega) (by decide)⟩;unfold q0R;rw[Bool.and_eq_true,decide_eq_true_iff,decide_eq_true_iff];exact⟨Int.le_trans (by decide) (Int.natCast_nonneg n),Int.lt_of_le_of_lt (show(n:Int)<=1000 by omega) (by decide)⟩
 show q0A ((if q0R 1&&q0R (n:Int)&&decide ((n:Int) - 1<=(mostLen:Int))then some (upTo 1 ((n:Int) - 1).toNat)else none).map λds=>.ok (.lst ds) .fresh)=_;rw[if_pos hs,show((n:Int) - 1).toNat=n - 1 by omega];rfl
theorem z8Q(n:Nat):upTo 1 n=((List.range n).map (· + 1)).map λ(h:Nat)=>DV.int (h:Int):=by
 unfold L2.upTo;rw[List.map_map];apply List.map_congr_left;intro j _;show DV.int _=DV.int _
 congr 1
 simp only[Function.comp];omega
theorem q6L:∀l:List Nat,ints? (nD l)=some (l.map λ(j:Nat)=>(j:Int))
 | []=>rfl
 | a::l=>by show(ints? (nD l)).map ((a:Int) :: ·)=_;rw[q6L l];rfl
end k43
end
noncomputable section
namespace k43
open PySem L2
variable {G:Gs} {F:Nat->List DV->Option Ou} {fu k:Nat} {δ:List Sv}
abbrev rw'(r:List Int):rk.Rw:=λj=>r.getD j 0
theorem q3N{α:Type}(h:α->DV):∀(l:List α) (n:Nat),enuD n (l.map h)=(List.range l.length).map λi=>.tup [.int ((n+i:Nat):Int),(l.map h).getD i .non]:=by
 intro l
 induction l with
 | nil=>intro n;rfl
 | cons a l ih=>
  intro n;rw[List.length_cons,List.range_succ_eq_map,List.map_cons,List.map_cons,List.map_map];show .tup [.int (n:Int),h a]::enuD (n+1) (l.map h)=_;rw[ih (n+1)]
  congr 1
  refine List.map_congr_left λi _=>?_;show _=DV.tup [.int ((n+(i+1):Nat):Int),_];rw[show n+1+i=n+(i+1) by omega];rfl
theorem z7h{e:ME}{r:List Int}(h:evE G F e δ=some (.ok (.lst (iD r)) .strong)):q0A (evE G F (.enu e) δ)=some (.ok ((List.range r.length).map λ(i:Nat)=>.tup [.int (i:Int),.int (r.getD i 0)]) .strong):=by
 have q:evE G F (.enu e) δ=Re.thn (evE G F e δ) (λx c=>q6q x c):=by rw[evE]
 rw[q,h];show some (Ri.ok (enuD 0 (iD r)) .strong)=_;unfold iD;rw[q3N]
 congr 2
 refine List.map_congr_left λi hi=>?_;have:=List.mem_range.mp hi;rw[Nat.zero_add,List.getD_eq_getElem?_getD,List.getD_eq_getElem?_getD,List.getElem?_map,List.getElem?_eq_getElem this];rfl
theorem q6R{p:Nat->Bool}:∀{l:List Nat} {a:Nat} {r:List Nat},l.filter p=a::r->l.find? p=some a:=by
 intro l
 induction l with
 | nil=>intro a r h;cases h
 | cons x l ih=>
  intro a r h;rw[List.find?_cons];cases q:p x with
  | true=>rw[List.filter_cons_of_pos q]at h;cases h;rfl
  | false=>rw[List.filter_cons_of_neg (by rw[q];decide)]at h;exact ih h
theorem z7p{r:List Int}(hl:r.length<=1000)(h0:¬rk.Nil r.length (rw' r)):run k43.G T fu (k+1) 14 [.lst (iD r)]=some (.v (.int (rk.ld r.length (rw' r):Nat)) false):=by
 have c1:∀F:Nat->List DV->Option Ou,evE k43.G F (.compi (.var 0) (.many [0,1]) (.enu (.var 0)) (.cmp .NotEq (.var 1) (.int 0)) [none,none]) [.val (.lst (iD r))]=some (.ok (.lst (((List.range r.length).filter λj=>decide (rw' r j≠0)).map λ(j:Nat)=>DV.int (j:Int))) .fresh):=λF=>
  z0i (h:=λ(i:Nat)=>DV.tup [.int (i:Int),.int (r.getD i 0)]) (f:=λ(j:Nat)=>DV.int (j:Int)) (p:=λj=>decide (rw' r j≠0)) (z7h (q0b rfl)) (by decide) (by rw[List.length_range];exact Nat.le_trans hl (by decide)) λi hi=>⟨[.val (.int (i:Int)),.val (.int (r.getD i 0))],rfl,by
   rw[q0B (x:=decide (rw' r i≠0)) (q1g (q0b rfl) q0e ?_)];show some (!decide (r.getD i 0=0))=some (decide (r.getD i 0≠0));rw[decide_not],.strong,q0b rfl,rfl⟩
 obtain⟨h1,h2⟩:=rk.ld_ok h0;have hm:rk.ld r.length (rw' r)∈(List.range r.length).filter λj=>decide (rw' r j≠0):=List.mem_filter.mpr ⟨List.mem_range.mpr h1,by rw[decide_eq_true_eq];exact h2⟩
 cases q:(List.range r.length).filter λj=>decide (rw' r j≠0)with
 | nil=>rw[q]at hm;cases hm
 | cons a t=>
  have e:rk.ld r.length (rw' r)=a:=by unfold rk.ld;rw[q6R q];rfl
  rw[q0E (fd:=q1D) rfl rfl];refine q1x (q1p (q1b (cl:=Cl.item .fresh) (q0U (c1 _) q0e ?_)));rw[q,e];have:=q1U (r:=(a::t).map λ(j:Nat)=>(j:Int)) (j:=0) (by rw[List.length_map,List.length_cons];omega);unfold iD at this;rw[List.map_map]at this;exact this
theorem z2I{i j:Int}(h1:i.natAbs<2^2000)(h2:j.natAbs<2^2000):q2Z i j=true:=by
 unfold q2Z;rw[decide_eq_true h1,decide_eq_true h2,Bool.and_self,Bool.or_true]
def stL(w x:List Int):List Int:=(List.range x.length).map λj=>rk.stz (rk.ld w.length (rw' w),rw' w) (rw' x) j
def rdL(K:List (List Int))(x:List Int):List Int:=K.foldl (λx w=>stL w x) x
theorem q4o(w x:List Int):(stL w x).length=x.length:=by unfold stL;rw[List.length_map,List.length_range]
theorem q8J:∀(x w:List Int),x.length=w.length->zpD (iD x) (iD w)=(List.range x.length).map λ(i:Nat)=>DV.tup [.int (x.getD i 0),.int (w.getD i 0)]:=by
 intro x
 induction x with
 | nil=>intro w h;rfl
 | cons a x ih=>
  intro w h;cases w with
  | nil=>cases h
  | cons b w=>
   rw[List.length_cons,List.range_succ_eq_map,List.map_cons,List.map_map];show DV.tup [.int a,.int b]::zpD (iD x) (iD w)=_;rw[ih w (Nat.succ.inj h)];rfl
def Bd(e:Nat)(x:List Int):Prop:=∀a∈x,a.natAbs<2^e
theorem Bd.at{e:Nat}{x:List Int}(h:Bd e x)(j:Nat):(x.getD j 0).natAbs<2^e:=by
 rw[List.getD_eq_getElem?_getD];cases q:x[j]? with
 | none=>exact Nat.two_pow_pos e
 | some a=>exact h a (List.mem_of_getElem? q)
theorem z7m{a b c d:Int}{e f:Nat}(ha:a.natAbs<2^e)(hb:b.natAbs<2^f)(hc:c.natAbs<2^e)(hd:d.natAbs<2^f):(a*b - c*d).natAbs<2^(e+f+1):=by
 have h1:(a*b).natAbs<=2^(e+f):=(by rw[Int.natAbs_mul,Nat.pow_add];exact Nat.mul_le_mul (Nat.le_of_lt ha) (Nat.le_of_lt hb));have h2:(c*d).natAbs<2^(e+f):=(by rw[Int.natAbs_mul,Nat.pow_add];exact Nat.mul_lt_mul'' hc hd);have h3:=Int.natAbs_sub_le (a*b) (c*d);rw[Nat.pow_succ];omega
theorem z5a{e f:Nat}{w x:List Int}(hw:Bd f w)(hx:Bd e x):Bd (e+f+1) (stL w x):=λa ha=>by
 obtain⟨j,_,rfl⟩:=List.mem_map.mp ha;exact z7m (hx.at j) (hw.at _) (hx.at _) (hw.at j)
end k43
end
noncomputable section
namespace k43
open PySem L2
variable {G:Gs} {F:Nat->List DV->Option Ou} {fu k:Nat} {δ:List Sv}
def RdOk:List (List Int)->List Int->Prop
 | [],_=>True
 | w::K,x=>(w.length=x.length/\¬rk.Nil w.length (rw' w)/\Bd 2000 x/\Bd 2000 w)/\RdOk K (stL w x)
theorem z1b{e:ME}{ds:List DV}(h:evE G F e δ=some (.ok (.tup ds) .strong)):evE G F (.bi .list [e]) δ=some (.ok (.lst ds) .fresh):=by
 show Rs.thn (evEs G F [e] δ) (λl=>biD .list l)=_;rw[q0a h q0d];rfl
theorem zp_w{a b:ME}{x w:List Int}(ha:evE G F a δ=some (.ok (.lst (iD x)) .top))(hb:evE G F b δ=some (.ok (.lst (iD w)) .strong))(h:x.length=w.length):q0A (evE G F (.zp a b) δ)=some (.ok ((List.range x.length).map λ(i:Nat)=>DV.tup [.int (x.getD i 0),.int (w.getD i 0)]) .top):=by
 have q:evE G F (.zp a b) δ=Re.thn (evE G F a δ) (λx c=>Re.thn (evE G F b δ) λy c'=>zipD x y c c'):=by rw[evE]
 rw[q,ha,q0V,hb,q0V];show some (Ri.ok (zpD (iD x) (iD w)) .top)=_;rw[q8J x w h]
abbrev rS(l:DV)(K:List (List Int))(x:List Int)(a b c:Sv):List Sv:=[.val l,.val (rL K),.own (.lst (iD x)),a,b,c]
def rB:List MS:=[.set 4 false (.call 14 [.var 3]),.set 5 false (.ix (.var 2) (.var 4)),.set 2 true (.comp (.bin .Sub (.bin .Mult (.var 0) (.ix (.var 2) (.var 3))) (.bin .Mult (.var 4) (.var 1))) (.many [0,1]) (.zp (.var 2) (.var 3)) [none,none,some 3,some 4,some 5])]
theorem r_in{l:DV}{K:List (List Int)}{w x:List Int}{b c:Sv}(hl:x.length<=1000)(h:w.length=x.length/\¬rk.Nil w.length (rw' w)/\Bd 2000 x/\Bd 2000 w):∃b' c',evSs k43.G (run k43.G T fu (k+1)) fu rB (rS l K x (.val (.lst (iD w))) b c)=some (.nx (rS l K (stL w x) (.val (.lst (iD w))) b' c')):=by
 obtain⟨h1,h2,h3,h4⟩:=h;obtain⟨p,hp⟩:∃p,rk.ld w.length (rw' w)=p:=⟨_,rfl⟩;have pl:=rk.ld_ok h2;rw[hp]at pl;have c1:evE k43.G (run k43.G T fu (k+1)) (.call 14 [.var 3]) (rS l K x (.val (.lst (iD w))) b c)=some (.ok (.int (p:Nat)) .strong):=by have:=z7p (fu:=fu) (k:=k) (r:=w) (by omega) h2;rw[hp]at this;exact q0r (q0a (q0b rfl) q0d) rfl this
 have c2:evE k43.G (run k43.G T fu (k+1)) (.ix (.var 2) (.var 4)) (rS l K x (.val (.lst (iD w))) (.val (.int (p:Nat))) c)=some (.ok (.int (x.getD p 0)) (Cl.item .top)):=q0U (q0X rfl) (q0b rfl) (q1U (by omega));have c3:evE k43.G (run k43.G T fu (k+1)) (.comp (.bin .Sub (.bin .Mult (.var 0) (.ix (.var 2) (.var 3))) (.bin .Mult (.var 4) (.var 1))) (.many [0,1]) (.zp (.var 2) (.var 3)) [none,none,some 3,some 4,some 5]) (rS l K x (.val (.lst (iD w))) (.val (.int (p:Nat))) (.val (.int (x.getD p 0))))=some (.ok (.lst (iD (stL w x))) .fresh):=(by have:=q0S (F:=run k43.G T fu (k+1)) (it:=.zp (.var 2) (.var 3)) (δ:=rS l K x (.val (.lst (iD w))) (.val (.int (p:Nat))) (.val (.int (x.getD p 0)))) (l:=List.range x.length) (h:=λ(i:Nat)=>DV.tup [.int (x.getD i 0),.int (w.getD i 0)]) (f:=λ(i:Nat)=>DV.int (x.getD i 0*w.getD p 0 - x.getD p 0*w.getD i 0)) (elt:=.bin .Sub (.bin .Mult (.var 0) (.ix (.var 2) (.var 3))) (.bin .Mult (.var 4) (.var 1))) (tg:=.many [0,1]) (fr:=[none,none,some 3,some 4,some 5]) (zp_w (q0X rfl) (q0b rfl) h1.symm) (by decide) (by rw[List.length_range];exact Nat.le_trans hl (by decide)) λi hi=>⟨[.val (.int (x.getD i 0)),.val (.int (w.getD i 0)),.val (.lst (iD w)),.val (.int (p:Nat)),.val (.int (x.getD p 0))],.strong,rfl,z1j (q5o (q0b rfl) (q0U (q0b rfl) (q0b rfl) (q1U pl.1)) (z2I (h3.at i) (h4.at p))) (q5o (q0b rfl) (q0b rfl) (z2I (h3.at p) (h4.at i))),rfl⟩;rw[this];unfold stL iD;rw[hp,List.map_map];rfl);exact⟨_,_,q0s (q0F c1 rfl) (q0s (q0F c2 rfl) (q0s (q2Q c3) rfl))⟩
theorem z2x{l:DV}{K0:List (List Int)}:∀(K:List (List Int)) (x:List Int) (a b c:Sv),x.length<=1000->RdOk K x->∃a' b' c',q0O (.one 3) (λδ'=>evSs k43.G (run k43.G T fu (k+1)) fu rB δ') (K.map λw=>.lst (iD w)) (rS l K0 x a b c)=some (.nx (rS l K0 (rdL K x) a' b' c'))
 | [],x,a,b,c,_,_=>⟨a,b,c,rfl⟩
 | w::K,x,a,b,c,hl,h=>by obtain⟨b1,c1,e⟩:=r_in (fu:=fu) (k:=k) (l:=l) (K:=K0) (b:=b) (c:=c) hl h.1;obtain⟨a',b',c',e'⟩:=z2x K (stL w x) (.val (.lst (iD w))) b1 c1 (by rw[q4o];exact hl) h.2;refine⟨a',b',c',?_⟩;show q0O (.one 3) _ (.lst (iD w)::K.map λw=>.lst (iD w)) _=_;rw[q7L (δ1:=rS l K0 x (.val (.lst (iD w))) b c) rfl e];exact e'
theorem q9t{K:List (List Int)}{x:List Int}(hl:x.length<=1000)(h:RdOk K x):run k43.G T fu (k+2) 13 [.tup (iD x),rL K]=some (.v (.lst (iD (rdL K x))) true):=by
 obtain⟨a',b',c',e⟩:=z2x (fu:=fu) (k:=k) (l:=.tup (iD x)) (K0:=K) K x .no .no .no hl h;rw[q0E (fd:=q4j) rfl rfl];refine q1x (q0s (q2Q (z1b (q0b rfl))) ?_);exact q3X (ds:=K.map λw=>.lst (iD w)) (cl:=.strong) rfl (.inl rfl) e (q1p (q1b (cl:=.top) (q0X rfl)))
end k43
end
noncomputable section
namespace k43
open PySem L2
variable {F:Nat->List DV->Option Ou} {fu k:Nat} {δ:List Sv}
theorem z8l{w x:List Int}(h:w.length=x.length):rw' (stL w x)=rk.stz (rk.ld w.length (rw' w),rw' w) (rw' x):=by
 funext j
 show(stL w x).getD j 0=rk.stz (rk.ld w.length (rw' w),rw' w) (rw' x) j;by_cases q:j<x.length
 ·rw[List.getD_eq_getElem?_getD];unfold stL;rw[List.getElem?_map,List.getElem?_range q];rfl
 ·have e1:(stL w x).getD j 0=0:=by rw[List.getD_eq_getElem?_getD,List.getElem?_eq_none (by rw[q4o];omega)];rfl
  have e2:x.getD j 0=0:=by rw[List.getD_eq_getElem?_getD,List.getElem?_eq_none (by omega)];rfl
  have e3:w.getD j 0=0:=by rw[List.getD_eq_getElem?_getD,List.getElem?_eq_none (by omega)];rfl
  rw[e1];show 0=x.getD j 0*_ - _*w.getD j 0;rw[e2,e3,Int.zero_mul,Int.mul_zero];rfl
theorem q5w:∀(K:List (List Int)) (x:List Int),(rdL K x).length=x.length
 | [],x=>rfl
 | w::K,x=>by show(rdL K (stL w x)).length=_;rw[q5w K,q4o]
def kq(w:List Int):Nat×rk.Rw:=(rk.ld w.length (rw' w),rw' w)
theorem z5K:∀(K:List (List Int)) (x:List Int),(∀w∈K,w.length=x.length)->rw' (rdL K x)=rk.rz (K.map kq) (rw' x)
 | [],x,_=>rfl
 | w::K,x,h=>by show rw' (rdL K (stL w x))=rk.rz (K.map kq) (rk.stz (kq w) (rw' x));rw[z5K K (stL w x) λw' hw=>by rw[q4o];exact h w' (List.mem_cons_of_mem _ hw),z8l (h w List.mem_cons_self)];rfl
def ex(s:Nat):Nat:=5*2^s - 1
theorem z3O(s:Nat):ex s+ex s+1=ex (s+1):=by
 unfold ex;have:=Nat.two_pow_pos s;rw[Nat.pow_succ];omega
theorem q7c{s:Nat}(h:s<=8):ex s<=2000:=by
 unfold ex;have:2^s<=2^8:=Nat.pow_le_pow_right (by decide) h;have e:2^8=256:=by decide
 omega
theorem Bd.mono{e f:Nat}{x:List Int}(h:Bd e x)(q:e<=f):Bd f x:=λa ha=>Nat.lt_of_lt_of_le (h a ha) (Nat.pow_le_pow_right (by decide) q)
theorem z6G:∀(K:List (List Int)) (s:Nat) (x:List Int),Bd (ex s) x->(∀i w,K[i]? = some w->w.length=x.length/\¬rk.Nil w.length (rw' w)/\Bd (ex (s+i)) w)->s+K.length<=8->RdOk K x/\Bd (ex (s+K.length)) (rdL K x)
 | [],s,x,hx,_,_=>⟨trivial,hx⟩
 | w::K,s,x,hx,h,hs=>by
  obtain⟨h1,h2,h3⟩:=h 0 w rfl;rw[List.length_cons]at hs;have I:=z6G K (s+1) (stL w x) (by rw[←z3O];exact z5a h3 hx) (λi w' hw=>by
   obtain⟨q1,q2,q3⟩:=h (i+1) w' hw;rw[q4o];exact⟨q1,q2,by rw[show s+1+i=s+(i+1) by omega];exact q3⟩) (by omega)
  refine⟨⟨⟨h1,h2,hx.mono (q7c (by omega)),h3.mono (q7c (by omega))⟩,I.1⟩,?_⟩;have:=I.2;rw[List.length_cons,show s+(K.length+1)=s+1+K.length by omega];exact this
def kl(rows:List (List Int))(m:Nat):Nat->List (Nat×List Int)
 | 0=>[]
 | n+1=>
  let y:=rdL ((kl rows m n).map (·.2)) (rows.getD n [])
  if rk.Nil m (rw' y)then kl rows m n else kl rows m n++[(n,y)]
def vv(rows:List (List Int)):Nat->rk.Rw:=λi=>rw' (rows.getD i [])
structure Kl(rows:List (List Int))(m n:Nat):Prop where
 len:(kl rows m n).length<=n
 ok:∀(i:Nat) q,(kl rows m n)[i]? = some q->q.2.length=m/\¬rk.Nil m (rw' q.2)/\Bd (ex i) q.2
 eq:rk.kz (vv rows) m n=(kl rows m n).map λq=>(q.1,kq q.2)
theorem Kl.all{rows:List (List Int)}{m n:Nat}(I:Kl rows m n):∀q∈kl rows m n,q.2.length=m:=λq hq=>by
 obtain⟨i,hi,e⟩:=List.getElem_of_mem hq;exact(I.ok i q (by rw[List.getElem?_eq_getElem hi,e])).1
theorem q4E{rows:List (List Int)}{N m n:Nat}(R:Rect N m rows)(h:n<N):rows.getD n []∈rows/\(rows.getD n []).length=m:=by
 have hn:n<rows.length:=by rw[R.1];exact h
 have:rows.getD n []∈rows:=by rw[List.getD_eq_getElem?_getD,List.getElem?_eq_getElem hn];exact List.getElem_mem hn
 exact⟨this,R.2 _ this⟩
theorem Kl.red{rows:List (List Int)}{N m n:Nat}(R:Rect N m rows)(h9:∀r∈rows,∀x∈r,0<=x/\x<=9)(I:Kl rows m n)(hn:n<N)(h8:N<=8):RdOk ((kl rows m n).map (·.2)) (rows.getD n [])/\Bd (ex (kl rows m n).length) (rdL ((kl rows m n).map (·.2)) (rows.getD n []))/\rw' (rdL ((kl rows m n).map (·.2)) (rows.getD n []))=rk.rkz (vv rows) m n (vv rows n):=by
 obtain⟨r1,r2⟩:=q4E R hn;have:=z6G ((kl rows m n).map (·.2)) 0 (rows.getD n []) (λa ha=>by
  have:=h9 _ r1 a ha;show a.natAbs<2^4;have e:2^4=16:=by decide
  omega) (λi w hw=>by
   rw[List.getElem?_map]at hw;obtain⟨q,hq,rfl⟩:=Option.map_eq_some_iff.mp hw;obtain⟨q1,q2,q3⟩:=I.ok i q hq;rw[r2,Nat.zero_add];exact⟨q1,by rw[q1];exact q2,q3⟩) (by rw[List.length_map];have:=I.len;omega)
 rw[List.length_map,Nat.zero_add]at this;refine⟨this.1,this.2,?_⟩;rw[z5K _ _ λw hw=>by
  obtain⟨q,hq,rfl⟩:=List.mem_map.mp hw;rw[r2];exact I.all q hq]
 unfold rk.rkz;rw[I.eq,List.map_map,List.map_map];rfl
theorem q5g(rows:List (List Int))(m n:Nat):kl rows m (n+1)=if rk.Nil m (rw' (rdL ((kl rows m n).map (·.2)) (rows.getD n [])))then kl rows m n else kl rows m n++[(n,rdL ((kl rows m n).map (·.2)) (rows.getD n []))]:=rfl
theorem z4w{rows:List (List Int)}{N m:Nat}(R:Rect N m rows)(h9:∀r∈rows,∀x∈r,0<=x/\x<=9)(h8:N<=8):∀n,n<=N->Kl rows m n
 | 0,_=>⟨Nat.le_refl _,λi q h=>(by have h':([]:List (Nat×List Int))[i]? = some q:=h;rw[List.getElem?_nil]at h';cases h'),rfl⟩
 | n+1,hn=>by
  have I:=z4w R h9 h8 n (by omega);obtain⟨_,b,e⟩:=I.red R h9 (by omega) h8;obtain⟨_,r2⟩:=q4E (n:=n) R (by omega);by_cases z:rk.Nil m (rw' (rdL ((kl rows m n).map (·.2)) (rows.getD n [])))
  ·have k1:kl rows m (n+1)=kl rows m n:=by rw[q5g,if_pos z]
   refine⟨by rw[k1];have:=I.len;omega,by rw[k1];exact I.ok,?_⟩;rw[k1,rk.kz_succ,if_pos (by rw[←e];exact z)];exact I.eq
  ·have k1:kl rows m (n+1)=kl rows m n++[(n,rdL ((kl rows m n).map (·.2)) (rows.getD n []))]:=by rw[q5g,if_neg z]
   refine⟨by rw[k1,List.length_append,List.length_singleton];have:=I.len;omega,λi q h=>?_,?_⟩
   ·rw[k1]at h;by_cases w:i<(kl rows m n).length
    ·rw[List.getElem?_append_left w]at h;exact I.ok i q h
    ·rw[List.getElem?_append_right (by omega)]at h;have hi:i=(kl rows m n).length:=by
      refine Classical.byContradiction λne=>?_;rw[List.getElem?_eq_none (by rw[List.length_singleton];omega)]at h;cases h
     subst hi;rw[Nat.sub_self]at h;cases h;exact⟨by rw[q5w,r2],z,b⟩
   ·rw[k1,rk.kz_succ,if_neg (by rw[←e];exact z),List.map_append,I.eq,←e];show _++[(n,(rk.ld m (rw' _),rw' _))]=_++[(n,kq _)];unfold kq;rw[q5w,r2]
end k43
end
noncomputable section
namespace k43
open PySem L2
variable {F:Nat->List DV->Option Ou} {fu k:Nat} {δ:List Sv}
theorem q7J:∀(y:List Int),DV.immuts (iD y)=true
 | []=>rfl
 | a::y=>by show(DV.immut (.int a)&&DV.immuts (iD y))=true;rw[q7J y];rfl
theorem q4I{α:Type}(f:α->Bool):∀(l:List α),bools? (l.map λa=>DV.bl (f a))=some (l.map f)
 | []=>rfl
 | a::l=>by show(bools? (l.map λa=>DV.bl (f a))).map (f a :: ·)=_;rw[q4I f l];rfl
theorem z4O{α:Type}{f:α->Bool}{l:List α}{e:ME}{c:Cl}(h:evE G F e δ=some (.ok (.lst (l.map λa=>.bl (f a))) c)):evE G F (.bi .any [e]) δ=some (.ok (.bl (l.any f)) .strong):=by
 show Rs.thn (evEs G F [e] δ) (λl=>anyD l)=_;rw[q0a h q0d];show(bools? (l.map λa=>DV.bl (f a))).map (λbs=>Re.ok (.bl (bs.any id)) .strong)=_;rw[q4I];show some (Re.ok (.bl ((l.map f).any id)) .strong)=_;rw[List.any_map];rfl
theorem z4j{m:Nat}{y:List Int}(hy:y.length=m):y.any (λa=>decide (a≠0)) = !decide (rk.Nil m (rw' y)):=by
 by_cases z:rk.Nil m (rw' y)
 ·rw[decide_eq_true z];show _=false;rw[List.any_eq_false];intro a ha;obtain⟨j,hj,e⟩:=List.getElem_of_mem ha;have:=z j (by omega);have this:y.getD j 0=0:=this;rw[List.getD_eq_getElem?_getD,List.getElem?_eq_getElem hj]at this;have:y[j]=0:=this;rw[e]at this;simp[this]
 ·rw[decide_eq_false z];show _=true;rw[List.any_eq_true];obtain⟨h1,h2⟩:=rk.ld_ok z;have hj:rk.ld m (rw' y)<y.length:=by omega
  refine⟨y[rk.ld m (rw' y)],List.getElem_mem hj,?_⟩;rw[decide_eq_true_eq];have h2:y.getD (rk.ld m (rw' y)) 0≠0:=h2;rw[List.getD_eq_getElem?_getD,List.getElem?_eq_getElem hj]at h2;exact h2
abbrev bS(rows:List (List Int))(m n:Nat)(a b c:Sv):List Sv:=[.val (tT rows),.own (.lst (nD ((kl rows m n).map (·.1)))),.own (rL ((kl rows m n).map (·.2))),a,b,c]
def bB:List MS:=[.set 5 false (.call 13 [.var 4,.var 2]),.iff (.bi .any [.comp (.cmp .NotEq (.var 0) (.int 0)) (.one 0) (.var 5) [none]]) [.app 1 (.var 3),.app 2 (.var 5)] []]
theorem b_in{rows:List (List Int)}{N m n:Nat}(R:Rect N m rows)(h9:∀r∈rows,∀x∈r,0<=x/\x<=9)(h8:N<=8)(m8:m<=1000)(hn:n<N)(c:Sv):∃c',evSs G (run G T fu (k+2)) fu bB (bS rows m n (.val (.int (n:Int))) (.val (.tup (iD (rows.getD n [])))) c)=some (.nx (bS rows m (n+1) (.val (.int (n:Int))) (.val (.tup (iD (rows.getD n [])))) c')):=by
 have I:=z4w R h9 h8 n (by omega);obtain⟨r1,_,_⟩:=I.red R h9 hn h8;obtain⟨_,r2⟩:=q4E R hn;have len:=I.len;obtain⟨y,hy⟩:∃y,rdL ((kl rows m n).map (·.2)) (rows.getD n [])=y:=⟨_,rfl⟩;have ly:y.length=m:=by rw[←hy,q5w,r2]
 have c1:evE G (run G T fu (k+2)) (.call 13 [.var 4,.var 2]) (bS rows m n (.val (.int (n:Int))) (.val (.tup (iD (rows.getD n [])))) c)=some (.ok (.lst (iD y)) .fresh):=(by have e:=q9t (fu:=fu) (k:=k) (by rw[r2];exact m8) r1;rw[hy]at e;exact q4U (q0a (q0b rfl) (q0a (q0X rfl) q0d)) e (q7J y));have c2:evE G (run G T fu (k+2)) (.bi .any [.comp (.cmp .NotEq (.var 0) (.int 0)) (.one 0) (.var 5) [none]]) (bS rows m n (.val (.int (n:Int))) (.val (.tup (iD (rows.getD n [])))) (.val (.lst (iD y))))=some (.ok (.bl (!decide (rk.Nil m (rw' y)))) .strong):=(by rw[←z4j ly];refine z4O (f:=λa=>decide (a≠0)) (l:=y) (c:=.fresh) (q0S (h:=DV.int) (f:=λa=>DV.bl (decide (a≠0))) (cl:=.strong) rfl (by decide) (by rw[ly];exact Nat.le_trans m8 (by decide)) λa _=>⟨[.val (.int a)],.strong,rfl,q1g (q0b rfl) q0e ?_,rfl⟩);show some (!decide (a=0))=some (decide (a≠0));rw[decide_not]);refine⟨.val (.lst (iD y)),q0s (q0F c1 rfl) ?_⟩;by_cases z:rk.Nil m (rw' y)
 ·rw[decide_eq_true z]at c2;refine q1f (q0B c2) ?_;have e:kl rows m (n+1)=kl rows m n:=by rw[q5g,hy,if_pos z]
  show _=some (Out.nx (bS rows m (n+1) _ _ _));unfold bS;rw[e];rfl
 ·rw[decide_eq_false z]at c2;have e:kl rows m (n+1)=kl rows m n++[(n,y)]:=by rw[q5g,hy,if_neg z]
  have e1:nD ((kl rows m (n+1)).map (·.1))=nD ((kl rows m n).map (·.1))++[.int (n:Int)]:=(by unfold nD;rw[e,List.map_append,List.map_append];rfl);have e2:rL ((kl rows m (n+1)).map (·.2))=.lst (((kl rows m n).map (·.2)).map (λr=>DV.lst (iD r))++[.lst (iD y)]):=(by unfold rL;rw[e,List.map_append,List.map_append];rfl);have l1:(nD ((kl rows m n).map (·.1))).length<mostLen:=(by unfold nD;rw[List.length_map,List.length_map];exact Nat.lt_of_le_of_lt (show _<=8 by omega) (by decide));have l2:(((kl rows m n).map (·.2)).map (λr=>DV.lst (iD r))).length<mostLen:=(by rw[List.length_map,List.length_map];exact Nat.lt_of_le_of_lt (show _<=8 by omega) (by decide));refine q4K (q0B c2) (q0s (q4B (ds:=nD ((kl rows m n).map (·.1))) rfl (q0b rfl) rfl l1) (q0s (q4B (ds:=((kl rows m n).map (·.2)).map λr=>DV.lst (iD r)) rfl (q0b rfl) rfl l2) rfl)) ?_;show _=some (Out.nx (bS rows m (n+1) _ _ _));unfold bS;rw[e1,e2];rfl
theorem z2b{rows:List (List Int)}{N m:Nat}(R:Rect N m rows)(h9:∀r∈rows,∀x∈r,0<=x/\x<=9)(h8:N<=8)(m8:m<=1000):∀n,n<=N->∃a b c,q0O (.many [3,4]) (λδ'=>evSs G (run G T fu (k+2)) fu bB δ') ((List.range n).map λ(i:Nat)=>DV.tup [.int (i:Int),.tup (iD (rows.getD i []))]) (bS rows m 0 .no .no .no)=some (.nx (bS rows m n a b c))
 | 0,_=>⟨_,_,_,rfl⟩
 | n+1,hn=>by obtain⟨a,b,c,e⟩:=z2b R h9 h8 m8 n (by omega);obtain⟨c',e'⟩:=b_in (fu:=fu) (k:=k) R h9 h8 m8 (n:=n) (by omega) c;refine⟨.val (.int (n:Int)),.val (.tup (iD (rows.getD n []))),c',?_⟩;rw[List.range_succ,List.map_append,q2y e];exact q4T (δ1:=bS rows m n (.val (.int (n:Int))) (.val (.tup (iD (rows.getD n [])))) c) rfl e'
theorem z6R{rows:List (List Int)}{e:ME}(h:evE G F e δ=some (.ok (tT rows) .strong)):q0A (evE G F (.enu e) δ)=some (.ok ((List.range rows.length).map λ(i:Nat)=>DV.tup [.int (i:Int),.tup (iD (rows.getD i []))]) .strong):=by
 have q:evE G F (.enu e) δ=Re.thn (evE G F e δ) (λx c=>q6q x c):=by rw[evE]
 rw[q,h];show some (Ri.ok (enuD 0 (rows.map λr=>DV.tup (iD r))) .strong)=_;rw[q3N]
 congr 2
 refine List.map_congr_left λi hi=>?_;have:=List.mem_range.mp hi;rw[Nat.zero_add,List.getD_eq_getElem?_getD,List.getD_eq_getElem?_getD,List.getElem?_map,List.getElem?_eq_getElem this];rfl
def bl0(rows:List (List Int))(m:Nat):List Nat:=rk.bz (vv rows) m rows.length
theorem q5M{rows:List (List Int)}{N m:Nat}(R:Rect N m rows)(h9:∀r∈rows,∀x∈r,0<=x/\x<=9)(h8:N<=8)(m8:m<=1000):run G T fu (k+3) 12 [tT rows]=some (.v (.lst (nD (bl0 rows m))) true):=by
 obtain⟨a,b,c,e⟩:=z2b (fu:=fu) (k:=k) R h9 h8 m8 N (Nat.le_refl _);have I:=z4w R h9 h8 N (Nat.le_refl _);have eb:bl0 rows m=(kl rows m N).map (·.1):=by unfold bl0 rk.bz;rw[R.1,I.eq,List.map_map];rfl
 rw[q0E (fd:=q2t) rfl rfl,eb];refine q1x (q0s (q2Q (d:=.lst []) rfl) (q0s (q2Q (d:=.lst []) rfl) ?_));refine q3X (ds:=(List.range N).map λ(i:Nat)=>DV.tup [.int (i:Int),.tup (iD (rows.getD i []))]) (cl:=.strong) ?_ (.inl rfl) e (q1p (q1b (cl:=.top) (q0X rfl)));have:=z6R (F:=run G T fu (k+2)) (δ:=bS rows m 0 .no .no .no) (rows:=rows) (e:=.var 0) (q0b rfl);rw[R.1]at this;exact this
end k43
end
noncomputable section
namespace k43
open PySem L2
variable {F:Nat->List DV->Option Ou} {fu k:Nat} {δ:List Sv}
def W9(rows:List (List Int)):Prop:=∀r∈rows,∀x∈r,0<=x/\x<=9
theorem q5R{rows:List (List Int)}{n m:Nat}(R:Rect n m rows):Rect m n (flip m rows):=by
 refine⟨by unfold flip;rw[List.length_map,List.length_range],λr hr=>?_⟩;obtain⟨j,_,rfl⟩:=List.mem_map.mp hr;unfold col;rw[List.length_map];exact R.1
theorem z5T{rows:List (List Int)}{m:Nat}(h:W9 rows):W9 (flip m rows):=λr hr x hx=>by
 obtain⟨j,_,rfl⟩:=List.mem_map.mp hr;obtain⟨q,hq,rfl⟩:=List.mem_map.mp hx;rw[List.getD_eq_getElem?_getD];cases w:q[j]? with
 | none=>exact⟨Int.le_refl _,by decide⟩
 | some a=>exact h q hq a (List.mem_of_getElem? w)
theorem z5C{rows:List (List Int)}{n m:Nat}(R:Rect n m rows)(h9:W9 rows)(h8:n<=8)(m8:m<=1000):run G T fu (k+4) 11 [tT rows]=some (.v (.int ((bl0 rows m).length:Nat)) false):=by
 rw[q0E (fd:=z0g) rfl rfl];have e:=q2w (F:=run G T fu (k+3)) (δ:=[.val (tT rows)]) (q0r (q0a (q0b (n:=0) rfl) q0d) rfl (q5M (fu:=fu) (k:=k) R h9 h8 m8));have l:(nD (bl0 rows m)).length=(bl0 rows m).length:=by unfold nD;rw[List.length_map]
 rw[l]at e;exact q1x (q1p (q1b e))
end k43
end
noncomputable section
namespace k43
open PySem L2
variable {F:Nat->List DV->Option Ou} {fu k:Nat} {δ:List Sv}
theorem bnot(i:Int):Builtin.bitNot i = -i - 1:=by unfold Builtin.bitNot;omega
theorem q8N(a b:Nat):Builtin.bitOr (a:Int) (b:Int)=((a ||| b:Nat):Int):=by
 unfold Builtin.bitOr Builtin.bitAnd;rw[bnot (a:Int),bnot (b:Int),decide_eq_false (show ¬(0:Int) <= -(a:Int) - 1 by omega),decide_eq_false (show ¬(0:Int) <= -(b:Int) - 1 by omega)];show Builtin.bitNot (Builtin.bitNot (((Builtin.bitNot (-(a:Int) - 1)).toNat ||| (Builtin.bitNot (-(b:Int) - 1)).toNat:Nat):Int))=_;rw[bnot (-(a:Int) - 1),bnot (-(b:Int) - 1),show(-(-(a:Int) - 1) - 1).toNat=a by omega,show(-(-(b:Int) - 1) - 1).toNat=b by omega,bnot,bnot];omega
theorem q7E:∀(n a b:Nat),a<2^n->b<2^n->a ||| b=(a ^^^ b)+(a &&& b)
 | 0,a,b,ha,hb=>by
  have:a=0:=by rw[Nat.pow_zero]at ha;omega
  have:b=0:=by rw[Nat.pow_zero]at hb;omega
  subst a;subst b;rfl
 | n+1,a,b,ha,hb=>by
  have I:=q7E n (a/2) (b/2) (by rw[Nat.pow_succ]at ha;omega) (by rw[Nat.pow_succ]at hb;omega);have e:∀x:Nat,x=2*(x/2)+x%2:=λx=>by omega
  rw[e (a ||| b),e (a ^^^ b),e (a &&& b),Nat.or_div_two,Nat.xor_div_two,Nat.and_div_two,I];have m:(a ||| b)%2=(a ^^^ b)%2+(a &&& b)%2:=by
   have h1:=Nat.or_mod_two_pow (a:=a) (b:=b) (n:=1);have h2:=Nat.xor_mod_two_pow (a:=a) (b:=b) (n:=1);have h3:=Nat.and_mod_two_pow (a:=a) (b:=b) (n:=1);rw[Nat.pow_one]at h1 h2 h3;rw[h1,h2,h3];rcases Nat.mod_two_eq_zero_or_one a with p | p<;>rcases Nat.mod_two_eq_zero_or_one b with q | q<;>rw[p,q]<;>rfl
  omega
theorem q7e(a b:Nat):Builtin.bitXor (a:Int) (b:Int)=((a ^^^ b:Nat):Int):=by
 unfold Builtin.bitXor;rw[q8N,q7q];have:=q7E (a+b) a b (Nat.lt_of_lt_of_le Nat.lt_two_pow_self (Nat.pow_le_pow_right (by decide) (by omega))) (Nat.lt_of_lt_of_le Nat.lt_two_pow_self (Nat.pow_le_pow_right (by decide) (by omega)));omega
abbrev K3:=Nat×rk.N2
def k3(q:K3):DV:=.tup [.int (q.1:Nat),.int (q.2.1:Nat),.int (q.2.2:Nat)]
abbrev tS(l kd:DV)(p:rk.N2)(a b c:Sv):List Sv:=[.val l,.val kd,.val (.int (p.1:Nat)),.val (.int (p.2:Nat)),a,b,c]
def tB:List MS:=[.iff (.cmp .Eq (.bin .BitAnd (.bin .RShift (.var 2) (.bin .Sub (.meth .bitLength (.var 5) []) (.int 1))) (.int 1)) (.int 1)) [.set 2 false (.bin .BitXor (.var 2) (.var 5)),.set 3 false (.bin .BitXor (.var 3) (.var 6))] []]
theorem t_in{l kd:DV}{p:rk.N2}{q:K3}(hq:q.2.1≠0):evSs G F fu tB (tS l kd p (.val (.int (q.1:Nat))) (.val (.int (q.2.1:Nat))) (.val (.int (q.2.2:Nat))))=some (.nx (tS l kd (rk.st p q.2) (.val (.int (q.1:Nat))) (.val (.int (q.2.1:Nat))) (.val (.int (q.2.2:Nat))))):=by
 have hb:q2M ((q.2.1:Nat):Int)=((q.2.1.log2+1:Nat):Int):=(by unfold q2M;rw[if_neg (by omega),Int.natAbs_natCast];rfl);have c1:∀δ:List Sv,δ[5]? = some (.val (.int (q.2.1:Nat)))->evE G F (.bin .Sub (.meth .bitLength (.var 5) []) (.int 1)) δ=some (.ok (.int ((q.2.1.log2:Nat):Int)) .strong):=λδ h=>by have:=z1j (z4G (q0b h)) (q0e (G:=G) (F:=F) (δ:=δ) (i:=1));rw[hb,show((q.2.1.log2+1:Nat):Int) - 1=((q.2.1.log2:Nat):Int) by omega]at this;exact this
 have c2:evE G F (.bin .RShift (.var 2) (.bin .Sub (.meth .bitLength (.var 5) []) (.int 1))) (tS l kd p (.val (.int (q.1:Nat))) (.val (.int (q.2.1:Nat))) (.val (.int (q.2.2:Nat))))=some (.ok (.int (((p.1:Nat):Int)/2^(((q.2.1.log2:Nat):Int).toNat))) .strong):=q1A (q0b rfl) (c1 _ rfl) (show(if 0<=((q.2.1.log2:Nat):Int)then some (Re.ok (.int (((p.1:Nat):Int)/2^(((q.2.1.log2:Nat):Int).toNat))) Cl.strong)else none)=_ from if_pos (Int.natCast_nonneg _));have c3:evE G F (.cmp .Eq (.bin .BitAnd (.bin .RShift (.var 2) (.bin .Sub (.meth .bitLength (.var 5) []) (.int 1))) (.int 1)) (.int 1)) (tS l kd p (.val (.int (q.1:Nat))) (.val (.int (q.2.1:Nat))) (.val (.int (q.2.2:Nat))))=some (.ok (.bl (p.1.testBit q.2.1.log2)) .strong):=(by have:=b_eq (q1A c2 q0e (show binD .BitAnd _ _ _ _=some (Re.ok (.int (if p.1.testBit q.2.1.log2 then 1 else 0)) .strong) by rw[←z2e];rfl)) (q0e (G:=G) (F:=F) (δ:=tS l kd p (.val (.int (q.1:Nat))) (.val (.int (q.2.1:Nat))) (.val (.int (q.2.2:Nat)))) (i:=1));rw[this];cases p.1.testBit q.2.1.log2<;>rfl);have x1:evE G F (.bin .BitXor (.var 2) (.var 5)) (tS l kd p (.val (.int (q.1:Nat))) (.val (.int (q.2.1:Nat))) (.val (.int (q.2.2:Nat))))=some (.ok (.int ((p.1 ^^^ q.2.1:Nat):Int)) .strong):=(by rw[←q7e];exact q1A (q0b rfl) (q0b rfl) rfl);have x2:evE G F (.bin .BitXor (.var 3) (.var 6)) (tS l kd (p.1 ^^^ q.2.1,p.2) (.val (.int (q.1:Nat))) (.val (.int (q.2.1:Nat))) (.val (.int (q.2.2:Nat))))=some (.ok (.int ((p.2 ^^^ q.2.2:Nat):Int)) .strong):=(by rw[←q7e];exact q1A (q0b rfl) (q0b rfl) rfl);unfold rk.st;cases z:p.1.testBit q.2.1.log2 with
 | false=>
  rw[z]at c3;exact q1f (q0B c3) rfl
 | true=>
  rw[z]at c3;exact q4K (q0B c3) (q0s (q0F x1 rfl) (q0s (q0F x2 rfl) rfl)) rfl
theorem z2G{l kd:DV}:∀(K:List K3) (p:rk.N2) (a b c:Sv),(∀q∈K,q.2.1≠0)->∃a' b' c',q0O (.many [4,5,6]) (λδ'=>evSs G F fu tB δ') (K.map k3) (tS l kd p a b c)=some (.nx (tS l kd (rk.red (K.map (·.2)) p) a' b' c'))
 | [],p,a,b,c,_=>⟨a,b,c,rfl⟩
 | q::K,p,a,b,c,h=>by
  obtain⟨a',b',c',e⟩:=z2G K (rk.st p q.2) (.val (.int (q.1:Nat))) (.val (.int (q.2.1:Nat))) (.val (.int (q.2.2:Nat))) λr hr=>h r (List.mem_cons_of_mem _ hr)
  refine⟨a',b',c',?_⟩;show q0O _ _ (k3 q::K.map k3) _=_;rw[q7L (δ1:=tS l kd p (.val (.int (q.1:Nat))) (.val (.int (q.2.1:Nat))) (.val (.int (q.2.2:Nat)))) rfl (t_in (h q List.mem_cons_self))];exact e
theorem q4y{K:List K3}{x:Nat}(h:∀q∈K,q.2.1≠0):run G T fu (k+1) 10 [.int (x:Nat),.lst (K.map k3)]=some (.v (.tup [.int ((rk.red (K.map (·.2)) (x,0)).1:Nat),.int ((rk.red (K.map (·.2)) (x,0)).2:Nat)]) false):=by
 obtain⟨a',b',c',e⟩:=z2G (F:=run G T fu k) (fu:=fu) (l:=.int (x:Nat)) (kd:=.lst (K.map k3)) K (x,0) .no .no .no h;rw[q0E (fd:=q1i) rfl rfl];refine q1x (q0s (q0F (q0b rfl) rfl) (q0s (q0F (q0e (i:=0)) rfl) ?_));exact q3X (ds:=K.map k3) (cl:=.strong) rfl (.inl rfl) e (q1p (q1b (q7h (q0a (q0b rfl) (q0a (q0b rfl) q0d)) (show(2:Nat)<=mostLen by decide) rfl)))
end k43
end
noncomputable section
namespace k43
open PySem L2
variable {F:Nat->List DV->Option Ou} {fu k:Nat} {δ:List Sv}
theorem z1I(L:Nat->Nat):∀n,∀q∈rk.kp L n,q.2.1≠0
 | 0,q,h=>absurd h (by simp[rk.kp])
 | n+1,q,h=>by
  rw[rk.kp_succ]at h;split at h
  ·exact z1I L n q h
  ·rename_i z;rcases List.mem_append.mp h with w | w
   ·exact z1I L n q w
   ·have:=List.mem_singleton.mp w;subst this;exact z
theorem z0H(L:Nat->Nat):∀n,(rk.kp L n).length<=n
 | 0=>Nat.le_refl _
 | n+1=>by
  rw[rk.kp_succ];have:=z0H L n;split
  ·omega
  ·rw[List.length_append,List.length_singleton];omega
abbrev LL(ls:List Nat):Nat->Nat:=λi=>ls.getD i 0
abbrev kS(ls:List Nat)(n:Nat)(a b c:Sv):List Sv:=[.val (.lst (nD ls)),.own (.lst ((rk.kp (LL ls) n).map k3)),a,b,c]
def kB:List MS:=[.set 4 false (.call 10 [.var 3,.var 1]),.iff (.cmp .NotEq (.ix (.var 4) (.int 0)) (.int 0)) [.app 1 (.tup [.var 2,.ix (.var 4) (.int 0),.bin .BitOr (.ix (.var 4) (.int 1)) (.bin .LShift (.int 1) (.var 2))])] []]
theorem k_in{ls:List Nat}{n:Nat}(hn:n<64)(c:Sv):∃c',evSs G (run G T fu (k+1)) fu kB (kS ls n (.val (.int (n:Nat))) (.val (.int (ls.getD n 0:Nat))) c)=some (.nx (kS ls (n+1) (.val (.int (n:Nat))) (.val (.int (ls.getD n 0:Nat))) c')):=by
 obtain⟨p,hp⟩:∃p,rk.rk (LL ls) n (LL ls n,0)=p:=⟨_,rfl⟩;have e0:=q4y (fu:=fu) (k:=k) (K:=rk.kp (LL ls) n) (x:=ls.getD n 0) (z1I (LL ls) n);have e0:run G T fu (k+1) 10 [.int (ls.getD n 0:Nat),.lst ((rk.kp (LL ls) n).map k3)]=some (.v (.tup [.int (p.1:Nat),.int (p.2:Nat)]) false):=by rw[e0];show some (Ou.v (.tup [.int ((rk.rk (LL ls) n (LL ls n,0)).1:Nat),.int ((rk.rk (LL ls) n (LL ls n,0)).2:Nat)]) false)=_;rw[hp]
 have c1:evE G (run G T fu (k+1)) (.call 10 [.var 3,.var 1]) (kS ls n (.val (.int (n:Nat))) (.val (.int (ls.getD n 0:Nat))) c)=some (.ok (.tup [.int (p.1:Nat),.int (p.2:Nat)]) .weak):=q3p (q0a (q0b rfl) (q0a (q0X rfl) q0d)) rfl e0;obtain⟨d,hd⟩:∃d,kS ls n (.val (.int (n:Nat))) (.val (.int (ls.getD n 0:Nat))) (.val (.tup [.int (p.1:Nat),.int (p.2:Nat)]))=d:=⟨_,rfl⟩;have v4:evE G (run G T fu (k+1)) (.var 4) d=some (.ok (.tup [.int (p.1:Nat),.int (p.2:Nat)]) .strong):=by rw[←hd];exact q0b rfl
 have v2:evE G (run G T fu (k+1)) (.var 2) d=some (.ok (.int (n:Nat)) .strong):=by rw[←hd];exact q0b rfl
 have i0:evE G (run G T fu (k+1)) (.ix (.var 4) (.int 0)) d=some (.ok (.int (p.1:Nat)) .strong):=q0U v4 q0e rfl;have i1:evE G (run G T fu (k+1)) (.ix (.var 4) (.int 1)) d=some (.ok (.int (p.2:Nat)) .strong):=q0U v4 q0e rfl;have c2:evE G (run G T fu (k+1)) (.cmp .NotEq (.ix (.var 4) (.int 0)) (.int 0)) d=some (.ok (.bl (!decide (((p.1:Nat):Int)=0))) .strong):=q1g i0 q0e rfl;have sh:evE G (run G T fu (k+1)) (.bin .LShift (.int 1) (.var 2)) d=some (.ok (.int ((1<<<n:Nat):Int)) .strong):=(by refine(q1A q0e v2 (show binD .LShift (.int 1) (.int (n:Nat)) .strong .strong=some (Re.ok (.int (1*2^((n:Int).toNat))) .strong)from if_pos ⟨Int.natCast_nonneg n,by omega,by decide⟩)).trans ?_;rw[Int.toNat_natCast,Int.one_mul,Nat.one_shiftLeft,Int.natCast_pow];rfl);have bo:evE G (run G T fu (k+1)) (.bin .BitOr (.ix (.var 4) (.int 1)) (.bin .LShift (.int 1) (.var 2))) d=some (.ok (.int ((p.2 ||| 1<<<n:Nat):Int)) .strong):=(by rw[←q8N];exact q1A i1 sh rfl);have tp:evE G (run G T fu (k+1)) (.tup [.var 2,.ix (.var 4) (.int 0),.bin .BitOr (.ix (.var 4) (.int 1)) (.bin .LShift (.int 1) (.var 2))]) d=some (.ok (k3 (n,(p.1,p.2 ||| 1<<<n))) .strong):=q7h (q0a v2 (q0a i0 (q0a bo q0d))) (show(3:Nat)<=mostLen by decide) rfl;refine⟨.val (.tup [.int (p.1:Nat),.int (p.2:Nat)]),q0s (q0F c1 rfl) ?_⟩;show evSs G (run G T fu (k+1)) fu _ (kS ls n (.val (.int (n:Nat))) (.val (.int (ls.getD n 0:Nat))) (.val (.tup [.int (p.1:Nat),.int (p.2:Nat)])))=_;by_cases z:p.1=0
 ·rw[decide_eq_true (by omega)]at c2;rw[hd];refine q1f (q0B c2) ?_;have e:rk.kp (LL ls) (n+1)=rk.kp (LL ls) n:=by rw[rk.kp_succ,hp,if_pos z]
  rw[←hd];unfold kS;rw[e];rfl
 ·rw[decide_eq_false (by omega)]at c2;have e:rk.kp (LL ls) (n+1)=rk.kp (LL ls) n++[(n,(p.1,p.2 ||| 1<<<n))]:=by rw[rk.kp_succ,hp,if_neg z]
  have l1:((rk.kp (LL ls) n).map k3).length<mostLen:=(by rw[List.length_map];exact Nat.lt_of_le_of_lt (z0H (LL ls) n) (Nat.lt_of_lt_of_le hn (by decide)));rw[hd];refine q4K (q0B c2) (q0s (q4B (ds:=(rk.kp (LL ls) n).map k3) (by rw[←hd];rfl) tp rfl l1) rfl) ?_;rw[←hd];unfold kS;rw[e,List.map_append];rfl
theorem z2B{ls:List Nat}:∀n,n<=64->∃a b c,q0O (.many [2,3]) (λδ'=>evSs G (run G T fu (k+1)) fu kB δ') ((List.range n).map λ(i:Nat)=>DV.tup [.int (i:Int),.int ((ls.getD i 0:Nat):Int)]) (kS ls 0 .no .no .no)=some (.nx (kS ls n a b c))
 | 0,_=>⟨_,_,_,rfl⟩
 | n+1,hn=>by obtain⟨a,b,c,e⟩:=z2B (ls:=ls) n (by omega);obtain⟨c',e'⟩:=k_in (fu:=fu) (k:=k) (ls:=ls) (n:=n) (by omega) c;refine⟨.val (.int (n:Nat)),.val (.int (ls.getD n 0:Nat)),c',?_⟩;rw[List.range_succ,List.map_append,q2y e];exact q4T (δ1:=kS ls n (.val (.int (n:Nat))) (.val (.int (ls.getD n 0:Nat))) c) rfl e'
theorem z5J{ls:List Nat}{e:ME}(h:evE G F e δ=some (.ok (.lst (nD ls)) .strong)):q0A (evE G F (.enu e) δ)=some (.ok ((List.range ls.length).map λ(i:Nat)=>DV.tup [.int (i:Int),.int ((ls.getD i 0:Nat):Int)]) .strong):=by
 have q:evE G F (.enu e) δ=Re.thn (evE G F e δ) (λx c=>q6q x c):=by rw[evE]
 rw[q,h];show some (Ri.ok (enuD 0 (ls.map λ(j:Nat)=>DV.int (j:Int))) .strong)=_;rw[q3N]
 congr 2
 refine List.map_congr_left λi hi=>?_;have:=List.mem_range.mp hi;rw[Nat.zero_add,List.getD_eq_getElem?_getD,List.getD_eq_getElem?_getD,List.getElem?_map,List.getElem?_eq_getElem this];rfl
theorem z2w{ls:List Nat}(hl:ls.length<=64):run G T fu (k+2) 9 [.lst (nD ls)]=some (.v (.lst ((rk.kp (LL ls) ls.length).map k3)) true):=by
 obtain⟨a,b,c,e⟩:=z2B (fu:=fu) (k:=k) (ls:=ls) ls.length hl;rw[q0E (fd:=q2A) rfl rfl];refine q1x (q0s (q2Q (d:=.lst []) rfl) ?_);exact q3X (cl:=.strong) (z5J (δ:=kS ls 0 .no .no .no) (q0b rfl)) (.inl rfl) e (q1p (q1b (cl:=.top) (q0X rfl)))
theorem z0s{ls:List Nat}(hl:ls.length<=64):run G T fu (k+3) 8 [.lst (nD ls)]=some (.v (.lst (nD (rk.bs (LL ls) ls.length))) true):=by
 rw[q0E (fd:=q1V) rfl rfl];have c1:evE G (run G T fu (k+2)) (.call 9 [.var 0]) [.val (.lst (nD ls))]=some (.ok (.lst ((rk.kp (LL ls) ls.length).map k3)) .fresh):=q0r (q0a (q0b (n:=0) rfl) q0d) rfl (z2w (fu:=fu) (k:=k) hl);have c2:=q0S (F:=run G T fu (k+2)) (δ:=[.val (.lst (nD ls))]) (it:=.call 9 [.var 0]) (l:=rk.kp (LL ls) ls.length) (h:=k3) (f:=λq=>DV.int (q.1:Nat)) (elt:=.var 0) (tg:=.many [0,1,2]) (fr:=[none,none,none]) (cl:=.fresh) (by rw[c1];rfl) (by decide) (Nat.le_trans (z0H _ _) (Nat.le_trans hl (by decide))) λq _=>⟨[.val (.int (q.1:Nat)),.val (.int (q.2.1:Nat)),.val (.int (q.2.2:Nat))],.strong,rfl,q0b rfl,rfl⟩
 have e:(rk.kp (LL ls) ls.length).map (λq=>DV.int (q.1:Nat))=nD (rk.bs (LL ls) ls.length):=(by unfold nD rk.bs;rw[List.map_map];rfl);rw[e]at c2;exact q1x (q1p (q1b c2))
end k43
end
noncomputable section
namespace k43
open PySem L2
variable {F:Nat->List DV->Option Ou} {fu k:Nat} {δ:List Sv}
def tw:List Int->Nat
 | []=>0
 | a::r=>(a%2).toNat+2*tw r
theorem q7o:∀(r:List Int) (j:Nat),(tw r).testBit j=decide (r.getD j 0%2=1)
 | [],j=>by show Nat.testBit 0 j=_;rw[Nat.zero_testBit];rfl
 | a::r,j=>by
  have h0:0<=a%2:=Int.emod_nonneg a (by decide);have h1:a%2<2:=Int.emod_lt_of_pos a (by decide);cases j with
  | zero=>
   rw[Nat.testBit_zero];show decide ((((a%2).toNat+2*tw r)%2)=1)=decide (a%2=1);rw[decide_eq_decide];omega
  | succ j=>
   rw[Nat.testBit_succ];have e:tw (a::r)/2=tw r:=by show((a%2).toNat+2*tw r)/2=tw r;omega
   rw[e,q7o r j];rfl
theorem z5Z:∀(r:List Int),tw r<2^r.length
 | []=>by decide
 | a::r=>by have:=z5Z r;have h1:a%2<2:=Int.emod_lt_of_pos a (by decide);rw[List.length_cons,Nat.pow_succ];show(a%2).toNat+2*tw r<_;omega
def tws(r:List Int)(o:Nat):List Int:=(List.range r.length).map λj=>r.getD j 0%2*2^(o+j)
theorem z1o(a:Int)(r:List Int)(o:Nat):tws (a::r) o=(a%2*2^o)::tws r (o+1):=by
 unfold tws;rw[List.length_cons,List.range_succ_eq_map,List.map_cons,List.map_map]
 congr 1
 refine List.map_congr_left λj _=>?_;show(a::r).getD (j+1) 0%2*2^(o+(j+1))=r.getD j 0%2*2^(o+1+j);rw[show o+(j+1)=o+1+j by omega];rfl
theorem z2z:∀(r:List Int) (o:Nat),(tws r o).sum=(tw r:Int)*2^o
 | [],o=>by show(0:Int)=0*2^o;rw[Int.zero_mul]
 | a::r,o=>by
  rw[z1o,List.sum_cons,z2z r (o+1)];have h0:0<=a%2:=Int.emod_nonneg a (by decide);have e:((tw (a::r):Nat):Int)=a%2+2*(tw r:Int):=by show(((a%2).toNat+2*tw r:Nat):Int)=_;omega
  rw[e,Int.add_mul,Int.pow_succ,Int.mul_comm ((2:Int)^o) 2,←Int.mul_assoc,Int.mul_comm (tw r:Int) 2]
theorem q6x{e:ME}{r:List Int}{c:Cl}(h:evE G F e δ=some (.ok (.lst (iD r)) c)):evE G F (.bi .sum [e]) δ=some (.ok (.int r.sum) .strong):=by
 show Rs.thn (evEs G F [e] δ) (λl=>sumD l)=_;rw[q0a h q0d];show(ints? (iD r)).map (λns=>Re.ok (.int ns.sum) .strong)=_;rw[q6F];rfl
theorem z5N{r:List Int}{e:ME}(h:evE G F e δ=some (.ok (.tup (iD r)) .strong)):q0A (evE G F (.enu e) δ)=some (.ok ((List.range r.length).map λ(i:Nat)=>.tup [.int (i:Int),.int (r.getD i 0)]) .strong):=by
 have q:evE G F (.enu e) δ=Re.thn (evE G F e δ) (λx c=>q6q x c):=by rw[evE]
 rw[q,h];show some (Ri.ok (enuD 0 (iD r)) .strong)=_;unfold iD;rw[q3N]
 congr 2
 refine List.map_congr_left λi hi=>?_;have:=List.mem_range.mp hi;rw[Nat.zero_add,List.getD_eq_getElem?_getD,List.getD_eq_getElem?_getD,List.getElem?_map,List.getElem?_eq_getElem this];rfl
theorem z5e{r:List Int}(hl:r.length<=64):evE G F (.bi .sum [.comp (.bin .LShift (.bin .Mod (.var 1) (.int 2)) (.var 0)) (.many [0,1]) (.enu (.var 0)) [none,none]]) [.val (.tup (iD r))]=some (.ok (.int (tw r:Nat)) .strong):=by
 have c1:=q0S (F:=F) (δ:=[.val (.tup (iD r))]) (it:=.enu (.var 0)) (l:=List.range r.length) (h:=λ(i:Nat)=>DV.tup [.int (i:Int),.int (r.getD i 0)]) (f:=λ(i:Nat)=>DV.int (r.getD i 0%2*2^(0+i))) (elt:=.bin .LShift (.bin .Mod (.var 1) (.int 2)) (.var 0)) (tg:=.many [0,1]) (fr:=[none,none]) (cl:=.strong) (z5N (q0b rfl)) (by decide) (by rw[List.length_range];exact Nat.le_trans hl (by decide)) λi hi=>⟨[.val (.int (i:Int)),.val (.int (r.getD i 0))],.strong,rfl,by
  have hi':=List.mem_range.mp hi;have h0:0<=r.getD i 0%2:=Int.emod_nonneg _ (by decide);have h1:r.getD i 0%2<2:=Int.emod_lt_of_pos _ (by decide);refine(q1A (q2l (q0b rfl) q0e (by decide)) (q0b rfl) (show binD .LShift (.int (r.getD i 0%2)) (.int (i:Int)) .strong .strong=some (Re.ok (.int (r.getD i 0%2*2^((i:Int).toNat))) .strong)from if_pos ⟨Int.natCast_nonneg i,by omega,Nat.lt_of_lt_of_le (show(r.getD i 0%2).natAbs<2 by omega) (by decide)⟩)).trans ?_;rw[Int.toNat_natCast,Nat.zero_add],rfl⟩
 have e:(List.range r.length).map (λ(i:Nat)=>DV.int (r.getD i 0%2*2^(0+i)))=iD (tws r 0):=(by unfold tws iD;rw[List.map_map];rfl);rw[e]at c1;have s:=q6x c1;rw[z2z,Int.pow_zero,Int.mul_one]at s;exact s
theorem z0C{rows:List (List Int)}{n m:Nat}(R:Rect n m rows)(hn:n<=64)(hm:m<=64):run G T fu (k+1) 7 [tT rows]=some (.v (.lst (nD (rows.map tw))) true):=by
 rw[q0E (fd:=q1F) rfl rfl];have c:=q0S (F:=run G T fu k) (δ:=[.val (tT rows)]) (it:=.var 0) (l:=rows) (h:=λr=>DV.tup (iD r)) (f:=λr=>DV.int (tw r:Nat)) (elt:=.bi .sum [.comp (.bin .LShift (.bin .Mod (.var 1) (.int 2)) (.var 0)) (.many [0,1]) (.enu (.var 0)) [none,none]]) (tg:=.one 0) (fr:=[none]) (cl:=.strong) rfl (by decide) (by rw[R.1];exact Nat.le_trans hn (by decide)) λr hr=>⟨[.val (.tup (iD r))],.strong,rfl,z5e (by rw[R.2 r hr];exact hm),rfl⟩
 have e:rows.map (λr=>DV.int (tw r:Nat))=nD (rows.map tw):=by unfold nD;rw[List.map_map];rfl
 rw[e]at c;exact q1x (q1p (q1b c))
def bl2(rows:List (List Int)):List Nat:=rk.bs (LL (rows.map tw)) rows.length
theorem z3c{rows:List (List Int)}{n m:Nat}(R:Rect n m rows)(hn:n<=64)(hm:m<=64){e:ME}(h:evE G (run G T fu (k+3)) e δ=some (.ok (tT rows) .strong)):evE G (run G T fu (k+3)) (.call 8 [.call 7 [e]]) δ=some (.ok (.lst (nD (bl2 rows))) .fresh):=by
 have c1:evE G (run G T fu (k+3)) (.call 7 [e]) δ=some (.ok (.lst (nD (rows.map tw))) .fresh):=q0r (q0a h q0d) rfl (z0C (fu:=fu) (k:=k+2) R hn hm);have:=z0s (fu:=fu) (k:=k) (ls:=rows.map tw) (by rw[List.length_map,R.1];exact hn);rw[List.length_map]at this;exact q0r (q0a c1 q0d) rfl this
theorem z2Q{rows:List (List Int)}{n m:Nat}(R:Rect n m rows)(hn:n<=64)(hm:m<=64):run G T fu (k+4) 5 [tT rows]=some (.v (.int ((bl2 rows).length:Nat)) false):=by
 rw[q0E (fd:=q1Q) rfl rfl];have e:=q2w (z3c (fu:=fu) (k:=k) (δ:=[.val (tT rows)]) (e:=.var 0) R hn hm (q0b rfl));have l:(nD (bl2 rows)).length=(bl2 rows).length:=by unfold nD;rw[List.length_map]
 rw[l]at e;exact q1x (q1p (q1b e))
theorem z8P{rows:List (List Int)}{n m:Nat}(R:Rect n m rows):rk.Bas rk.P0 (vv rows) n m (bl0 rows m):=by
 unfold bl0;rw[R.1];exact rk.bas0 ..
theorem q6z{rows:List (List Int)}{n m:Nat}(R:Rect n m rows):rk.Bas rk.P2 (vv rows) n m (bl2 rows):=by
 have at':∀i,i<n->LL (rows.map tw) i=tw (rows.getD i []):=λi hi=>by
  have hi':i<rows.length:=by rw[R.1];exact hi
  show(rows.map tw).getD i 0=_;rw[List.getD_eq_getElem?_getD,List.getD_eq_getElem?_getD,List.getElem?_map,List.getElem?_eq_getElem hi'];rfl
 unfold bl2;rw[R.1];refine rk.bas2 (λi hi=>?_) λi hi j hj=>?_
 ·rw[at' i hi];have:=z5Z (rows.getD i []);rw[(q4E R hi).2]at this;exact this
 ·rw[at' i hi];exact q7o _ j
end k43
end
noncomputable section
namespace k43
open PySem L2
variable {fu k:Nat} {F:Nat->List DV->Option Ou} {δ:List Sv} {ds:List DV} {cl:Cl}
theorem q5t(c:Int)(n:Nat)(hn:n<=1000):∃xs:List Int,xs.length=n/\run G T fu (k+1) 17 [.int c,.int n]=some (.v (.lst (xs.map DV.int)) true):=by
 rw[q0E (fd:=q1w) rfl rfl];obtain⟨δ1,h1,xs,num,z,hl,rfl⟩:=q3h (i:=4) (I:=λj δ=>∃(xs:List Int) (num:Int) (z:Sv),xs.length=j/\δ=[.val (.int c),.val (.int n),.own (.lst (xs.map DV.int)),.val (.int num),z])
  (body:=λδ'=>evSs G (run G T fu k) fu [.set 3 false (.bin .Mod (.bin .Add (.bin .Add (.bin .Mult (.var 3) (.int 48271)) (.bin .Mult (.var 4) (.var 4))) (.int 11)) (.int 2147483647)),.app 2 (.bin .FloorDiv (.var 3) (.int 7))] δ') n 0 (δ:=[.val (.int c),.val (.int n),.own (.lst []),.val (.int (c%2147483647+48271)),.no])
  (λj hj δ I=>by
   obtain⟨xs,num,z,hl,rfl⟩:=I;rw[show(0:Int)+(j:Int)=j by omega];obtain⟨N,hN⟩:∃N:Int,(num*48271+(j:Int)*j+11)%2147483647=N:=⟨_,rfl⟩;obtain⟨D,hD⟩:∃D:Int,N/7=D:=⟨_,rfl⟩;refine⟨_,q0s (q0F (d:=.int N) (cl:=.strong) ?_ rfl) (q0s (q4B (d:=.int D) (cl:=.strong) rfl ?_ rfl (by rw[List.length_map,hl];exact Nat.lt_of_lt_of_le (Nat.lt_of_lt_of_le hj hn) (by decide))) rfl),xs++[D],N,.val (.int j),by rw[List.length_append,hl];rfl,?_⟩
   ·rw[←hN];exact q2l (q4s (q4s (q5o (q0b rfl) q0e (m48 _)) (q5o (q0b rfl) (q0b rfl) (z8B (by omega)))) q0e) q0e (by decide)
   ·rw[←hD];exact z6b (q0b rfl) q0e (by decide)
   ·rw[←z1T];rfl) ⟨[],_,.no,rfl,rfl⟩
 refine⟨xs,hl,?_⟩;unfold q1w;exact q1x (q0s (q2Q rfl) (q0s (q0F (d:=.int (c%2147483647+48271)) (cl:=.strong) (q4s (q2l (q0b rfl) q0e (by decide)) q0e) rfl) (q3X (q9v (n:=n) (q0b rfl) hn) (.inr rfl) h1 (q1p rfl))))
theorem q7S(rows:List (List Int))(h:rows.length<=1000):run G T fu (k+1) 19 [rL rows]=some (.v (tT rows) false):=by
 rw[q0E (fd:=q1e) rfl rfl];have cm:=z0a (G:=G) (F:=run G T fu k) (δ:=q0m 1 [rL rows]) (elt:=.bi .tuple [.var 0]) (tg:=.one 0) (it:=.var 0) (fr:=[none]) (f:=λd=>match d with | .lst ds=>.tup ds | d=>d) (ds:=rows.map λr=>.lst (iD r)) (cl:=.strong) rfl (by decide)
  (by rw[List.length_map];exact Nat.le_trans h (by decide)) (λd hd=>by
   obtain⟨r,hr,rfl⟩:=List.mem_map.mp hd;exact⟨[.val (.lst (iD r))],rfl,q3P (q0b rfl)⟩)
 rw[List.map_map]at cm;unfold q1e;exact q1x (q1p (q1b (q3P cm)))
theorem q7N{f:Nat}{es:List ME}{l:List (DV×Cl)}{c:Str}(ha:evEs G F es δ=some (.ok l))(h:F f (l.map (·.1))=some (.x c)):evE G F (.call f es) δ=some (.ex c):=by
 show Rs.thn (evEs G F es δ) (λl=>q1W F f l)=_;rw[ha];show q1W F f l=_;unfold q1W;rw[h]
theorem q8Q{e:ME}{c:Str}(h:evE G F e δ=some (.ex c)):evS G F fu (.exp e) δ=some (.ex c δ):=by
 show Re.thnS δ (evE G F e δ) (λ_ _=>some (.nx δ))=_;rw[h];rfl
theorem z3t{m:MS}{r:List MS}{c:Str}{δ':List Sv}(h:evS G F fu m δ=some (.ex c δ')):evSs G F fu (m::r) δ=some (.ex c δ'):=by
 unfold evSs;rw[h]
theorem z6I{r:List MS}{c:Str}{δ':List Sv}(h:evSs G F fu r δ=some (.ex c δ')):Ou.of (evSs G F fu r δ)=some (.x c):=by rw[h];rfl
theorem z4u(ns:List Int)(hns:ns.length<=63)(tp:Int)(htp:0<tp):∃(n m:Nat) (rows:List (List Int)),0<n/\n<=8/\0<m/\m<=8/\Rect n m rows/\(∀r∈rows,∀x∈r,0<=x/\x<tp)/\run G T fu (k+2) 18 [.scr ns,.int 4,.int tp]=some (.v (rL rows) true):=by
 obtain⟨v0,c0⟩:=q8G (fu:=fu) (k:=k) ns 0;obtain⟨v1,c1⟩:=q8G (fu:=fu) (k:=k) ns 1;obtain⟨xs,hx,st0⟩:=q5t (fu:=fu) (k:=k) v0 3 (by decide);obtain⟨a0,h0⟩:=z2r (l:=xs) (i:=0) (by omega) (by rw[hx];omega);obtain⟨a1,h1⟩:=z2r (l:=xs) (i:=1) (by omega) (by rw[hx];omega);obtain⟨n,hn⟩:∃n:Nat,1+a0%8=(n:Int):=⟨(1+a0%8).toNat,by omega⟩;obtain⟨m,hm⟩:∃m:Nat,1+a1%8=(m:Int):=⟨(1+a1%8).toNat,by omega⟩;have n8:n<=8:=by omega
 have m8:m<=8:=by omega
 have nm:n*m<=64:=Nat.le_trans (Nat.mul_le_mul n8 m8) (by decide);obtain⟨ws0,hw0,st1⟩:=q5t (fu:=fu) (k:=k) v1 (n*m) (by omega);have mk1:q2Z (n:Int) (m:Int)=true:=by unfold q2Z;simp;omega
 have cm:=z0a (G:=G) (F:=run G T fu (k+1)) (δ:=[.val (.scr ns),.val (.int 4),.val (.int tp),.val (.lst (xs.map DV.int)),.val (.int n),.val (.int m),.no,.no]) (elt:=.bin .Mod (.var 0) (.var 1)) (tg:=.one 0) (it:=.call 17 [.call 16 [.var 0,.int 1],.bin .Mult (.var 4) (.var 5)]) (fr:=[none,some 2]) (f:=λd=>match d with | .int x=>.int (x%tp) | d=>d) (ds:=ws0.map DV.int) (cl:=.fresh)
  (by
   have q:=q0r (G:=G) (F:=run G T fu (k+1)) (δ:=[.val (.scr ns),.val (.int 4),.val (.int tp),.val (.lst (xs.map DV.int)),.val (.int n),.val (.int m),.no,.no]) (f:=17) (q0a (q0r (f:=16) (q0a (q0b (n:=0) (d:=.scr ns) rfl) (q0a (q0e (i:=1)) q0d)) rfl c1) (q0a (q5o (q0b (n:=4) (d:=.int n) rfl) (q0b (n:=5) (d:=.int m) rfl) mk1) q0d)) rfl (by rw[show((n:Int)*(m:Int))=((n*m:Nat):Int) by push_cast;rfl];exact st1);rw[q];rfl) (by decide) (by rw[List.length_map,hw0];exact Nat.le_trans nm (by decide)) (λd hd=>by
   obtain⟨x,hx,rfl⟩:=List.mem_map.mp hd;exact⟨[.val (.int x),.val (.int tp)],rfl,q2l (q0b rfl) (q0b rfl) htp⟩)
 rw[List.map_map,show((λd=>match d with | DV.int x=>DV.int (x%tp) | d=>d) ∘ DV.int)=DV.int ∘ (λx:Int=>x%tp)from rfl,←List.map_map]at cm;obtain⟨b,hb,hb1,hb2⟩:∃b:Int,(if(ns.length:Int) - 4<(n:Int)*m then(ns.length:Int) - 4 else(n:Int)*m)=b/\b<=((n*m:Nat):Int)/\b<=(ns.length:Int) - 4:=by refine⟨_,rfl,?_,?_⟩<;>split<;>push_cast<;>omega
 have hb3 : -1000<=b:=(by rw[←hb];have:(0:Int)<=(n:Int)*m:=Int.mul_nonneg (Int.natCast_nonneg n) (Int.natCast_nonneg m);split<;>omega);obtain⟨δ1,l1,ws,z,⟨hw,hwb⟩,rfl⟩:=q3h (i:=7) (I:=λ_ δ=>∃(ws:List Int) (z:Sv),(ws.length=n*m/\∀x∈ws,0<=x/\x<tp)/\δ=[.val (.scr ns),.val (.int 4),.val (.int tp),.val (.lst (xs.map DV.int)),.val (.int n),.val (.int m),.own (.lst (ws.map DV.int)),z])
  (body:=λδ'=>evSs G (run G T fu (k+1)) fu [.seti 6 (.var 7) (.bin .Mod (.ix (.var 0) (.bin .Add (.var 1) (.var 7))) (.var 2))] δ') b.toNat 0 (δ:=[.val (.scr ns),.val (.int 4),.val (.int tp),.val (.lst (xs.map DV.int)),.val (.int n),.val (.int m),.own (.lst ((ws0.map λx=>x%tp).map DV.int)),.no])
  (λj hj δ I=>by
   obtain⟨ws,z,⟨hw,hwb⟩,rfl⟩:=I;rw[show(0:Int)+(j:Int)=j by omega];have h3:4+j<ns.length:=by omega
   have hv:ixD (.scr ns) (.int (4+(j:Int)))=some (.int ns[4+j]):=(by rw[show(4:Int)+(j:Int)=((4+j:Nat):Int) by push_cast;rfl];show((q2s ns.length ((4+j:Nat):Int)).bind λj=>ns[j]?).map DV.int=_;rw[q9T h3,Option.bind_some,List.getElem?_eq_getElem h3];rfl);refine⟨_,q0s (q9S (d:=.int (ns[4+j]%tp)) (cl:=.strong) (n:=j) (cx:=.strong) (j:=j) rfl (q2l (q0U (q0b rfl) (q4s (q0b rfl) (q0b rfl)) hv) (q0b rfl) htp) (q0b rfl) rfl (q9T (by rw[List.length_map,hw];omega))) rfl,ws.set j (ns[4+j]%tp),.val (.int j),⟨by rw[List.length_set];exact hw,λx hx=>(List.mem_or_eq_of_mem_set hx).elim (hwb x) (λe=>by rw[e];exact⟨Int.emod_nonneg _ (by omega),Int.emod_lt_of_pos _ htp⟩)⟩,?_⟩;rw[List.map_set];rfl) ⟨ws0.map λx=>x%tp,.no,⟨by rw[List.length_map];exact hw0,λx hx=>by obtain⟨y,_,rfl⟩:=List.mem_map.mp hx;exact⟨Int.emod_nonneg _ (by omega),Int.emod_lt_of_pos _ htp⟩⟩,rfl⟩
 have em:evE G (run G T fu (k+1)) (.bi .min [.bin .Mult (.var 4) (.var 5),.bin .Sub (.bi .len [.var 0]) (.var 1)]) [.val (.scr ns),.val (.int 4),.val (.int tp),.val (.lst (xs.map DV.int)),.val (.int n),.val (.int m),.own (.lst ((ws0.map λx=>x%tp).map DV.int)),.no]=some (.ok (.int b) .strong):=(by have e1:evE G (run G T fu (k+1)) (.bi .len [.var 0]) [.val (.scr ns),.val (.int 4),.val (.int tp),.val (.lst (xs.map DV.int)),.val (.int n),.val (.int m),.own (.lst ((ws0.map λx=>x%tp).map DV.int)),.no]=some (.ok (.int ns.length) .strong):=rfl;rw[z7n (q0a (q5o (q0b (n:=4) (d:=.int n) rfl) (q0b (n:=5) (d:=.int m) rfl) mk1) (q0a (z1j e1 (q0b (n:=1) (d:=.int 4) rfl)) q0d)),←hb];rfl);have rt:=z1F (F:=run G T fu (k+1)) (δ:=[.val (.scr ns),.val (.int 4),.val (.int tp),.val (.lst (xs.map DV.int)),.val (.int n),.val (.int m),.own (.lst (ws.map DV.int)),z]) (elt:=.sl (.var 1) (.bin .Mult (.var 0) (.var 2)) (.bin .Add (.bin .Mult (.var 0) (.var 2)) (.var 2))) (tg:=.one 0) (it:=.rng [.var 4]) (fr:=[none,some 6,some 5]) (f:=λd=>match d with | .int j=>.lst (iD ((ws.drop (j.toNat*m)).take m)) | d=>d) (ds:=upTo 0 n) (cl:=.fresh)
  (q9v (q0b rfl) (by omega)) (by decide) (by unfold L2.upTo;rw[List.length_map,List.length_range];exact Nat.le_trans n8 (by decide)) (λd hd=>by
   obtain⟨j,hj,rfl⟩:=q7i hd;rw[show(0:Int)+(j:Int)=j by omega];have mk2:q2Z (j:Int) (m:Int)=true:=by unfold q2Z;simp;omega
   refine⟨[.val (.int j),.own (.lst (iD ws)),.val (.int m)],.fresh,rfl,?_,rfl⟩;show _=some (Re.ok (.lst (iD ((ws.drop ((j:Int).toNat*m)).take m))) .fresh);rw[Int.toNat_natCast,←z3k hw hj];exact z8m (q0X rfl) (q5o (q0b rfl) (q0b rfl) mk2) (q4s (q5o (q0b rfl) (q0b rfl) mk2) (q0b rfl)))
 have hf:(upTo 0 n).map (λd=>match d with | .int j=>DV.lst (iD ((ws.drop (j.toNat*m)).take m)) | d=>d)=(q5J n m ws).map λr=>.lst (iD r):=by unfold L2.upTo q5J;rw[List.map_map,List.map_map];apply List.map_congr_left;intro j _;show DV.lst (iD ((ws.drop (((0:Int)+(j:Int)).toNat*m)).take m))=_;rw[show((0:Int)+(j:Int)).toNat=j by omega];rfl
 rw[hf]at rt;refine⟨n,m,q5J n m ws,by omega,n8,by omega,m8,q9Z hw,λr hr x hx=>by obtain⟨j,_,rfl⟩:=List.mem_map.mp hr;exact hwb x (List.mem_of_mem_drop (List.mem_of_mem_take hx)),?_⟩;rw[q0E (fd:=q1L) rfl rfl];unfold q1L;exact q1x (q0s (q0F (q0r (q0a (q0r (q0a (q0b rfl) (q0a q0e q0d)) rfl c0) (q0a q0e q0d)) rfl st0) rfl) (q0s (q0F (d:=.int n) (cl:=.strong) (by rw[←hn];exact q4s q0e (q2l (q0U (q0b rfl) q0e h0) q0e (by decide))) rfl) (q0s (q0F (d:=.int m) (cl:=.strong) (by rw[←hm];exact q4s q0e (q2l (q0U (q0b rfl) q0e h1) q0e (by decide))) rfl) (q0s (q2Q cm) (q3X (z8q em (by omega) hb3) (.inr rfl) l1 (q1p (q1b rt)))))))
section
variable {F:Nat->List DV->Option Ou} {δ:List Sv}
theorem and2{a b:ME}{s t:Bool}(ha:evE G F a δ=some (.ok (.bl s) .strong))(hb:evE G F b δ=some (.ok (.bl t) .strong)):evE G F (.and [a,b]) δ=some (.ok (.bl (s&&t)) .strong):=by
 cases s with
 | true=>exact q7t ha hb
 | false=>exact q7r (t:=true) ha
theorem q7u{r:List Int}{e:ME}{c:Cl}(h:evE G F e δ=some (.ok (.lst (iD r)) c)):evE G F (.bi .len [e]) δ=some (.ok (.int (r.length:Nat)) .strong):=by
 have:=q2w h;unfold iD at this;rw[List.length_map]at this;exact this
theorem q7F{rows:List (List Int)}{e:ME}{c:Cl}(h:evE G F e δ=some (.ok (rL rows) c)):evE G F (.bi .len [e]) δ=some (.ok (.int (rows.length:Nat)) .strong):=by
 have:=q2w (ds:=rows.map λr=>DV.lst (iD r)) h;rw[List.length_map]at this;exact this
theorem q6B{rows:List (List Int)}{i:Nat}(h:i<rows.length):ixD (rL rows) (.int (i:Int))=some (.lst (iD (rows.getD i []))):=by
 show atD (rows.map λr=>.lst (iD r)) (i:Int)=_;unfold atD;rw[List.length_map,q9T h,Option.bind_some,List.getElem?_map,List.getElem?_eq_getElem h,List.getD_eq_getElem?_getD,List.getElem?_eq_getElem h];rfl
theorem z7E{i j:Int}(h1 : -(2^62)<j)(h2:j<2^62):q2Z i j=true:=by
 unfold q2Z;have e1:(2:Int)^62=4611686018427387904:=(by decide);have e2:(2:Int)^64=18446744073709551616:=(by decide);rw[decide_eq_true (show -(2^64)<j by omega),decide_eq_true (show j<2^64 by omega)];rw[Bool.and_self,Bool.or_true,Bool.true_or]
end
end k43
end
noncomputable section
namespace k43
open PySem L2
variable {F:Nat->List DV->Option Ou} {fu k:Nat} {δ:List Sv} {cl:Cl}
theorem z3Q{e:ME}{n:Int}{ns:List Int}(h:evE G F e δ=some (.ok (.lst (iD (n::ns))) cl)):evE G F (.bi .max [e]) δ=some (.ok (.int (maxI n ns)) .strong):=by
 show Rs.thn (evEs G F [e] δ) (λl=>maxD l)=_;rw[q0a h q0d];show(match ints? (iD (n::ns))with
  | some (n::r)=>some (Re.ok (.int (maxI n r)) .strong)
  | _=>none)=_
 rw[q6F]
theorem q6V:∀(r:List Int) (m:Int),m<=maxI m r/\∀x∈r,x<=maxI m r
 | [],m=>⟨Int.le_refl _,λx h=>absurd h (by simp)⟩
 | y::r,m=>by
  have I:=q6V r (if m<y then y else m);show m<=maxI (if m<y then y else m) r/\_;refine⟨?_,λx hx=>?_⟩
  ·have:=I.1;split at this<;>omega
  ·show x<=maxI (if m<y then y else m) r;rcases List.mem_cons.mp hx with q | q
   ·have:=I.1;rw[q];split at this<;>omega
   ·exact I.2 x q
theorem z3v{e:ME}{r:List Int}(h0:0<r.length)(h:evE G F e δ=some (.ok (.lst (iD r)) cl)):∃M,evE G F (.bi .max [e]) δ=some (.ok (.int M) .strong)/\∀x∈r,x<=M:=by
 cases r with
 | nil=>cases h0
 | cons a r=>exact⟨_,z3Q h,λx hx=>by
   rcases List.mem_cons.mp hx with q | q
   ·rw[q];exact(q6V r a).1
   ·exact(q6V r a).2 x q⟩
theorem z8e{a b:ME}{x w:List Int}(ha:evE G F a δ=some (.ok (.lst (iD x)) .strong))(hb:evE G F b δ=some (.ok (.lst (iD w)) .strong))(h:x.length=w.length):q0A (evE G F (.zp a b) δ)=some (.ok ((List.range x.length).map λ(i:Nat)=>DV.tup [.int (x.getD i 0),.int (w.getD i 0)]) .strong):=by
 have q:evE G F (.zp a b) δ=Re.thn (evE G F a δ) (λx c=>Re.thn (evE G F b δ) λy c'=>zipD x y c c'):=by rw[evE]
 rw[q,ha,q0V,hb,q0V];show some (Ri.ok (zpD (iD x) (iD w)) .strong)=_;rw[q8J x w h]
def Rw9(n m:Nat)(rows:List (List Int)):Prop:=Rect n m rows/\W9 rows
theorem z5O{n m i:Nat}{rows:List (List Int)}{y:List Int}(h:Rw9 n m rows)(hy:y.length=m)(h9:∀x∈y,0<=x/\x<=9):Rw9 n m (rows.set i y):=by
 refine⟨⟨by rw[List.length_set];exact h.1.1,λr hr=>?_⟩,λr hr=>?_⟩
 ·rcases List.mem_or_eq_of_mem_set hr with q | q
  ·exact h.1.2 r q
  ·rw[q];exact hy
 ·rcases List.mem_or_eq_of_mem_set hr with q | q
  ·exact h.2 r q
  ·rw[q];exact h9
abbrev xS(rows:List (List Int))(xs:List Int)(a:Sv)(i:Nat)(r r':List Int)(w:Int):List Sv:=[.own (rL rows),.val (.lst (iD xs)),a,.val (.int (i:Int)),.val (.lst (iD r)),.val (.lst (iD r')),.val (.int w)]
theorem x_if{rows:List (List Int)}{n m i:Nat}{xs r r':List Int}{w:Int}{a:Sv}{c e:ME}{t:Bool}(h:Rw9 n m rows)(hi:i<n)(hc:evE G F c (xS rows xs a i r r' w)=some (.ok (.bl t) .strong))(he:t=true->∃y,evE G F e (xS rows xs a i r r' w)=some (.ok (.lst (iD y)) .fresh)/\y.length=m/\∀x∈y,0<=x/\x<=9):∃rows',Rw9 n m rows'/\evS G F fu (.iff c [.seti 0 (.var 3) e] []) (xS rows xs a i r r' w)=some (.nx (xS rows' xs a i r r' w)):=by
 cases t with
 | false=>exact⟨rows,h,by rw[q8a (q0B hc)];rfl⟩
 | true=>
  obtain⟨y,e1,e2,e3⟩:=he rfl;refine⟨rows.set i y,z5O h e2 e3,?_⟩;rw[q8a (q0B hc),if_pos rfl];have st:=q9S (fu:=fu) (G:=G) (F:=F) (i:=0) (k:=.var 3) (δ:=xS rows xs a i r r' w) (ds:=rows.map λr=>DV.lst (iD r)) (n:=(i:Int)) (j:=i) rfl e1 (q0b rfl) rfl (q9T (by rw[List.length_map,h.1.1];exact hi));refine q0s st ?_;have es:(rows.map λr=>DV.lst (iD r)).set i (.lst (iD y))=(rows.set i y).map λr=>DV.lst (iD r):=by rw[List.map_set]
  show some (Out.nx ((xS rows xs a i r r' w).set 0 (.own (.lst ((rows.map λr=>DV.lst (iD r)).set i (.lst (iD y)))))))=_;rw[es];rfl
theorem z8n{rows:List (List Int)}{n m i:Nat}{xs r r':List Int}{w:Int}{a:Sv}(h:Rw9 n m rows)(m0:0<m)(m8:m<=8)(hi:i<n)(hr:r.length=m)(hr':r'.length=m)(r9:∀x∈r,0<=x/\x<=9)(r9':∀x∈r',0<=x/\x<=9):∃rows',Rw9 n m rows'/\evSs G F fu [.iff (.cmp .Eq (.var 6) (.int 0)) [.seti 0 (.var 3) (.bi .list [.var 4])] [],.iff (.and [.cmp .Eq (.var 6) (.int 1),.cmp .Lt (.bin .Add (.bi .max [.var 4]) (.bi .max [.var 5])) (.int 10)]) [.seti 0 (.var 3) (.comp (.bin .Add (.var 0) (.var 1)) (.many [0,1]) (.zp (.var 4) (.var 5)) [none,none])] [],.iff (.and [.cmp .Eq (.var 6) (.int 2),.cmp .Lt (.bi .max [.var 4]) (.int 5)]) [.seti 0 (.var 3) (.comp (.bin .Mult (.int 2) (.var 0)) (.one 0) (.var 4) [none])] [],.iff (.cmp .Eq (.var 6) (.int 3)) [.seti 0 (.var 3) (.bin .Mult (.lst [.int 0]) (.bi .len [.var 4]))] []] (xS rows xs a i r r' w)=some (.nx (xS rows' xs a i r r' w)):=by
 have e62:(2:Int)^62=4611686018427387904:=(by decide);obtain⟨rows1,h1,s1⟩:=x_if (fu:=fu) (F:=F) (rows:=rows) (xs:=xs) (r:=r) (r':=r') (w:=w) (a:=a) (c:=.cmp .Eq (.var 6) (.int 0)) (e:=.bi .list [.var 4]) h hi (b_eq (q0b rfl) q0e) λ_=>⟨r,q9B (q0b rfl),hr,r9⟩;obtain⟨rows2,h2,s2⟩:∃rows',Rw9 n m rows'/\evS G F fu (.iff (.and [.cmp .Eq (.var 6) (.int 1),.cmp .Lt (.bin .Add (.bi .max [.var 4]) (.bi .max [.var 5])) (.int 10)]) [.seti 0 (.var 3) (.comp (.bin .Add (.var 0) (.var 1)) (.many [0,1]) (.zp (.var 4) (.var 5)) [none,none])] []) (xS rows1 xs a i r r' w)=some (.nx (xS rows' xs a i r r' w)):=by
  obtain⟨M,q1,q2⟩:=z3v (F:=F) (e:=.var 4) (δ:=xS rows1 xs a i r r' w) (r:=r) (by omega) (cl:=.strong) (q0b rfl);obtain⟨M',q3,q4⟩:=z3v (F:=F) (e:=.var 5) (δ:=xS rows1 xs a i r r' w) (r:=r') (by omega) (cl:=.strong) (q0b rfl);refine x_if h1 hi (and2 (b_eq (q0b rfl) q0e) (b_lt (q4s q1 q3) q0e)) λht=>?_
  rw[Bool.and_eq_true,decide_eq_true_eq]at ht;have c:=q0S (F:=F) (δ:=xS rows1 xs a i r r' w) (it:=.zp (.var 4) (.var 5)) (l:=List.range r.length) (h:=λ(i:Nat)=>DV.tup [.int (r.getD i 0),.int (r'.getD i 0)]) (f:=λ(i:Nat)=>DV.int (r.getD i 0+r'.getD i 0)) (elt:=.bin .Add (.var 0) (.var 1)) (tg:=.many [0,1]) (fr:=[none,none]) (cl:=.strong) (z8e (q0b rfl) (q0b rfl) (by omega)) (by decide) (by rw[List.length_range,hr];exact Nat.le_trans m8 (by decide)) λj _=>⟨[.val (.int (r.getD j 0)),.val (.int (r'.getD j 0))],.strong,rfl,q4s (q0b rfl) (q0b rfl),rfl⟩
  refine⟨(List.range r.length).map λi=>r.getD i 0+r'.getD i 0,by rw[c];unfold iD;rw[List.map_map];rfl,by rw[List.length_map,List.length_range,hr],λx hx=>?_⟩;obtain⟨j,hj,rfl⟩:=List.mem_map.mp hx;have hj:=List.mem_range.mp hj;have g1:r.getD j 0∈r:=by rw[List.getD_eq_getElem?_getD,List.getElem?_eq_getElem hj];exact List.getElem_mem hj
  have g2:r'.getD j 0∈r':=by rw[List.getD_eq_getElem?_getD,List.getElem?_eq_getElem (show j<r'.length by omega)];exact List.getElem_mem _
  have:=q2 _ g1;have:=q4 _ g2;have:=r9 _ g1;have:=r9' _ g2;have:=ht.2;omega
 obtain⟨rows3,h3,s3⟩:∃rows',Rw9 n m rows'/\evS G F fu (.iff (.and [.cmp .Eq (.var 6) (.int 2),.cmp .Lt (.bi .max [.var 4]) (.int 5)]) [.seti 0 (.var 3) (.comp (.bin .Mult (.int 2) (.var 0)) (.one 0) (.var 4) [none])] []) (xS rows2 xs a i r r' w)=some (.nx (xS rows' xs a i r r' w)):=by
  obtain⟨M,q1,q2⟩:=z3v (F:=F) (e:=.var 4) (δ:=xS rows2 xs a i r r' w) (r:=r) (by omega) (cl:=.strong) (q0b rfl);refine x_if h2 hi (and2 (b_eq (q0b rfl) q0e) (b_lt q1 q0e)) λht=>?_
  rw[Bool.and_eq_true,decide_eq_true_eq]at ht;have c:=q0S (F:=F) (δ:=xS rows2 xs a i r r' w) (it:=.var 4) (l:=r) (h:=DV.int) (f:=λx=>DV.int (2*x)) (elt:=.bin .Mult (.int 2) (.var 0)) (tg:=.one 0) (fr:=[none]) (cl:=.strong) rfl (by decide) (by rw[hr];exact Nat.le_trans m8 (by decide)) λx hx=>⟨[.val (.int x)],.strong,rfl,q5o q0e (q0b rfl) (z7E (by have:=r9 x hx;omega) (by have:=r9 x hx;omega)),rfl⟩
  refine⟨r.map λx=>2*x,by rw[c];unfold iD;rw[List.map_map];rfl,by rw[List.length_map,hr],λx hx=>?_⟩;obtain⟨y,hy,rfl⟩:=List.mem_map.mp hx;have:=q2 _ hy;have:=r9 _ hy;have:=ht.2;omega
 obtain⟨rows4,h4,s4⟩:∃rows',Rw9 n m rows'/\evS G F fu (.iff (.cmp .Eq (.var 6) (.int 3)) [.seti 0 (.var 3) (.bin .Mult (.lst [.int 0]) (.bi .len [.var 4]))] []) (xS rows3 xs a i r r' w)=some (.nx (xS rows' xs a i r r' w)):=by
  refine x_if h3 hi (b_eq (q0b rfl) q0e) λ_=>⟨List.replicate m 0,?_,List.length_replicate,λx hx=>by rw[(List.mem_replicate.mp hx).2];exact⟨Int.le_refl _,by decide⟩⟩;have l:=q7u (F:=F) (e:=.var 4) (r:=r) (c:=.strong) (δ:=xS rows3 xs a i r r' w) (q0b rfl);rw[hr]at l;have ls:=z0p (F:=F) (δ:=xS rows3 xs a i r r' w) (q0a (q0e (i:=0)) q0d) (show(1:Nat)<=mostLen by decide) rfl;refine(q1A ls l (show binD .Mult (.lst [.int 0]) (.int (m:Int)) .fresh .strong=some (Re.ok (.lst (List.replicate (m:Int).toNat [DV.int 0]).flatten) (Cl.anew .fresh .fresh))from if_pos ⟨?_,by omega,by omega⟩)).trans ?_
  ·rw[Int.toNat_natCast];have:∀q:Nat,(List.replicate q [DV.int 0]).flatten=iD (List.replicate q 0):=λq=>by
    induction q with
    | zero=>rfl
    | succ q ih=>rw[List.replicate_succ,List.flatten_cons,ih,List.replicate_succ];rfl
   rw[this];rfl
  ·rw[Int.toNat_natCast];show 1*m<=mostLen;exact Nat.le_trans (show 1*m<=8 by omega) (by decide)
 exact⟨rows4,h4,q0s s1 (q0s s2 (q0s s3 (q0s s4 rfl)))⟩
end k43
end
noncomputable section
namespace k43
open PySem L2
variable {F:Nat->List DV->Option Ou} {fu k:Nat} {δ:List Sv} {cl:Cl}
abbrev yS(rows:List (List Int))(xs:List Int)(a b c d e:Sv):List Sv:=[.own (rL rows),.val (.lst (iD xs)),a,b,c,d,e]
theorem z4e{rows:List (List Int)}{n m:Nat}{xs:List Int}(h:Rw9 n m rows)(n0:0<n)(n8:n<=8)(m0:0<m)(m8:m<=8)(hx:xs.length=20):∃rows',Rw9 n m rows'/\run G T fu (k+1) 20 [rL rows,.lst (iD xs)]=some (.v (rL rows') true):=by
 have c0:=q0S (F:=run G T fu k) (δ:=q0m 7 [rL rows,.lst (iD xs)]) (it:=.var 0) (l:=rows) (h:=λr=>DV.lst (iD r)) (f:=λr=>DV.lst (iD r)) (elt:=.bi .list [.var 0]) (tg:=.one 0) (fr:=[none]) (cl:=.strong) rfl (by decide) (by rw[h.1.1];exact Nat.le_trans n8 (by decide)) λr _=>⟨[.val (.lst (iD r))],.fresh,rfl,q9B (q0b rfl),rfl⟩;have atx:∀(i:Nat) (j:Nat),i+j<20->∀{F:Nat->List DV->Option Ou} {δ:List Sv},evE G F (.var 1) δ=some (.ok (.lst (iD xs)) .strong)->evE G F (.var 2) δ=some (.ok (.int (j:Int)) .strong)->evE G F (.ix (.var 1) (.bin .Add (.int (i:Int)) (.var 2))) δ=some (.ok (.int (xs.getD (i+j) 0)) .strong):=λi j hij F δ h1 h2=>by have:=q1U (r:=xs) (j:=i+j) (by omega);rw[Int.natCast_add]at this;exact q0U (cx:=.strong) h1 (q4s q0e h2) this
 have pick:∀(v:Int) (rows:List (List Int)),Rw9 n m rows->∃j:Nat,v%(n:Int)=(j:Int)/\j<n:=λv rows _=>by have h1:=Int.emod_nonneg v (b:=(n:Int)) (by omega);have h2:=Int.emod_lt_of_pos v (b:=(n:Int)) (by omega);exact⟨(v%n).toNat,by omega,by omega⟩
 have hq0:0<=xs.getD 0 0%4/\xs.getD 0 0%4<4:=by omega
 obtain⟨q,hq,hq4⟩:∃q:Nat,xs.getD 0 0%4=(q:Int)/\q<4:=⟨(xs.getD 0 0%4).toNat,by omega,by omega⟩;have w:q0A (evE G (run G T fu k) (.rng [.bin .Mod (.ix (.var 1) (.int 0)) (.int 4)]) (yS rows xs .no .no .no .no .no))=some (.ok (upTo 0 q) .fresh):=by have a0:=q1U (r:=xs) (j:=0) (by omega);have:=q2l (q0U (G:=G) (F:=run G T fu k) (cx:=.strong) (δ:=yS rows xs .no .no .no .no .no) (q0b (n:=1) (d:=.lst (iD xs)) rfl) (q0e (i:=((0:Nat):Int))) a0) (q0e (i:=4)) (by decide);rw[hq]at this;exact q9v this (by omega)
 have loop:∃δ',q0O (.one 2) (λδ'=>evSs G (run G T fu k) fu ([.set 3 false (.bin .Mod (.ix (.var 1) (.bin .Add (.int 1) (.var 2))) (.bi .len [.var 0])),.set 4 false (.ix (.var 0) (.bin .Mod (.ix (.var 1) (.bin .Add (.int 5) (.var 2))) (.bi .len [.var 0]))),.set 5 false (.ix (.var 0) (.bin .Mod (.ix (.var 1) (.bin .Add (.int 9) (.var 2))) (.bi .len [.var 0]))),.set 6 false (.bin .Mod (.ix (.var 1) (.bin .Add (.int 13) (.var 2))) (.int 4)),.iff (.cmp .Eq (.var 6) (.int 0)) [.seti 0 (.var 3) (.bi .list [.var 4])] [],.iff (.and [.cmp .Eq (.var 6) (.int 1),.cmp .Lt (.bin .Add (.bi .max [.var 4]) (.bi .max [.var 5])) (.int 10)]) [.seti 0 (.var 3) (.comp (.bin .Add (.var 0) (.var 1)) (.many [0,1]) (.zp (.var 4) (.var 5)) [none,none])] [],.iff (.and [.cmp .Eq (.var 6) (.int 2),.cmp .Lt (.bi .max [.var 4]) (.int 5)]) [.seti 0 (.var 3) (.comp (.bin .Mult (.int 2) (.var 0)) (.one 0) (.var 4) [none])] [],.iff (.cmp .Eq (.var 6) (.int 3)) [.seti 0 (.var 3) (.bin .Mult (.lst [.int 0]) (.bi .len [.var 4]))] []]:List MS) δ') (upTo 0 q) (yS rows xs .no .no .no .no .no)=some (.nx δ')/\∃rows' a b c d e,Rw9 n m rows'/\δ'=yS rows' xs a b c d e:=by
  refine q3h (i:=2) (I:=λ_ δ=>∃rows' a b c d e,Rw9 n m rows'/\δ=yS rows' xs a b c d e) q 0 (λj hj δ Iv=>?_) ⟨rows,_,_,_,_,_,h,rfl⟩;obtain⟨rw1,a,b,c,d,e,h1,rfl⟩:=Iv;rw[Int.zero_add];have ln:∀(a b c d e:Sv),evE G (run G T fu k) (.bi .len [.var 0]) (yS rw1 xs a b c d e)=some (.ok (.int (n:Int)) .strong):=λa b c d e=>by have:=q7F (F:=run G T fu k) (rows:=rw1) (e:=.var 0) (c:=.top) (δ:=yS rw1 xs a b c d e) (q0X rfl);rw[h1.1.1]at this;exact this
  obtain⟨i1,p1,l1⟩:=pick (xs.getD (1+j) 0) rw1 h1;obtain⟨i5,p5,l5⟩:=pick (xs.getD (5+j) 0) rw1 h1;obtain⟨i9,p9,l9⟩:=pick (xs.getD (9+j) 0) rw1 h1;have g1:=q2l (atx 1 j (by omega) (F:=run G T fu k) (δ:=yS rw1 xs (.val (.int (j:Int))) b c d e) (q0b rfl) (q0b rfl)) (ln _ _ _ _ _) (by omega);rw[p1]at g1;have g5:=q2l (atx 5 j (by omega) (F:=run G T fu k) (δ:=yS rw1 xs (.val (.int (j:Int))) (.val (.int (i1:Int))) c d e) (q0b rfl) (q0b rfl)) (ln _ _ _ _ _) (by omega);rw[p5]at g5;obtain⟨r5,r5'⟩:=q4E h1.1 l5;obtain⟨r9,r9'⟩:=q4E h1.1 l9;have k5:=q0U (cx:=.top) (q0X (G:=G) (F:=run G T fu k) (n:=0) (d:=rL rw1) (δ:=yS rw1 xs (.val (.int (j:Int))) (.val (.int (i1:Int))) c d e) rfl) g5 (q6B (by rw[h1.1.1];exact l5));have g9:=q2l (atx 9 j (by omega) (F:=run G T fu k) (δ:=yS rw1 xs (.val (.int (j:Int))) (.val (.int (i1:Int))) (.val (.lst (iD (rw1.getD i5 [])))) d e) (q0b rfl) (q0b rfl)) (ln _ _ _ _ _) (by omega);rw[p9]at g9;have k9:=q0U (cx:=.top) (q0X (G:=G) (F:=run G T fu k) (n:=0) (d:=rL rw1) (δ:=yS rw1 xs (.val (.int (j:Int))) (.val (.int (i1:Int))) (.val (.lst (iD (rw1.getD i5 [])))) d e) rfl) g9 (q6B (by rw[h1.1.1];exact l9));have g13:=q2l (atx 13 j (by omega) (F:=run G T fu k) (δ:=yS rw1 xs (.val (.int (j:Int))) (.val (.int (i1:Int))) (.val (.lst (iD (rw1.getD i5 [])))) (.val (.lst (iD (rw1.getD i9 [])))) e) (q0b rfl) (q0b rfl)) (q0e (i:=4)) (by decide);obtain⟨rw2,h2,s⟩:=z8n (F:=run G T fu k) (fu:=fu) (rows:=rw1) (xs:=xs) (i:=i1) (r:=rw1.getD i5 []) (r':=rw1.getD i9 []) (w:=xs.getD (13+j) 0%4) (a:=.val (.int (j:Int))) h1 m0 m8 l1 r5' r9' (h1.2 _ r5) (h1.2 _ r9);exact⟨_,q0s (q0F g1 rfl) (q0s (q0F k5 rfl) (q0s (q0F k9 rfl) (q0s (q0F g13 rfl) s))),rw2,_,_,_,_,_,h2,rfl⟩
 obtain⟨δ',e,rows',a,b,c,d,e',h',rfl⟩:=loop;refine⟨rows',h',?_⟩;rw[q0E (fd:=q2v) rfl rfl];exact q1x (q0s (q2Q c0) (q3X w (.inr rfl) e (q1p (q1b (cl:=.top) (q0X rfl)))))
end k43
end
noncomputable section
namespace k43
open PySem L2
variable {F:Nat->List DV->Option Ou} {δ:List Sv} {fu k:Nat} {cl:Cl}
theorem z6d{x:Int}:run G T fu (k+1) 15 [.int x]=some (.v (.bl true) false):=by
 rw[q0E (fd:=q3t) rfl rfl];rfl
theorem b_ge{a b:ME}{i j:Int}{cx cy:Cl}(ha:evE G F a δ=some (.ok (.int i) cx))(hb:evE G F b δ=some (.ok (.int j) cy)):evE G F (.cmp .GtE a b) δ=some (.ok (.bl (decide (j<=i))) .strong):=q1g ha hb rfl
def gB:List MS:=[.iff (.or [.not (.call 15 [.var 3]),.cmp .LtE (.var 3) (.var 2),.cmp .GtE (.var 3) (.var 1)]) [.ret (.bl false)] [],.set 2 false (.var 3)]
theorem z2E{d:DV}{most:Nat}:∀(l:List Nat) (last:Int) (a:Sv),l.Pairwise (· < ·)->(∀x∈l,last<(x:Int)/\x<most)->∃δ',q0O (.one 3) (λδ'=>evSs G (run G T fu (k+1)) fu gB δ') (nD l) [.val d,.val (.int (most:Int)),.val (.int last),a]=some (.nx δ')
 | [],last,a,_,_=>⟨_,rfl⟩
 | x::l,last,a,up,h=>by
  have hx:=h x List.mem_cons_self;have up':=List.pairwise_cons.mp up;obtain⟨δ',e⟩:=z2E (d:=d) (most:=most) l (x:Int) (.val (.int (x:Int))) up'.2 λy hy=>⟨by have:=up'.1 y hy;omega,(h y (List.mem_cons_of_mem _ hy)).2⟩;refine⟨δ',?_⟩;have o:evE G (run G T fu (k+1)) (.or [.not (.call 15 [.var 3]),.cmp .LtE (.var 3) (.var 2),.cmp .GtE (.var 3) (.var 1)]) [.val d,.val (.int (most:Int)),.val (.int last),.val (.int (x:Int))]=some (.ok (.bl false) .strong):=by have q1:=b_le (F:=run G T fu (k+1)) (δ:=[.val d,.val (.int (most:Int)),.val (.int last),.val (.int (x:Int))]) (a:=.var 3) (b:=.var 2) (q0b rfl) (q0b rfl);rw[decide_eq_false (by omega)]at q1;have q2:=b_ge (F:=run G T fu (k+1)) (δ:=[.val d,.val (.int (most:Int)),.val (.int last),.val (.int (x:Int))]) (a:=.var 3) (b:=.var 1) (q0b rfl) (q0b rfl);rw[decide_eq_false (by omega)]at q2;exact z3D (q2N (q0r (q0a (q0b rfl) q0d) rfl z6d)) q1 q2
  have s:evSs G (run G T fu (k+1)) fu gB [.val d,.val (.int (most:Int)),.val (.int last),.val (.int (x:Int))]=some (.nx [.val d,.val (.int (most:Int)),.val (.int (x:Int)),.val (.int (x:Int))]):=q1f (q0B o) (q0s (q0F (q0b rfl) rfl) rfl);show(match evSs G (run G T fu (k+1)) fu gB [.val d,.val (.int (most:Int)),.val (.int last),.val (.int (x:Int))]with | some (.nx δ2)=>q0O (.one 3) (λδ'=>evSs G (run G T fu (k+1)) fu gB δ') (nD l) δ2 | o=>o)=_;rw[s];exact e
theorem q4W{l:List Nat}{most:Nat}(up:l.Pairwise (· < ·))(h:∀x∈l,x<most):run G T fu (k+2) 21 [.lst (nD l),.int (most:Int)]=some (.v (.bl true) false):=by
 obtain⟨δ',e⟩:=z2E (fu:=fu) (k:=k) (d:=.lst (nD l)) (most:=most) l (-1) .no up λx hx=>⟨by omega,h x hx⟩
 rw[q0E (fd:=q1v) rfl rfl];unfold q1v;have c:evE G (run G T fu (k+1)) (.isi (.var 0) ["list"]) (q0m 4 [.lst (nD l),.int (most:Int)])=some (.ok (.bl true) .strong):=rfl;exact q1x (q1f (q0B (q2N c)) (q0s (q0F (d:=.int (-1)) (cl:=.strong) rfl rfl) (q3X (ds:=nD l) (cl:=.strong) rfl (.inl rfl) e (q1p (q1b (cl:=.strong) rfl)))))
def cS(rows:List (List Int))(S:List Nat)(c:Nat):Int:=(S.map λr=>vv rows r c).sum
def sR(rows:List (List Int))(m:Nat)(S:List Nat):List Int:=(List.range m).map λc=>cS rows S c%2
theorem z5x{rows:List (List Int)}{n m:Nat}{S:List Nat}(R:Rect n m rows)(n0:0<n)(m8:m<=1000)(hS:∀r∈S,r<n)(lS:S.length<=1000):run G T fu (k+1) 22 [rL rows,.lst (nD S)]=some (.v (.lst (iD (sR rows m S))) true):=by
 rw[q0E (fd:=q2I) rfl rfl];unfold q2I;have l:=q7u (F:=run G T fu k) (δ:=q0m 2 [rL rows,.lst (nD S)]) (q0U (a:=.var 0) (b:=.int 0) (cx:=.strong) (q0b rfl) (q0e (i:=((0:Nat):Int))) (q6B (by rw[R.1];exact n0)));rw[show(rows.getD 0 []).length=m from R.2 _ (q1O (by rw[R.1];exact n0))]at l;have cm:=q0S (F:=run G T fu k) (elt:=.bin .Mod (.bi .sum [.comp (.ix (.ix (.var 1) (.var 0)) (.var 2)) (.one 0) (.var 1) [none,some 2,some 0]]) (.int 2)) (tg:=.one 0) (fr:=[none,some 1,some 0]) (f:=λc=>.int (cS rows S c%2)) (z1A l m8) (by decide) (by rw[List.length_range];exact Nat.le_trans m8 (by decide)) λc hc=>by
  have hc:=List.mem_range.mp hc;refine⟨[.val (.int c),.val (.lst (nD S)),.val (rL rows)],.strong,rfl,?_,rfl⟩;have ci:=q0S (F:=run G T fu k) (δ:=[.val (.int c),.val (.lst (nD S)),.val (rL rows)]) (it:=.var 1) (elt:=.ix (.ix (.var 1) (.var 0)) (.var 2)) (tg:=.one 0) (fr:=[none,some 2,some 0]) (l:=S) (h:=λ(j:Nat)=>DV.int (j:Int)) (f:=λr=>.int (vv rows r c)) (cl:=.strong) rfl (by decide) (Nat.le_trans lS (by decide)) λr hr=>by
   have hr':r<rows.length:=by rw[R.1];exact hS r hr
   exact⟨[.val (.int r),.val (rL rows),.val (.int c)],.strong,rfl,q0U (cx:=.strong) (q0U (cx:=.strong) (q0b rfl) (q0b rfl) (q6B hr')) (q0b rfl) (q1U (by rw[R.2 _ (q1O hr')];exact hc)),rfl⟩
  have ci':evE G (run G T fu k) (.comp (.ix (.ix (.var 1) (.var 0)) (.var 2)) (.one 0) (.var 1) [none,some 2,some 0]) [.val (.int c),.val (.lst (nD S)),.val (rL rows)]=some (.ok (.lst (iD (S.map λr=>vv rows r c))) .fresh):=(by rw[ci];unfold iD;rw[List.map_map];rfl);exact q2l (q6x ci') q0e (by decide)
 have cm':evE G (run G T fu k) (.comp (.bin .Mod (.bi .sum [.comp (.ix (.ix (.var 1) (.var 0)) (.var 2)) (.one 0) (.var 1) [none,some 2,some 0]]) (.int 2)) (.one 0) (.rng [.bi .len [.ix (.var 0) (.int 0)]]) [none,some 1,some 0]) (q0m 2 [rL rows,.lst (nD S)])=some (.ok (.lst (iD (sR rows m S))) .fresh):=(by rw[cm];unfold iD sR;rw[List.map_map];rfl);exact q1x (q1p (q1b cm'))
end k43
end
noncomputable section
namespace k43
open PySem L2
variable {F:Nat->List DV->Option Ou} {δ:List Sv} {fu k:Nat} {cl:Cl}
def iB:List MS:=[.iff (.cmp .Eq (.bin .Mod (.var 2) (.int 2)) (.int 1)) [.app 3 (.var 4)] [],.set 2 false (.bin .FloorDiv (.var 2) (.int 2))]
theorem q9u(P:List Nat)(r:Nat):nD P++[.int (r:Int)]=nD (P++[r]):=by unfold nD;rw[List.map_append];rfl
theorem q3y(P:List Nat):(nD P).length=P.length:=by unfold nD;rw[List.length_map]
theorem z2t{r s:Sv}:∀(l:List Nat) (x:Nat) (P:List Nat) (c:Sv),P.length+l.length<=1000->∃c',q0O (.one 4) (λδ'=>evSs G F fu iB δ') (nD l) [r,s,.val (.int (x:Int)),.own (.lst (nD P)),c]=some (.nx [r,s,.val (.int ((x/2^l.length:Nat):Int)),.own (.lst (nD (P++rk.pt x l))),c'])
 | [],x,P,c,_=>⟨c,by rw[List.length_nil,Nat.pow_zero,Nat.div_one];show _=some (Out.nx [r,s,.val (.int (x:Int)),.own (.lst (nD (P++[]))),c]);rw[List.append_nil];rfl⟩
 | a::l,x,P,c,h=>by
  rw[List.length_cons]at h;have m:evE G F (.cmp .Eq (.bin .Mod (.var 2) (.int 2)) (.int 1)) [r,s,.val (.int (x:Int)),.own (.lst (nD P)),.val (.int (a:Int))]=some (.ok (.bl (decide (x%2=1))) .strong):=by
   have:=b_eq (G:=G) (F:=F) (δ:=[r,s,.val (.int (x:Int)),.own (.lst (nD P)),.val (.int (a:Int))]) (q2l (q0b rfl) (q0e (i:=2)) (by decide)) (q0e (i:=1)) (a:=.bin .Mod (.var 2) (.int 2)) (i:=(x:Int)%2);rw[this]
   congr 3
   rw[Bool.eq_iff_iff,beq_iff_eq,decide_eq_true_eq];omega
  have dv:∀P':List Nat,evS G F fu (.set 2 false (.bin .FloorDiv (.var 2) (.int 2))) [r,s,.val (.int (x:Int)),.own (.lst (nD P')),.val (.int (a:Int))]=some (.nx [r,s,.val (.int ((x/2:Nat):Int)),.own (.lst (nD P')),.val (.int (a:Int))]):=λP'=>by have e:=z6b (G:=G) (F:=F) (δ:=[r,s,.val (.int (x:Int)),.own (.lst (nD P')),.val (.int (a:Int))]) (a:=.var 2) (i:=(x:Int)) (q0b rfl) (q0e (i:=2)) (by decide);rw[show(x:Int)/2=((x/2:Nat):Int) by omega]at e;exact q0F e rfl
  have st:evSs G F fu iB [r,s,.val (.int (x:Int)),.own (.lst (nD P)),.val (.int (a:Int))]=some (.nx [r,s,.val (.int ((x/2:Nat):Int)),.own (.lst (nD (if x%2=1 then P++[a]else P))),.val (.int (a:Int))]):=by
   by_cases q:x%2=1
   ·rw[decide_eq_true q]at m;rw[if_pos q,←q9u];refine q4K (q0B m) (q0s (q4B rfl (q0b rfl) rfl (by rw[q3y];exact Nat.lt_of_lt_of_le (show P.length<1000 by omega) (by decide))) rfl) (q0s ?_ rfl);have:=dv (P++[a]);rw[←q9u]at this;exact this
   ·rw[decide_eq_false q]at m;rw[if_neg q];exact q1f (q0B m) (q0s (dv P) rfl)
  have hl':(if x%2=1 then P++[a]else P).length+l.length<=1000:=by
   by_cases q:x%2=1
   ·rw[if_pos q,List.length_append,List.length_singleton];omega
   ·rw[if_neg q];omega
  obtain⟨c',e⟩:=z2t (r:=r) (s:=s) l (x/2) (if x%2=1 then P++[a]else P) (.val (.int (a:Int))) hl';refine⟨c',?_⟩;show(match evSs G F fu iB [r,s,.val (.int (x:Int)),.own (.lst (nD P)),.val (.int (a:Int))]with | some (.nx δ2)=>q0O (.one 4) (λδ'=>evSs G F fu iB δ') (nD l) δ2 | o=>o)=_;rw[st];have e2:(if x%2=1 then P++[a]else P)++rk.pt (x/2) l=P++rk.pt x (a::l):=by
   show _=P++(if x%2=1 then a::rk.pt (x/2) l else rk.pt (x/2) l);split
   ·rw[List.append_assoc];rfl
   ·rfl
  rw[e2]at e;rw[List.length_cons,Nat.pow_succ,Nat.mul_comm,←Nat.div_div_eq_div_mul];exact e
theorem z2s:∀{l:List Int} {y:Int},(∀x∈l,0<=x)->y∈l->y<=l.sum
 | [],_,_,h=>by cases h
 | a::l,y,p,h=>by
  rw[List.sum_cons];have a0:=p a List.mem_cons_self;have s0:0<=l.sum:=by
   clear h
   have p':∀x∈l,0<=x:=λx hx=>p x (List.mem_cons_of_mem _ hx)
   clear p a0
   induction l with
   | nil=>decide
   | cons b l ih=>rw[List.sum_cons];have:=p' b List.mem_cons_self;have:=ih λx hx=>p' x (List.mem_cons_of_mem _ hx);omega
  rcases List.mem_cons.mp h with z | z
  ·omega
  ·have:=z2s (l:=l) (λx hx=>p x (List.mem_cons_of_mem _ hx)) z;omega
theorem q7A:∀(n:Nat) (b:List Nat),b.Pairwise (· < ·)->(∀i∈b,i<n)->b.length<=n:=λn b up h=>by
 have:=List.Nodup.length_le_of_subset (up.imp λh=>Nat.ne_of_lt h) (λi hi=>List.mem_range.mpr (h i hi));rw[List.length_range]at this;exact this
theorem z2C:∀(l:List Nat) (x:Nat),(rk.pt x l).length<=l.length
 | [],_=>Nat.le_refl _
 | a::l,x=>by show(if x%2=1 then a::rk.pt (x/2) l else rk.pt (x/2) l).length<=_;have:=z2C l (x/2);split<;>simp<;>omega
theorem pow9{c:Nat}(h:c<=8):ixD (.lst [.int 1,.int 2,.int 4,.int 8,.int 16,.int 32,.int 64,.int 128,.int 256]) (.int (c:Int))=some (.int ((2^c:Nat):Int)):=by
 have:c=0\/c=1\/c=2\/c=3\/c=4\/c=5\/c=6\/c=7\/c=8:=by omega
 rcases this with h | h | h | h | h | h | h | h | h<;>subst h<;>rfl
def aB:List MS:=[.set 3 true (.lst []),.fo (.one 4) (.var 1) iB,.iff (.cmp .Eq (.bi .sum [.call 22 [.var 0,.var 3]]) (.int 0)) [.ret (.bl false)] []]
theorem a_in{rows:List (List Int)}{n m x:Nat}(R:Rect n m rows)(n0:0<n)(n8:n<=8)(m8:m<=8)(x0:0<x)(hx:x<2^(bl2 rows).length)(b c:Sv):∃a b' c',evSs G (run G T fu (k+1)) fu aB [.val (rL rows),.val (.lst (nD (bl2 rows))),.val (.int (x:Int)),b,c]=some (.nx [.val (rL rows),.val (.lst (nD (bl2 rows))),a,b',c']):=by
 have B:=q6z R;have hl:(bl2 rows).length<=8:=Nat.le_trans (q7A n _ B.up B.lt) n8;obtain⟨c',e⟩:=z2t (F:=run G T fu (k+1)) (fu:=fu) (r:=.val (rL rows)) (s:=.val (.lst (nD (bl2 rows)))) (bl2 rows) x [] c (by rw[List.length_nil];omega);rw[List.nil_append]at e;have hs:∀r∈rk.pt x (bl2 rows),r<n:=λr hr=>B.lt r (rk.pt_in _ _ r hr);have sm:=q6x (q4U (G:=G) (F:=run G T fu (k+1)) (δ:=[.val (rL rows),.val (.lst (nD (bl2 rows))),.val (.int ((x/2^(bl2 rows).length:Nat):Int)),.own (.lst (nD (rk.pt x (bl2 rows)))),c']) (f:=22) (es:=[.var 0,.var 3]) (q0a (q0b rfl) (q0a (q0X rfl) q0d)) (z5x (fu:=fu) (k:=k) R n0 (by omega) hs (by have:=z2C (bl2 rows) x;omega)) (q7J _));have t:=b_eq sm (q0e (i:=0));obtain⟨j,hj,od⟩:=B.odd x0 hx;have pos:1<=(sR rows m (rk.pt x (bl2 rows))).sum:=z2s (λy hy=>by
  obtain⟨c,_,rfl⟩:=List.mem_map.mp hy;show 0<=cS rows _ c%2;omega) (List.mem_map.mpr ⟨j,List.mem_range.mpr hj,od⟩)
 rw[show((sR rows m (rk.pt x (bl2 rows))).sum==0)=false by rw[beq_eq_false_iff_ne];omega]at t;exact⟨_,_,_,q0s (q2Q (d:=.lst []) rfl) (q3X (ds:=nD (bl2 rows)) (cl:=.strong) rfl (.inl rfl) e (q1f (q0B t) rfl))⟩
theorem z4v{rows:List (List Int)}{n m:Nat}(R:Rect n m rows)(n0:0<n)(n8:n<=8)(m8:m<=8):run G T fu (k+2) 23 [rL rows,.lst (nD (bl2 rows))]=some (.v (.bl true) false):=by
 have B:=q6z R;have hl:(bl2 rows).length<=8:=Nat.le_trans (q7A n _ B.up B.lt) n8;rw[q0E (fd:=q1N) rfl rfl];unfold q1N;have le:evE G (run G T fu (k+1)) (.bi .len [.var 1]) (q0m 5 [rL rows,.lst (nD (bl2 rows))])=some (.ok (.int ((bl2 rows).length:Nat)) .strong):=(by have:=q2w (F:=run G T fu (k+1)) (δ:=q0m 5 [rL rows,.lst (nD (bl2 rows))]) (e:=.var 1) (ds:=nD (bl2 rows)) (c:=.strong) (q0b rfl);rw[q3y]at this;exact this);have w:=z6l (q0U (cx:=.fresh) (a:=.lst [.int 1,.int 2,.int 4,.int 8,.int 16,.int 32,.int 64,.int 128,.int 256]) (F:=run G T fu (k+1)) (δ:=q0m 5 [rL rows,.lst (nD (bl2 rows))]) rfl le (pow9 hl)) (Nat.le_trans (Nat.pow_le_pow_right (by decide) hl) (by decide));rw[z8Q]at w;obtain⟨δ',e,a,b,c,hδ⟩:=q3Z (tg:=.one 2) (body:=λδ'=>evSs G (run G T fu (k+1)) fu aB δ') (I:=λδ=>∃a b c,δ=[.val (rL rows),.val (.lst (nD (bl2 rows))),a,b,c]) (ds:=((List.range (2^(bl2 rows).length - 1)).map (· + 1)).map λ(h:Nat)=>DV.int (h:Int)) (δ:=q0m 5 [rL rows,.lst (nD (bl2 rows))]) (λd hd δ ⟨a,b,c,hδ⟩=>by
  obtain⟨x,hx,rfl⟩:=List.mem_map.mp hd;obtain⟨y,hy,rfl⟩:=List.mem_map.mp hx;have hy:=List.mem_range.mp hy;obtain⟨a',b',c',e⟩:=a_in (fu:=fu) (k:=k) (x:=y+1) R n0 n8 m8 (by omega) (by omega) b c;subst hδ;exact⟨_,_,rfl,e,a',b',c',rfl⟩) ⟨.no,.no,.no,rfl⟩
 exact q1x (q3X w (.inr rfl) e (q1p (q1b (cl:=.strong) rfl)))
end k43
end
noncomputable section
namespace k43
open PySem L2
variable {F:Nat->List DV->Option Ou} {δ:List Sv} {fu k:Nat} {cl:Cl}
theorem q8L{P:Int->Prop}{v w:Nat->rk.Rw}{n m:Nat}{b:List Nat}(h:∀i,i<n->∀j,j<m->v i j=w i j)(B:rk.Bas P v n m b):rk.Bas P w n m b:=by
 have at':∀t,t<b.length->b.getD t 0<n:=λt ht=>B.lt _ (by
  rw[List.getD_eq_getElem?_getD,List.getElem?_eq_getElem ht];exact List.getElem_mem ht)
 refine⟨B.lt,B.up,λc hs i hi=>B.ind c (λj hj=>?_) i hi,λi hi=>?_⟩
 ·have:=hs j hj;rw[rk.sm_congr (g:=λt=>c t*v (b.getD t 0) j) λt ht=>by rw[h _ (at' t ht) j hj]]at this;exact this
 ·obtain⟨d,a,hd,q⟩:=B.sp i hi;refine⟨d,a,hd,λj hj=>?_⟩;have:=q j hj;rw[h i hi j hj,rk.sm_congr (g:=λs=>a s*w (b.getD s 0) j) λt ht=>by show a t*v (b.getD t 0) j=_;rw[h _ (at' t ht) j hj]]at this;exact this
theorem z4S{rows:List (List Int)}{n m:Nat}(R:Rect n m rows):∀j,j<m->∀i,i<n->vv (flip m rows) j i=vv rows i j:=λj hj i hi=>by
 have hi':i<rows.length:=by rw[R.1];exact hi
 have e:(flip m rows).getD j []=col rows j:=(by unfold flip;rw[List.getD_eq_getElem?_getD,List.getElem?_map,List.getElem?_range hj];rfl);show((flip m rows).getD j []).getD i 0=(rows.getD i []).getD j 0;rw[e];unfold col;rw[List.getD_eq_getElem?_getD,List.getElem?_map,List.getElem?_eq_getElem hi',List.getD_eq_getElem?_getD (l:=rows),List.getElem?_eq_getElem hi'];rfl
section
variable {rows:List (List Int)} {n m:Nat} (R:Rect n m rows)
include R
theorem z6N:rk.Bas rk.P2 (λj i=>vv rows i j) m n (bl2 (flip m rows)):=q8L (z4S R) (q6z (q5R R))
theorem z8a:(bl2 rows).length=(bl2 (flip m rows)).length:=(q6z R).len rk.pr2 (z6N R)
theorem z8r:(bl2 rows).length<=(bl0 rows m).length:=rk.rank_le (q6z R) (z8P R)
end
theorem q7w(l:List Nat):q5j (.lst (nD l)) .fresh=true:=by
 show newI (.lst (nD l)) .fresh=true;show(ints? (nD l)).isSome=true;rw[q6L];rfl
def pD2(rows:List (List Int))(m:Nat):List DV:=[.lst (nD (bl2 rows)),.lst (nD (bl2 (flip m rows)))]
theorem z0A{rows:List (List Int)}{n m:Nat}(R:Rect n m rows)(n0:0<n)(hn:n<=64)(hm:m<=64):run G T fu (k+4) 4 [tT rows]=some (.t (.dct [] (pD2 rows m))):=by
 rw[q0E (fd:=q1n) rfl rfl];unfold q1n;have a:=z3c (fu:=fu) (k:=k) (δ:=q0m 1 [tT rows]) (e:=.var 0) R hn hm (q0b rfl);have b:=z3c (fu:=fu) (k:=k) (δ:=q0m 1 [tT rows]) (e:=.call 1 [.var 0]) (q5R R) hm hn (q0r (q0a (q0b rfl) q0d) rfl (q5T (fu:=fu) (k:=k+2) rows n m R n0 (by omega) (by omega)));have s:evS G (run G T fu (k+3)) fu (.ret2 (.call 8 [.call 7 [.var 0]]) (.call 8 [.call 7 [.call 1 [.var 0]]])) (q0m 1 [tT rows])=some (.rtt (.dct [] (pD2 rows m))):=by unfold evS;rw[a,b];show(if q5j (.lst (nD (bl2 rows))) .fresh=true/\q5j (.lst (nD (bl2 (flip m rows)))) .fresh=true then _ else none)=_;rw[if_pos ⟨q7w _,q7w _⟩];rfl
 show Ou.of (evSs G (run G T fu (k+3)) fu [.ret2 (.call 8 [.call 7 [.var 0]]) (.call 8 [.call 7 [.call 1 [.var 0]]])] (q0m 1 [tT rows]))=_;unfold evSs;rw[s];rfl
theorem q7G{f:Nat}{es:List ME}{l:List (DV×Cl)}{ks:List DKey}{ds:List DV}(ha:evEs G F es δ=some (.ok l))(h:F f (l.map (·.1))=some (.t (.dct ks ds))):evE G F (.call f es) δ=some (.ok (.tup ds) .strong):=by
 show Rs.thn (evEs G F es δ) (λl=>q1W F f l)=_;rw[ha];show q1W F f l=_;unfold q1W;rw[h]
theorem z8K{l:List Nat}{i:Nat}(h:i<l.length):ixD (.lst (nD l)) (.int (i:Int))=some (.int (l.getD i 0:Nat)):=by
 show atD (nD l) (i:Int)=_;unfold atD;rw[q3y,q9T h,Option.bind_some];unfold nD;rw[List.getElem?_map,List.getD_eq_getElem?_getD,List.getElem?_eq_getElem h];rfl
theorem z6q{c:ME}{a b r:List MS}{x:Str}{δ':List Sv}(hc:tstD (evE G F c δ)=some (.ok true))(h:evSs G F fu a δ=some (.ex x δ')):evSs G F fu (.iff c a b::r) δ=some (.ex x δ'):=by
 have e:evS G F fu (.iff c a b) δ=some (.ex x δ'):=(q8a hc).trans h;unfold evSs;rw[e]
theorem q9W{d:DV}{s:Nat}{b:Bool}(h:run G T fu (k+1) 0 [d,.int 0,.int ((s:Int) - 1)]=some (.v (.bl b) false)):run G T fu (k+2) 2 [d,.int (s:Int)]=(if b then some (.v .non false)else some (.x "NoCard")):=by
 rw[q0E (fd:=q1K) rfl rfl];unfold q1K;have c:=q2N (q0r (G:=G) (F:=run G T fu (k+1)) (δ:=q0m 2 [d,.int (s:Int)]) (f:=0) (es:=[.var 0,.int 0,.bin .Sub (.var 1) (.int 1)]) (q0a (q0b rfl) (q0a q0e (q0a (z1j (q0b rfl) q0e) q0d))) rfl h);cases b with
 | true=>rw[if_pos rfl];exact z7Y (q1f (q0B c) rfl)
 | false=>rw[if_neg Bool.false_ne_true];exact z6I (z6q (q0B c) (z3t rfl))
theorem q8i{i s:Nat}(h:i<s):run G T fu (k+2) 2 [.int (i:Int),.int (s:Int)]=some (.v .non false):=by
 have q:=q9W (fu:=fu) (k:=k) (q3O (fu:=fu) (k:=k) (x:=(i:Int)) (a:=0) (b:=(s:Int) - 1));rw[decide_eq_true (by omega),decide_eq_true (by omega)]at q;exact q
theorem lenT{rows:List (List Int)}{n m:Nat}{e:ME}(R:Rect n m rows)(h:evE G F e δ=some (.ok (tT rows) .strong)):evE G F (.bi .len [e]) δ=some (.ok (.int (n:Int)) .strong):=by
 have q:=q6S (ds:=rows.map λr=>.tup (iD r)) h;rw[List.length_map,R.1]at q;exact q
theorem z3J{c:Nat}(h:c<2^64):run G T fu (k+1) 3 [.int (c:Int)]=some (.v (.lst (nD (cs c))) true):=by
 by_cases z:c=0
 ·subst z;rw[q0E (fd:=q2c) rfl rfl];rfl
 ·exact q7T c (by omega) h
def mk(rows:List (List Int))(i:Nat):Nat:=(rk.rk (LL (rows.map tw)) rows.length (LL (rows.map tw) i,0)).2
theorem q9G{rows:List (List Int)}{i j:Nat}(hi:i<rows.length)(h:(mk rows i).testBit j=true):j<=i/\j∈bl2 rows:=(rk.kp_ok (LL (rows.map tw)) rows.length rows.length (Nat.le_refl _)).sub i j hi h
theorem z8L{rows:List (List Int)}{i:Nat}(hi:i<rows.length):mk rows i<2^rows.length:=Nat.lt_pow_two_of_testBit _ λj hj=>by
 cases q:(mk rows i).testBit j with
 | false=>rfl
 | true=>have:=(q9G hi q).1;omega
theorem z0Z{rows:List (List Int)}{n m i:Nat}(R:Rect n m rows)(hn:n<=64)(hm:m<=64)(hi:i<n):run G T fu (k+4) 6 [tT rows,.int (i:Int)]=some (.v (.lst (nD (cs (mk rows i)))) true):=by
 rw[q0E (fd:=q0H) rfl rfl];unfold q0H;have hi':i<rows.length:=by rw[R.1];exact hi
 have c1:evE G (run G T fu (k+3)) (.call 2 [.var 1,.bi .len [.var 0]]) (q0m 3 [tT rows,.int (i:Int)])=some (.ok .non .strong):=q0r (q0a (q0b rfl) (q0a (lenT R (q0b rfl)) q0d)) rfl (q8i (fu:=fu) (k:=k+1) hi);have c2:evE G (run G T fu (k+3)) (.call 7 [.var 0]) (q0m 3 [tT rows,.int (i:Int)])=some (.ok (.lst (nD (rows.map tw))) .fresh):=q0r (q0a (q0b rfl) q0d) rfl (z0C (fu:=fu) (k:=k+2) R hn hm);have ek:=z2w (fu:=fu) (k:=k+1) (ls:=rows.map tw) (by rw[List.length_map,R.1];exact hn);have c3:evE G (run G T fu (k+3)) (.call 9 [.var 2]) [.val (tT rows),.val (.int (i:Int)),.val (.lst (nD (rows.map tw)))]=some (.ok (.lst ((rk.kp (LL (rows.map tw)) (rows.map tw).length).map k3)) .fresh):=q0r (q0a (q0b rfl) q0d) rfl ek;have c4:evE G (run G T fu (k+3)) (.ix (.var 2) (.var 1)) [.val (tT rows),.val (.int (i:Int)),.val (.lst (nD (rows.map tw)))]=some (.ok (.int ((rows.map tw).getD i 0:Nat)) .strong):=q0U (cx:=.strong) (q0b rfl) (q0b rfl) (z8K (by rw[List.length_map];exact hi'));have er:=q4y (fu:=fu) (k:=k+2) (K:=rk.kp (LL (rows.map tw)) (rows.map tw).length) (x:=(rows.map tw).getD i 0) (z1I _ _);have c5:=q0r (G:=G) (F:=run G T fu (k+3)) (f:=10) (q0a c4 (q0a c3 q0d)) rfl er;have c6:evE G (run G T fu (k+3)) (.ix (.call 10 [.ix (.var 2) (.var 1),.call 9 [.var 2]]) (.int 1)) [.val (tT rows),.val (.int (i:Int)),.val (.lst (nD (rows.map tw)))]=some (.ok (.int (mk rows i:Nat)) .strong):=(by refine q0U (cx:=.strong) c5 (q0e (i:=1)) ?_;unfold mk rk.rk;rw[List.length_map];rfl);have lt:mk rows i<2^64:=Nat.lt_of_lt_of_le (z8L hi') (Nat.pow_le_pow_right (by decide) (by rw[R.1];exact hn));have c7:=q0r (G:=G) (F:=run G T fu (k+3)) (f:=3) (q0a c6 q0d) rfl (z3J (fu:=fu) (k:=k+2) lt);exact q1x (q0s (z7v c1) (q0s (q0F c2 rfl) (q1p (q1b c7))))
end k43
end
noncomputable section
namespace k43
open PySem L2
variable {F:Nat->List DV->Option Ou} {δ:List Sv} {fu k:Nat} {cl:Cl}
theorem q4b{p:Nat->Bool}{a:Nat}:∀b,a<=b->(∀i,a<=i->i<b->p i=false)->(List.range b).filter p=(List.range a).filter p
 | 0,h,_=>by rw[show a=0 by omega]
 | b+1,h,q=>by
  by_cases z:a=b+1
  ·rw[z]
  ·rw[List.range_succ,List.filter_append,List.filter_cons_of_neg (by rw[q b (by omega) (by omega)];decide),List.filter_nil,List.append_nil];exact q4b b (by omega) λi h1 h2=>q i h1 (by omega)
theorem cs_n{c n:Nat}(h:∀j,c.testBit j=true->j<n):cs c=(List.range n).filter c.testBit:=by
 unfold cs;have h2:∀j,c.testBit j=true->j<c.log2+1:=λj hj=>by refine Nat.lt_of_not_le λw=>?_;have:=Nat.testBit_lt_two_pow (Nat.lt_of_lt_of_le (Nat.lt_log2_self (n:=c)) (Nat.pow_le_pow_right (by decide) w));rw[this]at hj;cases hj
 have no:∀{a:Nat},(∀j,c.testBit j=true->j<a)->∀i,a<=i->c.testBit i=false:=λ{a} ha i hi=>by
  cases q:c.testBit i with
  | false=>rfl
  | true=>have:=ha i q;omega
 rw[←q4b (p:=c.testBit) (a:=c.log2+1) (max n (c.log2+1)) (Nat.le_max_right ..) (λi h1 _=>no h2 i h1),←q4b (p:=c.testBit) (a:=n) (max n (c.log2+1)) (Nat.le_max_left ..) (λi h1 _=>no h i h1)]
theorem z8p(c:Nat):(cs c).Pairwise (· < ·):=(List.pairwise_lt_range).filter _
theorem z5L{rows:List (List Int)}{i:Nat}(hi:i<rows.length):LL (rows.map tw) i=tw (rows.getD i []):=by
 show(rows.map tw).getD i 0=_;rw[List.getD_eq_getElem?_getD,List.getD_eq_getElem?_getD,List.getElem?_map,List.getElem?_eq_getElem hi];rfl
theorem z8x{rows:List (List Int)}{i:Nat}(hi:i<rows.length):rk.xo (LL (rows.map tw)) (mk rows i) rows.length=LL (rows.map tw) i:=by
 have K:=rk.kp_ok (LL (rows.map tw)) rows.length rows.length (Nat.le_refl _);have inv:=rk.red_inv (LL (rows.map tw)) rows.length ((rk.kp (LL (rows.map tw)) rows.length).map Prod.snd) (LL (rows.map tw) i,0) (λq hq=>by
  obtain⟨q',h1,rfl⟩:=List.mem_map.mp hq;exact(K.mak q' h1).1)
 have inv':(rk.rk (LL (rows.map tw)) rows.length (LL (rows.map tw) i,0)).1 ^^^ rk.xo (LL (rows.map tw)) (mk rows i) rows.length=LL (rows.map tw) i ^^^ rk.xo (LL (rows.map tw)) 0 rows.length:=inv;rw[K.all i hi,Nat.zero_xor,rk.xo_zero,Nat.xor_zero]at inv';exact inv'
theorem z6X{rows:List (List Int)}{i c:Nat}(hi:i<rows.length):cS rows (cs (mk rows i)) c%2=vv rows i c%2:=by
 have e:=rk.par_flt (λr=>vv rows r c) (mk rows i).testBit rows.length;rw[←cs_n (c:=mk rows i) (n:=rows.length) (λj hj=>Nat.lt_of_le_of_lt (q9G hi hj).1 hi)]at e;have e2:=rk.xo_bits (LL (rows.map tw)) (mk rows i) c rows.length;rw[z8x hi,z5L hi,q7o]at e2;rw[rk.xb_congr (g:=λi'=>(mk rows i).testBit i'&&decide (vv rows i' c%2=1)) (λi' hi'=>by rw[z5L hi',q7o];rfl)]at e2;rw[←e2]at e;have e3:=decide_eq_decide.mp e;have e3':cS rows (cs (mk rows i)) c%2=1↔vv rows i c%2=1:=e3;omega
theorem z5k{rows:List (List Int)}{i:Nat}(h8:rows.length<=8)(h:i∈bl2 rows):cs (mk rows i)=[i]:=by
 have K:=(rk.kp_ok (LL (rows.map tw)) rows.length rows.length (Nat.le_refl _)).bs i h;unfold mk;rw[K.2];have:∀i,i<8->cs (1<<<i)=[i]:=by decide +kernel
 exact this i (by omega)
theorem z3P{r:List Int}(f:Int->Int):r.map f=(List.range r.length).map λc=>f (r.getD c 0):=by
 apply List.ext_getElem
 ·rw[List.length_map,List.length_map,List.length_range]
 ·intro j h1 h2;rw[List.length_map]at h1;rw[List.getElem_map,List.getElem_map,List.getElem_range,List.getD_eq_getElem?_getD,List.getElem?_eq_getElem h1];rfl
theorem z6U(a b:List Int):cmpD .NotEq (.lst (iD a)) (.lst (iD b))=some (!(a==b)):=by
 show(if(DV.plain 60 (.lst (iD a))&&DV.plain 60 (.lst (iD b)))=true then some (!deq (.lst (iD a)) (.lst (iD b)))else none)=_;rw[q6E 59,q6E 59,z3a];rfl
theorem q8k(l:List Nat):nD l=iD (l.map λ(j:Nat)=>(j:Int)):=by unfold nD iD;rw[List.map_map];rfl
theorem z6V(a:List Nat):cmpD .NotEq (.lst (nD a)) (.lst (nD a))=some false:=by
 rw[q8k,z6U];simp
theorem q5O(I:List Nat):DV.plains 60 (nD I)=true:=by rw[q8k];exact q2W 60 _
theorem q8K(r:Nat):∀I:List Nat,((nD I).any λd=>deq d (.int (r:Int)))=I.contains r
 | []=>rfl
 | a::I=>by
  show(deq (.int (a:Int)) (.int (r:Int))||(nD I).any λd=>deq d (.int (r:Int)))=_;rw[q8K r I,List.contains_cons]
  congr 1
  show((a:Int)==(r:Int))=(r==a);rw[Bool.eq_iff_iff,beq_iff_eq,beq_iff_eq];omega
theorem z7U(r:Nat)(I:List Nat):cmpD .In (.int (r:Int)) (.lst (nD I))=some (I.contains r):=by
 show(if(DV.plain 60 (.int (r:Int))&&DV.plains 60 (nD I))=true then some ((nD I).any λd=>deq d (.int (r:Int)))else none)=_;rw[q5O,q8K];rfl
theorem z1X(r:Nat)(I:List Nat):cmpD .NotIn (.int (r:Int)) (.lst (nD I))=some (!I.contains r):=by
 show(if(DV.plain 60 (.int (r:Int))&&DV.plains 60 (nD I))=true then some (!(nD I).any λd=>deq d (.int (r:Int)))else none)=_;rw[q5O,q8K];rfl
theorem z3z{a:ME}{x:DV}{ds:List DV}{c:Cl}(ha:evE G F a δ=some (.ok (.lst (ds++[x])) c)):evE G F (.slt a (.neg (.int 1))) δ=some (.ok (.lst ds) (Cl.anew c c)):=by
 have hh:evE G F (.neg (.int 1)) δ=some (.ok (.int (-1)) .strong):=rfl;unfold evE;rw[ha,q0V,hh,q0V];show some (Re.ok (.lst (cutD (ds++[x]) none (some (-1)))) (Cl.anew c c))=_;have e:cutD (ds++[x]) none (some (-1))=ds:=(by show((ds++[x]).drop 0).take ((if(-1:Int)<0 then(-1+((ds++[x]).length:Int)).toNat else min (-1:Int).toNat (ds++[x]).length) - 0)=ds;rw[if_pos (by decide),List.drop_zero,List.length_append,List.length_singleton,show(-1+((ds.length+1:Nat):Int)).toNat - 0=ds.length by omega];exact List.take_left);rw[e]
abbrev mS(rows:List (List Int))(a b:Sv):List Sv:=[.val (rL rows),.val (tT rows),.val (.lst (nD (bl2 rows))),a,b]
def mB:List MS:=[.set 4 true (.call 6 [.var 1,.var 3]),.iff (.or [.not (.call 21 [.var 4,.bin .Add (.var 3) (.int 1)]),.cmp .NotEq (.call 22 [.var 0,.var 4]) (.comp (.bin .Mod (.var 0) (.int 2)) (.one 0) (.ix (.var 0) (.var 3)) [none])]) [.ret (.bl false)] [],.iff (.or [.cmp .Gt (.bi .len [.compi (.var 0) (.one 0) (.var 4) (.cmp .NotIn (.var 0) (.var 1)) [none,some 2]]) (.int 0),.and [.cmp .In (.var 3) (.var 2),.cmp .NotEq (.var 4) (.lst [.var 3])]]) [.ret (.bl false)] [],.app 4 (.int 0),.iff (.cmp .NotEq (.call 6 [.var 1,.var 3]) (.slt (.var 4) (.neg (.int 1)))) [.ret (.bl false)] []]
theorem m_in{rows:List (List Int)}{n m i:Nat}(R:Rect n m rows)(n0:0<n)(n8:n<=8)(m8:m<=8)(hi:i<n)(b:Sv):∃b',evSs G (run G T fu (k+4)) fu mB (mS rows (.val (.int (i:Int))) b)=some (.nx (mS rows (.val (.int (i:Int))) b')):=by
 have hi':i<rows.length:=by rw[R.1];exact hi
 obtain⟨S,hS⟩:∃S,cs (mk rows i)=S:=⟨_,rfl⟩;have sub:∀j∈S,j<=i/\j∈bl2 rows:=λj hj=>q9G hi' (z6h (by rw[hS];exact hj))
 have up:S.Pairwise (· < ·):=by rw[←hS];exact z8p _
 have lS:S.length<=8:=Nat.le_trans (q7A n S up λj hj=>by have:=(sub j hj).1;omega) n8;have em:=λ(k:Nat)=>z0Z (fu:=fu) (k:=k) R (by omega) (by omega) hi;rw[hS]at em;obtain⟨D,hD⟩:∃D,mS rows (.val (.int (i:Int))) (.own (.lst (nD S)))=D:=⟨_,rfl⟩;have v0:evE G (run G T fu (k+4)) (.var 0) D=some (.ok (rL rows) .strong):=by rw[←hD];exact q0b rfl
 have v1:evE G (run G T fu (k+4)) (.var 1) D=some (.ok (tT rows) .strong):=by rw[←hD];exact q0b rfl
 have v2:evE G (run G T fu (k+4)) (.var 2) D=some (.ok (.lst (nD (bl2 rows))) .strong):=by rw[←hD];exact q0b rfl
 have v3:evE G (run G T fu (k+4)) (.var 3) D=some (.ok (.int (i:Int)) .strong):=by rw[←hD];exact q0b rfl
 have v4:evE G (run G T fu (k+4)) (.var 4) D=some (.ok (.lst (nD S)) .top):=by rw[←hD];exact q0X rfl
 have r1:evE G (run G T fu (k+4)) (.call 21 [.var 4,.bin .Add (.var 3) (.int 1)]) D=some (.ok (.bl true) .weak):=(by have a:=q4s v3 (q0e (i:=1));rw[show(i:Int)+1=((i+1:Nat):Int) by omega]at a;exact q3p (q0a v4 (q0a a q0d)) rfl (q4W (fu:=fu) (k:=k+2) up λx hx=>by have:=(sub x hx).1;omega));have r2:evE G (run G T fu (k+4)) (.call 22 [.var 0,.var 4]) D=some (.ok (.lst (iD (sR rows m S))) .fresh):=q4U (q0a v0 (q0a v4 q0d)) (z5x (fu:=fu) (k:=k+3) R n0 (by omega) (λr hr=>by have:=(sub r hr).1;omega) (by omega)) (q7J _);have r3:evE G (run G T fu (k+4)) (.comp (.bin .Mod (.var 0) (.int 2)) (.one 0) (.ix (.var 0) (.var 3)) [none]) D=some (.ok (.lst (iD (sR rows m S))) .fresh):=by
  have hw:q0A (evE G (run G T fu (k+4)) (.ix (.var 0) (.var 3)) D)=some (.ok ((rows.getD i []).map DV.int) .strong):=(by rw[q0U (cx:=.strong) v0 v3 (q6B hi')];rfl);have c:=q0S (F:=run G T fu (k+4)) (δ:=D) (elt:=.bin .Mod (.var 0) (.int 2)) (tg:=.one 0) (fr:=[none]) (f:=λx=>.int (x%2)) hw (by decide) (by rw[R.2 _ (q1O hi')];exact Nat.le_trans m8 (by decide)) λx _=>⟨[.val (.int x)],.strong,rfl,q2l (q0b rfl) (q0e (i:=2)) (by decide),rfl⟩;rw[c]
  congr 3
  have e1:(rows.getD i []).map (λx=>DV.int (x%2))=iD ((rows.getD i []).map (· % 2)):=by unfold iD;rw[List.map_map];rfl
  rw[e1,z3P,R.2 _ (q1O hi')];unfold sR
  congr 1
  apply List.map_congr_left;intro c _;rw[←hS];exact(z6X hi').symm
 have r4:=q1g r2 r3 (z6U _ _);rw[show(sR rows m S==sR rows m S)=true from beq_self_eq_true _]at r4;have o1:evE G (run G T fu (k+4)) (.or [.not (.call 21 [.var 4,.bin .Add (.var 3) (.int 1)]),.cmp .NotEq (.call 22 [.var 0,.var 4]) (.comp (.bin .Mod (.var 0) (.int 2)) (.one 0) (.ix (.var 0) (.var 3)) [none])]) D=some (.ok (.bl false) .strong):=q5r (q2N r1) r4;have q1:evE G (run G T fu (k+4)) (.compi (.var 0) (.one 0) (.var 4) (.cmp .NotIn (.var 0) (.var 1)) [none,some 2]) D=some (.ok (.lst []) .fresh):=by
  have hw:q0A (evE G (run G T fu (k+4)) (.var 4) D)=some (.ok (nD S) .top):=by rw[v4];rfl
  have c:=q7M (G:=G) (F:=run G T fu (k+4)) (δ:=D) (elt:=.var 0) (tg:=.one 0) (cd:=.cmp .NotIn (.var 0) (.var 1)) (fr:=[none,some 2]) (p:=λ_=>false) hw (by decide) (by rw[q3y];exact Nat.le_trans lS (by decide)) λd hd=>by obtain⟨j,hj,rfl⟩:=List.mem_map.mp hd;refine⟨[.val (.int (j:Int)),.val (.lst (nD (bl2 rows)))],by rw[←hD];rfl,?_,rfl⟩;have t:=q1g (G:=G) (F:=run G T fu (k+4)) (δ:=[.val (.int (j:Int)),.val (.lst (nD (bl2 rows)))]) (a:=.var 0) (b:=.var 1) (q0b rfl) (q0b rfl) (z1X j (bl2 rows));rw[show(bl2 rows).contains j=true from List.contains_iff_mem.mpr (sub j hj).2]at t;exact q0B t
  rw[c]
  congr 3
  exact List.filter_eq_nil_iff.mpr λ_ _=>by decide
 have q2:=b_gt (q2w q1) (q0e (i:=0));have q3:=q1g v3 v2 (z7U i (bl2 rows));have o2:evE G (run G T fu (k+4)) (.or [.cmp .Gt (.bi .len [.compi (.var 0) (.one 0) (.var 4) (.cmp .NotIn (.var 0) (.var 1)) [none,some 2]]) (.int 0),.and [.cmp .In (.var 3) (.var 2),.cmp .NotEq (.var 4) (.lst [.var 3])]]) D=some (.ok (.bl false) .strong):=by
  refine q5r q2 ?_;cases z:(bl2 rows).contains i with
  | false=>rw[z]at q3;exact q7r (t:=true) q3
  | true=>
   rw[z]at q3;have own:S=[i]:=by rw[←hS];exact z5k (by rw[R.1];exact n8) (List.contains_iff_mem.mp z)
   refine q7t q3 ?_;have w:evE G (run G T fu (k+4)) (.lst [.var 3]) D=some (.ok (.lst (nD S)) .fresh):=by rw[own];exact z0p (q0a v3 q0d) (show 1<=mostLen by decide) rfl
   exact q1g v4 w (z6V S)
 obtain⟨D2,hD2⟩:∃D,mS rows (.val (.int (i:Int))) (.own (.lst (nD S++[.int 0])))=D:=⟨_,rfl⟩;have w1:evE G (run G T fu (k+4)) (.call 6 [.var 1,.var 3]) D2=some (.ok (.lst (nD S)) .fresh):=q0r (q0a (by rw[←hD2];exact q0b rfl) (q0a (by rw[←hD2];exact q0b rfl) q0d)) rfl (em k);have w2:evE G (run G T fu (k+4)) (.slt (.var 4) (.neg (.int 1))) D2=some (.ok (.lst (nD S)) (Cl.anew .top .top)):=z3z (x:=.int 0) (by rw[←hD2];exact q0X rfl);have o3:=q1g w1 w2 (z6V S);refine⟨.own (.lst (nD S++[.int 0])),?_⟩;have w0:evE G (run G T fu (k+4)) (.call 6 [.var 1,.var 3]) (mS rows (.val (.int (i:Int))) b)=some (.ok (.lst (nD S)) .fresh):=q0r (q0a (q0b rfl) (q0a (q0b rfl) q0d)) rfl (em k);exact q0s (δ':=D) (by rw[q2Q w0,←hD];rfl) (q1f (q0B o1) (q1f (q0B o2) (q0s (δ':=D2) (by rw[q4B (ds:=nD S) (by rw[←hD];rfl) (q0e (i:=0)) rfl (by rw[q3y];exact Nat.lt_of_le_of_lt lS (by decide)),←hD,←hD2];rfl) (q1f (q0B o3) (by rw[←hD2];rfl)))))
theorem z0o{rows:List (List Int)}{n m:Nat}(R:Rect n m rows)(n0:0<n)(n8:n<=8)(m8:m<=8):run G T fu (k+5) 25 [rL rows,tT rows,.lst (nD (bl2 rows))]=some (.v (.bl true) false):=by
 rw[q0E (fd:=q1m) rfl rfl];unfold q1m;have l:=q7F (F:=run G T fu (k+4)) (δ:=q0m 5 [rL rows,tT rows,.lst (nD (bl2 rows))]) (e:=.var 0) (rows:=rows) (c:=.strong) (q0b rfl);rw[R.1]at l;obtain⟨δ',e,a,b,hδ⟩:=q3Z (tg:=.one 3) (body:=λδ'=>evSs G (run G T fu (k+4)) fu mB δ') (I:=λδ=>∃a b,δ=mS rows a b) (ds:=(List.range n).map λ(j:Nat)=>DV.int (j:Int)) (δ:=q0m 5 [rL rows,tT rows,.lst (nD (bl2 rows))]) (λd hd δ ⟨a,b,hδ⟩=>by
  obtain⟨i,hi,rfl⟩:=List.mem_map.mp hd;obtain⟨b',e⟩:=m_in (fu:=fu) (k:=k) R n0 n8 m8 (List.mem_range.mp hi) b;subst hδ;exact⟨_,_,rfl,e,_,b',rfl⟩) ⟨.no,.no,rfl⟩
 exact q1x (q3X (z1A l (by omega)) (.inr rfl) e (q1p (q1b (cl:=.strong) rfl)))
end k43
end
noncomputable section
namespace k43
open PySem L2
variable {F:Nat->List DV->Option Ou} {δ:List Sv} {fu k:Nat} {cl:Cl}
theorem q5F{α:Type}(d:α)(l:List α):(List.range l.length).map (λi=>l.getD i d)=l:=by
 apply List.ext_getElem
 ·rw[List.length_map,List.length_range]
 ·intro j h1 h2;rw[List.getElem_map,List.getElem_range,List.getD_eq_getElem?_getD,List.getElem?_eq_getElem h2];rfl
theorem q9x{n m:Nat}{rows:List (List Int)}(R:Rect n m rows):flip n (flip m rows)=rows:=by
 have e:∀i∈List.range n,col (flip m rows) i=rows.getD i []:=λi hi=>by
  have hir:i<rows.length:=by rw[R.1];exact List.mem_range.mp hi
  have q:=q5F (0:Int) (rows.getD i []);rw[R.2 _ (q1O hir)]at q;refine Eq.trans ?_ q;unfold col flip;rw[List.map_map];apply List.map_congr_left;intro j _;show((rows.map λr=>r.getD j 0).getD i 0)=_;rw[List.getD_eq_getElem?_getD,List.getElem?_map,List.getElem?_eq_getElem hir,List.getD_eq_getElem?_getD (l:=rows),List.getElem?_eq_getElem hir];rfl
 rw[show flip n (flip m rows)=(List.range n).map (col (flip m rows))from rfl,List.map_congr_left e,←R.1];exact q5F [] rows
theorem z8y{rows:List (List Int)}{n m:Nat}{d:DV}(R:Rect n m rows)(h:run G T fu (k+1) 0 [d,.int 0,.int ((n:Int) - 1)]=some (.v (.bl false) false)):run G T fu (k+3) 6 [tT rows,d]=some (.x "NoCard"):=by
 rw[q0E (fd:=q0H) rfl rfl];unfold q0H;have c:=q9W h;exact z6I (z3t (q8Q (q7N (q0a (q0b rfl) (q0a (lenT R (q0b rfl)) q0d)) c)))
theorem z0n{t a:DV}(h:run G T fu k 6 [t,a]=some (.x "NoCard")):run G T fu (k+1) 24 [t,a]=some (.v (.bl true) false):=by
 rw[q0E (fd:=q1k) rfl rfl];unfold q1k;have b1:evSs G (run G T fu k) fu [.exp (.call 6 [.var 0,.var 1])] [.val t,.val a,.val .non,.no]=some (.ex "NoCard" [.val t,.val a,.val .non,.no]):=
  z3t (q8Q (q7N (q0a (q0b rfl) (q0a (q0b rfl) q0d)) h))
 have b2:evS G (run G T fu k) fu (.tryc [.exp (.call 6 [.var 0,.var 1])] "TalkError" 3 2) [.val t,.val a,.val .non,.no]=some (.nx [.val t,.val a,.val (.exc "NoCard"),.no]):=(by show tryD G "TalkError" 3 2 (evSs G (run G T fu k) fu [.exp (.call 6 [.var 0,.var 1])] [.val t,.val a,.val .non,.no])=_;rw[b1];rfl);exact q1x (q0s (q0F (d:=.non) (cl:=.strong) rfl rfl) (q0s b2 (q1f (q0B (x:=false) (cl:=.strong) rfl) (q1p rfl))))
def bads(n:Nat):List DV:=[.int (n:Int),.int (-1),.int 10000,.bl true,.non,.str "0",.lst [.int 0],.bl false]
theorem z6f{n:Nat}(n8:n<=8):∀d∈bads n,run G T fu (k+1) 0 [d,.int 0,.int ((n:Int) - 1)]=some (.v (.bl false) false):=by
 intro d hd;unfold bads at hd;simp only[List.mem_cons,List.not_mem_nil,or_false]at hd;rcases hd with h | h | h | h | h | h | h | h<;>subst h
 ·rw[q3O,decide_eq_false (show ¬(n:Int)<=(n:Int) - 1 by omega),Bool.and_false]
 ·rw[q3O,decide_eq_false (show ¬(0:Int) <= -1 by omega),Bool.false_and]
 ·rw[q3O,decide_eq_false (show ¬(10000:Int)<=(n:Int) - 1 by omega),Bool.and_false]
 all_goals (rw[q0E (fd:=q2J) rfl rfl];rfl)
theorem z5m{i:Nat}{d:DV}(h:δ[i]? = some (.ot d)):evE G F (.var i) δ=some (.ok (otD d) .weak):=by unfold evE;rw[h]
theorem q8A{e:ME}{l:List Nat}{c:Cl}(h:evE G F e δ=some (.ok (.lst (nD l)) c)):evE G F (.bi .lsti [e]) δ=some (.ok (.lst (nD l)) .fresh):=by
 show Rs.thn (evEs G F [e] δ) (λl=>q7P l)=_;rw[q0a h q0d];show(match ints? (nD l)with | some _=>some (Re.ok (.lst (nD l)) .fresh) | none=>none)=_;rw[q6L]
theorem z3M{i f:Nat}{es:List ME}{l:List (DV×Cl)}{ks:List DKey}{ds:List DV}(ha:evEs G F es δ=some (.ok l))(hn:noOt i δ=true)(h:F f (l.map (·.1))=some (.t (.dct ks ds))):evS G F fu (.setp i f es) δ=some (.nx (δ.set i (.ot (.dct ks ds)))):=by
 unfold evS;rw[ha];show(if noOt i δ=true then(match F f (l.map (·.1))with | some (.t (.dct ks ds))=>some (Out.nx (δ.set i (.ot (.dct ks ds)))) | _=>none)else none)=_;rw[if_pos hn,h]
theorem q9p(a b:List Nat):DV.plain 60 (.tup [.lst (nD a),.lst (nD b)])=true:=by
 rw[q8k,q8k];show DV.plains 59 [.lst (iD _),.lst (iD _)]=true;exact q6l λd hd=>by
  simp only[List.mem_cons,List.not_mem_nil,or_false]at hd;rcases hd with h | h<;>rw[h]<;>exact q6E 58 _
theorem z5V(a b:List Nat):deq (.tup [.lst (nD a),.lst (nD b)]) (.tup [.lst (nD a),.lst (nD b)])=true:=by
 rw[q8k,q8k];show(deq (.lst (iD _)) (.lst (iD _))&&(deq (.lst (iD _)) (.lst (iD _))&&true))=true;rw[z3a,z3a];simp
theorem eq_2(a b:List Nat):cmpD .Eq (.tup [.lst (nD a),.lst (nD b)]) (.tup [.lst (nD a),.lst (nD b)])=some true:=by
 show(if(DV.plain 60 _&&DV.plain 60 _)=true then some (deq _ _)else none)=_;rw[q9p,z5V];rfl
theorem ne_2(a b:List Nat):cmpD .NotEq (.tup [.lst (nD a),.lst (nD b)]) (.tup [.lst (nD a),.lst (nD b)])=some false:=by
 show(if(DV.plain 60 _&&DV.plain 60 _)=true then some (!deq _ _)else none)=_;rw[q9p,z5V];rfl
theorem z7Q{a b c d:ME}{c1 c2 c3:Cl}{o:Option Re}(ha:evE G F a δ=some (.ok (.bl false) c1))(hb:evE G F b δ=some (.ok (.bl false) c2))(hc:evE G F c δ=some (.ok (.bl false) c3))(hd:evE G F d δ=o):evE G F (.or [a,b,c,d]) δ=o:=by
 have e:=z3D (F:=F) hb hc hd;unfold evE at e ⊢;unfold evOr;rw[ha];exact e
theorem z6j(rows:List (List Int))(n m:Nat)(R:Rect n m rows)(hn:0<n)(hn2:n<=1000)(hm2:m<=1000)(h:δ[2]? = some (.val (rL rows))):evE G F (.comp (.comp (.ix (.var 0) (.var 1)) (.one 0) (.var 1) [none,some 0]) (.one 0) (.rng [.bi .len [.ix (.var 2) (.int 0)]]) [none,some 2]) δ=some (.ok (rL (flip m rows)) .fresh):=by
 have h0:0<rows.length:=by rw[R.1];exact hn
 have l:=q7u (F:=F) (δ:=δ) (q0U (a:=.var 2) (b:=.int 0) (cx:=.strong) (q0b h) (q0e (i:=((0:Nat):Int))) (q6B h0));rw[show(rows.getD 0 []).length=m from R.2 _ (q1O h0)]at l;have cm:=q0S (F:=F) (δ:=δ) (elt:=.comp (.ix (.var 0) (.var 1)) (.one 0) (.var 1) [none,some 0]) (tg:=.one 0) (fr:=[none,some 2]) (f:=λj=>.lst (iD (col rows j))) (z1A l hm2) (by decide) (by rw[List.length_range];exact Nat.le_trans hm2 (by decide)) λj hj=>by refine⟨[.val (.int j),.val (rL rows)],.fresh,?_,z5B rows m j R.2 (List.mem_range.mp hj) (by rw[R.1];exact hn2),rfl⟩;show some [Sv.val (.int j),(δ.getD 2 .no).plain]=_;rw[List.getD_eq_getElem?_getD,h];rfl
 rw[cm];unfold rL flip;rw[List.map_map];rfl
end k43
end
noncomputable section
namespace k43
open PySem L2
variable {fu:Nat}
abbrev F9(fu:Nat):Nat->List DV->Option Ou:=run G T fu 59
abbrev lS(ns xs:List Int)(rows:List (List Int))(a b c d e:Sv):List Sv:=[.val (.scr ns),.val (.lst (iD xs)),.val (rL rows),a,b,c,d,e]
def lT:List MS:=q6o.body.drop 4
theorem tail(ns:List Int)(xs:List Int)(hx:xs.length=20){rows:List (List Int)}{n m:Nat}(R:Rect n m rows)(h9:W9 rows)(n0:0<n)(n8:n<=8)(m0:0<m)(m8:m<=8):evSs G (F9 fu) fu lT (lS ns xs rows .no .no .no .no .no)=some (.rt (.bl true) false):=by
 have hr0:0<rows.length:=by rw[R.1];exact n0
 obtain⟨A,hA⟩:∃A,bl2 rows=A:=⟨_,rfl⟩;obtain⟨B,hB⟩:∃B,bl2 (flip m rows)=B:=⟨_,rfl⟩;have lAB:A.length=B.length:=by rw[←hA,←hB];exact z8a R
 have BA:=q6z R;have BB:=q6z (q5R R);rw[hA]at BA;rw[hB]at BB;have pd:pD2 rows m=[.lst (nD A),.lst (nD B)]:=by unfold pD2;rw[hA,hB]
 have eb:=z0A (fu:=fu) (k:=55) R n0 (by omega) (by omega);rw[pd]at eb;have ebf:=z0A (fu:=fu) (k:=55) (q5R R) m0 (by omega) (by omega);rw[show pD2 (flip m rows) n=[.lst (nD B),.lst (nD A)] by unfold pD2;rw[q9x R,hA,hB]]at ebf;have er:=z2Q (fu:=fu) (k:=55) R (by omega) (by omega);rw[hA]at er;have er0:=z5C (fu:=fu) (k:=55) R h9 n8 (by omega);have le0:=z8r R;rw[hA]at le0;have s3:evE G (F9 fu) (.call 19 [.var 2]) (lS ns xs rows .no .no .no .no .no)=some (.ok (tT rows) .strong):=q0r (q0a (q0b rfl) q0d) rfl (q7S (fu:=fu) (k:=58) rows (by rw[R.1];omega));obtain⟨D3,hD3⟩:∃D,lS ns xs rows (.val (tT rows)) .no .no .no .no=D:=⟨_,rfl⟩;obtain⟨D4,hD4⟩:∃D,lS ns xs rows (.val (tT rows)) (.ot (.dct [] [.lst (nD A),.lst (nD B)])) .no .no .no=D:=⟨_,rfl⟩;have s4:evS G (F9 fu) fu (.setp 4 4 [.var 3]) D3=some (.nx D4):=(by rw[z3M (q0a (show evE G (F9 fu) (.var 3) D3=some (.ok (tT rows) .strong) by rw[←hD3];exact q0b rfl) q0d) (by rw[←hD3];rfl) eb,←hD3,←hD4];rfl);have s5:evE G (F9 fu) (.call 5 [.var 3]) D4=some (.ok (.int (A.length:Nat)) .strong):=q0r (q0a (by rw[←hD4];exact q0b rfl) q0d) rfl er;obtain⟨D5,hD5⟩:∃D,lS ns xs rows (.val (tT rows)) (.ot (.dct [] [.lst (nD A),.lst (nD B)])) (.val (.int (A.length:Nat))) .no .no=D:=⟨_,rfl⟩;have v2:evE G (F9 fu) (.var 2) D5=some (.ok (rL rows) .strong):=by rw[←hD5];exact q0b rfl
 have v3:evE G (F9 fu) (.var 3) D5=some (.ok (tT rows) .strong):=by rw[←hD5];exact q0b rfl
 have v4:evE G (F9 fu) (.var 4) D5=some (.ok (.tup [.lst (nD A),.lst (nD B)]) .weak):=by rw[←hD5];exact z5m (d:=.dct [] [.lst (nD A),.lst (nD B)]) rfl
 have v5:evE G (F9 fu) (.var 5) D5=some (.ok (.int (A.length:Nat)) .strong):=by rw[←hD5];exact q0b rfl
 have x0:evE G (F9 fu) (.ix (.var 4) (.int 0)) D5=some (.ok (.lst (nD A)) .weak):=q0U (cx:=.weak) v4 (q0e (i:=0)) rfl;have x1:evE G (F9 fu) (.ix (.var 4) (.int 1)) D5=some (.ok (.lst (nD B)) .weak):=q0U (cx:=.weak) v4 (q0e (i:=1)) rfl;have ln:evE G (F9 fu) (.bi .len [.var 2]) D5=some (.ok (.int (n:Nat)) .strong):=by have:=q7F v2;rw[R.1]at this;exact this
 have lm:evE G (F9 fu) (.bi .len [.ix (.var 2) (.int 0)]) D5=some (.ok (.int (m:Nat)) .strong):=(by have:=q7u (q0U (cx:=.strong) v2 (q0e (i:=((0:Nat):Int))) (q6B hr0));rw[show(rows.getD 0 []).length=m from R.2 _ (q1O hr0)]at this;exact this);have o1:evE G (F9 fu) (.or [.not (.isi (.var 4) ["tuple"]),.cmp .NotEq (.bi .len [.var 4]) (.int 2),.not (.call 15 [.var 5]),.cmp .Gt (.var 5) (.call 11 [.var 3])]) D5=some (.ok (.bl false) .strong):=by
  have i:evE G (F9 fu) (.isi (.var 4) ["tuple"]) D5=some (.ok (.bl true) .strong):=by unfold evE;rw[v4];rfl
  have g:=b_gt v5 (q0r (f:=11) (q0a v3 q0d) rfl er0);rw[decide_eq_false (by omega)]at g;exact z7Q (q2N i) (q1g (q6S v4) (q0e (i:=2)) rfl) (q2N (q0r (q0a v5 q0d) rfl (z6d (fu:=fu) (k:=58)))) g
 have o2:evE G (F9 fu) (.or [.not (.call 21 [.ix (.var 4) (.int 0),.bi .len [.var 2]]),.not (.call 21 [.ix (.var 4) (.int 1),.bi .len [.ix (.var 2) (.int 0)]])]) D5=some (.ok (.bl false) .strong):=q5r (q2N (q3p (q0a x0 (q0a ln q0d)) rfl (q4W (fu:=fu) (k:=57) BA.up BA.lt))) (q2N (q3p (q0a x1 (q0a lm q0d)) rfl (q4W (fu:=fu) (k:=57) BB.up BB.lt)));have ea:=z4v (fu:=fu) (k:=57) R n0 n8 m8;rw[hA]at ea;have o3:evE G (F9 fu) (.or [.cmp .NotEq (.bi .len [.ix (.var 4) (.int 0)]) (.var 5),.cmp .NotEq (.bi .len [.ix (.var 4) (.int 1)]) (.var 5),.not (.call 23 [.var 2,.ix (.var 4) (.int 0)])]) D5=some (.ok (.bl false) .strong):=(by have l0:=q2w x0;rw[q3y]at l0;have l1:=q2w x1;rw[q3y,←lAB]at l1;have q0:=q1g l0 v5 (z7f _ _);rw[show(((A.length:Nat):Int)==((A.length:Nat):Int))=true from beq_self_eq_true _]at q0;have q1:=q1g l1 v5 (z7f _ _);rw[show(((A.length:Nat):Int)==((A.length:Nat):Int))=true from beq_self_eq_true _]at q1;exact z3D q0 q1 (q2N (q3p (q0a v2 (q0a x0 q0d)) rfl ea)));have s6:evE G (F9 fu) (.tup [.bi .lsti [.ix (.var 4) (.int 0)],.bi .lsti [.ix (.var 4) (.int 1)]]) D5=some (.ok (.tup [.lst (nD A),.lst (nD B)]) .strong):=q7h (q0a (q8A x0) (q0a (q8A x1) q0d)) (show 2<=mostLen by decide) rfl;obtain⟨D6,hD6⟩:∃D,lS ns xs rows (.val (tT rows)) (.ot (.dct [] [.lst (nD A),.lst (nD B)])) (.val (.int (A.length:Nat))) (.val (.tup [.lst (nD A),.lst (nD B)])) .no=D:=⟨_,rfl⟩;obtain⟨D7,hD7⟩:∃D,lS ns xs rows (.val (tT rows)) (.ot (.dct [] [.lst [],.lst (nD B)])) (.val (.int (A.length:Nat))) (.val (.tup [.lst (nD A),.lst (nD B)])) .no=D:=⟨_,rfl⟩;obtain⟨D8,hD8⟩:∃D,lS ns xs rows (.val (tT rows)) (.ot (.dct [] [.lst [],.lst (nD B++[.int 0])])) (.val (.int (A.length:Nat))) (.val (.tup [.lst (nD A),.lst (nD B)])) .no=D:=⟨_,rfl⟩;have s7:evS G (F9 fu) fu (.oclr 4 0) D6=some (.nx D7):=by rw[←hD6,←hD7];rfl
 have lB:(nD B).length<mostLen:=by rw[q3y,←lAB];exact Nat.lt_of_le_of_lt (Nat.le_trans (q7A n _ BA.up BA.lt) n8) (by decide)
 have s8:evS G (F9 fu) fu (.oapp 4 1 (.int 0)) D7=some (.nx D8):=(by rw[←hD7,←hD8];unfold evS;show(if(nD B).length<mostLen then some (Out.nx _)else none)=_;rw[if_pos lB];rfl);have y2:evE G (F9 fu) (.var 2) D8=some (.ok (rL rows) .strong):=by rw[←hD8];exact q0b rfl
 have y3:evE G (F9 fu) (.var 3) D8=some (.ok (tT rows) .strong):=by rw[←hD8];exact q0b rfl
 have y6:evE G (F9 fu) (.var 6) D8=some (.ok (.tup [.lst (nD A),.lst (nD B)]) .strong):=by rw[←hD8];exact q0b rfl
 have em:=z0o (fu:=fu) (k:=54) R n0 n8 m8;rw[hA]at em;have o4:evE G (F9 fu) (.or [.not (.call 25 [.var 2,.var 3,.ix (.var 6) (.int 0)]),.cmp .NotEq (.call 4 [.var 3]) (.var 6)]) D8=some (.ok (.bl false) .strong):=q5r (q2N (q0r (q0a y2 (q0a y3 (q0a (q0U (cx:=.strong) y6 (q0e (i:=0)) rfl) q0d))) rfl em)) (q1g (q7G (q0a y3 q0d) eb) y6 (ne_2 A B));obtain⟨bd,hbd,ib⟩:∃d,d∈bads n/\ixD (.lst (bads n)) (.int (xs.getD 19 0%8))=some d:=by
  have:xs.getD 19 0%8=0\/xs.getD 19 0%8=1\/xs.getD 19 0%8=2\/xs.getD 19 0%8=3\/xs.getD 19 0%8=4\/xs.getD 19 0%8=5\/xs.getD 19 0%8=6\/xs.getD 19 0%8=7:=by omega
  unfold bads;rcases this with h | h | h | h | h | h | h | h<;>rw[h]<;>exact⟨_,by simp,rfl⟩
 have s9:evE G (F9 fu) (.ix (.lst [.bi .len [.var 2],.neg (.int 1),.int 10000,.bl true,.non,.str "0",.lst [.int 0],.bl false]) (.bin .Mod (.ix (.var 1) (.int 19)) (.int 8))) D8=some (.ok bd .strong):=(by have l2:=q7F y2;rw[R.1]at l2;have es:evEs G (F9 fu) [.bi .len [.var 2],.neg (.int 1),.int 10000,.bl true,.non,.str "0",.lst [.int 0],.bl false] D8=some (.ok [(.int (n:Int),.strong),(.int (-1),.strong),(.int 10000,.strong),(.bl true,.strong),(.non,.strong),(.str "0",.strong),(.lst [.int 0],.fresh),(.bl false,.strong)]):=q0a l2 rfl;have lst:=z0p es (show 8<=mostLen by decide) rfl;exact q0U (cx:=.fresh) (x:=.lst (bads n)) lst (q2l (q0U (cx:=.strong) (show evE G (F9 fu) (.var 1) D8=some (.ok (.lst (iD xs)) .strong) by rw[←hD8];exact q0b rfl) (q0e (i:=((19:Nat):Int))) (q1U (by omega))) (q0e (i:=8)) (by decide)) ib);obtain⟨D9,hD9⟩:∃D,lS ns xs rows (.val (tT rows)) (.ot (.dct [] [.lst [],.lst (nD B++[.int 0])])) (.val (.int (A.length:Nat))) (.val (.tup [.lst (nD A),.lst (nD B)])) (.val bd)=D:=⟨_,rfl⟩;have z3:evE G (F9 fu) (.var 3) D9=some (.ok (tT rows) .strong):=by rw[←hD9];exact q0b rfl
 have z6:evE G (F9 fu) (.var 6) D9=some (.ok (.tup [.lst (nD A),.lst (nD B)]) .strong):=by rw[←hD9];exact q0b rfl
 have z7:evE G (F9 fu) (.var 7) D9=some (.ok bd .strong):=by rw[←hD9];exact q0b rfl
 have f1:evE G (F9 fu) (.call 24 [.var 3,.var 7]) D9=some (.ok (.bl true) .strong):=q0r (q0a z3 (q0a z7 q0d)) rfl (z0n (fu:=fu) (k:=58) (z8y (fu:=fu) (k:=55) R (z6f n8 bd hbd)));have f2:evE G (F9 fu) (.cmp .Eq (.call 4 [.call 1 [.var 3]]) (.tup [.ix (.var 6) (.int 1),.ix (.var 6) (.int 0)])) D9=some (.ok (.bl true) .strong):=q1g (q7G (q0a (q0r (f:=1) (q0a z3 q0d) rfl (q5T (fu:=fu) (k:=58) rows n m R n0 (by omega) (by omega))) q0d) ebf) (q7h (q0a (q0U (cx:=.strong) z6 (q0e (i:=1)) rfl) (q0a (q0U (cx:=.strong) z6 (q0e (i:=0)) rfl) q0d)) (show 2<=mostLen by decide) rfl) (eq_2 B A);have fin:=and2 f1 f2;unfold lT q6o;simp only[List.drop_succ_cons,List.drop_zero];exact q0s (δ':=D3) (by rw[q0F s3 rfl,←hD3];rfl) (q0s s4 (q0s (δ':=D5) (by rw[q0F s5 rfl,←hD4,←hD5];rfl) (q1f (q0B o1) (q1f (q0B o2) (q1f (q0B o3) (q0s (δ':=D6) (by rw[q0F s6 rfl,←hD5,←hD6];rfl) (q0s s7 (q0s s8 (q1f (q0B o4) (q0s (δ':=D9) (by rw[q0F s9 rfl,←hD8,←hD9];rfl) (q1p (q1b fin))))))))))))
theorem z4R(ns:List Int)(hns:ns.length<=63):run G T 100 60 26 [.scr ns]=some (.v (.bl true) false):=by
 obtain⟨v2,c2⟩:=q8G (fu:=100) (k:=58) ns 2;obtain⟨xs,hx,st⟩:=q5t (fu:=100) (k:=58) v2 20 (by omega);have a17:=q1U (r:=xs) (j:=17) (by omega);have a18:=q1U (r:=xs) (j:=18) (by omega);obtain⟨tp,t0,t10,ht⟩:∃tp:Int,0<tp/\tp<=10/\ixD (.lst [.int 2,.int 4,.int 10]) (.int (xs.getD 17 0%3))=some (.int tp):=by
  have:xs.getD 17 0%3=0\/xs.getD 17 0%3=1\/xs.getD 17 0%3=2:=by omega
  rcases this with h | h | h<;>rw[h]
  ·exact⟨2,by decide,by decide,rfl⟩
  ·exact⟨4,by decide,by decide,rfl⟩
  ·exact⟨10,by decide,by decide,rfl⟩
 obtain⟨n,m,rows,n0,n8,m0,m8,R,h9',er⟩:=z4u (fu:=100) (k:=57) ns hns tp t0;have h9:W9 rows:=λr hr x hx=>by have:=h9' r hr x hx;omega
 obtain⟨rows',hr',em⟩:=z4e (fu:=100) (k:=58) (rows:=rows) (xs:=xs) ⟨R,h9⟩ n0 n8 m0 m8 hx;have s1:evE G (F9 100) (.call 17 [.call 16 [.var 0,.int 2],.int 20]) (q0m 8 [.scr ns])=some (.ok (.lst (iD xs)) .fresh):=q0r (q0a (q0r (f:=16) (q0a (q0b (n:=0) (d:=.scr ns) rfl) (q0a (q0e (i:=2)) q0d)) rfl c2) (q0a (q0e (i:=20)) q0d)) rfl st;have s2:evE G (F9 100) (.call 18 [.var 0,.int 4,.ix (.lst [.int 2,.int 4,.int 10]) (.bin .Mod (.ix (.var 1) (.int 17)) (.int 3))]) [.val (.scr ns),.val (.lst (iD xs)),.no,.no,.no,.no,.no,.no]=some (.ok (rL rows) .fresh):=q0r (q0a (q0b rfl) (q0a (q0e (i:=4)) (q0a (q0U (cx:=.fresh) (x:=.lst [.int 2,.int 4,.int 10]) rfl (q2l (q0U (cx:=.strong) (q0b rfl) q0e a17) q0e (by decide)) ht) q0d))) rfl er;have c:=λrows=>b_gt (G:=G) (F:=F9 100) (δ:=lS ns xs rows .no .no .no .no .no) (q2l (q0U (cx:=.strong) (q0b (n:=1) (d:=.lst (iD xs)) rfl) (q0e (i:=((18:Nat):Int))) a18) (q0e (i:=3)) (by decide)) (q0e (i:=0))
 have c':=λrows=>b_eq (G:=G) (F:=F9 100) (δ:=lS ns xs rows .no .no .no .no .no) (q2l (q0U (cx:=.strong) (q0b (n:=1) (d:=.lst (iD xs)) rfl) (q0e (i:=((18:Nat):Int))) a18) (q0e (i:=3)) (by decide)) (q0e (i:=2));have t2:∀rows:List (List Int),Rect n m rows->W9 rows->evSs G (F9 100) 100 (q6o.body.drop 3) (lS ns xs rows .no .no .no .no .no)=some (.rt (.bl true) false):=λrows R h9=>by
  have c2:=c' rows;unfold q6o;simp only[List.drop_succ_cons,List.drop_zero];cases t:(xs.getD 18 0%3==2)with
  | true=>
   rw[t]at c2;exact q4K (q0B c2) (q0s (q0F (z6j rows n m R n0 (by omega) (by omega) rfl) rfl) rfl) (tail ns xs hx (q5R R) (z5T h9) m0 m8 n0 n8)
  | false=>
   rw[t]at c2;exact q1f (q0B c2) (tail ns xs hx R h9 n0 n8 m0 m8)
 rw[q0E (fd:=q6o) rfl rfl];unfold q6o;refine q1x (q0s (q0F s1 rfl) (q0s (q0F s2 rfl) ?_));have cc:=c rows;cases t:decide (0<xs.getD 18 0%3)with
 | true=>
  rw[t]at cc;exact q4K (q0B cc) (q0s (q0F (q0r (f:=20) (q0a (q0b rfl) (q0a (q0b rfl) q0d)) rfl em) rfl) rfl) (t2 rows' hr'.1 hr'.2)
 | false=>
  rw[t]at cc;exact q1f (q0B cc) (t2 rows R h9)
end k43
end
noncomputable section
namespace k43
open PySem PySem.W L2 PySem.Spec PyProof.Rows
theorem lnS{α:Type}{us:List α}{n:Nat}(h:us.length=n+1):∃a r,us=a::r/\r.length=n:=by cases us with | nil=>cases h | cons a r=>exact⟨a,r,rfl,Nat.succ.inj h⟩
theorem ln0{α:Type}{us:List α}(h:us.length=0):us=[]:=List.length_eq_zero_iff.mp h
theorem ln1{α:Type}{us:List α}(h:us.length=1):∃a0,us=[a0]:=by obtain⟨_,_,rfl,h0⟩:=lnS h;obtain rfl:=ln0 h0;exact⟨_,rfl⟩
theorem ln2{α:Type}{us:List α}(h:us.length=2):∃a0 a1,us=[a0,a1]:=by obtain⟨_,_,rfl,h0⟩:=lnS h;obtain⟨_,_,rfl,h1⟩:=lnS h0;obtain rfl:=ln0 h1;exact⟨_,_,rfl⟩
theorem ln3{α:Type}{us:List α}(h:us.length=3):∃a0 a1 a2,us=[a0,a1,a2]:=by obtain⟨_,_,rfl,h0⟩:=lnS h;obtain⟨_,_,rfl,h1⟩:=lnS h0;obtain⟨_,_,rfl,h2⟩:=lnS h1;obtain rfl:=ln0 h2;exact⟨_,_,_,rfl⟩
def fn:List Str:=["is_int","flipped","check_card","cards_in","base_in_twos","rank_in_twos","makeup_in_twos","lines_in_twos","base_indexes","kept_lines","reduced_in_twos","rank","base_lines","reduced","leading_place","_law_int","_law_cell_at","_law_stream","_law_table","_law_as_table","_law_mixed","_law_rising","_law_sum","_law_alone","_law_refused","_law_makeups","law"]
def bl:List Str:=["isinstance","int","bool","tuple","range","len","sum","enumerate","any","list","zip","min","max","ValueError"]
def cl:List Str:=["TalkError","NoCard","TooGreat"]
theorem ok0:okD fn bl cl q2J ["thing","least","most"] ["thing","least","most"] (top 1)=true:=by decide +kernel
theorem ok1:okD fn bl cl q3i ["table"] ["table"] (top 7)=true:=by decide +kernel
theorem ok2:okD fn bl cl q1K ["card","size"] ["card","size"] (top 8)=true:=by decide +kernel
theorem ok3:okD fn bl cl q2c ["cards"] ["cards"] (top 9)=true:=by decide +kernel
theorem ok4:okD fn bl cl q1n ["table"] ["table"] (top 11)=true:=by decide +kernel
theorem ok5:okD fn bl cl q1Q ["table"] ["table"] (top 12)=true:=by decide +kernel
theorem ok6:okD fn bl cl q0H ["table","row","lines"] ["table","row"] (top 13)=true:=by decide +kernel
theorem ok7:okD fn bl cl q1F ["table"] ["table"] (top 14)=true:=by decide +kernel
theorem ok8:okD fn bl cl q1V ["lines"] ["lines"] (top 15)=true:=by decide +kernel
theorem ok9:okD fn bl cl q2A ["lines","kept","index","line","rest"] ["lines"] (top 16)=true:=by decide +kernel
theorem ok10:okD fn bl cl q1i ["line","kept","left","taken","index","rest","makers"] ["line","kept"] (top 17)=true:=by decide +kernel
theorem ok11:okD fn bl cl z0g ["table"] ["table"] (top 19)=true:=by decide +kernel
theorem ok12:okD fn bl cl q2t ["lines","found","kept","index","line","rest"] ["lines"] (top 20)=true:=by decide +kernel
theorem ok13:okD fn bl cl q4j ["line","kept","rest","other","place","taken"] ["line","kept"] (top 21)=true:=by decide +kernel
theorem ok14:okD fn bl cl q1D ["line"] ["line"] (top 22)=true:=by decide +kernel
theorem ok15:okD fn bl cl q3t ["_law_found"] ["_law_found"] (top 24)=true:=by decide +kernel
theorem ok16:okD fn bl cl q1l ["_law_script","_law_k"] ["_law_script","_law_k"] (top 25)=true:=by decide +kernel
theorem ok17:okD fn bl cl q1w ["_law_cell","_law_many","_law_found","_law_number","_law_k"] ["_law_cell","_law_many"] (top 26)=true:=by decide +kernel
theorem ok18:okD fn bl cl q1L ["_law_script","_law_start","_law_most","_law_xs","_law_many","_law_wide","_law_words","_law_k"] ["_law_script","_law_start","_law_most"] (top 27)=true:=by decide +kernel
theorem ok19:okD fn bl cl q1e ["_law_rows"] ["_law_rows"] (top 28)=true:=by decide +kernel
theorem ok20:okD fn bl cl q2v ["_law_rows","_law_xs","_law_k","_law_at","_law_one","_law_other","_law_way"] ["_law_rows","_law_xs"] (top 29)=true:=by decide +kernel
theorem ok21:okD fn bl cl q1v ["_law_found","_law_most","_law_last","_law_number"] ["_law_found","_law_most"] (top 30)=true:=by decide +kernel
theorem ok22:okD fn bl cl q2I ["_law_rows","_law_some"] ["_law_rows","_law_some"] (top 31)=true:=by decide +kernel
theorem ok23:okD fn bl cl q1N ["_law_rows","_law_some","_law_number","_law_part","_law_r"] ["_law_rows","_law_some"] (top 32)=true:=by decide +kernel
theorem ok24:okD fn bl cl q1k ["_law_table_here","_law_row","_law_caught","error"] ["_law_table_here","_law_row"] (top 33)=true:=by decide +kernel
theorem ok25:okD fn bl cl q1m ["_law_rows","_law_table_here","_law_some","_law_at","_law_found"] ["_law_rows","_law_table_here","_law_some"] (top 34)=true:=by decide +kernel
theorem ok26:okD fn bl cl q6o ["_law_script","_law_xs","_law_rows","_law_table_here","_law_found","_law_many","_law_held","_law_bad"] ["_law_script"] (top 35)=true:=by decide +kernel
abbrev ck(P:Params)(x:Str)(f:Addr)(i:Nat)(dV pm:Value)(cd:Addr):Prop:=(nsIn (kK P) mainGlobals x,(kK P).lookup f,codeIn (kK P) (.ref cd) x,keepIn (kK P) (.ref f))=(some (some (.ref f)),some (fo x i dV pm cd),true,true)
theorem ck4{P:Params}{x:Str}{f:Addr}{i:Nat}{dV pm:Value}{cd:Addr}(q:ck P x f i dV pm cd):nsIn (kK P) mainGlobals x=some (some (.ref f))/\(kK P).lookup f=some (fo x i dV pm cd)/\codeIn (kK P) (.ref cd) x=true/\keepIn (kK P) (.ref f)=true:=by
 obtain⟨a,b⟩:=Prod.mk.inj q;obtain⟨b,c⟩:=Prod.mk.inj b;exact⟨a,b,Prod.mk.inj c⟩
theorem zz(P:Params):bl.map (nsIn (kK P) mainGlobals)=bl.map λ_=>some none:=by kernel_rfl
open PySem.W
theorem all_mk{l:OpenLaw}{w:World}{h:Heap}{mg:Str->Option Value}{fa:Addr}(X:(kK w.params).In h)(Ns:h.Ns mainGlobals mg)(hfa:mg "law" = some (.ref fa)):∃fd:FuncData,(∀(s:Shared) (v:Value),BindsTo s fd ⟨[v],[]⟩ [("_law_script",v)])/\∀base:Heap,(kK w.params).In base->base.Ns mainGlobals mg->FnOk l.prog w (kK w.params) mg base CX0 60 fa fd ["_law_script"] (spS (kK w.params)):=by
 obtain⟨a0,l0,c0,k0⟩:=ck4 (P:=w.params) (x:="is_int") (f:=21) (i:=1) (dV:=.none) (pm:=(.str "talkleast.checks" 187)) (cd:=20) (by kernel_rfl);have S0:=q0i X Ns ok0 a0 l0 c0 k0 λ_ _ _ _ _ _ us hl=>by obtain⟨_,_,_,rfl⟩:=ln3 hl;rfl
 obtain⟨a1,l1,c1,k1⟩:=ck4 (P:=w.params) (x:="flipped") (f:=63) (i:=7) (dV:=.none) (pm:=(.str "talkleast.tables" 250)) (cd:=62) (by kernel_rfl);have S1:=q0i X Ns ok1 a1 l1 c1 k1 λ_ _ _ _ _ _ us hl=>by obtain⟨_,rfl⟩:=ln1 hl;rfl
 obtain⟨a2,l2,c2,k2⟩:=ck4 (P:=w.params) (x:="check_card") (f:=70) (i:=8) (dV:=.none) (pm:=(.str "talkleast.tables" 250)) (cd:=69) (by kernel_rfl);have S2:=q0i X Ns ok2 a2 l2 c2 k2 λ_ _ _ _ _ _ us hl=>by obtain⟨_,_,rfl⟩:=ln2 hl;rfl
 obtain⟨a3,l3,c3,k3⟩:=ck4 (P:=w.params) (x:="cards_in") (f:=75) (i:=9) (dV:=.none) (pm:=(.str "talkleast.tables" 250)) (cd:=74) (by kernel_rfl);have S3:=q0i X Ns ok3 a3 l3 c3 k3 λ_ _ _ _ _ _ us hl=>by obtain⟨_,rfl⟩:=ln1 hl;rfl
 obtain⟨a4,l4,c4,k4⟩:=ck4 (P:=w.params) (x:="base_in_twos") (f:=82) (i:=11) (dV:=.none) (pm:=(.str "talkleast.twos" 272)) (cd:=81) (by kernel_rfl);have S4:=q0i X Ns ok4 a4 l4 c4 k4 λ_ _ _ _ _ _ us hl=>by obtain⟨_,rfl⟩:=ln1 hl;rfl
 obtain⟨a5,l5,c5,k5⟩:=ck4 (P:=w.params) (x:="rank_in_twos") (f:=89) (i:=12) (dV:=.none) (pm:=(.str "talkleast.twos" 272)) (cd:=88) (by kernel_rfl);have S5:=q0i X Ns ok5 a5 l5 c5 k5 λ_ _ _ _ _ _ us hl=>by obtain⟨_,rfl⟩:=ln1 hl;rfl
 obtain⟨a6,l6,c6,k6⟩:=ck4 (P:=w.params) (x:="makeup_in_twos") (f:=96) (i:=13) (dV:=.none) (pm:=(.str "talkleast.twos" 272)) (cd:=95) (by kernel_rfl);have S6:=q0i X Ns ok6 a6 l6 c6 k6 λ_ _ _ _ _ _ us hl=>by obtain⟨_,_,rfl⟩:=ln2 hl;rfl
 obtain⟨a7,l7,c7,k7⟩:=ck4 (P:=w.params) (x:="lines_in_twos") (f:=101) (i:=14) (dV:=.none) (pm:=(.str "talkleast.twos" 272)) (cd:=100) (by kernel_rfl);have S7:=q0i X Ns ok7 a7 l7 c7 k7 λ_ _ _ _ _ _ us hl=>by obtain⟨_,rfl⟩:=ln1 hl;rfl
 obtain⟨a8,l8,c8,k8⟩:=ck4 (P:=w.params) (x:="base_indexes") (f:=106) (i:=15) (dV:=.none) (pm:=(.str "talkleast.twos" 272)) (cd:=105) (by kernel_rfl);have S8:=q0i X Ns ok8 a8 l8 c8 k8 λ_ _ _ _ _ _ us hl=>by obtain⟨_,rfl⟩:=ln1 hl;rfl
 obtain⟨a9,l9,c9,k9⟩:=ck4 (P:=w.params) (x:="kept_lines") (f:=113) (i:=16) (dV:=.none) (pm:=(.str "talkleast.twos" 272)) (cd:=112) (by kernel_rfl);have S9:=q0i X Ns ok9 a9 l9 c9 k9 λ_ _ _ _ _ _ us hl=>by obtain⟨_,rfl⟩:=ln1 hl;rfl
 obtain⟨a10,l10,c10,k10⟩:=ck4 (P:=w.params) (x:="reduced_in_twos") (f:=120) (i:=17) (dV:=.none) (pm:=(.str "talkleast.twos" 272)) (cd:=119) (by kernel_rfl);have S10:=q0i X Ns ok10 a10 l10 c10 k10 λ_ _ _ _ _ _ us hl=>by obtain⟨_,_,rfl⟩:=ln2 hl;rfl
 obtain⟨a11,l11,c11,k11⟩:=ck4 (P:=w.params) (x:="rank") (f:=127) (i:=19) (dV:=.none) (pm:=(.str "talkleast.ranks" 333)) (cd:=126) (by kernel_rfl);have S11:=q0i X Ns ok11 a11 l11 c11 k11 λ_ _ _ _ _ _ us hl=>by obtain⟨_,rfl⟩:=ln1 hl;rfl
 obtain⟨a12,l12,c12,k12⟩:=ck4 (P:=w.params) (x:="base_lines") (f:=132) (i:=20) (dV:=.none) (pm:=(.str "talkleast.ranks" 333)) (cd:=131) (by kernel_rfl);have S12:=q0i X Ns ok12 a12 l12 c12 k12 λ_ _ _ _ _ _ us hl=>by obtain⟨_,rfl⟩:=ln1 hl;rfl
 obtain⟨a13,l13,c13,k13⟩:=ck4 (P:=w.params) (x:="reduced") (f:=137) (i:=21) (dV:=.none) (pm:=(.str "talkleast.ranks" 333)) (cd:=136) (by kernel_rfl);have S13:=q0i X Ns ok13 a13 l13 c13 k13 λ_ _ _ _ _ _ us hl=>by obtain⟨_,_,rfl⟩:=ln2 hl;rfl
 obtain⟨a14,l14,c14,k14⟩:=ck4 (P:=w.params) (x:="leading_place") (f:=142) (i:=22) (dV:=.none) (pm:=(.str "talkleast.ranks" 333)) (cd:=141) (by kernel_rfl);have S14:=q0i X Ns ok14 a14 l14 c14 k14 λ_ _ _ _ _ _ us hl=>by obtain⟨_,rfl⟩:=ln1 hl;rfl
 obtain⟨a15,l15,c15,k15⟩:=ck4 (P:=w.params) (x:="_law_int") (f:=149) (i:=24) (dV:=.none) (pm:=(.str "law_talkleast_k43_in_twos" 360)) (cd:=148) (by kernel_rfl);have S15:=q0i X Ns ok15 a15 l15 c15 k15 λ_ _ _ _ _ _ us hl=>by obtain⟨_,rfl⟩:=ln1 hl;rfl
 obtain⟨a16,l16,c16,k16⟩:=ck4 (P:=w.params) (x:="_law_cell_at") (f:=156) (i:=25) (dV:=.none) (pm:=(.str "law_talkleast_k43_in_twos" 360)) (cd:=155) (by kernel_rfl);have S16:=q0i X Ns ok16 a16 l16 c16 k16 λ_ _ _ _ _ _ us hl=>by obtain⟨_,_,rfl⟩:=ln2 hl;rfl
 obtain⟨a17,l17,c17,k17⟩:=ck4 (P:=w.params) (x:="_law_stream") (f:=163) (i:=26) (dV:=.none) (pm:=(.str "law_talkleast_k43_in_twos" 360)) (cd:=162) (by kernel_rfl);have S17:=q0i X Ns ok17 a17 l17 c17 k17 λ_ _ _ _ _ _ us hl=>by obtain⟨_,_,rfl⟩:=ln2 hl;rfl
 obtain⟨a18,l18,c18,k18⟩:=ck4 (P:=w.params) (x:="_law_table") (f:=168) (i:=27) (dV:=.none) (pm:=(.str "law_talkleast_k43_in_twos" 360)) (cd:=167) (by kernel_rfl);have S18:=q0i X Ns ok18 a18 l18 c18 k18 λ_ _ _ _ _ _ us hl=>by obtain⟨_,_,_,rfl⟩:=ln3 hl;rfl
 obtain⟨a19,l19,c19,k19⟩:=ck4 (P:=w.params) (x:="_law_as_table") (f:=173) (i:=28) (dV:=.none) (pm:=(.str "law_talkleast_k43_in_twos" 360)) (cd:=172) (by kernel_rfl);have S19:=q0i X Ns ok19 a19 l19 c19 k19 λ_ _ _ _ _ _ us hl=>by obtain⟨_,rfl⟩:=ln1 hl;rfl
 obtain⟨a20,l20,c20,k20⟩:=ck4 (P:=w.params) (x:="_law_mixed") (f:=178) (i:=29) (dV:=.none) (pm:=(.str "law_talkleast_k43_in_twos" 360)) (cd:=177) (by kernel_rfl);have S20:=q0i X Ns ok20 a20 l20 c20 k20 λ_ _ _ _ _ _ us hl=>by obtain⟨_,_,rfl⟩:=ln2 hl;rfl
 obtain⟨a21,l21,c21,k21⟩:=ck4 (P:=w.params) (x:="_law_rising") (f:=185) (i:=30) (dV:=.none) (pm:=(.str "law_talkleast_k43_in_twos" 360)) (cd:=184) (by kernel_rfl);have S21:=q0i X Ns ok21 a21 l21 c21 k21 λ_ _ _ _ _ _ us hl=>by obtain⟨_,_,rfl⟩:=ln2 hl;rfl
 obtain⟨a22,l22,c22,k22⟩:=ck4 (P:=w.params) (x:="_law_sum") (f:=190) (i:=31) (dV:=.none) (pm:=(.str "law_talkleast_k43_in_twos" 360)) (cd:=189) (by kernel_rfl);have S22:=q0i X Ns ok22 a22 l22 c22 k22 λ_ _ _ _ _ _ us hl=>by obtain⟨_,_,rfl⟩:=ln2 hl;rfl
 obtain⟨a23,l23,c23,k23⟩:=ck4 (P:=w.params) (x:="_law_alone") (f:=197) (i:=32) (dV:=.none) (pm:=(.str "law_talkleast_k43_in_twos" 360)) (cd:=196) (by kernel_rfl);have S23:=q0i X Ns ok23 a23 l23 c23 k23 λ_ _ _ _ _ _ us hl=>by obtain⟨_,_,rfl⟩:=ln2 hl;rfl
 obtain⟨a24,l24,c24,k24⟩:=ck4 (P:=w.params) (x:="_law_refused") (f:=204) (i:=33) (dV:=.none) (pm:=(.str "law_talkleast_k43_in_twos" 360)) (cd:=203) (by kernel_rfl);have S24:=q0i X Ns ok24 a24 l24 c24 k24 λ_ _ _ _ _ _ us hl=>by obtain⟨_,_,rfl⟩:=ln2 hl;rfl
 obtain⟨a25,l25,c25,k25⟩:=ck4 (P:=w.params) (x:="_law_makeups") (f:=209) (i:=34) (dV:=.none) (pm:=(.str "law_talkleast_k43_in_twos" 360)) (cd:=208) (by kernel_rfl);have S25:=q0i X Ns ok25 a25 l25 c25 k25 λ_ _ _ _ _ _ us hl=>by obtain⟨_,_,_,rfl⟩:=ln3 hl;rfl
 obtain⟨a26,l26,c26,k26⟩:=ck4 (P:=w.params) (x:="law") (f:=214) (i:=35) (dV:=.none) (pm:=(.str "law_talkleast_k43_in_twos" 360)) (cd:=213) (by kernel_rfl);have S26:=q0i X Ns ok26 a26 l26 c26 k26 λ_ _ _ _ _ _ us hl=>by obtain⟨_,rfl⟩:=ln1 hl;rfl
 have e:=hfa.symm.trans (mg_of X Ns a26);cases e;refine⟨_,λs v=>.of_eq rfl,λbase _ _=>z1l (T:=T) (G:=G) (fu:=100) rfl (q0v S0 (q0v S1 (q0v S2 (q0v S3 (q0v S4 (q0v S5 (q0v S6 (q0v S7 (q0v S8 (q0v S9 (q0v S10 (q0v S11 (q0v S12 (q0v S13 (q0v S14 (q0v S15 (q0v S16 (q0v S17 (q0v S18 (q0v S19 (q0v S20 (q0v S21 (q0v S22 (q0v S23 (q0v S24 (q0v S25 (q0v S26 z5Y))))))))))))))))))))))))))) (λx hx=>mg_none_of X Ns (List.map_inj_left.mp (zz _) x hx)) ?_ ?_ ?_ z4s z1h (i:=26) rfl rfl S26 z4R⟩
 ·have xa0:nsIn (kK w.params) mainGlobals "TalkError" = some (some (.ref 31)):=by kernel_rfl
  have xa1:nsIn (kK w.params) mainGlobals "NoCard" = some (some (.ref 44)):=by kernel_rfl
  have xa2:nsIn (kK w.params) mainGlobals "TooGreat" = some (some (.ref 56)):=by kernel_rfl
  refine⟨q5q ⟨31,mg_of X Ns xa0,⟨by kernel_rfl,by kernel_rfl,by kernel_rfl,by kernel_rfl,by kernel_rfl,by kernel_rfl,by kernel_rfl,by kernel_rfl⟩,⟨_,_,_,[.type "ValueError",.type "Exception",.type "BaseException",.type "object"],PySem.F.excBase_ValueError,by kernel_rfl⟩,(q1t (t:="TalkError") (Ct:=31) (mg_of X Ns xa0) ⟨by kernel_rfl,λ_=>by kernel_rfl⟩ (q1t (t:="NoCard") (Ct:=44) (mg_of X Ns xa1) ⟨by kernel_rfl,λz=>nomatch z⟩ (q1t (t:="TooGreat") (Ct:=56) (mg_of X Ns xa2) ⟨by kernel_rfl,λz=>nomatch z⟩ q6G))),by kernel_rfl⟩ (q5q ⟨44,mg_of X Ns xa1,⟨by kernel_rfl,by kernel_rfl,by kernel_rfl,by kernel_rfl,by kernel_rfl,by kernel_rfl,by kernel_rfl,by kernel_rfl⟩,⟨_,_,_,[.type "ValueError",.type "Exception",.type "BaseException",.type "object"],PySem.F.excBase_ValueError,by kernel_rfl⟩,(q1t (t:="TalkError") (Ct:=31) (mg_of X Ns xa0) ⟨by kernel_rfl,λ_=>by kernel_rfl⟩ (q1t (t:="NoCard") (Ct:=44) (mg_of X Ns xa1) ⟨by kernel_rfl,λ_=>by kernel_rfl⟩ (q1t (t:="TooGreat") (Ct:=56) (mg_of X Ns xa2) ⟨by kernel_rfl,λz=>nomatch z⟩ q6G))),by kernel_rfl⟩ (q5q ⟨56,mg_of X Ns xa2,⟨by kernel_rfl,by kernel_rfl,by kernel_rfl,by kernel_rfl,by kernel_rfl,by kernel_rfl,by kernel_rfl,by kernel_rfl⟩,⟨_,_,_,[.type "ValueError",.type "Exception",.type "BaseException",.type "object"],PySem.F.excBase_ValueError,by kernel_rfl⟩,(q1t (t:="TalkError") (Ct:=31) (mg_of X Ns xa0) ⟨by kernel_rfl,λ_=>by kernel_rfl⟩ (q1t (t:="NoCard") (Ct:=44) (mg_of X Ns xa1) ⟨by kernel_rfl,λz=>nomatch z⟩ (q1t (t:="TooGreat") (Ct:=56) (mg_of X Ns xa2) ⟨by kernel_rfl,λ_=>by kernel_rfl⟩ q6G))),by kernel_rfl⟩ (z3T))),all_cons ⟨_,mg_of X Ns xa0⟩ (all_cons ⟨_,mg_of X Ns xa1⟩ (all_cons ⟨_,mg_of X Ns xa2⟩ (z2S)))⟩
 ·intro x d h;exact z3b x d h
 ·intro x kvs h;exact z3V x kvs h
end k43
open PySem PySem.W PyProof.Rows
set_option maxRecDepth 100000 in
set_option maxHeartbeats 0 in
theorem PySem.Challenge.cw_talkleast_k43_in_twos_holds : PySem.Challenge.rw_talkleast_k43_in_twos.Holds := by
 refine holds_law (by kernel_rfl) λ said => ?_
 refine holds_open (q := k43.kQ) (loose := k43.kL) (Xt := λ s => xlAt k43.kQ [] s && recOk (RowW.records (OpenRow.toRowW (OpenLaw.row PySem.Challenge.rw_talkleast_k43_in_twos))) s) (XP := XL k43.kQ []) (Yf := (kHook k43.kK k43.kA k43.kE).obs) (Ya := (kHook k43.kK k43.kA k43.kE).val) (YP := (kHook k43.kK k43.kA k43.kE).says) (N := 3006) k43.kLeft (kHook k43.kK k43.kA k43.kE).of (kHook k43.kK k43.kA k43.kE).keeps (λ s e => xl_of s (Bool.and_eq_true_iff.mp e).1) XL.keeps (by rfl) (by rfl) (by rfl) (λ s e => recFacts_of (Bool.and_eq_true_iff.mp e).2) (by rfl) said (by decide +kernel) ⟨rfl, rfl, rfl, rfl, rfl, by decide +kernel⟩ ?hw ?hc
 case hw => w_witness2
 exact L2.walkE (l := PySem.Challenge.rw_talkleast_k43_in_twos) (k := 60) (p := "_law_script") rfl rfl ⟨rfl, by decide, by decide⟩ (λ w h Y => kIn_of Y) λ w mg fa h KX G hmg => k43.all_mk KX G hmg
end

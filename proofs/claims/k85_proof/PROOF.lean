import PyProof.Rows.All
import Wide.All
import OpenK.AllK
import PySem.Challenge.RW_talkleast_k85_questions_answered
set_option compiler.extract_closed false
set_option genSizeOf false
set_option genInjectivity false
set_option bootstrap.genMatcherCode false
set_option Elab.async false
set_option linter.all false
set_option tactic.hygienic false
set_option maxRecDepth 100000
set_option maxHeartbeats 0
theorem oa2{a b G:Prop}(H:a∧b)(F:a->b->G):G:=F H.1 H.2
theorem oa3{a b c G:Prop}(H:a∧b∧c)(F:a->b->c->G):G:=oa2 H fun x w=>oa2 w (F x)
theorem oa4{a b c d G:Prop}(H:a∧b∧c∧d)(F:a->b->c->d->G):G:=oa2 H fun x w=>oa3 w (F x)
theorem oa5{a b c d e G:Prop}(H:a∧b∧c∧d∧e)(F:a->b->c->d->e->G):G:=oa2 H fun x w=>oa4 w (F x)
theorem oa6{a b c d e f G:Prop}(H:a∧b∧c∧d∧e∧f)(F:a->b->c->d->e->f->G):G:=oa2 H fun x w=>oa5 w (F x)
theorem oa7{a b c d e f g G:Prop}(H:a∧b∧c∧d∧e∧f∧g)(F:a->b->c->d->e->f->g->G):G:=oa2 H fun x w=>oa6 w (F x)
theorem oa8{a b c d e f g h G:Prop}(H:a∧b∧c∧d∧e∧f∧g∧h)(F:a->b->c->d->e->f->g->h->G):G:=oa2 H fun x w=>oa7 w (F x)
theorem oa9{a b c d e f g h i G:Prop}(H:a∧b∧c∧d∧e∧f∧g∧h∧i)(F:a->b->c->d->e->f->g->h->i->G):G:=oa2 H fun x w=>oa8 w (F x)
theorem oa10{a b c d e f g h i j G:Prop}(H:a∧b∧c∧d∧e∧f∧g∧h∧i∧j)(F:a->b->c->d->e->f->g->h->i->j->G):G:=oa2 H fun x w=>oa9 w (F x)
theorem oa11{a b c d e f g h i j k G:Prop}(H:a∧b∧c∧d∧e∧f∧g∧h∧i∧j∧k)(F:a->b->c->d->e->f->g->h->i->j->k->G):G:=oa2 H fun x w=>oa10 w (F x)
theorem oa12{a b c d e f g h i j k l G:Prop}(H:a∧b∧c∧d∧e∧f∧g∧h∧i∧j∧k∧l)(F:a->b->c->d->e->f->g->h->i->j->k->l->G):G:=oa2 H fun x w=>oa11 w (F x)
theorem oe1{P:α->Prop}{G:Prop}(H:∃x,P x)(F:∀x,P x->G):G:=H.elim F
theorem oe2{P:α->β->Prop}{G:Prop}(H:∃ a b,P a b)(F:∀a b,P a b->G):G:=oe1 H fun x w=>oe1 w (F x)
theorem oe3{P:α->β->γ->Prop}{G:Prop}(H:∃ a b c,P a b c)(F:∀a b c,P a b c->G):G:=oe1 H fun x w=>oe2 w (F x)
theorem oe4{P:α->β->γ->δ->Prop}{G:Prop}(H:∃ a b c d,P a b c d)(F:∀a b c d,P a b c d->G):G:=oe1 H fun x w=>oe3 w (F x)
theorem oe5{P:α->β->γ->δ->ε->Prop}{G:Prop}(H:∃ a b c d e,P a b c d e)(F:∀a b c d e,P a b c d e->G):G:=oe1 H fun x w=>oe4 w (F x)
theorem oe6{P:α->β->γ->δ->ε->ζ->Prop}{G:Prop}(H:∃ a b c d e f,P a b c d e f)(F:∀a b c d e f,P a b c d e f->G):G:=oe1 H fun x w=>oe5 w (F x)
theorem oe7{P:α->β->γ->δ->ε->ζ->η->Prop}{G:Prop}(H:∃ a b c d e f g,P a b c d e f g)(F:∀a b c d e f g,P a b c d e f g->G):G:=oe1 H fun x w=>oe6 w (F x)
theorem oe8{P:α->β->γ->δ->ε->ζ->η->θ->Prop}{G:Prop}(H:∃ a b c d e f g h,P a b c d e f g h)(F:∀a b c d e f g h,P a b c d e f g h->G):G:=oe1 H fun x w=>oe7 w (F x)
theorem oe9{P:α->β->γ->δ->ε->ζ->η->θ->ι->Prop}{G:Prop}(H:∃ a b c d e f g h i,P a b c d e f g h i)(F:∀a b c d e f g h i,P a b c d e f g h i->G):G:=oe1 H fun x w=>oe8 w (F x)
theorem oe10{P:α->β->γ->δ->ε->ζ->η->θ->ι->κ->Prop}{G:Prop}(H:∃ a b c d e f g h i j,P a b c d e f g h i j)(F:∀a b c d e f g h i j,P a b c d e f g h i j->G):G:=oe1 H fun x w=>oe9 w (F x)
theorem oe11{P:α->β->γ->δ->ε->ζ->η->θ->ι->κ->μ->Prop}{G:Prop}(H:∃ a b c d e f g h i j k,P a b c d e f g h i j k)(F:∀a b c d e f g h i j k,P a b c d e f g h i j k->G):G:=oe1 H fun x w=>oe10 w (F x)
theorem oe12{P:α->β->γ->δ->ε->ζ->η->θ->ι->κ->μ->ν->Prop}{G:Prop}(H:∃ a b c d e f g h i j k l,P a b c d e f g h i j k l)(F:∀a b c d e f g h i j k l,P a b c d e f g h i j k l->G):G:=oe1 H fun x w=>oe11 w (F x)
theorem nS{a:α}{G:Prop}(h:none=some a):G:=by cases h
theorem nF{G:Prop}(h:false=true):G:=by cases h
theorem sS{a b:α}{G:Prop}(h:some a=some b)(f:a=b->G):G:=f (Option.some.inj h)
theorem pP{a c:α}{b d:β}{G:Prop}(h:(a,b)=(c,d))(f:a=c->b=d->G):G:=f (Prod.mk.inj h).1 (Prod.mk.inj h).2
@[elab_as_elim] theorem rwL{α:Sort u}{a b:α}{p:α->Prop}(h:a=b)(m:p b):p a:=h▸m
@[elab_as_elim] theorem rwR{α:Sort u}{a b:α}{p:α->Prop}(h:a=b)(m:p a):p b:=h▸m
open Lean in
local macro_rules|`(tactic|obtain ⟨$ps,*⟩:=$h)=>do
 let b:=if h.raw.isIdent&&(toString h.raw.getId).startsWith "ζ" then toString h.raw.getId else "ζ";let w:=mkIdent (Name.mkSimple (b++"w"))
 let mut xs:Array Term:=#[];let mut s:Array (TSyntax `tactic):=#[];let mut t:=s;let mut u:=xs;let mut v:=xs
 for p in ps.getElems do
  let l:=p.raw[0][0].getArgs
  if l.size != 1||p.raw[1].getNumArgs != 0 then Macro.throwUnsupported
  let a:=l[0]!;let z:=mkIdent (Name.mkSimple (b.push (.ofNat (97+xs.size))))
  if a.isOfKind ``Parser.Tactic.rcasesPat.one then
   if a[0].getId==`rfl then xs:=xs.push z;s:=s.push (<-`(tactic|subst $z))
   else if s.isEmpty&& !(h.raw.isIdent&&h.raw.getId==a[0].getId) then xs:=xs.push ⟨a[0]⟩
   else xs:=xs.push z;u:=u.push z;v:=v.push ⟨a[0]⟩
  else if a.isOfKind ``Parser.Tactic.rcasesPat.ignore then xs:=xs.push z
  else if a.isOfKind ``Parser.Tactic.rcasesPat.tuple then
   xs:=xs.push z;let a:TSyntax `rcasesPat:=⟨a⟩;t:=t.push (<-`(tactic|obtain $a:rcasesPat:=$z))
  else Macro.throwUnsupported
 let n:=xs.size
 if n<2 then Macro.throwUnsupported
 let c<-if h.raw.isIdent then `(tactic|try clear $(⟨h.raw⟩):ident) else `(tactic|skip)
 let b<-u.reverse.mapM fun z=>`(tactic|revert $(⟨z⟩):term)
 let d<-if u.isEmpty then pure #[] else pure #[<-`(tactic|intro $v*)]
 let e:= #[c]++s++b++d++t
 let g p k:=mkIdent (Name.mkSimple s!"o{p}{k}")
 let mut r:= #[<-`(tactic|(refine $(g "a" n) $h fun $xs* =>?_;$[$e]*))]
 for k in [1:n] do
  let f:=g "e" k;let y:=xs.extract 0 k;let z:=xs.extract k n
  r:=r.push (<-if n-k==1 then `(tactic|(refine $f $h fun $xs* =>?_;$[$e]*)) else `(tactic|(refine $f $h fun $y* $w=>?_;refine $(g "a" (n-k)) $w fun $z* =>?_;clear $w;$[$e]*)))
 r:=r.push (<-`(tactic|rcases $h:term with ⟨$ps,*⟩))
 `(tactic|first $[|$r:tactic]*)
local macro_rules|`(tactic|cases $h:ident)=>`(tactic|first|exact nS $h|exact nF $h|(refine sS $h fun z=>?_;clear $h;cases z)|(revert $h;intro (z:_=_);subst z)|(refine pP $h fun z w=>?_;clear $h;cases z;cases w)|(revert $h;intro (z:_=_);first|(exfalso;injection z;done)|(injection z with a b c d;cases a;cases b;cases c;cases d)|(injection z with a b c;cases a;cases b;cases c)|(injection z with a b;cases a;cases b)|(injection z with a;cases a))|cases ($h))
local macro_rules|`(tactic|split)=>`(tactic|set_option tactic.hygienic true in split at ⊢)
local macro_rules|`(tactic|split at $h:ident)=>`(tactic|set_option tactic.hygienic true in split at ($h))
open Lean in
local macro_rules|`(tactic|rw[$r,*])=>do
 let a<-r.getElems.mapM fun r=>
  let l:=mkIdent (if r.raw[0].getNumArgs==0 then `rwL else `rwR);let e:Term:=⟨r.raw[1]⟩;`(tactic|first|refine $l $e ?_|rewrite[$r])
 `(tactic|(($[$a]*);try with_reducible rfl))
local macro_rules|`(tactic|omega)=>`(tactic|first|lia|fail)
open Lean in
def pX(T:NameMap (Array Syntax×Syntax)):Nat->Syntax->Syntax
 | n+1,.node i k l=>
  let r:=l.map (pX T n);let a:=r.getD 0 .missing
  if k==``Parser.Term.app then
   let x:=r[1]!.getArgs;let a:=if l[0]!.isIdent&&a.isOfKind ``Parser.Term.paren then a[1] else a
   let g q (y:Array Syntax):=if y.isEmpty then q else if q.isOfKind k then .node i k #[q[0],mkNullNode (q[1].getArgs++y)] else .node i k #[q,mkNullNode y]
   match T.find? a.getId with
   | some (p,b)=>if p.isEmpty then g a x else g (pX ((p.zip x).foldl (λ m z=>m.insert z.1.getId (#[],z.2)) {}) n b) (x.extract p.size x.size)
   | _=>g a x
  else if k==``Parser.Tactic.rwSeq then
   let u(b:Syntax):=if b.isOfKind ``Parser.Term.paren then b[1] else b
   let b(z:Syntax):=u (u (u (u z[1])))
   let y z:=(b z).isOfKind ``Parser.Term.byTactic
   let q:=r.getD 2 a;let z:=q[1].getSepArgs
   let N:=Syntax.node i
   let f t (c:Array Syntax):=if c.isEmpty then t else t.push (N k (r.set! 2 (q.setArg 1 (mkNullNode (mkSepArray c (mkAtom ","))))))
   let P x:=N ``Parser.Tactic.paren #[mkAtom "(",x,mkAtom ")"]
   if z.any y then
    let (t,c):=z.foldl (fun (t,c) z=>if y z then ((f t c).push (P (b z)[1]),#[]) else (t,c.push z)) (#[],#[])
    P (N ``Parser.Tactic.tacticSeq #[N ``Parser.Tactic.tacticSeq1Indented #[mkNullNode (mkSepArray (f t c) (mkAtom ";"))]])
   else N k r
  else .node i k (if [``Parser.Command.definition,``Parser.Command.abbrev,``Parser.Command.instance].contains (r.getD 1 .missing).getKind then #[a.setArg 4 (mkNullNode #[.node .none ``Parser.Command.noncomputable #[mkAtom "noncomputable"]]),r[1]!] else r)
 | _,s=>match T.find? s.getId with
  | some (#[],b)=>b
  | _=>s.setInfo (.synthetic 0 0)
open Lean in
local macro_rules|`(mutual $c* end)=>do
 let mut T:NameMap (Array Syntax×Syntax):={};let mut o:=#[]
 for d in c do
  let s:=d.raw;let a:=s[1]
  if o.isEmpty&&a.isOfKind ``Parser.Command.abbrev then for f in a[3][1][2][0].getSepArgs do T:=T.insert f[0][0].getId (f[1][0].getArgs,pX T 9999 f[1][2][2])
  else o:=o.push (if s.isOfKind ``Parser.Command.universe then .node .none ``Parser.Command.end #[mkAtom "end",if a[0].getId==`E_ then mkNullNode else mkNullNode #[a[0],mkNullNode]] else pX T 9999 s)
 if T.isEmpty then Macro.throwUnsupported
 return mkNullNode o
mutual
abbrev X:={ā à:=some à,Ě:=by omega,Ă:=Ě,UX:=aXU G,Ŀ:=UX F,œ à:=Ŀ à δ,ø:=by decide,Đ:=ø,oB à á:=.ix (.var à) (.int á),ĥ:=Bool.and_eq_true,Ć à á:=by rw[à];exact á,Ŵ à á â ã ä å æ ç:=anJ à à (top á) â ã ä å æ .none ç [],ħ à:=.val à,ļ à:=ħ (.int à),Ģ:=s.heap.objs.size,H9:=run G T fu,ĵ:=wpAny_bind,Ì:=.type,WQ:=Ì "code",Vu:=.str à,aWf:=.str "/claim/cut.py",je:=.bool,Ws à á â ã ä å æ ç è é ê ë ì í î ï ð:=⟨WQ,none,.fields #[Vu á,.str â ã,aWf ä,.int å 0,.int æ 0,.int 0 0,.int 0 0,.int ç è,.ref é,je ê,.int 181 è,.ref ë,.none,ì,í,î,.int ï è,.int å è,aWf ð],#[]⟩,ć à:=.int à,Ċ:=List.length_map,ă:=false,Õ:=List.getElem?_eq_getElem,a9k:=Heap.get?_push_of_some,aw:=a9k _,aWB:=fun {à X e á r} g â h=>?_,aWg:=aWB,aS à á:=fun ζ à=>á,agh:=aS ζ rfl,xk à á â ã:=by refine .of aWg agh (fun à e ã â=>?_),sJ:=gO rfl,ą:=sJ,Ė à á â ã:=(by obtain⟨à,á,â⟩:=ã),ī à:=List à,dz:=Option.bind_eq_some_iff.mp,a8K:=List.mem_cons_of_mem,ť:=a8K _,ĉ:=.var 0,aWA à á:=wpAny (model à á),W':=List.mem_cons.mp,p8 à á â:=(by rcases W' à with á | â),ś:=Option,Ũ:=List.getD_eq_getElem?_getD,Č à á â:=en P à á (.ref â),đ à á â:=(by obtain⟨à,á⟩:=â),Rr à:=.ok à .č,pO à:=Rr (à),Ī à á â:=(by rw[à]at á;cases â),aC:="tuple",aiu:=Ì aC,ip à:=⟨aiu,none,.seq à 0,#[]⟩,Bz:=congrArg,ZG à á:=(by unfold à at h;exact let ⟨t,_,h⟩:=aFb h;Eq.mpr (Bz C t.2) (á)),A3:=by decide +kernel,ĸ:=by rw[A3],dQ:=List.mem_cons_self,û:=Nat.le_trans,Ą à:=(à).length,eJ:=Option.map_eq_some_iff.mp,İ à á â:=if à then á else â,eT:=Inv X,aWh:=eT à σ,jg à:=aWh H s,ax à á:=(by unfold à at á;split at á),ac3:=(à:Nat),Ĵ à:=(ac3:Int),Ë à:=.str (stx à),Ο:=List.range,az:=.var 1,Ľ:=az,aix:=Nat.le_refl,Ķ:=aix _,XJ:=Heap.get?_push_size,cw:=XJ _ rfl,ŀ:=List.length_cons,JQ:=List.getElem?_eq_some_iff.mp,Ł à:=(by simpa using à),eg à:=⟨O,W,R,à⟩,ee:=(eg p),lq à á â ã ä:=fun à H Q ee=>eg (fun á â s1 ã=>ä),Å:=wpAny_pure,ĝ:=PySem.W.Frag,Ŏ à á:=aea (sk à á X Ns),ċ à:=.ref à,Ÿ:=List.length_append,Ů:=by kernel_rfl,bR à:=bsr (fd:=à) rfl rfl,eL:=w.params,dG à:=.lst (iD à),gW à á:={cls:=Ì à,data:=á},bpB:=fun å ç q=>æ,aDW à á â ã ä å æ ç è é ê ë:=(à).aWO (fun á â ã q=>ä) (fun å q=>æ) bpB bpB fun å è é ê ë q=>æ,Tm:=dE X.D,zN:=Tm δ,Gq:=List.mem_map.mp,ŗ à á:=by rw[←à];exact á,fW à á:=(by rename_i à;cases á),ř:=beq_iff_eq,Â:=List.getElem?_map,ġ à á â:=fun à á â=>?_,iU:=(by intro z;cases z),aW à:=⟨à,rfl⟩,sw à á:={n:=à,np:=à,body:=[.ret (á)]},aI:=List.mem_singleton.mp,amG:=flip m,eC:=amG rows,Da:=.comp,eF:=.one 0,lx à:=Da (à) eF,Þ:=decide_eq_true,tI:=Nat.lt_of_lt_of_le,ei:=Bool.not_eq_true',aRE à:=DY X.env.cells à [],pB:=sc.names,CQ:=aRE pB,Ğ:=by simp,ģ:=.var 2,ł:=.call,į:=if_pos,aNE:=List.getElem?_set_ne,iz:=Ne.symm,iW à:=aNE (iz à),bQ à á:=gO (n:=à) (d:=á) rfl,ay:=List.mem_range.mp,Ä à:=by rw[à];omega,Vv:=(à).map,aWF:=fun á=>â,aDQ:=aWF,Ĥ à á â:=Vv aDQ,Vw â:=fun à á=>â,Ĝ à á:=Vw ?_,ĩ à á â ã ä å:=(by obtain⟨à,á,â,ã,ä⟩:=å),ų:=List.map_map,anB:=.lst à,nR à:=.ok anB .fresh,gE à á â:=fun z à=>á.1 g â à,cX:=Heap.lt_size,tX:=List.mem_append_right _,ě:=Value,fq à:=.own anB,Ĩ à á â ã ä:=(by obtain⟨à,á,â,ã⟩:=ä),bO:=List.length_range,bA:=L2.wo,n_:=(O++W),se:=bA n_,Mi:=R.cV.mono,Ι:=Mi s1,dw à á:=if h:e.ctorIdx=à then á else none,Ġ:=.none,bE:=beq_eq_false_iff_ne.mpr,QD:=ũ.refl,GW:=(QD H),GV:=p _ H GW,anC:=(à:Int),aCH à á â ã:=(by obtain⟨à,á⟩:∃à:Nat,â=anC:=⟨ã,Ě⟩),kh:=decide,ao:=rows.length,LI:=.Call,nP:=.Name,xg à á:=LI (nP à p) á [] pos,Ĳ:=s.heap,cC:=s.heap.get?,a8Y:=wpAny_callSpecial?_slot,aib:=wpAny_call_entry,akA à á â ã ä:=a8Y à á (aib á à â ã ä),lz à:=rows.getD à [],dF:=.cmp .Eq,aZ à á:=Zq7 G à fu á,aX:=decide_eq_true_eq,aY:=Re.dH,Ŋ:=.fresh,bpV à:=(by unfold à at h ⊢;exact h),uM:=Ir st,azO à á â ã:=PySem.W.fnOf à á (aDX st) (Om st) uM â kV ã pm,uY à á â ã:=aE1 (G:=G) (F:=à) (δ:=á) (â:=ã),jG à:=bA à H,Py:=X.env.cells.lookup,qN:=.str "talkleast.texts" 871,de:=X.prog,alh:=.bi .len,Ka:=sizeLine,ů à:=à<=Ka,ba:=tT rows,b_:=List.size_toArray,ń à á â ã:=fun à á â ã=>?_,Ĭ:=Shared,BE:=NameKind.free,Χ:=List.map_append,ź à:=show à by omega,Ρ à á â ã ä:=(match à with | á=>â | ã=>ä),abi:=List.mem_filter.mpr,zx:=List.mem_range.mpr,tJ à á:=abi ⟨zx à,á⟩,ke:=Nat.ne_of_lt,SL:=List.any_cons,boX:=Bool.or_eq_false_iff,Mp à:=by rw[SL,boX]at à,cI:=Int.toNat_natCast,ÿ à:=ŏ (AN à rfl),ŧ:=ds.length,bA9:=Nat.pow_le_pow_right,agG:=X.env.scope.names.lookup,Ŭ:=(j:Int),Vn:="TABLE",sD:=.str Vn,eM:=decide_eq_false,Ms à á â ã ä:=(by intro à s á H xs â Q I r h;obtain⟨l,re,O,W,H0,ã,ä,g,d,c,rfl,p⟩:=h),jm:="int",we:="bool",jn:="str",mq:="dict",F7:=[jm,we,jn,"list",aC,mq],Ř:=if_neg,Ű:=l.length,iZ:=bsr rfl rfl,cS à:=(by rw[iZ];unfold à),Ö:=List.map_cons,a3l:=PySem.Challenge.rw_talkleast_k85_questions_answered,WH:=OpenLaw.row a3l,oW:=w.withFollow row b,RZ à á â ã ä å æ:=(by obtain⟨à,á⟩:∃â,ã=ä+å:=⟨ã - æ,Ě⟩),Ō:=.var 3,ja:=.builtin,bZ à:=eval à X.env,fF:=Array.length_toList,gu:=PySem.mem_of_lookup,Bq à á â:={à with heap:=á,toks:=â},lh:=.bin .Mod,aN:=List.append_nil,aTA:=aoa J t rest,Dy:=mf rest,aBd:=oQ J Dy b,aTB à á:=aTA (aBd à á),u6:=run G T 100,uH:=List.mem_cons,Mv:=List.not_mem_nil,S7:=or_false,Ck à:=by simp only[uH,Mv,S7]at à,kJ:=List.mem_of_getElem?,bhC à:=bOm (bOn à) (OV ms) rfl,gF à:=bhC (à),cj à á:=⟨à,á,rfl⟩,TR à á â:=.of2 aWg aWg agh,j_ à á:=fun ζ ζ à=>á,asb:=List.mem_append.mp,BF à á:=(by rcases asb à with á | á),bo:=ps.length,He:=List.map_congr_left,Bm:=List.mem_append_left _,bpm à á â:=(by obtain⟨_,_,rfl,à⟩:=a1R á;obtain⟨_,_,rfl,â⟩:=a1R à),awC à:=by rw[à]at this;exact this,Ś:=S1 G F,aAq:=tm n m,Ü:=aAq rows,kR à á:=by have:=à;rw[á]at this,VA à á â ã ä å æ ç:=(by intro X à á â ã i ä s å H E I æ st ç;subst à á â),bpC è:=⟨à,á,â,ã,ä,è,å,æ,ç⟩,Ő à á â ã ä å æ ç:=bpC true,bL à:=by have:=à;omega,WM à:=(fun à=>nomatch à),bA6:=Addr×Obj,eV:=absurd,uZ:=cU (cx:=.č),bP:=FI rows,uW:=JL rows w m,xm:=List.mem_filter.mp,mI:=Bool.and_eq_true_iff.mp,τ à á:=⟨à,rfl,á⟩,cq à á â ã:=(by obtain⟨⟨à,á⟩,â⟩:=ã),dr à á â:=(by unfold à at á;rw[â]at á),cD à á â ã:=(by intro à s á H â I h;refine ã),tP:=X.env.kindOf,ic à á:=(by rename_i à;split at á),qr à á â ã:=fun Dn à H ⟨á,O,W,R,â,fo,sm,k⟩=>ã,ŵ:=.inl rfl,Ó:=X.env,aNk:=sc.names.lookup,tL:=aNk x,iV:=s1.heap.objs.size,bpD à:=fun ζ ζ ζ ζ ζ ζ us hl=>by rw[à];rfl,tH à á:=(by obtain⟨_,à⟩:=á),bps:=tH rfl (bUv hl),Vr:=bpD bps,pu:=Int.natCast_nonneg,gU à:=(à : Str),Sd:="__debug__",bBe:=x==gU Sd,lP:=(·.1),br:=l.map lP,fE à:={s with heap:=à},jA:=Option.bind_some,Fw:=Option.isSome_iff_exists.mp,KI à á â:=by show wpAny _ à (á >>= _) _ _ â,o8:=.fields,vQ:=Bool.false_ne_true,cJ:=.weak,Ź à á â:=(à).bind aDQ,Up:=tg.bind,F9:=Rc.of,a74 à á â ã ä å æ ç:=if à=cJ\/Ū<á then(if à=cJ/\á<=Ū then br9 (OL (fun â=>Ź (Up â (ã ä)) δ' (F9 (å))) æ)else none)else aEI (OL (fun â=>Ź (Up â (ã ç)) δ' (F9 (å))) æ),Á:=r.length,ae:=(i:Int),Ŧ:=.lst ds,Ò:="list",G':=R.mono,cN:=G' s1,dN:=Option.some.inj,pL:=Bool.or_eq_true,Nt:=List.length_filter_le,io:=mainGlobals,bn:=beq_iff_eq.mp,Xy:=.LShift,aWp:=.bin Xy,Ac à á â:=(by intro sg X st à o g á h;refine â),FH:=s.heap.push,B9:=δ.set i,zb à:=.nx (B9 (à)),Mg à á â:=(by rename_i à á;split at â),ŕ:=(k+1),z8:=keys.toList.toArray.zip us.toArray,qc à á:=by rw[←à];exact á,Dq à á:=⟨à,.č,rfl,á,rfl⟩,bp2 à:=f7 à H σ δ O W,Gy:=List.getElem?_eq_none,NJ:=jW h i9,HU:=by show Rs.dH _ _=_;rw[NJ],fh:=.bin .Add,ψ à á:=(by cases à;exact á),dh:=A.handled=none,lN:="row",dM:=.str lN,aui:=X.env.qual,A_:="<lambda>",S8:=aui ++ A_,sG à:=Ñ (ž (bC à)),ij à:=by exact sG (à),aHz:=treeOf 11,aHu:=boot_drawn,aeF à á â:=ac8 (aHz (à)) á â aHu os,eZ à:=(by cases à),mN à á:=aE1 (à:=á),agA à á â ã ä:=aXn X scope à á â ã ä fp,Rx:=aE0 G F fu,aBE:=bl.map qD,xJ:=.lst aBE,R5:=f t.1.1,R7:=R5 t.1.2.1,R_:=t.1.2.2,aWz:=R7 R_.1,zY:=decide_eq_true_iff,aj5:=Got D O W,Ti à:=aj5 à H,TJ à á:=by dsimp only at à;split at á,AZ:="joined_ends",aAd à:=.aXu à [("joined_bits",37),(AZ,38)],cg:=Nat.zero_le _,gG:=Nat×Nat,aOg:=dA X.D δ,Mn à á:=PA X à (aOg á),Cj:=(·.2),nG à:=Vv Cj,acq:=nG (kl rows m n),É:=DV.int,ı à:=.inl à,Le:=OM C a dx z,MY:=Ed G F,Gf à:=MY à δ,rP:=Gf es,oh:=List.mem_singleton,pZ:=Array.getElem?_toList,aeu:=behindTheImports,Jg:=.body (aeu p) env,Xk à á â ã:=(by intro à s á H â ã Q I r h),Æ:=(n:Int),blv à:=.v (.lst (à)) true,dt:=.ok d,Rk:=dt .č,wV:=List.getElem?_set_self,ah:=.var 4,Lq:=wpAny _,c_:=nP x,aw5:=Hid O W,fT à:=aw5 à H,mu:=scope.names,Ĉ à á:=by rw[à];exact á,Ż à á:=(by cases à;exact á),Š à á â ã ä å æ:=(by obtain⟨à,á,â,ã,ä,å⟩:=æ),jx:=List.lookup_cons,Τ:=δ[i]?,Cf:=Heap.SameBut.update,fg:=l.map,NF à:=bC (cl:=à),Ib:=NF .č,aP:=xs.length,BK:=wpAny_newObj_type,Í à:=by exact .inr à,X8:=apos.endLine,J0:=pos.line,aiT:=X8==J0,mn:=List.length_take,sN à:=gO (n:=à) rfl,lB:=c.testBit,TH:=L.map,ac4:=fun à=>á,oe à á:=TH ac4,Yd:=notedBy (model prog w) A env fun e g=>R (.error e) g,Η à:=by rw[à];rfl,mK:=bvH rfl,akL à á:=fun ζ ζ à ζ=>mK á,À:=scope,Ž à:=à->Prop,ni:=Ž Hp,ő:=.str x,agX:=.NotEq,Di:=.cmp agX,aB1:=kl rows m,x5:="joined_bits",wP:=List.length_nil,aaV:=wpAny_setField_rec,aKW à:=(DZ à).bind,af:=Ž Expr,lj à á:=aYP.mpr ⟨_,_,rfl,à,á⟩,aUY:=gO (G:=G),aC3 à á â:=aUY (F:=à) (δ:=á) (n:=â),jf:=X.env.locals,akt à:=RelV à u,bij à:=akt v/\∀H,Rep ⟨à,mg⟩ H d v,fz:="table",aH:=es.size,C6:=⟨K,mg⟩,ķ à:=.inr à,bpE:=aoG sg,av à:=by have:=à;omega,C2:=us.toArray,eW à:=by exact False.elim à,No:=rows.map,DS á:=fun á=>à,Al à:=No (DS r),bo5 à á â ã ä å æ ç è:=à (á (à (â (ã) (ä å)) æ å) ç (ä å)) è å,oE à:=Ņ (i:=à),aQ à:=H à=none,Gj:=Re.ok,qm à:=Gj à .č,uK:=Nat.lt_of_le_of_lt,bG:=X.calm=true,bg à:=by simp[à],wW à á â:=(by unfold à at á;cases â),ű à:=DS ζ,eB à:=ve (Ω à),nL:=List.mem_map.mpr,wQ:=List.all_eq_true,xu:="column",qw:=.str xu,aWD à á â:=fun ζ ζ ζ à ζ á h=>â,Fz:=List.getElem?_append_left,zj:=Array.getElem?_eq_getElem,Κ à á:=by rw[à]at h;have A:=á,aSb à:=bOw à mg fn bl cl d,ak2 à á:=aSb K x à á ps,amW:=runM GM TM fu,N6 à:=amW (k+à),aWe à á:=(by obtain rfl:=bAZ à;first | exact .of_eq rfl | exact .of_defaults rfl (hK _ _ á) rfl rfl rfl),EQ à á â:=(by rcases W' à with á | â),aio à á:=(by unfold à;exact á),Cy:=aio Rep Iff.rfl,FC:=List.length_set,aJn:=adm P w K mg base,Ï:=outer,bcN:=aJn A Ï s,ig:=.bi .str,cu:=akt v,bj à á:=fun b o à e=>á,X1:=List.getElem?_append_right,aJr:=List.getElem?_replicate,bdi à á:=(by (rw[X1 à,aJr]at á);split at á<;>cases á),nY à á:=.oP à (.own á),Ş à á:=fun à H Q=>á,FR à á:=(by cases à<;>cases á),KE:=wpAny_field,yQ à á:=KE à rfl (x:=á) rfl,nE:=Heap.size_push,bA7 à á:=(by obtain⟨_,_,g,_⟩:=C.at_ à á),aDR:=⟨à,á⟩,Į à á:=by exact aDR,TK:=X.env.scope,mF:=isStar,pS:=Re.Ee δ,cH à á â:=by rw[à,á];exact â,aeI à á â ã ä:=(by rcases bqy à with⟨á,â,rfl,ã⟩ | ⟨ä,â,rfl,ã⟩),vW:=h.get?,qu à á â ã ä:=(by obtain⟨⟨⟨à,á⟩,â⟩,ã⟩:=ä),pj:=I.Ν.fresh,ſ à:=à->Bool,N3:=[48,49,50,51,52,53,54,55,56,57],rq:=List.append_assoc,uP:=[az],aC7 à:=by have:à=0\/à=1\/à=2\/à=3\/à=4\/à=5\/à=6\/à=7\/à=8\/à=9:=Ě,aQP:=X.base.get?,kj:=X.stack,W5:=AI kj,ayd:=aQP c=none/\c∉W5,Qe à á:=codeAny (model à á),G1:=Builtin.Str.strSliceIndices,aOo à á:=by have à:=xZ à;have á:=xZ á,bp7 à:=.ask s à a b,iC:=wpAny_holding,RM:=Array.getElem?_eq_none,B_:=.bin .Mult,JG:=X.Oo.heap.objs.size,d_:=.lam m cs,aO:=us.length,aCE:=rs a dx l,ad:=a.length,NS:=eE rows w m,aRS:=".<locals>.",aeV à á:=à ++ aRS ++ á,tG:=False,yi:=aS ζ tG,N8:=bwh c,Ig:=(N8).map (48 + ·),ato:=Ì mq,Lc:=.bin .Sub,aeD:=.str "law_talkleast_k85_questions_answered" 1134,SZ:=T==t||(T == we && t == jm),BP:=Rs.dH,ajv:=starEach,bpr:=(by obtain⟨_,_,rfl⟩:=bUw hl),aDH:=bpD bpr,RI:=Up d,ahs:=OK fr,Tl:=ahs δ,RF:=RI Tl,a5U:=aEg P w K mg base,M_:=a5U VO,gR:=vs.length,oG:=wN rows w n m,RP:=c.size,av6:=SetTable.grown RP,ah1 à:=relayAll à c av6,wU:=bD D,fA à:=fun à=>?_,abl à:=0<=à/\à<=9,aS9 à:=∀x∈à,abl x,aTq à:=∀r∈à,aS9 r,XC à:=EP X à σ,afc:=XC pins Q,Zp à:=codeAny_builtin à ?_,aL8:=Around.under_plainId,ayU:=PySem.F.plain_min_loop,beY:=by refine Zp PySem.F.entry_min_loop;rw[aL8 ayU _],lX:=wpAny_mono,π à á â:=œ à=ā (.ok á â),fN:=ā q,fV à á:=∀q,à=fN->PE X á (zN q),È à:=ā (pO (à)),Ď:=ī Int,ď:=ī Ď,anD:=ā â,ĳ à á â:=à[á]? = anD,Of à á â ã ä å æ ç è:=by have à:(findIn (á) (ċ 639) â,isFn (á) (ċ ã),keepIn (á) (ċ ä),(á).lookup ã,codeIn (á) (ċ å) æ)=(ā (ā (ċ ã)),true,true,ā (ç â æ è qN å),true):=Ů,aWi á:=if à then á else none,ac5:=ā (á),ō à á:=aWi ac5,B2:=ś Ou,Ť:=Nat->ī DV->B2,eG à á â:=jW à (jW á â),fv:=kK eL,aDJ:=(fv).lookup,anA à á â ã ä:=by have à:nsIn fv 675 á = ā (ā (ċ â)):=Ů;have ã:aDJ â=ā (ip ä):=Ů,Υ à:=ā (.v à ă),Ê à á â ã:=H9 à á â=Υ (ã),acA à:=UX (H9 à),aWj:=aWA de X.w,gY:=aWj X.A,Z5 à á â:=by replace à:=dz à;rw[Ė á â à à],ie à á:=.iff (à) [.ret (á)] [],ż à:=by refine ĵ (à),Ħ:=ī DV,du à:=.set à ă,ė:=ī Nat,Vx á:=à=ā á,wy:=.cell,Qs:=.free,Co:=ā Qs,EN à:=Vx wy\/à=Co,ĕ:=ā o,gV:=ć 1,ù:=gV,Zr:=aWA prog w,iE:=Zr A,ē:=ī Sv,Q1:=l.all,aV6 à:=à == .č||à == Ŋ,ahc:=Q1 fun p=>aV6 p.2,acD:=dG xs,aWx à á â:=[.val (.fx o),ļ g,.val acD,p,ļ n,ļ m,à,á,â,.no],vH:=X.base,bgq:=aEg de X.w X.K X.mg vH,bqd à á:=bgq à k á fd ps,ğ:=ī Str,ak à:=ć anC,wZ à á:=by simp only[ĥ,à]at á,ayV à á:=FH (gW à (o8 á)),WR:="range",sR:=ć à,aWE à:=ayV WR #[ć lo t,ć hi u,sR v],aDS:=ġ á â ã,χ à á â ã:=dH (à) aDS,bx à á â:=Ė à á rfl (Gq â),ŉ à:=Ī à h h,bp8:=Ė à á â ã,aDT:=bp8,gC à á â ã ä å æ:=by rw[aDT];exact⟨ä,å,æ⟩,azG:=bH4 sg tn fr,Cs:=sg.fn,LP:=sg.bl,Si:=sg.cl,bp1 à:=⟨azG,à,Cs,LP,Si,ă,ă,IQ⟩,am à:=(by rw[bR à];unfold à),pA à:=ī (Str×à),K2 à á â ã:=aY à fun á ζ=>Ĥ (â) k (pO (.bl ã)),dU à á â ã ä å:=by rw[đ à á (â),đ ã ä (å)],iJ:=ć _,anv:=mg_of X Ns,ce:=aW _,GN:=aFw.mpr rfl,Oh à:=aZ4 ⟨_,iJ,anv à,ce,fun H=>GN⟩,lY à:=à->Ž Ĭ,cF:=lY ě,Ŷ à á â ã ä:=by rw[aDT];rw[ä],Ē à:=.tup à,wJ:=vd tg body,ahV à á â:=Ρ (body à) (ā (.nx á)) (wJ â á) o o,Ň:=ī Addr,aV1 à á â ã:=(by unfold à at á;simp only[â,ã]at á),xz:=FI eC,lA:=Ą xz,aDI à á:=bON (ss:=à) Đ Đ (.cons ce (á)),bh:=ā wy,pd à:=(Ο à).filter,Io:=ł à,gK:=[ĉ],Ψ à:=Io gK,Iq:=ċ à,yR à:=(ā Iq),Vj à:=cU à Ņ rfl,v5:=ċ f,j9:=v5,ats:=call j9,eX:=ć k,bBa à á â ã:=∀bA5 à á,Inv X bA5 σ á à->ũ H á->aWj â (ats [u]) (XC bA5 (fun w ã=>w=eX/\ũ á ã)) yi à,lE à:=H9 (k+à),bc:=lE 2,iT à á:=PE X (à) (zN á),aWk:=V2 à (ġ x á à),azo:=slot_of,azr à á â ã ä å:=by refine aWk;rw[Ĩ â ã ä å (azo g à)],pz:=I.Op,CY:=(WM z),S5 à á:=PySem.W.kia_one à pz á (aZb _ _ Ğ f) CY h,š à á:=(by unfold à;rw[á]),aWl:=(by rename_i à;rw[á]),fM à á:=by rw[aWl],Jk à á:=⟨à,none,o8 á,#[]⟩,Ys à:=⟨_,à,rfl,rfl⟩,þ à:=û à Đ,h_:=bpE ă,rO à:=aY (œ à),anE:=ć â,mM à á â:=lh (oB à á) anE,Ŝ:=ċ a,AA à:=aE1 (à) rfl,aWm:=jW à i9,ii à á:=AA aWm (á),akP:=bne_iff_ne,bgj à á â ã ä å æ ç è é ê ë ì í:=(by simp only[ĥ,ř,ei,wQ,akP,ne_eq,aX]at à;obtain⟨⟨⟨⟨⟨⟨⟨⟨⟨⟨⟨⟨á,â⟩,ã⟩,ä⟩,å⟩,æ⟩,ç⟩,è⟩,é⟩,ê⟩,ë⟩,ì⟩,í⟩:=à),Œ:=ī ě,cn à:=ć (Ĵ (à)),Vs à á â ã ä å æ ç è:=by rw[ĩ à á â ã ä (bA0 å)];have æ:=bOH (K:=fv) rfl ç à á â ã ä è,aAa:=.ix Ľ,aTK à á:=lx (dF (.ix (aAa à) á) Ō) Ľ [none,ā 2,ā 0,ā 3],aDO:="MOST_LINES",xv:=ć 8,abn:="GREATEST_WORD",abt:="SMALL_LINES",aAc:="GREATEST_MODULUS",abF:=ć 10,aDN:="MOST_BITS",iY:=ć 3,aAe:="MOST_ASKS_DEEP",aDM:="MOST_ASKS",aAf:="ALL_CARDS",aDL:="DIGITS",aCx:="0123456789",aCj:=.fn x5,bjM:=[(aDO,xv),(abn,ć 9),(abt,ć 5),(aAc,abF),(aDN,iY),(aAe,ć 12),(aDM,ć 300),(aAf,ć 255),(aDL,.str aCx),(x5,aCj),(AZ,.fn AZ)],lL:=ś ě,bY:=Str->lL,Ol:=ć á,dg à á:=[sR,Ol],Ĺ:=ś Re,ĭ:=ć i,jc à á â:=(by subst à;rw[Ī á â â]),Vz:=ā à,sh à:=Τ = Vz,uw à:=sh (.od à),aAg à:=.brX (.str à),H_:=[none],Ng à:=aAg "" (lx (ig gK) à H_),Ô:=jg pins,bp0 à á â:=(by unfold à at h ⊢;rw[ĩ á â e1 e2 e3 h]),Ã:=ī bA6,ţ:=H9 k,cT:=Ą bP,Et:=.function,bhu:=X.env.blockKind == Et&&tP x==ā .local&&pt.line==(Expr.ListComp a.elt [⟨a.tg,a.it,a.ifs,0⟩] a.sc p).pos.line,jz:=e::es,dW:=jz,bX à á:=H à=ac5,cP à:=show à by omega,Bv à á:=attributeBase à á Ó (bZ à),yF:=Obj.mapSeq,beJ:=(FH (seqObj Ò #[] 0)).update Ģ (yF (· ++ C2)),Xz:=.BitAnd,aln:=.bin Xz,asS:=.RShift,alk:=.bin asS,alm à á:=aln (alk à á),Bt:=.Attribute,MP à á â ã:=LI (Bt à á â) ã [],tY:=I.tok _,Bf à á:=⟨à,H,tY,ce,á⟩,yW à á:=if à then ac5 else none,Kh à á â:=Q Iq (upd á à (â)),bpF:=bJZ P w K mg base,jL:=jG l,aat à á:=bpF N q À f à cl A á s jL,qy à á:=(by obtain⟨à,_,rfl⟩:=Gq á),aAW:=Int.le_trans,aAV à á:=by rw[ĥ,zY,zY,Į (aAW Đ à) (Int.lt_of_le_of_lt á Đ)],ū:=ā c,jJ à á â ã:=by have à:á=anD:=h;rw[ax ã à],zu:=seqObj Ò,PN:=Hp->Ž VK,bH à á:=(by unfold à at á),ack à á â ã:=vd à (fun á=>aZ â ã á),ik à:=(sR,.č),aRb à á:=by refine aWk;simp only[ĥ,ř,akP,ne_eq]at à,aE:=ī Expr,bpP:=by rw[à];rw[á],hZ à á:=bpP,ajH à á â:=hZ (bA7 à á) (Ī â g g),ac6:=ċ á,afV à á:=PySem.W.keepIn à ac6,QG:=agG x,EW:=X.fn x=true\/QG=ā .local,bmb:=Lc (B_ ĉ (.ix ģ Ō)) (B_ ah Ľ),Dg:=.many [0,1],bma:=[none,none,ā 3,ā 4,ā 5],bmd:=Da bmb Dg (.zp ģ Ō) bma,FL:=y.2=BE,Vy:=ā á,bql à á â:=∀y∈à,FL->∃á,â=Vy,aBA à á â:=[none,Vz,Vy,anD],aDU á:=(by rcases à with á | á),fB à:=by rw[aDU z],Ń à:=by rw[à],jO à:=.lst (nD à),Ux à:=AN (d:=à) (cl:=.č),aBq à á:=ŏ (Ux à (á) rfl),aDj:=sY Ņ,Uj:=cU ą,bp5 à á â:=aBq sR (ŗ á (aDj (adJ (Uj Ņ â) ą Đ))),Af à á:=.not (Io á),aSK:=.bT (.str "settles "),aSL à á â:=Af 97 [.bT (.bT (aSK (ł 93 à)) (.str " ")) á,.var â],dL:=ć 2,xw:=ć 4,aCw:=[gV,dL,xw,xv,ć 16,ć 32,ć 64,ć 128],aiy à:=List.toArray (Ο à),kY:=ā d,aRN à á:=∀x d,à=kY->∃u v,mg x=ā u/\bij á,xp à á:=lx (à) á H_,FT:=Array,akg:=yF (ű (#[]:FT ě)),bpG:=Ė A s1 b (i a),aa3 à á:=by rw[bpG];exact bJt à d c á Đ Đ A s1 b h,HW à á â ã ä:=uY à á f â (es:=ã) (l:=ä) rfl rfl,qE à:=ļ ac3,jq à á:=Vw (h à (ť á)),agc à:=(à).any lP,azi:=backTo pos,Bl à:=ajv à Ó,aIo:=azi (Bl es),bBA:=agc aIo,zy à á â:=fun à á â p=>ā (aW (à,á,â,p)),Dp:=rows.idxOf,Ur:=Ĵ (Dp r),zS:=Rep X.D,si à:=zS (se à),BH à á:=by show Lq à _ _ _ á,mJ à á â ã ä:=(by rw[Ė à á â (eJ ã)];cases ä),xA à:=aL 1 [à],qH:=Jb d,aVt à á â ã:=bsv (G:=G) (F:=à) (δ:=xA d) (elt:=á) (tg:=.one 0) (it:=ĉ) (fr:=â) (ds:=qH) (cl:=.č) (bz5 ã) Đ (bz6 (a1C ã).2),aM:=ī Stmt,a5u:=PySem.W.findIn K,Qd:=ċ C,Fi:=a5u Qd,NM à:=bw (uW à),amf:=Ĵ (NM (j+1)),P_ à á â:=(by have e:à=á:=Ł â;subst e),alt:=.ix ĉ,Ai à:=[none,Vz],aSh:=lx (alt Ľ) Ľ (Ai 0),aWn à:=Shared.heap ⟨à,g0,d0,k0,o0⟩,oY à:=ć à 0,bpX à:=aWn (h0.push (gW à (o8 #[ċ l1,oY 0]))),aab:=I.turned,asH à á â ã ä å æ ç è é ê ë ì:=by rw[Ĩ o e c d (id à)];exact τ á (bq1 e c d Đ ⟨â,H,(aab (bj ã ((ä.2 b ã).trans e)) å æ ç è é),ê,ë,à,fun b ã=>(ì).1⟩),ú à á â ã ä å æ ç:=bpC ă,aga:=Heap.get?_update_self,aKw:=Obj.data_mapFields,a7b à á â ã:=⟨_,aga _ à (Obj.isFreed_of_fields (aKw á _)),(Obj.cls_mapFields ..).trans â,ã⟩,o9 à:=(à).Nodup,Bw:=ps.zip,bj0:=List.Pairwise.imp,bcS à á:=by (have à:(o9 ((Bw M).reverse.map lP)):=cH List.map_reverse (List.map_fst_zip (bL Á)) (List.pairwise_reverse.mpr (bj0 (fun h=>iz h) á)));refine aXk à (List.mem_reverse.mpr ?_),LR:=Rep.mono,lm:=by exact LR e h,uO:=Ai 0,U' à á:=by have:=à;rw[awC á],gH:=alh gK,aiK:=inName,uA à á:=aiK à fun x=>á,pT à:=aZ F à δ,Ļ à á â:=by rw[à]at á;exact â,Α:=dQ ..,rg:=.bl ă,amS à á â:=bFX (l:=à) (i:=á) Ă (Ä â),bpH:=Ĥ (aXG l) ds (Re.ok Ŧ Ŋ),aPb:=by have l1:=hl l vo;rw[Ė ds e1 e2 (bKs (show bU bpH=ā ri from h))],aVk à á â:=by have e:=bzJ (fu:=fu) (k:=à+á) (a:=a) (dx:=dx) (l:=l) (i:=i) (δ:=â) (j:=0) rfl Ă,SY à:=X.A.units+à<cLine,Sa:=.ListComp,agv à á â:=Sa elt [⟨à,á,â,0⟩] À,Ø à á â ã ä å æ ç è:=(by obtain⟨à,á,â,ã,ä,å,æ,ç⟩:=è),blP à á â:=if Ą (à)<=Ą (á::â) then á::â else à,atZ à á:=fun ζ ζ ζ ζ ζ ζ ζ à=>á,aNR:=typeIs_str,aNT:=call_meets F.slot_str_split (aNR _ _ _) F.entry_str_split (F.args_str_split_2 _ _),RU:=Heap.SameBut,dP à:=Ī à e e,mB à:=Ĵ (à+1),gJ à:=oB à 0,bv:=by dsimp only,aaX à:=Binds à fd ps,Ay:=List.all_eq_true.mpr,so:=nG CQ,Ĕ à á â ã:=by have à:=á;have â:=ã,aDK:=.str aCx,ff:=by show aY _ _=_,uD:=Got X.D O W,awF:=.Lambda,aOP:=awF pr bd sc lp,aP4 à:=LI (nP à p) [ea] [⟨ā "key",aOP,kp⟩],uf:=Option.map_some,Lm:=Array.getD_eq_getD_getElem?,am1 à á:=bF3 (l:=[(Vu,.č)]) Ja apF á (jW be i9) rfl,eK à á â:=Vv aDQ,abS à á:=fun ac3=>É á,yw:=(0:Int),axP:=Int.le_refl,blU à á:=by have à:yw<(Ą (á):Int):=Ğ;simp only[qL,DZ,jA,adx,VS,mT,į (axP 0),į à,jA],Ŕ:=ī V,bpJ:=ĩ à á â ã ä å,bpI:=⟨æ,ç,è,é,ê⟩,lT à á â ã ä å æ ç è é ê:=by rw[bpJ];exact bpI,GR à:=wU (jG à) ds,aQZ à á â ã ä:=by refine aFm à (ń ef á â à);refine ON à (ń ã n ä à),cK:=x.length,Ų à:=(à).trans,E1 à á:=.BoolOp à á pos,Bn à:=aEd X (binaryOp à),iS à á:=Ć (cr à) á,uQ à á:=[none,Vz,Vy],jd:=FT ě,m9:=Value.ref,p_:=Nat.zero_add,MH:=List.length_singleton,DD:=Wg m rows,ŭ:=ć 0,zV:=List.all_eq_true.mp,bBI:=bF4 (l:=[]) Đ Ja apF rfl i9 rfl,A2 à á â ã ä å æ ç è é ê ë ì í:=Ws à á â ã ä å æ 3 0 ç true è (ċ é) (ċ ê) (ċ ë) ì í,vP à á â ã ä:=(by intro à s σ H x á v â Q I ã ä h),aWy à á â ã:=⟨N,(uM).names,à,á,â,true,true,ã⟩,aj7:=dT X.D,Mj:=aj7 δ,SN à á:=PT X à (Mj á),aOu:=beq_eq_false_iff_ne,aR5 à á â ã ä å æ ç è é:=(by simp only[ĥ,ř,ei,wQ,pL,aOu]at ok;obtain⟨⟨⟨⟨⟨⟨⟨⟨⟨à,á⟩,â⟩,ã⟩,ä⟩,å⟩,æ⟩,ç⟩,è⟩,é⟩:=ok),iy à:=fun b o e=>à,Zz:=(aw e),Bk:=iy Zz,aau à á â:=∀h:Heap,à->PySem.W.CodeHd h á â,ue:=beq_self_eq_true,Cg:=List.getElem_mem,lO à:=ip #[sD à],oX à:=by rw[←à];rfl,qW:=upd H,bqa:=SetTable.below,zL à:=adQ.mpr ⟨rfl,à⟩,QO:=Builtin.SmallTypes.nextOf,QC:=je true,bA8 à á â ã ä:=#[à,none,ā (.str á â),ā (.str á ã),ā (ja ä),ā QC],aQR:=List.getElem?_zip_eq_some,aQ4 à á:=by have hz:(i,N[d+j])∈fr.zip (N.drop d):=kJ (i:=j) (hZ aQR (Į à á)),fH:=PE X e,ý:=ā re,aNN à á â ã ä:=(by (have à:(match(generalizing:=false) á with | anE=>ã | _=>none)=ý:=ä);split at à),bBf à á â:=#[ā Iq,ā (ċ 3),ā ac6,none,anD,none,ā (ċ 0)],azs à á â:=bMJ (fun sg w e h=>bn à) (fun δ=>rfl) agh (j_ á â),aG:=(j+1),vE:=h'.get?,aVz:=İ s i j,NX à á:=if lB aVz then à else á,amK à:=2^((à:Int).toNat),Ý à á â ã ä:=fun à á â ã ä=>?_,jr:=z.length,Hf:=dS X.D δ,dB:=SS G F fu,ax9 à á:=Qe P w A (ł j9 ⟨à,[]⟩) (CR á outer P w H s Q E) s,aVL:=bTU _ rfl ĸ,zt:=Bool.false_eq_true,a3k:="special-get-raises",aWu:=w.withFollow a3k,bpq à á â ã ä å:=fnOf à á (aDX â) (Om â) (Ir â) ã Ġ Ġ ä none (ċ å) Ġ,iA à á â ã ä å æ ç è:=dH (à) fun á â ⟨ã,ä,å,æ,ç⟩=>è,Δ:=ā u,ql à:=(by cases à<;>rfl),bI:=ā x,LO à:=sg.N[à]? == bI&&adM sg x,Lr à á:=Å ⟨plainId_quiet à _,á⟩,JT:=t σ H,Bg à á:=Ş σ (JT fun à H1=>á),ņ:=World,JN à:=ke (tI (cX e) à),cR:=.var 5,sj:=⟨#[c]⟩,zQ:=s1.trans,aw0 à á:=(by rcases à with⟨a,á,ρ,e1,e2,e3,e4⟩ | ⟨a,á,ρ,e1,e2,e3,e4⟩),k6 à á:=(à==á)=ă,akv:=sysModules,Jw:=k6 a akv,a5q à á:=A.under (ja "type.__call__" ⟨Qd::à,á⟩),afw à:=fun i j=>ć (à),aHJ à:={cls:=Ġ,data:=o8 à},aJY à á â ã:=∀p∈IA à,á=none/\â=ā (aHJ #[]) /\ isCodeTable ã p.1,wz:=a.heap.objs.size,bqg:=Nat.le_add_right,aD à:=⟨à,?_⟩,aDV:=đ à á â,gn à á â ã:=(by rw[aDV];subst ã),Cb à:=OM C à dx t,aBH:=cv.Er hs,UV à á:=aBH à á bl,xK à á â:=aCH à á (â) (â).toNat,ae9:=by first | exact ŵ | rw[Í rfl] | assumption,aRh:=(by simp only[ĥ,ř,ei,pL]at c;obtain⟨⟨⟨⟨⟨E,C⟩,d⟩,B⟩,A⟩,x⟩:=c),Ew:="ask",ox:=.str Ew,akq à á:=if à.1=k then(à.1,á)else à,uU:=l.filter,aDG:=nsIn fv io,qe:=e.ctorIdx.beq,Eu:=treeTable,aG6:=segRunT Eu,Wq:=topFrame,bqn à á â ã ä å æ ç è é ê ë:=aG6 à á â ã ä å (æ) (piecesOf (ç) è é ê [Wq ë]),K7:=List.filter_cons_of_pos,avP:=List.filter_cons_of_neg,afn:=PassesOwn (model de X.w) X.A Ó X.xe,ahh:=G.gk=[],ak1 à:=∃a es n,ahh\/bvC à w mg G.gk a es n,anF:=ja à,rm à:=bq4 X anF,eH:=Arguments,jy:=ks.length,Ŗ à á:=by exact eV à á,Yi:=Nat.lt_irrefl _,aHT à á:=by rw[Ŗ (tI à á) Yi],N_ à:=0<=à/\à<10,uI à á â:=by (rw[cr ac4]);exact â,Cq à á:=by simp only[ĥ,ř,à]at á,oF à:=Vv qD,acm à:=oF (e::à),acn:=.lst (acm l),Ù à á â:=(by unfold à;rw[á,â]),ai:=.cons,cZ:=I.Ν,aQx à á â ã:=show adg de X.w H Ĳ a (.oP à á)from cZ â _ ã,vJ:=adg de X.w,Ts:=sm.trans,ow:=Ts s1,bpK:=Array.toList_append,pI:=rawInt,arP:=ps.toList,dY à:=cj _ à,Hu:=dY _,bcz à á:=(by rw[bpK]at à;rcases bJV (a:=pI J0) (b:=pI pos.col) (c:=ac6) arP ht Hu Hu à with w | w),rX à á â ã:=ś {t:à×á×â // e=ã},aiY:=Em sg,qh:=aiY ms es,Cp:=sg.sc.lookup,SU:=wpAny_Call_Name_kw,Fu:=List.nodup_cons.mp,akC:=List.getElem?_drop,Y4 à á:=show à=á from rfl,a5s à:=if à=f then(à,v)::r else(à,x)::VL f v r,aJc à:=by (rw[Y4 (VL f v _) (a5s k)]);by_cases à:k=f,rA:="zip",akz:="dict_itemiterator",a4v:=["enumerate",rA,akz,"dict_reverseitemiterator","odict_iterator","itertools.zip_longest","itertools.pairwise"].contains,asJ:=by rw[VA m g p l d C f j,Š A y J x u r (f it Ğ)],cG à:=⟨rfl,à⟩,EM à á â:=fun ζ ζ ζ à á=>â,C7 à:=Good à G F X,ye:=k _ _,RT:=ye _,zC à:=ZG à (RT _ h),abp à á:=.exp (Io á),ak9:=.oS aDO,alo à:=abp 61 [à,gV,ak9],bmF:=aWp (lh Ľ dL) ĉ,abz:=[none,none],aSC:=Da bmF Dg (.sW ĉ) abz,ajS à:=(bJ9 hl à (by intro o c z;cases z)),JO:=I.bare,W7 à á:=fun b o e n à á=>?_,PD à á:=ń b o à á,aIc:=I.base.Iz,ar4:=I.base.DU,PB:=I.free,ET:=I.len,a3T à á â ã ä å æ ç è:=⟨I.ok,I.os,JO,⟨W7 O w,W7 O w,I.base.free,PD e w,I.base.Iy,aIc,ar4⟩,⟨à,á,fun j y v' g â e3=>?_⟩,ġ ã ä e,PB,I.aD6,Ĝ p hp,å ⟨æ,ç,è⟩ hs,Ł ET⟩,wg:=.Subscript,La:=List.range_succ_eq_map,a4f:=⟨ok.mod,ok.kind,ok.glob,ok.blt,ok.above,ok.inj,ok.has,ok.bqC,ok.hd,ok.frames,ok.bqD,ok.aWS,ok.bs,ok.IB,ok.bqE,ok.aD5,ok.sV,ok.oR⟩,fX:=mF e=ă,rn à:=İ à 1 0,aCS:=rn (lB t),aeC à á:=Č "__static_attributes__" à á,Ú:=ũ H,bq:=Å ?_,arp à á â:=en P "__firstlineno__" à (Ol â),auN:=.FloorDiv,ahT:=.bin auN,ZY à:=vi à O W,L6:=ZY D H0 H,uJ à á â ã ä:=(by obtain⟨⟨à,á⟩,â,ã⟩:=ä),azc:=by size_fits,bqe à:=BK (h a T _ _ h' à d n m i g f l j) azc,FP:=wpAny_seqItems,CM:=Bool.eq_iff_iff,C4:=List.mem_append,aa9:=List.contains_iff_mem.mpr,aTE à á â:=bQl (J:=à) (m:=m) (IZ (Ć a.1 á)) (IZ (Ć (aee a).1 â)),Yc:=Ř vQ,ah9 à:=by rw[show(à != à)=ă by simp,Yc],bhA à á:=(fun w=>by rcases g.vn à (ı á)with v | v<;>(rw[Ī w v v])),QH à:=⟨?_,à⟩,Lw à á â:=fun à=>eV á â,aRB:=Lw w w nl,bgS à:=by (have nl:agG y.1≠ā .local:=bhA y.1 Y);refine(QH (à.2.elim id aRB)),Gk à á:=qL anB Ol,aj:=ć j,nC à á:=by rw[à,á];omega,Tp:=aWj A,aWo:=(à,.č),bBr à:=mN l [aWo] rfl,bK à á:=show à from á,sQ:=Tx (k+56) t R,yE:=List.length_drop,qP à á â ã:=by rw[aDV];exact ã,aq à á:=kh (à<=á),EO à á:=by have:=à;rw[Ī á this this],ay7:=(by (rw[aK fun z=>by rw[z,f]at e;cases e;cases d]);exact e),bpO:=.local,FM:=pyNext,aaL à:=FM Iq,bgr:=buC de X.w X.K X.mg vH,yZ:=F xU,aya:=bgr fn bl cl k yZ,ayG à á:=(by cases c<;>cases à<;>intro b á<;>first | exact á | exact Bm á),dm:=ċ Ģ,Hy à á:=.fo (.one à) (.fw á),Av à:=adJ (à) Ņ Đ,r_:="enumerate",Z_:=bpK,aur:=Builtin.SmallTypes.ownedTupleIsFree,MT à á â ã ä å æ:=(by obtain⟨⟨à,á,â,ã,ä,å⟩,u⟩:=R.od i _ æ),a8x:=List.take_sublist _ _,a5O à á â:=by have à:ps.Nodup:=ŗ S.pre (S.nd.sublist a8x);refine⟨u,á,â⟩,Î à:=à<=1000,ut à:=.set à true,HA à á:=.ix (.ix à á),ag2:=.tuple,De:=.bi ag2,yp à:=Vals à us,aV7:=mN fr ă,wA:=(D+1),QJ:=agA L wA j a H,qF:=p.AW i j,Rn:=G.adE,amo à á â:=.lam ⟨à,á,â,Rn,G.II,G.IJ⟩,axT:=bootBuiltins,J7:=wpAny_pyIter_list,CD à á â:=(by rename_i à á;cases â),HE:=.str " ",iK:=.bl true,ji à á:=(by intro à s á H Q I h),fK:=N.length,atM:=Calls.callWith_builtin,a6r:=Calls.evalArgs_plain,a5B:=Calls.spliced_cons,a5A:=Calls.spliced_nil,bbQ:=atM rfl (a6r (a5B (dH (N d s1 m O _ l i) fun u R B0=>a5A ?_))),f9 à:=(à).take,bBX à á:=(f9 (zD.drop à) á).map,xC à:=œ (.bi à [e]),Od à:=tT (bAS.getD à []),aC1 à á:=mN l [aWo,(á,.č)],aB:=Program,Uf:="show",Ue:="trim",Nh:="bits",Ud:="ends",Ni:="cover",x8:="apart",x4:="rank",Uc:="twos",Ub:="alone",tE:="plan",bju à:=[à Uf,à Ue,à Nh,à Ud,à Ni,à x8,à x4,à Uc,à Ub,à tE],aiR à:=aFc h (DS h),LF:=bHf h,Sc à:=LF (DS h),aM7:=aiR (Sc (Sc (aiR (LF (fA h))))),Hc à á:=⟨_,à,fun v á=>eZ á⟩,Yk:=.Assign,Bh à á:=PS X (Yk [à] á pos),Zc à á â:=(by rcases Nat.lt_trichotomy à á with â | â | â),fC à á â:=(by obtain⟨à,á,_⟩:=â),afs à á â:=Turn P w K à (á) [it] it (fun i h=>â),ac7:=ı à,ŝ à:=by exact ac7,LH à á:=fun à á p=>ā (aW (à,á,p)),wM:=Ou.of,ahM à á â ã:=if ŧ=à then wM (aZ á â ã)else none,mH à á:=Ei (à) fun t=>á,Gv:="set_iterator",Ç à:=È sR,aeZ à:=EN (tP à),azm à á:=∀(j i:Nat),ĳ fr j i->∃y,ĳ à (á+j) y/\ĳ X.N i y/\(aeZ y),ŋ à á:=ĳ à i á,bu:=ī (DV×Cl),rQ à á:=œ (à)=È (á),Β à á:=eG à á i9,ň à á â ã:=by rw[aDV];rw[ã],aNa:=h_ b eb,aiW:=mF eb,a97 à á:=aoy e fun ef eb pos=>(IS ef fun ea n apos=>n == à && h_ a ea&&á&&aiT&&aNa && !aiW),af4 à á â:=Vw (eV (show à∈([]:â)from á) Ğ),bqb à á:=by dsimp only at à;rw[Z5 à á b],G9:=f7 X.D,Qz:=DW X.K,SG:=bD X.D,aP6 à á â ã ä å æ ç è é ê ë ì:=∃O W a à á ks â,va=V.ref a/\G9 ã ä δ O W/\Qz ã å à/\SG (se ã) á à/\æ/\aEM ç d_ á=ā ks/\è=anD/\∀é ê,ũ ã é->ë->ì,oH à:=ħ (dG à),sF à:=Ē (iD à),cY à á:=⟨o,à,á⟩,ayF à á â ã:=by rw[Ĩ o à á d â];exact cY e (fun v ã=>Ń (Ī d ã ã)),anG:=(à).weak,G5 à á â ã:=anG fun á H Q (eg p)=>eg (fun â s1=>ã),yV à á â:=aKW à aWF,FY à:=yV a i (aKW b (DS j)),uE à á:=∀q,Vx q->Mn á q,EF:=ś V,ar2:=ī EF,ajD à á â ã:=∀{à:Ã} {á:ar2} {H:Hp} {s:Ĭ},â->ã,aU à á:=by rw[à,ż (á)],ω:=H9 ŕ,uN à:=.iff (à) [.OF] [],tM:=cC b=ĕ,a5Y:=PyProof.Rows.callWith_type1,aft à á â ã ä å æ ç è é ê ë ì:=cD à á R (Call_ (aEa I â ã ä (a5Y (χ (å) us s1 bpI) ë ì))),hL à á:=(by unfold à;rw[ż (á)]),Ab à á â:=by refine à;rw[wZ á â],Kb:=vals1,Ks à á:=(by rw[Ė u rfl à (Kb á)];cases à),gr à:=iE (à) Q E s,yy à:=aEd X (compareOp à),L5:=Rep D,Cw à:=L5 à d v,Qj:="NoneType",ajz:=[Qj,we,jm,jn,aC,Ò,mq],ug:=ā (.ok l),pV:=rP=ug,aaG:=d.push (gW aC (.seq #[eX a,x])),sM à:=ļ anC,Aj:=dF ĉ,sA à á:=ie (Aj (à)) (á),asg à á â ã ä:=∀(pins:Ã) (s:Ĭ) (σ:St) (H:Hp) (à:á),Ô->â->gY (ã) ä X.xe s,fZ à á â:=du à (ł á â),ach à:=Di à ŭ,blk:=dF (ł 25 [ĉ,ah,az]) Ō,aSo:=.iff (.and [ach ah,blk]) [.app 2 (Ē [Ō,ah])] [],Qt:=N.take,aQ7 à á:=by have à:Ą (Qt d)=d:=Ä mn;refine⟨l2,l3,l4,OU l5,Ń à,l8,l9,fun i y h1 h2=>á⟩,Tt à á â ã ä:=(by obtain⟨à,á⟩:∃à,ĳ â ã à:=⟨_,Õ ä⟩),gQ à:=(à).objs.size,aHd à á â ã ä å æ ç è:=⟨Ì "type",none,.cls ⟨à,[á],â,ã,à,true,[],ä,ă,none,ă⟩,bA8 å à æ ç è⟩,aIj à:=à∈X.ex\/JG<=à,WX:=b≠jf,ae6 à á:=∀p∈à,p.1≠á,aIf à:=∀b∈ch,(aIj b)/\WX/\(∀x c,Py x=ū->c≠b)/\ae6 (X.pn++à) b,aJ à á â ã ä å æ ç:=Ŷ à á â (ã) (Ė ä å æ (ç)),Cu à:=aoG à ă,aQ2 à á â ã ä å:=by rw[š aoH ĥ];refine aD à;show Cu ⟨N,á,Rn,G.II,G.IJ,ă,ă,IQ⟩ â bd=true;rw[ã,ä,å];exact c9,aUv à:=dg (à.1:Nat) (à.2:Nat),EJ à á:=gW à (.seq á),fO à á:=İ (à) (á) none,aV:=ā i,aKb:=ĳ fr j aV,ayw:=∀(j k i:Nat),aKb->ĳ fr k aV->j=k,gz:=ħ d,avG à:=if own then bsk i δ d à else(ō (f6 d à) (zb gz)),eD:=ħ ba,bph à á â ã:=[Ē [.str "alike:8",à],Ē [.str "shared:3",á],Ē [.str "pick:3",â],Ē [.str "less:8:7",ã]],bjE:=.lst (bph (ł 56 [xv]) (ł 59 [iY]) (ł 60 [iY]) (ł 57 (dg 8 7))),gA à á â:=π à Ol â,ala:=.bi .all,aTJ:=aBA 3 0 2,aSp à á â:=.IF (aWp ù ĉ) eF (.fw [à]) (ala [aTK á â]) aTJ,xr à á â ã:={n:=à,np:=á,body:=[â,.ret (ã)]},wG à á â:=Ĥ (à) (á:Nat) (â),gh à á:=by rw[à];exact á,azk:=bX c (nY o c),o6 à á:=by rw[š à á],yk à á â ã ä å:=χ (à) á s1 ⟨â,ã,ä,r1,å⟩,a98 à:=aYo el fun pr bd sc ζ=>à&&Cu ⟨N,pB,Cs,LP,Si,ă,ă,IQ⟩ lb bd,a2r:=Ì "builtin_function_or_method",aHa à:=Jk a2r #[ja "object.__init_subclass__",Iq],uv à:=π a à cx,akJ à:=(by rw[aV1 aFq à pL ř];rcases à with(à | à) | à),aMM à:=I.laid (t':=à),aO2 à:=fun b u e=>aw à,bcG à á:=by have hn:aQ à:=pj á;refine h _ (qW à (nY _ à)) _ (aMM tk (aO2 (hk b u e)) á ⟨cw,_,cw⟩) (gP hn) hn ?_,Oj à á â ã:=by have à:aDG á = ā (ā (anE ã)):=Ů,ab à á â ã ä:=by rw[à,Ė á â ã (ä)],aa:=ī gG,dX:=ā true,fI à:=by simp only[à],aKA:=by first | rfl | (rw[fI firstArgMember];rfl),aWq:=cl.lookup,ae0:=s.heap.IsCell,bBb:=∃c u,aWq x=ū/\ae0 c Δ/\cu,yM à:=vW à=ĕ,Uh à:=.ix anB,aSE:=.str "yes",anH:=[à,á],aSM à á:=Uh [.str "no",aSE] (.bi .int [ł 55 anH]),qX:=Py x=ū,Ut à á â ã ä å æ ç è é ê ë:=IY (à:=á) (â:=ã) (ä:=å) (æ:=ç) (è:=é) (ê:=ë),aMa:=Walks.list,beZ à á â ã:=by rw[Ĩ us ru pl zl (à),Ĕ á ru.length W (aMa (prog:=de) (w:=X.w) (A:=â) hh J l ã C2)],aWC à:=à=.č\/à=Ŋ,bgH à:=bK (adC à=true) rfl,aVw:=į (bgH _),lM à:=Vv _,Q8:=strs?,fb:=ā b,zI:=b.map,wO:=DV.str,bnW à á â:=(by rw[à,aA,aVw,á,aA];show lM (match Q8 (dS l)with | fb=>yW ((zI Str.length).sum+b.length*Ą (stx â)<=Ū) (wO _) | none=>none)=_),aby:=[az,ĉ],bpL:=.IF (Ē aby) eF,aSm:=bpL ģ (dF (HA ģ Ľ ĉ) Ō) (aBA 4 0 1),bpM:=(by obtain⟨o,es,ep,e,d,_⟩:=hg),bde:=s.heap.BuiltinsAt,bcH à á â:=(by (have à:bm≠io:=fun z=>by rw[bpM];rw[←z,á.1]at e;cases e;rw[Ī b6 d d]);have hb:bde X.mg P:=⟨bm,ob,b1,b2,à,â,á.1,b4,b5,b6⟩),za à á â ã ä:=aY à fun x á=>aY â fun y ã=>ä,atW:=callerA,nB:=[Ŝ],a6z à á:=Qe à w atW (ł ac6 ⟨nB,[]⟩),afQ à:=.ok (.ret à),agl:=c.heap,JH:=AllBare,a6I:=a6z P fa (fun r l=>r=afQ QC/\OldK agl l.heap/\l.os=c.os/\JH l.gens) c,aAs:=.bi .min,bkT:=aAd 4 [.aEr 5 ģ,.aEr 5 Ō],uR:=.many,Dj:=.var 7,bkS:=[none,none,none,none,ā 2,ā 4],bBc:=.aEx 4 [cR,.var 6] (aAs [Da bkT (uR [0,1,2,3]) Dj bkS]),mz:=q.2.1,aB7:=qE mz,BZ:=q.2.2,amz à á:=tS l à á (qE q.1) aB7 (qE BZ),sC à á:=Io [ĉ,á],dO à á â ã ä:=by rw[à];exact⟨á,â,ã,ä⟩,pW:=π b aj cy,aIn à:=eT pins à H' s',SD à:=⟨O,W,cN,à⟩,aNM à á â ã ä:=(by rename_i à;exact(brx bIu A á â).weak (lq σ x H1 ã (SD (fun H2 s2=>ä)))),aLG:=by rw[Ċ];exact_mod_cast h,v6:=į a,Lb:=Õ h,aS1:=Option.getD_some,bjR à á:=by (have a:ae<(Ą (Al (à)):Int):=aLG);simp only[á,qL,DZ,jA,adx,VS,mT,į (pu i),v6,jA,cI,Â,Lb,uf,Ũ,aS1],bBM à á:=by have à:d+j<fK:=Ě;have á:ĳ (N.drop d) j N[d+j]:=by rw[akC,Õ à],HF à:=.bT (à) HE,aVW à:=ł 17 [az,à],aSD:=.bT (HF (ig [aVW dM])) (ig [aVW qw]),abv:=dF Ľ,gI à:=alh [à],aSA à á:=.and [abv Vu,dF (gI ģ) á],sx:=aWp ù,afq:=aWA P w,J4 à:=afq A (à) Q E s,J5:=o.cls,A6:=Vals xs,a4b:=ů sU.size/\A6 sU.toList,a4a:=∃(o:Obj) (sU:jd) (n:Nat),K.lookup a=ĕ/\J5=Ì Ò /\ o.dict=none/\o.data=.seq sU n/\a4b,JS:=ś Addr,XU:=bindArgs,aR9 à á â ã ä å æ ç è:=∀(kV à pm:ě) (á:JS) (â ã:ě) (ä:Œ),å=æ->XU (ç) ⟨ä,[]⟩=pure (è),vV à:=(ă,bZ à),bBz:=vV e::ajv es Ó,DJ à:=ħ (rL à),alE:=DJ rows,fe:=ś Out,Ev:=⟨0,0,0,0⟩,aaj:=∀ds o,F f ds=ĕ->ŧ=bo,ul:=Int×Int,bBm:=ul×Int,PV à:=PE X (c_ à),gw:=ķ rfl,aBx à:=.lst (oF à),vw:=(m+1),aBy:=aL 5 [aBx jz,xJ,cn vw],wR:=h_ a ea,awY à:=wU à ds xs,alv:=.oS aDL,yC:=Nat.le_succ _,Cv:=C.N.take C.np,CK:=Bool.true_and,aTL:=RL rows w n,acg à:=aTL (uW à),Fy:=scope.names.lookup,aMf:=Builtin.«set_iterator.__next__»,aVi à:=bSW (fu:=fu) (k:=à) (a:=a) (dx:=dx) hs,U1 à:=r.getD à 0,pJ:=items.size,aU2 à á â ã ä å:=a0y (F:=à) (δ:=á) (a:=â) (lo:=ć ã) (hi:=ć ä) (ds:=iD å) (c:=.č) (l:=ã) (h:=ä) ą Ņ Ņ,au0:=ā .skip,BY:=OL g,bd9:=.item x,aha:=ā bd9,Ao:=(fg h),bka à:=(match BY Ao with | none=>none | ū=>ā (à::c)),bj9 à:=(by rw[e]at d;show(match g (h a)with | none=>none | au0=>BY à | aha=>bka x)=_),gx à á:=by rw[à,á];rfl,JM à á â ã ä å:=by rw[Ė à á â (ã)];refine⟨à,ä,å⟩,ajr à:=(by rw[aOo b à];subst b à),tF:=cells,bpN:=bvG g h4 C tF Iv Oz fp,aRp à á:=fun δ' r' hr C tF Iv Oz fp=>à.1 bpN á hr,aa6 à á â ã ä å:=(by obtain⟨⟨⟨⟨à,á⟩,â⟩,ã⟩,ä⟩:=å),yH à á:=(Vw (nomatch á)),aca:=by rw[bv];omega,jD à á:=(à).getD á 0,HN:=(lz i),HI:=jD HN j,Pd:="__name__",EZ:=x ≠ Pd,BJ:=d.heap.objs.size,aDP à á â ã ä å æ:=a1S (P:=eL) (x:=à) (f:=á) (i:=â) (dV:=ã) (pm:=(.str ä å)) (cd:=æ) Ů,eY:=by grind,ar1:=s.heap.Ns,bcK à:=(by have hg:ar1 io X.mg:=I.ok.mod.glob.keeps I.bk;have à:io≠P:=fun z=>by rw[bpM];rw[z,hp]at e;cases e;cases d),aLO:=l.toArray,aKn:=gW Ò (.seq aLO k),aDc:=bC (fu:=100),Nq:=ļ ae,Id:=(tT R),Vo:=ħ Id,jR:=ļ w,aVS:=[Nq,Vo,jR],T7:=[ĉ,az,ģ],al5:=jW ą i9,boO:=aDc (aGW d (uY (u6 (k+57)) aVS es T7 (eG ą ą al5) rfl q)),azp à:=assignEach à Ó,aka à:=(by rcases à with rfl | rfl | rfl | rfl | rfl),ο:=Ē ds,zU à:=X.mg à = none,aUE:=bzk J m rows,aUK à á:=sR :: Ol::aUE,bmH:=Nat.not_lt_zero,aaf à:=eV à (bmH _),alF à á â:=show Ą (iD à)=á by rw[š iD (Ĉ Ċ â)],Zs à:=aYd à a es ep t,azB à á:=by rw[bpG];exact bJu à d c á Đ Đ A s1 b h,Tn à á â:=⟨⟨à,á⟩,â⟩,bej à á â ã ä:=by rw[Ė cl e1 e2 (Rc.bKB g)];exact⟨Tn δ' (.ok x cl) e1,O,à,R2,fun v á â ã=>ä⟩,Ah à:=ie (à) rg,aSJ à á â ã:=Ah (Af 97 [ł 96 [à,á,â],ł 95 [à,ã,â]]),fP:=acA k,aVs:=St P t1 z,sO à:=È (Ë à),aVr à á â:=i_ (q:=[à]) á (be (x:=â)  : fP (.str â) aVs=sO [à]),BD à:=by rw[à];simp,atT à á:=(by rcases hA à (BD q)with e' | ⟨⟨á,e'⟩,_⟩),aCK:=by simp only[Ÿ,ŀ,wP];omega,fL:=ś Int,lG:=ve rfl,uk:=(Ο n),u0:=NS uk,o4:=Value.type,tA:="take_plan",o7:=h.objs.size,Bp:=sizeLine_eq,xi:=k.objs.size,iB:=I.ok.hd,a4G:=wpAny_pyNext_range_end (iB l) st (by have:n<=i:=j;omega) fun B L=>cG (aab (bj a (L b o a e)) A y x u r),CF:=aY ra,Gc:=AM op x y,axz:=CF fun x ζ=>K2 rb y Gc k,B' à:=(by apply He;intro à _),asu:=swapsWith,Xm à á:=asu à ac5 J0 Ó,asz:=standAt,E5:=holding,as1 à á:=(do let v ←à;asz á;E5 [v] (truthy v)),aMn à á â ã:=wpAny_pyIter_slot à á (aib á à â ?_ (ã)),lu à:=(à).mono,L_:=lu Ι s2,E9:=by simp;omega,Yb:=ā C,aa0:=G.i6=Yb,bh8:=bvw P w K mg base C fn bl cl,aR1:=∀C,aa0->bh8 k (ţ mU),xa:=Ń (FR n h),DH:=Ω (cl:=.č),ayz à:=fun a s b H à I ⟨k,q⟩=>h k a s b H à I q,oM à:=u6 (k+à),iH:=b.length,au6:=G.adE.isEmpty,yx:=Builtin.bitAnd,Kk:=List.replicate,As:=Nat.mul_le_mul,af5 à á â:=bEt à P w K mg base N á À f â A Ï s H,akk:=same _ _,bdF à á:=(by obtain⟨c',à,u,vs,t,pm,á,h1,h2,h3⟩:=lf;exact⟨c',à,u,vs,t,pm,á,iS (ou h1) (akk h1),iS (ou h2) (akk h2),h3⟩),v_ à á:=by rw[š à á];rfl,ax2 à á â:=by rw[jc à á e];exact⟨â,_,â⟩,aNK à:=dg à.1 à.2,aOj:=PySem.W.callWith_K,aOi:=I.ok.mod.aWR,bdI:=aOj (h₀:=vH) aOi,a7G:=ha pos pins s σ H _ I h,a5H à:=bdI à (iA a7G us s1 vs H1 I1 r q (aD I1.Op)) he bro,ki:=ā bpO,Je:=(oW).params,SC à á:=by show à<=á;decide,ES à á â ã ä:=fun i à á â ã ä=>?_,bm9:=ES j hi hj aGJ aGK,bm1 à á â ã ä:=⟨.ask à (wd á g) pn py,⟨?_,?_,⟨bRH Wj s1 Ă,â,apB.ok,apC.ok⟩,bm9⟩,fun k=>fin k à g ã pn py rfl rfl ?_ (en ä) (ey ä)⟩,qR:=.lst xs,oz:=.lst [],tR:=j_ ζ tG,f_:=s.toks,Pv:=u9 P w,WT:=Pv H,f8:=OsState,aOA:=Ī q g g,aOB:=(uI z (by obtain⟨_,_,_,_,g,_⟩:=aZe z;rw[aOA]) q),wu:=fr.length,vT:=Nat.ne_of_gt,wF:=x.cps.toList,Gw:=Str.ofString,acf:=good rows w n m,aDl:=sB p n m R,aV0:=.str (yn aDl),aDm:=δ.set d (ħ aV0),aIi à á:=fun b o ζ ζ d e à=>á,PJ:=k b o,a3P à á â:=I.step (ch:=à) (Ĝ b á) (aIi ζ (PJ â e)) (aIi ζ ⟨o.slots,PJ â e⟩) (EM ζ n n),iO à á:=by show Vz=_;rw[á],aUe:=ħ (qD e),Aw à:=ħ anB,DE:=fg qD,aBN à á:=[gz,ħ acn,aUe,Aw DE,à,á],GI à:=uA à (Ek sg i x),Cr:=mF ea,bak à:=aFl s fun v ζ=>(aoy v fun ef ea pos=>(IS ef fun o n apos=>n == à && (GI o)&&h_ e ea && !Cr&&aiT)),lU à á â:=∀à∈á,â=none,iX à:=Io uP,QF à á:=by have:=à;show á;omega,bM à:=p8 à z z,aJl:=BindsTo s,atY à á â:=∀(s:Ĭ) (à:ě),aJl á ⟨[à],[]⟩ [(â,à)],aWr:=#[u,anE ã],ayN:=get?_update_seq,beO à á â ã:=(by obtain⟨c2,à⟩:∃c2,(s2.heap.update á (Obj.mapSeq (ű aWr))).get? á=ā (zu aWr c2):=⟨_,ayN qS (ű aWr)⟩),So:=Ti H0,CB à:=So à c v,aU7:=mN fr true,bBw à:=NF Ŋ (aU7 (jW c i9) rfl (bP1 (fu:=fu) (k:=k+6) _ (BD o) (bL (bQm (J:=à) (m:=m) i h).2))),aDv à á â ã:=AN (δ:=à) (d:=á) (cl:=.č) (ŗ â (aDj (Av (ã)))) rfl,aG0 à á â ã ä:=if h:s.ctorIdx=0 then Stmt.FunctionDef.elim s h fun _ à á _ _ _ â _ _ _=>ã else ä,Uu à á:=by have à:œ (á)=aY _ _:=rfl,xn:=.str "end",aQp:=by refine(C _ _ A B).weak (lq N v Z g (SD (ń U s s2 u))),ŷ à á:=by rw[à,á],iw:=K.lookup,alN:=Cl.č,akB:=ds.map fun d=>(d,alN),Og:=aDI [Vn] .nil,akb:=fun q=>f (bg q),aK0 à á:=Ē [à á.1 á.2],LU à:=đ à e (s_ e),Ae à á â ã ä:={n:=à,np:=á,body:=[â,ã,.ret (ä)]},alq à á:=Io [oB 0 á],bjr:=.bT (.bT (.bT (.bT (.bT Ľ (.str "(")) (alq 93 3)) (.str ",")) (alq 93 4)) (.str ")"),rC:=A.in1,av9:=Zr rC,aMF à á â:=by rw[aL8 à];show av9 á _ _ â,xL:=Vj ą,bBd à á â:=AN (à:=á) â rfl,sI:=bA9 Đ,baq:=aWq x,wS:=btO.mpr rfl,acZ:="_law_text_here",Kz:=List.cons_append,a3V à á â ã ä:=∀(à:á) (pins:Ã) (s:Ĭ) (σ:St) (H:Hp) (Q:â->ni),Ô->JT Q->gY (ã) (ä) X.xe s,alX:=List.exists_mem_of_length_pos,bW à á:=(à&&á)=true,aly:=(Ū:Int),bjO à á â:=(by rw[NJ,aom];have hs:bW (oT à) (aq à aly):=by rw[ĥ,zY];refine QH (aAW á Đ);unfold oT;rw[aAV â á]),ahy à:=(Ο à).all,BW:=ks.getD,YD:=BW j 0,ü à á:=kh (à<á),a7W à:=ahy jy fun j=>aq (BW à 0) YD&&(aq à j||ü (BW à 0) YD),agf à:=(by rcases h à with⟨q,m,e⟩ | ⟨_,e⟩),aPG à á â ã:=I1.Oy à á â.2.1 (fun n c e=>â.2.2.2.2.1 n c e) (fun q ã=>â.2.2.2.2.2 q ã),aiS:=aFr sg,awP à:=à&&aiS x&&x != Sd,aDF:="_law_way",ant:="_law_table",ans:="_law_word",aru:=[aDF,ant,ans],pC à á â ã:=by rw[aDV];refine ã,azP:=fd.code,qM:=ċ c,ak4:=K.In h,tK:=IA K,bim à:=∃c P,azP=qM/\(aau ak4 c P)/\(P,aD4 à)∈tK,DP:=(pl p),u8:=tx DP,bkK:=Nat.min_le_left,Ze:=bqg _ _,bdB à á â:=by have à:(y,BE)∈pB:=gu (T.jT (m.np+i) y (Ć mn (û (bkK _ _) Ze)) h1);have á:=aoV (L.has â) à k2,kF:=lH k X.A,pf:=I.loc,ae8:=I.cell,aIl à á:=⟨à,I.os,JO,I.base,pf,ae8,PB,I.aD6,á,cZ,ET⟩,g_ à:=(by unfold à;split),L3:=btL.mp,ai6 à á:=lT a xs e d b (L3 à) a xs e (á) b,r9:=es.length,aR7:=aGa [] bl cl,Jo:="self",Pi:=[Jo],ac1 à á â:=aR7 à á Pi (AG â),ac0:="_law_xs",aWa:="_law_wide_here",bpQ:="_law_number_here",a2R:=[ac0,"_law_at","_law_depth",aWa,bpQ,"_law_side","_law_cards","_law_no"],W4:=Heap.get?_none_of_le,av4:=pickOrder,a9f:=w.params.setOrder a ep,awg:=av4 a9f es,rf à á â ã ä:=Ŷ à á â (ã) (Ī ä á á),aw6:=(by rw[rf ys q m (hw a z) h];cases m),rM à á:=BP à fun l=>á,Fa à:=Nat->Nat->à,Û:=ā r,kX:=t.2.2,xF:=ć ae,Tr:=oneType',bpR:=keys.toList.getD,beC à á â ã:=by show Tp (keyLt' Tr (bpR à Ġ) (bpR á Ġ)) C yi s;rw[dU t et (ints_get hi à â) u eu (ints_get hi á ã)],mO à á â ã:=acA à (á) (aL â ã),pR à á â:=rO à fun á ζ=>â,aSn à á:=Di (HA ĉ (gJ à) (oB á 1)) Ō,aWt ã:=∀C à á â fp,ã,aWs:=agA ã C à á â,Yj à á â ã ä:=aWt (PE aWs elt ä),my:=Str.join,NW:=rk.kp (LL ls),v4 à á â:=(by rename_i à á;rw[â]),aAj à á:=.sl Ľ (B_ à á) (fh (B_ à á) ģ),Ua:=.str "PLAN",acT:="CARD",aAn:=.str acT,aHn:=#[Ua 1070,aAn 1071,aAn 1072],ZO:=m.N.take m.np,a7d:=akA p.typeIs F.slot_tuple_iterator_next F.entry_tuple_iterator_next ?_ (F.args_tuple_iterator_next_1 _),aTQ:=bQE es bl vw,amm:=aTQ (ħ (qD b)),avN à á â ã:=(Ρ (Up d à) none none Vy (ahV á â ã))=_,t7 à á â:=by refine⟨à,Ĝ á â⟩,Rp:=bU (œ it),e_:=DV.bWU,G0 à á:=by rw[aWl],wf:=codeAny_mono,Ax:=Nat.pow_succ,KB à:=aXm X.N à À TK fr,Ε:=ā _,Tf à á:=by exact⟨_,à,á,CY,Ğ⟩,rK:=G.aoc,ZZ à:=ĳ δ j (.od à),aND à á:=∀(j:Nat) d,ĳ à j (.od d)->ZZ d/\á[j]? = σ[j]?,Mo:=aFJ X.D bo (F f),WS:=PySem.W.instObj C,aJe:=PySem.W.emptyDict,axb:=btK.mpr,aff:=VF.of,ai9 à á â ã ä:=axb ⟨à,á,â,aff (iS (fun z=>ã) Μ),ä⟩,ahf à á â ã ä:=Ē [sR,á,â,.str ã,ć ä],PL à á â ã:=aWh á (Bq s â ã),ata:=List.lookup,afJ à á:=by have a:=à;simp only[ata,a,á],MA:=sm _ _,bcw à:=(by refine aDW (cZ b u e) b' u' à (kp b' u' ?_ q) b' (MA q) xs _ _ _ _;rcases à with w | w),eI à:=bH à h,jM à:=oB à 1,gL:=acA ŕ,ry à:=aw (aw à),mx:=DV.bWV,aki à á:=tX (tX (bDt à á)),afO:=.ins C,aja:=afO dx,axJ à á â ã ä å æ:=by rw[à]at p;refine⟨á,_,_,â,ã,ä,å,fun v æ s g=>p v æ (zQ s) ?_⟩,Td à:=adO à S8 pr bd sc CQ,Km:=List.length,CO:=i.objs.size,HK:=Nat.min_eq_left,Zx:=List.getElem?_range,ajo:=List.idxOf_lt_length_of_mem,aHt:=PySem.Challenge.pw_talkleast_k85_questions_answered,GL:=aYP.mp,ai1 à á â ã ä:=(by rw[ĩ v à á â ã (GL h)];subst á;exact ä),XM:=ja "object.__class__",ky:=y.length,YN:=es.isEmpty,awM à á â:=aYw à fun ef es ζ=>(uA ef (á)) && !YN&&â,Qi à á:=(by subst ex;obtain rfl:à=m9 a:=á),acb:=List.map_eq_nil_iff.mp,aPB:=(by obtain⟨o,e,_,d⟩:=p;exact⟨o,_,e,d⟩),aMT:=⟨h.lt a _,h.lt a _⟩,aMU:=(by refine⟨aMT,fA b⟩;cases b),qQ:=aW rfl,a4H à á:=bq1 c rfl rfl Đ ⟨sR,H,(aab (bj a (kk b o (Ł a) e)) A y x u r),aD t,qQ,c,fun b a=>(f b á).1⟩,LJ à:=à->ſ Pos,aU0 à:=lh (aAa (fh à ģ)),aBv à:=Ω (x:=à) (cl:=.č) rfl,bl3:=List.find?_cons,akr à á:=by simp[à,bl3,á],cA à á:=(by subst à;exact á),iu:=o.data,qt:=DV.tup,mQ:=p.deep,KD à á:=wpAny_setField à á Ğ,a6Q:=List.forIn_cons,aKF:=ĵ (wpAny_onRaise ?_),a7k:=by simp only[List.zipIdx_cons,List.zipIdx_nil,a6Q,List.forIn_nil];rw[ż aKF],ö:=(i+1),jh à:=(JQ à).1,bF à á:=kh (à=á),TC à:=fun à=>bF à.1 k,x_ à:=(à,Jk Ġ #[]),jv à:=fW à h,qj:=GV IT,axm:=by rw[jv m];exact bt0 hd d c m qj,i4 à:=jW (à) i9,Nw à:=.own (dG à),BI à:=call anF,ago:=h.elim,aNJ:=fun ζ ζ ζ ζ ζ ζ ζ ζ ζ ζ ζ ζ h=>ago,bBg:=by have:=ay a;rw[p_,Ũ,Ũ,Â,Õ this],QA:=v=Ŝ,m_ à á â:=bX à (.oP á â),n9:=wU H,baw à á â ã ä:=(∃a o à,QA/\m_ a o (.dK à)/\á=ks/\n9 vs (â))\/∃a o à,QA/\m_ a o (.dT à)/\ã=ks/\wU ä vs (â),iQ à á:=fg ac4,zo:=aot prog w,t8:=(True.intro),bBj:=es.any mF,ahY:=Nat.lt_succ_self,aRo à á:=by refine à;simp only[ĥ]at á,RJ:=startM,oK:=aCE i,amX à á â ã ä:=(by unfold à;have á:ĳ (RJ â oK ã) 0 ä:=rfl),ahR:=į (pu j),bBo:=(by unfold iD;simp only[qL,DZ,jA,adx,VS,mT,ahR,v6,jA,cI,Â,Lb,uf,Ũ,aS1]),nW:=Nat->Nat,lQ à:=à.2.2.2.1,akN:=w.2.2,bhs à:=by have b:=(by show(pure (bhu && !(a.sc.names.any fun (n,k)=>n==x&&(k == bpO||k == wy))):Sem Bool)=pure à;rw[f]),k_:=.str t,bpS:="StopIteration",aKt à á â:=∀à e,á->(∃o,â=ĕ/\J5=Ì bpS)->E (ċ e) (fE à),ly:=.var 6,jw:=pA Addr,yJ:=pA NameKind,X_ à:=DW à H a,Kx:=DY env.cells,jt:=c.length,xy:=getD_mem,Pt:=adg P w,A9:=Pt H h a,R6:=.Constant,bqm à:=R6 à j pos,ayH:=xX.vp,Hd à:=ayH (s.vp à),Ba:=Nat.le_of_lt,Yl:=BK ?_ azc,zF:="isinstance",FO à:=Heap.ExtBut à Ĳ,Zu:=wpAny_attempt,C9:=List.sum_cons,aJs à:=envOfC à À Ģ f cd,aaa:=List.getElem_idxOf,XZ:=List.length_replicate,ZK:=List.contains_iff_mem,aOW à á â ã ä:=(by rw[Ŷ mm bOl à á (Ė u rv lk (â))];rcases lk with⟨ã,_⟩ | ⟨ã,ä,k2,o,k3,k4⟩),Lh:=G.aod=true,YL à:=Lh/\adG G à=true,uB à:=ŋ à d,azW à:=∀(i:Nat) d x à fd ps,uB T->ŋ fn x->ak2 à fd->M_ k à fd ps (aFJ C6 bo (ţ i)),im à:=ħ (Ë à),Ð à á:=Vx (.nx á),mL à á:={n:=à,np:=1,body:=á},aRW à á:=∀(i:Nat) d x,uB T->ŋ à x->∃á fd ps,ak2 á fd,CV à:=.ok à Ŋ,xx à á:=bU (à)=ā (CV (á)),aDk:=p.ok 8 8,rJ:=ć a,acB:=Υ p.D,aVX à:=∃p:Pn,aDk/\mQ<=à/\∀k,à<k->ţ 91 [acD,rJ,sR,iY]=acB,ag:=(snd a),nH à:=ŋ à v,X0:=nH vs,ayQ à á â ã ä:=∀(i:Nat) (v:V) (u:ě) (k:Int),X0->cu->ŋ à k->bBa á â ã ä,bqh:=by rw[Ab (bHn a (ń o k p a)) ř a,gn c b a c],tV:=Nat->Ž Heap,aBR à:=wG (à) j (É Ŭ),acE:=R.idxOf r,bnE:=eK (ael R) r acE,aCt:=aBR bnE,Dx à:=ļ (mB à),aBs:=[eD,jR,fq (pD L),Dx j,ļ amf],abD à á:=.iff (dF à á),Hw à:=Lc à ù,ale à:=.AG .ID à [],aUu:=Hw (ale cR),Ag:=du 2,afB:=.BitXor,oy:=du 3,bmr:=.bin afB Ō ly,bjb:=abD (alm ģ aUu ù) ù [Ag (.bin afB ģ cR),oy bmr] [],CA:=(se H),ayC à:=fun i H x H'=>à,a4w à:=⟨fun i H=>∃xs x,à/\ŋ xs x,ayC (H'=H/\∀xs,à->ŋ xs x),fun i H=>∃xs,à/\aP<=i⟩,HJ à:=sF (lz à),boy:=D (ļ ae) (ħ (HJ i)),Dh à:=oB à 2,Hx:=du 1,aVp:="01234567",bjs:=abD (lh (ahT (Dh 0) (Uh aCw ģ)) dL) ù [Hx (.bT Ľ (.ix (.str aVp) ģ))],wa:=Ģ+1,jo:=wa,ax7:=∀i x v,ĳ N (bo+i) x->nH ws->bBb,aHv à á â ã ä:=bqn Iw à 11 aD2 1 á â (ã) bqx kc ä Ev,a3f:=⟨274,0,274,9⟩,a3h à:=aHv (aWu à) 1852 (aeF (aWN (aWu à).params) 493 819) ((kb.drop 9).drop 82) a3f,z7 à:=p8 à rfl à,qi:=qW p,eU:=ċ p,ZW à á â:=aj5 H0 (qi à) á â eU,aaD à:=tM->à=ĕ,eO:=aQ b,bcD à á:=(by have kp:∀b o,b≠P->aaD ((à).get? b):=bj hb (aw (hx b o hb e));have á:∀b,eO->b≠P:=fun b n z=>by rw[z,hP]at n;cases n),Q2:=1000000,aAO:=0<=_/\_<=Q2/\(1:Int).natAbs<2^64,lV à:=ŋ à x,YU à á â:=Ĥ (adz x à á) d (dt (aXz x â)),Hv:=[ģ],bjz:=.bT (HF (.bT (HF (.bT (.str "run ") (ł 93 Hv))) (ig [mM 3 0 8]))) (ig [mM 3 1 8]),bpT à:=∀(w:ņ) (h:Heap),YP w h->à,Kw:=K eL,vA à:=Vv lP,atX à:=o9 (vA à),a6L:=bpT ((aJY Kw ((Kw).lookup p.1) (vW p.1) h)/\atX (IA Kw)),aBZ:=bS rows m,aB0 à:=aBZ à (ļ Æ) (ħ (HJ n)),abY à á â:=⟨à,rfl,á,.č,â,rfl⟩,Ap à:=ħ (jO à),UQ:=mf rows,bBh à á â:=by refine(abY [ļ à,Ap (cs á),eD,jR] ?_ (bys Ă ą));refine Ω (a0V (cl:=Ŋ) (p:=fun â=>UQ r c==w) (l:=cs á) ?_),af2 à á â:=by rw[←à,á];exact â,atz:=List.getElem?_take_of_lt,bcT à:=by (have L:ŋ ps y:=af2 S.pre (atz hi) Q);rw[a5O à rv (ı (aD (S.par y (kJ L))))],ahI:=ā fd,Y5 à á â:=aZ ţ à (aL á â),ahJ:=fd.body,k9:=Υ d,bh4 à á â ã ä å:=by (have à:(Ρ T[á]? none (if á=xU then Ef fP (â)else ã) ahI (if Ą (ä)=fd.np then wM (Y5 ahJ fd.n (â))else none))=k9:=hF);rw[å]at à,yD:=r.get,bdU à:=fun i H x n d O2 s g y e l=>by rw[ab (gn m y y m) v k j (yD e),EO (y xs (à)) k];exact j.mono (aZj g l),ej:=(snd b),B7 à á:=œ (à)=ā (nR á),qG à á â:=π à (Ë á) â,aL7:=wpAny_askSetting,aMi à á:=by rw[hL setsByText (ĵ (aL7 à))];show á,Nf à á:=gI (Io á),bkD:=Nf 15 [ł 5 [Ō,cR,ly]],biN:=abD bkD ù [.aEx 4 [cR,ly] Ľ] [fZ 7 40 [cR,ly],bBc],bhU:=bv5 P w K mg base G,bBL:=T.length<=bsi/\bhU,Bj à á â:=if(à)=true then á else â,j0:=ā v,nA:=j0,sH à á:=aef à (and_1 á),MV:=C7 sg,akK à á â ã ä å æ ç:=∀{sg:Sg} {X:Cx} {à:á} {δ:ē} {â:ã},MV->ä=true->å=æ->ç,Nn:=abS j Ŭ,abA:=sx ĉ,blg à á â:=OZ (F:=ω) (δ:=[eD,ļ à,jR,Ap (cs à)]) (l:=Ο á) (h:=Nn) (f:=abS j (Ĵ (2^j))) (p:=â) (elt:=abA),ş à á:=(by subst à;rw[á]),NV à á:=Ć à (þ á),tO à:=PV à (bCO i),bfa à á â:=PyProof.Rows.callWith_kw (yk (lI A (xQ (X:=X)) (bf à) pos b s á H _ I h) us vs H1 I1 â) (Η (bf à)) (Η (bf à)),Φ à:=by split at à,a_:=by rw[Φ h],at3 à:=pure (ForInStep.yield à),Hr à:=wW Em à à,GK:=(by unfold Rep at h ⊢),hY:=ā Rk,Az:=ć w,UT:=[ba,Az],atL:=by simp only[b_]<;>omega,aTH:=UQ r c==w,UZ à:=È (.bl à),oC à:=UZ (à),nT:=a.map,aQl à á â ã ä:=∀{a:ī (à×V)} {b:Ħ},n9 b (nT Cj)->AL (á) (nT fun p=>â) b=ā ã->ä,uu à á:=rQ (à) (.bl á),ahU à á:=uu (.cmp à a b) (á),Ar:=aE1 rfl rfl,Xe:=wpAny M A,JR à:=Xe (à) Q E s,X2:=S.kind,agC:=(nomatch z),a5Q:=Around.frames_deeper,bcY à á â ã ä å æ ç è é ê ë:=⟨à,X2,rfl,rfl,Ķ,S.inj,Ĝ y J,fun y c z=>agC,ű hd,a5Q á,ķ (aW rfl),fun b z=>eV z (I b),iy ⟨(â).1,ã⟩,ä,fun b ζ ζ=>å æ,fun æ ç=>eV ç (å æ),è,fun æ hb=>é,Ĝ ê ë⟩,air:=List.drop_eq_getElem_cons,aHy:=importedModules,a11 à á â ã ä:=bW (staticsOk (aHy à) (á) â&&namesBound ã â&&gensDone ä) (laidKept (á) â),a9S:="__classdict__",asj:=k6 x (a9S : Str),ED à á â ã ä:=by rw[gC à á â ã à (ä) â],bJ:=Around,QN à á â ã ä å:=aWt (PG aWs ä å),UN:=mf DD,i5 à:=2^à - 1,ace:=i5 lA,aBg à:=V à UN (i5 cT) ace,aco à á:=rk.Nil à (jS á),ajd à á:=R.od.step (à) (fun ζ h ζ=>á),mG à á:=à=true->C (á),aN5:=PyData.canLay0,aN4:=PyData.depth,bbn:=by have q:=aoR n ds h;simp only[AT,aN5,aN4,q.1,true_and];rw[av q.2],Nj:=du 5,biX à á â ã:=[Nj (.ite (dF (jM 4) dM) Ľ ģ),du à (alm (oB á â) cR ù),.app ã ly,du á (.ite (dF ly ù) (oB á á) (oB á ã))],axB:=i.all Ι,axD à á â:=by exact anG (lq m x l i ⟨á,aY7 t axB,â⟩),anI:=à->á,aan à á:=∀{b:Addr},anI,bc0 à á:=by have I:∀b:Addr,b∉(aat cd à).ex:=af4 b z Ň;have á:aan eO (jL b=none):=fun {b} n=>iS (nl n) n,E4:=g.length,SO:=p _ _,ajk à á:=fun q à=>SO (gP à) á,baV à:=by rw[ĩ o l a s g (à)];refine ķ ⟨r,o,n,l,b,a,u,s,cH r1.length E4 (aoP m),ajk j ?_⟩,JC à á â ã:=fun b à á â ζ ζ=>ã,aWv:=sm æ æ â,bcC à á â ã ä å æ ç è:=⟨JC o e n (kp b à (á) â),JC o e n ⟨o.slots,kp ã à (á) â⟩,fun ã à â ä ζ=>Ć (å) ä,ń ã à â ζ,fun ã xs â=>aWv,bj ç aWv,fun ã è â=>aWv⟩,Lv à:=by rw[aDU rfl],aMh à:=(by rw[hL FM (Zu (akA à aE7 bsO ?_ (bsP _)))];unfold aMf),biJ:=.ext 3 (bpL (.fw [gI cR]) (dF (.ix ģ ĉ) Ō) (aBA 4 5 1)),bcy à á â:=(by obtain⟨c2,à,u2,á,t2,f1,f2,f3,f4⟩:=â;refine⟨c2,à,u2,á,t2,f1,MA f2,f3,f4.1,fA y⟩),bnZ:=(by simp only[uH,C4,List.mem_map,Mv,S7]at e;rcases e with e | ⟨d,hd,e⟩ | e | e | e | e | e),My:=vs++ws,ajI:=(My).map some,ajq:=FR m h,aN1:=(by cases e<;>first | (rw[ajq];done) | rfl),MG:=ġ j d h,bBl:=by have v:=L.extBut d u;rw[ż (wpAny_builtinsFor v b1 Z (d _ _ Y X) W U S (ĵ (wpAny_nsGet v ?_)))],mP à á â:=ŏ (bBd à á â),oO à:=Ŏ à [fz],Wu:=en P "__module__",aPe:=bU (rM rs bpH),yv:=PI X tg,asM à:=yv (xg "range" à),MM à:=p.getD à 0,nK:=if_true,rj:=pl.isList,a9W à:=IR va (sZ ko (sZ kd (IR kw (sZ df (à))))),a9U à á:=a9W (a.arg == à && b.arg == á && ps==(anH:ğ)),U3:=aGA acq (lz n),EA:="__init__",A4:=Value.none,akE à á:=OR à á q pr bd sc cc f,aKP à á â ã ä:={cls:=Ì à,dict:=á,data:=.seq â ã,slots:=ä},sr:=g.calm,aV3 à á:=⟨à.1,à.2.1,á⟩,aRK:=EM ζ z agC,bgs à á â ã ä å æ:=⟨à,á,â,ã,ä,å,æ,sr,g.hu,g.fns,g.blt,g.dk,g.con,CY,CY,(fun z=>aV3 (g.ad6 z) (WM w)),aRK,CY,g.rd⟩,QL:=List.nil_append,RQ:=List.range_succ,a9s:=Nat.lt_succ_of_lt,aRq à:=aFR X δ cp.tg cp.it cp.ifs cp.elt cp.sc à fr tg r,aSu:=aAd 1 [.OD ģ (Dh 0),.OD ģ (oB 0 3)],acs à:=ls.getD à 0,aUx à:=kS ls à (qE n) (qE (acs n)),ahb:=Rc.test,ayA:=ahb (l δ') (F9 (f δ')),aLX:=intKind prog w,ah0:=ElemsOf aLX,alM:=rows.flatten.foldl dk [],x9:="Reader",Wt:=Ì "object",a2Y:=aHd x9 Wt [ċ 639,Wt] 638 [] none 914 922 "object.__new__",yd:=xs.drop,bnv à á â ã ä å:=by (rw[show cutD (iD xs) Vz Vy=iD (f9 (yd à) 8)from bSr (a:=à) (b:=á) C Đ Đ]at â);have ã:=mN G G (F:=ω) (f:=89) (Β ä â) rfl å,N0:=oH xs,uS:=ļ j,amO à:=[alE,N0,uS,à],vX à:=by rw[aDU q],T9:=.cmp .Lt,bnn:=aU0 ù (fh gH ù),bBF à á â ã:=.iff (T9 gH sR) [á bnn,â (fh (fh (.slt ĉ Ō) (.lst [alt (aU0 (ã) gH)])) (.IE ĉ Ō))],lW à á â:=Ų (à.2 á â),asd à á â:=ň à g (á) (Į à (lW hs b (JN â) g)),Nl à á:=V0 à (ž (bC (á))),Yt à:=show à by decide,Yn à:=IsZip à Z U W,vZ à:=bq4 X (Ì à),Im à:=Way k à t R w,a8S à:=.of (owner:=Gv) (n:=à) (by rw[typeLookup_type,builtinLookup_eq_fast];kernel_rfl) ĸ ĸ ĸ,ac à á â ã:=⟨à,á,â,rfl,ã⟩,aIL:=c.Ν.fresh Ķ,a5C:=ac (ċ iV) (upd i iV _) (c.laid (aO2 e) Ķ ?_) (q _ aIL),sf:=aFw.mp,axw:=⟨_,_,sf r1,sf o,q⟩,aR:=ā a,Lg:=(qm d),bmS à:=eK (İ (mS.s lN = mS.s à) kY (fO (mS.s xu = mS.s à) aR)) d Lg,Ii:=a1z rfl,bn6:=Ii (Ii (Ii (Ii (Ii (Ii (Ii (fun _ a=>aaf a))))))),Ez:="alone_bits",KQ:=aoe.contains,bmY à á â:=by have bits:=(bxM à Ă g (s.lt Ă) s.2.2 (kx á â) k5).1;show(if(wd á g).testBit â then py.AW i j else pn.AW i j)=_,UC à:=eB à rfl,ar7 à:=by rw[à];decide,aAP à:=avP (ar7 à),bli:=List.filter_nil,atO:=List.map_nil,blj à:=by refine⟨_,UC (à),Dx j,ļ amf,?_⟩;rw[aAP c,bli,atO,aN],bo1 à á â ã ä å æ ç è é ê:=bAw (fu:=100) (k:=k+56) (v:=à) (s:=("PLAN",u8,p.D)) (á:=(â,ã,ä)) (å:=æ) ⟨ø,Ĝ ç hs,ml è (show Ą (à++32::(u8++32::é))<=è by simp[à];omega),rfl,SC ê 10,Ĝ ç hs⟩,agB:=baq=ū,MU:=S.mem,bcZ à á:=(by have à:∀x c,agB->∃v,á:=fun x c e=>by obtain⟨o,v,_,g,d⟩:=C.at_ c (MU x c e);exact⟨v,o,R _ _ g,d⟩),DM:=kd rows,acv:=fun c=>DM c==t,aH3:=env.kindOf,aJ5 à:=k==BE&&env.scope.kind == Et&&aH3 à==bh,aQW à á:=by refine aFi à (ń ea es p à);rw[aRo (á) à],A':=k _ _ ŵ e,abG à á:=.adv à 0 á [],aSj:=.cmp .LtE,XB:=.BitOr,bjL:=[abG 3 3,uN (aSj Ō Ľ),Ag (.bin XB ģ (sx Ō)),Hx Ō],uz:=ſ Expr,zK:=QD _,aj0 à á:=fun i H à á y=>Ć y.1 zK,axo à:=by show ů ac3;decide,aPF à á â ã ä:=⟨axo 2,anH,ai â (ai ã .nil),_,(ä),aW rfl,_,rfl⟩,lZ à á:=aU (ż (à)) (á),abT:=cP (yw+Ŭ=j),NC:=R - h,aTk:=(dM,h,(NC,C),(h,C)),t9:=.Tuple,aQy:=t9 elts k,UA à á â ã:=ack (.one à) á â ã,blx:=UA 3 δ' bc cB,blw à:=blx (à) (aTQ z3 z4),yN:=f.objs.size,ais:=s.heap.IsList,Vb:=p.foldl dR [],Z4:=Builtin.Int.intBits,alK à á â ã:=bPx (F:=à) (δ:=á) (e:=â) (r:=kI ã),blu à á â ã ä:=OZ (l:=à) (h:=qD) (f:=qD) (p:=aDQ) (cl:=.č) rfl Đ (þ hb) fun á ζ=>abY [ħ (qD á),ħ (qD ã)] (Ω (ä)) rfl,azf à á â ã ä å:=(by rcases à with⟨L,e,_⟩ | ⟨C',Ot,qa,qx,t',á,e,â,ã,ä,å⟩),Sh:=aYG sg,a95 à á:=btx e fun ef ea kn el=>Sh à ef&&kn==ā "key" && wR && !Cr&&(a98 (aYH sg á N np fr pr sc)),Fb:=ā p.2,Hb:=k.1.1,Ha:=k.1.2,bei à á â ã:=fun C à á â fp=>PE.any (ι:={p:ē×Re // ã=Fb}) (t:=fun k=>Tm Hb Ha) fun k=>he Hb Ha k.2 C à á â fp,yP à:=by rw[aDU h],Fq à á:=χ (à) á s1 B0,ayW à á â:=fun v à sm á=>⟨sm,â⟩,bg7 à:=Fq (A b s C H (fun v l=>Ú l/\uD H l à c v) I (eg (ayW l j j))) u,N5:=Wl l i,bnQ à á â:=by rw[aVk k 1 (à)];rw[show N5=true by rw[š Wl á];show bW (aq 48 (48+â)) (aq (48+â) 57);rw[Þ Ă,Þ Ă];rfl]at e,fQ à:=Rx (à) δ,bmx:=.bin XB (jM 4) (sx ģ),bi9:=.iff (ach (gJ 4)) [.app 1 (Ē [ģ,gJ 4,bmx])] [],bBG:=by refine kJ (i:=i - d) ?_;rw[akC,ź (d+(i - d)=i)],ma:=.str y,Yz à á â:=.lst (Ĥ à á â),rF:=D7 c,zR:=V.str,aKX:=⟨p.toArray⟩,bbb à á â ã ä å:=∃(y à:Str) (c:Nat),á=ma/\â=[Vu]/\ã=[c]/\ky<=Ū/\∀p,ä->Kh p å (Yz (rF y.cps.toList) p (zR aKX)),aLq:=G.con.lookup x,abc à:=aRN aLq à,aJ1 à:=(by rcases à with(h | ⟨o,h⟩) | h),Rb:=(bFH d).contains,amH à:=Ą (FI à)<=5,acx à á:=amH (flip à á),XN:=ī (ī Key×V),aeL à:=by simp at à,NL:=i5 cT,Bb à:=ġ b à e,aci:=.lst (es.map qD),bBv à:=by rw[X1 Ă]at à;rw[ĩ c u e1 e2 e3 (hw (i - gR) y v (Ć (ź (bo+(i - gR)=i)) Q) à)],aCl:=π e (Pn.ask s x p q).D .č,Nb:=.bi .sset,yq à:=VF à H a xs,amC:=kx rows,AB:=amC i,vY à á:=Xk à σ á us,aUV:=Ą (ael R),amN:=lg aUV,GF:="columns",Ci:=ws.length,amU à á â:=aC1 à á (Β xL be) rfl (bSF â),af1 à:=(à).lookup x=ū,vF:=vE b,asa:=aaD vF,aie:=by refine ĵ ?_,bb0:=by rw[bf q.1];show(ă||agc (azi _))=ă,ς à á â ã:=by rw[à]at á;have â:=ã,aO3 à á â ã ä å:=fun à s á H â I q=>h à s á H â I (k ã ä å q),J1 à á â ã:=gY (à) (fun á â=>ã) X.xe s,bpU:=gY (f v u) Q X.xe,a3Y:=J1 (bZ a) v g (gY (bZ b) (fun u e=>bpU e) X.xe g),NH:=oe p (kk p.1),GT:=aoN C dx t,ak0:=m.N.length,a2X:=Ì "getset_descriptor",aHf:="__weakref__",a2x à á:=Jk a2X #[.str aHf à,ac6,ja "ExceptionGroup.__weakref__",Ġ],K6:=aEW G F i m δ,aQo à:=(by subst i;rw[bvd (fun a ζ z=>à)]at b),aL9:=by repeat (any_goals (first | assumption | wp_step)),YJ:=Ri.dH,avU à á â:=by show YJ _ _=_;rw[à,bFM,Ř á,â]at ⊢,ayE:=(by obtain⟨B,g,⟨a,Z,j⟩,F,C⟩:=st),bN:=t.2.1,agO:=(brT Ĳ b e a d).get?,vD:=ī Key,A8:=Ē xs,aHS:=∀b xs,bX b A8->H' b=ā A8,blZ:=[eD,jR,Ap xz,fq [],.no],agj:=.dict,agt:=gW mq (agj #[]),iR:=bpV Rep,GB à á â:=rX Expr à (á×Pos) (â),ajx à á:=by rw[Ĩ d0 c0 rfl à (aXE á)];clear á,qO:="place",Dz à á â ã ä å æ:=mN à á (â:=ã) (ä:=å) æ rfl,yO à á â ã:=aaV à Ğ aDS,RY à á â:=RZ à rfl á â á 1 1,ahZ:=List.pairwise_cons.mpr,azQ:=List.mem_singleton.mpr,aiF:=List.take_of_length_le,alU:=Nat.testBit_lt_two_pow,bpW:=Ń (wW à h h),bhm à:=fun {sg X es δ a} g hc=>⟨fun r h=>bpW,fun r h=>bpW⟩,azY:=Rn=fn/\G.II=bl/\G.IJ=cl,J9 à á:=ta σ H fun à H1=>á,vU:=-(2^62),a4U à á:=fun σ H R=>J9 vs (∃i j:Int,vs=à/\(vU<=i/\i<2^62 /\ vU<=j/\j<2^62)/\R (á) H1),di:=ī α,zi à á:=Ē [à,Ol],Ik:=p.bt i j,aCV:=zi (dG Ik) qF,ĺ à á:=by refine à;rw[á],aeM:=H b=Δ,bcE à á â ã ä:=by (have à:∀{b:Addr} {u:HO},aeM->b≠á/\â:=fun e=>ã);have v:∀{b:Addr} {o:Obj},tM->b≠á/\â:=fun {b o} e=>ä,arL:=J5=aiu /\ o.dict=none,cW:=Params,agg:=vs.toArray,X9:=EJ Ò agg,aaz:=.dK [],ya:=ķ x,bdP à:=n c f fun w g=>g Ģ=ā aaz/\∀o,Kh Ģ g (.oP o (.dK [(ya,à),(ķ y,w)])),qb:="sorted",amu:=run k85.G T fu ŕ,ab5:=Int.emod_lt_of_pos,asK:=wpAny_pyIter_tuple,a7v à á:=(by have e2:Heap.IsTuple (bpX à) l2 OA:=Heap.IsTuple.push q2 _;wp_walk using á,asK e2),KK à:=mx à ds,YB:=KK 60,wH:=findD,a7O:=if y.plain 60&&YB&&aq ŧ Ū then aBR (wH y ds)else none,ay5:=aD3 P w,aHN à á:=ů à/\Jw/\∃vs,KV á vs/\h.DictOf ay5 a vs,bbS:=PySem.F.plainAttrs_list,bfn à á â ã ä å:=((fun t (à:fH t)=>aWW (brH bbS á â ã hv (lI à xQ (bf ä)) rfl (Η (bf ä)) å (bf ä) rfl) rfl) _ A).weak,agE à á â:=fun y à á=>I.ok.has y.1 (â),aN6:=by simp[AT,aN5,aN4],ai2 à á:=∀a∈à,∃o,á=ĕ/\aYM o=true,atR:=bX b (.oQ q),aHR:=∀b q,atR->H' b=ā (.oQ q),xh à:=∀c∈l,à,ayb:=xh (∃o,azk),bh2 à á â ã ä å æ ç è é ê ë ì:=(by (have à:ayb:=fun c á=>by obtain⟨o,_,â,_⟩:=ã;rw[Į ä â]);have å:V4 æ (jG ç):=fun è ha=>by rw[JM ä é ê (hO è ha) ?_ ê,uI ë (by rw[ň o' â (ì) (Ī é â (â))];cases ê) é]),AE à:=ž (Ib (à)),jQ:=(oE 1),bk2:=Ļ Χ c (Ñ (AE (uZ (cU c (a0I jQ) (bP2 _ _)) (oE 2) rfl))),abE à:=dF (jM à) dM,alf:=.IF ĉ eF,blT:=ł 22 [az,ģ,ĉ],biE:=fh (.lst Hv) (sC 21 (alf Ō blT (uQ 0 2))),Ξ:=Scope,boz:=Ah (Di (ł 54 [ĉ,ģ,ah]) cR),aSF:=2147483647,bjg:=lh (fh (fh (B_ Ō (ć 48271)) (B_ ah ah)) (ć 11)) (ć aSF),Zt à á â ã:=aE6 à I a á â ã ep,NE:=ļ R,UM à:=aTB R à NE,J8:=Ĵ 0,aKQ:=Builtin.Range.rangeSize,BN:=by split<;>omega,a4Q à á â ã ä å:=by (have à:Ĵ (á - â).toNat - J8=aKQ lo hi ã:=by rw[ä,BN]);show IsRangeIter _ _ (lo+J8*ã) å ã,aVY:=apI (aix 8) (aix 8) p ok,a9e:=st.1.at (k I Ğ),aMr:=st.2.1.at,a9h à á â ã ä å:=bsV Ğ à (fun i h á st k=>⟨a9e,aMr (k a Ğ),â⟩) (fun A E Q s i v ã ä st å=>?_) (fun A E Q s ã st å=>?_),boI à:=(by rw[aC7 à];rcases this with rfl | rfl | rfl | rfl | rfl | rfl | rfl | rfl | rfl | rfl<;>rfl),Ny à á â:=aq à á&&aq á â,F_:=Rm.of,aRM à á:=∀a dx,F_ (à)=ā (aX6 á a dx t o),uj à:=aEz à r,Ly à á:=∀x∈à,á<=x,bb4:=∀(r:Ď) (m:Int),(uj m=m\/uj m∈r)/\uj m<=m/\Ly r (uj m),eN à á:=(by subst à;exact á),jF:=by constructor,SB à á â:=by injection à with á â,iM à á:=⟨à,á,?_⟩,bBx:=(by refine(iM a e1);rcases e2 with⟨o,h⟩ | h),bcx à á â ã ä:=(by obtain⟨y0,à,á,tf,â,tg,ã,ä,tt,y1,y2,y3,y4,y5,y6,y7,y8⟩:=f4.2 y;exact⟨y0,à,á,tf,â,tg,ã,ä,tt,y1,y2,y3,y4,y5,y6,y7,MA y8⟩),jj:=bBe=ă,aif:=!t.plain&&kh (aH>1),dZ:=ī MS,Xq à:=∀v,à ≠ wy v,axE:=SD (p.later s1 s1),Ko:=ś Nat,uX:=ak c,aCJ:=Ē [ox,s,uX,x,y],aIk à:=∀b u,à=Δ->vF=Δ,jb:=į rfl,AF:=txt R,acR:=Ë AF,Λ:=Ś a,ξ à á â ã ä å æ:=Ŵ à á â ã ä å æ [],arl:=.str "talkleast.errors" 187,aC6:=t.length,GU:=ů aC6,Ζ:=jg a,aIH:=Š O N f2 M L J (m it Ğ),LV à á:=aK (bqz à á),ud:=Þ Ă,amq:=û (Nt ..),xI à á:=bQ à Ol,yT:=truth,bbF à:=by rw[à];show(yT d).map Rt.ok=_;rw[t];rfl,vO à:=ke (cX à),og à á â:=f7 D à á â O W,aAk à á â:=lh (ahT à Ol) anE,L4:=btR O W,Sq:=GR (L4 c),K':=Ec F f l,JJ:=I.ok.kind,Fx:=cellsFrom,aHb à:=Jk (Ì "super") #[Iq,Iq,Iq],YG à á:=[ac7,ı á],ag6 à:=.t (YG à.1 à.2),QV:=wpAny_letGo,Q7:=y.cps.toList,RC:=List.mem_map,ain:=s1.heap.get?,aQn à á:=tupleKind (aD3 à á),P5:=wpAny_passesOwn,ab6:=Int.emod_nonneg,a1Y:=aHy p.main.body,bpY:=y.2 == Qs,aM5 à:=sc.names.all fun y=>İ bpY (à) true,UL:=V J f,aA7:=UL R C,bm0:=by show J.j (pn.val J) (py.val J)=aA7;rw[apB.val,apC.val,←hV],aOH à:=by have a:b∉l:=fun z=>ajH b z à,Lz à:=by simp[à];omega,a6G:=∀b,(∃q,(b,q)∈tK/\atR)\/((∀q,(b,q)∉tK)/\H b=f b),kU à á â ã ä å æ:=by rw[Ĩ à á â ã (ä)];have å:=æ,GO à á â ã ä å æ ç è é ê ë:=by rw[Ø à á â ã ä å æ ç è];exact⟨à,á,â,ã,ä,é,ê,ë⟩,abe:=Sv.val,avH:=ds.map abe,aRQ:=by rw[eI aL];by_cases e:i<Ą avH,nu:=Oq X,P6:=nu body,bfv à:=P6 (fun D à H=>∃k:{p:ē×Out // f p.1=Fb},dS X.D Hb Ha D à H),bcR à:=by have à:ŋ (Bw M) (y,u):=hZ aQR (Į L hu);exact kJ à,Jn à á â ã ä å æ ç:=anJ à á (AG â) ã ä å æ VD Ġ ç [],aax:=same.wo,ajZ à:=Ý i à v h1 h2,bdG à á â:=aoJ.mpr ⟨à,pr,bd,sc,S8,CQ,l,ws,rfl,?_,á,S,w2.mono aax,ŷ hN w1,Ĝ c â,ajZ y⟩,agM:=je ă,bew:={ cls := Ì r_, data := o8 #[Ġ, agM, dm, pI 0, Ġ, Ġ] },aM4 à:=à==ki||à==bh,bie:=ps.all (fun x=>aM4 ((Ir st).names.lookup x)),NB:=aL 2,blr à á â ã:=bx8 (F:=ţ) (δ:=NB [qD b,qD e]) (a:=à) (b:=á) (i:=(â:Int)) (j:=(ã:Int)) (cx:=.č) (cy:=.č) rfl rfl (pu _),U5:=q.2.1.log2,aad:=(cN).cV.mono s2,bd2:=by rw[Ø i n1 c r1 z1 m1 w1 l1 (aFP m0 l1),Ø j n2 c' r2 z2 m2 w2 l1 (aFP m1 l1)],rV à:=ć ac3,arn à á â:=⟨Ì "frame",none,.plain,bBf à á â⟩,E8:=bqZ X,afr à á â:=∀b∈à,E8 á â b,ab3:=ć Ŭ,ana:=[p.D,xF,ab3],pi à:=Ī à c c,aUf:=fun c=>f r c==w,NI:=(r,c),aUb:=Ĥ (J.filter aUf) c NI,nV à:=π e à c,Xw:=(g i j),asU:={s with toks:=f_+1},a43:=gY (f (ĭ t) (aj u)) Q E s,a42:=Q (ć Xw f_) asU -> a43,ayX:=.rt d fr,Qx:=i.toNat,a54:=if 0<=i then(fO (i<n) (ā Qx))else fO (-Æ<=i) (ā (i+n).toNat),BG à á â ã ä å:=lX (à) aDS (j_ ä å),alW:=wn f R,qB:=alW C,aRV:=T.length,aiM:=.Compare a,bBk:=t.fits aH,Jm:="_law_script",Ky:=NameKind.cell,QW:=List.cons.inj,bnD à á â:=(by obtain⟨z,A,R,N,M,L,K,J,I,H,E,e⟩:=bSw (fu:=fu) (k:=k) c s j r o g p (ļ à) (n:=á) (m:=â) Ă Ă Ă Ă),TL:=one x _ a iU,XD:=wpAny_truthy_bool,ah2:=wpAny_setState_of,ZJ:=of_decide_eq_true,bh5:=buC P w K mg base fn bl cl,aR2:=bh5 k (ţ xU),akW:=bOp K bl cl C d x,bau à á â ã ä å:=∃f pr à á q cl l â,v=v5/\adO H q pr à á cl f/\aoH ã pr à á=true/\aYL m.N ZO á cl ä/\wU å cs â/\aFv å m.N m.np cl ä â,qg:=asName,aM9:=(qg ea).isSome,aNc à:=a97 à (aM9||(aFn ea).isSome),aOe à:=xQ.weak fun à H Q ee=>p [] H GW .nil,pM à:=Ħ->ś à,aDr:=("sums:" : Str).cps.toList,bm2 à:=by rw[Ĕ two (bRV à Ă g (s.lt Ă) s) g1 (I_ g (s.lt Ă) s1)];have g2:=I_ (à - g) Ă Ă,aRf:=by rw[ň y i (Fw d) (Ė j u rfl (aoA i))];rfl,acS:=s::t::L,aC2:=Yz acS t kX,aeB à:=en P "__doc__" à Ġ,jZ:=String,m7:="text",nr:=I.list,JX:=X_ X.K,awu à á â ã ä å:=rm à (Ş á (∃(a:Addr) (â:ã),á=nB/\JX (ä)/\å)),bdJ:=bKa (bd:=bd) (lp:=lp) L,be9 à:=bEq (nm:=ā "key") (kpos:=kp) (bdJ à) (bEp (X:=X)) pos b s1,a4P:=(by rw[cD c g R (yk (m c s g H _ I h) v x r d i)];obtain⟨a,e,⟨xs,k⟩,q⟩:=i),KL:=DV.plain,blS:=(bW (KL 60 _) (KL 60 _)),azy à á â ã ä å:=∀z y d,à=kY->∀O W á â cy w (Q:VK),aw5 á â->uD á â y cy w->(∀u ã,ũ â ã->uD á ã d ä u->Q u ã)->å,aRX:=cs.length,aLz:=args.length=m.np/\args.length+aRX=ak0/\e_ args=true/\e_ cs=true,KF à á â ã:=aU (KI _ (field Iq á) â) (ã),Ld:=Ű<=Ū,avl à á â:=rM à (ō Ld (.ok (á) (İ (xS l) â cJ))),abC:=.var 8,bjG:=.bT (.bT (.bT (.bT (.str "bits sums:") (ig [Dj])) (.str ":")) (ig [abC])) (.str ":2"),bic à á:=∀(i:Nat) (d:FD) (x à:Str) (st:Stmt) (á:Addr) (fd:FuncData),uB T->lV fn->à=x->ao6 K x à st á fd->bim à,bdH à á â ã ä å æ ç è:=(by (have ou:∀{b:Addr} {o:Obj} {u:HO},à->b∉O++W:=fun {b o u} e z=>by rw[rf o' á q2 (xY â ã) ä];cases q2);have oc:∀{â:Addr},â∈å->â∉æ++ç:=fun {â} hb ã=>by rw[rf o' á q2 (xY â ã) (è)]),amx à:=ā (CV (dG à)),nb à á:=Ć (aK à) á,qp à:=Ĝ à a,aBP:=by congr 2;rw[ĺ (He (qp i)) bBg],azq à:=∀à e,aoG à true m e=aoG à ă m e,ib:=(dz h),uL à á:=by rw[v_ à á],aaQ à:=bX à (Ē (k.map kV)),aIG à á â:=⟨fun i ζ=>i<à,fun i H á H'=>H'=H/\â,fun i ζ=>à<=i⟩,a8I:=F.plain_set_update_loop,a8J:=ĺ (Zp F.entry_set_update_loop) (aMF a8I (aaL I >>= _) s),aIU à:=∀(i j:Int) (t u:Tok) (s:Ĭ) (Q:cF) (E:cF),à,aT à á â ã ä å æ:=by rw[bpJ];rw[æ],pK à á â:=by have à:á:=Ě;rw[â],qA à á:=Ñ (ŏ (à) (á)),a6u:=Heap.get?_update_other,aJD:=Ų (a6u _ _ (iz m)),akM à á â ã:=Ab (aFi à (ń á â ã à)) ei à,atK:=sliceBounds,BA:=HT.bEw,aac:=(1:Int),a6g:=by (simp only[atK,BA,Option.getD_none,show aac>0 by decide,nK]);by_cases h:i<0,atl:=eT c σ,pp:=akt y,a3Z:=∀v u i x y d,atl d i->RelV x v->pp->R x y d->bpU i,a4I à á:=by (refine (Walks.range (iB l) it à á n).item i s _ _ j st fun v B tk hv c kk=>?_);rw[đ t rfl hv],SA à á:=Ĥ (à) d (Gj d á),aWw á â:={n:=á,np:=â,body:=à},abq à:=aWw 2 2,agN:=wpAny_isInstance,agJ:=dY cw,auy:=isSubtype_stop,a82:=agN (T:=bpS) (b:=true) agJ auy,acr à á â ã:=bU (à)=È (wG (Ο á) â (ã)),awA:=fun i=>bs.getD i ă,XO:=A.depth,Kf:=A.units,a5y:=⟨r.hd,QF r.dp (XO+1+3*k+5<_),QF r.un (Kf+3+16*k+200<_)⟩,pv à:=fun x y H Q=>à,ag7:=.str k,aQQ:=bvC X.K X.w X.mg,bgo à á:=pv (∃a es n k,y=Ŝ/\x=ag7/\aQQ à a es n/\(á).isSome=true/\Q rg H),lS à á:=à[á]? = none,beb à:=by rw[o]at g;rw[bej à H3 y Z (Y v H3 y (Z.f6 (R2.cV.mono y) e2))],aVM:=cU (cx:=Ŋ),bBq à:=aBq sR (aVM (Wd (Β Ņ Ņ) Đ rfl) (P _ rfl) rfl),aiw:=bsZ de X.w,aOr:=qi (aiw p (d.foldl dk [])),lF:=AM .Eq,zm:=t.place,CW:=r.map,Vi:=[O8 x],am6:=CW fun x=>Vi,acz:=bRU rfl,bm8:=acz (aGF _) (acz rfl (acz (bzj _) (acz (bzl _ _) rfl))),G4 à á:=by rw[aWl],aNu à á:=∀{a:Ħ} {xs:Ŕ} (n:Nat),wU H a xs->wU H (à) (á),aQw:=wpAny_typeNameOfWhole_itemiter (ty c),aKG à á â ã:=(∀à o,à≠Z->à≠W->à≠a->à≠b->cC à=ĕ->á)->Q â (fE ã),blf à á â ã ä:=by rw[bBh à á â];refine IY (l:=cs á) (h:=Nn) (f:=fun â=>.bl aTH) (cl:=.č) rfl Đ (þ (a0H s0 (a0W ã s1))) (Ĝ â ä),a5D:=dH (h pos a s d H _ I g) fun f s1 ⟨xs,i,c,r,z,q⟩=>aD (ŗ Á z),mt:=fA z,aNv à:=by rw[pC ha h (s_ h) (ı (à))];rw[cr mt]at ⊢,LY:=h.weak,baF:=Rep.IG (fun a f=>ED b e m (hd.wl a f) (hd.same _ _ e)) g (LY hd),afE:=cZ p _,a6m:=(by obtain⟨_,_,_,_,o,_,_,e,ex,_⟩:=afE b;exact⟨o,e,ex⟩),bdC:=(by have k1:tP y=ki:=k1;rcases q3 with q3 | q3<;>(rw[Ī q3 k1 k1])),iP à á:=œ (à)=Ç á,bpZ:=by rw[←á];exact jh â,be5 à á â ã ä:=by (have hi:i<à:=bpZ);have ã:ŋ ä ä[i]:=Õ hi,tU à:=Í ac7,fU:=fT H0,F':=xV δ,ahk:=F' fr,axK:=xg x dW,y_ à á:=F_ (F à á),gm:=DW.of,ZF:=.Slice,af7 à á â:=wg à (ZF á â none p2) pos,acY:=DV.lst,HL à:=acY (iD à),bqc:=fun {d X e c r} g b h=>?_,vK:=X.N.Nodup,yG:=a.toArray,Z1 à:=aFA X.D O W à H Q,At:=h.testBit,aam:=codeAmong pos',LD:=isSlice,awQ à á â ã:=aox e (Vw (â&&h_ ã á && !LD á)),aU4:=u.map fun x=>x%g,aU3:=aWx (Nw aU4) .no .no,Ho à á â:=by refine à;rw[ĥ,á]at â,bqi:=sc.isGenerator,bqj:=sc.isCoroutine,Qu:=PySem.W.codeIn,bi5:=.fst [.fmt Ľ,.fmt ģ,.str "(",.fmt Ō,.str ",",.fmt ah,.str ")"],aRs à:=aFs sg azG fr à tg,axY:=List.mem_of_find?_eq_some,aKB:=Builtin.SmallTypes.ownedTupleHandOut,Ę à á â:=by rw[à]at á;rw[â],rZ:=Ž Stmt,avM:=aZ F r,aLA à á:=Ρ (Rx à δ) (ā (.nx á)) (avM á) o o,Dv à á â:=AA (eG à á (â)),aDh:=aor Ņ ą,boW:=Dv ą (sY (aDh (m2 _)) Ņ) (Β (AO ą Ņ) ą),aOM:=.oQ (aeV q A_),bqp à á:=PW X (E1 à á),ro:=if_false,amv:=w.length,abV:=List.filter_cons,aVg:=.od (aCE ö),AC:=sM t,bnP à á:=gO (G:=GM) (F:=N6 3) (n:=à) (d:=ak á) (δ:=[aVg,AC,sM c,sM d]) rfl,WU à:=(à).isSome=true,a7g:=ż (wpAny_handled ?_),a80 à:=by rw[a7g,aU (bK (A.in1.handled=none) à) (Å (wpAny_throw ?_))],JI à á â ã:=by rw[Ù à á â];exact ã,akV à:=Ý à H Q E h,bhQ:=⟨akV vs,fun A Ï s H args us vs Q E hr he hb hv h=>?_⟩,Xa:=Q v H',axh à:=∀v H',Ú H'->à->Xa,aNZ:=PyData.eqvAll,aN0:=by simp only[vk,aNZ,OH],pG à á:=Q à (fE á),aaW à:=o6 à Ċ,bmo à:=by have l:Ą (nD (à))=Ą (à):=aaW nD;rw[Ļ l e (sG e)],aNj:=⟨C.N,pB,fn,bl,cl,ă,true,IQ⟩,avs à á:=.od (Ē [ć rK,.ę,.ę,à,á]),arV à á â ã ä å:=aDW (à) á â ã ä ζ å ζ ζ ζ ζ ζ,a3O:=by refine arV (cZ b u e) c v d (k c v ?_ q) q;rw[fB d],Ga:=fy (œ c),ux:=ć n,a87 à:=o8 #[f,à,Ŝ,ux 0,oY ep],Gr:=FH (aYc w),C3:=(Hf o),Hg à:=PS X (à) C3,aSs:=dF ģ ŭ,bjo:=.or [aSs,.and [dF (lh ah (ć 7)) ŭ,T9 ģ Ō]],NT:=UQ i j,a5W:=iA (o pos a s d H _ I h) g s1 f v u r1 i (n a s1 d v f g Q u r1 i),aj8 à:=Ń (dP à),aOS à:=uI w (aj8 (à)) (MA (akk e)),tz:="thing",Gu:=IntsAre,aap:=vm l Ĳ H,aOx à:=bql à a (Py y.1),ajT:=aOx pB,Mw:=bJY l Ĳ H,Hn:=Nat.one_mul,awc:=wpAny_setEntries_of,aiE:=List.getElem_of_mem,af6 à á:=(by obtain⟨_,_,_,à⟩:=á;rw[eW à]),aTl:=[ļ h,NE,ļ C],bBi à á:=AO (G:=G) (F:=ω) (δ:=aTl) (a:=à) (b:=ĉ) (i:=á) (j:=h) ą ą,Ca:=xS l=true,bbL:=by (refine⟨Ć g.length (aoP m),ajk a ?_⟩);by_cases z:Ca,aBX à á:=fun à=>kh (á≠0),bl4:=aBX j (jS r j),aJv:=List.of_mem_zip,bc5 à á â ã ä:=by refine Å (wpAny_newFunctionEnv S.Eo (fun x à=>S.par x.1 (aJv à).1) (fun á â ã=>aD ((ä).fresh _ ã)) X2),HV:=Ą (cs R),Ih:=Ą (tx p),bqo à á:=⟨H₁ à,#[],á,k3,os⟩,axG:=SD (p.later s1),awS:=∀y∈pB,y.2 ≠ wy,aHV:=by rw[ş z (Ļ r f f)],aWb:="_law_many",Wz:="_law_k",a2T:=["_law_cell",aWb,"_law_found",bpQ,Wz],aQc à á â:=by refine anG (ń Dn á H B0);rw[Ø H0 O W R â fo sm k B0],bml:=.bi .any [xp (ach ĉ) cR],bBE:=.iff bml [.app 1 Ō,.app 2 cR] [],mr:=ċ b,auv:=IsPair Ĳ U Ŝ mr,aUc:=mA (kp f),aBO:=uU (kp f e),aBL:=aUc aBO,aza:=EJ aC #[en.key,en.val],ase:=ae8 x c,bou à á â:=IN (fun à=>fy (Ŀ á à)) (fun à=>aZ F â à),bhI à:=by have Wb:F_ (ō (adI (Cb p k0) s1) (Ou.v (Ē [à,s1]) ă))=ĕ:=e3;split at Wb,Na:=aGa fn bl cl,FX:=x.cps.size,Db:=bNN G F fu,WB:="take_cards",WD:="take_digit",KH:=l.extBut _ _,Ll:=Nat.lt_or_ge,ab9:=by have:=s.1;have:=s.2.1,bp9 à á:=PySem.W.envX à á Ģ f,Ij:=im t,aDt à:=D6 Ij (ħ (tT R')) à v,azC:=List.contains_iff_mem.mp,ZH à á:=bHe h fun à h=>á,a9N:=btc h (EM p h (aiR (aiR (ZH x (k x p h))))),aju à á:=∀q,à=fN->SN á q,xH à á â:=∀à∈á,à∈â,aF:=œ e,nZ à á â:=∃a à,QA/\á/\â,z9 à:=Ř (DS z),T_ à á:=.ret (Io á),alw:=.brW alv,boq:=xp (alw ĉ) ĉ,aAh à:=.aEw ĉ Vu,bi3:=T_ 1 [xp boq (aAh "/")],alP à á:=V1 (ds:=à) (cl:=.č) á ŵ,bgR:=∀(j i:Nat),ĳ fr j i->∃y,ĳ N (d+j) y/\ŋ X.N y/\tP y=bh,XS:=vs++dvs,Zw à:=Q (ċ à),a5G à:=sp (ċ x::XS) (upd (à) x (aja [])) (fun v H2=>v=.ę/\Zw x H2) E,aQJ à:=aFu C fn bl cl à bd sc,ait à:=listUpdate_at à rfl ?_,aPs à:=aFR X δ IV iter à elt À N' fr tg re,aiI à:=fun à p=>ā (aW (à,p)),gj à á â ã ä:=by rw[aDT];exact ä,axU à á:=if à then á else none,a7Q à á â ã:=axU (à=.č/\á=ă) (eK (VV â ã) l (pO (.lst (iQ p (zi (Ē (aNK p.1)) p.2))))),arY à:=Ć (LV q à) q,a3x à:=by rw[aK f]at e;exact aDW (x b u e) c v ζ à c (arY d) g ζ ζ ζ ζ,ajs à á:=(by cases à<;>first | rfl | cases á),Mf à á â ã:=by have à:á=â:=ã;split at à,Gp à á â ã:=(by rename_i à á â;rw[ã]),ayh à á â:=ajD à á (eT à á H s) (∀c∈â,ayd),am8:=(by generalize aVz=u),gB:=(n+1),PP à:=Hp->Ž (à->ni),nz:=ā ă,ah3 à:=(Ο à).map,apR:=b0+(1+(b1+(b2+(b3+9)))),υ à á â:=by exact⟨à,á,â⟩,aji:=by rw[FR d h];rfl,ZB:=I.kept,as2 à á:=fun h' tk k=>⟨à,H,ZB k,á,q⟩,g9:=.str z,iN:=ī ME,ng:=ī Env,GY à:=Ē (aNK à),ak3:=PySem.W.nsIn K,ajM:=Rep C6,bik:=∀mg H,ajM H r v,bgl à:=∀k r,à=Û->∃u v,ak3 a k=ā Δ/\cu/\bik,ua:=ś Expr,yu à:=Q sR H,z_ à á â:=by show à=á;rw[â];rfl,alI à á:=(by unfold à á;rw[ų];rfl),uF:=fV rb b,cM à:=ax à h,a2N:=[ant,acZ,ans,"_law_first",Wz,aDF],abd:=lU x bl (mg x),yt:=RelV x v,azu à á:=Ab (bHk b (ń à á p b)) ř b,aPU:=gM Ġ ix us,pq:=I.tuple,u7:=Sm n m R,aiU à á:=MP (c_ np) à apos á pos,avj:=Da elt tg it fr,apT:=ac8 (Ta eL) na ka d os,yA:=FuncData,xq à:=gI (gJ à),bjJ:=HA ģ (lh (jM 1) (gI ģ)) (lh (Dh 1) (xq 2)),arO:=codeAmong pos arP,Tj:=dI X.D δ,aRU:=aWy fn bl cl (bv7 d.i6 fn bl cl),avT:=by show É _=É _;congr 1,aeY:=X.Oo.heap.get?,acd:=Nat.two_pow_pos,akh à á:=SortSt.mk' à á #[] 7 none,amd:=List.filter_append,aNQ:=Builtin.Str.occurrences,aRe à á â ã:=bM1 à á â ã (gE f w C) (gE f v A) k (Ć ř B) x h,bcd à:=bEP b s o H _ u Q I r ⟨a,i,Ń n,à,ajk e (btS hd e k)⟩,a5i:=(by rw[Ĩ i j rfl q h];obtain⟨u,w',rfl,⟨t,rfl⟩,⟨t',rfl⟩⟩:=vals2 r),aar à á:=fun z=>Ń (Ī à á á),Ţ à á:=(by cases à;rw[á]),bly:=ς q hb cc (mN f 31 (eG l (bQ 1 xJ) (jW m1 i9)) rfl hb),tW à á â ã:=(by obtain⟨à,á,â,_⟩:=ã),aNg à:=aox e fun ea es=>(à),baa:=aNg (btm es fun el eh=>wR&&h_ lo el&&h_ hi eh),aL4:=wpAny_rule,Ym à:=aL4 (ĵ à),aj6 à á:=(by rename_i à;refine á),Jf:=loose,a6K à:=PySem.W.WalkO q Jf XP YP l.row.toRowW d [] (fun f à=>PySem.call f à),aSf à á â ã:=(İ à 114 99)::(Ig++(40::(tx á++(44::(tx â++ã))))),aa8 à á:=by refine aWk,aMc:=by rw[isSubtype_type];kernel_rfl,bBU:=(uM).kind == Et && !(uM).isCoroutine && !(uM).isGenerator,a8F:=Ρ b true (rule "set.scan.the-table-gave-way") ă (pure ()),bdM:=ja "__main__.__loader__#opaque",bmM:=[none,none,ā 0],biS:=.IF abA Dg (.sW Ľ) (abv ģ) bmM,asT à:=Bf sR q,aKE à á â ã:=FP à rfl (ĵ (wpAny_updateSeq_pair à aDS)),Ke à á:=brm K H à (Ì á),bbO à á â:=te σ H1 fun y H2=>∃ds dy j,zS H2 à x/\zS H2 dy y/\dy.plain 60=true/\YB=true/\á/\â,afX à á â:=backToKw à (keywordEach á â),aik à:=wpAny_updateSeq à rfl,bbD à á â ã ä:=brc à s1 e á x v (fun b â=>b=k/\â=á) ã ä ⟨k,t,rfl,rfl⟩,a7x à á:=(by have e2:Heap.IsList (bpX à) l2 OA:=Heap.IsList.push q2 _;wp_walk using á,J7 e2),sE:=(iD r),o_:=by exact cX e,rB à:=(à).push,ayR:=rB beJ (zu C2 0),a3F à:=∀p∈à,cC p.1=Fb/\aQ p.1/\p.1≠jf/\p.1∉X.fs/\Xq p.2.data,q9:=PE X a,ax4:=aj8 (C.none b z),bhe:=fun C tF Iv Oz fp=>aZQ bpN h5,Sx:=zQ s2,SQ à:=p _ à Sx,pF:=Ú H',axl:=Ż h (bt1 hd d c qj),EL à:=Ī à z z,uc:=trivial,a6C:=dO (EL e) #[] (i _ m).2.1 uc (fun a1 cv z=>eZ z),alj à á â:=.fo (uR anH) (.sW â),JA à:=Un fs ex H à h,G_ à:=bKj hp à iU,aJp:=PySem.W.cellsFrom_some,aAE:=List.length_pos_of_mem,aVf:=bzH rfl rfl,aVh:=(by obtain⟨hi,_⟩:=JQ h;rw[aVf]),bc9:=PySem.W.tabObj (ps ++ #[pI J0,pI pos.col,Ŝ]),zW à á â:=by rw[à,á,â];rfl,bkk à á:=bPD (fu:=fu) (k:=k) (d:=sR) (n:=á) (t:=true) Ă (zW a0E ud ud),yl:=X.mg x,JV:=yl=none,abQ:=(ba,.č),aAo:=.str "WORD",J_:=i - j,aKZ à á:=oT i&&oT j&&aq J_ à&&kh (á = -1),JB à á:=fun ζ ζ ζ à=>á,oV:=ī Obj,alA:=∀r∈rows,Á=m,pN:=ś Ħ,fY à á:=gE d à á,U0:=Β ą ą,ag9:=ā xs,aLC à:=Ρ (BY à) none none ag9 Ε,YX:=avM δ',U_ à:=uZ à Ņ,Va à:=U_ (à) rfl,NO à á â ã:=(by obtain⟨à,á⟩:∃à,â=ã:=ce),Fr à:=PA X à t,Ft:=Fr dW,eP:=items,aIv:=dO (Ĩ a c I q h) a c I.adi q,pY:=uv ĭ,aiO à:=mH (à) (aWz R_.2),Gg:=.iff c a b,G7:=aaX X.K [],mE:=Le j,Lf:=uw mE,aay à:=show à by decide,WZ:=u9 de X.w,QP:=Src P w,aAm:=.ix aDK,boH à:=aAg "" (xp (aAm ĉ) à),bb2 à á:=fun O W à H vs Q l σ á hd g p=>gh (đ d c re) ⟨l,_,O,W,à,á,hd,g,d,c,rfl,p⟩,amh:=cv.wi hs bl,aHF:=Value.bool,aiC:=bs.map aHF,WC:="take_side",MW:=Nat.add_mul,NR:=rE rows w m,asO à á â:=T.keep _ _ _ à fun b á o e=>â,ahW:=SetTable.below.go,ah4:=List.foldl_append,aaH:=IsEnum,ayJ:=(k:Int)+1,aPL à á â ã ä:=by replace à:RU n á â:=à;replace ã:aaH â n c ayJ ä:=ã,aRZ à á â ã:=bpF à q sc f (ċ c') á â ã s jL,bb5 à á â:=bEN b s k H _ m Q I r ⟨a,à,Ń j,á,Ć â qj⟩,afG:=toString,t4:="min",beW:=by have ml : "min.loop" = (afG t4 ++ afG ".loop" : jZ):=ø,ZR:=btN.mp,bfQ:=(by rcases ZR (g.all Ι)with⟨a,j,e,n,m,i,l⟩ | ⟨a,j,e,n,m,i,l⟩),at8:=aXk S.snd,a67 à á â ã ä:=wpAny_comprehension_free rfl à (brN (agE á â (S.out y á â))) X2 (fun x ã ä=>at8 (ŗ ä ã)),DN:=big _,boj à:=bTr (c:=47) (oX bz9) à (by rw[sum_rows h,Ċ,h.1];exact DN Ă),Xv:=Ŕ->PN,CC à:=fV à a,wX:=CC ra,bbN:=dU as i (adU I 60 p f d) bs b (adU I 61 (by exact q) g e),YY:=.fo tg it body,mv à á:=show à from á,bnV:=mv (((fun x:Str=>wF) ∘ stx)=id) (funext fun l=>vq l),Xn:=σ.set i,atE:=s.TypeIs,wm:=p.length,bjj:=.aXw 6 Dj (lh (alt (fh xw Dj)) Ľ),a7s à:=Zu (akA T F.slot_zip_next F.entry_zip_next (à) (F.args_zip_next_1 _)),a7j à á â:=R2.ext (R2.ext (R2.ext h2 à D.i2z D.l2z) á D.i12.symm D.l2i1) â D.TOi2.symm D.l2TO,atp:=recursionLimit,akj:=wpAny_tryCatch,aaR:=List.nodup_nil,a8i:=(avU hw (by rintro(z | z);exact b z;omega) (bst (Ĝ d hd))),aOU à á â:=adm.vm à (fun c á=>(â).1) (fun c á=>(â).2),uh à:=DV->ś à,l_ à á â ã:=Vw (Ć â ã),aS5:=tT (r::a),aAG:=[eD,ħ aS5],auX à á â:=oT à&&oT á&&aq (á - à) â,a3m:=OpenRow.toRowW WH,a3j:=xlAt kQ [] s&&recOk (RowW.records a3m) s,at4 à:=(x,BE)∈à,nN à:=Ī à b b,Mq à á:=ŋ à (yR á),DG:=aoq rfl,aUo:=ž (NF .top DG),ur à:=π e à cl,azh à:=ũ (jG à),bf6 à:=∀v H' k',s=Cb p k'->azh [p] H'->H' p=ā (GT k')->à->Xa,bV:=eZ h,aMo:=fun A E Q s i st h=>bGB st.1 h,aJK:=pure (Ì "method_descriptor"),abW à:=pd 10 (wp à R C),zH à:=L5 H à v,qv à á â:=xk à δ á â,TQ:=qv i c f,Vk:=aFE 32,anm:=[48+i],xM:=[48+j],aVZ:=Vk [O',u8,anm,xM],aUM:=[ah,ĉ,az],aSw:=fZ 6 15 [ł 5 aUM],aDb:=V0 rfl,aDa:=lG (aDb (ž c)),nM:=V.int,a51:={c with heap:=c.heap.push (gW "slice" (o8 #[g,f,Ġ]))},ze à:=.rt à ă,oZ:="word",wC:=IsPair,vN à:=gY (à) afc X.xe s,KR à á:=if à then ac5 else none,af9 à á:=cC à=ā (gW Ò (.seq á n)),bev à:=Zu (akA T F.slot_enumerate_next F.entry_enumerate_next à (F.args_enumerate_next_1 _)),al4:=bPQ Ğ,bkw à á â ã ä å:=by have à:=bBi á â;rw[Ļ (bPR (ã).1.2.1) à (vh (eG be ą (Β (vh (Β ä å) al4 rfl) (vh U0 al4 rfl))) al4 rfl)],bnk:=List.nodup_cons.mpr,bgh à:=by rw[dr El h ĥ,ĺ (bnk ⟨mt,à⟩) (EO h.1 (aa9 z))],Mz à á:=by rw[à]at á;omega,zJ:=(jG O),Ob à:=aV7 (à) rfl,aCO à:=Ob aWm,aS4:=ž (Ib ?_),blh à á:=(by unfold à;refine qA (AN (d:=jO (cs á)) (cl:=Ŋ) (AA (i4 (xI 1 á)) st) rfl) aS4),BM à á â ã ä:=by rw[à,aU (KI á (â) ã) (ä)],MX à á â ã:=uJ à rfl á â (bME g ã),ay0 à á â:=by have à:=ao0 á iU;rw[Ę (iW à) á (â)],ble à á â ã ä å:=by rw[đ c4 e (bQw (F:=ω) (δ:=[ļ à,eD,ļ á,ļ w]) R â ã (a:=az) (b:=ä) (x:=å) ą ą ą)];exact Dq _ (mV e ą),u4 à á:=rQ (à) (Ë á),Pb:=.next,Jh à á â:=ā (Pb,à,á,â),aHw à:=aeF (aD1 à) 821 1267,a3i:=⟨590,0,605,114⟩,a3g à:=Jh (aHw (aWu à).params) kc a3i,aV5:=f9 (ws.drop (8*j)) u,UD à:=ah3 à (· + 1),KU:=ā ds,aO8 à á:=(by subst z1 w1;rw[Mf e1 (yW ((à)=true) (á)) KU e1]),pU à:=pT (à::r),bkQ à:=by rw[e,Į (aGt.mpr (à)) (aGt.mpr (à))],aj1 à:=by rw[Ù à Ċ bO],aPa:=Ţ e2 (Ė ns m0 e1 (dz e1)),bqf:=Z5 h e a,Q9:=OJ jr v,M7:=Os s1 s2,UO à:=ft à m rows,R8 à:=ZG à (RT h),ZS:=bp0 Rep a xs,ako:=R2.mono,bd8:=by refine buM (ako A) y3 I (Ĝ u L);have h:=bKA I hn,Qw:=z.cps.toList,QS:=m.extBut _ _,a9X à:=(match p with | ⟨po,ar,va,ko,kd,kw,df⟩=>sZ po (à)),a9V à:=a9X (s9 ar fun a b=>à),bgt:=aXn X sc f C b c d fp,av2:=List.pairwise_cons.mp,aTU:=bQG (rows:=rows) (w:=w) (m:=m),aT5:=bQH (rows:=rows) (w:=w) (m:=m),Gx:=(y::r),ba5 à á â ã ä:=by show(x++à++my á Gx).cps.toList=â;have e:(x++à++my á Gx).cps=x.cps ++ ã++(my ä Gx).cps:=rfl,abN:=xA ba,bk3 à:=(by generalize 2^lA - 1=B at *;have c:=Dz G G δ abN f à (es:=gK) rfl h),baJ:=(by rcases h with⟨L,_,e⟩ | ⟨_,_,_,_,_,_,_,_,_,_,e⟩<;>rw[e]<;>rfl),afu:=r x y H Q,baQ à á â ã ä:=∀O W à H x y Q á cx â cy (σ:St),k á cx â cy=ã->fT à->uD à H á cx x->uD à H â cy y->Z1 à ä->afu,aUU à:=à=1\/à=2\/à=3\/à=4\/à=5\/à=6\/à=7\/à=8,bkZ à á â:=by rw[cS à];have c:=uY (lE 7) abN f á (es:=gK) rfl rfl ((hZ (cS â) (ij (Ar e)))),aQY à á â:=dU y à (Fw á) â rfl (Ej à),aRg:=by rw[aQY i d u];rfl,a5p:=Fi "__setattr__" = ā (ā (ja "object.__setattr__")),aKh:=@LT.lt Nat _,agy:=@Ne Nat,aud à á â ã ä:=by have q:aKh à á:=â;show agy ã ä,xc:=bBj=ă,amj à:=cv.lf hs à b,blC:=fun b=>UV m (amj dW),Qg:=fs.lookup,aHK:=∀f,AH (Qg f) (mA f),HR:=ļ Ŭ,yY à:=Ĥ (à) d Rk,cQ:=Ś b,rS:=ż bq,rN:=È rg,vz à á â ã ä å:=Ŵ à á â ã ä 1 å [fz],ZI à á â:=mG (à) (LI g á â p),RS:=Ys cw,a4N à:=by refine⟨iV,[iV],_,_,r,rfl,d.kept Bk,à,RS,Ĝ b n,q⟩;rw[P_ b iV n],qY:=lV X.N,M' à á:=gE à (snd e) á,aVR:=lG (lG (lG (lG (ž c)))),a8w:=List.mem_iff_getElem?.mp,a8v à:=by rw[đ i d (a8w à)];rw[akC,pZ]at d,az6 à:=uN (.not (à)),abm:=.OC ĉ,aSy:=az6 (abm [jn]),Qc à:=aW5 (afw (à)),acV à:=(by refine Ñ ?_;unfold à),atA à:=(by split at à<;>cases à),a7M à:=two l fun a b=>yV a i (Ĥ (DZ b) j (pO (ć (İ (à) j i)))),aDB:="_law_plan_here",awB:=List.any_eq_true,aVd:=aef (cx:=.č),bod à:=aVd rfl (and_1 (bz3 (x:=1) (y:=Ű) (z:=8) Ņ (à) rfl)),a9p:=again (ja "list.extend.loop" ⟨[ċ S,ċ I,i],[]⟩),boC à á â:=aon (d:=.ę) (cl:=.č) (Dz δ S es [à,ak9] l [ik á,ik 8] rfl (bTM â)),bhP:=(by obtain⟨_,_,_,_,_,_,_,_,_,_,_,_,_,_,q,_⟩:=h;cases q),mh:=.str _,R4:=bs.length,a9H à á â:=(by (have à:l<Ģ:=by obtain⟨_,e,_⟩:=á;rw[o_]);have â:pJ=R4:=by rw[←fF,e,Ċ]),zf à á:=by show(à)=_;rw[į á],NY:=ael rows,aCm:=eK NY r Ur,gZ à á â ã ä å æ ç:=(by obtain⟨à,á,â,ã,ä,å,æ⟩:=ç),aDu à:=U_ (bQ à acD),anx:="line",LM:="index",A1:="rest",a2V:=[anx,"kept","left","taken",LM,A1,"makers"],abb à:=Ac δ a (à),azN à á:=abb (bHF a (ġ à á a)),avi:=.IF elt tg it cd fr,abB à á:=sA Vu (ig [á]),DA:=wl R C,arF:=aeF (bqv eL) 15 187,aba à á â:=btz à (ń á v â à),aQu:=IsItemIter,azb à á â:=aQu à it á â aH ep ok ov,bdA à á:=by have à:cc∈l:=MU y cc á;exact⟨cc,o,u,á,iS (oc à) (IU à k3),k4,rv⟩,as8:=PySem.W.plainGet K C,aM2 à á â ã:=.FunctionDef à á â [] none [] ã none,aAJ:=List.any_eq_true.mpr,y9:=ahc=true,a3u:=p.1=q.1/\bX mz (Ē (p.1.map kV))/\RelV p.2 q.2.2,KO à:=i.natAbs<2^à,Nk à:=(à,Ē [sD]),eQ à á:=by by_cases à:b=á,tQ à:=bX à qR,abM à:=R.2 _ (xy à),Cc à:=cj à rfl,NN à:=acA (k+à),aBQ:=by rw[Uu q (.sW e),q,h],bbv à:=dU M z (adU I 60 p.1 r1 n) bs w (à),aim:=s1.heap,bf5:=show vJ g aim a (.oP f (.dT d))from B.Ν _ _ L,aIP à á:=dH (à) fun v s1 h1=>dH h1 (ġ á s2 h2),nX:=by simp;omega,U2 à:=x.getD à 0,bl8:=wG (Ο cK) i (qt (dg (U2 i) (w.getD i 0))),a4e:=by rw[Ę d j (SB j d1 _)];have:f=c:=Ł (Bz Array.toList d1),UG:=(cs C),aTp à:=sub à (cs R) UG,NK à:=Wh J f à R C,bo0 à á â:=by let à:ē:=[im á,Aw â];have b:∀F,Ŀ Ľ à=È (.lst â):=fun F=>sJ,Js:=yp xs,aHG à á â:=∀{xs:Ŕ} {us:Œ} (à:Nat),Js->Vals (á) (â),XA:=Builtin.bitOr,Zk:=es.toList.map,abK:=List.map_drop,aT6:=bQW x w bl es,a6X à á â:=forIn à true fun c r=>if r=true then do let ok ←isTrue c á (â);at3 ok else at3 r,bar à á â:=∀(i:Nat) x v,ĳ à (á+i) x->nH ws->∃c o u,â=ū/\azk/\iu=wy Δ/\cu,aQa à:=by have à:=ao0 h iU;rw[iW à]at h ⊢,bBp:=(by rw[Cq ei f];obtain⟨⟨⟨⟨⟨s,i⟩,q⟩,n⟩,m⟩,l⟩:=f),a6j à:=call_list_seq p à v w hd (fun b f kp e=>m a d i b f kp e) atL,zr à:=Ć à e,ake:=s1.2 b,beN à á â ã:=I3.OS (t':=s2.toks) (ch:=[à]) (bj á (zr (ake fun z=>â))) (l_ b á (aI á) (Ep ã nS)),bm5 à á â ã:=bRP (F:=F) (δ:=D4) (es:=[gJ à,jM à]) (l:=[ik á,ik â.2]) bR1 rfl rfl rfl ã (apy _),Nd à:=[gJ à,jM à],ZC à:=(by unfold à;simp),a3Q:=Ę (iW L) C (JM u' r' q (hl j y v' g C e3) r' ?_),axS à:=axT à = ā anF,biB:=.or [.not (Ψ 2),.not (ala [xp (Ψ 3) ĉ])],Fp à:=eval à env,aWG à á:=rI (aS j (à)) (afw (á)),WF:="at_digit",JE:=builtinsNs,aIR à:=.UnaryOp à a pos,RB:=C.N.length,aUd à:=aV7 (l:=à) rfl rfl,UU à:=(qD à,.č),bls:=aUd [UU b,UU e] (bQC b e),zk:=xs.size,L8 à á:=fun i à h=>á,a8r:=bGb b zk 0 zk cg Ķ Ă (L8 x Ě),aMI à:=(à).findIdx? lP=none,agI:=⟨p,q⟩,Jl à á â ã:=⟨à,á,.func â,ã⟩,aG8 à á â ã ä:=Jl (Ì "function") none (bpq n à á â ã ä) #[],Pk:=ī (κ×V),ui:=ī ė,Qr:=ī Keyword,B8 à á:=į aDR,aAH à á â ã:=by have à:=á;rw[â,ã]at à;exact à,ym à á â:=İ (à=true) (á) (â),MQ:=bA W,bft à á:=∃b I,vd tg f (j.drop à) b=ĕ/\G9 H F b O I/\á/\ũ (MQ K) H,uy:=Ř Ă,vM:=PE X b,Zm à:=(à).foldl dk [],Vg à á:=Υ (Ē [à,aCE á]),Bc à á â:=ş à (Į á â),aaC à á:=ũ (bA à á),aHg:=.str "talkleast.checks" 303,BC à:=Í (ķ à),xt:=gJ 0,alp:=dF xt xn,P8:=eT pins σ,bhX à:=by rw[LU hb];rw[cr hb,adW fun z=>aj8 (à)],al1:=oe p (ak p.2),ub:=eM Ă,bBn:=ie (.cmp .IsNot ah (.ę)) (fh (.lst [Ō]) ah),RH:=i8 d c rfl,Ic:=aAq R,ZE à á â ã:=∀à á â p,mG (g à á â) (ã),Dt à á:=tI à (sI á),aBm:=iQ w (DV.bl (p w)),k8:=sortI,To à:=AU à K H a xs,axg:=U' (jh h) FC,aII:=VA C A F Q j S m B,acy:=H9 (k+N+6),ak5 à á:=azO x à Ġ e á b g,wT:=bD.one,EX:=Loc TK x,Yw:=Cl.anew,Q5:=Yw c c,auW:=Eb i (J_).toNat,akG:=[k_,aj],aRL:=F_ (G.Ea ŕ akG),aBz:=Wd i9 Đ rfl,aCC à á:=aX9 (bF6 à á rfl),am0 à:=aCC rfl (à),aRu:=bp1 cp.sc.names,DB à:=bFR (Ω à),Ji:="settles",Ey:="numbers",Rl à:=callC F à cs l,aPI:=I.OS (t':=f_),aaZ:=cc.lookup,ald:=alm Ľ ĉ ù,Pc:="TalkError",bBs:=Nat.log2_lt,azl:=buA C.N Cv C.nc sc,aBo:=a0F (fu:=fu) (k:=k),aH7:=I.base.free b o,aKm:=d.heap.push aEn,alC:=List.idxOf_cons,ap9:="answer_of_several",aqS:="entries_by_choice",arv:="Reader.take_cards",ary:="Reader.take_digit",ar5:=List.filterMap_cons,bbm:=z.cps.toList.drop i,aRF:=bFh P w K mg base N,aAI:=List.any_eq_true.mp,aVq à á:=cU (G:=G) (F:=à) (δ:=á),bBD à á:=aVq ţ aVs (bQ 0 P) (oE à) (d:=dv á) rfl,aMA:=Builtin.List.listLengthHint,aME:=Builtin.List.listExtendWith,bo4 à á â ã ä:=bsw (J:=ac4) wk gw (aXY (I:=ac4) (ń d â à ã) ä),aRH:=one i _ h,bhD:=(by rcases aRH with⟨_,z⟩ | ⟨_,_,_,_,z⟩ | z<;>cases z),awo:=by rw[Ũ,Lb];exact Cg h,Z0 à á â ã ä:=gC v à á (R.val â d ã) v à (ä),aUw:=Int.one_mul,aTd à á:=by show(à)=_;rw[į ⟨á,Ě,ø⟩,cI,aUw],auM à á:=FY (aWi (Ç (á))),aQV à:=by simp only[ĥ,ř,akP,ne_eq]at à,aCM à:=(by rcases à with rfl | rfl<;>rfl),LS:=btO.mp,aOl:=(by intro b a h r;rw[Ż h (LS r)]),aKd:=(by rcases L1 x c e with a | ⟨a,_⟩),bip:=List.map_inj_left.mp,bpt:=mg_none_of X Ns (bip (zz _) x hx),bgU à:=(by obtain⟨c,P,k1,k2,k3,_⟩:=wt ht;rw[bK (ao3 à = A_) (Ř lc)]at k3),acM à:=(Vv Km).sum,ajc à:=fun j d h=>à,aPt:=ajc (eZ (c j _ h)),biQ:=Ē [dM,ĉ,Ē [Lc Ľ ĉ,ģ],Ē [ĉ,ģ]],aks à:=putK à k v,bfJ à á:=by have n:ů à:=ŗ á z;have o:ů (Ą (aks f)):=bL (bLA f k v),Ug à á:=du à (fh ù (á)),bpA:="talkleast.alone",aHh:=.str bpA 428,bpz:="talkleast.named",aHi:=.str bpz 750,aHj:=.str "talkleast.plans" 811,aNG:=∀a H Q,t' a H Q->t a H Q,GQ à:=à ≠ cJ,LK:=aYh h,a9Z à á:=by (refine Sc (LK fun ⟨x,b,p1⟩ ⟨y,à,p2⟩ h=>á));rw[wZ ř h],akn à:=zb (fq (à)),azX à:=ajM (bA à H'),a9c à á:=Å ⟨_,rfl,Gv,_,à,aE7.lookup,á⟩,a9l:=BK (a9c agJ ?_),aQN:=bvw de X.w X.K X.mg vH C,aHQ à á â:=(by obtain⟨_,_,_,_,à,_,_,e,_⟩:=á;rw[â]),aLU:=List.length_eq_zero_iff.mp,aTN:=Nat.mod_two_eq_zero_or_one,a5J:=(by (have:x≠n:=by rintro rfl;exact h v dQ);simp[this]),uo:=0<=rK,aC0:=.str t.1,aVE:=[aC0,Ë bN],Wv:=["no","yes"],oj:=aFE c,abP:=(b::r),axq:=a++c::oj abP,BV:=ī Bool,aOX à:=by rw[Ī h1 à à];have hv:=w3 i _ v hj h2,nQ:=ś Rs,bkb à:=by rw[h];show(axU (aWC à) (ō (ŧ+ad<=Ū) (Out.nx _)))=_,W3:=û I.ok.IB,aMl:=Ĭ -> Prop,awi:=ě -> aMl,bmZ:=by rw[Ĕ a apB.AX b apC.AX];show 1+max pn.deep py.deep+2<=_,acp:=tm N m rows,ab1:=tm a b rest,nj:=Gl X x,ay3 à á â ã ä å æ:=⟨⟨aDR,â⟩,ã,O,W2,ä,b1,L.s9,b2.trans å,æ⟩,abx:=.IE Ľ ù,ano à:=Zq7 G à 100,ank:=oM 58,aDg:=ano ank,EV à á â:=(by rw[z,à]at á;cases â),ac2:=top (zd j).i,wK:=Out.nx,aaI:=E8 pins H,zw:=aov n,awz à:=zw (fun r=>Eh n à),az0:=azO x x dV e j b i,a7o à á â ã ä å æ:=by (have K:e≠Z:=fun z=>by rw[jc z à l];simp at p);exact aaV à Ğ fun á ζ â=>hE á e (fun f o q ã C ä z=>å) ⟨B,æ,p⟩,anz:="blocks",CZ:=J.length,Dc:=L2.start,NP à á â ã:=aC3 à á â (d:=ã) rfl,aav:=aoS X sc c P,ab4:=Look d n m f,aOE:=CE Ï P w,atr:=aOE H s Q u,aUt:=œ (.sW e),bl5:=dg ae (U1 i),bl2:=acr aUt Á i (Ē bl5),a7r:=ZipApart Z U W a b,Y_:=Nat.lt_trans,alO:=rows.flatten,arw:="Reader.take_side",arx:="Reader.take_plan",ar9:=I.base.there b o e,bB0:=PySem.W.isFn K j9,avZ:=Nat.lt_or_eq_of_le,aym:=strKind_is de X.w,aAB:=List.pairwise_cons,agK:=wpAny_of_eq,a83 à:=ĵ (m:=firstArgMember _ _) (agK (a:=A4) aKA à),aPE à:=(by obtain⟨o,_,e,_⟩:=aFU à;exact vO e),af3:=Ī e g g,bcO:=(by obtain⟨o',_,g,_,_,g'⟩:=aZe hb;rw[af3]),R9 à:=Expr->Expr->à,yj:=St->ni,wL:=ā ayX,aRa à á â ã ä:=by rw[bH aYH à,bgj à á l2 l3 l4 l5 l6 l7 l8 l9 â ã lc ä],aRl:=fun l hl=>gx (bvK hl) l1,aJ6 à:=(relabel À à).names.lookup x,aSe à:=(n,(à.1,à.2 ||| 1<<<n)),CU:=(2:Nat),aOv:=i==pos'.line&&j==pos'.col,bhc à á â ã ä:=⟨aWB,aWB,fun {à X e ã á r} g â ä h=>?_⟩,ww:=ī Ko,aPx:=∀i∈aoB tg,ŋ fr none,afb à:=∃mR H',aIn mR/\à,xN:=Υ ő,awU à:=xh (∃o v,azk/\à),ZN:=iu=wy v,bh3 à á â ã:=by (have à:awU (cC c=ĕ/\ZN):=fun c á=>â);have ã:Mw:=⟨à⟩,wc à:=bX a (à),arQ:=aja fs,afL:=wc arQ,anj:=Ë (qs i t w),jN:=dG r,FB à á:=qW à (.lst á),Fo:=qW a,vC:=Fo o,bnu:=List.ext_getElem,a9F à á:=(by unfold gM;apply bnu à;intro i h1 á;simp[Õ á]),Ad:=apa p,am4:=Ë (tx p),bn5 à á:=∀(p:Pl) (k:Nat),Ad->ht p<=13->à<k->Ê k á [dv p] am4,pH à:=by show à;omega,bno à á â ã ä:=(by obtain⟨à,á⟩:∃à:Nat,â%ã=anC:=⟨(â%ã).toNat,bL (ab6 â (cP (ä≠0)))⟩),Ch à:=Bq s à tk,aTS:=(xJ,.č),blH:=mN l [(aci,.č),aTS,ik Ŭ] rfl rfl q,Us:=kI rows,XG:=aXa K C,aVD à:=show à=sO [32] by rw[←apJ];rfl,afx à:=aW5 fun i j=>.bl (à),GA à á:=aFe h fun à h=>á,TV:=bMF G F,aNd:=bp1 c.sc.names,ajY:=aFN m.N ZO sc,aUq à á:=rk.ld à (jS á),afp:=J.AJ i H x H',afA:=Builtin.bitXor,afI:=beq_iff_eq.mpr,aia à á:=wpAny_fieldsOf à á ?_,T4:=v.toNat,bBu à:=(by obtain⟨n,rfl⟩:∃n:Nat,v=Æ:=⟨T4,bL hp.1⟩;rw[am à]),bnh:=List.ext_getElem?,aMt:=bnh (fA j),aTh:=Nat.ge_two_pow_of_testBit,a5T:=PySem.W.fnOf name a c body À dV kV B pm X d U,aRR:=f7.start,bh0 à á â ã ä å:=aRR (D:=C6) (N:=à) (ds:=á++cs) (vs:=â++ã) (n:=ä) rfl ((adX å n3 rl).append (adX å n4 rc)),bcb:=bru (p:=p) (pos:=pos),bcq à á â ã ä å æ:=fun à (á:fH à)=>bcb â ã ä boot_isinstance (lI á (lI å xQ) (bf æ)) Đ Đ (bf æ),CP:=b∈l,aaq:=by by_cases hb:CP,acX à á:=[8,8,à,á].getD i 0,lr à:=iT (à) re,bof:=Di gH (xq 1),biA:=.bi .any [lx bof ĉ uO],aSv à:=dF (gI à) ù,bjd:=ie (aSv Ō) (ł 84 [ģ,gJ 3]),Li à:=(à).bind _,bkA:=by show Li (AL (kk NI) _ (oe p iJ))=_;rw[bxR,a],aty:=A.deeper,XQ à á:=lH à (aty á),ph à á â ã:=by rw[à,á]at â;exact ã,M8 à:=(by cases(à:ă=true)),WN à á â:=by rw[à];rw[á];rw[â],bdX à á â ã:=fun i H x à d O2 s s' y e ho=>WN (gn á y y á) (tH â (ã)) (cA â (aFw.mpr y)),ajp à á â:=by (refine anG (á));rw[â],a73 à á â ã:=YJ à fun á c=>İ (c=cJ\/Ū<â) none (aEI (OL (fun d=>Ź RF δ' ã) á)),bnl:=List.mem_of_mem_drop,bnm:=List.mem_of_mem_take,bns:=bnl (bnm hx),wE:=ā (dt c),bBW à:=[xp (De gK) à],az3 à:=De (bBW à),bpd:=aAk (Dh 2) 2 4,bjD:=.lst [Ē [ł 92 [ly],az3 ly],.ix (.var 7) bpd],avL à á â:=İ (à=xU) (Ef á ds) (xR G ŕ â à ds),qC à á:=Vx (blv (á)),t6 à:=Å (ĵ (à)),FW:=d.jX,CS:=FW=true,yK à:=by rw[pH (à)],Nm:=(sF r),asB à:=pv (∃i j,x=ĭ/\y=aj/\à),aQT:=(bgt).env.scope.names.lookup x,boh:=Ę bTt g (qc bAc (bzR (oX bTo) g (Ć bAb (DN b)))),KS à:=B9 (.od à),a4x:=fun R eb=>cG (aab (bj f (eb b o f e)) O N M L J),fR à á:=(by unfold à;rw[á]),arD à á â:=k0 P (kg P à á) (kf (kC.take â)),zn:=bBk=true,S_ à:=(à:tG).elim,abo à á â:=Io [ĉ,á,.oS â],aKy:=seqItems?,beS:=BM beY rC (aKy (ċ S)) _ (FP gS rfl ?_),bpw à:=aZ4 (ac _ (ċ _) à (fun H=>aYO.mpr (τ _ à))),boM à:=show Î _ by have:=X.ln;show Ą (vb i++32::à)<=_;rw[nX],baD à:=∃p xs ds,v=eU/\d=Ŧ/\H0 p=none/\tQ p/\GR (p::à) xs,aNf à á â:=qg à==á&&aiS â&&sg.bl.contains â&&KQ â,bfx à:=∃b w,IN e f m b=ĕ/\G9 x j b O w/\à/\azh W x,am9 à á â ã ä:=[ħ à,Nq,HR,fq á,ħ â,ã,ä],bov:=am9 p.D bs (Pn.fin qF).D x y,avd à á:=pR a x (fO (à) (pR b y (á))),MO:=s _ _,bbZ à:=fun a à=>ED o e m (hd.wl a à) (MO (hd.same _ _ e)),beV:=(by intro j i q n U v tb c hr hj I sm Z fJ hq gS P hv rv b3 m),KZ:=ā cs,aDx:=f9 (r.drop 7) 2,QQ:=q.extBut,a69:=fun i j g=>f i ⟨j,QQ g.extBut ne⟩ g,Xp à á:=∀o,yM à->á=ĕ,asL:=j.toNat,Yx:=2^asL,K8:=by show pS _ _=_,bhE à á:=⟨Ĝ a à,zK,Ĝ a à,Ĝ a à,á⟩,Ff à:=Q (.bl à) H,X5:=(Ì T),a50 à:=typeLookup X5 "__getitem__" = pure (ā anF),G8 à á:=Ń (ψ à á),bku:=Ĥ (hv R) h (wD aTk),bky:=[NE,ļ C,Aw bku,.no],Ve:=bp7 o,Vd:=dv Ve,bgX à á:=by (rw[pC à á (mI á) (bty á fun ef ea kn el kp pos á=>?_)]);rw[Cq ei á],ane:=oe t bN,aCv:=AA (jW xL i9),aBM:=oF (aUc l),aBF à á â:=(by unfold à;rw[(Wi _ á).2,Þ â,CK]),kW:="set",Lk:=FT Nat,azJ:=t7 (Ĝ r h) r h,az2:=max (ht a) (ht b),aH1:=nb (d b _ q fun z=>z) q,Kd:=aW9 X.K C,bhR à á:=∀(m:Nat) x,ĳ adN m x->∃d à fd ps,ĳ á m d/\akW à fd ps,avD à:=ack tg à F body ds δ,aUZ à:=adJ (Uj (aDj ą) à),N9:=R.map aer,ju à á:=(à==á)=true,at1:=ju k BE,a6P:=if at1 then Kx r (_::b)else Kx r b,BQ:=DV.bWW,alx à:=.an5 0 2 [Vu],MJ:=gT X.K tg,aCu à á:=lg (Ą (FI (bzz m à á))),Jq:=hashInt k,Jv:=es.toList,JK:=I.aD6 x c,KN:=ns.length,LN:=is.length,aUT:=cd ((ael R).idxOf r) amN,aBT à:=aGB l K à (oH w),U7:=ls.length,Qo:=wpAny_call,QX:=PyData.eqv,akH à:=aV1 adM à pL ř,abX:=wp f R C w,bff à á â:=by have f:=h;exact(bC5 C à á).weak fun u m H ⟨i,O,W,R,g,fo,sm,k⟩=>eg (fun s s1=>â),aOz:=defaultsOf,aye:=aOz pr Ó,beH:=h1.update jo akg,blI:=aE0 G (lE 11) fu,az7:=.exp (Ψ 14),aBJ:=aL 6 UT,blJ:=blI az7 aBJ,aqa:="answer_of_table",aqd:="reduced_in_twos",arq:="talkleast.parts",arA:="Reader.at_digit",arC:="Reader.__init__",asP:=foldedSetIterable,auE:=PyData.canLayAll0,aMO:=kas_st κ it (aiy (r+2)),bqk:=PySem.W.kitx_dict,aJE:=atK lo hi none n,aMD:=Builtin.List.listSameRef,aPK à:=IsEnumOut à n c ayJ x,aP0:=I.u_ (H':=H) yC (fr 1),aQt à:=wpAny_isOneOf_itemiter (ty à),aT3:=Nat.pow_lt_pow_right Đ,bc8:=(by obtain⟨a,T,h',tk,rfl,rfl,d,n,m,i,g,f,l,j⟩:=q;rw[bBl]),bgA:=by rw[Ab (bs8 c (Ý ea o eb p c)) ř c,cq n m l c],alG à á:=by have a:à<ao:=Ć R.1 á,LB:=MM i,beX:=∀j,j<gR->LB<=MM j/\(j<i->LB<MM j),bBy:=by rw[Ż x 0];exact 1,aOO à á:=∀v à,ũ á à->si à d v->Q v à,bcP à á â:=⟨W7 à á,W7 à á,Ý b o e n á,un.there,Bb â,PD x e,Bb x⟩,Do à á â ã:=∀{l:à},(∀á∈l,â)->ã,ate:=(by rw[đ t e (r)];cases e),aiQ à á â ã:=∀à á â p,mG (g à á â p) (ã),aA4:=(by unfold cutD ady;rw[bv]),aO9 à:=(by rw[đ y1 y2 (bKu à l1)];subst y1 y2),aOp à á:=by rw[Š d1 c1 d2 c2 rfl à (bFE á)];clear á,aPr à á:=(by cases à<;>first | (intro _;rfl) | cases á),q5 à á:=by refine à;refine á,azA à á â ã ä å æ:=(by obtain⟨k,fa,fd,ps,à,á,â,ã,ä,fo,dk⟩:=g.fns f å æ),awf à:=İ (à=true) _ _,rT:=bGj w,a84:=aMi bq (Lq A (awf rT) Q E s),be7 à á:=(by rw[aJ u1 rfl à (Kb r1) u2 rfl á (Kb rz)];obtain rfl:u1=m9 a:=à),zX:=bf hs,ajw:=aFK es,bds à á â ã:=PySem.W.callWith_F (à) (χ (A pos a s1 á â _ Z h) us s2 B0) zX (ajw ã),aVa à:=à%2=0\/à%2=1,bkg à á:=(by have:aVa (à/2^á):=Ě;rcases this with h | h<;>rw[h]<;>rfl),Yy à á â:=Ρ à á (â) _ none,bp3:=fq ds,avu:=ā bp3,bkc:=(Yy Τ avu (pS _ _))=_,bbf:=by rw[VA p m q F g L l n,Š C B N A y u (l it Ğ)],bc1:=by have nl:aan eO (b∉l):=fun {b} n z=>ajH b z n,tu à:=(à).toArray,aPT:=tu aPU,Ye à:=fun z=>by rw[à],am3:=Ą N8,a6h:=⟨ć iH,H,tY,⟨f_+1,ŷ b_ a⟩,q⟩,biP:=Ē [qw,ĉ,Ē [az,Lc ģ ĉ],Ē aby],aa1 à á:=by have à:=ao4 á;rw[Mp à],KM:=ī mS,yX:=ī bBm,Xi:=đ t rfl r,aPz:=.ok true,Dk:=ž rfl,zq à:=fun o e=>à,a4D:=fun i h R st k=>st.at (zq (k it Ğ o e)),bbg:=fun i h J st k=>ED o e r st (k it Ğ o e),ami:=Î bl.length,CJ à á â ã ä:=Ŷ à á â (eJ ã) (ä),aal:=(GL r),bb3:=CJ ms g f h (ĩ v vs e d c aal),iL:=e _ _,eA à:=sw 1 (à),um à á â:=pS à fun d á=>â,abR à:=pd 10 (DS w),Zv:=gr (aaL I),yz:=BH _ s,nv à á â:=qP à rfl á (â),acI:=.ask s c,HX:=.fn J.nm,eS à á:=by refine à;exact á,F5:=.dJ _ _,jI:=bp2 D,zg:=BP _ _,aaK:=zu #[],GD:=LJ Expr,aTj:=(qw,h,(R,C - h),(R,h)),J6 à:=aWD ζ st (à),Au:=Fa Int,FU:=.lam _ _,ahK:=runM G T fu,aua:=own++cl,agz:=af1 aua,E3:=Operator,Fg:=j.length,F0:=s.length,Go:=SetTable,Z8:=s2.trans,Te:=R.cV.ot,Hh:=L.length,Uk:=col rows,acP:=u6 ŕ,bor:=ano acP [T_ 63 Hv] a,Ia:=R.length,aww:=kasC_bind,aMQ:=aww (kasC_get ?_),Zg à á:=by rw[à]at á;split at á,anu:="_law_rows",a9G à á â ã ä å æ:=J7 à ⟨_,_,_,_,_,_,awA,rfl,aMa (A:=rC) á Ģ l (ke â) eP,⟨RS,ã⟩,bG7 e,ġ ä å æ⟩,awh:=Nx prog w I,ajE:=Cells l Ĳ H,afl:=wpAny_standAt,a5Z:=if v<0 then(v+Æ).toNat else min T4 n,aIp:=wpAny_loadName_cell JJ,aMe:="set_iterator.__next__",aMm:="set_iterator.__iter__",aTD:=byi (m:=m) (rows:=rows),bbC:=(by have:=E4;cases c<;>cases j<;>first | rfl | cases this),atF:=V->fL->fL->PN,gq à á â:=by rw[à,aU á (â)],gc à á â ã:=by rw[à,υ á â ã],aCZ:=(wO x).plain 60,ayL:=fun q=>g (bg q),wj:=.list,bji à:=[du 0 (.bi wj gK),Hy 2 [mM 1 0 4] à,.ret ĉ],a9x à á â:=by rw[đ à e g.allInts.items];have en:á=â:=by rw[←g.numsOf,←nums_intItems,←e],rG:=ś Sv,qV:=.lst _,arm:=Ì "ValueError",ZP:=bD.IG,baB:=⟨a,o,ρ,e1,ou e2,e3,ZP hw m' e4⟩,qo à:=p _ à s1,bBY à:=by refine anG (ń w H Q (eg k));rw[MT a A P K r m hi],bB1:=û (ø:2<=2^1),su:=.fin v,aVF:=oe t aC0,aBY:=nD (vA (aB1 n)),av1:=FT (Int×ě),Zj à:=Tab à (!rT),a4n:=by have:QG=Co:=b;rw[Ī k this this],KP:=insI x,uC:=btK.mp,asZ à:=aiM [op,à] [b,c] pos,asX:=aiM [op] [b] pos,aCA à:=OM 639 a dx (stx à),acN à:=a1x (x:=à) xL,LC à á â ã:=(by rintro⟨à,á,â⟩;rw[ã]),Hk à:=by rw[à];congr 1,aSg:=.chain .LtE .LtE,ayf:=vm l aim H3,bh1 à á â ã ä å æ ç è é ê ë ì í î:=⟨rfl,à,Ĝ y á,Ĝ y á,Ĝ y á,fun y á=>á,fun y á=>á,rfl,â,bv8 hT hs ã ä å,æ,ç,è,(é),CY,(fun z=>⟨ê,⟨k,å,ë,ì⟩,WM w⟩),aRK,(í),fun z=>bv6 (î).2 (î).1 å⟩,abU:=by push_cast;rfl,asq:=.IfExp c a b pos,az1:=HS K mg fn bl cl,ap1:="_law_plan_text",ar0:=X.env.scope.kind,ar6:=s.heap.FunFrames,aJ8 à:=pushCells à mu,aKq:=a.heap.push aEn,a63:=aJ8 (rB aKq brP),at6:=sc.names.map lP,auD:=List.getElem_map,awn:=wpAny_newList ?_,ayx:=List.drop_length,aAQ:=Nat.zero_testBit,aBp:=Eg (d:=oz) rfl,iF:=ā j,aRm:=fun z hz=>ha g hc.2 hz,X7 à á â:=by rw[à,←á];exact â,arR:=aQn P w,bfA:=∃xs,KT H b xs/\h.DictOfH arR a xs,aHX à:=∀b u,b≠e->à=Δ->vF=Δ,aR4:=ō FW (Ou.v d ă),aPq:=Ş b (∃k,t k b H Q),azK:=by have:=b.2;rw[Hr this],boY:=((d:Int)==0)||((n%7==0)&&ü (d:Int) 3),bcJ:=Ø bm ob b1 b2 b3 b4 b5 b6 I.ok.mod.bmod,aTa à:=Ρ d à (lB Qx) _ ă,jP:=lE 3,bi2:=fh (alq 69 3) (alq 69 4),az5:=uQ 2 0,biC:=De [lx (HA Ľ ģ ĉ) Ľ az5],Be à:=RU à Ĳ,aaA:=(by simpa using this),ani à á â ã ä:=show à=á++â by show ã++32::ä=_;simp,biV:=.IF ĉ Dg (.sW ĉ) (ach Ľ) abz,aVV:=bAA Đ rfl X,aVU:=bAB Đ rfl,boQ à á â ã:=by (refine⟨aVV (aVU (à)),?_,aep fun c á=>bT1 (Wn â) á⟩);rw[Ĉ iZ (Ñ (ã))],aNi à á:=aoE sg i m à fun as=>aiY á as,Uq à á:=OW (F:=à) (δ:=á),Ww:="entry",aT1:=[Ww,anz],aT0:=Nf 28 aby,biI:=.aEs Ō aT1 1 aT0 [2],aNb:=awP (Cs[f]? == bI),aOw:=PySem.W.CodeHd Ĳ c P,bgy à:=.of (fun {a X e δ r} g b à=>?_) hw (ń a e c b),aCN à á â:=(by rcases bTv à with á | ⟨p,hp,â⟩),beh:=a74 c n.length d (OK fr) [] (a δ') n δ,a79 à:=Rs.Ee δ à fun l=>(bFJ i δ p.1 p.2 l d).map wK,aQE:=List.mem_filter,bgd:=by simp only[C4,aQE,oh,aX,ne_eq]at h ⊢,aQG:=bMu X C a dx t H O W Q,a7m:=Builtin.«zip.__next__» ⟨[ċ Z],[]⟩,bhl à á â:=aZV.s1 (fun {à X e δ r}=>á) agh fun à e â=>btE â (j_ ζ rfl),ae5 à:=fun à=>d (bg à),pw à á:=by rw[į à,į á],akI à á:=by rw[dr aFr à ř];exact á,bg5 à:=⟨mh,k,B.tok _,ce,p _ k sm (zL à:si k _ _)⟩,bmz à á â ã ä å æ:=Ų (vg à á (show adA Xy â ã .č .č=ā (qm (ć (ä*amK å)))from į ⟨pu å,Ě,æ⟩)) ?_,KY:=aEO ks,a7X:=ds[i]?.map,bmQ:=a7X fun d=>qm d,bmR:=Ź KY i bmQ,Jy:=Rd H a,Pr:=.dT ρ,bfB à:=∃ρ k b,Jy Pr/\y=ċ b/\à/\r=x3 ρ k,agm:=(Kw).In,a6M:=bpT (agm h),Nc à:=.bi .sum [à],a5I:=cD pins σ Q (SU (aWU I hg hm ?_ aEi)),a4S à á â ã:=by refine wpAny_pyIter_range (IsRange.new ..) (à) ?_;have á:PL â H (aWE ã) tk:=ZB Bk,alr:=.an3 ģ,bje:=Di (alh uP) (fh (gI alr) ù),a8N:=fun i=>ns.getD i 0,a8O:=zo h' Ģ (fm a8N pJ),bbX:=by rw[fM m (Ė j v rfl (eJ a))];rw[ĥ,ĥ,aX]at m,aA5 à:=ā (à:Int),bnr:=cutD (iD xs) (aA5 a) (aA5 b),bjY à:=cU (a:=à) (b:=ŭ) (cx:=.č) ą (oE J8),beA à á â ã:=buW (ix:=à) (us:=us) I fD fk V7 hk hD Ă (á) â b3 fun s' c J g=>h s' c J g ã,a5x:=(ā (ja "getset_descriptor.__get__")),SH à:=(adQ.mp à).1,ajC:=(C _ A).weak,U8 à:=2^n*_+bs n à,aB6:=p.1.testBit U5,aO1:=[(ya,m),(ķ y,l)],biL:=[fZ 4 31 [sC 30 Ō,az,Hw ģ],bBn],aeE:=[fz,"side"],Me:=(a:Int),NG:=(b:Int),pE:=ċ l,BL à:=by rwa [à],bdV à:=fun i H s hi=>⟨xs,xs[i]'(BL Á),à,Õ _⟩,yL à á:=⟨_,_,à,á⟩,tZ:=.str i,bfV:=Builtin.Dict_items.ownsTuple akz = true,aCR:=İ (lB t) a n,amr:=f p.1 p.2,aJZ à á â ã ä å æ ç:=∀base:Heap,à->base.Ns io mg->aEg á w â mg base ã ä å fd [æ] ç,bgB:=ĺ (bti c (Ý u o s p c)) (Cq ei c),bdt:=⟨a,ob,ρ,e1,ajS e2,e3,adX hl m e4⟩,Gm:=(b+a)/2,Ph:="cards",aHq à:=[à,"side",Ph,"no","yes"],ajV:=PE X ea,bfc à á â:=∀{ta:TE},ajV ta->PE X (aP4 à pos) (Ş á (adl ta anV á H (â))),CG:=aY rb,arU:=m_ b o u,a3s:=.oP o u,aeR:=ā a3s,a3z:=∀b o u,arU->H' b=aeR,js:=aQ p,aaE:=buG O W,ayr:=jG (aaE c),u3:=.fin w,BS:=.fx ns,axe:=ć p.2,axd:=oe p axe,aSz à á:=ie (aSA à ù) (ł á [gJ 2]),amL:=i8 ą,DL:=aB1 n,By:=pj Ķ,ak8:=.ask r c a b,DQ:=ve aVL,ahP:=sh bp3,mi à á:=by simp only[à,á],aST:=t7 (ŷ Ċ bO) r a,bbl à:=max 0 (min (if à<0 then à+Æ else à) n),acF à:=wO (stx à),MF à:=R.own j à h,a8Z à á â ã:=∀(A:bJ) (à:cF) (á:lY (ś (ě×Nat))),â->iE (setNext a ã i ep) á à s,aDi à:=Av (aE3 à Ņ Đ),afH:=Qe prog w A,be3 à á â ã ä:=by refine(C ha).weak (lq à va H1 g1 (τ va (Ý f á â hn ã)));have ä:=zQ â,GG:="rows",Cm:=Eh n p,bec:=by rw[o]at g;refine τ δ' (fun s I s2 R2 K k1 M=>?_),amD:=kx eC j,aUA:=UN AB amD,TW à á â:=azr à np s1 s2 á â,azw à á:=aFi à (akL p á),UY:=aGx f w J,DI:=a05 w x,agi:=aWQ agl H,aAb à á:=.aEv 62 à á ["r","c"] 2,ajW:=azm m.N m.np,Pe:="plan_of",Po:=TriplesOk,PU:=I.ok.glob,RO:=scanBound,akD:=(yR f),Gd:=G.aod=ă,atk:=FH aJe,aJb:=rB atk (WS Ģ),a5L:=fun v hv=>(Fu e).1 (aJv hv).1,a57 à:=pv (∃p xs i v,x=eU/\y=ĭ/\à/\Ov xs i=j0/\Q v H),bkx à á â ã:=IY (elt:=à) (tg:=eF) (fr:=uQ 0 1) (f:=fun h=>wD á) â Đ (þ (apm ã)),awW:=bD.mono e,bax:=⟨a,o,ρ,e1,iL e2,e3,awW e4⟩,au à á â:=by rw[à];by_cases á:â,a7n à á:=afq A à (fun á s'=>∃v,á=.done (.ret v)/\Q v s') E s,qd:=(f a),acU:=(vb i),Tq:=kz.length,Uo:=LawfulBEq,aR8:=azO EA q Ġ b e a d,aH8:=I.base.keep b o,aMC à á:={s with heap:=à,toks:=á,drawn:=d},agx:=@LE.le Nat _,ah7:=items.toList,aip:=h'.objs.size,ajG:=s'.heap.get?,ays:=Nat.succ.inj,akx:=List.any_map,apY:="_law_question",ap8:="answer_of_run",aqg:="lines_in_twos",aqy:="leading_place",aqC:="sets_of_kinds",aqI:="least_numbers",aV9:="_law_due_here",arG:=kHook VE zB kE,ast:=wpAny_execs_nil,asD:=letOwnedTupleGo,auz:="list_iterator",axX:=List.find?_some,FE à á â:=Kh à á (.lst â),aOs:=L2.gM .ę,be1 à á â ã ä å:=aP6 à á â ã ä a (å<=64) F (D_ ks) H' q (H' q=none) (FE q H' (aOs â à)),aSd:=a0b v m n (v n),aIs:=I.mod.glob.keeps I.bk,aIO:=List.mem_filterMap.mp,aI7:=PySem.W.hasDictIn K C,ajf:=p.step,baZ:=bt9 f L_ (k.mono s2) (ajf Sx),bgv à:=(by rename_i x q;rw[ň p rfl (Ej q) (wZ ř à)]),bia:=(by obtain⟨_,_,_,_,_,_,q,_⟩:=h;cases q),J3:=(ċ it),K4:=ē->fe,jk à á â ã ä:=by rw[aDT];rw[ä],a6Z:=∀b o,d.heap.get? b=ĕ->U.get? b=ĕ,nU à á â:=by rw[Ù à á â];rfl,bjQ:=by have a:Ŭ<(Ą (CW É):Int):=aLG;rw[bBo],Θ à:=by rw[à];omega,ban:=∀x y c,agB->aWq y=ū->x=y,a38:=χ (n d s f H _ I h) c s1 ⟨k,j,i⟩,a39:=χ (l e s f H _ I h) d s1 ⟨k,j,i⟩,ajQ à:=Κ à (ha q à),JZ:=pure ă,bem:=aJ a8 rv p (I.vp S) M J p2 (I.vp R),a9R:=let ⟨t,h⟩:=aYE h;⟨_,_,h▸t.2⟩,Mh:=FR m h',bbk à:=⟨iV,_,_,_,d,rfl,c.kept Bk,à,RS,i default,q⟩,JW:=X_ K xs,mj à á â ã:=by have à:á:=â;refine ã,aak à:=bqd VO à,ayj:=aak fa,auj à á â ã ä å:=aWt (VP aWs ä å),a7D à:=by rw[RZ m f m (pJ - à) m 1 1];rw[f,List.range'_succ]at hr,a9Q à:=∀g b a v q p,ZI (f g b a v) à [⟨a,v,q⟩],alH:=sub rows,bm7:=by rw[đ aGI t1 (pre k)];let F:=acy,Jd:=Prod.ext,XI:=Meth X.K C,Kr:=d.length,avB:=bsj i δ,Tw:=q.length,MN:=K.length,agr:=l.lookup x,W1:=I.ok.above,aLt:=aXW G F fr,bhB:=aLt (MY es w) (xV w fr) w[i]?,bad à á:=btD e fun c=>à && !isSet c.it&&(Ei (bH5 tg c.tg) fun tn=>á),lD:=(k+2),bg4 à:=by rw[Ĩ s1 s2 s3 s4 (azo g h1),đ n1 n2 (bMY à)],xG:=akN.1,li:=kX.2,qz à á â ã:=Vw (Dq â (ã)),kr:=[a,b],JY à:=fun D σ H=>à,Bu:=x=Ŝ,a4L à á:=fun σ H R=>tl σ H fun x H1=>∃a,Bu/\(∃xs,à)/\R (á) H1,aPi:=(by intro d z;cases z),afF à á:=∃k,brb X.K x à k/\á,Z2 à:=fun σ H Q ee=>à,E7 à á:=Ĉ (Ř à) (á),aiJ à á:=ś {t:à×Pos // e=á},aSq:=ł 31 [Ō,ģ,ah],bjH:=[Ō,ah,ly,.sl Ľ (ć 7) (ć 9)],bp4:=ň á rfl â (ã),Qa à á â ã:=Ţ à bp4,bdN:=⟨a,ob,ρ,e1,G_ e2,e3,aZi hp e4⟩,aS3:=Ä decide_eq_decide,bnC:=by refine⟨z,A,R,N,M,L,K,J,I,H,E,?_⟩;rw[bR a0q],axj à á:=∀σ H Q,zN à σ H Q->á,bgC:=by (refine bHP f fun C o y B A p f=>?_);rw[bBp],a5X:=cD a d Q (SU (aEa I l k hv ?_ j c)),aHo:=#[sD 1061,aAo 1062],aHm:=#[Ua 1074,sD 1075],aHp:=#[sD 1058,aAo 1059],Hs à:=wZ ei à,bdO à:=upd H2 a (.oP à (.dK [(ya,v),(ķ y,w)])),aPR:=P (.done (.ret Ġ)),a2I:=[tE,lN,xu,Nh,qO,"card","bit"],aQK:=xh (∃x,aaZ x=ū),aUD:=.dJ [.s lN,.s xu],bhO:=fun ad7 bOC A Ï s H vs Q E hr h=>?_,awI à:=adL h fun g ζ p h=>à,abZ à á:=Ñ (ÿ à (á)),bnB à á:=by show wM _=_;exact abZ O (bBq à (bp5 n B S (bp5 m C Q (á)))),aLH:=uu (dF a b) (i==j),Uw à:=bBr à rfl,amP à:=aWx (Nw s) z à,E2 à:=(by intro à;cases à),aPN:=aaH Ĳ n c k old,WP à:=vs.getD à Ġ,amc à:=aTB aG 1 à c d,aWd:=ai ce (.nil),bpv:=aDI [Vn,"WORD"] aWd,Cd:=(· < ·),aLP:=l.Pairwise Cd,aMk:={ s with heap := a },aTv:=Nat.min_eq_right Ă,bnd:=bzu rows q (p++[r]) (zr rq) ?_ ?_,bmK:=List.Nodup.idxOf_getElem (bRE rows) t,a3K à á â:=(by obtain⟨m,⟨o,es,ep,à,r⟩,_⟩:=id pf;rw[đ sl á (u.any à PB â)]),bg3 à á â ã ä:=(by obtain⟨C,r1,r2,r3,r4,r5,_⟩:=g.rd (bMo à.2);rw[Ø k fa fd ps w1 á â ã (r5 à.1 m n ä)]),gX à á â ã ä å:=by rw[à,Ĩ á â ã ä å],aum à:=fun o z=>h _ o à z,xE:=cT<=5,xD:=lA<=5,aB8:=(NW n).map k3,a8R:=by first | rw[ŝ ĸ] | rw[Í ĸ],aCL:=∀x∈r,N_ x,xl:=ī β,au2:=.ok ds,aCi:=Ĵ (wv J f w),bk8 à:=by (have e:bw ([n].filter p)=à:=by simp[bw,a]);rw[e],art:="block",a2J:=["bare",anz,"most",art,"others"],aNy à:=by refine⟨a,xs,e1,?_,à⟩;rw[aJ1 e2],bBt:=en eL,vL:=yp vs,ajn:=a::b::r,aAA:=.and ajn,aAi:=lh ĉ,bjF:=aAi (Uh (dg 2 10) (mM 1 2 2)),aCI:=aGR c j,bn9:=St aCJ (sd::(aCI).map (48 + ·)),w_:=vk ds,axA à á:=K2 rc z (AM à á z) k,ayZ à:=EQ (bu2.mp à) z z,Ku:=d.body,bpf à á â ã ä å æ:=uY F à es [á] (l:=[(rL R,.č)]) rfl rfl (bAx (fu:=100) (k:=â) ŵ (ű gw) ã ä å (Wn æ)),ayg:=aoH m pr bd sc,aCQ:=Pn.ask s c n a,ap5:="_law_doubled",ap7:="_law_cell_at",aqf:="base_indexes",aqh:="rank_in_twos",aqw:="check_number",aqJ:="ends_numbers",aqK:="bits_numbers",aqO:="cover_within",aqT:="fewest_cover",aqV:="columns_with",aq6:="column_kinds",ark:="__builtins__",ash:=TP X pins σ Q,as6:=PySem.W.lookIn,aun:=wpAny_newTuple,avh:=G.vc.lookup f,av3:=List.Perm.cons,ayk:=PySem.W.kitAny,aT8 à á â:=blP (apt à á l) e (apt à á (uU (â))),aBK:=bQ0 (cx:=.č),aB3:=Builtin.bitNot,atB à á â:=(by have à:=á;rcases â with â | â),aKO:=List.range',a70 à:=aER G F np nc à (xV δ (aKO np nc)),beg à:=(by rename_i m;rw[Ę not_or m (ax aEI à)]),be4 à á â ã ä å:=bLb I' lo à rfl h1 h2 h3 L T á â hN ã ä (G' sm) (å) (rp.mono sm.wo) ru (k2 i _ n hd hn),boA à á â ã ä å æ ç è:=bAp (P:=ac4) (h:=fun (â:Nat)=>qt ã) (v:=rg) (I:=fun b=>ä) (tg:=uR [å,æ]) (body:=fun a=>aZ F [ç] a) (l:=Ο è),EH:=H a=ĕ,K1:=au6=ă,a85 à:=by rw[Ĩ p c hx b (id à),hL setNext (ah2 c b f ?_)],bf1 à:=by rw[Ŷ ok ov g st (à),Š B z2 z4 xs A z (bvh I W hd)],TZ à á:=(e0.Ν à _ á).1,uT:=[ba],RV:=(i:Nat),afR:=⟨us,[]⟩,aPw à á:=∀q,ri=fN->PI X à á (Tj q),akd à:=⟨à,i,j,a+1,h⟩,aB9:=Ē (aUv p),EY à á â:=by have à:=á;rw[cA à (â)],a3C:=env.cells.lookup,a6R à:=∀y∈à,FL->∃c,a3C y.1=ū,aOY à:=Ĕ same à xY R.cV.xY,a7w à:=by have e1:Heap.IsTuple (aWn h0) l1 VQ:=q1;rw[à],Pp à á:=bX à (.own á),aHY:=e=x\/Pp e x,aeU à á:=mg à = ā ac6,Ps à á â ã ä å æ ç è é:=by rw[Š à á â ã ä å æ];exact⟨à,á,â,ç,è,é⟩,mD:=kh _,JF:=.str q,aHI:=ĳ vs 1 (JF t),aPy:=.ok ă,F4:=ſ Nat,GC:=ſ aE,aHc:=Ì "BaseException",aRA à:=[ak C,.ę,.ę,k_,ć à],aHe:=en P "__qualname__",a4r:=ab (Ĩ a i r m j) o p l (y a i m),EU:=j_ e e,LQ:=h_ e v,agW:=.NotIn,aSB:=.cmp agW ĉ alv,aSr:=.cmp .Is cR (.ę),F8:=f6 d c,aAN:=vg ą ą,HZ:=W9 rows,aOa:=fM p (Ī ĥ p a),GZ:=TJ h h,Hl:=Cb p k,bnF à á â:=mN l [ik à,ik á,ik â] (eG xL Ņ (jW rfl i9)) rfl q,ai7:=xX.aoI,baG à:=lT a xs e b d (uC à) a xs e (ai7 b) d,mw:=fresh,qf:=isSet,aOF:=uI z (ajH _ z q) q,bed:=fun d x U g δ' o s I s2 R2 K Y=>?_,Fn:=aW9 K C,ER:=I.pin p,aM6:=sc.kind,Ss:=R.inj,aj4:=Ss j k a,amJ:=(l:Int),aUQ:=Eb (amJ - 1) l,agn:=h.Ns io mg,a8d:=ahM fd.np ţ ahJ (aL fd.n ds),aVu:=aCH n rfl x x.toNat,atd:=AH.some_of,agk:=c.heap.get?,agP:=DecidableEq,aK9:=G.gk.lookup,aVG:=aK9 (stx v),amR à á:=bPh (fu:=à) (k:=á),aIb:=I.base.slot b o e n,aMH:=assignEach elts env,bjB:=aSJ (.var 10) abC ŭ (.var 9),aCD à:=bST (fu:=fu) (k:=à),boa à á:=AN (i:=1) (d:=Ë [à]) (cl:=.č) (be (x:=á)) rfl,aDA à á:=(by obtain⟨_,_,rfl,à⟩:=a1R á),aI6:=PySem.W.plainGet_of,aJC:=z.cps.toList.length,aMs:=List.toList_toArray,ba8:=ne_true_of_eq_false,aQF:=W.filter (· ≠ a),aRd:=List.isEmpty_iff.mp,aS6:=rows.flatten.length,aTG à:=Nat.pos_of_ne_zero (DS z),aUa:=List.filter_sublist,bkN:=(by rcases bQd h with⟨g,s,_,e⟩ | ⟨g,s,_,e⟩),a3w à á:=(by obtain⟨z,y,à,r,g,i,j,e,c⟩:=x;exact⟨z,y,à,á,g,i,j,A',c⟩),Fv:=start,a5V à á â:=∃t,Oq (à) á t/\t {nx:=aS â (Q .ę â),rt:=Q} (Fv N vs) H,aOc à á:=fun à H Q z=>w à H _ (bI0 á h z),aaw à á â:=by rw[Ļ à á â],bcA:=Ĉ Z_ (bJW Hu Hu _ ht),a7y à:=by have e1:Heap.IsList (aWn h0) l1 VQ:=q1;rw[à],Rj:=BZ.2.2,a7U:=İ b (ć Rj) (.str (lQ q)),blA:=ž (bC (d:=.ę) (cl:=.č) rfl),a2W:=["lines","kept",LM,anx,A1],a5K à:=∀{a:pA ě} {m:bY},(∀v,(x,v)∉a)->à=m x,a9q:=cA m (ĵ (wpAny_load e (Å H))),aBu:=ħ xJ,amn:=zI qD,blF:=[eD,jR,aBu,fq amn,v,u],a7c:=show ¬(ju (m9 a) A4)from vQ,bp6:=B_ ah cR,bjk:=aAs [bp6,Lc gH xw],P7:=pyIter,a4T à á:=gY (P7 dm) (bq0 X à σ tg R) E (Ch (aWE á)),alu:=.str "r",bi6:=.ite (abE 0) alu (.str "c"),bha:=Ab (bti l (Ý J o eo p l)) ř l,aBb:=aBd R C,bkR à:=bPS (L:=aBb) rfl ą (ŷ a0R (į à)),bb9 à:=by rw[aJ à e1 e3 (dz e0) a2 e2 e (eJ e3)];clear e0 e3,aLK:=(Ē [ő,d]),Jz à:=H' à=none,awj:=a.get? b,a9I à:=(∀b o,aaD awj)->Q (à) (Bq s a c),Xb:=Bool->ni,mZ à á:=ā (à,á),ajh à:=(bBs à).mpr,Vq:=(zd j).n,QE:=(n,k)::r,AD:=mQ<=8,aKY:=f9 bbm (j - i),BU:=ć v,acC:=(ao:Int),agd à:=(by cases à;rfl),bpu:=by show findIn _ _ _=_;kernel_rfl,a4k à:=fun v σ H Q=>nZ xs (à) (aP=n/\t xs σ H Q),aNt:=Ć (LS h) wS,aSR:=by rw[fR xT nX],ars:=[tE,lN,xu],X6:=.str sj,WE:="take",a25:=Č WE 955 608,WG:="sign",a27:=Č WG 940 594,amQ:=o.length,aU5:=(amQ:Int) - 4,yU:=ś DV,W6:=ġ x c e,aQO:=PE X (xg ß dW),ny:=.bl _,yS:=ſ DV,ayD:=[z,TI,TO,A,r],Sn:=ũ H0 H,Nz à á:=anC/amK á,QU:=τ _ ?_,wY à á:=ς à h B (á),jK à:=fV à e,baj à:=!aFt it||(AR à).isSome,akO à á â ã:=aY (Ŀ à á) (fun â ζ=>ã),zc:=.jU d,yc:=lV xs,RD:=f6 d cl,bgK à á:=if à=.ID then aY _ (fun x ζ=>aED á x)else none,awp à:=gr (BI à [pE]),ayY à á â ã:=gC à q m (R.cV.wl á â) à (ã) m,Df à:=ut à oz,oI:=bp7 c,Ty à:=B9 (fq à),rh à:=by rw[Θ (à)],bpy à á â ã ä å æ ç è é ê ë ì í î ï:=by have à:aDJ á=ā (ip #[â]):=Ů;have ã:=bwb X Ns ä å æ ç è (fun é us hK hl=>ê) (ű ⟨[â],[ë],fun é us hK hl=>by(rw[Ÿ]at hl;replace hl:=ays hl;rw[ì,aWe í à]),ai ce .nil,fun î=>wT ï⟩),ax6:=(Bw M).reverse.lookup,aP1:=(beH).push (seqObj aC C2 0),Dw à á:=AA (Β à á),xP à á â:=bBt à á (ċ â),aNl:=f9 (C.N.drop C.np) C.nc,biU:=[fZ 4 51 [Ō],Nj (.ix ģ ah),ut 2 bmd],bgM à á:=by rw[tH à (mI à)];exact bty à fun ζ ζ ζ ζ ζ ζ ζ=>mK á,Hj:=(oU L),Kc:=ā none,aiz à:=failedOf à=none,uV à á:=Vx (nR (á)),Fj:=ā akD,alJ à á:=∀x,x∈à↔x∈á,jY à á â ã ä:=by have à:á:=â;rw[ã]at ä,Oe:=(kK P),aLy:=(args++cs).map abe,auC:=τ _ h,auB à:=by rw[à];exact auC,avX à:=.v (Ē [d,à]) fr,amY:=aXU GM,amZ à:=amY (N6 à),Dr à:=NV bO à,auu:=wC Ĳ W c d,aa4 à á â ã:=adL à (ń ef á â ã),bnb à á â ã:=uY F b f 46 aWm rfl (bRJ (fu:=fu) (k:=k+15) á (Ć â ã)),Ml:=(qm _),bnX:=yW ((n:Int).natAbs<2^64) Ml,N1:=stx l,bol:=yW (Ą N1<=Ū) (acY _),Y9 à:=.fld à true,aUn:=K.map fun w=>dG w,abr à:=Nb [Ψ à],ajl à:=G9 H à δ O W,A0:="sums",aup:=KE u rfl rfl,TN à:=g.loc x à.2,Vc à:=amS xs à hx,Vf:=l.drop i,a4F:=J6 (wpAny_pyIter_rangeiter st h),Q_:=l.getD i,avq:=IN test body,ayo à:=aaC à H1 (jG à),Uz:=aTq rows,aTZ:=acY aBE,abj:=kz v m n,Pf:="joined",W0:=bqB TK x,XH:=aXa X.K C,aJ3:=b.lookup,QR:=p.extBut,Yo:=n.extBut,Sz:=R.cV.dj,Tz:=I.length,beT à á â ã ä å æ:=by (rw[gq à (á) (akj (W.item â _ _ _ (Ä b_) ⟨ã,rj⟩ fun u h1 ä hP å hk=>?_))]);have hu:ĳ us æ u:=Ł hP,WK:=Value.int,WY:=σ.length,att:=Passes CX X E,YF:=Cl.meet c,YV:=δ.length,awR à:=aYD s fun v ζ=>à,aOI:=bp9 qual À cd cl,aDq:=bAS.getD i [],ap0:="_law_number",ap6:="_law_stream",aqk:="read_number",aql:="table_named",aqo:="outcomes_of",aqE:="fewest_ends",aqR:="blocks_with",aq3:="check_small",arb:="check_cards",arz:="Reader.take",arB:="Reader.sign",arJ:=Paired.length,ar3:=I.ok.bs b o e,aIY:=behindInMarks op b,as5:=i.natAbs.log2,atG à:=subscripted à ă,atI:=s.heap.update,awK:=ExceptHandler,axu:=strLen_append,ay8:=L.any (TC p),azj:=Int.ofNat.inj,azn:=sc.lookup ß,aSP:=runM GM TM 100 k 4,aAr:=List.map_take,aVj:=bzM a dx l i t c x,aLN:=Nat.eq_zero_or_pos,a8X à á:=h.update I (Obj.mapFields (·.setIfInBounds à á)),bfI:=tupleKind_room_in1,bk0 à á:=byj (fu:=fu) (k:=k) (J:=à) á rows n m a j g b d i,aUL à á â ã:=lK (F:=à) (δ:=á) (e:=â) (ds:=ã) (c:=.č),bmV:=bRL s1 Ă (o6 ks (Ĉ Ċ Wj)),boU:=bR4 (fu:=100) S.rc S.w9 S.n0 S.m0,bgb à á â ã ä å æ ç è:=(by rw[cD d à Q (PySem.W.methodCall_KW (Fq (á) u) (bMq â (bMp (n:=20) ã ä Đ)))];obtain⟨y,å,æ,ç,a,dx,fs,ex,è,l,q⟩:=B0),bn1:=by rw[O6]at hb;simp only[ŀ,Ÿ,Ċ,wP]at hb,bn4 à á:=by rw[bBu à];exact Ñ (Nl (Ω (a1x xL a1j)) (á)),bib:=∀d∈T,d.i6=none\/d.i6=G.i6,a2P:=[aDF,acZ,ans,"_law_verb"],awt:=(by rcases d with d | d),bdE à á:=dO (Ĩ o v g d' (à)) o v (iS (oc á) (IU á g)) d',gb à á â:=by rw[à]at á;rw[â],bcQ à á:=gc (bBv à) u e3 (ķ ⟨ķ (á),c,e1,e2.keeps R⟩),aP8 à á â:=qr σ à á ⟨à,O,W,R,á,fo,sm,â⟩,bkY à:=qP L o (aTE à g l) (Ñ (ž (bBw à))),ab7 à:=Yt (à<=Ū),agb à:=I.laid à Ķ,aaF à:=PI X (aQy à),a4o:=tb {D with nx:=N,ct:=N,bk:=D.nx},aH9 à á:=(by obtain⟨_,o,à,_⟩:=I.ok.sV.mem á),a93:=sc.names.all (fun y=>y.2 != wy),aUm:=aUq amv w,bl6:=rk.aZ9 (aUm,jS w) (jS x),bkh:=Nat.testBit_eq_decide_div_mod_eq,bok:=#[48,49,50,51,52,53,54,55,56,57],a66 à:=(by obtain⟨it,fp,tn,J,H2,e,I2,T,à,f2,w⟩:=h2;subst e),X3:=gR=bo,aiG:=ſ α,aiH:=α->aiG,aUJ:=(ft J m a).lookup,Vl:=[O8 w],aT2:=(Ą (amh p):Int),bkL:=⟨g,(apl a).1,(apl a).2,rfl⟩,bdm à:=⟨r.hd,r.dp,QF r.un (à+1+16*k+198<_)⟩,ah6:=∀b o,asa,ML à á:=Ĉ (aI à) (á),aeW:=tL=ki,aNn:=∀x∈ps,aeW,p9:=ī b,Kv à á:=ķ aDR,MZ:=Ř Đ,pQ:=œ a,ae1:=ŋ σ nA,o5:=.bl b,UF à:=È (cn (à)),Jx:=ů aP,NQ à á:=Ñ (eB à (á)),a4Y à á â:=∃i j A,eT c j A à/\Z i á/\(lU b M (A b))/\W i â j A,boB à á â:=by show ā (Ri.ok (i7 0 (à)) _)=_;rw[á,â,fI p_];rfl,a3I à á â:=aWh H' {s with heap:=h',gens:=á,drawn:=â,toks:=t'},a2K:=[fz,oZ,anz,"bare","most",Ni],Sr:=R.len,aPg:=cH FC FC Sr,baW à:=⟨a,r,_,v,f,k.int hd,à,u,GV (Got.item s)⟩,aNw:=jk a e1 e2 h bBx,Kg:=lH k A,KG:=BH _ _,ame:=bw (acg S),aiD à á:=ph à á this this,a6t:=Bl dW,L0:=wU CA,agY:=.ask i j k,ag5:=.dJ ks vs,afU:=aaX X.K ds,ahm:=.ite c a b,alT à:=Gj (à) alN,Ln:=bqa zm,Ls:=Zs Ĳ,LW:=V4 O H,Mb:=bqb h f,al3:=wn Dy R C,aLo à:=K2 à x (yT x) (!k),L7:=R.own i,aOC à á â:=aDW (à) ζ ζ ζ q á ?_ â o' _ vs d,Pg:="words",WJ:=Sum.inr,JP:=e.trans,LZ:=xX _ _,aO5:=ai7 (s.aoI h),ai8:=r.mono,aNB:=ai8 (gP a).wo,aI8:=anU Ĳ x dx C mA,aR0:=bp9 q sc (ċ c'),aVB:=D .no .no .no .no,bld à á â ã:=by have:=bQv (l:=Ĥ (à) c (2^c)) (c:=Ŋ) (e:=aSp á â ã) (Ć ų cm);exact this,aeQ:=ρ.length,afe:=wpAny_Name,afm:=.AugAssign,agT:=ds.isEmpty,auQ:=a.plain 60,aiq:=size_push',aje à á:=aFA D O W à á Q r,ajF:=C.same _ _,aO4:=xX.seq (s.seq h),aRx à:=aWZ g.nd (Ć g.N à.1),aRT:=aF7 x (uM).names,alB:=rowsOf n m,alD à á:=at_getD (Ć à á),aQD à:=by have:=à;simp at this,aG7:="__annotations__",aI0 à:=lastMarks [op,à] [b,c],aI5:=List.any_eq_false,atD:=getItem,aJz à á:=operate anH (atD à á),aJP:=List.Pairwise.nil,aJQ:=d.params.defaults,aLM:=Nat.le_of_lt_succ,aL0:=fits_of_scanBound,aL2:=intKind_is prog w,aMv:=bne_self_eq_false,aOK à á:=PySem.W.fnMade nm à á bd sc,a8U à:=entryFor_alias (id':=à) Ů rfl ĸ Ů,bhT:=aWy [] [] [] IQ,bhS:=bOq bhT (Om st),azS:=fun y hy=>hy,yg à á:=fun b à q=>á,aOd:=∃k,d=.bl k,asx:=Ą (azp es),bo6 à:=fun u v x y=>ŗ à (Av (Va (sN 3))),a49 à:=Ć (Int.fdiv_eq_ediv_of_nonneg i à) q,baX à á:=(by cases à<;>first | (intro _ _;rfl) | cases á),aAx:=∀j∈J,j<m,aAC:=l.Nodup,bgi:=∀{l:ğ},El l=true->aAC,azE à á:=by have z:=à;rw[į (Ń á)]at z,ayM:=cq f m r st,blO:=eV h (Nat.not_succ_le_zero _),aBB:=fq (nT qD),ayS à á â ã:=fC à á (I2.pin _ (aki â ã)),a8Q:=let (cY e c):=x;cY (k o e) c,Kt:=c.map,aml:=Kt qD,blL:=qC (lE 12 26 UT) aml,Nr:=pd n,aBi:=bw (Nr p),bh9:=fun i d x fa fd ps h1 h2 S=>?_,aAX à á:=wG (à) á (É (á:Int)),CL:=SY 64,aCp:=flip n' cols,avK:=Zq7 G ţ fu,Dd:=.fin _,bB3:=.set es ep t,C_:=aZW es,CN:=g.one,bb7 à:=by clear e0;rw[jk v rfl f CN (Ţ e1 (ax à e))],zT à á:=(by cases à;refine á),apQ à:=ac8 (T3 à) n3 k3,DR:=S.toSm,aSi:=.idx Ľ ĉ,avv:=.aEy i fr es,a6V à á â ã:=by (have:à≠á:=fun e=>â.1 (ŗ e (nL (dY z))));rw[Ĉ (bE this) (ã)],asI:=ayF e c st z,azD à:=aFm c (akL ζ à),Lo:=intOf,awm:=vs.map Lo,a4u:=Turn de X.w X.K tg J fp it tn,aNr:=bp0 bD v vs,apV:="_law_plans",ap4:="_law_small",aqb:="read_digit",aqe:="kept_lines",aqm:="read_table",aqn:="show_table",aqA:="base_lines",aqD:="least_plan",aqF:="least_bits",aqM:="ends_paper",aqN:="bits_paper",aqX:="keep_apart",aqY:="most_apart",ara:="check_card",arf:="made_table",asc:=I.ok.bqC x c,avY:=t.place.size,awl:=p.mem_iff.mp,awr:=listItems_at,aws:=Bool.or_true,bgE:=aQW d (bHS d (ń ζ ζ p2 d)),aAL:=Nat.add_comm,aKe à:=(by rcases à with z | z<;>cases z),aQX à á â ã:=(by intro z y d h O W à á cy w Q â g k;rw[cM ã]),a3r:=List.getElem?_eq_none_iff.mp e,a34:=Calls.Name_function_global JJ,a8V:=Builtin.«frozenset.__iter__»,bdQ à á â ã ä å æ ç:=pairTrees_cons_walk (χ (bqH (x:=à) (j:=á) (pos:=â) a _ c _ (fun v f=>v=ã/\ä) å (cG æ)) ku ç t0),bfO:=(by rcases g with g | ⟨ρ,k,b,e,ey,eb,l⟩),rR:=rK=C,ag0 à:=48<=à/\à<=57,bhH:=by rw[fW bVM Wb,đ k' rfl (bMm bVM)],rY:=kX.1,rH:=d::ds,aLj:=fun x c=>aXK x c,aH2:=(aWQ h H).get? b,YE à:=(à).map É,aKV à á â:=YE (Ź (mT à á) j â[j]?),aQh:=mS.t p.1,aNp:=fun p=>aQh,aLV:=fun e=>Lo e.2,bgN à á:=fun j i à=>let ⟨y,a,b,c⟩:=á;⟨y,a,b,ı c⟩,ajK:=tL=Co,bap:=∀i x,bo<=i->lV N->ajK,bir:=∀e∈es,∃b∈c,h b e=true,aLF à á â ã ä å:=∀à∈á,∃â,ã=ä/\fy (Ŀ cd â)=ā (.ok (p à))/\å,C5:=qt _,F6:=Ē _,bmL:=by show C5=F6;rw[ź (k+1+c=k+(c+1))],be2:=ĩ a r e1 e2 e3 (g1.aoL Ι),aOZ:=ajV (zN ra),aML:=Ń (Ż h .nil),a4J:=fun i h B st k=>k it Ğ _ st,rD:=.bl i,rW:=Õ a,bfm à á â:=⟨Ŝ,à,ı ⟨rfl,á,gm â⟩,O,W,R,ń v H1 s1 g⟩,aJN à á:=Š z à n r hl e (I.anY á),bfz à á:=by have c:=d.symm.trans e;have b:Vx q.2:=akr á c,awZ à á:=∀{ds:Ħ} {xs:Ŕ},anI,a9D à:=Ų (Array.perm_iff_toList_perm.mp (à)) h,avp:=body δ1,aLI:=Ð avp a,UE à:=Ç ac3,bjp:=du 4 (alt (lh Ľ gH)),asV à á:=fun ζ ζ ζ ζ ζ à=>á,qZ:=jg c,bBH à á:=(by rw[ĩ w ws à á i aal];cases à),axH à á:=fO (à) (CG fun y ζ=>á),blo:=by show(fO (_=true) Ε)=_;rw[p,d],axr:=one_sign,bbr:=by rw[dU t rfl n O rfl m];have:=axr F,akR à:=gE c à b.1.1,aK6 à:=aWi hY,Fk à:=p8 à e e,ajj:=btM.mp,bdZ:=gC a d b (ajj g) a d b.sq,GX à:=tI à Đ,Jr:=ĭ t,Hi à:=v_ à ų,aPv:=lq σ J H1 w ?_,qU:=WT h,aVI à:=ω 81 [Ë (qT v à)],axW à á â ã:=(by cases e;rw[aT a w à á â (ã) (pi à)]),a8p:=by have:b=a:=Ě;rw[Bc this l k],aNH à:=GV (zL à:si H _ _),bhV à:=∀(i:Nat) b,(aL fK ds)[i]? ≠ ā (à),sP:=aer r,abh:=K.map,Pa à á:=∀(w:ņ) (os:f8),à=á,K9 à á:=fQ (à)=ā (zb (á)),xj à á:=bpP,bfN à:=(by subst f;rw[gb (į (bK (adP _=à) rfl)) c (Ţ c (ad3 rfl))]),aBt:=(uW aG).isEmpty,bab:=aRs c.sc&&OO aNd tg c.tg&&Cu aNd elt c.elt,aas:=ov l H,bc4:=fun v k=>(lU c l (k c))->Q v (aas k),bBB à:=WN (t7 (aaW sub) r à) (qy i à) Ċ,Ds:=(oE 0),bfw:=∀δ' o,f δ'=ĕ->P6 (dS X.D δ' o),bjI:=[.IE Ľ (ć 10),ŭ,mM 1 6 5,iY],Gb:=(ā l),yB à á â ã:=by have à:=á;rw[Ļ â à ã],bgP à á â:=⟨k1,fun I=>k2 _ pz,fun I=>I.tabs _ k3,fun y à á=>ı (â).1⟩,MB:=ahk=KZ,aK4 à:=à=rK/\0<=à,aKz à:=rB ((à).extBut.push _) _,k7 à á:=by rw[ż (à),á],azz à:=adL a (akL ζ à),afC à:=bX p (.dK à),bdS:=Wk D J ds (aaE c) (L4 c),akY à:=Ix (aeV x à),ae4 à:=PL a à h' t',aIy:=aWD ζ ζ ago,aLL à:=ahf rK .ę .ę t à,aiL à:=ZG à (ye h),aRt:=.IF a tg b c fr,aJH:=ZB (t':=f_),bkU à:=aop (I:=fun j δ'=>à) _ 1 (ń j hj δ h),bmg à:=if aco m à then DL else DL++[(n,à)],aOh:=azi (ajv es env),aPJ à á:=aFT à (zq (q á Ğ o e)),aKs:=findIn K (ċ D),aw3 à á â:=aYP.mpr ⟨v,à,rfl,á,â⟩,as3 à á â ã ä:=(by rcases à with⟨á,â,ã⟩ | ⟨ä,â,ã⟩),atJ à:=by simp only[h,à]<;>omega,bgY:=aRo (bHp f (Ý u w v p f)) f,bhM:=aRF qual uM fa ad7 A Ï s H,aJx:=seqIndex_neg Ă,aJO:=Nat.le_of_not_lt,aKM:="tuple_iterator",aMq:=t.place.getD i 0,aMw:=List.isEmpty_nil,aOf:=Nat.succ_lt_succ,aOt:=PySem.W.kitOne K,aPX:=PySem.W.kas_item,aUy:=List.nodup_range,aAR:=C.testBit,bkn:=At j=true->aAR j=true,Xc:=Ŕ->ni,Yu:=bu->Ĺ,Zd:=Nat->Int,YO:=ē->Ĺ,on à á:=by rw[eI à];rw[á],gf à á â:=by rw[à,ĺ (á) (â)],X':=(y,v)::l,aae:=a::b::es,bcX:=fun y c h=>OQ (MU y c h),bdw:=fun x c h=>nL (dY (gu h)),FN à á â:=by refine⟨à,á,â,?_⟩,Mu à á:=by rw[Ţ e (à)];exact á,aeK:=by rw[bBy];exact 2,a3v:=⟨z.1,ht _ _ z.2.1,z.2.2⟩,box:=[(p.D,.č),ik ae,ik Ŭ],arr à:=[à,"least","most"],HP:=by rw[ų];rfl,aeJ:=by exact 3;exact 4,bBC:=by exact 5;exact 6,XV:=PE X axK,a36:=χ (g b s f H Q I h) c s1 e,boZ:=aL 8 [acD,rJ,ć d,iY],afT:=r.append,a6x à á:=ac .ę _ (I.bEU à e Ğ (afT á) ?_) q,aVN:=(by intro z;rw[av (aI z)]),bo7 à á:=∀u v x y,Ŀ (mM 3 à 8) (D u v x y)=Ç á,bfk à á:=iy (by rw[LU à];rw[cr à,aK fun z=>á];exact e),Xu:=Gl X WR,Wo:=Bz some,XF:=K.In Ĳ,abk:=.ask _ _,ZX:=L6 l vs,XT:=aaX K [],abw:=.neg ù,Wp:=H₀ eL,blD:=amL aBz (eq_nil (byx dW)).1,acw:=p.ok n m,ahq:=.aEw a b,aA2 à á â:=aop (i:=à) (I:=fun j á=>â),Y1:=.aXw i k,Kn à á:=(by subst à;refine á),ai0:=bpE true,bng à:=aaa (List.idxOf_lt_length_iff.mpr à),bd4 à á:=∀{is:ė} {f:Ħ} {b a:ē},aoh b is f=aR->anI,arX à á â ã:=(by rcases à with á | ⟨â,ã⟩),XE:=i.length,X4:=bEr N ps,aid:=newTuple,aPn:=L2.inner,a61:=J'.pin (D,_) (tX (Bm dQ)),a5n:=PySem.Within mA,aJd:=fs.map lP,a3t:=a5n aJd,aL1 à á:=by have:=à;rwa [á,fF]at this,a5S à á:=codeAny_call_function à (á) rfl S.co S.gen rfl,bcp à:=(by rcases à with rfl | rfl | rfl | rfl | rfl | rfl),bht:=bLn g.nd q l.1 l.2 (M' j s),bio:=Option.isNone_iff_eq_none.mp,boN à:=(by rcases a with z | z | z | z<;>cases z<;>exact à),beE:=(by apply Array.ext (bg aFV);intro i h1 h2),Qk:=a6t=bBz,Qp:=bBA=ă,ahG:=C.np+C.nc,FZ:=ā [],Rg:=ā aPy,aPu:=(Rc.bKC g).elim,al0:=(DA).map,auP:=(Q9).toNat,aaM:=c::rest,TX:=akN.2,ali:=[ĉ,az],Hm:=ds++cs,wq:=(x,c),a8T:=(by unfold argsOk;kernel_rfl),aNP à á:=by rw[bH à á];exact á,baC:=aNP DV.IG m,aIr:=⟨v,H,I,r,h⟩,aPM:=⟨m,i,j,a,h⟩,aeN à á:=⟨_,à,á,_,rfl⟩,bhd à á:=⟨bqc,bqc,fun {d X e à c r} g b á h=>?_⟩,QY:=[a,b,c],EC:=by rfl,axp à:=.str ⟨#[à]⟩,a21:=Č WB 991 636,a22:=Č WC 981 629,a23:=Č tA 974 622,a24:=Č WD 963 615,a26:=Č WF 947 601,a28:=Č EA 933 587,bkr:=by rw[ĩ B j a b c (apk.mp q)];have o:=a,aQs:=Ē [bIf L],HQ:=ħ _,aaJ:=į Ă,Gh:=ī FD,aBc:=ļ (1+Ŭ),YT:=Ŀ elt,azx:=Ń (Hr h),aJu à á â ã:=⟨à,á,J.os,J.bare,J.base,J.Ν,â,ã⟩,Qh:=ű rfl,aU8 à á:=[ħ (a),ħ s,oH (kI R),à,á],aAZ à:=þ (aGr à Ă),Gi à:=Ð (à) δ',a2y:=.str "talkleast.tables" 314,a2A:=.str "talkleast.blocks" 483,a2B:=.str "talkleast.covers" 508,Ul à á â:=π à (.lst á) â,aK8:=F mU (br++cs),ajt à:=χ (à) v s1 t0,a75:=Yy x ĭ (Ç (-i)),Um à:=bx j hj à,YA:=(·.length),aVn:=fg YA,aLw à:=aS ζ (ā (.nx à)),Xr à:=gQ (aWE à),a17:=en P aDL 874 (aDK 873),atu:=Vals dvs ds,aSx à:=aWw 3 3,aUs:=qt [xF,HJ i],au7:=pO ő,Zq à:=ke (a9s à),ati:=ke (ahY _),FV:=.fx _,aAy à:=.v (dG à) true,Rv:=aWC c,bfu:=fO Rv (vd tg f j δ),Dl:=U1 j,aBC:=(j:Nat),aS0:=iQ aBC Ŭ,RG:=vg d c,amE:=ks rows,aUz:=jD amE t,abO à:=lM (lJ à),Tc à á:=awY (bA à á),iG à á â ã:=(by unfold à;rw[á,â,ã]),aeP:=agj es ep,alR à á â:=qC (ω à á) (nD (â)),ayp:=VF D.K,aw2:=ayp H a,asr:=VF X.K H,avn:=.cmp op a b,RW:=Gy Ă,bbs:=(by rw[Ĕ b (SH r1) g (SH o)];subst b g),FJ:=Gu vs,aeH:=(nomatch e),HG:=.an4 0,aKH:=QP b l2 OA S2,aKI:=QP a l1 VQ S1,RN:=Tab t b,aPC:=AU t2 K H b ys,ail:=BH rC _,au4:=gM .ę ix,avo:=.bin op a b,T5 à á â:=.fo (.one à) á â,US:=NM aG,Vh:=aGT d,PH à:=P_ b it à,ayK à:=Bq s à (f_+1),bnM à:=zf (yW blS (à)) (gx (aep d) (aep c)),SM:=TJ a a,aku:=KT H a xs,aCr:=adJ ą,aTs:=aCr Ņ Đ,Yp à:=atE (ċ à),auo à:=Yn à .ellipsis,auw:=Yn Ĳ Ġ,ayn:=G' (gP f),aA1:=aor ą ą,bhz à á â:=by rw[Ę ĥ à (pC á â à (V2 á (ġ x pt á)))];rw[ĥ,ř]at á,aG9:=DictEntry,aJV:=FT aG9,SV:=R.val i,aRr:=Da a tg b fr,bmp:=Dt Nat.lt_two_pow_self Ă,aKp:=Qe de X.w X.A,Ry à:=.aEx i à e,U4:=aB1 gB,P4:=D.nx σ,atv:=bqd CX f sp,ah8:=ais l eP,GH:=sg.top,GS:=aYN.mp,ajA:=tyName,amM à:=R.map (DS r),avz:=.an5 i m es,aCn:=amO (ļ p),a29:=arp 925 349 924,Pj:=kO w os,aeG:=Sum.inl,afh:=IsTup Ĳ,Pw:=Un.kept,Px:=X.outer,a4K à á â:=afs tg (à) (IsRangeIter h it (á+RV*â) (Æ - RV) â),agS:=d.plain n,Q6:=l.idxOf,Tv:=X.A.in1,TY:=bOv G T,aDs:=a1Q gB vw,anr à:=bpm h0 à h1,EK:=vW b,arW:=aIk EK,aeA:="plan_by",aeO:=fs.length,aeT:=base.get?,a3X à:=asg D Ends (t D σ H) (à) (SP X pins D),afg:=b.toArray,asN:=T.obj _ _,afy à:=bDy (atZ q (à)),ahC:=Ri.Ee δ,awD:=bs.map V.bl,akl:=rl.length,bgw à á â ã:=fun {à X e tg á r} g â _ q=>bKr (fun z ã=>h g (ŗ hw â) ã) q,aRD:=aZ0 g (p y m B),bBZ:=fn.length,bmc:=aBT x (qE p) (ļ (U2 p)),aU6:=aWx .no .no .no,anb:=bAs p i j,bn3:=by rw[Ĩ o1 o2 oa ob hp];rw[a1n]at hk hh,apU:="_law_wide",apX:="_law_told",ap2:="_law_text",ap3:="_law_plan",aqi:="read_plan",aqj:="show_plan",aqu:="made_plan",aqP:="left_bare",aqU:="rows_with",aq7:="row_kinds",arI:=Value.isInt,atV:=un.keep b o,at7:=inner fr σ,awx:=Prod.mk.inj,axt:=slicePicked,aTF:=Nat.pow_pos Đ,aBk:=pr rows w m,aIm:=storeName Ó x,aIS:=a i j t c s _ _,aJa:=PySem.W.takerIn,aKl:=pushCells_keeps,aMy:=wpAny_ite_split,aMz:=wpAny_specialOf,aMZ:=.FormattedValue,bah à:=aYu s fun t o v ζ=>o == .Add&&(à)&&LQ,aN3:=PyData.depthAll,bbK à á â:=(match(generalizing:=false) à with | none=>none | á=>â),aP2:=g0.push (aaK 0),Aa:=g.bMC,bgZ à:=bqI (Aa VU à) D.mg (v:=Ŝ) rfl,aSZ:=List.foldl_cons,aVv à:=bTs à.1 à.2,bdl à:=(by obtain⟨o,v,g,_,d⟩:=C.at_ _ z;rw[Ī à g g]),a4M:=d.u_ Ķ (d.Ν.fresh Ķ),a6D:=(by rcases h b with⟨q,_,e⟩ | ⟨_,e⟩),a7R:=x.cps.toList.map fun c=>X6,bce à:=bEQ b s n H _ o Q I r ⟨a,f,Ń m,à⟩,bmA:=rk.rk (LL ls) n (LL ls n,0),bnc:=Nat.testBit_two_pow_sub_one,bg9:=by rw[ş Z (aRb i P),cq rfl s f i],aOG à á:=by rw[aOH à,Ĉ (adW a) (á)],bav:=∃f,v=v5/\D.mg x=ā j9,Cn à á â:=∀à p,mG (á) (â),aa7 à á â:=by have h:à = á:=h;rw[cM â],aQS à:=Į ac7 (ķ à),JU:=axT x,a3B:=∀x:Str,EZ -> mb x=JU,bf8:=ĩ e1 e2 e3 e4 e5 (bvj e),bc6:=ĵ (wpAny_mkText (bqe _)),bfe:=⟨i,O,W,cN,g,fo,ow,k⟩,bbi:=Š B A N y u q (j it Ğ),a2z:=.str "talkleast.apart" 459,a2C:=.str "talkleast.least" 629,a2D:=.str "talkleast.ranks" 678,a2F:=.str "talkleast.twos" 1002,a2G:=.str "talkleast.asks" 1047,a8g à á:=∀{a:Ħ},(∀d∈a,g d=ā (à))->BY a=ac5,baP:=∀D a H,t' D a H->t D a H,a18:=en P aAf 818 (ć 255 817),vy à á:=⟨ato,none,agj à á,#[]⟩,a2Z:=vy #[Wu 921 qN,a29,a28,a27,a26,a25,a24,a23,a22,a21,aeC 994 637,Č "__dict__" 996 640,Č aHf 998 641,aeB 999] 4,Y7:=Rp=ā (au2 cl),WW à:=∀x c,qX->c≠à,S6:=bJN d=ā T,nh à á â:=by rw[à,Į á â],HB:=(ć 5),Am à á â:=qL à á=ā (â),bkC à á â ã ä å æ ç è é ê:=by have rs:tm HV (Ą (cs C)) (aTp à):=(bBB á);have â:W9 (aTp à):=fun r á x ã=>by rw[bx i ä á];rw[å];exact aGq æ ç (O1 è ä) (O1 é ê),Qb à á â ã ä:=by rw[à,aT á â rfl ã q h (ä)],bbh à:=afs tg (aY3 x) (h.IsStrIter it à x t i),MK à á:=(by show à;rw[á]),bhY:=Ĉ (adW hb) (MA (iS hb e)),a3q:=by rw[bBC];exact 7,Ie:=(dv p),afk:=V->V->PN,aiN:=Expr->uz,Rh:=ā aPz,aKS:=(lo - hi).toNat,FG à á â:=(à).all aWF,jH à á â:=by rw[bH à á,â],bee:=fun i E=>ı (buO (B i E)),azg à:=by rw[on à (atA h)];rfl,a19:=en P aDM 816 (ć 300 815),bfb à á:=cD b à Q (SU (aEa I hg hm á ?_ Đ Đ)),a90:=gZ po ar va ko kd kw df p,auR:=br1 n c,a9C:=fO (i<n/\j<n) (auR _),boi à:=Ut l r F F elt (à) tg eF it e fr H_,bhG:=(by rw[Ė z1 z2 z3 (IX f0)];subst z1 z2),bnz à á â ã ä:=uY ω à f 88 (Β (mN f 87 (Β (bQ 0 (.fx á)) â) rfl ã) (ä)) rfl,aDw à á:=adJ (x (D:=à) rfl á),aHP à á:=∃(à:Œ) (n:Nat),A6 à/\á,bg8:=E (p:=P) g s f (gE S M I),aOk à á â ã ä:=hv à s á H (fun v â=>v=ã/\â=H) I (Ys ä),boc à á â ã:=i_ (q:=tx à) á (mN f 93 (i4 (bBD â à)) rfl ã) (ml _ aCK),a5f à:=(by rw[đ t rfl j];obtain⟨C,c⟩:ů à/\k=_:=e),a10:=openSeen q Jf a1Y Xt g0,aIZ:=by with_unfolding_all rfl,a5F à:=adm de X.w X.K X.mg vH à kj s H,blK à á:=bx0 (fu:=fu) (k:=k+à) rows n m R á Ă Ă,a89 à:=⟨fun b o c e => à, rfl, rfl, rfl, Ķ⟩,bhk à á:=by refine btE à (ġ á p à);simp only[ĥ,ei,pL]at à,bhj à á â ã ä å æ ç è:=by simp only[ĥ]at à;refine⟨á,_,fr,tg,p,rfl,(aF4 g â.1.1).1,ã,fun C ä å æ ç=>aZQ (bvG g â.1.1 C ä å æ ç) â.1.2,è⟩,Q4:=p.1=k,bfy:=by have c:¬q.1=k:=fun z=>e (d.trans z),a78:=fun d s=>ā (.jU aLK s),aNq:=fun p=>adP p.1,aHr:=[Jo,"wanted"],aHW:=∃u,vE e=Δ,bkm:=∀t,t<10->g (t+1)<=g t+1,QI à:=Ć à Ķ,aOD:=Ć (aoT hb) n,a5d:=⟨H,tY,Ć (bDV r) q⟩,aU9 à:=⟨à,ø,ø,rfl⟩,bjA:=[ģ,mM 3 0 8,mM 3 1 8],aVP:=[xF,tT R,Az],aOR:=[va,vb,ċ f'],a6Y à:=by have z:=aJp mu (C+1) [] (ı q);rw[Ę s z (à)],bbM:=Ĕ c (aFG 60 _ p) l3 c.2,aw4 à:=∀a∈O,à≠none,bmO:=Ĥ (cs h) t (S.getD t 0),aMg à á:=entryFor table à = Vy,ag3 à:=ī (Nat×à),a5k:=Ĩ u rfl t rfl (vals1 r),xb:=ŉ q,bgW à á:=by rw[aa6 c1 c2 c4 c5 à à];refine btg à (Ý pr bd á lp à),aHM:=vD×Addr×ě,ahO à:=œ (.and à),aSQ:=œ (.fw [e]),bjn à:=[ĉ,fh (B_ dL Ľ) à,Hw ģ,Ō],akp à:=b (ne à iU),bcW:=Ŗ rfl (S.Eo _ (gu J)),a2L:=[fz,oZ,"found",GG,GF],bjC:=[ŭ,gV,ć 6,ć 7,xv],zE à á â ã:=∀à á p,mG (â) (ã),a2E:=.str "talkleast.runs" 705,NZ à:=cj à ø,a8l à:=aZ (ahK k) Ku (RJ d.n à ds),P3 à:=cA this (à),afS à:=pure (Bw à),a2m:=en P "__cached__" 174 Ġ,a2p:=en P "__loader__" 168 bdM,a2a:=en P aAe 814 (ć 12 813),zG:=Cw H,a2H:=[tE,fz,lN,Pg,xu,oZ],vG:=jg b,Lj à:=gA e à c,aaN à:=lU a W (à),aP7:=aaN (H0 a),aKo:=lU b fp (A b),wI:=rO a,a3b à:=if r.k then ċ (r.c - à)else Ġ,a35:=gY (bZ (c_ pos)) Q E s,a86:=gr (setNext a slot i ep),aN7 à á:=hZ (Ī (à) r r) (Į _ á),G3:=zS H,aaU:=kD p.1,aQr:=oe p aaU,bf3:=oe p (zi (GY p.1) p.2),xO:=Ys _,bkF:=mO k (.adt ĉ) 1 [dC L],bg0 à:=fun ζ ζ ζ ζ ζ ζ ζ ζ ζ ζ ζ=>à,A5:=akt x,a8q:=pK e (i=Gm) (jc e h d),aic à á:=Zt à (á) i aH,aLr:=y_ m (s::br),uG à á â:=by rw[à]at á;exact â,afM à:=Tp (à) Q E s,xf:=bJs X,a5N:=Ba (x.above y c (gu h)),ben:=VA hP hw hK hc m σ W hg,Sj à:=aYC s fun t v ζ=>à,bai à:=Sj (aox t fun o ek=>à),bdd à á â ã:=JR (makeFunction nm à á (.stmts bd) sc â [] [] [] pos ã),bge:=F_ (f (Cb a k0::br)),afj à:=assign à Ó,aPP:=adq Ĳ true l,aK7:=amo N np lb cs,awG:=.Return,aIx à:=awG Vz pos,afv à:=.BinOp a à b,ajJ à:=p.getD à Ġ,aRi:=aQZ c eb s m o,ahj à:=bsg G F à δ,FK:=Bb o,aOT:=hq v _ FK,aTm:=L.lookup NI,baY à á â ã ä:=aYY (fun ζ ζ j i=>à) g f h fun O W H0 H x y Q á â ã cy σ k hd m l p=>ä,bny:=aor (xI 4 n) (xI 5 m) J,aH6:=I.ok.bqE b o e,aIF:=Bool.false_and,aJ7:=newFunctionEnv,aKR:=rangeSize_down,aMG:=List.drop_zero,aMJ:=Bool.and_false,aNz:=h.items hd iU,aNV:=PySem.intText?,aP5:=List.mem_range,aQA:=methodCallForm,bgO à á â:=buE I (agE à á (ı (â).1)) fun y à á=>(â).2,bg2 à:=bvs (C:=C) (t:=t) (k0:=à) (l:=[]),a1T:=stepT (denote tb) p w s t,a6E à á:=I H (fA b) (à) (ġ b u z) (Ĝ b z) á (A h),a7H:=x.cps.all (· < 0x110000),bfT à:=DV.dJ.inj (QW (DV.tup.inj à)).1,bm6:=bRO (k:=k+N+6) ?_ (apy _),boV:=Nat.le_of_ble_eq_true rfl,bch à á â ã ä:=(by rw[pi à];obtain⟨_,_,_,_,_,⟨o,_,_,g,á,_⟩⟩:=(aQx â ã a ä)),a3L:=(fun z=>(g _ z).2.1 rfl),aDp à á â:=u6 58 à á=Υ (Od â),fj à á â ã ä:=by rw[à,Ĕ á (â) ã (ä)],Pm:=ā cv,aBj:=fun c=>aTH,biT:=[fZ 5 50 [ah,ģ],bBE],bhW:=∀H,bD C6 H d.vc dvs,Du à:=j∈cs à,bna:=∀i j,i<n->j<m->qF=NT,awq à:=∀b o,aaD (à),a9v:=awq (k.get? b),bbt:=by have b:=bIX b;rw[ş b (ax an9 a)],aLJ à:=by show aES G à Τ = _;rw[h],Kq:=ś α,KJ:=ś Rt,auk:=ĳ vs k x,J2:=PE X o,bfo:=⟨H0,O,W,R,I,fo,sm,k⟩,a4B:=Ŷ u hu Y (n.get y) aIH,bcI à á:=by have à:=I.bs _ _ b3;have á:bm≠P:=Ye (EV hP à à.2),AY à á:=by have:=à;rw[awC á],bnq:=iD (f9 (yd a) (b - a)),avR:=π b y cy,ayT:=eT g σ n,a2f:=en P abt 321 (ć 5 320),a2g:=en P abn 319 (ć 9 318),axL:=iT axK re,aSO:=sC 87 gV,Ju:=o8 vs,fG à á:=(by subst à;rw[á]),Sl:=n9 ds,bmm à á â ã ä å:=by rw[Ĩ a b c e (à),đ á â (ã),FN (ä) (å) á,RQ,Χ,bsx e];exact bFY rfl â,Oa:=z7 hs,aBe:=dC (UO J),KC:=Cf ..,bjf:=.app 2 (ahT Ō (ć 7)),axM:=uE rs dW,DF à:=UV à es,bkG:=mT (Ą (xs++[x])) (-1),avC:=.wh c body,aCG:=RY k k' k,atb:=VL f v fs,avy:=.an6 i m x,SK:=aFx.mp,MD:=s2 _ _,ax3:=L.has I.ok,baT:=aWG (0<j/\j<2^200) (i/j),bfR à:=by rw[on à (ň a b p (đ c d q))];simp at h,aAp à:=J.map (DS j),bl0 à á â ã ä:=aAH q (alK (lE 39) à (Ψ á) â (Uw ba (ã)) (nC aGn ä.1)) aGm aGj,aB2:=a08 rows m,Vp:=(v+1),bpj:=qs 2 (aGZ (u+1) Vp) 0,beM à á â ã ä å æ ç è é ê:=by rw[←ml];refine Lr ayU (ih aG à _ H2 á â ã ä Ă O å (Ts L) (Ep Z nS) (Ep fJ nJ) a2 æ ⟨oJ,ç,a3,N⟩ è é ê (Ĝ y a7)),apW:="_law_all",apZ:="_law_due",aqq:="is_tuple",aqQ:="contains",aq0:="lines_of",aq2:="words_in",aq4:="is_small",aq8:="crossing",aq9:="cards_in",ari:="TooGreat",arT:=Paired.bWX,aL3:=storeSet a,a9M à á:=aFj e fun a b c=>IR à (IR c (Ei á f)),axI à á:=bJo D O à á d fr v,ax0:=X.env.code,bii à á:=aR9 e à b g us aO bo (ak5 á à) (Bw us),aAz:=l.foldl dk,aCf:=own m rows,aCo:=aen.length,aCs à á:=bP3 (fu:=à) (k:=á),bfZ:=entryOfKey (aQn de X.w),a3W à:=a3V pos Pos Ŕ (à) (AP X pins σ Q),bgz:=bs8 c (EM p ζ (mK f)),aA3:=at2 rows,blX:=aGx aA3 w xz bP,a3D:=X.Oo.heap.FunFrames vH,a3U:=z.sameBut hs (anL y c e),a32:=wpAny_loadName_local JJ,a4d à:=(by rcases h with h | ⟨o,à,n,hk,hc,hs,hz,r⟩),a5l:=d.toList.any (·.refKey),a5v:=(by obtain⟨mA,O,r,_,_,_⟩:=brf cZ e),a6a:=slot_list_getitem.lookup,a6s à:=wpAny_Call_method_late g à f rfl,a6w:=Builtin.List.listTooLong,a7f:=s.heap.IsTupleIter b a k,a7p:=y.ext h1 Yo D.i1z D.l1z,bis:=List.length_erase_of_mem,bjh:=bBF 8 oy (du 0) xw [],a7V:=(aV6 c||c == .top)=true,amI à á â:=Ŀ (à) á=È (ak â),XW:=aM6=Et,bBV:=m.np+wu,aIM:=(j - i).toNat,zh:=i<Ű,An:=i<ao,YC:=x::y::r,yh à:=(xm à).2,ahQ:=ŧ<=Ū,akX:=aRV<=bsi,akF:=aui++ß,aao:=([],[]),a7a:=fun k h agI=>by rw[aPB],bac:=ai0 it c.it&&(baj c.tg),bmv:=∀n,Ą (rk.kp L n)<=n,aVy:=ć aCS,aih:=st.2.1,a9g à:=fun A J H q=>bGw g y p aih b (à),DC:=2^cT,aQb:=Ć FC Sr,bd1:=⟨q.1,q.2,q'.1,q'.2⟩,aHl:=[fz,GG,GF],aHk:=["n","m","k"],uq à:=h à Α,ajU:=Ĝ a ha,aJT:=Ę jx h a_,bnt:=Ę eR h (bx r' aps h),ahz:=ħ .ę,ahX à á:=Ī (RM à) á á,aOb:=Ĩ O W R p q,agV:=ś Bool,bbE à á â ã:=by rw[aT x f à á g t0 (Ė k t g g)];refine χ (bbD d f â à á) c ã t0,acO:=c/2^j%2,act:=U1 i%2,aQk:=Ń (FR b h),a2S:=[anu,ac0,Wz,"_law_at"],a20:=[Jo,"last",Ph,"card"],a2M:=[fz,"one","other",oZ],Ak:=Î n,abL:=Î ao,aKx à:=Å (τ x (Å (à))),afN:=ű none,Zy:=Ä Bp,yI:=Í h,aQg:=⟨q,m⟩,a6B:=Í ⟨aQg,q,e⟩,beo à á:=by have à:=I.u_ Ķ á;have h0:aeY Ģ=none:=W4 I.sz,acW:=Υ iK,aPp:=Ų (Z8 A) B,a4p à á:=∃N:yj,(∀mR H',N mR H'->∃m',m'<m/\à)/\á,Yg:=aw cw,bms:=(Ĵ p.1)/amK (U5:Nat),blQ à:=f p.1 q.2 != à||f q.1 p.2 != à,aS8:=û (Nt _ _),bbH:=ς t e A (n _ (bbF o)),acJ:=fg stx,ahr:=.bT a b,bjt:=.bT (.bT Ō HE) Ľ,bjv:=.bT (.str "plan ") Ľ,aaS:=dg a b,ZT:=Cw CA,ZU:=Cw zJ,yf:=yM b,aUN:=eK Vb r Ur,aPk:=fB (h i _ e),Z9:=lu cN,abJ:=Al Nm,bbY:=.v d fr,ZV:=mW bIb,ZA:=zI nM,aUH:=dC (ft J m a),ab0:=W9 rest,aTO:=vg (op:=Xz),ama:=ps b r c,Xs:=zU WR,ZQ:=BF z z,Ma:=by rw[bqf,ajr a],Lx:=(· <= ·),UB à á â:=Ê ŕ à á (.bl â),YK:=ā (.od s),a2O:=["_law_question_here",aV9,"_law_found"],aNS à á â:=Ŷ u rfl à (Kb á) (đ â rfl à),zM à á:=(by have à:=á;subst à),M9:=(snd c),aRv:=jH Em b (Hs b),a3H:=fun z=>(j c z).2.2.1 x c e rfl,a2n:=en P "__file__" 173 (aWf 172),acQ:=Vh=true,BO à:=DV->Cl->à,bn2 à á:=by rw[bK (side à=á) rfl]at h;rw[uG this h (dN h).symm],a2q:=en P "__package__" 167 Ġ,bcL à á â ã:=kU ps hp ht à (cZ _ _ hP) á (brN (À:=â) (env:=Ó) ã),aTt à:=aoo (d:=à) (cl:=.č),blm:=((UD j).filter acf).map,Mm à:=fy (à)=Û,a2o:=en P "__spec__" 169 Ġ,ab2 à:=V1 (à) gw,bkV à:=ab2 (a0K (bxZ à Ă) Ă) e,bi4:=.cmp .In (.str ":") ĉ,Zo:=Cc rfl,aVc:=vf (x:=true),aTP:=ve (aBv ă),aIT:=vP b y u e d,Z3:=GV adR,aLu:=.adv j i m es,ahD:=.ext i e,aM3:=LJ aM,aRI à:=En à Ku (Om st),aPA:=AU t X.K H a,aVQ:=FI (amG R),ai4:=GR O xs,ajb:=Mq σ a,XR:=AI Ï,aKi:=Fx (C+1) mu,Za à:=(by rcases à with q | q),aMj:=Lq A _ Q E s,bmh:=D9 (iQ a (DV.bl qd)),ahL:=Rx m δ,YQ:=.zp a b,ahE:=.aug i e,ba1:=G4 e (Ŗ e (aFC c r)),T6:=(gJ 1),biG:=HA ĉ T6 (jM 1),biO:=Hy 6 [gV,sx (xq 3)],aIh à:=Un X.fs [] H à Ĳ,aTz:=UM C (ļ C),a76:=WU (y_ xW [k_,ŭ]),Xx:=aEd X f,aUO:=Zm (Al Ur),bgf à á â:=⟨Ŝ,l,a,C,Ot,_,à,rfl,j,c,á,rfl,k _ H GW â⟩,aT7:=O3 u0 oG t,afd:=isTrue e,af0:=aJs qual,YR:=aXN Τ,aai:=bp2 X.D,a13:=ac8 (T1 eL) n1 k1 d os,Wr:=s.drawn,bel:=Y b o akb akb akb akb e,aho:=.idx a b,bjm:=ahT (mM 2 2 8) (ć 7),aVC à:=∀(p:Pn) (i j:Nat),à,bnS:=aio bwh (þ (Nt _ _)),aNm à á:=adO à q á body À cl f,aag:=s1.free,aaO:=valueAt,aaY:=oA a dx,aRJ à:=ao6 K à qual st fa,aex:="shared",a47 à:=aEe fun ζ ζ ζ ζ ζ ζ ζ a q=>à,agL:=r.extBut,aig:=slotAt t,aiv:=f.length,aQ8:=aFN N (Qt d),aM0:=aWz (lQ t.1),aSc:=Er h m es bs,bko:=apk.mpr ⟨_,j,a,r,c⟩,aH4:=X.env.globals,aIC:=swappedStores,aIK:=h.IsTupleIter,aK2:=δ.getD i .no,aLa à á:=bsb F f [(à,cx),(á,cy)],aLk:=bse G F m Τ,aNC:=List.all_cons,aNY:=bIU n m ds es,aN2:=Bool.and_self,aOn:=p.mem_iff.mpr,aRC:=q.N.getD J "",aT4:=rb rows w n m,blV:=byR (fu:=fu) (k:=k) L N,aVl à:=bzH (d:=à) rfl rfl,aV2:=bUd.getD i "",a31:=wpAny_loadName_free JJ,a6q:=wpAny_Call_method0_late,bdy à á â:=CE.vm (Q:=Q) à á (ń v â sm z) fun v â z=>z.1,ber:=List.getElem?_cons_succ,beI:=Heap.get?_push_ne _ _ _,bf4:=PySem.F.slot_dict_items,bkp:=decide_eq_false_iff_not,blp:=Nat.testBit_div_two_pow,bpe à á â:=bQa (F:=F) (δ:=à) (e:=á) (rows:=R) (Ä â.1) rfl,bdY:=(by obtain⟨_,_,_,_,q,_⟩:=g;cases q),bgD:=by rw[akM c ea eb p,cq n m l c],Bo à á â ã:=by rw[à];rw[bp4],t5 à:=by rw[à,bv],bnJ à á:=by rw[am à];exact Ñ (V0 (DH (á)) Dk),bpp à á:=by rw[show vA à=á by kernel_rfl,A3],a58:=(by rw[g];simpa using l),aQ6 à:=by rw[Ę à h1 bBG];exact h2,bkI:=by have q:=OW h;rw[ph Ċ R.1 q q],aA8 à á:=Ĥ (r1 à) j (á,j),bfj à á â ã ä å:=⟨MG,à,á,ajd (â) (ť h) (fun a ã ζ h ζ=>MO h),ä,bhE å (R.cV.aYR s)⟩,bjV à:=by have:aG*m<=n*m:=Nat.mul_le_mul_right m à,acl à:=È (qD à),bmD:=nD (rk.bs (LL ls) U7),a2c:=en P aDN 755 (iY 754),a2d:=en P aAc 753 (abF 752),a2h:=en P aDO 317 (xv 316),biH:=fZ 4 24 [ĉ,Ō,az],a4O à:=fG e (Ţ r1 (Ĩ j rv p hz (à))),bkB:=jD (rest.getD i []) j,acL à:=qG a à ca,a3S à:=lW hs b (JN à) (aH8 e n O w),a4l à:=h c _ i H j _ Q (ZB (iy (à))),Y2:=Ou.ofM,a8k à á:=if Ą (s::ds)=à then Y2 s (á)else none,ass:=X.adh E,a4g:=Inv ass a σ H s,bjS à á:=zf (ō (f6 à c) (Rc.item à)) á,aLD à:=by rw[ff,à,aA,c,aA,h],bbT:=MP o LM apos [e] aZa,a7L à:=one l fun d _=>Ĥ (à) n (pO ux),a9J à:=Qb (vY c b) a bs à (Ks e r),a9y à:=aay ((o4 à == o4 à)=true),aRz à á â:=(by obtain⟨⟨à,á,f0,f1,f2,f3⟩,u⟩:=â),bnA à á â ã ä:=∃(à á:Nat) (R:ď),0<à/\à<=8/\0<á/\á<=8/\â/\W9 R/\amH R/\acx á R/\ã=ā (ä),Zn à á:=(by unfold à;refine á),af8 à á â ã ä å æ:=(by intro à á â s ã H x y v u Q I ä å æ hs),a62:=J'.pin (b,o) (aki s e),a96 à á â:=btn e fun ef pos=>(IS ef fun à n apos=>á&&aiT&&â),bby:=bbv (adU I 60 p.2 o m),beU:=beZ (nr hq) b0 rC a5,aLE:=by push_cast;omega,bfK à á:=(by obtain⟨_,_,xs,_,à⟩:=aZG cZ e;exact á),a4A:=wpAny_pyNext_list_item,a4V:=List.mem_filterMap.mpr,a6c:=subscriptTail_builtinR,a7i à á:=M.extBut _ _ à (N.extBut _ _ à á),a8y:=List.pairwise_lt_range,a9w:=List.drop_of_length_le,a9B:=kas_cmp prog w A κ it,ba6:=List.not_of_lt_findIdx,bfU:=Builtin.«dict.items»,bgu à:=bC7 g.nd (Ć g.N à.1) l.1 l.2,bj1:=List.Pairwise.filter _,blN:=Nat.le_of_succ_le_succ,a6n à:=(by obtain⟨o,n,e,c,hd,_⟩:=à;exact cY e hd),bk4 à:=(by rw[Ę p h (cS à)];generalize NL=A at *),Ql à:=H1 à=none,avS à:=œ (.or à)=o,at5:=aJ3 x=ū,aMX:=Ξ->ſ ğ,Qv:=V->Xv,aOJ:=XO<atp/\dh,BB:=ā n,CI:=ā k,aCb:=[ħ Nm],avJ:=d_::args,Su:=n<=Ū,bj2:=fun r=>Dp (lz r)==r,aAl:=[dM,qw],bob à:=(((à++tx a)++[44])++tx b)++[41],Qm:=us++ds,aCU:=bs++[aVy],bbA:=fun d cl z=>G8 z ce,baI:=∃L,d=aQs/\o=.dT Hj,bfs à á:=fun v à á g=>k v à (L.out á) (L.bLw g),bnO:=2^((d:Nat):Int).toNat,Cz:=a∈W,bgk:=∀x c,aaZ x=ū->qX,a2Q:=[aDB,acZ,"_law_card"],a4c à:=by rw[FN b.toList r à];have e:=Á,blW:=∀p∈l,p.1<n/\p.2<m,Se à á:=aFn à==Vy,Br:=į h,azR:=ġ i d h,avV à á:=ĳ δ à (.own á),bgQ à:=⟨N,d,à,Rn,G.II,G.IJ⟩,Bs:=Ř q,PF:=b∉ch,bn8:=(c:Int)/(Ĵ (2^j))%2,anw à:=Ŏ à [tz],B4:=œ b,az9:=[1,2,3,4],a8h:=ŏ (Ų (aX0 d) h) e,bog:=Ţ hd (blU a (x::l)),bhK:=ű PassesOwn.leaving,UP:=ž ?_,bmP:=Ù callC (B8 a b) h,B5:=ay b,aAD à:=ay (xm à).1,UR à:=cn (à+1),al2 à:=É (Ĵ à),aA6:=bx g a q,arM:=bX T aOM,O_ à:=fR à bv,A7:=vW a,a7B:=gQ (brS Ĳ b e a d),a7A:=gQ (brR Ĳ b e a d),a7C:=gQ (aXs Ĳ b e a d),PX:=PT X a,PZ:=PT X c,bmC:=qt [xF,cn (acs i)],bmN:=qt [uX,cn (DM c)],a14 à á â:=mZ (à).abs ⟨denote Eu á,á,â,[Wq â]⟩,bjU:=f9 (ws.drop (j*m)) m,bfP à:=eN i ⟨a,ć E,n,à,SQ s IT⟩,bdx:=fC x e (aZg I f c b),azL à:=à.1 g b.1.1 h,B6:=pT r,boT:=hZ S.rc.1 (av S.n8),bg1:=jH aoN q (SB q _ q),BR:=.fn _,Rf:=upTo 0,biF:=.or [aSn 1 2,aSn 2 1],PY:=q9 ta,U9:=bs ao,amt à:=V0 (Ω à),Ui:=.jU 0,ams à á:=rQ (.ix e à) (á),boK à:=mV (NP ţ S 0 xF) (oE à),bm4 à:=mP δ à (Va (bQ 7 (wD w))),bnG à á:=mN l [aWo,ik á] rfl rfl (bzF _ á),aNs:=wc (.lst b),aQH:=wc (GT k0),T0:=kp L n,aQ0:=uK Ă g.hu,aPj à:=wV (Ć Sr à),bbG:=rf k f rfl (bI9 e) t,awN:=wZ aX h,azF:=SB c _ c,atj à:=yg à (aw q),Qq à:=afV X.K à,bn7:=Am aDK ab3 (Ë xM),Ru:=RI δ,aL5:=zo Ĳ a ks,axf:=vj d a o,axC à:=E1 à (b::es),K_ à á:=show à by rw[á],boE:=K_ (Î _) nX,B3:=aEM F,aSN:=.IE ģ iY,bjw:=Ah (aSL [Dj] Ľ 6),aAu à á:=IY à Đ (þ á),aJI à:=MP o name apos à,aPO:=QP c l vs S,bi0:=.exp (abo 61 gV aDN),bnI:=Dw xL (AO ą Ņ),Ex:="run",Bx:=error,ahB à:=akn (ds++à),be6 à á:=fun i v u n hv ru hn à s' á I' sm=>?_,axx:=Z5 a C g,aDn:=SC 2 Ū,CT:=bKc T,DO:=bTp R,PQ:=aIn σ,aI2:=DW K H p xs,aKN:=aXq t h a vs,au8:=aEL G b s,avw:=.adw body,Rz:=.sep i,RA:=.aXx i,aP3:=SG (se H1),bfg:=Te p (Bm (ŗ z q)),aK1:=aoh δ is,avr à á â:=ahf q.1 à á (lQ q) â,RK:=bqa xs,axF à:=aju (fy à) a,aA9:=oQ J f b,aUI:=mf (Wg m a),a81 à:=by rw[k7 (awc j h à ?_) (ah9 _)];simp[cI],Pq:=xs.map,Q0:=Rt.dH,bnN:=ahU .In (kh (c∈l)),aNo:=OP K H a xs,bks:=abR (abX && !ü w t),a3e:=aeF (bqw eL) 100 305,a6T:=arX (an1 f h) z z1 z2,ar8:=y b o e a,aLf:=.aEu x y a b,avc:=.aXu i xs,aLl:=.aEv f a b N,bow:=ahy m fun j=>qF==HI,aQI à:=ayj (aF1 X.D C à),aCd:=wd rows h,aV8:=nsIn Oe io,aah à á â ã:=(by rename_i à á â;rw[ã]),aIB:=aMI (azp es),aJk:=CX Ï H s E,YW:=ā (ze d),ND:=(sN 0),N7:=(sN 1),Pz:=(ase e),PM:=(Bm z),aeX:=aQP b=ĕ,aON:=ajI++Kk n none,Qn à:=ġ r s' à,aBh à á â:=Ê (k+à) á uT (rV (â)),aID:=Int->Int->Int,bmG:=fun r=>É (tw r:Nat),UH à á â:=ĳ à á (ħ â),bfh:=(by intro q;exact Te a z (s.free q)),aN8:=buh 60 60,bbx:=aN8 _ _ p.1 p.2,aCh à á:=b _ _ à Ă á Ă,bgT:=g.loc y.1 (uL adM Y),bnY:=ls.map (fun q=>acF q),bo3 à:=aGS _ _ à (Ä O9) (Ä O9),asm à á â:=(by intro à á s f H Q I h;refine â),aG1 à:=aWH à p w Iu ann,apS:=segRun_of,aqc:="read_as",aqp:="is_text",aqt:="is_plan",aqx:="reached",aqz:="reduced",aqB:="widened",aq5:="trimmed",arc:="flipped",are:="is_line",arj:="NoTable",aro:=boot_heap,a6o à:=to σ H fun x H1=>brF K T x H1/\à,atf:=Str.empty,bfC:=atd (Ć l (d.val k)),atN:=c.toArray,atS:=O.map nM,auc:=ys.length,auf:=rv.length,auT:=bs.all id,auU:=bs.any id,aLn à:=.chain op à a b c,avE:=Rt.Ee δ,av0:=h.standIn,awv:=kasC_pure,awy:=h.rev _ _,ba9:=aNQ x y 0 cK (cK+1),axQ:=insI_perm,aPQ:=F.extBut _ _,ay6:=ks.map kV,aUR:=bzz m rows s,aIA:=inplaceOp op,aIJ:=h.IsListIter,aJf:=Nat.le_of_eq,aJh:=Code.isFrame,aJi:=Around.under,aKg:=own.lookup x,aKK:=j.extBut _ _,aLb:=bsa F m cs l,aLR:=SetTable.has,aLT:=pickOrder.go,aMx:=wpAny_typeOf,aMK:=Bool.true_or,aMR:=Nat.sub_zero,aNA:=h.btQ hd iU,bef:=buN (tg:=tg) (D:=X.D),aPY:=keys.zip C2,aSa:=HM K bl cl C,aTo à:=Ņ (G:=G) (F:=à),aTr:=Nat.sub_self,aTx:=Nat.succ_mul,bpo:=codeIn Oe (ċ cd) x,a1Z:=List.take_append_drop,a4y:=wpAny_pyNext_list_end,a4X:=y.pin (b,o) (aki p e),a40 à á:=T.item à rfl rfl rfl hc i á s3 DX H3,a41 à á:=T.done à rfl rfl rfl hc i á s3 DX H3,a5o:=PySem.W.plainOver K C,a9K:=Expr.UnaryOp.elim e h,baR:=Builtin.Int.intTooBig,bbq:=StrLaws.found_one B c,bcc:=bD0 a s i H _ j Q I r,bdj:=buA N ps Ci À cl l,bix:=List.find?_eq_none.mp,bj3:=bPy (bPz _ _) (fA x),bj5 à:=bPw (fu:=fu) (k:=k+1) à n m R,ba2:=(by rename_i x t e;rw[e]at b),bnT:=by simp only[ŀ,Ÿ,Ċ,wP];omega,a4i:=V->V->V->Hp->Ž ni,a44:=0<=j/\j<=Q2/\KO 64,beQ:=fun v z=>Ń (EL N),a5P:=fun b z=>eV z (l b),bbV:=(u.since s1).all L_,asR:=-(2^64),a7I à:=ü asR à&&ü à (2^64),bBJ:=by rw[a3q];exact 8,bbz:=∀d c,re=dt c->aOd,arE:="FORMS",a15:=Č arE 1090 675,aQj à á â ã ä å:=by rw[bBH à á];have c:(İ (â=ã) ä (AL (ã) _ b))=å:=h,bb8:=Ė n0 e e1 (eJ e0),a5h à:=∃u à,us=[u,à]/\A5/\RelV y à,a9z à á:=by show kasC _ _ _ _ _ _ _;rw[ĺ (kasC_cons à) á],bhq:=by rw[bqh];exact((f g b).2 r h).pt,bnf:=(p++[r]).foldl dR [],baA:=Ń (wW DV.IG m m),bg6:=Š x k B r1 sm j B0,aTW à:=ź (à+1+i=à+ö),aw1 à á:=∀{d:DV} {v:V},anI,a6k:=ψ h (cY e ex.2.1),bcM à á â:=∀f à s',eT á σ à s'->Ú à->aQ f->â->Q j9 s',a8s:=bH SetTable.slot hs,bbP:=bK (RelV Ŝ _) rfl,bfl à:=k _ b W ((cN).adZ (à) i) fr ow,aIq:=(by rcases a with a | a),bnx:=f9 (s.drop (j*m)) m,bnL:=eM fun w=>z (bSN w),ir à á:=(by intro à;rw[á]),a6e:=gW Ò (.seq yG i),a8P à:=let ⟨o,e,c,_⟩:=x;cY e à,bd6:=lu (L.less h.1 h.2),baM à á â:=fun à á s â H Q I q=>h à á s â H Q I (k â H Q q),a6l:=t7 (cY e ex.1) a h,bmi:=uK (ź (_<=8)) Đ,a56:=vN (BI id (v::us)),bmJ:=bs n fun c=>q c||a c,t_ à á:=(by unfold à;exact á),bom:=B7 ahq (dS (rF l)),aDo à:=apG (n:=à) Ă,biy à á:=if Nil m aSd then à else à++[á],bbc à á â ã ä å æ:=∃(y:Str) (a:Addr) (à:ğ),á=ma/\â=nB/\ã/\(ä).sum+å*ky<=Ū/\Q (.str (my y à)) æ,a48:=rI bDA (afw (i*Yx)),Zh à:=by dsimp only at à,a2v:=arp (t+11) ln (t+10),a4s:=.While c body [] pos,bme:=Zq7 k85.G amu fu bRg,bep:=Turn P w K (aQy pos),bd3:=(by subst e;have c:=axg),a8b:=bou δ' c body fu δ,a9j:=m.at (aS e (ye e)),a2s:="ValueError.__new__",a8u:=Array.toArray_toList,bas:=PySem.W.kla_fn A_ q,bfG:=bLG I (Ć e t8) hs,bgg:=(by obtain⟨e1,_,_,e4,e5⟩:=bvj e),biu:=List.mem_erase_of_ne,afY:=bqi=ă,afZ:=bqj=ă,ak7:=Nat->Rw,bot:=1+max n.deep a.deep,ahN:=ā t,ahd:=ā bbY,ahw:=ā δ1,ahS:=ā BU,aQf:=Kf+1<cLine,aTb:=[uS,ļ c],bjK:=[sC 87 dL,ć 40],bbB:=(o.mono s2).all L_,F3:=(d,c),biq:=fun a o e=>X a o ?_,Sf à:=à&&wR&&aNa,al6:=Ą eC,am5:=Ą qH,alL:=(w:Int),aHC:=(WJ a:Key),aVb à:=⟨(à).toNat,Ě⟩,bk7:=⟨Ä Ax,fA j⟩,bdr à:=fun v à s g=>p v à (zQ s) g,a9d à:=fun A p o q=>bGv l st.2 c à,a3A à:=fun b à q ζ=>⟨à,k b à q⟩,aO6 à á:=fun i H s à=>aaw á à à,abH à á â:=by show bU (Ĥ (à) á (â))=_,aVA:=⟨x,y,e⟩,aI3:=⟨H,I,q⟩,a5z:=⟨[],H,I,.nil,h⟩,aOQ à:=by rw[ŀ,ŀ,à],Ge:=j≠i,al9:=w∈DA,a2j:=Č "NoText" 286 85,a2k:=Č "NoPlan" 254 61,a2l:=Č "NoCard" 238 49,aI4:=.str (i++j),P9 à:=∀b∈fp,à,bm3:=Ĕ s1 s.1 s2 s.2.1,bon:=Ę c a (bx r i a),bpb:=Ĥ (yd 3) x (x%q),G6:=į z,a4z:=Ĩ r n p Z (nr l),a4E:=Ĩ r n p Z (pq l),bbI:=Ĩ d c o e (buo h),E6:=f i j,ajy:=ī jZ,aI1:=!xs.isEmpty,ayv à á â ã ä å æ ç è:=⟨MG,MG,fun j k a à á â ã ä å=>?_,æ,ç,è⟩,a7K:=⟨_,_,_,_,rfl,h⟩,aM8:=ĳ adN m n,aj2:=ŉ vo,Hq:=Ŀ a,a7l:=ĵ (FP hU rfl ?_),EG:=Ř h,Fh:=Ř a,a7T à:=ś (Int×à×à×Str×Int),ahg:=ś Str,aL6:=Å (Å h),at0 à:=ŝ (Kv o (à)),akf:=ť Α,Gn:=Õ b,ah5:=Ì kW,amk:=Î r9,agZ:=Ο jy,aiA:=Ο Ű,anh:=Ë acU,aJR:=ai (aW t),aRy:=(snd e).1 g,aQz à:=∀{es:aE},xc->à,amp:=Þ rfl,a6S:=Í ⟨z1,ť z2⟩,aVT:=Υ (ak N),aSU:=π a Ŧ c,aUg:=Β ą DG,a55:=ς v6 h e (dN h),bjx:=du 6 (aSM Dj ĉ),a2w:=.str "__main__" 164,ahe:=F f br,bf7:=ac rfl rfl rfl rfl,ahv:=.ix a b,blc:=fg (abS x (x:Int)),aiB:=Vals vs,aUl:=¬aco amv w,a91 à:=C ⟨[],à,none,[],[],none,[]⟩,a92 à á â ã ä å:=a91 [⟨à,á,â⟩,⟨ã,ä,å⟩] [à,ã],bkW:=cP (aac+Ŭ=mB j),Hz:=jM 0,afP:=qW Ģ,agu:=j_ i i,a6y à á â ã:=∃l b xs zs,x=pE/\à=á/\tQ l/\â/\ů (aP+zs.length)/\ã,aVH:=dS (v::ane),ba3:=by rw[QL,Kz]at h;rw[SB h h1 _],aNX:=fR OJ BN,a53 à á:=f9 (à) (BA á á hi - BA á 0 lo),aUj:=pd Á bl4,aRn à á:=gj k tp rfl (aFo à) (á),bjN:=iG mT ahR aaJ cI,a9i à:=let (cY e r):=st.2.2;cY (à) r,blb:=iQ (x:Nat) (x:Int),bBK:=pO ba,afW:=m9 jo,EI:=yM a,aKk:=rB aKm brP,agH:=S k Ĳ,GJ:=awY H,ai3:=awY CA,bd0:=qo H1 (.range _ _),alz:=Al jN,Il:=N_ w,aKT:=AL k ks vs,GP:=Ti a,blY:=NN 39 (abr 10) blZ,aJo:=lH ŕ X.A,awT:=Qt bo,bcU:=uI m (ajH _ m z) z,ang:=V0 aVL,Fm:=aeL h,Gz:=aiy n,alc:=Hw Ľ,afa:=Xn nA,aP9:=Xn (yR p),a4m:=PG X (t9 es k pos),beL:=Bc e Ě (ű Ě),afD:=KV a vs,agw:=at4 pB,GE:=aYw e,Fs:=bcN H,aK3:=(a,b,c,d,e),aPm:=c j _ h iU,bez:=VA R N S Z j C B Q,bbj:=VA n l p F g L j m,bf2:=VA S J U R j Z x O,PR à:=aWD H I (à),aJt:=Fx jo mu,FA:=brz X,agF à á:=agv tg à á pos,agU:=cutD ds,F1:=CmpOp,aLm:=.sl a lo hi,ajL:=V6 k A,akw:=akq p z,am7:=apa DP,HY:=bPX J,amg:=amL Ņ,afi:=te σ H,aIX:=adk r ta tb,aM1:=.Dict [] [],bcf:=S5 bqk (cY g l.1),bdL:=Tf bqk (cY g k.1),aj9:=aFS t h,aS2:=alH bP xz,aTT:=acA (k+m+3),amy:=aGA K x,agD:=aRE mu,aKL:=sK t b a vs,be0:=I.u_ Ă (pj Ă),aSW:=amx (Uk j),amF:=aUK R C,bfF:=afM (atD Ŝ u),a6v:=agb (j_ q (aw q)),aLg à:=.aEt a N np à fr,bln:=pD (byo rows w n m),aez:="alike",a3G:=arX I.ok.bqD e e hf,ae7:=N.Nodup,a60:=asO st ζ (Z b o e),aii:=s1.toks,a9A:=aww (kasC_range ?_),aiX:="items",ai5:=btL.mpr,bfD à á â ã ä å æ ç è é:=gf (aT z hd xs à á (aZG cZ e) (aJ â ã ä å p æ ç (eJ ã))) (wpAny_getItem_heap (bfI è) (é) á æ ?_) (Ĉ ç (h â _ tY ä)),TF:=(fg f),agp:=true=true,aij:=ain b=ĕ,acH à:=ŏ (bBI à),ahA:=avB=true,aUC:=[ak h,jO S],bo9:=i=0\/i=1\/i=6\/i=7\/i=8,bl9 à:=cH Int.natAbs_mul Nat.pow_add (à),ayO à á:=cC à=ā (aaK á),a7N à:=Ĥ (D9 ds) bs (pO (.bl à)),agq à:=ŝ ac7,arK:=by rw[bBJ];exact 9,ax1 à á:=ir z (EV à á á),al7:=ā bBK,aH0 à á:=ā {à with slots:=á},bbW:=(i.mono s2).all L_,bcu:=(X.mg Pd).getD Ġ,XY à á:=by show à=_;rw[á],aTg:=Ą (uU p),aHB:=(aeG a:Key),bdv:=bql pB a (aJ3 y.1),akm:=sm.free,akS:=bMG G F,akT:=bMH G F,ak6:=bOK K a,bcV à:=by have z:=à.2 p L;show jL p.1=_,aHL:=h.Ns1 dx mA,asW à:=bDz (atZ q (à)),aJg:=brm K H Ŝ,aMb:=a87 (ĭ 0),aiZ:=!adK v,bag à:=aFl s fun v ζ=>à && aiZ,bgp:=aRM (f [Cb a j]) C,bj6 à:=aGi (k:=k+à) rows (Ä R.1),boR à:=aUd [(tT R,.č)] (b (k+à)),aDz à á:=(by obtain rfl:=bAZ à;exact á),aHO:=sU.toArray,aId:=I.anL x c e,aJq:=j.Ν.fresh,aJy:=seqIndex_of,aLc:=xs.lookup x,aLS:=layNew t es,aMB:=p.length_eq,aMY à:=bHg h fun a ζ h=>à,baf à:=aYi e fun o ea=>o == à&&wR,bae à:=aYj e fun o es=>o == à&&qh,aNO:=Txt.split x,aNU:=strValues l,bdD:=be5 wu w1 h2 hj fr,aPW:=keys.toList,aR6:=eq_of_beq e,aUp:=Kl rows m n,bmB:=kS ls 0 .no .no .no,bBS:=rows.drop p,bBT:=rows.take p,aU1:=cols.length,bnH:=a0E (fu:=fu) (k:=k),a1W:=w.params.followText,a1X:=topFrom Eu p oW N,a5r:=PySem.W.makesIn K C,a6p:=PySem.evalArgs_none,a7e:=s.heap.IsTuple a vs,a7F:=Builtin.Range.small,a9n:=F.plain_extend_loop,bal:=PySem.W.kla_obj A_,bba:=Builtin.Str.strKind,bex à:=∀ b o, cC b = ĕ -> à = ĕ,bf9:=Int.toNat_of_nonneg,bgm:=PySem.W.find_K D.lk,bkz:=bPP (k:=k) (fu:=fu),blG:=Nat.testBit_two_pow,bmU:=bRS ą (Vj (e _)),bnw:=bSq (fu:=fu) (k:=k),be8 à á â ã ä å æ:=(by obtain⟨zs,à,I2,rz,f,e,á,O,W,a,r,â,ks,ã,e',R,sq,ä,å,hk,æ,hq⟩:=B0;subst e e'),bcg à á â ã ä:=(by rw[pi à];obtain⟨_,_,_,_,_,o,_,_,g,á,_⟩:=(aQx â ã a ä)),Zi:=(a::r),awH:=aM->aM3,azZ:=uo->bBL,q_ à:=by exact Å à,atc:=(r).elim,aDE:=(zd j).c,acG:=[48+n],a99:=fun as=>as.isEmpty,bfH:=fun J i hs=>h _ ?_,bao:=∀x,ajK->∃c,agB,bmk à:=by rw[iG à e Χ Χ];rfl,a4W:=by rw[Ĩ a z y K B];exact w y K,a5E:=⟨I.bCM,I.tabs⟩,bc3:=fun ζ ζ z q=>q z,bbp à á:=by rw[Ę (à) r (ň t rfl r (Į _ (á)))],a59:=by rw[b_]<;>omega,bkl:=[tT aaM,rJ,ć b],a3a:=[m7,"reader",tE],aQ5 à á â:=by have aF6:j<wu:=jh à;rw[bBM á â],a2i:=Č "NoAsk" 302 97,bcF:=Ĉ (LV e2 hn) e2,bkJ à á:=by rw[alG 0 b];have à:=OW (cU h á (OX a)),bcr:=Jr :: aj u::x::r,ayl:=Ĝ c hc,azT:=Ĝ y hy,aBl:=Ĝ r hr,bat à:=∃v à,xs=v::à/\zG/\Sl à,axZ à:=∃i t,à=Jr,Fe à á â ã ä:=by rw[bp8];exact ä,Y':=į hs,acj:=į hd,bcB:=Į o (kp b o z e),ľ à á:=by rw[à];refine á,avk:=ł f es,bc7:=ĵ (Å (bqe tk)),arZ:=b∉X.fs,asl à:=PE X (bqm à),auI:=KM×Ħ,bBN à:=ŏ (δ':=à),YI:=ś Ri,a8c:=ō FW (.v d ă),abg:=ih.2 z,acK:=stx [],YZ:=.ret e,axs:=x.cps[i],avI:=Υ .ę,bo8:=Υ (tT (a1Q n m)),aC9:=bL S.m8,Xj:=fH te,asA:=c_ pos',av8:=pure dX,bi1:=fh (.oS aDM) ù,bay à:=gh ZS ⟨a,xs,e1,à,awW e3⟩,axR:=g_ insI,bja:=fZ 4 80 [Ō,az],bfL:=upd j a (.oP c o),a5R:=iy (z.bs b o e).1,bl1:=iO _ (š iD a04),jC à á â:=(by unfold à á;rw[â]),YH:=uR is,a3y:=nb (fun z=>aHV) r,Xh:=vM tb,aaT:=kP p.1,bk1 à á:=qC (lE 8 à uT) ((UO á).map tD),Xd:=PT X e,Zl:=eX tk,avF:=.app i e,asY:=yy op r,akQ à á â:=(by intro sg X à δ á g â h),avQ:=upTo a n,Y6:=aWC cl,Y8:=GQ cl,Yv:=BQ ds,aBa:=ps b R C,a68:=J4 (QO (ċ ia)),aCg:=.OD u e,Zb:=AQ xs,aa2:=TV ms,aA0 à:=gO (d:=à) rfl,acu:=bs n q,a8j:=B7 avj (ds.map f),ZL:=En sg,aDD:=Qt d.np,avA:=.VR i e,Y0:=.exp e,ZM:=params,axa:=adS hd a,aLY à:=Xp à (b.get? à),avx:=.an7 i e,aaB:=s1 _ _,a3M:=Un W5 ch H H' Ĳ,aut:=S1 k Ĳ,YS:=.brX a,avg:=.an4 i m,bhf:=hb.2.2 g h2 hz bvN,bjX à á:=Zn à (Ñ (AE (Ų (apd á) ?_))),bdf:=aau (X.K.In h) c P,Wx:="size",WA:="name",WO:=Paired,WV:=TabsOk,a37:=m l d s1 f k Q j i,aso:=aIR .Not,asw:=aWX X es,baS:=rI aYZ (afw (i*j)),a5M à á â ã:=(by simp at d c;subst d;subst c;show à=_;rw[Ù á (â) (ã)];simp),bdu:=af1 (DY b pB []),aus:=S2 k Ĳ,Y3:=C.body,bj7:=ahU .LtE (aq i j),Zf:=h.rise,Z6:=L2.Ov,ab8:=zZ J f,aBI à:=aT6 j (sv à),apP:=H₀ Je,asp:=tb σ H1,a5a:=aWG (0<=j) (i/Yx),atq:=a5q us a,auJ:=VS ds i,a88:=fun z => c (azQ z),aDf:=Sk n m R,aqr:="is_ask",aqs:="is_end",aqG:="halves",aqH:="splits",aqW:="widest",aqZ:="digits",ard:="is_row",arh:="is_int",bfM:=aHQ c ok (Į c e),asE:=J.go i H,asG:=p.isList,atU:=un.Iz b,auL:=j.natAbs,ava à:=bsh G F à δ,avf:=.brW a b,av7:=c.toList,awe:=f.typeIs,axc:=bId hd a,axn:=h.length,axO:=ints_rep,ayc:=Cells.of,ayy:=M.length,ayP:=congrFun,ay2:=L.bu6 b2,ay9:=List.map,aze à:=by injection à with à,bj8 à:=a0D (fu:=fu) (k:=à) rows n m,bll à á:=∃g e:Sv,à=[eD,jR,fq (pD (á)),g,e],blB:=cv.AV blC (amh e),aCq:=v.length,aCF:=D.length,aDC:=bOD X Ns,aIV à á â:=(by rcases à with⟨á,â⟩ | ⟨á,â⟩),bdh à:=a2 (à).1 (à).2.1 (à).2.2,a6W:=Option.isSome_some,a8B:=putSet_of es' t' b,a8M:=codeAny_of_tree ?_,a9m à:=wpAny_setEpoch_of à u f ?_,a9u:=Builtin.«sorted»,bck:=PySem.W.kitx_tuple,bdb:=h'.TableAt a T #[],bdq:=PySem.W.FnAt f Ĳ,beB:=PySem.W.kat_lt_int,beF:=Array.forIn_toList,bfS:=List.zip_cons_cons,bf0:=bL8 (iB R) g B hd,bhp:=@n l X _ k j g b.2,bh7:=List.length_range',bki:=Nat.and_one_is_mod,bkj:=Int.natAbs_natCast,a6F à:=(by have:=Bz Obj.data (dN à);cases this),biW:=(Ē [Ō,jM 4]),KA:=(g a),NA:=(b _),KW:=BZ.1,aTw:=(eC).getD,a8e à á:=.od s::(CW abe++Kk (à - á) .no),aLd à:=fun x c=>aEV x c à,Nv:=n<=60,Nu:=m<=60,ahl à á:=fun k=>İ k à á,aH5:=X.pn++pins,bea à á:=∃c,Vx (.ok á c)/\f6 á c=true,aTf:=Ą (cs c),Z' à:=Ć à Α,aQ3:=Ć g.N q1,a6d:=⟨z,H,I,jS,q⟩,bdp à:=⟨_,_,_,_,(cZ _ _ à).1⟩,aSV:=by rw[abU],aJW:=H a≠none,Lu:=ċ q,bam:=∀x c,agB->c∈l,aPf:=[e,e',buK],a5e à:=by rw[ş c (Ĩ w r pl A (à))];have g:=Á,a4Z à á â ã:=by rw[gZ x H5 I5 r5 y5 à á B0];have â:=I5.pinned (ã) (asN à),a3c:=r.c - İ r.k 4 2,bh6:=RB - C.np - C.nc,boo:=Ę c a (qy r a),W8 à:=Ī à f f,Yh à:=Ī à q q,bpg:=Ĥ (Ο h) j aV5,bjy:=.lst [ģ,Ψ 44],LG:=ī c,a9L:=ī Comprehension,baz à á â:=by rw[aNr,dr à m ĥ];exact⟨v,vs,e1,á,â⟩,aa5 à:=Į à ĸ,aQ9 à:=à.1.elim aRB id,a4q:=⟨o,p,a,i,r,l⟩,Mc:=ŉ c,bfr à á:=fun v à a o á=>k v à a o (L.out á),aSX à:=Ŀ aSh [uS,à],bnp:=[alE,N0,.no,.no],Z7 à:=š à Ċ,akU à á â:=⟨à,O,W,R,á,sm,â⟩,bmq:=ŗ bRq (aAN rfl),Md:=ť z,Np:=Î m,ba7:=Ų (Ř (ba8 a)),a94 à:=à&&aM6 == Et && !bqj && !bqi,L9:=þ h,a8W:=by refine a7b e d c ?_;rw[aKw d],yb à:=ai à t,bkO à:=υ (à - 1) (zx Ă) Ě,bbe:=bj a (O b o a e),Yq à:=R (afQ à),a9Y:=cq rfl rfl rfl h,aSH à á:={n:=à,np:=4,body:=á},aSk à:=gI (.ix à ŭ),bmj:=eK acq r (HL r),a4C:=gX aII U x l y B,az8 à:=aWw 6 2,UJ:=(lQ w),ajB:=ajA x=ahN,gp à á â:=by rw[à,ľ (á) (â)],aiV:=aiT=true,aIQ:=ě->Sem ě,aCY à á:=bBN à (AN á rfl),aOq à á:=by rw[Ms b i j f à,ax á f],bn0:=(by simpa[bS3]using f),ajN:=m.cl=cl,bdT à:=fun H s=>⟨xs,à,QI Á⟩,aTV:=Ą (NS l),bb1 à:=by rw[Mp q,bb0,à];rfl,aLe à:=fun x c=>aEU x c à,aBG à:=(à).testBit i,a7z:=gQ (adq Ĳ b a),aJm à:=∀vs H Q E,à->X3,alb à á:=lx (à) (.fw á),a6f:=gh e ⟨_,x,q⟩,a9a:=gr (P7 (ċ I)),Mr:=k8 l,boD:=ir h (p8 h h h),bga:=iS (Ć oh z) e,sn à á:=Mg à á h,abu à:=sC à az,aSl:=sC 21 Ō,a5b à:=(by rw[gZ z p o à k e n B0];subst e),YM à:=rM à K',LX:=CB d,Aq à á â ã ä å æ ç è é ê ë ì í:=Ut F à δ á â ã ä å æ ç è é (ê:=ë) (ì:=í),bfd à á â ã:=by (have hi:i<à:=bpZ);have ã:=Õ hi,bgF à á â:=∀{à:Sg} {á:iN} {es:aE},Em à á es=true->â,aOV:=si H' d v,bos:=max a.deep b.deep,aTn:=uw (dD L),aQd:=t9 m kk n,NU:=Vj h,bdK:=xg x [ea,eb,aOP],N4:=aeo l,bil à:=by rw[z]at à;rw[aQD à.1],aJJ:=Bv o name,aPh:=EM h ζ h,a9o:=yF (·.push A4),K5:=aog d,bbu:=G0 B (Z5 a N b),bl7:=sX (iD x) (iD w),aTy:=ps b (d+1),aHD:=SB e e1 _,afo à:=afr fp à H,aKv:=QP b a vs,ahF à:=.set i à e,Jj:="way",Jp:=xw 0,aHE à:=aeI à i t rfl x,Ki:=bindL,Kj:=bindC,MC:=s2.wo,MR:=atKey,aRw à:=abb (aba a t à),aTu à:=abM (Ć R.1 à),aHU:=.ins _ _ _,Yr à:=aXq à Ĳ,aLp:=adA op x y,aG2:=bqo Je dd,aIt:=pz a o hk,aLs:=aEL G true,aNh:=.aEy _ _ _,beR:=hk S _ (Ł Q) gS,bgx:=aoA (f a ă e b),biZ:=alj 4 5 Ō [boz],aJG à á:=aKP Ò none à á #[],a71:=.aEs a N np lb fr,aQL:=aQJ pr AS,aVm:=aVi (k2+2),aIz:=setItem ov,aIE:=J.stop i H,aJS:=ns.map nM,a9O:=aM2 n a b sc bd p,bd7:=Z u m (Z8 A) L _,bc2:=aYL N ps À cl l,bmn:=aBZ 0 .no .no .no,aIN:=boot_range,aJw:=Subscript_,aJ2:=closureFor,aKC:=D.i1z.symm,aKD:=D.TOz.symm,a7t:=brR h t1 t2 l1 l2,a7u:=brS h t1 t2 l1 l2,aKU:=z.cps.size,aLi:=bsf G F xs,aLW:=o.ExactSet,a8C:=Obj.putSet es' t',aMd:="__next__",aMV à:=bG3 a h k à _ _,aNe:=ms.isEmpty,aOm:=sortI_perm,bdo:=bD C6 zJ ds vs,aO7:=gv.int Ι,aUG:=ks.idxOf z,aUW:=range_getD,aVJ:=bTP fu k v,boP:=bAx gw (ű ŵ),a3n:=Value.isInt_shape,a4j:=wpAny_assign_Name,a45:=intBits_le_64 b a,a5t à:=List.mem_cons.mpr ac7,a8t:=SetTable.probe.go,a8z:=Array.toList_push,a8D:=wpAny_storeSet_of,a8G:=Heap.SameBut.refl,a9r:=F.plain_list_iadd,bcj:=PySem.W.kitx_list,bcn:=PySem.W.kitx_bool,bco:=PySem.W.kitx_none,bdc:=h'.IsCode a T #[],bey:=wpAny_pyIter_enum,bfX:=wpAny_dictEntries,bkd:=List.flatten_cons,bk9:=List.filter_congr,a5j à:=b=dg i j/\yu (İ (à) j i),boe à á:=by have b:mO à (Ψ 2) 1 [d]=oC Vh:=ii ą (á),bgL:=fun z c=>C g n c,a30:=fun y d=>R x y d,a72:=fun x c=>aXH x c,bgG:=fun z f=>i g a f,a5g:=∃u,us=[u]/\A5,baK:=∀d,X ≠ .od d,a64 à:=by rw[fC o e à,o_],a7E:=by congr 1;omega,ba4:=by rw[←e];simp,a7P:=oT j&&aq j Ū,bes:=by simp[sX]at h,bi8:=[none,none,none],bBP:=Č Ji 1073 686,a16:=Č x9 1001 639,bBO:=Č tE 1076 687,bBQ:=Č Ex 1069 685,bBR:=Č Ub 1067 684,ayq à á â ã ä å:=by have à:á<â:=U' (jh ã) ä;rw[å],baU:=by rw[G0 f bqf];have a:=xZ a,abI:=by rw[HU];rfl,a8a:=Ē [.dJ [] []],bmu:=∀q∈K,mz≠0,ajm à á:=∀à∈á,c∉à,a9b:=A.handled = none,biD:=ł 19 [aSi,ģ],biM:=ł 28 [az,xt],aul à á:=fun k à agI c f=>á,aRP:=by rw[Fz e,Â]at h,a6i à á â:=Ş à (∃p á,à=[eU]/\(Qz H p á\/asr p á)/\â),boL:=š qs (Ĉ a q),beP à:=Š w2 H2 I2 r2 rfl à he,aHH:=by exact 10;exact 11,bkv:=ž (NF Ŋ ?_),bkH:=π b (ak h) c1,baN à:=∀b H à,t' b H à->t b H à,JD à á:=by have q:=à;rw[á]at q,bct:=bX P (.oQ S8),a65:=upd A D (.lst O),bhx:=upd B s (.own j),blR:=f q.1 q.2 != amr,bbU:=ju X8 aZa.line,a4h:={D with nx:=u D},bkM:=on wl (BF h q),boS:=oM 18 44 [tT R],bk6:=by simp[ź (j<n),ź (j<n+1)],bfY:=rB (Kp.of s1) _,aJA à á â ã:=(by obtain⟨p,xs,à,á,rfl,rfl,â,ã,q⟩:=h),a7Y:=.dJ [.s x,.s y],bjq:=.app 1 (boH ģ),bhg:=Cu aRu a cp.elt,boG:=sX aVF (dS ane),a52:=Lq X.A _ _ X.xe,biR:=.OD cR (gJ 7),bpk:=NP F H 2 (rL R),boJ:=Vk [vb i,t,Vl],a3o:=aeI hv j u rfl y,bjc:=T_ 85 [ģ,Ō],Xl:=(by intro _;rfl),bpx:=by rw[aN]at hl ⊢;rw[anr hl],aJM:=by rw[Ÿ,MH];omega,anc à á:=by rw[à];let S:ē:=á,a2u:=aeC (t+12) (a+7),bcv:=I.un (t':=tk) un,a4t:=afq X.A (aaL it),a5w:=aja (VL f y fs),a77:=akn (ds.set j d),bhh:=OO aRu tg cp.tg,aNx:=by rw[cr mt]at ⊢,bhF:=aWy [] bl cl IQ,bpc:=D1.set 3 (sM h),bpl:=D1.set 2 (DJ R),aTX à:=by congr 1;rw[B' à],afK:=(by cases(r);rfl),a3E:=Mod X.K X.mg vH,a7Z:=Ec F f (l++akB),a8E à:=aL3 à.1 à.2.1,aN9:=by simp[mx,ĥ]at p,a5c:=bra r m ta tb tc,a8m à á â ã:=if aK4 (à:Int)then ā (İ á (É â) ã)else none,bhJ:=OV Ku g hc ad8,aJ9 à:=by have z:=à;rwa [LV z e],a1U:=stepOk Iu ann t,a5m:=PySem.W.handedIn,a6b:=pl.isList.typeIs,a8A:=Nat.mod_lt _ Ğ,a8H:=Nat.succ_le_succ,bcl:=PySem.W.kitx_str,bcm:=PySem.W.kitx_int,bda:=h'.CodeRec Ŝ p,bdk:=PySem.W.fnX nm q,bek:=wpAny_pyIter_zip,beu:=setField (ċ n),beG:=Heap.size_update,bfE:=wpAny_getItem_of,bj4:=bPv rows n m R c,bke:=List.flatten_nil,bkP:=List.mem_flatMap,bla:=jp rows w (cs S),bmt:=rk.red (abh Cj),bmE:=Int.mul_comm _ 2,bmW:=apB.to i j hi hj,bmX:=apC.to i j hi hj,bnK:=Array.all_toList,bgV à á:=(by rename_i à;have á:K1:=Ł à),Tu:=(J+1),Uv:=(k+3),asF:=It->ni,UK:=xG.1,bnU:=i+1+am3+1+Ih+1,ax8:=bo+Ci,Ra à:=Ą à<64,aAU à:=(à - 1).toNat,avt à:=(KS à).set,a9T:=(is.zip es).all,Ro:=ā f,atn:=ā arQ,asn:=b::rest,UI:=TX.2,TD à á â:=fun à á=>by rw[â],a6J:=fun v ζ=>v=iK,ae3:=Ģ<=a,amV:=i<=Ű,al8:=ao<=8,aj3:=[e,e'],aSI:=[az,ģ],aHs:=[Jo,m7],aAS à:=(à).testBit j,a12:=(aeu p).drop a1,bfq:=(aK1 i).map wK,auh:=(D,aKn),auS:=(Ŧ,_),aKu à á â:=∀h',à->Be á h'->pG â h',biv:=∀j,j<m->x j=0,aJj à á:=by have:=à;rw[Θ á],a7J:=auQ&&b.plain 60,aTi:=⟨h,s⟩,aBV:=Ą DL,aAT:=(t:Int),aBw:=(m:Int),aRY à:=fun v H' sm gt=>à,Rq:=ć l,RE:=ć c,atP:=ć Æ,bpa:=⟨x,y,z,v,e⟩,bmf:=⟨a,b,c,rfl⟩,a3d:=⟨16,0,16,8⟩,a6U:=wq∈DY b a d,axV:=t∈F7,bkf:=[eD,Nw alO,p],bhb:=by have aF5:=ns.2;rw[Mp aF5],a2b:=Č A0 781 466,a2e:=Č Ez 444 212,a3N:=Ĉ z (f b u e),a8o:=Ĉ h (į bFZ),aPH:=Ē [x,y],bcs:=aam l=Pm\/cv=c,agR:=.str a,aKa à:=∀y∈pB,FL->à,aKj à:=∀y∈mu,FL->à,asQ:=Q Xw H,QT:=h _ _,Pu:=k b u,QZ:=k d c,bjT à á â ã:=∃à c,á=â/\YT à=ā (.ok ã c)/\f6 ã c=true,aIu:=Ī e i i,a3R:=Ī (wV K) C C,aaP à:=by by_cases à:Q4,avm:=.lst es,a7S:=İ fr Ŋ .č,bhr:=by rw[bqh];exact(f g b).1 r h,als à á:=ł à [iX á],aVo:=ł 8 [e],bfi à:=ĳ à j (ā (V.ref a)),aLx:=ļ (a+b),TB:=ļ a,aCT:=ļ aCS,at9 à:=ķ (ķ à),a2U:=#[Č Uf 1049 676,Č Ue 1051 677,Č Nh 1053 678,Č Ud 1055 679,Č Ni 1057 680,Č x8 1060 681,Č x4 1063 682,Č Uc 1065 683,bBR,bBQ,bBP,bBO],aUX:=bBT++[lz q]++bBS,bid:=(uM).names.all (fun y=>!bpY),auY:=ā (.od d),biw:=(Ο m).find? (aBX j (x j)),bbw:=⟨SK o,Ć (bIW r1) q⟩,aNF à:=Ş σ (∃O W,jI/\à),Xo:=(asT _),XX:=(Ł c),aPd à:=∀l,rs=ug->Ű=à,Xf à:=bqp .And à,bih:=bBU&&El N&&(awT==ps),aSG à:=lx aSh (.fw [à]),ajO:=m.bl=bl,ajP:=m.fn=fn,ajX:=ak0=bBV,WL:=(a==b),bhL:=fun y hy=>QH ŵ,bmI:=fun c hc=>h c Ă,a1V:=jZ->ś Builtin,bgI:=by rw[cq b A i a,aRb b p],bhn:=fun z c=>B.2 z c,bho:=fun z c=>B.1 z c,arH à:=fun P=>aHz (à),bjl:=ł 88 [aSO,bp6],a4R:=(hi - lo).toNat,a3p:=(aD3 prog w).is,au3:=ā gz,avW:=ā au7,aSY:=[HQ,HQ],auA à:=ċ (gQ à),ayI à:=ĵ (QV à),alg à á:=ł à [Ψ á],oN à á â:=Ŏ à [á,â],Sw:=ŉ b,Sy:=ŉ a,a3J à á:=fun b o à e n=>u.free b o e n á,anp à á:=Ŀ (ł à á),aeS:=b∉ex,aUF:=[2,3,4,5],aCz:=ŋ l c,TU:=Ś c,SR:=Ř z,auF:=ś OG,aNI:=Ŗ rfl h,bbJ:=.ok [],a8f:=š OL (uq d),atH:=ů jr,auG:=ſ Ħ,awE:=ű ă,ax5:=ũ aap,bkX:=ź (NL+1=DC),a2t:=Ì "Exception",ayu à á â ã ä:=∀{j:Nat} {à:á},ĳ â j ã->ä,a6A à á:=∀{l:ī (Addr×a)} {c:a},agr=à->á,avO:=Ž ē,aCW:=Î mQ,aLZ à:=Å (h _ à ?_),aVx à:=iD ((à).bt i j),awJ:=f g a b,aIW:=h a s b H,bjW:=Þ (NV Ċ a),a9E:=τ _ (.refl _),aCa:=Ο Á,atw:=ai rfl,C8 à:=fY à m,azt:=fY j l,am2 à á:=bQ à (ak á),aTM:=bQ 0 ba,ayt:=bf buJ,aIg:=aS z agC,aQ1:=ha.1 g c4,CH à:=fW m à,aQi à á:=bK (à=BU) (sf á),azI:=eI bsg,azM:=eI bsh,aDy à á â ã ä å:=dU à á (E â Đ) ã ä (E å Đ),a8n:=dt s',au5 à á:=aY (à) fun x cx=>á,aTI:=cn (2^j),aPD à á â ã:=cG (aPI (ch:=à) (bj á â) ã),bmT:=cj g (apl a).1,aCe:=dG Us,UW:=e_ _,U6:=gO h,axi à:=fH (zN à),auq:=fI nK,aQB:=n ≠ qO,aQC:=n ≠ m7,BX à:=mZ _ à,awd à á â ã ä å æ ç:=gX (Ĩ o à á â (id ã)) p ä å æ (id ç),Qf:=pA V,ag4:=pA DV,biY:=dF (gJ 4) ox,tN à á:=xH b à á,awO:=h_ m e,ajg à á:=iT (bqm à) á,aC5:=im acU,anl:=oM 57,bdW à:=by rw[Â,Zx à]at h;rw[ψ h (aW à)],bkq à:=by rw[hi,oh]at o;rw[ş o (đ r A (à))],Qy à:=Vals à a,atm à:=iE (Fp à),ahx:=.nx δ,bdz à á:=gC o à á (xY a ha) o (akk à) á,ahi:=.own d,aPl:=f j i _ m,beK à á:=gY (BI à á [(Gw "key",v5)]),bhy à á:=gZ C r1 r2 r3 r4 r5 à (g.rd á),a6H à:=show à∈([]:Ň)from z,ZD à:=mH (à) aWz,aAt:=rL rows,asi:=j_ x x,bjP:=iP (gI e) ŧ,aUP:=jW e i9,asv à:=nG (azp à),beD:=nG (arrOf IW),aQv:=mi o nK,bnj:=jD (Al Dl) i,arS:=.dK ρ,RX à á â ã:=tW à á â (nr ã),bbR à:=(by rw[ĩ a P w r e3 (à)];subst w),ayB à á:=qi (Ē [à,á]),baH:=oe p (ag6 p.1),boF:=oe t (Ē aVE),anq:=.fx B,axN à:=sh (ħ à),aRj:=qv p c l,az4:=sx Ľ,bfp:=wg (c_ b) l f,asy:=wg o i,aJF:=rm "len",as7:=mA name,aK5 à:=.v (Ē [à,s]),blE:=qt [ak r,uX],aAw:=uZ ą,blq:=x/2^r &&& y/2^c,as4:=vY b a,aBD à:=V1 (cl:=à),biK à:=sw 2 (alf ĉ (à) (Ai 1)),aT9:=uU (a e),aCP:=xA acR,aUk:=aXU k85.G,aBS:=Bd 2000,azd:=yp dvs,afz à á:=Bn à (Qc á),aMu à á:=FH (EJ à (tu á)),aAY:=max a b,SW:=KP l,ag8:=.one i,Uy:=NN 3,aTe:=vg Ņ h,aUr:=yL _ rfl,auH:=mT ŧ,auV à:=Gw (afG à),auZ:=B9 gz,alQ à á:=BP (à) (fun l=>á),awL:=Cp y.1,ay4:=x3 a k,aAM:=Eg rfl,aC4:=DN E9,aMW à:=by rw[CM,à,à,jF],aIw:=d a s b H,as0:=VF K H,azU:=XG qO,azV:=XG m7,aJ0:=lH k atW,aue:=Inv QJ,aJ4:=(nomatch h),Vm:=two i,alY:=upTo 1,awk à:=Gy (Ä à),aPS:=zu aPT c,axv:=G3 d v,ajR:=Mi sm,bi7:=Di (Y9 1) gH,aCk à á â:=HW à á â gK [abQ],aDe:=Im i x,aux à:=J4 (aaL à),a9P:=k g b a v q p h,aTY:=gM (0,0),aw9:=L5 CA,Vt à á â ã ä:=anA à á â ã #[sD ä],auO:=xT i j,ahu:=.IE a,SF:=AT d,bgJ à:=Ho (aa4 a B à a) ĥ a,aRc:=M7 s3 s4,amA:=abh k3,aAF à á:=U' (apg à) á.1,aDd:=Uw Id,EB à á:=bBX à á ge,bhZ à á â:=JI à Ÿ (ź (ak0 - (á+â)=0)) (aN _),awa à:=Zt à f i n,axk:=ZY X.D,bb6 à á:=Mu (ĩ a o j i q (à)) (bb5 o (á) Tw),aB5:=a ^^^ b,alZ:=amq ?_,aBW:=aco m y,aCc:=acI n y,aIe:=WZ H' h',bB2:=afV K f,ags:=nE ..,atC à:=af4 p à Ã,ahn:=.aEr i,aLv:=.adu is e,S9:=bqz e,aky:=Kp a h,amT:=side s,aCB:=amW ŕ,bo2:=Vk [Jc,u8,t],ae2 à á:=aHT (cX à) á,bhi:=WU (AR cp.tg),awb:=atE Ŝ,QB:=bED X,aub:=at4 mu,aNW:=VT z i j,aSt:=.self 2 4,ahp:=.aXv b,aLB:=ahV b a r,bhN:=Zg (bsy h1) e3,aTc:=ajh Ă h,bdg à:=OR à nm q c bd sc cl f,Tk:=R.cV,aUh à:=He (Ĝ à ζ),aQM:=akE H ß,aQU à á â ã ä:=Good ⟨à,á,â,ã,ä,ă,ă,IQ⟩ G,azv:=azw c f,bhv:=aa6 s b r q p a,aUi:=aUq Á r,anf:=qT v L,bd5:=(by unfold aPn OK;rw[Ċ,Ċ]),aPc à:=asM à (Tj ri),aht:=.slt a,aMp à á â ã:=awh à aH (á) (fun i h=>aic h â/\ã),akc:=bqg ..,bni:=alH uk (Ο m),bop à á â ã ä å æ ç:=Ut l à h (fun á=>acF â) f ã F jP δ ä elt å (tg:=eF) (it:=æ) (fr:=H_) (cl:=ç),alV:=cd n l,aB4:=a ||| b,aev:=s.gens,aew:="pick",aey:="less",bpn:=fo x i dV pm cd,aHZ:=aWP (H x),aIa:=aH7 e n a,aJB:=aNR s z t,age:=d.name,agQ:=DV.jX,ag1:=c.item,ahH:=m.body,aiP:=inCall,awX:=bpV bD,baE:=aj5 H0 H' d c v,bdn:=axh (azX O d v),baL:=aO3 b a Q a H Q,baO:=aO3 b a D D a H,axy:=bqb a E,aO0:=aZi hp e3,aRk:=SJ G F ms,aR3:=aRW fn fa,aAK:=WI rows,aS7:=Ed G ţ,alS:=c.log2,amb:=Ċ ..,aTC:=oQ J UN,aBr:=acf aG,amB:=rk.bO1,aCX:=boy x y,apO:=SharedT,aG4:=bqo eL d,aG5 à á â ã ä:=bqn p à Iu ann 1 á â (ã) env Jg ä z,aqv:="ruled",aqL:="paper",aq1:="codes",arN:=oc.data,asf:=s'.heap,asC:=s2.heap,a46:=aWG (0<j) (i%j),ath:=I.write,atx:=P.zip b,atQ:=OpenLaw,aKr:=codeAny _,aKJ:=a7r l1 l2,auK:=ds.drop,aLh:=aXI x y c,ave:=bsd G y,awV:=ρ.map,aw7:=btN.mpr,aw8 à á:=aoK D W à á d v,au1:=ā (au2 c),aSS à:=Am à aj (ć Dl),aUB:=[AC,oH Us],W_ à:=eT à σ H,bgc à:=gX (bBY (à)) dx r1 M F (L a A P),akZ:=aRV=bBZ,amw:=amv=cK,as9:=bB0=true,ol à:=by by_cases z:à,Xg à:=bqp .Or à,FQ à:=by rw[aie,à],au9:=ā a8n,avb:=ā bbJ,aKf à á:=∀{x:Str} {c:Addr},anI,aC8 à:=ig [iX à],ba0 à á:=aNN f m l (SA (adz n à á) _) h,aRO:=bdi Ă h,bet:=xs[i]'(Ä Á),ay1:=s.set j,bhw:=aQZ a ea c ob d,azH:=aZV G F,biz:=aSg Ľ ĉ ģ,aAv:=L2.upTo,aBf à:=bB1 (sI à),aBn:=sum_nat,aBU:=vv rows,bmw:=aUx n (ħ aB9),aCy:=a1q l i,aV4 à:=tp (aCO Ņ à),aG3:=piece_app,aHx:=kZ eL os,aHA:=Value.str,aI9:=getMethod,aJL à:=typeOf anF,aJU:=c.heap.Ns,aJX:=hi.length,a6O:=Passes VO X E0,aKc:=N'.length,bdR:=aXQ x y d r c K,aLQ:=t.dummies,aMN:=g.map nM,aMP:=pendingOf,aMS:=kas_count,aNL:=g.int Ι,bbo:=bui I n p e3 rv,aOy:=i.push fo,aOL:=k.push fo,aPo:=aPn fr σ,aPV:=ix.length,aPZ:=kA.toList,aQe:=bLE H a y,aQm:=mS.t.inj,aQq:=aZK L k z,aRG:=L2.startM,blz:=blw (bw.map qD),aTR:=cv.aZ8 hs,bpi:=L.set 7 (Dx u),aVe:=bF0 Ja b,aVK:=A.map aer,aWc:="entries",a33:=.globalImplicit,a6N:=PySem.W.OpenLaw,a8L:=F.plain_set_new,a9t:=entry_list_sort,bfW:=wpAny_dictEpoch,bgn:=PySem.W.mapOf_K,bjZ:=bPs ą rfl ą,bkt:=Nat.le_antisymm,bkE:=bPT e rfl c rfl,bk5:=List.sum_append,blM à:=cv.Er k85.hs à es' oG,bmy:=Int.natCast_pow,bnR:=D.map (48 + ·),bci à á â ã:=(by cases e;rcases ZR r with⟨a,à,á,â,ã,_⟩ | ⟨a,à,á,â,ã,_⟩),ayi:=ā (ċ fa),SX à:=∀{l:Ď},à,bca à á â ã:=by rw[Ŷ v rfl o CN (ĩ a ys à á â (o.lst m)),EY q (bJz k â) (ã)],a7q à:=FQ (hL aur (yQ à Ġ bq)),a7h:=FQ (mi newExc aid),atg:=bB2=true,aUS:=[ba,sd s],aVO:=[tT R,Az],bbd:=ol (i.natAbs=0),abf:=(ao7 z),av5:=iu=bB3}
noncomputable section
namespace L2
open PySem
def aDX(s:Stmt):eH:=aG0 a _ _ a {posonlyargs:=[],args:=[],vararg:=none,kwonlyargs:=[],kw_defaults:=[],kwarg:=none,defaults:=[]}
def Om(s:Stmt):aM:=aG0 _ b _ b []
def Ir(s:Stmt):Ξ:=aG0 _ _ sc sc {kind:=Et,names:=[],isGenerator:=ă,isCoroutine:=ă}
universe L2
namespace L2
open PySem PySem.W PyProof.Rows
def aWH(tb:a1V)(p:aB)(w:ņ)(Iu:Nat)(ann:lL):Nat->apO->Thread->ś apO
 | 0,_,_=>none
 | n+1,s,t=>match through t with
  | true=>ā s
  | ă=>match a1U with
   | ă=>none
   | true=>match a1T with
    | mZ s' t'=>aG1 tb n s' t'
    | none=>none
theorem bqq{tb:a1V}{p:aB}{w:ņ}{Iu:Nat}{ann:lL}:∀{n:Nat} {s s':apO} {t:Thread},aG1 tb n s t=ā s'->topRun tb p w Iu ann n s.abs t=ā s'.abs
 | 0,_,_,_,h=>bV
 | n+1,s,s',t,h=>by
  rw[eI aWH];unfold topRun;cases ht:through t with
  | true=>rw[ŉ ht];rfl
  | ă=>
   rw[ht]at h;cases hk:a1U with
   | ă=>rw[ŉ hk]
   | true=>
    rw[hk]at h;cases hs:a1T with
    | none=>rw[ŉ hs]
    | some q=>
     rw[đ Iv bVN q,Ę hs h (Ĉ (stepT_spec hs) (bqq h))]
def bqr:oV->oV
 | a::_::r=>a::bqr r
 | l=>l
def bqs:oV->oV
 | _::b::r=>b::bqs r
 | _=>[]
def treeOf:Nat->oV->BT
 | k+1,o::r=>.node o (treeOf k (bqr r)) (treeOf k (bqs r))
 | _,_=>.nil
abbrev ac8(T:BT)(n k:Nat)(d:Drawn)(os:f8):apO:=⟨T,n,{},#[],d,k,os⟩
theorem bB4{p q:aB}{Jf:ğ}{Xt:ſ Ĭ}{α:Type}{Yf:Ĭ->α}{Ya:ņ->α}{N:Nat}{g0:Bool}{Ta T1 T2 T3:cW->BT}{Iu na n1 n2 n3:Nat}{d:Drawn}{aWI ka k1 k2 k3 a1 a2 b0 b1 b2 b3:Nat}{ann:lL}{H₀ H₁:cW->Heap}{env:Env}{z p1 p2 p3:Pos}(row:jZ)
  (bB5:∀w:ņ,eK (fencedOpening Eu p w N) s (Ĳ,aev,Wr,f_)=ā (Wp,#[],d,aWI))
  (size:∀w:ņ,((Wp).isNs io,gQ Wp,(Wp).nsMap io aG7)=(true,Iu,ann))
  (pre:Pa (topGo Eu p w Iu ann b0 ⟨Wp,#[],d,aWI,os⟩ (topStub p)) (a14 apT Jg z))
  (bB6:Pa (aG6 p w Iu ann 1 1 apT (blockOf (aeu p) env Jg z [Wq z])) (Jh apT Jg z))
  (r1:Pa (aG5 w b1 apT (f9 (aeu p) a1) z) (Jh a13 Jg p1))
  (r2:Pa (aG5 w b2 a13 (f9 a12 a2) p1) (Jh (ac8 (T2 eL) n2 k2 d os) Jg p2))
  (r3:∀(b:Bool) (w:ņ) (os:f8),aG5 oW b3 (ac8 (T2 Je) n2 k2 d os) ((a12).drop a2) p2=Jh (apQ Je d os) Jg p3)
  (fin:Pa (aG1 Eu 9 (apQ eL d os) ⟨doneF Pb,Jg,p3,[Wq z]⟩) (ā (apQ eL d os)))
  (le:apR<=N) (hh:∀P:cW,absHeap (T3 P) n3 {} = H₁ P)
  (l1:∀(w:ņ) (os:f8),a11 p.main.body Wp (H₁ eL) p aG4)
  (l2:Pa (a10 aG4) (openGood q Jf))
  (l3:Pa (Yf aG4) (Ya w)):LeftO p q Jf Xt Yf Ya N g0:=fun w=>by
 have key:∀b,eK (openEnds Eu p oW N) s (a10 s,Yf s)=mZ (openGood q Jf) (Ya oW):=fun b=>by
  obtain⟨⟨h,gs,dd,k,os⟩,e,e'⟩:=eJ (bB5 oW);obtain⟨rfl,rfl,rfl,rfl⟩:h=apP/\gs = #[]/\dd=d/\k=aWI:=Ł e';obtain⟨z1,z2,z3⟩:_/\_/\_:=by simpa only[Prod.mk.injEq]using size oW
  have c3:=aG3 (rest:=[]) (apS (r3 b w os)) (piece_nil (bqq (fin oW os)));rw[ς aN c3 c2 (aG3 (apS (r2 oW os)) c3),ς a1Z c2 c1 (aG3 (apS (r1 oW os)) c2),Ę a1Z c1 (Ĕ c0 (go_top (pre oW os) (piece_block (apS (bB6 oW os)) c1)) r' (topRun_mono (N - apR) _ _ _ _ c0))];rw[ź (apR+(N - apR)=N)]at r';rw[jY e3 ((apQ Je dd os).abs=aG2) (oX hh) e3 r'];have t:a1X ⟨apP,#[],dd,k,os⟩=ā aG2:=by rw[O_ topFrom];rw[z1,z2,z3,r'];show(match staticsOk a1Y apP (H₁ Je)&&namesBound p (H₁ Je)&&gensDone aG2&&laidKept apP (H₁ Je)with | true=>_ | ă=>_)=_;rw[l1 oW os]
  rw[š openEnds e];show lM (a1X _)=_;rw[Ĉ t (Wo (Jd (l2 oW os) (l3 oW os)))]
 rw[AY (key (a1W row)) World.withFollow_self]
universe L2

namespace k85
open PySem PySem.W L2 PySem.Spec PyProof.Rows
def top(i:Nat):Stmt:=PySem.Challenge.pw_talkleast_k85_questions_answered.main.body.getD i (.Pass Ev)
def bB7(s:Stmt):aM:=if h:s.ctorIdx=2 then Stmt.ClassDef.elim s h fun _ _ _ b _ _ _ _ _ _ _=>b else []
def AG(j:Nat):Stmt:=(bB7 (top 106)).getD j (.Pass Ev)
def fo(n:Str)(i:Nat)(dV pm:ě)(cd:Addr):Obj:=aG8 n (top i) dV pm cd
def fm(n q:Str)(j:Nat)(pm:ě)(cd:Addr):Obj:=(aG8 q (AG j) Ġ pm cd)
def en(P:cW)(s:Str)(t:Nat)(v:ě):aG9:=⟨PyData.keyHash P s,.str s t,v⟩
def kG(P:cW):ī aG9:=[aeB 166,a2q,a2p,a2o,Č aG7 170 6,Č ark 171 4,a2n,a2m,Č Pc 206 24,Č arj 222 37,a2l,a2k,Č ari 270 73,a2j,a2i,Č arh 313 106,a2h,a2g,a2f,Č arf 327 111,Č are 334 118,Č ard 340 123,Č arc 346 128,Č "cut" 355 135,Č arb 363 142,Č ara 371 149,Č aq9 377 154,Č aq8 383 159,Č aq7 389 164,Č aq6 396 171,Č aq5 403 178,Č aq4 411 185,Č aq3 418 192,Č aq2 427 199,Č aq1 435 204,a2e,Č aq0 452 219,Č aqZ 458 224,Č x8 466 229,Č aqY 472 234,Č aqX 482 241,Č aqW 495 248,Č aqV 501 253,Č aqU 507 258,Č aqT 521 265,Č aqS 527 270,Č aqR 533 275,Č aqQ 541 282,Č aqP 547 287,Č aqO 558 294,Č aqN 567 301,Č aqM 574 308,Č aqL 580 313,Č aqK 587 320,Č aqJ 594 327,Č x5 602 334,Č AZ 610 341,Č aqI 616 346,Č aqH 622 351,Č aqG 628 356,Č aqF 637 363,Č aqE 644 370,Č aqD 651 377,Č aeA 665 384,Č aqC 671 389,Č aqB 677 394,Č x4 686 401,Č aqA 692 406,Č aqz 698 411,Č aqy 704 416,Č Ex 715 423,Č Jj 728 430,Č aqx 737 437,Č Ji 749 444,a2d,a2c,Č aez 762 451,Č aey 770 458,a2b,Č aex 788 473,Č aew 795 480,Č aqw 804 487,Č aqv 810 492,a2a,a19,a18,Č aqu 825 499,Č aqt 833 506,Č aqs 840 513,Č aqr 847 520,Č aqq 855 527,Č aqp 863 534,Č aqo 870 541,a17,Č aqn 880 546,Č aqm 886 551,Č aql 892 556,Č aqk 898 561,Č aqj 904 566,Č aqi 913 573,a16,Č aqh 1010 650,Č aqg 1016 655,Č aqf 1022 660,Č aqe 1033 667,Č aqd 1046 674,a15,Č Ew 1096 692,Č aqc 1104 699,Č aqb 1111 706,Č aqa 1119 713,Č ap9 1127 720,Č ap8 1133 725,Č ap7 1143 732,Č ap6 1154 739,Č ap5 1164 746,Č ap4 1170 751,Č ap3 1184 758,Č ap2 1190 763,Č ap1 1199 770,Č ap0 1208 777,Č apZ 1217 784,Č apY 1227 791,Č apX 1236 798,Č apW 1248 805,Č apV 1254 810,Č apU 1260 815,Č "law" 1266 820]
def kg(P:cW)(m:Nat)(v:ě):Obj:=vy (tu (en P Pd 165 v::f9 (kG P) m)) vw
def kf(l:aa):Obj:=Jk Ġ (tu (l.flatMap fun q=>[oY q.1,ŭ 0,ċ q.2]))
def kt:Obj:=ip #[]
def kv(l:ğ)(t:Nat):Obj:=ip (tu (Ĥ (l.zipIdx t) q (.str q.1 q.2)))
def anJ(n q:Str)(s:Stmt)(a t ln na:Nat)(m dV:ě)(vs us:ğ):oV:=let v:=vs.isEmpty;let c:=İ v (a+2) (a+4);let l:=gR+aO;kt::kf []::(if v then[]else[kv vs (t+3),kv us (t+3+gR)])++[Jl Ġ none ⟨n,q,aDX s,.stmts (Om s),Ir s,0,[],Ġ,Ġ,Ġ,Ġ,none,Ġ,Ġ,0⟩ #[],Ws n t q (t+1) (t+2) ln na 3 0 a true (a+1) (İ v Ġ (ċ (a+2))) (İ v Ġ (ċ (a+3))) qM (t+3+l:Nat) (t+4+l),aG8 q s dV m (c+1)]
def bqt(n:Str)(t ln a:Nat):Obj:=(Ws n t n (t+1) (t+2) ln 0 0 0 a ă (a+1) Ġ Ġ Ġ (t+3:Nat) (t+4))
def aWJ:Obj:=Jk a2r #[ja "type.__prepare__",Ì "type"]
def km:ě:=arl
def ac9(P:cW)(n:Str)(a t ln:Nat):oV:=[ip #[ċ 24],aWJ,vy #[Wu (t+7) km,aHe (t+9) (.str n (t+8)),a2v,a2u] 4,kt,kf [],bqt n (t+2) ln (a+3),arn (a+5) (a+2) km,kt,vy #[Wu (t+7) km,a2v,a2u,aeB (t+13)] 2,aHd n (ċ 24) [ċ (a+9),ċ 24,arm,a2t,aHc,Wt] (a+8) [] (ā Ŝ) t (t+8) a2s,aHb (a+9),aHa (a+9)]
def k0(P:cW)(g h:Obj):oV:=(aro P).objs.toList.set 3 g++[kt,h,bqt "<module>" 182 1 11,arn 13 3 a2w]
def kC:aa:=[(2,20),(4,33),(6,45),(8,57),(10,69),(12,81),(14,93),(17,105),(23,110),(29,117),(31,122),(33,127),(35,134),(39,141),(42,148),(45,153),(47,158),(49,163),(51,170),(53,177),(55,184),(58,191),(61,198),(67,203),(72,211),(74,218),(76,223),(79,228),(86,233),(94,240),(100,247),(107,252),(110,257),(114,264),(124,269),(129,274),(131,281),(133,286),(135,293),(146,300),(148,307),(150,312),(152,319),(154,326),(156,333),(158,340),(160,345),(172,350),(176,355),(179,362),(181,369),(183,376),(185,383),(198,388),(200,393),(203,400),(205,405),(214,410),(221,415),(224,422),(228,429),(237,436),(239,443),(248,450),(251,457),(255,465),(260,472),(263,479),(266,486),(269,491),(275,498),(281,505),(285,512),(287,519),(291,526),(293,533),(295,540),(301,545),(303,550),(312,555),(326,560),(330,565),(338,572),(349,579),(403,649),(405,654),(407,659),(409,666),(416,673),(426,691),(437,698),(443,705),(447,712),(463,719),(471,724),(474,731),(478,738),(485,745),(492,750),(506,757),(514,762),(519,769),(529,776),(541,783),(551,790),(556,797),(559,804),(565,809),(575,814),(590,819)]
def aWK(P:cW):oV:=[(ip #[arm]),aWJ,(vy #[Wu 196 arl,aHe 198 (.str Pc 197),arp 200 2 199,aeC 201 22] 4),kt,kf [],(Ws Pc 191 Pc 192 193 2 0 0 0 18 ă 19 Ġ Ġ Ġ 194 195),(arn 20 17 arl),kt,(vy #[Wu 196 arl,arp 200 2 199,aeC 201 22,Č aHf 203 25,aeB 204] 3),(aHd Pc arm [ċ 24,arm,a2t,aHc,Wt] 23 [ċ 37,ċ 49,ċ 61,ċ 73,ċ 85,ċ 97] (ā (ċ 15)) 189 197 a2s),(a2x 202 24),(aHb 24),(aHa 24)]++(ac9 P arj 28 207 4++(ac9 P "NoCard" 40 223 6++(ac9 P "NoPlan" 52 239 8++(ac9 P ari 64 255 10++(ac9 P "NoText" 76 271 12++(ac9 P "NoAsk" 88 287 14))))))
def bB8:ě:=aHg
def qI:ě:=a2y
def aDY:ě:=aHh
def aWL:ě:=a2z
def aWM:ě:=a2A
def ada:ě:=a2B
def DT:ě:=.str arq 559
def adb:ě:=a2C
def aDZ:ě:=a2D
def aD0:ě:=a2E
def VB:ě:=aHi
def VC:ě:=aHj
def VD:ě:=qN
def anK:ě:=a2F
def adc:ě:=a2G
def qK:ě:=aeD
def bqu:oV:=Ŵ arh 9 100 305 17 3 bB8 (arr tz)++(ξ arf 14 107 322 23 1 qI++(Ŵ are 15 112 328 29 1 qI [tz]++(ξ ard 16 119 335 31 1 qI++(ξ arc 17 124 341 33 1 qI++(Ŵ "cut" 18 129 347 35 3 qI aHl++(Ŵ arb 19 136 356 39 2 qI [Ph,Wx]++(Ŵ ara 20 143 364 42 2 qI ["card",Wx]++(ξ aq9 21 150 372 45 1 qI++(ξ aq8 22 155 378 47 3 qI++(ξ aq7 23 160 384 49 1 qI++(vz aq6 24 165 390 51 qI++(vz aq5 25 172 397 53 qI++(Ŵ aq4 26 179 404 55 1 qI [fz,A1]++(vz aq3 27 186 412 58 qI++(Ŵ aq2 28 193 419 61 1 qI [fz,Pg,lN]++(ξ aq1 30 200 430 67 2 aDY++([ip #[dM 436]]++anJ Ez Ez (top 31) 206 437 72 2 aDY (ċ 205) aeE []++(Ŵ aq0 32 213 445 74 2 aDY aeE++(ξ aqZ 33 220 453 76 2 aDY++(ξ x8 35 225 461 79 2 aWL++(ξ aqY 36 230 467 86 2 aWL++(Ŵ aqX 37 235 473 94 3 aWL a2M++(Ŵ aqW 39 242 485 100 2 aWM a2L++(ξ aqV 40 249 496 107 3 aWM++(ξ aqU 41 254 502 110 3 aWM++(Ŵ aqT 43 259 510 114 2 ada a2K++(ξ aqS 44 266 522 124 3 ada++(ξ aqR 45 271 528 129 2 ada++(Ŵ aqQ 46 276 534 131 2 ada [art,Ww]++(ξ aqP 47 283 542 133 2 ada++(Ŵ aqO 48 288 548 135 3 ada a2J++(vz aqN 50 295 561 146 DT++(vz aqM 51 302 568 148 DT++(ξ aqL 52 309 575 150 1 DT++(vz aqK 53 314 581 152 DT++(vz aqJ 54 321 588 154 DT++(Ŵ x5 55 328 595 156 2 DT Wv++(Ŵ AZ 56 335 603 158 2 DT Wv++(ξ aqI 57 342 611 160 3 DT++(ξ aqH 58 347 617 172 2 DT++(ξ aqG 59 352 623 176 1 DT++(vz aqF 61 357 631 179 adb++(vz aqE 62 364 638 181 adb++(vz aqD 63 371 645 183 adb++(anJ aeA aeA (top 64) 378 652 185 3 adb Ġ [fz,Ey,Pf] [Ey,Pf,"own",Pe,A1]++(ξ aqC 65 385 666 198 1 adb++(ξ aqB 66 390 672 200 2 adb++(vz x4 68 395 680 203 aDZ++(ξ aqA 69 402 687 205 1 aDZ++(ξ aqz 70 407 693 214 2 aDZ++(ξ aqy 71 412 699 221 1 aDZ++(Ŵ Ex 73 417 707 224 3 aD0 ars++(Ŵ Jj 74 424 716 228 3 aD0 a2I++(Ŵ aqx 75 431 729 237 3 aD0 ars++(Ŵ Ji 76 438 738 239 2 aD0 a2H++(Ŵ aez 80 445 756 248 1 VB ["n"]++(Ŵ aey 81 452 763 251 2 VB ["n","m"]++([ip #[dL 771]]++anJ A0 A0 (top 82) 460 772 255 3 VB (ċ 459) aHk ["k"]++(Ŵ aex 83 467 782 260 1 VB ["n"]++(Ŵ aew 84 474 789 263 1 VB ["n"]++(Ŵ aqw 85 481 796 266 3 VB (arr "number")++(ξ aqv 86 488 805 269 3 VB))))))))))))))))))))))))))))))))))))))))))))))))))))))))))))))
def bB9(P:cW):oV:=Ŵ aqu 91 493 819 275 1 VC [tz]++(Ŵ aqt 92 500 826 281 2 VC [tz,"deep"]++(Ŵ aqs 93 507 834 285 1 VC [tz]++(Ŵ aqr 94 514 841 287 1 VC [tz]++(Ŵ aqq 95 521 848 291 2 VC [tz,Wx]++(Ŵ aqp 96 528 856 293 2 VC [tz,m7]++(Ŵ aqo 97 535 864 295 1 VC [tE]++(ξ aqn 100 542 875 301 1 VD++(ξ aqm 101 547 881 303 1 VD++(ξ aql 102 552 887 312 1 VD++(ξ aqk 103 557 893 326 1 VD++(ξ aqj 104 562 899 330 1 VD++(Ŵ aqi 105 567 905 338 1 VD a3a++([kt,aWJ,vy #[Wu 921 qN,aHe 923 (.str x9 922),a29,a28,a27,a26,a25,a24,a23,a22,a21,aeC 994 637] 12,kt,Jk Ġ #[oY 351,Jp,ċ 586,oY 355,Jp,ċ 593,oY 358,Jp,ċ 600,oY 361,Jp,ċ 607,oY 366,Jp,ċ 614,oY 373,Jp,ċ 621,oY 385,Jp,ċ 628,oY 392,Jp,ċ 635],Ws x9 916 x9 917 918 349 0 0 0 577 ă 578 Ġ Ġ Ġ 919 920,arn 579 576 qN]++(Jn EA arC 0 581 926 351 2 aHs++(Jn WG arB 1 588 934 355 1 Pi++(Jn WF arA 2 595 941 358 1 Pi++(Jn WE arz 3 602 948 361 2 aHr++(Jn WD ary 4 609 956 366 1 [Jo,"digit"]++(Jn tA arx 5 616 964 373 1 (aHq Jo)++(Jn WC arw 6 623 975 385 1 Pi++(Jn WB arv 7 630 982 392 1 a20++([ip #[.str qO 992,.str m7 993],a2Z,a2Y,Jk a2X #[.str "__dict__" 995,ċ 639,ja "function.__dict__",ja "function.__dict__#set"],a2x 997 639,aHb 639,aHa 639]++(vz aqh 108 644 1004 403 anK++(ξ aqg 109 651 1011 405 1 anK++(ξ aqf 110 656 1017 407 1 anK++(Ŵ aqe 111 661 1023 409 1 anK a2W++(Ŵ aqd 112 668 1034 416 2 anK a2V++([(vy a2U 12),(lO 1050),(lO 1052),(lO 1054),lO 1056,(ip aHp),(ip aHo),(lO 1064),(lO 1066),(lO 1068),(ip aHn),(ip aHm),(lO 1077)]++(ξ Ew 115 688 1091 426 1 adc++(Ŵ aqc 116 693 1097 437 2 adc ["form",oZ]++(Ŵ aqb 117 700 1105 443 1 adc [oZ]++(Ŵ aqa 118 707 1112 447 2 adc [WA,fz]++(Ŵ ap9 119 714 1120 463 2 adc [WA,"things"]++(ξ ap8 120 721 1128 471 1 adc++(Ŵ ap7 122 726 1136 474 2 qK [Jm,Wz]++(Ŵ ap6 123 733 1144 478 2 qK a2T++(Ŵ ap5 124 740 1155 485 2 qK a2S++(ξ ap4 125 747 1165 492 2 qK++(Ŵ ap3 126 752 1171 506 4 qK a2R++(ξ ap2 127 759 1185 514 1 qK++(Ŵ ap1 128 764 1191 519 1 qK a2Q++(Ŵ ap0 129 771 1200 529 3 qK aru++(Ŵ apZ 130 778 1209 541 3 qK aru++(Ŵ apY 131 785 1218 551 3 qK a2P++(Ŵ apX 132 792 1228 556 2 qK a2O++(Ŵ apW 133 799 1237 559 4 qK a2N++(ξ apV 134 806 1249 565 4 qK++(ξ apU 135 811 1255 575 2 qK++(ξ "law" 136 816 1261 590 1 qK)))))))))))))))))))))))))))))))))))))))))))))))))
def bqv(P:cW):oV:=arD 8 a2w 0
def bqw(P:cW):oV:=arD 15 aHg 7++aWK P
def aWN(P:cW):oV:=arD 86 aHj 70++(aWK P++bqu)
def aD1(P:cW):oV:=arD 128 aeD 110++(aWK P++(bqu++bB9 P))
structure Rw where
 n:Str
 c:Nat
 t:Nat
 l:Int
 a:Int
 k:Bool
 q:Nat
 i:Nat
 m:Nat
def zD:ī Rw:=Ő arh 105 305 17 3 311 9 0::ú arf 110 322 23 1 325 14 1::Ő are 117 328 29 1 332 15 1::ú ard 122 335 31 1 338 16 1::ú arc 127 341 33 1 344 17 1::Ő "cut" 134 347 35 3 353 18 1::Ő arb 141 356 39 2 361 19 1::Ő ara 148 364 42 2 369 20 1::ú aq9 153 372 45 1 375 21 1::ú aq8 158 378 47 3 381 22 1::ú aq7 163 384 49 1 387 23 1::Ő aq6 170 390 51 1 394 24 1::Ő aq5 177 397 53 1 401 25 1::Ő aq4 184 404 55 1 409 26 1::Ő aq3 191 412 58 1 416 27 1::Ő aq2 198 419 61 1 425 28 1::ú aq1 203 430 67 2 433 30 2::Ő aq0 218 445 74 2 450 32 2::ú aqZ 223 453 76 2 456 33 2::ú x8 228 461 79 2 464 35 3::ú aqY 233 467 86 2 470 36 3::Ő aqX 240 473 94 3 480 37 3::Ő aqW 247 485 100 2 493 39 4::ú aqV 252 496 107 3 499 40 4::ú aqU 257 502 110 3 505 41 4::Ő aqT 264 510 114 2 519 43 5::ú aqS 269 522 124 3 525 44 5::ú aqR 274 528 129 2 531 45 5::Ő aqQ 281 534 131 2 539 46 5::ú aqP 286 542 133 2 545 47 5::Ő aqO 293 548 135 3 556 48 5::Ő aqN 300 561 146 1 565 50 6::Ő aqM 307 568 148 1 572 51 6::ú aqL 312 575 150 1 578 52 6::Ő aqK 319 581 152 1 585 53 6::Ő aqJ 326 588 154 1 592 54 6::Ő x5 333 595 156 2 600 55 6::Ő AZ 340 603 158 2 608 56 6::ú aqI 345 611 160 3 614 57 6::ú aqH 350 617 172 2 620 58 6::ú aqG 355 623 176 1 626 59 6::Ő aqF 362 631 179 1 635 61 7::Ő aqE 369 638 181 1 642 62 7::Ő aqD 376 645 183 1 649 63 7::Ő aeA 383 652 185 3 663 64 7::ú aqC 388 666 198 1 669 65 7::ú aqB 393 672 200 2 675 66 7::Ő x4 400 680 203 1 684 68 8::ú aqA 405 687 205 1 690 69 8::ú aqz 410 693 214 2 696 70 8::ú aqy 415 699 221 1 702 71 8::Ő Ex 422 707 224 3 713 73 9::Ő Jj 429 716 228 3 726 74 9::Ő aqx 436 729 237 3 735 75 9::Ő Ji 443 738 239 2 747 76 9::Ő aez 450 756 248 1 760 80 10::Ő aey 457 763 251 2 768 81 10::Ő aex 472 782 260 1 786 83 10::Ő aew 479 789 263 1 793 84 10::Ő aqw 486 796 266 3 802 85 10::ú aqv 491 805 269 3 808 86 10::Ő aqu 498 819 275 1 823 91 11::Ő aqt 505 826 281 2 831 92 11::Ő aqs 512 834 285 1 838 93 11::Ő aqr 519 841 287 1 845 94 11::Ő aqq 526 848 291 2 853 95 11::Ő aqp 533 856 293 2 861 96 11::Ő aqo 540 864 295 1 868 97 11::ú aqn 545 875 301 1 878 100 12::ú aqm 550 881 303 1 884 101 12::ú aql 555 887 312 1 890 102 12::ú aqk 560 893 326 1 896 103 12::ú aqj 565 899 330 1 902 104 12::Ő aqi 572 905 338 1 911 105 12::Ő aqh 649 1004 403 1 1008 108 13::ú aqg 654 1011 405 1 1014 109 13::ú aqf 659 1017 407 1 1020 110 13::Ő aqe 666 1023 409 1 1031 111 13::Ő aqd 673 1034 416 2 1044 112 13::ú Ew 691 1091 426 1 1094 115 14::Ő aqc 698 1097 437 2 1102 116 14::Ő aqb 705 1105 443 1 1109 117 14::Ő aqa 712 1112 447 2 1117 118 14::Ő ap9 719 1120 463 2 1125 119 14::ú ap8 724 1128 471 1 1131 120 14::Ő ap7 731 1136 474 2 1141 122 15::Ő ap6 738 1144 478 2 1152 123 15::Ő ap5 745 1155 485 2 1162 124 15::ú ap4 750 1165 492 2 1168 125 15::Ő ap3 757 1171 506 4 1182 126 15::ú ap2 762 1185 514 1 1188 127 15::Ő ap1 769 1191 519 1 1197 128 15::Ő ap0 776 1200 529 3 1206 129 15::Ő apZ 783 1209 541 3 1215 130 15::Ő apY 790 1218 551 3 1225 131 15::Ő apX 797 1228 556 2 1234 132 15::Ő apW 804 1237 559 4 1246 133 15::ú apV 809 1249 565 4 1252 134 15::ú apU 814 1255 575 2 1258 135 15::ú "law" 819 1261 590 1 1264 136 15::[]
def zP(j:Nat):ě:=[aHg,a2y,aHh,a2z,a2A,a2B,.str arq 559,a2C,a2D,a2E,aHi,aHj,qN,a2F,a2G,aeD].getD j Ġ
def zO(r:Rw):Frag:=[(r.c,Ws r.n r.t r.n (r.t+1) (r.t+2) r.l r.a 3 0 (r.c - İ r.k 5 3) true a3c (a3b 3) (a3b 2) (ċ (r.c - 1)) r.q (r.q+1)),(r.c+1,fo r.n r.i Ġ (zP r.m) r.c)]
def kK(P:cW):Frag:=let ge (r:Rw):=Č r.n (r.q+2) (r.c+1);[(3,vy (tu ([en P Pd 165 aeD,aeB 166,a2q,a2p,a2o,Č aG7 170 6,Č ark 171 4,a2n,a2m,Č Pc 206 24,Č arj 222 37,a2l,a2k,Č ari 270 73,a2j,a2i]++EB 0 1++[a2h,a2g,a2f]++EB 1 16++[a2e]++EB 17 38++[a2d,a2c]++EB 55 2++[a2b]++EB 57 4++[a2a,a19,a18]++EB 61 7++[a17]++EB 68 6++[a16]++EB 74 5++[a15]++EB 79 21)) 129),(205,ip #[dM 436]),(211,A2 Ez 437 Ez 438 439 72 2 206 207 208 209 210 442 443),(212,fo Ez 31 (ċ 205) aHh 211),(459,ip #[dL 771]),(465,A2 A0 772 A0 773 774 255 3 460 461 462 463 464 779 780),(466,fo A0 82 (ċ 459) aHi 465),(586,A2 EA 926 arC 927 928 351 2 581 582 583 584 585 931 932),(587,fm EA arC 0 qN 586),(593,A2 WG 934 arB 935 936 355 1 588 589 590 591 592 938 939),(594,fm WG arB 1 qN 593),(600,A2 WF 941 arA 942 943 358 1 595 596 597 598 599 945 946),(601,fm WF arA 2 qN 600),(607,A2 WE 948 arz 949 950 361 2 602 603 604 605 606 953 954),(608,fm WE arz 3 qN 607),(614,A2 WD 956 ary 957 958 366 1 609 610 611 612 613 961 962),(615,fm WD ary 4 qN 614),(621,A2 tA 964 arx 965 966 373 1 616 617 618 619 620 972 973),(622,fm tA arx 5 qN 621),(628,A2 WC 975 arw 976 977 385 1 623 624 625 626 627 979 980),(629,fm WC arw 6 qN 628),(635,A2 WB 982 arv 983 984 392 1 630 631 632 633 634 989 990),(636,fm WB arv 7 qN 635),(638,a2Z),(639,a2Y),(675,vy a2U 12),(676,lO 1050),(677,lO 1052),(678,lO 1054),(679,lO 1056),(680,ip aHp),(681,ip aHo),(682,lO 1064),(683,lO 1066),(684,lO 1068),(685,ip aHn),(686,ip aHm),(687,lO 1077)]++zD.flatMap zO
def zA:Ň:=[3,205,211,212,459,465,466,586,587,593,594,600,601,607,608,614,615,621,622,628,629,635,636,638,639,675,676,677,678,679,680,681,682,683,684,685,686,687]++zD.flatMap fun r=>[r.c,r.c+1]
def kT:Frag:=[x_ 207,x_ 461,x_ 582,x_ 589,x_ 596,x_ 603,x_ 610,x_ 617,x_ 624,x_ 631]++zD.map fun r=>x_ a3c
def VE(P:cW):Frag:=kT++kK P
def zB:Ň:=kT.map lP++zA
theorem kE:∀P,zB=vA (VE P):=ű Ů
def kQ:aB:=view aHt [1,2,3,4,5,6,7,9,11,12,13,14,15,16,17,18,19,20,21,22,23,24,25,26,27,28,30,32,33,35,36,37,39,40,41,43,44,45,46,47,48,50,51,52,53,54,55,56,57,58,59,61,62,63,64,65,66,68,69,70,71,73,74,75,76,78,79,80,81,83,84,85,86,88,89,90,91,92,93,94,95,96,97,99,100,101,102,103,104,105,106,108,109,110,111,112,114,115,116,117,118,119,120,122,123,124,125,126,127,128,129,130,131,132,133,134,135,136]
def kL:ğ:=[gU Ez,gU A0,gU arE]
abbrev Iw:aB:=aHt
def aD2:lL:=ā (ċ 6)
def bqx:Env:={À:=Iw.main.scope,locals:=mainNs,globals:=mainNs,tF:=[],code:=ċ 13,frame:=ā 14}
abbrev kb:aM:=aeu Iw
abbrev kc:Code:=.body kb bqx
theorem bCa(w:ņ)(os:f8):topGo Eu Iw w 11 aD2 12 ⟨aro eL,#[],aHu,boot_toks,os⟩ (topStub Iw)=a14 arF kc Ev:=Ů
theorem bCb(w:ņ)(os:f8):aG6 Iw w 11 aD2 1 1 arF (blockOf kb bqx kc Ev [Wq Ev])=Jh arF kc Ev:=Ů
theorem bCc(w:ņ)(os:f8):aHv w 1483 arF (kb.take 9) Ev=Jh a3e kc a3d:=Ů
theorem bCd(w:ņ)(os:f8):aHv w 1986 a3e (f9 (kb.drop 9) 82) a3d=Jh (aeF (aWN eL) 493 819) kc a3f:=Ů
theorem bCe(w:ņ)(os:f8):a3h ă=a3g ă:=Ů
theorem bCf(w:ņ)(os:f8):a3h true=a3g true:=Ů
theorem bCg(w:ņ)(os:f8):aWH Eu Iw w 11 aD2 9 (aHw eL) ⟨doneF Pb,kc,a3i,[Wq Ev]⟩=ā (aHw eL):=Ů
def kH(P:cW):Heap:=⟨tu (aD1 P),{}⟩
abbrev kZ(P:cW)(os:f8):Ĭ:=⟨kH P,#[],aHu,1267,os⟩
abbrev kO(w:ņ)(os:f8):=openSeen kQ kL (aHy Iw.main.body) (fun s=>a3j) true aHx
theorem bCh(P:cW):absHeap (aHz (aD1 P)) 821 {} = kH P:=Ů
theorem bCi(w:ņ)(os:f8):a11 Iw.main.body (aro eL) (kH eL) Iw aHx:=Ů
theorem bCj(w:ņ)(os:f8):Pj.1=expectedOf kQ:=Ů
theorem bCk(w:ņ)(os:f8):Pj.2.1=bltViewBooted:=Ů
theorem bCl(w:ņ)(os:f8):Pj.2.2.1=true:=Ů
theorem bCm(w:ņ)(os:f8):lQ Pj=true:=Ů
theorem bCn(w:ņ)(os:f8):lQ Pj.2=pinGoodD (drecsOf kQ):=Ů
theorem bCo(w:ņ)(os:f8):lQ Pj.2.2=plainGoodE kQ (looseW kQ kL):=Ů
theorem bCp(w:ņ)(os:f8):Pj.2.2.2.2.2.2=(plainGoodD kQ kL,wideGood kQ,clsGoodW kQ kL):=Ů
theorem bVO(w:ņ)(os:f8):(arG).obs aHx=(arG).val w:=Ů
theorem bCq:LeftO aHt kQ kL (fun s=>a3j) (arG).obs (arG).val 10762:=by
 refine bB4 (Ta:=arH (bqv P)) (T1:=arH (bqw P)) (T2:=arH (aWN P)) (T3:=arH (aD1 P)) (H₀:=aro) (H₁:=kH) a3k (fun w=>boot_open EC EC (ű EC) w) (fun w=>Ů) bCa bCb bCc bCd (fun b=>by rw[Ż b bCe];exact bCf) bCg Đ bCh bCi (fun w os=>Jd (bCj w os) (Jd (bCk w os) (Jd (bCl w os) (Jd (bCm w os) (Jd (bCn w os) (Jd (bCo w os) (bCp w os))))))) bVO
def bCr(H:(WH).wellSaid=true->(WH).Holds):(a3l).Holds:=by
 refine holds_law ?_ H;unfold OpenLaw.wellSaid;repeat' with_reducible apply look_both
 all_goals rw[A3]
def bCs:bW (chainsOk kQ&&opensWell (WH).prog) (frees a3m&&(WH).within.isEmpty):=ĸ
def bCt:(WH).prog.bare:=⟨rfl,rfl,rfl,rfl,rfl,ĸ⟩
universe k85

universe E_
namespace L2
open PySem PySem.Spec PyProof.Rows
abbrev Key:=Sum Int Str
def add:Key->ſ ě
 | ı k,v=>arI k v
 | ya,v=>Value.isStrOf x v
def bCu(w:ņ):Key->Int
 | ı k=>Jq
 | ya=>hashStr w x
theorem bqy:∀{k:Key} {v:ě},add k v=true->(∃i t,k=aeG i/\v=WK i t)\/(∃x t,k=WJ x/\v=aHA x t)
 | ı i,v,h=>by rw[qP t e (a3n h) (ı ⟨i,t,rfl,e⟩)]
 | ya,v,h=>by rw[ň t e (Value.isStrOf_shape h) (Í ⟨x,t,rfl,e⟩)]
theorem bCv(i:Int)(t:Tok):add (ı i) Jr=true:=by simp[add,arI]
theorem bCw(x:Str)(t:Tok):add ya (ő t)=true:=by simp[add,Value.isStrOf]
theorem bCx(a b:Int):bF aHB (aeG b)=WL:=by
 by_cases e:a=b
 ·subst e;simp
 ·have h:¬aHB=aeG b:=fun q=>e (Sum.inl.inj q);rw[eM h];exact(bE e).symm
theorem bCy(a b:Str):bF aHC (WJ b)=bF a b:=by
 by_cases e:a=b
 ·subst e;simp
 ·have h:¬aHC=WJ b:=fun q=>e (Sum.inr.inj q);rw[eM h,eM e]
theorem bCz(a:Int)(b:Str):bF aHB (WJ b)=ă:=eM (WM q)
theorem bCA(a:Str)(b:Int):bF aHC (aeG b)=ă:=eM (WM q)
def aD3(prog:aB)(w:ņ):PySem.KeyKind prog w Key where
 is:=add
 hash:=bCu w
 inj:=fun v a b ha hb=>by
  rw[aHE ha]
  ·rw[aeI hb j u e y]
   ·rw[aHD];rw[e1]
   ·exact aeH
  ·rw[aeI hb j u e y]
   ·exact aeH
   ·rw[aHD];rw[e1]
 byValue:=fun k v h=>by rcases bqy h with⟨i,t,rfl,rfl⟩ | ⟨x,t,rfl,rfl⟩<;>rfl
 pyHash:=fun hv h=>by
  rw[aHE hv]
  ·exact wpAny_pyHash_int h
  ·exact wpAny_pyHash_str h
 eqBool:=fun hu hv h=>by
  rw[aHE hu]
  ·rw[a3o]
   ·rw[Ļ bCx h (wpAny_eqBool_int h)]
   ·rw[Ļ bCz h (SeqAt.EqAt.int_str i t y u _ _ _ _ h)]
  ·rw[a3o]
   ·rw[Ļ bCA h (SeqAt.EqAt.str_int x t j u _ _ _ _ h)]
   ·rw[Ļ bCy h (wpAny_eqBool_str h)]
 «strs»:=fun k x t v h=>by
  rw[aeI h i u e y]
  ·exact aeH
  ·rw[aHD];subst e1;cases v<;>rfl
theorem bCB(prog:aB)(w:ņ)(i:Int)(t:Tok):a3p (ı i) Jr=true:=bCv i t
theorem bCC(prog:aB)(w:ņ)(x:Str)(t:Tok):a3p ya (ő t)=true:=bCw x t
set_option genCtorIdx false in
inductive V where
 | ę | bl (b:Bool) | int (i:Int) | str (x:Str) | ade (b:Array UInt8) | adf (b:UInt64) | ref (a:Addr) | ty (n:String)
def V.ctorIdx(x:V):Nat:=WN aeK aeJ a3q
deriving instance DecidableEq for V
def RelV:V->Ž ě
 | .ę,u=>u=A4
 | o5,u=>u=aHF b
 | ĭ,u=>∃t,u=WK i t
 | ő,u=>∃t,u=aHA x t
 | .ade b,u=>∃t,u=Value.bytes b t
 | .adf b,u=>∃t,u=Value.float b t
 | Ŝ,u=>u=m9 a
 | .ty n,u=>u=o4 n
abbrev Vals:Ŕ->Ž Œ:=WO RelV
theorem Vals.length(r:Js):aP=aO:=arJ r
theorem Vals.get:∀{xs:Ŕ} {us:Œ} {i:Nat} {x:V},Js->yc->∃u,ŋ us u/\A5
 | _,_,_,_,.nil,e=>aeL e
 | _,_,0,_,ai r _,e=>by simp at e;rw[eN e (τ _ r)]
 | _,_,i+1,x,yb _,e=>ED u b a (Vals.get t (Ł e)) (Ł b)
theorem Vals.set(r:A5):aHG i (xs.set i x) (us.set i u)
 | _,_,_,.nil=>.nil
 | _,_,0,yb _=>yb r
 | _,_,i+1,yb q=>ai q (Vals.set r i t)
theorem Vals.append:∀{xs a:Ŕ} {us ws:Œ},Js->Vals a ws->Vals (xs++a) (us++ws)
 | _,_,_,_,.nil,s=>s
 | _,_,_,_,yb r,s=>ai r (Vals.append t s)
theorem Vals.take:aHG n (xs.take n) (us.take n)
 | _,_,0,_=>.nil
 | _,_,_+1,.nil=>.nil
 | _,_,n+1,yb r=>ai r (Vals.take n t)
theorem Vals.drop:aHG n (yd n) (us.drop n)
 | _,_,0,r=>r
 | _,_,_+1,.nil=>.nil
 | _,_,n+1,yb _=>Vals.drop n t
theorem Vals.none_of:∀{xs:Ŕ} {a:Œ} {i:Nat},A6 a->lS xs i->lS a i:=fun {xs a i} r e=>by
 rw[Ĕ h1 Á h2 a3r];exact List.getElem?_eq_none_iff.mpr Ă
def AH:EF->Ž lL
 | j0,Δ=>cu
 | none,none=>True
 | _,_=>tG
def KV{κ:Type}:Pk->Ž (ī (κ×ě)):=WO fun (p:κ×V) (q:κ×ě)=>p.1=q.1/\RelV p.2 q.2
def kV:Key->V
 | ı i=>ĭ
 | ya=>ő
set_option genCtorIdx false in
inductive HO where
 | lst (xs:List V)
 | tup (xs:List V)
 | dK (ρ:List (Key×V)) | dT (ρ:List (List Key×V))
 | set (S:Int->Bool) (n:Nat)
 | ins (C dx:Addr) (fs:List (Str×V))
 | own (x:Addr)
 | xd (fs:List (Str×V))
 | met (f x:Addr)
 | fw (lo hi:Int)
 | oP (o:Obj) (u:HO)
 | oQ (q:Str)
 | ext (φ:Heap->Prop)
def HO.ctorIdx(x:HO):Nat:=by rw[aeK,aeJ,arK,aHH];exact 12
abbrev Hp:=Addr->ś HO
def upd(H:Hp)(a:Addr)(o:HO):Hp:=fun b=>İ (b=a) ĕ (H b)
theorem Μ:vC a=ĕ:=o6 upd jb
theorem aK(h:b≠a):vC b=H b:=o6 upd EG
theorem bCD{H:Hp}(h:EH)(h':aeM)(d:o≠u):a≠b:=by
 rw[ir e (ş e (Ļ h h' (d (dN h'))))]
theorem bqz{H:Hp}(h:EH)(h':eO):a≠b:=by
 rw[ir e (jc e h h')]
def On(h:Heap)(a:Addr)(eP:jd):Prop:=∃o,EI/\arL/\∃n,iu=.seq eP n
theorem On.tup(x:On h a eP):IsTup h a eP:=let ⟨o,ho,hc,r⟩:=x;⟨o,ho,hc.1,r⟩
theorem On.lt(x:On h a eP):a<o7:=let ⟨_,ho,_⟩:=x;cX ho
theorem On.new(h:Heap)(eP:jd):On (h.push (EJ aC eP)) o7 eP:=aeN cw qQ
section
variable (P:Program) (w:World)
def Ix(q:Str):Bool:=q == "plan_by.<locals>.plan_of" || q == "best_right.<locals>.plan_of"
def adg(H:Hp)(h:Heap)(a:Addr):Ž HO
 | qR=>Jx/\aHP sU (A7=ā (gW Ò (.seq aHO n)))
 | A8=>Jx/\∃sU:Œ,A6 sU/\On h a aHO
 | arS=>aHN aeQ ρ
 | Pr=>ů aeQ/\Jw/\∃xs:ī aHM,
   WO (fun (p:vD×V) (q:aHM)=>a3u) ρ xs /\
   ∃o es ep,EI/\o.ExactDict/\iu=aeP/\Jv=Pq (entryOfKey arR)/\o9 (Pq lP)
 | .set S n=>h.SetOf (intKind P w) a S n
 | arQ=>Pp dx a/\Î aeO/\dx≠a/\A7=ā (WS dx) /\
   ∃mA,aHL/\aHK/\a3t
 | .own _=>∃o,EI
 | .xd fs=>∃mA,h.Ns1 a mA/\aHK
 | .fw lo hi=>∃t u v,A7=ā (gW WR (o8 #[ć lo t,ć hi u,gV v]))
 | a3s=>EI/\adg H h a u
 | .oQ q=>∃ps:jd,A7=ā (aHJ ps) /\ Po arP/\∀pos cv,arO=Pm->∃c oc u vs t,cv=qM/\m_ c oc u/\arN=Ju/\aHI/\(Ix q=true->oc.cls=WQ /\ ∃(T:Addr) (file:Str) (tf:Tok) (flags:Int) (tg:Tok) (bCE:Bool) (text:Int) (tt:Tok),ĳ vs 11 (ċ T)/\WP 11=ċ T/\WP 18=.str file tf/\WP 7=ć flags tg/\WP 9=je bCE/\WP 10=ć text tt/\c≠T/\arM)
 | .met f x=>A7=ā (PySem.W.methodObj j9 (ċ x))
 | .ext φ=>φ h/\(∃o,EI)/\∀h1 h2:Heap,φ h1->(∀o,h1.get? a=ĕ->h2.get? a=ĕ)->φ h2
def u9(H:Hp)(h:Heap):Prop:=∀a o,EH->A9 o
universe E_
theorem adg.lt(x:A9 o):a<o7:=by
 cases o with
 | lst c=>obtain⟨_,_,_,_,e⟩:=x;rw[o_]
 | tup c=>obtain⟨_,_,_,p⟩:=x;exact p.lt
 | dK b=>rw[aHQ o x o_]
 | dT b=>rw[aHQ o x o_]
 | set S n=>obtain⟨o,_,_,_,e,_⟩:=x;rw[o_]
 | ins C dx fs=>obtain⟨_,_,_,e,_⟩:=x;rw[o_]
 | own y=>rw[tH e x,o_]
 | xd fs=>obtain⟨_,⟨_,_,_,e,_⟩,_⟩:=x;rw[o_]
 | fw lo hi=>obtain⟨_,_,_,e⟩:=x;rw[o_]
 | oP ob u=>obtain⟨e,_⟩:=x;rw[o_]
 | oQ q=>obtain⟨_,e,_⟩:=x;rw[o_]
 | met f y=>exact cX (x)
 | ext φ=>obtain⟨_,⟨_,e⟩,_⟩:=x;rw[o_]
theorem arT:∀{c:ī e} {bqA:ī d},WO F c bqA->(∀a b,F a b->G a b)->WO G c bqA
 | _,_,.nil,_=>.nil
 | _,_,yb r,f=>ai (f _ _ r) (arT t f)
theorem adg.aWO(x:A9 o)(k:∀b u,(b=a\/Pp b a)->EK=Δ->vF=Δ)
  (ho:∀b,Pp b a->H' b=ā (.own a)) (ht:aHS) (hy:aHR) (hz:∀b o u vs,iu=Ju->arU->H' b=aeR):Pt H' h' a o:=by
 induction o with
 | lst xs=>rw[lT z l n r e x z l n r A']
 | tup xs=>rw[Ps z l r g e c x g A' c]
 | dK F=>rw[a3w vs r]
 | dT F=>
  rw[a3w xs (arT r fun p q z=>a3v)]
 | set S n=>rw[Ps g i j t e c x t A' c]
 | ins C dx fs=>
  obtain⟨d,z,ne,e,mA,⟨E,i,j,J,c⟩,r⟩:=x;exact⟨ho _ d,z,ne,A',mA,⟨E,i,j,ye (ķ d) J,c⟩,r⟩
 | own y=>rw[ň g e x (Į g A')]
 | xd fs=>obtain⟨mA,⟨E,i,j,e,c⟩,r⟩:=x;rw[υ mA ⟨E,i,j,A',c⟩ r]
 | fw lo hi=>rw[dO (Ĩ t u v e x) t u v A']
 | oP g u ih=>rw[ň e q x (Į A' (ih q))]
 | oQ q=>
  rw[Ĩ ps e t f x];refine⟨ps,k a _ ŵ e,t,ġ B cv z⟩;obtain⟨c,oc,u,vs,t',e1,J,K,e4,e5⟩:=f B cv z;refine⟨c,oc,u,vs,t',e1,hz _ _ _ _ K J,K,e4,fA y⟩;obtain⟨X,T,A,tf,m,Z,I,s,Y,W,U,R,Q,O,N,M,L⟩:=e5 y;exact⟨X,T,A,tf,m,Z,I,s,Y,W,U,R,Q,O,N,M,hy _ _ L⟩
 | met f y=>
  have e:=x;show vE a=Ε;exact k a _ ŵ e
 | ext φ=>obtain⟨p,⟨o,e⟩,st⟩:=x;rw[υ (st _ _ p fun o q=>ye ŵ q) ⟨o,A'⟩ st]
theorem u9.lt(x:qU)(e:EH):a<o7:=(x a o e).lt
theorem u9.fresh(x:qU)(e:o7<=a):aQ a:=by
 cases q:H a with
 | none=>rfl
 | some u=>rw[aHT (x.lt q) e]
theorem u9.kept(x:qU)(k:arW):WT h':=fun a o e=>
 arV (x a o e) b u ζ (Pu q) q
theorem u9.laid(x:qU)(k:arW)(i:o7<=a)(new:Pt vC h' a o):Pv vC h':=fun b u e=>by
 have d:=x.fresh i;rw[eQ f a]
 ·rw[jc f Μ e];exact new
 ·rw[a3x (k c v q)]
def Rd(H:Hp)(a:Addr)(u:HO):Prop:=H a=Δ\/∃o,m_ a o u
theorem Rd.ok(r:Jy u)(x:qU):A9 u:=by
 rw[arX r r o r]
 ·exact x a u r
 ·rw[tH q (x a _ r)];exact q
def aWP:Ž (ś HO)
 | ā qV=>True
 | ā (.dK _)=>True
 | ā (.dT _)=>True
 | ā (.set _ _)=>True
 | ā aHU=>True
 | ā (.ext _)=>True
 | _=>tG
theorem u9.write(ok:qU)(f:aHZ)(s:aHY)(k:aHX EK)(n:aHW)
  (new:Pt (qW x m) h' x m):Pv (qW x m) h':=fun b u q=>by
 have d:∀c y,Pp c y->c≠x:=fun c y r z=>aHV;have i:∀c g,bX c (Ē g)->c≠x:=fun c g r z=>aHV;rw[eQ l x]
 ·rw[jc l Μ q];exact new
 ·rw[gb (aK l) q (eQ a e)]
  ·have p:Pp b x:=by
    rw[fB s]
    ·rw[Ŗ (a.trans z) l]
    ·rw[Ĉ a z]
   rw[Ī q p p,ň v hv n (Į v (Ć a hv))]
  ·refine(ok b u q).aWO (fun c v j r=>k c v ?_ r) (fun c r=>nb (d c b r) r) (fun c g r=>nb (i c g r) r) (fun c g r=>a3y) fun c o v ζ ζ r=>a3y;rcases j with rfl | j
   ·exact a
   ·rintro rfl;rw[fB s]
    ·exact d c b j z
    ·rw[EL j];exact l rfl
structure Un(fs ex:Ň)(H H':Hp)(h h':Heap):Prop where
 keep:∀b o,yf->eO->b∉fs->aeS->vF=ĕ
 slot:∀b o,yf->eO->b∈fs->aeS->∃sl,vF=aH0 o sl
 free:∀b o,yf->eO->aeS->Jz b
 there:∀b o,yf->aeS->∃o',vF=ā o'
 Iy:aHS
 Iz:a3z
 DU:aHR
theorem Un.any(u:JA g e)(q:EK=aR)(n:eO)(c:aeS):∃f,e.get? b=aH0 a f:=by
 by_cases d:b∈fs
 ·exact u.slot b a q n d c
 ·rw[Į a.slots (u.keep b a q n d c)]
theorem Pw(k:arW):JA H h':=
 ⟨JC a q ζ (k b a q),JC a q ζ ⟨a.slots,k b a q⟩,EM n ζ n,a3A a,j_ q q,JB q q,j_ q q⟩
theorem Un.refl:JA H h:=Pw (j_ q q)
theorem Un.laid(k:arW)(e:o7<=a)(c:aQ a):JA vC h' where
 keep:=JC u q ζ (Pu q)
 slot:=JC u q ζ ⟨u.slots,Pu q⟩
 free:=fun b u q n ζ=>nb (ke (tI (cX q) e)) n
 there:=a3A u
 Iy:=yg d (arY c)
 Iz:=fun b u d q=>arY c
 DU:=yg ps (arY c)
theorem Un.write(c:aHZ)(m:aHY)(k:aHX EK)(f:aHW):JA (qW x o) h':=by
 have g:∀b,eO->b≠x:=fun b n z=>by rw[ş z (Ļ n c c)]
 have i:∀b,eO->b≠e:=fun b n z=>by
  subst z;rcases m with r | r
  ·exact g b n r
  ·rw[Ī n r r]
 have d:∀b u,aeM->¬aWP Δ->b≠x:=fun b u q l z=>by rw[ş z (Ļ q c (l c))]
 refine⟨JC u q n (Pu (i b n) q),JC u q n ⟨u.slots,Pu (i b n) q⟩,fun b u q n ζ=>nb (g b n) n,ń b u q ζ,
  yg j aH1,fun b u j q=>aH1,yg ps aH1⟩
 rw[eQ a e]
 ·rw[cA a f]
 ·rw[Į u (Pu a q)]
def bCF(h:Heap)(H:Hp):Ň:=pd o7 fun a=>(H a).isSome
def aWQ(h:Heap)(H:Hp):Heap:=PySem.W.hideAll h (bCF h H)
theorem bCG(h:Heap)(H:Hp):gQ (aWQ h H)=o7:=PySem.W.hideAll_size _ _
theorem bCH(e:yf)(n:eO):aH2=ĕ:=
 PySem.W.hideAll_get _ e fun a=>by rw[JD (yh a) n];simp at q
theorem bCI(e:aH2=ĕ):yf/\eO:=by
 have a:=PySem.W.of_hideAll _ e;refine aD a;cases q:H b with
 | none=>rfl
 | some x=>
  have z:aH2=none:=PySem.W.hideAll_none _ (tJ (cX a) (bg q));rw[dP z]
def bCJ(g h:Heap)(L:Addr):Ã:=(Ο o7).filterMap fun a=>if a=L\/WU (g.get? a) then none else Ĥ A7 o (a,o)
def rest(g h:Heap)(L d:Addr):Ã:=(bCJ g h L).filter fun p=>kh (p.1≠d)
structure Mod(K:ĝ)(mg:bY)(base:Heap):Prop where
 aWR:K.In base
 glob:base.Ns io mg
 blt:∃mb,base.Ns JE mb/\a3B
 nolimit:base.NoLimit
 bmod:∃bm ob,aeU ark bm/\bm≠JE/\aeT bm=ā ob/\ob.cls=Ì "module" /\ ob.dict=ā JE/\ob.data=.plain
set_option genInjectivity true in
structure Cx where
 prog:Program
 w:World
 K:PySem.W.Frag
 mg:Str->Option Value
 base:Heap
 A:Around
 N:List Str
 Oo:Shared
 H₀:Hp
 env:Env
 outer:List Env
 stack:List Env
 ex:List Addr
 fn:Str->Bool
 calm:Bool
 pn:List (Addr×Obj)
 xe:Value->Shared->Prop
def aD4(q:Str):Str:=if Ix (aeV q Pe)then aeV q Pe else aeV q A_
def IA(K:ĝ):ī (Addr×Str):=K.filterMap fun p=>match p.2.cls,p.2.data with
 | WQ,Ju=>(match(vs[11]?:lL),(vs[1]?:lL)with
  | ā (ċ P),ā (JF _)=>if(iw P).isNone then mZ P (aD4 q)else none
  | _,_=>none)
 | _,_=>none
def WV(K:ĝ)(H:Hp):Prop:=∀p∈tK,bX p.1 (.oQ p.2)
def AI(l:ng):Ň:=l.filterMap (·.frame)
abbrev Cx.fs(X:Cx):Ň:=AI Px
def bqB(sc:Ξ)(x:Str):Prop:=aeW\/EN tL
def Loc(sc:Ξ)(x:Str):Prop:=aeW\/tL=bh
def Look(env:Env)(h:Heap)(m:bY)(x:Str)(u:ě):Prop:=
 (aH3 x=ki/\m x=Δ)\/((EN (aH3 x))/\∃c,a3C x=ū/\h.IsCell c Δ)
structure Cx.Ok(X:Cx):Prop where
 mod:a3E
 kind:ar0=Et
 glob:aH4=io
 blt:X.env.builtins=JE
 above:JG<=jf
 inj:∀x y c,qX->Py y=ū->x=y
 has:∀x,(aeZ x)->∃c,qX
 bqC:∀x c,X.fn x=true->qX->JG<=c
 hd:bG->X.A.handled=none
 frames:X.A.frames=ā kj
 bqD:kj=Px\/(kj=Ó::Px/\X.env.frame=ā jf)
 aWS:∀b∈X.ex,WX/\WW b
 bs:∀b o,aeX->aeY b=ĕ/\X.H₀ b=none
 IB:X.base.objs.size<=JG
 bqE:∀b o,aeX->b∉X.ex
 aD5:∀b∈X.ex,arZ
 sV:a3D Px
 oR:(lU b X.fs (X.H₀ b))/\WV X.K X.H₀
structure Inv(X:Cx)(pins:Ã)(σ:ar2)(H:Hp)(s:Ĭ):Prop where
 ok:X.Ok
 os:s.os=X.Oo.os
 bare:JH aev
 base:Un X.fs X.ex X.H₀ H X.Oo.heap Ĳ
 loc:∃m,ar1 jf m/\∀(i:Nat) (x:Str) (v:V),qY->ae1->W0->∃u,cu/\Look Ó Ĳ m x u
 cell:∀x c,qX->∃v,ae0 c v
 free:aQ jf
 aD6:∀x c,qX->aQ c
 pin:a3F aH5
 Ν:WZ H Ĳ
 len:WY=X.N.length
theorem Cx.Ok.bCK{X:Cx}(ok:X.Ok)(e:aeX):arZ:=fun a=>by
 rw[EO (ok.sV.mem a).1 e]
theorem Inv.bs(I:Ζ):∀b o,aeX->tM/\eO:=fun b o e=>
 ⟨aH8 ar3.1 ar3.2 (I.ok.bCK e) aH6,aH7 ar3.1 ar3.2 aH6⟩
theorem Inv.bk(I:Ζ):∀b o,aeX->tM:=iy (I.bs b o e).1
theorem Inv.mod(I:Ζ):a3E:=I.ok.mod
theorem Inv.tabs(I:Ζ):WV X.K H:=fun p b=>ar4 p.1 p.2 (I.ok.oR.2 p b)
theorem Inv.Op(I:Ζ):X.K.In Ĳ:=I.ok.mod.aWR.keeps I.bk
theorem Inv.lt(I:Ζ):jf<Ģ:=let ⟨_,hn,_⟩:=pf;hn.lt
theorem Inv.sz(I:Ζ):JG<=Ģ:=û W1 (Ba I.lt)
theorem Inv.bCL(I:vG)(h:ae3):a∉X.fs:=fun d=>by
 rw[aH9 c d,ae2 c (û I.sz h)]
theorem Inv.anL(I:Ζ):WW jf:=fun x c e z=>by
 rw[Ĩ v o f hd Pz];obtain⟨m,⟨o',es,ep,b,d,_⟩,_⟩:=pf;rw[z,b]at f;rw[Ţ f (Ī d hd hd)]
theorem Inv.sV(I:Ζ):ar6 vH Px:=by
 have all:∀(l:ng),(tN (AI l) X.fs)->a3D l->ar6 vH l:=by
  intro l;induction l with
  | nil=>intro _ _;trivial
  | cons n r g=>
   intro hs k;obtain⟨m,⟨L,o,c,j,i,hd⟩,h⟩:=k;have f:=hs L (JI AI ar5 c dQ);rw[đ sl e (I.base.slot L o i (I.ok.oR.1 L f) f fun z=>I.ok.aD5 L z f),υ m ⟨L,_,c,j,e,hd⟩ (g (fun b d=>hs b (JI AI ar5 c (ť d))) h)]
 exact all Px (aS d d) I.ok.sV
theorem Inv.stack(I:Ζ):ar6 vH kj:=by
 rw[a3G]
 ·rw[Ĉ e I.sV]
 ·rw[e,fC m b pf,eS (ai (ar7 JJ) hf b ?_ I.sV) (W4 (W3 W1))]
theorem Inv.aD7(I:qZ):tN W5 (jf::X.fs):=fun b a=>by
 rw[a3G]
 ·rw[Ļ e a (ť a)]
 ·rw[Ę e a (bH AI a),ph ar5 hf a a]
theorem Inv.bCM(I:Ζ):∀b∈W5,eO:=fun b c=>by
 rw[EQ (I.aD7 b c) e c]
 ·rw[Ĉ e PB]
 ·rw[aH9 d c];exact aH7 d (I.ok.oR.1 b c) fun z=>I.ok.aD5 b z c
theorem Inv.step{ch:Ň}(I:jg f)
  (j:aIf f)
  (h:∀b o,WX->arZ->PF->tM->eO->vF=ĕ)
  (slot:∀b o,WX->b∈X.fs->PF->tM->eO->∃O,vF=aH0 o O) (free:∀b o,PF->tM->eO->Jz b)
  (A:∀b o,PF->tM->∃K,vF=ā K)
  (F:aHS) (M:a3z) (J:aHR)
  (Y:∀m,ar1 jf m->h'.Ns jf m) (P:aIe) (hg:JH W) :
  a3I f W d':=by
 have L:∀b o,aeY b=ĕ->WX:=iy (JN W1);have y:∀b o,aeY b=ĕ->b∉X.ex->PF:=fun b o e a B=>by
  rcases(j b B).1 with z | z
  ·exact a z
  ·rw[ae2 e z]
 have w:∀x c,qX->∀v,ae0 c v->h'.IsCell c v:=fun x c e v (cY E hd)=>by
  have g:c∉ch:=a3H;by_cases U:c∈X.fs
  ·rw[gc (đ O q (slot c o aId U g E (JK e))) _ q hd]
  ·exact cY (h c o aId U g E (JK e)) hd
 refine⟨I.ok,I.os,hg,⟨W7 B a,W7 B a,Ý b o e n a,PD e a,fun b xs e=>F b xs (I.base.Iy b xs e),bj xs (M b o xs (aIc b o xs e)),Bb ps⟩,?_,W6,?_,W6,Ĝ p S,P,ET⟩
 ·exact h b o (L b o e) B ar8 (aH8 e n B a) aIa
 ·rw[nh (dU O C (aIb B a) N Q (slot b _ (L b o e) B ar8 C aIa)) N Q]
 ·rw[qP K C (ar9 a) (free b K ar8 C aIa)]
 ·rw[qP K C (ar9 a) (A b K ar8 C)]
 ·exact J b ps (ar4 b ps e)
 ·rw[Ė m Z hl pf];refine⟨m,Y m Z,ES x v C Q e3⟩;rw[JM u r l (hl i x v C Q e3) r ?_];rcases l with l | ⟨k,c,e,z⟩
  ·rw[ŝ l]
  ·rw[Í ⟨k,c,e,w x c e _ z⟩]
 ·rw[ň v z Pz (Į v (w x c e v z))]
 ·obtain⟨m,⟨o,_,_,E,_⟩,_⟩:=pf;exact free _ o (fun z=>(j _ z).2.1 rfl) E PB
 ·rw[Ĩ v o E hd Pz];exact free c o a3H E (JK e)
 ·rw[ĩ e n ne R d (ER S)];have g:p.1∉ch:=fun z=>(j p.1 z).2.2.2 p S rfl;exact⟨h p.1 p.2 ne R g e n,free p.1 p.2 g e n,ne,R,d⟩
theorem Inv.un(I:Ζ)(u:aIh H' h')(d:aIe):ae4 H':=by
 rw[a3K i l Ğ];exact I.step (ch:=[]) aIg (fun b o ζ f ζ e n=>u.keep b o e n f Ğ) (fun b o ζ f ζ e n=>u.slot b o e n f Ğ) (a3J ζ Ğ) (bj ζ (u.there b o e Ğ)) u.Iy u.Iz u.DU (fun m' k=>by
  rw[aT o' g h c j k (pi i)];exact⟨_,g,h,l,j⟩) d JO
theorem Inv.call(I:Ζ)(u:a3M h')(h:aIe)(A:JH v)
  (g:aIf a) :
  a3I a v C:=by
 rw[a3K l i a3L];exact I.step g (fun b o i B d e n=>u.keep b o e n (fun z=>(W' (I.aD7 b z)).elim i B) d) (aIi n (u.any e n d)) (a3J d d) (bj d (u.there b o e d)) u.Iy u.Iz u.DU (fun m' y=>by
  rw[aT o' j k f w y (W8 l)];exact⟨_,j,k,i,w⟩) h A
theorem Inv.turned(I:Ζ)(k:∀b o,b≠it->asa)(i:aQ it)(g:it≠jf)
  (A:aIj it) (y:WW it) (w:ae6 (X.pn++a) it):ae4 H:=by
 have f:∀b u,aeM->b≠it:=fun b u e z=>by rw[EV i e e]
 refine a3P [it] l (ae5 z)
  (bj d ⟨o,PJ (ae5 z) e⟩) EU (JB e e) EU (Ĝ m j) (Bb u) JO
 ·rw[dO (PH l) A g y w]
 ·rw[lT o B C h r j o B C (k _ o (iz g) h) r]
 ·rw[a3O]
  ·rw[a3N]
  ·exact f c _ z
theorem Inv.tok(I:Ζ)(t:Nat):W_ a {s with toks:=t}:=I.un Un.refl cZ
theorem Inv.kept(I:Ζ)(k:aIk (cC b)):ae4 H:=I.un (Pw k) (I.Ν.kept k)
theorem Inv.laid(I:qZ)(k:aIk (cC b))(d:ae3)(new:vJ vC h' a o) :
  PL c vC h' t':=I.un (Un.laid k d (pj d)) (I.Ν.laid k d new)
theorem Inv.write(I:Ζ)(d:aHZ)(f:aHY)(k:aHX (cC b))(c:aHW)
  (new:vJ (qW x o) h' x o):ae4 (qW x o):=I.un (Un.write d f k c) (I.Ν.write d f k c new)
theorem Inv.anM(I:vG)(h:a3F a):Ζ:=
 aIl I.ok (fun p c=>(asb c).elim (fun z=>ER PM) (h p))
theorem aWT{N:ğ}(c:ae7){j:Nat}(a:lV N)(b:ĳ N j x):i=j:=by
 rw[dU h1 e (JQ a) h2 d (JQ b)];exact(List.getElem_inj c).mp (JP d.symm)
theorem bqF(I:jg F)(hN:vK)(hi:qY)(w:EX)(r:cu)
  (h:∀s',eT F afa H s'->(∃a,Be a asf/\(a=jf\/Py x=aR))->Q () s') (hf:EW:=by rw[ae9]):JR (aIm u):=by
 rw[Ė m hn hl (id pf)];have U:(ar0 == .class||(ar0 == .module&&jf != aH4))=ă:=Η JJ;have K:i<WY:=gh ET (jh hi);have anL:=I.anL;have f:∀{a:Addr} {P:Heap},(∃o,cC a=ĕ/\aQ a)->Be a P->WZ H P:=fun {a P} ha hs b ob e=>by
  obtain⟨_,_,B⟩:=ha;refine arV (cZ b ob e) c Z l (lW hs c ?_ q) q;rintro rfl;rcases l with rfl | l
  ·rw[dP B]
  ·rw[Ī B l l]
 rcases w with J | J
 ·refine wpAny_storeName_local J hn (ġ P a1 hs) U;obtain⟨oL,_,_,a0,_⟩:=id hn;refine h _ (a3T _ a1 C y c f oL a0 PB) ⟨_,hs,ŵ⟩
  ·exact a3S W1
  ·rw[asd sl (aIb O w) W1]
  ·rw[asd o' (ar9 w) W1]
  ·by_cases L:j=i
   ·rw[jc L hi g,gc a3R u r (ı ⟨J,Ğ⟩)]
   ·rw[a3Q];rcases q with⟨k,e⟩ | ⟨k,c,e,z⟩
    ·refine ı (aD k);have:y≠x:=fun e=>L (aWT hN g (e▸hi));simp[this,e]
    ·rw[Í ⟨k,c,e,a3U⟩]
  ·rw[ň Z z (ae8 y c e) (Į Z a3U)]
  ·rw[lT e n ne nf d (ER hp) (lW hs p.1 ne e) n ne nf d]
 ·have N:X.fn x=true:=by
   rw[fB hf]
   ·exact z
   ·rw[Ī z J J]
  rw[ľ (gf (dU c l (I.ok.has x (ı J)) Z z (ase l)) (wpAny_storeName_cell JJ J l z (ġ P Y hs)) (Ė oc S R (id z))) (h (fE P) (a3T m (hn.sameBut hs (iz (anL x c l))) C y c' f oc S (JK l)) ⟨c,hs,ķ l⟩)]
  ·exact a3S (asc N l)
  ·rw[asd sl (aIb O w) (asc N l)]
  ·rw[asd o' (ar9 w) (asc N l)]
  ·by_cases L:j=i
   ·rw[jc L hi g,gc a3R u r (ķ ⟨ı J,c,l,Y⟩)]
   ·rw[a3Q];rcases q with q | ⟨k,c',e,z'⟩
    ·rw[ŝ q]
    ·refine ķ ⟨k,c',e,z'.sameBut hs ?_⟩;rintro rfl;exact L (aWT hN g (I.ok.inj _ _ _ e l▸hi))
  ·by_cases W:c'=c
   ·rw[Bc W _ Y]
   ·rw[ň w2 z2 (ae8 y c' e) (Į w2 (z2.sameBut hs W))]
  ·rw[ĩ e n ne nf d (ER hp)];refine⟨lW hs p.1 ?_ e,n,ne,nf,d⟩;intro q;rw[q,S]at e;have q':oc=p.2:=dN e;exact d Z (ŗ q' R)
theorem aD8(I:Ζ)(e:vK)(hi:qY)(c:EX)(r:cu)
  (h:∀b,eT a afa H b->Q () b) (d:EW:=by rw[ae9]):JR (aIm u):=
 bqF I e hi c r (fun b f ζ=>h b f) d
theorem Inv.bCN(I:Ζ)(h:d.os=s.os)(u:a3M d.heap)(f:WZ H' d.heap)(i:JH d.gens)
  (g:aIf a):eT a σ H' d:=by
 rw[ĩ h' g' d' t' o' d,EY e h (I.call u f i g)]
abbrev XK:=ě->JS->ni
abbrev St:=ar2
abbrev VK:=V->ni
abbrev TE:=St->PN
abbrev TT:=St->PP Bool
abbrev TA:=St->PP Ŕ
structure Ends where
 nx:yj
 rt:VK
 bk:yj:=yi
 ct:yj:=yi
abbrev TS:=Ends->yj
def EP(X:Cx)(pins:Ã)(σ:St)(Q:VK)(u:ě)(s':Ĭ):Prop:=∃v H',PQ/\cu/\Xa
def TP(X:Cx)(pins:Ã)(σ:St)(Q:Xb)(b:Bool)(s':Ĭ):Prop:=∃H',PQ/\Q b H'
def AP(X:Cx)(pins:Ã)(σ:St)(Q:Xc)(us:Œ)(s':Ĭ):Prop:=∃vs H',PQ/\vL/\Q vs H'
def SP(X:Cx)(pins:Ã)(D:Ends)(f:Flow)(s':Ĭ):Prop:=
 match f with
 | Pb=>afb (D.nx mR H')
 | .brk=>afb (D.bk mR H')
 | .cont=>afb (D.ct mR H')
 | .ret u=>∃v mR H',aIn mR/\cu/\D.rt v H'
def PE(X:Cx)(e:Expr)(t:TE):Prop:=
 asg Q VK (JT Q) (bZ e) afc
def PT(X:Cx)(e:Expr)(t:TT):Prop:=
 asg Q Xb (JT Q) (afd Ó (bZ e)) ash
def PW(X:Cx)(e:Expr)(t:TT):Prop:=
 a3V whole (Sem ě) Bool (afd Ó whole) ash
theorem PW.pt(h:PW X e t):Xd t:=h _
def PA(X:Cx)(es:aE)(t:TA):Prop:=
 a3W (spliced aIo)
def PS(X:Cx)(st:Stmt)(t:TS):Prop:=
 a3X (exec st Ó)
def Oq(X:Cx)(st:aM)(t:TS):Prop:=
 a3X (execs st Ó)
theorem dH(h:Xe t Q E s)(c:∀a s,Q a s->Q' a s):Xe t Q' E s:=lX h c asi
section
variable {X:Cx}
theorem bin(z:q9 m)(w:vM l){R:V->V->ni}(I:qZ)(h:m σ H fun x j=>l σ j a30)
   {Q:lY k} {f:ě->ě->Sem k}
  (r:a3Z) :
  a3Y:=by
 rw[q5 (yk (z c s σ H _ I h) v x j B p) (χ (w c s1 σ j _ B p) u i ⟨y,d,A,n,o⟩)];exact r v u i x y d A r1 n o
def bCO(i:Nat):TE:=Ş σ (∃v,ae1/\Q v H)
def tC(v:V):TE:=Ş ζ (Q v H)
theorem Os(o:qY)(hv:W0)(hd:jj:=by decide)(f:asj:=by decide):tO pos:=by
 rw[ji d g,ab (Ŷ v e h h (Ė m j n pf)) u r l (n i x v o e hv)];have b:EP X d g Q u s:=aIr;rcases l with⟨a,k⟩ | ⟨a,c,hc,aD9⟩
 ·exact afe (a32 a j k b) hd
 ·rw[aIq]
  ·exact afe (aIp a hc aD9 b) hd
  ·exact afe (a31 a hc aD9 b f) hd
theorem bqG:asl ĭ (tC ĭ):=PR (wpAny_Constant_int (Bf ĭ h))
theorem bCP:asl (je b) (tC o5):=PR (Constant_bool (ac o5 H I h))
theorem bCQ:asl Ġ (tC .ę):=PR (Constant_none (ac .ę H I h))
theorem bqH:asl ő (tC ő):=PR (Calls.Constant_str (Bf ő h))
def Gl(X:Cx)(x:Str):Prop:=tP x=ā a33
theorem aWU(I:Ζ)(c:nj)(b:yl=Δ)(h:Q u s)
  (hd:jj:=by decide):a35:=
 a34 c (Calls.loadGlobal_global (Ć PU aIs) b h) hd
theorem aEa(I:Ζ)(d:nj)(c:JV)(hv:JU=Δ)(h:Q u s)
  (b:EZ:=by decide) (hd:jj:=by decide):a35:=by
 rw[gj mb f e I.mod.blt (a34 d (Calls.loadGlobal_builtin (Ć PU aIs) c (Ć I.ok.blt (f.keeps I.bk)) (Ų (e x b) hv) h) hd)]
theorem bqI(b:nj)(a:yl=Δ)(r:cu)(hd:jj:=by decide):PV pos (tC v):=
 PR (aWU I b a aIr hd)
theorem aWV(c:nj)(b:JV)(hv:JU=Δ)(r:cu)(a:EZ:=by decide)(hd:jj:=by decide):PV pos (tC v):=
 PR (aEa I c b hv aIr a hd)
variable {a b:Expr} {ta tb:TE} {pos:Pos}
def tB(t:TE):TT:=Bg x (∃c,x=.bl c/\Q c H1)
def bCR(t u:TT):TT:=Bg c (ym c (u σ H1 Q) (Q ă H1))
def bCS(t u:TT):TT:=Bg c (ym c (Q true H1) (u σ H1 Q))
def bCT(t:TT):TT:=Bg c (Q (!c) H1)
theorem bCU(g:PX d):Xf [a] d:=by
 rw[asm wh b (isTrue_and a36)];cases c with
 | true=>exact isTrue_and_nil e
 | ă=>exact e
theorem bCV(g:PX d):Xg [a] d:=by
 rw[asm wh b (isTrue_or a36)];cases c with
 | ă=>exact isTrue_or_nil e
 | true=>exact e
theorem bqJ{rest:aE}(n:PX g)(m:Xf asn e):Xf (a::asn) (bCR g e):=by
 rw[asm l d (isTrue_and a38)];cases c with
 | true=>exact a37
 | ă=>rw[υ k j i]
theorem bqK{rest:aE}(n:PX g)(m:Xg asn e):Xg (a::asn) (bCS g e):=by
 rw[asm l d (isTrue_or a38)];cases c with
 | true=>rw[υ k j i]
 | ă=>exact a37
theorem bCW(e:PX c):PT X aso (bCT c):=by
 rw[ji b d];exact isTrue_not (e b s d H _ I h)
theorem bqL(h:q9 t):PE X (E1 op [a]) t:=fun b s c H Q I d=>BoolOp_one (h b s c H Q I d)
def bCX(t:TT)(ta tb:TE):TE:=Bg c (ym c (ta σ H1 Q) (asp Q))
theorem bqM(l:PZ g)(n:PY)(m:Xh):PE X asq (bCX g ta tb):=by
 rw[cD e f Q (wpAny_IfExp a39)];cases d with
 | true=>exact n e s1 f k Q j i
 | ă=>exact m e s1 f k Q j i
universe E_
def DW(K:ĝ)(H:Hp)(a:Addr)(xs:Ŕ):Prop:=
 Jy qR \/
  a4a
def VF(K:ĝ)(H:Hp)(a:Addr)(xs:Ŕ):Prop:=
 Jy A8 \/
  ∃(o:Obj) (sU:jd) (n:Nat),iw a=ĕ/\arL/\iu=.seq sU n/\a4b
def bCY:ě->EF
 | Ġ=>ā .ę
 | je b=>ā o5
 | ĭ _=>ā ĭ
 | ő _=>ā ő
 | .bytes b _=>ā (.ade b)
 | .float b _=>ā (.adf b)
 | Ŝ=>ā Ŝ
 | Ì n=>ā (.ty n)
 | _=>none
theorem RelV.abs(r:A5):bCY u=bI:=by
 cases x with
 | ę=>cases r;rfl
 | bl _=>cases r;rfl
 | int _=>rw[Xi];rfl
 | str _=>rw[Xi];rfl
 | ade _=>rw[Xi];rfl
 | adf _=>rw[Xi];rfl
 | ref _=>cases r;rfl
 | ty _=>cases r;rfl
theorem RelV.inj(r:A5)(q:pp):x=y:=dN (r.abs.symm.trans q.abs)
theorem Vals.inj(h:Js):yp a->xs=a:=by
 induction h generalizing a with
 | nil=>rw[E2 t];rfl
 | cons r _ d=>intro t;cases t with | cons c b=>rw[r.inj c,d b]
theorem gm{K:ĝ}(h:tQ a):JW:=ı (ı h)
theorem aff{K:ĝ}(h:bX a A8):yq K:=ı (ı h)
theorem Inv.list(I:qZ)(h:JX xs):∃b:Œ,A6 b/\PlainL Ĳ a afg/\Jx:=by
 rcases h with h | ⟨o,b,n,hk,hc,hd,hs,hz,r⟩
 ·rw[dO (ĩ z b n r e (h.ok cZ)) b r ⟨_,n,e,rfl,rfl,rfl⟩ z]
 ·rw[a4c ⟨o,n,aIt,hc,hd,Ł hs⟩];simp only[fF]at e;omega
theorem Inv.tuple(I:qZ)(h:yq X.K):∃b:Œ,A6 b/\afh a afg/\Jx:=by
 rw[a4d b]
 ·rw[dO (Ĩ z b r p (h.ok cZ)) b r p.tup z]
 ·rw[a4c ⟨o,aIt,hc.1,n,Ł hs⟩];simp only[fF]at e;omega
theorem Inv.bCZ(I:vG)(h:yq X.K):∃o,cC a=ĕ/\arL:=by
 rw[a4d d]
 ·obtain⟨z,d,r,o,e,c,_⟩:=h.ok cZ;exact⟨o,e,c.1,c.2⟩
 ·exact⟨o,aIt,hc.1,hc.2⟩
theorem Inv.bqN(I:vG)(h:JX xs)(h':JX g):xs=g:=by
 obtain⟨f,r,⟨o,n,e,_,_,d⟩,_⟩:=nr h;obtain⟨c,k,⟨o',n',i,_,_,j⟩,_⟩:=nr h';rw[aIu,a4e,P3 (r.inj k)]
theorem Inv.bqO(I:vG)(h:yq X.K)(h':asr a g):xs=g:=by
 obtain⟨f,r,⟨o,e,_,n,d⟩,_⟩:=pq h;obtain⟨c,k,⟨o',i,_,n',j⟩,_⟩:=pq h';rw[aIu,a4e,P3 (r.inj k)]
abbrev Cx.adh(X:Cx)(E:cF):Cx:={X with xe:=E}
abbrev Cx.bqP(X:Cx):Cx:=X.adh yi
theorem Cx.Ok.adh{X:Cx}(ok:X.Ok)(E:cF):(ass).Ok:=
 a4f
theorem Cx.Ok.adi{X:Cx}(ok:(ass).Ok):X.Ok:=
 a4f
theorem Inv.adh(I:Ζ)(E:cF):a4g:=aIl (I.ok.adh E) I.pin
theorem Inv.adi(I:a4g):Ζ:=aIl I.ok.adi I.pin
theorem SP.adi(h:SP ass b D f d):SP X b D f d:=by
 cases f with
 | next=>rw[aIv]
 | brk=>rw[aIv]
 | cont=>rw[aIv]
 | ret u=>rw[Ps v a c I r q h I.adi r q]
section
variable {X:Cx} {st:Stmt} {rest:List Stmt} {t u:TS} {e:Expr} {te:TE} {pos:Pos}
def bC0:TS:=JY (P4 H)
def bC1(t u:TS):TS:=JY (t a4h σ H)
theorem bqQ:nu [] bC0:=fun ζ ζ a H ζ I h=>ast ⟨a,H,I,h⟩
theorem VG(e:PS X st t)(d:nu rest u):nu (st::rest) (bC1 t u):=by
 rw[cD a c D (wpAny_execs_cons (χ (e a s c H a4h I h) f s1 q))];cases f with
 | next=>
  rw[Ĩ b i g q q];exact d a s1 b i D g q
 | ret v=>exact q
 | brk=>exact q
 | cont=>exact q
theorem Inv.quiet(I:Ζ):interactive Ó=ă:=by simp[interactive,JJ]
def bC2(te:TE):TS:=JY (afi (aS H1 (P4 H1)))
theorem aWW(d:Xj)(hs:asu e none J0 Ó=JZ:=by rfl):PS X (.Expr e pos) (bC2 te):=by
 intro a s b H D I h;exact wpAny_Expr_any (iA (aIw _ I h) v s1 x g f r1 c ⟨b,g,f,c⟩) I.quiet hs
def bC3(te:TE):TS:=JY (afi D.rt)
theorem anN(d:Xj):PS X (aIx e) (bC3 te):=by
 intro a s b H D I h;exact wpAny_Return_some (iA (aIw _ I h) v s1 x g f r1 c ⟨x,b,g,f,r1,c⟩)
def bC4(c:TT)(t u:TS):TS:=JY (c σ H fun b H1=>ym b (t D σ H1) (u D σ H1))
theorem bC5(l:PZ g)(n:nu a t)(m:nu b u):PS X (.If c a b pos) (bC4 g t u):=by
 rw[cD e f D (wpAny_If a39)];cases d with
 | true=>exact n e s1 f k D j i
 | ă=>exact m e s1 f k D j i
def bC6:TS:=tR
theorem anO:nu a bC6:=aIy
universe E_
abbrev TG:=V->St->PP St
abbrev VH:=Ŕ->St->PP St
def PG(X:Cx)(target:Expr)(t:TG):Prop:=
 ∀(pins:Ã) (s:Ĭ) (σ:St) (H:Hp) (v:V) (u:ě) (Q:yj),Ô->cu->t v σ H Q ->
  J1 (afj target u) _ s' (afb (Q mR H'))
def aWX(X:Cx)(ts:aE)(t:VH):Prop:=
 ∀(pins:Ã) (s:Ĭ) (σ:St) (H:Hp) (vs:Ŕ) (us:Œ) (Q:yj),Ô->vL->t vs σ H Q ->
  J1 (assignInOrder (asv ts) us) _ s' (afb (Q mR H'))
abbrev bqR:=a4i
def bqS(X:Cx)(t:bqR):Prop:=
 ∀(pins:Ã) (s:Ĭ) (σ:St) (H:Hp) (o i v:V) (ov iv u:ě) (Q:ni),Ô->RelV o ov->RelV i iv->cu->t o i v H Q ->
  J1 (aIz iv u) _ s' (∃H',PQ/\Q H')
abbrev aWY:=afk
def bqT(X:Cx)(op:E3)(t:aWY):Prop:=
 ∀(pins:Ã) (s:Ĭ) (σ:St) (H:Hp) (x y:V) (v u:ě) (Q:VK),Ô->yt->pp->t x y H Q ->
  vN (aIA v u)
def anP(i:Nat):TG:=fun v σ H Q=>Q afa H
theorem bC7(d:vK)(hi:qY)(b:EX)(c:EW:=by rw[ae9]):PG X (c_ pos) (anP i):=by
 rw[Xk a σ v u];exact a4j (aD8 I d hi b r (fun s' e=>⟨_,H,e,h⟩) c)
def bqU:VH:=fun vs σ H Q=>vs=[]/\Q σ H
def bqV(t:TG)(u:VH):VH:=fun vs σ H Q=>∃v r,vs=v::r/\t v σ H fun mR H'=>u r mR H' Q
theorem bC8:aWX X [] bqU:=by
 rw[Xk a b vs us,gn e h h e,Ż r (assignInOrder_nil ⟨b,H,I,h⟩)]
theorem bC9(i:PG X e t)(g:asw u)
  (hs:asv dW=afj e::asv es:=by rfl):aWX X dW (bqV t u):=by
 rw[gX (Xk a c vs us) v vr j h h];subst j;cases r with
 | cons r d=>
  rw[hs,eS (assignInOrder_cons (χ (i a s c H _ _ _ I r h) _ s1 ⟨b,l,k,f⟩)) (g a s1 b l _ _ Q k d f)]
def bqW(K:ĝ)(n:Nat)(t:VH):TG:=a4k (yq K)
theorem bqX(y:bG)(h:asw t)
  (w:asx=n:=by rfl) (f:aIB:=by rfl):a4m (bqW X.K n t):=by
 intro c s i H v u Q I r d;rw[gp (Š a j z p x d d) (fG z (Ţ r (Ĩ l g ht hz (pq p)))) (assign_Tuple_tuple (iB y) ht (by simp[w,←x,E4]) f (Ĝ h' m))];exact a4l (m b o (vO e) e) (Ł g) d
def bDa(to ti:TE)(t:bqR):TG:=fun v σ H Q=>to σ H fun o H1=>ti σ H1 fun i H2=>t o i v H2 fun H3=>Q σ H3
theorem bDb(m:J2 d)(hi:PE X i e)(hs:bqS X t)
  (n:∀v,afj (asy pos) v=(do
   let ov ←E5 [v] (bZ o)
   let b ←E5 [v,ov] (bZ i)
   asz pos
   E5 [v,ov,b] (aIz b v)
   release [v,ov,b] []):=by rw[Xl]):PG X (asy pos) (bDa d e t):=by
 rw[gq (Xk a c v u) n (iC (yk (m a s c H _ I h) ov x C z l)),lZ (iC (χ (hi a s1 c C _ z l) b f ⟨y,B,w,g,k⟩)) (afl (ĵ (iC (χ (hs a f c B x y v ov b u _ w r1 g r k) _ s3 ⟨A,p,j⟩))))];exact wpAny_release ⟨c,A,p,j⟩
def aEb(te:TE)(g:TG):TS:=JY (afi fun x H1=>g x σ H1 D.nx)
theorem bqY(i:fH c)(f:PG X tg g)(hs:swapsWithSole [tg] e J0 Ó=JZ:=by rfl)(hw:aIC [tg] e Ó=pure none:=by rfl)
  (j:asv [tg]=[afj tg]:=by rfl):Bh tg e (aEb c g):=by
 rw[cD a b D (wpAny_Assign_stores (yk (i a s b H _ I h) v x l k d) hs hw),Ĉ j (dH (f a s1 b l x v _ k r1 d) fun ζ s2 q=>q)]
theorem aWZ(k:vK)(hi:qY)(f:EX)(j:fH b)(hs:Xm e asA=JZ:=by rfl)(g:EW:=by rw[ae9]) :
  Bh asA e (aEb b (anP i)):=by
 rw[cD a c D (wpAny_Assign_Name (yk (j a s c H _ I h) v y n m d) hs)];exact aD8 m k hi f r1 (fun s2 l=>⟨_,n,l,d⟩) g
def bDc(i:Nat)(te:TE)(ti:aWY):TS:=JY (∃x,ŋ σ bI/\afi fun y H1=>ti x y H1 fun z H2=>D.nx (Xn (ā z)) H2)
theorem bDd(O:vK)(hi:qY)(j:EX)(N:fH p)(F:bqT X op o)(M:EW:=by rw[ae9]) :
  PS X (afm asA op e pos) (bDc i p o):=by
 intro a s n H D I h;rw[Ŷ v P h h (Ė m J L pf)];have g:W0:=by rcases j with k | k;rw[ŝ k,tU k]
 rw[ľ (Ė u r l (L i x v hi P g)) (wpAny_AugAssign_Name ?_)];have A:J1 (bZ e) w f (gY (aIA u w) (fun r d=>gY (aIm r) (ű (SP X a D Pb)) X.xe d) X.xe f):=by
  rw[q5 (yk (N a s n H _ I h) w y W S E) (χ (F a s1 n W v y u w _ S r r1 E) z s2 ⟨zv,U,R,B,C⟩)];exact aD8 R O hi j B (fun s3 Q=>⟨_,U,Q,C⟩) M
 rcases l with⟨b,K⟩ | ⟨b,c,hc,aD9⟩
 ·exact a32 b J K A
 ·rcases b with b | b
  ·exact aIp b hc aD9 A
  ·rcases j with k | k
   ·rw[a4n]
   ·rw[a4n]
def bDe(f:aID):aWY:=asB (yu E6)
theorem bDf:bqT X .Add (bDe fun i j=>i+j):=by
 rw[vP a y u r1 b,ĩ i j d c q h,fG d (ş c (ň t rfl r1 (nv t' b (iadd_int Xo))))]
def bDg(c:TT)(tb:TS):TS:=fun D σ H=>∃W:Nat->yj,(∃m,W m σ H)/\∀m σ H,W m σ H ->
 c σ H fun b H1=>ym b (a4p (W m' mR H') (a4o σ H1)) (P4 H1)
theorem bDh(x:afn)(L:PZ u)(M:P6 w):PS X a4s (bDg u w):=by
 intro d s C H D I h;obtain⟨W,⟨K,E⟩,g⟩:=h;refine wpAny_While (codeAny_whileLoop (fun n J=>∃e B,eT d e B J/\W n e B) ?_ K ⟨C,H,I,E⟩);rintro n s1 ⟨aEc,H1,I1,w1⟩;refine P5 x (χ (L d s1 aEc H1 _ I1 (g n aEc H1 w1)) b F ⟨A,z,k⟩);cases b with
 | true=>
  rw[ľ (Ŷ N y k k jb) (P5 x (χ (M d F aEc A _ z k) f s3 j))];cases f with
  | next=>
   rw[a4r];exact a4q
  | cont=>
   rw[a4r];exact a4q
  | brk=>exact j
  | ret v=>exact j
 | ă=>
  rw[E7 vQ (ast ⟨aEc,A,z,k⟩)]
structure It where
 go:Nat->ni
 AJ:Nat->Hp->V->ni
 stop:Nat->ni
def bqZ(X:Cx)(pins:Ã)(H:Hp)(b:Addr):Prop:=
 eO/\WX/\arZ/\(aIj b)/\(WW b)/\ae6 aH5 b
theorem Inv.u_(I:Ζ)(d:Ģ<=b)(g:Jz b):E8 a H' b:=by
 refine⟨g,vT (tI I.lt d),I.bCL d,ķ (û I.sz d),ń x c e z,ġ p f z⟩
 ·rw[ň v q Pz (aHT q.lt (Ć z d))]
 ·rw[ae2 (ER f).1 (Ć z d)]
structure Turn(P:aB)(w:ņ)(K:ĝ)(tg:Expr)(J:It)(fp:Ň)(it:Addr)(tn:tV):Prop where
 mem:it∈fp
 obj:∀i h,tn i h->P9 (∃o,yf/\Xq iu)
 keep:∀i h h',tn i h->(P9 (Xp b vF))->tn i h'
 item:∀(X:Cx),de=P->X.w=w->X.K=K->bG->∀(i:Nat) (pins:Ã) (s:Ĭ) (σ:St) (H:Hp) (E:cF),Ô->(afo pins)->tn i Ĳ->asE ->
  a4t (fun r s1=>∃u,r=Δ /\
   afq X.A (asD tg J3 u) (aS s2 (∃x H',P8 H' s2/\A5/\afp/\tn ö asC/\lU b fp (H' b))) E s1) E s
 done:∀(X:Cx),de=P->X.w=w->X.K=K->bG->∀(i:Nat) (pins:Ã) (s:Ĭ) (σ:St) (H:Hp) (E:cF),Ô->(afo pins)->tn i Ĳ->aIE ->
  a4t (fun r s1=>r=none/\P8 H s1) E s
 self:∀(A:bJ) (i:Nat) (s:Ĭ) (Q:cF) (E:cF),tn i Ĳ->Q J3 s->J4 (P7 J3)
abbrev TI:=St->PP It
def bq0(X:Cx)(pins:Ã)(σ:St)(tg:Expr)(R:asF)(aW0:ě)(s2:Ĭ):Prop:=
 ∃(it:Addr) (fp:Ň) (tn:tV) (J:It) (H':Hp),aW0=ċ it/\P8 H' s2/\a4u/\tn 0 asC/\(afr fp pins H')/\R J H'
def PI(X:Cx)(tg iter:Expr)(wi:TI):Prop:=
 ∀(pins:Ã) (s:Ĭ) (σ:St) (H:Hp) (R:asF),Ô->wi σ H R ->
  J1 (bZ iter) v s1 (gY (P7 v) (bq0 X pins σ tg R) X.xe s1)
theorem bq1(b:cC it=ĕ)(d:J5=Ì n)(hd:iu=Ju)
  (c : a4v n=ă) (a:Q () s):JR (asD tg J3 u):=by
 unfold asD;cases tg<;>first
  | rw[q_ a]
  | (cases u<;>first
    | rw[q_ a]
    | (rw[ż (wpAny_load b ?_),d,hd];show JR (Bj (a4v n&&vs[0]? == Ε) _ _);rw[Ř (by intro h;rw[c,aIF]at h;cases h),q_ a]))
def aW1(K:ĝ)(a:Addr):It:=
 (a4w JW)
def aW2(K:ĝ)(a:Addr):It:=
 (a4w (yq K))
def anQ(lo:Int)(n:Nat):It:=aIG n x (x=ć (lo+i))
theorem bDi{K:ĝ}(a it:Addr):afs tg (aW1 K a) (aIJ it a i) where
 mem:=Ğ
 obj:=fun i h st b f=>by
  rw[PH f];rw[asI]
 keep:=a4D
 item:=by
  rw[a4C];rw[a4z,gf a4B (a4A st asG (Ł hu) (ġ R g W)) (asH g u x f W O N M L J Y (cG (l_ ys hy (I.bqN hy l) y)) (m b f))]
 done:=by
  rw[aII,Ŷ U l y B a4z,aIH];have hl:=n.length;exact a4y (iB Q) st asG E9 a4x
 self:=J6 (wpAny_pyIter_listiter st h)
theorem bDj{K:ĝ}(a it:Addr):afs tg (aW2 K a) (aIK it a i) where
 mem:=Ğ
 obj:=fun i h st b f=>by
  rw[PH f];rw[asI]
 keep:=a4D
 item:=by
  rw[a4C];rw[a4E,gf a4B (wpAny_pyNext_tuple_item st (p) (Ł hu) (ġ R g W)) (asH g u x f W O N M L J Y (cG (l_ ys hy (I.bqO hy l) y)) (m b f))]
 done:=by
  rw[aII,Ŷ U l y B a4E,aIH];have hl:=n.length;exact wpAny_pyNext_tuple_end (iB Q) st (p) E9 a4x
 self:=J6 (wpAny_pyIter_tupleiter st h)
theorem bDk{K:ĝ}(it:Addr)(lo:Int)(n:Nat):a4K (anQ lo n) lo 1 where
 mem:=Ğ
 obj:=fun i h st b a=>by
  rw[PH a];exact⟨_,st,fun v z=>by
   have F:=z;cases F⟩
 keep:=a4J
 item:=by
  rw[asJ,a4I lo 1];refine τ _ (a4H (lo+i) a);rw[Int.mul_one]
 done:=by
  rw[asJ];exact a4G
 self:=a4F
def bDl(K:ĝ)(tl:TE):TI:=a4L (DW K H1 a xs) (aW1 K a)
def bDm(K:ĝ)(tl:TE):TI:=a4L (VF K H1 a xs) (aW2 K a)
theorem bq2(m:PE X l f):yv l (bDl X.K f):=by
 rw[gp a4P (a4O (d.list k)) (J7 asG ?_),a4N (bDi a _)];exact a4M
theorem bDn(m:PE X l f):yv l (bDm X.K f):=by
 rw[gp a4P (a4O (d.tuple k)) (asK (p) ?_),a4N (bDj a _)];exact a4M
theorem bq3{lo:Int}(I:Ζ)(i : vU<=lo)(h:lo<2^62)(g : vU<=hi)(f:hi<2^62)
  (q:R (anQ lo a4R) H):a4T a 1:=by
 rw[a4S (small_one i h g f) c a 1];refine⟨(Xr 1),[Xr 1],_,_,H,rfl,
  c.kept (t':=tk) Bk,bDk _ lo a4R,?_,Ĝ b d,q⟩
 ·have k:lo+J8*1=lo:=Ğ;rw[a4Q j hi lo 1 rangeSize_one _,k,j];exact cw
 ·rw[P_ b (Xr 1) d];exact c.u_ Ķ aIL
def bDo(ta:TA):TI:=fun σ H R=>J9 vs (∃j:Int,vs=[aj] /\ vU<=j/\j<2^62/\R (anQ 0 asL) H1)
def bDp(ta:TA):TI:=a4U (dg i j) (anQ i aIM)
theorem bDq(l:Xu)(k:Xs)(m:PA X [a] d)(hs:Bl [a]=[vV a]:=by rfl):asM [a] (bDo d):=by
 rw[aft b f l k aIN (m pos b s f H _ I h) vs H1 n r1 c hs rfl,ĩ j e c i q c];subst e;cases r1 with
 | cons r g=>
  rw[Ţ g (nv t r (call_range_1 (bq3 n Ă Ă c i (Ł q))))]
theorem bDr(w:Xu)(v:Xs)(x:PA X kr k)(hs:Bl kr=[vV a,vV b]:=by rfl)(d:Bl [b]=[vV b]:=by rfl) :
  asM kr (bDp k):=by
 rw[aft c l w v aIN (x pos c s l H _ I h) vs H1 y r1 g (ŷ hs d) (Η d)];obtain⟨i,j,e,⟨g,u,o,n⟩,q⟩:=g;subst e;cases r1 with
 | cons r f=>
  cases f with
  | cons m f=>
   rw[Qa f t r (nv t' m (call_range_2 (bq3 y g u o n q)))]
def bDs(wi:TI)(g:TG)(tb:TS):TS:=fun D σ H=>wi σ H fun J H1=>∃W:Fa yj,(∃m,W 0 m σ H1)/\∀i m σ H,W i m σ H ->
 (aIE/\P4 H)\/(asE/\a4p (W ö m' mR H') (∀x H',afp->g x σ H' fun VI H2=>a4o VI H2))
def anR(fp:Ň)(h:Heap):Ã:=fp.filterMap fun b=>Ĥ EK o (b,o)
theorem bDt(a:b∈fp)(e:yf):(b,o)∈anR fp h:=a4V ⟨b,a,Η e⟩
theorem bDu(a:p∈anR fp h):p.1∈fp/\vW p.1=Fb:=by
 rw[Ė b c e (aIO a)];cases q:EK with
 | none=>rw[dP q]
 | some o=>
  rw[ς q e d (dN e),Bc d c q]
theorem Inv.pinned(I:Ζ)(i:afo a)(h:P9 (∃o,tM/\Xq iu)):jg (a++anR fp Ĳ):=
 I.anM fun p g=>(asb g).elim (fun z=>ER (tX z)) fun z=>by rw[đ c e (bDu z),tW l k j (i p.1 c),rf o f d (h p.1 c) e];exact⟨e,l,k,j,d⟩
theorem Inv.adj(I:jg (a++pl)):Ζ:=I.anM fun p b=>ER (tX (Bm b))
theorem bDv(L:afn)(hc:bG)(hi:yv l wi)(hg:PG X tg g)(p:P6 tb)
  (hs:∀x,asP l Ó x=pure x:=by rw[Xl]):PS X (.For tg l body [] pos) (bDs wi g tb):=by
 rw[cD c Y D (wpAny_For (aIP (hi c s Y H _ I h) aW0) hs)];obtain⟨it,M,Z,J,H2,e,I2,T,P,f2,W,⟨m0,w0⟩,E⟩:=h2;subst e;have k:∀{A:Hp},(lU b M (A b))->afr M c A:=fun hn b p=>⟨hn b p,(f2 b p).2⟩;refine codeAny_forLoop_any (fun n s'=>a4Y s' asf n) ?_ m0 ⟨0,Y,H2,I2,P,fun b p=>(f2 b p).1,w0⟩;rintro n s3 ⟨i,DX,H3,I3,anS,anT,w3⟩;rcases E i n DX H3 w3 with⟨F,qn⟩ | ⟨go,N,hN,step⟩
 ·rw[ĺ (P5 L (χ (a41 X c X.xe I3 (k anT) anS F) r s4 ⟨R,I4⟩)) (cA R (ast ⟨DX,H3,I4,qn⟩))]
 ·refine P5 L (χ (a40 X c X.xe I3 (k anT) anS go) r s4 ⟨u,R,h4⟩);subst R;refine P5 L (dH h4 (ġ ζ s5 B0));rw[a4Z C S U (k S),q5 (P5 L (χ (hg _ s5 DX H5 x u _ U r5 (step x H5 y5)) _ s6 ⟨O,H6,I6,q6⟩)) (P5 L (χ (p _ s6 O H6 _ I6 q6) f Q B))];have w:∀{a:St} {z:Hp},eT (c++anR M s5.heap) a z Q->N a z->∃m,m<n/\a4Y Q Q.heap m:=fun {a z} y K=>by rw[Ė m' hm w7 (hN a z K)];refine⟨m',hm,i+1,a,z,y.adj,asO C p a4X.1,Ĝ b p,w7⟩;rw[Fe o e d (asN C b p) a4X.2.1]
  cases f with
  | next=>rw[a4W]
  | cont=>rw[a4W]
  | brk=>rw[dO (Ĩ a z y B B) a z y.adj B]
  | ret v=>rw[Ps x7 a z y r7 B B y.adj r7 B]
abbrev R2:=afk
def aEd(X:Cx)(f:ě->aIQ)(r:R2):Prop:=
 ∀(pins:Ã) (s:Ĭ) (σ:St) (H:Hp) (x y:V) (v u:ě) (Q:VK),Ô->yt->pp->afu ->
  vN (f v u)
def aW3(X:Cx)(f:aIQ)(r:V->PN):Prop:=
 ∀(pins:Ã) (s:Ĭ) (σ:St) (H:Hp) (x:V) (v:ě) (Q:VK),Ô->yt->r x H Q ->
  vN (f v)
def bq4(X:Cx)(f:ě)(r:Xv):Prop:=
 ∀(pins:Ã) (s:Ĭ) (σ:St) (H:Hp) (xs:Ŕ) (us:Œ) (Q:VK),Ô->Js->r xs H Q ->
  vN (call f us)
def bDw(X:Cx)(r:V->PP Bool):Prop:=
 ∀(pins:Ã) (s:Ĭ) (σ:St) (H:Hp) (x:V) (v:ě) (Q:Xb),Ô->yt->r x H Q ->
  gY (truthy v) ash X.xe s
def adk(r:R2)(ta tb:TE):TE:=Ş σ (J9 x (asp fun y H2=>r x y H2 Q))
def aW4(r:V->PN)(ta:TE):TE:=Ş σ (J9 x (r x H1 Q))
def rI(C:Int->Ž Int)(g:Int->Int->V):R2:=asB (C i j/\asQ)
def aW5(g:Int->Int->V):R2:=asB asQ
def rU(g:Int->V):V->PN:=Ş x (∃i,x=ĭ/\Q (g i) H)
theorem aW6(w:q9 l)(r:vM k){R:V->V->ni}(I:qZ)
  (h:l σ H fun x j=>k σ j a30)  {f:ě->aIQ}
  (p:a3Z) :
  a3Y:=by
 rw[q5 (yk (w c s σ H _ I h) v x j A o) (χ (r c s1 σ j _ A o) u i ⟨y,d,z,m,n⟩)];exact p v u i x y d z r1 m n
theorem bq5(k:Bn op r)(m:q9 e)(l:vM d):PE X (afv op pos) (adk r e d):=by
 rw[ji c f];exact wpAny_BinOp (aW6 m l I h fun v u g x y o n j i q=>k c g f o x y v u Q n j i q)
theorem bDx(f:aW3 X (unaryOp op) r)(g:q9 d):PE X (aIR op) (aW4 r d):=by
 rw[ji b c];exact UnaryOp_ (iA (g b s c H _ I h) v s1 x j i r1 e (f b s1 c j x v Q i r1 e))
theorem aEe{g:aID}
  (a:aIU (C i j->a42)) :
  Xx (rI C (afw Xw)):=by
 rw[aIT,Bo (Š i j rfl rfl k q h) t e (nv c d (aIS k Xo))]
theorem bDy{g:aID}
  (a:aIU a42) :
  Xx (Qc Xw):=by
 rw[Qb aIT i j rfl (ň t rfl e (nv c d (aIS Xo)))]
theorem bDz{g:Int->ſ Int}
  (a:aIU (Q (je Xw) s->a43)) :
  Xx (afx Xw):=by
 rw[Qb aIT i j rfl (ň t rfl e (nv c d (aIS (ac ny H I q))))]
def bDA(i j:Int):Prop:=a44
def aW7(i j:Int):Prop:=(asR<i/\i<2^64)\/(asR<j/\j<2^64)
theorem aW7.ok(h:aW7 i j):IntMulOk i j:=by
 rw[aIV h b a]
 ·exact .of_left a45
 ·exact .of_right a45
theorem bDB(k:Nat):yw<=2^k:=by
 rw[Ĉ two_pow_cast (pu _)]
theorem bDC:afz .Add (i+j):=afy (add_int q)
theorem bDD:afz .Sub J_:=afy (sub_int q)
theorem bDE:Bn .Mod a46:=aEe fun i j ζ ζ ζ ζ ζ a q=>by
 have h1:=a;exact mod_int' Ă (Ć (Int.fmod_eq_emod_of_nonneg i Ă) q)
theorem bDF:Bn Xy a48:=a47 (lshift_int_small a.1 a.2.1 a.2.2 q)
theorem bDG:Bn asS a5a:=aEe fun i j ζ ζ ζ ζ ζ a q=>
 rshift_int a (a49 (bDB _))
theorem bDH:afz Xz (yx i j):=afy (and_int q)
theorem bDI:afz XB (XA i j):=afy (or_int q)
theorem bDJ:afz afB (afA i j):=afy (xor_int q)
theorem bDK{g:Int->Int}
  (a:∀(i:Int) (t:Tok) (s:Ĭ) (Q:cF) (E:cF),Q (ć (g i) f_) asU -> gY (f Jr) Q E s) :
  aW3 X f (rU fun i=>ć (g i)):=by
 intro b s σ H x v Q I c h;rw[Ŷ i rfl q h (đ t rfl c)];exact a i t s _ _ (asT (g i))
theorem bDL:aW3 X (unaryOp .USub) (rU fun i=>ć (-i)):=bDK (asV q (neg_int q))
section
variable {X:Cx} {a b c:Expr} {ta tb tc:TE} {pos:Pos}
theorem bq6{a:Ã}{b:Bool}(I:Ζ)(q:Ff k)(e:k=b):XC a Q (je b) s:=by
 rw[eN e (ac (.bl k) H I q)]
theorem bDM:yy .Lt (afx (ü i j)):=asW (lt_int q)
theorem bDN:yy .LtE (afx (aq i j)):=asW (le_int q)
theorem bDO:yy .Gt (afx (ü j i)):=asW (gt_int q)
theorem bDP:yy .GtE (afx (aq j i)):=asW (ge_int q)
theorem bDQ:yy .Is (pv (y=.ę/\Ff (bF x .ę))):=by
 rw[vP b y u a c,đ rfl q h];cases c;refine is_none_gen (bq6 I q ?_);cases x<;>first
  | (cases a;rfl)
  | (rw[đ t rfl a];rfl)
theorem bDR:yy .IsNot (pv (y=.ę/\Ff (!bF x .ę))):=by
 rw[vP b y u a c,đ rfl q h];cases c;refine isnot_none_gen (bq6 I q ?_);cases x<;>first
  | (cases a;rfl)
  | (rw[đ t rfl a];rfl)
theorem aEd.or(h:Xx r)(h':Xx e):Xx (pv (afu\/e x y H Q)):=by
 intro a s b H x y v u Q I d c q;rw[vX q]
 ·exact aIW x y v u Q I d c q
 ·exact h' a s b H x y v u Q I d c q
theorem bq7(i:asY)(l:PY)(k:Xh)(j:aIY=ă):PE X asX aIX:=by
 rw[ji c d];exact wpAny_Compare1 (aW6 l k I h fun v u e x y n m g f q=>i c e d n x y v u Q m g f q) j
def bq8(t:TE):TT:=Ş σ (JT fun x H'=>∃k,x=.bl k/\Q k H')
theorem bq9(o:asY)(A:PY)(w:Xh)(p:aIY=ă):PT X asX (bq8 aIX):=by
 rw[ji d f];refine wpAny_isTrue_Compare1 (dH (A d s f H _ I h) fun v s1 ⟨x,K,E,r1,n⟩=>dH (w d s1 f K _ E n) fun u g ⟨y,J,C,j,m⟩=>
  χ (o d g f J x y v u _ C r1 j m) c s3 B0) p;rw[gZ z F B i k e l B0]
 rw[ş e (Ż i (XD ⟨F,B,l⟩))]
def bra(r r':R2)(ta tb tc:TE):TE:=fun σ H Q=>ta σ H fun x H1=>asp fun y H2=>r x y H2 fun z H3=>∃k,z=.bl k /\
 (ym k (tc σ H3 fun w' H4=>r' y w' H4 Q) (Q rg H3))
theorem bDS(N:asY)(j:yy g m)(S:PY)(R:Xh)(P:PE X c tc)
  (O:aI0 g=ă:=by rw[aIZ]):PE X (asZ g) a5c:=by
 rw[ji f i];refine Compare_chain (dH (S f s i H _ I h) fun v s1 ⟨x,H1,Y,r1,M⟩=>chain_link (dH (R f s1 i H1 _ Y M) fun u E ⟨y,H2,W,l,L⟩=>
  χ (N f E i H2 x y v u _ W r1 l L) d C B0)) O;rw[a5b J];cases J;refine XD ?_;cases k with
 | ă=>exact ite_ff (ac rg p o n)
 | true=>exact ite_tt (chain_last (iA (P f C i p _ o n) A B w Z U F K (j f B i Z y w u A Q U l F K)))
theorem bDT(R:asY)(j:yy g m)(Y:PY)(W:Xh)(U:PE X c tc)
  (S:aI0 g=ă:=by rw[aIZ]):PT X (asZ g) (bq8 a5c):=by
 rw[ji f i];refine isTrue_chain (dH (Y f s i H _ I h) fun v s1 ⟨x,H1,I1,r1,O⟩=>test_link (dH (W f s1 i H1 _ I1 O) fun u E ⟨y,H2,I2,l,N⟩=>
  χ (R f E i H2 x y v u _ I2 r1 l N) d C B0)) S;rw[a5b K];cases K;refine XD ?_;cases k with
 | ă=>
  rw[Ŷ k' e' P n (Ż e' (ite_ff ⟨p,o,P⟩))]
 | true=>
  refine ite_tt (test_last (iA (U f C i p _ o n) A B w H4 I4 J M (χ (j f B i H4 y w u A _ I4 l J M) d' s5 B0)));rw[gZ z2 H5 I5 F k2 Z L B0,ş Z (Ż F (XD ⟨H5,I5,L⟩))]
def brb(K:ĝ)(x:V)(H:Hp)(k:Bool):Prop:=
 match x with
 | .ę=>k=ă
 | o5=>k=b
 | ĭ=>k=(i != 0)
 | ma=>ů ky/\k=((ky:Int) != 0)
 | .ade y=>ů y.size/\k=((y.size:Int) != 0)
 | eU=>(∃xs,aI2/\k = aI1)\/(∃xs,as0 p xs/\k = aI1)\/∃ρ,afC ρ/\k = !ρ.isEmpty
 | _=>tG
theorem bDU{a:Pk}{vs:ī (κ×ě)}(r:afD):(!vs.isEmpty) = !a.isEmpty:=by
 cases r<;>rfl
theorem bDV{a:Œ}(r:A6 a):(!a.toArray.isEmpty) = aI1:=by
 cases r<;>simp
theorem VJ:(Ka:Nat)<2^63:=ar7 Bp
theorem brc:bDw X (Ş x (afF H (Q k H))):=by
 intro z s σ H x v Q I j h;rw[jk k e q h (Ĕ hl VJ hs Bp)];cases x with
 | ę=>
  cases j;rw[EY c e (truthy_none aI3)]
 | bl b=>
  cases j;rw[EY c e (XD aI3)]
 | int i=>
  rw[đ t rfl j,EY c e (PySem.P.truthy_int aI3)]
 | str y=>
  rw[a5f ky,cA c (PySem.P.truthy_str Ă ⟨H,tY,q⟩)]
 | ade y=>
  rw[a5f y.size,cA c (PySem.W.truthy_bytes Ă ⟨H,tY,q⟩)]
 | ref p=>
  cases j;have c:=e;rcases c with⟨B,n,c⟩ | ⟨B,n,c⟩ | ⟨l,n,c⟩
  ·rw[a5e (nr n)];exact wpAny_truthy_list rj (rh (fI b_)) a5d
  ·rw[a5e (pq n)];exact truthy_tuple pl (rh (fI b_)) a5d
  ·subst c;obtain⟨A,E,u,r,m⟩:ů Ű/\_=ă/\∃u,KV l u/\s.heap.DictOf _ p u:=afE n;have g:=arJ r;exact wpAny_truthy_dict E m Ă ⟨H,tY,Ć (bDU r) q⟩
 | _=>exact(e).elim
theorem bDW(i:PY)(g:∀b,isTrue a Ó b=as1 b a.pos) :
  PX (Ş d (ta d H fun x e=>afF e (Q k e))):=by
 rw[ji c d];exact isTrue_plain (iA (i c s d H _ I h) v s1 x l j r1 f (brc c s1 d l x v Q j r1 f)) (g _)
theorem bDX:Bn .Add (pv (∃i j,x=tZ/\y=.str j/\ů (XE+Fg)/\Q aI4 H)):=by
 rw[vP a y u d c,Bo (Š i j rfl rfl e q h) t d (nv b c (add_str (fun b tk=>Bf aI4 q) e))]
theorem Kb(r:yp [x]):a5g:=by
 cases r with
 | cons r1 a=>rw[ψ a (τ _ r1)]
theorem vals2(r:yp [x,y]):a5h a:=by
 cases r with
 | cons r1 d=>
  cases d with
  | cons c b=>rw[ψ b ⟨_,_,rfl,r1,c⟩]
theorem bDY(d:bG):rm "max" (Ş b (∃i j,a5j (j>i))):=by
 rw[vY c b,ľ a5i (max_two_ints (iB d) (as2 _ ?_))];by_cases a:j>i
 ·rw[pw a a];exact ce
 ·rw[Fh,Fh];exact ce
theorem bDZ(d:bG):rm t4 (Ş b (∃i j,a5j (j<i))):=by
 rw[vY c b,ľ a5i (min_two_ints (iB d) (as2 _ ?_))];by_cases a:j<i
 ·rw[pw a a];exact ce
 ·rw[Fh,Fh];exact ce
theorem bD0:vZ jm (Ş a ((∃i,a=[ĭ]/\Q ĭ H)\/∃k,a=[.bl k]/\yu (rn k))):=by
 rw[as4,as3 h i rfl q k]
 ·rw[a5k];exact call_int_int ⟨ĭ,H,I,ce,q⟩
 ·rw[Ŷ u rfl r1 (Kb r) (Ż r1 (call_int_bool Xo))]
theorem bD1:vZ jn (Ş a (∃i,a=[ĭ]/\as5<1920/\Q (.str (afG i)) H)):=by
 rw[gX as4 i rfl c q h,a5k];exact PySem.P.str_of_int c (Bf mh q)
universe E_
structure anU(h:Heap)(x dx C:Addr)(mA:bY):Prop where
 obj:vW x=ā (WS dx)
 ns:aHL
 ne:dx≠x
theorem bD2{h:Heap}(n:aHL):∃c,vW dx=ū/\∀name,as6 name c=ā as7:=by
 obtain⟨o,d,ep,g,hd,j,_,i⟩:=n;refine cY g (fA name);have e:=i name;unfold nsFind findBy at e;rw[←Array.find?_toList]at e;rw[t5 (š as6 hd)];split
 ·rw[v4 y q (Ļ q e (Wo e))]
 ·rename_i q;rw[q]at e;have a:a5l=ă:=by rw[aI5];intro y f;rw[Ė z t b (j y (Array.mem_toList_iff.mp f))];simp[DictEntry.refKey,b]
  have k:¬a5l=true:=Ć a vQ;rw[E7 k (Wo e)]
theorem anU.look(I:anU h x dx C mA):∃a,PySem.W.InstAt h x (WS dx) C aR/\∀name,as6 name a=ā as7:=
 let ⟨a,ho,hl⟩:=bD2 I.ns
 ⟨a,⟨I.obj,rfl,rfl,ho⟩,hl⟩
theorem get_map{K:ĝ}(X:XF)(I:aI8)(e:as8 name=true)(d:aI7=true)
  (f:Fi name=Kc) (hv:as7=j0) (b:a5m v=true) (h:Q v asU) :
  gr (getAttr (ċ x) name a):=by
 rw[gj od J c I.look (PySem.W.get_value X J (aI6 e).1 (PySem.W.findObj_own d f rfl (ŷ c hv)) b h)]
theorem bD3{K:ĝ}(X:XF)(I:aI8)(a:as8 name=true)
  (d:Fi name=Fj) (ht:as9) (hv:as7=none) (h:Q (v5,[ċ x]) s) :
  gr (aI9 (ċ x) name pl):=by
 rw[gj b J c I.look (PySem.W.method_fn X J (aI6 a).1 (aI6 a).2 d (bn ht) (by show lM (as6 name b)=nz;rw[c,hv];rfl) h)]
theorem bD4{K:ĝ}(X:XF)(I:aI8)
  (hs:a5p) (j:a5o=true) (ht:aJa K C name=Kc) (k:aI7=true)
  (hw:a5n i) (hsz:ů XE)
  (h:∀h',anU h' x dx C (fun y=>İ (y=name) nA (mA y))->Be dx h'->Q () (Bq s h' (f_+2))) :
  gr (setAttr (ċ x) name v):=by
 rw[jk od J hl I.look (ĺ (PySem.W.set_plain X J hs (PySem.W.osa_open X J j ht (fA b))) (aU (Ė cd l f (PySem.W.any_some k)) (t6 (ĵ (wpAny_loadPart I.obj (ĵ (PySem.W.Looks.here (PySem.W.looks_clsIn X l) ?_))))))),ľ f (t6 (Å (ĵ ?_))),ĺ (wpAny_nsSet1 I.ns (ġ h' c a)) (aU (Š oD m n d e g (c.count (PySem.Within.cons name v hw))) (wpAny_lookBehind d (Ć e (pastItsLine_dict (û g (Ä ŀ)))) ?_)),q_ (h _ ⟨lW a _ (iz I.ne) I.obj,c,I.ne⟩ a)]
theorem bD5{K:ĝ}(X:XF)(c:a5r=true)
  (hi:Fi EA = Fj) (e:PySem.W.typeIn K j9=ā (Ì "function"))
  (h:Qe prog w (a5q vs b) (ł j9 ⟨ċ jo::vs,b⟩) (PySem.W.InitBack jo R)
   (fE aJb)) :
  afH (ł Qd ⟨vs,b⟩) R s:=by
 rw[ĩ hh g d t os s];exact PySem.W.make_core (PySem.W.makes_of X c) (PySem.W.looks_findIn X hi) (fun a=>PySem.W.bind_fn X a e) ŵ h
def VL(f:Str)(v:V):Qf->Qf
 | []=>[(f,v)]
 | (g,x)::r=>a5s g
theorem brd(f g:Str)(v:V):∀fs:Qf,(atb).lookup g=İ (g=f) nA (Qg g)
 | []=>by
  show ata g [(f,v)]=_;by_cases h:g=f
  ·rw[afJ (afI h) Br]
  ·rw[afJ (bE h) EG]
 | (k,x)::r=>by
  rw[aJc b]
  ·rw[au (į b) h (g=k)]
   ·rw[afJ (afI h) (į (h.trans b))]
   ·rw[afJ (bE h) (Ř (fun e:g=f=>h (JP b.symm)))]
  ·rw[au (Ř b) h (g=k)]
   ·rw[afJ (afI h) (Ř (fun e:g=f=>b (h.symm.trans e)))]
   ·have a:=bE h;rw[mi ata a];exact brd f g v r
theorem aW8(f:Str)(v:V):∀fs:Qf,f∈vA atb/\∀g,g∈aJd->g∈vA atb
 | []=>⟨bg VL,fun g h=>Fm⟩
 | (k,x)::r=>by
  rw[ň c b (aW8 f v r) (aJc a)]
  ·rw[v6];rw[Bc a Ğ (fun g h=>Ł h)]
  ·rw[Fh,t7 ?_ g h]
   ·rw[Ĉ Ö (ť c)]
   ·rw[Ö]at h ⊢;rw[Fk h]
    ·exact a5t e
    ·exact ť (b g e)
theorem bre(f:Str)(v:V):∀fs:Qf,Ą atb<=aeO+1
 | []=>bg VL
 | (k,x)::r=>by
  have ih:=bre f v r;rw[aJc a]
  ·rw[v6,ŀ,ŀ];omega
  ·rw[Fh,ŀ,ŀ];omega
theorem atd(r:AH nA o):∃u,o=Δ/\cu:=by
 cases o with
 | none=>exact atc
 | some u=>exact τ u r
theorem AH.none_of(r:AH none o):o=none:=by
 cases o with
 | none=>rfl
 | some u=>exact atc
theorem bD6(r:cu):a5m u=true:=by
 cases v with
 | ę=>rw[afK]
 | bl b=>rw[afK]
 | int i=>rw[ate];rfl
 | str x=>rw[ate];rfl
 | ade b=>rw[ate];rfl
 | adf b=>rw[ate];rfl
 | ref a=>rw[afK]
 | ty n=>rw[afK]
theorem brf(b:qU)(e:afL):∃mA,anU h a dx C mA/\aHK/\a3t/\Î aeO/\Pp dx a:=by
 rw[Ø d z ne c mA n r q (show A9 arQ from b a _ e)];exact⟨mA,⟨c,n,ne⟩,r,q,z,d⟩
structure aW9(K:ĝ)(C:Addr):Prop where
 pg:as8 atf=true
 hd:aI7=true
 po:a5o=true
 sa:a5p
theorem aW9.get{K:ĝ}(c:Fn)(f:Str):as8 f=true:=c.pg
def aXa(K:ĝ)(C:Addr)(f:Str):Prop:=Fi f=Kc
theorem aXa.bD7{K:ĝ}(n:XG f):aJa K C f=Kc:=by
 rw[v_ aJa (bK (a5u _ f=Kc) n)]
structure Meth(K:ĝ)(C:Addr)(m:Str)(f:Addr):Prop where
 at_:Fi m=Fj
 fn:as9
 kp:atg
theorem brg(I:jg d)(e:afL)(c:Kd)(n:XH f)(l:Qg f=j0)
  (h:∀u g,W_ d g->cu->Q u g):afM (getAttr Ŝ f b):=by
 rw[a5v,gj u j i (atd (ŗ l (r f))) (get_map pz O (c.get f) c.hd n j (bD6 i) (h u _ tY i))]
theorem brh(I:vG)(e:afL)(c:Kd)(k:XI m g)(l:Qg m=none)
  (h:Q (ċ g,nB) s):afM (aI9 Ŝ m pl):=by
 rw[a5v];exact bD3 pz O (c.get m) k.at_ k.fn (AH.none_of (ŗ l (r m))) h
theorem bri(I:jg d)(e:afL)(c:Kd)(n:XH f)(hl:aeO<1000)(m:pp)
  (h:∀j,eT d σ (Fo a5w) j->Q () j):afM (setAttr Ŝ f u):=by
 obtain⟨mA,O,r,wi,_,k⟩:=brf cZ e;have p:ů (Ą aJd):=nC Ċ Bp;refine bD4 pz O c.sa c.po n.bD7 c.hd wi p fun B i l=>h _ ?_;have hd:∃o,B.get? dx=ĕ:=let ⟨o,_,_,e',_⟩:=i.ns;⟨o,e'⟩;refine ath (x:=a) (e:=dx) (Ć e t8) (ķ k) (fun b q w z=>lW l b w z) hd ?_;refine⟨nb O.ne k,?_,O.ne,i.obj,_,i.ns,fA g,Ĝ g v⟩
 ·rw[av (bre f y fs)]
 ·show AH _ _;rw[au brd q (g=f)]
  ·rw[pw q q];exact m
  ·rw[Bs,Bs];exact r g
 ·by_cases q:g=f
  ·rw[q];exact(aW8 f y fs).1
  ·refine(aW8 f y fs).2 g (wi g fun z=>v ?_);show(İ (g=f) Δ (mA g))=none;rw[Ĉ Bs z]
theorem Inv.made(I:qZ):atl (upd (afP (.own jo)) jo (afO Ģ []))
  (fE aJb):=by
 have d:(atk).get? Ģ=ā aJe:=XJ Ĳ rfl;have h:(aJb).get? jo=ā (WS Ģ):=by
  have:=XJ atk (o:=WS Ģ) rfl
  rwa [nE]at this
 have i:=I.laid (a:=Ģ) (o:=.own jo) (h':=atk) (t':=f_) (atj u) Ķ ⟨_,d⟩;refine i.laid (a:=wa) (o:=afO Ģ []) (t':=f_) (atj u) (aJf (nE _ _)) ?_;rw[mj ne (Ģ≠wa) ati ⟨ŷ (aK ne) Μ,cg,ne,h,afN,(Heap.Ns1.of_empty (⟨aJe,#[],_,d,rfl,(fun e g=>eV g Ğ),Qh⟩)).at fun o q=>aw q,ű t8,fun y f=>eV rfl f⟩]
theorem bD8(b:attributeBase e f env (Fp e)=Fp e)
  (h:atm e (fun o a=>iE (getAttr o f true) Q E a) E s):gr (Fp (Bt e f pos)):=
 Attribute_any_ h (ŷ arm_eval_Attribute b)
def bD9(K:ĝ)(ta:TE)(f:Str):TE:=Ş σ (J9 x (∃a C dx fs v,Bu/\H1 a=atn/\Fn/\XG f/\Qg f=j0/\Q v H1))
def bEa(K:ĝ)(ta tv:TE)(f:Str):TS:=fun D σ H=>tv σ H fun y H1=>ta σ H1 fun x H2=>∃a C dx fs,Bu/\H2 a=atn/\Fn/\XG f/\aeO<1000 /\
 P4 (upd H2 a a5w)
def brj(X:Cx)(op:E3)(rd:afk):Prop:=
 ∀(pins:Ã) (s:Ĭ) (σ:St) (H:Hp) (x y:V) (u v:ě) (Q:VK),Ô->A5->RelV y v->rd x y H Q->vN (aIA u v)
def bEb(K:ĝ)(ta tv:TE)(rd:afk)(f:Str):TS:=fun D σ H=>ta σ H fun x H1=>∃a C dx fs v,Bu/\H1 a=atn/\Fn/\XG f/\Qg f=j0 /\
 tv σ H1 fun y H2=>rd v y H2 fun z H3=>∃Ot aXb,H3 a=ā (afO Ot aXb)/\aXb.length<1000/\P4 (upd H3 a (afO Ot (VL f z aXb)))
theorem bEc(k:fH d)(m:Bv e f=bZ e):PE X (Bt e f pos) (bD9 X.K d f):=by
 rw[cD b g Q (bD8 m (Fq (k b s g H _ I h) u))];obtain⟨x,w,r,i,a,C,dx,fs,v,ex,o,c,n,l,q⟩:=B0;rw[Qi u i];exact brg r o c n l fun u' s2 p j=>⟨v,w,p,j,q⟩
theorem brl(p:J2 i)(hv:vM g)(hs:Xm b (Bt o f pos')=JZ):Bh (Bt o f pos') b (bEa X.K i g f):=by
 rw[cD d e D (plainObj_wpAny_Assign_Attribute (iA (hv d s e H _ I h) u s1 y A z j q (χ (p d s1 e A _ z q) ov s2 B0)) hs)];obtain⟨x,H2,w,k,a,C,dx,fs,ex,r,c,n,l,m⟩:=B0;rw[Qi ov k];exact bri w r c n l j fun s3 v=>⟨e,_,v,m⟩
theorem bEd(M:J2 m)(hv:vM k)(i:brj X op p):PS X (afm (Bt o f e) op b pos) (bEb X.K m k p f):=by
 rw[cD d g D (wpAny_AugAssign_AttributeAny (Fq (M d s g H _ I h) ov))];obtain⟨x,Z,W,E,a,C,dx,fs,v,ex,O,c,n,l,q⟩:=B0;rw[ľ (Qi ov E) (brg W O c n l fun u A U F=>iA (hv d A g Z _ U q) r w y Y S B K (χ (i d w g Y v y u r _ S F B K) w4 s4 B0))];obtain⟨z,H3,R,rz,P,N,j,L,J⟩:=B0;exact bri R j c n L rz fun s5 Q=>⟨g,_,Q,J⟩
def bEe:afk:=asB (yu (i+j))
theorem bEf:brj X .Add bEe:=by
 rintro a s σ H x y u v Q I c b ⟨i,j,rfl,rfl,q⟩;rw[dU t rfl c t' rfl b];exact PyProof.Rows.iadd_int (asT (i+j))
section
variable {X:Cx} {pins:List (Addr×Obj)} {σ:St} {H:Hp} {s:Shared} {A:Around} {E:Value->Shared->Prop} {Q:Value->Shared->Prop} {c:Value} {b:Bool}
inductive brm (K:ĝ) (H:Hp):V->Ž ě where
 | ę:Ke .ę Qj
 | bl (x:Bool):Ke (.bl x) we
 | int (i:Int):Ke ĭ jm
 | str (x:Str):Ke ő jn
 | adf (x:UInt64):Ke (.adf x) "float"
 | lst {a:Addr} {xs:Ŕ} (e:tQ a):Ke Ŝ Ò
 | oP {a:Addr} {o:Obj} {xs:Ŕ} (e:m_ a o qR):Ke Ŝ Ò
 | tup {a:Addr} {xs:Ŕ} (e:bX a A8):Ke Ŝ aC
 | dK {a:Addr} {ρ:ī (Key×V)} (e:wc arS):aJg ato
 | dT {a:Addr} {ρ:XN} (e:wc Pr):aJg ato
 | ins {a C dx:Addr} {fs:Qf} (e:afL) (cl:Fn) (ha:Fi "__class__" = ā (ā XM))
   (hn:PySem.W.specialIn K XM "__get__" = ā a5x) (bVP:PySem.W.takesIn K XM=dX)
   (hm:PySem.W.mroIn K C Wt=dX):aJg Qd
universe E_
structure lH(k:Nat)(A:bJ):Prop where
 hd:dh
 dp:XO+3*k+5<atp
 un:Kf+16*k+200<cLine
theorem lH.mono(r:Kg)(h:j<=k):lH j A:=⟨r.hd,bL r.dp,bL r.un⟩
theorem lH.deeper(r:lH ŕ A)(env:Env):XQ k env:=
 a5y
theorem bEg{A:bJ}:(atq).depth=XO+1:=by
 first | rfl | simp[aJi,Code.weight,Code.isCreation,Code.isGuard,Code.isCaller,Code.frames,aJh,guardIds]
theorem bEh{A:bJ}:(atq).units=Kf+1:=by
 first | rfl | simp[aJi,Code.cUnits,Code.frames,aJh]
theorem lH.make(r:lH ŕ A)(C:Addr)(us:Œ)(a:pA ě):lH k atq:=
 ⟨r.hd,aJj r.dp bEg,aJj r.un bEh⟩
theorem lH.depth(r:Kg):XO<atp:=bL r.dp
theorem lH.units(r:Kg):Kf+64<cLine:=bL r.un
def anV:TA:=Ş ζ (Q [] H)
def adl(ta:TE)(tr:TA):TA:=Ş σ (J9 x (tr σ H1 fun xs H2=>Q (x::xs) H2))
section
variable {X:Cx} {e:Expr} {es:List Expr} {te:TE} {t:TA} {pos:Pos}
theorem xQ:PA X [] anV:=fun ζ ζ ζ ζ H Q I h=>a5A a5z
theorem lI(k:Xj)(j:Fr es)(hs:Qk:=by rfl):PA X dW (adl te t):=by
 intro b a s c H Q I h;rw[hs];rw[yz,eS (a5B (yk (k a s c H _ I h) u x o m i)) (iA (j b a s1 c o _ m i) us s2 d n l f g ⟨x::d,n,l,ai r1 f,g⟩)]
def bEi(t:TA):TE:=Bg xs (Jx/\∀p,Ql p->Kh p H1 A8)
def bEj(t:TA):TE:=Bg xs (Jx/\∀p,Ql p->Kh p H1 qR)
theorem aEf(h:Fr es):PE X (t9 es x1 pos) (bEi t):=by
 intro a s d H Q I g;refine wpAny_Tuple_spliced a5D;refine a5C;exact⟨z,f,r,aeN cw qQ⟩
theorem bEk(h:Fr es):PE X (.List es pos) (bEj t):=by
 intro a s d H Q I g;refine wpAny_List_spliced a5D;refine a5C;exact⟨z,f,0,r,cw⟩
universe E_
abbrev Sp:=Ŕ->Hp->VK->Ž XK
abbrev VM:=ng->Hp->Ĭ->XK->cF
structure adm(P:aB)(w:ņ)(K:ĝ)(mg:bY)(base:Heap)(A:bJ)(Ï:ng)(s:Ĭ)(H:Hp):Prop where
 frames:A.frames=ā Ï
 mod:Mod K mg base
 bs:∀b o,aeT b=ĕ->tM/\eO
 IB:base.objs.size<=Ģ
 sV:ar6 base Ï
 oR:(∀b∈XR,eO)/\WV K H
 Ν:WT Ĳ
 bare:JH aev
def CE(Ï:ng)(P:aB)(w:ņ)(H:Hp)(s:Ĭ)(Q:VK)(u:ě)(s':Ĭ):Prop:=
 ∃v H',s'.os=s.os/\JH s'.gens/\Un XR [] H H' Ĳ asf/\Pv H' asf/\cu/\Xa
def CR(CX:VM)(Ï:ng)(P:aB)(w:ņ)(H:Hp)(s:Ĭ)(Q:VK)(E:XK)(r:Result)(s':Ĭ):Prop:=
 match r with
 | afQ u=>atr s'
 | .ok _=>tG
 | .error e=>aJk e s'
structure aEg(P:aB)(w:ņ)(K:ĝ)(mg:bY)(base:Heap)(CX:VM)(k:Nat)(f:Addr)(fd:yA)(ps:ğ)(sp:Sp):Prop where
 len:aJm (sp vs H Q E)
 run:∀(A:bJ) (Ï:ng) (s:Ĭ) (H:Hp) (args:Args) (us:Œ) (vs:Ŕ) (Q:VK) (E:XK),Kg->Fs->aJl fd args (Bw us)->vL->sp vs H Q E ->
  Qe P w A (ł j9 args) (CR CX Ï P w H s Q E) s
theorem adm.make{K:ĝ}(e:Fs)(C:Addr)(us:Œ)(a:pA ě) :
  aJn atq Ï s H:=⟨by first | exact e.frames | (simpa[aJi,Code.envs,aJh,pushEnvs]using e.frames),e.mod,e.bs,e.IB,e.sV,e.oR,e.Ν,e.bare⟩
theorem Inv.adn(I:Ζ):a5F X.A:=
 ⟨I.ok.frames,I.ok.mod,I.bs,W3 I.sz,I.stack,a5E,cZ,JO⟩
theorem Inv.after(I:Ζ)(h:CE kj de X.w H s Q u e):XC a Q u e:=by
 rw[Ø v k j c un i r q h,ĩ hh g d t f e];obtain rfl:f=s.os:=j;exact⟨v,k,I.call un i c (fun b z=>eV z Ğ),r,q⟩
def aXc(sp:Sp)(dvs:Ŕ)(E:XK)(t:TA):TE:=Bg vs (sp XS H1 Q E)
def bEl(C:Addr)(sp:Sp)(dvs:Ŕ)(E:XK)(t:TA):TE:=fun σ H Q=>JT fun vs H1=>∀x dx,Ql x->Ql dx->dx≠x ->
 a5G (upd H1 dx (.own x))
def Binds(K:ĝ)(fd:yA)(ps:ğ)(ds:Œ):Prop:=
 ∀(s:Ĭ) (us:Œ),XF->Ą Qm=bo->aJl fd afR (Bw Qm)
theorem Binds.all{K:ĝ}(h:∀us:Œ,aO=bo->XU fd afR=afS us):XT:=fun s us ζ a=>by
 rw[aN]at a ⊢;exact .of_eq (h us a)
def Passes(CX:VM)(X:Cx)(E:XK):Prop:=∀(pins:Ã) (σ:St) (H:Hp) (s:Ĭ) (e:ě) (s':Ĭ),Ô->CX kj H s E e s'->X.xe e s'
section
variable {X:Cx} {CX:VM} {k:Nat} {f C:Addr} {fd:FuncData} {ps:List Str} {sp:Sp} {dvs:List V} {ds:List Value} {E:XK} {x m:Str} {p pos apos:Pos} {e o:Expr} {es:List Expr} {ta:TE} {t:TA}
theorem aEh{pins:Ã}{σ:St}{H:Hp}{s:Ĭ}{Q:VK}{us:Œ}{vs:Ŕ}(F:atv)(hr:kF)(hb:afU)(hd:atu)(hx:att)
  (I:Ô) (r:vL) (h:sp XS H Q E):vN (ats us):=by
 have r2:Vals XS Qm:=afT hd;have hl:Ą Qm=bo:=ŗ r2.length (F.len _ _ _ _ h);refine Qo (wf (F.run X.A kj s H afR Qm XS Q E hr I.adn (hb s us pz hl) r2 h) (Qn hq));cases r with
 | Bx e=>exact hx pins σ H s e s' I hq
 | ok fl=>
  cases fl with
  | ret u=>exact I.after hq
  | next=>rw[eW hq]
  | brk=>rw[eW hq]
  | cont=>rw[eW hq]
theorem brn(F:atv)(hr:kF)(hg:nj)(hm:yl=ā j9)(hk:Qq f=true)(hb:afU)(hd:atu)(hx:att)
  (ha:Ft) (aEi:jj:=by decide) (he:Qk:=by rfl) (bro:Qp:=by rfl) :
  XV (aXc sp dvs E t):=by
 rw[a5I,eS (a5H hk) (aEh F hr hb hd hx I1 r q)]
structure Mk(K:ĝ)(C f:Addr):Prop where
 makes:a5r=true
 init:Fi EA = Fj
 fn:as9
 kp:afV K C=true
theorem bEm{pins:Ã}{σ:St}{H:Hp}{s:Ĭ}{Q:VK}{us:Œ}{vs:Ŕ}(M:Mk X.K C f)(F:atv)(hr:aJo)(hb:afU)(hd:atu)
  (hx:att) (I:Ô) (r:vL)
  (h:∀x dx,aQ x->aQ dx->dx≠x->a5G (qW dx (.own x))) :
  vN (call Qd us):=by
 rw[Ĕ hq (h jo Ģ (pj yC) By ati) I2 (Inv.made (C:=C) I)];have r2:Vals (V.ref jo::XS) (afW::Qm):=atw (afT hd);have hl:Ą (afW::us++ds)=bo:=(by rw[yB e r2.length (F.len _ _ _ _ hq) e.symm]);refine Qo (bD5 (f:=f) pz M.makes M.init (bn M.fn) (wf (F.run _ kj _ _ ⟨afW::us,[]⟩ (afW::Qm) _ _ E (hr.make C us [])
  (I2.adn.make C us []) (hb _ (afW::us) I2.Op hl) r2 hq) (Qn anW)))
 cases r with
 | Bx e=>exact hx pins σ _ _ e s' I2 anW
 | ok fl=>
  cases fl with
  | ret u=>
   rw[Š v H' I3 rv ev q3 (I2.after anW),Bc ev rv (ac (V.ref jo) H' I3 q3)]
  | next=>rw[eW anW]
  | brk=>rw[eW anW]
  | cont=>rw[eW anW]
theorem bEn(M:Mk X.K C f)(F:atv)(hr:aJo)(hg:nj)(hm:yl=ā Qd)(hb:afU)(hd:atu)(hx:att)
  (ha:Ft) (aEi:jj:=by decide) (he:Qk:=by rfl) (bro:Qp:=by rfl) :
  XV (bEl C sp dvs E t):=by
 rw[a5I,eS (a5H M.kp) (bEm M F hr hb hd hx I1 r q)]
universe E_
def PK(X:Cx)(bEo:Qr)(t:TA):Prop:=
 a3W (evalAll (nG (afX pos bEo Ó)))
theorem bEp:PK X [] anV:=fun ζ ζ ζ ζ H Q I h=>wpAny_evalAll_nil a5z
theorem bEq(m:fH f)(l:PK X b t):PK X (⟨nm,e,kpos⟩::b) (adl f t):=by
 intro c a s d H Q I h;rw[yz,eS (wpAny_evalAll_cons (ĵ (iA (m a s d H _ I h) u s1 x r o r1 k (ĵ (afl bq))))) (iA (l c a s1 d r _ o k) us s2 g p n i j ⟨x::g,p,n,ai r1 i,j⟩)]
structure bEr(N P:ğ)(sc:Ξ):Prop where
 kind:XW
 co:afZ
 gen:afY
 nd:ae7
 pre:Qt P.length=P
 par:∀x∈P,aeW\/tL=bh
 bEs:∀y∈pB,y.2 ≠ Qs
theorem brp:a5K (Ki b a m x)
 | [],_,_=>rfl
 | (n,v)::r,m,h=>by
  rw[š Ki (brp (jq w c))];split
  ·rw[a5J]
  ·rfl
theorem brq:a5K (Kj b a m x)
 | [],_,_=>rfl
 | (n,v)::r,m,h=>by
  rw[š Kj (brq (jq w c))];split
  ·rfl
  ·rw[a5J]
theorem brr:∀{P:ğ} {b:Œ} {i:Nat} {m:bY},P.Nodup->lV P->nH b->a x=ki ->
  Ki a atx m x=j0
 | [],_,_,_,_,h,_,_=>Fm
 | _::_,[],_,_,_,_,h,_=>Fm
 | p::P,w::b,0,m,e,d,c,f=>a5M (Ki a ((p,w)::atx) m p) Ki (brp a5L) (į f)
 | p::P,w::b,i+1,m,e,d,c,f=>XY (Ki a _ m x) (t_ Ki (brr (Fu e).2 (Ł d) XX f))
theorem brs:∀{P:ğ} {b:Œ} {i:Nat} {m:bY},P.Nodup->lV P->nH b->a x≠ki ->
  Kj a atx m x=j0
 | [],_,_,_,_,h,_,_=>Fm
 | _::_,[],_,_,_,_,h,_=>Fm
 | p::P,w::b,0,m,e,d,c,f=>a5M (Kj a ((p,w)::atx) m p) Kj (brq a5L) (Ř f)
 | p::P,w::b,i+1,m,e,d,c,f=>XY (Kj a _ m x) (t_ Kj (brs (Fu e).2 (Ł d) XX f))
def Fv(N:ğ)(vs:Ŕ):St:=vs.map some++Kk (fK - gR) none
def bEt(CX:VM)(P:aB)(w:ņ)(K:ĝ)(mg:bY)(base:Heap)(N:ğ)(qual:Str)(À:Ξ)(f:Addr)(cd:ě)(A:bJ)(Ï:ng)(s:Ĭ)(H:Hp)(E:XK):Cx where
 prog:=P
 w:=w
 K:=K
 mg:=mg
 base:=base
 A:=aty af0
 N:=N
 Oo:=s
 H₀:=H
 env:=af0
 Ï:=Ï
 stack:=af0::Ï
 ex:=[]
 calm:=true
 fn:=ű true
 pn:=[]
 xe:=fun e s'=>afq (aty af0) (leaving af0 e) (fun _ VN=>aJk e VN) (fun e' VN=>aJk e' VN) s'
theorem brt{sc:Ξ}(h:tL=bh):∃c,af1 (Fx n pB []):=by
 exact Fw (aJp pB n [] (ı h))
theorem bEu{K:ĝ}
  (S:X4 À) (hd:dh) (j:Fs) (hl:X3) (r:vL)
  (x:InCallC s Ģ (Ki (aJs d).kindOf (Bw us) afN) (aJt []) (Kj (aJs d).kindOf (Bw us) afN) s1) :
  Inv (af5 J d cd E) [] (Fv N vs) H s1:=by
 have M:bo<=fK:=rh (kR (Bz Km S.pre) mn);rw[Ĩ C tk rfl I x.done];have l:∀b:Addr,b∉(af5 J d cd E).ex:=af4 b z Ň;refine⟨⟨j.mod,X2,rfl,rfl,Ķ,Ý y z c C g,Ĝ y m,ń y c ζ h,ű hd,a5Q j.frames,ķ qQ,a5P,j.bs,j.IB,fun b ζ ζ=>l b,a5P,j.sV,j.oR⟩,
  rfl,j.bare,Pw I,⟨_,x.toInCall.ns,ES y v C g h3⟩,fun y c h=>⟨_,x.cell y c h⟩,aJq Ķ,ġ y c h,atC o,j.Ν.kept I,?_⟩
 ·exact name_of_addr x.apart (gu C) (gu g)
 ·rw[atB m m m]
  ·exact brt m
  ·rw[Ŗ rfl (S.bEs _ (gu m))]
 ·exact a5N
 ·have B:i<gR:=by
   rw[au (bH Fv g) B (i<gR)]
   ·exact B
   ·rw[X1 (Ł B)]at g;rw[gb aJr g (atA g)]
  have O:X0:=by
   rw[bH Fv g];rw[Fz (Ł B),Â]at g;cases e:vs[i]? with
   | none=>rw[af3]
   | some a=>rw[af3];rfl
  rw[Ė u F L (yD O)];have o:ŋ ps y:=(af2 S.pre (atz Ă) C);rw[a5O n L ?_];rcases S.par y (kJ o)with k | k
  ·rw[ŝ ⟨k,brr n o F k⟩]
  ·rw[pC c e (brt k) (ķ ⟨ı k,c,e,?_⟩),JD (x.cell y c e) (brs n o F (by show Fy y≠_;rw[k];decide))];exact q
 ·exact aJq a5N
 ·unfold Fv;show _=fK;rw[Ÿ,Ċ,XZ];omega
theorem bEv{K:ĝ}{kV U:ě}
    (lk:iw f=ā (Jl oc od a5T L)) (O:Qu K d a=true) (S:X4 À)
  (l:aJm (C vs H Q E))
  (j:∀(A:bJ) (Ï:ng) (s:Ĭ) (H:Hp) (vs:Ŕ) (Q:VK) (E:XK),XQ k (envOfC a À Ģ f d)->C vs H Q E ->
   a5V (af5 R a d E) body h) :
  a5U R ŕ f a5T ps C:=by
 refine⟨l,fun A Ï s H W Z vs Q E M z hb r m=>?_⟩;have hl:=l _ _ _ _ m;have Y:XF:=z.mod.aWR.keeps a5R;have i:∀y∈Bw Z,Fy y.1=ki\/(Fy y.1=bh/\WU ((aJt []).lookup y.1)):=fun ⟨n,v⟩ hy=>by
  rw[vX (S.par n (aJv hy).1)]
  ·rw[ŝ q]
  ·rw[Í ⟨q,aJp _ _ _ (ı q)⟩]
 rw[q5 (a5S M.depth (Y _ _ lk) (PySem.W.codeRec_of Y O) (hb _ _ _ _ ?_)) (wpAny_newFunctionEnv_cells X2 i (ń env he s1 x)),gp (Kn he ⟨(z.mod.nolimit.keeps a5R).keeps x.toInCall.keep,codeAny_func ?_⟩) (Ė t ht hq (j A Ï s H vs Q E (M.deeper _) m)) (lX (ht [] s1 (Fv N vs) H _ (bEu S M.hd z hl r x) hq) (ġ fl F hs) fun e F hs=>hs)];have p:∀{g:St} {h:Hp} {v:V} {u:ě},Inv (af5 R a d E) [] g h F->cu->Q v h->atr F:=
  fun {g h v u} J I q=>(aJu v h I q)
 cases fl with
 | ret u=>
  rw[Š v g h J I q hs];exact p J I q
 | next=>
  rw[Ĩ g h J q hs];exact p (v:=V.ę) J rfl q
 | brk=>
  rw[af6 q hs]
 | cont=>
  rw[af6 q hs]
section
variable {X:Cx} {x:Str} {p pos:Pos} {e:Expr} {es:List Expr} {t:TA} {id T:String} {r:List V->Hp->VK->Prop}
def aXd(r:Xv)(t:TA):TE:=Bg vs (r vs H1 Q)
theorem bru(n:rm id r)(l:nj)(k:JV)(hv:JU=ā (ja id))(o:Ft)(j:EZ:=by decide)(c:jj:=by decide)
  (m:Qk:=by rfl) (b:Qp:=by rfl):XV (aXd r t):=by
 rw[a5X];exact PyProof.Rows.callWith_builtin1 a5W m b
theorem brv(n:vZ T r)(l:nj)(k:JV)(hv:JU=ā X5)(o:Ft)(j:EZ:=by decide)(c:jj:=by decide)
  (m:Qk:=by rfl) (b:Qp:=by rfl):XV (aXd r t):=by
 rw[a5X];exact a5Y a5W m b
universe E_
universe L2
namespace HT
open PySem PyProof.Rows
def bEw(n d:Nat):fL->Nat
 | none=>d
 | j0=>a5Z
universe HT
namespace L2
open PySem PySem.Spec PyProof.Rows
abbrev TO:=St->PP fL
def PO(X:Cx)(e:ua)(t:TO):Prop:=
 ∀(pins:Ã) (s:Ĭ) (σ:St) (H:Hp) (Q:fL->ni),Ô->JT Q ->
  J1 (evalPart e Ó) u s' (∃o H',PQ/\IsPart u o/\Q o H')
def bEx:TO:=Ş ζ (Q none H)
def bEy(t:TE):TO:=Bg x (∃i,x=ĭ/\Q aV H1)
section
variable {X:Cx} {e:Expr} {te:TE} {lo hi:Option Expr} {tl th:TO} {pos p2:Pos}
theorem brw:PO X none bEx:=by
 rw[ji a σ,Ĉ evalPart_none (Å ⟨none,H,I,Ġ,h⟩)]
theorem bEz(h:Xj):PO X (ā e) (bEy te):=by
 intro a s b H Q I d;rw[gf evalPart_some (yk (aIW _ I d) u x g f c) (Ŷ i rfl q c (đ t rfl r1))];exact⟨aV,g,f,Jr,q⟩
def aEj(X:Cx)(r:atF):Prop:=
 ∀(pins:Ã) (s:Ĭ) (σ:St) (H:Hp) (x:V) (v vl vu:ě) (lo hi:fL) (sl:Addr) (Q:VK),Ô->yt->s.heap.IsSliceOf sl vl vu Ġ->IsPart vl lo->IsPart vu hi->r x lo hi H Q ->
  ∃T id,a50 id/\atE v T/\vN (atD v (ċ sl))
def bEA(r:atF)(te:TE)(tl th:TO):TE:=Ş σ (afi fun x H1=>tl σ H1 fun l H2=>th σ H2 fun u H3=>r x l u H3 Q)
theorem brx(p:aEj X r)(z:Xj)(w:PO X lo tl)(o:PO X hi th):PE X (af7 e lo hi) (bEA r te tl th):=by
 rw[cD a d Q (aJw (yk (z a s d H _ I h) v x K E m)),ĺ (wpAny_Slice (iA (w a s1 d K _ E m) g i l J C pl k (χ (o a i d J _ C k) f c ⟨u,F,B,n,j⟩))) evalPart_none,ĺ bq (ĩ T id A ht y (p a a51 d F x v g f l u c.heap.objs.size Q (B.kept (atj ob)) r1 (Heap.IsSliceOf.new ..) pl n j))];show a52 a51;exact tail_any ht A y (by rw[aIZ])
def anX(xs:Ŕ)(lo hi:fL):Ŕ:=a53 (yd (BA aP 0 lo)) aP
theorem bEB(xs:Ŕ)(lo hi:fL):Ą (anX xs lo hi)<=aP:=by
 rw[Θ (Ù anX mn yE)]
universe E_
def IC(n:Nat)(i:Int):Ko:=a54
def Ov{α:Type}(xs:di)(i:Int):Kq:=Ź (IC aP i) j xs[j]?
theorem bry(h:IC n i=iF):seqIndex? i n=iF/\j<n /\ -Æ<=i/\i<n:=by
 rw[au (eI IC) b (0<=i)]
 ·rw[į b]at h;by_cases a:i<n
  ·rw[a55];exact⟨ŷ (aJy b a) e,Ě,Ě,a⟩
  ·rw[ŉ Fh]
 ·rw[Ř b]at h;by_cases a : -Æ<=i
  ·rw[a55];exact⟨ŷ (aJx a) e,Ě,a,Ě⟩
  ·rw[ŉ Fh]
theorem aXe(h:Ov xs i=j0):∃j,seqIndex? i aP=iF/\ĳ xs j v/\j<aP /\ -(aP:Int)<=i/\i<aP:=by
 rw[eI Ov];cases e:IC aP i with
 | none=>rw[ŉ e]
 | some j=>
  rw[Ę e h (Ĩ f d c b (bry e))];exact⟨j,f,h,d,c,b⟩
def bEC(b:Expr):Prop:=∀o i,atG b o i=aJz o i
def brz(X:Cx)(r:R2):Prop:=
 ∀(value slice:Expr) (pins:Ã) (s:Ĭ) (σ:St) (H:Hp) (x y:V) (v u:ě) (Q:VK),Ô->yt->pp->afu ->
  atG slice v u=aJz v u->vN (subscriptTail value slice v u)
def bED(X:Cx)(id:jZ)(r:Qv):Prop:=
 ∀(pins:Ã) (s:Ĭ) (σ:St) (H:Hp) (x:V) (xs:Ŕ) (v:ě) (us:Œ) (Q:VK),Ô->yt->Js->r x xs H Q ->
  a56
section
variable {X:Cx} {a b:Expr} {ta tb:TE} {pos:Pos}
theorem brz.or(h:FA r)(h':FA g):FA (pv (afu\/g x y H Q)):=by
 rw[af8 a b c d f e q,vX q]
 ·exact h a b c s d H x y v u Q I f e q hs
 ·exact h' a b c s d H x y v u Q I f e q hs
theorem brA(i:FA r)(k:PY)(j:Xh)(hs:bEC b):PE X (wg a b pos) aIX:=by
 rw[ji c d];exact aJw (aW6 k j I h fun v u e x y m l g f q=>i a b c e d m x y v u Q l g f q (hs _ _))
def brB(K:ĝ):R2:=a57 aI2
def brC(K:ĝ):R2:=a57 (as0 p xs)
def brD:R2:=pv (∃z i c,x=g9/\y=ĭ/\atH/\Ov Qw i=ū/\Q X6 H)
theorem bEE:FA (brB X.K):=by
 rw[af8 d e a m o n h,aJA i z A C,Qa o t n (Ĩ f r pl hz (nr A)),ab (Š j c J h3 F E (aXe C)) w l jS (yD J),Ĕ B Á hn VJ];have b:EP X a m Q w s:=a6d;by_cases k:0<=i
 ·have g:Qx=j:=by
   rw[Ļ (aJy k E) c (dN c)]
  exact item_listR rj k Ă a58 b hs
 ·have g:(i+(f.toArray.size:Int)).toNat=j:=by
   rw[aJx F]at c;rw[b_,←B];exact dN c
  exact a6c a6b a6a
   (wpAny_getItem_list_neg rj Ă a59 Ă a58 (cG b)) hs
theorem bEF:FA (brC X.K):=by
 rw[af8 a b c σ e d h,aJA i z g k,Qa e t d (Ĩ f r pl hz (pq g)),ab (Š j m l h3 h4 h5 (aXe k)) w n jS (yD l)];have hn:=VJ;exact a6c pl.typeIs slot_tuple_getitem.lookup
  (getItem_tuple pl Ă Ă (X7 b_ Á m) (Ł n) (cG a6d)) hs
theorem bEG:FA brD:=by
 rw[af8 a b d σ g f h,Bo (Ø z i c rfl rfl hz l q h) t g (đ t' rfl f),Š j e o h3 n m (aXe l)];have k:aJC=jr:=bg Str.length;rw[k]at e n m;have hn:=VJ;exact tail_any aJB slot_str_getitem.lookup (getItem_str (by
  rw[ub,ub,Bool.or_false]) (by rw[e];simpa using o) (Bf X6 q)) hs
def brE(K:ĝ):R2:=pv (brB K x y H Q\/brC K x y H Q\/brD x y H Q)
theorem bEH:FA (brE X.K):=bEE.or (bEF.or bEG)
theorem bEI(a:Œ)(n j:Nat)(u:ě):yF (·.setIfInBounds j u) (gW Ò (.seq yG n)) = gW Ò (.seq (tu (a.set j u)) n):=by
 simp[yF]
theorem Inv.lst{b:Ã}(I:vG)(h:tQ p) :
  aHP a (af9 p yG /\ Jx):=by
 rw[lT z a n r e (afE h) a n r e z]
theorem Inv.bEJ{d a:Œ}(I:qZ)(h:tQ p)
  (l:af9 p d.toArray) (j:f (gW Ò (.seq d.toArray n)) = a6e) (r:Qy g) (k:ů E4) (t:Nat) :
  PL c (FB p g) (atI p f) t:=by
 have e:(atI p f).get? p=ā a6e:=(ŷ (aga f l (by rw[j]<;>rfl)) j);refine ath (by rw[h];trivial) ŵ (fun b u m q=>aJD q) ⟨_,e⟩ ?_;exact⟨k,a,i,r,e⟩
def bEK:a4i:=fun o i v H Q=>∃p xs k j,o=eU/\i=eX/\tQ p/\IC aP k=iF/\Q (FB p (xs.set j v))
theorem set_list:bqS X bEK:=by
 intro f s σ H o i v ov iv u Q I z A y h;rw[aJA k j g C,gX (Qa z t A (ĩ a n r c B (I.lst g))) b h2 m l (bry C),Ĕ d Á hn VJ];have x:=
  I.bEJ g c (bEI a n j u) (r.set y j) (Ć FC B) f_
 by_cases w:0<=k
 ·have e:k.toNat=j:=by
   rw[Ļ (aJy w l) b (dN b)]
  exact PySem.W.ki_setAt c w Ă (X7 b_ d l) a6f
 ·have e:(k+(a.toArray.size:Int)).toNat=j:=by
   rw[aJx m]at b;rw[b_,←d];exact dN b
  exact PySem.W.ki_setBack c Ă (X7 b_ d m) Ă a6f
theorem bEL(lo hi:fL)(n:Nat):aJE.1=Ĵ (BA n 0 lo)/\aJE.2.1=Ĵ (BA n n hi)/\aJE.2.2=1:=by
 refine cj ?_ ?_
 ·cases lo with
  | none=>simp[atK,BA]
  | some i=>
   rw[a6g]
   ·rw[atJ nK]
   ·rw[atJ ro]
 ·cases hi with
  | none=>simp[atK,BA]
  | some i=>
   rw[a6g]
   ·rw[atJ nK]
   ·rw[atJ ro]
theorem bEM(a:Œ)(lo hi:fL):slicePick yG lo hi none=tu (a53 (a.drop (BA ad 0 lo)) ad):=by
 rw[Ė d c b (bEL lo hi a.toArray.size),iG slicePick d c b];simp only[sliceRange_one,pick_run,b_]<;>rfl
def aXf(K:ĝ):atF:=fun x lo hi H Q=>∃a xs,Bu/\JW/\∀p,js->FE p H (anX xs lo hi)
theorem bVQ:aEj X (aXf X.K):=by
 intro d s σ H x v vl vu i m sl Q I f hs pl g h;rw[ĩ a e rfl l q h,Ţ f (kU j r ht k (nr l) c Á)];refine⟨Ò,_,a6a,ht.isList.typeIs,?_⟩;refine wpAny_getItem_list_slice ht.isList hs pl g Ġ Ğ ?_ a59;rw[bEM,←c];refine ac dm _ (agb (atj ob) ?_) (q _ By);exact⟨û (bEB e i m) k,_,0,f9 (r.drop _) _,cw⟩
theorem bEN:aJF (a6i f b (yu iH)):=by
 rw[Qb (vY g f) p b c (Ks i r),atB hn VJ c]
 ·rw[kU e d pl j (nr c) a Kr];exact Calls.call_len_list rj atL a6h
 ·rw[kU e d pl j (pq c) a Kr];exact len_tuple pl atL a6h
theorem bEO:aJF (Ş a (∃z,a=[g9]/\atH/\yu jr)):=by
 rw[gX as4 z rfl hz q h,kU u rfl t rfl (Kb r) hn VJ];exact len_str Ă (asT jr)
theorem bEP:vZ Ò (a6i x c (∀l,aQ l->FE l H c)):=by
 rw[Qb (Xk g y x us) p c j (Ks z r)];have m:∀(a:Œ),Qy c->ů jt->∀(b:Heap) (f:Nat),_ ->
   b.get? Ģ=ā (aJG yG f) -> EP X g y Q _ (fE b):=fun a d i b f kp e=>
  (ac dm _ (agb kp (show vJ _ b _ (.lst c)from⟨i,a,f,d,e⟩)) (q _ By))
 rcases j with j | j
 ·rw[kU a d pl i (nr j) k Kr,ĩ o v w n hd rj];exact a6j ŵ
 ·rw[kU a d pl i (pq j) k Kr,ĩ o v w n hd pl];exact a6j gw
theorem bEQ:vZ aC (Ş g (∃p a,g=[eU]/\((Qz H p a/\∀l,aQ l->Kh l H (Ē a))\/(asr p a/\Q eU H)))):=by
 rw[gX (vY i g) p a rfl h h,Ks n r,aIV h f q]
 ·rw[ľ (kU c d pl j (nr f) k Kr) (call_tuple_list rj (Ĝ v kp) atL)];have m:=aJH kp;have w:=
   m.laid (t':=f_) Bk Ķ (show vJ _ _ _ (Ē a)from⟨j,c,d,On.new _ _⟩)
  exact ac (ċ v.objs.size) _ w (q _ (m.Ν.fresh Ķ))
 ·rw[Ĩ c d pl j (pq f)];exact call_tuple_same pl (ac eU H I q)
def brF(K:ĝ)(T:jZ)(x:V)(H:Hp):Prop:=match x with
 | mh=>T = jn
 | iJ=>T = jm
 | eU=>(T = Ò /\ ∃xs,aI2)\/(T = aC /\ ∃o,iw p=ĕ/\arL) \/
   (T = mq /\ ((∃ρ,afC ρ)\/∃ρ,bX p Pr))\/(T = kW /\ ∃S n,bX p (.set S n))
 | _=>tG
theorem brG(I:jg d)(r:yt)(f:brF X.K T x H) :
  atE v T/\∀a,QA->∃j,cC a=iF/\j.dict=none:=by
 cases x with
 | str z=>
  rw[Xi];cases(f);rw[Į aJB (aS e aeH)]
 | int i=>
  rw[Xi];cases(f);rw[Į (typeIs_int s i t) (aS e aeH)]
 | ref p=>
  cases r;rcases f with⟨rfl,xs,l⟩ | ⟨rfl,o,b,hc,hd⟩ | ⟨rfl,b⟩ | ⟨rfl,S,n,b⟩
  ·obtain⟨k,_,pl,_⟩:=nr l;rw[t7 a6b a e];cases e;rw[a6n pl]
  ·rw[t7 (cY (pz p o b) hc) a e,ψ e (cY (pz _ o b) hd)]
  ·have z:∃o,cC p=ĕ/\o.ExactDict:=by
    rw[aIV b g b]
    ·rw[a6m]
    ·rw[a6m]
   rw[jk o e ex z a6l,a6k]
  ·obtain⟨o,_,_,_,e,ex,_⟩:=afE b;rw[a6l];rw[a6k]
 | _=>rw[eW f]
def bER(K:ĝ)(T:jZ)(r:Qv)(to:TE):TE:=Ş σ (a6o (r x [] H1 Q))
def bES(K:ĝ)(T:jZ)(r:Qv)(to:TE)(t:TA):TE:=Ş σ (a6o (t σ H1 fun xs H2=>r x xs H2 Q))
theorem bET{b:Pos}(m:PlainAttrs T)(slot:Slot T name e)(f:aJL e=aJK)(p:QB e r)(n:J2 i)
  (d:aJJ=bZ o:=by rfl) (c:ju X8 b.line:=by rfl):PE X (aJI [] b) (bER X.K T r i):=by
 rw[cD a g Q (a6q d c (Fq (n a s g H _ I h) v)),Š x y j r1 k l B0,đ w u (brG j r1 k)];exact⟨T,e,m,slot,f,w,u,atM rfl (a6p (p a s1 g y x [] v [] Q j r1 .nil l))⟩
theorem brH{a:Pos}(F:PlainAttrs T)(slot:Slot T name k)(m:aJL k=aJK)(K:QB k r)(J:J2 n)(L:Ft)
  (g:aJJ=bZ o:=by rfl)
  (j:(FG (backTo a a6t) x (!x.1)&&FG (afX a [] Ó) x x.1.isSome
   && ü (Ą dW+([]:Qr).length+(if([]:Qr).isEmpty then 0 else 1)) 30)=true:=by rfl)
  (f:ju X8 a.line:=by rfl) (hs:Qk:=by rfl) (d:agc (backTo a (Bl es))=ă:=by rfl) :
  PE X (aJI dW a) (bES X.K T r n t):=by
 rw[cD c l Q (a6s j (Fq (J c s l H _ I h) v)),Š x R u r1 z E B0,đ N M (brG u r1 z)];refine⟨T,k,F,slot,m,N,M,?_⟩;have p:=L a c s1 l R _ u E;rw[hs]at p ⊢;refine atM (by show(ă||agc (backTo a _))=ă;rw[d]<;>rfl) (a6r ?_);exact dH p fun y A ⟨w,P,O,B,C⟩=>K c A l P x w v y Q O r1 B C
universe E_
def brI(X:Cx)(id:jZ)(r:Qv):Prop:=
 ∀(pins:Ã) (s:Ĭ) (σ:St) (H:Hp) (x:V) (xs:Ŕ) (v:ě) (us:Œ) (Q:VK),Ô->yt->Js->r x xs H Q ->
  a56
theorem Vals.brJ(h:Vals (x::xs) b):∃u a,b=u::a/\A5/\A6 a:=by
 cases h with
 | cons r t=>exact⟨_,_,rfl,r,t⟩
theorem Vals.nl(h:Qy []):a=[]:=agd h
theorem Vals.one{x:V}{us:Œ}(h:yp [x]):a5g:=by
 rw[aT u ws rfl r t h.brJ (ψ t.nl (τ _ r))]
theorem Vals.two{x y:V}{us:Œ}(h:yp [x,y]):a5h v:=by
 rw[aT u ws rfl r t h.brJ (Ė v rfl q t.one)];exact⟨_,_,rfl,r,q⟩
theorem Inv.bEU{c:Œ}(I:vG)(k:tQ l)
  (e:af9 l atN) (i:f atN=yG) (hv:Qy d) (g:ů Kr) :
  PL b (FB l d) (atI l (yF f)) t':=by
 rw[JD (PySem.IsL.update e f) i];refine ath (Ć k uc) ŵ (fun b' u j h=>Ų (a6u Ĳ _ (iz j)) h) ⟨_,q⟩ ?_;exact⟨g,a,_,hv,q⟩
theorem Inv.bEV(I:Ζ)(hv:Vals c b)(d:ů jt) :
  PL a (FB Ģ c) (FH (EJ Ò afg)) t':=
 a6v ⟨d,b,0,hv,cw⟩
theorem Inv.fresh(I:Ζ):aQ Ģ:=By
theorem Inv.anY(I:vG)(c:tQ l):Jx/\aHP a (aP=ad/\af9 l yG):=by
 rw[ĩ z a n r e (cZ l _ c)];exact⟨z,a,n,r,Á,e⟩
theorem bEW(h:ů n):a6w n=ă:=by
 rw[t_ a6w ub]
def bEX:Qv:=fun x vs H Q=>∃l xs y,x=pE/\vs=[y]/\tQ l/\aP<Ka/\Q .ę (FB l (xs++[y]))
theorem bEY:brI X "list.append" bEX:=by
 rw[vP b vs us d f,gp (Ø l xs y rfl rfl c hz q h) (Ţ d (Ŷ u rfl g f.one (aJN a c))) (call_meets F.slot_list_append (dY e) F.entry_list_append (F.args_list_append_2 _ _) (PySem.list_append l yG n u (Ä b_)) (aD e))];refine a6x c (ai g .nil);rw[aJM]
def brK:R2:=pv (a6y y mr (bX b (.lst zs)) (∀p,js->FE p H (xs++zs)))
theorem bEZ:Bn .Add brK:=by
 rw[vP d y u g f];obtain⟨l,b,xs,zs,rfl,rfl,k,m,hz,q⟩:=h;cases g;rw[gp (Ţ f (aJN c k)) (Š z2 a n2 i j p (I.anY m)) (PySem.P.add_list e p ?_ (nC b_ b_))];have o:atN++yG=tu (c++a):=Ğ;rw[o];exact ac (ċ _) _ (I.bEV (afT i) (Ä Ÿ)) (q _ I.fresh)
universe L2
namespace bVR
open PySem PySem.W PySem.Calls PyProof.Rows
theorem bE0:∀(c:Ď) (vs:Œ),WellAll P h vs (Kt WData.int)->FJ c:=by
 intro c;induction c with
 | nil=>
  intro vs w;rw[Ī atO w w];exact .nil
 | cons n c d=>
  intro vs w;rw[Ö]at w;cases w with
  | cons a b=>
   rw[Ż a (ai _ _ (d _ b))]
theorem bE1{l:atQ}(u:l.most=BB)
  (e:l.row.toRowW.claim.pre args=true) (k:WellAll P h b args) :
  ∃a vs c,b=[m9 a]/\args=[WData.list (Kt WData.int)]/\A7=ā X9 /\ FJ c/\jt<=n:=by
 have m:l.pre.holds [] {args:=args} = true:=(pre_splitW e).2;rw[ĩ d r rfl x w (hasAllW_cons ((pre_splitW e).1))];obtain rfl:=hasAllW_nil w;rw[Ŷ xs rfl v (hasW_list x) (đ c rfl (items_int v))];have f:jt<=n:=by
  rw[bH OpenLaw.pre m];have j:(WTm.not (.lt (.lit atP) (.len (.arg 0)))).holds [] {args:=[wj (Kt .int)]} = true:=by rw[yB j (holds_andW m).1 u j]
  have i:=condW_of j (w_not (w_lt w_lit (w_len_list (w_arg rfl))));rw[Ċ]at i;refine aJO (fA q)
  first
   | (rw[Ļ ud i (eV i Đ)])
   | (simp at i;omega)
 cases k with
 | cons p o=>
  cases o;cases p with
  | list s g=>exact⟨_,_,c,rfl,rfl,s,bE0 c _ g,f⟩
theorem bE2(l:atQ)(args:ī WData):l.row.toRowW.claim.post args QC args=true:=
 postW_of
  (by first | rfl | decide | simp[WShape.has,WShape.arms,WShape.armsAll])
  (show(WTm.eq .res _).value [] {args:=args,res:=Ε,after:=args} = ā (je _)from w_eq_bool (w_res rfl) w_lit) rfl
theorem bE3{l:atQ}
  (I:l.most=BB) (x:aJQ=[])
  (call:∀(w:ņ) (c b:Ĭ) (mg s:bY) (k:Addr) (o:Obj) (pm cd g:ě) (a:Addr) (vs:Œ) (p:Ď),
   Ground q Jf [] XP w c mg s b.heap->YP w b.heap ->
   b.heap.get? k=ĕ->iu=.func (docDef age d.params Ku d.scope pm cd g)->b.heap.CodeRec cd age->mg age=ā (ċ k) ->
   b.heap.get? a=ā X9 -> FJ p->wm<=n->b.gens = #[] ->
   a6z l.prog k (fun r m=>r=afQ QC/\OldK b.heap m.heap/\m.os=b.os/\JH m.gens) b) :
  WalkO q Jf XP YP l.row.toRowW d [] (fun f vs=>PySem.call f vs):=by
 intro w c b mg s G Y k o pm cd g P kV H hd y B v L C z as h A E u K;obtain rfl:P=Ġ:=Dflts.none B x;obtain rfl:kV=Ġ:=Dflts.noKw B;rw[gf (Ø a vs p rfl rfl i e j (bE1 I h u)) (enter_call (wf (call w c b mg s k o pm cd g a vs p G Y H (fd_plain hd) y v i e j L) (ġ r m F))) (dO (Ĩ rfl O N M F) (ı ⟨QC,QC,[],rfl,Qh,QC,bE2 l _,ű ⟨aJP,yH ζ J⟩⟩) O N M)]
universe bVR
namespace L2
open PySem PySem.Spec PyProof.Rows
theorem brL:∀{vs:Œ} {ns:Ď},FJ ns->Vals aJS vs
 | _,_,.nil=>.nil
 | _,_,yb n h=>aJR (brL h)
def aEk(H:Hp):Prop:=∀b,eO\/(∃o xs,m_ b o qR)\/∃q,atR
theorem anZ{a:Type}:a6A ū (wq∈l)
 | X',c,h=>by
  rw[aJT]
  ·rw[jv e,Ĉ (bn e) dQ]
  ·exact ť (anZ h)
theorem brM{a:Type}:a6A none (wq∉l)
 | X',c,h,m=>by
  rw[aJT]
  ·cases h
  ·rw[fM e (bM m)]
   ·cases z;simp at e
   ·exact brM h z
theorem bE4{l:ī (e×d)}(f:o9 br)(g:(p.1,q)∈l)(i:p∈l):q=p.2:=by
 induction l with
 | nil=>cases g
 | cons y l h=>
  rw[ς Ö f a (Fu f)];rcases W' g with c | c<;>rcases W' i with b | b
  ·rw[b,←c]
  ·rw[Ŗ (nL ⟨p,b,by rw[←c]⟩) a.1]
  ·rw[Ŗ (nL ⟨_,c,Ń b⟩) a.1]
  ·exact h a.2 c b
theorem bE5{K:ĝ}
  (KX:K.In agl) (U:aJU io mg) (j:aJU JE mb) (a6:a3B) (X:c.heap.NoLimit) (hg:c.gens = #[])
  (N:agk a=ā X9) (hi:FJ O) (hl:ů O.length) (hr:aJ0)
  (F:aJZ (K.In base) P K CX k fa x sp) (M:atY u fd x)
  (a4:∀H:Hp,aEk H->X_ K atS->sp nB H a6J tR)
  (i:aJY K (iw p.1) (agk p.1) agl) (a3:(atX tK))
  (a5:∃J C,aeU ark J/\J≠JE/\agk J=Yb/\C.cls=Ì "module" /\ C.dict=ā JE/\C.data=.plain)
  (a8:∀H e l,CX [] H c tR e l->tG) :
  a6I:=by
 rw[Ĕ rv (brL hi) S aJX];have I:∀H:Hp,aEk H->X_ K atS->WT agl->(∀b,H b≠none->b=a\/((∃q,(b,q)∈tK)/\∃q,atR))->(aJW->iw a=none)->WV K H ->
   a6I:=by
  intro H hO hS L hA hK hT;have g:∀{b:Addr} {o:Obj},agk b=ĕ->eO->(agi).get? b=ĕ:=fun e n=>bCH e n;have a2:∀{b:Addr} {o:Obj} {Q:aJV} {R:Nat},agk b=ĕ->iu=agj Q R->eO:=fun {b o Q R} e d=>by
   cases q:H b with
   | none=>rfl
   | some u=>
    rw[atT b qq]
    ·rw[jc e' N e];have d':Data.seq agg _=Data.dict Q R:=d;cases d'
    ·rw[dP (i _ e').2.1];have d':Data.fields #[]=Data.dict Q R:=d;cases d'
  have y:∀{b:Addr} {m:bY},aJU b m->(agi).Ns b m:=fun {b m} ⟨o,Q,R,e,d,r⟩=>⟨o,Q,R,g e (a2 e d),d,r⟩;have Y:K.In agi:=fun b o e=>g (KX b o e) (by
   cases q:H b with
   | none=>rfl
   | some u=>
    rw[atT b qq]
    ·subst e';rw[hK (BD q)]at e;cases e
    ·rw[dP (i _ e').1])
  have hM:Mod K mg agi:=by
   refine⟨Y,y U,⟨mb,y j,a6⟩,let ⟨mc,Z,h2⟩:=X;⟨mc,y Z,h2⟩,?J⟩;rw[Ø J C b1 b2 b3 b4 b5 b6 a5];refine⟨J,C,b1,b2,g b3 ?_,b4,b5,b6⟩;cases q:H J with
   | none=>rfl
   | some u=>
    rw[atT J qq]
    ·rw[jc e' N b3,Ŗ (Value.type.inj (bK (o4 Ò = o4 "module") b4)) Đ]
    ·rw[Ī (i _ e').2.1 b3 b3];cases b4
  have e0:adm P w K mg agi atW [] c H:=⟨rfl,hM,iy (bCI e),aJf (bCG _ _),uc,⟨af4 b j Ň,hT⟩,L,.of_eq hg⟩;refine wf ((F _ Y (y U)).run atW [] c H ⟨nB,[]⟩ nB nB _ _ hr e0 (M c Ŝ) (atw .nil) (a4 H hO hS)) (ġ r l h);cases r with
  | Bx e=>exact(a8 H e l h).elim
  | ok fl=>
   cases fl with
   | next=>rw[eW h]
   | brk=>rw[eW h]
   | cont=>rw[eW h]
   | ret u=>
    rw[Ø v H' os a0 un E r' q h];have q':v=iK:=q;subst q';obtain rfl:u=aHF true:=r';refine⟨rfl,⟨FK,iy (un.there b o e Ğ)⟩,os,a0⟩;cases q:H b with
    | none=>rw[ŝ (atV e q (by rw[ir z (Ŗ (a6H b) Ğ)]) Ğ)]
    | some u=>
     rcases hO b with z | ⟨C,xs,z⟩ | ⟨qq,z⟩
     ·rw[EL q]
     ·have z2:=atU C _ z;obtain⟨e1,_⟩:=L b _ z;obtain⟨e2,_⟩:=E b _ z2;rw[Ī e e1 e1,ŝ e2]
     ·rw[atT b q2]
      ·rw[ş e' (fC ps e1 (L b _ z))];rw[N]at e1;rw[a6F e1]
      ·have t:=i _ e';rw[dP bN,fC ps e2 (E b _ (un.DU b _ z)),tU ⟨kX,rfl,#[],ps,rfl,Ł e2⟩]
 have B:∀f:Hp,(lU p tK (f p.1))->∃H:Hp,a6G:=fun f hf=>by
  refine⟨fun b=>match(tK).lookup b with | fN=>ā (.oQ q) | none=>f b,fA b⟩;cases z:(tK).lookup b with
  | some q=>rw[ŝ ⟨q,anZ z,by rw[fI z]⟩]
  | none=>rw[Í ⟨fun q hq=>brM z hq,by rw[fI z]⟩]
 have A:∀{H:Hp} {f:Hp},a6G->WV K H:=fun {H f} h p hp=>by
  rcases h p.1 with⟨q,Z,h2⟩ | ⟨Z,_⟩
  ·rw[h2,bE4 a3 Z hp]
  ·rw[Ŗ hp (Z p.2)]
 cases hk:iw a with
 | some o=>
  have e:=KX a o hk;rw[gp (dP N) (đ H h (B afN agh)) (a6E (ķ ⟨_,agg,_,hk,rfl,rfl,rfl,cH b_ S hl,Ł rv⟩) mt)]
  ·rw[a6D]
   ·rw[BC ⟨q,e⟩]
   ·rw[ŝ e]
  ·rw[agf b]
   ·rw[a6C]
   ·rw[EL e]
  ·rw[agf b]
   ·rw[a6B]
   ·rw[Ŗ e z]
  ·rw[agf a]
   ·rw[EO (i _ m).1 hk]
   ·rw[Ŗ e z]
 | none=>
  have W:∀q,(a,q)∉tK:=fun q m=>by rw[kR (i _ m).2.1 N,a6F this]
  rw[đ H h (B (fun b=>ō (b=a) (.oP X9 (.lst atS))) fun p hp=>Ř fun z=>W p.2 (ŗ z hp))];have a7:m_ a X9 (.lst atS):=by
   rcases h a with⟨q,m,_⟩ | ⟨_,e⟩
   ·rw[Ŗ m (W q)]
   ·rw[Ĉ e jb]
  refine a6E (ı (Kv X9 a7)) (ű hk)
  ·rw[a6D]
   ·rw[BC ⟨q,e⟩]
   ·rw[eQ j a]
    ·rw[tU ⟨_,_,JP (į j)⟩]
    ·rw[ŝ (JP (Ř j))]
  ·rw[agf b]
   ·rw[a6C]
   ·rw[gb e z (eQ j a)]
    ·have z':=(į j).symm.trans z;rw[Ţ z' (eN j ⟨N,Ć Ċ hl,vs,_,rv,N⟩)]
    ·have z':=(Ř j).symm.trans z;cases z'
  ·rw[agf b]
   ·rw[a6B]
   ·rw[eQ j a]
    ·rw[ŝ j]
    ·rw[Ŗ (JP (Ř j)) z]
theorem bE6{l:a6N}{K:cW->ĝ}{N:ņ->VM}{L:ņ->Sp}
  (P:l.most=BB) (A:ů n) (C:aJQ=[]) (O:aJ0)
  (U:a6M) (i:a6L)
  (F:∀(w:ņ) (mg:bY) (r:Addr) (h:Heap),agm h->agn->mg age=ā (ċ r) ->
   ∃fd:yA,(atY u fd x) /\
    aJZ (agm base) l.prog Kw (N w) k r x (L w))
  (z:∀(w:ņ) (H:Hp) (a:Addr) (m:Ď),m.length<=n->aEk H->X_ Kw (m.map nM)->L w nB H a6J tR)
  (E:∀(w:ņ) (H:Hp) (s:Ĭ) (e:ě) (y:Ĭ),N w [] H s tR e y->tG) :
  a6K I:=by
 refine bVR.bE3 P C fun w J g mg mb r o pm cd doc a I m G Y ho hd R B j c b Q=>?_;have M:=U w _ Y;rw[gj fd S Z (F w mg r _ M G.T.g B) (bE5 M G.T.g G.T.b G.T.builtins G.T.nolimit Q j c (û b A) O Z S (fun H X W=>z w H a m b X W) (i w _ Y).1 (i w _ Y).2 G.T.bmain fun H e y=>E w H g e y)]
abbrev VO:VM:=asV ζ tG
abbrev E0:XK:=tR
theorem an0:a6O:=atZ h ago
theorem Ow{B:Prop}(h:B):İ (ă=true) A B:=by
 rw[Ĉ Yc h]
theorem Ox{B:Prop}(h:A):İ agp A B:=by
 rw[Ĉ jb h]
def ũ(H H':Hp):Prop:=∀b o,H b=ĕ->H' b=ĕ
theorem QD(H:Hp):Ú H:=j_ h h
theorem ũ.trans(a:Ú e)(b:ũ e d):Ú d:=fun c o h=>b c o (a c o h)
theorem ũ.free(e:pF)(h:H' l=Option.none):H l=Option.none:=by
 cases q:H l with
 | none=>rfl
 | some o=>
  rw[ŉ (e l o q)]
theorem ũ.seq{K:ĝ}(e:pF)(h:JW):DW K H' a xs:=by
 rw[aJ1 h]
 ·rw[agq (iL h)]
 ·rw[at0 (iL h)]
 ·rw[yI]
universe L2
namespace L2
open PySem PySem.Spec PyProof.Rows
def DY(tF:jw):yJ->jw->jw
 | [],acc=>acc
 | QE,acc=>if at1 then DY tF r ((n,(cells.lookup n).getD 0)::acc)else DY tF r acc
theorem aXg:∀(d:yJ) (b:jw),(a6R d) ->
  (forIn d b (fun (x:Str×NameKind) (cs:jw)=>(match x with | (e,f)=>if ju f BE then(do let a ←cellOf env e;at3 ((e,a)::cs))else at3 cs:Sem (ForInStep jw))):Sem jw)=pure (Kx d b)
 | [],b,_=>rfl
 | QE,b,h=>by
  have j:=jq y m;rw[au a6Q g at1]
  ·rw[đ c l (h (n,k) dQ (bn g))];have o:cellOf env n=pure c:=o6 cellOf l;have i:Kx QE b=Kx r ((n,c)::b):=(by show a6P=_;rw[į g,l];rfl);rw[i,←aXg r _ j];simp only[g,nK,o];rfl
  ·have i:Kx QE b=Kx r b:=by
    show a6P=_;rw[Ř g]
   rw[i,←aXg r b j,mi g ro];rfl
theorem brN(h:a6R mu):aJ2 À env=pure (Kx mu []):=by
 unfold aJ2
 first
  | exact _.trans rfl
  | (rw[fI (aXg mu [] h)];rfl)
theorem an1:∀{a:yJ} {d:jw} {x:Str} {c:Addr},(∀y∈a,FL->∃c,aJ3 y.1=ū) ->
  a6U->wq∈d\/(at5/\at4 a)
 | [],d,x,c,_,h=>ı h
 | QE,d,x,c,g,h=>by
  have f:=fun y i=>g y (ť i);rw[au (eI DY) e at1]
  ·rw[Ę (į e) h (đ c' j (g (n,k) dQ (bn e))),a6T]
   ·rw[bM z]
    ·rw[Ż z (Kv (Η j) (ŗ (bn e) dQ))]
    ·rw[ŝ z]
   ·rw[a6S]
  ·rw[Ř e]at h;rw[a6T]
   ·rw[ŝ z]
   ·rw[a6S]
theorem aXh:∀{a:yJ} {c:jw} {y:Str×Addr},y∈c->y∈DY b a c
 | [],_,_,h=>h
 | QE,c,y,h=>by
  rw[g_ DY]
  ·exact aXh (ť h)
  ·exact aXh h
theorem aEl:∀{a:yJ} {d:jw} {x:Str} {c:Addr},at4 a->at5->a6U
 | QE,d,x,c,h,e=>by
  rw[š DY (bM h)]
  ·cases z;rw[į (mv (ju BE BE) rfl),e];exact aXh dQ
  ·split
   ·exact aEl z e
   ·exact aEl z e
theorem an2:∀(a:yJ) (n:Nat) (b:jw),Fx n a b=Fx n a []++b
 | [],_,_=>rfl
 | (x,k)::r,n,b=>by
  rw[g_ Fx]
  ·rw[an2 r _ _,an2 r _ [(x,n)],rq];rfl
  ·exact an2 r n b
theorem aXi:∀{a:yJ} {n:Nat} {x:Str} {c:Addr},wq∈Fx n a []->(x,Ky)∈a
 | [],_,_,_,h=>aJ4
 | (y,k)::r,n,x,c,h=>by
  rw[au (eI Fx) b (ju k Ky)]
  ·rw[į b,an2]at h;rw[BF h z]
   ·exact ť (aXi z)
   ·have d:wq=(y,n):=Ł z;rw[Ţ d (Ĉ (bn b) dQ)]
  ·rw[Ļ (Ř b) h (ť (aXi h))]
theorem aEm{a:Type}:∀{l r:pA a},(l++r).lookup x=(agr).or (r.lookup x)
 | [],r=>Ğ
 | X',r=>by
  rw[Kz,jx,jx];cases hb:x==y with
  | true=>rfl
  | ă=>exact aEm
theorem brO{a:Type}:∀{l:pA a},(∀c,wq∉l)->agr=none
 | [],_=>rfl
 | X',h=>by
  rw[jx];cases hb:x==y with
  | true=>rw[Ŗ eY (h v)]
  | ă=>exact brO (jq c b)
theorem aXj{a:Type}:∀{l:pA a} {c:a},wq∈l->∃d,agr=kY
 | X',c,h=>by
  rw[jx];cases b:x==y with
  | true=>exact aW v
  | ă=>
   rw[bM h]
   ·rw[Ţ z (nN ue)]
   ·exact aXj z
theorem aXk{b:Type}:∀{l:pA b} {c:b},o9 br->wq∈l->agr=ū
 | X',c,d,h=>by
  rw[jx,ς Ö d a (Fu d),bM h]
  ·rw[Ţ z ue]
  ·rw[a6V x y a (aXk a.2 z)]
theorem aXl:aJ6 env=Ĥ (Fy x) k (Bj (aJ5 x) Ky k):=by
 unfold relabel;show(scope.names.map _).lookup x=_;generalize mu=l;induction l with
 | nil=>rfl
 | cons y r a=>
  rw[ň n k y Ö];show ata x ((if _=true then _ else(n,k))::_)=_;have e:(if(aJ5 n)=true then(n,Ky)else(n,k))=(n,Bj (aJ5 n) Ky k):=by split<;>rfl
  rw[e,jx,jx];cases b:x==n with
  | true=>rw[bn b];rfl
  | ă=>exact a
theorem bE7
  (e:pG (newEnv À Ģ g (aJt cl) q none Ġ (ā env) JE) (aJ8 (FH agt))) :
  JR (aJ7 À g cl [] q none Ġ (ā env)):=by
 simp only[aJ7,a6W,nK];rw[lZ (wpAny_alloc ?_) (wpAny_layCells _ (fun d a c=>by cases b:a==Ky<;>simp[b]) _ _ _ _ ?_)];rw[mv ((fE (FH agt):Ĭ).heap.objs.size=wa) ags];exact ĵ (Å (Å e))
theorem bE8(I:lY Nat)
  (turn:∀n s,I n s->iE (FM it) (fun r f=>match r with
   | none=>R (.ok Pb) f
   | j0=>iE (asD a it v) (fun ζ d=>iE (assign a env v) (fun ζ l=>
     iE (a6X y env (Fp c)) (fun ok b=>
      if ok=true then atm elt (fun x k=>
       iE (BI "list.append" [E,x]) (aS j (∃m,m<n/\I m j)) Yd k) Yd b
      else ∃m,m<n/\I m b) Yd l) Yd d) Yd f) Yd s)
  (n:Nat) (h:I n s) :
  afH (.compLoop (agv a u y pos) 0 it E env) R s:=by
 rw[gf (ĺ (codeAny_loop rfl I (ġ n s F) n h) (BH A s)) (wpAny_noted ?_) (aU compTurn_list (afl (ĵ (BG (turn n s F) r f p i i))))];cases r with
 | none=>rw[q_ p]
 | some v=>
  rw[lZ (lX p (ġ ζ d q) agu) (lX q (fun ζ l C=>ĵ (lX C (ġ ok b o) agu)) agu)];cases ok with
  | ă=>rw[q_ (cG o)]
  | true=>
   exact ĵ (ĵ (lX o (fun x k B=>ĵ (lX B (fun ζ j z=>Å (Å (cG z))) agu)) agu))
theorem u9.Oy(x:qU)(d:aQ a)(new:Pt vC h a o):Pv vC h:=fun b u e=>by
 rw[eQ f a]
 ·rw[jc f Μ e];exact new
 ·rw[a3x q]
theorem Un.Oy(u:JA f g)(e:f a=none)(k:A7=none):JA (upd f a o) g where
 keep:=u.keep
 slot:=u.slot
 free:=fun b d q n j=>by
  have:b≠a:=Ye (EV k q q);rw[Ĉ (aK this) (u.free b d q n j)]
 there:=u.there
 Iy:=yg c (by rw[aJ9 (u.Iy b c q)])
 Iz:=fun b d c q=>by rw[aJ9 (u.Iz b d c q)]
 DU:=fun b i q=>by
  rw[aJ9 (u.DU b i q)]
structure aXm(N N':ğ)(sc bE9:Ξ)(fr:ww):Prop where
 kind:XW
 nd:N'.Nodup
 snd:(o9 at6)
 len:wu=aKc
 jT:∀(j i:Nat),aKb->∃x,ĳ N' j x/\lV N/\agw
 out:aKa (EN (bE9.names.lookup y.1))
def inner(fr:ww)(σ:St):St:=fr.map fun o=>o.bind fun i=>(σ[i]?).join
def aXn(X:Cx)(À:Ξ)(N':ğ)(C:Addr)(tF:jw)(Iv:Ĭ)(Oz:Hp)(fp:Ň):Cx:=
 {X with N:=N',Oo:=Iv,H₀:=Oz,env:=compEnvC À tF C Ó,Ï:=kj,stack:=kj,ex:=fp,fn:=fun x=>Fy x==bh,pn:=[],xe:=yi}
abbrev aEn:Obj:={cls:=Ì Ò,dict:=none,data:=.seq ([]:Œ).toArray}
abbrev brP:Obj:=agt
theorem bFa(S:KB N')(I:W_ O d)(f:afo O)(ho:P9 (aKh b BJ))(hC:C=BJ+1)(M:U=aJ8 aKk) :
  Inv (agA N' C (aKi agD) d H) [] at7 H {d with heap:=U} /\ U.get? BJ=ā aEn/\a6Z:=by
 have Q:gQ aKm=BJ+1:=ags;have P:gQ aKk=C+1:=by rw[nE,Q,hC]
 have h:a6Z:=iy (Ć M (aKl _ _ b o (ry e)));have hD:U.get? BJ=ā aEn:=Ć M (aKl _ _ _ _ Yg);have a4:U.Ns C afN:=by have q:=(Heap.Ns.new aKm ato).keeps (aKl mu _);rw[Q,←hC]at q;rw[Ĉ M q]
 have ok:=cellsFrom_ok mu aKk (C+1) [] ⟨j_ A (nomatch A),aJP⟩ (QI P);rw[P,←M]at ok;have J:aKj (∃c,Py y.1=ū):=agE hy hk (S.out y hy hk);generalize Z:agD=cl;have F:aKf (wq∈cl) (qX/\aub):=fun {x c} A=>by
  rw[←Z]at A;rw[fB (an1 J A)]
  ·exact agC
  ·exact z
 generalize s:aKi []=own at ok;have a6:aKi cl=aua:=ŷ an2 s;rw[a6];have L:aKf (wq∈own) ((x,Ky)∈mu):=fun {x c} A=>by rw[←s]at A;exact aXi A
 have L1:∀x c,agz->(wq∈own)\/(qX/\aub/\aKg=none):=fun x c e=>by
  rw[aEm]at e;cases q:aKg with
  | some c'=>rw[dP q,ŝ (gu q)]
  | none=>rw[ς q e z (F (gu (bK agB e))),Í (cj z.1 z.2)]
 have g:=fun {x c} A=>(ok.empty x c A).2;have n:∀{x:Str} {c:Nat},qX->aKh c BJ:=fun {x c} e=>by rw[qP v z Pz z.lt]
 have K:∀{x:Str},aub->aKg=none:=fun {x} A=>by
  rw[ĺ (brO (Ĝ c Y)) (Ĕ a (at8 A) b (at8 (L Y))),nN a]
 have B:aKf aub (qX->agz):=fun {x c} A Y=>by rw[aEm,K A,đ c' e (aXj (l:=cl) (ŗ Z (aEl A Y)))];have z:=(F (gu e)).1;rw[EL Y];exact e
 have hX:(agA N' C aua d H).Ok:=by
  refine⟨I.ok.mod,X2,PU,I.ok.blt,?_,Ý x y c h1 h2,Ĝ x hx,ń x c hf Y,iB,I.ok.frames,ŵ,fun b R=>QH W6,I.bs,W3 I.sz,PD e R,ġ b R hs,I.stack,a5E⟩
  ·show BJ<=C;rw[Ĉ hC yC]
  ·have h1:agz:=h1;have h2:(aua).lookup y=ū:=h2;rcases L1 x c h1 with a | ⟨a,_⟩<;>rcases L1 y c h2 with b | ⟨b,_⟩
   ·exact name_of_addr ok.apart a b
   ·exfalso;rw[Θ (Ĕ q1 KA q2 (n b))]
   ·exfalso;rw[Θ (Ĕ q1 (g b) q2 (n a))]
   ·exact I.ok.inj x y c a b
  ·have E:EN (aJ6 Ó):=hx;show ∃c,agz;rw[aXl]at E;cases q:Fy x with
   | none=>rw[q]at E;rw[aKe E]
   | some k=>
    have km:=gu q;by_cases k1:k=wy
    ·subst k1;rw[a6Y (ň c z (Fw z) (Į c (gx aEm z)))]
    ·by_cases k2:k=Qs
     ·rw[ş k2 (ň c e (J _ km rfl) (Į c (B km e)))]
     ·exfalso
      rw[q]at E;have e0:k6 k BE:=bE k2;simp only[uf,e0,aIF]at E;rw[fB E]
      ·exact k1 (Ł z)
      ·exact k2 (Ł z)
  ·have a5:ju (Fy x) bh:=hf;have q:Fy x=bh:=Ł a5;rw[a6Y (đ c' z (Fw z))];have a0:agz:=Y;rw[aEm,z]at a0;have e:c'=c:=dN a0;subst e;have:=g (gu z);rw[pH (agx BJ c')]
  ·have:=ho b R;rw[pH (agy b C)]
  ·rw[aKd]
   ·have:=g a;have:=ho b R;rw[pH (agy c b)]
   ·exact lQ (f b R).2 x c a
  ·rcases(lQ (f b R)) with z | z
   ·exact aH6 z
   ·rw[ae2 e (W3 z)]
  ·rw[EQ (I.aD7 b hs) z z]
   ·exact(f b R).2.1 z
   ·exact(f b R).2.2.1 z
 refine⟨⟨hX,rfl,JO,Pw h,⟨_,a4,ES x v e1 W e3⟩,W6,pj (yK (agx BJ C)),W6,atC hp,I.Ν.kept h,?_⟩,hD,h⟩
 ·have e1:lV N':=e1;rw[dr inner W Â];cases q:fr[i]? with
  | none=>rw[Ī q W W]
  | some o=>
   rw[q]at W;cases o with
   | none=>cases W
   | some j=>
    have N:(σ[j]?).join=j0:=dN W;have hv:ĳ σ j nA:=by
     cases z:σ[j]? with
     | none=>rw[Ī z N N]
     | some o=>rw[Ę z N (bK (o=j0) N)]
    rw[Ĩ x' a1 a2 a3 (S.jT i j q),Ī e1 a1 a1,Ė m hn hl pf];have ko:=S.out _ a3 rfl;rw[Ė u r l (hl j x v a2 hv (ko.elim (fun z=>ķ (ı z)) fun z=>at9 z))];rcases l with⟨k,_⟩ | ⟨k,c,e,z⟩
    ·have k':QG=ki:=k;rcases ko with w | w<;>(rw[bK (QG=_) w]at k';cases k')
    ·refine⟨u,r,ķ ⟨?_,c,B a3 e,z.keeps h⟩⟩;show EN (aJ6 Ó);rw[aXl,at8 a3,fI uf];split
     ·exact ŵ
     ·rw[Í rfl]
 ·rw[aKd]
  ·rw[Į none (ok.empty x c a).1]
  ·rw[ň v z (ase a) (Į v (z.keeps h))]
 ·rw[aKd]
  ·exact pj (QF KA (agx BJ c))
  ·exact JK a
 ·show Ą at7=aKc;rw[Ù inner Ċ S.len]
def VP(X:Cx)(ifs:aE)(t:TT):Prop:=
 ∀(pins:Ã) (s:Ĭ) (σ:St) (H:Hp) (Q:Xb),Ô->JT Q ->
  gY (a6X ifs Ó (bZ c)) ash X.xe s
def bFb:TT:=Ş ζ (Q true H)
theorem bFc:VP X [] bFb:=PR (wpAny_tests_nil ⟨H,I,h⟩)
theorem bFd(h:PZ t):VP X [c] t:=fun a s b H Q I d=>wpAny_tests_one (aIW Q I d)
def aXo(J:It)(g:TG)(tc:TT)(te:TE)(Fin:Xc)(σ:St)(H:Hp):Prop:=
 ∃W:Fa (Ŕ->yj),(∃m,W 0 m [] σ H)/\∀i m ys σ H,W i m ys σ H ->
  (aIE/\Fin ys H)\/(asE/\auc<Ka/\∀x H',afp->g x σ H' fun VI H2=>tc VI H2 fun b H3=>
   ym b (te VI H3 fun y H4=>∃m',m'<m/\W ö m' (ys++[y]) VI H4) (∃m',m'<m/\W ö m' ys VI H3))
theorem Vals.snoc(r:A6 a)(q:A5):Vals (xs++[x]) (a++[u]):=afT (ai q .nil)
theorem brQ{K:Ã}
   {RR:ě->Addr->lY Result}
  (S:KB L) (hc:bG)
  (hg:QN j a B L tg g) (ht:auj j a B L a3 tc) (he:Yj j a B L te)
  (I:W_ K a) (T:a4u) (st:tn 0 a.heap) (f:afo K) (h:aXo J g tc te c0 at7 H)
  (c4:∀D C A P m O,eT K σ a65 P->A D=none->P.heap.Ns C m->a65 C=none->C≠jf->JG<=C->(WW C)->(ae6 (X.pn++K) C)->c0 O A->RR (ċ D) C (.ok Pb) P) :
  gY (newList []) (fun b8 a8=>gY (aJ7 À aH4 agD [] aui none Ġ (ā Ó)) (fun a1 a7=>
   aKp (.compStart (agF a0 a3) 0 J3 b8 {a1 with À:=relabel À Ó}) (RR b8 a1.locals) a7) E a8) E a:=by
 have ho:P9 (b<wz):=fun b s=>a64 (asN st b s);refine BK (bE7 ?_);have b0:gQ aKq=wz+1:=ags;rw[Ė I4 b6 Z (bFa (C:=wz+1) S I f ho rfl rfl)];show aKr _ _ (RR (ċ wz) (gQ aKq)) {a with heap:=a63};rw[b0];generalize b4:wz=D at *;generalize Fx (D+1+1) mu agD=j at *;generalize a63=h4 at *;have a4:∀{w:Ã} {A:Hp},aKo->(∀p∈w,p.1=D)->P9 (bqZ QJ w A b):=fun {w A} hn N b s=>
  ⟨hn b s,(I4.ok.aWS b s).1,I4.ok.aD5 b s,ı s,(I4.ok.aWS b s).2,fun p R z=>by
   rw[jY R (p∈([]:Ã)++w) R QL R];have:=ho b s;rw[←z,N p R]at this;exact Yi this⟩
 obtain⟨W,⟨m0,w0⟩,a6⟩:=h;have b5:D≠(QJ).env.locals:=yK (D≠D+1);have U:∀x c,(QJ).env.cells.lookup x=ū->c≠D:=fun x c e z=>by
  rw[Ĩ v o c1 hd (I4.cell x c e)];have q:h4.get? D=ĕ:=ŗ z c1;rw[Yh b6];cases hd
 have b3:D∉(QJ).fs:=fun z=>by
  obtain⟨_,o,c2,_⟩:=I4.ok.sV.mem z;have:=cX c2;have e:wz=D:=b4;rw[Ŗ this (yK (¬D<wz))]
 have Y:aKp (.compLoop (agF a0 a3) 0 J3 (ċ D) (compEnvC À j wA Ó)) (RR (ċ D) wA) {a with heap:=h4}:=by
  refine bE8 (fun n P=>∃i O l k a5 A,aue [] a5 A P/\tn i P.heap/\aKo/\A D=none /\
   P.heap.get? D=ā (gW Ò (.seq (l:Œ).toArray k)) /\ Vals O l/\ů O.length/\W i n O a5 A) ?_ m0
   ⟨0,[],[],_,_,H,I4,a60,fun b s=>(f b s).1,pj Ă,b6,.nil,cg,w0⟩
  rintro n s3 ⟨i,O,l,k,DX,H3,I3,anS,anT,aEo,bFe,rv,hl,w3⟩;have b9:aue [auh] DX H3 s3:=I3.anM fun p N=>by
   rw[P_ p auh N];exact⟨bFe,aEo,b5,b3,fun v z=>eZ z⟩
  have Q:∀p∈[((D:Addr),(aKn:Obj))],p.1=D:=fun p N=>by
   rw[P_ p auh N];rfl
  rcases a6 i n O DX H3 w3 with⟨a9,c8⟩ | ⟨go,ado,step⟩
  ·refine χ (a41 QJ _ _ b9 (a4 anT Q) anS a9) r s4 ⟨hr,F⟩;subst hr;have oD:=(F.pin (D,_) (tX dQ)).1;have un:Un W5 fp H H3 a.heap s4.heap:=F.base;have hn:a.heap.get? D=none:=W4 (QI b4);rw[ľ (fC mC c3 F.loc) (c4 D wA H3 s4 mC O (I.bCN F.os (un.Oy aEo hn) (F.Ν.Oy aEo ⟨hl,l,k,rv,oD⟩) F.bare (Ĝ b s)) aEo c3 ?_ ?_ ?_ W6 (Ĝ p N) c8)]
   ·obtain⟨_,f1,f2,f3,f4,f5⟩:=f b s;exact⟨f3,f1,f4,f5⟩
   ·rw[aK (ź (agy wA D))];exact F.free
   ·rw[Θ (aud jf wz I.lt wA jf)]
   ·have q:agx JG wz:=I.sz;rw[pH (agx JG wA)]
   ·rw[đ v z Pz,Θ (aud c wz z.lt c wA)]
   ·rw[Θ (aud p.1 wz (cX (ER N).1) p.1 wA)]
  ·refine χ (a40 QJ _ _ b9 (a4 anT Q) anS go) r s4 ⟨u,hr,c6⟩;subst hr;refine dH c6 (ġ ζ s5 B0);rw[a4Z a2 c7 c9 (a4 c7 Q),q5 (BG (hg wA j a H fp _ s5 DX H5 x u _ c9 r5 (step x H5 y5)) _ s6 ⟨M,H6,I6,q6⟩ z z.elim) (BG (ht wA j a H fp _ s6 M H6 _ I6 q6) b s7 ⟨H7,I7,q7⟩ z z.elim)];have b7:∀{A:Hp} {P:Ĭ},aue ([auh]++anR fp s5.heap) M A P->tn ö P.heap/\aKo/\P.heap.get? D=ā aKn /\ A D=none:=fun {A P} J'=>by
    rw[FN (asO a2 s a62.1) (Ĝ b s) ?_]
    ·rw[Fe o e d (asN a2 b s) a62.2.1]
    ·exact a61.1
    ·exact a61.2.1
   cases b with
   | ă=>
    rw[Yc]at q7 ⊢;rw[Ŷ m' hm w7 q7 (Ĩ k1 k2 k3 k4 (b7 I7))];exact⟨m',hm,i+1,O,l,k,M,H7,I7.anM (yH p N),k1,k2,k4,k3,rv,hl,w7⟩
   | true=>
    rw[jb]at q7 ⊢;rw[ĺ (BG (he wA j a H fp _ s7 M H7 _ I7 q7) y s8 ⟨v8,H8,I8,r8,q8⟩ z z.elim) (Ŷ m' hm w8 q8 (Ĩ k1 k2 k3 k4 (b7 I8)))];have b2:ů Ű:=ŗ auf hl;refine append_at k3 (ġ h9 b1 c5) (Ć b_ b2);rw[mj I9 (aue [] M H8 s8) (I8.anM (yH p N)) ⟨m',hm,i+1,O++[v8],l++[y],k+1,M,H8,I9.turned (it:=D) (t':=s8.toks) (bj s (lW b1 b s e)) k4 b5 (ķ (yK (wz<=D))) U (yH p N),?_,k2,k4,?_,rv.snoc r8,?_,w8⟩]
    ·exact asO k1 s (lW b1 b (rh (aud b D (ho b s) b D)) e)
    ·rw[c5,List.push_toArray]
    ·rw[aJM]
 exact codeAny_compStart_list Y (T.self X.A 0 _ _ _ a60 Y)
def aXp(fr:ww)(wi:TI)(g:TG)(tc:TT)(te:TE):TE:=Ş σ (wi σ H fun J H1=>aXo J g tc te (fun ys H'=>∀p,Jz p->FE p H' ys) at7 H1)
theorem bFf{K:TT}(S:KB k)(hc:bG)(Y:yv f E)
  (Z:QN a c d k tg g) (P:auj a c d k j K) (he:Yj a c d k F)
  (R:∀x,asP f Ó x=pure x:=by rw[Xl]):PE X (agF f j) (aXp fr E g K F):=by
 rw[ji i L,gp (ľ eval_ListComp (a67 R N W O U (aIP (Y i s L H _ I h) M))) (a66 l) (brQ S hc Z P he I2 T l f2 w ?_)];intro D C H' s' m ys I' hD p u A q z r B;rw[υ m p (fun h' n=>ac (ċ D) _ (I'.turned (bj hb (lW n b hb e)) u A (ķ q) z r) (B D hD))]
theorem bFg(S:KB u)(hc:bG)(hN:vK)(L:ŋ X.N y)
  (r:agG y=ki) (hi:yv j R)
  (hg:QN c d f u tg g) (ht:auj c d f u l W) (he:Yj c d f u U)
  (B:asu (agF j l) (ā (nP y Y)) k.line Ó=pure true:=by rfl)
  (hs:∀x,asP j Ó x=pure x:=by rw[Xl]):PS X (Yk [nP y Y] (agF j l) k) (aEb (aXp fr R g W U) (anP i)):=by
 intro n s Z H Dn I h;rw[aU (exec_Assign_Name_used _ _ _ _ B) (afl (ĵ ?_)),yz];refine ĵ (lX (a67 hs r hk hx hl
  (aIP (hi n s Z H _ I h) aW0)) (fun _ s' hq=>Å (Å hq)) EU)
 rw[ľ (a66 A) (brQ S hc hg ht he I2 T A f2 w ?_)];intro D C H' s' m ys I' hD K O q M p N P;refine a4j (bqF (v:=ċ D) I' hN L (Or.inl r) rfl (fun VN Q ⟨a,E,ha⟩=>⟨m,K.sameBut E ?_,fun h' F=>yL (Q.turned (bj hb (lW F b hb e)) O q (ķ M) p N) (P D hD)⟩) (ķ r));rw[fB ha]
 ·rw[Ĉ z q]
 ·exact iz (p y a z)
universe L2
namespace L2
open PySem PySem.Spec PyProof.Rows
abbrev bFh(P:aB)(w:ņ)(K:ĝ)(mg:bY)(base:Heap)(N:ğ)(qual:Str)(À:Ξ)(f:Addr)(cd:ě)(A:bJ)(Ï:ng)(s:Ĭ)(H:Hp):Cx:=af5 VO qual cd E0
theorem Inv.Oy(I:Ô)(f:aQ a)(k:aeY a=none)(j:a≠jf)(i:WW a)(h:ae6 aH5 a)(new:vJ vC Ĳ a o) :
  P8 vC s:=
 ⟨I.ok,I.os,JO,I.base.Oy f k,pf,ae8,nb j.symm PB,fun x c e=>nb (i x c e) (JK e),fun p b=>by
  rw[lT e n ne g d (ER b) e (BL (aK (h p b))) ne g d],I.Ν.Oy f new,ET⟩
universe L2
namespace L2
open PySem PySem.W PySem.Spec PySem.Calls PyProof.Rows PySem.Builtin PySem.Builtin.ObjectAttr PySem.Builtin.Getset_descriptor
section
variable {prog:Program} {w:World} {K:Frag} {x D:Addr} {M:Model} {h:Heap}
structure bVS(K:Frag)(D:Addr):Prop where
 ga:aKs "__getattribute__" = ā (ā (ja "BaseException.__getattribute__"))
 gt:aKs "__getattr__" = Kc
 mb:mroIn K D aHc=dX
 hd:hasDictIn K D=true
 fc:aKs "__class__" = ā (ā XM)
 sg:specialIn K XM "__get__" = ā a5x
 tk:takesIn K XM=dX
 mo:mroIn K D Wt=dX
universe E_
universe L2
namespace L2
open PySem PySem.Spec PyProof.Rows
structure Src(P:aB)(w:ņ)(ia la:Addr)(vs:jd)(S:tV):Prop where
 keep:∀k h h',S k h->(Xp ia (vE ia))->(Xp la (vE la))->S k h'
 there:∀k h,S k h->∃o xs,yM ia/\iu=o8 xs
 step:∀{A:bJ} {E:cF} {s:Ĭ} {Q:cF} (k:Nat) (x:ě),agH->auk->(aKu (S ŕ h') ia x) ->
  a68
 stop:∀{A:bJ} {E:cF} {s:Ĭ} {Q:cF} (k:Nat),dh->agH->lS vs k ->
  (aKt h' (FO ia h') (vE e))->a68
def sL(ia la:Addr)(vs:jd):tV:=fun k h=>aIJ ia la k/\h.IsList la vs
def sT(ia la:Addr)(vs:jd):tV:=fun k h=>aIK ia la k/\h.IsTuple la vs
theorem src_list(ne:a≠b):aKv (sL b a vs) where
 keep:=fun k h i agI n m=>⟨p.at n,q.at m⟩
 there:=a7a
 step:=aul x (wpAny_nextOf_list_item p q c a69)
 stop:=aul l (wpAny_nextOf_list_end l p q c f)
theorem bFi(p:a7f)(q:a7e)(f:auk)(g:∀e,e.IsTupleIter b a ŕ->Be b e->pG x e) :
  J4 (QO mr):=by
 rw[Ĩ ob d j c (id p)];obtain⟨ot,i,_,nn,h⟩:=q;rw[hL QO a7d,KF b 0 s (KE d c (x:=Ŝ) rfl ?_)];rw[yz];rw[Ř a7c,BM (KF b 1 s (KE d c (x:=eX 0) rfl ?_)) _ (aKy Ŝ) s (FP i h ?_),mi cI f,ż (KD d c (aKx (g _ ?_ KC)))];exact a7b d c j (by rw[aKw c];simp[pI])
theorem bFj(g:dh)(p:a7f)(q:a7e)(h:lS vs k)(i:aKt c (FO b c) (c.get? e)) :
  J4 (QO mr):=by
 rw[Ĩ ob f e2 d (id p)];obtain⟨ot,l,_,nn,j⟩:=q;rw[BM (hL QO a7d) _ (field _ 0) s (KE f d (x:=Ŝ) rfl ?_),yz];rw[Ř a7c,gq (aU yz (KE f d rfl ?_)) yz (FP l j ?_),mi cI h,k7 (Ym (KD f d ?_)) KG,a7h,ż Yl,k7 (agK aKA ?_) (ĺ Yl a7g)]
 first | rw[bK (A.in1.handled=none) g] | rw[g]
 rw[ż (Å (wpAny_throw (i _ _ (aKz KC) agJ)))]
theorem bFk(ne:a≠b):aKv (sT b a vs) where
 keep:=fun k h i agI n m=>⟨ED o e r p (n o e),ED o e r q (m o e)⟩
 there:=a7a
 step:=aul x (bFi p q c a69)
 stop:=aul l (bFj l p q c f)
theorem Src.ext(R:QP c b vs S)(q:S k h)(hs:Heap.ExtBut e h a)(f:c≠e)(d:b≠e):S k a:=R.keep k h a q (fun o z=>hs _ _ f z) (fun o z=>hs _ _ d z)
theorem bFl{S1:tV}{Q:cF}(D:aKJ)(i:aKI)(R2:aKH)(u:auw)(hU:auv)(hW:auu)(h1:aut)(h2:aus)(hx:ĳ VQ k x)(hy:ĳ OA k y)
  (hQ:∀g,Yn g (pI Ģ)->wC g W x y->S1 ŕ g->S2 ŕ g->wC g Ģ x y->g.objs.size=wa->aKG e (g.get? e=ĕ) dm g) :
  a7n a7m S:=by
 rw[gq (KF Z 2 _ (aup ?_)) KG (aup a7l),KG,FQ (hL aur (aup bq)),auq];rw[lZ (Ym (aup ?_)) (yO u g1 K r)]
 replace K:auo g1:=K
 rw[FQ (gq a7k KG (i.step k x (i.ext h1 agL D.i1z D.l1z) hx fun g2 r2 q=>bq))];have w2:=QQ _ _ D.TOi1 (agL _ _ D.TOz hW);rw[ż (aKE w2 g3 L p)]
 replace L:wC g3 W x d:=L
 rw[gq (lZ (QV bq) aKF) KG (R2.step k y (a7j agL QQ QR) hy fun g4 r4 m=>bq)];have Y:=QS D.TOi2 L;rw[ż (aKE Y f F l)]
 replace F:wC f W x y:=F
 rw[ż (QV (Å (t6 (FP F rfl (ĵ (aun ?_))))))];have sz:yN=Ģ:=by rw[l.1,m.1,p.1,q.1,r.1]
 rw[Ĕ X (KH aKD (QS D.i2z.symm (QR _ _ aKD (QQ _ _ aKC K)))) j (cX X),KG,FQ (hL aKB (yO (aw X) g7 J N))]
 replace J:Yn g7 _:=J
 refine yO J B C M
 replace C:Yn B _:=C
 have h:∀e o,e≠Z->f.get? e=ĕ->B.get? e=ĕ:=fun e o n z=>a7i n (aw z);have T8:=a7i (vT j) cw;have s8:B.objs.size=yN+1:=by rw[M.1,N.1,nE]
 rw[sz]at C T8 s8;refine Å QU;show Q _ _;rw[Ĉ sz (hQ B C (QT D.TOz F) (i.keep _ _ _ (i.ext (i.ext (i.ext r2 QR D.TOi1.symm D.l1TO) m.extBut D.i12 D.l1i2) l.extBut D.TOi1.symm D.l1TO) (aum D.i1z) (aum D.l1z)) (R2.keep _ _ _ (R2.ext r4 l.extBut D.TOi2.symm D.l2TO) (aum D.i2z) (aum D.l2z)) T8 s8 fun e o I H R O z=>h e o I ((fun e o I H R O z=>KH H (QS O (QR _ _ H (QQ _ _ R (agL _ _ I z))))) e o I H R O z))]
theorem bFm{P:aB}{w:ņ}{A:bJ}{s:Ĭ}{k:Nat}{S1 S2:tV}{c d:ě}(Y:dh)(D:a7r X S)(y:QP a X i S1)(R2:QP b S g S2)(r:auw)(hU:auv)(hW:auu)(h1:aut)(h2:aus)(u:lS i k\/lS g k)
  (hE:aKt I (∀f o,f≠Z->f≠W->f≠a->f≠b->cC f=ĕ->I.get? f=ĕ) (I.get? e)) :
  J4 a7m:=by
 rw[KF Z 2 _ (yQ r agM ?_)];rw[KF Z 3 _ (yQ r (ċ U) a7l),KI _ (aur (ċ Z)) _,a7q r];rw[auq];rw[lZ (Ym (yQ r (ċ W) ?_)) (yO r g1 v n)]
 replace v:auo g1:=v
 rw[FQ a7k,KI _ (QO Ŝ) _];cases F:i[k]? with
 | none=>
  rw[k7 (y.stop k Y a7p F (ń J e j H)) (Ė B l p H)];have M:auo J:=j _ _ aKC v;rw[a7o M g3 m ζ ζ (QS q (j _ _ C (Yo _ _ q z))) (QS K l)]
 | some x=>
  have hy:lS g k:=by rw[yP u,ŉ F];exact h
  rw[ż (y.step k x a7p F fun J r2 j=>bq)];have N:wC J W c d:=aKK D.TOi1 (Yo _ _ D.TOz hW);rw[lZ (aKE N g3 w3 m) (QV bq),BM (ż aKF) _ (QO mr) _ (R2.stop k Y (a7j Yo j.extBut m.extBut) hy (ń g4 e R H)),Ė B l p H];have L:auo g4:=R _ _ D.i2z.symm (QS aKD (aKK aKC v));rw[a7o L g5 O n2 n4 (O.extBut _ _ q (R _ _ n4 (QS n2 (aKK C (Yo _ _ q z))))) (O.extBut _ _ K l)]
theorem next_item{S1:tV}(D:aKJ)(H:aKI)(R2:aKH)(g:auw)(l:auv)(j:auu)(p:aut)(n:aus)(i:ĳ VQ k x)(h:ĳ OA k y)
  (m:∀f,Yn f (pI Ģ)->wC f W x y->S1 ŕ f->S2 ŕ f->wC f Ģ x y->yN=wa->aKG e (f.get? e=ĕ) (yR Ģ) f) :
  aux Z:=by
 have T:Yp Z rA:=dY g;rw[t_ FM (ĵ (a7s (bFl D H R2 g l j p n i h fun f C B z v u r q=>Å (m f C B z v u r q))))]
theorem bFn{S1:tV}(n:dh)(D:aKJ)(y:aKI)(R2:aKH)(i:auw)(r:auv)(q:auu)(x:aut)(v:aus)(g:lS VQ k\/lS OA k)
  (u:∀h,aKG f (yM f) none h):aux Z:=by
 have T:Yp Z rA:=dY i;rw[hL FM (a7s (bFm n D y R2 i r q x v g (ń h e m p))),gj o l j p (ĵ (agN (cY l j) auy (Å (u _ m))))]
def aXq(t:Bool)(h:Heap)(l:Addr)(vs:jd):Prop:=Ρ t ă (h.IsList l vs) true (h.IsTuple l vs)
def sK(t:Bool)(ia la:Addr)(vs:jd):tV:=Ρ t ă (sL ia la vs) true (sT ia la vs)
theorem adp(t:Bool)(ne:a≠b):aKv aKL:=by
 cases t
 ·exact src_list ne
 ·exact bFk ne
def bFo:Bool->jZ | ă=>auz | true=>aKM
abbrev aXr(t:Bool)(l:Addr):Obj:=gW (bFo t) (o8 #[pE,ŭ 0])
abbrev adq(h:Heap)(t1:Bool)(l1:Addr):Heap:=h.push (aXr t1 l1)
abbrev brR(h:Heap)(t1 t2:Bool)(l1 l2:Addr):Heap:=rB (adq h t1 l1) (aXr t2 l2)
abbrev brS(h:Heap)(t1 t2:Bool)(l1 l2:Addr):Heap:=rB a7t (EJ aC #[ċ o7,auA (adq h t1 l1)])
abbrev aXs(h:Heap)(t1 t2:Bool)(l1 l2:Addr):Heap:=rB a7u (EJ aC #[Ġ,Ġ])
abbrev brT(h:Heap)(t1 t2:Bool)(l1 l2:Addr):Heap:=rB (aXs h t1 t2 l1 l2) (gW rA (o8 #[Ġ,agM,agM,auA a7t,auA a7u]))
theorem bFp(t1 t2:Bool)(l1 l2:Addr)(VQ OA:jd):Meets (Builtin.«zip.__new__» ⟨[Ì rA,ċ l1,ċ l2],[]⟩) (fun ζ R s=>Yr t1 l1 VQ/\Yr t2 l2 OA/\Yq (auA (aXs Ĳ t1 t2 l1 l2)) (fE (brT Ĳ t1 t2 l1 l2))):=
 .of_wp fun P w A R s h=>by
  rw[aT h0 g0 d0 k0 o0 s (Ė q1 q2 h h)];have bFq:=sub_zip;rw[FR t1 t2]
  ·rw[auB (a7y (a7x auz (J7 e1)))]
  ·rw[auB (a7y (a7v auz (J7 e1)))]
  ·rw[auB (a7w (a7x aKM (asK e1)))]
  ·rw[auB (a7w (a7v aKM (asK e1)))]
theorem aXt(e:b.get? d=ā (aXr t a))(q:aKN)(k:∀c o,yM c->b.get? c=ĕ):sK t d a vs 0 b:=by
 cases t
 ·rw[Į (Ys e) (Heap.IsList.at q fun o z=>k _ o z)]
 ·rw[Į (Ys e) (ED o z r q (k _ o z))]
theorem bFr(b e:Bool)(u:Yr b a i)(r:Yr e d g)
  (h:∀f,IsZip f (Ģ+4) (Ģ+2) (Ģ+3) Ġ->wC f (Ģ+2) dm (ċ jo)->wC f (Ģ+3) Ġ Ġ->sK b Ģ a i 0 f->sK e jo d g 0 f->yN=Ģ+5 ->
   (∀c o,cC c=ĕ->f.get? c=ĕ)->pG (ċ (Ģ+4)) f):J4 (call (Ì rA) [Ŝ,ċ d]):=by
 refine callType_new F.called_zip Đ (F.typeCall_zip_2 _ _) (F.newCall_zip_2 _ _) (fun j=>F.args_object_init_3 j _ _) F.entry_zip_new (bFp b e a d i g) (iM u r);have n:a7z=wa:=ags;have m:a7A=Ģ+2:=ŷ nE n;have l:a7B=Ģ+3:=ŷ nE m;have k:a7C=Ģ+4:=ŷ nE l;have q:agO a7C=Ε:=cw;have v:agO a7B=Ε:=Yg;have x:agO a7A=Ε:=ry cw;have y:agO a7z=Ε:=ry Yg;have p:∀c o,cC c=ĕ->agO c=ĕ:=fun c o z=>ry (ry (aw z));show _/\_;rw[m,l,k]at q;rw[n,m]at x;rw[nh (gb l v (Ę n y k)) (dY q) (h _ q x v (aXt (ry (ry cw)) u p) (aXt y r p) (ŷ nE k) p)]
universe L2
namespace PySem.SeqAt
open AutoSeq1 (wpAny_loadPart')
open MeetsSeq MeetsSeq2 MeetsSeq3 SeqRoads2
theorem bFs(f:Nat->β->Sem (ForInStep β))(I:ė->lY β)(Q:lY β)
   (turn:∀x rest b s,I (x::rest) b s->Xe (f x b) (fun r c=>Ρ r (.yield b') (I rest b' c) (.done b') (Q b' c)) E s)
  (fin:∀b s,I [] b s->Q b s) (h:I (aKO 0 n 1) b s):JR (forIn [:n] b f):=by
 rw[Std.Legacy.Range.forIn_eq_forIn_range'];have a:([:n]:Std.Legacy.Range).size=n:=bg Std.Legacy.Range.size;show Xe _ Q E s;rw[Ĉ a (wpAny_forIn_list f I Q turn fin _ b h)]
theorem bFt(l:Addr)(eP:jd)(n:Nat)(dd:JS)(v:FT lL)(x:ě)(e:ſ ě)(j:Nat)(hj:j<pJ)
  (p:e eP[j]=true) (o:∀m (f:m<pJ),m<j->e eP[m]=ă) :
  Meets (Builtin.«tuple.index» ⟨[pE,x],[]⟩)
   (fun A R s=>cC l=ā (aKP aC dd eP n v) /\ (∀y,y∈eP->EqAt rC s y x (e y))/\Yq (aj f_) asU):=
 .of_wp fun c w A R s h=>by
  rw[aT B g d u z s (Ė C E h h)]
  wp_walk using wpAny_loadPart' C,bFs _ (fun rest b k=>b.1=none/\k=⟨B,g,d,u,z⟩/\∃i,i<=j/\rest=aKO i (pJ - i) 1) _
  case turn=>
   rintro i rest b k ⟨hb,rfl,r,OB,hr⟩;rw[a7D r,đ rfl rfl (QW hr),pK a (i<pJ) (show ŋ eP eP[i] by simp[a]),au (ż (E _ (Array.getElem_mem a) c w _ _ ?_)) q (i=j)]
   ·rw[ş q p]
    wp_walk
    exact auC
   ·rw[o i a Ă]
    wp_walk
    exact⟨rfl,rfl,i+1,Ě,a7E⟩
  case fin=>
   rintro⟨b1,b2⟩ k ⟨hb,rfl,i,hi,hr⟩;rw[a7D i];cases hr
  case h=>
   exact⟨rfl,rfl,0,cg,Ğ⟩
theorem brU:∀(a:ī PyData) (b:Œ) (c:Ň),auE a=true->ReadsAll h b a c->iH=ad/\∀m (i:m<iH) (g:m<ad),QX (readOf h b[m]) d=QX a[m] d:=by
 intro a b c f r;have e:=readsAll_map a b c f r;refine⟨(by rw[←e,Ċ]),ġ m i g⟩;congr 1;rw[ş e auD]
set_option tactic.hygienic true in
theorem bFu(B:Reads s.heap c (.list xs) O)(z:Reads s.heap x d bs)(a:PyData.canLayAll0 xs=true)(K:d.canLay0=true)
  (C:A.units+1+min (PyData.depthAll xs) d.depth<cLine) (J:j<xs.length) (b:(j:Int)<2^63 - 1) (i:PyData.eqv xs[j] d=true) (f:∀m (F:m<xs.length),m<j->PyData.eqv xs[m] d=false) (h:Q (.int j s.toks) {s with toks:=s.toks+1}):wpAny (model prog w) A (call (.builtin "list.index") [c,x]) Q E s:=by
 cases B with
 | list u r q p=>
  rename_i l o e n N;obtain⟨M,L,v,y⟩:=o;simp at r q;subst r q;obtain⟨I,k⟩:=brU xs e.toList _ a p;have H:e.size=xs.length:=by rw[←I];simp
  refine PySem.call_meets PySem.F.slot_list_index ⟨_,u,rfl⟩ PySem.F.entry_list_index (PySem.F.args_list_index_2 _ _)
   (list_indexAt l e _ L y x _ j (by omega) b ?_ ?_) ⟨u,items_eqAt p z a K C,h⟩
  ·rw[←i];exact k j (by omega) J
  ·intro m F g;rw[←f m (by omega) g];exact k m (by omega) (by omega)
set_option tactic.hygienic true in
theorem bFv(B:Reads s.heap c (.tuple xs) M)(z:Reads s.heap x d bs)(a:PyData.canLayAll0 xs=true)(J:d.canLay0=true)
  (C:A.units+1+min (PyData.depthAll xs) d.depth<cLine) (I:j<xs.length) (g:PyData.eqv xs[j] d=true) (e:∀m (i:m<xs.length),m<j->PyData.eqv xs[m] d=false) (h:Q (.int j s.toks) {s with toks:=s.toks+1}):wpAny (model prog w) A (call (.builtin "tuple.index") [c,x]) Q E s:=by
 cases B with
 | tuple u r q p=>
  rename_i l o b n;obtain⟨L,K,v,y⟩:=o;simp only at r q;subst r q;obtain⟨H,k⟩:=brU xs b.toList _ a p;have F:b.size=xs.length:=by rw[←H];simp
  refine PySem.call_meets PySem.F.slot_tuple_index ⟨_,u,rfl⟩ PySem.F.entry_tuple_index (PySem.F.args_tuple_index_2 _ _)
   (bFt l b _ K y x _ j (by omega) ?_ ?_) ⟨u,items_eqAt p z a J C,h⟩
  ·rw[←g];exact k j (by simpa using(by omega:j<b.size)) I
  ·intro m i f;rw[←e m (by omega) f];exact k m (by simpa using i) (by omega)
universe PySem.SeqAt
namespace PySem
theorem aKR(a b:Int):aKQ a b (-1)=İ (b<a) (a - b) 0:=by
 unfold aKQ;simp
theorem small_down(ha : vU<=a)(d:a<2^62)(hb : vU<=b)(c:b<2^62):a7F a b (-1)=true:=by
 rw[š a7F aKR];simp only[Builtin.Range.rangeFitsLong,ĥ,pL,aX,ř,Yt (¬((-1:Int)>0)),ro];rw[BN]
universe PySem
namespace L2
open PySem PySem.Spec PyProof.Rows
def aEp(hi:Int)(n:Nat):It:=aIG n x (x=ć (hi - i))
theorem bFw{K:ĝ}(it:Addr)(hi:Int)(n:Nat):a4K (aEp hi n) hi (-1) where
 mem:=Ğ
 obj:=fun i h st b a=>by
  rw[PH a];exact⟨_,st,fun v z=>by
   have F:=z;cases F⟩
 keep:=a4J
 item:=by
  rw[asJ,a4I hi (-1)];refine τ _ (a4H _ a);rw[ź (hi+_*(-1)=hi - i)]
 done:=by
  rw[asJ];exact a4G
 self:=a4F
theorem bFx{X:Cx}{tg:Expr}{pins:Ã}{σ:St}{H:Hp}{s:Ĭ}{R:asF}{E:cF}{lo hi:Int}{t u v:Tok}{tk:Nat}(I:Ô)(h1 : vU<=lo)(h2:lo<2^62)(h3 : vU<=hi)(h4:hi<2^62)
  (q:R (aEp lo aKS) H):a4T pins (-1):=by
 rw[a4S (small_down h1 h2 h3 h4) I1 pins (-1)];refine⟨(Xr (-1)),[Xr (-1)],_,_,H,rfl,
  I1.kept (t':=tk) Bk,bFw _ lo aKS,?_,Ĝ b hb,q⟩
 ·have e1:lo+J8*(-1)=lo:=Ğ;rw[a4Q e2 lo hi (-1) aKR (Ĵ aKS - J8),e1,e2];exact cw
 ·rw[P_ b (Xr (-1)) hb];exact I1.u_ Ķ (I1.Ν.fresh Ķ)
def bFy(ta:TA):TI:=a4U [ĭ,aj,ć (-1)] (aEp i (J_).toNat)
theorem bFz(a:Int):Builtin.divisionGoesByPylong a (-1)=ă:=PyProof.noPylong_small Ă
theorem bFA{X:Cx}{tg:Expr}{a b c:Expr}{ta:TA}{p pos:Pos}(hg:Xu)(hm:Xs)(ha:PA X QY ta)(hs:Bl QY=[vV a,vV b,vV c])(brV:Bl [b,c]=[vV b,vV c]) :
  asM QY (bFy ta):=by
 rw[aft pins σ hg hm aIN a7G vs H1 I1 r1 q1 (ŷ hs brV) (Η brV)];obtain⟨i,j,e,⟨q1,q2,q3,q4⟩,q⟩:=q1;subst e;cases r1 with
 | cons r rr=>
  cases rr with
  | cons r' rr=>
   cases rr with
   | cons bFB rr=>
    rw[Qa rr t r (đ t' rfl r')];rw[nv bVT bFB (call_range_3 Đ (bFx I1 q1 q2 q3 q4 q) (Or.inl (bFz _)))]
universe L2
namespace L2
open PySem
set_option genInjectivity true in
inductive mS where
 | i (n:Int) | s (x:Str) | t (l:List (Sum Int Str))
 deriving DecidableEq
inductive Bi where
 | len | min | max | sum | sset | int | str | tuple | list | all | any
 deriving agP
inductive Mt where
 | ID | index | get
 deriving agP
inductive Tg where
 | one (i:Nat) | many (is:ė)
set_option genCtorIdx false in
inductive ME where
 | var (i:Nat) | int (i:Int) | bl (b:Bool) | str (x:Str) | ę | oS (x:Str)
 | bin (op:Operator) (a b:ME) | neg (a:ME)  | not (a:ME)
 | cmp (op:CmpOp) (a b:ME) | chain (op aEq:CmpOp) (a b c:ME)
 | and (es:List ME) | or (es:List ME)
 | lst (es:List ME) | tup (es:List ME)
 | ix (a b:ME) | sl (a lo hi:ME) | IE (a lo:ME) | slt (a hi:ME)
  | call (f:Nat) (es:List ME)    | bi (f:Bi) (es:List ME) | OC (a:ME) (ts:List Str) | AG (m:Mt) (a:ME) (es:List ME)
 | comp (elt:ME) (tg:Tg) (it:ME) (fr:List (Option Nat)) | IF (elt:ME) (tg:Tg) (it c:ME) (fr:List (Option Nat))
  | OD (a k:ME)
 | aEr (i:Nat) (k:ME)   | aXu (i:Nat) (xs:List (Str×Nat)) (es:List ME)
 | aEs (a:ME) (N:List Str) (np:Nat) (lb:ME) (fr:List Nat) | ite (c a b:ME) | an3 (b:ME) | zp (a b:ME)
 | aEt (a:ME) (N:List Str) (np:Nat) (lb:ME) (fr:List Nat) | self (np nc:Nat) (es:List ME) | aEu (x y:Str) (a b:ME)
 | idx (a b:ME)
 | adr (f:Nat) (es:List ME) | aEv (f:Nat) (a b:ME) (N:List Str) (np:Nat) (lb:ME) (fr:List Nat)
 | bT (a b:ME) | ads (a lo hi:ME) | fld (i:Nat) (b:Bool) | an4 (i m:Nat) | aXv (b:ME)
 | fmt (a:ME) | fst (es:List ME) | brW (a b:ME) | aEw (a b:ME) | brX (a b:ME)
 | fw (es:List ME) | sW (a:ME)  | adt (a:ME)
def ME.ctorIdx(x:ME):Nat:=by rw[aeK,aeJ,arK,aHH];exact 12;exact 13;exact 14;exact 15;exact 16;exact 17;exact 18;exact 19;exact 20;exact 21;exact 22;exact 23;exact 24;exact 25;exact 26;exact 27;exact 28;exact 29;exact 30;exact 31;exact 32;exact 33;exact 34;exact 35;exact 36;exact 37;exact 38;exact 39;exact 40;exact 41;exact 42;exact 43;exact 44;exact 45;exact 46;exact 47;exact 48;exact 49;exact 50
structure AK where
 N:ğ
 np:Nat
 body:ME
 fn:ğ
 bl:ğ
 cl:ğ
set_option genInjectivity true in
set_option genCtorIdx false in
inductive DV where
 | ę | bl (b:Bool) | int (i:Int) | str (x:Str) | tup (ds:List DV) | lst (ds:List DV) | dJ (ks:List mS) (vs:List DV)
 | fn (x:Str)
 | lam (m:AK) (ds:List DV)
 | fx (ns:List Int)
def DV.ctorIdx(x:DV):Nat:=WN aeK aeJ arK
inductive Cl where
 | weak | top | č | mw
 deriving agP
set_option genInjectivity true in
inductive Re where
 | ok (d:DV) (c:Cl)
inductive Rs where
 | ok (l:bu)
inductive Rt where
 | ok (b:Bool)
set_option genInjectivity true in
inductive Sv where
 | no | val (d:DV) | own (d:DV)
 | od (d:DV)
set_option genInjectivity true in
inductive Ou where
 | v (d:DV) (fr:Bool)
inductive Out where
 | nx (δ:ē) | rt (d:DV) (fr:Bool) | jU (d s:DV)
set_option genCtorIdx false in
inductive MS where
 | set (i:Nat) (own:Bool) (e:ME)
  | aug (i:Nat) (e:ME) | app (i:Nat) (e:ME) | ext (i:Nat) (e:ME) | aXw (i:Nat) (k e:ME)
 | exp (e:ME) | ret (e:ME)  | iff (c:ME) (a b:List MS) | fo (tg:Tg) (it:ME) (body:List MS) | wh (c:ME) (body:List MS)
  | aXx (i:Nat)
 | sep (i:Nat) | aEx (i:Nat) (ks:List ME) (e:ME)
 | adu (is:List Nat) (e:ME)
 | VR (i:Nat) (e:ME) | an5 (i m:Nat) (es:List ME) | adv (j i m:Nat) (es:List ME) | jU (i:Nat) (e:ME) | an6 (i m:Nat) (x:Str) | an7 (i:Nat) (e:ME) | OE (j i:Nat)
 | adw (body:List MS)
 | OF
 | aEy (i:Nat) (fr:List Nat) (es:List ME)
def MS.ctorIdx(x:MS):Nat:=by rw[aeK,aeJ,arK,aHH];exact 12;exact 13;exact 14;exact 15;exact 16;exact 17;exact 18;exact 19;exact 20;exact 21;exact 22;exact 23
structure OG where
 N:ğ
 np:Nat
 nc:Nat
 body:dZ
structure FD where
 n:Nat
 np:Nat
 vc:Ħ:=[]
 i6:auF:=none
 body:dZ
def aY(r:Ĺ)(k:BO Ĺ):Ĺ:=match r with
 | none=>none
 | wE=>QZ
def BP(r:nQ)(k:Yu):Ĺ:=match r with
 | none=>none
 | ug=>k l
def Q0(r:KJ)(k:Bool->Ĺ):Ĺ:=match r with
 | none=>none
 | ā (.ok b)=>k b
def Re.bFC(r:Ĺ)(k:BO KJ):KJ:=match r with
 | none=>none
 | wE=>QZ
mutual
def DV.IG:yS
 | .ę=>true | ny=>true | iJ=>true | mh=>true | BR=>true | FV=>true
 | ο=>Yv
 | qV=>ă
 | FU=>ă
 | .dJ _ vs=>BQ vs
def BQ:auG
 | []=>true
 | d::r=>d.IG&&BQ r
end
mutual
def agQ:yS
 | FU=>ă
 | ο=>e_ ds
 | Ŧ=>e_ ds
 | .dJ _ vs=>e_ vs
 | _=>true
def e_:auG
 | []=>true
 | d::r=>FW&&e_ r
end
def f6(d:DV):ſ Cl
 | .č=>true | Ŋ=>true | _=>d.IG
def xS(l:bu):Bool:=Q1 fun p=>f6 p.1 p.2
def Cl.item:Cl->Cl
 | cJ=>cJ | _=>.č
def Yw:Cl->Cl->Cl
 | cJ,_=>cJ | _,cJ=>cJ | _,_=>Ŋ
def Ū:Nat:=Q2
mutual
def jV:DV->yS
 | .ę,.ę=>true
 | .bl a,o5=>a==b
 | .bl a,aj=>(rn a)==j
 | ĭ,o5=>i==(rn b)
 | ĭ,aj=>i==j
 | agR,.str b=>bF a b
 | Ē a,Ē b=>OH a b
 | .lst a,.lst b=>OH a b
 | _,_=>ă
def OH:Ħ->auG
 | [],[]=>true
 | a::r,b::s=>jV a b&&OH r s
 | _,_=>ă
end
mutual
def KL:Nat->yS
 | _,.ę=>true | _,ny=>true | _,iJ=>true
 | _,ő=>a7H
 | 0,_=>ă
 | n+1,ο=>KK n | n+1,Ŧ=>KK n
 | _,_=>ă
def mx:Nat->auG
 | _,[]=>true
 | n,d::r=>agS&&mx n r
end
def yT:uh Bool
 | .ę=>nz
 | o5=>fb
 | ĭ=>ā (i != 0)
 | ő=>ā (FX != 0)
 | ο=>ā (!agT)
 | Ŧ=>ā (!agT)
 | _=>none
def mT(n:Nat)(i:Int):Ko:=a54
def VS(ds:Ħ)(i:Int):yU:=Ź (auH i) j ds[j]?
def AL(k:mS):KM->pM DV
 | k'::ks,v::vs=>İ (k'=k) nA aKT
 | _,_=>none
def putD(k:mS)(d:DV)(ks:KM)(vs:Ħ):auI:=
 if k∈ks then(ks,Ĥ (ks.zip vs) p (İ Q4 d p.2))else(ks++[k],vs++[d])
def DZ:DV->fL
 | ĭ=>aV
 | _=>none
def aXy:DV->pN
 | .lst i=>aV
 | _=>none
def adx(a:DV)(i:Int):yU:=match a with
 | BS=>aKV KN i ns
 | Ŧ=>auJ
 | ο=>auJ
 | g9=>Ź (mT aKU i) j (Ĥ z.cps[j]? c X6)
 | _=>none
def qL(a b:DV):yU:=aKW b (adx a)
def ady(n d:Nat):fL->Nat
 | none=>d
 | j0=>a5Z
def cutD(ds:Ħ)(lo hi:fL):Ħ:=f9 (auK (ady ŧ 0 lo)) (ady ŧ ŧ hi - ady ŧ 0 lo)
def adz(a:DV)(lo hi:fL):yU:=match a with
 | Ŧ=>ā (.lst (agU lo hi))
 | _=>none
def aXz(a:DV)(c:Cl):Cl:=Q5
def xT(i j:Int):Bool:=(a7I i)||(a7I j)||(kh (KO 2000)&&ü auL (2^2000))
def adA(op:E3)(a b:DV)(ca cb:Cl):Ĺ:=match op with
 | .Add=>match a with
  | ĭ=>yV b j (Ç (i+j))
  | .lst x=>Ź (aXy b) y (ō (cK+ky<=Ū) (.ok (.lst (x++y)) (Yw ca cb)))
  | _=>none
 | .Sub=>FY (Ç J_)
 | .Mult=>match a with
  | ĭ=>yV b j (if auO then Ç (i*j)else none)
  | _=>none
 | .Mod=>auM (0<j) (i%j)
 | auN=>auM (0<j/\j<2^200) (i/j)
 | Xy=>auM a44 (i*Yx)
 | asS=>auM (0<=j) (i/Yx)
 | XB=>FY (Ç (XA i j))
 | Xz=>FY (Ç (yx i j))
 | afB=>FY (Ç (afA i j))
 | _=>none
def brY:uh Bool
 | rD=>aV
 | _=>none
def adB:yS
 | .ę=>true
 | _=>ă
def D7(c:Nat):ė->ui
 | []=>[[]]
 | a::r=>if a=c then[]::rF r else match rF r with
  | x::t=>(a::x)::t
  | []=>[[a]]
def OI(c:Nat)(l:ė):Int:=if Q6 c<Ű then(Q6 c:Nat)else -1
def adC:yS
 | mh=>true
 | _=>ă
def an8(x y:DV):yU:=match x,y with
 | ő,ma=>(Yy Q7 [c] (ā (ć (OI c wF))))
 | _,_=>none
def aXA(x y:DV):yU:=match x,y with
 | ő,ma=>(Yy Q7 [c] (ō (cK<=Ū) (Yz (rF wF) p (.str aKX))))
 | _,_=>none
def Q8:pM ğ
 | []=>FZ
 | ő::r=>(Q8 r).map (x :: ·)
 | _=>none
def aXB(x y:DV):yU:=match x,y with
 | .str s,Ŧ=>(Ρ (Q8 ds) (ā ys) (yW ((ys.map YA).sum+auc*F0<=Ū) (.str (my s ys))) none none)
 | _,_=>none
def VT(z:Str)(i j:Nat):Str:=⟨(tu aKY)⟩
def OJ(n:Nat)(v:Int):Int:=max 0 (min (İ (v<0) (v+n) v) n)
def bFD(x y w:DV):yU:=match x,y,w with
 | g9,ĭ,BU=>ō (0<=i/\i<=Q9) (.str (VT z Qx auP))
 | _,_,_=>none
def aXC(x y:DV):yU:=match x,y with
 | tZ,.str j=>ō (XE+Fg<=Ū) aI4
 | _,_=>none
def an9(x y:Str):agV:=match Q7 with
 | [c]=>ā (kh (c∈wF))
 | _=>none
def aXD:uh Str
 | tZ=>aV
 | _=>none
def AM(op:F1)(a b:DV):agV:=match op with
 | .Lt=>FY (ā (ü i j))
 | .LtE=>FY (ā (aq i j))
 | .Gt=>FY (ā (ü j i))
 | .GtE=>FY (ā (aq j i))
 | .Is=>match b with
  | .ę=>ā (adB a)
  | .bl j=>Ź (brY a) i (ā (i==j))
  | _=>none
 | .IsNot=>match b with
  | .ę=>ā (!adB a)
  | _=>none
 | .Eq=>ō a7J (jV a b)
 | agX=>ō a7J (!jV a b)
 | .In=>match b with
  | ő=>Ź (aXD a) y (an9 x y)
  | _=>none
 | agW=>match b with
  | ο=>ō (auQ&&YB) (!ds.any fun d=>jV d a)
  | ő=>Ź (aXD a) y (Ĥ (an9 x y) b (!b))
  | _=>none
def lJ:pM Ď
 | []=>FZ
 | ĭ::r=>(lJ r).map (i :: ·)
 | _=>none
def D9:pM BV
 | []=>FZ
 | rD::r=>(D9 r).map (i :: ·)
 | _=>none
def aEz:Int->Ď->Int
 | m,[]=>m
 | m,x::r=>uj (İ (x<m) x m)
def insI(x:Int):Ď->Ď
 | []=>[x]
 | y::r=>İ (x<y) YC (y::KP r)
def k8:Ď->Ď
 | []=>[]
 | x::r=>KP (k8 r)
def dk(σ:Ď)(k:Int):Ď:=İ (k∈σ) σ (σ++[k])
def D'(i:Int):Int:=if i=0 then 0 else(as5:Int)+1
def one{α:Type}(l:bu)(f:BO Kq):Kq:=match l with
 | [F3]=>f d c
 | _=>none
def two{α:Type}(l:bu)(f:DV->uh α):Kq:=match l with
 | [(d,_),(e,_)]=>f d e
 | _=>none
theorem aXE{f:BO Kq}(h:one l f=Û):∃d c,l=[F3]/\f d c=Û:=by
 rw[cM one]
 ·exact yL rfl h
 ·cases h
theorem bFE{f:DV->uh α}(h:two l f=Û):∃d c e k,l=[F3,(e,k)]/\f d e=Û:=by
 rw[cM two]
 ·exact a7K
 ·cases h
def aoa:DV->Ko
 | Ŧ=>ā ŧ
 | ο=>ā ŧ
 | BS=>ā KN
 | g9=>ā jr
 | _=>none
def brZ(l:bu):Ĺ:=a7L (aoa d)
def br0:Ď->Ĺ
 | n::r=>Ç (uj n)
 | _=>none
def minD(l:bu):Ĺ:=match l with
 | [(d,_)]=>Ź (aXy d) ds ((lJ ds).bind br0)
 | l=>a7M (j<i)
def br1{α:Type}(n:Nat)(c:Nat->F4):PySem.W.KasT α->Kq
 | .ret a=>aR
 | agY=>if i<n/\j<n then auR (k (c i j))else none
def aob(ks:Ď):ś ė:=if jy<2 then ā agZ else(br1 jy (fun i j=>ü (BW i 0) YD) (PySem.W.kas_sort jy)).map Array.toList
def gM{α:Type}(x:α)(ix:ė)(l:di):di:=ix.map fun i=>Q_ x
def IH:ſ Ď
 | []=>true
 | a::r=>match r with
  | []=>true
  | b::_=>aq a b&&IH r
def D_(ks:Ď):ś ė:=İ (jy<64) (aob ks) (ō (IH ks=true) agZ)
def maxD(l:bu):Ĺ:=a7M (j>i)
def aEA:Yu
 | [auS]=>match lJ ds with
  | ā ns=>ō (KN<4000/\Ra (ns.foldl dk [])) (nR (YE (k8 (ns.foldl dk []))))
  | none=>none
 | _=>none
def aXF:Yu
 | [auS]=>Ĥ (lJ ds) ns (pO (ć ns.sum))
 | _=>none
def aEB:Yu
 | [auS]=>a7N auT
 | _=>none
def aEC:Yu
 | [auS]=>a7N auU
 | _=>none
def adD(x:Str):fL:=match wF with
 | [a]=>ō (ag0 a) (Ĵ (a - 48))
 | kr=>ō (48<=a/\a<=57/\ag0 b) (Ĵ ((a - 48)*10+(b - 48)))
 | _=>none
def inD:DV->fL
 | ĭ=>aV
 | o5=>ā (rn b)
 | ő=>adD x
 | _=>none
def intD(l:bu):Ĺ:=a7L (inD d)
def br2(l:bu):Ĺ:=one l fun d _=>yV d i (if KO 64 then È (.str (auV i))else none)
def br3(l:bu):Ĺ:=one l fun d c=>match d with
 | Ŧ=>ā (.ok Ŧ Q5)
 | ο=>ā (.ok Ŧ Q5)
 | _=>none
def br4(l:bu):Ĺ:=one l fun d c=>match d with
 | Ŧ=>ā (.ok ο ag1)
 | ο=>ā (.ok ο c)
 | _=>none
def bFF(f:Bi)(l:bu):Ĺ:=match f with
 | .len=>brZ l
 | .min=>minD l
 | .max=>maxD l
 | .int=>intD l
 | .str=>br2 l
 | ag2=>br4 l
 | wj=>br3 l
 | .all=>aEB l
 | .any=>aEC l
 | .sset=>aEA l
 | .sum=>aXF l
def bFG:ſ Bi
 | .len=>true | .min=>true | .max=>true | .int=>true | .str=>true | ag2=>true | wj=>true | .all=>true | .any=>true | .sset=>true | .sum=>true
def aED(m:Mt)(a:DV):Ĺ:=match m,a with
 | .ID,ĭ=>Ç (D' i)
 | _,_=>none
def VU:Str:=arE
structure Gs where
 con:ag4
 adE:ğ:=[]
 II:ğ:=[]
 IJ:ğ:=[]
 i6:auF:=none
 gk:ag4:=[]
 vc:ag3 Ħ:=[]
 aoc:Int:=-1
 aod:Bool:=ă
 Ea:Ť:=aS ζ none
def bFH:DV->ğ
 | .ę=>[Qj]
 | ny=>[we,jm]
 | iJ=>[jm]
 | mh=>[jn]
 | F6=>[aC]
 | qV=>[Ò]
 | F5=>[mq]
 | _=>[]
def aoe:ğ:=F7
def aof(G:Gs)(d:DV)(ts:ğ):agV:=match d with
 | FV=>none
 | BR=>none
 | FU=>none
 | d=>match ts with
  | [t]=>ō (KQ t) (Rb t)
  | [t,u]=>ō (KQ t&&KQ u) (Rb t||Rb u)
  | _=>none
def upTo(lo:Int)(n:Nat):Ħ:=wG uk i (É (lo+i))
def Eb(lo:Int)(n:Nat):Ħ:=wG uk i (É (lo - i))
def oT(i:Int):Bool:=aq vU i&&ü i (2^62)
def wH(y:DV):Ħ->Ko
 | []=>none
 | d::r=>if jV d y then ā 0 else(wH y r).map (· + 1)
def adF:yS
 | qV=>true | F6=>true | _=>ă
def IK(x y:DV):yU:=match x with
 | Ŧ=>a7O
 | ο=>a7O
 | _=>none
def br5:Ď->pN
 | [j]=>KR a7P (Rf asL)
 | [i,j]=>KR (auX i j Ū) (upTo i aIM)
 | [i,j,k]=>KR (aKZ Ū k) auW
 | _=>none
def aXG(l:bu):pN:=(lJ br).bind br5
def i7:Nat->Ħ->Ħ
 | _,[]=>[]
 | k,d::r=>Ē [eX,d]::i7 ŕ r
def sX:Ħ->Ħ->Ħ
 | a::r,b::s=>Ē kr::sX r s
 | _,_=>[]
def Cl.meet:Cl->Cl->Cl
 | cJ,_=>cJ | _,cJ=>cJ | .top,_=>.top | _,.top=>.top | _,_=>.č
def aog:uh (Bool×Ħ)
 | Ŧ=>mZ ă ds
 | ο=>mZ true ds
 | _=>none
def aXH(x:DV)(c:Cl):Ĺ:=match aog x with
 | BX xs=>ā (.ok (.lst (i7 0 xs)) (YF c))
 | _=>none
def aXI(x y:DV)(c c':Cl):Ĺ:=match aog x,aog y with
 | BX xs,BX ys=>ā (.ok (.lst (sX xs ys)) (YF c'))
 | _,_=>none
def aXJ:mS->ś ul
 | .t (YG a b)=>mZ a b
 | _=>none
def VV:KM->pM yX
 | [],[]=>FZ
 | k::ks,v::vs=>Ź (aXJ k) p (yV v i ((VV ks vs).map ((p,i) :: ·)))
 | _,_=>none
def aXK(x:DV)(c:Cl):Ĺ:=match x with
 | ag5=>a7Q c ks.isEmpty ks vs
 | _=>none
def aEE:uh auI
 | ag5=>mZ ks vs
 | _=>none
def tT:DV->pN | Ē l=>ā l | _=>none
def aXL:pM ul
 | kr=>yV a i (Ĥ (DZ b) j (i,j))
 | _=>none
def aXM(d:DV):ś ul:=(tT d).bind aXL
def VW:pM DV
 | [a]=>aR
 | _=>none
def aXN(o:rG):ś auI:=match o with
 | auY=>Ź (tT d) l ((VW l).bind aEE)
 | _=>none
def aEF(k:mS)(ks:KM)(vs:Ħ):Ĺ:=Ź aKT v (Ĥ (DZ v) i (pO ĭ))
def br6(p:auI)(y:DV):Ĺ:=match y with
 | eX=>aEF (.i k) p.1 p.2
 | y=>Ź (aXM y) q (aEF (ag6 q) p.1 p.2)
def bFI(x y:DV):Ĺ:=Ź (aEE x) p (br6 p y)
def aEG(x:DV)(c:Cl)(y:DV):Ĺ:=match y with
 | ag7=>if c=.č then Ź (aEE x) p (yY (AL (.s k) p.1 p.2)) else none
 | y=>bFI x y
def aXO(ks:KM)(vs:Ħ)(y:DV):Ĺ:=Ź (aXM y) q (aEF (ag6 q) ks vs)
def bFJ(i:Nat)(δ:ē)(ks:KM)(vs:Ħ)(l:bu)(d:DV):ś ē:=Ź (two l fun a b=>aXL kr) q (yV d z (ō (jy<Ū) (KS (aK0 .dJ (putD (ag6 q) (ć z) ks vs)))))
def br7:DV->DV
 | Ē [d]=>d
 | d=>d
def aEH:yS
 | F5=>true
 | Ē [_]=>true
 | _=>ă
def br8:DV->pN
 | BS=>ā (ns.map É)
 | Ŧ=>KU
 | ο=>KU
 | ő=>ā a7R
 | _=>none
def aoh(δ:ē):ė->pM ē
 | [],[]=>ā δ
 | i::is,rH=>aoh auZ is ds
 | _,_=>none
def Tg.bind(tg:Tg)(d:DV)(δ:ē):ś ē:=match tg with
 | ag8=>ā auZ
 | YH=>match d with
  | ο=>aK1 ds
  | _=>none
def OK(fr:ww)(δ:ē):ē:=fr.map fun o=>match o with
 | aV=>aK2
 | none=>.no
inductive Rc where
 | skip | item (d:DV)
def OL(g:uh Rc):pM Ħ
 | []=>FZ
 | d::r=>match g d with
  | none=>none
  | au0=>BY r
  | aha=>match BY r with
   | none=>none
   | ag9=>ā (x::xs)
def aEI(r:pN):Ĺ:=match r with
 | none=>none
 | ag9=>ā (nR xs)
def br9(r:pN):Ĺ:=match r with
 | none=>none
 | ag9=>ā (.ok qR cJ)
def F9(r:Ĺ):ś Rc:=match r with
 | wE=>ō F8 (.item d)
 | _=>none
def ahb(t:KJ)(r:ś Rc):ś Rc:=match t with
 | Rh=>r
 | Rg=>au0
 | _=>none
inductive Ri where
 | ok (ds:Ħ) (c:Cl)
def YJ(r:YI)(k:Ħ->Cl->Ĺ):Ĺ:=match r with
 | none=>none
 | au1=>k ds c
def Re.bFK(r:Ĺ)(k:BO YI):YI:=match r with
 | none=>none
 | wE=>QZ
def bFL(d:DV)(c:Cl):YI:=Ĥ (br8 d) ds (au2 c)
def aEJ:yS
 | Ŧ=>Yv
 | _=>ă
def Ec(F:Ť)(f:Nat)(l:bu):Ĺ:=match ahe with
 | none=>none
 | ahd=>ā (dt (if ahc then a7S else İ (fr&&aEJ d) Ŋ cJ))
def xU:Nat:=1001
def xV(δ:ē):ė->pN
 | []=>FZ
 | i::r=>match Τ,F' r with
  | au3,KU=>ō FW rH
  | _,_=>none
def aEK(x l:DV)(r:Ĺ):Ĺ:=match l,r with
 | ĭ,ā (.ok h _)=>yY (bFD x ĭ h)
 | _,_=>none
def OM(C a dx:Nat)(t:Str)(k:Int):DV:=ahf C rJ (ć dx) t k
def iI:DV->fL | ĭ=>aV | _=>none
def sS:uh Str | tZ=>aV | _=>none
def aXP:pM (DV×DV×DV×DV×DV) | [a,b,c,d,e]=>ā aK3 | _=>none
def VX(d:DV):a7T DV:=Ź (tT d) l (Ź (aXP l) q (Ź (iI q.1) c (Ź (sS (lQ q)) t (Ź (iI Rj) k (ā (c,mz,KW,t,k))))))
def IL(d:DV):a7T Int:=Ź (VX d) q (Ź (iI mz) a (Ź (iI KW) x (ā (q.1,a,x,BZ.2))))
def aEL(G:Gs)(b:Bool)(s:DV):yU:=Ź (VX s) q (ō (aK4 q.1) a7U)
def adG(G:Gs)(s:DV):Bool:=match IL s with
 | fN=>bF q.1 rK&&aq 0 mz&&aq 0 KW&&aq 0 q.1
 | none=>ă
def adH(s s':DV):Bool:=match IL s with
 | fN=>bF (IL s') fN
 | none=>ă
def adI(s s':DV):Bool:=match IL s with
 | fN=>(match IL s' with
  | ā q'=>bF q.1 q'.1&&bF mz q'.2.1&&bF KW q'.2.2.1&&bF (lQ q) (lQ q')
  | none=>ă)
 | none=>ă
set_option genInjectivity true in
inductive Rm where
 | ok (d s:DV)
def Rm.d:Rm->DV | dt _=>d
def Rm.s:Rm->DV | .ok _ d=>d
def F_(o:B2):ś Rm:=match o with
 | ā (aK5 r _)=>ā (.ok r s)
 | _=>none
def bsa(F:Ť)(m:AK)(cs:Ħ)(l:bu):Ĺ:=if y9 then(match yZ (d_::br)with
 | k9=>hY
 | _=>none)else none
def bsb(F:Ť)(f:Nat)(l:bu)(m:DV):Ĺ:=if y9 then(match F f (br++[m])with
 | k9=>aK6 FW
 | _=>none)else none
def aEM(F:Ť)(m:DV):pM Ď
 | []=>FZ
 | d::r=>match yZ [m,d]with
  | Υ eX=>(B3 m r).map (k :: ·)
  | _=>none
def aEN(F:Ť)(m:DV)(x:DV)(c:Cl):Ĺ:=match x with
 | Ŧ=>if a7V/\ŧ<=64 then Ź (B3 m ds) ks (Ĥ (D_ ks) ix (nR (au4 ds))) else none
 | _=>none
def aEO(ks:Ď):Ko:=(agZ).find? fun i=>a7W i
def aEP(F:Ť)(m:DV)(x:DV)(c:Cl):Ĺ:=match x with
 | Ŧ=>if a7V then Ź (B3 m ds) ks (Ź KY i (a7X fun d=>Rk)) else none
 | _=>none
def aEQ(G:Gs)(F:Ť)(ra:Ĺ)(N:ğ)(np:Nat)(lb:ME)(o:pN):Ĺ:=match o with
  | KZ=>İ au6 none (au5 ra (aEP F aK7 x cx))
  | none=>none
def mU:Nat:=1003
def ß:Str:=Pe
def callC(F:Ť)(np:Nat)(cs:Ħ)(l:bu):Ĺ:=if y9/\Ű=np then(match aK8 with
 | k9=>aK6 FW
 | _=>none)else none
def aER(G:Gs)(F:Ť)(np nc:Nat)(rs:nQ)(o:pN):Ĺ:=match G.i6 with
  | Yb=>fO (C.np=np/\C.nc=nc) (o.bind fun cs=>rM rs (Rl np))
  | none=>none
def aXQ(x y:Str)(a b:DV)(ca cb:Cl):Ĺ:=if f6 a ca=true/\f6 b cb=true/\x≠y then È (a7Y kr)else none
def aoi(G:Gs)(F:Ť)(ra:Ĺ)(N:ğ)(np:Nat)(lb:ME)(o:pN):Ĺ:=match o with
  | KZ=>İ au6 none (au5 ra (aEN F aK7 x cx))
  | none=>none
def aXR(G:Gs):DV->Ĺ
 | ag7=>yY (aK9 k)
 | _=>none
def aXS:uh Str
 | ĭ=>ō (KO 64) (auV i)
 | ő=>bI
 | _=>none
def VY(acc:Str):bu->ahg
 | []=>ā acc
 | (ő,_)::r=>fO (acc.length+cK<=Ū) (VY (acc++x) r)
 | _=>none
def bsc(o:nQ):Ĺ:=rM o (Ĥ (VY atf l) x au7)
def bsd(G:Gs):DV->Ĺ
 | ag7=>if ahh then none else if(aK9 k).isSome then rN else none
 | _=>none
def aES(G:Gs)(b:Bool)(o:rG):Ĺ:=match o with
  | YK=>yY au8
  | _=>none
def bse(G:Gs)(F:Ť)(m:Nat)(o:rG):Ĺ:=match o with
  | YK=>if YL s then(match y_ m [s]with
   | au9=>aK6 (adH s s')
   | _=>none)else none
  | _=>none
def aXT(G:Gs)(F:Ť)(f:Nat)(ra rb:Ĺ)(N:ğ)(np:Nat)(lb:ME)(o:pN):Ĺ:=match o with
  | KZ=>İ au6 none (za ra cx rb cy (aLa x y aK7))
  | none=>none
def aET(F:Ť)(f:Nat)(rs:nQ)(o:pN):Ĺ:=match o with
  | none=>none
  | KU=>rM (rs) a7Z
def aEU(x:DV)(c:Cl)(r:Ĺ):Ĺ:=match yT x with
 | none=>none
 | dX=>r
 | nz=>ā (.ok x c)
def aEV(x:DV)(c:Cl)(r:Ĺ):Ĺ:=match yT x with
 | none=>none
 | dX=>ā (.ok x c)
 | nz=>r
def fy(r:Ĺ):KJ:=Re.bFC r fun x ζ=>(yT x).map Rt.ok
def bU(r:Ĺ):YI:=Re.bFK r fun x c=>bFL x c
def aoj(o:rG):Ĺ:=match o with
  | au3=>hY
  | ā ahi=>ā (dt .top)
  | _=>none
def bsf(G:Gs)(F:Ť)(xs:pA Nat)(rs:nQ)(o:rG):Ĺ:=match o with
  | ā (ħ (.fn x))=>(match aLc with
   | Ro=>YM (rs)
   | none=>none)
  | ā (ħ d_)=>fO (m.fn=Rn/\m.bl=G.II/\m.cl=G.IJ/\K1) (rM (rs) aLb)
  | _=>none
mutual
def aXU(G:Gs)(F:Ť):ME->YO
 | .var i,δ=>aoj Τ
 | ĭ,_=>È ĭ
 | rD,_=>È rD
 | tZ,_=>È tZ
 | .ę,_=>ā (Rr .ę)
 | .oS x,_=>yY aLq
 | avo,δ=>wI fun x cx=>rO b fun y cy=>aLp cx cy
 | .neg a,δ=>pR a x a75
 | .not a,δ=>aLo pQ
 | avn,δ=>pR a x (K2 B4 y Gc k)
 | aLn aEq,δ=>wI fun x ζ=>rO b fun y ζ=>match Gc with
  | none=>none
  | nz=>rN
  | dX=>K2 (œ c) z (AM aEq y z) k
 | .and es,δ=>ahj es
 | .or es,δ=>ava es
 | avm,δ=>avl rP (.lst br) Ŋ
 | Ē es,δ=>avl rP (Ē br) .č
 | ahv,δ=>wI fun x cx=>pR b y (Ĥ (qL x y) d (dt cx.item))
 | aLm,δ=>wI fun x cx=>rO lo fun l ζ=>match l with
  | Rq=>rO hi fun h ζ=>(match h with
   | ć h=>YU Gb (ā h) cx
   | _=>none)
  | _=>none
 | ahu lo,δ=>wI fun x cx=>rO lo fun l ζ=>match l with
  | Rq=>YU Gb none cx
  | _=>none
 | aht hi,δ=>wI fun x cx=>rO hi fun h ζ=>match h with
  | ć h=>YU none (ā h) cx
  | _=>none
 | avk,δ=>YM rP
 | .bi f es,δ=>fO (bFG f) (rM rP (bFF f l))
 | .OC a ts,δ=>K2 pQ x (aof G x ts) k
 | .AG m a _,δ=>fO (m=.ID) (pR a x (aED m x))
 | avj,δ=>YJ Rp fun ds c=>a74 c ŧ d ahs [] (YT δ') ds δ
 | avi,δ=>a73 Rp ds ŧ (ahb (fy (Ŀ cd δ')) (F9 (YT δ')))
 | .adr f es,δ=>aET F f rP avh
 | aLl np lb fr,δ=>aXT G F f pQ B4 N np lb ahk
 | ahr,δ=>pR a x (pR b y (yY (aXC x y)))
 | .ads a lo hi,δ=>pR a x (pR lo l (aEK x l (œ hi)))
 | .fld i b,δ=>aES G b Τ
 | avg,δ=>aLk
 | avf,δ=>avd (adC x) (yY (an8 x y))
 | ahq,δ=>avd (adC x) (Ĥ (aXA x y) d (dt Ŋ))
 | YS b,δ=>avd (adC x) (yY (aXB x y))
 | .fmt a,δ=>pR a d (Ĥ (aXS d) x au7)
 | .fst es,δ=>bsc rP
 | ahp,δ=>pR b y ave
 | aho,δ=>avd (adF x) (yY (IK x y))
 | .fw es,δ=>rM rP (Ĥ (aXG l) ds (nR ds))
 | .sW a,δ=>wI a72
 | .adt a,δ=>wI aLj
 | .OD a k,δ=>wI fun x c=>pR k y (aEG x c y)
 | ahn k,δ=>Ź YR p (pR k y (aXO p.1 p.2 y))
 | avc es,δ=>aLi rP Τ
 | a71,δ=>aoi G F pQ N np lb ahk
 | ahm,δ=>Q0 Ga (ahl pQ B4)
 | .an3 b,δ=>pR b y (aXR G y)
 | YQ,δ=>wI fun x c=>rO b fun y c'=>aLh c'
 | aLg lb,δ=>aEQ G F pQ N np lb ahk
 | .self np nc es,δ=>a70 rP
 | aLf,δ=>wI fun d c=>rO b fun d' c'=>aXQ x y d d' c c'
def Ed(G:Gs)(F:Ť):iN->ē->nQ
 | [],_=>avb
 | jz,δ=>match aF with
  | none=>none
  | wE=>match rP with
   | none=>none
   | ug=>ā (.ok (F3::l))
def bsg(G:Gs)(F:Ť):iN->YO
 | [],_=>none
 | jz,δ=>İ YN aF (rO e (aLe (ahj es)))
def bsh(G:Gs)(F:Ť):iN->YO
 | [],_=>none
 | jz,δ=>İ YN aF (rO e (aLd (ava es)))
end
def bsi:Nat:=1000
def Re.Ee(δ:ē)(r:Ĺ)(k:BO fe):fe:=match r with
 | none=>none
 | wE=>QZ
def Rs.Ee(δ:ē)(r:nQ)(k:bu->fe):fe:=match r with
 | none=>none
 | ug=>k l
def Rt.Ee(δ:ē)(r:KJ)(k:Bool->fe):fe:=match r with
 | none=>none
 | ā (.ok b)=>k b
def Ri.Ee(δ:ē)(r:YI)(k:Ħ->Cl->fe):fe:=match r with
 | none=>none
 | au1=>k ds c
def vd(tg:Tg)(body:K4):Ħ->K4
 | [],δ=>ā ahx
 | d::r,δ=>match Ru with
  | none=>none
  | ahw=>match avp with
   | ā (.nx IM)=>wJ r IM
   | o=>o
def IN(test:ē->KJ)(body:K4):Nat->K4
 | 0,_=>none
 | n+1,δ=>match test δ with
  | none=>none
  | Rg=>ā ahx
  | Rh=>match body δ with
   | ā (.nx IM)=>avq n IM
   | o=>o
def VZ:DV->ſ Cl
 | qV,Ŋ=>true | qV,.top=>true
 | _,_=>ă
def bsj(i:Nat)(δ:ē):Bool:=ahy YV fun j=>j==i||(Ρ δ[j]? (ā (.od _)) ă _ true)
def bsk(i:Nat)(δ:ē)(d:DV)(c:Cl):fe:=match c with
 | Ŋ=>ā (zb ahi)
 | _=>match d with
  | .ę=>ā (zb ahz)
  | _=>none
def bsl(d:DV)(c:Cl):Out:=.rt d (VZ d c)
def xW:Nat:=1002
def aEW(G:Gs)(F:Ť)(i m:Nat)(δ:ē)(l:nQ)(k:DV->DV->fe):fe:=match Τ with
 | YK=>if YL s then(match l with
  | ug=>if xS l then(match aLr with
   | au9=>k d s'
   | none=>none)else none
  | _=>none)else none
 | _=>none
def aEX(G:Gs)(δ:ē)(i:Nat)(re:Ĺ)(o:rG):fe:=match o with
  | YK=>Ź (VX s) q ((aLs s).bind (ű (um (re) ζ (Ĥ (iI d) j (zb (.od (avr mz KW (Rj+j))))))))
  | _=>none
def aEY(re:Ĺ)(o:rG):fe:=match o with
  | YK=>(match re with
   | wE=>ō F8 (zc s)
   | _=>none)
  | _=>none
def aok(G:Gs)(F:Ť)(δ:ē)(i:Nat)(re:Ĺ):fe:=if uo/\Gd then(match re with
  | ā (.ok k_ _)=>ō (ahA/\a76) (zb (avs k_ ŭ))
  | _=>none)else none
def aEZ(G:Gs)(F:Ť)(δ:ē)(j i:Nat)(o:rG):fe:=match o with
  | YK=>Ź (VX s) q (if(q.1=rK/\Gd/\uo)/\adB mz=true/\adB KW=true then Ź (y_ xW [.str (lQ q),ć Rj]) r (Ź (iI r.s) k (ō Ge (.nx (avt (avr .ę .ę k) j (ħ r.d))))) else none)
  | _=>none
def bsm(is:ė)(δ:ē)(r:Ĺ):fe:=pS r fun d c=>if Rv then(match K5 with
  | BX ds=>(aK1 ds).map wK
  | none=>none)else none
def aol(r:fe):fe:=match r with
  | wL=>wL
  | _=>none
def aXV:rG->fL
 | au3=>DZ d
 | _=>none
def bsn(δ:ē)(i:Nat)(re:Ĺ)(o:rG):fe:=match o with
  | avu=>um (re) c (ō (F8/\ŧ<Ū) (ahB [d]))
  | _=>none
def bso(δ:ē)(i:Nat)(rk re:Ĺ)(o:rG):fe:=match o with
  | avu=>pS (re) fun d c=>pS (rk) fun k ζ=>(match k with
   | eX=>(match auH k with
    | iF=>ō F8 a77
    | none=>none)
   | _=>none)
  | _=>none
def bsp:ſ rG
 | ā .no=>true
 | _=>ă
def aXW(G:Gs)(F:Ť)(fr:ė)(rs:nQ)(o:pN)(oi:rG):fe:=match G.i6 with
  | Yb=>if C.nc=wu/\bsp oi=true/\K1 then o.bind fun cs=>(rM rs (Rl C.np)).bind fun r=>(match r with
   | dt _=>YW)else none
  | none=>none
mutual
def aE0(G:Gs)(F:Ť)(fu:Nat):MS->K4
 | ahF own,δ=>um aF c (avG c)
 | ahE,δ=>Ź (aXV Τ) a (um aF ζ (yV d b (ā (zb aLx))))
 | avF,δ=>bsn δ i aF Τ
 | ahD,δ=>match Τ with
  | avu=>pS aF fun d c=>if Rv then(match K5 with
   | BX ys=>ō (ŧ+auc<=Ū) (ahB ys)
   | none=>none)else none
  | _=>none
 | Y1 e,δ=>bso δ i (œ k) aF Τ
 | Y0,δ=>pS aF (aLw δ)
 | YZ,δ=>um aF c (ā (bsl d c))
 | Gg,δ=>avE Ga (ahl (pT a) (pT b))
 | YY,δ=>ahC Rp fun ds c=>fO Rv (avD δ')
 | avC,δ=>a8b
 | RA,δ=>match Τ with
  | auY=>ō (aEH d) (ze (br7 d))
  | _=>none
 | Rz,δ=>ō avB (zb (.od a8a))
 | Ry ks,δ=>Ź YR p (um aF ζ (a79 (Gf ks)))
 | aLv,δ=>bsm is δ aF
 | avA,δ=>aEX G δ i aF Τ
 | avz,δ=>K6 rP (aS s (ā (zb (.od s))))
 | aLu,δ=>K6 rP fun d s=>ō Ge (.nx (avt s j gz))
 | .jU i e,δ=>aEY aF Τ
 | avy,δ=>K6 avb a78
 | avx,δ=>aok G F δ i aF
 | .OE j i,δ=>aEZ G F δ j i Τ
 | avw,δ=>aol (pT body)
 | .OF,_=>none
 | avv,δ=>aLt rP ahk Τ
def Zq7(G:Gs)(F:Ť)(fu:Nat):dZ->K4
 | [],δ=>ā ahx
 | s::r,δ=>match Rx s δ with
  | ā (.nx δ')=>YX
  | o=>o
end
def aL(n:Nat)(ds:Ħ):ē:=avH++Kk (n - ŧ) .no
def wM(o:fe):B2:=match o with
 | ā (.nx _)=>avI
 | wL=>ahd
 | ā (.jU _ _)=>none
 | none=>none
def Y2(s0:DV)(o:fe):B2:=match o with
 | ā (.nx (.od s::_))=>ō (adI s0 s) (aK5 .ę ă)
 | ā (zc s)=>ō (adI s0 s) (aK5 d ă)
 | _=>none
def aXX(G:Gs)(ev:dZ->K4)(ds:Ħ):B2:=G.i6.bind fun C=>if ŧ=ahG/\e_ ds=true then(match ev Y3 (aL RB ds)with
  | YW=>a8c
  | _=>none)else none
def xR(G:Gs)(k:Nat)(ev:dZ->K4)(f:Nat)(ds:Ħ):B2:=İ (f=xW) (G.Ea k ds) (fO (f=mU) (aXX G ev ds))
def Ef(ev:ME->YO)(ds:Ħ):B2:=match ds with
 | avJ=>if aLz then(match ev ahH aLy with
  | hY=>a8c
  | _=>none)else none
 | _=>none
def run(G:Gs)(T:Gh)(fu:Nat):Nat->Ť
 | 0,_,_=>none
 | k+1,f,ds=>match T[f]? with
  | none=>avL f fP avK
  | ahI=>a8d
def runM(G:Gs)(T:Gh)(fu:Nat):Nat->Ť
 | 0,_,_=>none
 | k+1,m,ds=>match T[m]?,ds with
  | ahI,s::r=>if ŧ=fd.np then Y2 s (aZ (ahK k) ahJ (a8e fd.n ŧ))else none
  | _,_=>none
universe L2
namespace L2
open PySem
theorem aA:aY wE k=QZ:=rfl
theorem aom:BP ug k=k l:=rfl
theorem bFM:YJ au1 k=k ds c:=rfl
theorem bsq:pS wE k=QZ:=rfl
theorem bFN:ahC au1 k=k ds c:=rfl
theorem bFO(h:Ð ahL a):pU m=avM a:=by
 rw[Y4 (pT _) (aLA m a),h]
theorem bFP(h:ahL=wL):pU m=wL:=by
 rw[Y4 (pT _) (aLA m δ'),h]
theorem bsr(h:ĳ T f fd)(a:ŧ=fd.np):ω f ds=wM (Y5 ahJ fd.n ds):=by
 show(Ρ T[f]? none (avL f _ _) ahI (ahM fd.np _ ahJ _))=_;rw[Ĉ h v6]
theorem aXY{I:avO}:∀{ds:Ħ} {δ:ē},(∀d∈ds,∀δ,I δ->∃b a,Ru=fb/\Ð (body b) a/\I a)->I δ->∃c,Ð (wJ ds δ) c/\I c
 | [],δ,_,i=>(τ δ i)
 | d::r,δ,h,i=>by rw[ab (ĩ b a l k f (uq d δ i)) c j e (aXY (jq d g) f)];refine⟨c,?_,e⟩;show avN δ b a r;rw[l];show aLB=_;rw[Ĉ k j]
theorem bss:a8g (İ (p d) (.item d) .skip) (a.filter p)
 | [],_=>rfl
 | d::r,h=>by
  have b:=bss (jq d e);rw[a8f];cases c:p d with
  | ă=>rw[avP eY];exact b
  | true=>
   rw[K7 c];show(aLC r)=_;rw[b]
theorem bst:a8g (.item (f d)) (nT f)
 | [],_=>rfl
 | d::r,h=>by rw[a8f];show(aLC r)=_;rw[(bst (jq d b))];rfl
theorem bFQ(h:d∈avQ):∃j:Nat,j<n/\d=ć (a+j):=by
 rw[dr upTo h RC,Fe j b rfl h (cj j B5)]
theorem Ñ{G:Gs}{F:Ť}{fu:Nat}{δ:ē}{r:dZ}{d:DV}{fr:Bool}(h:B6=wL):wM B6=ahd:=Η h
theorem aXZ(h:Ð B6 a):wM B6=avI:=Η h
theorem ŏ(h:Gi ahL)(a:YX=o):pU m=o:=Ų (bFO h) a
theorem ž{G:Gs}{F:Ť}{fu:Nat}{δ:ē}{m:MS}{r:dZ}{d:DV}{fr:Bool}(h:ahL=wL):pU m=wL:=bFP h
theorem aX0(d:Ga=ā (.ok bb)):fQ Gg=İ bb (pT a) (pT b):=by
 show avE _ _=_;rw[d];rfl
theorem bFR(d:Ga=Rh)(h:Gi (pT a))(e:YX=o):pU Gg=o:=a8h
theorem bsu(d:Ga=Rg)(h:Gi (pT b))(e:YX=o):pU Gg=o:=a8h
theorem V0(e:Ga=Rh)(h:pT a=wL):pU Gg=wL:=ž (Ų (aX0 e) h)
theorem ve(b:Ga=Rg)(d:B6=o):pU (.iff c a [])=o:=bsu b rfl d
theorem V1(b:Y7)(c:Y6)(h:Gi (avD δ'))(d:YX=o):pU YY=o:=by
 refine ŏ ?_ d;show ahC _ _=_;rw[b];show(fO Y6 (vd tg _ ds δ))=_
 rwa [į c]
theorem AN(h:ur d)(hs:RD=true):fQ (du i e)=ā (zb gz):=by
 rw[K8,h,zf (fO RD Ε) hs]
theorem Eg(h:π e d Ŋ):K9 (ut i e) ahi:=by
 rw[K8,h];rfl
theorem bC(h:ur d):fQ YZ=ā (.rt d (VZ d cl)):=by
 rw[K8,h];rfl
theorem aon(h:ur d):Ð (fQ Y0) δ:=by
 rw[K8,h];rfl
theorem aE1(a:pV)(hs:y9)(h:ahe=ahd):π avk d a7S:=by
 show zg=_;rw[a];show K'=_;rw[nU Ec h hs]
theorem bFS(c:pV)(a:ahc=ă)(h:ahe=ahd)(b:(fr&&aEJ d)=ă:=by rfl):π avk d cJ:=by
 show zg=_;rw[c];show K'=_;rw[Ù Ec h a,iO _ b];rfl
theorem aX1(b:pV)(h:ahe=ā (.v Ŧ true))(a:Yv=true):B7 avk ds:=by
 show zg=_;rw[b];show K'=_;rw[š Ec h];show ā (Gj _ (if ahc then Ŋ else İ Yv Ŋ cJ))=_;rw[a];cases ahc<;>rfl
theorem Ω(h:ur (.bl x)):fy aF=ā (.ok x):=Η h
theorem vf(h:ur (.bl x)):uu (.not e) (!x):=by
 rw[ff,h];rfl
theorem vg(d:uv x)(c:avR)(h:aLp cx cy=r):œ avo=r:=by
 rw[aLD d]
theorem i8(d:uv x)(c:avR)(h:Gc=ahN):uu avn t:=by
 rw[aLD d];rfl
theorem cU(e:uv x)(c:avR)(h:qL x y=kY):π ahv d cx.item:=by
 rw[aLD e];rfl
theorem bFT(d:uv iK)(c:B4=o):ahO kr=o:=by
 rw[ff,Ĉ d c]
theorem aE2(d:uv rg)(c:B4=o):avS kr:=by
 rw[ff,Ĉ d c]
theorem aX2(c:uv iK):π (.or kr) iK cx:=by
 rw[ff,c];rfl
theorem i9{G:Gs}{F:Ť}{δ:ē}:Gf []=avb:=rfl
theorem jW(b:uv x)(h:pV):Gf (a::es)=ā (.ok ((x,cx)::l)):=by
 rw[Ù Ed b h]
theorem aoo(c:ahP)(h:ur d)(a:RD=true)(b:ŧ<Ū):fQ avF=ā (ahB [d]):=by
 show bsn δ i _ Τ = _;rw[c,K8,Ĉ h (B8 a b)]
theorem bFU(f:ahP)(h:ur d)(b:gA k n cx)(a:RD=true)(c:auH n=iF):fQ (Y1 e)=ā a77:=by
 show bso δ i _ _ Τ = _;rw[f,K8,h,bsq,b,bsq];show(Ρ (auH n) iF (ō RD (wK _)) none none)=_;rw[Ĉ c v6]
theorem aX3(h:test δ=Rg):Ð (avq gB δ) δ:=by
 rw[š IN h]
theorem aX4(h:test δ=Rh)(a:Gi (body δ))(hr:avq n δ'=o):avq gB δ=o:=by
 unfold IN
 rwa [h,a]
theorem aX5(h:Gi a8b)(b:YX=o):pU avC=o:=ŏ h b
theorem aop{I:Nat->avO}:∀(n:Nat) (c:Int) {δ:ē},(∀j<n,∀δ,I j δ->∃b,Ð (body (B9 (ļ (c+j)))) b/\I aG b)->I 0 δ->∃d,Ð (vd ag8 body (upTo c n) δ) d/\I n d
 | 0,_,δ,_,g=>(τ δ g)
 | n+1,c,δ,h,g=>by
  have e:upTo c gB=RE::upTo (c+1) n:=by
   rw[iG upTo La Ö ų];congr 1
   ·congr 1;omega
   ·rw[B' a,avT,aLE]
  rw[Ė b k r (h 0 Ă δ g)];rw[ź (c+_=c)]at k;obtain⟨d,u,p⟩:=aop n (c+1) (fun j hj δ q=>by
   rw[JM f m l (h aG Ă δ q) ?_ l,K_ (c+1+_=c+mB j) aLE];exact m) r
  refine⟨d,?_,p⟩;rw[e];show(match body (B9 _)with | ā (.nx b)=>vd _ body _ b | o=>o)=_;rw[Ĉ k u]
theorem bFV(b:Y7)(hc:Y8)(hl:ahQ)
  (h:aLF d ds a RF aR (YT a=hY)):B7 avi (ds.filter p):=by
 rw[avU b eY (bss (Ĝ d c))]
 ·rfl
 ·rw[Ĩ a g f e (h d c),g,jA,f,e];cases p d<;>rfl
theorem bsv(hw:Y7)(b:Y8)(hl:ahQ)
  (h:∀d∈ds,∃a,RF=aR/\YT a=È (f d)):a8j:=by
 rw[a8i]
 ·rfl
 ·rw[Ė a e c (h d hd),e,jA,c];rfl
theorem bFW{l:Ď}(h:j<Ű):Gk (fg É) j=ā (ć l[j]):=by
 have a:Ŭ<(Ą (fg É):Int):=aLG;simp only[qL,DZ,jA,adx,VS,mT,ahR,v6,jA,cI,Â,Lb,uf]
theorem bFX{l:Ď}{i:Int}(a:0<=i)(h:zh):∃v,qL (.lst (fg É)) ĭ=ahS:=by
 rw[ň j rfl (Int.eq_ofNat_of_zero_le a) (Į _ (bFW Ă))]
theorem bsw{J:avO}(hw:Y7)(b:Y6)(lp:∃a,Ð (avD a) a/\J a)(c:∀a,J a->avM a=o):pU YY=o:=by
 rw[gj a h j lp (V1 hw b h (c a j))]
theorem Ņ{G:Gs}{F:Ť}{δ:ē}{i:Int}:œ ĭ=È ĭ:=rfl
theorem gO(h:ĳ δ n gz):œ (.var n)=hY:=Bz aoj h
theorem aoq(h:avV n d):π (.var n) d .top:=Bz aoj h
theorem sY(d:pY)(c:pW):iP (fh a b) (i+j):=RG rfl
theorem AO(d:pY)(c:pW):iP (Lc a b) J_:=RG rfl
theorem aor(d:pY)(c:pW)(h:auO=true):iP (B_ a b) (i*j):=RG Br
theorem adJ(d:pY)(c:pW)(h:0<j):iP (lh a b) (i%j):=RG Br
theorem aE3(d:pY)(c:pW)(h:0<j/\j<1073741824):iP (ahT a b) (i/j):=RG (B8 h.1 (Int.lt_trans h.2 Đ))
theorem mV(d:pY)(c:pW):aLH:=RH
theorem aos(d:pY)(c:pW):ahU .Lt (ü i j):=RH
theorem be:œ ő=avW:=rfl
theorem vh(h:pV)(b:Ld)(a:Ca):rQ (Ē es) (Ē br):=by
 show zg=_;rw[h,aom,į b,a];rfl
theorem bsx:∀{ds es:Ħ} {f e:ē},Ð (wJ ds f) e->wJ (ds++es) f=wJ es e
 | [],es,f,e,h=>agd h
 | d::r,es,f,e,h=>by
  show avN f b a _;have g:(Ρ (RI f) none none fb aLB)=Ε:=h;cases j:RI f with
  | none=>rw[Ī j g g]
  | some b=>
   rw[j]at g;have c:aLB=Ε:=g;show(ahV b a _)=_;cases i:body b with
   | none=>rw[pi i]
   | some o=>
    rw[i]at c;cases o with
    | nx a=>exact bsx c
    | rt d fr=>cases c
    | jU d s=>cases c
theorem bFY(c:Ru=ahw)(b:aLI):Ð (wJ [d] δ) a:=by
 rw[š vd c,fI b];rfl
def RJ(n:Nat)(s:DV)(r:Ħ):ē:=a8e n (Á+1)
def aX6(C a dx:Nat)(t:Str):Rm->Rm
 | dt (ć k')=>dt (Cb a k')
 | o=>o
theorem bsy(h:ĳ T m d):ahK ŕ m (s::ds)=a8k d.np (a8l s):=by
 show(match T[m]?,s::ds with
  | aR,s::r=>a8k a.np (aZ _ a.body _)
  | _,_=>none)=_
 rw[h];rfl
theorem bFZ:adI (Le k) (Le b)=true:=by
 show bW (mD&&mD&&mD) (bF z z);simp
theorem bsz{G:Gs}{C a:Nat}(b:rR):adG G mE=true:=by
 show bW (mD&&mD&&mD) mD;rw[b];simp
theorem aX7{G:Gs}{C a:Nat}(c:rR)(b:Bool):aEL G b mE=ā (İ b aj g9):=by
 show(a8m C b j g9)=_;rw[B8 c.symm Ě]
theorem bsA{G:Gs}{C a:Nat}(b:rR)(h:Lf):rQ (.fld i ă) g9:=by
 rw[aLJ ă];show lM (aEL G ă _)=_;rw[aX7 b];rfl
theorem bF0{G:Gs}{C a:Nat}(b:rR)(h:Lf):œ (Y9 i)=È aj:=by
 rw[aLJ true];show lM (aLs _)=_;rw[aX7 b];rfl
theorem bsB{G:Gs}{C a:Nat}(c:rR)(b:Lh)(h:Lf)(e:F m [mE]=ā (avX mE)):œ avg=hY:=by
 show aLk = _;rw[h];show(if YL _ then(match y_ m [mE]with
   | au9=>ō (adH _ s') Lg
   | _=>none)else none)=_
 rw[B8 b (bsz c),e,zf (ō (adH _ _=true) Lg) (bK (adH mE mE=true) (Þ (rfl:IL mE=ā (_,_,_,_,_))))]
theorem bF1{n:Nat}(c:π x g9 c1)(a:gA lo Æ c2)(b:gA hi v e)(h:Æ<=Q9):rQ (.ads x lo hi) (.str (VT z n auP)):=by
 rw[ff,c,a,b];rw[zf (Ĥ (ō (0<=_/\_<=Q9) (wO _)) d Lg) ⟨Ě,h⟩];rfl
theorem bF2{G:Gs}{C a:Nat}(f:rR)(h:Lf)(b:Lj x):K9 avA (.od (Le (j+x))):=by
 show aEX G δ i _ Τ = _;rw[h];show Li (aLs mE)=_;rw[aX7 f,b];rfl
theorem aX8{G:Gs}{C a:Nat}(c:rR)(b:Lh)(h:Lf)(hs:Ca)(e:y_ m (mE::br)=Û):K6 ug k=(match(generalizing:=false) r with | a8n=>k d s'):=by
 rw[š aEW h];show(if YL _ then(if Ca then(match y_ m _ with
   | au9=>k d s'
   | none=>none)else none)else none)=_
 rw[B8 b (bsz c),Y',e]
theorem bF3{G:Gs}{C a:Nat}(f:rR)(c:Lh)(h:Lf)(e:pV)(hs:Ca)(g:F m (mE::br)=ā (avX b)):K9 avz (.od b):=by
 show K6 _ _=_;rw[e,aX8 f c h hs (Η g)]
theorem bF4{G:Gs}{C a:Nat}(c:n≠i)(g:rR)(e:Lh)(h:Lf)(f:pV)(hs:Ca)(k:F m (mE::br)=ā (avX b)):Ð (fQ (.adv n i m es)) (avt b n gz):=by
 show K6 _ _=_;rw[f,aX8 g e h hs (Η k)];exact į c
theorem bF5{G:Gs}{C a:Nat}(e:rR)(c:Lh)(h:Lf)(f:F m [mE]=ā (avX b)):fQ avy=ā (.jU aLK b):=by
 show K6 Ε _=_;rw[aX8 e c h rfl (by show y_ m [mE]=_;rw[f];rfl)]
theorem bF6(h:uw a)(b:nV d)(hs:F8=true):fQ (.jU i e)=ā (zc a):=by
 show aEY _ Τ = _;rw[h,b];exact Y'
theorem aX9(h:Rx a δ=ā (zc b)):pU a=ā (zc b):=by
 show(aLA a δ')=_;rw[h]
theorem bsC(h:fy (œ cd)=Rh)(b:pT x=ā (zc a)):pU (.iff cd x y)=ā (zc a):=by
 refine aX9 ?_;show avE _ _=_;rw[Ĉ h b]
theorem IP(h:B6=ā (zc (Le b))):Y2 mE B6=Υ (Ē [d,Le b]):=by
 rw[a8o]
theorem bF7(h:Ð B6 (.od (Le c)::b)):Y2 mE B6=Υ (Ē [.ę,Le c]):=by
 rw[a8o]
theorem bF8(f:uo)(d:Gd)(b:π e k_ g)(a:ahA)(c:a76):K9 avx (avs k_ ŭ):=by
 show aok G F δ i _=_;rw[Ù aok (B8 f d) b];exact B8 a c
theorem bF9(b:n≠i)(f:uo)(e:Gd)(h:uw (aLL k))(c:F xW [k_,eX]=ā (.v (zi r a) fr)):Ð (fQ (.OE n i)) (avt (aLL a) n (ħ r)):=by
 show aEZ G F δ n i Τ = _;rw[h];show(if(rK=rK/\Gd/\uo)/\agp/\agp then Li (y_ xW _) else none)=_;rw[į (Cc ⟨rfl,e,f⟩),c];exact į b
theorem bGa(a:uo)(h:uw (aLL k)):iP (Y9 i) k:=by
 rw[aLJ true,zf (lM (ō (rK=rK/\uo) (İ true (É k) k_))) (cG a)];rfl
universe L2
namespace L2
open PySem
def AQ(xs:Lk):Prop:=∀(i k x y:Nat),i<k->yc->ĳ xs k y->x<y
theorem bGb(v:Zb):∀(c b a:Nat),b<=a->a<=zk->a - b<=c ->
  (∀i x,i<b->yc->x<j)->(∀i x,a<=i->yc->j<=x) ->
  (∀i x,i<ahW xs j c b a->yc->x<j)/\(∀i x,ahW xs j c b a<=i->yc->j<=x):=by
 intro c;induction c with
 | zero=>
  intro b a z w y l k;rw[a8p]
 | succ n u=>
  intro b a z w y l k;unfold ahW;by_cases g:b<a
  ·rw[į g];have hm:Gm<a:=Ě;have o:b<=Gm:=Ě;have m:Gm<zk:=Ě;have h:=zj m;have r:xs.getD Gm j=xs[Gm]:=(gx Lm h);rw[bv,au r f (xs[Gm]<j)]
   ·rw[ľ (į f) (u _ _ Ă w Ă (ń i x p d) k),Za (Ll i Gm)]
    ·exact Y_ (v i _ x _ q d h) f
    ·rw[a8q];exact f
   ·rw[ľ (Ř f) (u _ _ o Ă Ă l (ń i x p d)),vX (Ll Gm i)]
    ·exact û (aJO f) (Ba (v _ i _ x q h d))
    ·rw[a8q];exact aJO f
  ·rw[Ř g,a8p]
theorem aYa(b:Zb)(h:i<RK j)(a:yc):x<j:=
 (a8r fun i x h a=>by
  rw[ahX h a]).1 i x h a
theorem aE4(b:Zb)(h:RK j<=i)(a:yc):j<=x:=
 (a8r fun i x h a=>by
  rw[ahX h a]).2 i x h a
theorem bGc:∀(a c b:Nat),c<=b->ahW xs j a c b<=b:=by
 intro a;induction a with
 | zero=>intro c b h;exact h
 | succ n d=>
  intro c b h;unfold ahW;dsimp;split
  ·split
   ·exact d _ _ Ă
   ·exact û (d _ _ Ă) Ă
  ·exact h
theorem bsD:RK j<=zk:=bGc _ _ _ cg
theorem bGd(d:Zb)(c:yc):RK (x+1)=i+1:=by
 have hi:i<zk:=by
  rw[yP (Ll i zk)]
  ·exact h
  ·rw[pi (RM h)]
 rw[Zc _ _ h]
 ·rw[av (aE4 d (j:=x+1) (aLM h) c)]
 ·exact h
 ·have h2:RK (x+1)<=zk:=bsD;rw[pK f (i+1<zk) (Ĕ e (zj f) a (aYa d h e))];have b:=d i _ x _ (ahY _) c e;omega
theorem bGe(b:Zb):RK 0=0:=by
 rw[yP (aLN _)]
 ·exact h
 ·have h2:RK 0<=zk:=bsD;have a:=aYa b h (zj Ă);omega
theorem AQ.empty:AQ #[]:=fun i k x y ζ a=>aeL a
theorem AQ.range(n:Nat):AQ (Array.range n):=fun i k x y h b a=>by
 rw[Array.getElem?_range]at b a;rw[Φ b]
 ·rw[Φ a]
  ·rw[Ţ b (Ż a h)]
  ·cases a
 ·cases b
theorem bsE{l:ė}(h:aLP):AQ aLO:=fun i k x y a c b=>by
 rw[dU e g (JQ XX) d f (JQ (Ł b)),←g,←f];exact List.pairwise_iff_getElem.mp h i k e d a
theorem bGf(h:Zb):xs.toList.Pairwise Cd:=by
 rw[eS (List.pairwise_iff_getElem.mpr (Ý i k c b a)) (h i k _ _ a (ŗ pZ (Õ c)) (ŗ pZ Gn))]
structure Tab(t:Go)(b:Bool):Prop where
 rise:AQ zm
 bsF:aLQ = #[]
 led:t.led=b
theorem Tab.fresh(b:Bool):Tab (SetTable.fresh 0 0 b) b:=Cc AQ.empty
theorem Tab.standIn(h:RN)(n:Nat):Tab (t.standIn n) b:=τ (AQ.range n) h.led
theorem bsG(j:Nat):aLR #[] j=ă:=by
 unfold aLR;simp
theorem bGg(h:RN)(f:Zd)(z:Int):∀(a:Nat) (p:SetTable.Probe) (j:Nat) (d:Ko),p.dummy=none->a8t t f z a p=ā (.empty j d)->d=none/\t.slot j=.empty:=by
 intro a;induction a with
 | zero=>intro p j d c e;cases e
 | succ n g=>
  intro p j d c e;rw[bH a8t e];cases hs:t.slot p.j with
  | empty=>rw[nh (dP hs) c hs]
  | dummy=>
   rw[a8s];rw[h.bsF,bsG]at hs;dsimp at hs;rw[Φ hs]
   ·cases hs
   ·cases hs
  | live i=>
   rw[hs]at e;dsimp at e;rw[Φ e]
   ·cases e
   ·rw[ĺ (g _ j d ?_ e) (g_ SetTable.advance)]
    ·exact c
    ·exact c
theorem bGh(h:RN)(e:t.freeSlot z=mZ j w):t.slot j=.empty:=by
 rw[ax SetTable.freeSlot e]
 ·rw[Gp j' d a (gn c hs (bGg h _ _ _ _ _ _ rfl a) c),Ż e hs]
 ·cases e
theorem Tab.put(h:RN)(hs:t.slot j=.empty):Tab (t.put j).1 b:=by
 have m:zm[Ln j]? ≠ iF:=fun z=>by rw[a8s,Zh hs];rw[z]at hs;simp at hs
 refine⟨?_,?_,h.led⟩
 ·show AQ _;have g:=bGf Zf;have:(SetTable.insertAt zm (Ln j) j).toList.Pairwise Cd:=by
   rw[(SetTable.toList_insertAt _ _ _),List.pairwise_append];refine⟨g.sublist a8x,ahZ ⟨Ĝ y f,g.sublist (List.drop_sublist _ _)⟩,ń x l y f⟩
   ·rw[a8v f,Za (avZ (aE4 Zf Ze d))]
    ·exact q
    ·exfalso
     rw[ş q (fB (aLN i))]
     ·rw[cA z (m d)]
     ·have n:Ln j<avY:=by
       rw[vX (Ll (Ln j+i) avY)]
       ·omega
       ·rw[ahX q d]
      rw[Ĕ k (zj n) a (aE4 Zf Ķ k)];have c:=Zf _ _ _ _ Ă k d;omega
   ·have e:x<j:=by
     rw[đ i d (a8w l),Zg List.getElem?_take d]
     ·rw[Ļ pZ d (aYa Zf Ă d)]
     ·cases d
    rw[p8 f q q]
    ·rw[Ĉ q e]
    ·rw[a8v q];exact tI e (aE4 Zf Ze d)
  have r:=bsE this
  rwa [a8u]at r
 ·show(İ (aLR aLQ j) _ aLQ) = #[];rw[h.bsF,bsG];rfl
theorem Tab.orStandIn(h:RN)(n:Nat):Tab (t.orStandIn n) b:=by
 rw[g_ SetTable.orStandIn]
 ·exact h
 ·exact av0 n
theorem Tab.layNew{t:Go}{b:Bool}(h:RN)(es:av1)(z:Int)(x:ě):Tab (aLS z x).2.1 b:=by
 rw[g_ PySem.layNew]
 ·rename_i j w e;exact(h.put (bGh h e)).orStandIn _
 ·exact av0 _
theorem bsH{f:Nat->Ko}:∀{l:ė},aLP->(vA (l.filterMap fun j=>(f j).map (j,·))).Pairwise Cd
 | [],_=>.nil
 | a::l,h=>by
  rw[đ o n (av2 h)];have d:=bsH (f:=f) n;rw[ar5];cases e:f a with
  | none=>exact d
  | some c=>
   rw[ĺ (ahZ ⟨Ĝ y i,d⟩) (ab (bx p k i) j m b (aIO k))];cases g:f j with
   | none=>rw[nN g]
   | some c2=>rw[nN g];exact o j m
theorem Tab.relayAll{t:Go}{b:Bool}(h:RN)(es:av1)(n:Nat):Tab (relayAll t es n).2.1 b:=by
 rw[g_ PySem.relayAll]
 ·rw[Gp t' order e bv];split
  ·show Tab t' b;unfold SetTable.relaid SetTable.laid at e;cases hl:SetTable.layClean (SetTable.sizeAbove n - 1) (es.map lP)with
   | none=>rw[dP hl]
   | some owner=>
    rw[dP hl];exact τ (bsE (bsH a8y)) h.led
  ·exact av0 _
 ·exact av0 _
theorem aYb{b:Type}{x:b}:∀{l:p9} {i:Nat} (h:zh),l[i]=x->(x::l.eraseIdx i).Perm l
 | [],i,h,_=>bV
 | a::l,0,_,e=>by have e:=e;rw[cA e .rfl]
 | a::l,i+1,h,e=>gh List.eraseIdx_cons_succ (Ų (List.Perm.swap a x _) (av3 a (aYb (Ł h) (Ł e))))
theorem bGi(d:nW):∀(c k:Nat) (b:ī i) (f:FT i),iH<=c->(aLT d c k b f).toList.Perm (f.toList++b):=by
 intro c;induction c with
 | zero=>
  intro k b f h;have:b=[]:=aLU Ă;rw[ş this (š aLT aN)]
 | succ n j=>
  intro k b f h;unfold aLT;cases e:b[d k%iH]? with
  | none=>
   have:b=[]:=by
    cases b with
    | nil=>rfl
    | cons a r=>
     have g:d k%(Ą Zi)<Ą Zi:=a8A;rw[dP (Õ g)]
   rw[ş this aN]
  | some x=>
   rw[đ g l (JQ e)];refine Ų (j _ _ _ ((nC List.length_eraseIdx (į g)))) ?_;rw[a8z,rq,eS (List.Perm.append_left _ ?_) (aYb g l)]
theorem bsI(a:nW)(xs:FT b):(av4 a xs).toList.Perm xs.toList:=by
 unfold av4;exact Ų (bGi a zk 0 xs.toList #[] Ğ) Ğ
universe L2
namespace L2
open PySem
def Lo:ě->Int
 | ux _=>n
 | _=>0
def bGj(w:ņ):Bool:=a1W "set-order"
def aot(prog:aB)(w:ņ)(h:Heap)(a:Addr)(ks:Ď):Prop:=
 ∃o es ep t,EI/\aLW/\av5/\ah0 Jv/\(Zk aLV).Perm ks/\aH<RO/\zn/\Zj t
theorem bsJ(h:ah0 es)(b:e∈es):∃t,e.2=ć (Lo e.2) t:=by
 obtain⟨⟨k,a,_⟩,_⟩:=h e b;rw[ň t q (a3n a) (Į t (Η q))]
theorem bsK(h:ah0 es)(a:e∈es)(k:Int):(aLX).is k e.2=true↔Lo e.2=k:=by
 rw[ň t q (bsJ h a) q];show arI k (iJ t)=true↔_;simp[arI,Lo]
theorem aot.at(x:zo h a ks)(k:aLY a):zo b a ks:=by
 rw[Ps o es d t c r x t (k o c) r]
theorem bsL{h:Heap}(c:EI)(b:av5) :
  (h.update a a8C).get? a=ā {o with data:=.set es' (ep+1) t'}:=by
 have q:=aga a8C c (Η a8B)
 rwa [a8B]at q
theorem bGk{prog:aB}{w:ņ}{A:bJ}{s:Ĭ}{a:Addr}{j:Ď}{k:Int}{tk:Tok}{o:Obj}{ep:Nat}{t:Go}(r:cC a=ĕ)(q:aLW)(u:av5)
  (l:ah0 Jv) (H:(Zk aLV).Perm j) (hb:aH+1<RO) (ht:Zj t)
   {d:Go} (p1:c.toList.Perm (Jv++[(Jq,WK k tk)])) (J:d.fits RP=true) (x:Zj d) (F:Bool) {g:Bool->Sem Unit}
  (I:∀(b:Bool) (f:Ĭ) (Q':lY Unit),Q' () f->iE (g b) Q' E f)
  (h:∀m,Be a m->zo m a (j++[k])->pG dX m) :
  iE (do
   aL3 c d
   if bW (!F) d.tooFull then do
    g (ah1 d).2.2
    a8E (ah1 d)
    av8
   else av8) Q E s:=by
 have z1:RP=aH+1:=(by have:=p1.length_eq;rw[Ÿ,fF,fF]at this;exact this);have z:ah0 av7:=(l.push (aL2 k tk) rfl).perm p1;have p:(c.toList.map aLV).Perm (j++[k]):=(by refine Ų (p1.map _) ?_;rw[Ĉ Χ (H.append_right _)]);rw[fj (pK C (RP<RO) (ż (a8D r u ?_ (aL0 C)))) i (bsL (es':=c) (t':=d) r u) n (Cf Ĳ a (Obj.putSet c d))];split
 ·rw[Ĕ p2 (relayAll_perm d c av6) y (relayAll_fits d c av6)];have v:=x.relayAll c av6;generalize ah1 d=R at p2 y v ⊢;have z2:R.1.size=RP:=by
   rw[aL1 p2.length_eq fF]
  rw[ľ (pK B (R.1.size<RO) (lZ (I _ _ _ ?_) (a8D i rfl ?_ (aL0 B)))) (aLZ (n.trans (Cf _ a _)))];exact⟨_,R.1,_,R.2.1,bsL i rfl,q,rfl,z.perm p2,Ų (p2.map _) p,B,y,v⟩
 ·refine aLZ n;exact⟨_,c,_,d,i,q,rfl,z,p,C,J,x⟩
theorem bGl(Z:aL5)(hr:jy+1<RO)
  (h:∀n b,Be a n->zo n a (dk ks k)->pG b n) :
  gr (setAddHashed a Zl Jq):=by
 obtain⟨o,es,ep,t,B,W,F,f,u,Y,P,K⟩:=id Z;have hz:aH=jy:=by
  rw[aL1 u.length_eq Ċ]
 have M:∀(b:Bool) (d:Ĭ) (H:lY Unit),H () d->iE a8F H E d:=fun b d H q=>by
  cases b with
  | true=>exact aL4 q
  | ă=>rw[q_ q]
 rw[jC setAddHashed setAddHashedIn (ĺ (iC (ĵ (ah2 B F P ?_))) bv),byScan_of rfl Y f,jb,ľ (hL setAddByScan (ĵ (Ym ?_))) (wpAny_setScan_of (aL2 k tk) B F P f ?_)];cases O:es.toList.findIdx? _ with
 | some j=>
  rw[fC N X (List.findIdx?_eq_some_iff_getElem.mp O)];have C:=u.mem_iff.mp (nL ⟨Jv[j],Cg N,(bsK f (Cg N) k).mp X⟩);have m:dk ks k=ks:=o6 dk (į C);refine Å bq;have:=h Ĳ ă (a8G a Ĳ) eY;exact this
 | none=>
  have C:k∉ks:=fun z=>hZ (Ė e R q (Gq (u.mem_iff.mpr z))) (EO (List.findIdx?_eq_none_iff.mp O e R) ((bsK f R k).mpr q));have m:dk ks k=ks++[k]:=(o6 dk (Ř C));rw[fj (Ę m h bv) p1 (layNew_perm t es Jq Zl) y (layNew_fits t es Jq Zl)];have v:=K.layNew es Jq Zl;rw[KG];change Lq A (match aLS Jq Zl with | _=>_) _ _ _;generalize aLS _ _=L at p1 y v ⊢;rw[Ĩ c J I gv L];rw[a8z]at p1;dsimp only at p1 y v ⊢;rw[ż (M gv _ _ ?_)];have p:∀g:Go,g.fits RP=true->Zj g->iE (do
   aL3 c g
   if bW (!I) g.tooFull then do
    (fun b:Bool=>a8F) (ah1 g).2.2
    a8E (ah1 g)
    av8
   else av8) (fun r U=>iE (Ρ r Gb (pure l) none (setAddHashedIn a Zl Jq 99999)) Q E U) E s:=fun g f2 g2=>
   bGk B W F f u Ă K p1 f2 g2 I M fun n S S'=>Å (h n true S S')
  split
  ·rw[FQ (hashByValue_scannable 8 rfl),eS bq (p J y v)]
  ·rw[rS];exact p J y v
universe L2
namespace L2
open PySem PySem.Spec PyProof.Rows
def fm(val:Zd)(i:Nat):Ď:=Zm (ah3 i val)
theorem bsM(a:Zd)(i:Nat):fm a ö=dk (fm a i) (a i):=by
 rw[iG fm RQ Χ ah4];rfl
theorem aE5(σ:Ď)(k:Int):Ą (dk σ k)<=WY+1:=by
 rw[g_ dk]
 ·exact yC
 ·rw[Ĉ Ÿ Ķ]
theorem bsN(a:Zd):∀i,Ą (fm a i)<=i
 | 0=>Ķ
 | i+1=>Ć bsM (û (aE5 _ _) (a8H (bsN a i)))
theorem aot.moved(x:zo Ĳ S ks)(b:Moved wr G s a)(c:S∉wr):zo a.heap S ks:=x.at (zq (b.heap S o c e))
theorem bGm{prog:aB}{w:ņ}{A:bJ}{I:Addr}{n:Nat}{St:lY Nat}(W:WalksS prog w rC I fp f G n P St)(S:Addr)(j:S∉fp)(val:Zd)(g:∀i v,P i v->∃t,v=ć (val i) t)(d:n+1<RO) :
  ∀(k i:Nat) (s:Ĭ),i+k=n->St i s->zo Ĳ S (fm val i) ->
   (∀a,Moved (S::f) G s a->zo a.heap S (fm val n)->Yq Ġ a)->afH (ja "set.update.loop" ⟨[ċ S,ċ I],[]⟩) R s:=by
 have u:S∉f:=fun z=>j (W.sub S z);have r:tN f (S::f):=fun b z=>a8K S z;intro k;induction k with
 | zero=>
  intro i s e st hs q;have e:i=n:=e;rw[fG e a8J,ż (W.done s _ _ st (Ĝ a h))];show av9 (ret A4) _ _ a;rw[q_ (q a (h.mono r) (hs.moved h u))]
 | succ k C=>
  intro i s e st hs q;rw[pK H (i<n) a8J,k7 (W.item i s _ _ H st (Ý v a J l h)) (gn t E (g i v J) E)];have m:=hs.moved h u;show av9 _ _ _ a;rw[ż (iC ?_),Zn setAdd (iC (ĵ ((aLX).pyHash (k:=val i) (aL2 (val i) t) ?_)))];have hl:=bsN val i;refine bGl (s:={a with toks:=a.toks+1}) (k:=val i) (tk:=t) m Ă (ń x b y L);have c:∀b o,b≠S->a.heap.get? b=ĕ->x.get? b=ĕ:=bj d (zr (y.2 b d));refine Lr a8I (C ö _ Ă (W.frame ö a x _ l yC fun b d o e=>c b o (fun z=>j (z▸d)) e) (Ć bsM L) (ġ B p K));refine q B (Moved.trans W.gtrans ((h.mono r).then_heap yC (bj d (c b o (fun z=>d (z▸dQ)) e))) p) K
def aYc(w:ņ):Obj:={cls:=ah5,dict:=none,data:=.set #[] 0 (Ŋ 0 0 (!rT))}
theorem bGn(e:A7=ā (aYc w)):zo h a []:=
 ⟨_,#[],0,_,e,Zo,rfl,aS z (aeL z),Ğ,ø,EC,Tab.fresh _⟩
theorem bGo(v:ě)(h:pG dm Gr) :
  afH (ł (ja "set.__new__") ⟨[ah5,v],[]⟩) (wants Q E) s:=by
 rw[gf (ĺ a8M (aU (BH rC s) (agK (F.newCall_set_1 v) ?_))) (Lr a8L (Zp F.entry_set_new)) (aL8 a8L)];unfold Builtin.«set.__new__» Builtin.Frozenset.newClass;have q:=sub_set_self;rw[ĩ h0 g0 d0 t0 o0 s]
 wp_walk
 refine aL7 bq;simp[newObj];exact ĵ (wpAny_alloc aL6)
theorem bGp{prog:aB}{w:ņ}{A:bJ}{E:cF}{s:Ĭ}{l:Addr}{eP:jd}{ns:Ď}{Q:cF}(hh:dh)(hl:ah8)(hi:Gu ah7 ns)(hb:pJ+1<RO)
  (h:∀h' tk,a8O->ah6->Q dm (Ch h')) :
  gr (call ah5 [pE]):=by
 have m0:=F.called_set.mro;rw[jk c0 r0 m1 m0 (Ĕ m2 F.called_set.made m3 F.called_set.sub),Ĕ m4 F.called_set.notType m5 F.called_set.canCreate];have m6:=F.typeCall_set_1 pE;refine Qo a8M;show Zr _ (callAny ah5 _) _ _ _;rw[ĺ (Å ⟨Code.quiet_builtin _ ĸ,Zp F.entry_type_call⟩) (Around.under_plain (weight_type_call_type kW [pE] []) rfl),ľ aL9 (wf (bGo pE (E:=E) (Q:=fun v s1=>v=dm/\s1 = fE Gr) qQ) (ġ r s1 q))];cases r with
 | Bx e=>exact q
 | ok f=>
  cases f with
  | ret v=>
   rw[gn e1 e2 q e1];subst e2;have g0:(Gr).get? Ģ=ā (aYc w):=cw;have ty:Shared.TypeIs (fE Gr) dm kW:=dY g0;rw[Ĕ n1 F.called_set.init.lookup n2 (F.called_set.init.bind dm),aL9];refine wf (codeAny_call_builtin (R:=wants (fun v s2=>v=Ġ/\∃h' tk,s2 = Ch h' /\ a8O /\
     ah6) E) F.called_set.init.plain F.entry_set_init (check_set_init_1 ty ?_)) (ġ r2 s2 q2)
   ·obtain⟨⟨k1,k2,k3,k4⟩,kl,kc,kn,kd⟩:=hl;dsimp only at kc kd;subst kc;subst kd;have bGq:(Gr).get? l=ā (aKP Ò k2 eP kn k4):=aw kl;have il:(Gr).IsList l eP:=⟨_,bGq,rfl,kn,rfl⟩;rw[Ĕ p1 F.sub_list_set p2 F.sub_list_frozenset];have p3:(o4 Ò == o4 mq)=ă:=ø;unfold Builtin.«set.__init__» noKeywords Builtin.Frozenset.updateFrom;generalize hP:P7=PI
    wp_walk
    subst hP;refine J7 il (ĵ (wpAny_runValue ?_));have l0:l<Ģ:=cX kl;have z1:gQ Gr=wa:=nE _ _;have a1:l≠gQ Gr:=Ć z1 (Zq l0);have a2:Ģ∉[gQ Gr,l]:=by
     rw[z1,ir z (bM z)]
     ·rw[Ŗ z ati]
     ·rw[Ŗ (aI z) (vT l0)]
    refine bGm ((aMa (by show dh;exact hh) _ l a1 eP).toS) Ģ a2 a8N (fun i v e=>IntsAre.int_at hi i v (zr pZ)) hb
     pJ 0 _ (p_ _) ⟨RS,il.push _⟩ (bGn (aw g0)) (ġ s3 hm S3)
    rw[ĩ h3 g3 d3 t3 o3 s3];have b1:g3=aev:=hm.gens;have b2:d3=Wr:=hm.drawn;have b3:o3=s.os:=hm.os;subst b1;subst b2;subst b3;show Zr _ _ _ _ _;refine bq;show Zr _ (ret A4) _ _ _;refine Å ⟨rfl,h3,t3,rfl,S3,FK⟩;have b4:=cX e;rw[ĺ (hm.heap b o mt (ry e)) (bM z)]
    ·rw[Ŗ z (ke b4)]
    ·rw[kR (aI z) z1,Ŗ this (Zq b4)]
   ·cases r2 with
    | Bx e=>exact q2
    | ok f2=>
     cases f2 with
     | ret v2=>
      rw[Š c1 h' tk c2 c3 c4 q2];subst c1;rw[fG c2 aL9];exact h h' tk c3 c4
     | _=>exact q2.elim
  | _=>exact q.elim
universe L2
namespace L2
open PySem PyProof.Rows
def aE6(h:Heap)(I a:Addr)(f:ě)(i n ep:Nat):Prop:=∃o,yM I/\J5=Ì Gv /\ iu=aMb
def aYd(h:Heap)(a:Addr)(es:av1)(ep:Nat)(t:Go):Prop:=∃o,EI/\aLW/\av5
theorem aE6.typeIs{s:Ĭ}(x:awa Ĳ):Yp I Gv:=a8P c
theorem aE6.at(x:awa h)(k:aLY I):awa b:=a8Q
theorem aYd.at(x:Zs h)(k:aLY a):Zs b:=a8Q
theorem aYd.typeIs{s:Ĭ}(x:Ls):awb kW:=a8P c.1
theorem aE7:Slot Gv aMd aMe:=
 a8S aMd
  a8R aMc
theorem bsO:aMg aMe aMf:=entryFor_of_tree Ů
theorem bsP(v:ě):argsOk aMe ⟨[v],[]⟩:=a8T
theorem bGr:aMg "set.__iter__" a8V:=a8U "frozenset.__iter__"
theorem bsQ{ep:Nat}{h:Heap}{i:Nat}{n:Nat}(e:yM I)(c:J5=Ì Gv)(d:iu=aMb) :
  Zt (a8X 1 (pI (ae+1))) f ö n:=by
 rw[a8W];simp[pI]
theorem bsR{ep:Nat}{h:Heap}(g:ě){i:Nat}{n:Nat}(e:yM I)(c:J5=Ì Gv)(d:iu=aMb) :
  Zt (a8X 0 g) g i n:=by
 rw[a8W];simp
theorem bsS{prog:aB}{w:ņ}{A:bJ}{E:cF}{s:Ĭ}{I a:Addr}{es:av1}{ep:Nat}{t:Go}{Q:lY lL}{slot i j:Nat}{x:ě}(hI:aic Ĳ (oY slot))(hS:Ls)(hf:zn)
  (hn:a8Z E' Q' (Q' (mZ x j) s) slot)
  (hQ:aKu (Zt h' (aj 0) ö aH) I bI):Zv:=by
 rw[awd ho hc hd hI hp hx hq hS,hL FM (Zu (a8Y (name:=Gw aMd) hI.typeIs aE7 (aib aE7 hI.typeIs bsO ?_ (bsP _)))),fR aMf rS,gq (aU bv (aia ho hd)) bv (awc hp hq hf ?_),ah9 (Ĵ aH),fI cI,gq (ż (hn _ _ _ ?_)) bv (KD ho hd ?_)];have I1:=bsR (ep:=ep) (pI j) ho hc hd;rw[aU (Ĩ o1 aou bGs VW (id I1)) (KD aou VW (aKx (hQ _ (bsQ aou bGs VW) ?_)))];exact Ų KC KC
theorem bsT{b:Nat}(l:dh)(c:aic Ĳ (oY b))(n:Ls)(m:zn)
  (k:a8Z r g (g none s) b)
  (q:∀f,FO I f->pG none f):Zv:=by
 rw[awd d hc e c j hx h n,gq (aMh c.typeIs) rS (aia d e),a81 m,lZ (RT ?_) (KD d e ?_),aie];simp[newExc,aid];rw[ż Yl,ľ (ż (agK aKA ?_)) Yl,fI raiseNew,a80 l,ż (agN agJ auy ?_),q_ (q _ (aKz KC))]
theorem bGt{k:Nat}(f:aic Ĳ Lu)(B:Ls)(l:zn)(r:afh q ps)(u:ŋ ps (eX 0))(n:ĳ es k (z,x))
  (C:∀g,Zt g Lu ö aH->Be I g->pG bI g):Zv:=by
 rw[awd c y e f j m h B,gq (aMh awe) rS (aia c e),a81 l,t5 (aU (ĩ oq b v nq d r) (FP b d ?_)),u,fR setNextDrawn (fI cI),k7 (ĵ (ah2 j h l ?_)) (ah9 ep),n,ĺ bq (ż (KD c e (aKx (C _ (bsQ c y e) KC))))]
theorem bGu(v:dh)(j:aic Ĳ Lu)(C:Ls)(x:zn)(l:afh q ps)(u:lS ps i)
  (F:∀k,FO I k->pG none k):Zv:=by
 rw[awd e B h j r hx n C,aMh j.typeIs,gq rS bv (aia e h),aU bv (awc r n x ?_),ah9 (Ĵ aH),t5 (gq (fI cI) (ĩ oq c y nq f l) (FP c f ?_)),gq u bv (KD e h ?_),aU (Ĩ o1 d z g (bsR (ep:=ep) (pI 0) e B h)) (KD d g ?_),a7h,ż Yl,q5 (a83 ?_) Yl,fI raiseNew,a80 v,ż (a82 ?_),q_ (F _ (aKz (Ų KC KC)))]
universe L2
namespace L2
open PySem PyProof.Rows
section
variable {prog:Program} {w:World} {A:Around} {E:Value->Shared->Prop} {s:Shared} {I a:Addr} {es:Array (Int×Value)} {ep:Nat} {t:SetTable}
theorem bGv(d:rT=true)(g:Ls)(f:zn)
  (h:Q (Ĥ awg[i]? e (e.2,slot)) s):a86:=by
 rw[t5 (a85 g),a84];rw[į d,ah9 ep,FQ (t5 (hL setWalk (ah2 c b f ?_))),aMi bq (iE (awf rT) _ E s),Ĉ (į d) (ĵ (aL7 aL6))]
theorem bGw(d:rT=ă)(g:aif=ă)(e:t.led=true)(k:Ls)(f:zn)
  (h:Q (match es[Ln slot]?,zm[Ln slot]? with | BX x,iF=>mZ x (j+1) | _,_=>none) s):a86:=by
 rw[t5 (a85 k),a84];rw[Ř (Ć d vQ)];show Lq A (Bj aif _ _) Q E s;rw[g,Yc,aie];show iE (Bj (!t.led && !YN) _ _) _ E s;rw[Ĉ e aL6]
theorem bGx:∀(n:Nat) (a:ī e) (s:Ĭ),ad=n->(∀l d,l.Perm a->Q l {s with drawn:=d})->gr (drawOrder n a):=by
 intro n;induction n generalizing Q with
 | zero=>
  intro a s c h;have:=aLU c;rw[P3 (Å (h [] Wr .rfl))]
 | succ n g=>
  intro a s c h;cases a with
  | nil=>cases c
  | cons y r=>
   show aMj;have b:∀i,i<Ą Gx->Lq A (match _[i]? with
     | bI=>do return x::(←drawOrder n ((y::r).eraseIdx i))
     | none=>unsupported "internal:drawOrder") Q E {s with drawn:=s.drawn.bump .order}:=fun i f=>by
    rw[aU (Õ f) (g _ _ eY fun l d p=>aLZ d)];exact Ų (av3 _ p) (aYb f rfl)
   refine ĵ fun Γ p j=>aD Ğ;exact b _ a8A
def bsU(f:ě)(a:Addr)(n ep:Nat):Obj:=gW Gv (a87 (ŭ 0))
theorem aYe{h:Heap}:aE6 (h.push (bsU f a n ep)) o7 a f 0 n ep:=RS
universe E_
section
variable {prog:Program} {w:World} {A:Around} {E:Value->Shared->Prop} {s:Shared} {I a:Addr} {es:Array (Int×Value)} {ep:Nat} {t:SetTable}
abbrev Nx(prog:aB)(w:ņ)(I:Addr)(fp:Ň)(n:Nat)(ws:Œ)(St:tV):Prop:=
 ∀A:bJ,dh->WalksS prog w A I fp [I] (fun a b=>b=a) n (fun i v=>nH ws) (fun i s=>St i Ĳ)
theorem bsV    {St : Nat -> Heap -> Prop} (hI : I ∈ g) (hz : Ci = n)
  (fr : ∀ i h a, St i h -> (∀ b ∈ g, ∀ o, EK = ĕ -> awj = ĕ) -> St i a)
  (it : ∀ (A : bJ) (E : awi) (Q : lL -> aMl) (s : Ĭ) i v, a9b -> nH ws -> St i Ĳ -> (∀ a, St (i + 1) a -> Be I a -> Q nA aMk) -> Zv)
  (x : ∀ (A : bJ) (E : awi) (Q : lL -> aMl) (s : Ĭ), a9b -> St n Ĳ -> (∀ a, FO I a -> Q none aMk) -> Zv)
  (m : ∀ (A : bJ) (E : awi) (Q : awi) (s : Ĭ) i, St i Ĳ -> Zw I s -> a9a) : awh g n ws St := fun A j =>
 {sub := fun b c => BL (aI c)
  grefl := fun ζ => rfl
  gtrans := fun ζ ζ ζ r q => q.trans r
  frame := fun i s a tk st ζ k => fr i Ĳ a st k
  item := fun i s Q E hi st d => by
   have l : ŋ ws ws[i] := Õ Ă;exact it A E Q s i _ j l st fun a f p => d _ _ l f (a89 (QR b o a88 e))
  done := fun s Q E st d => x A E Q s j st fun a u => d _ (a89 (u b o a88 e))
  self := fun i s Q E st d => m A E Q s i st d }
theorem aE8{a:Heap}(c:RU I h a)(d:b≠I):Xp b awj:=zq (c.extBut b o d e)
theorem bGy:Slot Gv "__iter__" aMm:=
 a8S "__iter__"
  a8R aMc
theorem bGz:aMg aMm Builtin.«dict_keyiterator.__iter__»:=a8U "dict_keyiterator.__iter__"
theorem bGA(v:ě):argsOk aMm ⟨[v],[]⟩:=a8T
theorem bGB(b:awa Ĳ)(h:Zw I s):a9a:=by
 rw[ĺ (aMn b.typeIs bGy bGz (bGA _)) yz];exact a9c b.typeIs h
theorem bGC(l:rT=true)(c:zn)(f:a≠I) :
  aMp [I,a] ((awg).toList.map Cj) (rV 0 0) (Zs h):=by
 have hz:(awg).size=aH:=by
  rw[aL1 (bsI a9f es).length_eq fF]
 refine bsV Ğ eY (fun i h n st k=>⟨a9e,st.2.at (k a Ğ)⟩) (fun A E Q s i v m b st g=>?_) (fun A E Q s m st g=>?_) aMo
 ·obtain⟨e,he,bGD⟩:∃e,ŋ awg e/\e.2=v:=by
   rw[Â,pZ]at b;cases q:(av4 _ es)[i]? with
   | none=>rw[nN q]
   | some e=>rw[nN q];exact Cc e
  refine bsS st.1 st.2 c (a9d (by rwa [he,uf,bGD])) (ġ n d j);exact g n ⟨d,st.2.at (aE8 j f)⟩ j
 ·refine bsT m st.1 st.2 c (a9d eY) g
def slotAt(t:Go):nW
 | 0=>0
 | i+1=>aMq+1
theorem bsW(a:AQ zm):∀{i:Nat},i<=avY->Ln (aig i)=i
 | 0,_=>bGe a
 | i+1,h=>by have b:ŋ zm zm[i]:=zj Ă;show Ln (aMq+1)=i+1;rw[Lm,b];exact bGd a b
theorem bGE(g:rT=ă)(y:aif=ă)(f:Zj t)(b:zn)(l:a≠I) :
  aMp [I,a] (Zk Cj) (rV (aig i) 0) (Zs h/\i<=aH):=by
 have p:t.led=true:=gx f.led g;have hz:avY=aH:=(by rw[dr SetTable.fits b ĥ];exact bn b.1);refine a9h (ŷ Ċ fF) B st.2.2 r c n aMo
 ·obtain⟨z,he⟩:∃z,ŋ es (z,v):=by
   rw[Â,pZ]at c;cases q:es[i]? with
   | none=>rw[pi q]
   | some e=>rw[pi q];exact aW e.1
  have F:i<aH:=by
   rw[yP (Ll i aH)]
   ·exact h
   ·rw[ahX h he]
  have u:ŋ zm zm[i]:=zj Ă;have m:=bsW f.rise (i:=i) Ă;have C:aig ö=zm[i]+1:=(by show aMq+1=_;rw[Lm,u];rfl);refine bsS (slot:=aig i) (j:=aig ö) (x:=v) st.1 aih b (a9g (by rw[m,he,u,Ļ C q q])) (ġ B d o);exact n B ⟨d,aMr (aE8 o l),F⟩ o
 ·have m:=bsW f.rise (i:=aH) Ă;refine bsT r st.1 aih b (a9g (cH m (RM Ķ) q)) n
theorem bGF{l:ė}(n:l.Perm (Ο aH))(u:zn)(g:a≠I)(B:q≠I) :
  aMp [I,a,q] (iQ i (es.getD i (0,Ġ)).2) Lu (Zs h/\IsTup h q (tu (iQ RV (WK i 0)))):=by
 have hl:Ű=aH:=ŷ n.length_eq bO;refine a9h eY z (a9i (k q Ğ o e)) p b m aMo
 ·obtain⟨k,hk,bGG⟩:∃k,ŋ l k/\(es.getD k _).2=v:=by
   rw[Â]at b;cases q:l[i]? with
   | none=>rw[nN q]
   | some k=>rw[nN q];exact Cc k
  have j:=(by have:=n.mem_iff.mp (List.mem_iff_getElem?.mpr ⟨i,hk⟩);exact ay this);have y:=zj j;have f:es[k].2=v:=(by rw[←bGG,Lm,y];rfl);refine bGt (x:=v) st.1 aih u st.2.2 (by rw[←pZ,aMs,Â,hk];rfl) (by rw[y,←f]) (ġ z c d);exact m z ⟨c,aMr (aE8 d g),a9i (aE8 d B o e)⟩ d
 ·refine bGu p st.1 aih u st.2.2 (RM eY) m
theorem bGH(m:Ls)(f:zn)(r:ů aH)
  (B:Zj t) (h:∀I h' d fp ws St,awh fp aH ws St->St 0 h'->ws.Perm (Zk Cj)->ah6->(P9 (b=a\/Ģ<=b))->Ģ<=I->Zw I {s with heap:=h',drawn:=d}) :
  gr (P7 Ŝ):=by
 have g:=let ⟨_,n,_⟩:=m;cX n;rw[ľ (Ĩ p n hx u (id m)) (aMn m.typeIs F.slot_set_iter bGr (F.args_set_iter_1 _))];unfold a8V Builtin.Frozenset.slot0 slotArgs;simp only[aMw,Bool.not_true,zt,↓reduceIte,bind_assoc,wP,aMv];rw[jC Builtin.Frozenset.addrOf Builtin.Frozenset.sizeOf rS]
 try rw[bv]
 rw[aU rS (ĵ (awc n u f bq)),t5 (hL setDrawn (ĵ (ah2 n u f ?_))),au (aMi (Å bq) (Zr _ (Bj (!rT&&aif) _ _) _ _ _)) q (bW (!rT) aif)]
 ·rw[į q];have ho:rT=ă:=by
   cases e:rT with
   | ă=>rfl
   | true=>rw[Yh e]
  rw[ż (bGx aH _ s bO (ġ l d v))];have hl:Ű=aH:=ŷ v.length_eq bO;rw[hL aid (BK ?_ (by show(fg _).toArray.size<=_;rw[nX])),lZ (a9m (aw n)) a9l];have z:gQ (aMu aC (iQ RV (pI i)))=wa:=nE _ _;refine QT d _ _ _ (bGF (ep:=ep) (t:=t) v f ?_ ?_) ⟨aYe,m.at (aS e (ry e)),_,Yg,rfl,_,rfl⟩ ?_ (iy (ry e)) ?_ ?_
  ·rw[Ĉ z (Zq g)]
  ·rw[Ĉ z ati]
  ·refine Ų (v.map _) (List.Perm.of_eq ?_);refine aMt;have H:Jv[j]? = es[j]?:=pZ;rw[Â,Â,H];by_cases y:j<aH
   ·rw[Zx y,uf,Lm,zj y];rfl
   ·have C:lS (Ο aH) j:=awk bO;rw[C,RM Ă];rfl
  ·intro b r;rw[Ck r];rcases r with rfl | rfl | rfl
   ·rw[Í (z▸yC)]
   ·exact ŵ
   ·rw[Í Ķ]
  ·exact z▸yC
 ·rw[gq Bs rS (a9m n),ż a9l];have k:=fun b o (e:tM)=>a9k (bsU (ŭ 0) a aH ep) e;have x:∀b∈[Ģ,a],b=a\/Ģ<=b:=fun b r=>by
   rw[Ck r,Lv r]
   ·rw[Í Ķ]
   ·exact ŵ
  by_cases c:rT=true
  ·exact QT Wr _ _ _ (bGC (t:=t) (ep:=ep) c f (ke g)) ⟨aYe,a9j⟩ (lM (bsI _ es)) k x Ķ
  ·have c:rT=ă:=Ł c;rw[Ļ c q (QT Wr _ _ _ (bGE (ep:=ep) c (Ł q) B f (ke g)) ⟨aYe,a9j,cg⟩ .rfl k x Ķ)]
universe E_
universe L2
namespace L2
open PySem PyProof.Rows
theorem bGI(d:awb kW)(h:Q ă s):gr (aMA Ŝ):=by
 rw[hL aMA (aMz d F.slot_set_len.lookup ?_)];generalize c:("set.__len__" : jZ)=bGJ
 wp_delta
 rw[show splitId bGJ=mZ kW "__len__"from by rw[fG c A3],ľ (ş c (ż (agN (b:=true) d aMc ?_))) (aMy (Lw z z Đ) (ű ?_))];refine aMy (ű ?_) (Lw z ĸ z);exact ĵ (aMx d (Å h))
theorem bGK{St:tV}{c:ſ Bool}(W:awh P n ws St)(O:dh)(U:ů n)(v:S∉P)
  (Z:s1.TypeIs Ŝ kW) (st:St 0 aim) (H:ain S=ā (gW Ò (.seq #[] c0)))
  (hR:∀B x g p,(∀b o,b≠S->b≠I->aij->B.get? b=ĕ)->B.get? S=ā (aJG g p) -> g.toList=ws->Yq i (Bq s1 B x)) (hw:Ci=n) :
  av9 (do
   let room ←E5 [m9 I] (aMA Ŝ)
   if c room=true then do
    rule "list.extend.makes-room"
    Builtin.List.listTouch (ċ S)
    a9p
   else a9p)
   (fun J d=>Ρ J (.done f) (R (.ok f) d) (.again p) (p.quiet=true/\afH p R d)) EE s1:=by
 have l:∀(h:Heap) (K x:Nat),St 0 h->(∀b o,b≠S->aij->yf)->vW S=ā (gW Ò (.seq #[] K)) ->
   aKr A _ R (Bq s1 h x):=fun h K x C k e=>by
  refine codeAny_extend_loopS (W rC O) U S v i n 0 _ #[] K rfl cg C e (ItemsOf.nil _) fun d g p y e' L=>?_;have b1:d = Bq s1 d.heap d.toks:=(by have r:d.gens=s1.gens:=y.gens;have N:=y.drawn;have M:d.os=s1.os:=y.os;rw[ĩ B g' d' t' o' d];dsimp only at r N M;subst r;subst N;subst M;rfl);rw[ľ b1 (hR d.heap d.toks g p (fun b o m Y q=>y.heap b o mt (PJ m q)) e' ?_)]
  ·rw[bM z]
   ·exact m z
   ·exact Y (aI z)
  ·refine aMt;by_cases X:j<n
   ·have E:j<g.size:=Ć L.1 X;have r:=zj E;rw[pZ,r];exact(L.2 j _ r).symm
   ·rw[Gy (nC fF L.1),RW]
 rw[k7 (iC (bGI Z ?_)) (gq (ĺ (aMy (ű ?_) (ű (Lr a9n (l aim c0 aii st (bj ζ e) H)))) (ż (Ym ?_))) ail (aik H ?_))];have Q:=aga a9o H rfl;refine aik Q ?_;have u:∀b o,b≠S->aij->((s1.heap.update S a9o).update S (yF (·.pop))).get? b=ĕ:=fun b o m e=>
  aJD (aJD e)
 refine Lr a9n (l _ _ aii ?_ u (aga _ Q rfl));exact(W rC O).frame 0 s1 _ aii st Ķ fun b m o e=>u b o (fun z=>v (z▸m)) e
theorem bGL(hh:dh)(hS:aL5)
  (h:∀vs h' tk d,FJ awm->(awm).Perm ks->ah6->Ģ<aip->Q vs (aMC h' tk)):gr (collect Ŝ):=by
 obtain⟨o,S,ep,t,y,C,hd,J,hp,hb,hf,ht⟩:=id hS;have O:ů S.size:=aL0 hb;have i:∀vs:Œ,vs.Perm (S.toList.map Cj)->FJ awm/\(awm).Perm ks:=fun vs p=>by
  refine QH (Ų (p.map _) (Ć ų hp));have all:∀v∈vs,∃tk,v=ć (Lo v) tk:=fun v hv=>hZ (Ŷ e he q (Gq (awl hv)) (đ tk m (bsJ J he))) (Į tk (ŗ q m));clear p;induction vs with
  | nil=>exact .nil
  | cons v r ih=>
   rw[ň tk e (all v Α) Ö];have q:=ih fun u hu=>all u (ť hu);generalize hn:Lo v=n at e;rw[cA e (ai n tk q)]
 have l:=cX y;rw[hL collect (wpAny_runValue (Zp F.entry_proto_collect)),aMF F.plain_proto_collect _ s,k7 (BK ?_) (ĺ (Lr a9r (Zp F.entry_list_iadd)) (aMF a9r (aME dm Ŝ dm) _)),hL aME (aMx (T:=kW) (cY (aw y) C.1) ?_)];have h1:aMD dm Ŝ=ă:=(aio aMD (bE (vT l)));have P:(o4 kW == o4 Ò)=ă:=ø;have h3:(o4 kW == o4 aC)=ă:=ø;simp only[h1,P,h3,Bool.or_false,zt,ro];rw[ż (bGH (t:=t) (⟨o,aw y,C,hd⟩) hf O ht fun I P d fp N St W U p B Z kI=>?_)];rw[nE]at kI;have K:Ģ∉fp:=fun z=>by
  rw[vX (Z _ z)]
  ·rw[Ŗ q (vT l)]
  ·rw[nE]at q;omega
 rw[đ Y X (i N p)];refine lX (bGK (A:=A) (a:=a) (c0:=0) (R:=fun r x=>∃h' tk c j,r=afQ dm/\x = aMC h' tk /\ vE Ģ=ā (aJG c j) /\ Q av7 x)
  W hh O K (cY (B _ _ (aw y)) C.1) U (B _ _ cw) (fun h' tk c j k e ea=>⟨h',tk,c,j,rfl,rfl,e,Ć ea (h N h' tk d Y X (yg u (Pu (vO q) (ke (Y_ (cX q) kI)) (B _ _ (aw q)))) (cX e))⟩) (by rw[aMB,Ċ,fF])) ?_ EU
 intro L x g;cases L with
 | done f=>
  rw[Ø h' tk c j M m e H g,Ţ M a9q]
 | again j=>
  refine⟨g.1,wf g.2 (ġ r x hr)⟩;rw[Ø h' tk c j M m e H hr,ş M a9q]
theorem bGM(B:dh)(F:aL5)(H:jy<64)
  (h:∀k g d p c f e,a9v->Ģ<=p->k.get? p=ā (zu c e)->Gu av7 f->f.Perm ks->f.Pairwise Lx->Q eU (aMC k g)) :
  gr (BI qb nB):=by
 refine Calls.call_function_entry kind_sorted plain_sorted entry_sorted (args_sorted1 _) ?_;rw[fR a9u (aU rS (bGL (B) F fun c n g d y p1 l r=>?_))];have z:jt<64:=rh (kR p1.length_eq Ċ);rw[ż (awn Zy)];have j:(n.push (zu atN 0)).get? n.objs.size=Ε:=cw;rw[ż (iC (aib slot_list_sort (dY j) a9t (list_sort_tree j y z fun i f x v u=>QU) (args_list_sort _))),ĺ (Å QU) (pC e C (sortedHeap_at j) (h _ g d _ i f e (ġ b o q) (Ba r) C x (v.trans p1) u))];have m:=cX (l b o q);rw[sortedHeap_old (ke m) (Ć aiq (a9s m))];exact aw (l b o q)
universe L2
namespace L2
open PySem PySem.Spec PyProof.Rows
theorem bGN(b:l≠it):∀(k i:Nat) (s:Ĭ) (Q:lY Œ),s.heap.IsListIter it l i->ah8->i+k=pJ ->
  (aKu (h'.IsListIter it l pJ) it (items.toList.drop i))->gr (draw J3 k):=by
 intro k;induction k with
 | zero=>
  intro i s Q d c e h;show aMj;have e:=e;rw[ş e (kR (h Ĳ d (a8G _ _)) (a9w (QI fF))),q_ this]
 | succ k g=>
  intro i s Q d c e h;have a:i<pJ:=Ě;show aMj;rw[lZ (a4A d c (zj a) (ġ h1 m f)) (iC (g ö _ _ m (c.extBut f.extBut b) Ă fun n j o=>bq)),kR (h n j (f.trans o)) (air (Ć fF a))];exact this
theorem bGO(m:dh)(c:ah8)
  (k:Ą aMH=pJ) (d:aMI aMH)
  (h:∀h',FO Ģ h'->iE (assignInOrder (nG aMH) ah7) Q E (fE h')) :
  gr (assign (t9 elts x1 pos) env pE):=by
 have a:l≠Ģ:=(by rw[fC o j c];exact vO j);rw[gq (aU assign_Tuple (afl ?_)) (Ù unpack k d) (iC ?_),fR unpackItems aie,hL notIterableAtAll (aMz c.typeIs slot_list_iter.lookup bq),mi zt ro,lZ (iC (J7 c ?_)) (iC (bGN a pJ 0 _ _ RS (c.push _) (p_ _) (ġ h1 i g)))];rw[aMG,Ř (Ć fF Yi),ż (iC (a4y m i ((c.push _).extBut g.extBut a) (RM Ķ) (Ĝ n p)))];simp only[Option.isSome_none,zt,ro];rw[q_ (h n (bj f (p b o f (g.extBut b o f Zz))))]
theorem bGP{l:Ď}(h:zh):Q_ 0∈l:=by
 rw[awo]
theorem bGQ(u:dh)(f:ais l agg)(g:FJ c)(p:c≠[])
  (h:∀m M (t:Tok) tk,(awq (m.get? b))->M∈c->(∀a∈c,M<=a)->Q (ć M t) (Ch m)):awp t4:=by
 rw[a9x d c (d.toList.map lP)];have n:0<d.size:=by
  have q:=List.length_pos_iff.mpr p
  rwa [en,Ċ,fF]at q
 rw[Ę e f (ĺ (min_intList u f n (Ý v x tk q k)) (gn t z (intItems_at q) z)),pC g1 y (argBest_lt (numAt d) (d.size - 1)) (h x _ t tk k ?_ (Ĝ a i))]
 ·rw[en,numAt_eq];exact bGP (nC Ċ fF)
 ·rw[Ę en i (Ė j r B (mem_getD i))];subst B;rw[Ċ,fF]at r;rw[qc numAt_eq (y j Ă)]
theorem bGR(e:af9 l eP)(m:ais b new\/afh b new)(k:ů (pJ+new.size))
  (h:pG Ġ (atI l (yF (· ++ new)))):gr (BI "list.extend" [pE,mr]):=by
 refine aib F.slot_list_extend (dY e) F.entry_list_extend ?_ (F.args_list_extend_2 _ _);rw[fR Builtin.«list.extend» rS,KG];unfold aME;obtain⟨a,eb,T,hT,j,hd⟩:∃a,cC b=aR/\∃T:jZ,(a.cls=Ì T/\(T = Ò \/ T = aC))/\∃j,a.data=.seq new j:=by
  rcases m with⟨o,i,g,f,d⟩ | ⟨o,i,g,f,d⟩
  ·exact⟨o,i,Ò,⟨g,ŵ⟩,f,d⟩
  ·exact⟨o,i,aC,⟨g,gw⟩,f,d⟩
 rw[ż (aMx ⟨a,eb,hT.1⟩ ?_)];have c:(aMD pE mr||o4 T == Ì Ò || o4 T == aiu)=true:=by
  rcases hT.2 with z | z<;>subst z
  ·rw[a9y Ò,aws,aMK]
  ·rw[a9y aC,aws]
 rw[gq (aU (į c) (awr eb hd (ĵ (awr e rfl ?_)))) (Ř (cH (bEW k) aMJ vQ)) (ait e Ă eY),q_ auC]
def bsX(K:ĝ)(n:Nat)(t:VH):TG:=a4k (JW\/yq K)
theorem bGS(q:bG)(h:asw t)(m:asx=n)(d:aIB):a4m (bsX X.K n t):=by
 intro c s i H v u Q I r g;rw[Š a j w f p g g];rcases f with f | f
 ·rw[ľ (fG w (Ţ r (Ĩ x l pl hz (nr f)))) (bGO (iB q) rj (by rw[m,b_,←Ű,p]) d (Ĝ h' y))];exact a4l (y b o (vO e) e) l g
 ·exact bqX q h m d c s i H v u Q I r ⟨a,j,w,f,p,g⟩
def bGT(K:ĝ):Qv:=fun x vs H Q=>a6y vs [mr] (DW K H b zs\/as0 b zs) (Q .ę (FB l (xs++zs)))
theorem bGU:brI X "list.extend" (bGT X.K):=by
 rw[vP g vs us k m];obtain⟨l,b,xs,j,rfl,rfl,i,d,hz,q⟩:=h;rw[Ţ k (Ė u rfl o m.one),Ţ o (aJN p i)];obtain⟨a,c,ob⟩:∃a:Œ,Qy j/\(ais b yG\/afh b yG):=by
  rw[awt]
  ·rw[gc (RX a c f d) a c (ı f.isList)]
  ·rw[gc (tW a c f (pq d)) a c (ķ f)]
 have e2:=jt;refine bGR e ob eY ?_;refine a6x i c;rw[Θ Ÿ]
theorem aE9:∀{b:Ď} {a:Œ},Qy ZA->Gu a b
 | [],a,h=>aML
 | n::b,a,h=>by
  cases h with
  | cons r t=>
   rw[nv c r (ai n c (aE9 t))]
theorem bsY:∀{a:Ď} {us:Œ},Gu us a->yp (nT nM)
 | _,_,.nil=>.nil
 | _,_,yb n h=>aJR (bsY h)
theorem bGV(o:bG):awu t4 c b Ď ZA (b≠[]/\∀M,M∈b->(Ly b M)->yu M):=by
 rw[vY d c,Š a b rfl n m q h,Ks f r,RX l e g n];exact bGQ (iB o) g.isList (aE9 e) m fun h' M t tk k j i=>⟨ć M,H,ZB k,aW t,q M j i⟩
def bsZ(P:aB)(w:ņ)(a:Addr)(ks:Ď):HO:=.ext fun h=>aot P w h a ks
theorem bGW(x:aot P w h a b):A9 (bsZ P w a b):=
 ⟨x,let ⟨o,_,_,_,e,_⟩:=x;⟨o,e⟩,fun h1 h2 q k=>q.at k⟩
theorem bGX(a:Ď):fm (fun i=>a.getD i 0) ad=a.foldl dk []:=by
 unfold fm;congr 1;rw[au (ĺ aMt Â) b (j<ad)]
 ·rw[Zx b,uf,Ũ,Gn];rfl
 ·rw[Gy eY,RW];rfl
theorem bGY(n:bG):vZ kW (Ş e (∃(a:Addr) (b:Ď),e=nB/\JX ZA/\iH<4000/\∀p,js->Kh p H (aiw p (b.foldl dk [])))):=by
 rw[vY g e,Š a b rfl m hz q h,Ks j r,RX c f l m];have i:jt=iH:=by rw[←aiv,Ċ]
 refine bGp (iB n) l.isList (aE9 f) (by rw[b_,i,pH (_<4096)]) (ń h' tk S k);have d:c.toArray.size=iH:=ŷ b_ i;rw[d,bGX]at S;exact ac dm _ (agb k (bGW S)) (q _ I.fresh)
theorem bGZ(z:bG):rm qb (Ş l (∃(p:Addr) (f:Ď),l=[eU]/\bX p (aiw p f)/\aiv<64/\∀(q:Addr) (i:Ď),aQ q->i.Perm f->i.Pairwise Lx->FE q H (i.map nM))):=by
 rw[vY m l,gp (Š p f rfl A x q h) (Ks w r) (bGM (iB z) ((afE A).1) x fun B v d c o g e k n he y b j=>?_)];have hl:ů E4:=(nC b.length_eq Bp);have ok:vJ (FB c aMN) B c qV:=⟨BL Ċ,o.toList,e,(bsY y),BL a8u⟩;have a:=aMM v k n ok;refine ac qM _ ?_ (q c g (pj n) b j);exact⟨a.ok,a.os,a.bare,a.base,a.loc,a.cell,a.free,a.aD6,a.pin,a.Ν,a.len⟩
universe L2
namespace L2
open PySem PySem.Spec PySem.Calls PyProof.Rows PySem.W
theorem bs0(c:∀i,i+1<n->∀C:lY Bool,C ă s->a ö i C s):∀(f m:Nat),1<=m->m+f=n->Q n s->(kas_asc Gz f m).kasWp a Q s
 | 0,m,_,h,q=>by
  have:m=n:=Ě;rw[cA this q]
 | f+1,m,h1,h,q=>by
  have g:jD Gz m=m:=Lz Array.getD;have e:jD Gz (m - 1)=m - 1:=Lz Array.getD;show a _ _ (fun b d=>(ym b (KasT.ret m) (kas_asc _ f vw)).kasWp a Q d) s;rw[g,e,gf (RY i i m) (c i Ă _ ?_) (E7 vQ (bs0 c f (i+2) Ă Ă q))]
universe L2
namespace L2
open PySem PySem.Spec PySem.Calls PyProof.Rows PySem.W
theorem bs1:∀(f n r:Nat),r<=1->minRun' f n r<=n+r
 | 0,n,r,_=>Ķ
 | f+1,n,r,h=>by
  rw[minRun'_succ];split
  ·exact Ķ
  ·refine û (bs1 f (n/2) _ Ă) ?_;omega
theorem bG0(h2:2<=n)(h:∀i,i+1<n->∀C:lY Bool,C ă s->a9B ö i C s)
  (q:∀a,arrOf a=(Gz).map (kas_item it)->aiz a->Q () a s):kasC (model prog w) A E sortRuns' Q (kas_st κ it Gz) s:=by
 have c:(Gz).size=n:=Ğ;have f:(aMS n Gz).kasWp a9B (fun r b=>r=(n,Gz)/\b=s) s:=(by rw[ľ (š aMS KasT.kasWp_bind) (bs0 h _ 1 Ķ Ă ?_)];show(if ju n n then KasT.ret (n,Gz)else _).kasWp _ _ s;rw[į (ue n)];exact qQ);rw[RZ r rfl r n r 2 2,ľ sortRuns'_eq aMQ];have e:(arrOf aMO).size=r+2:=by show((aiy (r+2)).map (kas_item it)).size=_;rw[Array.size_map,c]
 have d:=Nat.not_lt.mpr (bs1 (r+2) (r+2) 0 Ă);rw[bv,e];generalize minRun' (r+2) (r+2) 0=M at d ⊢;refine a9A;rw[a9z ?_ bv,gp uy (mi aMR p_) (aww (kas_count_ Ă (QI c) (fun m p' b _ _ _ g=>?_) f)),t5 (ň j rfl g (đ rfl rfl (awx j))),Ř d,ĺ aMQ (mv ((aMP _).back? = none) rfl),bv,gp (ĺ (aww (kasC_modify (awv (kasC_cons ?_)))) bv) (į Ķ) (awv a9A),a9z aMQ (į (mv ((aMP (setPending aMO (rB (aMP aMO) (0,r+2,0)))).size<=1) (aix 1)))];exact awv (awv (q _ rfl rfl))
universe L2
namespace L2
open PySem PySem.W PyProof.Rows
theorem bs2{G:lY e}(f:∀i j C,i<n->j<n->C (c i j) s->d i j C s)(g:G a s):∀(t:PySem.W.KasT e),auR t=aR->t.kasWp d G s
 | .ret b,h=>by have h:=h;rw[Ż h g]
 | agY,h=>by
  have h:a9C=aR:=h;rw[a_]
  ·rename_i z;exact E6 _ z.1 z.2 (bs2 f g _ h)
  ·cases h
def aov{α:Type}(n:Nat)(φ:Ž α):Ž (KasT α)
 | .ret a=>φ a
 | agY=>(i<n/\j<n)/\∀b,zw φ (k b)
theorem aov.run:∀{t:KasT d},zw b t->∃a,auR t=aR/\b a
 | .ret a,h=>τ a h
 | agY,h=>by
  rw[JM a e q (aov.run (h.2 _)) ?_ q];show a9C=aR
  rwa [į h.1]
theorem aov.bind:∀{t:KasT c},zw d t->(∀a,d a->zw e qd)->zw e (t.bind f)
 | .ret a,h,g=>g a h
 | agY,h,g=>⟨h.1,fun b=>aov.bind (h.2 b) g⟩
def Eh(n:Nat)(p:Lk):Prop:=p.toList.Perm uk
theorem Eh.lt(h:Cm)(a:0<n)(i:Nat):LB<n:=by
 rw[Lm];cases e:p[i]? with
 | none=>exact a
 | some x=>
  exact ay (h.mem_iff.mp ((by rw[Ę Array.getElem?_eq_some_iff e (ň c b e (qc b (Array.getElem_mem_toList c)))])))
theorem Eh.rev{n:Nat}{p:Lk}(h:Cm)(i j:Nat):Eh n (kas_rev p i j):=by
 unfold kas_rev;exact a9D (mirror_perm _ _ _ _)
theorem Eh.bG1{n:Nat}{p:Lk}(h:Cm)(k m:Nat):Eh n (bubble p k m):=a9D (bubble_perm _ _ _)
theorem aYf(a:0<n)(h:Cm):∀(f m:Nat),zw (ű True) (kas_asc p f m)
 | 0,m=>uc
 | f+1,m=>⟨aMT,fun b=>by
  cases b
  ·exact aYf a h f _
  ·exact uc⟩
theorem aFa(a:0<n):∀(f:Nat) (p:Lk) (m q:Nat),Cm->awz r.1 (kas_desc f p m q)
 | 0,p,m,q,h=>h
 | f+1,p,m,q,h=>⟨aMT,fun b=>by
  cases b
  ·rw[aMU]
   ·exact aFa a f p _ _ h
   ·exact h
  ·show zw _ _;split
   ·exact aFa a f _ _ 0 awy
   ·exact aFa a f p _ 0 h⟩
theorem bs3(b:0<n)(h:Cm)(m z:Nat):awz r.2 (kas_tail3 m z p):=(aYf b awy _ _).bind fun a ζ=>awy
theorem bs4(a:0<n)(h:Cm)(m z:Nat):awz r.2 (kas_descPart m z p):=(aFa a _ _ _ _ h).bind fun r b=>by
 split
 ·exact bs3 a (b.rev _ _) _ _
 ·exact bs3 a b _ _
theorem bG2(a:0<n)(h:Cm)(z:Nat):awz r.2 (aMS z p):=(aYf a h _ _).bind fun m ζ=>by
 split
 ·exact h
 ·split
  ·rw[aMU]
   ·exact bs4 a awy _ _
   ·exact h
  ·exact bs4 a h _ _
theorem bG3(a:0<n)(h:Cm)(k:Nat):∀(f l r:Nat),zw (ű True) (kas_place p k f l r)
 | 0,l,r=>uc
 | f+1,l,r=>by
  rw[g_ kas_place]
  ·exact uc
  ·rw[aMU]
   ·exact aMV f
   ·exact aMV f
theorem bs5(a:0<n):∀(f:Nat) (p:Lk) (k:Nat),Cm->zw (Eh n) (kas_bin f p k)
 | 0,p,k,h=>h
 | f+1,p,k,h=>(aMV _).bind fun l ζ=>bs5 a f _ _ (h.bG1 _ _)
theorem bG4(b:0<n):zw (Eh n) (kas_sort n):=(bG2 b (ZC Eh) n).bind fun r a=>by
 split
 ·exact bs5 b _ _ _ a
 ·exact a
theorem bG5(ks:Ď):∃b,aob ks=fb/\b.Perm agZ:=by
 rw[g_ aob]
 ·exact a9E
 ·rw[gC a e q (bG4 (n:=jy) Ă).run a.toList (Η e) q]
theorem bG6(h:b.Perm aiA):(gM x b l).Perm l:=by
 have e:gM x aiA l=l:=(a9F Ğ c);have:=h.map fun i=>Q_ x;exact this.trans (Ń (mv (ah3 Ű _=l) e))
universe L2
namespace L2
open PySem PySem.Spec PyProof.Rows
theorem Vals.getD(r:aiB a)(i:Nat):RelV (vs.getD i .ę) (a.getD i Ġ):=by
 rw[Ũ,Ũ];cases h:vs[i]? with
 | none=>rw[r.none_of h];rfl
 | some v=>
  rw[Ė u e q (yD h)]
  rwa [e]
theorem Vals.gM{vs:Ŕ}{us:Œ}(r:vL):∀ix:ė,Vals (au4 vs) (L2.gM Ġ ix us)
 | []=>.nil
 | i::l=>ai (r.getD i) (Vals.gM r l)
universe L2
namespace L2
open PySem PySem.Spec PyProof.Rows
theorem bG7{eP:jd}{bs:BV}(e:ah7=aiC):TruthOf prog w A (fun i v=>nH eP) awA:=by
 intro i v s Q E hP d;have c:nH aiC:=by rwa [←e,pZ]
 rw[Ę Â c (Ė b f rfl (eJ c))];have a:Q (bs.getD i ă) s:=d;rw[ph Ũ f a (PySem.wpAny_truthy_bool a)]
theorem range_all(bs:BV):ahy R4 awA=auT:=by
 rw[aMW wQ]
 ·intro h x b;rw[Ė i a rfl (aiE b)];have:=h i (zx a);rw[aiD Ũ rW]
 ·intro h i a;have a:=ay a;rw[Ũ,rW];exact h _ (Cg a)
theorem range_any(bs:BV):(Ο R4).any awA=auU:=by
 rw[aMW awB]
 ·rintro⟨i,a,h⟩;have a:=ay a;rw[Ũ,rW]at h;rw[υ _ (Cg a) h]
 ·rw[LC x b h (JM i a rfl (aiE b) (zx a) ?_),Ũ,rW];exact h
theorem bG8{bs:BV}(m:dh)(f:ah8)(e:ah7=aiC)
  (h:∀a c,a9I (je auT)):awp "all":=by
 rw[ľ (a9H d f j) (call_all_walk (a9G f m d (f.push _) a c k)),j,range_all];exact h a c fun b o g=>PJ (by simp;exact vO g) (aw g)
theorem bG9{bs:BV}(j:dh)(c:ah8)(e:ah7=aiC)
  (h:∀h' tk,ah6->Q (je auU) (Ch h')):awp "any":=by
 rw[ľ (a9H a c f) (call_any_walk (a9G c j a (c.push _) h' tk g)),f,range_any];exact h h' tk fun b o d=>g b o (by simp;exact vO d) (aw d)
theorem bHa(m:dh)(f:ais l agg)(g:FJ d)
  (h:∀a c t,a9I (ć d.sum t)):awp "sum":=by
 rw[a9x i d (i.toList.map lP)];rw[e]at f;refine sum_intListG m f (ń a c j k);have:=h a c j k;rw[preSum_eq,aiF Ğ,awC en]
theorem aYg:∀{bs:BV} {us:Œ},yp awD->us=aiC
 | [],_,h=>agd h
 | b::bs,_,h=>by
  cases h with
  | cons r t=>
   rw[aYg t,afK]
theorem bHb(j:bG):awu "all" b bs BV awD (Ff auT):=by
 rw[a9J i];rw[RX g d f i];exact bG8 (iB j) f.isList (Ł (aYg d)) (as2 ny rfl)
theorem bHc(i:bG):awu "any" b bs BV awD (Ff auU):=by
 rw[a9J g];rw[RX f d pl g];exact bG9 (iB i) rj (Ł (aYg d)) (as2 ny rfl)
theorem bHd(l:bG):awu "sum" c b Ď ZA (yu b.sum):=by
 rw[Qb (vY d c) a b j (Ks f r),RX i e g j];exact bHa (iB l) g.isList (aE9 e) fun h' tk t k=>⟨iJ,H,ZB k,aW t,q⟩
universe L2
namespace L2
open PySem
structure Sg where
 N:ğ
 sc:yJ
 fn:ğ
 bl:ğ
 cl:ğ
 top:Bool
 lp:Bool
 co:eH->aM->aMX
def IQ:eH->aM->aMX:=JB ζ ă
def mF(e:Expr):Bool:=qe 22
def LD(e:Expr):Bool:=qe 26
def qf(e:Expr):Bool:=qe 7
def adK(e:Expr):Bool:=qe 8||qe 9||qe 10
def Ei{α:Type}(o:Kq)(f:aiG):Bool:=o.rec ă f
theorem aFb(h:Ei o f=true):∃a,o=aR/\f a=true:=by
 cases o with
 | none=>cases h
 | some a=>exact τ a h
@[elab_as_elim] theorem bHe{o:ś b}(h:Ei o f=true){C:Ž (ś b)}(k:∀a,mG qd aR):C o:=let ⟨_,q,h⟩:=aFb h;Eq.mpr (Bz C q) (k _ h)
def IR{α:Type}(o:Kq)(f:Bool):Bool:=o.rec f awE
@[elab_as_elim] theorem aFc{o:ś b}(h:IR o f=true){C:Ž (ś b)}(k:f=true->C none):C o:=by
 cases o with
 | none=>exact k h
 | some a=>cases h
def sZ{α:Type}(l:di)(f:Bool):Bool:=l.rec f (j_ ζ ă)
@[elab_as_elim] theorem bHf{l:p9}(h:sZ l f=true){C:Ž p9}(k:f=true->C []):C l:=by
 cases l with
 | nil=>exact k h
 | cons a r=>cases h
def aFd{α:Type}(l:di)(f:α->ſ di):Bool:=l.rec ă fun a r ζ=>f a r
@[elab_as_elim] theorem bHg{f:b->ſ p9}(h:aFd l f=true){C:Ž p9}(k:∀a r,mG (f a r) Zi):C l:=by
 cases l with
 | nil=>cases h
 | cons a r=>exact k a r h
def in1{α:Type}(l:di)(f:aiG):Bool:=aFd l fun a r=>sZ r qd
@[elab_as_elim] theorem aFe{f:ſ b}(h:in1 l f=true){C:Ž p9}(k:∀a,f a=true->C [a]):C l:=aMY (LF (k a))
theorem bHh(h:in1 l f=true):∃a,l=[a]/\f a=true:=GA a (τ a h)
def s9{α:Type}(l:di)(f:aiH):Bool:=aFd l fun a r=>in1 r qd
@[elab_as_elim] theorem aYh{f:c->ſ c}(h:s9 l f=true){C:Ž LG}(k:∀a b,f a b=true->C kr):C l:=aMY (aFe h (k a))
def bs6(e:Expr):aiJ Str (nP t.1 t.2):=dw 23 (Expr.Name.elim e h (aiI x))
@[irreducible] def aiK(e:Expr)(f:ſ Str):Bool:=mH (bs6 e) R5
@[elab_as_elim] theorem V2(h:aiK e g=true){C:af}(k:Cn x (g x) (c_ p)):C e:=by
 rw[aiL aiK]
def bHi(e:Expr):rX Const Nat Pos (R6 t.1 bN kX):=dw 19 (Expr.Constant.elim e h (LH x k))
def bs7(e:Expr):GB E3 Expr (.BinOp t.1 bN rY li):=dw 2 (Expr.BinOp.elim e h (zy a o b))
@[irreducible] def aFf(e:Expr)(f:Expr->E3->uz):Bool:=ZD (bs7 e)
@[elab_as_elim] theorem bs8(h:aFf e g=true){C:af}(k:ZE a o b (afv o p)):C e:=by
 rw[zC aFf]
def bHj(e:Expr):rX UnaryOp Expr Pos (.UnaryOp t.1 bN kX):=dw 3 (a9K (LH o a))
@[irreducible] def aYi(e:Expr)(f:UnaryOp->uz):Bool:=mH (bHj e) R7
@[elab_as_elim] theorem bHk(h:aYi e g=true){C:af}(k:zE o a (g o a) (.UnaryOp o a p)):C e:=by
 rw[R8 aYi]
def bHl(e:Expr):GB (ī F1) aE (.Compare t.1 bN rY li):=dw 15 (Expr.Compare.elim e h (zy a os bs))
@[irreducible] def aFg(e:Expr)(f:Expr->(ī F1)->GC):Bool:=ZD (bHl e)
@[elab_as_elim] theorem bs9(h:aFg e g=true){C:af}(k:ZE a b bs (aiM b bs p)):C e:=by
 rw[zC aFg]
def bHm(e:Expr):rX BoolOp aE Pos (.BoolOp t.1 bN kX):=dw 0 (Expr.BoolOp.elim e h (LH o es))
@[irreducible] def aYj(e:Expr)(f:BoolOp->GC):Bool:=mH (bHm e) R7
@[elab_as_elim] theorem bHn(h:aYj e g=true){C:af}(k:zE o a (g o a) (.BoolOp o a p)):C e:=by
 rw[R8 aYj]
def bHo(e:Expr):GB Expr Expr (.IfExp t.1 bN rY li):=dw 5 (Expr.IfExp.elim e h (zy c a b))
@[irreducible] def aYk(e:Expr)(f:R9 uz):Bool:=ZD (bHo e)
@[elab_as_elim] theorem bHp(h:aYk e g=true){C:af}(k:ZE c a b (.IfExp c a b p)):C e:=by
 rw[zC aYk]
def bHq(e:Expr):aiJ aE (.List t.1 t.2):=dw 24 (Expr.List.elim e h (aiI es))
@[irreducible] def aYl(e:Expr)(f:GC):Bool:=mH (bHq e) R5
@[elab_as_elim] theorem bta(h:aYl e g=true){C:af}(k:Cn a KA (.List a p)):C e:=by
 rw[aiL aYl]
def btb(e:Expr):rX aE Nat Pos (t9 t.1 bN kX):=dw 25 (Expr.Tuple.elim e h (LH es k))
@[irreducible] def aow(e:Expr)(f:GC):Bool:=mH (btb e) R5
@[elab_as_elim] theorem aFh(h:aow e g=true){C:af}(k:zE a k KA (t9 a k p)):C e:=by
 rw[R8 aow]
def bHr(e:Expr):rX Expr Expr Pos (wg t.1 bN kX):=dw 21 (Expr.Subscript.elim e h (LH a b))
@[irreducible] def aox(e:Expr)(f:aiN):Bool:=mH (bHr e) R7
@[elab_as_elim] theorem aFi(h:aox e g=true){C:af}(k:zE a b (g a b) (wg a b p)):C e:=by
 rw[R8 aox]
def bHs(e:Expr):rX ua ua (ua×Pos) (ZF t.1 bN rY li):=dw 26 (Expr.Slice.elim e h (zy a b c))
@[irreducible] def aFj(e:Expr)(f:ua->ua->ſ ua):Bool:=ZD (bHs e)
@[elab_as_elim] theorem btc(h:aFj e g=true){C:af}(k:ZE a b c (ZF a b c p)):C e:=by
 rw[zC aFj]
def bHt(e:Expr):GB aE Qr (LI t.1 bN rY li):=dw 16 (Expr.Call.elim e h (zy f as ks))
@[irreducible] def aiP(e:Expr)(f:Expr->aE->LJ Qr):Bool:=aiO (bHt e)
@[elab_as_elim] theorem btd(h:aiP e g=true){C:af}(k:aiQ f as a (LI f as a p)):C e:=by
 rw[zC aiP]
def bHu(e:Expr):rX Expr Str Pos (Bt t.1 bN kX):=dw 20 (Expr.Attribute.elim e h (LH a n))
@[irreducible] def IS(e:Expr)(f:Expr->LJ Str):Bool:=mH (bHu e) (R7 R_)
@[elab_as_elim] theorem ON(h:IS e g=true){C:af}(k:zE a n (g a n p) (Bt a n p)):C e:=by
 rw[R8 IS]
def bHv(e:Expr):GB a9L Ξ (Sa t.1 bN rY li):=dw 8 (Expr.ListComp.elim e h (zy x gs sc))
@[irreducible] def inComp(e:Expr)(f:Expr->a9L->ſ Ξ):Bool:=ZD (bHv e)
@[elab_as_elim] theorem bHw(h:inComp e g=true){C:af}(k:ZE x a sc (Sa x a sc p)):C e:=by
 rw[zC inComp]
def bHx(e:Expr):aiJ aE (.JoinedStr t.1 t.2):=dw 18 (Expr.JoinedStr.elim e h (aiI es))
@[irreducible] def aYm(e:Expr)(f:GC):Bool:=mH (bHx e) R5
@[elab_as_elim] theorem bte(h:aYm e g=true){C:af}(k:Cn a KA (.JoinedStr a p)):C e:=by
 rw[aiL aYm]
def bHy(e:Expr):GB Int ua (aMZ t.1 bN rY li):=dw 17 (Expr.FormattedValue.elim e h (zy v c s))
@[irreducible] def aYn(e:Expr)(f:Expr->Int->ſ ua):Bool:=ZD (bHy e)
@[elab_as_elim] theorem bHz(h:aYn e g=true){C:af}(k:ZE v c s (aMZ v c s p)):C e:=by
 rw[zC aYn]
def bHA(e:Expr):rX (ī ua) aE Pos (.Dict t.1 bN kX):=dw 6 (Expr.Dict.elim e h (LH ks vs))
@[irreducible] def aFk(e:Expr)(f:(ī ua)->GC):Bool:=mH (bHA e) R7
@[elab_as_elim] theorem btf(h:aFk e g=true){C:af}(k:zE ks vs (g ks vs) (.Dict ks vs p)):C e:=by
 rw[R8 aFk]
def bHB(e:Expr):rX eH Expr (Ξ×Pos) (awF t.1 bN rY li):=dw 4 (Expr.Lambda.elim e h (zy pr bd sc))
@[irreducible] def aYo(e:Expr)(f:eH->Expr->LJ Ξ):Bool:=aiO (bHB e)
@[elab_as_elim] theorem btg(h:aYo e g=true){C:af}(k:aiQ a b sc (awF a b sc p)):C e:=by
 rw[zC aYo]
def bHC(e:Stmt):rX aE Expr Pos (Yk t.1 bN kX):=dw 5 (Stmt.Assign.elim e h (LH t v))
@[irreducible] def aYp(e:Stmt)(f:aE->GD):Bool:=mH (bHC e) (R7 R_)
@[elab_as_elim] theorem bHD(h:aYp e g=true){C:rZ}(k:zE t v (g t v p) (Yk t v p)):C e:=by
 rw[R8 aYp]
def bHE(e:Stmt):aiJ Expr (.Expr t.1 t.2):=dw 24 (Stmt.Expr.elim e h (aiI v))
@[irreducible] def aFl(e:Stmt)(f:GD):Bool:=mH (bHE e) (R5 t.1.2)
@[elab_as_elim] theorem bHF(h:aFl e g=true){C:rZ}(k:Cn v (g v p) (.Expr v p)):C e:=by
 rw[aiL aFl]
def bHG(e:Stmt):aiJ ua (awG t.1 t.2):=dw 3 (Stmt.Return.elim e h (aiI v))
@[irreducible] def aYq(e:Stmt)(f:LJ ua):Bool:=mH (bHG e) (R5 t.1.2)
@[elab_as_elim] theorem bHH(h:aYq e g=true){C:rZ}(k:Cn v (g v p) (awG v p)):C e:=by
 rw[aiL aYq]
def bHI(e:Stmt):GB aM aM (.If t.1 bN rY li):=dw 12 (Stmt.If.elim e h (zy c a b))
@[irreducible] def aYr(e:Stmt)(f:Expr->awH):Bool:=aiO (bHI e)
@[elab_as_elim] theorem bHJ(h:aYr e g=true){C:rZ}(k:aiQ c a b (.If c a b p)):C e:=by
 rw[zC aYr]
def bHK(e:Stmt):rX Expr Expr (aM×aM×Pos) (.For t.1 bN rY li.1 li.2):=dw 9 (Stmt.For.elim e h fun t i b o p=>ā (aW (t,i,b,o,p)))
@[irreducible] def aYs(e:Stmt)(f:R9 awH):Bool:=mH (bHK e) (aM0 R_.2.2)
@[elab_as_elim] theorem bHL(h:aYs e g=true){C:rZ}(k:∀t i b o p,mG (g t i b o p) (.For t i b o p)):C e:=by
 rw[ZG aYs (RT _ _ h)]
def bHM(e:Stmt):GB aM aM (.While t.1 bN rY li):=dw 11 (Stmt.While.elim e h (zy t b o))
@[irreducible] def aYt(e:Stmt)(f:Expr->awH):Bool:=aiO (bHM e)
@[elab_as_elim] theorem bHN(h:aYt e g=true){C:rZ}(k:aiQ t b o (.While t b o p)):C e:=by
 rw[zC aYt]
def bHO(e:Stmt):GB E3 Expr (afm t.1 bN rY li):=dw 7 (Stmt.AugAssign.elim e h (zy t o v))
@[irreducible] def aYu(e:Stmt)(f:Expr->E3->GD):Bool:=aiO (bHO e)
@[elab_as_elim] theorem bth(h:aYu e g=true){C:rZ}(k:aiQ t o v (afm t o v p)):C e:=by
 rw[zC aYu]
def aYv(e:Expr)(f:Expr->F1->uz):Bool:=aFg e fun a os bs=>in1 os fun o=>in1 bs fun b=>f a o b
@[elab_as_elim] theorem bti(h:aYv e f=true){C:af}(k:∀a o b p,mG (f a o b) (aiM [o] [b] p)):C e:=bs9 h fun a ζ ζ p h=>GA o (GA b (k a o b p h))
def btj(e:Expr)(f:Expr->F1->F1->aiN):Bool:=aFg e fun a os bs=>s9 os fun o o2=>s9 bs fun b c=>f a o o2 b c
@[elab_as_elim] theorem bHP(h:btj e f=true){C:af}(k:∀a o d b c p,mG (f a o d b c) (aiM [o,d] [b,c] p)):C e:=bs9 h fun a ζ ζ p h=>LK fun o d h=>LK fun b c h=>k a o d b c p h
def btk(e:Expr)(f:uz):Bool:=a9M b a
@[elab_as_elim] theorem bHQ(h:btk e f=true){C:af}(k:Cn x (f x) (ZF bI none none p)):C e:=a9N
def btl(e:Expr)(f:uz):Bool:=a9M a b
@[elab_as_elim] theorem bHR(h:btl e f=true){C:af}(k:Cn x (f x) (ZF none bI none p)):C e:=a9N
def btm(e:Expr)(f:aiN):Bool:=aFj e fun a b c=>IR c (Ei a fun x=>Ei b (f x))
@[elab_as_elim] theorem bHS(h:btm e f=true){C:af}(k:zE x y (f x y) (ZF bI (ā y) none p)):C e:=btc h (EM p h (aiR (ZH x (ZH y (k x y p h)))))
def aYw(e:Expr)(f:Expr->LJ aE):Bool:=aiP e fun g as ks p=>sZ ks (f g as p)
@[elab_as_elim] theorem adL(h:GE f=true){C:af}(k:∀g as p,ZI (f g as p) as []):C e:=btd h fun g as ζ p h=>LF (k g as p)
def btn(e:Expr)(f:GD):Bool:=GE fun g as p=>sZ as (f g p)
@[elab_as_elim] theorem aYx(h:btn e f=true){C:af}(k:∀g p,ZI (f g p) [] []):C e:=awI (LF (k g p))
def aoy(e:Expr)(f:Expr->GD):Bool:=GE fun g as p=>in1 as fun a=>f g a p
@[elab_as_elim] theorem aFm(h:aoy e f=true){C:af}(k:∀g a p,ZI (f g a p) [a] []):C e:=awI (GA a (k g a p h))
def aYy(e:Expr)(f:R9 GD):Bool:=GE fun g as p=>s9 as fun a b=>awJ p
@[elab_as_elim] theorem aYz(h:aYy e f=true){C:af}(k:∀g a b p,ZI (awJ p) kr []):C e:=awI (LK fun a b h=>k g a b p h)
def bto(e:Expr)(f:R9 (Expr->GD)):Bool:=GE fun g as p=>aFd as fun a r=>s9 r fun b c=>awJ c p
@[elab_as_elim] theorem btp(h:bto e f=true){C:af}(k:∀g a b c p,ZI (awJ c p) QY []):C e:=awI (aMY (LK fun b c h=>k g a b c p h))
def aYA(e:Expr)(f:aiN):Bool:=aow e fun es=>s9 es f
@[elab_as_elim] theorem btq(h:aYA e f=true){C:af}(k:∀a b n p,mG (f a b) (t9 kr n p)):C e:=aFh h fun ζ n p h=>LK fun a b h=>k a b n p h
def btr(e:Expr)(f:uz):Bool:=aYn e fun v c s=>IR s (kh (c = -1)&&f v)
@[elab_as_elim] theorem bts(h:btr e f=true){C:af}(k:Cn v (f v) (aMZ v (-1) none p)):C e:=bHz h fun v ζ ζ p h=>aFc h fun h=>(ZJ (mI h).1)▸k v p (mI h).2
def btt(e:Expr)(f:Bool):Bool:=aFk e fun ks vs=>sZ ks (sZ vs f)
@[elab_as_elim] theorem bHT(h:btt e f=true){C:af}(k:∀p,mG f (aM1 p)):C e:=btf h fun ζ ζ p h=>Sc (Sc (k p h))
def btu(e:Expr)(f:R9 aiN):Bool:=aFk e fun ks vs=>s9 ks fun a b=>Ei a fun a=>Ei b fun b=>s9 vs fun c d=>f a b c d
@[elab_as_elim] theorem btv(h:btu e f=true){C:af}(k:∀a b c d p,mG (f a b c d) (.Dict [aR,fb] [c,d] p)):C e:=btf h fun ζ ζ p h=>LK (j_ h (ZH a (ZH b (LK fun c d h=>k a b c d p h))))
def bHU(e:Stmt):rX Str eH (aM×Ξ×Str×Pos) (aM2 t.1 bN rY li.1 li.2.1 li.2.2):=Yy e a9O (ā (aW (n,a,b,sc,bd,p)))
@[irreducible] def aYB(e:Stmt)(f:Str->eH->aM->Ξ->ſ Str):Bool:=mH (bHU e) (aM0 (lQ t.1.2))
@[elab_as_elim] theorem bHV(h:aYB e g=true){C:rZ}(k:∀n a b sc bd p,mG (g n a b sc bd) a9O):C e:=by
 rw[ZG aYB (RT _ _ _ h)]
def btw(e:Expr)(f:Expr->aE->ahg->uz):Bool:=aiP e fun g as ks p=>in1 ks fun w=>f g as w.arg w.value
@[elab_as_elim] theorem bHW(h:btw e f=true){C:af}(k:a9Q b):C e:=btd h fun g b ζ p h=>GA ⟨a,v,q⟩ a9P
def btx(e:Expr)(f:R9 (ahg->uz)):Bool:=btw e fun g as a v=>in1 as fun b=>f g b a v
@[elab_as_elim] theorem bty(h:btx e f=true){C:af}(k:a9Q [b]):C e:=bHW h fun g ζ a v q p h=>GA b a9P
def aYC(e:Stmt)(f:Expr->GD):Bool:=aYp e fun ts v p=>in1 ts fun t=>f t v p
@[elab_as_elim] theorem btz(h:aYC e f=true){C:rZ}(k:zE t v (f t v p) (Yk [t] v p)):C e:=bHD h fun ζ v p h=>GA t (k t v p h)
def aYD(e:Stmt)(f:GD):Bool:=aYq e fun o p=>Ei o fun v=>f v p
@[elab_as_elim] theorem aoz(h:aYD e f=true){C:rZ}(k:Cn v (f v p) (awG nA p)):C e:=bHH h fun ζ p h=>ZH v (k v p h)
def btA(e:Stmt)(f:R9 aM3):Bool:=aYs e fun t i b o p=>sZ o (f t i b p)
@[elab_as_elim] theorem bHX(h:btA e f=true){C:rZ}(k:∀t i b p,mG (f t i b p) (.For t i b [] p)):C e:=bHL h fun t i b ζ p h=>LF (k t i b p)
def btB(e:Stmt)(f:Expr->aM3):Bool:=aYt e fun t b o p=>sZ o (f t b p)
@[elab_as_elim] theorem bHY(h:btB e f=true){C:rZ}(k:zE t b (f t b p) (.While t b [] p)):C e:=bHN h fun t b ζ p h=>LF (k t b p)
def qg(e:Expr):ahg:=Ĥ (bs6 e) t t.1.1
def aFn(e:Expr):ś Const:=Ĥ (bHi e) t t.1.1
def AR(e:Expr):ś aE:=Ĥ (btb e) t t.1.1
def btC(e:Expr):ś (Expr×E3×Expr):=Ĥ (bs7 e) t (t.1.1,t.1.2.1,R_.1)
theorem aYE{o:ś d}(h:o.map f=fb):∃a,f a=b:=by
 cases o with
 | none=>cases h
 | some a=>rw[ψ h (aW a)]
theorem Ej(h:qg e=bI):∃p,e=c_ p:=let ⟨t,h⟩:=aYE h;⟨_,h▸t.2⟩
theorem aoA(h:aFn e=bI):∃k p,e=R6 x k p:=a9R
theorem aFo(h:AR e=aR):∃k p,e=t9 a k p:=a9R
theorem bHZ(h:btC e=ā (a,o,b)):∃p,e=afv o p:=by
 obtain⟨⟨⟨_,_,_,p⟩,z⟩,h⟩:=aYE h;rw[ψ h ⟨p,z⟩]
structure aFp where
 elt:Expr
 tg:Expr
 it:Expr
 ifs:aE
 sc:Ξ
def btD(e:Expr)(f:ſ aFp):Bool:=inComp e fun x gs sc=>in1 gs fun g=>bF g.is_async 0&&f ⟨x,g.target,g.iter,g.ifs,sc⟩
@[elab_as_elim] theorem btE(h:btD e f=true){C:af}(k:Cn c (f c) (Sa c.elt [⟨c.tg,c.it,c.ifs,0⟩] c.sc p)):C e:=by
 refine bHw h fun x gs d p h=>aFe h (Ĝ ⟨b,g,a,w⟩ h);rw[đ i h (mI h)];obtain rfl:=ZJ i;exact k ⟨x,b,g,a,d⟩ p h
def aFq(sg:Sg)(x:Str):Bool:=aM4 (Cp x)||Cp x==Co
def aFr(sg:Sg)(x:Str):Bool:=Cp x==ā a33
def adM(sg:Sg)(x:Str):Bool:=aM4 (Cp x)
def bH0(e:Stmt):rX aM (ī awK) (aM×aM×Pos) (.Try t.1 bN rY li.1 li.2):=dw 17 (Stmt.Try.elim e h fun b hs o d p=>ā (aW (b,hs,o,d,p)))
@[irreducible] def aYF(e:Stmt)(f:aM->(ī awK)->awH):Bool:=mH (bH0 e) (aM0 R_.2.2)
@[elab_as_elim] theorem bH1(h:aYF e g=true){C:rZ}(k:∀b a o d p,mG (g b a o d p) (.Try b a o d p)):C e:=by
 rw[ZG aYF (RT _ _ h)]
def btF(e:Stmt)(f:aM->LJ awK):Bool:=aYF e fun b hs o d p=>in1 hs fun h=>sZ o (sZ d (f b h p))
@[elab_as_elim] theorem bH2(h:btF e f=true){C:rZ}(k:zE b x (f b x p) (.Try b [x] [] [] p)):C e:=bH1 h fun b ζ ζ ζ p h=>GA x (Sc (LF (k b x p)))
def Ek(sg:Sg)(i:Nat)(x:Str):Bool:=sg.N[i]? == bI&&aFq sg x&&x != Sd && x != a9S
def aYG(sg:Sg)(x:Str)(f:Expr):Bool:=qg f==bI&&aiS x&&sg.bl.contains x
def bH3:Bi->Str
 | .len=>"len" | .min=>t4 | .max=>"max" | .sum=>"sum" | .sset=>qb | .int=>jm | .str=>jn | ag2=>aC | wj=>Ò | .all=>"all" | .any=>"any"
def btG:Mt->Str
 | .ID=>"bit_length" | .index=>LM | .get=>"get"
def bH4(sg:Sg)(tn:ğ)(fr:ww):ğ:=tn++Ĥ (fr.drop tn.length) o (Ρ o aV (sg.N.getD i "") none "")
def bH5:Tg->Expr->ś ğ
 | .one _,e=>Ĥ (qg e) x [x]
 | YH,e=>match AR e with
  | ā es=>fO (r9=LN) (es.mapM qg)
  | none=>none
def OO(sg:Sg):Tg->uz
 | ag8,e=>match qg e with
  | bI=>LO i
  | none=>ă
 | YH,e=>match AR e with
  | ā es=>r9==LN&&2<=r9&&a9T fun p=>match qg p.2 with
   | bI=>LO p.1
   | none=>ă
  | none=>ă
def El:ſ ğ
 | []=>true
 | x::r=>!r.contains x&&El r
def aoB:Tg->ė
 | ag8=>[i]
 | YH=>is
def aFs(sg:Sg)(N':ğ)(fr:ww)(sc:Ξ)(tg:Tg):Bool:=FG (aoB tg) i (fr[i]? == Kc) &&
 aM6 == Et&&El N'&&El at6&&wu==aKc &&
 FG (fr.zip N') p (Ρ p.1 aV (sg.N[i]? == Fb&&sc.names.contains (p.2,Qs)) none true) &&
 aM5 (awL==bh||awL==Co)
def bH6(p:eH)(ps:ğ):Bool:=a9V (a9U "r" "c")
def bH7(p:eH)(ps:ğ):Bool:=a9X (in1 ar fun a=>a9W (([Jj,Ww,oZ]:ğ).contains a.arg&&ps==[a.arg]))
def aoC(p:eH)(ps:ğ):Bool:=bH6 p ps||bH7 p ps
@[elab_as_elim] theorem btH(h:aoC p ps=true){C:eH->Ž ğ}(k:∀x y z w,a92 "r" x y "c" z w)
  (k1:∀a x y,a∈([Jj,Ww,oZ]:ğ)->a91 [⟨a,x,y⟩] [a]):C p ps:=by
 rw[a90,yP (Bool.or_eq_true_iff.mp h)]
 ·rw[a9Z c aM7,a9Y];exact k b p1 c p2
 ·refine Sc (GA ⟨x,b,p1⟩ aM7);rw[Cq ZK h,nv d h (k1 x b p1 d)]
def aYH(sg:Sg)(kd:NameKind)(N:ğ)(np:Nat)(fr:ė)(pr:eH)(sc:Ξ):Bool:=a94 (aoC pr (Qt np))&&El N&&El at6&&bF fK (np+wu) &&
 FG (Qt np) x (tL==ki)&&a93&&FG (N.drop np) x (tL==Co)&&FG (fr.zip (N.drop np)) p (sg.N[p.1]? == Fb) &&
 Cp ß != bh&&aM5 (awL==ā kd)
def aoD(p:eH)(ps:ğ):Bool:=a9V (IR a.annotation (IR b.annotation (a9U GG GF)))
@[elab_as_elim] theorem btI(h:aoD p ps=true){C:eH->Ž ğ}(k:∀x y,a92 GG none x GF none y):C p ps:=by
 rw[a90,a9Z a (aFc (o:=b) h fun h=>aFc (o:=a) h fun h=>aM7),a9Y];exact k p1 p2
def aYI(sg:Sg)(i:Nat)(fr:ė)(ss:aM)(f:GC):Bool:=GH&&Cp ß==bh&&(s9 ss fun a b=>aYB a fun n pr bd sc x=>n==ß&&x==ß&&sg.N[i]? == ā ß&&sg.co pr bd sc (fr.map fun j=>sg.N.getD j "")&&fr.all (fun j=>ü j sg.N.length) &&
 (aM5 (awL==bh))&&(aYD b fun v ζ=>awM v (x==ß) (f es)))
def btJ(e:ME):Bool:=qe 23||qe 24
def aFt(e:ME):Bool:=qe 31||qe 49||qe 50
def adN:ğ:=[WG,WF,WE,WD,tA,WC,WB]
def aoE(sg:Sg)(i m:Nat)(e:Expr)(f:GC):Bool:=GE fun ef es pos=>IS ef fun o n apos=>uA o (Ek sg i x&&adN[m]? == BB&&aiT&&ü r9 20&&f es)
@[elab_as_elim] theorem aoF(h:aoE b i m e f=true){C:af}(k:∀x n np apos pos a,Ek b i x=true->aM8->aiV->ad<20->mG qd (aiU n a)):C e:=
 adL h fun ζ a pos h=>ON h fun ζ n apos h=>V2 h fun x np h=>by rw[awN];exact k x n np apos pos a h.1.1.1.1 (bn h.1.1.1.2) h.1.1.2 h.1.2 h.2
mutual
def aoG(sg:Sg)(w:Bool):ME->uz
 | .var i,e=>GI e
 | ĭ,e=>Se e ĭ
 | rD,e=>Se e (je i)
 | ő,e=>Se e ő&&aq cK 1000
 | .ę,e=>Se e Ġ
 | .oS x,e=>awP (qg e==bI)
 | avo,e=>aFf e fun ea o eb=>Sf (o==op)
 | .neg a,e=>baf .USub
 | .not a,e=>baf .Not
 | avn,e=>aYv e fun ea o eb=>Sf (o==op) && !qf eb
 | aLn aEq,e=>btj e fun ea o o' eb ec=>Sf (o==op&&o'==aEq)&&h_ c ec && !qf ec
 | .and ms,e=>bae .And
 | .or ms,e=>bae .Or
 | .lst ms,e=>aYl e fun es=>qh
 | Ē ms,e=>aow e fun es=>qh
 | ahv,e=>awQ ea eb wR b
 | aLm,e=>baa
 | ahu lo,e=>aNg (btk es fun el=>wR&&h_ lo el)
 | aht hi,e=>aNg (btl es fun eh=>wR&&h_ hi eh)
 | ł f ms,e=>awM e aNb qh
 | .bi f ms,e=>GE fun ef es ζ=>Sh (bH3 f) ef && !YN&&(match f with
   | .sset=>(in1 es fun e1=>aYw e1 fun bH8 es' _=>Sh kW bH8&&es'.length==1&&aiY ms es')
   | _=>qh)
 | .OC a ts,e=>aYy e fun ef ea et ζ=>Sh zF ef&&wR && !Cr && !mF et&&(match ts with
   | [t]=>aNf et ahN t
   | [t,u]=>(aYA et fun e1 e2=>(aNf e1 ahN t)&&(aNf e2 Δ u))
   | _=>ă)
 | .AG m a ms,e=>a96 ea (n==btG m&&wR&&(aM9||(btC ea).isSome)) aNe
 | avj,e=>bad (c.ifs.isEmpty&&bac) bab
 | avi,e=>bad bac (in1 c.ifs fun ec=>bab&&Cu aNd cd ec)
 | .adr f ms,e=>awM e aNb qh
 | ahr,e=>aFf e fun ea o eb=>Sf (o == .Add)
 | .ads a lo hi,e=>baa
 | .fld i b,e=>IS e fun o n ζ=>n==gU (İ b qO m7)&&(GI o)
 | avg,e=>aoE sg i m e a99
 | .fmt a,e=>btr e fun v=>h_ a v
 | .fst ms,e=>aYm e fun es=>aq 2 r9&&qh
 | avf,e=>aNc "find"
 | ahq,e=>aNc "split"
 | YS b,e=>aNc "join"
 | ahp,e=>aYv e fun ek o eo=>o == agW&&(uA eo (awP (x==VU)))&&h_ b ek
 | aLl np lb fr,e=>GH&&(bto e fun ef ea eb el ζ=>(uA ef (a98 (aNb && wR && !Cr&&aNa && !aiW&&aYH sg wy N np fr pr sc))))
 | aho,e=>a97 LM aM9
 | .fw ms,e=>w&&(GE fun ef es ζ=>Sh WR ef&&qh&&aq r9 3)
 | .sW a,e=>w&&(aoy e fun ef ea ζ=>Sh r_ ef&&wR && !Cr)
 | .adt a,e=>w&&(a96 o (n == aiX && h_ a o) (qg o).isSome)
 | .OD a k,e=>awQ ea eb wR k
 | ahn k,e=>awQ o ek (GI o) k
 | avc ms,e=>GE fun ef es ζ=>(GI ef)&&(xs.all fun p=>Cs[p.2]? == ā p.1) && !YN&&qh
 | a71,e=>GH&&(a95 qb wy)
 | ahm,e=>aYk e fun ec ea eb=>Sf (h_ c ec)
 | .an3 b,e=>awQ ea eb (uA ea (awP (x==VU))) b
 | YQ,e=>w&&(aYy e fun ef ea eb ζ=>Sf (Sh rA ef) && !Cr && !aiW)
 | aLg lb,e=>(sg.lp && !GH)&&(a95 t4 Qs)
 | .self _ _ ms,e=>(sg.lp && !GH)&&(awM e (x==ß) qh)
 | aLf,e=>btu e fun ka kb ea eb=>Sf (Se ka ő&&Se kb ma&&x != y)
def Em(sg:Sg):iN->GC
 | [],[]=>true
 | m::ms,jz=>awO && !mF e&&qh
 | _,_=>ă
end
def aYJ(v:Expr):Bool:=match AR v with
 | none=>true
 | ā vs=>vs.all (foldedForSure 8)
mutual
def aYK(sg:Sg):MS->ſ Stmt
 | ahF _,s=>aYC s fun t v pos=>(uA t (LO i&&LQ&&(aiZ||btJ e)))
 | ahE,s=>bah (uA t (LO i))
 | avF,s=>bak "append"
 | ahD,s=>bak "extend"
 | Y1 e,s=>bai ((GI o)&&h_ k ek && !LD ek&&LQ)
 | Y0,s=>bag LQ
 | YZ,s=>awR LQ
 | Gg,s=>aYr s fun ec ea eb ζ=>h_ c ec&&ZL a ea&&ZL b eb
 | YY,s=>btA s fun t i b ζ=>sg.lp&&OO sg tg t&&(ai0 it i&&(baj t)) && !qf i&&ZL body b
 | avC,s=>btB s fun t b ζ=>sg.lp&&h_ c t&&ZL body b
 | Rz,s=>Sj (uA t (btt v (LO i)))
 | Ry ks,s=>bai ((GI o)&&(aow ek fun es=>aiY ks es)&&LQ && aiZ)
 | RA,s=>awR (GI v)
 | aLv,s=>Sj (OO sg YH t&&LQ&&aYJ v && aiZ)
 | avA,s=>bah (IS t fun ob n ζ=>n == qO && (GI ob))
 | avz,s=>bag (aNi v es)
 | aLu,s=>Sj ((uA t (LO j))&&(aNi v es) && aiZ)
 | .jU _ e,s=>awR LQ
 | avy,s=>awR (aYA v fun a b=>h_ ő a && !mF a&&(aNi b []))
 | avx,s=>Sj ((uA t (LO i))&&(aoy v fun ef ea ζ=>qg ef==ā x9 && aiS x9 && h_ e ea && !Cr))
 | .OE j i,s=>Sj ((uA t (LO j))&&(aoE sg i 4 v a99))
 | avw,s=>btF s fun b ζ ζ=>GH&&En ⟨sg.N,sg.sc,Cs,LP,Si,ă,ă,IQ⟩ body b
 | .OF,_=>true
 | aNh,_=>ă
def En(sg:Sg):dZ->ſ aM
 | [],[]=>true
 | avv::ms,ss=>aYI sg i fr ss (aiY es)&&aNe
 | m::ms,s::ss=>aYK sg m s&&ZL ms ss
 | _,_=>ă
end
def aFu(C:OG)(fn bl cl:ğ)(pr:eH)(bd:aM)(sc:Ξ)(AS:ğ):Bool:=a94 (aoD pr Cv)&&El C.N&&aq ahG RB&&El at6 &&
 FG Cv x (tL==ki)&&a93&&(AS==aNl)&&AS.all (fun x=>tL==Co)&&aNk ß==Co&&En aNj Y3 bd
universe L2
namespace L2
open PySem PySem.Spec PyProof.Rows
def adO(H:Hp)(q:Str)(ZM:eH)(body:Expr)(À:Ξ)(cl:jw)(f:Addr):Prop:=
 ∃c' oc u vs t pm V3,bX f (nY (bal q ZM body À cl pm c' V3) f)/\m_ c' oc u/\arN=Ju/\aHI
theorem adO.mono(e:Ú c)(h:aNm H a):aNm c a:=by
 obtain⟨l,i,u,d,t,g,b,k,j,r⟩:=h;exact⟨l,i,u,d,t,g,b,iL k,iL j,r⟩
structure aYL(N ps:ğ)(sc:Ξ)(cl:jw)(l:Ň):Prop where
 kind:XW
 co:afZ
 gen:afY
 nd:ae7
 pre:awT=ps
 par:aNn
 Eo:awS
 jT:bap
 has:bao
 inj:ban
 mem:bam
def aFv(H:Hp)(N:ğ)(np:Nat)(cl:jw)(l:Ň)(ws:Ŕ):Prop:=fK=np+Ci/\(awU ZN) /\
 bar N np baq
theorem aFv.mono(e:Ú d)(h:aFv H N np cl l ws):aFv d N np cl l ws:=
 ⟨h.1,fun c f=>gh (Ĩ o v b a (h.2.1 c f)) ⟨o,v,iL b,a⟩,fun i x v j g=>gh (Š c o u b a r (h.2.2 i x v j g)) ⟨c,o,u,b,iL a,r⟩⟩
noncomputable def aoH(m:AK)(ZM:eH)(body:Expr)(À:Ξ):Bool:=aoC ZM ZO&&Cu ⟨m.N,mu,m.fn,m.bl,m.cl,ă,ă,IQ⟩ ahH body
theorem bH9(h:aoC c ps=true)(d:e.length=bo):XU (bas c b sc cl pm cd g) ⟨e,[]⟩=afS e:=by
 revert d;refine btH h (Ý x y z w d) (Ý a x y f d)
 ·obtain⟨u,v,rfl⟩:∃u v,e=[u,v]:=by
   cases e with
   | nil=>cases d
   | cons u r=>cases r with
    | nil=>cases d
    | cons v r=>cases r with
     | nil=>exact cj u v
     | cons _ _=>cases d
  rfl
 ·obtain⟨u,rfl⟩:∃u,e=[u]:=by
   cases e with
   | nil=>cases d
   | cons u r=>cases r with
    | nil=>exact aW u
    | cons _ _=>cases d
  rw[Ck f];rcases f with z | z | z<;>(subst z;rfl)
universe L2
namespace L2
open PySem PySem.Spec PyProof.Rows
structure Dm where
 K:ĝ
 mg:bY
abbrev Cx.D(X:Cx):Dm:=⟨X.K,X.mg⟩
def OP(K:ĝ)(H:Hp)(a:Addr)(xs:Ŕ):Prop:=(∃o,m_ a o qR) \/
 a4a
theorem OP.sq{K:ĝ}(h:aNo):JW:=by
 rw[yP h]
 ·rw[ŝ (ķ h)]
 ·rw[yI]
theorem OP.of{K:ĝ}(b:aEk H)(h:JW):aNo:=by
 rcases h with(h | h) | h
 ·rw[fB (b a)]
  ·rw[EL h]
  ·rcases z with⟨o,ys,z⟩ | ⟨q,z⟩<;>(rw[EL h])
 ·rw[ŝ h]
 ·rw[yI]
theorem ũ.bIa{K:ĝ}(e:Ú b)(h:aNo):OP K b a xs:=by
 rcases h with⟨o,h⟩ | h
 ·rw[ŝ ⟨o,iL h⟩]
 ·rw[yI]
def adP:Key->mS
 | ı i=>.i i
 | ya=>.s x
def aYM:ſ HO
 | qV=>true
 | .dK _=>true
 | .dT _=>true
 | aHU=>true
 | _=>ă
mutual
def Rep(D:Dm)(H:Hp):DV->Ž V
 | .ę,v=>v=.ę
 | o5,v=>v=o5
 | ĭ,v=>v=ĭ
 | ő,v=>v=ő/\ů cK
 | ο,v=>nZ xs (yq D.K) GJ
 | Ŧ,v=>nZ xs (tQ a) GJ
 | ag5,v=>baw ρ (awV aNq) (awV Cj) (awV aNp) H
 | .fn x,v=>bav
 | d_,v=>bau bd sc ws m l H
 | BS,v=>∃a,QA/\OP D.K H a aJS
def bD(D:Dm)(H:Hp):Ħ->Ž Ŕ
 | [],xs=>xs=[]
 | rH,xs=>bat vs
end
theorem ũ.aoI{K:ĝ}(e:Ú b)(h:yq K):VF K b a xs:=by
 rw[aJ1 h]
 ·rw[agq (iL h)]
 ·rw[at0 (iL h)]
 ·rw[yI]
mutual
theorem LR{D:Dm}{H H':Hp}(e:pF):aw1 zG (Cw H')
 | .ę,_,h=>iR
 | ny,_,h=>iR
 | iJ,_,h=>iR
 | mh,_,h=>iR
 | ο,_,h=>bay (e.aoI e2)
 | Ŧ,_,h=>bay (iL e2)
 | F5,_,h=>by
  rw[GK,aw0 h o]
  ·rw[ŝ bax]
  ·rw[Í bax]
 | BR,_,h=>iR
 | d_,_,h=>by rw[GK];obtain⟨f,pr,bd,sc,q,cl,l,ws,e1,e2,e3,e4,e5,e6⟩:=h;exact⟨f,pr,bd,sc,q,cl,l,ws,e1,e2.mono e,e3,e4,awW e5,e6.mono e⟩
 | FV,_,h=>by rw[GK,gC a e1 e2 h a e1 (e.bIa e2)]
theorem bD.mono{D:Dm}{H H':Hp}(e:pF):awZ GJ (awY H')
 | [],_,h=>awX
 | rH,_,h=>gh aNr ⟨v,vs,e1,LR e e2,awW e3⟩
end
theorem aFw:zH ĭ↔v=ĭ:=Cy
theorem aYN:zH rD↔v=rD:=Cy
theorem adQ:zH tZ↔(v=tZ/\ů XE):=Cy
theorem aFx{D:Dm}{H:Hp}{v:V}:zH .ę↔v=.ę:=Cy
theorem btK:zH ο↔nZ b (aw2 b) (Sl b):=Cy
theorem btL:zH Ŧ↔nZ b aNs (Sl b):=Cy
theorem aoJ:zH d_↔bau c a b m l H:=Cy
theorem aYO:zH (.fn x)↔bav:=Cy
theorem btM:zH (.fx b)↔∃a,QA/\OP D.K H a ZA:=Cy
theorem btN:zH ag5↔(baw b (zI aNq) (zI Cj) (zI aNp) H):=Cy
theorem btO:n9 [] a↔a=[]:=aio bD Iff.rfl
theorem aYP:n9 rH xs↔bat a:=by
 rw[jF]
 ·intro h;exact h
 ·intro h;exact h
theorem bD.length:∀{a:Ħ} {xs:Ŕ},n9 a xs->aP=ad
 | [],_,h=>Η (LS h)
 | d::a,_,h=>by obtain⟨v,vs,c,_,b⟩:=GL h;rw[c,ŀ,ŀ,bD.length b]
theorem bD.get:∀{ds:Ħ} {xs:Ŕ} {i:Nat} {d:DV},GJ->uB ds->∃v,nH xs/\zG
 | [],_,_,_,_,e=>aeL e
 | rH,_,i,d',h,e=>by
  rw[ĩ v vs c b a (GL h)];subst c;cases i with
  | zero=>simp at e;rw[eN e (τ v b)]
  | succ i=>simpa using bD.get a (Ł e)
theorem bD.append:∀{a es:Ħ} {xs ys:Ŕ},n9 a xs->n9 es ys->n9 (a++es) (xs++ys)
 | [],_,_,_,h,b=>BL (LS h)
 | d::a,_,_,_,h,b=>ai1 vs f e c (aw3 _ e (bD.append c b))
theorem wT(h:zG):n9 [d] [v]:=aw3 [] h wS
theorem bD.take:aNu (a.take n) (xs.take n)
 | _,_,0,_=>wS
 | [],_,n+1,h=>aNt
 | d::a,_,n+1,h=>ai1 vs e c b (aw3 _ c (bD.take n b))
theorem bD.drop:aNu (a.drop n) (yd n)
 | _,_,0,h=>h
 | [],_,n+1,h=>aNt
 | d::a,_,n+1,h=>ai1 vs c e2 b (bD.drop n b)
theorem bD.set(q:zG):aNu (a.set n d) (xs.set n v)
 | [],_,n,h=>aNt
 | _::a,_,0,h=>ai1 f c e b (lj q b)
 | _::a,_,n+1,h=>ai1 f c e b (lj e (bD.set q n b))
theorem aYQ:∀(a:Ď),n9 (nT É) (nT nM)
 | []=>wS
 | n::a=>lj GN (aYQ a)
def wo(O:Ň)(H:Hp):Hp:=fun b=>İ (b∈O) none (H b)
theorem OQ(h:b∈O):wo O H b=none:=Br
theorem cr(h:b∉O):wo O H b=H b:=EG
theorem s_(h:wo O H b=ĕ):b∉O/\H b=ĕ:=by
 by_cases a:b∈O
 ·rw[ŉ (OQ a)]
 ·rw[Ę (cr a) h (Į a h)]
theorem ũ.wo{O:Ň}{H H':Hp}(e:pF):ũ (wo O H) (wo O H'):=fun b o h=>by
 rw[ň hb h (s_ h) (Ĉ (cr hb) (e b o h))]
theorem xX:ũ zJ H:=fun b o h=>(s_ h).2
theorem mW(h:tN a O):ũ zJ (jG a):=fun b o e=>by
 rw[LU c]
 rwa [cr fun z=>c (h b z)]
theorem gP(h:js):Ú (qi o):=yg u (BL (LV q h))
structure Hid(O W:Ň)(H0 H:Hp):Prop where
 ot:∀a∈O++W,H0 a≠none
 same:Sn
 wl:ai2 W (H0 a)
 dj:∀a∈W,a∉O
 om:ai2 O (H0 a)
def V4(O:Ň)(H:Hp):Prop:=ai2 O (H a)
theorem V4.ne(h:LW):aw4 (H a):=fun a b q=>hZ (fC o e (h a b)) (dP q)
theorem Hid.aYR(h:fT b)(e:ũ b c):V4 O c:=fun a d=>ED o q m (h.om a d) (iL q)
theorem Hid.btP(h:fT b)(c:p∈W):V4 O (upd b p x):=fun a d=>by
 rw[gC o q m (h.om a d) o (nb (fun z=>h.dj p c eY) q) m]
theorem Hid.aYS(h:fT a):LW:=h.aYR h.same
theorem Hid.xY(h:fT c):V4 n_ H:=fun a b=>by
 rw[BF b z]
 ·exact h.aYS a z
 ·rw[gC o q m (h.wl a z) o (h.same _ _ q) m]
theorem Hid.mono(h:fT a)(e:Ú b):aw5 a b:=⟨h.ot,h.same.trans e,h.wl,h.dj,h.om⟩
theorem Hid.aYT(h:fT b)(a:js):p∉O++W:=fun z=>h.ot p z (h.same.free a)
mutual
theorem Rep.IG{D:Dm}{O W:Ň}{H:Hp}(hw:ai2 W (H a)):aw1 (d.IG=true) (ZU->ZT)
 | .ę,_,_,h=>iR
 | ny,_,_,h=>iR
 | iJ,_,_,h=>iR
 | mh,_,_,h=>iR
 | ο,_,m,h=>by
  rw[ZS];have m':Yv=true:=baC;rw[aNy (ZP hw m' e3)]
  ·rw[aNv (ı ?_)]
   ·exact h
   ·rw[ZQ]
    ·exact ha z
    ·rw[aw6]
  ·rw[aNv (ķ (aD o))]
   ·exact h
   ·rw[ZQ]
    ·exact ha z
    ·rw[aw6]
  ·rw[yI]
 | Ŧ,_,m,_=>baA
 | ag5,_,m,h=>by
  have m':BQ vs=true:=baC;have ou:∀{a:Addr} {o:Obj} {u:HO},jG O a=aeR->se H a=aeR:=fun {a o u} e=>by
   rw[đ ha h (s_ e),aNx]
   ·exact h
   ·rw[ZQ]
    ·exact ha z
    ·rw[aw6]
  rw[aw0 (ZR h) o]
  ·exact aw7 (ı baB)
  ·exact aw7 (ķ baB)
 | BR,_,_,h=>iR
 | FU,_,m,_=>baA
 | BS,_,_,h=>by
  rw[GK,aNw]
  ·rw[aNv (aD o)]
   ·exact h
   ·rw[ZQ]
    ·exact ha z
    ·rw[aw6]
  ·rw[yI]
theorem ZP{D:Dm}{O W:Ň}{H:Hp}(hw:ai2 W (H a)):awZ (Yv=true) (ai4->ai3)
 | [],_,_,h=>awX
 | rH,_,m,h=>baz BQ (Rep.IG hw m.1 e2) (ZP hw m.2 e3)
end
def aoK(D:Dm)(W:Ň)(Ht H:Hp)(d:DV)(v:V):Prop:=match d with
 | Ŧ=>nZ xs Cz (Ht a=ā qR/\GJ)
 | d=>zG
theorem aoK.mono(k:ũ g f)(e:Ú i)(h:aw8 g H):aw8 f i:=by
 cases d with
 | lst ds=>rw[Ps a j n o m l h o (ye m) (l.mono e)]
 | ę=>rw[lm]
 | bl b=>rw[lm]
 | int b=>rw[lm]
 | str b=>rw[lm]
 | tup b=>rw[lm]
 | dJ b c=>rw[lm]
 | fn b=>rw[lm]
 | lam b c=>rw[lm]
 | fx b=>rw[lm]
theorem aoK.rep(e:Ú f)(h:aw8 f H):Cw f:=by
 cases d with
 | lst ds=>rw[Š a g k e0 j i h];exact ai5 ⟨a,g,k,j,i.mono e⟩
 | ę=>rw[lm]
 | bl b=>rw[lm]
 | int b=>rw[lm]
 | str b=>rw[lm]
 | tup b=>rw[lm]
 | dJ b c=>rw[lm]
 | fn b=>rw[lm]
 | lam b c=>rw[lm]
 | fx b=>rw[lm]
def Got(D:Dm)(O W:Ň)(H0 H:Hp)(d:DV)(c:Cl)(v:V):Prop:=match c with
 | cJ=>ZU
 | .top=>aw8 zJ CA
 | .č=>ZT
 | Ŋ=>baD n_
section
variable {D:Dm} {O W:List Addr} {H0 H H':Hp} {d:DV} {ds:List DV} {c:Cl} {v:V}
theorem bIb:tN O n_:=aS h (Bm h)
theorem Got.mono(h:LX)(e:pF):baE:=by
 cases c with
 | weak=>exact LR e.wo h
 | top=>exact aoK.mono e.wo e.wo h
 | č=>exact LR e.wo h
 | mw=>
  rw[GO p a k j i g f b h g (iL f) (b.mono e.wo)]
theorem Got.since(h:GP d c v)(e:ũ H0 a):LX:=by
 cases c with
 | weak=>exact h
 | top=>exact h
 | č=>exact h
 | mw=>
  rw[GO p b l k j i g f h (e.free i) g f]
theorem Got.č(h:So d Ŋ v)(c:fU):ZT:=by
 rw[Ø p a ds j i g e4 f h,Ĉ i (ai5 ⟨p,a,j,BL (cr (fun z=>c.ot p z g)),f.mono (mW fun b e=>ť e)⟩)]
theorem Got.weak(h:LX)(hd:fU):ZU:=by
 cases c with
 | weak=>exact h
 | top=>exact aoK.rep ZV h
 | č=>exact LR ZV h
 | mw=>exact LR ZV (h.č hd)
theorem Got.all(h:LX)(a:fU):zG:=LR xX (LY a)
theorem Got.f6(h:LX)(hd:fU)(g:L2.f6 d c=true):ZT:=by
 cases c with
 | č=>exact h
 | mw=>exact h.č hd
 | weak=>exact baF
 | top=>exact baF
theorem Got.items(h:CB Ŧ)(hd:fU)(f:GQ c):nZ xs (tQ a) ai3:=by
 cases c with
 | weak=>rw[Ŗ rfl f]
 | top=>
  rw[Š a xs e e0 d b h];exact⟨a,xs,e,LZ d,b⟩
 | č=>
  rw[ai6 h (LZ d)]
 | mw=>
  rw[ai6 (h.č hd) (LZ d)]
theorem Got.btQ(h:CB (Ē f))(hd:fU)(g:GQ c):nZ xs (yq D.K) (L0 f xs):=by
 cases c with
 | weak=>rw[Ŗ rfl g]
 | top=>
  rw[baG (h)]
 | č=>
  rw[baG h]
 | mw=>
  rw[Ø p xs f e b d e4 e5 h];cases b
theorem Got.lst(h:CB Ŧ)(d:fU):nZ b aNs (GR O b):=by
 rw[lT a b g f e (L3 (LY d)) a b g (LZ f) e]
theorem Got.tup(h:CB ο)(d:fU):nZ b (aw2 b) (GR O b):=by
 rw[lT a b g f e (uC (LY d)) a b g (ai7 f) e]
def btR(O W:Ň):Cl->Ň
 | cJ=>O
 | _=>O++W
theorem Got.aoL(h:CB Ŧ)(hd:fU):nZ b aNs (Sq b):=by
 cases c with
 | weak=>exact h.lst hd
 | top=>exact aNz
 | č=>exact aNz
 | mw=>exact aNz
theorem Got.aYU(h:CB ο)(hd:fU):nZ b (aw2 b) (Sq b):=by
 cases c with
 | weak=>exact h.tup hd
 | top=>exact aNA
 | č=>exact aNA
 | mw=>exact aNA
theorem Got.item(h:Cw (jG (L4 c))):So d ag1 v:=by
 cases c<;>exact h
theorem IT(a:c ≠ Ŋ:=by rw[E2 z]):So ĭ c ĭ:=by
 have q:∀H,L5 H _ ĭ:=fun H=>GN;cases c with
 | mw=>rw[Ŗ rfl a]
 | weak=>exact q zJ
 | č=>exact q CA
 | top=>exact q CA
theorem adR:So rD .č rD:=(aYN.mpr rfl:aw9 _ _)
theorem bIc:So .ę .č .ę:=(aFx.mpr rfl:aw9 .ę .ę)
theorem Got.int(h:CB ĭ)(a:fU):v=ĭ:=sf (LY a)
theorem Got.bl(h:CB rD)(a:fU):v=rD:=GS (LY a)
theorem Got.str(h:CB ő)(a:fU):v=ő/\ů cK:=adQ.mp (LY a)
theorem adS(c:fU)(a:js)(r:ai3):ZW qR Ŧ Ŋ:=by
 refine⟨p,xs,ds,rfl,rfl,c.same.free a,Μ,ai8 FK⟩;rw[LU hb]
 rwa [cr eY,LV e a]
theorem aYV(b:fU)(a:js)(r:ai4):ZW qR Ŧ cJ:=by
 exact ai5 ⟨p,xs,rfl,iS (fun z=>b.aYT a PM) Μ,aNB⟩
theorem btS(hd:fU)(a:js)(r:Sq xs):ZW qR Ŧ Q5:=by
 cases c with
 | weak=>exact aYV hd a r
 | top=>exact axa r
 | č=>exact axa r
 | mw=>exact axa r
theorem bId(b:fU)(a:js)(r:ai3):ZW A8 ο .č:=
 axb ⟨p,xs,rfl,aff (iS (b.aYT a) Μ),aNB⟩
theorem btT(b:fU)(a:js)(r:ai4):ZW A8 ο cJ:=
 ai9 p xs rfl (b.aYT a PM) aNB
theorem bIe(hd:fU)(a:js)(r:Sq xs):ZW A8 ο ag1:=by
 cases c with
 | weak=>exact btT hd a r
 | top=>exact axc r
 | č=>exact axc r
 | mw=>exact axc r
universe E_
inductive vi (D:Dm) (O W:Ň) (H0 H:Hp):bu->Ž Ŕ where
 | nil:L6 [] []
 | cons {d:DV} {c:Cl} {v:V} {l:bu} {vs:Ŕ}:LX->ZX->L6 (F3::l) (v::vs)
theorem vi.aFy(h:ZX)(b:fU):wU zJ br vs:=by
 induction h with
 | nil=>exact wS
 | cons h _ a=>exact lj (LY b) a
theorem vi.xS(h:ZX)(b:fU)(hs:L2.xS l=true):L0 br vs:=by
 induction h with
 | nil=>exact wS
 | cons h _ a=>
  rw[jH L2.xS hs (ph aNC ĥ hs (lj (h.f6 b hs.1) (a hs.2)))]
theorem vi.length(h:ZX):gR=Ű:=by
 induction h with
 | nil=>rfl
 | cons _ _ a=>rw[ŀ,ŀ,a]
theorem vi.č(h:ZX)(b:fU)(hs:y9):L0 br vs:=by
 refine h.xS b ?_;unfold L2.xS;rw[wQ]at hs ⊢;intro p a;have:=hs p a;unfold L2.f6;cases e:p.2<;>rw[e]at this<;>first | rfl | cases this
theorem vi.one(h:L6 [F3] vs):∃v,vs=[v]/\LX:=by
 cases h with
 | cons h t=>rw[ψ t auC]
theorem vi.two(h:L6 [F3,(b,f)] vs):∃v a,vs=[v,a]/\LX/\So b f a:=by
 cases h with
 | cons h t=>rw[jk a e g t.one (eN e ⟨_,_,rfl,h,g⟩)]
theorem vi.three(h:ZY D a H [F3,(i,l),(g,j)] vs):∃v f b,vs=[v,f,b]/\GP d c v/\GP i l f/\GP g j b:=by
 cases h with
 | cons h t=>rw[aT f b e n m t.two (eN e ⟨_,_,_,rfl,h,n,m⟩)]
def bIf(L:yX):DV:=.dJ baH axd
def oU(L:yX):XN:=oe p (YG p.1.1 p.1.2,axe)
def aoM:ſ HO
 | .dK _=>true
 | .dT _=>true
 | aHU=>true
 | _=>ă
def aoN(C dx:Addr)(t:Str)(k:Int):HO:=aja [(m7,k_),(qO,eX)]
def V5(d:DV)(a:Addr)(o:HO):Prop:=∃(C dx:Nat) (qa qx:DV) (t:Str) (k:Int),d=Ē [ak C,qa,qx,k_,eX]/\(qa=.ę\/qa=ak a)/\(qx=.ę\/qx=ak dx)/\GU/\o=GT k
def vj(d:DV)(a:Addr)(o:HO):Prop:=baI\/V5 d a o
theorem vj.btU(h:axf):aoM o=true:=by rw[baJ]
theorem vj.mut(h:axf):aYM o=true:=by rw[baJ]
theorem vj.aYW(h:axf)(hd:aEH d=true):baI:=by
 rcases h with h | ⟨_,_,_,_,_,_,e,_⟩
 ·exact h
 ·rw[Ī e hd hd]
def aFz(H:Hp)(σ:St)(δ:ē)(W:Ň):Prop:=∀(i:Nat) d,uw d->(∃a o,axf/\ajb/\Cz/\EH)/\∀(j:Nat) d',ZZ d'->j=i
theorem aFz.step(h:aFz H σ δ W)(btV:aND c b)(r:∀a∈W,(∃o,EH/\aoM o=true)->a∈l)(v:∀a o,Cz->EH->aoM o=true->m a=ĕ):aFz m b c l:=fun i d q=>by
 rw[đ p n (btV i d q)];obtain⟨⟨a,L,e,e1,g,f⟩,u⟩:=h i d p;rw[Į ⟨a,L,e,BL n,r a g ⟨_,f,e.btU⟩,v a _ g f e.btU⟩ (fun j k z=>u j k (btV j k z).1)]
theorem aYX{σ:St}{δ:ē}(x:EF)(c:baK):aND (B9 X) (Xn x):=fun j d h=>by
 have b:Ge:=fun z=>by
  subst z;have a:j<YV:=axg;rw[Ļ (wV a) h (c d (dN h))]
 rw[aNE b.symm]at h ⊢;exact aW h
theorem bIg{σ:St}{δ:ē}(a:baK):aND (B9 X) σ:=ajc (aW (aYX (σ:=σ) none a j d h).1)
structure f7(D:Dm)(H:Hp)(σ:St)(δ:ē)(O W:Ň):Prop where
 val:∀(i:Nat) d,sh gz->∃v,ae1/\ZT
 own:∀(i:Nat) d,sh ahi->∃a xs ds,d=Ŧ/\ajb/\Cz/\tQ a/\ai3
 inj:∀(i j:Nat) a d d',sh ahi->avV j d'->ajb->ĳ σ j (yR a)->i=j
 od:aFz H σ δ W
 len:WY=YV
 cV:fT H
theorem Hid.later(h:fT H)(e:Ú c):aw5 c c:=⟨fun a b q=>h.ot a b (e.free q),zK,fun a b=>ED d q m (h.wl a b) (iL q),h.dj,h.aYR e⟩
theorem f7.mono(R:jI)(e:Ú g):og g σ δ where
 val:=L8 d (by rw[Z0 c b i h (b.mono e.wo)])
 own:=L8 f (gh (Ø a k f o c b n m (L7 f h)) ⟨a,k,f,o,c,b,iL n,m.mono e.wo⟩)
 inj:=Ss
 od:=ajd (ajc (aW h)) h (fun a l ζ h ζ=>iL h)
 len:=Sr
 cV:=R.cV.later e
def aFA(D:Dm)(O W:Ň)(H0 H:Hp)(Q:VK):Ž Re
 | dt c=>axh baE
def dE(D:Dm)(δ:ē)(r:Re):TE:=aNF (aje H H)
def bIh(D:Dm)(O W:Ň)(H0 H:Hp)(Q:Xc):Ž Rs
 | .ok l=>∀vs H',pF->ZY D H0 H' l vs->Q vs H'
def dA(D:Dm)(δ:ē)(r:Rs):TA:=aNF (bIh D O W H H Q r)
def aFB(D:Dm)(H:Hp)(Q:Xb):Ž Rt
 | .ok b=>∀H',pF->Q b H'
def dT(D:Dm)(δ:ē)(r:Rt):TT:=aNF (aFB D H Q r)
theorem aFA.step(h:aje b H)(e:Ú a):aje b a:=by
 cases r with
 | ok d c=>exact fun v f s g=>h v f (JP s) g
theorem aFA.later(h:aje b H)(e:Ú a)(f:ũ b a):aje a a:=by
 cases r with
 | ok d c=>exact fun v i s g=>h v i (JP s) (g.since f)
theorem vi.since(h:ZY D a H l vs)(e:ũ b a):ZY D b H l vs:=by
 induction h with
 | nil=>exact .nil
 | cons g _ c=>exact ai (g.since e) c
theorem aFB.later(h:aFB D H Q r)(e:Ú a):aFB D a Q r:=by
 cases r with
 | ok b=>exact fun c s=>h c (JP s)
theorem PE.weak(h:fH t)(k:aNG):fH t':=baL
theorem PT.weak(h:Xd t)(k:aNG):Xd t':=baL
theorem PW.weak(h:PW X e t)(k:baN Q):PW X e t':=baM a c b
theorem PA.weak(h:Fr e)(k:aNG):PA X e t':=baM c b a
theorem PS.weak(h:PS X e t)(k:baP):PS X e t':=baO
theorem Oq.weak(h:nu e t)(k:baP):nu e t':=baO
theorem btW:PW X e tR:=atZ h ago
theorem btX:Xd tR:=aIy
theorem aoO:fH tR:=aIy
universe L2
namespace L2
open PySem PySem.Spec PyProof.Rows
theorem aoP(h:Su):ů n:=L9
theorem btY(g:∀j,q9 j->fH (aW4 r j))(m:CC f)(h:aY f k=ū)
  (l:∀O W i H x Q d cx (σ:St),k d cx=ū->fT i->uD i H d cx x->Z1 i c->r x H Q):axi c:=by
 cases b:f with
 | none=>rw[Sw]
 | some q=>
  rw[Κ b (m q b)];cases q with
  | ok d cx=>
   exact(g _ A).weak (lq σ x o n (l O W H o x Q d cx σ h Ι n (ajf s1)))
theorem btZ{k:BO (BO Ĺ)}(v:CC m)(u:fV l b)
  (h:(za m cx l cy (k x cx y cy))=ā e)
  (s:baQ j i g (ā e) e) :
  ∃o n,q9 o/\vM n/\axj e (adk r o n σ H Q):=by
 cases d:m with
 | none=>rw[ŉ d]
 | some q=>
  rw[Κ d (v q d)];cases q with
  | ok i cx=>
   have f:=h;cases c:l with
   | none=>rw[W8 c]
   | some q=>
    rw[ς c f B (u q c)];cases q with
    | ok g cy=>
     exact⟨_,_,A,B,fun σ H Q ee=>⟨O,W,R,fun x H1 s1 z=>⟨O,W,cN,fun y C s2 w=>
      s O W H C x y Q i cx g cy σ f L_ (z.mono s2) (w.since s1) (ajf Sx)⟩⟩⟩
theorem aYY{k:BO (BO Ĺ)}(i:∀g f,q9 g->vM f->fH (adk r g f))(s:CC l)(p:fV j b)
  (h:(za l cx j cy (k x cx y cy))=ū)
  (o:baQ d n m ū c):axi c:=by
 rw[ĩ g f A B q (btZ s p h o)];exact(i _ _ A B).weak q
theorem aoQ(d:∀t,Fr es->fH (aXd r t))(i:uE c es)(h:BP c k=fb)
  (g:∀O W f H vs Q l (σ:St),k l=fb->fT f->axk f H l vs->Z1 f b->r vs H Q):axi b:=by
 cases a:c with
 | none=>rw[Sy]
 | some q=>
  rw[Κ a (i q a)];cases q with
  | ok l=>
   exact(d _ A).weak (lq σ vs m j (g O W H m vs Q l σ h Ι j (ajf s1)))
theorem bIi{i:Nat}(g:qY)(hv:W0)(hd:jj)(c:asj)
  (h:aoj Τ = Û):iT (c_ pos) r:=
 (Os g hv hd c).weak fun σ H Q ee=>by
  rw[cM aoj]
  ·rw[CD d q h,Z0 e b i q (p v H GW b)]
  ·rw[CD d q h,Ø a f ds l e b k j (L7 d q),Kn l ⟨Ŝ,e,GV ⟨a,f,rfl,b,?_,j⟩⟩,Ĉ (cr (Sz a b)) k]
  ·cases h
theorem bVU:ajg ĭ (pO ĭ):=bqG.weak (Z2 qj)
theorem bVV:ajg (je i) (pO rD):=bCP.weak (Z2 Z3)
theorem bIj(h:ů XE):ajg tZ (pO tZ):=bqH.weak (Z2 (aNH h))
theorem bVW:ajg Ġ (Rr .ę):=bCQ.weak (Z2 (GV bIc))
section
variable {X:Cx} {δ:List Sv} {a b c e:Expr} {pos:Pos} {ra rb:Option Re} {re:Re}
theorem bt0{a:Hp}(b:fT a)(e:GP ĭ h x)(d:GP aj f y)(c:C i j)(q:asQ):rI C g x y H Q:=
 ⟨i,j,e.int b,d.int b,c,q⟩
theorem bt1{a:Hp}{e:Cl}(b:fT a)(d:GP ĭ f x)(c:GP aj e y)(q:asQ):aW5 g x y H Q:=
 ⟨i,j,d.int b,c.int b,q⟩
theorem bIk{b a:Cl}(h:GQ b)(c:GQ a):Yw b a=Ŋ:=by
 cases b<;>cases a<;>first | rfl | rw[aNI] | rw[Ŗ rfl c]
def aYZ(i j:Int):Prop:=aW7 i j\/(KO 2000/\auL<2^2000)
theorem bits_le(h:KO n):Z4 i<=n:=by
 unfold Z4;by_cases a:i=0
 ·rw[cA a (Nat.zero_le n)]
 ·rw[Ř eY];have:=fun z=>a (Int.natAbs_eq_zero.mp z);exact ajh this h
theorem aYZ.ok(h:aYZ i j):IntMulOk i j:=by
 rw[arX h h h1 h2]
 ·exact h.ok
 ·rw[fR IntMulOk (Ĕ b1 (bits_le h1) b2 (bits_le h2))];have:baR ((Z4 i:Int)+(Z4 j:Int))=ă:=by
   rw[š baR eM];have:Ĵ bitsLine=134217728:=ø;omega
  rw[this,aMJ];exact vQ
theorem bIl:Bn .Mult baS:=a47 (mul_int q a.ok)
theorem bIm:Bn auN baT:=aEe fun i j ζ ζ ζ ζ ζ a q=>by
 have h1:=a.1;have b:auL<2^200:=bL a.2;rw[eS (floordiv_int Ă (a49 Ă) (ı (PyProof.noPylong_of_log2 ?_))) (GX (ajh Ă b))]
def bt2(X:Cx):E3->R2
 | .Add=>pv (Qc (i+j) x y H Q\/brK x y H Q)
 | .Sub=>Qc J_
 | .Mult=>baS
 | .Mod=>pv (a46 x y H Q)
 | auN=>baT
 | Xy=>a48
 | asS=>a5a
 | Xz=>Qc (yx i j)
 | XB=>Qc (XA i j)
 | afB=>Qc (afA i j)
 | _=>JB ζ tG
theorem bIn:Bn op (bt2 X op):=by
 cases op with
 | Add=>exact bDC.or bEZ
 | Sub=>exact bDD
 | Mult=>exact bIl
 | Mod=>exact bDE
 | FloorDiv=>exact bIm
 | LShift=>exact bDF
 | RShift=>exact bDG
 | BitAnd=>exact bDH
 | BitOr=>exact bDI
 | BitXor=>exact bDJ
 | MatMult=>exact aNJ
 | Div=>exact aNJ
 | Pow=>exact aNJ
theorem xZ(h:DZ d=aV):d=ĭ:=aji
theorem bt3(h:aEE d=ā p):d=.dJ p.1 p.2:=aji
theorem aY0(h:tT d=aV):d=Ē i:=aji
theorem bt4(h:aXL d=fN):d=aNK q:=by
 rw[cM aXL]
 ·rw[aJ a e h ib b f h (eJ h)];cases h;rw[xZ e,xZ f]
 ·cases h
theorem bt5(h:aXM d=fN):d=GY q:=by
 rw[Ė l e h ib,aY0 e,bt4 h]
theorem bt6(h:aXN o=ā p):o=ā (.od (aK0 .dJ p)):=by
 rw[cM aXN]
 ·rw[aJ l e h ib d f h ib,ax VW f]
  ·cases f;rw[aY0 e,bt3 h]
  ·cases f
 ·cases h
theorem aY1(h:aEF k ks vs=ý):∃i,aKT=ā ĭ/\re=pO ĭ:=by
 rw[aJ v e h ib i f h (eJ h),gb (xZ f) e (υ i e h.symm)]
theorem bt7(h:aXy d=aV):d=.lst i:=aji
theorem bIo(h:adA op dx v cx cy=ý)(hd:fT k)(d:uD k H dx cx x)(c:uD k H v cy y)
  (p:Z1 k re):bt2 X op x y H Q:=by
 rw[wW adA h op]
 case Add=>
  rw[GZ]
  ·rw[baU,ş a (Ż h (ı (bt1 hd d c qj)))]
  ·rw[G0 xs (Z5 h ys a)];have a:=bt7 a;rw[fG a a_]
   ·rw[au (jv m) i (GQ cx/\GQ cy)]
    ·rw[aT r n b u r1 (d.items hd i.1) (baV (c.items hd i.2)),Ĉ (bIk i.1 i.2) (adS hd j (r1.append g))]
    ·rw[aT r n b u r1 (d.lst hd) (baV (c.lst hd))];have:Yw cx cy=cJ:=(by cases cx<;>cases cy<;>first | rfl | rw[Ŗ ⟨iU,iU⟩ i]);rw[Ĉ this (aYV hd j (r1.append g))]
   ·cases h
  ·cases h
 case Sub=>
  rw[Mb,Ma,axl]
 case Mult=>
  rw[GZ]
  ·rw[baU,fG a a_]
   ·rw[gf (jv m) (bt0 hd d c ?_ qj) (bH xT m)];simp only[pL,ĥ,aX]at m;exact m
   ·cases h
  ·cases h
 case Mod=>
  rw[Mb,Ma,a_]
  ·rw[axm]
  ·cases h
 case FloorDiv=>
  rw[Mb,Ma,a_]
  ·rw[axm]
  ·cases h
 case LShift=>
  rw[Mb,Ma,a_]
  ·rw[axm]
  ·cases h
 case RShift=>
  rw[Mb,Ma,a_]
  ·rw[axm]
  ·cases h
 case BitOr=>
  rw[Mb,Ma,axl]
 case BitXor=>
  rw[Mb,Ma,axl]
 case BitAnd=>
  rw[Mb,Ma,axl]
 all_goals (rw[Zh h];cases h)
theorem bIp(f:wX)(e:uF)(h:(za ra d rb c (aLp d c))=ý):lr (afv op pos):=
 aYY (aS ζ (bq5 bIn)) f e h fun O W H0 H x y Q dx d dy c σ k hd i g p=>bIo k hd i g p
theorem bIq(b:wX)(h:(CF fun x ζ=>a75)=ý):lr (aIR .USub):=
 btY (ű (bDx bDL)) b h fun O W H0 H x Q dx cx σ k hd c p=>by
  rw[Φ k]
  ·rw[ψ k ⟨_,c.int hd,qj⟩]
  ·cases k
theorem bIr:auJ=Z6 ds i:=rfl
theorem bD.Ov(h:GJ)(e:auJ=kY):∃v,Z6 xs i=j0/\zG:=by
 rw[bIr]at e;unfold Z6 at e ⊢;rw[axn];cases q:IC ŧ i with
 | none=>rw[dP q]
 | some j=>
  rw[Ļ q e (h.get e)]
theorem bIs(h:(SA (qL dx C) cx.item)=ý)(hd:fT o)(l:uD o H dx cx x)(k:uD o H C cy y)
  (p:Z1 o re):brE X.K x y H Q:=by
 rw[ab (mJ d b F h F) i b1 b2 (dz b)];clear b;rw[zM b1 (xZ b1)];have b:=b2;clear b2;rw[ax adx b]
 ·rw[G0 g (aJ a f e (ajj (Q1 hd)) n A w (eJ b))];cases w;have q:Z6 aMN i=ā ux:=by
   rw[Z7 Z6];have c:(Ź (IC E4 i) j g[j]?)=BB:=A;cases z:IC E4 i with
   | none=>rw[pi z]
   | some j=>
    rw[z]at c;have E:ĳ g j n:=c;show aMN[j]? = _;rw[Â,E];rfl
  refine ı ⟨a,_,i,_,f,k.int hd,e.sq,q,GV ?_⟩;cases cx<;>exact IT
 ·rw[ab (ĩ a r f e B (l.aoL hd)) v u s (B.Ov b),ŝ (baW (gm e))]
 ·rw[aT a r f e B (l.aYU hd) (Ŷ v u s (B.Ov b) (tU (baW e)))]
 ·rw[fM z (đ f e (l.str hd))];cases q:mT aKU i with
  | none=>rw[nN q]
  | some j=>
   rw[ľ (Ę q b (mJ m A w (b) w)) (at9 ⟨z,i,m,f,k.int hd,e,?_,GV ?_⟩)]
   ·unfold Z6;have:IC aJC i=iF:=Ć fF q;rw[this];show ĳ Qw j m;rw[Ĉ pZ A]
   ·have one:si H (axp m) (axp m):=zL (axo 1);cases cx<;>first | exact one | exact zL (axo 1)
 ·cases b
theorem bIt(g:wX)(f:uF)(e:LD b=ă)(h:(za ra c rb ζ (Ĥ (qL x y) d (dt ag1)))=ý):lr (wg a b pos):=
 baY (brA bEH j i (baX b e)) dx c dy (bIs k hd m l p)
theorem bt8(n d:Nat)(o:fL):ady n d o=BA n d o:=ql o
theorem bD.cut(h:GJ)(a b:fL):n9 (agU a b) (anX xs a b):=by
 unfold cutD anX;rw[bt8,bt8,←axn];exact f9 (h.drop _) _
theorem bt9{b c:fL}(h:(SA (adz f b c) (aXz f cx))=ý)(hd:fT g)(k:uD g H f cx x)
  (p:Z1 g re):aXf X.K x b c H Q:=by
 rw[mJ d h1 h2 h h2,ax adz h1]
 ·rw[Ţ h1 (lT a j n m l (k.aoL hd) a j n (gm m) (ajk i (btS hd i (l.cut b c))))]
 ·cases h1
theorem bIu:aEj X (fun x a b H Q=>aXf X.K x a b H Q):=bVQ
theorem adT(h:vM (zN (.ok ĭ cl))):PO X fb (Ş d (∃O W,ajl d/\∀c,Ú c->Q aV c)):=fun a s d H Q I ee=>
 bEz h a s d H Q I (eg (fun v c s1 g=>⟨i,aNL,p c s1⟩))
theorem bIv(j:wX)(i:uF)(h:(CF fun x g=>CG fun l ζ=>match l with
  | Rq=>YU Gb none g | _=>none)=ý):lr (af7 a fb none):=by
 cases e:ra with
 | none=>rw[ŉ e]
 | some q=>
  rw[Κ e (j q e)];cases q with
  | ok n g=>
   cases c:rb with
   | none=>rw[Mc]
   | some q=>
    rw[wY c (i q c)];cases q with
    | ok m cy=>
     rw[ba0 _ none]
     ·rw[aNM l (adT B) brw k baZ]
     ·cases f
theorem bIw(j:wX)(i:uF)(h:(CF fun x g=>CG fun l ζ=>match l with
  | Rq=>YU none Gb g | _=>none)=ý):lr (af7 a none fb):=by
 cases e:ra with
 | none=>rw[ŉ e]
 | some q=>
  rw[Κ e (j q e)];cases q with
  | ok n g=>
   cases c:rb with
   | none=>rw[Mc]
   | some q=>
    rw[wY c (i q c)];cases q with
    | ok m cy=>
     rw[ba0 none _]
     ·rw[aNM l brw (adT B) k baZ]
     ·cases f
theorem bIx(v:wX)(s:uF)(r:fV j c)(h:(CF fun x o=>CG fun l ζ=>match l with
  | Rq=>aY j fun u ζ=>(match u with
   | ć u=>YU Gb Δ o | _=>none) | _=>none)=ý):lr (af7 a fb ū):=by
 cases g:ra with
 | none=>rw[ŉ g]
 | some q=>
  rw[Κ g (v q g)];cases q with
  | ok n o=>
   cases f:rb with
   | none=>rw[ŉ f]
   | some q=>
    rw[wY f (s q f)];cases q with
    | ok z cy=>
     rw[aNN i z l (aY j fun u ζ=>(Yy u (ć u) (SA (adz n Gb Δ) _))) h]
     ·rename_i l;cases e:j with
      | none=>rw[aIu]
      | some q=>
       rw[ς e i C (r q e)];cases q with
       | ok y cz=>
        rw[aNN m y u (SA (adz n Gb Δ) (aXz n o)) i]
        ·rw[aNM u (adT B) (adT C) w ⟨O,W,Z9 s2,fun H3 k=>bt9 m (lu L_ k) (lu (w.mono s2) k) (ajf (zQ (Z8 k)))⟩]
        ·cases m
     ·cases i
universe E_
universe L2
namespace L2
open PySem PySem.Spec PyProof.Rows
theorem aFC(c:Nat):∀l:ė,rF l≠[]
 | []=>ZC D7
 | a::r=>by
  rw[g_ D7]
  ·simp
  ·split<;>simp
theorem aFD(c:Nat):∀l:ė,ajm p (rF l)
 | [],p,h=>by rw[dr D7 h oh,h];simp
 | a::r,p,h=>by
  rw[cM D7]
  ·rw[Fk h]
   ·rw[e];simp
   ·exact aFD c r p e
  ·rename_i b;have d:=aFD c r;rw[a_]
   ·rw[Gp x t e (p8 h q q)]
    ·rw[q,ir z (bM z)]
     ·exact b z.symm
     ·exact d x (Z' e) z
    ·exact d p (Ć e (ť q))
   ·rw[ba1]
def aFE(c:Nat):ui->ė
 | []=>[]
 | [a]=>a
 | ajn=>axq
theorem aFF(c:Nat):∀l:ė,oj (rF l)=l
 | []=>rfl
 | a::r=>by
  have b:=aFF c r;rw[g_ D7]
  ·rename_i e;cases q:rF r with
   | nil=>rw[Ŗ q (aFC c r)]
   | cons x t=>
    rw[q]at b;show[]++c::oj (x::t)=_;rw[b,e];rfl
  ·split
   ·rw[ba2];cases t with
    | nil=>show a::x=_;rw[bK (x=r) b]
    | cons y t=>show(a::x)++c::oj (y::t)=_;rw[←b];rfl
   ·rw[ba1]
theorem bIy(c:Nat):∀(x y u v:ė),c∉x->c∉y->x++c::u=y++c::v->x=y/\u=v:=by
 intro x;induction x with
 | nil=>
  intro y u v _ d h;cases y with
  | nil=>rw[Į rfl (Ł h)]
  | cons b y=>rw[ba3,Ŗ (Z' h1) d]
 | cons a x f=>
  intro y u v e d h;cases y with
  | nil=>rw[ba3,Ŗ (ŗ h1 Α) e]
  | cons b y=>
   rw[Kz,Kz]at h;rw[SB h h1 h2,đ i g (f y u v (fun z=>e Md) (fun z=>d Md) h2),Į (ŷ h1 i) g]
theorem bua(c:Nat):∀(p q:ui),p≠[]->q≠[]->(ajm x p)->(ajm x q)->oj p=oj q->p=q:=by
 intro p;induction p with
 | nil=>intro q h;rw[aNI]
 | cons x p j=>
  intro q _ k b a h;cases q with
  | nil=>rw[Ŗ rfl k]
  | cons y q=>
   rw[Ĕ g (b x Α) f (a y Α)];cases p with
   | nil=>
    cases q with
    | nil=>rw[bK (x=y) h]
    | cons i q=>
     have e:x=y++c::oj _:=h;rw[Ŗ (BD e) g]
   | cons x2 p=>
    cases q with
    | nil=>
     have e:x++c::oj _=y:=h;rw[Ŗ ba4 f]
    | cons i q=>
     rw[đ m l (bIy c x y _ _ g f h),m,j _ Ğ Ğ (fun z d=>b z (ť d)) (fun z d=>a z (ť d)) l]
theorem aY2(c:Nat):∀l:ğ,(my sj l).cps.toList=oj (iQ x wF)
 | []=>rfl
 | [x]=>rfl
 | YC=>by rw[ba5 sj sj (wF++c::oj _) #[c] sj,e,Z_,Z_,(aY2 c Gx),rq];rfl
theorem bIz(x y:Str):aNO y≠[]:=fun z=>by
 rw[kR (split_pos x y) z,Ŗ this Ğ]
theorem bIA(x:Str)(c:Nat):eK (aNO sj) p p.cps.toList=rF wF:=by
 refine bua c _ _ (Ł (bIz x _)) (aFC c _) (Ĝ p b) (aFD c _) ?_
 ·rw[bx q a b];exact StrLaws.split_free x c q a
 ·rw[←aY2,StrLaws.join_split,aFF]
theorem axr{y:Str}(h:Q7=[c]):y=sj:=by
 obtain⟨⟨l⟩⟩:=y;simp at h;rw[h]
theorem bIB(x:Str)(c:Nat):(Ρ (aNQ x sj 0 cK 1) (i::_) ae [] (-1))=OI c wF:=by
 unfold OI;have a:=fun i=>StrLaws.subAt_one x c i;rcases StrLaws.occ_head x sj 1 (aix 1)with⟨e,g⟩ | ⟨i,r,e,ha,hm⟩
 ·rw[e];have:c∉wF:=Ye (gj i b q (aiE z) (g i ((a i).mpr (ŷ Gn q))));rw[List.idxOf_eq_length this,Ř Yi]
 ·rw[fj e b ((a i).mp ha) f (jh b)];have q:x.cps.toList.idxOf c=i:=by
   have d:=ajo (kJ b);rw[Zc _ i z]
   ·rw[Ŗ ((a _).mpr (ŷ (Õ d) (aaa d))) (hm _ z)]
   ·exact z
   ·exfalso
    have:=ba6 (aNP List.idxOf z);rw[Õ f]at b;rw[(dN b)]at this;simp at this
  rw[q,į f]
theorem bIC{X:Cx}:QB "str.find" (fun x xs H Q=>∃(y z:Str) (c:Nat),x=ma/\xs=[g9]/\Qw=[c]/\yu (OI c Q7)):=by
 rw[vP pins xs us rx rv,Bo (gZ y z c rfl rfl hz q h) t (bK (∃t,v=aHA y t) rx) (aNS r1 rv t'),axr hz];have g:Gives (Builtin.«str.find» ⟨[ma t,X6 t'],[]⟩) (ć (Ρ (aNQ y sj 0 ky 1) (i::_) ae [] (-1))):=gives_str_find y sj t t';rw[Ļ bIB g (call_gives F.slot_str_find (aNR _ _ _) F.entry_str_find (F.args_str_find_2 _ _) g Xo)]
theorem bID(f:k6 ky 0)
  (e:∀(l:pA Tok) tk,br=aNO y->Q dm (Ch (aMu Ò aNU)))
  (d:ů cK) (b:ů (Ą (Builtin.Str.partsBetween x ba9 ky))) :
  gr (BI "str.split" [ő t,ma u]):=by
 cases a:(ü cK ky||ü (bba x) (bba y))
 ·cases c:(ba9).isEmpty
  ·refine aNT (meets_str_split_sep x y t u a f c d b) ?_;show wants Q E _ {s with toks:=_,heap:=aMu Ò (strsFrom f_ _)};rw[Ĉ strsFrom_eq (iL (Ų (numbered_texts _ _) (ba7 (Ř (ba8 c))).symm))]
  ·exact aNT (meets_str_split_not_found x y t u a f c)
    (e [(x,t)] f_ (ba7 (į c)).symm)
 ·exact aNT (meets_str_split_cannot_occur x y t u a)
   (e [(x,t)] f_ (v6).symm)
theorem bub:∀{l:pA Tok} {a:ui},fg (fun p=>p.1.cps.toList)=a->Vals (nT fun p=>zR aKX) aNU
 | [],a,h=>aML
 | (x,t)::l,a,h=>by cases h;obtain⟨⟨cl⟩⟩:=x;exact aJR (bub rfl)
theorem buc(c:Nat):∀l:ė,Ą (rF l)<=Ű+1
 | []=>ZC D7
 | a::r=>by
  have b:=buc c r;rw[g_ D7]
  ·rw[nX]
  ·split
   ·rw[ba2];simp at b ⊢;omega
   ·simp
theorem bIE:QB "str.split" (fun x d H Q=>bbb z x d Qw js H):=by
 rw[vP f d us i j,Bo (Ø y z c rfl rfl m w q h) t (i) (aNS k j t'),axr m];have hy:ky<=Q2:=w;have n:=StrLaws.occ_length_le_len y sj 0 ky (ky+1);have A:Ka=16777216:=ø;refine bID EC (ġ l tk a) Ă (Ä len_partsBetween);have g:=buc c Q7;have r:y.cps.toList.length=ky:=rfl;exact ac dm _ (agb Bk (show vJ _ _ _ qV from⟨Ä Ċ,aNU,_,(bub (by rw[←bIA,←a,ų];rfl)),cw⟩)) (q _ By)
theorem bud:∀{b:ğ} {a:Œ},Qy (zI zR)->StrsAre a b
 | [],a,h=>aML
 | y::b,a,h=>by
  cases h with
  | cons r h=>
   rw[nv t r (yb y (bud h))]
theorem bIF:QB "str.join" (fun x c H Q=>bbc b x c (JX (zI zR)) (zI YA) iH H):=by
 rw[vP d c us f g,gp (Bo (Ø y a b rfl rfl m n q h) t (f) (Ė u rfl i (Kb g))) (Ţ i (Ĩ l j pl hz (nr m))) (PyProof.Rows.join_list rj (Ł (bud j)) (þ n) (Ĝ t' k))];have e:Txt.join y b=my y b:=StrLaws.glued_eq_join y b;rw[e];exact Bf mh q
theorem bIG:∀a,a<10->aNV ⟨#[48+a]⟩=ā Me:=ĸ
theorem bIH:∀a,a<10->∀b,b<10->aNV ⟨#[48+a,48+b]⟩=ā (Ĵ (a*10+b)):=ĸ
theorem bII(h:adD x=BB):aNV x=BB/\cK<=640:=by
 obtain⟨⟨l⟩⟩:=x;rw[eI adD];simp at h;rw[a_]
 ·rw[ic a h]
  ·rw[jv c];have:=bIG (a - 48) Ă;rw[Ę (ź (48+_=a)) this (Į this (SC 1 640))]
  ·cases h
 ·rw[sn a b]
  ·rw[jv c];have:=bIH (a - 48) Ă (b - 48) Ă;rw[ź (48+_=a),ź (48+_=b)]at this;rw[Į this (SC 2 640)]
  ·cases h
 ·cases h
theorem bIJ:vZ jm (Ş a (∃(y:Str) (n:Int),a=[ma]/\adD y=BB/\yu n)):=by
 rw[Qb as4 y n d (aNS c r t),qP f e (bII d) (PySem.W.KIN.call_text f e Xo)]
theorem bue{i:Int}(a:KO 64):as5<1920:=by
 rw[bbd]
 ·rw[z];decide
 ·exact GX (ajh z a)
def aY3(x:Str):It:=aIG FX v (∃c,ŋ x.cps c/\v=X6)
theorem bIK{K:ĝ}(it:Addr)(x:Str)(t:Tok):bbh "str_ascii_iterator" where
 mem:=Ğ
 obj:=fun i h st b a=>by
  rw[PH a];rw[asI]
 keep:=bbg
 item:=by
  rw[bbf];have j:i<FX:=n;rw[ĺ (wpAny_pyNext_ascii_item st (c:=axs) (bg j) (ġ J f M)) (asH f _ (axp axs) a M C B A y u ce ⟨rfl,_,bg j,rfl⟩ (l b a))]
 done:=by
  rw[bbf];have j:FX<=i:=n;exact wpAny_pyNext_ascii_end (iB F) st (bg j) fun J O=>cG (aab (t':=f_) bbe C B A y u)
 self:=J6 (wpAny_pyIter_striter_ascii st h)
theorem bIL{K:ĝ}(it:Addr)(x:Str)(t:Tok):bbh "str_iterator" where
 mem:=Ğ
 obj:=fun i h st b a=>by
  rw[PH a];rw[asI]
 keep:=bbg
 item:=by
  rw[bbj];rw[bbi];have C:i<FX:=m;rw[ĺ (wpAny_pyNext_wide_item st (c:=axs) eY (ġ J f M)) (asH f _ (axp axs) a M B A y u q ce ⟨rfl,_,bg C,rfl⟩ (j b a))]
 done:=by
  rw[bbj];rw[bbi];have C:FX<=i:=m;exact wpAny_pyNext_wide_end (iB F) st eY fun J O=>cG (aab bbe B A y u q)
 self:=J6 (wpAny_pyIter_striter_wide st h)
def bIM(tl:TE):TI:=fun σ H R=>tl σ H fun v H1=>∃x:Str,v=ő/\R (aY3 x) H1
theorem bIN(n:PE X l f):yv l (bIM f):=by
 rw[cD a j R (χ (n a s j H _ I h) v s1 ⟨x,d,c,k,m⟩),jk y e q m (ş e (đ t rfl (k)))];have i:∀(o:Obj),afr [iV] a d:=fun o b p=>by
  rw[P_ b iV p];exact c.u_ Ķ aIL
 cases g:y.cps.all _ with
 | ă=>exact wpAny_pyIter_wide g (bbk (bIL _ y t))
 | true=>exact wpAny_pyIter_ascii g (bbk (bIK _ y t))
universe L2
namespace L2
open PySem PySem.Spec PyProof.Rows
theorem bIO(v:Int):G1 l nA 1 n=G1 l (ā (OJ n v)) 1 n:=by
 rw[O_ G1];have:bbl v=bbl (OJ n v):=by unfold OJ;split<;>split<;>omega
 rw[mi (show(aac>0)=True by simp) nK,this]
def aY4(n:Nat):fL->Int
 | none=>n
 | j0=>OJ n v
theorem idx_eq(d:a.getD 0=ae)(c:aY4 n b=Ŭ):G1 a b 1 n=G1 (ā ae) (ā Ŭ) 1 n:=by
 have e:G1 a b 1 n=G1 a (ā Ŭ) 1 n:=by
  rw[←c];cases b with
  | none=>exact StrLaws.sliceIdx_none_hi _ _
  | some v=>exact bIO v
 rw[e,←d];cases a with
 | none=>exact StrLaws.sliceIdx_none_lo _ _
 | some u=>rfl
def bIP:atF:=fun x lo hi H Q=>∃(z:Str) (i j:Nat),x=g9/\atH/\lo.getD 0=ae/\aY4 jr hi=Ŭ/\i<=j/\j<=jr/\Q (.str aNW) H
theorem bIQ{z:Str}{i j:Nat}(f:b.getD 0=ae)(e:aY4 jr c=Ŭ)(a:i<=j)(d:j<=jr):(G1 b c 1 jr).filterMap (z.cps[·]?)=aKY:=by
 rw[Ĉ (idx_eq f e) (StrLaws.sliced_plain z a d)]
theorem buf:Ą aNW<=jr:=by
 show(f9 bbm _).toArray.size<=aKU;rw[b_,mn,yE,fF];omega
theorem bug(h:Su):ů n:=L9
theorem bIR:aEj X bIP:=by
 intro c s σ H x v vl vu A K sl Q I n J pl r h;obtain⟨z,i,j,rfl,E,m,k,b,g,q⟩:=h;rw[đ t rfl n];refine⟨jn,_,F.slot_str_getitem.lookup,aJB,?_⟩;have a:∀{w:ě} {o:fL},IsPart w o->∃l:ś _,w=partValue l/\br=o:=fun {w o} p=>by
  cases p with
  | none=>exact Cc none
  | int i t=>exact Cc (mZ i t)
 rw[ľ (aJ l rfl f (a pl) u rfl d (a r)) (wpAny_getItem_str_slice (st:=none) J rfl ?_)];have y:(axt z l u none).filterMap (z.cps[·]?)=aKY:=JI axt f d (bIQ m k b g);rw[g_ sliceMade]
 ·rename_i w;have e:aNW=z:=by
   rw[wZ ř w];have w2:=w.2;have:Ą (axt z l u none)=j - i:=by rw[Ù axt f d];have e:=idx_eq m k;show Ą (G1 A K 1 jr)=_;rw[e,StrLaws.strSliceIndices_plain b g,Ċ,bO]
   have C:i=0:=Ě;have B:j=jr:=Ě;subst C;unfold VT;rw[B,aMR,aMG,aiF (QI fF)]
  rw[uG e q ⟨g9,H,I,aW t,q⟩]
 ·rw[y];exact⟨û buf E,mh,H,tY,ce,q⟩
theorem aY5(h:atH):GP g9 .č g9:=(zL h:aw9 _ _)
theorem bIS(F:CC o)(E:uF)(C:fV n c)(h:(aY o fun x ζ=>CG fun l ζ=>aEK x l n)=CI):iT (af7 a fb ū) k:=by
 cases f:o with
 | none=>rw[ŉ f]
 | some q=>
  rw[Κ f (F q f)];cases q with
  | ok u cx=>
   cases e:rb with
   | none=>rw[ŉ e]
   | some q=>
    rw[wY e (E q e)];cases q with
    | ok M cy=>
     rw[jJ j (aEK u M n) k aEK]
     ·rename_i i L cz;have P:=C _ rfl;rw[Ė d g I (eJ j)];cases u with
      | str z=>
       cases L with
       | int v=>
        rw[Mf g (ō (0<=i/\i<=Q9) (wO (VT z Qx auP))) kY g]
        ·rw[CH g];cases I;rw[ajp (brx bIR A (adT B) (adT P)) (lq σ x H1 J (SD (fun H2 r=>⟨O,W,Z9 r,Ĝ N w⟩))) (đ K s (J.str Ι))];have y:Q9<=jr:=by rw[aNX]
         exact⟨z,Qx,auP,K,s,yK (i=_),yK (Q9=_),Ě,Ě,p _ N (Ų (zQ r) w) (aY5 (û buf s))⟩
        ·cases g
       | _=>cases g
      | _=>cases g
     ·cases j
theorem bIT(l:CC f)(g:uF)(h:(za f ζ rb ζ (yY (aXC x y)))=ā e):iT (afv .Add pos) e:=
 aYY (aS ζ (bq5 bDX)) l g h fun O W H0 H x y Q dx cx dy cy σ k hd r o p=>by
  rw[CJ d c n k (ax aXC c)]
  ·rw[Mg i j c]
   ·rw[CH c];rw[ψ n ⟨i,j,(r.str hd).1,(o.str hd).1,bug m,GV (aY5 (Ć axu (bug m)))⟩]
   ·cases c
  ·cases c
universe L2
namespace L2
open PySem PySem.Spec PyProof.Rows
mutual
def AT:DV->PyData
 | .ę=>Ġ | o5=>je b | ĭ=>ĭ | ő=>ő
 | ο=>ag2 w_ | Ŧ=>wj w_
 | _=>Ġ
def vk:Ħ->ī PyData
 | []=>[]
 | d::r=>SF::vk r
end
mutual
theorem buh:∀(n m:Nat) (d e:DV),agS=true->e.plain m=true->QX SF (AT e)=jV d e
 | n,m,.ę,e,_,h=>aN1
 | n,m,ny,e,_,h=>aN1
 | n,m,iJ,e,_,h=>aN1
 | n,m,ő,e,_,h=>by
  cases e with
  | str y=>rfl
  | ę=>rfl
  | bl _=>rfl
  | int _=>rfl
  | tup _=>rfl
  | lst _=>rfl
  | dJ _ _=>rw[ajq]
  | fn _=>rw[ajq]
  | lam _ _=>rw[ajq]
  | fx _=>rw[ajq]
 | 0,_,F6,_,h,_=>bV
 | 0,_,qV,_,h,_=>bV
 | n+1,m,ο,e,h,h'=>by
  cases e with
  | tup es=>
   cases m with
   | zero=>cases h'
   | succ m=>
    exact aNY h h'
  | ę=>rfl
  | bl _=>rfl
  | int _=>rfl
  | str _=>rfl
  | lst _=>rfl
  | dJ _ _=>rw[Mh]
  | fn _=>rw[Mh]
  | lam _ _=>rw[Mh]
  | fx _=>rw[Mh]
 | n+1,m,Ŧ,e,h,h'=>by
  cases e with
  | lst es=>
   cases m with
   | zero=>cases h'
   | succ m=>
    exact aNY h h'
  | ę=>rfl
  | bl _=>rfl
  | int _=>rfl
  | str _=>rfl
  | tup _=>rfl
  | dJ _ _=>rw[Mh]
  | fn _=>rw[Mh]
  | lam _ _=>rw[Mh]
  | fx _=>rw[Mh]
 | n,_,F5,_,h,_=>xa
 | n,_,BR,_,h,_=>xa
 | n,_,FU,_,h,_=>xa
 | n,_,FV,_,h,_=>xa
theorem bIU:∀(n m:Nat) (ds es:Ħ),KK n=true->mx m es=true->aNZ w_ (vk es)=OH ds es
 | _,_,[],[],_,_=>aN0
 | _,_,[],_::_,_,_=>aN0
 | _,_,_::_,[],_,_=>aN0
 | n,m,rH,jz,h,h'=>by simp only[mx,ĥ]at h h';simp only[vk,aNZ,OH,buh n m d e h.1 h'.1,aNY h.2 h'.2]
end
mutual
theorem aFG:∀(n:Nat) (d:DV),agS=true->(SF).canLay0=true/\(SF).depth<=n
 | n,.ę,_=>aN6
 | n,ny,_=>aN6
 | n,iJ,_=>aN6
 | n,ő,h=>by
  have h':a7H=true:=by cases n<;>exact h
  simp only[AT,aN5,aN4];rw[Į h' cg]
 | 0,F6,h=>bV
 | 0,qV,h=>bV
 | n+1,ο,h=>bbn
 | n+1,Ŧ,h=>bbn
 | n,F5,h=>xa
 | n,BR,h=>xa
 | n,FU,h=>xa
 | n,FV,h=>xa
theorem aoR:∀(n:Nat) (ds:Ħ),KK n=true->auE w_=true/\aN3 w_<=n
 | _,[],_=>by simp[vk,auE,aN3]
 | n,rH,h=>by simp only[mx,ĥ]at h;rw[Ĕ q (aFG n d h.1) q' (aoR n ds h.2)];simp only[vk,auE,aN3,q.1,q'.1,aN2,true_and];rw[Θ (Ĕ a q.2 b q'.2)]
end
section
variable {X:Cx} {pins:List (Addr×Obj)} {σ:St} {H:Hp} {s:Shared}
mutual
theorem adU(I:Ô):∀(n:Nat) {d:DV} {v:V} {u:ě},agS=true->axv->cu->∃as,Reads Ĳ u SF as
 | _,.ę,_,_,_,h,r=>aN7 (SK h) Reads.none
 | _,o5,_,_,_,h,r=>aN7 (GS h) (Reads.bool b)
 | _,ĭ,_,_,_,h,r=>bbp (sf h) (Reads.int i t)
 | _,ő,_,_,_,h,r=>bbp (SH h) (Reads.str x t)
 | 0,F6,_,_,p,_,_=>eZ p
 | 0,qV,_,_,p,_,_=>eZ p
 | n+1,ο,_,_,p,h,r=>by rw[aT a xs e1 e2 e3 (uC h) (Ī e1 r r)];obtain⟨sU,rv,⟨o,h1,h2,k,h3⟩,_⟩:=pq e2;rw[ň as q bbo (Į as (Reads.tuple h1 h2 h3 (Ł q)))]
 | n+1,Ŧ,_,_,p,h,r=>by rw[aT a xs e1 e2 e3 (L3 h) (Ī e1 r r)];obtain⟨_,sU,k,rv,_,h1⟩:=I.anY e2;rw[ň as q bbo (Į _ (Reads.list h1 rfl rfl (Ł q)))]
 | n,F5,_,_,h,_,_=>xa
 | n,BR,_,_,h,_,_=>xa
 | n,FU,_,_,h,_,_=>xa
 | n,FV,_,_,h,_,_=>xa
theorem bui(I:Ô):∀(n:Nat) {ds:Ħ} {vs:Ŕ} {us:Œ},KK n=true->SG H ds vs->vL->∃as,ReadsAll Ĳ us w_ as
 | _,[],_,_,_,h,r=>aN7 (LS h) ReadsAll.nil
 | n,rH,_,_,p,h,r=>by
  simp only[mx,ĥ]at p;rw[ĩ v vs e1 e2 e3 (GL h)];subst e1;cases r with
  | cons r1 r2=>
   rw[dU as q (adU I n p.1 e2 r1) bs q' (bui I n p.2 e3 r2),nh vk _ (ReadsAll.cons q q')]
end
theorem aFH(h:d.plain 60=true):SeqAt.shaped SF=true:=by
 have q:=aFG 60 d h;rw[Ù SeqAt.shaped q.1 CK];exact Þ (þ q.2)
theorem buj(h:d.plain 60=true):∀(a:Ħ),mx 60 a=true->((vk a).any fun y=>QX y SF)=a.any fun x=>jV x d
 | [],_=>rfl
 | e::a,p=>by rw[aN9,vk,SL,SL,aN8 e d p.1 h,buj h a p.2]
universe E_
section
variable {X:Cx} {δ:List Sv} {a b c e:Expr} {pos:Pos} {ra rb rc:Option Re} {re:Re}
def aFI(X:Cx)(op:F1):R2:=pv (∃dx dy k,AM op dx dy=CI/\G3 dx x/\G3 dy y/\Ff k)
theorem bIV(h:brY d=aV):d=rD:=by cases d<;>first | (cases h;rfl) | cases h
theorem bIW(r:zG):bF v .ę=adB d:=by
 cases d with
 | ę=>rw[SK r];rfl
 | bl _=>rw[GS r];rfl
 | int _=>rw[sf r];rfl
 | str _=>rw[SH r];rfl
 | tup _=>rw[tW a c e (uC r),e];rfl
 | lst _=>rw[tW a c e (L3 r),e];rfl
 | fn _=>rw[fC a e (aYO.mp r),e];rfl
 | lam _ _=>obtain⟨a,_,_,_,_,_,_,_,e,_⟩:=aoJ.mp r;rw[e];rfl
 | fx _=>rw[fC a e (ajj r),e];rfl
 | dJ _ _=>rcases ZR r with⟨a,o,b,e,_⟩ | ⟨a,o,b,e,_⟩<;>rw[e]<;>rfl
theorem bIX(h:aXD d=aV):d=tZ:=aji
theorem adV(L:CL):yy op (aFI X op):=by
 intro f s r H x y v u Q I n m h;rw[gZ dx dy k a r1 o q h];have l:∀{A:Bool},A=k->EP X f r Q (je A) s:=fun {A} e=>ac (.bl A) H I (Ć e q);rw[wW AM a op]
 case Lt=>
  rw[axy];rw[axx,ajr g,Ż a (bDM f s r H x y v u Q I n m axw)]
 case LtE=>
  rw[axy];rw[axx,ajr g,Ż a (bDN f s r H x y v u Q I n m axw)]
 case Gt=>
  rw[axy];rw[axx,ajr g,Ż a (bDO f s r H x y v u Q I n m axw)]
 case Eq=>
  rw[SM]
  ·rw[aOa];rw[bby];exact eq_dataH z w (aFH p.1) (aFH p.2) L (l bbx)
  ·cases a
 case NotEq=>
  rw[SM]
  ·rw[aOa];rw[bby];exact ne_dataH z w (aFH p.1) (aFH p.2) L (l (Ń bbx))
  ·cases a
 case GtE=>
  rw[axy];rw[axx,ajr g,Ż a (bDP f s r H x y v u Q I n m axw)]
 case IsNot=>
  rw[SM]
  ·rw[Ż a (bDR f s r H x y v u Q I n m bbw)]
  ·cases a
 case Is=>
  rw[SM]
  ·rw[Ż a (bDQ f s r H x y v u Q I n m bbw)]
  ·rw[G0 j (Z5 a i b),zM b (bIV b)];cases a;obtain rfl:=GS r1;obtain rfl:=GS o;cases(n);rw[Ż m (PySem.wpAny_is_plain rfl (l (by cases i<;>cases j<;>rfl)))]
  ·cases a
 case In=>
  rw[SM]
  ·rw[bbu,bbt]
   ·rw[CD c F a,bbs,bbr,P3 (PySem.P.in_str (l bbq))]
   ·cases a
  ·cases a
 case NotIn=>
  rw[SM]
  ·rw[ic J a]
   ·rw[aOa];rw[bbv (adU I 61 (d:=Ē J) p.2 o m),Ę AT w (Ĕ K (aFG 60 _ p.1) P (aoR 60 J p.2))];have l3:=K.2;exact SeqAt.notIn_tuple_reads w z P.1 K.1 Ă (l (Ń (buj p.1 J p.2)))
   ·cases a
  ·rw[bbu,bbt]
   ·rw[CD c F a,bbs,bbr,P3 (PySem.P.notIn_str (l (Ń bbq)))]
   ·cases a
  ·cases a
theorem aY6(h:qf b=ă):aIY=ă:=by
 rw[ajs b h]
theorem bIY(d:CL)(g:wX)(f:uF)(e:qf b=ă)
  (h:axz=ý):lr asX:=
 baY (bq7 (adV d) j i (aY6 e)) s cx r (by rw[CJ c o n k (ψ n ⟨s,r,c,o,m.all hd,Q1 hd,Z3⟩)])
theorem bIZ(g:wX)(f:uF)
  (h:axz=ý):∃d c,q9 d/\vM c/\axj re (adk (aFI X op) d c σ H Q):=
 btZ g f h fun O W H0 H x y Q o cx n cy σ k hd j i p=>by rw[CJ e m l k (ψ l ⟨o,n,e,m,j.all hd,i.all hd,Z3⟩)]
theorem bI0(b:bbz)(h:fy ý=Û)(q:Mj r σ H Q):zN re σ H (fun x a=>∃k,x=.bl k/\Q k a):=by
 rw[aOb];cases re with
 | ok d c=>
  rw[ň k rfl (b d c rfl) (ψ h (eg (fun v a s g=>⟨k,g.bl (Mi s),p a s⟩)))]
theorem bI1(h:axz=ý):bbz:=by
 intro d c e;subst e;cases ra with
 | none=>cases h
 | some q=>
  cases q with
  | ok d c=>
   cases rb with
   | none=>cases h
   | some q=>
    cases q with
    | ok d' c'=>
     obtain⟨k,_,e⟩:=eJ (h);rw[ψ e (aW k)]
theorem bI2(d:CL)(g:wX)(f:uF)(e:qf b=ă)
  (h:fy axz=Û):SN asX r:=by
 cases q:(za ra ζ rb ζ (Ĥ Gc k Ml))with
 | none=>rw[xb]
 | some re=>
  rw[Ę q h (ĩ ta tb A B w (bIZ g f q))];exact(bq9 (adV d) A B (aY6 e)).weak (aOc c (bI1 q))
theorem buk{a:F1}(h:qf c=ă):aI0 a=ă:=by
 show behindInMarks a c=ă;exact aY6 h
theorem bul{e:F1}(I:wX)(F:uF)(E:fV rc c)
  (h:(CF fun x ζ=>CG fun y ζ=>match Gc with
   | none=>none
   | nz=>rN
   | dX=>axA e y)=ý):∃w v u,q9 w/\vM v/\PE X c u/\(axj re (bra (aFI X op) (aFI X e) w v u σ H Q))/\∀d cl,re=dt cl->aOd:=by
 cases i:ra with
 | none=>rw[ŉ i]
 | some q=>
  rw[Κ i (I q i)];cases q with
  | ok s cx=>
   cases g:rb with
   | none=>rw[ŉ g]
   | some q=>
    rw[wY g (F q g)];cases q with
    | ok l cy=>
     have j:(match(generalizing:=false) AM op s l with
      | none=>none
      | nz=>ā (qm rg)
      | dX=>axA e l)=ý:=h
     rw[Φ j]
     ·cases j
     ·rw[fW r j];exact⟨_,_,_,A,B,aoO,fun σ H Q ee=>⟨O,W,R,fun x P s1 o=>⟨O,W,cN,fun y N s2 n=>
       ⟨s,l,ă,r,bbB,n.all aad,ă,rfl,Ć Yc (SQ _ adR)⟩⟩⟩,bbA⟩
     ·rename_i r;cases f:rc with
      | none=>rw[Ī f j j]
      | some q=>
       rw[ς f j C (E q f)];cases q with
       | ok M cz=>
        rw[mJ k L K (j) K];exact⟨_,_,_,A,B,C,fun σ H Q ee=>⟨O,W,R,fun x P s1 o=>⟨O,W,cN,fun y N s2 n=>
         ⟨s,l,true,r,bbB,n.all aad,true,rfl,by
          rw[dO jb O W (Z9 s2) (fun z H3 m J=>⟨l,M,k,L,(n.mono m).all (lu aad m),J.all ((Z9 s2).cV.mono m),SO (zQ (Z8 m)) adR⟩)]⟩⟩⟩,bbA⟩
theorem bI3(e:CL)(j:wX)(i:uF)(g:fV rc c)(f:qf c=ă)
  (h:(CF fun x ζ=>CG fun y ζ=>match Gc with
   | none=>none
   | nz=>rN
   | dX=>axA d y)=ý):lr (asZ d):=by
 obtain⟨ta,tb,tc,A,B,C,w,_⟩:=bul j i g h;exact(bDS (adV e) (adV e) A B C (buk f)).weak w
theorem bI4(f:CL)(m:wX)(l:uF)(j:fV rc c)(i:qf c=ă)
  (h:fy (CF fun x ζ=>CG fun y ζ=>match Gc with
   | none=>none
   | nz=>rN
   | dX=>axA d y)=Û):SN (asZ d) r:=by
 cases q:(CF fun x ζ=>CG fun y ζ=>match Gc with
   | none=>none
   | nz=>Ε
   | dX=>aY rc fun z ζ=>Ĥ (AM d y z) k (Rr _))with
 | none=>rw[xb]
 | some re=>
  rw[Ę q h (Ø ta tb tc A B C w e (bul m l j q))];exact(bDT (adV f) (adV f) A B C (buk i)).weak (aOc g e)
universe E_
theorem aY7(h:yT d=CI)(r:zG):brb D.K v H k:=by
 cases d with
 | ę=>rw[Ţ h (SK r)];rfl
 | bl b=>rw[Ţ h (GS r)];rfl
 | int i=>rw[Ţ h (sf r)];rfl
 | str x=>
  rw[Ţ h (ň f e (adQ.mp r) f)];refine aD e;show(FX != 0)=(Ĵ FX != 0);cases FX with
  | zero=>rfl
  | succ n=>rw[mi bne Nat.add_eq_zero_iff,CM,nX]
 | tup j=>
  cases h;rw[ľ (aT a c f e g (uC r) f) (ķ (ı (iM c e))),bbC]
 | lst j=>
  cases h;rw[ľ (aT a c f e g (L3 r) f) (ı (iM c (gm e))),bbC]
 | dJ _ _=>cases h
 | fn _=>cases h
 | lam _ _=>cases h
 | fx _=>cases h
theorem bI5(g:jK c)(f:∀a,afd Ó a=as1 a e.pos)(h:fy c=Û):SN e r:=by
 cases b:c with
 | none=>rw[Sw]
 | some q=>
  rw[Κ b (g q b)];cases q with
  | ok d cl=>
   rw[CJ k l j (h) (ψ j ((bDW A f).weak (lq σ x m i ⟨k,aY7 l axB,p m s1⟩)))]
theorem bI6(j:q9 f):PE X aso (aW4 (Ş x (afF H (Ff (!k)))) f):=by
 rw[cD c e Q (UnaryOp_ (ajt (j c s e H _ I h))),aT x g o i d t0 (Ė k t d d)];exact not_of (dH (bbD c g q o i) fun b s2 ⟨p,n,m,l⟩=>by
  subst m l;exact ac (.bl (!b)) p n d)
theorem bI7(e:CC d)(h:(aLo d)=ū):iT aso c:=
 btY (ű bI6) e h fun O W H0 H x Q dx cx σ k hd f p=>by rw[CJ b i g k (ψ g ⟨b,aY7 i (f.all hd),Z3⟩)]
theorem bum(q:q9 j)(p:PE X (axC .And) i):PE X (E1 .And aae) (Ş e (j e H fun x f=>afF f (ym k (i e f Q) (Q x f)))):=by
 rw[cD d e Q (BoolOp_and (ajt (q d s e H _ I h))),bbE w l y o,Ĩ n m u r t0];subst u r;cases c with
 | true=>exact p d o e n Q m g
 | ă=>exact⟨x,n,m,l,g⟩
theorem bun(p:q9 i)(o:PE X (axC .Or) tb):PE X (E1 .Or aae) (Ş e (i e H fun x f=>afF f (ym k (Q x f) (tb e f Q)))):=by
 rw[cD d e Q (BoolOp_or (ajt (p d s e H _ I h))),bbE u j w n,Ĩ m l r q t0];subst r q;cases c with
 | ă=>exact o d n e m Q l g
 | true=>exact⟨x,m,l,j,g⟩
theorem snd_and(o:CC k)(n:fV j (axC .And))(h:(aY k (aLe j))=ā g):iT (E1 .And aae) g:=by
 cases e:k with
 | none=>rw[ŉ e]
 | some q=>
  rw[Κ e (o q e)];cases q with
  | ok d cl=>
   rw[jJ f (aEU d cl j) g aEU]
   ·cases f
   ·rw[G4 t (axD (bum A (n g f)) true (Ox axE))]
   ·rw[fW t f,axD (bum A aoO) ă (Ow (qo l i))]
theorem bI8(o:CC k)(n:fV j (axC .Or))(h:(aY k (aLd j))=ā g):iT (E1 .Or aae) g:=by
 cases e:k with
 | none=>rw[ŉ e]
 | some q=>
  rw[Κ e (o q e)];cases q with
  | ok d cl=>
   rw[jJ f (aEV d cl j) g aEV]
   ·cases f
   ·rw[fW t f,axD (bun A aoO) true (Ox (qo l i))]
   ·rw[G4 t (axD (bun A (n g f)) ă (Ow axE))]
theorem buo(h:Mm (aY b k)):∃d c,b=wE/\Mm QZ:=by
 cases a:b with
 | none=>rw[Sy]
 | some q=>
  rw[a]at h;cases q with
  | ok d c=>exact⟨d,c,rfl,h⟩
theorem bI9(h:fy wE=Û):∃k,yT d=CI/\r=.ok k:=by
 rw[gC k b a (eJ (h)) k b a.symm]
theorem bJa(f:axF e)(h:Mm (aLo e)):SN aso r:=by
 rw[Ĩ d c g b (buo h)]
 ·cases t:yT d with
  | none=>rw[nN t]
  | some k=>
   rw[nN t];have A:=f _ (bbF g);exact G5 (bCW A) σ i (p i s1)
theorem bJb(n:axF i)(m:∀q,fy g=fN->Xf (b::es) (Mj q))(h:Mm (aY i (aLe g))):Xf aae (Mj r):=by
 rw[bbI]
 ·rw[bH aEU e];cases t:yT d with
  | none=>rw[dP t]
  | some k=>
   rw[bbH];cases k with
   | true=>exact G5 (bqJ A (m r e)) l j (Ox axG)
   | ă=>
    rw[bbG];exact G5 (bqJ A btW) l j (Ow (p j s1))
theorem bJc(n:axF i)(m:∀q,fy g=fN->Xg (b::es) (Mj q))(h:Mm (aY i (aLd g))):Xg aae (Mj r):=by
 rw[bbI]
 ·rw[bH aEV e];cases t:yT d with
  | none=>rw[dP t]
  | some k=>
   rw[bbH];cases k with
   | ă=>exact G5 (bqK A (m r e)) l j (Ow axG)
   | true=>
    rw[bbG];exact G5 (bqK A btW) l j (Ox (p j s1))
theorem bup(l:PZ g)(n:PX t)(m:PT X b u):PT X asq (Ş e (g e H fun k f=>ym k (t e f Q) (u e f Q))):=by
 rw[cD d e Q (isTrue_IfExp (χ (l d s e H _ I h) k s1 ⟨f,j,i⟩))];cases k with
 | true=>exact n d s1 e f Q j i
 | ă=>exact m d s1 e f Q j i
theorem bJd(i:aju e c)(l:axF f)(j:aju (fy rb) b)(h:Mm (Q0 e (ahl f rb))):SN asq r:=by
 cases d:e with
 | none=>rw[ŉ d]
 | some q=>
  rw[ς d h C (i q d)];cases q with
  | ok k=>
   cases k with
   | true=>exact G5 (bup C (l r h) btX) g m (Ox axG)
   | ă=>exact G5 (bup C btX (j r h)) g m (Ow axG)
theorem bJe(l:aju f c)(n:CC rb)(m:fV i b)
  (h:(Q0 f (ahl rb i))=ā e):iT asq e:=by
 cases d:f with
 | none=>rw[ŉ d]
 | some q=>
  rw[ς d h C (l q d)];cases q with
  | ok k=>
   cases k with
   | true=>
    have g:=h;exact G5 (bqM C (n e g) aoO) j o (Ox axE)
   | ă=>
    have g:=h;exact G5 (bqM C aoO (m e g)) j o (Ow axE)
theorem bf(h:fX):ajv dW env=(ă,Fp e)::ajv es env:=by
 rw[ajs e h]
theorem bJf{X:Cx}{δ:ē}:Mn [] bbJ:=aOe σ
theorem bJg(i:fX)(k:jK g)(j:uE f es)
  (h:(bbK g wE (bbK f ug (ā (.ok (F3::l)))))=fN):Mn dW q:=by
 cases b:g with
 | none=>rw[Sw]
 | some z=>
  rw[Κ b (k z b)];cases z with
  | ok d cl=>
   cases a:f with
   | none=>rw[Sy]
   | some y=>
    rw[wY a (j y a)];cases y with
    | ok l=>
     rw[ψ h ((lI A B (bf i)).weak (lq σ x H1 n (SD (fun vs o s2 m=>SQ o (ai (n.mono s2) (m.since s1))))))]
theorem bJh(d:uE b es)(h:(avl b (.lst br) Ŋ)=ū):iT (.List es pos) c:=
 aoQ (ű bEk) d h fun O W H0 H vs Q l σ k hd g p=>by
  rw[Φ k]
  ·rw[CH k,bbL]
   ·rw[Ĉ G6 (axa (g.xS hd z))]
   ·rw[E7 z (aYV hd a (g.aFy hd))]
  ·cases k
theorem bJi(e:uE b es)(h:(avl b (Ē br) .č)=ū):iT (t9 es d pos) c:=
 aoQ (ű aEf) e h fun O W H0 H vs Q l σ k hd g p=>by
  rw[Φ k]
  ·rw[CH k,bbL]
   ·rw[Ĉ G6 (axc (g.xS hd z))]
   ·rw[E7 z (btT hd a (g.aFy hd))]
  ·cases k
universe L2
namespace L2
open PySem PySem.Spec PyProof.Rows
theorem aY8:∀a:Ħ,vk a=nT AT
 | []=>Η vk
 | d::r=>gx vk (aY8 r)
theorem aY9:∀{a:Ħ} {j:Nat},wH y a=iF->∃h:j<ad,jV a[j] y=true/\∀m (b:m<ad),m<j->jV a[m] y=ă
 | [],j,h=>bV
 | d::r,j,h=>by
  rw[cM wH]
  ·rw[gc (jv e) (Nat.succ_pos _) e (fun m ζ b=>aaf b)]
  ·rw[G0 e (aJ k l rfl (eJ h) f i g (aY9 l))];refine⟨aOf f,i,ġ m b c⟩;cases m with
   | zero=>exact Bool.eq_false_iff.mpr e
   | succ m=>exact g m _ (Nat.lt_of_succ_lt_succ c)
theorem buq:∀{ds:Ħ} {m:Nat} (h:m<ŧ),KK n=true->(ds[m]).plain n=true
 | d::r,0,_,p=>by rw[aN9];exact p.1
 | d::r,m+1,h,p=>by rw[aN9];exact buq (ds:=r) _ p.2
section
variable {X:Cx} {pins:List (Addr×Obj)} {σ:St} {H:Hp} {s:Shared} {δ:List Sv} {o e:Expr} {to te:TE} {apos aZa:Pos} {ra rb:Option Re} {re:Re}
theorem bur(p:y.plain 60=true)(q:YB=true)(h:wH y ds=iF) :
  ∃h:j<Ą w_,QX w_[j] (AT y)=true/\∀m (c:m<Ą w_),m<j->QX w_[m] (AT y)=ă:=by
 rw[Ė f e a (aY9 h)];have hl:Ą w_=ŧ:=ŷ aY8 Ċ;have d:∀m _ (a:m<ŧ),QX w_[m] _=jV ds[m] y:=fun m e a=>by
  rw[←aN8 ds[m] y (buq a q) p];congr 1;simp[aY8,auD]
 rw[υ Ě (Ų (d j Ă f) e) (fun m c b=>Ų (d m c Ă) (a m Ă b))]
theorem bJj(hu:CL)(I:Ô)(e:yt)(d:pp)(g:G3 Ŧ x)(f:G3 a y)(p:auQ=true)(q:YB=true)(hl:ahQ)
  (h:wH a ds=iF) (k:Q aj H):vN (BI "list.index" [v,u]):=by
 rw[bbN,Ę AT b (ab bbM m o n (bur p q h))];have l:=(aY9 h).1;exact SeqAt.bFu b i (aoR 60 ds q).1 c.1 Ă m (by have:Ū=Q2:=rfl;omega) o n (Bf aj k)
theorem bJk(hu:CL)(I:Ô)(e:yt)(d:pp)(g:G3 ο x)(f:G3 a y)(p:auQ=true)(q:YB=true)
  (h:wH a ds=iF) (k:Q aj H):vN (BI "tuple.index" [v,u]):=by
 rw[bbN,Ę AT b (ab bbM l n m (bur p q h))];exact SeqAt.bFv b i (aoR 60 ds q).1 c.1 Ă l n m (Bf aj k)
def bJl(X:Cx)(to te:TE):TE:=fun σ H Q=>to σ H fun x H1=>(∃ds,zS H1 Ŧ x/\bbO Ŧ ahQ (wH dy ds=iF/\Q aj H2)) \/
 (∃ds,zS H1 ο x/\bbO ο (wH dy ds=iF) (Q aj H2))
theorem bJm(M:CL)(Z:J2 to)(N:Xj)(g:Bv o LM=bZ o)(f:bbU)(hs:Bl [e]=[vV e]) :
  PE X bbT (bJl X to te):=by
 rw[cD d m Q (a6s (Η hs) (ajt (Z d s m H _ I h))),ĩ x O l F i t0,as3 i ds C i ds]
 ·rw[bbR (L3 C)];cases(F);obtain⟨Y,_,J,_⟩:=l.list (gm r);refine⟨Ò,"list.index",bbS,PySem.F.slot_list_index,PySem.F.type_list_index,J.isList.typeIs,Ĝ b q,?_⟩
  ·cases q;rw[a6n J]
  ·rw[ľ hs bbQ];obtain⟨y,H2,E,p,z,dy,j,B,A,p1,p2,p3,S,k⟩:=B0;exact bJj M E bbP p B A p1 p2 p3 S k
 ·rw[bbR (uC C)];cases(F);rw[Ĩ K L W U (l.bCZ r)];refine⟨aC,"tuple.index",PySem.F.plainAttrs_tuple,PySem.F.slot_tuple_index,PySem.F.type_tuple_index,⟨K,L,W⟩,Ĝ b q,?_⟩
  ·rw[ψ q ⟨K,L,U⟩]
  ·rw[ľ hs bbQ];obtain⟨y,H2,E,p,z,dy,j,B,A,p1,p2,p3,k⟩:=B0;exact bJk M E bbP p B A p1 p2 p3 k
theorem bJn(I:CL)(L:fV ra o)(K:jK rb)(g:Bv o LM=bZ o)(f:bbU)(J:Bl [e]=[vV e])
  (h:(CF fun x ζ=>axH (adF x) (yY (IK x y)))=ý):lr bbT:=by
 cases c:ra with
 | none=>rw[Mc]
 | some q=>
  rw[Κ c (L q c)];cases q with
  | ok r cx=>
   have l:(axH (adF r) (Ĥ (IK r y) d Lg))=ý:=h;have s:adF r=true:=by
    cases z:adF r with
    | true=>rfl
    | ă=>rw[Ī z l l]
   rw[ς (į s) l n l];cases b:rb with
   | none=>rw[Ī b n n]
   | some q=>
    rw[Ę b n (Ĕ B (K q b) C (bJm I A B g f J))];cases q with
    | ok E cy=>
     rw[jk d a M (eJ n) (ş M (ax IK a))]
     ·rw[ic k a]
      ·rw[bbX];exact C.weak fun F H Q ee=>⟨O,W,R,fun x N s1 i=>.inl ⟨k,axB,O,W,cN,fun y w s2 u=>
        ⟨k,E,j,bbW,bbV,m.1.1,m.1.2,m.2,v,SQ w IT⟩⟩⟩
      ·cases a
     ·rw[ic k a]
      ·rw[bbX];exact C.weak fun F H Q ee=>⟨O,W,R,fun x N s1 i=>.inr ⟨k,axB,O,W,cN,fun y w s2 u=>
        ⟨k,E,j,bbW,bbV,m.1.1,m.1.2,v,SQ w IT⟩⟩⟩
      ·cases a
     ·cases a
universe E_
universe L2
namespace L2
open PySem PySem.Spec PyProof.Rows
def bJo(D:Dm)(O:Ň)(H0 H:Hp)(d:DV)(fr:Bool)(v:V):Prop:=match fr with
 | ă=>ZU
 | true=>baD O
def aFJ(D:Dm)(n:Nat)(f:pM Ou):Sp:=fun vs H Q E=>∃O ds o,LW/\ŧ=n/\GR O vs/\f ds=ĕ /\
 (match o with | bbY=>axh (axI H H'))
theorem bus{ps:ğ}{j:yj}(M:aaj)(C:∀q,n=fN->Mn U q->PE X S (Ş σ (j σ H/\aXc Mo [] E0 (aOg q) σ H Q)))(E:∀σ H O W,aai->j σ H)(I:uE n U)
  (h:(YM n)=ā B):PE X S (zN B):=by
 cases c:n with
 | none=>rw[Mc]
 | some q=>
  rw[Κ c (I q c)]
  replace C:=C q c
  cases q with
  | ok l=>
   rw[jJ r K' B Ec]
   ·cases r
   ·rw[aah d P i (zT r ((C A).weak (Z2 ⟨E _ _ _ _ R,O,W,R,ń vs Z s1 N⟩)))];have hd:=Ι;show Mo _ Z Q E0;rw[au aN z y9]
    ·rw[axJ G6 n_ hd.xY (M _ _ i) (N.č hd z) i K];cases P with
     | ă=>exact g
     | true=>
      rw[GO q k ds i J x w u g (aag x) w u]
    ·rw[axJ SR O hd.aYS (M _ _ i) (N.aFy hd) i K];cases P with
     | ă=>exact g
     | true=>
      rw[Ø q k ds L J x w u g,ş J CK];cases y:aEJ Ŧ with
      | true=>exact⟨q,k,ds,L,rfl,aag x,w,ZP (bbZ I) y u⟩
      | ă=>
       exact ai5 ⟨q,k,L,iS (fun z=>hd.ot q PM (aag x)) w,u.mono (mW fun b Y=>ť Y)⟩
theorem bJp(fo:aak c Mo)(n:aaj)(m:kF)(u:nj)(r:yl=ā qM)(s:Qq c=true)
  (v:G7) (w:uE d dW) (b:jj) (j:fX) (a:xc)
  (h:(YM d)=ā g):iT axK g:=by
 have plain:∀(es:aE),xc->Qp:=by
  intro es;induction es with
  | nil=>rw[Xl]
  | cons y ys i=>
   rw[ir q (Mp q),bb0,i q.2];rfl
 exact bus n (fun t ζ z=>(brn fo m u r s v .nil an0 z b (bf j) (plain es a)).weak fun σ H Q h=>h.2) (EM ζ ζ uc) w h
section
variable {X:Cx} {δ:List Sv} {e:Expr} {es:List Expr} {pos p:Pos} {re:Re} {rs:Option Rs}
theorem aFK:∀(es:aE),xc->agc aOh=ă
 | [],_=>rfl
 | y::a,q=>bb1 (aFK a q.2)
theorem bJq(fo:aak c j)(o:kF)(hv:tO p)(w:Qq c=true)(z:afU)(hd:Vals d ds)
  (A:Ft) (y:Qk:=by rfl) (f:Qp:=by rfl) :
  XV (Ş b (Mq b c/\aXc j d E0 t b H Q)):=by
 rw[ji a b,pC B h h (SU (Fq (aOk a b g qM B) u)),Š v g C r1 n m B0];subst n m;obtain rfl:u=m9 c:=r1;rw[eS (aOj aOi w (iA (A pos a s1 b g _ C h) us s2 vs H2 l r q (aD l.Op)) y f) (aEh fo o z hd an0 l r q)]
theorem bJr(fo:aak b Mo)(r:aaj)(n:kF)(hv:tO p)(s:X.mg y=ā mr)(u:Qq b=true)
  (z:G7) (w:axN (.fn y)) (A:axM) (m:fX) (a:xc)
  (h:(YM rs)=ý):axL:=by
 refine bus r (fun t ζ B=>bJq fo n hv u z .nil B (bf m) (ajw a)) (Ý σ H O W R) A h;rw[aJ v E C (SV _ w) g j d (aYO.mp C)];have c:X.mg y=Ε:=d;rw[pi s];rw[E,j]
def bJs(X:Cx)(k:Yu):Xv:=Ş vs (∃l re O W H0,k l=ý/\fU/\axk H0 H l vs/\∃d c,re=dt c/\axh (uD H0 H' d c v))
theorem bJt(r:rm f (xf k))(o:nj)(m:JV)(hv:JU=ā (ja f))(j:EZ)(b:jj)
  (s:axM) (i:fX) (a:xc) (h:BP rs k=ý):axL:=
 aoQ (aS u (bru r o m hv u j b (bf i) (ajw a))) s h (bb2 v n)
theorem bJu(o:vZ T (xf k))(n:nj)(j:JV)(hv:JU=ā X5)(i:EZ)(b:jj)
  (r:axM) (f:fX) (a:xc) (h:BP rs k=ý):axL:=
 aoQ (aS s (brv o n j hv s i b (bf f) (ajw a))) r h (bb2 u m)
theorem axO:∀{ds:Ħ} {b:Ď} {a:Ŕ},lJ ds=fb->Sl a->a=ZA:=by
 intro ds;induction ds with
 | nil=>rw[aOl]
 | cons d ds ih=>
  intro b a h r;cases d with
  | int i=>rw[bb3];rw[←f,e,Ö,sf d,(ih g c)]
  | _=>cases h
theorem but:bb4
 | [],m=>⟨ŵ,axP _,fun x h=>bV⟩
 | y::r,m=>by
  rw[Ė b d a (but r (İ (y<m) y m))];unfold aEz;by_cases q:y<m
  ·rw[į q]at b d a ⊢;refine⟨ķ ?_,Ě,Ĝ x c⟩
   ·rw[fB b]
    ·rw[Ĉ z Α]
    ·exact Md
   ·rw[bM c]
    ·rwa [z]
    ·exact a x z
  ·rw[Bs]at b d a ⊢;refine⟨b.imp id ť,d,Ĝ x c⟩;rw[bM c]
   ·omega
   ·exact a x z
theorem bJv(g:M∈n::r)(d:Ly (n::r) M):M=uj n:=by
 rw[Ė a b c (but r n)];have e:=d _ (a.elim (fun z=>Z' z) ť);have f:uj n<=M:=by
  rw[bM g]
  ·rwa [z]
  ·exact c M z
 omega
theorem axQ(x:Int):∀l:Ď,(SW).Perm (x::l)
 | []=>.rfl
 | y::r=>by
  rw[axR]
  ·exact .rfl
  ·exact Ų (av3 y (axQ x r)) (List.Perm.swap x y r)
theorem aOm:∀l:Ď,(Mr).Perm l
 | []=>.rfl
 | x::r=>Ų (axQ x _) (av3 x (aOm r))
theorem buu(x:Int):SX (l.Pairwise Lx->(SW).Pairwise Lx)
 | [],_=>List.pairwise_singleton _ _
 | y::r,h=>by
  rw[đ b c (av2 h),axR]
  ·rw[G4 q (ĺ (ahZ ⟨qp z,h⟩) (Fk a))]
   ·omega
   ·rw[av (b z e)]
  ·rw[G4 q (ĺ (ahZ ⟨qp z,buu x c⟩) (EQ ((axQ x r).mem_iff.mp a) e e))]
   ·omega
   ·exact b z e
theorem buv:∀l:Ď,(Mr).Pairwise Lx
 | []=>.nil
 | x::r=>buu x (buv r)
theorem buw:∀{a b:Ď},a.Perm b->a.Pairwise Lx->b.Pairwise Lx->a=b
 | [],b,p,_,_=>(List.Perm.nil_eq p)
 | x::a,b,p,f,d=>by
  cases b with
  | nil=>rw[Ŗ aMB Ğ]
  | cons y b=>
   rw[dU j i (av2 f) h g (av2 d)];have e:x=y:=by
    rw[bM (awl dQ)]
    ·exact z
    ·rw[p8 (aOn dQ) c c]
     ·exact c.symm
     ·have:=j y c;rw[av (h x z)]
   rw[ş e (buw (List.Perm.cons_inv p) i g)]
theorem bJw:aJF (xf brZ):=by
 rw[Ms b k m e n,ajx e0 e,bb8,bb7 aoa]
 ·rw[bb6 (f.lst n) (ı (gm i))]
 ·rw[bb6 (f.tup n) (ķ i)]
 ·cases e;rw[gj a j i (ajj (f.all n)) (bb5 _ (ı i.sq) Ċ)]
 ·rw[Ţ e (qP j i (f.str n) (bEO b s k H _ m Q I r ⟨_,Ń j,i,qj⟩))]
 ·cases e
theorem bJx(m:bG)(hu:SY 1):rm t4 (xf minD):=by
 rw[Ms b j k e hd,ax minD e]
 ·rw[aJ ds e1 e (dz e) ns x e (dz e),Ė v rfl i CN,zM e1 (bt7 e1)];cases ns with
  | nil=>cases e
  | cons n o=>rw[Ţ e (ĩ a ys B A z (i.lst hd)),EY y (axO x z) (bGV m b s j H _ k Q I r ⟨a,n::o,Ń B,gm A,Ğ,fun M w u=>Ć (bJv w u) qj⟩)]
 ·rw[aOp e0 e,bb9 a,aOo e1 e2];subst e1 e2;rw[Mu (ĩ v v' rfl i f g.two) (bDZ m b s j H _ k Q I r (yL (ŷ (i.int hd) (f.int hd)) qj))]
theorem bJy(j:bG):rm "max" (xf maxD):=by
 rw[Ms a f i b hd,aOp e0 b,bb9 a0,aOo e1 e2];subst e1 e2;rw[Mu (ĩ v v' rfl m e g.two) (bDY j a s f H _ i Q I r (yL (ŷ (m.int hd) (e.int hd)) qj))]
theorem bJz:∀{ds:Ħ} {bs:BV} {a:Ŕ},D9 ds=ā bs->Sl a->a=awD:=by
 intro ds;induction ds with
 | nil=>rw[aOl]
 | cons d ds ih=>
  intro b a h r;cases d with
  | bl i=>rw[CJ ms f e h (ĩ v vs d c b aal)];have q:=ih f b;subst e d q;rw[GS c];rfl
  | _=>cases h
theorem bJA(o:bG):rm "sum" (xf aXF):=by
 rw[aOq n aXF]
 ·rw[mJ k m e f e,Ŷ v rfl q CN (ĩ a ys y x w (q.lst n)),EY u (axO m w) (bHd o b s i H _ j Q I r ⟨a,k,Ń y,gm x,qj⟩)]
 ·cases f
theorem bJB(n:bG):rm "all" (xf aEB):=by
 rw[aOq m aEB]
 ·rw[mJ bs k e f e,bca x w u (bHb n b s i H _ j Q I r ⟨a,bs,Ń x,gm w,Z3⟩)]
 ·cases f
theorem bJC(n:bG):rm "any" (xf aEC):=by
 rw[aOq m aEC]
 ·rw[mJ bs k e f e,bca w u t (bHc n b s i H _ j Q I r ⟨a,bs,Ń w,gm u,Z3⟩)]
 ·cases f
theorem bJD:axS "sum":=ĸ
theorem bJE:axS "all":=ĸ
theorem bJF:axS "any":=ĸ
theorem bJG:axS qb:=ĸ
theorem bJH:axT kW = ā ah5:=ĸ
theorem bJI(u:bG)(J:Gl X qb)(I:zU qb)(n:Gl X kW)(m:zU kW)
  (K:uE rs [e]) (E:fX) (h:BP rs aEA=ý):lr (xg qb [LI (nP kW s) [e] [] b]):=
 aoQ (r:=fun o H Q=>(∃(a:Addr) (d:Ď),o=nB/\JX (d.map nM)/\Kr<4000/\∀p,js->∃(p1:Addr) (ks:Ď),[V.ref p]=[ċ p1]/\aOr p1=ā (aiw p1 ks)/\jy<64 /\
   ∀(q:Addr) (j:Ď),aOr q=none->j.Perm ks->j.Pairwise Lx->FE q aOr (j.map nM)))
  (fun t L=>by
   rw[Ĕ z (brv (p:=s) (pos:=b) (bGY u) n m bJH L Đ Đ (bf E) rfl) y (bcb (bGZ u) J I bJG (lI z xQ) Đ Đ rfl rfl)];exact y.weak fun x H Q h=>h) K h fun O W H0 H o Q l x f hd g B=>by
  rw[ax aEA f]
  ·rw[Φ f]
   ·rename_i ds c d F;rw[Φ f]
    ·rw[fW w f,Ŷ v rfl M CN (ĩ a ys U S R (M.lst hd))];have P:=axO F R;rw[Kn P ⟨a,d,Ń U,gm S,w.1,fun p1 k=>⟨p1,_,rfl,Μ,w.2,Ý q j i C A⟩⟩,zM N (buw (C.trans (aOm _).symm) A (buv _))];have s1:Ú (qW p1 (aiw p1 (d.foldl dk []))):=gP k;exact B _ _ (zQ (gP i)) (adS (hd.mono s1) i (aYQ _))
    ·cases f
   ·cases f
  ·cases f
theorem bJJ:vZ jm (xf intD):=by
 rw[Ms a i j b k,ajx e0 b,bb8,bb7 inD]
 ·rw[Ż e (bcc (ı ⟨_,Ń (f.int k),qj⟩))]
 ·rw[Ż e (bcc (ķ ⟨_,Ń (f.bl k),qj⟩))]
 ·exact bIJ a s i H _ j Q I r ⟨_,n0,Ń (f.str k).1,e,qj⟩
 ·cases e
theorem bJK:vZ jn (xf br2):=by
 rw[Ms b f i a j,ajx a0 a,Ė n0 e1 a (dz a0)];clear a0;rw[zM e1 (xZ e1),Φ a]
 ·rw[fW e a,gj v rfl k CN (bD1 b s f H _ i Q I r ⟨_,Ń (k.int j),bue e,aNH (int_text_fits (bue e))⟩)]
 ·cases a
theorem bJL:vZ Ò (xf br3):=by
 rw[Ms b o u f hd,ajx f0 f];have f:=f0;clear f0;rw[Φ f]
 ·rw[Ţ f (Ŷ v rfl j CN (ĩ a i n m k (j.aoL hd)))];exact bcd (ı (gm m))
 ·rw[Ţ f (Ŷ v rfl j CN (ĩ a i n m k (j.aYU hd)))];exact bcd (ķ m)
 ·cases f
theorem bD.getD(h:GJ)(i:Nat):L5 H (ds.getD i .ę) (xs.getD i .ę):=by
 rw[Ũ,Ũ];cases e:ds[i]? with
 | none=>
  rw[Gy (Ć axn a3r)];exact aFx.mpr rfl
 | some d=>
  rw[Ė v a q (h.get e)]
  rwa [a]
theorem bD.gM(h:GJ):∀a:ė,n9 (aOs a ds) (aOs a xs)
 | []=>wS
 | i::l=>lj (h.getD i) (bD.gM h l)
theorem bJM:vZ aC (xf br4):=by
 rw[Ms b n o e i,ajx e0 e];have e:=e0;clear e0;rw[Φ e]
 ·rw[Mu (Ŷ v rfl j CN (ĩ a f m k w (j.aoL i))) (bce (ı ⟨gm k,ajk u (bIe i u w)⟩))]
 ·rw[Mu (Ŷ v rfl j CN (ĩ a f m k w (j.aYU i))) (bce (Kv k (SO GW eY)))]
 ·cases e
universe E_
def bJN:uh jZ
 | .ę=>ā Qj | ny=>ā we | iJ=>ā jm | mh=>ā jn | F6=>ā aC | qV=>ā Ò | F5=>ā mq
 | _=>none
def bux(T t:jZ):agV:=Bj (o4 T==o4 t) dX (axU (PySem.W.kitMeta t=true) ((fastBuiltinMro T).map (·.contains (Ì t))))
theorem bJO:(ajz:ajy).all (fun T=>(F7:ajy).all fun t=>bux T t==ā SZ)=true:=ĸ
theorem aZb{K:ĝ}(T t:jZ)(b:T∈ajz)(a:axV) :
  aOt X5 (Ì t)=ā SZ:=by
 exact(bK (bux T t=_) (Ł (zV (zV bJO T b) t a)))
section
variable {X:Cx} {δ:List Sv} {e e':Expr} {pos p p':Pos} {re:Re} {ra:Option Re}
theorem bJP(I:jg k)(r:axv)(c:cu)(e:S6)(f:axV)
  (h:∀tk,Q (je SZ) {s with toks:=tk}):gY (BI zF [u,Ì t]) Q A s:=by
 cases d with
 | ę=>rw[Mu (pi (SK r)) (S5 bco t8)]
 | bl b=>rw[Mu (pi (GS r)) (S5 bcn t8)]
 | int b=>cases e;rw[Ę (sf r) c (nv tk c (S5 bcm t8))]
 | str b=>cases e;rw[Ę (SH r) c (nv tk c (S5 bcl t8))]
 | tup y=>
  rw[axW j i x (uC r)];obtain⟨q,_,⟨o,g,l,_⟩,_⟩:=pq i;exact S5 bck (cY g l)
 | lst y=>
  rw[axW j i x (L3 r)];obtain⟨_,q,n,_,_,g⟩:=I.anY i;exact S5 bcj (dY g)
 | dJ ks vs=>
  rw[bci m p j i]
  ·rw[bch j l m _ i];exact bcf
  ·rw[bcg j l m _ i];exact bcf
 | fn _=>cases e
 | lam _ _=>cases e
 | fx _=>cases e
def bJQ(X:Cx):Xv:=Ş xs (∃d T t x,xs=[x,.ty t]/\G3 d x/\S6/\axV/\Ff SZ)
theorem bJR:rm zF (bJQ X):=by
 rw[vY b xs];obtain⟨d,T,t,x,rfl,f,i,g,q⟩:=h;rw[aT u w' rfl e a (vals2 r) (Ż a (bJP I f e i g fun c=>ac ny H (I.tok c) q))]
def ajA:Str->ś jZ:=fun x=>(F7:ajy).find? fun t=>Gw t==x
theorem aFL(h:ajB):JU=ā (Ì t)/\axV/\Gw t=x:=by
 rw[eI ajA];have a:=axY h;rw[mj b (Gw t=x) (Ł (axX h)) ⟨?_,a,b⟩];subst b;simp[uH,Mv,S7]at a;rw[bcp a]
 ·exact boot_int
 ·exact boot_bool
 ·exact boot_str
 ·exact boot_list
 ·exact boot_tuple
 ·exact boot_dict
def buy:jZ->ğ
 | Qj=>[Qj] | we=>[we,jm] | jm=>[jm] | jn=>[jn] | aC=>[aC] | Ò=>[Ò] | mq=>[mq]
 | _=>[]
theorem bJS:(ajz:ajy).all (fun T=>(F7:ajy).all fun t=>(buy T).contains (Gw t)==SZ)=true:=ĸ
theorem aZc(h:ajB)(b:S6):Rb x=SZ:=by
 obtain⟨_,e,c⟩:=aFL h;subst c;have a:∀T∈_,(buy T).contains _=(T==t||_):=fun T b=>by have q:=zV (zV bJS T b) t e;simpa using q
 rw[FR d b]
 ·exact a Qj Ğ
 ·exact a we Ğ
 ·exact a jm Ğ
 ·exact a jn Ğ
 ·exact a aC Ğ
 ·exact a Ò Ğ
 ·exact a mq Ğ
theorem bJT(m:ajB)(z:Gl X zF)(u:zU zF)(i:nj)(g:JV)(f:EZ)(j:jj)
  (B:jK ra) (n:fX) (h:(K2 ra y (aof G y [x]) k)=ý):lr (xg zF [e,c_ p']):=by
 rw[Ė K l J (aFL m)];have T:PV p' (tC (.ty t)):=aWV i g K rfl f j;have C:=bcq r E bJR z u T n;cases a:ra with
 | none=>rw[Sy]
 | some q=>
  rw[Κ a (B q a)];cases q with
  | ok d cl=>
   rw[mJ k b I (h) I];have c:∃T,S6/\k=Rb x:=by
    rw[bH aof b];have s:KQ x=true:=by
     rw[←J,Ck l];rcases l with rfl | rfl | rfl | rfl | rfl | rfl<;>decide +kernel
    cases d<;>first
     | (simp only[s,nK]at b;rw[ψ b (dY rfl)])
     | cases b
   rw[Fe T o w c (ajC (lq σ v L F ⟨d,T,t,v,rfl,F.all Ι,o,l,by rw[←aZc m o,←w];exact qo L adR⟩))]
universe E_
universe L2
namespace L2
open PySem PySem.Spec PyProof.Rows
theorem bJU(a:Str):Ix (a ++ A_)=ă:=by
 have c:∀b:Str,b.cps.toList.getLast? = ā 102->k6 (a++_) b:=fun b d=>by
  rw[aOu];intro z;rw[←z]at d;have e:(a++gU A_).cps.toList.getLast? = ā 62:=by show(a.cps++(A_ : Str).cps).toList.getLast? = _;rw[Z_,List.getLast?_append];rfl
  rw[Ī e d d]
 rw[nU Ix (c _ rfl) (c _ rfl)]
theorem aZd{P:Ž Œ}(a:P [])(b:∀i t j u x r,P r->P bcr):∀l:Œ,Po l->P l
 | [],_=>a
 | bcr,k=>b i t j u x r (aZd a b r k)
theorem bJV(l:Œ)(ok:Po l)(f:axZ a)(g:axZ b):aam (l++QY)=Pm->bcs:=by
 rw[ľ (Ŷ i t rfl f (Ė j u rfl g)) (aZd (P:=fun l=>aam (l++[Jr,aj u,c])=Pm->bcs) (fA h) (fun i t j u x r e h=>?_) l ok)]
 ·rw[Mf d (İ aOv ū (aam [])) Pm h]
  ·rw[Í (dN d).symm]
  ·cases d
 ·have d:(İ aOv bI (aam _))=Pm:=h;show(İ aOv bI (aam r))=Pm\/cv=c;rw[Φ d]
  ·rw[fM z (Ĉ G6 (ı d))]
  ·rw[fM z (E7 z (e d))]
theorem bJW(e:axZ a)(d:axZ b)(l:Œ)(ok:Po l):Po (l++QY):=by
 rw[Ŷ i t rfl e (Ė j u rfl d)];exact aZd (P:=fun l=>Po (l++[Jr,aj u,c])) uc (fun _ _ _ _ _ _ h=>h) l ok
structure aoS(X:Cx)(À:Ξ)(c P:Addr):Prop where
 code:ax0=qM
 hd:ajD pins σ Ô aOw
 tab:ajD pins σ Ô bct
 jT:aKj (aeZ y.1)
theorem aoS.has(L:aoS X À c P)(ok:X.Ok):aOx mu:=fun y b d=>ok.has y.1 (L.jT y b d)
theorem bJX(I:jg r)(L:aoS X À c P)(a3:aOz g Ó=aao)
  (h:bcM k r (adO k S8 g body À agD f)) :
  JR (bZ (awF g body À pos)):=by
 refine PySem.W.kla_eval a3 ?_;have hP:=L.tab I;rw[bcL x a5 À ax3,bcK c0,bcJ,bcI p c1,bcH c3 p c1];have C:=L.hd I;cases hf:arO with
 | some cv=>
  obtain⟨j,N,u,vs,t,e1,e2,e3,e4⟩:=x pos cv hf;rw[fG e1 (ĺ (PySem.W.kla_makeFunctionHit (mg:=X.mg) a5 PU hg L.code C hp ht hf hb (Ý m i tk hk W)) (bcG CO W))];refine⟨j,N,u,vs,t,_,m,Μ,?_,e3,e4.1⟩;rw[bcF]
 | none=>
  refine PySem.W.kla_makeFunction (mg:=X.mg) a5 PU hg L.code C hp ht hf c0 hb fun j m i tk hx l B Y U=>?_;rw[Ø c5 N vs t e2 Z hd hv Y];cases e2;have b9:aQ j:=pj l;have a0:aQ CO:=pj (û l (Ba B));rw[bcE S j (b≠CO) ⟨S9 b9,S9 a0⟩ ⟨JN l,JN (û l (Ba B))⟩];generalize a2:bal S8 g body À _ _ j m=fo;have a1:fo.isFreed=ă:=oX a2;generalize F:upd (qW j (nY N j)) CO (nY fo CO)=k;have a8:k CO=ā (nY fo CO):=ŗ F Μ;have at2:k j=ā (nY N j):=af2 F (aK (ke B)) Μ;have K:aan (b≠j) (b≠CO->k b=H b):=fun h1 h2=>by rw[←F,aK h2,aK h1]
  have sm:Ú k:=iy (zr (K (S e).1 (S e).2));rw[bcD aOy a6];have un:aIh k aOy:=by
   refine bcC o (a6 b n) e b n (K (v e).1 (v e).2) _ u q;rw[eQ z P]
   ·rw[Bc z _ (aw U)]
   ·rw[bcB]
  have b8:WZ k aOy:=fun b u e=>by
   rw[eQ z1 CO]
   ·rw[ax2 z1 a8 (XJ _ a1)]
   ·rw[eQ z2 j]
    ·rw[ax2 z2 at2 (aw Z)]
    ·rw[gb (K z2 z1) e (eQ z3 P)]
     ·rw[jc z3 hP e];refine⟨_,aw U,?_,ġ R cv a4⟩
      ·rw[bcA]
      ·rw[bcz a4 j]
       ·rw[bcy b0 a9 (x R cv w),bcx T a7 J b7 O]
       ·exact⟨j,N,_,vs,t,w,at2,hd,hv,fun y=>by rw[bK (Ix S8=ă) (bJU _)]at y;cases y⟩
     ·rw[bcw c4]
      ·rw[Ĉ w z3]
      ·rw[ax1 hP w]
  refine h CO k _ (bcv b8) sm a0 ⟨j,N,_,vs,t,bcu,m,by rw[a8,←a2],at2,hd,hv⟩
def vm(l:Ň)(h:Heap)(H:Hp):Hp:=fun b=>if CP then Ĥ EK o (HO.oP o (.own b))else H b
theorem IU(a:CP)(e:yf):vm l h H b=ā (nY o b):=by
 rw[nU vm v6 e]
theorem aoT(a:b∉l):vm l h H b=H b:=Fh
structure Cells(l:Ň)(h:Heap)(H:Hp):Prop where
 none:xh (aQ c)
 vn:xh (∃o v,yM c/\ZN)
section
variable {P:Program} {w:World} {K:PySem.W.Frag} {mg:Str->Option Value} {base:Heap} {A:Around} {outer:List Env} {s s':Shared} {H:Hp} {l:List Addr} {Q Q':VK} {u:Value}
theorem Cells.same(C:ajE):Ú aap:=fun b o e=>by
 rw[aoT fun z=>ax4];exact e
theorem u9.vm(C:ajE)(x:WT Ĳ):Pv aap Ĳ:=fun b u e=>by
 rw[aaq]
 ·rw[tW o v g (C.vn b hb),gc (dP (IU hb g)) g o g]
 ·rw[uG (aoT hb) e (arV (x b u e) ζ ζ ζ q (ajF q))]
theorem adm.vm(C:ajE)(hb:lU c l (aeT c))(hf:xh (c∉XR))(e:Fs):bcN aap:=
 ⟨e.frames,e.mod,yg o ⟨(e.bs b o q).1,gh (aoT (aar (hb b z) q)) (e.bs b o q).2⟩,e.IB,e.sV,⟨l_ b q (aoT fun z=>hf b z q) (e.oR.1 b q),fun p hp=>ajF (e.oR.2 p hp)⟩,u9.vm C e.Ν,e.bare⟩
theorem CE.vm(C:ajE)(h:aOE aap s Q' u s')(hq:∀v H',ax5 H'->Q' v H'->Q v (bA l H'))(hs:∀v H',Q' v H'->ax5 H'):atr s':=by
 rw[Ø v H' os bare un Ν r q h];have aZe:aan CP (∃o v,tM/\ZN/\H' b=ā (nY o b)/\ajG b=ĕ):=fun {b} hb=>by rw[kU o v g d (C.vn b hb) z (atU o _ (IU hb g))];exact⟨o,v,g,d,z,(Ν b _ z).1⟩
 refine⟨v,bA l H',os,bare,bcP hf hx xs,Bb x,r,hq v H' (hs v H' q) q⟩
 ·rw[aaq]
  ·rw[bcO];exact g'
  ·exact atV e aOD hf hx
 ·rw[aaq]
  ·rw[nh bcO o.slots g']
  ·exact un.slot b o e aOD hf hx
 ·rw[aaq]
  ·exact OQ hb
  ·rw[Ĉ (cr hb) (un.free b o e aOD hx)]
 ·rw[uI z ax4 (un.Iy b xs (ajF e))]
 ·rw[uI z ax4 (atU o x (ajF e))]
 ·rw[uI z ax4 (un.DU b x (ajF e))]
 ·rw[LU hb];refine aOC (Ν b x e) b' _
  ·rw[aOB]
  ·rw[aOB]
  ·rw[aOB]
  ·rw[uI z (by obtain⟨_,_,_,d',g,_⟩:=aZe z;rw[aOA];rw[Ī d d' d']) q]
structure bJY(l:Ň)(h:Heap)(H:Hp):Prop where
 at_:awU (yM c/\ZN)
def ov(l:Ň)(H H':Hp):Hp:=fun b=>İ CP (H b) (H' b)
theorem aFM(h:CP):aas a b=H b:=Br
theorem adW(h:b∉l):aas a b=a b:=EG
theorem u9.aoU(C:Mw)(x:WT Ĳ):Pv jL Ĳ:=fun b u e=>by
 rw[LU hb];refine aOC (x b u e) a ζ
 ·rw[aOF]
 ·rw[aOF]
 ·rw[aOF]
 ·rw[uI z (by obtain⟨_,_,g,_,c⟩:=C.at_ _ z;rw[aOA];rw[pi d]) q]
theorem CE.aoU(C:Mw)(m:∀b∈XR,eO)(h:aOE jL s Q' u s')(J:∀v i,(lU c l (i c))->Q' v i->Q v (aas i)):atr s':=by
 rw[Ø v i F p un A r q h];have I:xh (c∉XR):=fun c y z=>ajH c y (m c z);have f:lU c l (i c):=fun c y=>by obtain⟨o,_,_,g,_⟩:=C.at_ c y;exact un.free c o g (OQ y) Ğ
 refine⟨v,aas i,F,p,bcP m j E,Bb x,r,J v i f q⟩
 ·rw[aOH n];exact atV e (iS a n) m j
 ·rw[aOH n];exact un.slot b o e (iS a n) m j
 ·rw[aOG n (un.free b o e (iS a n) j)]
 ·rw[aOG e (un.Iy b E (iS a e))]
 ·by_cases a:CP
  ·rw[Ĉ (aFM a) e]
  ·rw[Ĉ (adW a) (atU o x (iS a e))]
 ·rw[aOG e (un.DU b x (iS a e))]
 ·by_cases a:CP
  ·rw[aFM a]at e;obtain⟨o,_,g,K,_⟩:=C.at_ b a;rw[dP g];have k:=atV K (OQ a) (I b a) Ğ;rw[υ k o k]
  ·rw[adW a]at e;refine aOC (A b x e) B ζ
   all_goals (rw[adW (aar (f _ z) q)];exact q)
universe E_
universe L2
namespace L2
open PySem PySem.Spec PyProof.Rows
def bJZ(P:aB)(w:ņ)(K:ĝ)(mg:bY)(base:Heap)(N:ğ)(qual:Str)(À:Ξ)(f:Addr)(cd:ě)(cl:jw)(A:bJ)(Ï:ng)(s:Ĭ)(H:Hp):Cx where
 prog:=P
 w:=w
 K:=K
 mg:=mg
 base:=base
 A:=aty aOI
 N:=N
 Oo:=s
 H₀:=H
 env:=aOI
 Ï:=Ï
 stack:=aOI::Ï
 ex:=[]
 calm:=true
 fn:=awE
 pn:=[]
 xe:=yi
theorem bJ0{P:aB}{w:ņ}{K:ĝ}{base:Heap}{A:bJ}{j:ng}{s:Ĭ}{H:Hp}{l:Ň}{N ps:ğ}{q:Str}{À:Ξ}{f:Addr}{M:Œ}{vs ws:Ŕ}{cd:ě}{k:Heap}{tk:Nat}(S:bc2)(C:Mw)(hd:dh)(B:aJn A j s H)(hl:X3)(r:aiB M)(Z:fK=ax8)
  (hw:ax7)
  (Y:k.Ns Ģ (fun x=>ax6 x)) (R:a9v) :
  Inv (aat cd j) [] ajI jL (Ch k):=by
 rw[bc1,bc0 j U,bcZ F (k.IsCell c v)];refine⟨(bcY B.mod B.frames (B.bs b o e) (U (B.bs b o e).2) B.IB I b z B.sV (U (B.oR.1 b hb)) p L),
  rfl,B.bare,Pw R,⟨_,Y,ES y v Q O h3⟩,F,?_,bcX,atC L,(u9.aoU C B.Ν).kept R,?_⟩
 ·rw[atB J J J]
  ·rw[bcW]
  ·exact S.has y J
 ·rw[bcV B.oR,bcU]
 ·rw[jY Q (ŋ N y) Q Â O];have E:nH My:=by
   cases z:My[i]? with
   | none=>rw[Ī z O O]
   | some a=>rw[Ļ z O (Wo (dN (dN O)))]
  by_cases hi:i<bo
  ·rw[Ę (Fz Ă) E (Ė u hu rv (yD E)),bcT W];show ax6 y=Δ;rw[bcS X W,bcR hz]
  ·rw[bcQ E (S.jT i y Ă Q)]
 ·show jL Ģ=none;exact U (B.Ν.fresh Ķ)
 ·show Ą ajI=fK;rw[Ċ,Ÿ];omega
theorem bJ1{K:ĝ}(S:bc2)(C:Mw)(M:aOJ)(m:Fs)(hf:aNm H ZM)
  (h:∀B a j,XU (bas ZM body À cl B Ŝ j) afR=afS us) (hl:X3) (r:vL) (p:fK=ax8)
  (Y:ax7)
  (g:∀a,∃t,PE (aat Ŝ Ï) body t/\t ajI jL bc4) :
  ax9 us CX:=by
 obtain⟨a,W,u,y,t,B,j,h1,h2,h3,h4⟩:=hf;rw[ĺ (PySem.W.kla_callFunE M.1 ((m.Ν f _ h1).1) rfl S.co S.gen rfl ⟨a,W,y,t,rfl,((m.Ν a _ h2).1),h3,h4⟩ ?_) yz];rw[h B a j,bc5 X L I n (m.mod.nolimit.keeps (iy (m.bs b o e).1))];show aKr _ _ _ _;rw[gj t Z hq KA (PySem.W.kla_codeExpr (lX (Z [] _ _ _ _ (bJ0 S C M.2 m hl r p Y I (iy (Yo b o (vO e) Zz))) hq) (fun v R ⟨O,k,J,U,z⟩=>CE.aoU (Q':=bc4) C m.oR.1 (aJu O k U z) bc3) fun e R z=>S_ z))]
universe L2
namespace L2
open PySem PySem.Spec PySem.Calls PyProof.Rows
theorem bJ2(F:aJ2 sc env=pure cl)(B:env.globals=io)(L:ar1 io mg)(hc:env.code=qM)(C:aOw)(N:cC P=ā (PySem.W.tabObj ps))(ht:Po arP)(hn:arO=none)(u:io≠P)(hb:bde mg P)
  (h:∀a T K I h' tk,FO P h'->ae3->a<aip->Ģ<=T->bdc->bdb->bda->vE P=ā bc9 ->
   Zw aip (Ch (h'.push (aOK p y cl I ((mg Pd).getD Ġ) a K)))) :
  bdd p y env R:=by
 obtain⟨bm,ob,b1,Z,_,Y,X,W,U,S⟩:=hb;have O:∀(s1:Ĭ),(∀b o,tM->aij)->Ģ<=iV->s1.gens=aev->s1.drawn=Wr->s1.os=s.os ->
   Xe (functionCode env pos R nm p y sc (.stmts bd)) (fun J w=>∃a T h' tk,J=Ŝ/\w = Ch h' /\ FO P h'/\ae3/\a<aip/\Ģ<=T/\bdc/\bdb/\bda/\vE P=ā bc9) E s1:=fun s1 k z g1 g2 g3=>by
  have C1:=C.keeps k;refine wpAny_functionCodeX hc (C1.code (ye N) ht) (C1.tab (ye N)) hn fun a h' tk d n m _ l j x6=>?_;rw[Ĩ T i g f x6];refine⟨a,T,h',tk,rfl,by rw[g1,g2,g3],bj H (d b o H (PJ e)),û z n,m,û z i,g,f,l,j.2⟩
 rw[makeFunction_eq];simp only[List.zip_nil_right,List.filterMap_nil,aMw,nK,pure_bind];rw[Ù makeTail F B,rS];cases cl with
 | nil=>
  rw[mi aMw nK,k7 (t6 (BG (O s EU Ķ rfl rfl rfl) J w q x x)) bc8];cases hd:docOf bd with
  | none=>exact bc7
  | some t=>exact bc6
 | cons q r=>
  simp only[List.isEmpty_cons,zt,ro];rw[k7 (wpAny_newTextTuple (ĵ (BG (O _ Bk (Ä nE) rfl rfl rfl) J w q x x))) bc8];cases hd:docOf bd with
  | none=>exact bc7
  | some t=>exact bc6
structure buz(X:Cx)(À:Ξ)(c P:Addr)(q:Str):Prop where
 code:ax0=qM
 hd:bdf
 tab:(P,q)∈IA X.K
 jT:aKj (tP y.1=bh)
 dq:Ix q=true
def OR(H:Hp)(nm q:Str)(pr:eH)(bd:aM)(sc:Ξ)(cl:jw)(f:Addr):Prop:=
 ∃(c':Addr) (oc:Obj) (u:HO) (vs:jd) (t:Tok) (doc pm V3:ě) (T:Addr),bX f (nY (aOK q pr cl doc pm c' V3) f)/\m_ c' oc u/\arN=Ju/\aHI/\arM /\
  aau (vW c'=ā oc) c' T
theorem OR.mono(e:Ú d)(h:bdg H):bdg d:=by
 obtain⟨p,j,u,g,t,a,i,b,T,o,n,m,l,k,r⟩:=h;exact⟨p,j,u,g,t,a,i,b,T,iL o,iL n,m,l,iL k,r⟩
theorem bJ3(I:jg U)(L:buz X sc c P q)
  (h:bcM r U (OR r nm q pr bd sc CQ f)) :
  bdd q pr Ó fl:=by
 have hP:=I.tabs _ L.tab;rw[bcL Y a9 sc (agE hy hf (ı (L.jT y hy hf))),bcK c9,bcJ,bcI R d0,bcH e0 R d0];have C:=L.hd Ĳ pz;have W:∀{l:Addr} {x:Obj} {p:jd} {T:Addr} {j:Str} {tf:Tok} {g:Int} {tg:Tok} {m:Bool} {i:Int} {tt:Tok},x.data=o8 p->x.cls=WQ -> ĳ p 11 (ċ T)->ajJ 11=ċ T->ajJ 18=.str j tf->ajJ 7=ć g tg->ajJ 9=je m->ajJ 10=ĭ tt->l≠T ->
   aau (vW l=bI) l T:=fun d1 d2 d3 d4 d5 d6 d7 d8 d9 h e=>⟨_,_,_,_,_,_,_,_,_,e,d2,d1,d3,d4,d5,d6,d7,d8,d9⟩
 cases hf:arO with
 | some cv=>
  obtain⟨l,x,u,p,t,e1,e2,e3,e4,e5⟩:=Y pos cv hf;subst e1;obtain⟨y0,T,j,tf,g,tg,m,i,tt,y1,y2,y3,y4,y5,y6,y7,y8⟩:=e5 L.dq;refine PySem.W.makeFunction_hit (mg:=X.mg) a9 PU hg L.code C hp ht hf hb fun O N k tk hk a4=>?_;rw[bcG xi a4];refine⟨l,x,u,p,t,N,_,O,T,Μ,?_,e3,e4,?_,W e3 y0 y1 y2 y3 y4 y5 y6 y7⟩
  ·rw[bcF]
  ·rw[Ĉ (LV y8 hn) y8]
 | none=>
  refine bJ2 (mg:=X.mg) a9 PU hg L.code C hp ht hf c9 hb fun l T O N k tk hx F a0 b0 c8 c4 a5 a3=>?_;rw[Ø e9 x p t e2 B hd hv a5];cases e2;obtain⟨⟨o1,c1,g1,g2,g3,g4⟩,b7⟩:=c4;rw[Ī B g1 g1,Ī hd g3 g3];obtain⟨o1,c1,j,tf,g,tg,m,i,tt,op,j1,j2,j3,j4,j5,j6,j7,_,_,_,j8⟩:=c8;rw[Ī B j1 j1,Ī hd j2 j2];have c6:aQ l:=pj F;have c7:aQ T:=pj b0;have a6:aQ xi:=pj (û F (Ba a0));have e7:T<xi:=cX b7;have e8:T≠xi:=ke e7;rw[bcE Z l (b≠T/\b≠xi) ⟨S9 c6,S9 c7,S9 a6⟩ ⟨JN F,JN b0,JN (û F (Ba a0))⟩];generalize a8:aOK q pr _ N _ l O=fo;have a7:fo.isFreed=ă:=oX a8;generalize K:upd (upd (qW l (nY x l)) T aOM) xi (nY fo xi)=r;have b9:r xi=ā (nY fo xi):=ŗ K Μ;have a1:r T=ā aOM:=af2 K (aK e8) Μ;have at2:r l=ā (nY x l):=by rw[←K,aK (ke a0),aK j8];exact Μ
  have a2:aan (b≠l) (b≠T->b≠xi->r b=H b):=fun h1 h2 h3=>by rw[←K,aK h3,aK h2,aK h1]
  have sm:Ú r:=iy (zr (bdh (Z e)));rw[bcD aOL b8];have un:aIh r aOL:=by
   refine bcC o (b8 b n) e b n (bdh (v e)) _ u q;rw[eQ z P]
   ·rw[Bc z _ (aw a3)]
   ·rw[bcB]
  have c5:WZ r aOL:=fun b u e=>by
   rw[eQ z1 xi]
   ·rw[ax2 z1 b9 (XJ _ a7)]
   ·rw[eQ z0 T]
    ·rw[dO (jc z0 a1 e) #[] (aw b7) uc (fun S cv J=>eZ J)]
    ·rw[eQ z2 l]
     ·rw[ax2 z2 at2 (aw B)]
     ·rw[gb (a2 z2 z0 z1) e (eQ z3 P)]
      ·rw[jc z3 hP e];refine⟨_,aw a3,?_,ġ S cv J⟩
       ·rw[bcA]
       ·rw[bcz J l]
        ·rw[bcy c3 c0 (Y S cv w),bcx T2 j g m i]
        ·exact⟨l,x,_,p,t,w,at2,hd,hv,ű ⟨g2,T,j,tf,g,tg,m,i,tt,g4,j3,j4,j5,j6,j7,j8,a1⟩⟩
      ·rw[bcw e6]
       ·rw[Ĉ w z3]
       ·rw[ax1 hP w]
  exact h xi r _ (bcv c5) sm a6 ⟨l,x,_,p,t,N,bcu,O,T,by rw[b9,←a8],at2,hd,hv,a1,W hd g2 g4 j3 j4 j5 j6 j7 j8⟩
universe L2
namespace L2
open PySem PySem.Spec PyProof.Rows
structure buA(N ps:ğ)(n:Nat)(sc:Ξ)(cl:jw)(l:Ň):Prop where
 kind:XW
 co:afZ
 gen:afY
 nd:ae7
 pre:awT=ps
 par:aNn
 Eo:awS
 jT:∀i x,bo<=i->i<bo+n->lV N->ajK
 has:bao
 inj:ban
 mem:bam
theorem bJ4{K:ĝ}(S:bdj)(C:Mw)(hd:dh)(k:Fs)(hl:X3)(r:aiB M)(Y:fK=ax8+n)
  (hw:ax7)
  (X:j.Ns Ģ (fun x=>ax6 x)) (R:awq (j.get? b)) :
  Inv (aat cd Ï) [] aON jL (Ch j):=by
 rw[bc1,bc0 Ï wn,bcZ E (j.IsCell c v)];refine⟨(bcY k.mod k.frames (k.bs b o e) (wn (k.bs b o e).2) k.IB I b z k.sV (wn (k.oR.1 b hb)) p L),
  rfl,k.bare,Pw R,⟨_,X,ES y v Q F h3⟩,E,?_,bcX,atC L,(u9.aoU C k.Ν).kept R,?_⟩
 ·rw[atB J J J]
  ·rw[bcW]
  ·exact S.has y J
 ·rw[bcV k.oR,bcU]
 ·have Q:ŋ N y:=Q;have O:i<Ą My:=by
   rw[ol (i<Ą My)]
   ·exact z
   ·rw[bdi (Ä Ċ) F]
  rw[Fz (Ć Ċ O),Â]at F;have B:nH My:=by
   cases z:My[i]? with
   | none=>rw[Ī z F F]
   | some a=>rw[Ļ z F (Wo (dN (dN F)))]
  by_cases hi:i<bo
  ·rw[Ę (Fz Ă) B (Ė u hu rv (yD B)),bcT U];show ax6 y=Δ;rw[bcS W U,bcR Z]
  ·rw[bcQ B (S.jT i y Ă (Mz Ÿ O) Q)]
 ·show jL Ģ=none;exact wn (k.Ν.fresh Ķ)
 ·show Ą aON=fK;rw[Ÿ,Ċ,Ÿ,XZ];omega
theorem bJ5{K:ĝ}(S:bdj)(C:Mw)(Y:aOJ)(y:Fs)(hf:OR H nm q a body À cl f)
  (k:∀m pm d p,XU (bdk a body À cl Ġ Ġ m pm none (ċ d) p) ⟨L,[]⟩=afS L) (hl:X3) (r:aiB L) (I:fK=ax8+n)
  (hw:ax7)
  (j:∀d B u T,m_ d B u->arM->(aau (vW d=ā B) d T)->∃t,Oq (aat (ċ d) Ï) body t/\t {nx:=yi,rt:=fun v O=>(lU c l (O c))->Q v (aas O)} aON jL) :
  ax9 L CX:=by
 obtain⟨d,B,u,R,t,m,pm,p,T,h1,Z,h3,h4,h5,h6⟩:=hf;have U:=(y.Ν d _ Z).1;rw[ĺ (a5S Y.1 (y.Ν f _ h1).1 ⟨d,B,R,t,rfl,U,h3,h4⟩ ?_) yz,k m pm d p,bc5 hx X W F (y.mod.nolimit.keeps (iy (y.bs b o e).1))];have g:=iy (F.extBut b o (vO e) Zz);rw[ľ (Ė t ht hq (j d B u T Z h5 h6)) (codeAny_func (lX (ht [] _ _ _ _ (bJ4 S C Y.2 y hl r I hw W g) hq) (ġ fl s' M) fun e s' z=>S_ z))];cases fl with
 | ret u=>
  rw[Š v' mR O J rv z M];exact CE.aoU C y.oR.1 (aJu v' O rv z) bc3
 | next=>rw[af6 z M]
 | brk=>rw[af6 z M]
 | cont=>rw[af6 z M]
theorem bJ6{K:ĝ}(C:Mw)(k:m_ a i u)(hd:Xq i.data)(j:arM)(r:aau (A7=aV) a T)
  (c:aKa (Fy y.1=Co)):aoS (aat Ŝ Ï) sc a T where
 code:=rfl
 hd:=fun {b m x s1} I=>by have e:jL a=Ε:=(iS (fun z=>by rw[bdl k];exact hd v d) k);exact r _ (cZ _ _ (aIc _ _ _ e)).1
 tab:=fun {b m x s1} I=>ar4 _ _ (show jL T=_ by
  rw[uI z (by rw[bdl j]) j])
 jT:=fun y n p=>ķ (c y n p)
universe L2
namespace L2
open PySem PySem.Spec PyProof.Rows
structure V6(k:Nat)(A:bJ):Prop where
 hd:dh
 dp:XO+3*k+5<atp
 un:Kf+16*k+198<cLine
theorem lH.buB(r:Kg):ajL:=⟨r.hd,r.dp,bL r.un⟩
theorem lH.bJ7(r:Kg):V6 k A.in1.in1:=bdm (Kf+1)
theorem V6.deeper(r:V6 ŕ A)(env:Env):XQ k env:=
 a5y
theorem V6.ok(r:ajL):aOJ:=⟨bL r.dp,r.hd⟩
def buC(P:aB)(w:ņ)(K:ĝ)(mg:bY)(base:Heap)(fn bl cl:ğ)(k:Nat)(Fl:pM Ou):Prop:=
 ∀(A:bJ) (Ï:ng) (s:Ĭ) (H:Hp) (us:Œ) (vs:Ŕ) (Q:VK) (E:XK) (O:Ň) (f:Addr) (m:AK) (cs ds:Ħ) (d:DV),ajL->Fs->vL->LW->ajP->ajO->ajN ->
  ajM zJ d_ j9->bdo->Fl (d_::ds)=k9->bdn ->
  ax9 us VO
theorem buD(I:Ζ)(h:zS zJ (.lam m e) j9):bdq:=by
 obtain⟨f',pr,bd,sc,q,cl,l,ws,c,⟨c',oc,u,vs,t,pm,d,b,_⟩,_⟩:=aoJ.mp h;rw[ψ c (bdp (s_ b).2)]
theorem bJ8{K:nQ}(lo:aya)(hr:kF)(hv:tO p)(h1:ajP)(h2:ajO)(h3:ajN)(S:axN d_)
  (ha:uE K dW) (hs:fX) (M:xc) (h:(rM K aLb)=ā L):iT axK L:=by
 have C:∀{t:TA},Ft->XV (Ş c (∃(O W:Ň) (v:V),ajl c/\ŋ c nA/\t c H fun B b=>Ú b/\∃J d,SG (se b) J B/\yZ (d_::J)=k9/\aOO y b)):=fun {t} A=>by
  rw[ji a c,Š O W v R U h h,rf v' E w (SV _ S) U];obtain⟨f,_,_,_,_,_,_,_,ev,_⟩:=aoJ.mp w;subst ev;refine SU (Fq (aOk a c b v5 U) u);rw[Š v b Z r1 q1 q2 B0];subst q1 q2;obtain rfl:u=m9 f:=r1;refine bds (buD Z w) c b M;obtain⟨B,H2,P,r,sm,J,d,N,g2,g3⟩:=B0;have Y:=w.mono sm.wo;refine aD (buD P Y);refine Qo (wf (lo X.A kj s2 H2 us B Q tR n_ f m cs J d hr.buB P.adn r (ajR).xY h1 h2 h3 Y N g2 g3) (Qn o));cases r with
  | Bx e=>exact S_ o
  | ok fl=>
   cases fl with
   | ret u=>exact P.after o
   | next=>rw[eW o]
   | brk=>rw[eW o]
   | cont=>rw[eW o]
 cases j:K with
 | none=>rw[ŉ j]
 | some q=>
  rw[ajQ j];cases q with
  | ok l=>
   rw[jJ n aLb L bsa]
   ·rw[ic z n]
    ·rw[v4 d E (ψ n ((C A).weak fun c H Q ee=>gh (fC v w (SV _ S)) ⟨O,W,v,R,w,O,W,R,fun B b s1 N=>⟨s1,_,d,N.č Ι z,E,bdr y⟩⟩))]
    ·cases n
   ·cases n
universe L2
namespace L2
open PySem PySem.Spec PyProof.Rows
section
variable {D:Dm} {O l:List Addr} {H:Hp}
theorem bJ9(d:ayb)(h:jG O b=Δ)(a:∀o c,u ≠ nY o c):bA O jL b=Δ:=by
 rw[đ f e (s_ h),cr f,cr fun z=>by rw[ň o g (d b z) af3];exact a _ _ rfl];exact e
mutual
theorem aZf(hl:ayb):aw1 CS (ZU->Cw (bA O jL))
 | .ę,_,_,h=>iR
 | ny,_,_,h=>iR
 | iJ,_,_,h=>iR
 | mh,_,_,h=>iR
 | ο,_,m,h=>by
  rw[ZS,jH agQ m (aNy (adX hl m e3))]
  ·rw[agq (ajS h)]
  ·rw[at0 (ajS h)]
  ·rw[yI]
 | Ŧ,_,m,h=>by rw[ZS,bH agQ m];exact⟨a,xs,e1,ajS e2,adX hl m e3⟩
 | F5,_,m,h=>by
  rw[GK,jH agQ m (aw0 h ob)]
  ·rw[ŝ bdt]
  ·rw[Í bdt]
 | BR,_,_,h=>iR
 | FU,_,m,_=>Ń (wW agQ m m)
 | FV,_,_,h=>by
  rw[GK,aNw]
  ·rw[ŝ ⟨o,ajS h⟩]
  ·rw[yI]
theorem adX(hl:ayb):awZ (e_ ds=true) (ai4->Tc O jL)
 | [],_,_,h=>awX
 | rH,_,m,h=>baz e_ (aZf hl m.1 e2) (adX hl m.2 e3)
end
universe E_
section
variable {X:Cx} {pins:List (Addr×Obj)} {σ:St} {H:Hp} {s:Shared} {sc:Scope} {N ps:List Str}
theorem adY(d:bdv)(h:bdu):at5/\agw:=by
 rcases an1 d (gu h)with z | z
 ·cases z
 ·exact z
theorem aoV(g:bdv)(f:agw)(d:at5):bdu:=by
 rw[ň c' e (aXj (aEl f d)) (EO (adY g e).1 d)];exact e
structure aFN(N ps:ğ)(sc:Ξ):Prop where
 kind:XW
 co:afZ
 gen:afY
 nd:ae7
 pre:awT=ps
 par:aNn
 Eo:awS
 jT:bap
theorem aFN.full(T:aFN N ps sc)(I:Ô)(b:ajT):aYL N ps sc CQ so where
 kind:=T.kind
 co:=T.co
 gen:=T.gen
 nd:=T.nd
 pre:=T.pre
 par:=T.par
 Eo:=T.Eo
 jT:=T.jT
 has:=fun x h=>by have d:=gu h;rw[ň c e (b _ d rfl) (Į c (aoV b d e))]
 inj:=fun x y c g f=>I.ok.inj x y c (adY b g).1 (adY b f).1
 mem:=bdw
theorem aZg(I:Ô)(d:ajT):∀c∈so,∃x,qX/\agw:=fun c e=>by
 rw[uJ x c' b rfl (Gq e),fB (an1 d b)]
 ·cases z
 ·rw[υ x z.1 z.2]
theorem ayc(I:Ô)(f:ajT):Cells so Ĳ H where
 none:=fun c b=>by rw[bdx];exact JK e
 vn:=fun c b=>by rw[bdx,dO (Ĩ v o g d Pz) o v g d]
theorem buE(I:Ô)(h:ajT)(d:aKa (X.fn y.1=true)):∀c∈so,ayd:=fun c i=>by
 rw[Ė x e g (aZg I h c i)];have b:=asc (d _ g rfl) e;refine⟨W4 (W3 b),mt⟩;rw[EQ (I.aD7 c z) w w]
 ·exact aId w
 ·rw[aH9 f w,ae2 f b]
universe E_
universe L2
namespace L2
open PySem PySem.Spec PyProof.Rows
section
variable {X:Cx} {δ:List Sv} {ea eb bd:Expr} {pos p lp:Pos} {re:Re} {k:Nat} {x:Str} {pr:Arguments} {sc:Scope} {c P:Addr} {m:AK} {cs:List DV} {fr:List Nat}
def buF(X:Cx)(pr:eH)(bd:Expr)(sc:Ξ):TE:=Ş ζ (∀f H',pF->aQ f->Td H' f->Q j9 H')
theorem bKa(L:aav)(a:aye=aao):PE X aOP (buF X pr bd sc):=by
 rw[ji b σ];exact bJX I L a fun f d s' g sm e lf=>ac v5 d g (h f d sm e lf)
theorem aFO(R:jI):∀{b:ė} {cs:Ħ},F' b=KZ->∃a:Ŕ,ad=iH/\L0 cs a/\∀(j i:Nat) v,ĳ b j i->ĳ a j v->ae1
 | [],cs,h=>G8 h ⟨[],rfl,by unfold bD;rfl,fun j i v h=>bV⟩
 | i::r,cs,h=>by
  rw[cM xV]
  ·rename_i d ds q p;rw[a_]
   ·rw[Ţ h (ab (Ĩ a l k g (aFO R p)) v o n (SV d q))];refine⟨v::a,aOQ l,aw3 a n k,Ý j m f e c⟩;cases j with
    | zero=>rw[Ţ e (Ż c o)]
    | succ j=>exact g j m f e c
   ·cases h
  ·cases h
def Q3(X:Cx)(δ:ē)(F:Ť)(f:Nat)(m:AK)(cs:Ħ)(pr:eH)(bd:Expr)(sc:Ξ)(σ:St)(Q:VK):Xc:=fun vs H3=>∃va vb f' O W da db d,vs=aOR/\G9 H3 σ δ O W/\f'∉O++W/\Td H3 f' /\
 SG (se H3) [da,db] [va,vb]/\F f [da,db,d_]=k9/\CS/\aOO H' H3
theorem bKb(fo:ayj Mo)(hn:aaj)(hr:kF)(hg:nj)(hm:yl=ayi)(hk:Qq fa=true)
  (hb:G7) (b6:jj) (a3:Cr=ă) (a2:aiW=ă)
  (L:aav) (a6:aye=aao) (T:ajY) (a4:ayh n Y so) (a7:ayg=true) (hN:ajX) (a0:ajW)
  (b0:MB) (ha:aOZ) (hB:fV rb eb)
  (h:(za (ā ra) cx rb cy (aLa x y d_))=ý):lr bdK:=by
 have C:∀{ta tb:TE},ajV ta->PE X eb tb->PE X bdK (Ş Y (adl ta (adl tb (adl (buF X pr bd sc) anV)) Y H (Q3 X δ F f m cs pr bd sc Y Q))):=fun {ta tb} A B=>by
  rw[ji n Y];have pa:=lI A (lI B (lI (bdJ a6) (xQ (X:=X)) EC) (bf a2)) (bf a3);rw[q5 (SU (aWU I hg hm ?_ b6)) (bdI hk (iA (pa pos n s Y H _ I h) us s1 vs H3 J r q (aD J.Op)) (bf a3) (Η (bf a2)))];obtain⟨va,vb,f',O,W,da,db,d,e0,R,nO,lf,rp,hF,hd,hq⟩:=q;subst e0;generalize hl:so=l;have U:=ayc (sc:=sc) J (L.has J.ok);rw[ς hl U nw (a4 J),ς hl nw S (T.full J (L.has J.ok)),Ę hl S (Ĩ ws w1 w2 w3 (aFO R b0)),aOY U.same];have Ef:si ayf d_ (ċ f'):=by
   rw[ľ (bdH (H3 b=aeR) K b z e l O W (U.none b hb)) (bdG f' a7 M)]
   ·rw[bdF b2 b9]
   ·rw[bdE (U.vn c M) M]
   ·rw[gX bdD y' K q2 q3 (a0 i _ hj),aOX K,aOW b5 J.loc (b5 _ y v q2 hv (ķ q3)) k1 cc]
    ·rw[bdC]
    ·rw[bdB a5 a8 J.ok,bdA a9 a8]
  have sp:Mo (aOR++[]) ayf (fun v H'=>ũ ayf H'/\aOV) tR:=by
   rw[aN];refine⟨O++W,[da,db,d_],_,ajU,hn _ _ hF,?_,hF,fun v H' s g=>⟨s,g⟩⟩
   ·rw[bdz K q2]
   ·rw[aT v1 r1 e1 g1 g2 (GL rp) (ĩ v2 r2 e2 g3 g4 (GL g2)),Ţ e1 (Ż e2 (lj (g1.mono aax) (lj (g3.mono aax) (lj Ef wS))))]
  have b4:Ą (us++[])=bo:=X7 aN Á (fo.len _ _ _ _ (aaw aN sp sp));have bi:=hb s1 us J.Op b4;rw[aN]at bi;rw[aN]at sp;refine Qo (wf (fo.run X.A kj s1 ayf afR us aOR _ _ hr (aOU U M (nw c M) J.adn) bi r sp) (Qn E));cases r with
  | Bx e=>exact S_ E
  | ok fl=>
   cases fl with
   | ret u=>
    refine J.after (Q:=Q) (bdy U E H');refine aOT (aZf (Ĝ c M) hd z.2)
    ·rw[aOS (U.none b w)]
    ·rw[nh (tW o v g (U.vn c M)) o (MA (IU M g))]
   | next=>rw[eW E]
   | brk=>rw[eW E]
   | cont=>rw[eW E]
 cases ra with
 | ok dx cx=>
  cases a1:rb with
  | none=>rw[ŉ a1]
  | some b1=>
  have b8:=hB _ a1;rw[a1]at h;cases b1 with
  | ok dy cy=>
   rw[jJ N (aLa dx dy d_) re bsb]
   ·rw[ic z N]
    ·rw[Mg d e1 N]
     ·rw[fW nl N,ajp (C ha b8) (lq Y va H1 g1 (SD (fun vb H2 s2 g2=>Ý f' H3 s3 b3 lf))) (Ĕ Z (Ų Sx s3) b7 (Mi Z))];refine⟨va,vb,f',O,W,dx,dy,d,rfl,G' Z,fun w=>Te f' w ((Sx).free b3),lf,?_,e1,nl,fun v H' s g=>p v H' (Z.trans s) g⟩;have gl:axk H H3 [(dx,cx),(dy,cy)] [va,vb]:=ai (g1.mono (Z8 s3)) (ai (lu (g2.since s1) s3) .nil);exact gl.č b7 z
     ·cases N
    ·cases N
   ·cases N
universe E_
universe L2
namespace L2
open PySem PySem.Spec PyProof.Rows
def bKc(T t:jZ):Bool:=SZ
theorem bKd{K:ĝ}(h:T∈ajz)(d:b∈F7)(c:a∈F7) :
  ayk K X5 [Ì b,Ì a]=ā (CT b||CT a):=by
 have f:aOt _ _=ā (CT b):=aZb T b h d;have e:aOt _ _=ā (CT a):=aZb T a h c;rw[š ayk f];cases CT b with
 | true=>rfl
 | ă=>
  show ayk K _ _=_;rw[š ayk e];cases CT a<;>rfl
section
variable {X:Cx} {δ:List Sv} {e:Expr} {pos p:Pos} {ra:Option Re} {re:Re}
theorem bKe(I:jg j)(r:axv)(c:cu)(e:S6) :
  ∃p:Ž Heap,PySem.W.KitX X.K u X5 p/\p Ĳ/\u ≠ bdM /\ T∈ajz:=by
 cases d with
 | ę=>rw[Ţ e (pi (SK r)),Tf bco t8]
 | bl b=>rw[Ţ e (pi (GS r)),Tf bcn t8]
 | int b=>cases e;rw[Ę (sf r) c (đ x rfl c),Tf bcm t8]
 | str b=>cases e;rw[Ę (SH r) c (đ x rfl c),Tf bcl t8]
 | tup A=>
  rw[axW i h y (uC r)];obtain⟨m,_,⟨o,g,k,_⟩,_⟩:=pq h;rw[Tf bck (cY g k)]
 | lst A=>
  rw[axW i h y (L3 r)];obtain⟨_,m,n,_,_,g⟩:=I.anY h;rw[Tf bcj (dY g)]
 | dJ ks vs=>
  rw[bci l f i h]
  ·rw[bch i k l (.dK f) h,bdL]
  ·rw[bcg i k l (.dT f) h,bdL]
 | fn _=>cases e
 | lam _ _=>cases e
 | fx _=>cases e
def bKf(X:Cx):Xv:=Ş xs (∃d T t1 t2 x q,xs=[x,Lu]/\G3 d x/\S6/\t1∈F7/\t2∈F7/\bX q (Ē [.ty t1,.ty t2])/\Ff (CT t1||CT t2))
theorem bKg:rm zF (bKf X):=by
 rw[vY c xs];obtain⟨d,T,t1,t2,x,q,rfl,p,C,F,E,B,k⟩:=h;rw[ĩ u w' rfl m a (vals2 r),Ţ a (ĩ HH Z i g f (bKe I p m C))];obtain⟨A,o,⟨⟨oc,od,v,t⟩,z,y,n,w⟩,_⟩:=pq (aff B);rw[ĩ u1 u2 e l j (vals2 o)];have b:=y;subst b w;cases l;rw[Ţ j (cA e (PySem.W.kia_tup Z pz i z (bKd f F E) g fun tk=>ac ny H (I.tok tk) k))]
theorem bKh{m:uh Bool}(r:ajA x1=Ro)(o:ajA a=ū)(F:Gl X zF)(B:zU zF)
  (j:Gl X x1) (z:X.mg x1=none) (w:x1 ≠ Pd) (d1:k6 x1 (gU Sd)) (K:Gl X a) (x:X.mg a=none) (u:a ≠ Pd) (P:k6 a (gU Sd))
  (g:∀d k,m d=CI->∃T,S6/\k=(Rb x1||Rb a))
  (I:jK ra) (hs:fX) (h:(K2 ra y (m y) k)=ý) :
  lr (xg zF [e,t9 [nP x1 p1,nP a p2] kk l]):=by
 rw[aJ Z Y b3 (aFL r) U S c3 (aFL o)];have T1:PE X (nP x1 p1) (tC (.ty f)):=aWV j z Z rfl w d1;have T2:PE X (nP a p2) (tC (.ty c)):=aWV K x U rfl u P;rw[Ĕ TT (aEf (pos:=l) (x1:=kk) (lI T1 (lI T2 xQ))) C (bcq s J bKg F B TT hs)];cases b:ra with
 | none=>rw[Sw]
 | some q=>
  rw[Κ b (I q b)];cases q with
  | ok d cl=>
   rw[ab (mJ k N M (h) M) T i E (g d k N)];have L:k=(CT f||CT c):=zW E (aZc r i) (aZc o i);exact ajC (lq σ v H1 j ⟨aay (ů CU),fun q n=>⟨d,T,f,c,v,q,rfl,lu (j.all Ι) (gP n),i,Y,S,Μ,ŗ L (SO (zQ (gP n)) adR)⟩⟩)
universe E_
universe L2
namespace L2
open PySem PySem.Spec PyProof.Rows
section
variable {X:Cx} {δ:List Sv} {v:Expr} {te:TE} {pos kpos:Pos} {i:Int} {j:Nat}
theorem Inv.bKi(I:vG)(h:ae3):Jw:=by
 have:=tI (uK (ø:(1:Nat)<=io) I.mod.glob.lt) (û (W3 I.sz) h);exact bE (vT this)
theorem bKj(c:afC [])(h:jG O b=Δ)(a:u ≠ aaz):bA O (qi o) b=Δ:=by
 rw[đ d e (s_ h),cr d,aK (fun z=>by rw[z,c]at e;rw[Ż e (a rfl)])];exact e
mutual
theorem aZh{D:Dm}{O:Ň}{H:Hp}{p:Addr}{o:HO}(hp:afC []):aw1 ZU (Cw (bA O (qi o)))
 | .ę,_,h=>iR
 | ny,_,h=>iR
 | iJ,_,h=>iR
 | mh,_,h=>iR
 | ο,_,h=>by
  rw[ZS,aNy aO0]
  ·rw[agq (G_ h)]
  ·rw[at0 (G_ h)]
  ·rw[yI]
 | Ŧ,_,h=>gh ZS ⟨a,xs,e1,G_ e2,aO0⟩
 | F5,_,h=>by
  rw[GK,aw0 h ob]
  ·rw[ŝ bdN]
  ·rw[Í bdN]
 | BR,_,h=>iR
 | d_,_,h=>by
  rw[GK];obtain⟨f,pr,bd,sc,q,cl,l,ws,e1,⟨c',oc,u,vs,t,pm,V3,f1,f2,f3⟩,e3,e4,e5,g1,g2,g3⟩:=h;refine⟨f,pr,bd,sc,q,cl,l,ws,e1,⟨c',oc,u,vs,t,pm,V3,G_ f1,G_ f2,f3⟩,e3,e4,aZi hp e5,g1,ayl,ajZ x⟩
  ·rw[dO (Ĩ o v k1 k2 (g2 c hc)) o v (G_ k1) k2]
  ·rw[Ps c o u k1 k2 k3 (g3 i x v h1 h2) k1 (G_ k2) k3]
 | FV,_,h=>by
  rw[GK,aNw]
  ·rw[ŝ ⟨o,G_ h⟩]
  ·rw[yI]
theorem aZi{D:Dm}{O:Ň}{H:Hp}{p:Addr}{o:HO}(hp:afC []):awZ ai4 (Tc O (qi o))
 | [],_,h=>awX
 | rH,_,h=>gh aNr ⟨v,vs,e1,aZh hp e2,aO0⟩
end
universe E_
universe L2
namespace L2
open PySem PySem.Spec PyProof.Rows
def bKk(x y:Str)(ta tb:TE):TE:=Ş σ (∀a,aQ a->ta σ (Fo aaz) fun v H1=>asp fun w H2=>H2 a=ā aaz/\∀o,Q Ŝ (bdO o))
theorem bKl{K:Expr}(B:x≠y)(ha:PE X L r)(C:PE X K n):PE X (.Dict [ā (R6 ő J k),ā (R6 ma F i)] [L,K] pos) (bKk x y r n):=by
 rw[ji a c,Ĕ hf By E (I.bKi Ķ)];have I0:eT a c (afP aaz) (fE (FH agt)):=
  aMM f_ (aO2 e) Ķ ⟨cg,E,[],.nil,Heap.DictOf.new _⟩
 rw[q5 (wpAny_Dict_walk (knd:=aD3 de X.w) rfl rfl Ğ (aay (CU<=15)) ?_) (bdQ x J k ő (r c f fun v f=>bdP v) I0 (h _ hf) s1),Š kx f I1 rk e q t0,gp (ş e (pC R rfl rk (χ (ha a s1 c f _ I1 q) m s2 t0))) (ĩ O g I2 rv Z t0) (bdQ y F i ma (bdP O) I2 Z W),Š kx H3 I3 rk e q t0,ş e (pC p rfl rk (dH (C a W c H3 _ I3 q) fun l U ⟨wx,N,M,A,hd,Y⟩=>pairTrees_nil_walk ?_)),ĩ z bVX P kv dd (show vJ N U.heap Ģ aaz from M.Ν _ _ hd)];cases kv;have mg:merged [] [((ya:Key),m),(ķ y,l)]=aO1:=merged_nil_of_nodup _ (by
  have:(WJ x:Key) ≠ ķ y:=fun z=>B (agd z);rw[aaA])
 refine⟨aO1,ac (aym x R) rfl (aym y p) uc,dd,ġ h' d S⟩;rw[Ę mg d (ĩ o es ep e r' (id d))];refine ac dm (upd N Ģ _) ?_ (Y o);exact M.write (by rw[hd];trivial) ŵ (fun b u C e=>S.extBut b u C e) ⟨o,e⟩ ⟨e,aay (ů CU),E,aO1,ai (cG rv) (ai (cG A) .nil),d⟩
theorem bKm(J:x≠y)(f:fV E P)(n:fV C N)(h:(aY E fun d c=>aY C fun r K=>bdR)=ā s) :
  iT (.Dict [ā (R6 ő U I),ā (R6 ma S F)] [P,N] pos) s:=by
 cases j:E with
 | none=>rw[ŉ j]
 | some q=>
  rw[Κ j (f q j)];cases q with
  | ok d c=>
   cases i:C with
   | none=>rw[ŉ i]
   | some L=>
    rw[wY i (n L i)];cases L with
    | ok r K=>
     rw[jJ o bdR s aXQ]
     ·rw[G0 m (fC c1 c2 m),zT o ((bKl J A B).weak fun σ H Q ee a f=>⟨O,W,ayn,fun v H1 s1 g=>⟨O,W,lu ayn s1,fun w H2 s2 Z=>⟨MD (aaB Μ),fA M⟩⟩⟩)];have k:=MD (aaB Μ);have sm:Ú (bdO M):=fun b u e=>by have n:b≠a:=S9 f;rw[Ĉ (aK n) (MD (aaB (nb n e)))]
      rw[Ĕ l (lu (lu ayn s1).cV s2) Y (lu (g.f6 (lu (ayn).cV s1) c1) MC)];exact SO sm (aw7 (ı ⟨a,M,_,rfl,iS (fun z=>Te a z f) Μ,rfl,lj (aZh k Y) (wT (aZh k (Z.f6 l c2)))⟩):zS _ (a7Y [d,r]) _)
     ·cases o
universe L2
namespace L2
open PySem PySem.Spec PyProof.Rows
structure Wk(D:Dm)(J:It)(ds:Ħ)(Oc Oi:Ň)(H1:Hp):Prop where
 go:∀i H,ayo Oc->i<ŧ->asE
 same:∀i H x H',afp->pF
 AJ:∀i H x H' d O2,ayo Oc->ayo Oi->afp->uB ds->(∀a∈O2,aJW/\(a∈Oi\/Ql a))->L5 (bA O2 H') d x
 stop:∀H,ayo Oc->J.stop ŧ H
def buG(O W:Ň):Cl->Ň
 | .top=>O
 | cJ=>O
 | _=>O++W
def bKn(D:Dm)(O W:Ň)(H:Hp)(R:asF):Ž Ri
 | au2 c=>∀J H',pF->bdS H'->R J H'
def dI(D:Dm)(δ:ē)(r:Ri):TI:=fun σ H R=>∃O W,jI/\bKn D O W H R r
theorem PI.weak(h:yv a t)(k:baN R):yv a t':=aO3 c b R b H R
theorem aZj(s:aaC O c zJ)(h:∀a∈d,aJW/\(a∈O\/c a=none)):aaC O c (jG d):=fun b o e=>by
 have q:=s b o e;rw[LU f,tH q (s_ q),aNx]
 ·exact q
 ·rcases(h b z).2 with w | w
  ·exact f w
  ·rw[dP w]
theorem Wk.list(h:DW D.K (bA f b) a xs)(r:Tc c b):Wk D (aW1 D.K a) ds f c b where
 go:=bdV aO4
 same:=aj0 x n
 AJ:=bdU aO4
 stop:=bdT aO4
theorem Wk.tup(h:ayp (bA f b) a xs)(r:Tc c b):Wk D (aW2 D.K a) ds f c b where
 go:=bdV aO5
 same:=aj0 x n
 AJ:=bdU aO5
 stop:=bdT aO5
theorem aZk(a:Int)(n:Nat):Ą avQ=n:=aj1 upTo
theorem bKo(h:uB avQ):i<n/\d=ć (a+i):=by
 rw[ayq b i n h aZk (eI upTo),bdW b]
theorem Wk.range(a:Int)(n:Nat):Wk D (anQ a n) avQ h g j where
 go:=aO6 b aZk
 same:=aj0 x k
 AJ:=bdX k f c (bKo e)
 stop:=l_ H s aZk Ķ
theorem aZl(hi:Int)(n:Nat):Ą (Eb hi n)=n:=aj1 Eb
theorem bKp(h:uB (Eb hi n)):i<n/\d=ć (hi - i):=by
 rw[ayq a i n h aZl (eI Eb),bdW a]
theorem Wk.down(hi:Int)(n:Nat):Wk D (aEp hi n) (Eb hi n) f c g where
 go:=aO6 h aZl
 same:=aj0 x j
 AJ:=bdX j b a (bKp e)
 stop:=l_ H s aZl Ķ
theorem Got.buH(g:Ti f Ŧ c v)(hd:fT f):nZ xs (DW D.K ayr a xs) (Sq xs):=by
 cases c with
 | weak=>rw[ai6 g (gm d)]
 | top=>rw[Š a xs e e0 d b g];exact⟨a,xs,e,gm d,b⟩
 | č=>rw[ai6 g (gm d)]
 | mw=>rw[ai6 (g.č hd) (gm d)]
theorem Got.buI(g:Ti b ο c v)(hd:fT b):nZ xs (ayp ayr a xs) (Sq xs):=by
 cases c with
 | weak=>exact uC g
 | top=>
  rw[lT a xs f e d (uC (g)) a xs f ((ZV).aoI e) d]
 | č=>exact uC g
 | mw=>rw[bdY]
theorem Got.bKq(g:Ti f (.fx e) c v)(hd:fT f):∃a,QA/\DW D.K ayr a (e.map nM):=by
 cases c with
 | weak=>rw[bdZ]
 | top=>rw[gC a d b (ajj (g)) a d ((ZV).seq b.sq)]
 | č=>rw[bdZ]
 | mw=>rw[bdY]
theorem Wk.str(x:Str):Wk D (aY3 x) a7R h g j where
 go:=aO6 a Ċ
 same:=aj0 v k
 AJ:=fun i H v k d O2 s s' y e ho=>by rw[Ĩ f c b rfl y];subst f;rw[Â,pZ,b]at e;rw[Ż e (zL (by show ů 1;decide))]
 stop:=l_ H s Ċ Ķ
theorem bKr(s:jK m)(h:bU m=Û):yv e (Tj r):=by
 cases g:m with
 | none=>rw[ŉ g]
 | some q=>
  rw[Κ g (s q g)];cases q with
  | ok d c=>
   rw[mJ ds b f (h) f,ax br8 b]
   ·cases b;exact(bq2 A).weak fun k H o ee=>⟨O,W,R,fun v j s1 i=>by
     rw[dO (Ė a b f (i.bKq Ι)) a b ⟨_,xX.seq f⟩ (qo j (wj f (aYQ _)))]⟩
   ·cases b;exact(bq2 A).weak fun k H o ee=>⟨O,W,R,fun v j s1 i=>by
     rw[dO (ĩ a l b f n (i.buH Ι)) a b ⟨l,xX.seq f⟩ (qo j (wj f n))]⟩
   ·cases b;exact(bDn A).weak fun k H o ee=>⟨O,W,R,fun v j s1 i=>by
     rw[dO (ĩ a l b f n (i.buI Ι)) a b ⟨l,ai7 f⟩ (qo j (Ē f n))]⟩
   ·rw[ψ b ((bIN A).weak fun k H o ee=>eg (fun v j s1 i=>⟨_,(i.str Ι).1,qo j (Wk.str _)⟩))]
   ·cases b
theorem aoW(h:oT i=true) : vU<=i/\i<2^62:=by
 rw[eI oT];simpa[ĥ]using h
theorem bKs(h:bU (o.map fun a=>Gj (.lst a) Ŋ)=fb):∃a,o=aR/\b=CV a:=by
 cases o with
 | none=>cases h
 | some a=>rw[ψ h (Cc a)]
theorem bKt(h:lJ (d::r)=ā ns):∃i ms,d=ĭ/\lJ r=ā ms/\ns=i::ms:=by
 cases d with
 | int i=>rw[Fe ms a b (eJ h) ⟨i,ms,rfl,a,b.symm⟩]
 | _=>cases h
theorem aFP{l:bu}(h:lJ br=ā ns)(n:Ű=k+1):∃i ms c r,l=(ĭ,c)::r/\lJ (CW lP)=ā ms/\ns=i::ms/\Á=k:=by
 cases l with
 | nil=>cases n
 | cons p r=>rw[ĩ i ms a b c (bKt h)];exact⟨i,ms,p.2,r,by rw[←a],b,c,ays n⟩
theorem bKu{l:bu}(h:lJ br=ā ns)(n:Ű=0):l=[]/\ns=[]:=by
 cases l with
 | nil=>rw[ψ h qQ]
 | cons p r=>cases n
theorem bKv{X:Cx}{δ:ē}{tg e:Expr}{pos p:Pos}{rs:nQ}{ri:Ri}(hg:Xu)(hm:Xs)(ha:uE rs [e])(hs:fX)(h:aPe=ā ri)(hl:aPd 1) :
  aPc [e]:=by
 have C:=fun t (hA:Fr [e])=>bDq (tg:=tg) (p:=p) (pos:=pos) hg hm hA zX;cases vo:rs with
 | none=>rw[aj2]
 | some q=>
  rw[ajQ vo];cases q with
  | ok l=>
   rw[aPb,aPa,Ø j n1 c r1 z1 m1 w1 l1 (aFP m0 l1),aO9 m1,aO8 a7P (Rf asL)]
   ·rw[CH e1,ς ĥ m q (aoW m.1)];exact ajC fun σ H R' ee=>⟨O,W,R,fun vs H1 s1 g1=>by
     rw[Fe v rfl gv g1.one ⟨j,Ń aO7,q.1,q.2,bd0⟩]⟩
   ·cases e1
theorem bKw{X:Cx}{δ:ē}{tg e e':Expr}{pos p:Pos}{rs:nQ}{ri:Ri}(hg:Xu)(hm:Xs)(ha:uE rs aj3)(hs:fX)(buJ:mF e'=ă)(h:aPe=ā ri)(hl:aPd 2) :
  aPc aj3:=by
 have C:=fun t (hA:Fr aj3)=>bDr (tg:=tg) (p:=p) (pos:=pos) hg hm hA (gx zX ayt) ayt;cases vo:rs with
 | none=>rw[aj2]
 | some q=>
  rw[ajQ vo];cases q with
  | ok l=>
   rw[aPb,aPa,bd2,aO9 m2];subst z2 w2;rw[aO8 (auX i j Ū) (upTo i aIM)]
   ·rw[CH e1];rw[ĥ,ĥ]at m;rw[Ĕ q (aoW m.1.1) q' (aoW m.1.2)];exact ajC fun σ H R' ee=>⟨O,W,R,fun vs H1 s1 g1=>by
     rw[lT v v' rfl gv aZm g1.two i j (ŷ aO7 (aZm.int Ι)) bd1 bd0]⟩
   ·cases e1
theorem bKx{X:Cx}{δ:ē}{tg e e':Expr}{pos p:Pos}{rs:nQ}{ri:Ri}{buK:Expr}(hg:Xu)(hm:Xs)(ha:uE rs aPf)(hs:fX)(buJ:mF e'=ă)(buL:mF buK=ă)(h:aPe=ā ri)(hl:aPd 3) :
  aPc aPf:=by
 have C:=fun t (hA:Fr aPf)=>bFA (tg:=tg) (p:=p) (pos:=pos) hg hm hA (zW zX ayt (bf buL)) (gx ayt (bf buL));cases vo:rs with
 | none=>rw[aj2]
 | some q=>
  rw[ajQ vo];cases q with
  | ok l=>
   rw[aPb,aPa,bd2,Ø k n3 bVY r3 z3 m3 w3 l1 (aFP m2 l1),aO9 m3];subst z3 w3;subst z2 w2;rw[aO8 (aKZ Ū k) auW]
   ·rw[CH e1];rw[ĥ,ĥ,ĥ,aX,aX]at m;rw[Ĕ q (aoW m.1.1.1) q' (aoW m.1.1.2),zM k1 m.2];exact ajC fun σ H R' ee=>⟨O,W,R,fun vs H1 s1 g1=>by
     rw[gZ v v' bVZ rfl gv aZm bKy g1.three];exact⟨i,j,by rw[aO7,aZm.int Ι,bKy.int Ι],bd1,qo H1 (.down _ _)⟩⟩
   ·cases e1
def aoX:ė->VH
 | []=>bqU
 | i::is=>bqV (anP i) (aoX is)
def gT(K:ĝ):Tg->TG
 | ag8=>anP i
 | YH=>bqW K LN (aoX is)
theorem f7.adZ(R:jI)(r:ZT)(i:Nat):og H afa auZ where
 val:=fun j u h=>by
  by_cases e:j=i
  ·rw[bd3,gc (ŉ (wV c)) v (aPj c) r]
  ·rw[iW e]at h ⊢;exact R.val j u h
 own:=fun j l h=>by
  by_cases e:j=i
  ·rw[bd3,ŉ (wV c)]
  ·rw[iW e]at h ⊢;exact MF l
 inj:=fun j k a f q b g n m=>by
  have ne:ayu f DV auZ (.own f) Ge:=fun {j f} b z=>by
   subst z;rw[ayq c j YV b FC (nN (wV c))]
  rw[Ĕ p (ne b) o (ne g)];rw[iW p]at b n;rw[iW o]at g m;exact aj4 f q b g n m
 od:=ajd (aYX _ aPi) h aPh
 len:=aPg
 cV:=Tk
theorem aZn:∀{g:ė} {j:Ħ} {f:Ŕ} {c:St} {e a:ē},og H c e->L0 j f->aoh e g j=aR->(∀b,og H b a->Q b H)->aoX g f c H Q
 | [],[],f,c,e,a,R,r,h,q=>G8 h ⟨LS r,q c R⟩
 | i::g,d::j,f,c,e,a,R,r,h,q=>gh (ĩ v k n m l aal) ⟨v,k,n,aZn (R.adZ m i) l h q⟩
 | [],_::_,_,_,_,_,_,_,h,_=>bV
 | _::_,[],_,_,_,_,_,_,h,_=>bV
theorem aFQ:∀{is:ė} {f:Ħ} {e c:ē},aoh e is f=ū->LN=aiv/\jt=e.length
 | [],[],_,_,h=>G8 h qQ
 | i::is,d::f,e,c,h=>by rw[ň a b (aFQ (is:=is) h) (Į (aOQ a) (ŷ b FC))]
 | [],_::_,_,_,h=>bV
 | _::_,[],_,_,h=>bV
theorem buM(R:jI)(r:aw9 d x)(h:Ru=ū)(q:∀b,og H b c->Q b H):gT D.K tg x σ H Q:=by
 cases tg with
 | one i=>rw[Ż h (q _ (R.adZ r i))]
 | many is=>
  rw[eI Tg.bind];dsimp at h;rw[a_]
  ·rw[fM ds (ĩ a f j g e (uC r))];exact⟨a,f,j,ai7 g,ŷ e.length (aFQ h).1,aZn R e h q⟩
  ·cases h
theorem f7.less(R:og H σ b)(f:YV=iH)(h:∀(i:Nat) c,Τ = ū->c=.no\/ŋ b c):jI where
 val:=fun i d e=>by
  rw[aPk]
  ·cases z
  ·exact SV d z
 own:=fun i d e=>by
  rw[aPk]
  ·cases z
  ·exact L7 d z
 inj:=fun i j a d k e g=>by
  rw[aPk]
  ·cases z
  ·rcases h j _ g with y | y
   ·cases y
   ·exact Ss i j a d k z y
 od:=R.od.step (fun j d e=>by
  rw[fB (h j _ e)]
  ·cases z
  ·exact aW z) (fun ζ h ζ=>h) aPh
 len:=Ć f Sr
 cV:=Tk
theorem bKz:bd4 (∀i∈is,ŋ b .no\/lS b i) (∀(i:Nat) sv,ŋ b sv->sv=.no\/ŋ a sv)
 | [],[],_,_,h,_,i,sv,e=>Ń (Ż h (ķ e))
 | j::is,d::f,b,a,h,p,i,sv,e=>by
  by_cases c:i∈j::is
  ·rw[fB (p i c)]
   ·rw[dP z];exact ŵ
   ·rw[dP z]
  ·have o:Ge:=fun z=>c (Ć z dQ);have n:=fun z=>c Md;have g:bd4 (i∉is) (ŋ b sv->ŋ a sv):=by
    intro is;induction is with
    | nil=>intro f b a h _ e;cases f with
     | nil=>rw[Ż h e]
     | cons _ _=>cases h
    | cons k is m=>intro f b a h l e;cases f with
     | nil=>cases h
     | cons d f=>
      refine m h (fun z=>l Md) ?_;rw[aNE (fun z=>l (Ć z dQ))];exact e
   rw[Í (g h c e)]
 | [],_::_,_,_,h,_,_,_,_=>bV
 | _::_,[],_,_,h,_,_,_,_=>bV
theorem bKA(h:Ru=ā δ')(b:∀i∈aoB tg,sh .no\/Τ = none):YV=δ'.length/\∀(i:Nat) sv,sh sv->sv=.no\/ŋ δ' sv:=by
 cases tg with
 | one j=>
  rw[zT h ⟨(FC ..).symm,ġ i sv e⟩];by_cases a:i=j
  ·subst a;rcases b i (bg aoB)with z | z
   ·rw[dP z];exact ŵ
   ·rw[dP z]
  ·rw[Í (zr (iW a))]
 | many is=>
  rw[on Tg.bind GZ]
  ·rw[Į (aFQ h).2.symm (bKz h b)]
  ·cases h
theorem f7.inner(R:jI)(fr:ww)(B:ayw):og H aPo Tl:=by
 have c:∀(j:Nat) x,ĳ Tl j x->x ≠ .no->∃i,ĳ fr j _/\sh x:=fun j x h L=>by
  rw[dr OK h Â];cases q:fr[j]? with
  | none=>rw[xb]
  | some o=>
   rw[q]at h;cases o with
   | none=>rw[Ż h (eV rfl L)]
   | some i=>
    refine τ i ?_;rw[jY C (aK2=x) (Ł h) Ũ C];cases z:Τ with
    | none=>rw[Ļ z C (eV C.symm L)]
    | some P=>
     rw[Ļ z C (Wo C)]
 have f:∀(j i:Nat) (v:V),aKb->ae1->ĳ aPo j nA:=fun j i v q e=>by rw[Ù aPn Â q];simp[e]
 refine ayv d E S Q r p MG ?_ Tk
 ·rw[jk i m n aPm (gC v r p (SV d n) v (f j i v m r) p)]
 ·rw[Ŷ i m n aPm (Š a K M F r p (L7 d n))];exact⟨a,K,M,F,aPl r,p⟩
 ·rw[aJ i m n (c j _ S iU) A g l (c k _ Q iU)];obtain⟨b,K,M,_,I,_⟩:=L7 d n;obtain⟨b',N,U,_,w,_⟩:=R.own A E l;rw[Ĕ y (aPl I) J (f k A _ g w),Ę r y (Ī p J y)];cases J;have:=Ss i A a d E n l I w;rw[P3 (B j k i m g)]
 ·rw[Ė i m n aPm];obtain⟨⟨a,o,F,r,p⟩,u⟩:=R.od i d n;refine⟨⟨a,o,F,aPl r,p⟩,ġ k E z⟩;rw[jk A g l (c k _ z iU) (Ļ (u A E l) g (B k j i g m))]
 ·rw[bd5]
section
variable {X:Cx} {δ:List Sv} {iter elt IV:Expr} {ifs:List Expr} {pos:Pos} {N':List Str} {scope:Scope} {fr:List (Option Nat)} {tg:Tg} {ri:Option Ri} {re:Re}
theorem buN{Q:VK}(w:bdS F)(X:fT H)(hc:GQ c)(R:og F σ o)
  (hn:∀i∈aoB tg,ŋ o .no\/lS o i) (hz:ů ŧ) (hx:BY ds=ag9) (s1:Ú F)
  (step:∀d S,d∈ds->g d=ā S->∃b,RI o=fb/\∀j l,ũ F l->og l j b->∀K:Xb,(S=.skip->∀m,ũ l m->K ă m)->(∀x,S=bd9->∀m,ũ l m->K true m)->tc j l K)
  (C:∀d x,d∈ds->g d=aha->∀b,RI o=fb->∀j l,ũ F l->og l j b->∀K:VK,(∀v m,ũ l m->L5 (se m) x v->K v m)->te j l K)
  (Y:∀v r,Ú r->aj5 H r qR Ŋ v->Q v r) :
  aXo J (gT D.K tg) tc te (fun M r=>∀p,r p=none->FE p r M) σ F:=by
 have ci:L4 c=O++W:=by cases c<;>first | rfl | rw[Ŗ rfl hc]
 rw[ci]at w;refine⟨fun i n M j r=>n=ŧ - i/\i<=ŧ/\ayy<=i/\og r j o/\ũ F r/\∃f rest,BY (auK i)=ā rest/\f++rest=xs/\wU (se r) f M,
  ⟨ŧ,rfl,cg,cg,R,zK,[],xs,hx,rfl,wS⟩,?_⟩
 rintro i n M VI l ⟨rfl,OB,hy,R2,s2,f,rest,h1,h2,r2⟩;by_cases k:i<ŧ
 ·rw[ĺ (ķ ⟨w.go i l MC k,uK hy (tI k hz),ġ N m y⟩) (Ĕ A (w.same i l N m y) y3 (w.AJ i l N m _ n_ MC MC y (Õ k) fun a ha=>⟨R2.cV.ot a ha,ı ha⟩)),ς (air k) h1 U (Cg k),ax OL h1]
  ·cases h1
  ·rw[fM q (Ė b I Z (step _ _ U q)),ľ bd8 (bd7 (ġ ζ H4 B) (fun x z=>agC))];show awf ă;rw[Yc];exact⟨ŧ - ö,Ě,rfl,k,Nat.le_succ_of_le hy,bd6 B,aPp,f,rest,h1,h2,r2.mono (A.trans B).wo⟩
  ·rw[Mg x q h1]
   ·cases h1
   ·rw[ab (CD E q' h1) b I Z (step _ _ U q),ľ bd8 (bd7 CY (ń N z H4 B))];cases z;show awf true;rw[ľ jb (C _ x U q b I u H4 aPp (L.mono B) _ (ń v H5 P rv))];exact⟨ŧ - ö,Ě,rfl,k,nC Ÿ MH,bd6 (B.trans P),Ų aPp P,f++[x],E,q',Ć rq h2,
     (r2.mono (Ų (A.trans B) P).wo).append (wT rv)⟩
 ·rw[pK e (i=ŧ) (jc e ayx h1)];rw[aN]at h2;subst h2;have s0:=Sx;refine ı ⟨w.stop l MC,fun p hp=>Y _ _ (s0.trans (gP hp)) ?_⟩;exact adS (X.mono s0) hp r2
theorem PE.any{t:ι->TE}(h:∀k,PE Y e (t k)):PE Y e aPq:=ayz Q
theorem VP.any{t:ι->TT}(h:∀k,VP Y es (t k)):VP Y es aPq:=ayz Q
theorem Rc.bKB(h:F9 r=aha):bea r x:=by
 rw[cM F9]
 ·rw[sn d c]
  ·rw[jv m];exact τ c m
  ·cases h
 ·cases h
theorem Rc.bKC(h:F9 r=au0):tG:=by
 rw[cM F9]
 ·rw[atA h]
 ·cases h
theorem buO{i:Nat}(h:ŋ fr none):ŋ Tl .no:=by
 rw[nU OK Â h]
def aFR(X:Cx)(δ:ē)(IV iter:Expr)(ifs:aE)(elt:Expr)(À:Ξ)(N':ğ)(fr:ww)(tg:Tg)(re:Re):Prop:=
 ∃(wi:TI) (tc:TT) (te:TE),PI X IV iter wi/\(auj tF Iv Oz N' ifs tc)/\(Yj tF Iv Oz N' te) /\
  axj re (aXp fr wi MJ tc te σ H Q)
theorem aZo(b:qf a=ă):∀x,asP a env x=pure x:=by rw[aPr a b]
theorem aFR.pe(P:aPs ifs)(S:KB N')(e:bG)(f:QN a b d N' IV MJ)(c:qf iter=ă) :
  lr (agv IV iter ifs pos):=by
 rw[gZ wi tc te j i h g P];exact(bFf S e j f i h (aZo c)).weak g
theorem f7.buP(R:jI)(fr:ww):f7 D H aPo (ahs []) O []:=by
 have c:∀(j:Nat) e,ĳ (ahs []) j e->e=.no:=fun j e h=>by
  rw[dr OK h Â];cases q:fr[j]? with
  | none=>rw[xb]
  | some o=>
   rw[q]at h;cases o with
   | none=>cases h;rfl
   | some i=>cases h;rfl
 refine⟨aPt,aPt,fun j k a d d' f h2 e1 e2=>(eZ (c j _ f)),aPt,?_,?_⟩
 ·rw[bd5]
 ·exact⟨fun a b=>Te a (aaw aN b (Bm b)),zK,yH a b,yH a b,R.cV.om⟩
theorem bKD{a:YO}(S:KB N')(hc:bG)(P:ayw)(B:aPx)(E:aPw IV iter)
  (hG:QN b e f N' IV MJ) (he:∀δ' r,a δ'=Û->Yj b e f N' (Tm δ' r))
  (h:(YJ ri fun n c=>beh)=ý):aPs []:=by
 cases u:ri with
 | none=>rw[ŉ u]
 | some q=>
  rw[Κ u (E q u)];refine⟨_,_,_,A,(fun C b e f fp=>bFc),(bei b e f (a p.1)),?_⟩;cases q with
  | ok n c=>
   rw[Mf l beh ý h]
   ·rw[Φ l]
    ·rw[fM m (đ rfl ml m),ax br9 l]
     ·cases l
     ·rw[ľ (CD xs N l) aPv];have w':Wk X.D J n (buG O [] .č) (btR O [] .č) H1:=MK (Wk X.D J n (O++[]) (O++[]) H1) (Ĉ aN w);have F:Hid O [] H H:=(R.buP fr).cV;refine bef (O:=O) (W:=[]) w' F iU ((cN).buP fr) bee (aoP Ă) N s1 (ń d L U g) bed (fun v H' s' g'=>p v H' s' ?_)
      ·cases o:RI (ahs [])with
       | none=>rw[Ī o g g]
       | some δ'=>
        rw[bec];cases L with
        | skip=>exact aPu
        | item x=>exact M x rfl I zK
      ·rw[beb []]
      ·show zS (bA O H') _ v;rw[AY (Got.č g' (F.mono s')) aN]
    ·cases l
   ·rw[beg l]
    ·cases l
    ·rw[CD xs N l,q5 aPv (bef w Tk m.1 ((cN).inner fr P) bee (aoP Ă) N s1 (ń d L U g) bed p)]
     ·cases o:RF with
      | none=>rw[Ī o g g]
      | some δ'=>
       rw[bec];cases L with
       | skip=>exact aPu
       | item x=>exact M x rfl I zK
     ·rw[beb W]
theorem bKE{f:YO}{l:ē->KJ}(S:KB N')(hc:bG)(I:ayw)(F:aPx)(L:aPw IV iter)
  (hG:QN a b e N' IV MJ) (he:∀δ' r,f δ'=Û->Yj a b e N' (Tm δ' r))
  (Y:∀δ' r,l δ'=Û->∀C a b e fp,PT (agA N' C a b e) n (aj7 δ' r))
  (h:(a73 ri z jr ayA)=ý):aPs [n]:=by
 cases o:ri with
 | none=>rw[ŉ o]
 | some q=>
  rw[o]at h;refine⟨_,_,_,(L q o),(fun C a b e fp=>VP.any (ι:={p:ē×Rt // l p.1=Fb}) (t:=fun k=>aj7 Hb Ha) fun k=>bFd (Y Hb Ha k.2 C a b e fp)),
   (bei a b e (f p.1)),?_⟩
  cases q with
  | ok z c=>
   have y:(İ (c=cJ\/Ū<jr) none (aEI (OL (fun d=>Ź RF δ' ayA) z)))=ý:=h;rw[Φ y]
   ·cases y
   ·rw[beg y]
    ·cases y
    ·rw[CD xs U y,q5 aPv (buN w Tk m.1 ((cN).inner fr I) (fun i L=>ı (buO (F i L))) (aoP Ă) U s1 (ń d M Z s) (fun d x Z s δ' B E H2 s2 R2 K hK=>?_) p)]
     ·cases B:RF with
      | none=>rw[Ī B s s]
      | some δ'=>
       rw[gb B s (mj g (ayA=ā M) s (τ δ' (fun E H2 s2 R2 K P N=>?_))),ax ahb g]
       ·rw[aj6 q ⟨Tn δ' aPz q,O,W,R2,Ĝ A u⟩];cases M with
        | skip=>exact aPu
        | item x=>exact N x rfl A u
       ·rw[fW q g];exact⟨Tn δ' aPy q,O,W,R2,fun A u=>P rfl A u⟩
       ·cases g
     ·rw[B]at s;have g:ayA=aha:=s;rw[ax ahb g]
      ·rw[bej W A u g3 (hK v A u (g3.f6 (R2.cV.mono u) e2))]
      ·cases g
      ·cases g
universe E_
universe L2
namespace L2
open PySem PySem.Spec PyProof.Rows
theorem Inv.OS{ch:Ň}(I:Ζ)(k:∀b o,PF->asa)(g:afr ch a H):ae4 H:=by
 have f:∀b u,aeM->PF:=fun b u e z=>aj8 (g b z).1;refine a3P ch j d
  (bj d ⟨o,PJ d e⟩) EU (JB e e) EU (Ĝ m i) (Bb u) JO
 ·obtain⟨_,x,_,w,p,l⟩:=g b j;exact⟨w,x,p,l⟩
 ·rw[lT o y A h r i o y A (k _ o a3L h) r]
 ·rw[a3O]
  ·rw[a3N]
  ·exact f c _ z
def AU(t:Bool)(K:ĝ)(H:Hp)(a:Addr)(xs:Ŕ):Prop:=Ρ t ă JW true (yq K)
theorem ũ.vp{K:ĝ}(e:Ú b)(h:To t):AU t K b a xs:=by
 cases t
 ·exact e.seq h
 ·exact e.aoI h
theorem Inv.vp(I:qZ)(h:aPA xs):∃b:Œ,A6 b/\Yr t a afg:=by
 cases t
 ·rw[gc (RX b d p h) b d asG]
 ·rw[gc (tW b d p (pq h)) b d p]
theorem Inv.aZp(I:vG)(h:aPA xs)(d:aPA c):xs=c:=by
 cases t
 ·exact I.bqN h d
 ·exact I.bqO h d
def aFS(t:Bool)(h:Heap)(ia la:Addr)(k:Nat):Prop:=Ρ t ă (aIJ ia la k) true (aIK ia la k)
theorem ad0(p:aj9 b a k)(q:aKN):aKL k h:=by
 cases t<;>exact agI
theorem ad1(p:aKL k h):aj9 b a k:=by
 cases t<;>exact p.1
theorem aFT(p:aj9 a b k)(e:Xp a (c.get? a)):aFS t c a b k:=by
 cases t
 ·exact Heap.IsListIter.at p e
 ·rw[gC o z r p o (e o z) r]
theorem aFU(p:aj9 a c k):∃o b,EI/\iu=o8 b:=by
 cases t
 ·rw[aPB]
 ·rw[aPB]
theorem aXq.lt(p:aKN):a<o7:=by
 cases t
 ·rw[fC o e p,o_]
 ·rw[fC o e p,o_]
def aZq(K:ĝ)(t1 t2:Bool)(a b:Addr):It:=
 ⟨fun i H=>∃xs ys x y,To t1/\aPC/\yc/\ŋ ys y,
  ayC (∃p v u,x=eU/\js/\(∀xs,To t1->nH xs)/\(∀ys,aPC->ŋ ys u)/\H'=ayB v u),
  fun i H=>∃xs ys,To t1/\aPC/\(aP<=i\/auc<=i)⟩
theorem bKF{P:aB}{w:ņ}{K:ĝ}{k:Nat}{pos:Pos}{z TI TO A r l1 l2:Addr}(Q O:Bool)(D:ZipApart z TI TO A r l1 l2) :
  bep (aZq K Q O l1 l2) ayD z (fun i h=>IsZip h z TI TO Ġ/\wC h TI (ċ A) (ċ r)/\(∃a b,wC h TO a b)/\aFS Q h A l1 i/\aFS O h r l2 i) where
 mem:=Ğ
 obj:=fun i h st b f=>by
  rw[ayE,Ck f,aka f]
  ·exact Hc B q
  ·exact Hc g q
  ·exact Hc j q
  ·rw[ayF xs e (aFU F) q]
  ·rw[ayF xs e (aFU C) q]
 keep:=fun i h h' st q=>by rw[ayE];exact⟨q z Ğ _ B,q TI Ğ _ g,⟨a,Z,q TO Ğ _ j⟩,aPJ F A,aPJ C r⟩
 item:=by
  rw[ben,ayE,Ø xs ys x y S R U hy hg,gp bem (aJ u hu ru (rv.get U) u2 b0 a0 (J.get hy)) (next_item D (adp Q D.l1i1) (adp O D.l2i2) B g j (ad0 F p) (ad0 C p2) (x:=u) (y:=u2) (Ł hu) (Ł b0) fun h' a1 a2 a3 a4 a5 a6 Y=>QU)];refine wpAny_letOwnedTupleGo_zip a1 (ġ L a9 l);have N:Ģ≠z:=vT (cX B);have keep:∀b o,b∉ayD->aaD (L.get? b):=fun b o f e=>
   KH akb bel
  have I1:W_ m (fE L):=aPI keep W;have hn:aQ Ģ:=By;rw[beo f5 hn];have I2:eT m σ (afP aPH) (fE L):=aPG hn h0 f5 hq
   (aPF u u2 ru a0 (KH N a5))
  refine⟨dm,_,I2,rfl,⟨_,x,y,rfl,hn,l_ bKG e (I.aZp e S) U,l_ bV0 e (I.aZp e R) hy,rfl⟩,
   ⟨a9,KH D.TIz (Y _ _ D.TIz D.TITO D.TIi1 D.TIi2 g),⟨_,_,KH D.TOz a2⟩,aFT (ad1 a3) (zq (KH D.i1z e)),aFT (ad1 a4) (zq (KH D.i2z e))⟩,Ĝ b f⟩
  have lt:∀b∈ayD,b≠Ģ:=fun b f=>by
   rw[Ck f,aka f]
   ·exact iz N
   ·exact vO g
   ·exact vO j
   ·rw[aPE F]
   ·rw[aPE C]
  rw[aK (lt b f)];exact(W b f).1
 done:=by
  rw[ben,ayE,aT xs ys S R U hg bem,Ĕ e1 auf e2 CZ];refine bFn (iB hc) D (adp Q D.l1i1) (adp O D.l2i2) B g j (ad0 F p) (ad0 C p2) (by
   rw[vX U]
   ·left;rw[nX]
   ·right;rw[nX]) fun h' Y=>aPD ayD f bel W
 self:=J6 (bek st.1 h)
theorem aZr:∀(b a:Ħ),Ą (sX b a)=min iH ad
 | [],a=>bg sX
 | _::_,[]=>bg sX
 | x::b,y::a=>by rw[sX,ŀ,aZr b a,ŀ,ŀ];omega
theorem buQ:∀{b a:Ħ} {i:Nat} {d:DV},uB (sX b a)->∃x y,lV b/\ŋ a y/\d=aPH
 | [],_,_,_,h=>bes
 | _::_,[],_,_,h=>bes
 | x::b,y::a,0,d,h=>by simp[sX]at h;exact ac x y rfl h.symm
 | x::b,y::a,i+1,d,h=>by rw[sX,ber]at h;simpa using buQ h
theorem buR:tN (aaE (YF d)) (aaE c):=by
 rw[ayG d a]
theorem bKH:tN (aaE (YF a)) (aaE a):=by
 rw[ayG a d]
theorem buS:tN (L4 (YF d)) (L4 c):=by
 rw[ayG d a]
theorem bKI:tN (L4 (YF a)) (L4 a):=by
 rw[ayG a d]
theorem Wk.zip(h:AU A D.K (bA m f) a xs)(r:Tc j f)(l:AU w D.K (bA m f) b c)(k:wU (bA j f) es c):Wk D (aZq D.K A w a b) (sX ds es) m j f where
 go:=fun i H s O=>by rw[uG aZr O ⟨xs,c,bet,c[i]'(Ä k.length),Hd h,Hd l,Õ _,Õ _⟩]
 same:=fun i H x R y=>by obtain⟨p,v,u,_,g,_,_,e⟩:=y;rw[Ĉ e (gP g)]
 AJ:=fun i H x R d Q s L y e B=>by
  rw[Ø p v u ex g K J P y,fj (aT d1 d2 N M rfl (buQ e) (aJ v1 I F (yD N) v2 E C (k.get M))) o (K xs (Hd h)) n (J c (Hd l)),Ī I o (o),Ī E n (n)];subst P;refine ai9 p _ ex ((B p z).1 g) ?_;have q:ũ _ (bA Q (ayB v u)):=Ų (aZj L B) (gP g).wo;exact lj (F.mono q) (wT (C.mono q))
 stop:=fun H s=>by refine⟨xs,c,Hd h,Hd l,?_⟩;rw[aZr,Á,k.length];omega
theorem bKJ{b:Nat}(ha:a<n)(hb:b<n):ZipApart (n+4) (n+2) (n+3) n gB a b:=by
 constructor<;>(show agy _ _)<;>omega
theorem bKK(U:Gl X rA)(S:zU rA)(W:PA X aj3 y)(hs:fX)(o:mF e'=ă) :
  aaF aZs (xg rA aj3) (fun m H R=>y m H fun x l=>∃f d a b,x=[Ŝ,mr]/\(∃w,AU f X.K l a w)/\(∃v,AU d X.K l b v)/\R (aZq X.K f d a b) l):=by
 rw[aft g m U S boot_zip (W pos g s m H _ I h) x l j M N (Ń zX) (aFK [e'] (bg o))];obtain⟨f,d,a,b,Y,⟨w,Q⟩,⟨v,P⟩,q⟩:=N;rw[ş Y (ĩ u u' rfl L n M.two)];cases L;rw[ľ (Ţ n (aJ O rv p1 (j.vp Q) z K p2 (j.vp P))) (bFr f d p1 p2 fun h' r J F E C z6 B=>?_)];refine bek r ⟨iV+4,[iV+4,iV+2,iV+3,iV,iV+1],_,_,l,rfl,(j.kept B),
  bKF f d (bKJ p1.lt p2.lt),⟨r,J,⟨_,_,F⟩,ad1 E,ad1 C⟩,Ĝ c A,q⟩
 have i:iV<=c:=by
  simp[uH,Mv,S7]at A;rw[aka A]
  ·exact akc
  ·exact akc
  ·exact akc
  ·exact Ķ
  ·exact akc
 exact j.u_ i (aJq i)
theorem aZt(k:K5=mZ t ds)(g:Ti f d c v)(e:fT f):nZ b (AU t D.K ayr a b) (Sq b):=by
 rw[FR d k]
 ·exact g.buI e
 ·exact g.buH e
theorem bKL(L:Gl X rA)(K:zU rA)(hs:fX)(i:mF m=ă)(N:jK o)(M:fV rb m)
  (h:bU (za o c rb c' (aLh c'))=BB):aaF g (xg rA [e,m]) (Tj n):=by
 cases f:o with
 | none=>rw[ŉ f]
 | some q=>
  rw[Κ f (N q f)];cases q with
  | ok dx cx=>
   cases d:rb with
   | none=>rw[ŉ d]
   | some q=>
    rw[wY d (M q d)];cases q with
    | ok dy cy=>
     rw[jJ l (bU (aXI dx dy cx cy)) n aXI]
     ·rename_i F bV1 E bV2 J I;cases l;exact((fun C z (Q:fH C) (P:PE X m z)=>bKK L K (lI Q (lI P xQ (bf i)) zX) hs i) _ _ A B).weak fun σ H R' ee=>⟨O,W,R,fun x H1 s1 U=>⟨O,W,cN,fun y H2 s2 S=>by
       have hd:=L_;rw[aT a w Z u Y (aZt J (U.mono s2) hd) (ĩ b v s j r (aZt I (S.since s1) hd))];refine⟨F,E,a,b,ŷ Z s,⟨w,ayH u⟩,⟨v,ayH j⟩,SQ H2 (.zip ((mW buR).vp u) (Y.mono (mW buS)) ((mW bKH).vp j) (ai8 (mW bKI)))⟩⟩⟩
     ·cases l
universe L2
namespace L2
open PySem PySem.Spec PyProof.Rows
section
variable {P:Program} {w:World} {A:Around} {E:Value->Shared->Prop} {s:Shared} {n c l:Addr} {k:Nat} {vs:Array Value} {S:Nat->Heap->Prop} {x old:Value}
abbrev buT(s:Ĭ)(h':Heap)(n c:Addr)(k:Nat)(x:ě)(S:tV):Prop:=
 aPK h' Ģ/\S ŕ h'/\vE Ģ=ā (EJ aC #[eX f_,x]) /\ aip=wa/\(∀b o,b≠n->b≠c->asa)
theorem bKM{Q:cF}(R:aPO)(X:aPN)(hS:agH)(hx:auk)(J:n≠c)(d2:l≠n)(hQ:∀h',buT s h' n c k x S->Q dm (ayK h')) :
  a7n (Builtin.«enumerate.__next__» ⟨[ċ n],[]⟩) Z:=by
 rw[aT f i j a h s (KF n 2 _ (yQ X qM (ĵ (R.step k x hS hx (ġ m r1 r)))))]
 replace r:RU c f m:=r
 have W:aaH m n c k old:=lW r n J X;rw[KF n 3 aPM (yQ W (pI k) ?_),gq (BM (KF n 4 aPM (yQ W Ġ ?_)) _ (mkInt k) aPM (wpAny_mkInt ?_)) (KI _ (beu 3 (pI ayJ)) (akd m)) (yO W I U q),BM (aPL q m I U old) _ (beu 4 Ġ) (akd I) (yO U d O p),BM (aPL p I d O old) _ (aid [eX a,x]) (akd d) (aun ?_)];have C:aaH aaG n c ayJ old:=aw O;have K:d.objs.size=yN:=by rw[p.1,q.1,r.1]
 have q4:(aaG).get? yN=ā (EJ aC #[eX a,x]):=ŗ K cw;have z4:gQ aaG=yN+1:=ŷ nE K;have k4:∀b o,b≠n->b≠c->f.get? b=ĕ->(aaG).get? b=ĕ:=fun b o g b2 e=>
  aw (QR b o g (QQ b o g (agL b o b2 e)))
 have r4:S ŕ aaG:=
  R.keep _ _ _ (R.ext (R.ext r1 QQ (iz J) d2) QR (iz J) d2) (zq Zz) (zq Zz)
 generalize aaG=g4 at C q4 z4 k4 r4 ⊢;have lt:n<yN:=cX X;rw[KI _ (aur (ċ n)) (akd g4),K];rw[a7q C];rw[auq,k7 (Ym (yQ C old (ĵ (yO C H N B)))) (aPL B g4 H N x),KI _ (aKB (ċ n) (ċ yN)) (akd H),FQ (hL aKB (yO N Y M z))]
 replace z:RU n H Y:=z
 replace M:aPK Y yN:=M
 refine yO M F L y
 replace y:RU n Y F:=y
 replace L:aPK F yN:=L
 have u:∀b o,b≠n->g4.get? b=ĕ->F.get? b=ĕ:=bj g (y.extBut b o g (z.extBut b o g (B.extBut b o g e)));exact ayI (Å (τ _ (hQ F ⟨L,R.keep _ _ _ r4 (zq (u _ o (iz J) e)) (zq (u _ o d2 e)),u _ _ (vT lt) q4,by rw[y.1,z.1,B.1,z4],fun b o g b2 e=>u b o g (k4 b o g b2 e)⟩)))
theorem bKN(R:aPO)(d:aPN)(f:agH)(e:auk)(i:n≠c)(h:l≠n)(g:∀b,buT s b n c k x S->Q (yR Ģ) (ayK b)) :
  aux n:=by
 have T:Yp n r_:=dY d;rw[t_ FM (ĵ (bev (bKM R d f e i h fun b a=>Å (g b a))))]
theorem bKO(i:dh)(R:aPO)(a:aPN)(m:agH)(h:lS vs k)(p:∀b,FO c b->pG none b) :
  aux n:=by
 have T:Yp n r_:=dY a;rw[BM (hL FM (bev ?_)) _ (field _ 2) _ (KE a rfl rfl (ĵ (R.stop k i m h (ń g1 e d j)))),gj o g f j (ĵ (agN (cY g f) auy (Å (p _ d))))]
universe E_
open AutoSeq1 (wpAny_loadPart') in
theorem bKP(l:Addr)(vs:Array Value)(m:Nat)(dc:Option Addr)(sl:Array (Option Value)):Meets (Builtin.«enumerate.__new__» ⟨[.type "enumerate",.ref l],[]⟩) (fun ζ R s=>s.heap.get? l=some {cls:=.type "tuple",dict:=dc,data:=.seq vs m,slots:=sl} /\
  R (.ok (.ret (.ref (adq s.heap true l).objs.size))) {s with heap:=(adq s.heap true l).push {cls:=.type "enumerate",data:=.fields #[.none,.bool false,.ref s.heap.objs.size,rawInt 0,.none,.none]}}):=
 .of_wp fun P w A R s h=>by
  obtain⟨g0,gg,gd,gt,go⟩:=s;obtain⟨q,h⟩:=h;have bFq:=sub_enumerate;have qT:Heap.IsTuple (Shared.heap ⟨g0,gg,gd,gt,go⟩) l vs:=⟨_,q,rfl,m,rfl⟩
  wp_walk using wpAny_loadPart' q
  refine wpAny_stack_any fun st=>wpAny_pure ?_;split
  ·rename_i y _ _ _ _ _;cases(y==Value.type "enumerate")
   ·wp_walk using wpAny_loadPart' q,wpAny_pyIter_tuple qT
    exact⟨_,rfl,h⟩
   ·wp_walk using wpAny_loadPart' q,wpAny_pyIter_tuple qT
    exact⟨_,rfl,h⟩
  ·wp_walk using wpAny_loadPart' q,wpAny_pyIter_tuple qT
   exact⟨_,rfl,h⟩
theorem bKQ         (t : Bool) (q : Yr t l vs)
  (h : ∀ a, aaH a (Ģ + 1) Ģ 0 Ġ -> sK t Ģ l vs 0 a -> a.objs.size = Ģ + 2 -> (bex awj) -> Zw (Ģ + 1) aMk) :
  J4 (call (Ì r_) [pE]) := by
 cases t with
 | ă => exact call_enumerate_list (q) fun a z x v k => h a z ⟨x, Heap.IsList.at (q) fun o e => k _ o e⟩ v k
 | true =>
  obtain⟨⟨y, u, r, n⟩, p, d, m, c⟩ := id (q)
  replace d : y = aiu := d
  replace c : r = .seq vs m := c
  subst d c;refine callType_new F.called_enumerate Đ (F.typeCall_enumerate_1 _) (F.newCall_enumerate_1 _) (fun f => F.args_object_init_2 f _) F.entry_enumerate_new (bKP l vs m u n) ⟨p, ?_⟩;have g : gQ aPP = Ģ + 1 := ags;have i := XJ aPP (o := bew) rfl;have j : bex ((rB aPP bew).get? b) := fun b o e => ry e;rw [g] at i;show _ /\ _;rw [g];exact ⟨⟨_, i, rfl⟩, h _ i (aXt Yg q j) (by rw [nE, g]) j⟩
universe L2
namespace L2
open PySem PySem.Spec PyProof.Rows
def aZu(K:ĝ)(t:Bool)(a:Addr):It:=
 ⟨fun i H=>∃xs x,To t/\yc,
  ayC (∃p v,x=eU/\js/\(∀xs,To t->nH xs)/\H'=ayB ĭ v),
  fun i H=>∃xs,To t/\aP<=i⟩
theorem bKR{K:ĝ}(t:Bool)(d1:n≠c)(d2:l≠n)(d3:l≠c) :
  bep (aZu K t l) [n,c] n (fun i h=>(∃f,aaH h n c RV f)/\aj9 c l i) where
 mem:=Ğ
 obj:=fun i h st b g=>by
  rw[ayM,Ck g,Lv g]
  ·exact Hc m q
  ·rw[ayF Y e (aFU r) q]
 keep:=fun i h h' st q=>hZ ayM (Į ⟨f,q n Ğ _ m⟩ (aPJ r c))
 item:=by
  rw[bez,gp (gX ayM Y x A M Q) (aJ L J p (I.vp A) u hu ru (J.get M)) (bKN (adp t d3) m (ad0 r p) (x:=u) (Ł hu) d1 d2 fun h' a=>QU),ľ (ĩ a1 a2 a3 a4 a5 a) (wpAny_letOwnedTupleGo_enum a1 (ġ U O F))];have z:Ģ≠n:=vT (cX m);have keep:∀b o,b∉[n,c]->aaD (U.get? b):=bj g (aPQ ayL (a5 b o ayL ayL e));have I1:eT j C H (ayK U):=I.OS (t':=f_+1) keep B;have y:aQ Ģ:=By;rw[beo W y];have I2:eT j C (afP (Ē [ĭ,x])) (ayK U):=aPG y h0 W hq
   (aPF (ĭ f_) u ce ru (aPQ z a3))
  refine⟨dm,_,I2,rfl,⟨_,x,rfl,y,l_ bKG e (I.aZp e A) M,rfl⟩,Tn _ (Ł O) (aFT (ad1 a2) (zq (aPQ (iz d1) e))),Ĝ b g⟩;have lt:b≠Ģ:=by
   rw[Ck g,Lv g]
   ·exact iz z
   ·rw[aPE r]
  rw[aK lt];exact(B b g).1
 done:=by
  rw[bez];rw[ayM,Ŷ Y A M Q (Ė L J p (I.vp A))];have e1:=CZ;exact bKO (iB Z) (adp t d3) m (ad0 r p) E9 fun h' a=>aPD [n,c] g (a b o ayL e) B
 self:=J6 (by obtain⟨⟨f,m⟩,_⟩:=st;exact bey m h)
theorem aZv:∀(k:Nat) (a:Ħ),Ą (i7 k a)=ad
 | _,[]=>rfl
 | k,x::a=>by rw[i7,ŀ,aZv _ a,ŀ]
theorem buU:∀{k:Nat} {a:Ħ} {i:Nat} {d:DV},uB (i7 k a)->∃x,lV a/\d=Ē [cn (k+i),x]
 | _,[],_,_,h=>by simp[i7]at h
 | k,x::a,0,d,h=>by simp[i7]at h;exact τ x h.symm
 | k,x::a,i+1,d,h=>by rw[i7,ber]at h;rw[gC y c b (buU h) y XX (ŷ b (show k+1+i=k+ö from Ě))]
theorem Wk.enum(h:AU t D.K (bA k c) a xs)(r:Tc j c):Wk D (aZu D.K t a) (i7 0 ds) k j c where
 go:=fun i H s u=>by rw[uG aZv u ⟨xs,bet,Hd h,Õ _⟩]
 same:=fun i H x A y=>by obtain⟨p,v,_,b,_,e⟩:=y;rw[Ĉ e (gP b)]
 AJ:=fun i H x A d O2 s o y e g=>by
  rw[Š p v ex b n w y,aJ d1 q rfl (buU e) v1 m l (yD q)];have f:=n xs (Hd h);rw[W8 m,fG w (eS (ai9 p _ ex ((g p z).1 b) ?_) (lj (aFw.mpr (Ń p_)) (wT (l.mono (Ų (aZj o g) (gP b).wo)))))]
 stop:=fun H s=>⟨xs,Hd h,cH aZv Á Ķ⟩
theorem aZw(h:a<n):n+1≠n/\a≠n+1/\a≠n:=Ě
theorem bKS:axT r_ = ā (Ì r_):=ĸ
theorem bKT(E:Gl X r_)(C:zU r_)(F:PA X [e] o)(hs:fX) :
  aaF aZs (xg r_ [e]) (fun i H R=>o i H fun n g=>∃t a,n=nB/\(∃m,AU t X.K g a m)/\R (aZu X.K t a) g):=by
 rw[aft b i E C bKS (F pos b s i H _ I h) n g f y z (Ń zX) (aFK [] Ğ)];obtain⟨t,a,J,⟨m,B⟩,q⟩:=z;rw[ş J (Ė u rfl x y.one),Ţ x (Ė A rv p1 (f.vp B))];have j:=p1.lt;refine bKQ t p1 (Ý h' l w z6 v);refine bey l ⟨iV+1,[iV+1,iV],_,_,g,rfl,(f.kept v),
  bKR t (aZw j).1 (aZw j).2.1 (aZw j).2.2,(Tn _ l (ad1 w)),Ĝ c r,q⟩
 have d:iV<=c:=by
  simp[uH,Mv,S7]at r;rw[Lv r]
  ·exact akc
  ·exact Ķ
 exact f.u_ d (f.Ν.fresh d)
theorem bKU(u:Gl X r_)(s:zU r_)(j:fX)(v:jK i)
  (h:bU (aY i a72)=ā g):aaF d (xg r_ [e]) (Tj g):=by
 cases b:i with
 | none=>rw[Sw]
 | some q=>
  rw[Κ b (v q b)];cases q with
  | ok C F=>
   rw[jJ f (bU (aXH C F)) g aXH]
   ·rename_i o E r;cases f;exact((fun n (w:fH n)=>bKT u s (lI w xQ (bf j)) j) _ A).weak fun σ H R' ee=>⟨O,W,R,fun x I s1 y=>by
     rw[lT a m B l z (aZt r y Ι) o a (Ń B) ⟨m,ayH l⟩ (qo I (.enum ((mW buR).vp l) (z.mono (mW buS))))]⟩
   ·cases f
universe L2
namespace L2
open PySem PySem.Spec PyProof.Rows
theorem ints_get(h:Gu l a):∀i,i<ad->∃t,Q_ Ġ=ć (a.getD i 0) t:=by
 induction h with
 | nil=>intro i b;exact aaf b
 | cons n t _ c=>
  intro i b;cases i with
  | zero=>exact aW t
  | succ i=>exact c i (Ł b)
theorem Ep(f:E8 a H b)(h:c b=none):E8 a c b:=⟨h,f.2⟩
theorem buV:∀{ks:Ď} {i:Nat},IH ks=true->i+1<jy->BW i 0<=BW ö 0
 | [],_,_,h=>Fm
 | [_],_,_,h=>Fm
 | p::q::r,i,b,h=>by
  have a:bW (aq p q) (IH (q::r)):=b;rw[ĥ,zY]at a;cases i with
  | zero=>exact a.1
  | succ i=>exact buV (ks:=q::r) a.2 (Ł h)
theorem buW{st:SortSt}(I:Ô)(u:aaI D)(r:aaI kS)(i:kS≠D)(n:cC kS=ā (zu a e))(p:ayO D l)(hz:a.size<=64)(hl:Ą aPU<=64)
  (m:nG (arrOf st)=aPT) (j:aiz st)
  (h:∀g c,P8 H g->g.heap.get? D=ā aPS->aPR g):Tp (ksk_tail D ă l (ċ kS) st) P E s:=by
 rw[fR ksk_tail (aU bv (ait n Zy cg)),aU (Ĕ s1 (Cf Ĳ kS akg) d (lW s1 D i.symm p)) (QV ?_),k7 (seqEpoch_at d rfl ?_) m];simp[zt,ro];rw[k7 (ait d cg (nC b_ Bp)) j];simp[aMv,zt,ro];refine Å (QT (I.OS (ch:=[kS,D]) (PD f q) (Ĝ b f)) (ayN d (ű (tu (gM A4 ix us)))))
 ·have k:b≠kS:=fun z=>f (Z' z);rw[(Cf _ D _).2 b (fun z=>f (Ć z akf)),ake k];exact q
 ·rw[z7 f]
  ·exact r
  ·rw[Ĉ (aI f) u]
theorem bKV{X:Cx}{pins:Ã}{σ:St}{H:Hp}{s:Ĭ}{A:bJ}{E:cF}{us:Œ}{kz:Ď}{D kS:Addr}{ix:ė}{keys:jd}{e e1:Nat}{P:lY PySem.Fin}(I:Ô)(fD:aaI D)(fk:aaI kS)(V7:kS≠D)(hk:cC kS=ā (zu keys e))(hD:ayO D e1)(hi:Gu aPW kz)(hlen:Tq=aO)(aoY:aO<=64)(tj:D_ kz=ā ix)
  (h:∀s' c,P8 H s'->ajG D=ā aPS->aPV=aO->aPR s'):Tp (ksk_end D ă C2 e1 (ċ kS) keys) P E s:=by
 have hsz:keys.toList.length=aO:=ŷ aJX hlen;have aFV:keys.size=aO:=by rw[←hsz,fF]
 have item:∀i,(aPX z8 i).2=us.getD i Ġ:=fun i=>by
  rw[au (Ù aPX Lm Ũ) OB (i<aO)]
  ·rw[zj (Lz aFV)];simp[Õ OB]
  ·rw[RM E9,RW];rfl
 rw[O_ ksk_end,mi zt ro];have ep:gM A4 (Ο Tq) us=us:=a9F (bg hlen) h2;by_cases h2:us.toArray.size<2
 ·rw[pw h2 h2,Ę b_ h2 (dr D_ tj aaJ),dr aob tj aaJ,Ţ tj rS,gp StateT.run_pure (t5 rS) (buW (ix:=Ο Tq) (us:=us) (st:=akh general' aPY) I fD fk V7 hk hD Ă (Ä ep) ?_ rfl fun s' c J g=>h s' c J g (bg hlen)),ep];show nG aPY=C2;rw[beE];simp
 ·rw[Ř h2,Ř h2,Ę b_ h2 (ksk_kind hi (Ä aFV)),rS];have ek:aPY=z8:=Ğ;rw[ek,au (bH D_ tj) bV3 (¬aO<64)]
  ·rw[Zg uy tj]
   ·rw[fW nd tj];have zs:(z8).size=aO:=bg aFV;have er:=PySem.W.kas_range z8;rw[zs]at er;have run:=bG0 (prog:=de) (w:=X.w) (A:=A) (E:=yi) (s:=s) (κ:=Tr) (it:=z8) (n:=aO)
     (Q:=fun _ IW s'=>arrOf IW=z8/\aiz IW/\s'=s) Ă (fun i OB C hC=>by
      have eq:=ayP (ayP (ayP (ayP (PySem.W.kat_ask_eq (prog:=de) (w:=X.w) (A:=A) (κ:=Tr) (ks:=aPW) (vs:=us) hsz) ö) i) C) s;rw[←eq,beC ö i Ă Ă,et,eu];refine beB ?_;have:=buV nd (i:=i) Ă;rw[ub];exact hC) (fun IW q1 q2=>cj (q1.trans er) q2)
    have bKW:akh Tr z8=PySem.W.kas_st Tr z8 (aiy aO):=MK (akh _ _=akh _ ((aiy aO).map (aPX z8))) er;have run':Tp (sortRuns'.run (akh Tr z8)) (fun r s'=>arrOf r.2=z8/\aiz r.2/\s'=s) yi s:=(Ć bKW run);rw[ż (lX run' ?_ (j_ e e.elim))];rintro⟨⟨⟩,IW⟩ s' ⟨b2,b3,rfl⟩;rw[ľ bv (beA (Ο Tq) (Ä ep) ?_ (bg hlen)),ep];show beD=C2;rw[b2,beE];simp
   ·cases tj
  have aoY:aO<64:=Ě;rw[Ę aaJ tj (ab (dr aob tj uy) p hp buX (eJ tj))];refine ĵ (lX (PySem.W.kat_run (κ:=Tr) (ks:=aPW) (vs:=us) (Q:=fun IW s'=>aPV=aO/\beD=aPT/\aiz IW/\s'=s) (G:=fun q s'=>q=p/\s'=s)
   hsz Ă aoY (fun q IW s' a1 a2 a3 a4=>?_) (bs2 (n:=Tq) (c:=fun i j=>ü (kz.getD i 0) (kz.getD j 0)) (a:=p) (ES j C OB hj hC) qQ _ (ŗ hlen hp))) ?_ EU)
  ·rw[đ rfl rfl a4];refine⟨af2 buX fF a1,?_,a3,rfl⟩;rw[a2,←buX];apply Array.ext';unfold gM;rw[mi Array.toList_map ų];exact He fun i ζ=>item i
  ·rw[beC i j OB hj,et,eu];exact beB hC
  ·rintro⟨⟨⟩,IW⟩ s' ⟨b1,b2,b3,rfl⟩;rw[bv];exact beA ix (rh (Z7 gM)) b2 b1
theorem bKX{X:Cx}{pins:Ã}{σ:St}{H:Hp}{s:Ĭ}{A:bJ}{E:cF}{vs:Ŕ}{us:Œ}{kz:Ď}{f D kS:Addr}{ix:ė}{e1:Nat}{P:lY PySem.Fin}(I:Ô)(fD:aaI D)(fk:aaI kS)(V7:kS≠D)(hk:ayO kS 0)(hD:ayO D e1)(rv:vL)(hlen:Tq=aO)(aoY:aO<=64)(tj:D_ kz=ā ix)
  (turn:ayQ kz s' H' A aZx)
  (h:∀s' H' c,PQ->pF->Jz D->ajG D=ā aPS->aPV=aO->aPR s'):Tp (ksk_rest D j9 ă C2 e1 (ċ kS)) P E s:=by
 rw[hL ksk_rest (aL4 ?_)]
 first
  | rw[List.forIn_toArray]
  | (rw[←beF,fI aMs])
  | rw[←beF]
 refine ĵ (ksk_fold (fun i s'=>∃H' kA e,PQ/\pF/\Jz D/\Jz kS/\ajG kS=ā (zu kA e)/\ajG D=ā (aaK e1)/\Gu aPZ (kz.take i)) us 0 s
  ⟨H,#[],0,I,QD H,fD.1,fk.1,hk,hD,Ł IntsAre.nil⟩ ?step ?done)
 case step=>
  rintro j x s' hx ⟨H',kA,e,I',sm,nD,nk,gk,gD,hi⟩;simp only[p_]at hi ⊢;have hj:j<aO:=jh hx;rw[Tt k buY kz j Ă];have bKY:j<gR:=Ć auf hj;rw[Tt v hv vs j bKY,rf u hu ru (rv.get hv) hx];have hz:kA.size<=aO:=by have h1:=aJX;rw[fF,mn]at h1;omega
  have Ip:=I'.pinned (fp:=[kS,D]) (fun b hb=>by
   rw[z7 hb]
   ·exact Ep fk nk
   ·rw[ML hb (Ep fD nD)]) (fun b hb=>by
   rw[z7 hb]
   ·exact Hc gk z
   ·rw[aI hb];exact Hc gD z)
  rw[k7 (Zu (BG (turn j v x k hv ru buY _ s' H' Ip sm) y VN he hF hF.elim)) (Š w aZx aZy r rfl bKZ he),ň t rfl r bv,fC qk buZ (aZy.pin _ (aki Α gk)),fC qD bK0 (aZy.pin _ (aki akf gD))];have s1:=Cf VN.heap kS (yF (·.push (eX t)));have ek:kz.take aG=kz.take j++[k]:=by rw[List.take_add_one,buY];simp
  have ea:(kA.push (WK k t)).toList=aPZ++[WK k t]:=Ğ;rw[ľ (ż (ait qk Zy (û (aJf (Array.size_push ..)) Zy))) (Å ⟨rfl,aZx,kA.push (eX t),_,aZy.adj.OS (t':=VN.toks) (ch:=[kS]) (PD hb q) (Ĝ b hb),Ts bKZ,bK0,buZ,ayN qk (·.push (eX t)),lW s1 D (iz V7) qD,cH ea ek (ksk_snoc hi)⟩)]
  ·rw[ake fun z=>hb (Z' z)];exact q
  ·rw[ML hb (Ep fk buZ)]
 case done=>
  rintro s' ⟨H',kA,e,I',sm,nD,nk,gk,gD,hi⟩;have OB:Gu aPZ kz:=(aaw (aiF Ă) hi hi);rw[ż (awr gk rfl ?_)];exact bKV I' (Ep fD nD) (Ep fk nk) V7 gk gD OB hlen aoY tj fun s2 c J g hl=>h s2 H' c J sm nD g hl
theorem bK1{X:Cx}{pins:Ã}{σ:St}{H:Hp}{s:Ĭ}{E:cF}{vs:Ŕ}{kz:Ď}{f:Addr}{ix:ė}{a:Addr}{Q:VK}(I:Ô)(hq:JX vs)(hlen:Tq=gR)(aoY:gR<=64)(tj:D_ kz=ā ix)
  (turn:ayQ kz s' H' X.A.in1.in1 aZx)
  (h:∀H' q,pF->Jz q->FE q H' (au4 vs)):beK qb nB afc E s:=by
 rw[ľ (kU us rv pl zl (nr hq) bV4 auf) (call_function_entry_kw kind_sorted plain_sorted entry_sorted (ksk_s1 _ _) ?_),fR a9u (ĺ (ĵ (m:=checkCount qb 1 1 _) bq) (lZ (collect_list rj ?_ Zy) (awn Zy)))];have hsz:gQ beJ=wa:=(ŷ beG aiq);have aoZ:(ayR).get? jo=ā (zu C2 0):=(ŗ hsz cw);have keep:awq ((ayR).get? b):=yg o (by have ado:b<Ģ:=cX q;rw[beI (Ć hsz (Zq ado)),Heap.get?_update_ne _ _ _ _ (ke ado),beI (ke ado)];exact q);rw[gq (BH _ (fE ayR)) hsz (iC (wpAny_call_entry_kw slot_list_sort (dY aoZ) a9t ?body (ksk_l1 _ _)))]
 case body=>
  rw[ksk_t1,fR ksk_tree (lZ (awr aoZ rfl ?_) (ait aoZ (nC b_ Bp) cg))];generalize bK2:ayR=h1 at aoZ keep ⊢;have bK3:h1.objs.size=Ģ+2:=by rw[←bK2,aiq,hsz]
  have s1:=Cf h1 jo akg;obtain⟨e1,aou⟩:∃e1,(beH).get? jo=ā (aaK e1):=⟨_,ayN aoZ (ű #[])⟩;rw[gp (lZ (seqEpoch_at aou rfl ?_) (aun ?_ (MK (aO<=_) (Θ Bp)))) (ż (awn cg)) (iC ?_)];have bu0:gQ aP1=Ģ+3:=by rw[aiq,beG,bK3]
  have I1:P8 H (fE (rB aP1 (aaK 0))):=aJH (yg o (by have ado:b<Ģ:=cX q;rw[ĺ (ry ?_) (Ĉ (ake (Zq ado)) (keep b o q))]));have fr:∀n,aQ (Ģ+n):=fun n=>pj Ze;refine bKX (kS:=gQ aP1) (D:=wa) I1 (I.u_ yC (fr 1)) (Ć bu0 (I.u_ Ze (fr 3))) (Ć bu0 (vT (Nat.add_lt_add_left Đ _))) cw
   (ry aou) rv Ă Ă tj turn fun s' H' c J sm nD g hl=>QU
  rw[q5 (Å ⟨_,rfl,ċ jo,upd H' jo (.lst (au4 vs)),?_,rfl,h H' _ sm nD⟩) (J.Oy nD ?_ aP0.2.1 (lQ aP0.2) aP0.2.2.2.2.2 ⟨by rw[iG gM Ċ hl Bp];omega,aPU,c,rv.gM ix,g⟩)];exact W4 (û I.sz yC)
universe L2
namespace L2
open PySem PySem.Spec PyProof.Rows
theorem bK4{p:Ď}(hh:dh)(b6:wm=gR)(a5:l≠J)(Q:S≠J)(bV5:l≠S)
  (turn:ayQ p q n rC b5)
  (hR:∀i v u q n,X0->cu->beX->ayT q->Ú n->Yq u q) :
  ∀(r j i:Nat) (q:Ĭ) (n:Hp) (U:ě) (v:V) (tb:Tok) (c:Nat),gR - aG=r->j+1<=gR->ayT q->Ú n->E8 g n S->E8 g n J->Qz n l vs ->
   q.heap.get? S=ā (zu #[U,ć LB tb] c)->q.heap.IsListIter J l aG->X0->RelV v U->i<=j->(∀y,y<=j->LB<=MM y/\(y<i->LB<MM y)) ->
   Qe de X.w A (ja "min.loop" ⟨[ċ J,v5,ċ S],[]⟩) R q:=by
 rw[beW];intro r;induction r with
 | zero=>
  rw[beV,beU];rw[gq beS ail (akj (W.done _ _ _ ⟨cH b_ (ź (aO=j+1)) P,rj⟩ (ġ h1 B hk))),BM (Ĕ E beR s1 (Cf h1 S akg)) rC (updateSeq S (ű #[])) _ (aik E (ayI bq))];have I9:ayT (Bq q (h1.update S akg) B):=by
   refine I.OS (t':=B) (ch:=[J,S]) (PD d e) (Ĝ b d)
   ·rw[ake fun z=>d (BD z)];exact hk b o (fun z=>d (BD (aI z))) e
   ·rw[z7 d]
    ·exact fJ
    ·rw[Ĉ (aI d) Z]
  exact hR i v U _ n hv rv (fun y a7=>m y Ă) I9 sm
 | succ r ih=>
  rw[beV,pK O (j+1<gR) beU,beT beS ail aG P B b2 (j+1),kU oJ a4 a3 N (id b2.1) E beR,Tt v1 M vs (j+1) O,rf u' a1 a0 (ru.get M) hu,Tt K a6 p (j+1) Ă];have a9:MM aG=K:=gx Ũ a6;have I1:ayT (Bq q h1 B):=I.OS (ch:=[J]) (bj d (hk b o d e)) (l_ b d (aI d) fJ);have Ip:=I1.pinned (fp:=[S,J]) (fun b d=>by
   rw[z7 d]
   ·exact Z
   ·rw[Ĉ (aI d) fJ]) (fun b d=>by
   rw[z7 d]
   ·exact Hc E z
   ·rw[gc (aI d) _ a4 beQ])
  rw[aU ail (akj (iC (BG (turn aG v1 u K M a0 a6 _ _ n Ip sm) x s2 he hF hF.elim))),Bo (beP L) Y r2 (ayS qS nS Α E),ayS qJ nJ akf a4];have I3:=I2.adj;have a2:Qz H2 l vs:=L.seq hq;rw[aU ail (akj (iC (ĵ (CmpOf.ints_lt (prog:=de) (w:=X.w) (A:=rC) (fun i=>LB) (L8 v h) aG i _ _ _ _ _ ⟨Y,Ń a9⟩ (aW tb) ?_)))),au (ż (iC (XD (ayI bq)))) a8 (MM aG<LB)]
  ·have s1:=Cf asC S (yF (ű #[u,ć K Y]));rw[beO b4 S K Y];simp only[a8,decide_true,nK];rw[ż (aik qS (ayI ?_)),beM aG u v1 Y c2 (beN S d (d (BD z)) Z) (Ć a9 b4) (lW s1 J Q.symm qJ) M a0 Ķ];by_cases e:y=j+1
   ·rw[beL]
   ·have b1:=(m y Ă).1;rw[Į Ě (ű Ě)]
  ·simp only[a8,decide_false,zt,ro];rw[ż (QV ?_),beM i U v tb c I3 qS qJ hv rv Ă];by_cases e:y=j+1
   ·rw[beL]
   ·exact m y Ă
theorem bK5{p:Ď}(I:jg g)(hh:X.A.handled=none)(hq:Qz H l vs)(P:0<gR)(R:wm=gR)
  (turn:ayQ p s' n Tv a7)
  (h:∀i v n,X0->beX->Ú n->Q v n):beK t4 [pE] (XC g Q) E s:=by
 rw[beW,kU us ru pl zl (nr hq) a1 ru.length];have y:l<Ģ:=a64 rj;rw[ĺ (kmk_tree PySem.F.kind_min PySem.F.plain_min PySem.F.entry_min (kmk_min_key _ _) ?_) (aU (BH Tv s) (agK (a:=[ā j9,none]) rfl (ĵ (t6 (J7 rj (ĵ (awn cg))))))),←ml];generalize hJ:Ģ=J at y;generalize B:ayV auz #[pE,ŭ 0] = g0;have z0:g0.objs.size=J+1:=by rw[←B,aiq,hJ]
 have gS:(aP2).get? Tu=ā (aaK 0):=ŗ z0 cw;have I0:W_ g (fE aP2):=aJH (iy (ŗ B (ry e)));have fJ:E8 g H J:=be0;have fS:E8 g H Tu:=be0;refine Lr ayU ?_;show aKp _ _ (fE aP2);rw[z0];have S:l≠J:=ke y;have C:J+1≠J:=vT (ahY _);have a4:l≠J+1:=Zq y;rw[beZ (I0.list hq) a1 Tv S,beT (BM beY Tv (aKy (ċ Tu)) _ (FP gS rfl ?_)) (KI Tv (tryCatch (aaL J) _) _) 0 (Ys ((by rw[←B,←hJ];exact Yg))) a0 a2 0,kU oJ O a3 N (id a2.1) Y (hk Tu _ (Ł C) gS),Tt v1 r vs 0 P,rf u' M L (ru.get r) hu,Tt q U p 0 Ă];have a6:MM 0=q:=gx Ũ U;have I1:=I0.OS (h':=h1) (t':=a0) (ch:=[J]) (bj m (hk b o m e)) (l_ b m (aI m) fJ);have Ip:=I1.pinned (fp:=[J+1,J]) (fun b m=>by
  rw[z7 m]
  ·exact fS
  ·rw[Ĉ (aI m) fJ]) (fun b m=>by
  rw[z7 m]
  ·exact Hc Y z
  ·rw[gc (aI m) _ O beQ])
 rw[aU (BH Tv _) (akj (iC (BG (turn 0 v1 u q r L U _ _ H Ip GW) x s2 he hF hF.elim))),Bo (beP K) F r2 (ayS qS nS Α Y),ayS qJ nJ akf O,Ĕ I3 I2.adj s1 (Cf asC Tu (yF (ű #[u,ć q F]))),gq (beO a5 Tu q F) (BH Tv _) (aik qS ?_),←ml];refine Lr ayU (bK4 (H:=H) hh R S C a4 turn (fun i v u s' n e1 e2 e3 e4 e5=>⟨v,n,e4,e2,h i v n e1 e3 e5⟩) _ 0 0 _ H2 u v1 F c2 rfl P (beN Tu m (m (BD z)) fS) K (Ep fS nS) (Ep fJ nJ) (K.seq hq) (Ć a6 a5) ⟨oJ,lW s1 J C.symm qJ,a3,N⟩ r L Ķ (Ĝ j' bV6));rw[pK e (j'=0) (Bc e Ě (Lw h h Yi))]
universe L2
namespace L2
open PySem PySem.Spec PyProof.Rows
section
variable {X:Cx} {δ:List Sv} {ea bd:Expr} {pos p lp kp:Pos} {re:Re} {k:Nat} {x:Str} {pr:Arguments} {sc:Scope} {c P:Addr} {m:AK} {cs:List DV} {fr:List Nat} {pins:List (Addr×Obj)} {σ:St} {H:Hp} {s:Shared} {O W:List Addr} {f:Addr}
theorem bK6(I:Ô)(L:aav)(T:ajY)(bK7:ayg=true)(hN:ajX)(bK8:ajW)
  (bK9:MB) (R:aai) (lf:Td H f):si (vm so Ĳ H) d_ j9:=by
 generalize hl:so=l;have Ce:=ayc (sc:=sc) I ax3;rw[ς hl Ce S (T.full I ax3),Ę hl S (Ĩ ws w1 w2 w3 (aFO R bK9)),gp (aOY Ce.same) (bdH arU q1 b z e l O W (Ce.none b hb)) (bdG f bK7 hc)]
 ·rw[bdF bV7 V3]
 ·rw[bdE (Ce.vn c hc) hc]
 ·rw[gX bdD y' q1 q2 q3 (bK8 i _ hj),aOX q1,aOW bLa pf (bLa _ y v q2 hv (ķ q3)) k1 cc]
  ·rw[bdC]
  ·rw[bdB bV8 V8 I.ok,bdA bu1 V8]
theorem bLb{F:Ť}(I:jg h)(lo:aya)(hr:ajL)(hA:A.frames=X.A.frames)(h1:ajP)(h2:ajO)(h3:ajN)
  (L:aav) (T:ajY) (B:ajD h σ (jg h) (∀c∈so,ayd)) (C:aoH m S bd sc=true) (hN:ajX) (x:ajW)
  (E:MB) (R:aai) (lf:adO H S8 S bd sc CQ f) (Z:si H d v) (Y:cu) (hF:yZ [d_,d]=Υ ux) :
  Tp (ats [u]) (XC h (fun w Q=>w=ux/\Ú Q)) yi s:=by
 have Ef:=bK6 I L T C hN x E R lf;generalize U:so=l at Ef;have J:=ayc I ax3;rw[ς U J M (B I),Ę U M (Ĕ same J.same q I.adn)];have e1:a5F A:=⟨hA.trans q.frames,q.mod,q.bs,q.IB,q.sV,q.oR,q.Ν,q.bare⟩;refine Qo (wf (lo A kj s _ [u] [v] (fun v K=>ax5 K/\v=ux) tR n_ f m cs [d] _ hr (aOU J N (M c N) e1) (ai Y .nil) ajU h1 h2 h3 Ef (wT (Z.mono aax)) hF (ayW K g (sf g))) (Qn p))
 ·rw[gC o q1 q2 (R.cV.xY a ha) o (akk q1) q2]
 ·cases r with
  | Bx e=>exact S_ p
  | ok fl=>
   cases fl with
   | ret u=>
    refine I.after (CE.vm J p (fun v K sm z=>⟨z.2,FK⟩) fun v K z=>z.1);rw[aOS (J.none b w)]
   | next=>rw[eW p]
   | brk=>rw[eW p]
   | cont=>rw[eW p]
theorem aZz:∀{b:Ħ} {a:Ď},B3 mm b=aR->ad=iH/\∀(i:Nat) d n,uB b->ŋ a n->yZ [mm,d]=Υ ux
 | [],a,h=>G8 h (cG (fun i d n h=>bV))
 | d::r,a,h=>by
  rw[cM aEM]
  ·rw[v4 n e (CJ l m rfl h (đ j g (aZz m)))];refine⟨aOQ j,Ý i o k f c⟩;cases i with
   | zero=>rw[Ţ f (Ż c e)]
   | succ i=>exact g i o k f c
  ·cases h
def QK(X:Cx)(δ:ē)(F:Ť)(m:AK)(cs:Ħ)(pr:eH)(bd:Expr)(sc:Ξ)(σ:St)(Q:VK):Xc:=fun vs H1=>∃va,vs=[va]/\∀f H2,ũ H1 H2->Ql f->Td H2 f ->
 be1 xs ds ix H2 σ ŧ
theorem bLc(lo:aya)(hr:kF)(h1:ajP)(h2:ajO)(h3:ajN)(hg:Gl X qb)(hm:zU qb)(E:Cr=ă)
  (L:aav) (S:aye=aao) (T:ajY) (N:ayh b d so) (U:ayg=true) (hN:ajX) (B:ajW)
  (Y:MB) (ha:aOZ) (h:(au5 (ā ra) (aEN F d_ x cx))=ý):lr (aP4 qb pos):=by
 have C:bfc qb d (QK X δ F m cs pr bd sc d Q):=fun {ta} A=>by
  rw[gf (bfb d boot_sorted) (bfa E d q1) (Ė va rfl q1 q1)];refine dH (be9 S d H1 (fun ws l=>∃f,ws=[v5]/\Td l f/\be1 r g M l d E4) I1
   (fun f l sm hn lf=>⟨f,rfl,lf,q1 f l sm hn lf⟩)) (ġ ws K B0);rw[be8 l lf g M rl a3 J,be7 a1 a0];obtain rfl:u2=m9 f:=a0;show gY _ (EP X b d Q) X.xe K;rw[pC k1 k2 (aZz hk) (bK1 I2 sq (ŷ k1 akl) (Ć akl a3) J (be6 a2 H') hq),be5 E4 akl hv hd g,rf v' e1 rp (rl.get hd) hv];exact be4 hr.bJ7 N U B Y (lf.mono sm)
 cases ra with
 | ok dx cx=>
  rw[jJ o (aEN F d_ dx cx) re aEN]
  ·rw[ic g o]
   ·rw[G0 z (aJ ks hk o (dz o) M J rfl (eJ o)),be3 d l K lf w,be2];have Z:aP3 g r:=by
     cases cx with
     | č=>exact e3
     | mw=>exact e3
     | weak=>cases z.1
     | top=>exact e3
    refine⟨O,W,a,r,g,ks,M,e1,G' w,gm (K _ _ e2),Z.mono K.wo,z.2,hk,J,fun H' q sm hq=>SO (Ų (w.trans sm) (gP hq)) ?_⟩;exact adS (Mi (w.trans sm)) hq ((Z.mono (K.trans sm).wo).gM M)
   ·cases o
  ·cases o
universe E_
universe L2
namespace L2
open PySem PySem.Spec PyProof.Rows
theorem lH.bLd(r:Kg):V6 k rC:=bdm Kf
theorem bLe(h:KY=aV)(d:c<jy)(h':∀j,j<jy->BW c 0<=YD/\(j<c->BW c 0<YD)):c=i:=by
 rw[on aEO (Ĕ f (axY h) e (axX h))];rw[aP5]at f;simp only[wQ,aP5,ĥ,pL,aX]at e;rw[Ĕ a (e c d) b (h' i f),Zc i c z]
 ·rw[av (b.2 z)]
 ·exact z.symm
 ·rw[av a.2]
section
variable {X:Cx} {δ:List Sv} {ea bd:Expr} {pos p lp kp:Pos} {re:Re} {k:Nat} {x:Str} {pr:Arguments} {sc:Scope} {c P:Addr} {m:AK} {cs:List DV} {fr:List Nat} {pins:List (Addr×Obj)} {σ:St} {H:Hp} {s:Shared} {O W:List Addr} {f:Addr}
def QM(X:Cx)(δ:ē)(F:Ť)(m:AK)(cs:Ħ)(pr:eH)(bd:Expr)(sc:Ξ)(σ:St)(Q:VK):Xc:=fun vs H1=>∃va,vs=[va]/\∀f H2,ũ H1 H2->Ql f->Td H2 f ->
 aP6 xs ds i H2 σ a (0<ŧ) F KY H' v (nH xs) Xa
theorem bLf(lo:aya)(hr:kF)(h1:ajP)(h2:ajO)(h3:ajN)(hg:Gl X t4)(hm:zU t4)(B:Cr=ă)
  (L:aav) (Y:aye=aao) (T:ajY) (U:ayh b l so) (Z:ayg=true) (hN:ajX) (w:ajW)
  (a0:MB) (ha:aOZ) (h:(au5 (ā ra) (aEP F d_ x cx))=ý):lr (aP4 t4 pos):=by
 have C:bfc t4 l (QM X δ F m cs pr bd sc l Q):=fun {ta} A=>by
  rw[gf (bfb l boot_min) (bfa B l M) (Ė va rfl M M)];refine dH (be9 Y l H1 (fun ws o=>∃f,ws=[v5]/\Td o f/\aP6 r q i o l a (0<Tw) F KY J v (nH r) (Q v J)) I1
   (fun f o sm hn S=>⟨f,rfl,S,M f o sm hn S⟩)) (ġ ws s2 B0);rw[be8 o S q ix K a5 E,be7 a3 a2];obtain rfl:u2=m9 f:=a2;show a52 s2;rw[pC k1 k2 (aZz hk) (bK5 I2 hr.hd sq (Ć MN a5) (ŷ k1 MN) (be6 a4 J) (ES v J hv hb sm))]
  ·rw[bfd Tw MN hv hd,rf v' e1 rp (K.get hd) hv];exact be4 hr.bLd U Z w a0 (S.mono sm)
  ·have hi:i<jy:=by rw[k1,←MN];exact jh hv
   have:=bLe E hi fun j hj=>hb j (X7 MN k1 hj);rw[P3 (hq J v sm hv)]
 cases ra with
 | ok dx cx=>
  rw[jJ g (aEP F d_ dx cx) re aEP]
  ·rw[ic q g]
   ·rw[G4 z (ab (aJ ks hk g (dz g) ix E g (dz g)) d hd rfl (eJ g)),be3 l o s2 S N,be2];have a1:aP3 q r:=by
     cases cx with
     | č=>exact e3
     | mw=>exact e3
     | weak=>cases z
     | top=>exact e3
    refine⟨O,W,a,r,q,ks,ix,e1,G' N,gm (MD e2),a1.mono MC,uK cg (jh hd),hk,E,fun J v sm hv=>SO (N.trans sm) ?_⟩;rw[rf v' M q2 (a1.get hd) hv];exact(q2.mono (Z8 sm).wo:si J d v)
   ·cases g
  ·cases g
universe E_
universe L2
namespace L2
open PySem PySem.Spec PyProof.Rows
def aZA(D:Dm)(H0:Hp)(O:Ň)(Dn:Ends):Ž Out
 | ahx=>∀σ H W,jI->aP7->Sn->Dn.nx σ H
 | ayX=>∀v H,Sn->axI H0 H->Dn.rt v H
 | zc s=>∀v H a o,Sn->vj s a o->EH->Cw (jG (O++[a]))->Dn.rt v H
def dS(D:Dm)(δ:ē)(o:Out):TS:=fun Dn σ H=>∃H0 O W,jI/\aP7/\(aw4 (H0 a))/\Sn/\aZA D H0 O Dn o
theorem bLg:nu [] (Hf ahx):=bqQ.weak (qr a H0 b (k a H W R b sm))
theorem bLh{rest:aM}(g:PS X c (Hf (.nx δ1)))(f:nu rest (dS X.D δ1 o)):nu aaM C3:=
 (VG g f).weak (aP8 d h (fun e H' i j b a=>⟨d,O,i,j,b,fo,a,k⟩))
theorem bLi{rest:aM}(b:PS X a (Hf ayX)):nu (a::rest) (Hf ayX):=
 (VG b anO).weak (aP8 c fr k)
theorem bLj{st:Stmt}{rest:aM}(a:PS X st (Hf (zc s))):nu (st::rest) (Hf (zc s)):=
 (VG a anO).weak (aP8 c b k)
theorem bLk(n:aju e c)(r:∀q,l=fN->P6 (Hf q))(p:∀q,j=fN->nu d (Hf q))(h:(avE e (ahl l j))=ĕ):Hg (.If c body d pos):=by
 cases a:e with
 | none=>rw[Sy]
 | some q=>
  rw[ς a h C (n q a)];cases q with
  | ok b=>
   cases b with
   | true=>
    rw[bff (r o f) anO (Ox bfe)]
   | ă=>
    rw[bff anO (p o f) (Ow bfe)]
theorem bLl(w:jK j)(h:(um j c (ā (bsl d c)))=ĕ):Hg (aIx e):=by
 cases f:j with
 | none=>rw[ŉ f]
 | some q=>
  rw[Κ f (w q f)];cases q with
  | ok d cl=>
   have x:=h;rw[zT x ((anN A).weak fun J σ H ⟨I,O,W,R,y,fo,sm,k⟩=>eg (fun v F s1 g=>(k:aZA X.D I O J _) v F ow ?_))];cases l:VZ d cl with
   | ă=>exact g.weak Ι
   | true=>
    rw[ax VZ l]
    ·rw[GO p i E s r n C B g (akm n) C (B.mono (mW fun b m=>by rw[bM m];exact a5t z;exact ť PM))]
    ·rw[Š a i s u r n g];exact⟨a,i,_,s,rfl,y a u,LZ r,n.mono (mW fun b m=>by rw[bM m,Ĉ z (tX u)];exact Bm z)⟩
    ·cases l
theorem OT(h:adK v=ă):asu v t l env=JZ:=by
 rw[ajs v h]
theorem bLm(i:jK b)(f:adK e=ă)(h:(pS b (aLw δ))=ĕ):Hg (.Expr e pos):=by
 cases a:b with
 | none=>rw[Sy]
 | some q=>
  rw[Κ a (i q a)];cases q with
  | ok d cl=>rw[ψ h ((aWW A (OT f)).weak (qr c H0 j (eg (fun v l s1 g=>k c l W cN j ow))))]
theorem bu2:b∈O++p::W↔b∈p::n_:=by
 simp[C4,uH];rw[jF]
 ·rintro(h | h | h)
  ·rw[tU h]
  ·rw[ŝ h]
  ·rw[BC h]
 ·rintro(h | h | h)
  ·rw[tU h]
  ·rw[ŝ h]
  ·rw[BC h]
theorem ao0{l:LG}(h:ĳ (l.set i a) j b)(d:a≠b):Ge:=fun z=>by
 subst z;have e:j<Ű:=axg;rw[Ļ (wV e) h (d (dN h))]
theorem ao1{l:LG}(h:ŋ (l.set i a) b):zh/\a=b:=by
 have d:=axg;rw[Ę (wV d) h (Į d (dN h))]
theorem f7.alloc(R:jI)(s:Ú A)(F:js)(f:A p=ā qR)(r:Tc (p::n_) A)(i:Nat) :
  f7 D A aP9 (Ty ds) O (p::W):=by
 have l:ũ CA (bA (O++p::W) A):=iy (by rw[ň I e (s_ e) (cr (fun z=>by rw[ayZ z];exact S9 F z;exact I z))];exact s b o e);refine bfj (ġ j J h) (fun j k a g d2 U S x w=>?_) (aYX _ aPi) P aPg u
 ·rw[aQa c,Z0 x w j h (w.mono l)]
 ·by_cases c:j=i
  ·rw[ş c (ň Q e (ao1 h) (ψ e ⟨p,xs,ds,rfl,aPj Q,dQ,f,ai8 (mW fun b I=>bu2.mp I)⟩))]
  ·rw[iW c]at h ⊢;rw[GO a B y Z x w Y X (MF J) (ť w) (MO Y) (X.mono l)]
 ·have n:ayu g DV (Ty ds) (.own g) (bfi aP9->(j=i/\a=p)\/(Ge/\avV j g/\bfi σ/\a≠p)):=fun {j g} h e=>by
   by_cases c:j=i
   ·rw[fG c (tH z (ao1 e)),Ż z (ı qQ)]
   ·rw[iW c]at h e;refine ķ ⟨c,h,e,mt⟩;obtain⟨a',B,y,_,N,_,M,_⟩:=MF g;rw[Ī e N N,EV F M M]
  rcases n U x with⟨K,C⟩ | ⟨K,C,z3,z4⟩<;>rcases n S w with⟨L,E⟩ | ⟨L,E,y3,y4⟩
  ·rw[K,L]
  ·rw[Ŗ C y4]
  ·rw[Ŗ E z4]
  ·exact aj4 g d2 C E z3 y3
 ·rw[ayZ u]
  ·rw[z,f,E2 q]
  ·rw[bfh]
 ·rw[bM u]
  ·exact dY (Ć z f)
  ·rw[ayY B a z (MO q)]
 ·rw[bM u]
  ·intro q;exact bfg F
  ·exact Sz a z
theorem bu3(h:ahA)(q:ZZ d):j=i:=by
 rw[dr bsj h wQ,kR (h j (zx (jh q))) q,aaA]
theorem f7.write(R:jI)(A:ahP)(C:ajb)(r:L0 g f) :
  og (FB a f) σ (Ty g):=by
 rw[Ø a' xs bu4 e0 L K Z e4 (L7 _ A),Ī C L L];have p:ũ _ (se (FB a f)):=bfk w (w (Ć z (tX K)));have hl:=jh A;refine⟨MG,ġ j n h,fun j k b J d2 Y X u x=>?_,ajd (bIg aPi) h (fun b U ζ h m=>nb (fun z=>by rw[EV Z h h];cases m) h),aQb,⟨ġ b w q,zK,Ĝ b w,Sz,R.cV.btP (by assumption)⟩⟩
 ·rw[ay0 l h (Z0 u x j h (x.mono p))]
 ·by_cases l:j=i
  ·rw[fG l (tH e (ao1 h)),ψ e ⟨a,f,g,rfl,C,K,Μ,ai8 p⟩]
  ·rw[Ę (iW l) h (Ø b B E S u x Q P (MF n))];refine⟨b,B,E,S,u,x,?_,P.mono p⟩;rw[aK fun z=>l (Ss j i a n _ h A (ŗ z u) C)];exact Q
 ·have y:ayu J DV (Ty g) _ (∃d0,avV j d0):=fun {j J} h=>by
   by_cases l:j=i
   ·rw[Bc l _ A]
   ·rw[Ę (iW l) h (Į J h)]
  rw[dU I N (y Y) F M (y X)];exact Ss j k b I F N M u x
 ·rw[eQ c a]
  ·rw[c,Μ]at q;cases q
  ·rw[Ļ (aK c) q (Te b w q)]
 ·rw[eQ c a]
  ·exact dY (Ć c Μ)
  ·rw[ayY B b w (nb c q)]
theorem ad2(h:ũ c H)(d:c a=none):ũ c vC:=fun b u e=>by
 rw[Ĉ (LV e d) (h b u e)]
theorem bu5{own:Bool}(h:(avG cl)=ĕ)
  (R:jI) (fr:aaN (c a)) (sm:ũ c H) (k:aZA D c O j o):∀v e,Ú e->aj5 H e d cl v->j.nx afa e:=fun v b s1 g=>by
 cases own with
 | true=>
  simp only[nK]at h;rw[cM bsk]
  ·rw[Ţ h (Ø p xs ds s r f q n g)];subst s r;exact k _ b (p::W) (R.alloc s1 f q n i) (fun a l=>by
    rw[bM l]
    ·rw[Ĉ z (akm f)]
    ·exact fr a z) ow
  ·rw[a_]
   ·rw[Ż h (bfl (aFx.mpr (SK (g.weak Ι))))]
   ·cases h
 | ă=>
  simp only[zt,ro]at h;rw[a_]
  ·rw[jv m];exact bfl (g.f6 Ι m)
  ·cases h
theorem bLn{own:Bool}(p:vK)(j:qY)(g:EX)(l:EW)(n:jK f)(m:Xm e (c_ a)=JZ)
  (h:(um f c (avG c))=ĕ):Bh (c_ a) e C3:=by
 cases b:f with
 | none=>rw[Sw]
 | some q=>
  rw[Κ b (n q b)];cases q with
  | ok d cl=>exact(aWZ p j g A m l).weak (qr σ H0 r (eg (bu5 h R r sm k)))
theorem bLo{own:Bool}(S:KB r)(w:bG)(y:vK)(v:qY)(u:QG=ki)
  (P:aFR X δ b a g elt À r fr tg p) (z:QN j l n r b MJ) (m:qf a=ă)  (q:Xm (agv b a g f) (c_ e)=pure true)
  (h:(um (ā p) c (avG c))=ĕ):Bh (c_ e) (agv b a g f) C3:=by
 rw[gZ wi tc te F E B A P,aQc (bFg S w y v u F z E B q (aZo m)) s fr,Zn aEb (A s H _ (eg ?_))];cases p with
 | ok d cl=>exact bu5 h R fr sm k
theorem bLp(hv:tO b)(I:jK r)(s:fX)(n:ju j.endLine f.line)
  (h:(match Τ with
   | ā (fq p)=>um r c (ō (F8/\wm<Ū) (akn (p++[d])))
   | _=>none)=ĕ):Hg (.Expr (MP (c_ b) "append" j [e] f) pos):=by
 rw[a_]
 ·rename_i p y;cases l:r with
  | none=>rw[ŉ l]
  | some q=>
   rw[Κ l (I q l)];cases q with
   | ok d cl=>
    rw[Mf u (ō (RD/\wm<Ū) (wK (Ty (p++[d])))) ĕ h]
    ·rw[CH u];exact bfn J PySem.F.slot_list_append PySem.F.type_list_append bEY s n (qr F H0 z (by rw[Ø a w M L E K C B (L7 _ y),zT L (bfm E w C)];refine⟨a,w,v,rfl,rfl,aaB C,Ć B.length (GX m.2),?_⟩;exact k F _ W ((cN).write y E ((B.mono s1.wo).append (wT (g.f6 Ι m.1)))) z (ad2 ow (z a K))))
    ·cases u
 ·cases h
theorem bLq(hv:tO b)(U:jK z)(Q:fV w l)(E:LD l=ă)
  (h:(match Τ with
   | ā (fq s)=>pS z fun d c=>pS w fun k ζ=>(match k with
    | eX=>(match mT F0 k with
     | iF=>ō F8 (akn (ay1 d))
     | none=>none)
    | _=>none)
   | _=>none)=ĕ):Bh bfp e C3:=by
 have sub:∀v,afj bfp v=(do
   let ov ←E5 [v] (bZ (c_ b))
   let iv ←E5 [v,ov] (bZ l)
   asz f
   E5 [v,ov,iv] (aIz iv v)
   release [v,ov,iv] []):=by rw[aPr l E]
 have C:=fun t N (Z:fH t) (Y:PE X l N)=>bqY (pos:=pos) Z (bDb hv Y set_list sub) (ql e) (ql e) rfl;rw[a_]
 ·rename_i s F;cases p:z with
  | none=>rw[ŉ p]
  | some q=>
   rw[Κ p (U q p)];cases q with
   | ok d cl=>
    cases n:w with
    | none=>rw[ŉ n]
    | some q=>
     rw[wY n (Q q n)];cases q with
     | ok dk ck=>
      have r:(match(generalizing:=false) dk with
       | eX=>(match mT F0 k with
        | iF=>ō RD (wK (Ty (ay1 d)))
        | none=>none)
       | _=>none)=ĕ:=h
      rw[Φ r]
      ·rw[ic P r]
       ·rw[Mg j S r]
        ·rw[CH r];exact(C _ _ A B).weak fun Dn L H bfo=>⟨O,W,R,fun v H1 s1 g=>by
          have u:=cN;rw[Ø a M bu4 e0 K e2 e3 J (u.own i _ F),zT e0 ⟨Ŝ,K,O,W,u,ń y H2 s2 g2⟩];have R2:=u.mono s2;refine⟨a,M,P,j,rfl,g2.int (u.cV.mono s2),MD e3,Ć CZ S,?_⟩;exact k L _ W (R2.write F K (bD.set ((g.mono s2).f6 L_ m) j (J.mono MC))) I (ad2 (Ų ow s2) (I a e2))⟩
        ·cases r
       ·cases r
      ·cases r
 ·cases h
universe L2
namespace L2
open PySem PySem.Spec PyProof.Rows
theorem Got.seq(g:Ti n d c v)(m:fT n)(o:Rv)(f:K5=mZ b k):nZ e (X_ D.K e\/aw2 e) (L0 k e):=by
 have l:GQ c:=by rcases o with z | z<;>(rw[z,E2 q])
 rw[ax aog f]
 ·rw[Ţ f (lT a e j i h (g.items m l) a e j (ı (gm i)) h)]
 ·rw[Ţ f (lT a e j i h (g.btQ m l) a e j (ķ i) h)]
 ·cases f
theorem bLr(hv:tO f)(P:jK y)(z:fX)(p:ju l.endLine j.line)
  (h:(match Τ with
   | ā (fq u)=>pS y fun d c=>if Rv then(match K5 with
    | BX s=>ō (u.length+F0<=Ū) (akn (u++s))
    | none=>none)else none
   | _=>none)=ĕ):Hg (.Expr (MP (c_ f) "extend" l [e] j) pos):=by
 rw[a_]
 ·rename_i u E;cases n:y with
  | none=>rw[ŉ n]
  | some q=>
   rw[Κ n (P q n)];cases q with
   | ok d cl=>
    have r:(if Y6 then(match K5 with
     | BX s=>ō (u.length+F0<=Ū) (wK (Ty (u++s)))
     | none=>none)else none)=ĕ:=h
    rw[Φ r]
    ·rw[ic B r]
     ·rw[aah b s N (Φ r)]
      ·rw[CH r];exact bfn Q PySem.F.slot_list_extend PySem.F.type_list_extend bGU z p (qr M H0 F (by rw[Ø a C bu4 Z L Y K J (L7 _ E),zT Z (bfm L C K),ĩ a2 w U S I (g.seq Ι B N)];refine⟨a,a2,C,w,rfl,Ń U,aaB K,S,cH CZ Tz (þ m),?_⟩;exact k M _ W ((cN).write E L ((J.mono s1.wo).append I)) F (ad2 ow (F a Y))))
      ·cases r
     ·cases r
    ·cases r
 ·cases h
theorem bLs(h:aXV o=aR):o=ā TB:=by
 cases o with
 | none=>cases h
 | some sv=>cases sv with
  | val d=>rw[xZ h]
  | _=>cases h
theorem bLt(s:vK)(m:qY)(l:EX)(n:EW)(p:jK f)(hv:sh TB)(h:(um f ζ (yV d b (ā (wK (B9 aLx)))))=ĕ):Hg (afm asA .Add e pos):=by
 cases c:f with
 | none=>rw[Mc]
 | some q=>
  rw[Κ c (bDd (pos:=pos) (pos':=pos') s m l (p q c) bDf n)];cases q with
  | ok d cl=>
   rw[Ė b r h (dz (h))];obtain rfl:=xZ r;rw[Ţ h (ĺ (A.weak (ń Dn σ H B0)) (ab (Ø H0 O W R u fo sm k B0) v j w (SV _ hv)))];rw[sf w]at j;exact⟨rJ,j,O,W,R,fun v y s1 g=>by
     have:=aNL;rw[eN this (ac a b rfl (k _ y W ((cN).adZ GN i) u ow))]⟩
theorem bLu(h:aYJ v=true):aIC [t9 b k p] v env=pure none:=by
 cases q:AR v with
 | none=>rw[ajs v q]
 | some a=>
  rw[Ė k2 p2 rfl (aFo q)];have c:a.all _=true:=h;rw[fR aIC (fI c)]
  repeat (first | rfl | split)
theorem bLv(B:PG X aQd (bsX X.K LN (aoX is)))(C:jK p)(E:adK e=ă)(y:aYJ e=true)
  (h:(pS p fun d c=>if Rv then(match K5 with
   | BX i=>bfq
   | none=>none)else none)=ĕ):Bh aQd e C3:=by
 cases a:p with
 | none=>rw[Sy]
 | some q=>
  rw[Κ a (C q a)];cases q with
  | ok d cl=>
   have f:(if Y6 then(match K5 with
    | BX i=>bfq
    | none=>none)else none)=ĕ:=h
   rw[Φ f]
   ·rw[ic r f]
    ·rw[Gp b i z (Ė w s x (eJ f))];subst x;exact((fun t (F:fH t)=>bqY F B (by show Xm e aQd=JZ;exact OT E) (bLu y) rfl) _ A).weak fun Dn σ H bfo=>⟨O,W,R,fun v N s1 g=>by
      rw[ĩ L l K J u (g.seq Ι r z)];exact⟨L,l,K,J,ŷ u.length (aFQ s).1,aZn cN u s fun j M=>k j N W M I ow⟩⟩
    ·cases f
   ·cases f
universe L2
namespace L2
open PySem PySem.Spec PyProof.Rows
theorem Oq.any{t:ι->TS}(h:∀k,P6 (t k)):P6 (fun D b H=>∃k,t k D b H):=ayz D
theorem PT.any{t:ι->TT}(h:∀k,Xd (t k)):Xd aPq:=ayz Q
structure Lp(H0 H1:Hp)(O W:Ň):Prop where
 out:∀{H:Hp},aaC W H1 H->Sn
 aFW:∀{a:Addr},MQ H1 a=none->H0 a=none
 in1:aaN (MQ H1 a)
 s9:aw4 (MQ H1 a)
 bu6:∀{H:Hp},aaC W H1 H->ũ (se H1) CA
theorem Lp.mk'(fr:aaN (d a))(fo:aw4 (d a))(sm:ũ d g):Lp d g O W where
 out:=fun {H} s b u e=>s b u (by
  rw[uI z (aj8 (fr b z)) (sm b u e)])
 aFW:=fun {a} q=>by
  rw[ol Cz]
  ·exact fr a z
  ·rw[Ļ (cr z) q (akm q)]
 in1:=fun a c=>OQ c
 s9:=fun a c=>by rw[cr fun z=>fo a c (fr a z)];intro q;exact fo a c (akm q)
 bu6:=fun {H} s b u e=>by rw[ň f e (s_ e) (Ĉ (cr f) (s b u (BL (cr fun z=>f (tX z)))))]
theorem Lp.bLw(L:Lp b a O W)(g:axI (MQ a) H):axI b H:=by
 cases fr with
 | ă=>exact g
 | true=>
  rw[GO p c k j i h f e g (L.aFW h) f e]
theorem bLx(hp:afn)(hc:bG)(hi:aPw C l)(hG:PG X C MJ)(hb:bfw)(N:qf l=ă)
  (h:(ahC ri fun j c=>bfu)=ĕ):Hg (.For C l body [] pos):=by
 have B:bfv F:=Oq.any fun k=>hb Hb Ha k.2;cases E:ri with
 | none=>rw[ŉ E]
 | some q=>
  rw[Κ E (hi q E)];cases q with
  | ok j c=>
   rw[Mf h' bfu ĕ h]
   ·rw[aj6 m ((bDv hp hc A hG B (aZo N)).weak (qr F H0 fr (eg (ń J K s1 w)))),Ĕ R1 cN L (Lp.mk' fr fo ow)];have w:Wk X.D J j n_ n_ K:=(by rcases m with m | m<;>subst m<;>exact w);refine⟨fun i n F H=>n=Fg - i/\i<=Fg/\bft i (lU a I (MQ K a)),
     ⟨Fg,rfl,cg,δ,W,h',R1,L.in1,xX⟩,?_⟩
    rintro i n Y Q ⟨rfl,hi,b,W2,mX,R2,b1,b2⟩;by_cases u:i<Fg
    ·refine .inr ⟨w.go i Q ay2 u,fun F H=>bft ö _,
      fun Z S q=>⟨Fg - ö,Ě,rfl,u,q⟩,ġ x H3 y⟩
     have y1:=w.same i Q x H3 y;have y3:=w.AJ i Q x H3 _ (O++W2) ay2 ay2 y (Õ u) fun a U=>⟨R2.cV.ot a U,by
      rw[BF U z]
      ·rw[ŝ PM]
      ·have q:=b1 a z;by_cases hw:Cz
       ·rw[ŝ (tX hw)]
       ·rw[Ę (cr hw) q (Í q)]⟩
     rw[Ę (air u) mX (ax vd mX)]
     ·cases mX
     ·rename_i M a3;refine buM (ako y1) y3 a3 (Ĝ DX R3);rw[Φ mX]
      ·rename_i r a2;exact ay3 M (.nx r) a2 (MQ K) R3 y1 (fun Z S I R' P a0=>⟨r,I,mX,R',P,a0⟩)
      ·rw[aj6 a1 (ay3 M o mX (MQ K) R3 y1 ?_)];cases o with
       | nx r=>rw[Ŗ mX (a1 r)]
       | rt d P=>exact bfs S s'
       | jU d s=>exact bfr S s'
    ·rw[pK e (i=Fg) (jc e ayx mX),ŝ ⟨w.stop Q ay2,k Y Q W2 R2 (fun a U=>L.aFW (b1 a U)) (L.out b2)⟩]
   ·cases h'
theorem bLy(J:afn)(K:∀δ' r,e δ'=Û->PZ (aj7 δ' r))(M:bfw)(h:IN e f n δ=ĕ):Hg a4s:=by
 have B:bfv j:=Oq.any fun k=>M Hb Ha k.2;have T:PZ (Ş j (∃k:{p:ē×Rt // e p.1=Fb},aj7 Hb Ha j H Q)):=PT.any fun k=>K Hb Ha k.2;rw[aQc (bDh J T B) j P];have L:=Lp.mk' P fo sm;refine iM (fun m j x=>bfx (lU a w (jG W a))) ⟨n,δ,W,h,R,L.in1,xX⟩;rintro m A x ⟨b,W2,mX,R2,b1,b2⟩;cases m with
 | zero=>cases mX
 | succ m=>
  rw[ax IN mX]
  ·cases mX
  ·rw[fW u mX];refine⟨Tn b aPy u,O,W2,R2,fun l s=>Ow ?_⟩;exact k A l W2 (ako s) (fun a N=>L.aFW (b1 a N)) (L.out (b2.trans s))
  ·rw[aj6 u ⟨Tn b aPz u,O,W2,R2,fun l s=>Ox ?_⟩];refine iM (fun j x=>bfx _) (fun C l q=>⟨m,ahY m,q⟩);rw[Φ mX]
   ·rename_i i y;exact ay3 b (.nx i) y (jG W) (ako s) s (fun C l w S z E=>⟨i,w,mX,S,z,E⟩)
   ·rw[aj6 I (ay3 b o mX (jG W) (ako s) s ?_)];cases o with
    | nx i=>rw[Ŗ mX (I i)]
    | rt d z=>exact bfs l F
    | jU d s=>exact bfr l F
universe L2
namespace L2
open PySem PySem.Spec PyProof.Rows
theorem f7.bLz(R:jI)(n:sh .no)(x:EF):og H (Xn x) δ:=by
 have ne:ayu s Sv δ s (s ≠ .no->Ge):=fun {j s} h l z=>by rw[ş z (ŉ n)];exact l rfl
 have b:∀{j:Nat},Ge->(Xn x)[j]? = σ[j]?:=fun {j} m=>iW m;refine ayv p o e c g f (ajd (ajc ⟨h,akp h⟩) h aPh) aQb Tk
 ·rw[akp h];exact R.val j d h
 ·rw[akp h];exact MF d
 ·rw[Ę (akp e) g (Ļ (akp c) f (aj4 p o e c g f))]
universe L2
namespace L2
open PySem PySem.Spec PyProof.Rows
section
variable {κ:Type} [DecidableEq κ]
def x3(ρ:Pk)(k:κ):EF:=nG (ρ.find? (TC kv))
def putK(ρ:Pk)(k:κ)(v:V):Pk:=
 if(ρ.any (TC kv))=true then awV (fun kv=>akq kv v)else ρ++[(k,v)]
theorem ad3{k:κ}(e:Q4):x3 (p::r) k=Fb:=akr x3 e
theorem V9{k:κ}(e:¬Q4):x3 (p::r) k=x3 r k:=akr x3 e
theorem bu7(k:κ):∀a:Pk,(a.any (TC b))=(ay4).isSome
 | []=>rfl
 | p::r=>by
  rw[au SL e Q4]
  ·simp only[ad3 e,Þ e,aMK,a6W]
  ·rw[V9 e,eM e,Bool.false_or];exact bu7 k r
theorem bLA(a:Pk)(k:κ)(v:V):Ą (aks a)<=ad+1:=by
 rw[g_ putK]
 ·rw[Θ Ċ]
 ·rw[Ÿ,ŀ,wP];omega
theorem AH.bLB(r:AH o u):o.isSome=u.isSome:=by
 cases o with
 | none=>cases u with
  | none=>rfl
  | some _=>exact atc
 | some _=>cases u with
  | none=>exact atc
  | some _=>rfl
theorem KV.val(r:afD)(k:κ):AH ay4 (aaO vs k):=by
 rw[bH KV r];induction r with
 | nil=>exact t8
 | @cons p q ps qs h t ih=>
  rw[au (đ d f h) e Q4]
  ·rw[bfz (aaO (q::qs) k) aaO,ad3 e,b];exact f
  ·rw[bfy];have b:aaO (q::qs) k=aaO qs k:=akr aaO c;rw[V9 e,b];exact ih
theorem KV.any(r:afD)(k:κ):(a.any (TC b))=vs.any (TC b):=by
 rw[bH KV r];induction r with
 | nil=>rfl
 | cons h t c=>rw[SL,SL,c,h.1]
theorem KV.aZB(r:KV b vs)(k:κ)(d:pp) :
  KV (zI fun a=>akq a y) (vs.map fun a=>akq a u):=by
 unfold KV at r ⊢;induction r with
 | nil=>exact .nil
 | @cons p q ps qs h t ih=>
  rw[Ö,Ö,au (ĺ (ai ?_ ih) (đ c f h)) e Q4]
  ·rw[nh (pw e (c.symm.trans e)) c d]
  ·rw[Ř e,z9 (e (c.trans z)),Į c f]
theorem KV.put(r:afD)(k:κ)(b:pp):KV (putK a k y) (stored vs k u):=by
 rw[jC putK stored (au (r.any k) e ((vs.any (TC c))=true))]
 ·rw[pw e e];exact r.aZB k b
 ·rw[Ř e,Ř e];exact Paired.snoc r (cG b)
theorem KV.length(r:afD):ad=gR:=arJ r
universe E_
theorem aZC(r:akt (kV k)):(ay5).is k u=true:=by
 cases k with
 | inl i=>rw[gn t e (r) e];exact bCB P w i t
 | inr x=>rw[gn t e (r) e];exact bCC P w x t
theorem aFX:∀{ks:vD} {us:Œ},yp ay6->ItemsAre ay5 ks us
 | [],_,r=>by rw[Ī atO r r];exact .nil
 | k::ks,_,r=>by
  rw[Ö]at r;cases r with
  | cons h t=>exact ai (aZC h) (aFX t)
abbrev KT(H:Hp):XN->Ž (ī aHM):=WO fun p q=>a3u
theorem KT.val(r:aku)(k:vD):AH ay4 (nG (MR xs k)):=by
 induction r with
 | nil=>exact t8
 | @cons p q ps qs h t ih=>
  obtain⟨d,_,f⟩:=h;rw[aaP e]
  ·rw[bfz (MR (q::qs) k) MR,ad3 e,b];exact f
  ·rw[bfy];have b:MR (q::qs) k=MR qs k:=akr MR c;rw[V9 e,b];exact ih
theorem KT.aZB(r:aku)(k:vD)(f:pp) :
  KT H (nT fun c=>akq c y) (Pq (putAt k u)):=by
 induction r with
 | nil=>exact .nil
 | @cons p q ps qs h t ih=>
  rw[Ö,Ö,ĺ (ai ?_ ih) (Ė b d g h)];unfold putAt;rw[aaP e]
  ·rw[pw e (b.symm.trans e),υ b d f]
  ·rw[Ř e,z9 (e (b.trans z)),υ b d g]
theorem KT.put(r:aku)(k:vD)(d:aaQ b)(c:pp) :
  KT H (putK a k y) (storedH xs k b u):=by
 have e:(a.any fun kv=>mD)=(MR xs k).isSome:=(by rw[bu7,(r.val k).bLB,Option.isSome_map]);rw[jC putK storedH (au e q (WU (MR xs k)))]
 ·rw[pw q q];exact r.aZB k c
 ·rw[Bs,Bs];exact Paired.snoc r ⟨rfl,d,c⟩
theorem KT.keeps(r:aku)(ht:∀b c,bX b (Ē c)->H' b=ā (Ē c)):KT H' a xs:=
 arT r (j_ z a3v)
theorem aZD(ok:qU)(e:Jy u):A9 u:=e.ok ok
theorem aZE(ok:qU)(e:Jy (.dK b)):aHN iH b:=
 show A9 (.dK b)from aZD ok e
theorem bLC(ok:qU)(e:wc (.dK b)):aHN iH b:=aZE ok (ı e)
theorem aZF(ok:qU)(e:wc (Ē ay6)):(arR).is h ks a:=by
 obtain⟨_,b,r,o,f,d,n,c⟩:=(show A9 F6 from ok a _ e);exact⟨o,afg,n,f,d.1,c,Ł (aFX r)⟩
theorem aZG(ok:qU)(e:Jy (.dT b)):ů iH/\Jw /\
  bfA:=by
 obtain⟨z,y,xs,r,o,k,n,j,i,g,f,d⟩:=(show A9 (.dT b)from aZD ok e);refine⟨z,y,xs,r,o,k,n,j,i,g,f,Ĝ x c,d⟩;have all:∀{l:ī _} {m:ī _},KT H l m->∀x∈m,(arR).is h x.1 x.2.1:=by
  intro l m q;induction q with
  | nil=>intro x c;exact nomatch c
  | @cons p q ps qs hq t ih=>
   intro x c;rw[p8 c e c]
   ·rw[cA e (aZF ok (ŗ hq.1 hq.2.1))]
   ·exact ih x c
 exact all r x c
theorem bLD(ok:qU)(e:wc (.dT b)):ů iH/\Jw /\
  bfA:=aZG ok (ı e)
def bLE(H:Hp)(a:Addr)(y:V)(r:EF):Prop:=
 (∃ρ k,Jy arS/\y=kV k/\r=x3 ρ k)\/bfB (aaQ b)
def ao2(H:Hp)(a:Addr)(y v:V)(H':Hp):Prop:=
 (∃ρ k,wc arS/\y=kV k/\aeQ<Ka/\H'=Fo (.dK (aks ρ))) \/
 ∃ρ k b,wc Pr/\y=mr/\aaQ b/\aeQ<Ka/\H'=Fo (.dT (aks ρ))
theorem ao2.t{k:vD}(e:wc (.dT c))(f:aaQ b)(d:jt<Ka) :
  ao2 H a mr v (Fo (.dT (aks c))):=ķ ⟨c,k,b,e,rfl,f,d,rfl⟩
theorem Inv.big(I:Ζ):akv<Ģ:=by
 exact Y_ Đ ((aIs).lt)
theorem bLF(x:aQf)(I:qZ)(g:aQe nA)(w:pp)(h:∀f r,atl H r->RelV v f->Q f r) :
  bfF:=by
 rcases g with⟨i,k,e,n,l⟩ | ⟨i,k,b,e,n,eb,l⟩
 ·rw[ş n (ab (ĩ z hd vs d o (aZE cZ e)) f j jS bfC)];exact bfE (aZC w) o.mapOf j (h f _ tY jS)
 ·subst n;cases(w);rw[bfD d o f j jS bfC B m x (aZF cZ eb)]
theorem bLG(I:qZ)(e:aWP (H a))(hs:Be a h')(f:∃q,vE a=fN)(new:vJ (Fo d) h' a d) :
  PL c (Fo d) h' t':=
 ath e ŵ (fun b q g z=>lW hs b g z) f new
theorem bLH(z:ů iH)(hd:Jw)(c:KV b vs)(d:h'.DictOf ay5 a vs) :
  Pt H' h' a (.dK b):=⟨z,hd,vs,c,d⟩
theorem bLI(N:aQf)(I:jg j)(g:ao2 H a y v H')(C:pp)(F:RelV v r)(h:∀B,eT j σ H' B->Q () B) :
  afM (setItem Ŝ u r):=by
 rcases g with⟨f,k,e,p,l,w⟩ | ⟨f,k,b,e,p,eb,l,w⟩
 ·subst p w;rw[gp (ĩ z hd M d x (bLC cZ e)) (bfJ ayy Kr) (wpAny_setItem_pairs (hsz:=n) (aZC C) x bfH)];have O:∃q,J.get? a=fN:=let ⟨q,_,_,m,_⟩:=i;aQg;exact bfG O (bLH o hd (d.put k F) i)
 ·subst p w;cases(C);rw[gp (ĩ z hd L d x (bLD cZ e)) (bfJ Hh (arJ d)) (wpAny_setItem_heap (hsz:=n) (bfI N) (aZF cZ eb) x bfH)];obtain⟨q,W,Y,m,U,S,R,_,P⟩:=i;rw[ĺ (bfG aQg ⟨o,hd,_,(d.put k eb F).keeps (ġ c ys K),q,W,Y,m,U,S,R,P⟩) (aK (bCD K e CY))];exact K
def aZH(i:Expr):Prop:=∀ov iv,atG i ov iv=aJz ov iv
theorem bLJ
  (n:a50 m) (hs:aZH a)
  (h:atm b (fun o f=>atm a (fun i c=>c.TypeIs o T/\iE (atD o i) Q E c) E f) E s) :
  gr (Fp (wg b a pos)):=by
 refine aJw (lX h (fun o f j=>lX j (ġ i c d) asi) asi);rw[đ l d d,fR subscriptTail aie,aU (getitemInPython_of_ne l.not_modules) (aMz l n ?_)];have k:iE (atG a o i) (fun r e=>iE (letTemporaryGo b o r >>= ű (pure r)) Q E e) E c:=Ć (hs o i) (wpAny_operating (lX d (fun r e g=>ĵ (wpAny_letTemporaryGo (Å g))) asi))
 first
  | rw[q_ (ĵ k)]
  | exact ĵ _
  | exact ĵ k
theorem bLK(I:qZ)(g:aQe o):awb mq:=by
 rcases g with⟨d,k,e,_,_⟩ | ⟨d,k,b,e,_,_,_⟩
 ·obtain⟨_,_,vs,_,f⟩:=aZE cZ e;exact awe
 ·rw[bfK f awe]
def bLL(td ty tv:TE):TS:=JY (tv σ H fun v H1=>td σ H1 fun x H2=>ty σ H2 fun y H3=>∃a H4,Bu/\ao2 H3 a y v H4/\P4 H4)
theorem bLM(A:SY 1)(B:J2 j)(hi:PE X i e)(hv:vM f)(hs:Xm b (asy pos')=JZ) :
  Bh (asy pos') b (bLL j e f):=by
 rw[cD c d D (wpAny_Assign_Subscript (iA (hv c s d H _ I h) r s1 v M J n z (iA (B c s1 d M _ J z) u k x L F m w (χ (hi c k d L _ F w) iv s3 B0))) hs)];obtain⟨y,H3,E,l,a,K,ex,g,p⟩:=B0;rw[Qi u m];exact bLI A E g l n fun s4 C=>⟨d,K,C,p⟩
theorem bLN(h:Heap)(a:akv<o7):Pt H (h.push agt) o7 (.dT []):=
 ⟨cg,bE (iz (ke a)),[],.nil,_,#[],0,cw,Zo,rfl,rfl,aaR⟩
def bLO:TE:=Ş ζ (∀p,js->Kh p H (.dT []))
theorem bLP:PE X (aM1 pos) bLO:=fun a s σ H Q I h=>
 wpAny_Dict_empty (ac dm _ (a6v (bLN Ĳ I.big)) (h _ By))
universe L2
namespace L2
open PySem PySem.Spec PyProof.Rows
theorem f7.bu8(R:jI)(k:js)(u:aYM i=true):f7 D (qi i) σ δ O (p::W):=by
 have s:Ú (qi i):=gP k;have c:ũ _ (bA (O++(p::W)) _):=fun b o e=>by
  rw[LU w,aNx]
  ·exact s b o e
  ·rw[ayZ z]
   ·rw[EV k e e]
   ·exact w z
 refine bfj MG Ss (ajc (aW h)) ζ Sr f
 ·rw[Z0 n l j h (l.mono c)]
 ·rw[GO a g r A n l y x (MF d) (ť l) (MO y) (x.mono c)]
 ·rw[ayZ f]
  ·rw[z,Μ,E2 q]
  ·rw[bfh]
 ·rw[bM f]
  ·rw[υ _ (Ć z Μ) u]
  ·rw[ayY g a z (MO q)]
 ·rw[bM f]
  ·intro q;exact bfg k
  ·exact Sz a z
theorem f7.bu9(R:jI)(x:p∈W)(m:vj u p l)(A:H p=ā l)(c:ahA):og H aP9 (KS u):=by
 refine ayv C B g f r o MG aPg Tk
 ·rw[aQa b];exact R.val j d h
 ·rw[aQa b];exact MF d
 ·rw[Ĕ w (ao0 g iU) v (ao0 f iU)];rw[iW w]at g r;rw[iW v]at f o;exact aj4 C B g f r o
 ·have b:j=i:=by
   by_cases b:j=i
   ·exact b
   ·rw[Ļ (iW b) h (bu3 c h)]
  rw[ş b (đ y e (ao1 h)),zT e ⟨⟨p,l,m,aPj y,x,A⟩,ġ k d' q⟩];by_cases n:k=j
  ·exact n
  ·rw[Ļ (iW n) q (bu3 c q)]
theorem f7.aZI(R:jI)(K:uw d)(P:Mq σ p)(B:p∈W)(Q:H p=ā I)(C:aoM I=true)(w:vj y p x):og (qi x) σ (KS y):=by
 have u:ũ _ (se (qi x)):=bfk r (r (Ć z (tX B)));have A:∀{b:Addr} {n:Ŕ},bX b (.lst n)->b≠p:=fun {b n} h z=>by rw[EV Q h h];cases C
 refine ayv y X l g U S MG aQb ⟨ġ b r q,zK,Ĝ b r,Sz,R.cV.btP B⟩
 ·rw[ay0 f h (Z0 l g j h (g.mono u))]
 ·rw[ay0 f h (GO b n E M l g F L (MF d) g (nb (A F) F) (L.mono u))]
 ·rw[ay0 N l (Ļ (iW (ao0 g iU)) g (aj4 y X l g U S))]
 ·have f:j=i:=by
   by_cases f:j=i
   ·exact f
   ·rw[uG (iW f) h ((R.od i _ K).2 j _ h)]
  rw[ş f (đ hl e (ao1 h)),zT e ⟨⟨p,x,w,P,B,Μ⟩,ġ k d' q⟩];by_cases J:k=j
  ·exact J
  ·rw[uG (iW J) q ((R.od j _ K).2 k _ q)]
 ·rw[eQ c p]
  ·rw[c,Μ]at q;cases q
  ·rw[Ļ (aK c) q (Te b r q)]
 ·rw[eQ c p]
  ·rw[υ _ (Ć c Μ) w.mut]
  ·rw[ayY n b r (nb c q)]
section
variable {X:Cx} {δ:List Sv} {o:Out} {e ek ed ea:Expr} {pos pos' aFY bV9 apos aZa:Pos} {ra rb rc:Option Re} {i:Nat} {x:Str} {re:Re}
theorem bLQ(L:yX):eK Hj p aQh=baH:=by
 rw[Hi oU]
theorem bLR(L:yX):n9 axd (nG Hj):=by
 rw[š oU ų];induction L with
 | nil=>exact wS
 | cons p r a=>exact lj GN a
def bLS:ſ HO
 | .dK _=>true
 | .dT _=>true
 | _=>ă
theorem bLT(hv:tO aFY):PV aFY (Ş k (∃a o,Mq k a/\EH/\bLS o=true/\∀c,Q Ŝ (Fo (.oP c o)))):=by
 rw[gp (ji g k) (Š a o y f d q h) (χ (aOk g k j Ŝ y) u s1 t0),Š v j n r1 w r t0];subst w r;have ok:=n.Ν _ _ f;obtain⟨c,z5⟩:∃c,ain a=ū:=by
  cases o with
  | dK m=>rw[bfM]
  | dT m=>rw[bfM]
  | _=>cases d
 have l:vJ bfL aim a o:=by
  refine ok.aWO (JB e e) (Ĝ b e) (Bb p) (Bb p) fun b ζ ζ ζ ζ e=>?_
  ·rw[ay7]
  ·rw[ay7]
  ·rw[ay7]
  ·rw[ay7]
 exact⟨Ŝ,bfL,n.write (by rw[f];cases o<;>first | trivial | cases d) ŵ (fun b u hb e=>e) ⟨c,z5⟩ ⟨z5,l⟩,r1,q c⟩
theorem bLU (hv : tO aFY) (h : (match Τ with
   | auY => fO (aEH d) (ā (Out.rt (br7 d) ă))
   | _ => none) = ĕ) : Hg (aIx (c_ aFY)) := by
 rw[a_]
 ·rw[sn d g]
  rotate_left
  ·cases h
  rw[ľ (jv a) ((anN (bLT hv)).weak fun Dn σ H ⟨H0, O, W, R, j, fo, sm, k⟩ => ?_)];obtain ⟨⟨p, ob, n, m, b, l⟩, u⟩ := R.od i _ g;obtain ⟨L, e, c⟩ := n.aYW a;subst e c;refine ⟨p, _, m, l, rfl, fun f => ye (ad2 sm (j p b)) ?_⟩;show zS _ _ _;exact aw7 (ķ ⟨p, f, oU L, rfl, by rw [cr (Sz p b)]; exact Μ, bLQ L, bLR L⟩)
 ·cases h
theorem bva(h:LD ek=ă):aZH ek:=TD ov iv (ajs ek h)
theorem bvb:aQl Key (.i k) (adP p.1) BU (x3 a (ı k)=ahS)
 | [],b,r,h=>aQk
 | _::a,[],r,h=>bV
 | (e,g)::a,d::b,r,h=>by
  rw[aQj m l (adP e) (.i k) kY Ε];by_cases f:e=ı k
  ·rw[bfN (.i k),iO g (aQi g l)]
  ·rw[z9 (f (by cases e with | inl j=>cases z;rfl | inr j=>cases z))]at c;rw[Ĉ (V9 f) (bvb i c)]
theorem bvc:aQl Key (.s k) (adP p.1) d (∃v,x3 a (ķ k)=j0/\zG)
 | [],b,r,h=>aQk
 | _::a,[],r,h=>bV
 | (e,g)::a,n::b,r,h=>by
  rw[aQj m l (adP e) (.s k) BB kY];by_cases f:e=ķ k
  ·rw[bfN (.s k)];exact τ g l
  ·rw[z9 (f (by cases e with | inl j=>cases z | inr j=>cases z;rfl))]at c;rw[Ĉ (V9 f) (bvc i c)]
theorem bvd{d:Type}{f:d->mS}:∀{l:ī d} {c:Ħ},(∀a∈l,f a≠k)->AL k TF c=none
 | [],c,_=>ql c
 | a::l,[],_=>rfl
 | a::l,v::c,h=>by
  show(İ (f a=k) nA (AL k _ c))=none;rw[E7 (uq a) (bvd (jq b e))]
theorem bve:aQl vD (.t k) aQh BU (ay4=ahS)
 | [],b,r,h=>aQk
 | _::a,[],r,h=>bV
 | (g,f)::a,d::b,r,h=>by
  rw[aQj l j (mS.t g) (.t k) kY Ε];by_cases e:g=k
  ·rw[jc e jb c,ad3 rfl,iO f (aQi f j)]
  ·rw[gb (z9 (e (aQm z))) c (Ĉ (V9 e) (bve i c))]
def aZJ(K:ĝ)(H:Hp)(a:Addr)(y:V)(r:EF):Prop:=aQe r\/bfB (as0 b (k.map kV))
theorem bLV{pins:Ã}{σ:St}{H:Hp}{s:Ĭ}{a:Addr}{ks:vD}(I:Ô)(e:asr a ay6):(aQn de X.w).is Ĳ ks a:=by
 rcases e with h | ⟨o,sU,n,h1,h2,h3,_,h5⟩
 ·obtain⟨_,sU,r,o,h1,h2,n,h3⟩:=(show vJ H Ĳ a (Ē ay6)from aZD cZ h);exact⟨o,aHO,n,h1,h2.1,h3,Ł (aFX r)⟩
 ·exact⟨o,sU,n,pz a o h1,h2.1,h3,aFX h5⟩
theorem bLW{E:cF}(o:aQf)(I:qZ)(g:aZJ X.K H a y nA)(n:pp)(h:∀d m,atl H m->RelV v d->Q d m) :
  bfF:=by
 rw[bfO]
 ·exact bLF o I g n h
 ·subst ey;cases(n);rw[bfD i w d q f (atd (Ć l (i.val k))) r j o (bLV I eb)]
theorem bLX{o:EF}(I:qZ)(g:aZJ X.K H a y o):awb mq:=by
 rw[bfO]
 ·exact bLK I g
 ·rw[bfK d d.typeIs]
def bLY(K:ĝ)(td ty:TE):TE:=Ş σ (td σ H fun x H1=>ty σ H1 fun y H2=>∃a v,Bu/\aZJ K H2 a y nA/\Q v H2)
theorem bvf{e:TE}(m:SY 1)(o:ajV e)(p:PE X ek ty)(n:aZH ek):PE X (wg ea ek pos) (bLY X.K e ty):=by
 rw[cD b d Q (bLJ PySem.F.slot_dict_getitem.lookup n (iA (o b s d H _ I h) u s1 x z r j l (χ (p b s1 d z _ r l) iv s2 t0)))];obtain⟨y,w,f,i,a,v,ex,g,k⟩:=t0;rw[nh (Qi u j) (bLX f g) (bLW m f g i fun w' s3 q c=>⟨v,w,q,c,k⟩)]
theorem bvg(h:zH (Ē aaS)):∃p,v=eU/\ayp H p ((YG a b:vD).map kV):=by
 rw[aT p xs j c i (uC h) (ĩ v1 vs rfl r1 g (GL i)),ĩ v2 d rfl f e (GL g)];rw[sf r1,sf f,LS e]at c;rw[υ p j c]
theorem bLZ(hu:SY 1)(ha:fV ra ea)(hk:fV rb ek)(hs:LD ek=ă)
  (h:(za ra c rb ζ (aEG x c y))=ý):lr (wg ea ek pos):=by
 have C:=fun t t' (hA:ajV t) (hB:PE X ek t')=>bvf (pos:=pos) hu hA hB (bva hs);cases r:ra with
 | none=>rw[ŉ r]
 | some q=>
  rw[ajQ r];cases q with
  | ok Y cx=>
   cases o:rb with
   | none=>rw[ŉ o]
   | some w=>
    rw[wY o (hk w o)];cases w with
    | ok dk ck=>
     rw[jJ f (aEG Y cx dk) re aEG]
     ·rw[ic F f]
      ·rw[G4 J (ş J (uJ ks S hd f (dz f))),CJ d b rfl f (FR Y hd),aQp];obtain⟨K,_⟩:=adQ.mp (u.all aad);subst K;rcases ZR g with⟨a,j,e,n,m,i,l⟩ | ⟨a,j,e,n,m,i,l⟩
       ·rw[ş i (Ė P q1 w (bvc l b))];exact⟨a,P,n,ı (ı (ac e (ķ F) (Kv j (MD (s_ m).2)) q1.symm)),SQ s (w.mono MC:si s d P)⟩
       ·rw[aQo (eZ z)];cases b
      ·cases f
     rw[uJ ks S F2 f0 (dz f)];clear f;rw[zM F2 (bt3 F2)];have f:=f0;clear f0;rw[ax br6 f]
     ·rw[v4 F _ (Ė E b f (aY1 f)),ş f aQp];have I:=u.int aad;rw[fG I bfQ]
      ·rw[bfP (ı (ı (ac e (ı F) (Kv j (MD m)) (bvb l b).symm)))]
      ·rw[aQo (eZ z)];cases b
     ·rw[uJ a0 b0 F f0 (dz f)];clear f;rw[Ė E b f (aY1 f0)];clear f0;have F:=bt5 F;rw[fG f (ş F aQp),jk pk M L (bvg (u.all aad)) bfQ]
      ·rw[aQo (by rcases a with⟨k | k,_⟩<;>cases z)];cases b
      ·rw[bfP (ķ ⟨e,_,pk,Kv j (MD m),M,L,(bve l b).symm⟩)]
universe E_
universe L2
namespace L2
open PySem PySem.Spec PyProof.Rows
def kP(p:ul):vD:=YG p.1 p.2
theorem aFZ(h:kP p=kP q):p=q:=by
 rw[bfR kP,h.1,h.2]
def aZK(L:yX)(k:ul)(z:Int):yX:=if ay8=true then TH (fun p=>akw)else L++[(k,z)]
theorem bL0(L:yX)(k:ul)(z:Int):putK Hj (kP k) (ć z)=oU aQq:=by
 have e:((oU L).any fun a=>bF a.1 (kP k))=ay8:=by
  rw[Hk (š oU akx)];funext p;show bF aaT (kP k)=mD;rw[aaP h]
  ·rw[Þ (Ń h),Þ h]
  ·rw[eM (fun z=>h (aFZ z)),eM h]
 rw[jC putK aZK e];split
 ·rw[Ù oU ų ų,B' p];show(if aaT=kP k then(aaT,nM z)else(aaT,nM p.2))=(kP akw.1,nM akw.2);rw[aaP h]
  ·rw[pw (Ń h) h]
  ·rw[z9 (h (aFZ z)),EG]
 ·rw[v_ oU Χ]
def kD(p:ul):mS:=ag6 p
theorem aZL(h:kD p=kD q):p=q:=aFZ (aQm h)
theorem bL1(L:yX)(k:ul)(z:Int):putD (kD k) (ć z) aQr axd=(eK aQq p aaU,eK aQq p axe):=by
 have e:(kD k∈aQr)↔ay8=true:=by
  rw[RC,awB,jF]
  ·rw[LC p c b (υ p c (Ć aX (aZL b)))]
  ·rw[LC p c b (υ p c (Ń (decide_eq_true_eq.mp b)))]
 unfold putD aZK;by_cases h:ay8=true
 ·rw[į (e.mpr h),Br,ų,ų];refine Jd ?_ ?_
  ·rw[B' p];show aaU=kD akw.1;split<;>rfl
  ·show ay9 _ _=_;rw[List.zip_map_left,List.zip_map_right];have:∀(L:yX),List.zip L L=oe p (p,p):=by
    intro L;induction L with
    | nil=>rfl
    | cons a r d=>rw[bfS,d];rfl
   rw[this,ų,ų,ų,B' p];show(İ (aaU=kD k) (É z) (É p.2))=É akw.2;rw[aaP h]
   ·rw[pw (Ń h) h]
   ·rw[z9 (h (aZL z)),EG]
 ·rw[z9 (h (e.mp z)),EG,Χ,Χ];rfl
theorem bL2(j:vK)(hi:qY)(e:EX)(f:EW)(h:(ō avB (wK (KS a8a)))=ĕ):Bh (c_ b) (aM1 pos') C3:=by
 rw[a_]
 ·rw[jv d];refine(aWZ j hi e bLP rfl f).weak (qr σ H0 l (Ĝ p c));exact RT ((R.bu8 c rfl).bu9 Α (ı (Cc [])) Μ d) (fun a g=>by
   rw[bM g]
   ·rw[Ĉ z (akm c)]
   ·exact l a z) (Ts (gP c))
 ·cases h
theorem bL3(h:AL (kD k) aQr axd=ahS):x3 Hj (kP k)=ahS:=by
 induction L with
 | nil=>cases h
 | cons p r c=>
  have b:(if aaU=kD k then ā (É p.2)else AL (kD k) _ _)=Ε:=h;show x3 ((aaT,nM p.2)::oU r) (kP k)=_;rw[aaP a]
  ·rw[gb (į (Ń a)) b (Ţ b (ad3 (Ń a)))]
  ·rw[gb (z9 (a (aZL z))) b (V9 (fun z=>a (aFZ z)))];exact c b
theorem bL4(hu:SY 1)(hv:tO f)(he:jK I)(hk:uE rs es)(hc:adK e=ă)
  (h:(Ź YR p (um I ζ (a79 rs)))=ĕ):Bh (wg (c_ f) (t9 es x1 r) s) e C3:=by
 rw[uJ ks C Y hh ib];clear h;rw[Ĕ Y (bt6 Y) h hh];clear hh;dsimp only at h Y;cases m:I with
 | none=>rw[ŉ m]
 | some q=>
  rw[Κ m (he q m)];cases q with
  | ok d cl=>
   cases j:rs with
   | none=>rw[ŉ j]
   | some S=>
    rw[wY j (hk S j)];cases S with
    | ok l=>
     rw[mJ δ' n h2 h h2,uJ a b n1 n0 (dz n)];clear n;rw[Ė z n2 n (dz n0)];clear n0;have n2:=xZ n2;rw[aOp n5 n1];have n6:=bt4 n5;clear n5;rw[đ n3 n7 (QW n6)];obtain⟨n4,_⟩:=QW n7;clear n6 n7;subst n2 n3 n4;rw[TJ n n]
     ·rw[fW U n,ajp ((fun t t' (hA:fH t) (hB:PA X es t')=>bLM hu hv (aEf hB) hA (OT hc)) _ _ A B) (qr σ H0 Z (eg (ń v H1 s1 g))) (MT p ob e0 e1 e2 e3 Y)];obtain⟨L,Q,eo⟩:∃L,qt [.dJ ks C]=aQs/\ob=.dT Hj:=e0.aYW rfl;subst eo;obtain⟨P,N⟩:ks=TH (fun p=>aaU)/\C=TH _:=bfT Q;subst P N;refine⟨eU,e1,O,W,cN,ń OA H2 E g2⟩;have M:=aNL;rw[aT w1 w2 ew g3 g4 g2.two (Ĕ w ((cN).cV.mono E) K (g3.int w))];have J:=g4.int w;subst M K J ew;rw[t7 (axo 2) q hq];have F:ũ H2 (upd H2 q (Ē aaS)):=gP hq;have y:=F _ _ (E _ _ (aaB e3));rw[Ċ]at U;refine⟨p,_,rfl,ao2.t (k:=kP (a,b)) y Μ (o6 oU (Ĉ Ċ (GX U))),?_⟩;rw[bL0];have pe:=bL1 L (a,b) z;unfold kD at pe k;rw[Ļ pe k (k σ _ W ((lu (Z9 E) F).aZI Y e1 e2 y rfl (ı (dY rfl))) Z (ad2 (Ų (Ų ow E) F) (Z p e2)))]
     ·cases n
theorem bL5(C:SY 1)(hv:tO a)(E:fV rb j)(hs:LD j=ă)
  (h:(Ź YR p (CG fun y ζ=>aXO p.1 p.2 y))=ā m):iT (wg (c_ a) j pos) m:=by
 rw[uJ ks g F hh ib];clear h;rw[Ĕ F (bt6 F) h hh];clear hh;dsimp only at h F;cases b:rb with
 | none=>rw[Sw]
 | some r=>
  rw[wY b (E r b)];cases r with
  | ok dk ck=>
   rw[uJ U S e1 e (dz (bK (aXO ks g dk=ā m) h))];have e1:=bt5 e1;rw[ş e1 (Ė v n e (aY1 e)),fG e (ajp ((fun w (I:PE X j w)=>bvf C hv I (bva hs)) _ B) (ń σ H Q ee) (MT s A P N e2 M F))];obtain⟨L,o,K⟩:∃L,C5=aQs/\A=.dT Hj:=P.aYW rfl;subst K;obtain⟨d,c⟩:ks=TH _/\g=TH _:=bfT o;subst d c;refine⟨ċ s,N,O,W,R,ń v2 Y l J⟩;rw[Fe z d c (bvg (J.all (Mi l))) ⟨s,BU,rfl,ķ ⟨oU L,_,z,ı (l _ _ M),d,c,(bL3 (k:=(U,S)) n).symm⟩,p _ Y l IT⟩]
universe L2
namespace L2
open PySem
def Kp(a:Addr)(h h':Heap):Prop:=∀b o,b≠a->yf->vF=ĕ
theorem Kp.of(x:RU a h c):aky c:=bj n (x.extBut b o n e)
theorem Kp.trans(x:aky h')(y:Kp a h' c):aky c:=bj n (y b o n (x b o n e))
theorem Kp.push(x:aky c)(d:Obj):aky (c.push d):=bj n (aw (x b o n e))
theorem bL6(hd:k6 d akv):MeetsIn prog w (bfU ⟨[ċ d],[]⟩) (fun ζ R s=>Yp d mq /\
  Yq dm (fE (ayV "dict_items" #[ċ d]))):=.of_wp fun A R s q=>by
 have a:¬(ju d akv):=Ć hd vQ;unfold bfU Builtin.Dict.noArgs Builtin.Dict.showsAll;rw[k7 (ĵ (wpAny_notOrdered_dict q.1 bq)) yz,E7 a (ĵ (t6 (BK (Å (τ _ q.2)))))]
theorem bL7(hv:s.heap.IsItemsView v d)(c:cC d=fb)(a:b.data=aeP)
  (q:pG dm (ayV akz #[Ġ,agM,ċ d,ŭ 0,oY aH,oY ep,Ġ,Ġ])):gr (P7 (ċ v)):=by
 obtain⟨_,f,_,e⟩:=id hv;refine aMn hv.typeIs F.slot_dict_items_iter F.entry_dict_items_iter (F.args_dict_items_iter_1 _);unfold Builtin.«dict_items.__iter__» Builtin.Dict_items.dictOf Builtin.Dict_items.newIterator;rw[k7 (t6 (ĵ (KE f e rfl (t6 (ĵ (bfX c a (ĵ (bfW c a ?_)))))))) (bK bfV ø)];exact BK (Å ⟨_,rfl,akz,_,agJ,F.slot_dict_itemiterator_next.lookup,q⟩) (by show(8:Nat)<=_;rw[Θ Bp])
theorem bL8{ov:ě}(P:dh)(c:azb Ĳ d i)(g:cC d=Δ)(k:u.data=aeP)
  (e:∀en h',ŋ es en->IsItemIterOut h' it d ö aH ep en.key en.val Ģ->vE Ģ=ā aza -> Kp it Ĳ h'->pG (yR Ģ) h')
  (f:∀h',lS es i->Kp it Ĳ h'->pG none h'):gr (aaL it):=by
 have ty:∀{h:Heap} {j:Nat} {x y:ě},aQu h it d j aH ep x y->Shared.TypeIs (fE h) J3 akz:=fun z=>dY z;have o:bfV:=ø;have O:¬(ju (m9 d) A4):=vQ;rw[fR FM (lZ (Zu (akA (ty c) F.slot_dict_itemiterator_next F.entry_dict_itemiterator_next ?_ (F.args_dict_itemiterator_next_1 _))) (t6 (ĵ (ĵ (aQw (t6 (aia c rfl))))))),aQv];show Lq _ (Bj (m9 d==A4) _ _) _ _ s;rw[gq (aU (Ř O) (t6 (bfX g k ?_))) (Ř Ğ) (t6 (bfW g k ?_)),Ř Ğ,ĺ bq bv,Ř (ź (¬(ae<0))),cI];cases B:es[i]? with
 | none=>
  rw[aU bv (ĵ (aQw bq)),aQv,ż (aaV c Ğ fun l r s1=>ĵ ?_),jC newExc aid (ż (BK (a83 (BK (wpAny_raiseNew_none P (ĵ (a82 bq))) azc)) azc))];exact f _ B (rB bfY _)
 | some en=>
  rw[aU bv (ĵ (aQw (t6 (aQt c ?_)))),aQv,ż (yO c l r s1)];have p:azb l d ö:=by rw[š aQu (cP (mB i=ae+1))];exact r
  rw[k7 (iC (ĵ (aQt p (ĵ (aQt p ?_))))) (BH _ (fE l))];unfold Builtin.Dict_items.pairFromOwner Builtin.Dict_items.ownedTupleIsFree;have sz:=s1.1;have n:azb (l.push aza) d ö:=aw p;have J:(l.push aza).get? Ģ=ā aza:=ŗ sz cw;rw[k7 (aun (ĵ (ĵ (yQ n Ġ bq)))) auq,lZ (yQ n ok (ĵ (yQ n ov ?_))) (aaV n Ğ fun h3 I N=>ĵ (aaV I Ğ fun h4 H M=>ĵ (aaV H Ğ fun h5 C L=>ĵ (yO C R q K))))];have v:=Ų (Ų (Ų (Kp.of N) (.of M)) (.of L)) (.of K);rw[ż (QV (Å (Å (τ _ bq))))];rw[sz]at q ⊢;exact e en R B q (v _ _ (iz (vO c)) J) (Ų bfY v)
universe L2
namespace L2
open PySem PySem.Spec PyProof.Rows
def aF0(a:Addr)(ob:Obj)(qs:Ň)(ρ:XN):It:=
 ⟨fun i H=>m_ a ob Pr/\∃k v,ŋ ρ (k,v),
  ayC (∃p q k v,x=eU/\js/\ŋ ρ (k,v)/\ŋ qs q/\aaQ q/\H'=ayB Lu v),
  fun i H=>m_ a ob Pr/\aeQ<=i⟩
theorem bL9(r:KT H c xs):∀{i:Nat} {k:vD} {v:V},ŋ c (k,v)->∃b u,ŋ xs (k,b,u)/\aaQ b/\cu:=by
 induction r with
 | nil=>intro i k v h;cases h
 | @cons a b _ _ p t e=>
  intro i k v h;cases i with
  | zero=>
   rw[Ŷ p1 p2 p3 p (đ a1 a2 a),Ė b1 g f b];cases h;have d:=p1;rw[eN d ⟨g,f,rfl,p2,p3⟩]
  | succ i=>exact e h
theorem KT.length(r:aku):ad=aP:=by
 induction r with
 | nil=>rfl
 | cons _ _ b=>rw[ŀ,ŀ,b]
theorem bvh(I:vG)(h:m_ a c (.dT d))(hd:c.data=aeP) :
  cC a=ū/\Jw/\c.ExactDict/\∃xs,KT H d xs/\Jv=Pq bfZ:=by
 obtain⟨e,z1,j,xs,i,o,m,n,g,l,f,k,y5⟩:=(aQx c _ _ h);rw[af3];rw[W8 hd];exact⟨e,j,l,xs,i,k⟩
def keysAt(es:aJV)(qs:Ň):Prop:=Zk (·.key)=qs.map m9
theorem bMa{K:ĝ}(hd:ob.data=aeP)(M:keysAt es C) :
  afs (aQy pos) (aF0 a ob C F) (∃ok ov,azb h a i) where
 mem:=Ğ
 obj:=fun i h st b d=>by rw[jk ok ov g st (Ę oh d (eN d (Hc g q)))]
 keep:=fun i h y st q=>by rw[gC ok ov g st ok ov (q it Ğ _ g)]
 item:=by
  rw[bf2,bf1 (Ĩ W k0 v0 r O),ĩ b u hu d ru (bL9 A r)];have Q:ŋ es (bfZ (k0,b,u)):=gx (entry_at z) hu;have L:ŋ C b:=by
   have h1:ŋ (Zk (·.key)) mr:=zW Â pZ Q;rw[M,Â]at h1;rw[CJ c e1 e2 h1 (Ż e2 e1)]
  refine bf0 (fun en y f b2 b3 b5=>?_) (fun y p ζ=>Ń (Ī Q p p));rw[W8 Q];refine QU;rw[ĺ (wpAny_letOwnedTupleGo_items b2 (ġ h2 N t2)) (Ĕ m (vT (cX g)) I1 (aPI (bj d (t2.extBut _ _ (ae5 q) (b5 b o (ae5 q) e))) x)),Ĕ l By Y (I.u_ Ķ l)];have I2:eT j Z (afP (Ē [mr,v0])) (fE h2):=aPG l (W4 I.sz) Y M
   (aPF mr u rfl ru (t2.extBut _ _ m b3))
  refine⟨dm,_,I2,rfl,⟨_,b,k0,v0,rfl,l,r,L,d,rfl⟩,⟨_,_,N⟩,Ĝ b d⟩;rw[Ę oh d (ş d (aK (iz m)))];exact(x b Ğ).1
 done:=by
  rw[bf2,bf1 (đ W r O)];have hl:aH<=i:=X7 (size_of_entries z) A.length r;exact bf0 (fun en y f ζ ζ ζ=>Ń (ahX hl f)) fun y ζ a=>aPD [it] d (a b o (ae5 q) e) x
 self:=J6 (by rw[gj ok ov g st (PySem.W.kcp_self g h)])
theorem Wk.bMb{K:Ň}(h:bA K g a=ā (.oP C (.dT b)))(e:b=oU L)(P:∀q∈B,∃n,g q=ā (Ē n))(R:V4 J g):Wk D (aF0 a C B b) bf3 K J g:=by
 subst e;have Q:Ą Hj=Hh:=aaW oU;have c:∀(i:Nat),Hj[i]? = Ĥ L[i]? p (aaT,nM p.2):=fun i=>uL oU Â;refine⟨ń i H s I,Ý i H x U y,fun i H x U d M s s' y e F=>?_,Ĝ H s⟩
 ·rw[uG Ċ I ⟨LZ (MO h),kP L[i].1,ć L[i].2,gx c (Õ I)⟩]
 ·obtain⟨p,q,k,v,_,f,_,_,_,e⟩:=y;rw[Ĉ e (gP f)]
 ·obtain⟨p,q,k,v,ex,f,j,N,r,S⟩:=y;rw[Â]at e;rw[c]at j;cases E:L[i]? with
  | none=>rw[dP E]
  | some O=>
   rw[E]at e j;cases e;cases j;have l:q∉M:=fun z=>by
    rw[đ n w (P q (kJ N))];rcases(F q z).2 with u | u
    ·rw[rf o A m (R q u) w];cases m
    ·rw[Ī w u u]
   subst S;have r1:L5 (bA M (qi (zi Lu O.2))) _ _:=
    axb ⟨q,_,rfl,aff (cH (cr l) (LV r f) r),lj GN (wT GN)⟩
   exact ai9 p _ ex ((F p z).1 f) (lj r1 (wT GN))
 ·rw[Į (LZ (MO h)) (cH Ċ Q Ķ)]
theorem bMc(he:fH S)(n:Bv e aiX=bZ e)(j:aiV) :
  aaF aZs (MP e aiX apos [] pos) (fun C H R=>S C H fun x g=>∃a f d,Bu/\g a=ā (.oP f (.dT d))/\∀U:Ň,(∀q∈U,∃F,g q=ā (Ē F))->R (aF0 a f U d) g):=by
 rw[cD u C R (a6q n j (ajt (he u s C H _ I h)))];obtain⟨x,g,B,r1,a,f,d,e1,L,q⟩:=t0;subst e1;cases r1;obtain⟨i,w,A,N,E⟩:∃i w A,ain a=aV/\i.data=agj w A:=by obtain⟨r,z1,Q,xs,P,o,w,A,y1,y2,y3,y4⟩:=bf5;exact⟨o,w,A,y1,y3⟩
 have yo:i=f:=(by obtain⟨r,_⟩:=bf5;rw[Ī r N N];rfl);rw[ş yo (Š r Q O xs P Z (bvh B L E))];have J:s1.TypeIs Ŝ mq:=⟨i,r,O.1⟩;have nD:∀b,m9 a=mr->∃f,ain b=Ro/\f.dict=none:=fun b q=>G8 q ⟨i,r,O.2.1⟩;refine⟨mq,"dict.items",PySem.F.plainAttrs_dict,bf4,PySem.F.type_dict_items,J,nD,atM rfl (a6p ?_)⟩;refine call_meetsIn bf4 J PySem.F.entry_dict_items (PySem.F.args_dict_items_1 _) (bL6 Q) (aD J);have W:∀b o,aij->(s1.heap.push (gW "dict_items" (o8 #[Ŝ]))).get? b=ĕ:=Bk;have M:=B.kept (t':=aii) W;refine bL7 RS (W _ _ r) E ?_;refine⟨_,[_],_,aF0 a i _ d,g,rfl,M.kept (t':=aii) Bk,bMa (elts:=elts) (k:=k) (pos:=aZs) E ((by rw[iG keysAt Z ų ų];rfl)),⟨Ġ,Ġ,cw⟩,Ĝ c Y,q _ (Ĝ b hb)⟩
 ·rw[Ę oh Y (cA Y (M.u_ Ķ (M.Ν.fresh Ķ)))]
 ·rw[bx y hy hb];have all:∀{l:XN} {m:ī _},KT g l m->∀x∈m,∃F,g x.2.1=ā (Ē F):=by
   intro l m q;induction q with
   | nil=>intro x K;exact nomatch K
   | cons p t ih=>
    intro x K;rw[bM K]
    ·rw[nh z _ p.2.1]
    ·exact ih x z
  exact all P y hy
theorem bMd(h:VV ks vs=ā L){a:ī (Key×V)}(e:nT aNq=ks):L=[]/\a=[]:=by
 cases a with
 | nil=>
  subst e;cases vs with
  | nil=>rw[ψ h qQ]
  | cons _ _=>cases h
 | cons p a=>
  rw[ş e (đ k v p)];cases k<;>cases vs<;>cases h
theorem bMe:∀{ks:KM} {d:Ħ} {L:yX},VV ks d=ā L->∀{D:Dm} {H:Hp} {c:XN},Kt aNp=ks->n9 d (Kt Cj)->c=oU L:=by
 intro ks;induction ks with
 | nil=>
  intro d L h D H c e r;cases c with
  | nil=>cases d with
   | nil=>cases h;rfl
   | cons _ _=>cases h
  | cons _ _=>cases e
 | cons l ks m=>
  intro d L h D H c e r;cases d with
  | nil=>cases h
  | cons d ds=>
   rw[uJ a b g h (dz (mv (Li (aXJ l)=ā L) h)),aJ v q h ib L' o n (eJ h)];have q:=xZ q;rw[jH aXJ g (atA g)];subst q n;cases c with
   | nil=>cases e
   | cons p c=>
    rw[ň k i p (ĩ w ws y x u aal)];cases y;have f:=QW e;rw[m o f.2 u,bK (k=_) (aQm f.1),aQi i x];rfl
theorem bMf(i:Bv e aiX=bZ e)(g:ju d.endLine J0)(F:jK r)
  (h:bU (aY r aLj)=ĕ):aaF j (MP e aiX d [] pos) (Tj o):=by
 cases f:r with
 | none=>rw[ŉ f]
 | some q=>
  rw[Κ f (F q f)];cases q with
  | ok K M=>
   have b:bU (aXK K M)=ĕ:=h;rw[ax aXK b]
   ·rw[Mg ks B b]
    ·rw[fM u (đ rfl s u)];cases m:VV ks B with
     | none=>rw[nN m]
     | some L=>
      rw[nN m];exact((fun C (I:fH C)=>bMc I i g) _ A).weak fun σ H R' ee=>⟨O,W,R,fun x N s1 J=>by
       rcases ZR (J)with⟨a,w,l,z,v,n,y⟩ | ⟨a,w,l,z,v,n,y⟩
       ·rw[gn rfl rfl (bMd m n) n];cases s
       ·exact⟨a,w,l,z,LZ v,fun qs E=>qo N (Wk.bMb v (bMe m n y) E (Ι).xY)⟩⟩
    ·cases b
   ·cases b
universe L2
namespace L2
open PySem PySem.Spec PyProof.Rows
theorem bMg{X:Cx}{δ:ē}{re:Re}{rs:nQ}{F:Ť}{f n:Nat}{ex:Expr}(hn:∀ds o,F f ds=ĕ->ŧ=n)
  (C:∀q,rs=fN->PE X ex (Ş σ (aOg q σ H fun vs H1=>aFJ X.D n (F f) vs H1 Q E0))) (h:(YM rs)=ý):PE X ex (zN re):=by
 cases vo:rs with
 | none=>rw[aj2]
 | some q=>
  rw[Κ vo (C q vo)];cases q with
  | ok l=>
   rw[jJ h' K' re Ec]
   ·cases h'
   ·rename_i d fr e1;cases h';refine A.weak (lq σ vs H1 g1 ?_);have hd:=Ι;rw[ol y9]
    ·rw[axJ G6 n_ hd.xY (hn _ _ e1) (g1.č hd z) e1 H'];cases fr with
     | ă=>exact g
     | true=>
      rw[GO q xs ds e1 e2 e3 e4 e5 g (aag e3) e4 e5]
    ·rw[axJ SR O hd.aYS (hn _ _ e1) (g1.aFy hd) e1 H'];cases fr with
     | ă=>exact g
     | true=>
      rw[Ø q xs ds u1 e2 e3 e4 e5 g,ş e2 CK];cases y:aEJ Ŧ with
      | true=>exact⟨q,xs,ds,u1,rfl,aag e3,e4,ZP (O:=q::O) (bbZ ha) y e5⟩
      | ă=>
       have hq:q∉O:=fun z=>hd.ot q PM (aag e3);exact ai5 ⟨q,xs,u1,iS hq e4,e5.mono (mW fun b hb=>ť hb)⟩
theorem vi.app{D:Dm}{O W:Ň}{H0 H:Hp}{l l':bu}{vs zs:Ŕ}(h:ZX)(h':L6 l' zs):L6 (l++l') (vs++zs):=by
 induction h with
 | nil=>exact h'
 | cons a _ ih=>exact ai a ih
theorem vi.bvi{D:Dm}{O W:Ň}{H0 H:Hp}:∀{ds:Ħ} {vs:Ŕ},L0 ds vs->L6 akB vs
 | [],vs,r=>Ć (LS r) .nil
 | rH,vs,r=>hZ (ĩ v ws e1 e2 e3 aal) (Ĉ e1 (ai e2 (vi.bvi e3)))
theorem bMh{X:Cx}{δ:ē}{e:Expr}{es:aE}{pos p:Pos}{re:Re}{rs:nQ}{k:Nat}{fa:Addr}{fd:yA}{ps:ğ}{x:Str}{F:Ť}{f:Nat}{ds:Ħ}{us:Œ}{dvs:Ŕ}(fo:ayj Mo)(hn:aaj)
  (hr:kF) (hg:nj) (hm:yl=ayi) (hk:Qq fa=true) (hb:aaX X.K us) (hv:azd) (bMi:∀H,SG H ds dvs)
  (ha:axM) (aEi:jj) (hs:fX) (bMj:xc)
  (h:(rM rs a7Z)=ý):axL:=by
 have C:=fun t (hA:Ft)=>brn (p:=p) (pos:=pos) fo hr hg hm hk hb hv an0 hA aEi zX (ajw bMj);cases vo:rs with
 | none=>rw[aj2]
 | some q=>
  rw[vo]at h;cases q with
  | ok l=>
   rw[ĺ (bMg (rs:=ā (.ok (l++akB))) (n:=bo) hn (Ĝ q hq) h) (ψ hq ((C _ (ha _ vo)).weak (lq σ vs H1 g1 (qo H1 (g1.app (vi.bvi (bMi _)))))))]
universe L2
namespace L2
open PySem PySem.Spec PyProof.Rows
def aF1(D:Dm)(C:Addr)(f:pM Ou):Sp:=fun vs H Q ζ=>∃O p dx t k args ds o,vs=eU::args/\LW/\p∉O/\GU/\bX p (GT k)/\GR (O++[p]) args/\F_ (f (Hl::ds))=ĕ /\
 (match o with
  | dt s=>bf6 (Cw (bA (O++[p]) H')))
def aZM(C:Addr):Sp:=fun vs H Q ζ=>∃p dx t,vs=[eU,k_]/\bX p (aja [])/\Q .ę (qi (GT 0))
theorem bvj(e:qt [RE,a,b,k_,eX]=ahf p d f s u):c=p/\a=d/\b=f/\t=s/\k=u:=G8 e bf7
theorem IX(h:vj Hl a o):a=p/\o=GT k/\GU:=by
 rw[azf h k' c b h3 h4]
 ·cases e
 ·rw[bf8];subst e4 e5;have g:C=C':=Ě;subst g;rcases c with c | c
  ·rw[Ī c e2 e2]
  rcases b with b | b
  ·rw[Ī b e3 e3]
  rw[c]at e2;rw[b]at e3;rw[aze e2,aze e3];have f:p=a:=Ě;have d:dx=Ot:=Ě;subst f d;rw[υ rfl h4 h3]
theorem bvk(h:GU):vj Hl p (GT k):=ķ ⟨C,dx,_,_,t,k,rfl,gw,gw,h,rfl⟩
theorem ad4(h:iI d=aV):d=ĭ:=by
 rw[azg iI]
theorem bMk(h:sS d=aV):d=tZ:=by
 rw[azg sS]
theorem bMl(h:aXP l=ā aK3):l=[a,b,c,d,e]:=by
 rw[azg aXP]
theorem aF2(h:VX s=fN):s=avr mz KW Rj:=by
 rw[ab (eI VX) l g h ib];obtain⟨⟨n,m,k,j,i⟩,f,h⟩:=dz h;rw[ab (aJ b1 e h ib b2 d h ib) b3 c h ib];cases h;have e:n=_:=ad4 e;have d:j=_:=bMk d;have c:i=_:=ad4 c;rw[aY0 g,bMl f,e,d,c]
theorem aF3(h:IL s=fN):s=avr (ć mz) (ć KW) Rj:=by
 rw[on IL (ab (aJ l g h ib b1 e h ib) b2 d h ib)];cases h;rw[aF2 g,ad4 e,ad4 d]
theorem bvl(h:adB d=true):d=.ę:=by
 cases d with
 | ę=>rfl
 | _=>cases h
theorem bvm(h:au8=kY):∃q,VX s=fN/\(aK4 q.1)/\d=a7U:=by
 rw[jk q g h ib a_]
 ·rw[ψ h ⟨q,g,by assumption,rfl⟩]
 ·cases h
theorem bMm(h:adI Hl s=true):∃a,s=Cb p a:=by
 rw[eI adI];have e:IL Hl=Ε:=rfl;rw[Ę e h GZ]
 ·rw[v4 q b (aF3 b),awN,qu g f d c h,←g,←f,←d,←c];exact ce
 ·cases h
theorem bMn(h:adH s a=true):a=s:=by
 rw[cM adH]
 ·rename_i q b;rw[aF3 b,aF3 (ZJ h)]
 ·cases h
theorem bMo(h:adG G s=true):uo:=by
 rw[cM adG]
 ·rw[awN,qc h.1.1.1 h.2]
 ·cases h
theorem bvn(h:au8=kY):uo:=by
 obtain⟨q,_,⟨e,f⟩,_⟩:=bvm h;rw[qc e f]
theorem bvo{G:Gs}{C:Nat}(c:rR)(h:adG G s=true):∃p dx t k,s=Hl:=by
 rw[cM adG]
 ·rw[v4 q b awN,qu a e d h4 h];rw[c]at a;refine⟨q.2.1.toNat,BZ.1.toNat,lQ q,Rj,?_⟩;unfold OM;rw[bf9 e,bf9 d,←a];exact aF3 b
 ·cases h
theorem f7.bvp(R:jI)(j:uw d)(k:Mq σ p)(h:p∈W)(l:H p=ā o0)(c:aoM o0=true)(a:vj d1 p g)(sm:azh [p] f)(m:f p=ā g):og f σ (KS d1):=
 lu (R.aZI j k h l c a) fun b o e=>by
  rw[eQ z p]
  ·rw[fG z (Ę Μ e (Ĉ m e))]
  ·rw[Ļ (aK z) e (sm b o bga)]
section
variable {X:Cx} {k:Nat} {f C:Addr} {fd:FuncData} {ps:List Str} {sp:Sp} {x m:Str} {np p pos apos:Pos} {e o:Expr} {es:List Expr} {ta:TE} {t:TA}
def bvq(C:Addr)(m:Str)(sp:Sp)(ta:TE)(t:TA):TE:=Ş σ (J9 x (∃a dx fs,Bu/\H1 a=atn/\Qg m=none/\t σ H1 fun vs H2=>sp (x::vs) H2 Q E0))
theorem aZN:aQz Qp
 | [],_=>rfl
 | y::ys,q=>bb1 (aZN q.2)
theorem bMp:aQz (r9<n->n<=29->aQA (r9+([]:Qr).length) aIo (afX pos [] Ó)=true):=fun {es} h hl hn=>by
 have all:aQz ((azi _).all (!·.1)=true):=fun {es} h=>by have:=aZN (X:=X) (pos:=pos) h;rw[List.all_eq_not_any_not,aaA]
 rw[š aQA (all h)];show bW (true&&true) (ü (r9+0+0) 30);rw[nX]
theorem bMq     (a : (X8 == J0) = true) (c : aQA (r9 + ([] : Qr).length) aOh (afX pos [] env) = true) : Fp (aiU m es) = (do
   let ov ← Fp (c_ np)
   asz apos.atName
   let (f, bMr) ← E5 [ov] (aI9 ov m (do return (← importBound (c_ np) env).getD true))
   callWith pos f bMr aOh (afX pos [] env)) := by
 have b : methodCallPos true (c_ np) env apos pos = pure pos := by unfold methodCallPos; simp [a]
 rw [arm_eval_Call];show _ = _;congr 1;funext ov;congr 1;funext _;unfold methodCall;rw [c, b];simp only [pure_bind];rfl
theorem bMs(b:aiV)(p:PV np ta)(c:Kd)(g:XI m f)(F:aak f sp)(o:kF)(r:G7) :
  PE X (aiU m []) (bvq C m sp ta anV):=by
 rw[bgb i (p d s i H _ I h) b rfl Đ H1 e j v,Qi u j,eS (brh e v c g l ?_) (PySem.W.callWith_K0 e.Op g.kp (aEh (vs:=nB) F o r .nil an0 e (atw .nil) q))]
theorem bMt(g:aiV)(i:Ą dW<20)(E:PV np ta)(c:Kd)(o:XI m f)(F:aak f sp)(B:kF)(J:G7)(K:Ft)(b:(jz).any mF=ă) :
  PE X (aiU m dW) (bvq C m sp ta t):=by
 rw[bgb j (E d s j H _ I h) g b i M v z L,gf (Qi u z) (brh v L c o l ?_) (Mp b),eS (aOj aOi o.kp (iA (K pos d s1 j M _ v q) us s2 w H2 p r A (aD p.Op)) (bf b.1) (aZN b.2)) (aEh (vs:=Ŝ::w) (dvs:=[]) (ds:=[]) F B J .nil an0 p (atw r) (Ć aN A))]
universe E_
section
variable {X:Cx} {δ:List Sv} {k:Nat} {fa C:Addr} {fd:FuncData} {ps:List Str} {x n:Str} {np pos apos:Pos} {es:List Expr} {f:List DV->Option Ou} {i:Nat} {l:List (DV×Cl)} {o:Rm} {p dx:Nat} {t:Str} {k0:Int}
def bMu(X:Cx)(C p dx:Nat)(t:Str)(H:Hp)(O W:Ň)(Q:VK):Ž Rm
 | dt s=>bf6 aOV
theorem bvr(d:aQC)(c:aQB):([(m7,a),(qO,b)]:Qf).lookup n=none:=by
 rw[jx,bE d,bv,jx,bE c];rfl
theorem bvs{oA:Fa Rm}(hv:tO np)(c:Kd)(hm:XI n fa)(Y:aQC)(U:aQB)(j:aiV)(I:B.length<20)(fo:aQI f)(Z:kF)(h:G7)
  (hi:uw s) (ha:Mn B (.ok l)) (hl:B=[]->l=[]) (N:B.any mF=ă) (hs:Ca) (L:∀a A,vj s a A->∃dx,A=GT k0/\GU/\bge=ā aaY) :
  PE X (aiU n B) (Ş w (∃O W,ajl w/\∀a dx,Mq w a->Cz->aQH->aQG aaY)):=by
 have p:∀{w:St} {H y:Hp} {O W:Ň} {Q:VK} {E:Ŕ} {a dx:Nat},ajl w->Ú y->axk H y l E->Cz->aQH->GU->bge=ā aaY->aQG aaY->aF1 X.D C f (Ŝ::E) y Q E0:=fun {w H y O W Q E a dx} R sm g r m F L k=>by
  have J:=ajR;have up:ũ (se y) (bA ((O++aQF)++[a]) y):=mW fun b h=>by
   rw[bgd];rcases h with(h | h) | h
   ·rw[ŝ h]
   ·rw[Í h.1]
   ·rw[Ĉ h (ķ r)]
  have dn:∀S,aaC ((O++aQF)++[a]) S (se S):=fun S=>mW fun b h=>by
   rw[bgd,yP h]
   ·rw[agq h]
   ·rw[eQ z a]
    ·rw[Í z]
    ·rw[ŝ (Kv h z)]
  refine⟨O++aQF,a,dx,t,k0,E,br,aaY,rfl,Ĝ b h,?_,F,MA m,lu (g.xS J hs) up,L,?_⟩
  ·refine J.xY b ?_;simp only[C4,aQE]at h ⊢;rw[yP h]
   ·rw[ŝ h]
   ·rw[Í h.1]
  ·rw[ir z ZQ]
   ·exact Sz a r z
   ·rw[aQD (yh z)]
  ·revert k;cases aaY with
   | ok d s=>exact fun k v H' k' q1 q2 q3 q4=>k v H' k' q1 (iy (q2 b o (sm.wo b o e))) q3 (q4.mono (dn H'))
 cases B with
 | nil=>
  have:=hl rfl;rw[fG this (bgc (bMs (pos:=pos) (apos:=apos) j hv c hm fo Z h)),eN r1 ⟨Ŝ,K,a,dx,_,rfl,m,bvr Y U,p R GW .nil r m M F (k a dx K r m)⟩]
 | cons e B=>
  rw[bgc (bMt (pos:=pos) (apos:=apos) j I hv c hm fo Z h ha N)];rw[eN r1 ⟨Ŝ,K,a,dx,_,rfl,m,bvr Y U,O,W,R,fun E y s1 g1=>p R s1 g1 r m M F (k a dx K r m)⟩]
universe E_
theorem bMv{C:Nat}{G:Gs}(hv:tO g)(c:Kd)(n:XH m7)(m:XH qO)(p:rR)(hi:uw s)(hd:au8=kY) :
  iT (Bt (c_ g) (İ b qO m7) apos) Rk:=by
 refine(bEc hv rfl).weak (ń σ H Q (eg k));rw[MT a ob r l e2 j hi];obtain⟨⟨c0,q1,q2,t,o⟩,f,⟨h,_⟩,g⟩:=bvm hd;have e0:=aF2 f;subst e0 g;have h:c0=C:=h.trans p;rw[fG h (azf r k' h1 h2 h3 h4)]
 ·cases e
 ·rw[bgg];have e4:t=_:=e4;have e5:o=_:=e5;subst e4 e5;have v:C=C':=azj e1;subst v;subst h4;cases b with
  | true=>exact bgf (ć o) m IT
  | ă=>exact bgf k_ n (aY5 h3)
universe L2
namespace L2
open PySem PySem.Spec PyProof.Rows
theorem bMw(h:aoD e ps=true)(c:ad=bo):XU (bdk e b sc cl Ġ Ġ d pm none cd f) ⟨a,[]⟩=afS a:=by
 revert c;refine btI h (ġ x y c);obtain⟨u,v,rfl⟩:∃u v,a=[u,v]:=by
  cases a with
  | nil=>cases c
  | cons u r=>cases r with
   | nil=>cases c
   | cons v r=>cases r with
    | nil=>exact cj u v
    | cons _ _=>cases c
 rfl
structure bvt(C:OG)(sc:Ξ):Prop where
 kind:XW
 co:afZ
 gen:afY
 nd:C.N.Nodup
 len:ahG<=RB
 par:∀x∈Cv,aeW
 Eo:awS
 jT:∀i x,C.np<=i->i<ahG->lV C.N->ajK
 IE:aNk ß=Co
theorem bvu:bgi
 | [],_=>aaR
 | x::r,h=>bgh (bvu h.2)
theorem aZO(h:aQJ k d=true):aoD k Cv=true/\bvt C sc/\d=aNl/\En aNj Y3 bd=true:=by
 rw[on aFu (bgj h u r q p o n h7 m l c j g f)];refine⟨u,⟨r,q,p,bvu o,n,m,l,fun i x a b e=>j x ?_,g⟩,c,f⟩;rw[ľ c (kJ (i:=i - C.np) ?_),atz Ă,akC,ź (C.np+_=i)];exact e
def bvv(D:Dm)(base:Heap)(Ï:ng)(O:Ň)(H:Hp)(C:OG)(fn bl cl:ğ)(cs:Ħ)(f:Addr):Prop:=
 ∃q pr bd sc AS cc l ws c o,aQM/\aQL=true/\azl cc l/\wU zJ cs ws/\Ci=C.nc/\(awU ZN) /\
  (bar C.N C.np (aaZ x)) /\
  aQK/\(aaZ ß=ū/\azk/\iu=wy akD)/\xh (aeT c=none/\c∉XR)
def bvw(P:aB)(w:ņ)(K:ĝ)(mg:bY)(base:Heap)(C:OG)(fn bl cl:ğ)(k:Nat)(Fc:pM Ou):Prop:=
 ∀(A:bJ) (Ï:ng) (s:Ĭ) (H:Hp) (us:Œ) (vs:Ŕ) (Q:VK) (E:XK) (O:Ň) (f:Addr) (cs ds:Ħ) (d:DV),ajL->Fs->vL->LW ->
  bvv C6 base Ï O H C fn bl cl cs f->ŧ=C.np->bdo->Fc Hm=k9->bdn ->
  ax9 us VO
universe L2
namespace L2
open PySem PySem.Spec PyProof.Rows
section
variable {X:Cx} {δ:List Sv} {pos p:Pos} {re:Re} {k:Nat} {x:Str} {pr:Arguments} {bd:List Stmt} {sc:Scope} {C:OG} {fn bl cl AS:List Str} {cs:List DV} {fr:List Nat} {pins:List (Addr×Obj)} {σ:St} {H:Hp} {s:Shared} {O W:List Addr} {f:Addr} {q:Str} {cc:List (Str×Addr)} {l:List Addr} {F:List DV->Option Ou}
theorem bMx(I:Ô)(co:aQN fn bl cl k F)(hr:V6 k X.A)(df:aQM)(A:aQL=true)(S:azl cc l)
  (J:bgk) (hl:aQK) (n:xh ayd) (N:aaZ ß=ā c0) (a0:ae0 c0 akD)
  (a4:wu=C.nc) (E:azm C.N C.np) (U:MB) (R:aai)
  (a1:ŧ=C.np) (rl:SG CA ds vs) (ru:aiB Z) (hF:F Hm=k9) (hd:CS) (hQ:∀v p,Ú p->si p d v->Q v p) :
  gY (ats Z) afc EE s:=by
 have K:ajE:=⟨TD c h (qP x e (hl c h) (JK (J x c e))),fun c h=>by
  rw[ň x e (hl c h) (Ĩ v o g d (ase (J x c e)))];exact⟨o,v,g,d⟩⟩
 rw[gX (aOY K.same) ws w1 w2 w3 (aFO R U)];have oc:aan CP (b∉O++W):=fun {b} hb z=>by rw[rf o' B Y (xY b z) (K.none b hb)]
 rw[Ė o0 g0 d0 a0];have ca:bvv X.D vH kj n_ aap C fn bl cl cs f:=by
  refine⟨q,pr,bd,sc,AS,cc,l,ws,c0,o0,df.mono same,A,S,w2.mono aax,ŷ w1 a4,Ĝ c h,ajZ y,hl,⟨N,IU (MU _ _ N) g0,d0⟩,n⟩
  ·rw[dO (Ĩ o v g d' (K.vn c h)) o v (IU h g) d']
  ·rw[bfd wu w1 h2 hj,Ĩ y' B Y L (E i _ hj),aOX B,aOW a3 pf (a3 _ y v Y hv (ķ L)) M cx]
   ·have M:=M;rcases L with L | L<;>(rw[Ī L M M])
   ·have P:=S.jT (C.np+i) y (Ä mn) (hZ mn (av (aZO A).2.1.len)) h1;rw[ň c2 e2 (S.has y P) (EO (J y c2 e2) k2)];exact⟨cx,o,u,e2,IU (MU y cx e2) k3,k4,rv⟩
 have e0:=I.adn;refine Qo (wf (co X.A kj s _ Z vs (fun v p=>ax5 p/\si p d v) tR n_ f cs ds d hr (aOU K h (n c h) e0) ru ajU ca a1 (rl.mono aax) hF (ayW p g g)) (Qn m))
 ·rw[bdz B Y]
 ·cases r with
  | Bx e=>exact S_ m
  | ok fl=>
   cases fl with
   | ret u=>
    refine I.after (Q:=Q) (bdy K m p);have a2:xh (∃o,p c=ā (nY o c)):=TD c h (nh (tW o v g (K.vn c h)) o (MA (IU h g)));rw[ĺ (hQ v _ FK (aZf a2 hd z.2)) (aOS (K.none b w))]
   | next=>rw[eW m]
   | brk=>rw[eW m]
   | cont=>rw[eW m]
theorem bvx(I:Ô)(h:aQM):bdq:=by
 obtain⟨c',oc,u,vs,t,b,pm,c,T,a,_⟩:=h;exact bdp a
theorem bvy{l:bu}(h:callC a np cs l=ý):∃d,y9/\Ą br=np/\a mU (br++cs)=k9/\CS/\re=Rk:=by
 rw[cM callC]
 ·rw[ic z h]
  ·rw[sn d b]
   ·rw[jv nl];exact⟨d,z.1,Ć Ċ z.2,b,nl,rfl⟩
   ·cases h
  ·cases h
 ·cases h
def bvz(X:Cx)(δ:ē)(F:Ť)(C:OG)(cs:Ħ)(ta:TA)(at_:St->Hp->Ž Addr):TE:=Ş σ (∃f O W,at_ σ H f/\aai/\J9 vs (Ú H1/\∃ds d,aP3 ds vs/\ŧ=C.np/\F mU Hm=k9/\CS/\aOO H' H1))
theorem bvA(co:aQN fn bl cl k (FF mU))(hr:kF)(o:aQL=true)(S:X.Ok->azl cc l/\bgk/\aQK)(m:ayh a b l)
  (z:∀{a:Ã} {b:ar2} {H H':Hp} {s:Ĭ} {f:Addr},eT a b H' s->pF->at_ b H f->akE H' ß/\∃c0,aaZ ß=ā c0/\ae0 c0 akD) (n:aeZ ß)
  (L:wu=C.nc) (g:azm C.N C.np) (w:MB)
  (A:PA X dW P) (hs:fX) (K:xc):aQO (bvz X δ FF C cs P at_):=by
 rw[ji a b,Š f O W U R h h,ab (Ĩ df c0 M Y (z I GW U)) S v hl (S I.ok)];have B:=v _ _ M;have J:J1 (bZ (nP ß p)) u s1 (u=v5/\eT a b H s1):=by
  rcases n with n | n
  ·exact afe (aIp n B Y (cG I)) Đ
  ·exact afe (a31 n B Y (cG I) Đ) Đ
 rw[ľ (ĺ (SU (dH J (ġ u s1 t0))) (gn eu Z t0 eu)) (bds (bvx Z df) b H K)];obtain⟨vs,H2,F,r,sm,ds,d,g1,g2,g3,g4,g5⟩:=B0;rw[Ĩ E c2 N y2 (z F sm U),Ī M N N];refine aD (bvx F E);exact bMx F co hr.buB E o S v hl (m F) M y2 L g w (G' sm) g2 g1 r g3 g4 g5
theorem OR.un(u:JA c h')(d:akE H nm):akE c nm:=by
 obtain⟨p,i,o,e,t,a,g,b,T,n,m,l,k,j,r⟩:=d;exact⟨p,i,o,e,t,a,g,b,T,u.Iz _ _ _ n,u.Iz _ _ _ m,l,k,u.DU _ _ j,r⟩
theorem bMy(T:bvt C sc)(ok:X.Ok)(d:ajT):azl CQ so/\(∀x c,af1 CQ->qX)/\∀c∈so,∃x,af1 CQ:=by
 rw[mj g (Ą Cv=C.np) (hZ mn (av T.len)) ⟨⟨T.kind,T.co,T.gen,T.nd,Ń g,T.par,T.Eo,fun i x a b e=>T.jT i x (aaw g a a) (aaw g b b) e,Ĝ x h,fun x y c l k=>ok.inj x y c (adY d l).1 (adY d k).1,bdw⟩,fun x c h=>(adY d h).1,Ĝ c j⟩]
 ·have f:=gu h;rw[ň c e (d _ f rfl) (Į c (aoV d f e))]
 ·rw[uJ x c' f rfl (Gq j),fB (an1 d f)]
  ·cases z
  ·rw[Į x (aoV d z.2 z.1)]
theorem bvB(P:∀{c:TA},PA X dW c->aQO (bvz X δ i C cs c at_))(A:Mn dW b)(h:(rM fb (callC i C.np cs l))=ý) :
  aQO (Ş a (∃f,at_ a H f/\zN re a H Q)):=by
 cases b with
 | ok l=>
  rw[Š d z j m nl rfl (bvy h)];exact(P A).weak fun a H Q ⟨f,k,O,W,R,p⟩=>⟨f,O,W,k,R,O,W,R,fun vs H1 s1 n=>⟨s1,_,d,n.č Ι z,j,m,nl,bdr o⟩⟩
theorem bMz(L:buz X sc c P akF)(b:aoD pr Cv=true)(q:vK)(o:ŋ X.N ß)(n:tP ß=bh)(k:Loc TK ß)(p:X.fn ß=true\/agG ß=ki) :
  PS X (aM2 ß pr bd sc ß pos) (fun j e H=>∀f a,Ú a->aQ f->OR a ß akF pr bd sc CQ f->j.nx (e.set i akD) a):=by
 intro g s e H j I h;have l:qualnameIn Ó ß ß=akF:=uL qualnameIn n;have d:pr.defaults=[]/\pr.kw_defaults=[]/\annTrees pr none Ó=[]:=btI b fun x y=>Zo;rw[ľ (ĺ (PySem.W.nestDef_K d.1 d.2.1 d.2.2 ?_) l) (bJ3 I L fun f a s' w sm m r=>?_)];exact aD8 w q o k (v:=v5) rfl (fun s2 u=>⟨_,a,u,h f a sm m r⟩) p
universe E_
def bMA(G:Gs)(F:Ť)(X:Cx):Prop:=
 (∃c P,ax0=qM/\ajD pins σ Ô (aOw/\bct)) /\
 (∀x a,Py x=aR->aQP a=none/\a∉W5) /\
 ∀{δ:ē} {e:Expr} {es:aE} {pos p:Pos} {rs:Rs} {re:Re} {np nc:Nat},Mn dW rs->fX->xc->a70 (ā rs)=ý->lr (xg ß dW)
universe L2
namespace L2
open PySem PySem.Spec PyProof.Rows
def ao3(sc:yJ):Str:=İ (azn=bh) ß A_
structure bvC(K:ĝ)(w:ņ)(mg:bY)(gk:ag4)(a:Addr)(es:aJV)(n:Nat):Prop where
 mg:mg VU=ā Ŝ
 lk:iw a=ā (vy es n)
 lit:PySem.W.KeysLit eL Jv
 sy:Jw
 ks:bgl (gk.lookup k)
theorem bMB:FA (pv (∃a es n k i,Bu/\y=ag7/\aQQ g a es n/\g.lookup k=aV/\∀v,(∀mg H,Rep ⟨X.K,mg⟩ H i v)->Q v H)):=by
 rw[af8 b c d σ l j q];obtain⟨a,es,n,k,i,rfl,rfl,D,e,q⟩:=q;rw[Qa l h j (ĩ u v p o m (D.ks k _ e))];have f:=bgn (prog:=de) pz D.lk D.lit;exact tail_any awe slot_dict_getitem.lookup (bfE (aym k h) f (bgm p) ⟨v,H,tY,o,q v m⟩) hs
theorem bvD:yy agW (bgo c (c.lookup k)):=by
 intro b s σ H x y v u Q I g f q;obtain⟨a,es,n,k,rfl,rfl,D,e,q⟩:=q;rw[Qa f d g (đ r e (Fw e))];obtain⟨u,v,h,_,_⟩:=D.ks k _ e;exact wpAny_notIn_of (aym k d) D.sy (bgn pz D.lk D.lit) (gh (bgm h) (ac rg H tY q))
def DK(K:ĝ)(D:Dm)(G:Gs)(f:Nat)(fd:yA)(ps:ğ):Prop:=
 (∀ds,avh=KU->∃us dvs,aaX K us/\azd/\∀H,Sl dvs)
def bvE(G:Gs)(F:Ť)(X:Cx):Prop:=∃C:Nat,rK=(C:Int)/\Kd/\XH m7 /\ XH qO /\
 (Lh->∀m n,aM8->∃k fa fd ps,kF/\XI n fa/\G7/\aQI (F m)) /\
 (Gd->∀t j o,y_ xW akG=ĕ->∃k fi V' ad5 fa fd ps f,aJo/\X.mg x9 = ā Qd/\Mk X.K C fi/\Binds X.K V' ad5 []/\bgq VO k fi V' ad5 (aZM C)/\XI tA fa/\G7/\aQI f /\
  bgp)
structure Good(sg:Sg)(G:Gs)(F:Ť)(X:Cx):Prop where
 N:X.N=sg.N
 nd:vK
 bvF:∀x,aFq sg x=true->W0
 bMC:∀x,aiS x=true->nj
 loc:∀x,adM sg x=true->EX/\EW
 bMD:∀x,Cp x=ki->QG=ki
 vn:∀x,(EN (Cp x))->EN QG
 calm:bG
 hu:CL
 fns:∀f x,ĳ Cs f x->∃k fa fd ps,kF/\yl=ayi/\Qq fa=true/\G7/\aaj /\
  ayj Mo/\DK X.K X.D G f fd ps
 blt:lU x LP yl
 dk:∃a es n,ahh\/aQQ G.gk a es n
 con:∀x d,aLq=kY->∃u v,yl=Δ/\cu/\∀H,axv
 own:sg.lp=true->afn
 st:GH=true->kj=Ó::Px/\X.env.frame=ā jf/\X.ex=[]
 ad6:K1->(Rn=Cs/\G.II=LP/\G.IJ=Si)/\(∃k,kF/\bgr Cs LP Si k yZ/\∀C,aa0->aQN Cs LP Si k (F mU))/\(GH=true->∃c P,ax0=qM/\bdf/\(P,aui++ao3 sg.sc)∈IA X.K/\(Cp ß=bh->Ix akF=true))
 cos:∀pr bd sc AS,sg.co pr bd sc AS=true->∃C,aa0/\aFu C Cs LP Si pr bd sc AS=true
 i6:sg.lp=true->GH=ă->bMA G F X
 rd:uo->bvE G F X
theorem OU:bgi
 | [],_=>aaR
 | x::r,h=>bgh (OU h.2)
theorem aF4(g:C7 m)(h:aFs m f fr sc tg=true):aXm X.N f sc TK fr/\ayw/\aPx:=by
 rw[eI aFs];simp only[ĥ,wQ,ř]at h;obtain⟨⟨⟨⟨⟨⟨B,A⟩,o⟩,z⟩,n⟩,w⟩,v⟩:=h;have d:∀(j i:Nat),ĳ fr j _->∃x,ĳ f j x/\lV m.N/\agw:=fun j i e=>by
  have l:j<aiv:=ŗ n (jh e);have r:(aV,f[j])∈fr.zip f:=xj (ĺ (kJ (i:=j) ?_) aQR) (Į e (Õ l));have q:=w _ r;rw[dO (Cq ZK q) _ (Õ l) q.1 q.2]
 refine⟨⟨A,OU o,OU z,n,ġ j i e,ġ y s u⟩,Ý j k i E C,B⟩
 ·rw[dO (Ĩ x a b c (d j i e)) x a (Ć g.N b) c]
 ·rw[JD (v y s) (į u)];simp only[pL,ř]at q;exact g.vn _ q
 ·rw[tW x a b (d j i E),tW x' H p (d k i C),Ī b p p];exact aWT (OU o) a H
theorem bvG(g:C7 i)(h:aFs i f fr sc tg=true)(C:Addr)(b:jw)(c:Ĭ)(d:Hp)(fp:Ň):aQU f pB i.fn i.bl i.cl F bgt:=by
 obtain⟨S,_,_⟩:=aF4 g h;have look:∀x,aQT=Ĥ tL k (Bj (k==BE&&ar0 == Et&&tP x==bh) Ky k):=fun x=>aXl;have one:∀x k,tL=CI->k ≠ Qs->aQT=CI:=fun x k e j=>by rw[look,e,uf,Ř,ir z (wZ ř z)];exact j z.1.1
 have two:∀x,ajK->EN aQT:=fun x e=>by
  rw[look,e,uf];split
  ·exact ŵ
  ·rw[Í rfl]
 refine bgs rfl S.nd (qp x) (qp x) (qp x) (fun x a=>TL) (qp x)
 ·rw[akJ a]
  ·rw[ŝ TL]
  ·rw[tU TL]
  ·rw[Í (two x a)]
 ·rw[akI a TL]
 ·rw[akH a,aIq]
  ·rw[aQS TL]
  ·rw[Į (ķ TL) (ı (z_ (tL==bh) true a))]
 ·rw[aIq]
  ·rw[ŝ TL]
  ·exact two x a
theorem azo(g:C7 a)(h:Ek a i x=true):qY/\W0/\jj/\asj:=by
 rw[on Ek (aQV h),dO (qu e d c b h) (zr g.N) (g.bvF x d) (bE c) (bE b)]
theorem bME(g:C7 a)(h:aYG a x f=true):(∃p,f=c_ p)/\nj/\JV:=by
 rw[on aYG (Cq ZK h),gc (cq d c b h) (Ej d) (Aa x c) (g.blt x b)]
theorem aZP(g:C7 b):∀(is:ė) (es:aE),r9=LN->(a9T fun p=>Ρ (qg p.2) bI (b.N[p.1]? == bI&&adM b x) none ă)=true ->
  asw (aoX is)/\asx=LN/\aIB
 | [],[],_,_=>(Cc bC8)
 | [],_::_,h,_=>bV
 | _::_,[],h,_=>bV
 | i::is,jz,c,h=>by
  rw[bfS,aNC,ĥ]at h;rw[ň a d h (Ė A B C (aZP g is es XX d)),Φ a]
  ·rw[bgv a];have l:=TN a;refine iM (bC9 (bgu a) A rfl) ?_
   ·show asx+1=LN+1;rw[B]
   ·show aMI (_::azp es);rw[List.findIdx?_cons,C];rfl
  ·cases a
theorem aZQ(g:C7 b)(h:OO b tg a=true):PG X a MJ:=by
 cases tg with
 | one i=>
  rw[on OO GZ]
  ·rw[bgv h];have l:=TN h;exact bgu h
  ·cases h
 | many c=>
  rw[on OO GZ]
  ·rw[v4 d q (Ė k p rfl (aFo q))];rw[ĥ,ĥ,ř]at h;rw[gj A B C (aZP g c d h.1.1 h.2) (bqX sr A B C)]
  ·cases h
section
variable (G:Gs) (F:Nat->List DV->Option Ou)
def SE(m:ME):Prop:=akK e Expr r Re awO (œ m) Û (axi r)
def ST(m:ME):Prop:=akK e Expr r Rt awO (fy (œ m)) Û (SN e r)
def SI(m:ME):Prop:=∀{sg:Sg} {X:Cx} {e tg:Expr} {δ:ē} {r:Ri},MV->ai0 m e=true->(aFt m=true->WU (AR tg))->bU (œ m)=Û->yv e (Tj r)
def bMF(ms:iN):Prop:=akK es aE r Rs qh (Gf ms) Û (Mn es r)
def bMG(ms:iN):Prop:=∀{sg:Sg} {X:Cx} {es:aE} {δ:ē} {pos:Pos},MV->qh=true ->
 (∀r,ahj ms=Û->iT (E1 .And es) r)/\(∀r,Mm (ahj ms)->Xf es (Mj r))
def bMH(ms:iN):Prop:=∀{sg:Sg} {X:Cx} {es:aE} {δ:ē} {pos:Pos},MV->qh=true ->
 (∀r,ava ms=Û->iT (E1 .Or es) r)/\(∀r,Mm (ava ms)->Xg es (Mj r))
def S1(m:ME):Prop:=SE G F m/\ST G F m/\SI G F m
universe E_
theorem S1.of(h:SE G F m)(hw:azq b)(i:∀b e env,Cu b m e=true->∀a,afd env a=as1 a e.pos):Ś m:=
 ⟨h,fun {b X e f r} g c q=>bI5 (fun z d=>h g c d) (i b e Ó c) q,bgw b f c d⟩
theorem S1.of2(h:SE G F m)(c:ST G F m)(hw:azq a):Ś m:=
 ⟨h,c,bgw a δ d b⟩
universe L2
namespace L2
open PySem PySem.Spec PyProof.Rows
def plainT(e:Expr):Bool:=if h:e.ctorIdx=3 then a9K fun o _ _=>(Ρ o .Not ă _ true)else !(qe 0||qe 5||qe 15)
theorem bvH(h:plainT e=true)(env:Env):∀b,afd env b=as1 b e.pos:=by
 cases e with
 | UnaryOp o a p=>rw[aPr o h]
 | BoolOp _ _ _=>cases h
 | IfExp _ _ _ _=>cases h
 | Compare _ _ _ _=>cases h
 | _=>rw[Xl]
section
variable {G:Gs} {F:Nat->List DV->Option Ou} {a b c:ME}
theorem bMI:Ś (.var i):=by
 rw[qv c a b]
 ·rw[azr a p k j f d];exact bIi k j f d h
 ·exact V2 a fun x p ζ=>mK b
theorem bMJ(f:∀a w e,aoG a w m e=true->aFn e=CI)(l:∀δ,œ m=hY)(hw:azq a)
  (i:∀{X:Cx} {δ:ē} {j:Nat} {pos:Pos} a e,Cu a m e=true->ajg k Rk):Ś m:=by
 refine bgy h
 ·rw[Ŷ j p rfl bgx (ŉ l)];exact i a _ b
 ·rw[gj j p rfl bgx (mK c)]
theorem bMK:Ś ĭ:=azs h ζ bVU
theorem bML:Ś rD:=azs h ζ bVV
theorem bMM:Ś .ę:=azs h ζ bVW
theorem bMN:Ś tZ:=azs (mI h).1 h (bIj (þ (ZJ (mI h).2)))
theorem bMO:Ś (.oS x):=by
 rw[qv c a b]
 ·have a:bW (qg e==bI&&aFr c x) (x != Sd):=a;rw[Bo (aQV a) p (Ej a.1.1) (mJ d k j h j),ĩ u v m f i (g.con x d k)];exact(bqI (Aa x a.1.2) m f (bE a.2)).weak (Z2 (p v H GW (i _)))
 ·rw[nv p (Ej (bn (mI (mI a).1).1)) (mK b)]
theorem bMP(k:Λ)(j:cQ):Ś avo:=by
 rw[TQ]
 ·rw[bgA,cA n (bIp (C8 k) azt h)]
 ·exact bgz
theorem bMQ(k:Λ):Ś (.neg a):=by
 rw[qv i b d]
 ·rw[azu o ea,gn c f b c];exact bIq (gE j k f) h
 ·rw[azu ζ ζ,gn c f b c];exact mK d
theorem bMR(i:Λ):Ś (.not a):=by
 refine TR k j b
 ·rw[azu o l,gn f d b f];exact bI7 (gE c i d) h
 ·rw[azu o l,gn f d b f];exact bJa (gE c i.2 d) h
theorem bMS(m:Λ)(l:cQ):Ś avn:=by
 refine TR q n c
 ·rw[bgB,qu k j i f c,cA k (bIY g.hu (fY m j) (fY l i) f h)]
 ·rw[bgB,qu k j i f c,cA k (bI2 g.hu (fY m j) (fY l i) f h)]
theorem bMT(v:Λ)(u:cQ)(j:TU):Ś (aLn k):=by
 refine TR x w f
 ·rw[bgC];subst s i;exact bI3 g.hu (fY v q) (fY u n) (C8 j) l h
 ·rw[bgC];subst s i;exact bI4 g.hu (fY v q) (fY u n) (C8 j) l h
theorem bMU(k:Λ)(j:cQ):Ś ahv:=by
 rw[TQ]
 ·rw[bgD];exact bIt (fY k n) (C8 j) l h
 ·exact azv
theorem bMV(m:Λ)(l:cQ)(i:TU):Ś (.sl a b c):=by
 rw[qv k d j]
 ·rw[bgE,cq q o n d];exact bIx (gE f m q) (gE f l o) (gE f i n) h
 ·exact azw d j
theorem bMW(k:Λ)(j:cQ):Ś (ahu b):=by
 rw[TQ]
 ·rw[aQW c (bHQ c (ġ ζ p2 c)),qP m l c (bIv (C8 k) azt h)]
 ·exact azv
theorem bMX(k:Λ)(j:cQ):Ś (aht b):=by
 rw[TQ]
 ·rw[aQW c (bHR c (ġ ζ p2 c)),qP m l c (bIw (C8 k) azt h)]
 ·exact azv
theorem bMY{m:Nat}(h:aM8):aQC /\ aQB:=by
 have:=kJ h;have all:∀y∈adN,y≠gU m7/\y≠gU qO:=ĸ;exact all n this
variable {ms:List ME}
theorem ao4:bgF a b xc
 | _,[],[],_=>rfl
 | _,[],_::_,h=>azx
 | _,_::_,[],h=>azx
 | a,m::b,jz,h=>by rw[eI Em];simp[ĥ,ei]at h;rw[SL,h.1.2,ao4 h.2];rfl
theorem bMZ{c:iN}(i:TV c):Ś (.lst c):=by
 rw[qv d a b]
 ·rw[eS (bta a (ġ es p a)) (bJh bgG h)]
 ·exact bta a fun ζ p ζ=>mK b
theorem bM0{c:iN}(i:TV c):Ś (Ē c):=by
 rw[qv d a b]
 ·rw[eS (aFh a (ń es k p a)) (bJi bgG h)]
 ·exact aFh a fun ζ k p ζ=>mK b
theorem ao5(h:Su):ů n:=L9
theorem bM1{a:Pos}{dD:DV->uh DV}(slot:Slot jn name m)(n:aJL m=aJK)(K:QB m r)
  (J:azy (dD g9 y) C j H' cl (r g9 [w] j Q))
  (M:fV l o) (L:jK rb) (g:aJJ=bZ o) (f:ju X8 a.line) (hs:fX)
  (h:(aY l fun x ζ=>axH (adC x) (Ĥ (dD x y) d (dt cl)))=CI):iT (aJI [e] a) k:=by
 cases c:l with
 | none=>rw[Mc]
 | some q=>
  rw[Κ c (M q c)];cases q with
  | ok s cx=>
   have i:(axH (adC s) (SA (dD s y) cl))=CI:=h;cases s with
   | str z=>
    rw[į (bgH g9)]at i;cases b:rb with
    | none=>rw[Ī b i i]
    | some q=>
     rw[ς b i B (L q b)];cases q with
     | ok dy cy=>
      rw[mJ d U S i S];refine((fun F t (N:J2 F) (P:fH t)=>brH PySem.F.plainAttrs_str slot n K N (lI P xQ zX) g (Η zX) f zX rfl) _ _ A B).weak (lq σ v H1 g1 ?_);have e1:=(g1.str Ι).1;rw[Kn e1 ⟨rfl,O,W,cN,ń w j E Z⟩];exact J z dy d U O W H j cy w Q (Mi (zQ E)) (Z.since s1) fun u H' I Y=>p u H' (Ų (zQ E) I) Y
   | _=>cases i
theorem bM2{X:Cx}:azy (an8 g9 y) b a e .č (∃(y f:Str) (c:Nat),(zR z)=ma/\[w]=[.str f]/\f.cps.toList=[c]/\Q (ć (OI c Q7)) a):=by
 rw[aQX b a j an8]
 ·rw[aah x' i m (Ţ m a_)]
  ·rw[v4 c l (ψ h ⟨z,i,c,rfl,Ń (g.str j).1,l,k _ a (QD a) IT⟩)]
  ·cases h
 ·cases h
theorem bM3{X:Cx}:azy (aXA g9 y) n m t Ŋ (bbb v (zR z) [w] v.cps.toList (m p=none) m):=by
 rw[aQX n m C aXA]
 ·rw[aah x' E I (Ţ I a_)]
  ·rw[sn c H]
   ·rw[jv B];refine⟨z,E,c,rfl,Ń (g.str C).1,H,B,fun p A=>ye (gP A) (adS C A ?_)⟩;have j:∀q∈rF Qw,Tw<=aJC:=fun q i=>by
     have e:=aFF c Qw;have:∀(l:ī _) (q:ė),q∈l->Tw<=Ą (oj l):=by
      intro l;induction l with
      | nil=>intro q i;cases i
      | cons a r o=>
       intro q i;cases r with
       | nil=>rw[Ę oh i (Ĉ i Ķ)]
       | cons b r=>
        show Tw<=Ą axq;rw[Ÿ,ŀ];rw[Fk i]
        ·rw[Θ e]
        ·rw[av (o q e)]
     rw[AY (this _ q i) e]
    have f:=fun q i=>û (j q i) (ao5 B);revert f;generalize rF Qw=L;intro f;induction L with
    | nil=>exact wS
    | cons q L o=>
     refine lj (zL (MK (ů q.toArray.size) (Ĉ b_ (f q Α)))) (o fun x F=>f x (ť F))
   ·cases h
  ·cases h
 ·cases h
theorem bM4:∀{ds:Ħ} {a:ğ} {b:Ŕ},Q8 ds=aR->Sl b->b=nT zR:=by
 intro ds;induction ds with
 | nil=>rw[aOl]
 | cons d ds ih=>
  intro b a h r;cases d with
  | str i=>rw[bb3];have q:=ih g c;subst f e q;rw[SH d];rfl
  | _=>cases h
theorem bvI(s:Str):∀a:ğ,Ą (my s a)<=(nT YA).sum+ad*F0
 | []=>cg
 | [x]=>by show cK<=_;simp
 | YC=>by have b:=bvI s Gx;show Ą (x++s++my s Gx)<=_;rw[axu,axu];simp only[Ö,C9,ŀ,MW,Hn]at b ⊢;omega
theorem bM5{X:Cx}:azy (aXB g9 y) e b f .č (bbc c (zR z) [w] (Qz b a (Kt zR)) (Kt YA) jt b):=by
 rw[aQX e b l aXB]
 ·rw[aah s' ds q (Ţ q a_)]
  ·rw[sn c j]
   ·rw[jv i,ĩ a xs p o n (g.lst l)];have m:=bM4 j n;rw[eN m ⟨z,a,c,rfl,Ń p,gm o,i,k _ b (QD b) (zL (ao5 (û (bvI z c) i)):si b _ _)⟩]
   ·cases h
  ·cases h
 ·cases h
theorem s_call(w:aa2):Ś (ł f ms):=by
 rw[qv j a d]
 ·rw[bgJ l,bgI,azA n o u v s x b.1.1];cases B with
  | nil=>cases A
  | cons y ys=>
   rw[aa1 c i];exact bJp fo s n (Aa x b.1.2) o u v (fun z m=>w g i m) (bE b.2) c.1 c.2 h
 ·exact azz d
theorem bM6(H:aa2):Ś (.bi f ms):=by
 rw[xk C B k x]
 ·rw[Ho (aa4 k K I k) ĥ k,cq J u a k,MX p d c J];cases K with
  | nil=>cases u
  | cons y m=>
   have i:Em C ms (y::m)=true->(∀q,MY ms B=fN->PA X (y::m) (dA X.D B q))/\mF y=ă/\m.any mF=ă:=fun z=>by rw[aa1 j z,υ (fun w n=>H g z n) j.1 j.2]
   cases f with
   | len=>rw[aa3 bJw boot_len]
   | min=>rw[aa3 (bJx sr (bL g.hu)) boot_min]
   | max=>rw[aa3 (bJy sr) boot_max]
   | sum=>rw[aa3 (bJA sr) bJD]
   | int=>rw[azB bJJ boot_int]
   | str=>rw[azB bJK boot_str]
   | tuple=>rw[azB bJM boot_tuple]
   | list=>rw[azB bJL boot_list]
   | any=>rw[aa3 (bJC sr) bJF]
   | all=>rw[aa3 (bJB sr) bJE]
   | sset=>
    have a:=a;clear i;revert u;refine aFe a fun e1 a=>adL a fun L v E a=>fA u;rw[ĥ,ĥ]at a;rw[MX p' s o a.1.1];cases v with
    | nil=>cases a.1.2
    | cons y' l=>
     rw[aa1 j a.2];cases l with
     | nil=>exact bJI sr d c s o (fun w n=>H g a.2 n) j.1 h
     | cons y2 yr=>
      have z:=bn a.1.2;simp at z
 ·exact adL k (akL ζ x)
theorem aZR(h:KQ x=true):∃t,ajB:=by
 have a:∀x∈aoe,∃t,ajB:=by
  intro x b;simp only[aoe,uH,Mv,S7]at b;rw[bcp b]
  ·rw[aa5 jm]
  ·rw[aa5 we]
  ·rw[aa5 jn]
  ·rw[aa5 Ò]
  ·rw[aa5 aC]
  ·rw[aa5 mq]
 exact a x (azC h)
theorem aZS:∀x∈aoe,EZ /\ jj:=by
 intro x a;simp[aoe,uH,Mv,S7]at a;rcases a with rfl | rfl | rfl | rfl | rfl | rfl<;>exact⟨ĸ,ĸ⟩
def bM7:Qv:=fun x xs H Q=>∃i,x=ĭ/\xs=[]/\yu (D' i)
theorem bM8(i:Int):Ĵ (Z4 i)=D' i:=by
 unfold Z4 D';by_cases h:i=0
 ·subst h;rfl
 ·rw[Ř eY,EG];rfl
theorem bM9:QB "int.bit_length" bM7:=by
 rw[Bo (gX (vP a xs us b c) i rfl rfl q h) t (b) (Ż c (PyProof.Rows.call_int_bit_length ⟨iJ,H,tY,by rw[←bM8];exact ce,q⟩))]
theorem bNa(C:Λ):Ś (.AG m a es):=by
 rw[xk z w b s]
 ·rw[ĺ (aYx b (ġ ef A b)) (Ab (ON b (ń k n u b)) ř b),aa6 K J f I h5 b];subst K;have o:Bv k (btG m)=bZ k:=by
   rw[pL]at f;rcases f with f | f
   ·rw[aQY l f B];rfl
   ·obtain⟨⟨a1,o1,b1⟩,l⟩:=Fw f;rw[đ B rfl (bHZ l)];rfl
  have h:(bgK m m)=Û:=h;cases m with
  | ID=>
   rw[jb]at h;cases c:Hq w with
   | none=>rw[Mc]
   | some q=>
    rw[c]at h;cases q with
    | ok d dc=>
     rw[jJ j (aED .ID d) r aED]
     ·rw[CD i _ j];exact((fun t (E:PE X k t)=>bET PySem.F.plainAttrs_int PySem.F.slot_int_bit_length PySem.F.type_int_bit_length bM9 E o (Ć ř I)) _ (C.1 g J c)).weak fun σ H Q ee=>⟨O,W,R,fun v M s1 L=>by
       have hv:=L.int Ι;rw[eN hv (ac rfl i rfl (qo M IT))]⟩
     ·cases j
  | index=>rw[MZ]at h;cases h
  | get=>rw[MZ]at h;cases h
 ·exact aYx b (j_ ζ (mK s))
theorem bNb(o:Λ)(m:cQ):Ś aho:=by
 rw[qv j c f]
 ·rw[aQZ c eb k ea i,Cq ei c];obtain⟨⟨⟨⟨⟨w,v⟩,u⟩,s⟩,q⟩,p⟩:=c;rw[ş w (aQY l u np)];exact bJn g.hu (fY o v) (fY m q) rfl (Ć ř s) (bf p) h
 ·exact azD f
theorem bNc(k:Λ)(j:cQ):Ś (.OD a b):=by
 rw[TQ]
 ·rw[bgD];exact bLZ aQ0 (fY k n) (C8 j) l h
 ·exact azv
theorem bNd(m:cQ):Ś (ahn b):=by
 rw[qv f a d]
 ·rw[akM a ob ek p,cq c o n a,TW c k j];exact bL5 aQ0 (M7 k j) (gE l m o) n h
 ·exact azw a d
theorem bvJ:∀{a:pA Nat},a.lookup x=Ro->(x,f)∈a
 | [],h=>bV
 | (y,g)::a,h=>by
  rw[aJT]
  ·rw[jv q,Ĉ (bn q) Α]
  ·exact ť (bvJ h)
theorem bNe(C:aa2):Ś (avc ms):=by
 rw[xk J u a s]
 ·refine aa4 a W K a;rw[ĥ,ĥ,ĥ]at a;rw[qu o U S n a,azr o p s1 B A v];cases W with
  | nil=>cases S
  | cons y ys=>
   rw[aa1 b n,aa7 (aLi (MY ms u) u[i]?) Û bsf]
   ·rw[sn L j]
    ·rename_i f Q;have l:=bn (zV U _ (bvJ Q));rw[azA d N P R O L l];exact bJr fo O d (Os s1 B A v) N P R j bgL b.1 b.2 h
    ·cases h
   ·rw[Gp m cs j a_]
    ·rename_i w;obtain⟨⟨I,H,E⟩,⟨k,d,M,_⟩,_⟩:=g.ad6 TX;exact bJ8 M d (Os s1 B A v) (w.1.trans I) (w.2.1.trans H) (akN.1.trans E) j bgL b.1 b.2 h
    ·cases h
   ·cases h
 ·exact azz s
theorem aZT{a:eH}(h:aoC a ps=true):aOz a env=aao:=btH h (JB ζ rfl) (JB ζ rfl)
theorem bNf(ha:Λ):Ś (.aEs a N d E fr):=by
 rw[xk L K f W]
 ·rw[bgX ht f,bgW f M,ş c2 (MX px U S c1),Ę ĥ f (đ J c9 f)];have a0:=J;rw[aRa J l1 u Q O,jJ h (aoi G F (Hq K) N d E (xV K fr)) r aoi]
  ·rw[sn cs B]
   ·cases h
   ·rw[bgV R x];obtain⟨⟨w1,w2,Z⟩,⟨k,hr,C,_⟩,wt⟩:=g.ad6 x;rw[bgU L.sc];have n:∀y∈M.names,FL->tP y.1=bh/\X.fn y.1=true:=fun y l s=>by
     rw[azE (O y l) s];have Y:L.sc.lookup y.1=bh:=bn z;have C:=bgT;rw[bgS C];exact aQ9 C
    have T:aQ8 M:=by
     rw[aQ7 ln (u y ?_),aQ6 ln]
    have o:bgR:=fun j i H=>by
     rw[aQ5 H A l,aQ4 H l,dO (Ĕ q1 (Q _ hz) q2 (u _ (kJ l))) _ (Õ A) aQ3 (n _ (gu q2) rfl).1]
    cases p:Hq K with
    | none=>rw[ŉ p]
    | some ra=>
     rw[Ļ p h (bLc (m:=bgQ E) (fr:=fr) (P:=P) (c:=c) C hr w1 w2 Z U S c5 (bgP l s (n y l s)) (aZT l1) T (fun I=>bgO l s (n y l s)) ((aQ2 l1 M.names E w1 w2 Z)) l7 (bgN H (o j i H)) B (aQ1 p) h)]
  ·cases h
 ·rw[bgM f W]
theorem bNg(i:TU)(o:Λ)(n:cQ):Ś ahm:=by
 refine TR s q f
 ·rw[bgY,cq m l j f];exact bJe (C8 i.2) (fY o l) (fY n j) h
 ·rw[bgY,cq m l j f];exact bJd (C8 i.2) (fY o.2 l) (fY n.2 j) h
theorem bNh(A:cQ):Ś (.an3 b):=by
 rw[xk u m c l]
 ·rw[akM c L o s,cq d C B c,aRb d p,cq rfl I E d];have h:akO b m y (aXR G y)=Û:=h;cases j:Ŀ b m with
  | none=>rw[ŉ j]
  | some rb=>
   rw[Ę j h (đ y cy rb)];have h:=h;cases y with
   | str k=>
    have h:=h;rw[mJ i f z h z];obtain⟨a,K,n,q | D⟩:=g.dk
    ·rw[W8 q]
    ·exact(brA bMB (bgZ I (bE E)) (A.1 g C j) (baX o B)).weak (lq σ w M J ⟨a,K,n,k,i,rfl,(J.str Ι).1,D,f,fun v hv=>qo M (hv _ _)⟩)
   | _=>cases h
 ·exact aFi c fun L o s ζ=>mK l
theorem bNi(m:Λ)(l:cQ)(i:TU):Ś (.ads a b c):=by
 rw[qv k d j]
 ·rw[bgE,cq s o n d];exact bIS (gE f m s) (gE f l o) (gE f i n) h
 ·exact azw d j
theorem bNj{b:Bool}:Ś (.fld i b):=by
 rw[xk l k a f]
 ·rw[Ho (ON a (ń o n A a)) ř a,gn H c a H,azr c p s1 v u m,aa7 (aES G b k[i]?) Û aES]
  ·rw[v4 s B (mJ d j E h E)];obtain⟨C,r1,z,y,w,_⟩:=g.rd (bvn j);exact bMv (Os s1 v u m) z y w r1 B j
  ·cases h
 ·exact ON a (akL ζ f)
theorem bNk:Ś avg:=by
 rw[qv sg w I]
 ·refine aoF w fun x n np Z pos bNl h1 P f j w=>?_;obtain rfl:=aRd w;rw[bg4 P,aa7 aLk Û bse]
  ·rw[sn s N]
   ·rw[ic E h]
    ·rw[Gp d s' hF a_]
     ·rw[jv he];have:=bMn he;rw[fG this (bg3 E w2 w3 w4 P),ĩ p L t B es (bvo r1 E.2),Kn es ((bg2 B (oA:=aS ζ (dt (OM C p L t B))) aRc r2 w2 n1 n2 f j w4 w1 w3 N (aOe σ) Qh rfl rfl (ġ a ob ok)).weak fun σ H Q (eg kk)=>eg (fun a K e1 e2 Y v H' k' c q2 q3 q4=>?_))]
      ·rw[jk A y M (IX ok) (eN A ⟨L,y,M,hF⟩)]
      ·rw[ab (MT a' ob f0 U f2 S N) A y M (IX f0),jc A e1 U];rw[S,y]at Y;have J:K=L:=by
        have q:=dN Y;rw[bg1];exact q.symm
       subst J;have ek:k'=B:=by
        rw[bH OM c,aze c,azF];rw[azF];rw[azF];rw[azF,SB c c _,aze c];exact c.symm
       subst ek;refine kk v H' FK q4;rw[eQ z a]
       ·subst z;rw[S,y]at e;rw[Ż e q3]
       ·exact q2 b o bga
     ·cases h
    ·cases h
   ·cases h
  ·cases h
 ·exact aoF w (bg0 (mK I))
theorem bNm(k:Λ)(j:cQ):Ś ahr:=by
 rw[TQ]
 ·rw[bgA,cA n (bIT (C8 k) azt h)]
 ·exact bgz
theorem bNn(w:Λ)(v:cQ):Ś avf:=by
 rw[aRj]
 ·rw[aRi,aRh];subst E;have k:Bv m "find"=bZ m:=by
   rw[awt]
   ·rw[aRg]
   ·rw[aRf]
  exact aRe PySem.F.slot_str_find PySem.F.type_str_find bIC bM2
 ·exact azD l
theorem bNo(w:Λ)(v:cQ):Ś ahq:=by
 rw[aRj]
 ·rw[aRi,aRh];subst E;have k:Bv m "split"=bZ m:=by
   rw[awt]
   ·rw[aRg]
   ·rw[aRf]
  exact aRe PySem.F.slot_str_split PySem.F.type_str_split bIE bM3
 ·exact azD l
theorem bNp(w:Λ)(v:cQ):Ś (YS b):=by
 rw[aRj]
 ·rw[aRi,aRh];subst E;have k:Bv m "join"=bZ m:=by
   rw[awt]
   ·rw[aRg]
   ·rw[aRf]
  exact aRe PySem.F.slot_str_join PySem.F.type_str_join bIF bM5
 ·exact azD l
theorem bNq(N:Λ):Ś (.fmt a):=by
 rw[xk K E m w]
 ·refine bts m (ġ v S m);have h:akO a E d (Ĥ (aXS d) x (qm ő))=Û:=h;cases o:Hq E with
  | none=>rw[Ī o h (h)]
  | some L=>
   rw[Κ o (N.1 g m o)];intro b s C H Q I ee;refine FormattedValue_plain ?_;cases L with
   | ok d c=>
    rw[mJ y f P h (P),ax aXS f]
    ·rw[ic i f]
     ·rw[fW M (f)];have hd:as5<1920:=by
       rw[bbd]
       ·rw[z];decide
       ·exact GX (ajh z M)
      refine bg7 ĭ;rw[bg6];have n:=j.int ajR;rw[ş n (nv t r1 (formatField_int_small hd (bg5 (int_text_fits hd))))]
     ·cases (f)
    ·rw[ľ (fW y' (f)) (bg7 ma),bg6,gn n J (j.str ajR) n,nv t r1 (formatField_str (fun t' tk=>bg5 J) J)]
    ·cases (f)
 ·exact bts m fun v S ζ=>mK w
def SJ(G:Gs)(F:Ť)(ms:iN):Prop:=∀{sg:Sg} {X:Cx} {es:aE} {δ:ē} {l:bu} {acc x:Str},MV->qh=true->Gf ms=ug->VY acc l=bI->acc.length<=Ū ->
 asg Q VK (zN au7 σ H Q) (joinParts acc (evalEach es Ó)) afc
theorem bNr:SJ G F []:=fun {sg X f δ l a x} g d h e c b s σ H Q I q=>by
 cases f with
 | cons _ _=>rw[Hr d]
 | nil=>
  rw[wW Ed h h,Mu aOb (joinParts_nil (Bf agR (aNH (ao5 c))) (ao5 c))]
theorem bNs(M:Λ)(L:aRk):SJ G F (a::ms):=fun {sg X B A l w x} g j h i hl b s z H Q I q=>by
 cases B with
 | nil=>rw[Hr j]
 | cons e B=>
  rw[jH Em j (Hs j),eI Ed];cases m:Hq A with
  | none=>rw[ŉ m]
  | some E=>
   rw[m]at h;cases E with
   | ok d c=>
    cases hs:MY ms A with
    | none=>rw[ŉ hs]
    | some rs=>
     rw[hs]at h;cases rs with
     | ok l'=>
      rw[Ţ h (ax VY i)]
      ·rw[fW o o]
      ·rename_i y c' r o;cases o;rw[Φ i]
       ·rw[ľ (fM J aOb) (joinParts_cons (Fq ((M.1 g j.1.1 m) b s z H (fun v k=>Ú k/\uD H k _ c v) I (eg (ayW k n n))) u)),Š v S P r1 sm n B0,gn K hz (n.str ajR) K,đ t rfl r1];have f:Ą (w++y)<=Ū:=Ć axu J;rw[Į (ao5 f) (L g j.2 hs i f b s1 z S Q P ⟨O,W,G' sm,fun v k C N=>p v k (Ts C) N⟩)]
       ·cases i
      ·cases i
theorem bNt(m:aRk):Ś (.fst ms):=by
 rw[xk k j a f]
 ·rw[Ho (bte a (ġ d p a)) aX a];have h:zg=Û:=h;cases c:MY ms j with
  | none=>rw[Mc]
  | some rs=>
   rw[c]at h;obtain⟨l⟩:=rs;rw[mJ x o n (h) n]
   match d,a with
   | e1::e2::d,a=>exact fun b s i H Q I q=>JoinedStr_many (m g a.2 c o Đ b s i H Q I q)
 ·exact bte a fun d p ζ=>mK f
theorem bNu(w:aa2):Ś (.adr f ms):=by
 rw[qv j a d]
 ·rw[bgJ m,bgI,azA o s v hb u x b.1.1];cases B with
  | nil=>cases A
  | cons y ys=>
   rw[aa1 c i,jJ h (aET F f _ _) r aET]
   ·cases h
   ·rw[v4 E l (ĩ us C J I H (dk E l))];exact bMh fo u o (Aa x b.1.2) s v J I H (fun z n=>w g i n) (bE b.2) c.1 c.2 h
 ·exact azz d
theorem bNv{K:ME}(ha:Λ)(hb:cQ):Ś (aLl d K fr):=by
 rw[xk O J l W]
 ·rw[pC ht l (mI l) (btp l fun ef ea eb el pos l=>?_)];refine V2 l fun x p l=>btg l (Ý pr bd Q lp l);simp only[ĥ,ř,akP,ne_eq,ei]at l;obtain⟨⟨⟨⟨⟨⟨⟨⟨c1,c2⟩,c3⟩,c4⟩,c5⟩,c6⟩,c7⟩,M⟩,c9⟩:=l;have a0:=M;rw[aRa M l1 B S R,azA hr hm hk hB hl x c1,jJ h (aXT G F f (Hq J) (Ŀ b J) N d K (xV J fr)) r aXT]
  ·rw[sn cs H]
   ·cases h
   ·rw[bgV U C];obtain⟨⟨w1,w2,w3⟩,_,wt⟩:=g.ad6 C;rw[bgU O.sc];have o:∀y∈Q.names,FL->tP y.1=bh/\X.fn y.1=true:=fun y n A=>by
     rw[azE (R y n) A];have Y:O.sc.lookup y.1=bh:=bn z;have Z:=bgT;rw[bgS Z];exact aQ9 Z
    have T:aQ8 Q:=by
     rw[aQ7 ln (B y ?_),aQ6 ln]
    have s:bgR:=fun j i L=>by
     rw[aQ5 L E n,aQ4 L n,dO (Ĕ q1 (S _ hz) q2 (B _ (kJ n))) _ (Õ E) aQ3 (o _ (gu q2) rfl).1]
    cases u:Hq J with
    | none=>rw[ŉ u]
    | some ra=>
     rw[Ļ u h (bKb (m:=bgQ K) (fr:=fr) (P:=P) (c:=c) fo hl hr (Aa x c2) hm hk hB (bE c3) c5 c7 (bgP n A (o y n A)) (aZT l1) T (fun I=>bgO n A (o y n A)) ((aQ2 l1 Q.names K w1 w2 w3)) l7 (bgN L (s j i L)) H (aQ1 u) (fun q hq=>hb.1 g c6 hq) h)]
  ·cases h
 ·rw[tH l (mI l)];exact btp l (asV ζ (mK W))
theorem bNw(M:cQ):Ś ahp:=by
 have E:∀{C:Sg} {X:Cx} {J:Expr} {j:ē} {r:Re} {p:Pos},C7 C->aFr C VU=true->VU ≠ Sd -> (∀z,Ŀ b j=ā z->PE X J (Tm j z))->akO b j y ave=Û ->
   ∃L K N,PE X J L/\PE X (nP VU p) K/\(∀u H Q,Tm j r u H Q->adk (bgo N (N.lookup k)) L K u H Q)/\∀d c,r=dt c->aOd:=by
  intro C X J j r p g i I M h;cases U:Ŀ b j with
  | none=>rw[ŉ U]
  | some rb=>
   rw[Ę U h (ň y cy rb (jJ h ave r bsd))]
   ·rw[sn k _]
    ·cases h
    ·rw[ic Y h]
     ·rw[jv hk];obtain⟨a,es,n,q | D⟩:=g.dk
      ·rw[Ŗ q Y]
      ·exact⟨_,_,G.gk,M _ U,bgZ i (bE I),lq u w H1 gy ⟨a,es,n,k,rfl,(gy.str Ι).1,D,hk,qo H1 adR⟩,fun d c q=>G8 q (aW ă)⟩
     ·cases h
   ·cases h
 refine TR C j l
 ·rw[bha,cq Z i I l,bg9];obtain⟨L,K,N,A,B,w,_⟩:=bg8 h;exact(bq7 bvD A B rfl).weak w
 ·rw[bha,cq Z i I l,bg9];cases m:Ŀ ahp j with
  | none=>rw[ŉ m]
  | some re=>
   rw[gb m h (gZ L K N A B w wb (bg8 m))];exact(bq9 bvD A B rfl).weak (aOc u wb)
theorem bNx(ha:Λ):Ś (.aEt a N d w fr):=by
 rw[xk Y u b K]
 ·rw[bgX B b,bgW b v,ş c2 (MX px H E c1),Ę ĥ b (đ s c9 b)];have U:=s;rw[aRa s R o A x,jJ h (aEQ G F (Hq u) N d w (xV u fr)) r aEQ]
  ·rw[sn cs q]
   ·cases h
   ·rename_i C;obtain⟨⟨O,M,L⟩,⟨k,hr,lo,_⟩,wt⟩:=g.ad6 (Ł C);rw[ĥ,ei]at B;obtain⟨⟨c,P,k1,S⟩,k3,_⟩:=g.i6 B.1 B.2;have m:∀y∈v.names,FL->aeZ y.1:=fun y n J=>by rw[azE (x y n) J];exact g.vn y.1 (ķ (bn z))
    have T:aQ8 v:=by
     rw[aQ7 Q (o y ?_),aQ6 Q]
    have f:azm N d:=fun j i W=>by
     rw[aQ5 W p n,aQ4 W n,dO (Ĕ q1 (A _ hz) Z (o _ (kJ n))) _ (Õ p) aQ3 (m _ (gu Z) rfl)]
    cases l:Hq u with
    | none=>rw[ŉ l]
    | some ra=>
     rw[l]at h;exact bLf (fr:=fr) (P:=P) (c:=c) lo hr O M L H E c5 ⟨k1,fun I=>(S I).1,fun I=>(S I).2,m⟩ (aZT R) T (fun I c b=>by
       rw[fC y e (aZg I (agE n J (m y n J)) c b)];exact k3 y c e) ((aQ2 R v.names w O M L)) l7 f q (aQ1 l) h
  ·cases h
 ·rw[bgM b K]
theorem bNy(s:TV f):Ś (.self k l f):=by
 rw[xk o n a j]
 ·rw[đ i a (mI a),Ab (aa4 a v q a) ei a,cq c u m a,aa8 c p];rw[ř]at c;subst c;rw[ĥ,ei]at i;have h:aER G F k l _ _=Û:=h;cases v with
  | nil=>cases u
  | cons e0 er=>
   rw[aa1 d m];cases b:MY f n with
   | none=>
    rw[Ę b h (cM aER)]
    ·rw[a_]
     ·obtain⟨_,_,z⟩:=dz h;cases z
     ·cases h
    ·cases h
   | some rs=>
    rw[uG b h ((g.i6 i.1 i.2).2.2 (s g m b) d.1 d.2 h)]
 ·rw[tH a (mI a)];exact azz j
theorem bNz(m:Λ)(l:cQ):Ś aLf:=by
 rw[TQ]
 ·refine btv c fun ka kb ea eb p c=>?_;rw[aQV c,aa6 u s q o n c,aJ j1 k rfl (aoA u) j2 j rfl (aoA s)];exact bKm q (fY m o) (fY l n) h
 ·exact btv c fun ζ ζ ζ ζ p ζ=>mK f
theorem bNA(A:Λ):Ś (.OC a E):=by
 rw[qv H f w]
 ·rw[Ab (aYz f (Ý ef ea et I f)) ei f,aa6 P C B h4 b f,MX p y x P,Φ b]
  ·rw[G0 t (Cq ZK b),qu o n k3 c b,dU p' rfl (Ej o) T v (aZR (aa9 c)),qP l j (aZS t c) (bJT v y x (Aa t n) (g.blt t k3) l j (gE s A C) B h)]
  ·rename_i t u
   ·rw[ĺ (btq b (Ý i e2 kk tp b)) (Cq ZK b)];obtain⟨⟨⟨⟨o,n⟩,k3⟩,c⟩,⟨⟨N,M⟩,L⟩,m⟩:=b;rw[dU p1 rfl (Ej o) p2 rfl (Ej N),gp (dU T v (aZR (aa9 c)) U O (aZR (aa9 m))) (dU l j (aZS t c) K J (aZS u m)) (bKh v O y x (Aa t n) (g.blt t k3) l j (Aa u M) (g.blt u L) K J (ġ d k i) (gE s A C) B h)];have px:bW (KQ t) (KQ u):=hZ ĥ (Į (aa9 c) (aa9 m));rw[bH aof i];cases d<;>first
     | (simp only[px,nK]at i;rw[ψ i (dY rfl)])
     | cases i
  ·cases b
 ·exact aYz f (EM ζ ζ (mK w))
theorem bvK:∀{a:iN} {b:ē} {l:bu},MY a b=ug->Ű=ad
 | [],_,_,h=>by rw[wW Ed h h];rfl
 | m::a,b,l,h=>by
  rw[cM Ed]
  ·cases h
  ·rw[a_]
   ·cases h
   ·rw[CD l' q h,ŀ,ŀ,bvK q]
theorem bvL:bgF b a (ad=r9)
 | _,[],[],_=>rfl
 | _,[],_::_,h=>azx
 | _,_::_,[],h=>azx
 | b,m::a,jz,h=>by rw[eI Em];simp[ĥ]at h;rw[ŀ,ŀ,bvL h.2]
theorem bNB{ms:iN}(ha:aa2):Ś (.fw ms):=by
 refine bhc sg δ hc tg _
 ·rw[M8 hc]
 ·rw[M8 hc]
 ·rw[Ho (aa4 (mI hc).2 es pos hc) aX hc,đ hc hle hc,fj (Ę ĥ hc (MX p hg hm hc.1)) l1 (bvL hc.2) ns (ao4 hc.2)];cases es with
  | nil=>
   exfalso;cases ms with
   | nil=>cases(h:none=Û)
   | cons _ _=>cases l1
  | cons y ys=>
   rw[Mp ns];cases ys with
   | nil=>exact bKv hg hm aRm ns.1 h aRl
   | cons z zs=>
    cases zs with
    | nil=>
     rw[bhb];exact bKw hg hm aRm ns.1 aF5.1 h aRl
    | cons u us=>
     cases us with
     | nil=>
      rw[bhb];have bvM:=aF5.2;rw[Mp bvM];exact bKx hg hm aRm ns.1 aF5.1 bvM.1 h aRl
     | cons _ _=>simp at hle
theorem bNC(v:Λ)(u:cQ):Ś YQ:=by
 refine bhc i f c m o
 ·rw[M8 c]
 ·rw[M8 c]
 ·rw[Ab (aYz (mI c).2 (Ý ef ea eb n c)) ei c,aa6 h1 h2 y x w c,MX p s q h1];have t:=o rfl;cases j:AR m with
  | none=>rw[Ī j t t]
  | some l=>
   rw[aRn j (bKL s q x w (fY v h2) (fY u y) h)]
theorem bND(s:Λ):Ś (.sW a):=by
 refine bhd j n
 ·rw[M8 b]
 ·rw[M8 b]
 ·rw[Ab (aFm (mI b).2 (ń ef ea l b)) ei b,cq w v u b,MX p q o w];have t:=n rfl;cases f:AR j with
  | none=>rw[Ī f t t]
  | some i=>
   rw[aRn f (bKU q o u (gE m s v) h)]
theorem bNE(w:Λ):Ś (.adt a):=by
 refine bhd o u
 ·rw[M8 b]
 ·rw[M8 b]
 ·rw[ĺ (aYx (mI b).2 (ġ ef p b)) (aRo (ON b (ń q n m b)) b),qu B A y j b,zM v (bn B)];cases i:qg q with
  | none=>rw[Ī i j j]
  | some x=>
   rw[đ np rfl (Ej i)];have t:=u rfl;cases f:AR o with
   | none=>rw[Ī f t t]
   | some l=>
    rw[aRn f (bMf rfl y (gE s w A) h)]
theorem bNF{sg:Sg}{X:Cx}{e:Expr}{δ:ē}{r:Re}{tg:Tg}{fr:ww}{cp:aFp}{tn:ğ}(ha:Λ)(hb:cQ)(g:MV)(aZU:cp.ifs=[])
  (h2:ai0 b cp.it=true) (hz:aFt b=true->bhi) (h4:aRs cp.sc=true) (h5:bhh=true) (h6:bhg=true)
  (h:œ aRr=Û):aRq azG:=by
 rw[Ŷ S nd sl (aF4 g h4) (Ĉ aZU (bKD S sr nd sl (fun z bvN=>bhf) bhe (aRp ha h6) h))]
theorem bNG{sg:Sg}{X:Cx}{e cd:Expr}{δ:ē}{r:Re}{tg:Tg}{fr:ww}{cp:aFp}{tn:ğ}(ha:Λ)(hb:cQ)(bu1:TU)(g:MV)(aZU:cp.ifs=[cd])
  (h2:ai0 b cp.it=true) (hz:aFt b=true->bhi) (h4:aRs cp.sc=true) (h5:bhh=true) (h6:bhg=true)
  (h7:Cu aRu c cd=true) (h:œ aRt=Û):aRq azG:=by
 rw[Ŷ S nd sl (aF4 g h4) aZU];exact bKE S sr nd sl (fun z bvN=>bhf) bhe (aRp ha h6)
  (aRp bu1.2 h7) h
def aZV(G:Gs)(F:Ť)(m:ME):Prop:=∀{sg:Sg} {X:Cx} {e:Expr} {δ:ē} {r:Re},MV->awO=true->œ m=Û ->
 ∃(cp:aFp) (N':ğ) (fr:ww) (tg:Tg) (p:Pos),e=Sa cp.elt [⟨cp.tg,cp.it,cp.ifs,0⟩] cp.sc p/\aXm X.N N' cp.sc TK fr/\aRq N' /\
  (∀C tF Iv Oz fp,PG (aXn X cp.sc N' C tF Iv Oz fp) cp.tg MJ)/\qf cp.it=ă
theorem aZV.s1(h:azH m)(hw:azq a)(f:∀a e,Cu a m e=true->plainT e=true):Ś m:=by
 refine bgy q
 ·obtain⟨cp,N',fr,tg,p,rfl,S,P,i,d⟩:=h g b q;exact P.pe S sr i d
 ·exact bvH (f a e b) c
theorem bvO(m:Λ)(l:cQ):azH aRr:=by
 rw[akQ e r k,bhk k f];obtain⟨⟨⟨s,q,o⟩,n⟩,c⟩:=k;obtain⟨tn,_,c⟩:=aFb c;rw[bhj c f c (bNF (e:=Sa f.elt [⟨f.tg,f.it,f.ifs,0⟩] f.sc p) m l g (aRd s) q mt c.1.1 c.1.2 c.2 h) d i j u n];rcases o with w | w
 ·rw[Ī z w w]
 ·exact w
theorem bvP(q:Λ)(o:cQ)(m:TU):azH aRt:=by
 rw[akQ e r l,bhk l i,qu v u s d l];obtain⟨tn,_,d⟩:=aFb d;rw[Ė ec n d (bHh d),bhj d i d.1 (bNG (e:=Sa i.elt [⟨i.tg,i.it,i.ifs,0⟩] i.sc p) q o m g n v mt d.1.1.1 d.1.1.2 d.1.2 d.2 h) f j k x s];rcases u with w | w
 ·rw[Ī z w w]
 ·exact w
theorem bNH(g:Λ)(f:cQ):Ś aRr:=bhl c (bvO g f) d
theorem bNI(i:Λ)(h:cQ)(d:TU):Ś aRt:=bhl f (bvP i h d) g
theorem bNJ:TV []:=fun {sg X b δ r} g a h=>by
 cases b with
 | nil=>rw[on Ed (Ż h bJf)]
 | cons _ _=>rw[Hr a]
theorem bNK(j:Λ)(i:TV d):TV (a::d):=fun {sg X f δ r} g b h=>by
 cases f with
 | nil=>rw[Hr b]
 | cons e f=>
  rw[aRv];rw[eI Ed];exact bJg b.1.2 (akR j) (fun z c=>i g b.2 c) h
theorem and_nil:akS []:=bhm bsg
theorem or_nil:akT []:=bhm bsh
theorem and_cons(i:Λ)(n:akS f):akS (a::f):=fun {l X d k j} g b=>by
 cases d with
 | nil=>rw[Hr b]
 | cons e d=>
  rw[aRv];cases f with
  | nil=>
   cases d with
   | nil=>
    rw[azJ]
    ·rw[azI];exact bqL (azL i)
    ·rw[azI];exact bCU (azL i.2)
   | cons _ _=>rw[azK]
  | cons m f=>
   cases d with
   | nil=>rw[azK]
   | cons e' d=>
    have B:=bhp;rw[azJ]
    ·rw[azI];exact snd_and (akR i) bho h
    ·rw[azI];exact bJb (akR i.2) bhn h
theorem or_cons(i:Λ)(n:akT f):akT (a::f):=fun {l X d k j} g b=>by
 cases d with
 | nil=>rw[Hr b]
 | cons e d=>
  rw[aRv];cases f with
  | nil=>
   cases d with
   | nil=>
    rw[azJ]
    ·rw[azM];exact bqL (azL i)
    ·rw[azM];exact bCV (azL i.2)
   | cons _ _=>rw[azK]
  | cons m f=>
   cases d with
   | nil=>rw[azK]
   | cons e' d=>
    have B:=bhp;rw[azJ]
    ·rw[azM];exact bI8 (akR i) bho h
    ·rw[azM];exact bJc (akR i.2) bhn h
theorem bNL(f:akS d):Ś (.and d):=by
 refine TR j i a
 ·rw[bhr]
 ·rw[bhq]
theorem bNM(f:akT d):Ś (.or d):=by
 refine TR j i a
 ·rw[bhr]
 ·rw[bhq]
universe E_
section
variable {G:Gs} {F:Nat->List DV->Option Ou}
mutual
theorem snd:∀m:ME,Ś m
 | .var _=>bMI
 | iJ=>bMK
 | ny=>bML
 | mh=>bMN
 | .ę=>bMM
 | .oS _=>bMO
 | .bin _ a b=>bMP ag ej
 | .neg a=>bMQ ag
 | .not a=>bMR ag
 | .cmp _ a b=>bMS ag ej
 | .chain _ _ a b c=>bMT ag ej M9
 | .and es=>bNL (bvQ es)
 | .or es=>bNM (bvR es)
 | avm=>bMZ C_
 | Ē es=>bM0 C_
 | ahv=>bMU ag ej
 | .sl a b c=>bMV ag ej M9
 | ahu b=>bMW ag ej
 | aht b=>bMX ag ej
 | ł _ es=>s_call C_
 | .bi _ es=>bM6 C_
 | .OC a _=>bNA ag
 | .AG _ a _=>bNa ag
 | Da a _ b _=>bNH ag ej
 | .IF a _ b c _=>bNI ag ej M9
 | aho=>bNb ag ej
 | .fw es=>bNB C_
 | .sW a=>bND ag
 | .adt a=>bNE ag
 | .OD a b=>bNc ag ej
 | .aEr _ b=>bNd ej
 | .aXu _ _ es=>bNe C_
 | .aEs a _ _ _ _=>bNf ag
 | .ite a b c=>bNg ag ej M9
 | .an3 b=>bNh ej
 | .adr _ es=>bNu C_
 | .aEv _ a b _ _ _ _=>bNv ag ej
 | ahr=>bNm ag ej
 | .ads a b c=>bNi ag ej M9
 | .fld _ _=>bNj
 | .an4 _ _=>bNk
 | ahp=>bNw ej
 | .fmt a=>bNq ag
 | .fst es=>bNt (bvS es)
 | avf=>bNn ag ej
 | ahq=>bNo ag ej
 | YS b=>bNp ag ej
 | YQ=>bNC ag ej
 | .aEt a _ _ _ _=>bNx ag
 | .self _ _ es=>bNy C_
 | .aEu _ _ a b=>bNz ag ej
theorem aZW:∀ms:iN,aa2
 | []=>bNJ
 | a::ms=>bNK ag (aZW ms)
theorem bvS:∀ms:iN,aRk
 | []=>bNr
 | a::ms=>bNs ag (bvS ms)
theorem bvQ:∀ms:iN,akS ms
 | []=>and_nil
 | a::ms=>and_cons ag (bvQ ms)
theorem bvR:∀ms:iN,akT ms
 | []=>or_nil
 | a::ms=>or_cons ag (bvR ms)
end
universe E_
universe L2
namespace L2
open PySem PySem.Spec PyProof.Rows
section
variable (G:Gs) (F:Nat->List DV->Option Ou) (fu:Nat)
def SS(m:MS):Prop:=akK st Stmt o Out (aYK sg m st) ahL ĕ (PS X st C3)
def bNN(ms:dZ):Prop:=akK bvT aM o Out (ZL ms bvT) (pT ms) ĕ (nu bvT C3)
universe E_
section
variable {G:Gs} {F:Nat->List DV->Option Ou} {fu:Nat} {e k:ME} {i:Nat}
theorem bNO(h:btJ e=true):azH e:=by
 cases e with
 | comp a _ b _=>exact bvO ag ej
 | IF a _ b c _=>exact bvP ag ej M9
 | _=>cases h
theorem bNP:dB (ahF own):=by
 rw[Ac u c (aba c t w),aa8 c pt];simp only[ĥ,ř,pL,ei]at c;rw[qu E C s d c];have l:=g.loc x C;have q:qY:=Ć g.N E;have h:Re.Ee u _ _=ĕ:=h;cases hv:adK v with
 | ă=>exact bht (OT hv) h
 | true=>
  rcases d with d | B
  ·rw[Ī hv d d]
  ·cases m:Ŀ e u with
   | none=>rw[ŉ m]
   | some r=>
    obtain⟨a,N',fr,tg,p,rfl,S,P,A,y⟩:=bNO B g s m;cases f:(bhu && !_)with
    | ă=>
     rw[bhs ă];exact bht b h
    | true=>
     rw[bhs true];rw[m]at h;have d:tP x=ki:=by rw[wZ ř f];exact f.1.1.2
     exact bLo S sr g.nd q d P A y b h
theorem bNQ:dB avF:=by
 rw[azN v k];rw[bhw];rw[Hs a];rw[bhv];rw[TW b j f,EY m (bn s) (bLp (M7 j f) (M' l r) q p h)]
theorem bNR:dB ahD:=by
 rw[azN v k];rw[bhw];rw[Hs a];rw[bhv];rw[TW b j f,EY m (bn s) (bLr (M7 j f) (M' l r) q p h)]
theorem bvU:upd (qi a) p b=qi b:=by
 funext c;rw[ol (c=p)]
 ·subst z;rw[Μ,Μ]
 ·rw[aK z,aK z,aK z]
theorem bNS:dB RA:=by
 rw[abb (aoz a (ġ v d a))];rw[TW a c b];exact bLU (M7 c b) h
theorem bNT:dB ahE:=by
 rw[Ac δ c (bth c (Ý t op v f c))];rw[ĥ,ĥ]at c;rw[cq n b m c];cases bn n;rw[aa8 b p,ς ĥ b l (TN b),gj a d h ib (bLt g.nd (Ć g.N (bn b.1)) l.1 l.2 (M' j m) (bLs d) h)]
theorem bNU:dB Rz:=by
 rw[aRw b,aa8 a np,Ho (bHT a (qp ζ)) ř a,qP d c (TN a) (bL2 g.nd (Ć g.N a.1) d c h)]
theorem bNV:dB (Ry ks):=by
 rw[aRw k];rw[akM a ob ek sp,qu d c m l a,TW d j f,eS (aFh c (ń es tk tp c)) (bL4 aQ0 (M7 j f) (M' b m) (fun z b=>aZW ks g c b) l h)]
theorem bNW:dB (Y1 e):=by
 rw[aRw j];rw[akM a ob ek sp,qu c n m l a,TW c f d];exact bLq (M7 f d) (M' b l) (gE b (snd k) n) m h
theorem bNX:dB Y0:=by
 rw[azN ζ ζ];rw[Hs a];exact bLm (M' b a.1) a.2 h
theorem bNY:dB YZ:=by
 rw[abb (aoz a (ġ ζ ζ a))];exact bLl (M' b a) h
def aZX(X:Cx)(δ:ē)(i:Nat)(C p dx:Nat)(t:Str)(σ:St)(H0:Hp)(O W:Ň)(Q:VK):Ž Rm
 | dt s=>∀v H' k',s=Cb p k'->ũ H0 H'->G9 H' σ (KS s) O W->aOV->Xa
theorem bvV{X:Cx}{δ:ē}{C a dx:Nat}{t:Str}{k0:Int}{σ:St}{H H0:Hp}{O W:Ň}{Q:VK}{r:Rm}{s:DV}{o0:HO}(R:aai)(hi:uw s)(e1:ajb)(e2:Cz)(e3:aQH)(hl:GU)(fr:aP7)(sm:Sn)
  (k:aZX X δ i C a dx t σ H0 O W Q r):aQG r:=by
 have bNZ:∀H',azh [a] H'->ũ H0 H':=fun H' s b o e=>s b o (by
  rw[cr (by rw[oh];rw[ax1 (fr a e2) e])];exact sm b o e)
 cases r with
 | ok d s'=>
  intro v H' k' q1 q2 q3 q4;exact k v H' k' q1 (bNZ H' q2) (Ć q1 (R.bvp hi e1 e2 e3 rfl (bvk hl) q2 q3)) q4
theorem aZY(g:C7 A)(hq:aoE A i m v (Em A es)=true)(e:pV)(hi:uw s)(B:YL s)(hs:Ca)(hF:aLr=Û) :
  ∃C p dx t,PE X v (Ş j (∃h O W,ajl j/\(aaN (h a))/\ũ h H/\aZX X δ i C p dx t j h O W Q r)):=by
 refine aoF hq fun x n np S pos as h1 L c d b=>?_;rw[bg4 L,bg3 B Z Y U L,ĩ p dx t k0 E (bvo r1 B.2),Kn E ⟨C,p,dx,t,(bvs (t:=t) (k0:=k0) (l:=l) (oA:=aS ζ r) aRc r2 Z n1 n2 c d U w1 Y hi (C_ g b e) mt (ao4 b) hs (ġ a K ok)).weak fun j H Q (akU h fr kk)=>eg (Ý a J P e2 N)⟩]
 ·subst z;cases es with
  | nil=>cases e;rfl
  | cons _ _=>rw[Hr b]
 ·rw[jk y w o (IX ok) (eN y ⟨dx,w,o,hF⟩)]
 ·rw[ab (MT a' K f0 M f2 f3 hi) y w o (IX f0),jc y P M];have f:=N;rw[f3,w]at f;have I:J=dx:=by
   have q:=dN f;rw[bg1];exact q.symm
  rw[cA I (bvV (o0:=K) R hi P e2 N o fr sm kk)]
theorem aZZ(h:K6 rs kk=ĕ):∃s l r,uw s/\(YL s)/\rs=ug/\Ca/\aLr=Û/\(match r with | dt a=>kk d a=ĕ):=by
 rw[cM aEW]
 ·rw[sn s b]
  ·rw[ic c h]
   ·rw[ic l h]
    ·rw[ic hs h]
     ·rename_i d a e;exact⟨s,l,_,b,c,rfl,hs,e,h⟩
     ·cases h
    ·cases h
   ·cases h
  ·cases h
 ·cases h
theorem bN0:dB aLv:=by
 rw[Ac δ b (aba b t c),Hs b,qu a j i f b,jH OO a SM]
 ·rw[v4 l q (Ė kk tp rfl (aFo q))];rw[ĥ,ĥ,ř]at a;rw[gj A B C (aZP g is l a.1.1 a.2) (bLv (bGS sr A B C) (fY (snd e) j) f i h)]
 ·cases a
theorem bN1:dB avz:=by
 rw[azN v u];rw[Hs a,đ E B a];obtain⟨s,l,r,x,y,c,hs,z,w⟩:=aZZ h;rw[ĩ C p dx t A (aZY g E c x y hs z)];refine(aWW A (OT B)).weak (qr f I e (akU I e ?_));cases r with
 | ok d s'=>
  have b:=w;rw[Ż b (fun v' J k' q1 n j q4=>k f J W j e n)]
theorem bN2:dB aLu:=by
 rw[Ac δ c (aba c tt z),Hs c,cq b L K c,Ho (V2 b (ġ x pt b)) ř b];have f:=TN b;obtain⟨s,l,r,E,I,e,hs,J,B⟩:=aZZ h;rw[ĩ C p dx t A (aZY g L e E I hs J)];refine(aRx b f.1 A (OT K) f.2).weak (qr σ M n (akU M n ?_));cases r with
 | ok d s'=>
  rw[Mf a _ ĕ B]
  ·rw[Ż a (fun v' N k' q1 y w u=>k _ N W (w.adZ u j) n y)]
  ·cases a
theorem bN3:dB (.jU i e):=by
 rw[Ac l j (aoz j (ġ v m j)),aa7 (aEY _ l[i]?) ĕ aEY]
 ·rw[sn s p]
  ·rw[Gp d c hv a_]
   ·rw[jv hs];refine(anN (aRy j hv)).weak (qr σ H0 fr (eg (ń v z s1 r)));obtain⟨⟨a,n,y,f1,x,w⟩,u⟩:=(cN).od i _ p;exact k v z a n ow y w (lu (r.f6 Ι hs) (mW fun b f=>by
     rw[BF f f]
     ·exact Bm f
     ·rw[ML f (tX x)]))
   ·cases h
  ·cases h
 ·cases h
theorem bN4:dB avy:=by
 rw[Ac B e (aoz e (ġ v U e)),Ab (btq e (Ý ea eb kt pt e)) ei e,cq h0 h1 L e];have h:aEW G F i m B avb a78=ĕ:=h;obtain⟨s,l,r,K,hh,w,hs,hF,Z⟩:=aZZ h;rw[Ţ w (ĩ C p dx t A (aZY (es:=[]) g L rfl K hh hs hF))];have B1:=(snd ő).1 (δ:=B) g h0 rfl;have j:aiW=ă:=aoF L (bg0 rfl);refine(anN (aEf (lI B1 (lI A xQ (bf j)) (bf h1)))).weak (qr σ H0 fr (eg (fun N H1 s1 y=>⟨H0,O,W,cN,fr,ow,?_⟩)));cases r with
 | ok d P=>
  have n:=Z;cases n;intro M H' k' q1 S I Q;rw[t7 (Yt (ů 2)) q J,aRz a Y (I.od i P (wV (jh K)))];have c:=gP (o:=Ē [N,M]) J;have E:tN (O++[a]) n_:=fun b f=>by
   rw[BF f f]
   ·exact Bm f
   ·rw[ML f (tX f2)]
  rw[pC g1 g2 (y.str Ι) (k Lu _ a Y (S.trans c) f0 (c _ _ f3) (ai9 q _ rfl ((fun z=>I.cV.ot q z J) (E _ z)) (lj (adQ.mpr ⟨g1,g2⟩) (wT (lu (Q.mono (mW E)) c.wo)))))]
theorem bN5:dB avA:=by
 rw[Ac f w (bth w (Ý tt op v pos w)),wZ ř w,cq h0 z h2 w,fG h0 (Ho (ON z (ń ob n U z)) ř z),gn h3 I z h3,TW I s3 Z,aa7 (aEX G f i (Ŀ e f) f[i]?) ĕ aEX]
 ·rename_i s0 N;obtain⟨⟨S,Y,K,M,l⟩,h1,hh⟩:=dz h;clear h;rw[Ė d0 P h (dz hh)];clear hh;obtain⟨C,r1,r2,r3,r4,_⟩:=g.rd (bvn P);have e0:=aF2 h1;dsimp only at e0 h;subst e0;have rd:∀{H:Hp} {m:St} {O W:Ň},G9 H m f O W->∃a s t,Mq m a/\Cz/\wc (aoN C s t l)/\∀j,vj (Ē [ć S,Y,K,.str M,aj]) a (aoN C s t j):=fun {H m O W} R=>by
   rw[MT a ob f0 E B r N,azf f0 k' z1 z2 z3 z4]
   ·cases e
   ·rw[bf8];have e1:S=_:=e1;have e2:Y=_:=e2;have e3:K=_:=e3;have e4:M=_:=e4;have e5:l=_:=e5;subst e1 e2 e3 e4 e5;have c1:C'=C:=by
     have p:(a8m C' true l (.str M))=ā d0:=P;rw[Φ p]
     ·omega
     ·cases p
    rw[fG c1 (eN z4 ⟨a,Ot,M,E,B,r,fun j=>ķ ⟨C',Ot,_,_,M,j,rfl,z1,z2,z3,rfl⟩⟩)]
  cases hv:Ŀ e f with
  | none=>rw[ŉ hv]
  | some re=>
   rw[Κ hv (aRy h2 hv)];cases re with
   | ok d c=>
    rw[Ė j J h5 (eJ (mv (eK (iI d) j (wK (f.set i (.od (ahf S Y K M (l+j)))))=ĕ) h))];clear h;have J:=ad4 J;subst J h5;rw[aQc (bEd (M7 s3 Z) A bEf) m Q,gZ a s t E B r f4 (rd R)];refine⟨Ŝ,E,a,C,s,_,Rq,rfl,r,r2,r4,rfl,O,W,R,ń y H1 b gt⟩;have hy:=gt.int (Mi b);rw[Kn hy ⟨l,j,rfl,rfl,s,_,b _ _ r,(Yt (2<1000)),?_⟩];exact k m _ W ((G' b).aZI N E B (b _ _ r) rfl (f4 (l+j))) Q (ad2 (Ts b) (Q a B))
 ·cases h
theorem bN6:a6O:=an0
theorem bN7:dB avx:=by
 rw[Ac E r (aba r tt pos),bhz r n d];have I:=TN n;rw[ĺ (aFm d (ń ef ea L d)) (Cq ei d),qu d h2 h3 K d,đ p rfl (Ej d)];have h:aok G F E i (Ŀ e E)=ĕ:=h;rw[cM aok]
 ·rw[ic b h]
  ·rw[Gp t c hv a_]
   ·rw[jv m];rw[bhy Y b.1,đ o1 u (Fw m.2)];obtain⟨k,fi,V',Z,fa,fd,ps,f,U,S,Q,P,N,_⟩:=Y b.2 t 0 o1 u;have A:=aRy h3 hv;rw[ajp (aRx n I.1 (bEn Q N U (Aa _ h2) S P .nil bN6 (lI A xQ (bf K)) Đ (bf K) rfl) (OT rfl) I.2) (qr σ H0 fr (eg (fun v1 B s1 gt=>Ý j s J y w))) (gn g1 g2 (gt.str Ι) g1)];refine⟨j,s,t,rfl,Μ,rfl,?_⟩;rw[bvU];have M:ũ B bhx:=gP y;have l:bhx j=none:=nb (iz w) J;rw[ĺ (ye (j::W) (((Z9 M).bu8 l rfl).bu9 Α (ķ ⟨C,s,.ę,.ę,t,0,Ń r1,ŵ,ŵ,g2,rfl⟩) Μ m.1) ajU (Ų ow (M.trans (gP l)))) (bM ha)]
    ·rw[z];exact(ow).free J
    ·exact fr a z
   ·cases h
  ·cases h
 ·cases h
theorem bN8:dB (.OE j i):=by
 rw[Ac z U (aba U tt pos),bhz U K h1];have lc:=TN K;refine aoF h1 fun x2 n np N M bNl h2 h3 w J h1=>?_;obtain rfl:=aRd h1;have hn:n = tA:=by rw[jY h4 ((adN[4]?:ahg)=ā (gU tA)) rfl h4 h3];exact(dN h3).symm
 rw[ş hn (Ĩ s1 s2 s3 s4 (azo g h2)),aa7 (aEZ G F z j i z[i]?) ĕ aEZ]
 ·rename_i s0 S;obtain⟨⟨c,n1,n2,t,E⟩,m1,hh⟩:=dz h;clear h;have h:=hh;clear hh;rw[GZ]
  ·rw[fj (fM y (Ė y m2 m3 y)) m2 (bvl m2) m3 (bvl m3)];have m1:=aF2 m1;dsimp only at m1 y;subst m2 m3;rw[fG m1 (bhy r6 y.2.2)];have a0:c=(C:Int):=y.1.trans r1;subst a0;have ok:∀a m,vj (Ē (aRA E)) a m->∃b,m=aoN C b t E/\GU:=fun a m ok=>by
    rw[azf ok P z1 z2 Z z4]
    ·cases e
    ·rw[bgg];subst e4 e5;have c1:C=C':=azj e1;rw[eN c1 ⟨Ot,z4,Z⟩]
   have go:∀r,y_ xW [k_,ć E]=Û->PE X (MP (nP x2 np) tA N [] M) (Ş s (∃A O W,G9 H s z O W/\(aaN (A a))/\ũ A H/\∀a b,aZX X z i C a b t s A O W Q (aX6 C a b t r))):=fun r hr=>by
    obtain⟨kk,fi,V',ad5,fa,fd,ps,f,w1,w2,w3,w4,w5,w6,w7,w8,w9⟩:=r6 y.2.1 t E r hr;refine(bg2 E (f:=f) (oA:=fun a b=>aX6 C a b t r) aRc r2 w6 Đ Đ w J w8 (w1.mono yC) w7 S (aOe s) Qh rfl rfl (ġ a m q)).weak fun s H Q (akU A Y k)=>eg (Ý a b e1 e2 e3)
    ·rw[dO (Ė b q1 B (ok a m q)) b q1 B (w9 a b)]
    ·rw[ab (MT a' m f0 f1 f2 f3 S) bWa q1 B (ok a' m f0)];exact bvV (o0:=m) R S e1 e2 e3 B Y sm (k a b)
   rw[ab (uJ d P0 hF hh ib) P hP h5 (dz hh)];have hP:P0=_:=ad4 hP;subst hP;clear h hh;rw[Φ h5]
   ·rw[zT h5 ((aRx K lc.1 (go _ hF) (OT rfl) lc.2).weak (qr s A Y (akU A Y (fun a b v' H' k2 q1 B q3 q4=>?_))))];have I:i<jr:=jh S;have R2:G9 H' s (z.set i (.od (Ē (aRA P)))) O W:=(by rw[aRz a' m (q3.od i _ (wV I)),Ė z1 z2 Z (IX f0)];subst z1;subst z2;rw[AY (q3.bvp (d1:=Ē (aRA P)) (wV I) f1 f2 f3 rfl (ķ ⟨C,b,.ę,.ę,t,P,rfl,ŵ,ŵ,Z,rfl⟩) xX f3) List.set_set]);exact k (ay1 (ā v')) H' W (R2.adZ q4 j) Y B
   ·cases h5
  ·cases h
 ·cases h
theorem bN9{e:awK}(d:Oq X.bqP body t):PS X (.Try body [e] [] [] pos) t:=fun a s b H D I c=>by
 refine wpAny_Try_except (BG (aIw D (I.adh _) c) f s1 q z (False.elim z));have q:=q.adi;cases f with
 | next=>exact ast q
 | brk=>exact q
 | cont=>exact q
 | ret u=>exact q
theorem bOa(i:Db body):dB avw:=by
 intro a X st δ o g c h;refine bH2 c (ń b hd f c);rw[ĥ]at c;have j:aQU a.N a.sc a.fn a.bl a.cl F X.bqP:=bgs g.N g.nd g.bvF Aa g.loc g.bMD g.vn;have h:aol _=ĕ:=h;rw[cM aol]
 ·rw[Gp d fr e (Ż h (bN9 (i j c.2 e)))]
 ·cases h
theorem bOb{G:Gs}{F:Ť}{fu:Nat}:dB .OF:=by
 rw[akQ st o hc];cases h
theorem bOc:dB avv:=by
 rw[akQ st o a];cases a
theorem bOd(i:Db a)(f:Db b):dB Gg:=by
 rw[Ac δ d (bHJ d (Ý ζ ζ ζ ζ d))];simp only[ĥ]at d;exact bLk (gE e M9.2 d.1.1) (fun z e=>i g d.1.2 e) (fun z e=>f g d.2 e) h
theorem bOe(f:Db body):dB (.fo tg e body):=by
 rw[abb (bHX a (Ý ζ ζ ζ ζ a))];simp only[ĥ,ei,pL]at a;obtain⟨⟨⟨⟨n,m⟩,l,k⟩,j⟩,i⟩:=a;exact bLx (g.own n) sr (fun z c=>(snd e).2.2 g l (fun w=>by
  rw[vX k]
  ·rw[Yh w]
  ·exact q) c) (aZQ g m) (fun b o' d=>f g i d) j h
theorem bOf(f:Db body):dB avC:=by
 rw[abb (bHY a (ń ζ ζ ζ a))];simp only[ĥ]at a;exact bLy (g.own a.1.1) (fun b r d=>M9.2.1 g a.1.2 d) (fun b o' e=>f g a.2 e) h
def bOg(e:MS):Bool:=qe 23
theorem bOh:Db []:=by
 rw[akQ c o d];cases c with
 | nil=>rw[on Zq7 (Ż h bLg)]
 | cons a b=>rw[wW En d d]
theorem aZ0(g:C7 b)(z:b.sc.lookup y=bh):tP y=bh/\X.fn y=true/\Loc TK y:=by
 have a:=g.loc y (uL adM z);have nl:agG y≠ki:=bhA y z;rw[υ (aQ9 a) (a.2.elim id aRB) a.1]
theorem bOi{fr:ė}{rs:nQ}{oc:pN}{oi:rG}{o:Out}{C:OG}(hC:aa0)(h:aLt rs oc oi=ĕ):C.nc=wu/\oi=ā .no/\K1/\∃cs l d,oc=KZ/\rs=ug/\Rl C.np=hY/\o=ze d:=by
 rw[dr aXW h hC,GZ]
 ·rw[G4 z (ab (Ŷ z1 z2 z3 z (Ė cs e1 h ib)) r e2 h ib)];have bOj:oi=ā .no:=by
   rw[ax bsp z2]
   ·rfl
   ·cases z2
  cases rs with
  | none=>cases e2
  | some rs=>
   cases rs with
   | ok l=>
    have bvW:Rl C.np=Û:=e2;obtain⟨d,_,_,_,_,rfl⟩:=bvy bvW;rw[ψ h ⟨z1,bOj,z3,cs,l,d,e1,rfl,bvW,rfl⟩]
 ·cases h
theorem bOk:Db (avv::ms):=by
 intro q X a0 w o g b h;have N:bW (aYI q i fr a0 (Em q es)) aNe:=aNP En b;rw[Ę ĥ N (đ b bWb N)];have h:(Ρ bhB (ā (.nx δ')) (aZ F ms δ') o o)=ĕ:=h;rw[bH aYI b];rw[ĥ,ĥ,ř]at b;rw[ľ (cq ht e b b) (aYh b fun sa sb b=>bHV b fun n pr bd S x dp b=>?_)];simp only[ĥ,ř,wQ,aX]at b;obtain⟨⟨⟨⟨⟨⟨rfl,rfl⟩,hi⟩,a6⟩,a3⟩,a2⟩,b⟩:=b;refine aoz b fun v rp b=>aa4 b ea cp b;rw[Hs b,cq Y h2 h3 b,aa8 Y np];rw[ř]at Y;subst Y;cases ea with
 | nil=>cases h2
 | cons e0 er=>
  have ns:=ao4 h3;rw[ab (Mp ns) C hC r (g.cos _ _ _ _ a6),tW a1 tx M (aZO r)];cases hd:bhB with
  | none=>rw[ŉ hd]
  | some o'=>
   obtain⟨z1,z2,z3,cs,l,d,e1,e2,e3,rfl⟩:=bOi hC hd;rw[ŉ hd];obtain⟨_,⟨k,hr,_,a7⟩,wt⟩:=g.ad6 z3;rw[Š c P k1 k2 k3 k4 (wt ht)];rw[bK (ao3 q.sc=ß) (į e)]at k3;have p:∀y∈S.names,FL->q.sc.lookup y.1=bh:=fun y m B=>by rw[azE (a2 y m) B];exact bn z
   rw[Ė Z c2 c3 (aZ0 g e)];have D:=bMz (pos:=dp) (bd:=bd) (⟨k1,k2,k3,fun y m B=>aRD.1,k4 e⟩) a1 g.nd (Ć g.N hi) Z c3 (ı c2);have has:X.Ok->aOx S.names:=fun ok y m B=>ok.has y.1 (ı aRD.1);have PC:PE X (LI (nP ß np) (e0::er) [] cp) (Ş E (∃f,(Mq E f/\OR H ß akF pr bd S (aRE S.names) f)/\Tm w Rk E H Q)):=by
    refine bvB (cs:=cs) (C:=C) (fun {ta} A=>bvA (a7 C hC) hr r (fun ok=>bMy tx ok (has ok)) (fun I=>buE I (has I.ok) fun y m B=>aRD.2.1) (fun {b0 E H H' s f} I sm ha=>(aD (ha.2.mono sm))) (ı Z) z1.symm (ġ j J hj) e1 A ns.1 ns.2) (C_ g h3 e2) e3
    ·rw[Ŷ mm bOl a4 pf (Ė u rv lk (a4 i ß _ (Ć g.N hi) ha.1 (ķ (ı Z))))];obtain rfl:u=m9 f:=rv;rcases lk with⟨U,_⟩ | ⟨_,cx,q2,q3⟩
     ·have U:tP ß=ki:=U;rw[Ī Z U U]
     ·rw[υ cx (aoV (has I.ok) (gu tx.IE) q2) q3]
    ·have aF6:j<wu:=jh hj;have L:=a3 J (kJ hj);have m:ĳ q.N J aRC:=zW (Õ L) Ũ (Õ L);have hq:ĳ aNl j aRC:=(by rw[←M,Â,hj];rfl);have K:ĳ C.N (C.np+j) aRC:=(by rw[ph (atz Ă) akC hq hq]);refine⟨_,K,Ć g.N m,ı ?_⟩;have a9:=tx.jT (C.np+j) _ Ă Ă K;exact(aZ0 g (p _ (gu a9) rfl)).1
   refine(VG D (VG (anN (pos:=rp) PC) anO)).weak fun Dn E H ⟨H0,O,W,R,bWc,fo,sm,kk⟩ f H' s1 hn df=>?_;rw[mj a5 (i<E.length) (gh Sr (jh z2)) ⟨f,⟨Ń (wV a5),df⟩,O,W,(cN).bLz z2 _,fun v H2 s2 g2=>kk v H2 (Ts Sx) ?_⟩];have a8:si H2 d v:=g2;exact(a8.mono ZV:zS (bA O H2) d v)
theorem bOm(l:dB m)(n:Db f)(k:bOg m=ă):Db (m::f):=by
 intro j X a δ o g e h;cases a with
 | nil=>
  exfalso;cases m<;>first | (cases k;done) | (rw[wW En e e])
 | cons st a=>
  have b:aYK j m st=true/\En j f a=true:=(by cases m<;>first | (cases k;done) | (rw[dr En e ĥ];exact e));rw[cM Zq7]
  ·rename_i c q;exact bLh (l g b.1 q) (n g b.2 h)
  ·rename_i i;have A:=l g b.1 h;cases o with
   | nx c=>rw[Ŗ h (i c)]
   | rt d fr=>exact bLi A
   | jU d s=>exact bLj A
universe E_
section
variable {G:Gs} {F:Nat->List DV->Option Ou} {fu:Nat}
mutual
theorem bOn:∀m:MS,dB m
 | .set _ _ _=>bNP
 | .app _ _=>bNQ
 | .aug _ _=>bNT
 | .ext _ _=>bNR
 | .aXw _ _ _=>bNW
 | .exp _=>bNX
 | .ret _=>bNY
 | .iff _ a b=>bOd (OV a) (OV b)
 | .fo _ _ body=>bOe (OV body)
 | .wh _ body=>bOf (OV body)
 | .sep _=>bNU
 | .aEx _ _ _=>bNV
 | .aXx _=>bNS
 | .adu _ _=>bN0
 | .VR _ _=>bN5
 | .an5 _ _ _=>bN1
 | .adv _ _ _ _=>bN2
 | .jU _ _=>bN3
 | .an6 _ _ _=>bN4
 | .an7 _ _=>bN7
 | .OE _ _=>bN8
 | avw=>bOa (OV body)
 | .OF=>bOb
 | aNh=>bOc
theorem OV:∀ms:dZ,Db ms
 | []=>bOh
 | aNh::ms=>bOk
 | ahF o::ms=>gF (ahF o)
 | .app i o::ms=>gF (.app i o)
 | .aug i o::ms=>gF (.aug i o)
 | .ext i o::ms=>gF (.ext i o)
 | Y1 o::ms=>gF (Y1 o)
 | Y0::ms=>gF Y0
 | YZ::ms=>gF YZ
 | Gg::ms=>gF Gg
 | .fo t i b::ms=>gF (.fo t i b)
 | .wh c b::ms=>gF (.wh c b)
 | RA::ms=>gF RA
 | Rz::ms=>gF Rz
 | Ry k::ms=>gF (Ry k)
 | .OF::ms=>bhC .OF
 | .adu a b::ms=>gF (.adu a b)
 | .VR a b::ms=>gF (.VR a b)
 | .an5 a b c::ms=>gF (.an5 a b c)
 | .adv a b c d::ms=>gF (.adv a b c d)
 | .jU a b::ms=>gF (.jU a b)
 | .an6 a b c::ms=>gF (.an6 a b c)
 | .an7 a b::ms=>gF (.an7 a b)
 | .OE a b::ms=>gF (.OE a b)
 | .adw a::ms=>gF (.adw a)
end
universe E_
universe L2
namespace L2
open PySem PySem.Spec PyProof.Rows
structure ao6(K:ĝ)(x qual:Str)(st:Stmt)(f:Addr)(fd:yA):Prop where
 ex:∃(oc:ě) (od:JS) (dV kV doc pm:ě) (an:JS) (ad7 ct:ě) (bOo:FT lL),
  fd=azO x qual dV doc an ad7 ct/\iw f=ā (Jl oc od fd bOo)/\Qu K ad7 qual=true
theorem ao6.aZ1{K:ĝ}(F:ao6 K x a d f fd)(S:X4 (Ir d))(g:aJm (e vs H Q E))
  (c:∀(b:ě),azP=b->∀(A:bJ) (Ï:ng) (s:Ĭ) (H:Hp) (vs:Ŕ) (Q:VK) (E:XK),XQ k (envOfC a (Ir d) Ģ f b)->e vs H Q E ->
   a5V (aRF a (Ir d) f b A Ï s H) (Om d) o):M_ ŕ f fd ps e:=by
 obtain⟨oc,od,dV,kV,n,pm,an,b,ct,j,rfl,l,i⟩:=F.ex;exact bEv l i S g fun A Ï s H vs Q E m h=>c b rfl A Ï s H vs Q E m h
universe L2
namespace L2
open PySem PySem.Spec PyProof.Rows
theorem f7.startM(m:n=fK)(e:LW)(l:p∉O)(o:GU)(c:bX p (GT k))(r:GR (O++[p]) vs):f7 D H (Dc N (eU::vs)) (aRG n Hl ds) O [p]:=by
 subst m;have one:∀(i:Nat) (s:Sv),ŋ (aRG fK Hl ds) s->(i=0/\s=.od Hl)\/(∃j d,i=j+1/\ĳ ds j d/\s=gz)\/s=.no:=fun i s h=>by
  cases i with
  | zero=>rw[Ż h (ı qQ)]
  | succ j=>
   have h:ĳ (avH++Kk (fK - (ŧ+1)) Sv.no) j s:=h;by_cases u:j<Ą avH
   ·rw[Fz u,Â]at h;cases q:ds[j]? with
    | none=>rw[xb]
    | some d=>rw[xb];rw[tU ⟨j,d,rfl,q,rfl⟩]
   ·rw[X1 Ă,aJr]at h;rw[a_]
    ·rw[Ż h (ķ gw)]
    ·cases h
 refine⟨azR,azR,ES j a d g h,azR,?_,bhE b e⟩
 ·rcases aRH with⟨_,z⟩ | ⟨j,g,rfl,q,z⟩ | z
  ·cases z
  ·rw[Ţ z (JM v f w (yD q) ?_ w),Ù Dc (Fz (cH Ċ ŀ (aOf (jh f)))) Â];show((vs[j]?).map some)=_;rw[f];rfl
  ·cases z
 ·rw[bhD]
 ·rw[bhD]
 ·rcases aRH with⟨rfl,z⟩ | ⟨_,_,_,_,z⟩ | z
  ·rw[zT z ⟨⟨p,_,bvk o,rfl,azQ rfl,c⟩,ġ j g q⟩];rcases one j _ q with⟨z,_⟩ | ⟨_,_,_,_,z⟩ | z
   ·exact z
   ·cases z
   ·cases z
  ·cases z
  ·cases z
 ·unfold Dc aRG;rw[Ÿ,Ċ,XZ,ŀ,ŀ,Ÿ,Ċ,XZ,Á];omega
 ·rw[BF b z]
  ·exact e.ne a z
  ·rw[aI z,c,E2 z]
 ·rw[aI b];exact dY c
 ·rw[Ĉ (aI b) l]
structure bOp(K:ĝ)(bl cl:ğ)(C:Addr)(d:FD)(x:Str)(fa:Addr)(fd:yA)(ps:ğ):Prop where
 me:Meth K C x fa
 bi:XT
 np:d.np=bo
 ex:∃qual st N,aRJ x fd/\X4 uM/\d.n=fK/\aRI bhF=true
theorem bvX{P:aB}{w:ņ}{K:ĝ}{mg:bY}{base:Heap}{G:Gs}{T:Gh}{fu:Nat}{bl cl:ğ}{C:Nat}(hC:rR)(bvY:Lh)(V8:Fn)(n1:azV)(n2:azU)(hs:bhR fa T)(V_:abd)
  (Wa:abc K) (bvZ:ahh) (ao7:Rn=[]) :
  ∀(k m:Nat) d x fa fd ps,ĳ T m d->ĳ adN m x->akW fa fd ps->M_ k fa fd ps (aF1 C6 C (ahK k m))
 | 0,m,d,x,fa,fd,ps,h1,h2,S=>by
  refine bhQ
  ·rw[bhP]
  ·rw[bhP]
 | k+1,m,d,x,fa,fd,ps,h1,h2,S=>by
  have ih:=bvX (P:=P) (w:=w) (base:=base) (fu:=fu) hC bvY V8 n1 n2 hs V_ Wa bvZ ao7 k;rw[ľ (gZ qual st N Fd FS hn hc S.ex) (Fd.aZ1 FS (akV vs) bhO)]
  ·obtain⟨O,p,dx,t,k0,args,ds,o,rfl,_,_,_,_,e2,e3,_⟩:=h;rw[bhN]
   ·rename_i z;rw[ŀ,e2.length,←S.np,←z,ŀ]
   ·cases e3
  ·obtain⟨O,p,dx,t,k0,args,ds,o,rfl,ho,hp,hl,hH,e2,e3,e4⟩:=h;rw[bhN]
   ·rename_i hlen;have g:Good bhF G (ahK k) bhM:=by
     refine⟨rfl,FS.nd,azT,azT,bhL,azS,azS,rfl,hr.units,fun f y hy=>(eZ hy),V_,⟨0,#[],0,ı bvZ⟩,Wa,bhK,ű Zo,(aar ao7 z),aRK,aIg,ű ⟨C,hC,V8,n1,n2,ń ζ m2 n bv0,aar bvY z⟩⟩
     ·rw[akJ hy]
      ·rw[ŝ hy]
      ·rw[tU hy]
      ·rw[BC hy]
     ·rw[akI hy hy]
     ·rw[akH hy];exact hy
     ·rw[Š d' bv1 bv2 bv3 q1 S' (hs m2 n bv0)];exact⟨k,bv1,bv2,bv3,hr,S'.me,S'.bi,ih m2 d' n bv1 bv2 bv3 q1 bv0 S'⟩
    cases ad8:a8l (Cb p k0)with
    | none=>rw[Ī ad8 e3 e3]
    | some oo=>
     rw[ad8]at e3;refine⟨_,bhJ,jG [p],O,[p],f7.startM hn ho hp hl hH e2,(fun a ha=>OQ ha),ajU,xX,?_⟩
     ·rw[cr (by rw[oh];intro z;exact hp (ŗ z ha))];exact ho.ne a ha
     ·cases oo with
      | nx δ=>
       cases δ with
       | nil=>cases e3
       | cons s0 δ=>
        cases s0 with
        | od s1=>
         rw[bhI .ę]
         ·rw[bhH];intro mR H' W R fr sm;rw[aRz a ob (R.od 0 _ rfl),bhG];exact e4 .ę H' k' rfl sm f3 (show ajM _ .ę .ę by unfold Rep;rfl)
         ·cases Wb
        | _=>cases e3
      | rt d fr=>cases e3
      | jU d s1=>
       rw[bhI d]
       ·rw[bhH];intro v H' a ob sm f0 f3 rp;rw[bhG];exact e4 v H' k' rfl sm f3 rp
       ·cases Wb
   ·cases e3
noncomputable def aZ2(sg:Sg)(f:Str)(s:Stmt)(q:uz):Bool:=Sj (IS t fun o n ζ=>aiK o fun a=>n==f&&Ek sg 0 a&&q v)
theorem bv4(h:aZ2 b f s q=true):∃a p1 p2 p3 v,s=Yk [Bt (nP a p1) f p2] v p3/\Ek b 0 a=true/\q v=true:=by
 refine btz h fun t v p3 h=>ON h fun o n p2 h=>V2 h (ġ a p1 h);rw[wZ ř h,cq rfl d c h];exact⟨_,_,_,_,_,rfl,d,c⟩
noncomputable def bOq(sg:Sg)(b:aM):Bool:=s9 b fun s1 s2=>aZ2 sg m7 s1 (fun v=>uA v (Ek sg 1 x))&&aZ2 sg qO s2 (fun v=>Se v ŭ)
structure aZ3(K:ĝ)(C:Addr)(fa:Addr)(fd:yA)(ps:ğ):Prop where
 mk':Mk K C fa
 bi:XT
 bOr:bo=2
 ex:∃qual st N,aRJ EA fd/\X4 uM/\fK=2/\bhS=true
section
variable {P:Program} {w:World} {K:PySem.W.Frag} {mg:Str->Option Value} {base:Heap} {C:Nat}
theorem bOs(S:aZ3 K C j fd ps)(f:Fn)(I:azV)(F:azU):M_ ŕ j fd ps (aZM C):=by
 rw[ľ (gZ e st N Fd FS J d S.ex) (Fd.aZ1 FS (akV B) (fun m L A c s H B Q E hr h=>?_))]
 ·obtain⟨p,l,t,rfl,_⟩:=h;rw[S.bOr];rfl
 ·rw[Š p l t rfl M q h];have g:Fv N [eU,k_]=[ā eU,ā k_]:=uL Fv J;rw[g];have b:∀{i:Nat} {x:Str},Ek bhT i x=true->lV N/\bqB uM x/\jj/\asj:=fun {i x} h=>by
   unfold Ek aFq at h;simp only[ĥ,pL,ř,akP,ne_eq]at h;rw[qu W U R O h];refine⟨W,?_,bE R,bE O⟩;rcases U with(hy | hy) | hy
   ·rw[ŝ hy]
   ·rw[tU hy]
   ·rw[BC hy]
  generalize Om st=bd at d ⊢;refine aYh d (ġ s1 s2 d);rw[Ę ĥ d (Ø a p1 p2 p4 vx rfl Z n (bv4 d.1)),Ø a' p5 p6 p7 v rfl Y o (bv4 d.2),aa8 n p3,gX (Ę ř o (Ŷ kc pc rfl (aoA o) (Ĩ a1 a2 a3 a4 (b Z)))) b1 b2 b3 b4 (b Y),Ĩ z y u r (b n)]
  let X:=aRF e uM j m A c s H
  refine iM _ (VG (brl (Os a1 a2 a3 a4) (Os z y u r) rfl) (VG (brl (Os b1 b2 b3 b4) bqG rfl) bqQ));refine⟨k_,rfl,eU,rfl,p,C,l,[],rfl,M,f,I,ø,?_⟩;refine⟨eU,rfl,p,C,l,[_],rfl,Μ,f,F,(Yt (1<1000)),?_⟩;rw[Ĉ bvU q]
def bv5(P:aB)(w:ņ)(K:ĝ)(mg:bY)(base:Heap)(G:Gs):Prop:=∃C:Nat,rK=(C:Int)/\Gd/\Fn/\azV /\ azU /\
 ∀k t j o,aRL=ĕ->∃fi V' ad5 fa fd ps f,aeU x9 C/\Mk K C fi/\Binds K V' ad5 []/\M_ k fi V' ad5 (aZM C)/\Meth K C tA fa/\XT/\M_ k fa fd ps (aF1 C6 C f)/\bgp
theorem bv6(h:bv5 de X.w X.K X.mg vH G)(v:akX)(u:kF):bvE G ţ X:=by
 rw[gZ C E B A y x w h];refine⟨C,E,A,y,x,(aar B z),Ý ζ t j o c⟩;cases k with
 | zero=>cases c
 | succ k=>
  have e:ω xW _=G.Ea ŕ _:=(z_ (Ρ T[xW]? none (if xW=xU then Ef _ akG else xR G ŕ _ xW _) aR (if[wO t,aj].length=a.np then wM (aZ _ a.body _)else none)) _ (Gy (þ v)));rw[e]at c;obtain⟨fi,d,b,F,a,ps,f,s,r,p,n,m,l,i,g⟩:=w k t j o c;exact⟨k,fi,d,b,F,a,ps,f,u,s,r,p,n,m,l,i,g⟩
theorem bOt{G G2:Gs}(J:rR)(y:G2.aoc=C)(F:Gd)(n:G2.aod=true)(b:Fn)(i:azV)(h:azU)(l:aeU x9 C)(I:aZ3 K C fi f c)
  (hs:bhR g T2) (s:abd)
  (e:aRN (G2.con.lookup x) K) (r:G2.gk=[]) (p:G2.adE=[])
  (B:∀k t j o,aRL=ĕ->aRM (runM G2 T2 fu k 4 [Cb a j]) C):bhU:=by
 refine⟨C,J,F,b,i,h,Ý k t j o E⟩;have z:=B k t j o E;rw[Š d g fd ps A S (hs 4 tA rfl)];cases k with
 | zero=>cases z 0 0
 | succ k=>exact⟨fi,f,c,g,fd,ps,_,l,I.mk',I.bi,bOs I b i h,S.me,S.bi,bvX y n b i h hs s e r p ŕ 4 d tA g fd ps A rfl S,z⟩
universe E_
universe L2
namespace L2
open PySem PySem.Spec PyProof.Rows
theorem aRR(m:n=fK)(r:GR O vs)(k:LW):f7 D H (Dc N vs) (aL n ds) O []:=by
 subst m;have c:bhV (.own b):=fun i b h=>by
  rw[aRQ]
  ·rw[aRP];cases q:ds[i]? with
   | none=>rw[xb]
   | some d=>rw[xb]
  ·rw[aRO]
 have g:bhV (.od b):=fun i b h=>by
  rw[aRQ]
  ·rw[aRP];cases q:ds[i]? with
   | none=>rw[xb]
   | some d=>rw[xb]
  ·rw[aRO]
 refine⟨azR,L8 b (eV h (c i b)),fun i j a p d2 h=>eV h (c i p),L8 d (eV h (g i d)),?_,⟨fun a f=>k.ne a (Ł f),zK,yH a f,yH a f,k⟩⟩
 ·rw[aRQ]
  ·rw[aRP];cases q:ds[i]? with
   | none=>rw[xb]
   | some d'=>
    rw[ab xb v l o (yD q)];refine⟨v,?_,Ć aN o⟩;rw[iG Dc (Fz (gh Ċ (jh l))) Â l];rfl
  ·rw[aRO]
 ·unfold Dc aL;rw[Ÿ,Ÿ,Ċ,Ċ,XZ,XZ,Á]
noncomputable def bv7(o:auF)(fn bl cl:ğ):eH->aM->aMX:=match o with
 | Yb=>aFu C fn bl cl
 | none=>IQ
def aF7(x:Str)(sc:yJ):Bool:=akY ß==(azn==bh)
theorem bOu(h:aF7 x sc=true):aD4 x=(x ++ aRS)++ao3 sc/\(azn=bh->Ix ((x ++ aRS)++ß)=true):=by
 rw[dr aF7 h ř];unfold aD4 ao3;rw[ol (azn=bh)]
 ·have e:akY ß=true:=gx h z;have a:akY Pe=true:=e;rw[nh (pw z a) rfl (ű e)]
 ·have e:akY ß=ă:=Ć h (bE z);rw[SR,Ř ((by have:akY Pe=ă:=e;rw[this];decide)),Į rfl (Lw w w z)]
def bOv(G:Gs)(T:Gh):Prop:=∀f ds,avh=KU->∃d,ĳ T f d/\d.vc=ds/\ds≠[]
structure bOw(K:ĝ)(mg:bY)(fn bl cl:ğ)(d:FD)(x:Str)(fa:Addr)(fd:yA)(ps:ğ):Prop where
 dk:d.vc≠[]->∃us dvs,aaX K us/\azd/\bhW
 mg:mg x=ayi
 kp:afV K fa=true
 bi:XT
 np:d.np=bo
 ex:∃qual st N,qual=x/\aRJ x fd/\X4 uM/\d.n=fK/\aRI aRU=true/\aRT=true
theorem bOx(hd:ĳ T f d)(e:d.np=n)(q:ţ f ds=ĕ):ŧ=n:=by
 cases k with
 | zero=>cases q
 | succ k=>
  rw[jY b ((Ρ T[f]? none (avL f _ _) ū (ahM c.np _ c.body _))=ĕ) q hd b,Mf a (ahM d.np _ Ku _) ĕ b]
  ·rename_i z;rw[z,e]
  ·cases a
theorem bv8{K:ĝ}(C:akZ)(hs:aRW fn c)(p:TY)
  (m:azW c) (z:Kg) (f:Nat) (y:Str) (n:ĳ fn f y) :
  ∃u c fd ps,lH u A/\mg y=ā qM/\afV K c=true/\XT/\(∀ds o,ţ f ds=ĕ->ŧ=bo)/\M_ u c fd ps (aFJ C6 bo (ţ f))/\DK K C6 G f fd ps:=by
 have B:f<aRV:=gh C (jh n);rw[gX (Tt l b T f B) j h g e (hs f l y b n)];refine⟨k,j,h,g,z,e.mg,e.kp,e.bi,fun ds o q=>bOx b e.np q,m f l y j h g b n e,Ĝ ds q⟩;rw[Ĩ d2 s r v (p f ds q),Ī b s s,AY (e.dk (Ć r v)) r]
theorem bOy{G:Gs}(h:o=none\/o=G.i6)(z:bv7 o fn bl cl b bd sc a=true):∃C,aa0/\aQJ b a=true:=by
 cases o with
 | none=>cases z
 | some C=>rw[υ C (ago (WM w) id).symm z]
theorem bOz{K:ĝ}(hT:akZ)(hs:aR3)(b9:abd)
  (b7:ak1 K) (b8:TY) (Y:azZ) (a1:abc K) (a0:azY) (c1:akX)
  (b4:azW fa) (b3:aR2) (b2:aR1):bh5 ŕ (ω xU):=by
 intro A J s H us U Q E O f m cs I d hr e0 r hO m1 m2 m3 rp rl hF hq;have c0:lS T xU:=Gy (þ c1);rw[bh4 a2 xU (d_::I) (xR G ŕ avK xU (d_::I)) (DV.lam m cs::I) c0];have j:=a2;rw[Ę jb j (bH Ef j),TJ j j]
 ·rw[fM a5 (Ĩ n1 n2 n3 n4 a5),Φ j]
  ·rw[Mg d' b6 j]
   ·rw[fW nl (j)];obtain⟨f',pr,bd,sc,q,a6,l,M,e1,lf,p,S,rc,b1,b0,a9⟩:=aoJ.mp rp;cases (e1);have a8:=lf.mono xX;rw[bh3 a7 hc (by rw[kU o v X W (b0 c hc) g (s_ X).2];exact⟨o,v,g,TZ c g,W⟩) C,dr aoH p ĥ];have Z:U.length=Tz:=akl;have F:Ą ZO=m.np:=Ä mn;have b5:aO=Ą ZO:=by rw[←Á,Z,F];exact n1
    have bWd:ayy=aRX:=rc.length;rw[ľ (bh2 L hc g (a7 c hc) o c2 O l a X W z (L a z)) (bJ1 (ps:=ZO) (ws:=M) (vs:=U) S C hr.ok e0 a8 (fun pm c' V3=>bH9 p.1 b5) (cH Z F n1) r (Ć F b1) (ajZ x) (fA c'))]
    ·rw[gb F h1 (gZ c o u X W g3 g4 (a9 i x v h1 h2))];have g:=(s_ W).2;exact⟨c,u,X,cY (TZ c g) g3,g4⟩
    ·have B:XQ k (aR0 a6):=hr.deeper _;have g4:aQU m.N pB fn bl cl ţ (aRZ m.N a6 A J):=by
      refine bh1 S.nd h B.units b8 b4 B b9 b7 a1 CY a0 b3 b2 CY (Y z)
      ·rw[akJ h]
       ·rw[ŝ h]
       ·rw[tU h]
       ·rw[BC h]
      ·rw[akI h h]
      ·rw[akH h,yP h]
       ·rw[aQS h]
       ·rw[Ŗ rfl (S.Eo _ (gu h))]
     have pe:=(snd ahH).1 g4 ((by have:=p.2;rw[m1,m2,m3]at this;exact this)) b6;refine⟨_,pe,O,[],?_,aRY (fA a4)⟩
     ·have R:=bh0 m.N I U M ak0 L c2;have e1:aL ak0 (I++cs)=(I++cs).map abe:=(bhZ aL Tz aRX);have e2:Dc m.N (U++M)=(U++M).map some:=(bhZ Dc U.length ayy);rw[ph e1 e2 R R]
     ·rw[ľ (jY a3 (azX (O++[]) d v) gt aN a3) (aOT (a3.mono FK))]
      ·rw[aaq]
       ·rw[Ĉ (aFM hb) e]
       ·rw[bhY]
      ·rw[bhX (a4 b z)];exact e
   ·cases (j)
  ·cases (j)
 ·cases (j)
theorem bOA{K:ĝ}(hT:akZ)(hs:aR3)(d6:abd)
  (d3:ak1 K) (d4:TY) (a8:azZ) (b1:abc K) (b0:azY) (d8:akX)
  (c5:azW fa) (c4:aR2) (a7:aR1) (hC:aa0):bh8 ŕ (ω mU):=by
 intro A B s H us vs Q E O f cs ds d hr e0 r hO ca a5 rl hF hq;have d7:lS T mU:=Gy (þ d8);rw[bh4 b3 mU Hm (if mU=mU then aXX G avK Hm else none) Hm d7];have M:=b3;rw[gb MZ M (Ę jb M (dr aXX M hC))];have F:(if Ą Hm=ahG/\e_ Hm=true then(match Y5 Y3 RB Hm with
  | YW=>aR4
  | _=>none)else none)=k9:=M
 rw[Φ F]
 ·rw[ic b7 F]
  ·rw[Mg d' d2 F]
   ·rw[fW nl (F)];obtain⟨q,pr,bd,sc,AS,cc,l,ws,c0,o0,df,a1,S,rc,a2,c3,c2,d0,⟨s1,s2,s3⟩,L⟩:=ca;rw[Ĩ c9 tx d5 a6 (aZO a1),bh3 a0 Z (gh (Ĩ o v g g2 (c3 c Z)) ⟨o,v,g,TZ c g,g2⟩) Ct];have a3:gR=ŧ:=akl;have W:Ą Cv=C.np:=hZ mn (av tx.len);have c6:aO=Ą Cv:=by rw[←Á,a3,W];exact a5
    rw[bh2 Y Z g (a0 c Z) o b2 O l a g1 g2 z (Y a z)];have U:∀{a b:Ħ},e_ (a++b)=true->e_ a=true/\e_ b=true:=fun {a b} h=>by
     induction a with
     | nil=>rw[Į rfl h]
     | cons x a ih=>
      have h':bW x.jX (e_ (a++b)):=h;rw[Ę ĥ h' (đ i1 i2 (ih h'.2))];refine QH i2;show bW x.jX (e_ a);rw[h'.1,i1];rfl
    rw[đ n3 n4 (U b7.2)];have nt:∀{b:Addr} {o:Obj} {u:HO},arU->(Xq iu)->b∉l:=fun e hd z=>by obtain⟨o',v,g,_,d'⟩:=a0 _ z;rw[Ī e g (g)];exact hd v d'
    refine bJ5 (N:=C.N) (ps:=Cv) (ws:=ws) (vs:=vs) (n:=bh6) (Ć a2 S) Ct hr.ok e0 df (fun b5 pm c' b6=>bMw c9 c6) (cH a3 W a5) r (by rw[W,a2,av tx.len]) (ajZ x) fun c' oc u T' h1 h2 h3=>?_
    ·rw[gb W h1 (gZ c o u g1 g2 g3 g4 (c2 i x v h1 h2))];exact⟨c,u,g1,cY (TZ c g2) g3,g4⟩
    ·have J:XQ k (aR0 cc):=hr.deeper _;have a9:Xq arN:=fun v z=>by obtain⟨o,vv,_,_,_,_,_,_,_,q1,_,q2,_⟩:=h3 Ĳ (TZ c' h1);rw[Ī (TZ c' h1) q1 (q1),Ī q2 z (z)]
     have e3:akE jL ß:=by
      obtain⟨c1,b9,u1,b8,t1,b5,pm,b6,T1,y1,y2,y3,y4,y5,y6⟩:=df;refine⟨c1,b9,u1,b8,t1,b5,pm,b6,T1,?_,?_,y3,y4,?_,y6⟩
      ·rw[cr (nt y1 fun v z=>eZ (z))];exact y1
      ·rw[cr (nt y2 fun v z=>Ń (Ī y3 z (z)))];exact y2
      ·rw[uI z (by rw[ň o' g (Y _ z) (Ī y5 g g)]) y5]
     have new:xh (aeT c=none/\c∉AI (aR0 cc::B)):=fun c Z=>by
      refine⟨(L c Z).1,mt⟩;obtain⟨o,v,_,g,_⟩:=a0 c Z;have z':c∈Ģ::AI B:=z;rw[p8 z' w w]
      ·rw[Ŗ (cX g) (Ć w Yi)]
      ·exact(L c Z).2 w
     have LA:=bJ6 (P:=P) (w:=w) (K:=K) (mg:=mg) (base:=base) (N:=C.N) (À:=sc) (f:=f) (cl:=cc) (A:=A) (Ï:=B) (sc:={sc with names:=[]}) Ct h1 a9 h2 h3 (af4 y m yJ);have g4:Good aNj G ţ (aRZ C.N cc A B):=by
      refine bh1 tx.nd m J.units d4 c5 J d6 d3 b1 (ű PassesOwn.never) b0 c4 a7 (aS ζ (iM ⟨c',T',rfl,fun I=>⟨LA.hd I,LA.tab I⟩⟩ (fun x a e=>new a (MU x a e)))) (a8 z)
      ·rw[akJ m]
       ·rw[ŝ m]
       ·rw[tU m]
       ·rw[BC m]
      ·rw[akI m m]
      ·rw[akH m];rcases m with m | m
       ·rw[aQS m]
       ·rw[Ŗ rfl (tx.Eo _ (gu m))]
      ·intro δ e es pos p rs re np nc e5 c8 c7 h;rw[dr aER h hC,GZ]
       ·rw[ab (fM z (đ rfl rfl z)) e4 e1 h ib];refine(bvB (cs:=e4) (C:=C) (at_:=fun _ _ f'=>f'=f) (fun {ta} A=>bvA (q:=q) (X:=aRZ C.N cc _ B) (a7 C hC) J a1 (ű ⟨S,EU,d0⟩) (fun ζ c Z=>new c Z) (fun {e6 σ H1 H2 s' f'} I sm ha=>?_) (ķ tx.IE) (Ń bh7) (ġ j i' hj) e1 A c8 c7) e5 h).weak fun σ H Q z=>τ f z
        ·rw[Kn ha ⟨e3.un I.base,c0,s1,o0,I.base.keep c0 o0 (TZ c0 s2) (OQ (MU _ _ s1)) (L c0 (MU _ _ s1)).2 (Lw z (a6H c0) Ğ),s3⟩]
        ·rw[ayq d1 j C.nc hj bh7 (Ī (List.getElem?_range' d1) hj (hj)),mj a4 (C.np+j<RB) (bL tx.len) ⟨C.N[C.np+j],Õ a4,?_,ķ (tx.jT _ _ Ă Ă (Õ a4))⟩];show C.N[C.np+1*j]? = _;rw[Ĉ Hn (Õ a4)]
       ·cases (h)
     refine⟨_,OV Y3 g4 a6 d2,jL,O,[],?_,(yH a ha),b2.ne,zK,aRY (fA b4)⟩
     ·have R:=bh0 C.N ds vs ws RB Y b2;have e2:Dc C.N My=ajI++Kk bh6 none:=(by unfold Dc;rw[Ÿ,a3,a5,a2,Nat.sub_sub]);rw[Ļ e2 R R]
     ·have d9:azX O d v:=gt;refine aOT (d9.mono FK)
      ·rw[aaq]
       ·rw[Ĉ (aFM hb) e]
       ·rw[bhY]
      ·rw[bhX (b4 b z)];exact e
   ·cases (F)
  ·cases (F)
 ·cases (F)
theorem bv9{P:aB}{w:ņ}{K:ĝ}{mg:bY}{base:Heap}{G:Gs}{T:Gh}{fu:Nat}{fn bl cl:ğ}(hT:akZ)(hs:aR3)(V_:abd)
  (aF8:ak1 K) (aF9:TY) (ao8:azZ) (Wa:abc K)
  (ao7:K1->azY/\akX/\bic qual fa) (V8:bib) :
  ∀k,(azW fa)/\(K1->aR2/\aR1)
 | 0=>by
  refine⟨bh9,ű ⟨(fun A Ï s H us vs Q E O f m cs ds d ζ ζ ζ ζ ζ ζ ζ ζ ζ hF ζ=>eZ hF),fun C ζ A Ï s H us vs Q E O f cs ds d ζ ζ ζ ζ ζ ζ ζ hF ζ=>eZ hF⟩⟩;refine bhQ
  ·rw[bia]
  ·rw[bia]
 | k+1=>by
  have ih:=bv9 (P:=P) (w:=w) (base:=base) (fu:=fu) hT hs V_ aF8 aF9 ao8 Wa ao7 V8 k;refine⟨bh9,fun z=>⟨bOz hT hs V_ aF8 aF9 ao8 Wa abf.1 abf.2.1 ih.1 abg.1 abg.2,fun C hC=>bOA hT hs V_ aF8 aF9 ao8 Wa abf.1 abf.2.1 ih.1 abg.1 abg.2 hC⟩⟩;obtain⟨qual,st,N,bwa,F,FS,hn,hc,bOB⟩:=S.ex;refine F.aZ1 FS (akV vs) bhO
  ·obtain⟨O,ds,o,_,e1,e2,_⟩:=h;rw[e2.length,e1]
  ·rw[Ø O ds o ho e1 e2 e3 e4 h,jY Wb ((Ρ T[i]? none (avL i fP avK) ahI a8d)=ĕ) e3 h1 Wb,jY ad9 ((ahM d.np ţ Ku (aL d.n ds))=ĕ) Wb (į (e1.trans S.np.symm)) ad9];have g:Good aRU G ţ bhM:=by
    refine⟨rfl,FS.nd,azT,azT,bhL,azS,azS,rfl,hr.units,bv8 hT hs aF9 ih.1 hr,V_,aF8,Wa,bhK,ű Zo,fun z=>⟨abf.1,⟨k,hr,abg.1,abg.2⟩,fun ζ=>by
      rw[aT c P q1 q2 q3 (abf.2.2 i d x qual st fa fd h1 h2 bwa F) (ş bwa (đ t1 t2 (bOu bOB))),uG t1 q3 ⟨c,P,bOC.symm.trans q1,q2,q3,t2⟩]⟩,(fun pr bd sc AS z=>bOy (V8 d (kJ h1)) z),aIg,fun z=>bv6 (ao8 z).2 (ao8 z).1 hr⟩
    ·rw[akJ hy]
     ·rw[ŝ hy]
     ·rw[tU hy]
     ·rw[BC hy]
    ·rw[akI hy hy]
    ·rw[akH hy];exact hy
   cases ad8:Y5 Ku d.n ds with
   | none=>rw[Ī ad8 ad9 ad9]
   | some oo=>
    rw[ad8]at ad9;refine⟨_,bhJ,H,O,[],aRR hn e2 ho,(yH a ha),ho.ne,QD H,?_⟩;cases oo with
    | nx δ=>rw[Ż ad9 (fun mR H' W R fr sm=>e4 .ę H' sm (show azX O .ę .ę by unfold Rep;rfl))]
    | rt d fr=>rw[Ż ad9 (aRY (e4 v H' sm gt))]
    | jU d s=>cases ad9
universe L2
namespace L2
open PySem PySem.Spec PyProof.Rows
noncomputable def aGa(fn bl cl:ğ)(d:FD)(N ps:ğ)(st:Stmt):Bool:=
 bih &&
 bie&&bid &&
 d.n==fK&&d.np==bo&&aRI aRU
section
variable {P:Program} {w:World} {K:PySem.W.Frag} {mg:Str->Option Value} {base h:Heap} {G:Gs} {T:List FD} {fu:Nat} {fn bl cl:List Str}
theorem bwb{st:Stmt}{kV i:ě}(X:ak4)(E:agn)(ok:Na d N ps st=true)
  (a:ak3 io x=Fj) (l:iw f=ā (Jl o n az0 g))
  (c:Qu K b x=true) (k:atg)
  (p:Binds K az0 ps [])
  (dk:d.vc≠[]->∃us dvs,Binds K az0 ps us/\azd/\bhW) (C:aRT=true:=by rw[A3]) :
  ak2 f az0:=by
 rw[jH aGa ok (aR5 B A z y w v u s r m)];exact⟨dk,PySem.W.mg_of X E a,k,p,r,x,st,N,rfl,⟨o,n,dV,kV,e,pm,j,b,i,g,rfl,l,c⟩,⟨B,A,z,OU y,w,v,u⟩,s,m,C⟩
theorem bOD{st:Stmt}{kV g:ě}(X:ak4)(r:agn)(ok:Na d N ps st=true)
  (a:ak3 io x=Fj) (l:iw f=ā (Jl n m (ak5 x i) j))
  (c:Qu K b x=true) (k:atg)
  (o:bii i x) (e1:d.vc=[]:=by rfl) (p:aRT=true:=by rw[A3]) :
  ak2 f (ak5 x i):=
 bwb X r ok a l c k (.all (o kV e pm i b g)) (Lw z e1 z) p
def HS(K:ĝ)(mg:bY)(fn bl cl:ğ)(T:Gh)(fs:ğ):Prop:=aRW fs fa
theorem bOE:az1 [] fs:=fun i d x h=>bV
theorem aea(h:ak2 e fd)(t:az1 T fs):az1 (d::T) (x::fs):=fun i f c b a=>by
 cases i with
 | zero=>rw[Ţ b (ψ a (yL _ h))]
 | succ i=>exact t i f c b a
theorem bOF:jG []=H:=by
 funext b;unfold bA;simp
def HC(K:ĝ)(mg:bY)(c:ag4):Prop:=aRN (c.lookup x) K
theorem bOG:HC K mg []:=fun x d h=>bV
theorem aZ4(h:∃u v,mg y=Δ/\bij K)(t:HC K mg c):HC K mg ((y,d)::c):=fun x a q=>by
 rw[Zg jx q]
 ·rw[fW e q]
  rwa [aR6]
 ·exact t x a q
theorem bWe(e1:G.vc=[]:=by rfl):TY:=fun f ds q=>(Ń (Yh e1))
noncomputable def aZ5(N ps:ğ)(st:Stmt):Bool:=
 bih &&
 bie&&bid &&
 fK==2&&bo==2&&bhS
theorem bOH{st:Stmt}{h:JS}{kV g:ě}(m:d.i6=none)(ok:aR7 d N ps st=true)
  (a:Fi x=Fj) (i:as9) (k:atg) (l:iw f=ā (Jl p o (ak5 q h) j)) (c:Qu K b q=true)
  (r:bii h q) :
  akW f (ak5 q h) ps:=by
 rw[dr aGa ok m,aR5 E B A z y w v u s n];exact⟨⟨a,i,k⟩,.all (r kV e pm h b g),s,q,st,N,⟨p,o,Ġ,kV,e,pm,h,b,g,j,rfl,l,c⟩,⟨E,B,A,OU z,y,w,v⟩,u,n⟩
theorem bOI{C:Nat}{q:Str}{N h:ğ}{st:Stmt}{f:Addr}{kV b pm a d:ě}(ok:aZ5 N h st=true)(m:Mk K C f)
  (l:iw f=ā (Jl n k aR8 g)) (c:Qu K a q=true)
  (o:aR9 b e a d i XE axn aR8 (h.zip i)) :
  aZ3 K C f aR8 h:=by
 rw[jH aZ5 ok (aR5 z y x w v u t r p j)];exact⟨m,.all (o kV b pm e a d),p,q,st,N,⟨n,k,Ġ,kV,b,pm,e,a,d,g,rfl,l,c⟩,⟨z,y,x,OU w,v,u,t⟩,r,j⟩
def HM(K:ĝ)(bl cl:ğ)(C:Nat)(T:Gh)(fs:ğ):Prop:=∀(i:Nat) x,lV fs->∃d fa fd ps,uB T/\akW fa fd ps
theorem bOJ:aSa [] []:=L8 x bV
theorem Wc(h:akW e fd c)(t:aSa T fs):aSa (d::T) (x::fs):=fun i b a=>by
 cases i with
 | zero=>rw[ψ a a7K]
 | succ i=>exact t i b a
theorem bWf{p:Prop}(e:rK = -1:=by rfl):uo->p:=Ye (Ļ e z (eV z Đ))
def bOK(K:ĝ)(a:Addr)(l:ag4):Prop:=bgl (l.lookup k)
theorem bOL:ak6 []:=fun k v h=>bV
theorem bOM(f:ak3 a k=ā Δ)(g:cu)(d:bik)(t:ak6 l):ak6 ((k,r)::l):=fun c b q=>by
 rw[Zg jx q]
 ·rw[fW e q,bn e];exact⟨_,_,f,g,d⟩
 ·exact t c b q
theorem bwc:∀{a:ğ},(∀s∈a,ů F0)->n9 (nT wO) (nT zR)
 | [],_=>wS
 | s::a,h=>lj (zL (uq s)) (bwc (jq t b))
theorem bON{ss:ğ}(d:ů RP)(hs:∀s∈ss,ů F0)(hv:Vals (ss.map zR) av7)(e:iw b=ā ⟨aiu,none,.seq c n,#[]⟩)(f:ak3 a k=ā (yR b))(r:ak6 l):ak6 ((k,Ē (ss.map wO))::l):=
 bOM (v:=mr) f rfl (fun mg H=>axb ⟨b,_,rfl,ķ ⟨_,c,n,e,qQ,rfl,d,hv⟩,bwc hs⟩) r
def spS(K:ĝ):Sp:=fun vs H Q ζ=>∃(a:Addr) (ns:Ď),vs=nB/\KN<=63/\OP K H a aJS/\∀H',Q iK H'
theorem bOO(hT:akZ)(hs:az1 T fn)(J:abd)
  (C:ak1 K) (F:TY) (z:azZ) (l:abc K) (h1:uB T) (h2:lV fn) (S:aSb K x m fd [p])
  (B:K1->azY/\akX/\bic b m) (I:bib)
  (y:∀j:Ď,Fg<=63->Ê k i [.fx j] iK):M_ k m fd [p] (spS K):=by
 refine⟨akV N,fun A f s H o O N Q E R X Y hv h=>?_⟩
 ·rw[tW a j rfl h];rfl
 ·rw[ľ (Š a j rfl W hS U h) (wf (((bv9 hT hs J C F z l B I k).1 i d x m fd [p] h1 h2 S).run A f s H o O _ Q E0 R X Y hv ⟨[],[.fx j],_,(yH a Z),rfl,?_,y j W,ń v M ζ g⟩) (Qn q))]
  ·rw[ĺ (wT (btM.mpr (τ a ?_))) (Ĉ bOF hS)]
  ·have L:ajM (bA [] M) _ v:=g;rw[Ę aYN L (cA L (U M))]
  ·cases r with
   | Bx e=>exact S_ q
   | ok fl=>cases fl<;>first | rw[eW q] | exact q
universe E_
theorem bOP{l:a6N}{XP:bY->Ž Heap}{K:cW->ĝ}(r:l.most=ā 63)(g:aJQ=[])(o:aJ0)
  (x:a6M) (e:a6L)
  (F:∀(w:ņ) (c:bY) (j:Addr) (h:Heap),agm h->h.Ns io c->c age=ā (ċ j) ->
   ∃i:yA,(atY u i p)/\∀b:Heap,agm b->b.Ns io c->aEg l.prog w Kw c b VO k j i [p] (spS Kw)) :
  a6K m:=
 L2.bE6 r Đ g o x e F (fun ζ ζ a n v A y=>⟨a,n,rfl,v,OP.of A y,Qh⟩) (asV z z)
universe L2
namespace L2
open PySem PySem.Spec PyProof.Rows
def vR:lL->JS
 | ā (ċ P)=>ā P
 | _=>none
def vS:ſ lL
 | ā (mh _)=>true
 | _=>ă
def vI:ſ lL
 | ā (iJ _)=>true
 | _=>ă
def vB:ſ lL
 | ā (je _)=>true
 | _=>ă
theorem bOQ(h:vR o=ā P):o=ā (ċ P):=by
 rw[azg vR]
theorem bOR(h:vS o=true):∃a b,o=ā (agR b):=by
 rw[cM vS]
 ·exact Hu
 ·cases h
theorem bwd(h:vI o=true):∃a b,o=ā (rJ b):=by
 rw[cM vI]
 ·exact Hu
 ·cases h
theorem bOS(h:vB o=true):∃a,o=ā (je a):=by
 rw[cM vB]
 ·exact ce
 ·cases h
def bwe(K:ĝ)(o:Obj)(c:Addr):JS:=match J5,iu with
 | WQ,Ju=>Ź (vR vs[11]?) P (axU (vS vs[18]? =true/\vI vs[7]? =true/\vB vs[9]? =true/\vI vs[10]? =true) (if k6 c P/\(iw P).isNone=true then ā P else none))
 | _,_=>none
def bOT(K:ĝ):Bool:=K.all fun p=>match p.2.data with
 | .func fd=>(match azP with
  | qM=>(Ρ (iw c) ĕ (bwe K o c).isSome none true)
  | _=>true)
 | _=>true
theorem ao9{vs:jd}(h:X0):WP i=v:=by
 rw[Lm,h];rfl
theorem bOU{K:ĝ}{st:Stmt}(R:bOT K=true)(F:ao6 K x f st W fd):bim f:=by
 obtain⟨oc,od,dV,kV,Y,pm,an,w,ct,H,e,I,g⟩:=F.ex;have j:azP=w:=Ń e;have q:=zV R _ (anZ I);rw[Zh q,ax Qu g]
 ·rename_i c;rw[Ę j q (TJ q g)]
  ·rename_i cls Z y sl p;rw[p]at q;rw[Zh q,ň P i (Fw q) (ax bwe i)]
   ·rename_i B A S;have u:=(by have:=S;injection this);rw[ş u (Ė P' o i (dz i))];have o:=bOQ o;rw[Φ i]
    ·rw[fM w5 (Ĩ O N M L w5),aJ k E O (bOR O) U m N (bwd N),ň b M (bOS M) (Ė C l L (bwd L)),Φ i]
     ·rw[fW d (i),Φ g]
      ·rename_i a n t r hv;rw[zM Q (bn g)];have J:ĳ y 1 (.str n t):=by rw[←pZ,hv];rfl
       refine⟨c,P,j,fun h X=>⟨_,y,k,E,U,m,b,C,l,X _ _ p,A,rfl,o,ao9 o,ao9 O,ao9 N,ao9 M,ao9 L,mt⟩,?_⟩
       ·rw[bil d]
       ·rw[Zn IA (a4V (iM _ (anZ p))),zM v A];simp only[o,J,d.2,nK]
      ·cases (g)
     ·cases (i)
    ·cases (i)
   ·cases (i)
  ·cases (g)
 ·cases (g)
theorem bOV{K:ĝ}(h:p∈tK):∃(c:Addr) (a:Obj) (vs:jd),(c,a)∈K/\a.cls=WQ /\ a.data=Ju/\ĳ vs 11 (ċ p.1)/\iw p.1=none:=by
 rw[on IA (uJ c a d e (aIO h)),TJ e e]
 ·rw[aah vs g f (Φ e)]
  ·rename_i P q t b k2;rw[Φ e]
   ·rw[fW z e];exact⟨c,a,vs,d,g,f,b,bio z⟩
   ·cases e
  ·cases e
 ·cases e
theorem bOW{K:ĝ}(f:o9 (abh lP))(h:(c,o)∈K):iw c=ĕ:=by
 induction K with
 | nil=>cases h
 | cons y l g=>
  rw[ς Ö f d (Fu f),ň a b y jx,bM h]
  ·rw[Ţ z ue]
  ·rw[a6V c a d (g d.2 z)]
theorem bOX{K T:ĝ}(i:ak4)(f:T.In h)(e:(o9 (abh lP)))(j:eK tK p (T.lookup p.1)=Ĥ tK ζ (ā (aHJ #[]))) :
  aJY K (iw p.1) (vW p.1) h:=fun p a=>by
 rw[Ø c d b g n m l k (bOV a)];exact⟨k,f _ _ (bip j p a),c,d,b,i _ _ (bOW e g),n,m,l⟩
theorem aZ6{K:ĝ}(X:PySem.W.Frag.In (T++K) h)(f:FG (abh lP) a (T.lookup a).isNone=true):ak4/\T.In h:=by
 have c:∀(T K:ĝ) a,(T++K).lookup a=(T.lookup a).or (iw a):=fun T K a=>by
  induction T with
  | nil=>simp
  | cons y l d=>
   rw[đ b v y,Kz,jx,jx];cases hb:a==b with
   | true=>rfl
   | ă=>
    exact d
 refine⟨biq,biq⟩
 ·rw[c,bio (zV f a (nL (dY (anZ e)))),e];rfl
 ·rw[c,e];rfl
universe L2
namespace cv
variable {α β:Type} (h:β->α->Bool)
def wi(bs:xl)(e:α):xl:=bs.filter fun b=>h b e
def lf(es:di)(b:β):di:=es.filter fun e=>!h b e
def AV(g:β->ś xl):xl->ś xl
 | []=>none
 | b::bs=>match g b with
  | ū=>ā (b::c)
  | none=>AV g bs
def Er:Nat->di->xl->ś xl
 | _,[],_=>FZ
 | 0,_::_,_=>none
 | m+1,jz,bs=>AV (fun b=>Er m (lf h dW b) bs) (wi h bs e)
theorem bwf:∀{bs:xl} {c:xl},AV g bs=ū->∃b r,b∈bs/\g b=Û/\c=b::r
 | [],_,q=>eZ q
 | b::bs,c,q=>by
  rw[ax AV q]
  ·rw[v4 r e (ψ q ⟨b,r,dQ,e,rfl⟩)]
  ·rw[lT h r f d a (bwf q) h r (ť f) d a]
theorem aZ7:∀{bs:xl},AV g bs=none↔lU b bs (g b)
 | []=>⟨(fun ζ b a=>eZ a),Qh⟩
 | b::bs=>by
  rw[jF]
  ·intro q c a;rw[ax AV q]
   ·cases q
   ·rw[fM e (bM a)]
    ·rwa [z]
    ·exact aZ7.mp q c z
  ·rw[ir q (š AV (Ĉ (q b dQ) (aZ7.mpr fun c a=>q c (ť a))))]
theorem aZ8:∀{m:Nat} {es:di} {bs c:xl},aSc=ū->(tN c bs)/\bir/\jt<=m
 | m,[],bs,c,q=>by
  have:c=[]:=by cases m<;>(rw[wW Er q q];rfl)
  rw[eN this ⟨(aS z (eZ z)),(aS z (eZ z)),cg⟩]
 | 0,_::_,_,_,q=>Ń (wW Er q q)
 | m+1,jz,bs,c,q=>by
  rw[jH Er q (ab (ĩ b r h1 h2 rfl (bwf q)) i1 i2 i3 (aZ8 h2))];have hb:=xm h1;refine⟨Ĝ b' z,Ĝ e' z,a8H i3⟩
  ·rw[bM z]
   ·rw[Ĉ z hb.1]
   ·exact i1 b' z
  ·by_cases hh:h b e'=true
   ·rw[υ b dQ hh]
   ·rw[gC b' p1 p2 (i2 e' (abi ⟨z,Ł hh⟩)) b' (ť p1) p2]
theorem aGb[agP β]:∀{m:Nat} {es:di} {bs c:xl},(tN c bs)->bir->jt<=m->aSc≠none
 | m,[],bs,c,_,_,_=>by cases m<;>(unfold Er;rw[E2 z])
 | 0,jz,bs,c,_,h2,h3=>by
  rw[fC b p (h2 e dQ)];cases c with
  | nil=>cases p
  | cons _ _=>cases h3
 | m+1,jz,bs,c,h1,h2,h3=>by
  rw[Ė b p q (h2 e dQ)];unfold Er;intro z;have:=aZ7.mp z b (abi ⟨h1 b p,q⟩);refine aGb (c:=c.erase b) (fun b' hb=>h1 b' (List.mem_of_mem_erase hb)) (Ĝ e' he) ?_ this
  ·rw[ň bOY bwg (xm he) (Ė b' p' q' (h2 e' bOY))];have V7:b'≠b:=Ye (Ę z q' (Ī q' bwg bwg));rw[υ b' ((biu V7).mpr p') q']
  ·rw[av (bis p)]
theorem bOZ[agP β](q:aSc=ū)(l:∀k<m,Er h k es bs=none):jt=m:=by
 rw[jk d b a (aZ8 h q) (fB (avZ a))]
 ·rw[Ŗ (l _ z) (aGb h d b Ķ)]
 ·exact z
universe cv
namespace rk
variable {α β:Type}
abbrev Rw:=Zd
universe rk
namespace rk
def aZ9(q:Nat×Rw)(x:Rw):Rw:=fun j=>x j*q.2 q.1 - x q.1*q.2 j
def rz(K:ag3 Rw)(x:Rw):Rw:=K.foldl (fun x q=>aZ9 q x) x
def Nil(m:Nat)(x:Rw):Prop:=biv
def ld(m:Nat)(x:Rw):Nat:=(biw).getD 0
theorem a0a(h:¬Nil m x):ld m x<m/\x (ld m x)≠0:=by
 cases q:biw with
 | none=>
  refine eV (qp j) h;have:=bix q j (zx a);rw[aaA]
 | some j=>
  have e:ld m x=j:=uL ld q;rw[e];refine aD (ay (axY q));have:=axX q;rw[aaA]
instance (m:Nat) (x:Rw):Decidable (Nil m x):=inferInstanceAs (Decidable biv)
def kz(v:ak7)(m:Nat):Nat->ag3 (Nat×Rw)
 | 0=>[]
 | n+1=>
  let y:=rz (nG abj) (v n)
  İ (Nil m y) abj (abj++[(n,(ld m y,y))])
def a0b(v:ak7)(m n:Nat)(x:Rw):Rw:=rz (nG abj) x
def bz(v:ak7)(m n:Nat):ė:=vA abj
theorem a0c(v:ak7)(m n:Nat):kz v m gB=biy abj (n,(ld m aSd,aSd)):=rfl
theorem bO0(v:ak7)(m n:Nat):bz v m gB=biy (bz v m n) n:=by
 rw[š bz a0c];split
 ·rfl
 ·rw[Χ];rfl
abbrev N2:=gG
def px(a b:N2):N2:=(a.1 ^^^ b.1,a.2 ^^^ b.2)
def st(p:N2)(q:N2):N2:=İ (p.1.testBit q.1.log2) (px p q) p
def red(K:ī N2)(p:N2):N2:=K.foldl st p
def xo(L:nW)(m:Nat):nW
 | 0=>0
 | n+1=>İ (m.testBit n) (xo L m n ^^^ L n) (xo L m n)
def kp(L:nW):Nat->ag3 N2
 | 0=>[]
 | n+1=>
  let p:=red (nG T0) (L n,0)
  İ (p.1=0) T0 (T0++[aSe p])
def rk(L:nW)(n:Nat)(p:N2):N2:=red (nG T0) p
def bs(L:nW)(n:Nat):ė:=vA T0
theorem bO1(L:nW)(n:Nat):kp L gB=if(rk L n (L n,0)).1=0 then T0 else T0++[aSe (rk L n (L n,0))]:=rfl
universe rk
namespace k85
open PySem L2
set_option genInjectivity true in
inductive Pl where
 | fin (v:Int) | ask (row:Bool) (c:Nat) (a b:Pl)
def side(r:Bool):DV:=İ r dM qw
def dv:Pl->DV
 | su=>zi xn v
 | ak8=>Ē [ox,side r,RE,dv a,dv b]
def ht:Pl->Nat
 | Dd=>0
 | abk a b=>az2+1
def lv:Pl->Nat
 | Dd=>1
 | abk a b=>lv a+lv b
def apa:Ž Pl
 | su=>abl v
 | .ask _ c a b=>1<=c/\c<=255/\apa a/\apa b
def stx(l:ė):Str:=⟨aLO⟩
def bwh(o:Nat):ė:=pd 8 fun d=>o/2^d%2==1
def tx:Pl->ė
 | su=>[48+T4]
 | ak8=>aSf r a b [41]
def bO2(k:Nat)(t:Str)(j:Int):Prop:=j=0/\50<=k/\∃p,Ad/\ht p<=40/\t=stx (tx p)
def bwi:FD:=sw 3 (.and [abm [jm],.not (abm [we]),biz])
def bwj:FD:=Ae 1 1 (uN biB) (uN biA) (az3 ĉ)
def bwk:FD:=eA (.and [abm [Ò,aC],aSg ù gH ak9])
def bwl:FD:=eA (.and [Ψ 2,ala [xp (abo 0 ŭ abn) ĉ]])
def bwm:FD:=eA (De [alb (De [aSh]) [xq 0] uO])
def bwn:FD:=Ae 3 3 (abp 6 [az,gH]) (abp 6 [ģ,xq 0]) (ł 9 [ĉ,iX 8,ł 8 Hv])
def bwo:FD:=abq [uN (Af 0 [ĉ,gV,Hw az4])]
def bwp:FD:=abq [uN (Af 0 [ĉ,ŭ,alc])]
def a0d:FD:=eA (alf (.fw [ale ĉ]) ald uO)
def bwq:FD:=sw 3 (De [lx biC Ľ az5])
def bwr:FD:=eA (lx aSi ĉ uO)
def bws:FD:=eA (alg 10 4)
def bwt:FD:=eA (ł 9 [ĉ,abr 10,abr 11])
def bwu:FD:=xr 2 1 (Hx (Ψ 12)) (.and [aSj (alh uP) (.oS abt),aSj (xq 1) (.oS abt)])
def bwv:FD:=mL 1 [az6 (Ψ 13)]
def bww:FD:=Ae 3 1 (Df 1) (T5 2 ĉ [.ext 1 ģ]) (Nb uP)
def a0e:FD:={n:=5,np:=2,body:=[fZ 2 10 [abu 18],oy (Nb Hv),du 4 (ale (Hw (gI Ō))),.ret (lx biD ģ (uQ 3 4))]}
def a0f:FD:={n:=2,np:=2,vc:=[dM],body:=[.ret (aSk (abu 16))]}
def bwx:FD:=sw 2 (.ite (abv dM) ĉ (Ψ 4))
def bwy:FD:=sw 2 (lx ald (.fw [alc,abw,abw]) uO)
def bwz:FD:={n:=5,np:=2,body:=[az7,Ag (abr 11),Df 3,T5 4 (abr 10) [.ext 3 aSm],.ret aSl]}
def aGc:FD:=az8 [ie (abv oz) oz,Ag T6,oy abx,ut 4 biE,ut 5 aSl,.ret (.ite (.cmp .GtE (gI ah) (gI cR)) ah cR)]
def a0g:FD:=Ae 4 3 (oy biG) (Ah (aSn 2 2)) biF
def a0h:FD:={n:=5,np:=2,body:=[Df 2,Hy 3 [gV,sx gH] [biH,aSo],.ret ģ]}
def a0i:FD:=xr 4 3 (fZ 3 8 uP) (Nc (aSp (xq 0) ĉ ģ))
def a0j:FD:=xr 4 3 (fZ 3 8 uP) (Nc (aSp gH ģ ĉ))
def bwA:FD:=az8 [az7,fZ 2 23 ali,fZ 3 27 T7,du 4 ŭ,ut 5 aSq,.wh aSr [.aug 4 ù,ut 5 aSq],.ret cR]
def bwB:FD:=Ae 6 3 (Df 3) (alj 4 5 ĉ [biJ]) biI
def bwC:FD:=biK (abu 29)
def bwD:FD:=sw 2 (dF (aln (alm xt T6 (alk Hz (jM 1))) ù) ù)
def bwE:FD:=biK (Af 29 aby)
def apb:FD:={n:=5,np:=3,body:=[sA oz oz,ie aSs .ę,T5 3 biM biL,.ret (.ę)]}
def bwF:FD:=eA (alg 34 35)
def bwG:FD:=eA (alg 34 36)
def bwH:FD:=eA (Da (Ē [xt,Hz,az]) Dg (.adt ĉ) abz)
def bwI:FD:=eA (abo 39 ŭ x5)
def bwJ:FD:=eA (abo 39 gV AZ)
def a0k:FD:=sw 2 (fh ù (.bi .max ali))
def bwK:FD:=sw 2 (fh ĉ Ľ)
def bO3:FD:={n:=8,np:=3,body:=[az7,oy (Ψ 12),.sep 4,Hy 5 [gV,sx (gI Ō)] [biO [biN]],.aXx 4]}
def bwL:FD:=Ae 4 2 (Ag (lx biQ (Ψ 41) (uQ 0 1))) (oy (lx biP (iX 41) (uQ 0 1))) (fh ģ Ō)
def bwM:FD:=eA (alf (.fw [gV,ĉ]) (.and [dF (aln ĉ Ľ) ĉ,T9 ĉ (Lc Ľ ĉ)]) uO)
def bwN:FD:=eA (HA (Ψ 32) abw dL)
def bwO:FD:=eA (HA (Ψ 33) abw dL)
def bwP:FD:=eA (abo 45 (Ψ 35) x5)
def i6:auF:=ā ⟨[GG,GF,Ey,Pf,A1,"own",Pg,"split","no","yes"],2,4,[aSw,ie (aSv ly) (Ē [xn,gJ 6]),du 7 (.aEt (abu 40) [Jj,Pf,Ey] 1 aSu [3,2]),du 8 (Dh 7),du 9 (oB 7 3),.ret (Ē [ox,gJ 7,ł 47 [jM 7,biR],aSt (Nd 8),aSt (Nd 9)])]⟩
def bwQ:FD:={n:=6,np:=3,i6:=i6,body:=[oy (Ψ 12),du 4 (.aEu lN xu (alg 46 10) (alg 46 11)),.aEy 5 az9 [Hw (sx (gI Ō)),Hw (sx (xq 3))]]}
def bwR:FD:=eA (lx (Nc biS) (Nb gK) uO)
def bwS:FD:=sw 2 (Nc (lx (aAa ĉ) (Ψ 8) (Ai 1)))
def bwT:FD:=eA (gI (Ψ 49))
def bwU:FD:=mL 6 [Df 1,Df 2,alj 3 4 ĉ biT,.ret Ľ]
def bwV:FD:=az8 [ut 2 (.bi wj gK),T5 3 Ľ biU,.ret ģ]
def bwW:FD:=eA (.ix biV ŭ)
def bwX:FD:=Ae 3 3 (abp 7 [az,ak9]) (abp 7 [ģ,ak9]) (ł 53 T7)
def bwY:FD:={n:=7,np:=3,body:=[Df 3,du 4 ĉ,.wh biY (biX 6 4 2 3),.ret biW]}
def bO4:FD:=sw 3 (.ix (ł 53 T7) ù)
def bwZ:FD:=az8 [alj 2 3 Ľ [biZ],.ret iK]
def bO5:FD:=xr 1 1 (alo ĉ) (aAb ĉ ĉ (.ite (Aj Ľ) ù ŭ) [])
def bO6:FD:=Ae 2 2 (alo ĉ) (alo az) (aAb ĉ Ľ (.ite (T9 ĉ Ľ) ù ŭ) [])
def bw0:FD:={n:=3,np:=3,vc:=[dL],body:=[alo ĉ,alo az,abp 61 [ģ,dL,.oS aAc],.ret (.aEv 62 ĉ Ľ ["r","c","k"] 2 (lh (fh ĉ Ľ) ģ) [2])]}
def bO7:FD:=xr 1 1 bi0 (aAb abA abA (Nf 8 [aln ĉ Ľ]) [])
def bO8:FD:=xr 1 1 bi0 (aAb ĉ abA ald [])
def bO9:FD:=aSx [uN (Af 0 T7)]
def bPa:FD:=sw 3 (De [alb (De [alb (aAd 1 [ģ,ĉ]) uP az5]) gK (uQ 1 2)])
def bw1:FD:=mL 1 [az6 (sC 64 (.oS aAe)),uN (.cmp .Gt (Ψ 69) bi1),.ret ĉ]
def a0l:FD:=xr 2 2 (ie (Ψ 65) iK) (.and [.cmp .Gt Ľ ŭ,Ψ 66,ł 64 [oB 0 3,alc],ł 64 [oB 0 4,alc]])
def a0m:FD:=eA (.and [sC 67 dL,ł 68 [xt,xn],ł 0 [Hz,ŭ,.oS abn]])
def bw2:FD:=xr 1 1 (Ah (.or [.not (sC 67 HB),Af 68 [xt,ox]])) (.and [.or [ł 68 [Hz,dM],ł 68 [Hz,qw]],ł 0 [Dh 0,gV,.oS aAf]])
def bw3:FD:=sw 2 (.and [abm [aC],dF gH Ľ])
def bw4:FD:=sw 2 (.and [abm [jn],Aj Ľ])
def a0n:FD:=xr 1 1 (ie alp gV) bi2
def bw5:FD:=eA (aAg "/" (xp (Ng ĉ) ĉ))
def bw6:FD:=mL 1 [aSy,.adw [ie bi4 (ł 72 [aAh ":"]),bi3]]
def bPb:FD:=mL 3 [Hx xt,Ag (xp (Ψ 73) (.IE ĉ ù)),aSz aez 56,ie (aSA aey dL) (ł 57 (Nd 2)),ie (aSA A0 iY) (ł 58 [gJ 2,jM 2,Dh 2]),aSz aex 59,aSz aew 60,.OF]
def bPc:FD:=xr 1 1 (uN (.or [.cmp agW gH (Ē (dg 1 2)),dF xt (.str "0"),.bi .any [xp aSB ĉ]])) (.bi .int gK)
def a0o:FD:=mL 5 [ie alp (ig [Hz]),Hx bi6,Ag (Ng (alq 8 2)),fZ 3 74 [oB 0 3],fZ 4 74 [oB 0 4],.ret bi5]
def bw7:FD:=mL 3 [aSy,.an7 1 ĉ,.OE 2 1,uN bi7,.adw [T_ 63 Hv]]
def bw8:FD:=eA (Nf 78 [Ψ 77])
def bw9:FD:=eA (xp (Nc aSC) ĉ)
def bPd:FD:=eA (Da ĉ (uR [0,1,2]) (Ψ 79) bi8)
def bxa:FD:=mL 5 [Df 1,alj 2 3 ĉ [bja,bi9],.ret Ľ]
def bxb:FD:={n:=7,np:=2,body:=[Ag ĉ,oy ŭ,.fo (uR [4,5,6]) Ľ [bjb],.ret (Ē [ģ,Ō])]}
def bxc:FD:=mL 4 [aSy,Hx (.aEw ĉ HE),Ag T6,uN (.or [.aXv ģ,bje]),oy (Da (abu 82) Dg (.zp alr abx) abz),bjd,bjc]
def bPe:FD:=Ae 2 2 (ie (Aj sD) (iX 71)) (sA Ua (iX 75)) (iX 83)
def bxd:FD:=xr 1 1 (uN (.or [Di gH ù,aSB])) (.bi .int gK)
def bxe:FD:=abq [sA (.str Uf) (iX 70),sA (.str Ue) (als 70 12),abB Nh (iX 42),abB Ud (iX 43),abB x4 (iX 48),abB Uc (iX 76),sA (.str Ub) aSD,T_ 74 [iX 44]]
def bxf:FD:=abq [abB Ni (Nf 26 (Nd 1)),abB x8 (Nf 20 (Nd 1)),sA (.str Ex) (ł 86 [ł 52 [gJ 1,jM 1,Dh 1]]),.ret (.ite (ł 55 (Nd 1)) aSE (.str "no"))]
def bPf:FD:=eA (.bT (HF (Ng xt)) (ig [Hz]))
def bxg:FD:=abq [ie (T9 Ľ gH) (alt Ľ),.ret ŭ]
def a0p:FD:={n:=5,np:=2,body:=[Df 2,oy (fh (aAi (ć aSF)) (ć 48271)),Hy 4 uP [oy bjg,bjf],.ret ģ]}
def bxh:FD:={n:=4,np:=2,body:=bji [bjh]}
def a0q:FD:={n:=10,np:=2,body:=[fZ 2 88 [sC 87 ŭ,ć 20],oy (Uh (dg 4 5) bjm),Ug 4 (lh (gJ 2) Ō),Ug 5 (lh (jM 2) Ō),abD Ō HB [du 4 HB,Nj HB] [],ut 6 (lx (aAi Ľ) bjl (Ai 1)),Hy 7 [bjk] [bjj],fZ 8 89 [alb (aAj ĉ ģ) [ah] (uQ 6 5),.sl ģ iY (ć 11)],fZ 9 89 [aSG cR (Ai 8),.sl ģ (ć 11) (ć 19)],.ret (aSG (gI abC) (Ai 9))]}
def a0r:FD:=aSH 8 [bjp,ie bjo (Ē [xn,aAk ah 7 10]),Nj (Uh aAl (aAk ah 7 2)),Ug 6 (aAk ah 14 255),fZ 7 91 (bjn ù),.ret (Ē [ox,cR,ly,Dj,ł 91 (bjn dL)])]
def bxi:FD:=Ae 3 1 (Df 1) (T5 2 ĉ [bjq]) (aAg "/" Ľ)
def a0s:FD:=mL 3 [ie alp (aAm Hz),Hx (.str "c"),.iff (abE 0) [Hx alu] [],Hy 2 [xv] [bjs []],.ret bjr]
def apc:FD:=aSx [sA dL (iX 42),sA iY (iX 43),sA xw (Nf 26 aSI),sA HB (Nf 20 aSI),sA (ć 6) (iX 48),.ret (iX 76)]
def aeb:FD:=aSx [ie (Aj ŭ) (iX 92),ie (Aj ù) (als 92 12),sA xv aSD,sA (ć 9) (als 93 44),.ret (ig [ł 94 T7])]
def bxj:FD:=Ae 4 3 (oy (Uh (bju .str) ĉ)) (ie (.or [Aj xw,Aj HB]) (.bT (HF bjt) (ig Hv))) bjt
def bxk:FD:=xr 3 2 (Ag (Ψ 81)) (.and [.OC ģ [jn],dF ģ Ľ,dF (Ψ 81) Ľ])
def bxl:FD:=aSH 6 [Hy 4 [abF] [Nj (lh (fh Ō (B_ iY ah)) abF),aSJ cR az ģ ĉ],.ret iK]
def bxm:FD:=aSH 8 [.adu [4,5] (ł 52 bjA),du 6 (.bT (HF (Ng ah)) (ig [cR])),Ah (Af 97 [bjz,ly]),T5 7 bjy [bjx,bjw],.ret (dF (ł 81 [.bT (HF (aSK (ł 81 [bjv]))) Ľ]) aSE)]
def bxn:FD:={n:=12,np:=2,body:=[fZ 2 88 [aSO,ć 67],Ug 3 (mM 2 0 8),Ug 4 (mM 2 1 8),Nj (lx bjF aSN (Ai 2)),du 6 (alb (aAj xv ĉ) [Ō] (uQ 5 4)),du 7 bjE,.fo (uR [8,9]) bjD [T5 10 (.lst bjC) [bjB],du 11 (aSM az (.var 9)),Ah (aSL uP abC 11)],.ret iK]}
def aGd:FD:=mL 9 [fZ 1 88 bjK,fZ 2 90 [ĉ,Uh [dL,xw,abF] (mM 1 0 3)],oy (az3 ģ),fZ 4 92 Hv,Nj bjJ,abD (mM 1 3 4) ŭ [Nj (mM 1 4 10)] [],Ah (Af 98 [Ō,ah,cR,mM 1 5 10]),fZ 6 91 bjI,Ah (.or [Af 99 bjH,.not (sC 100 ly)]),Ug 7 (mM 1 9 5),Ug 8 (lh (sC 87 iY) xv),T_ 97 [bjG,ig [ł 42 [.adr 58 [Dj,abC]]]]]
def T:Gh:=[bwi,bwj,bwk,bwl,bwm,bwn,bwo,bwp,a0d,bwq,bwr,bws,bwt,bwu,bwv,bww,a0e,a0f,bwx,bwy,bwz,aGc,a0g,a0h,a0i,a0j,bwA,bwB,bwC,bwD,bwE,apb,bwF,bwG,bwH,bwI,bwJ,a0k,bwK,bO3,bwL,bwM,bwN,bwO,bwP,bwQ,bwR,bwS,bwT,bwU,bwV,bwW,bwX,bwY,bO4,bwZ,bO5,bO6,bw0,bO7,bO8,bO9,bPa,bw1,a0l,a0m,bw2,bw3,bw4,a0n,bw5,bw6,bPb,bPc,a0o,bw7,bw8,bw9,bPd,bxa,bxb,bxc,bPe,bxd,bxe,bxf,bPf,bxg,a0p,bxh,a0q,a0r,bxi,a0s,apc,aeb,bxj,bxk,bxl,bxm,bxn,aGd]
def a0t:FD:=mL 1 [Ui (.ads (.fld 0 ă) (Y9 0) (fh (Y9 0) ù))]
def a0u:FD:=mL 1 [Ui (.and [T9 (Y9 0) (gI (.fld 0 ă)),.cmp .In (HG 0) alv])]
def a0v:FD:=abq [uN (Di (HG 0) Ľ),.VR 0 ù]
def a0w:FD:=mL 2 [az6 (HG 1),Hx (alw (HG 0)),.VR 0 ù,Ui Ľ]
def aec:FD:=mL 5 [.iff (HG 1) [.an6 0 3 "end"] [],abG 1 5,abG 2 6,alx "(",abG 3 4,alx ",",abG 4 4,alx ")",Ui (Ē [ox,az,ģ,Ō,ah])]
def a0x:FD:=mL 1 [abD (HG 0) alu [alx "r",Ui dM] [],alx "c",Ui qw]
def aGe:FD:=mL 4 [abG 1 3,Ag az4,.wh (HG 1) bjL,Ui ģ]
def TM:Gh:=[a0t,a0u,a0v,a0w,aec,a0x,aGe]
def GM:Gs:={con:=bjM,vc:=[(58,[dL])],aoc:=639,aod:=true}
def bPg(r:ś Rm):B2:=match r with
 | ā (dt (Ē [_,_,_,_,ć k']))=>Υ (zi d k')
 | _=>none
noncomputable def Ea(k:Nat)(ds:Ħ):B2:=match k,ds with
 | k+1,akG=>@ite B2 (bO2 k t j) (Classical.propDecidable _) (bPg (F_ (aSP [OM 639 0 0 t j]))) none
 | _,_=>none
def adE:ğ:=arh :: arf :: are :: ard :: arc :: "cut" :: arb :: ara :: aq9 :: aq8 :: aq7 :: aq6 :: aq5 :: aq4 :: aq3 :: aq2 :: aq1 :: Ez :: aq0 :: aqZ :: x8 :: aqY :: aqX :: aqW :: aqV :: aqU :: aqT :: aqS :: aqR :: aqQ :: aqP :: aqO :: aqN :: aqM :: aqL :: aqK :: aqJ :: x5 :: AZ :: aqI :: aqH :: aqG :: aqF :: aqE :: aqD :: aeA :: aqC :: aqB :: x4 :: aqA :: aqz :: aqy :: Ex :: Jj :: aqx :: Ji :: aez :: aey :: A0 :: aex :: aew :: aqw :: aqv :: aqu :: aqt :: aqs :: aqr :: aqq :: aqp :: aqo :: aqn :: aqm :: aql :: aqk :: aqj :: aqi :: aqh :: aqg :: aqf :: aqe :: aqd :: Ew :: aqc :: aqb :: aqa :: ap9 :: ap8 :: ap7 :: ap6 :: ap5 :: ap4 :: ap3 :: ap2 :: ap1 :: ap0 :: apZ :: apY :: apX :: apW :: apV :: apU :: "law" :: []
def II:ğ:=zF :: jm :: we :: "any" :: aC :: "all" :: "len" :: Ò :: WR :: qb :: kW :: "sum" :: r_ :: "max" :: t4 :: rA :: jn :: []
def IJ:ğ:=Pc :: arj :: "NoCard" :: "NoPlan" :: ari :: "NoText" :: "NoAsk" :: []
noncomputable def G:Gs:={gk:=[Nk Uf,Nk Ue,Nk Nh,Nk Ud,(Ni,Ē [sD,aAo]),(x8,Ē [sD,aAo]),Nk x4,Nk Uc,Nk Ub,(Ex,Ē [Ua,aAn,aAn]),(Ji,Ē [Ua,sD]),Nk tE],con:=bjM,vc:=[(58,[dL])],aoc:=639,Ea:=Ea,i6:=i6,adE:=adE,II:=II,IJ:=IJ}
theorem bPh{fu k:Nat}(ns:Ď)(j:Nat):∃v:Int,Ê ŕ 87 [BS,aj] BU:=by
 rw[am bxg];have c:∀F,Ŀ (T9 Ľ gH) [ħ BS,uS]=oC (ü Ŭ (KN:Int)):=fun F=>aos ą (rfl:Ŀ gH [ħ BS,uS]=Ç KN);by_cases h:j<KN
 ·refine⟨ns[j],Ñ (Nl (Ω (Ų (c _) (Ń ud))) (Uj ą ?_))⟩;show aKV KN Ŭ ns=_;rw[bjN];show YE ns[j]?=_;rw[Lb];rfl
 ·rw[Į 0 (Ñ (eB (Ų (c _) (Ń ub)) Dk))]
theorem bPi(xs:Ď)(v:Int):Pq É++[BU]=YE (xs++[v]):=Η Χ
theorem aed{n:Nat}(h:gA e n cl)(hn:Ak):xx aSQ (Rf n):=by
 show bU zg=_;rw[bjO Æ (cP (Î Æ)) (pu n),abH ((ā [Æ]).bind br5) a (CV _),jA,abH (KR (oT Æ&&aq Æ aly) (Rf (n:Int).toNat)) a (CV _),Y',cI];rfl
theorem bPj{j:Nat}(hj:j<1000):xT Ŭ Ŭ=true:=aSR
theorem bPk(x:Int):xT x 48271=true:=ZC xT
theorem apd(h:nV Ŧ):π (De [e]) ο ag1:=by
 rw[abI]
theorem lK(h:nV Ŧ):bjP:=by
 rw[abI]
theorem OW(h:nV ο):bjP:=by
 rw[abI]
def iD(r:Ď):Ħ:=CW É
def rL(rows:ď):DV:=.lst alz
def tT(rows:ď):DV:=Ē abJ
def tm(n m:Nat)(rows:ď):Prop:=ao=n/\alA
def col(rows:ď)(j:Nat):Ď:=Al Dl
def flip(m:Nat)(rows:ď):ď:=ah3 m Uk
theorem at_getD{j:Nat}(h:j<Á):aSS Nm:=by
 rw[bjQ]
theorem ape{j:Nat}(h:j<Á):aSS jN:=by
 rw[bjQ]
def sub(rows:ď)(I J:ė):ď:=I.map fun i=>aAp HI
theorem OX{i:Nat}(h:An):Am ba ĭ (HJ i):=by
 rw[bjR (qt sE) tT]
theorem xy{rows:ď}(h:An):lz i∈rows:=by
 rw[awo]
theorem bxo(n:Nat):∀r:Ď,mx n sE=true
 | []=>by unfold iD;simp[mx]
 | a::r=>by have q:=bxo n r;unfold iD at q ⊢;rw[Ö,š mx q];cases n<;>rfl
theorem bPl(hw:Y7)(b:Y8)(hl:ahQ)
  (h:∀d∈ds,bjT a RF aR (f d)):a8j:=by
 rw[a8i]
 ·rfl
 ·rw[ĩ a c i g e (h d hd),i,jA,g];rw[bjS (f d) e]
theorem bPm(h:ur ĭ)(a:Î i)(b : -1000<=i):xx aSQ (Rf Qx):=by
 show bU zg=_;rw[bjO i a b,abH (fO (oT i&&mD) Ε) ds (CV _),Y'];rfl
def rowsOf(n m:Nat)(ws:Ď):ď:=Ĥ uk j bjU
theorem bPn(h:Ci=n*m):aAq (alB ws):=by
 rw[fR rowsOf aST,bx j b a];rw[mn,yE,h,bjV B5];rw[MW,Hn]at this;omega
theorem a0y{F:Ť}{δ:ē}{a lo hi:ME}{ds:Ħ}{c c1 c2:Cl}{l h:Int}(ha:aSU)(hl:gA lo l c1)(hh:gA hi h c2):Ul aLm (agU Gb (ā h)) Q5:=by
 show wI _=_;rw[ha,aA];show rO lo _=_;rw[hl,aA];show rO hi _=_;rw[hh];rfl
theorem bPo{m:Nat}(h:Ci=n*m)(b:j<n):cutD (iD ws) (ā (Ŭ*m)) (ā (Ŭ*m+m))=iD bjU:=by
 have d:(Ŭ*m)=Ĵ (j*m):=aSV;have c:(Ŭ*m+m)=Ĵ (j*m+m):=aSV;have a:=(by rw[bjV b,aiD MW Hn]);have len:Ą (iD ws)=n*m:=by rw[Ù iD Ċ h]
 unfold cutD ady;rw[c,d,fI len,uy,uy,cI,cI,HK a,HK Ă,ź (j*m+m - j*m=m)];unfold iD;rw[←abK,←aAr]
theorem aGf(h:j<n):mT n Ŭ=iF:=by
 rw[bjN]
theorem bxp{es:iN}(h:pV):œ (aAs es)=minD l:=by
 have e:œ (aAs es)=zg:=rfl;rw[e,h];rfl
theorem aee(R:Ü):tm m n eC:=by
 rw[fR flip aST,Um a,Ù col Ċ R.1]
theorem aGg{i:Nat}(h:An):Am aAt ĭ (dG HN):=by
 rw[bjR (HL r) rL]
theorem Wd{es:iN}(h:pV)(a:Ld)(hs:Ca):B7 avm br:=by
 have e:œ avm=zg:=rfl;rw[e,h,aom,v6,hs];rfl
def nD(l:ė):Ħ:=fg Nn
theorem a0z{c:Type}[BEq c][Uo c]{f:c->DV}(d:∀a b,jV qd (f b)=WL)(r:c):∀{l:LG},r∈l->wH (f r) TF=ā (Q6 r)
 | a::l,g=>by
  rw[Ö,Ù wH d alC];cases h:(a==r)with
  | true=>rfl
  | ă=>
   have i:r∈l:=by
    rw[Fk g]
    ·subst e;simp at h
    ·exact e
   rw[a0z d r i];rfl
theorem bxq:∀a b:Ď,OH (iD a) (iD b)=WL
 | [],[]=>rfl
 | [],_::_=>rfl
 | _::_,[]=>rfl
 | x::a,y::b=>by have c:=bxq a b;unfold iD at c ⊢;rw[Ö,Ö,š OH c];unfold jV;rfl
theorem bPp(a b:Ď):jV (sF a) (sF b)=WL:=bxq a b
theorem aGh:Do Ħ d (agS=true) (mx n l=true)
 | [],_=>by unfold mx;rfl
 | d::r,h=>by rw[nU mx (uq d) (aGh (jq x a))]
theorem bxr(n:Nat)(a:Ď):KL gB (sF a)=true:=bxo n a
theorem bxs(n:Nat)(a:Int):KL n rJ=true:=by cases n<;>(unfold KL;rfl)
theorem bPq(n:Nat)(rows:ď):mx gB abJ=true:=aGh fun d a=>by
 rw[qy r a];exact bxr n r
theorem bPr{rows:ď}(h:r∈rows)(a:abL):IK (Ē abJ) Nm=ā (rV (Dp r)):=by
 unfold IK;dsimp;rw[bxr 59,bPq 59,bjW,a0z bPp r h];rfl
theorem bPs(e:uv x)(hs:adF x=true)(c:avR)(h:IK x y=kY):œ aho=hY:=by
 rw[ff,e,aA,Y',c,aA,h];rfl
theorem bxt{b:Type}{h f:b->DV}:Do p9 a (g (h a)=ā (.item qd)) (BY Ao=ā TF)
 | [],_=>rfl
 | a::r,q=>by rw[Ö,Ö,š OL (q a Α)];show(aLC _)=_;rw[bxt fun x c=>q x (ť c)]
theorem IY{e:Type}{l:ī e}{h f:e->DV}(hw:Rp=ā (.ok Ao cl))(g:Y8)(hl:Ld)
  (q:∀a∈l,bjT d (Up (h a) Tl) kY qd):B7 avj TF:=by
 rw[avU hw (by rintro(z | z);exact g z;rw[Ċ]at z;omega) (bxt (Ĝ a i))]
 ·rfl
 ·rw[ĩ d c m k j (q a i),m,jA,k];rw[bjS qd j]
theorem bxu{j:Nat}(b:abL)(w:bU (Ŀ Ľ [HR,gz])=È (No h))(c:∀r∈rows,aSS (h r)):aSX gz=aSW:=by
 rw[aAu w b (qz r a [ħ (h r),HQ] (Uj ą (c r a))),jC iD col HP]
theorem bPt(rows:ď)(m j:Nat)(b:alA)(d:j<m)(c:abL):aSX eD=aSW:=bxu c rfl fun r a=>alD (b r a) d
theorem bPu(rows:ď)(m j:Nat)(hm:alA)(hj:j<m)(a:abL):aSX alE=aSW:=bxu a rfl fun r hr=>ape eY
theorem We{n:Nat}(h:Lj Æ)(a:Ak):xx aSQ (wG uk j (É Ŭ)):=by
 rw[aed h a];unfold aAv;congr 2;rw[Θ (Hk (B' j))]
theorem bPv(rows:ď)(n m:Nat)(R:Ü)(g:0<n)(d:Ak)(c:Np):Ê ŕ 4 uT (tT eC):=by
 rw[iZ];have e:0<ao:=Ć R.1 g;have f:=Uq ţ abN (bjY ĉ (OX e));rw[alF (lz 0) m (abM e)]at f;have l:=IY (tg:=eF) (fr:=uO) (We f c) Đ (Dr c) fun j h=>
  (Dq aSY (apd (bPt rows m j R.2 (ay h) (Ć R.1 d))))
 rw[bjX bwm l,jC tT flip HP]
theorem bPw(rows:ď)(n m:Nat)(R:Ü)(I J:ė)(o:∀i∈I,i<n)(h:aAx)(d:Î Tz)(b:Î CZ):Ê ŕ 9 [ba,jO I,jO J] (tT (alH I J)):=by
 rw[iZ];have p:=Aq ţ (aL 3 [ba,jO I,jO J]) l I f (fun i=>sF (aAp HI)) elt biC tg eF it az fr az5 rfl Đ (þ d) fun i g=>by
  refine Dq [Nq,Ap J,eD] (apd (c:=Ŋ) ?_);rw[alG i (o i g),IY (l:=J) rfl Đ (þ b) (qz j e [HR,eD,Nq] (cU (aAw ą (OX a)) ą (alD (abM a) (h j e))))];rw[Hi iD]
 rw[bjX bwq p,jC tT sub HP]
def kI(rows:ď):Ď:=Al Ur
theorem aGi(rows:ď)(a:abL):ω 10 uT=ā (aAy Us):=by
 rw[cS bwr];have e:=Ut F ţ δ abN elt aSi tg eF it ĉ fr uO rfl Đ (þ a) (qz r b [ħ Nm,eD] (bjZ (bPr b a)));have c:(Al (É Ur))=iD Us:=alI iD kI;rw[Ļ c e (sG e)]
theorem a0A:SX (y∈SW↔y=x\/y∈l)
 | []=>bg insI
 | z::l=>by
  rw[axR]
  ·simp
  ·rw[uH,a0A,uH];constructor<;>(rintro(h | h | h)<;>simp[h])
theorem a0B:SX (y∈Mr↔y∈l)
 | []=>Iff.rfl
 | z::l=>by rw[iG k8 a0A a0B uH]
theorem bxv{y:Int}:∀{l σ:Ď},y∈aAz σ↔y∈σ\/y∈l
 | [],σ=>Ğ
 | z::l,σ=>by
  rw[aSZ,bxv,uH,g_ dk]
  ·rw[G4 h jF]
   ·rintro(q | q)
    ·rw[ŝ q]
    ·rw[BC q]
   ·rintro(q | q | q)
    ·rw[ŝ q]
    ·rw[Ĉ q (ı h)]
    ·rw[Í q]
  ·rw[C4,oh,or_assoc]
theorem aE5:∀{l σ:Ď},Ą (aAz σ)<=WY+Ű
 | [],σ=>Ğ
 | z::l,σ=>by
  rw[aSZ,ŀ];have:=aE5 (l:=l) (σ:=dk σ z);have h2:Ą (dk σ z)<=WY+1:=by unfold dk;split<;>simp
  omega
theorem apf:∀r:Ď,lJ sE=Û
 | []=>rfl
 | x::r=>z_ (abO sE) _ (apf r)
theorem bPx(h:nV jN)(hl:Á<=60):π (Nb [e]) (dG (k8 (r.foldl dk []))) Ŋ:=by
 rw[HU];show(match lJ sE with
  | aR=>fO (ad<4000/\Ra (a.foldl dk [])) Ε
  | none=>none)=_
 rw[apf,kR (aE5 (l:=r) (σ:=[])) wP];exact B8 Ě Ě
theorem aef{G:Gs}(d:uv iK)(c:ahO abP=o):œ aAA=o:=by
 rw[Uu e aAA];have f:ahO abP=ahj abP:=rfl;rw[e,d,aA,←f,c];rfl
theorem Wf{G:Gs}(c:uv rg):π aAA rg cx:=by
 rw[Uu e aAA,e,c,aA];rfl
theorem and_1{G:Gs}(b:pQ=o):ahO [a]=o:=by
 have e:ahO [a]=pQ:=rfl;rw[e,b]
theorem OY(c:Ru=ahw)(b:aLI):wJ (d::r) δ=wJ r a:=by
 show avN δ δ1 a r;rw[c];show(ahV δ1 a r)=_;rw[b]
theorem bxw:∀{a b:Ď},a.Pairwise Cd->b.Pairwise Cd->(alJ a b)->a=b
 | [],[],_,_,_=>rfl
 | [],y::b,_,_,h=>eV ((h y).mpr Α) Ğ
 | x::a,[],_,_,h=>eV ((h x).mp Α) Ğ
 | x::a,y::b,d,c,h=>by
  rw[aAB]at d c;have e:x=y:=by
   rw[EQ ((h x).mp Α) z z]
   ·exact z
   ·rw[EQ ((h y).mpr Α) w w]
    ·exact w.symm
    ·rw[Θ (Ĕ h1 (d.1 y w) h2 (c.1 x z))]
  subst e;rw[bxw d.2 c.2 mt]at ⊢;rw[jF]
  ·rw[ir q (EQ ((h z).mp (ť q)) w w)]
   ·rw[Ŗ (d.1 _ q) Ă]
   ·exact w
  ·rw[ir q (EQ ((h z).mpr (ť q)) w w)]
   ·rw[Ŗ (c.1 _ q) Ă]
   ·exact w
theorem bxx:SX (aLP->x∉l->(SW).Pairwise Cd)
 | [],_,_=>bg insI
 | y::l,h,b=>by
  rw[Ę aAB h axR]
  ·rw[fM q aAB];refine⟨qp z,ahZ h⟩;rw[p8 a w w]
   ·rwa [w]
   ·rw[av (h.1 z w)]
  ·rw[fM q aAB];refine⟨qp z,bxx h.2 fun w=>b (ť w)⟩;rcases a0A.mp a with w | w
   ·subst w;have:z≠y:=fun e=>b eY;omega
   ·exact h.1 z w
theorem bxy:SX (aAC->(Mr).Pairwise Cd)
 | [],_=>aJP
 | x::l,h=>by
  rw[Ļ List.nodup_cons h (bxx (bxy h.2) fun z=>h.1 (a0B.mp z))]
theorem bxz:∀{l c:Ď},c.Nodup->o9 (aAz c)
 | [],_,h=>h
 | x::l,c,h=>by
  rw[gf aSZ (bxz ?_) (g_ dk)]
  ·exact h
  ·rw[fM q List.nodup_append];refine⟨h,Ğ,Ý a f b d e⟩;rw[oh]at d;subst d e;exact q f
theorem bPy{l:Ď}(a:t.Pairwise Cd)(h:alJ l t):k8 (aAz [])=t:=
 bxw (bxy (bxz aaR)) a fun x=>by rw[a0B,bxv,←h];simp
def nI(l:ė):Ď:=aS0
theorem aGj(l:ė):iD (nI l)=nD l:=by unfold iD nI nD;rw[HP]
theorem bPz(p:F4)(n:Nat):(nI (Nr p)).Pairwise Cd:=by
 rw[ľ (š nI List.pairwise_map) (bj1 (bj0 ?_ a8y))];intro a b h;omega
theorem bxA:x∈nI l↔∃j∈l,Ŭ=x:=o6 nI RC
def FI(rows:ď):ė:=pd ao bj2
theorem aGk{rows:ď}(h:r∈rows):Dp r<ao:=ajo h
theorem aGl{rows:ď}(h:r∈rows):lz (Dp r)=r:=by
 have a:=aGk h;rw[Ũ,rW,aS1];exact aaa a
theorem aGm(rows:ď):k8 (Zm Us)=nI bP:=by
 rw[ĺ bj3 bxA,jC kI FI RC,jF]
 ·rintro⟨r,a,rfl⟩;refine cj (Dp r) (tJ (aGk a) ?_);rw[aGl a,ř]
 ·rintro⟨j,b,rfl⟩;rw[gc (đ d c (xm b)) (lz j) (xy (ay d)) (Ń (bn c))]
theorem apg(h:i∈bP):An:=aAD h
theorem aph(rows:ď):cT<=ao:=by
 unfold FI;have:=Nt bj2 (Ο ao)
 rwa [bO]at this
theorem IZ(h:0<ao):0<cT:=by
 refine aAE (tJ h ?_);cases rows with
 | nil=>cases h
 | cons r rs=>simp
theorem aGn(rows:ď):Ą Us=ao:=aaW kI
theorem a0C(rows:ď)(n m:Nat)(R:Ü)(c:0<n)(b:Ak)(a:Np):bc 11 uT=ā (aAy (kI eC)):=by
 rw[cS bws,ij (ii (Ar (bj4 b a)) (aGi _ (Ć (aee R).1 a)))]
theorem a0D(rows:ď)(n m:Nat)(R:Ü)(g:0<n)(a:Nv)(b:Nu):Ê Uv 12 uT (tT aS2):=by
 rw[fj (am bwt) c (aee R) f (alK bc [eD] (Ψ 10) rows (Ar (bj6 1)) (cH aGn R.1 a))];have d:=alK bc [eD] (Ψ 11) eC (Ar (a0C rows n m R g Ă Ă)) (cH aGn c.1 b);rw[aGm,aGj]at f d;have p:=bj5 rows bP xz (fun i o=>aAF o R) (fun j h=>aAF h c) (rh (kR (aph rows) R.1)) (rh (kR (aph eC) c.1));rw[ij (mN l [abQ,(jO bP,Ŋ),(jO xz,Ŋ)] (eG ą f (jW d i9)) rfl p)]
theorem bxB(d:pY)(c:pW):bj7:=RH
def sm(a b:Nat):Bool:=ü a 6&&ü b 6
theorem bPA(h:0<Tz):∃r a,alH I J=r::a/\Á=CZ:=by
 cases I with
 | nil=>cases h
 | cons i I=>exact yL rfl Ğ
theorem bPB(rows:ď)(n m:Nat)(R:Ü)(o:0<n)(f:Nv)(g:Nu):Ê (k+4) 13 uT (.bl (sm cT lA)):=by
 rw[cS bwu];have v:=bj8 k R o f g;rw[Ĩ r a y z (bPA (IZ (Ć R.1 o)))];have p:Ą aS2=cT:=aaW sub;rw[y]at v p;have x:Uy (alh uP) aAG=Ç cT:=aAH t (Uq jP aAG (e:=az) (ds:=Ĥ (r::a) r Nm) (c:=.č) rfl) Ċ p;have w:Uy (xq 1) aAG=Ç lA:=(by have t:=Uq jP aAG (cU (bQ 1 aS5) Ds (OX (rows:=r::a) (i:=0) Ğ));rw[alF ((r::a).getD 0 []) lA z]at t;exact t);have u:∀h:ē,Uy (.oS abt) h=Ç 5:=fun h=>rfl;rw[ĺ (qA (Ux aS5 (Uw ba v) rfl) aS4) (Ĕ b (bxB x (u _)) j (bxB w (u _)))];have B:aq (cT:Int) 5=ü cT 6:=aS3;rw[jY A (aq (lA:Int) 5=ü lA 6) aS3 B b];rw[A]at j;unfold sm;cases q:ü cT 6 with
 | true=>rw[Ļ q b (sH b j)]
 | ă=>rw[Ļ q b (Wf b)]
theorem bxC{i:Type}{h f:i->DV}{p:ſ i}:Do (ī i) a (g (h a)=ā (if p a then .item qd else .skip)) (BY Ao=ā ((uU p).map f))
 | [],_=>rfl
 | a::l,q=>by
  rw[Ĕ d (q a Α) j (bxC (g:=g) (h:=h) (f:=f) (p:=p) (l:=l) fun b k=>q b (ť k))];cases e:p a with
  | true=>
   rw[bj9 _,d,K7 e,Ö];show(bka qd)=_;rw[j]
  | ă=>
   rw[bj9 Ao,d,avP (BD e)];exact j
theorem OZ{d:Type}{l:ī d}{h f:d->DV}{p:ſ d}(e:Rp=ā (.ok Ao cl))(hc:Y8)(hl:Ld)
  (q:aLF a l b (Up (h a) Tl) fb (bea (YT b) qd)):B7 avi ((uU p).map f):=by
 rw[avU e eY (bxC (Ĝ a g))]
 ·rfl
 ·rw[Š b m k c j i (q a g),m,jA,k,j];cases p a with
  | ă=>rfl
  | true=>
   rw[zf (fO (f6 qd c) Ε) i];rfl
def WI(rows:ď):ė:=abR (rows.any fun r=>r.any fun x=>x==alL)
theorem bxD(rows:ď)(e:Uz):k8 alM=nI aAK:=by
 refine bj3;rw[bxA,List.mem_flatten,fR WI jF]
 ·rintro⟨r,b,a⟩;have:=e r b x a;refine⟨x.toNat,tJ Ă (aAJ ⟨r,b,aAJ (iM x a)⟩),Ě⟩;rw[Θ ř]
 ·rw[LC j d rfl (tH g (xm d)),aJ r b f (aAI g) x a c (aAI f),gb ř c (υ r b (ŗ c a))]
theorem bPC(c:ahP)(h:aF=È (Ē a))(b:ŧ+ad<=Ū):fQ ahD=ā (ahB a):=by
 show bkc;rw[c,K8,bkb alN,pw ŵ b]
theorem bxE(t:Sv)(j:m<=8):∀(rows:ď) (a:Ď) (c:Sv),alA->Î (ad+ao*m)->∃e,Ð (UA 2 b F [.ext 1 ģ] abJ [t,Nw a,c]) [t,Nw (a++alO),e]
 | [],a,c,_,_=>⟨c,gx bke aN⟩
 | r::rows,a,c,h,k=>by
  have i:=uq r;rw[ŀ,MW,Hn]at k;rw[đ e g (bxE t j rows (a++r) _ (jq f d) (nC Ÿ i))];refine aD e;rw[bkd,←rq,←g];refine OY rfl (ŏ (bPC rfl ą ?_) ?_)
  ·rw[Ù iD Ċ Ċ];exact þ (ź (Î (ad+Á)))
  ·rw[v_ iD Χ]
theorem bxF(m:Nat):∀n,(Kk n m).sum=n*m
 | 0=>Ğ
 | n+1=>by rw[List.replicate_succ,C9,bxF m n,MW,Hn,aAL]
theorem bxG:SX (Ą SW=Ű+1)
 | []=>rfl
 | z::l=>by unfold insI;split<;>simp[bxG]
theorem bxH:SX (Ą Mr=Ű)
 | []=>rfl
 | z::l=>by rw[iG k8 bxG bxH ŀ]
theorem bxI(rows:ď)(n m:Nat)(R:Ü)(i:n<=8)(c:m<=8)(j:Uz):alR 15 uT aAK:=by
 rw[am bww];have nm:n*m<=8*8:=As i c;rw[đ p e (bxE (fu:=fu) eD c rows [] .no R.2 (xj R.1 nX))];rw[QL]at e;have o:aS9 alO:=TD x g (gj r h g (List.mem_flatten.mp g) (j r h x g));have a:Ra alM/\aS6<4000:=by
  rw[Ĕ u (bxD rows j) q (bxH (l:=alM))];rw[u]at q;have l2:Ą (nI aAK)<=10:=(by rw[jC nI WI (Ĉ Ċ (aS8 Ğ))]);have l3:aS6=n*m:=by
   rw[List.length_flatten];have:No Km=Kk n m:=by rw[List.eq_replicate_iff,t7 (Ć Ċ R.1) b o,bx r h o];exact R.2 r h
   rw[this,bxF]
  omega
 have s1:uV (fP (Nb uP) bkf) (nD aAK):=by
  show alQ (aS7 uP bkf) (aEA l)=_;rw[i4 (aoq (d:=dG alO) rfl)];show(match lJ (iD alO)with
   | Ro=>ō (aiv<4000/\Ra (f.foldl dk [])) (Gj (.lst (YE (k8 (f.foldl dk [])))) Ŋ)
   | none=>none)=_
  rw[apf];show(ō (aS6<4000/\Ra alM) (Gj (dG (k8 alM)) Ŋ))=_;rw[B8 a.2 a.1,bxD rows j,aGj]
 exact qA aAM (alP abJ rfl e (ž (bC s1)))
theorem a0E:UB 0 [ć x,rJ,ć b] (Ny a x b):=by
 rw[iZ];have e:fP biz [ļ x,TB,ļ b]=oC (Ny a x b):=by show(match ā (aq a x)with | none=>none | nz=>ā Ml | dX=>Ĥ Ε k (Rr _))=_;cases aq a x<;>rfl
 rw[ij (aef rfl (sH rfl e))]
theorem api(r o:Nat):yx r o=Ĵ (r &&& o):=by
 rw[nU yx (Þ (pu r)) (Þ (pu o))]
theorem aGo(o i:Nat):yx (Nz o i) 1=rn (o.testBit i):=by
 have e:Nz o i=Ĵ (o/2^i):=EC;rw[e,show aac=Ĵ 1 from rfl,api,bki,bkh,bkg o i]
def cs(c:Nat):ė:=pd (alS+1) lB
theorem a0F(c:Nat)(h0:0<c)(h:c<2^64):alR 8 [RE] (cs c):=by
 rw[bR a0d];have f:D' (c:Int)=mB alS:=by rw[Ù D' uy bkj,abU]
 have hl:alS<64:=aTc;have a:=bFV (G:=G) (F:=ţ) (δ:=xA RE) (elt:=ĉ) (tg:=eF) (it:=.fw [ale ĉ]) (fr:=uO) (p:=fun d=>aTa ĭ) (cl:=Ŋ)
  (aed ((oX f)) Ă) Đ (JI aAv Ċ bO (þ (ź (alS+1<=64)))) (fun d hd=>by
   rw[Ŷ j hj rfl (bFQ hd) abT];refine⟨aTb,rfl,?_,rfl⟩;have l:fP (alk Ľ ĉ) aTb=Ç (Nz c j):=aAN (mv ((KR (0<=Ŭ) (alT (ć (Nz c j))))=_) ahR);have g:fP ald aTb=Ç (rn (lB j)):=vg l Ņ (oX aGo);have b:∀t:Bool,fy (ā (alT (É (rn (t=true)))))=ā (Rt.ok t):=fun t=>ql t;rw[g];refine Ų NA ?_;show _=ā (Rt.ok (lB (j:Int).toNat));rw[cI])
 have e:(Rf (alS+1)).filter (fun d=>aTa ĭ)=nD (cs c):=by
  unfold aAv nD cs;rw[List.filter_map];have:((fun d=>aTa (É i)) ∘ abS i (0+ae))=lB:=by
   funext j;show lB (yw+Ŭ).toNat=_;rw[cP ((yw+Ŭ).toNat=j)]
  rw[this,B' j,Θ avT]
 rw[e]at a;rw[t_ a0d (sG a)]
theorem a0G{n:Nat}(hn:Ak)(h:gA e n cl):iP (Hw (sx e)) (Ĵ (2^n) - 1):=by
 refine AO (cx:=.č) (aTe ?_) Ņ;rw[aTd (ō aAO (Gj _ alN)) (pu n),abU]
theorem bPD{n:Nat}(a:Ak)(h:UB 0 [d,gV,ć (Ĵ (2^n) - 1)] t):bc 6 [d,ux]=ō t (.v .ę ă):=by
 rw[cS bwo];have q:=vf (mN δ (NB [d,ux]) (es:=[ĉ,gV,Lc az4 _]) (eG ą Ņ (i4 (a0G a ą))) rfl h);cases t with
 | true=>exact aXZ (UC q)
 | ă=>
  show wM _=_;rw[v_ Zq7 (aX0 (Ω q))]
theorem apj(h:c<2^n)(a:Du c):j<n:=by
 rw[au (dr cs a aQE) q (j<n)]
 ·exact q
 ·have z:=alU (Dt h (ź (n<=j)));rw[Ī z a a.2]
theorem a0H(h0:0<c)(h:c<2^64):Î aTf:=by
 have hl:=aTc;rw[t_ cs (aS8 (Ä bO))]
theorem bxJ(rows:ď)(n m a b:Nat)(R:Ü)(hn:0<n)(f:n<=64)(h:m<=64)(v:0<a)(u:a<2^n)(p:0<b)(o:b<2^m):Ê Uv 5 [ba,rJ,ć b] (tT (alH (cs a) (cs b))):=by
 rw[iZ];obtain⟨c,rest,rfl⟩:∃c rest,rows=aaM:=by
  cases rows with
  | nil=>rw[aQD R.1];omega
  | cons a b=>exact cj a b
 have r:a<2^64:=Dt u f;have l:b<2^64:=Dt o h;have z:=(aAH q (Uq bc (aL 3 bkl) (e:=ĉ) rfl) Ċ R.1);have w:=(by have e:mO lD xt 3 bkl=È (sF c):=cU (x:=tT aaM) (y:=ŭ) ą Ņ (OX (rows:=aaM) (i:=0) Ğ);rw[JD (OW e) (show Ą (iD c)=m by rw[Ù iD Ċ (R.2 c Α)])];exact q);have E:=bkk a n;have C:=bkk b m;have g:=bj5 aaM (cs a) (cs b) (fun i B=>apj u B) (fun j A=>apj o A) (a0H v r) (a0H p l);rw[t_ bwn (qA (aon (Dw ą z E)) (ŏ (aon (Dw ą w C)) (ž (bC (Dv ą (ii ą (a0F a v r)) (i4 (ii ą (a0F b p l))) g)))))]
def cd(n:Nat):Nat->Ď
 | 0=>[]
 | l+1=>Ĵ (n/2^l%2)::alV
theorem a0I(h:ur ĭ):iP (.neg e) (-i):=by
 rw[ff,h];rfl
def sd(s:Bool):DV:=İ s dM qw
def hd(l:ė):DV:=Ρ l [] .ę (c::_) RE
universe k85
namespace k85
open PySem L2
theorem aGp{c:Type}{p q:ſ c}:Do LG x (p x=true->q x=true) (aTg<=Ą (uU q))
 | [],_=>Ķ
 | a::l,h=>by
  have e:=aGp (jq x f);cases b:p a with
  | ă=>
   rw[aAP b];cases d:q a with
   | ă=>rw[aAP d];exact e
   | true=>rw[K7 d,ŀ];omega
  | true=>
   rw[K7 b,K7 (uq a b),ŀ,ŀ];omega
theorem bxK{b:Type}{p q r:ſ b}:Do p9 x (p x=true->q x=true\/r x=true) (aTg<=Ą (uU q)+Ą (uU r))
 | [],_=>Ķ
 | a::l,h=>by
  have ih:=bxK (jq x c);rw[abV,abV,abV];cases f:p a<;>cases e:q a<;>cases d:r a<;>simp only[nK,ro,ŀ,zt]<;>first | omega | rw[Ŗ ((uq a) f) (by rw[e,d];simp)]
theorem bxL{b:Type}{p q:ſ b}:∀{l:p9},aTg=Ą (uU fun x=>p x&&q x)+Ą (uU fun x=>p x && !q x)
 | []=>rfl
 | a::l=>by have ih:=bxL (p:=p) (q:=q) (l:=l);rw[abV,abV,abV];cases ep:p a<;>cases eq:q a<;>simp<;>omega
theorem step_at{g:nW}(c:g 0=0)(a:bkm):∀N n,N<=10->n<=g N->∃t,t<=N/\g t=n
 | 0,n,_,h=>⟨0,Ķ,Ě⟩
 | N+1,n,hN,h=>by
  by_cases q:n<=g N
  ·rw[gC t h1 b (step_at c a N n Ă q) t Ě b]
  ·have:=a N Ă;rw[υ (N+1) Ķ Ě]
theorem aXE:∀t,t<10->Ą (abR (w==t))<=1:=ø
theorem O0(h:Du c):lB j=true:=yh h
theorem aeg(h:lB j=true):Du c:=by
 refine tJ ?_ h;have a:c≠0:=by rw[ax1 aAQ h]
 rw[av ((Nat.le_log2 a).mpr (aTh h))]
theorem a0J(hc:c<32)(h:lB j=true):j<5:=by
 have h1:=aTh h;rw[fB (Ll j 5)]
 ·exact z
 ·have:2^5<=2^j:=sI z;omega
def Sb(h C:Nat):Prop:=0<h/\h<C/\h &&& C=h
theorem bxM:∀C,C<32->∀h,h<32->h &&& C=h->∀j,j<5->aAS (C - h)=(aAR j && !At j)/\bkn:=ĸ
theorem Sb.lt(s:Sb h C)(a:C<32):h<32:=Y_ s.2.1 a
theorem bPE(s:Sb h C)(b:C<32)(c:Du (C - h)):Du C/\j∉cs h:=by
 rw[Ĕ a (O0 c) d (a0J Ă a)];rw[(bxM C b h (s.lt b) s.2.2 j d).1,ĥ]at a;refine⟨aeg a.1,mt⟩;rw[Ļ (O0 z) a (eV a.2 Đ)]
theorem bPF:∀R,R<32->2<=HV->∃h∈Ο 32,(0<h/\h<R/\h &&& R=h)/\2*Ą (cs h)<=HV+1/\2*Ą (cs NC)<=HV+1:=ĸ
theorem bPG:∀e d c b a:Bool,∃h∈Ο 32,At 0=e/\At 1=d/\At 2=c/\At 3=b/\At 4=a:=ĸ
theorem bPH(q:F4):∃h,h<32/\∀j,j<5->At j=q j:=by
 rw[gZ h b g f e d c (bPG (q 0) (q 1) (q 2) (q 3) (q 4))];refine⟨h,B5,qp j⟩
 match j,a with
 | 0,_=>exact g
 | 1,_=>exact f
 | 2,_=>exact e
 | 3,_=>exact d
 | 4,_=>exact c
theorem bPI:∀C,C<32->∀h,h<32->(∀j,j<5->bkn)->h &&& C=h/\h<=C:=ĸ
theorem bxN(e:At j=true):0<h:=by
 rw[fB (aLN h)]
 ·rw[EV aAQ e e]
 ·exact z
theorem I_:∀c,c<32->0<c->0<aTf:=ĸ
abbrev Mx:=Au
def wp(f:Mx)(R C:Nat)(w:Nat):Bool:=(cs R).any fun i=>(cs C).any fun j=>E6==alL
def wn(f:Mx)(R C:Nat):Nat:=Ą (abW f)
theorem apk:abX=true↔∃i j,i∈cs R/\Du C/\E6=alL:=by
 rw[š wp awB,jF]
 ·rw[LC i b h (Ė j a h (aAI h))];exact⟨i,j,b,a,bn h⟩
 ·rintro⟨i,j,b,a,h⟩;rw[υ i b (aAJ ⟨j,a,afI h⟩)]
theorem bPJ(x:C<32)(K:HV=1)(h2:2<=qB):∃h,Sb h C/\2*alW h<=qB+1/\2*alW (C - h)<=qB+1:=by
 obtain⟨i,hi⟩:∃i,cs R=[i]:=by
  match e:cs R,K with
  | [i],_=>exact aW i
 let g:nW:=fun t=>Ą (abR (abX&&ü w t))
 have M:g 0=0:=(by show Ą (abR (abX&&ü w 0))=0;rw[mv ((fun w=>abX&&ü w 0)=awE) (funext fun w=>Ğ)];simp);have L:bkm:=fun t E=>by
  rw[au (Ho (û (bxK (ġ w ζ h)) (Nat.add_le_add_left (aXE t E) _)) aX h) z (w=t)]
  ·rw[Í (afI z)]
  ·rw[ŝ (by rw[ĥ,aX];rw[Į h.1 Ě])]
 have gN:qB<=g 10:=aGp fun w k h=>by rw[ĥ,aX,Į h (ay k)]
 obtain⟨t,_,E⟩:=step_at M L 10 ((qB+1)/2) Ķ Ă;have sm:qB=g t+Ą bks:=bxL;rw[Ė h F v (bPH fun j=>aAR j&&ü E6 aAT),đ s1 H (bPI C x h F fun j J e=>by rw[ph (v j J) ĥ e e.1])];have d:∀j,Du h↔Du C/\E6<aAT:=fun j=>by
  rw[jF]
  ·intro e;have l:=O0 e;rw[v j (a0J F l),ĥ,aX]at l;rw[Į (aeg l.1) l.2]
  ·rintro⟨n,m⟩;have l:=O0 n;exact aeg (by rw[v j (a0J x l),l,CK,aX];exact m)
 have ex:∀{p:F4},0<Ą (abR (abX&&p w))->∃w j,p w=true/\Du C/\E6=alL:=fun {p} I=>by rw[đ w k (alX I)];have k:=yh k;rw[Ę ĥ k (ĩ B j a b c (apk.mp k.1))];rw[hi,oh]at a;rw[eN a ⟨w,j,k.2,b,c⟩]
 have u:h<C:=by
  rw[fB (Ll h C)]
  ·exact z
  ·exfalso
   have e:h=C:=bkt H z;rw[ĩ w j n m y (ex (p:=fun w=>!ü w t) Ă)];have:=((d j).mp (Ć e m)).2;rw[y]at this;rw[ei,bkp]at n;omega
 have s:Sb h C:=⟨((by rw[ĩ w j n m y (ex (yK (0<g t)))];have:Du h:=(d j).mpr ⟨m,hZ y (av (ZJ n))⟩;exact bxN (O0 this))),u,s1⟩;rw[FN h s ?_]
 ·have:alW h<=g t:=aGp fun w ζ q=>by
   rw[bkr,bkq ((d j).mp b),ĥ,aX,Į bko (Mz c A)]
  omega
 ·have:alW (C - h)<=Ą bks:=aGp fun w ζ q=>by
   rw[bkr,bkq (bPE s x b),ĥ,ei,bkp];refine⟨bko,fun z=>A ((d j).mpr (aD r))⟩;rw[Θ c]
  omega
def hv(R:Nat):ė:=(UD (R - 1)).filter fun h=>h &&& R==h&&ü h NC
theorem bPK:∀R,R<32->∀h,h<32->0<h->h<R->h &&& R=h->((hv R).contains h||((hv R).contains NC&&bF (R - NC) h))=true:=ĸ
theorem bPL(R:Nat)(b:R<32)(h:Nat)(a:h<32)(s:Sb h R):h∈hv R\/(NC∈hv R/\R - NC=h):=by
 have:=bPK R b h a s.1 s.2.1 s.2.2;rw[pL,ĥ,aX]at this;rw[fB this]
 ·rw[ŝ (azC z)]
 ·rw[Í ⟨azC z.1,z.2⟩]
theorem apl(q:h∈hv R):Sb h R/\h<NC:=by
 rw[ň c a (xm q) (bx i b c)];rw[ĥ,ř,aX]at a;have:=B5;rw[Į ⟨Ě,Ě,a.1⟩ a.2]
theorem bPM(a:R<32)(c:C<32)(i:0<R)(C0:0<C)(g:2<=qB):hv R≠[]\/hv C≠[]:=by
 have b:∀R,R<32->(∃h,Sb h R)->hv R≠[]:=fun R a aTi e=>by
  rw[fB (bPL R a h (s.lt a) s)]
  ·rw[EL e]
  ·rw[Ī e z z.1]
 have rp:=I_ R a i;by_cases d:2<=HV
 ·obtain⟨h,_,s,_⟩:=bPF R a d;rw[ŝ (b R a aTi)]
 ·rw[fC h s (bPJ c Ă g),Í (b C c aTi)]
universe k85
namespace k85
open PySem L2
variable {fu k:Nat} {F:Nat->List DV->Option Ou} {δ:List Sv} {ds:List DV} {cl:Cl} {N M:Nat} {R C:Nat}
theorem a0K{n:Nat}(c:gA b n cx)(hn:Ak):xx (œ (.fw [gV,b])) (alY (n - 1)):=by
 show bU (alQ (Gf [gV,b]) (Ĥ (aXG l) a (nR a)))=_;rw[Β Ņ c,aom];have hs:(auX 1 Æ aly)=true:=by rw[ĥ,ĥ,zY];refine⟨aD ø,aAW (cP (Î (Æ - 1))) Đ⟩;rw[fR oT (aAV (pu n) (cP (Î Æ)))]
 rw[abH ((ā [1,Æ]).bind br5) a (nR a),jA,abH (KR (auX 1 Æ aly) (alY (aAU Æ))) a (nR a),Y',cP (aAU Æ=n - 1)];rfl
theorem bPN(n:Nat):alY n=aAX (UD n) h:=by
 rw[š aAv ų,B' j,avT,Θ (fI Function.comp)]
theorem bPO{i j:Nat}(d:pY)(c:pW):rQ (aln a b) (cn (i &&& j)):=RG (by rw[iO _ api])
theorem bxO{i j:Nat}(d:pY)(c:pW):aLH:=by
 rw[mV d c];congr 3;rw[CM,ř,ř];omega
theorem bPP(hR:R<32):alR 41 [ć R] (hv R):=by
 rw[am bwM];have w:=a0K (F:=ţ) (δ:=xA (ć R)) (b:=ĉ) (n:=R) ą Ă;rw[bPN]at w;refine Ñ (ž (NF Ŋ (OZ w Đ (cH Ċ bO (þ (ź (Î (R - 1))))) (Ĝ h f))));refine abY [ļ h,NE] ?_ sJ;rw[bx i e f];have:=ay e;rw[Ĕ c (bxO (F:=ţ) (δ:=[Dx i,NE]) (bPO (a:=ĉ) (b:=az) ą ą) ND) d (aos (G:=G) (F:=ţ) (δ:=[Dx i,NE]) ND (AO (a:=az) (b:=ĉ) ą ą)),jY g (ü (mB i) ((R:Int) - mB i)=ü (i+1) (R - ö)) aS3 g d];cases q:(ö &&& R==i+1)with
 | true=>
  rw[Ę q c (sH c d)];rfl
 | ă=>
  rw[Ę q c (Wf c)];rfl
theorem bPQ{l:ī a}(h:Ű<=4):Ld:=L9
abbrev Wy:=DV×Nat×gG×gG
def wD(a:Wy):DV:=Ē [a.1,ć a.2.1,GY a.2.2.1,GY a.2.2.2]
def wl(R C:Nat):ī Wy:=eK (hv R) h aTk++eK (hv C) h aTj
theorem apm(h:R<32):Ą (hv R)<=31:=by
 rw[Zn hv alZ,Ċ,bO];omega
theorem bPR{b:Nat}(h:b<a):Me - NG=Ĵ (a - b):=Ě
theorem bxP(d:R<32)(e:C<32):qC (bc 40 (dg R C)) (al0 wD):=by
 rw[fj (am bwL) r (HW ω (aL 4 (dg R C)) 41 gK [ik R] (bkz d)) p (HW ω bky 41 uP [ik C] (bkz e))];have m:xx (mO ŕ (Ψ 41) 4 (dg R C)) (aAX (hv R) h):=Η r;have g:xx (gL (iX 41) bky) (aAX (hv C) h):=Η p;have o:=bkx biQ aTk m d fun h c=>
  ⟨aTl,.č,rfl,by
   rw[bkw s az R (apl c) s ą],rfl⟩
 have n:=bkx biP aTj g e fun h c=>
  ⟨aTl,.č,rfl,by
   rw[bkw s ģ C (apl c) ą s],rfl⟩
 refine abZ o (ÿ n bkv);refine(aAN (show uV (adA .Add _ _ .č .č) (al0 wD)from ?_));show(if Ą bku+Ą (Ĥ (hv C) h (wD aTj))<=Ū then _ else none)=_;rw[į]
 ·rw[iG wl Χ ų ų];rfl
 ·rw[Ċ,Ċ];exact þ (Nat.add_le_add (apm d) (apm e))
abbrev Tb:=ī (gG×Nat)
def kk(p:gG):mS:=.t (YG (p.1:Int) (p.2:Int))
def dC(L:Tb):DV:=.dJ NH al1
def dD(L:Tb):DV:=Ē [dC L]
theorem bxQ(h:kk p=kk q):p=q:=by
 rw[bfR kk,đ f e h,azj f,azj e]
theorem bxR(q:gG):∀L:Tb,AL (kk q) NH al1=Ĥ (L.lookup q) z (al2 z)
 | []=>rfl
 | (p,z)::L=>by
  show(if kk p=kk q then ā (É _)else AL (kk q) _ _)=_;rw[au jx h (p=q)]
  ·rw[į (Ń h),h,ue];rfl
  ·rw[Ř (fun e=>h (bxQ e)),bxR q L,mv (k6 q p) (bE (iz h))]
theorem bxS:∀{L:Tb},L.lookup q=none->kk q∉NH
 | [],_,h=>bV
 | (p,z)::L,e,h=>by
  rw[Zg jx e]
  ·cases e
  ·rw[fM a (p8 h w w)]
   ·rw[bxQ w,ue]at a;cases a
   ·exact bxS e w
theorem bPS{r c z:Nat}(b:aTn)(h:π e (Ē (dg r c)) cx)(a:aTm=ā z):iP (ahn e) z:=by
 have d:œ (ahn e)=Li YR:=rfl;rw[d,b,ff,h,aA,bkA];rfl
theorem bxT{r c z:Nat}(m:aTn)(h:gA e z o)(k:gA a r cx)(j:gA b c cy)(f:aTm=none)(g:Hh<100000):K9 (Ry kr) (.od (dD (L++[(NI,z)]))):=by
 have n:fQ (Ry kr)=Li YR:=rfl;rw[n,m,K8,h];show Rs.Ee δ _ _=_;rw[Β k j,zf ((yW (Ą NH<Ū) (KS (aK0 .dJ (putD (kk NI) (ć z) NH al1)))).map wK) (Ć Ċ (Y_ g Đ)),š putD (Ř (bxS f))];unfold dD dC;rw[Χ,Χ];rfl
theorem bPT(e:axN (.fn x))(a:aLc=Ro)(c:pV)(b:y9)(h:ahe=k9):œ (avc es)=hY:=by
 show aLi _ Τ = _;rw[e,c];show(match aLc with
   | Ro=>K'
   | none=>none)=_
 rw[a];show K'=_;rw[nU Ec h b]
theorem a0L:bb4
 | [],m=>⟨ŵ,axP _,fun x a=>nomatch a⟩
 | y::r,m=>by
  show(uj _=m\/uj _∈y::r)/\uj _<=m/\Ly (y::r) (uj _);rw[au (Ė d c b (a0L r (İ (y<m) y m))) q (y<m)]
  ·rw[į q]at d c b ⊢;refine⟨ķ ?_,Ě,qp x⟩
   ·rw[fB d]
    ·rw[Ĉ z Α]
    ·exact Md
   ·rw[bM a]
    ·rw[Ĉ z c]
    ·exact b x z
  ·rw[Bs]at d c b ⊢;refine⟨?_,c,qp x⟩
   ·rw[fB d]
    ·rw[ŝ z]
    ·rw[Í Md]
   ·rw[bM a]
    ·rw[Θ z]
    ·exact b x z
theorem bxU:∀l:ė,lJ (nD l)=ā aS0
 | []=>rfl
 | a::l=>z_ (abO (nD l)) _ (bxU l)
theorem bPU(h:ur (jO l))(f:l≠[]):∃z∈l,(Ly l z)/\xC .min=UE z:=by
 cases l with
 | nil=>rw[Ŗ rfl f]
 | cons a l=>
  rw[Ė i g c (a0L _ a)];have k:xC .min=Ç (aEz a aS0):=by rw[bxp NJ];show(lJ (nD (a::l))).bind br0=_;rw[bxU];rfl
  obtain⟨z,b,ez⟩:∃z∈a::l,aEz a _=Ĵ z:=by
   rw[vX i]
   ·rw[υ a Α q]
   ·rw[gC z b q (Gq q) z (ť b) q.symm]
  refine⟨z,b,Ĝ x d,ŷ k ez⟩;rw[ez]at g c;rw[p8 d q q]
  ·rw[Θ q]
  ·rw[av (c _ (nL (cj x q)))]
universe k85
namespace k85
open PySem L2
theorem bPV(a b:Nat):Ê ŕ 37 aaS (cn (1+aAY)):=by
 rw[cS a0k];have m:mO k (.bi .max ali) 2 aaS=UF aAY:=by
  show ā (qm (ć (if NG>a then NG else a)))=_;congr 3;by_cases h:NG>Me
  ·rw[Θ Br]
  ·rw[Θ EG]
 have s:=sY (aTo ţ (i:=1)) m;rw[cP (aac+_=Ĵ (1+aAY))]at s;exact sG s
universe k85
namespace k85
open PySem L2
variable {fu k:Nat} {F:Nat->List DV->Option Ou} {δ:List Sv} {ds:List DV} {cl:Cl} {R C a b:Nat} {rest:List (List Int)} {L:Tb}
def mf(rest:ď):Mx:=fun i j=>bkB
theorem bxV(rest:ď)(R C:Nat):WI (aTp rest)=abW Dy:=by
 unfold WI sub wp mf;congr 1;funext w;rw[Hk akx];funext i;show(Ĥ UG j bkB).any _=_;rw[akx];rfl
def W9(rest:ď):Prop:=aTq rest
theorem getD_in{r:Ď}(h:j<Á):Dl∈r:=by
 rw[awo]
theorem aGq(c:ab1)(e:ab0)(g:i<a)(f:j<b):abl (Dy i j):=by
 have d:=xy (Ć c.1 g);exact e _ d _ (getD_in (Ć (c.2 _ d) f))
theorem O1(a:c<2^n)(h:i∈cs c):i<n:=by
 exact(Nat.pow_lt_pow_iff_right (ø:1<2)).mp (uK (aTh (O0 h)) a)
theorem mY(h:n<=5):2^n<=32:=sI h
theorem aGr:∀c,c<32->aTf<=5:=ĸ
theorem bxW(f:ab1)(e:ab0)(h:a<=5)(g:b<=5)(l:0<R)(k:R<2^a)(n:0<C)(m:C<2^b):0<al3:=by
 rw[Ĕ pa (mY h) pb (mY g),dU i d (alX (I_ R Ă l)) j c (alX (I_ C Ă n))];have q:=aGq f e (O1 k d) (O1 m c);rw[Zn wn (aAE (a:=(Dy i j).toNat) (tJ Ă (apk.mpr ⟨i,j,d,c,Ě⟩)))]
theorem bPW(e:ab1)(m:ab0)(A:0<a)(u:a<=5)(s:b<=5)(B:0<R)(g:R<2^a)(E:0<C)(h:C<2^b)(y:UH δ 3 (tT rest))(w:ĳ δ 5 NE)(v:ĳ δ 6 (ļ C)) :
  Uy bkD δ=UE al3:=by
 rw[Ĕ pa (mY u) pb (mY s),bkC rest d c n p (bx j o n) e m g h o,Ĕ z (Dz G G δ δ f 5 (eG (gO y) (gO w) (i4 (gO v))) (bxJ (fu:=fu) (k:=k) rest a b R C e A Ă Ă B g E h)) l (lK (ii z (bxI _ _ _ rs (aAZ R) (aAZ C) c))),Ę bxV l (dr nD l Ċ)];exact l
def bxX:dZ:=[biN]
structure Jt where
 g:Nat
 j:Fa Nat
 nm:Str
abbrev jE:Jt:=⟨1,fun a b=>a+b,AZ⟩
abbrev jB:Jt:=⟨0,fun a b=>1+aAY,x5⟩
abbrev bPX(J:Jt):Prop:=J=jB\/J=jE
theorem bxY(h:HY)(e:axN HX)(c:Ed G ω es δ=ā (.ok [ik a,ik b])):gL (aAd i es) δ=UF (J.j a b):=by
 rw[Lv h]
 ·exact bkE (bPV a b)
 rw[ĺ (bkE ?_) iZ,ij (sY (aA0 rJ) (aA0 (ć b)))]
def aoa(J:Jt)(t:DV)(rest:ď)(L:Tb)(x y w:Sv):ē:=[ħ t,ļ J.g,ħ HX,ħ (tT rest),.od (dD L),x,y,w]
universe k85
namespace k85
open PySem L2
theorem bxZ{n:Nat}(h:gA e n cx)(hn:Ak):rQ (sx e) (cn (2^n)):=aTe (by
 rw[aTd (ō aAO Ml) Ě];congr 3)
def bPY:MS:=biO bxX
theorem bPZ(h:ahA):K9 Rz (.od (dD [])):=by
 have a:fQ Rz=ō avB (.nx _):=rfl;rw[a,Br];rfl
theorem bP0(h:aTn):fQ RA=ā (ze (dC L)):=by
 have a:fQ RA=(match Τ with
  | auY=>ō (aEH d) (ze _)
  | _=>none):=rfl
 rw[a,h];rfl
theorem bx0(rows:ď)(n m:Nat)(d:Ü)(e:0<n)(a:Nv)(b:Nu)(h1:xE)(h2:xD):lE 5 14 uT=avI:=by
 rw[cS bwv];have c:=Dz G G δ abN es gK rfl (bPB (fu:=fu) (k:=k) rows n m d e a b);have s:sm cT lA=true:=by rw[iG sm ĥ aX aX];omega
 rw[ς s c q (vf c)];exact aXZ (UC q)
def Wg(m:Nat)(rows:ď):ď:=aS2
theorem bx1:∀L:Tb,VV NH al1=ā (oe p (((p.1.1:Int),(p.1.2:Int)),(p.2:Int)))
 | []=>rfl
 | p::L=>z_ (lM (VV _ _)) _ (bx1 L)
def tD(p:gG×Nat):DV:=Ē [ć p.1.1,ć p.1.2,axe]
theorem bP1(L:Tb)(h:L≠[])(a:Hh<=100000):qC (ω 34 [dC L]) (TH tD):=by
 rw[cS bwH];have w:bU bkF=È bf3:=by have b:bkF=aY (fP ĉ (xA (dC L))) aLj:=rfl;rw[b,sJ,aA];show bU (a7Q alN (NH).isEmpty NH al1)=_;rw[į (cG (by cases L with | nil=>rw[aNI] | cons _ _=>rfl)),bx1,iO _ ų];rfl
 refine sG (aAu w a (Ĝ p hp));refine Dq aSY ?_;exact vh (eG (aAw Ds rfl) (aAw jQ rfl) al5) al4 rfl
theorem bP2(xs:Ħ)(x:DV):Gk (xs++[x]) (-1)=bI:=by
 show Li bkG=_;have e:bkG=ā aP:=by
  rw[Ù mT MZ (į (xj Ÿ nX)),Hk Ÿ,nX]
 rw[e,jA,X1 Ķ,aTr];rfl
universe k85
namespace k85
open PySem L2
theorem bx2{G:Gs}(d:pY)(c:pW):ahU .Gt (ü j i):=RH
theorem mul_r(h1 : vU<j)(h2:j<2^62):auO=true:=by
 unfold xT;have e1:(2:Int)^62=4611686018427387904:=Đ;have e2:(2:Int)^64=18446744073709551616:=Đ;rw[Þ (ź (asR<j)),Þ (ź (j<2^64))];rw[aN2,aws,aMK]
universe k85
namespace k85
open PySem L2
theorem bP3(c:Int)(n:Nat)(h:Ak):∃xs:Ď,aP=n/\qC (ω 88 (dg c n)) (Pq É):=by
 rw[bR a0p];obtain⟨l,r,xs,b,z,e,rfl⟩:=aA2 4 g (∃(xs:Ď) (b:Int) (z:Sv),aP=j/\g=[ļ c,ļ n,fq (Pq É),ļ b,z])
  (body:=fun f=>aZ ţ [oy bjg,bjf] f) n 0
  (fun j m g I=>by
   rw[aT xs b z e rfl I abT];obtain⟨N,o⟩:∃N:Int,(b*48271+Ŭ*j+11)%aSF=N:=ce;obtain⟨D,p⟩:∃D:Int,N/7=D:=ce;refine⟨_,ŏ (Ux (ć N) ?_ rfl) (ŏ (aTt (ć D) rfl ?_ rfl (cH Ċ e (GX (tI m h)))) rfl),xs++[D],N,uS,gx Ÿ e,?_⟩
   ·rw[qc o (Av (sY (sY (aor ą Ņ (bPk _)) (aA1 (bPj Ă))) Ņ))]
   ·rw[qc p (aE3 ą Ņ Đ)]
   ·rw[←bPi];rfl) (ac [] _ .no rfl)
 refine iM xs e;rw[t_ a0p (qA aAM (mP cl .č (sY aTs Ņ) (ab2 (aed (n:=n) ą h) r Dk)))]
universe k85
namespace k85
open PySem L2
variable {fu k:Nat} {F:Nat->List DV->Option Ou} {δ:List Sv} {ds:List DV} {cl:Cl} {n m:Nat} {f:Nat->Nat->Int} {d:DV}
def Look(d:DV)(n m:Nat)(f:Au):Prop:=∀i,i<n->∃x,qL d xF=bI/\∀j,j<m->Am x ab3 (ć E6)
def at2(rows:ď)(i j:Nat):Int:=HI
theorem apn(R:Ü)(h:i<n):Ą HN=m:=aTu h
theorem bP4(R:Ü):Look ba n m aA3:=fun i a=>⟨_,OX (Ć R.1 a),fun j b=>alD (apn R a) b⟩
theorem apo{i j:Nat}(L:ab4)(l:pQ=hY)(k:gA b ae r)(h:gA e Ŭ q)(g:i<n)(c:j<m):iP (HA a b e) E6:=by
 rw[gj x p o (L i g) (cU (cU l k p) h (o j c))]
theorem aeh(d:pY)(c:pW):uu (Di a b) (i != j):=RH
theorem bP5(ds:Ħ)(h:Nat):agU (aA5 h) none=auK h:=by
 rw[aA4,uy,cI];by_cases q:h<=ŧ
 ·rw[HK q,aiF eY]
 ·rw[aTv,ayx,List.take_nil,a9w Ă]
theorem bP6(ds:Ħ)(h:Nat):agU none (aA5 h)=ds.take h:=by
 rw[aA4,uy,cI,aMG,aMR];by_cases q:h<=ŧ
 ·rw[HK q]
 ·rw[aTv,List.take_length,aiF Ă]
theorem apq{h:Nat}(e:aSU)(d:bkH):Ul (ahu b) (auK h) Q5:=by
 rw[ff,e,aA,ff,d,aA,←bP5];rfl
theorem bP7{h:Nat}(e:aSU)(d:bkH):Ul (aht b) (ds.take h) Q5:=by
 rw[ff,e,aA,ff,d,aA,←bP6];rfl
theorem aGs(d:uv (.lst x))(c:Ul b y cy)(h:Î (cK+ky)):Ul (fh a b) (x++y) (Yw cx cy):=
 RG (į L9)
theorem bx3(h:j<m):aTw j []=Uk j:=by
 rw[iG flip Ũ Â (Zx h)];rfl
theorem tq{m:Nat}{rows:ď}:al6=m:=aj1 flip
theorem bx4{i j:Nat}(d:gA a ae cx)(c:gA b Ŭ cy):aLH:=by
 rw[JD (mV d c) (show(_==_)=(i==j) by rw[CM,ř,ř];omega)];exact q
theorem bx5{G:Gs}(d:uv rg)(c:avS abP):avS ajn:=by
 show aY _ _=o;rw[Ĉ d c]
theorem bx6{G:Gs}(b:pQ=o):avS [a]:=by
 exact b
def ins(a s:Nat)(l:Ď):Ď:=l.take a++[l.getD s 0]++l.drop a
theorem bP8(h:nV o5):xC .int=Ç (rn b):=by
 rw[abI]
theorem bx7(x:Int)(hn:0<n):∃a:Nat,x%Æ=Me/\a<n:=by
 rw[gc (Ĕ q1 (ab6 x (b:=Æ) Ă) q2 (ab5 x (b:=Æ) Ă)) (x%Æ).toNat Ě Ě]
theorem bP9(h:nV d)(hs:F8=true):B7 (.lst [e]) [d]:=Wd NJ (ab7 1) (by unfold xS;simp[hs])
theorem bQa(a:al8)(h:bU aF=È alz):œ (az3 e)=al7:=
 apd (aAu h a fun r hr=>Dq [HQ] rfl)
theorem bx8(e:pY)(d:pW)(c:0<=j):iP (alk a b) (i/Yx):=
 vg e d (į c)
theorem bQb(R:Ü)(h:aF=al7):iP (gI e) Æ:=by
 rw[bkI]
theorem bQc(R:Ü)(b:0<n)(h:aF=al7):rQ (aSk e) (ak m):=by
 rw[bkJ t (Ņ)];rw[alF _ m (abM a)]at t;exact t
universe k85
namespace k85
open PySem L2
def Es:ė->Nat
 | []=>0
 | x::r=>İ r.isEmpty x (min x (Es r))
theorem a0M:∀{l:ė},l≠[]->Es l∈l/\Ly l (Es l)
 | [],h=>eV rfl h
 | [x],_=>⟨bg Es,bg Es⟩
 | YC,_=>by
  rw[đ c b (a0M (l:=y::r) Ğ)];have e:Es YC=min x _:=rfl;rw[e,t7 ?_ z a]
  ·by_cases q:x<=Es Gx
   ·rw[Ĉ (HK q) dQ]
   ·rw[aTv];exact ť c
  ·rw[p8 a q q]
   ·rw[Ĉ q (bkK ..)]
   ·exact û (Nat.min_le_right ..) (b z q)
theorem bx9(c:z∈l)(d:Ly l z):z=Es l:=by
 rw[đ a b (a0M (l:=l) (by rintro rfl;cases c))];exact bkt (d _ a) (b _ c)
def Wh(J:Jt)(f:Mx)(V:Fa Nat)(R C:Nat):Nat:=İ (qB=1) J.g (Es (Ĥ DA w (J.j (V UK xG.2) (V UJ UI))))
def zZ(J:Jt)(f:Mx):Fa nW
 | 0,_,_=>0
 | n+1,R,C=>NK (ab8 n)
theorem bQd(h:al9):(∃g,Sb g R/\g<R - g/\akN=((R - g,C),(g,C)))\/∃g,Sb g C/\g<C - g/\akN=((R,C - g),(R,g)):=by
 rw[bkM]
 ·rw[aA6,ŝ bkL]
 ·rw[aA6,Í bkL]
theorem bQe(h:al9):UK+xG.2<R+C/\lQ w+UI<R+C:=by
 rw[bkN]
 ·rw[e,ab9,Θ bv]
 ·rw[e,ab9,Θ bv]
theorem bya{V:Fa Nat}(h:∀r c,r+c<R+C->V r c=W r c):NK V=NK W:=by
 rw[g_ Wh]
 ·rfl
 ·congr 1;apply He;intro w d;rw[đ a b (bQe d),QT a,QT b]
theorem a0N(f:Mx):∀(N n R C:Nat),n<=N->R+C<=n->ab8 n R C=ab8 (R+C) R C
 | 0,n,R,C,b,a=>Ń (ź (R+C=n))
 | N+1,n,R,C,b,a=>by
  by_cases e:R+C=n
  ·rw[e]
  ·rw[RY m m n];cases hk:R+C with
   | zero=>
    obtain rfl:R=0:=Ě;obtain rfl:C=0:=Ě;show Wh J f _ 0 0=0;rw[g_ Wh]
    ·rename_i h;have:wn f 0 0=0:=rfl;omega
    ·rfl
   | succ k=>
    show NK _=NK _;exact bya fun r c h=>ŷ (a0N f N m r c Ă Ă) (a0N f N k r c Ă Ă)
def V(J:Jt)(f:Mx)(R C:Nat):Nat:=ab8 (R+C) R C
theorem a0O(f:Mx)(h:0<R+C):aA7=NK UL:=by
 unfold V;cases hk:R+C with
 | zero=>omega
 | succ k=>
  show NK _=_;exact bya fun r c h=>a0N f k k r c Ķ Ă
def r1(n:Nat):ė:=UD (n - 1)
theorem aei:j∈r1 n↔0<j/\j<n:=by
 rw[š r1 RC,jF]
 ·rw[LC i h rfl (av (ay h))]
 ·rintro⟨h1,h2⟩;rw[bkO j]
theorem byb(h:0<c):r1 (c+1)=r1 c++[c]:=by
 rw[š r1 (RY d d c),ź (d+1+1 - 1=d+1),ź (d+1 - 1=d),RQ,Χ];rfl
def ps(b r c:Nat):aa:=(r1 r).flatMap (fun i=>aA8 (2^b) i)++aA8 c r
theorem aGt:q∈ama↔(0<q.1/\q.1<r/\0<q.2/\q.2<2^b)\/(q.1=r/\0<q.2/\q.2<c):=by
 rw[iG ps C4 bkP RC,jF]
 ·rintro(⟨i,h1,h2⟩ | ⟨j,h,rfl⟩)
  ·rw[bx j a h2];have:=aei.mp h1;have:=aei.mp a;rw[ŝ ⟨Ě,Ě,Ě,Ě⟩]
  ·rw[Í (cG (aei.mp h))]
 ·rintro(⟨h1,h2,a,h4⟩ | ⟨h1,h2,a⟩)
  ·rw[ŝ ⟨q.1,aei.mpr ⟨h1,h2⟩,nL (cj q.2 (aei.mpr ⟨a,h4⟩))⟩]
  ·rw[Í ⟨q.2,aei.mpr ⟨h2,a⟩,by rw[←h1]⟩]
theorem bQf(h:0<c):ps b r (c+1)=ama++[NI]:=by
 rw[iG ps (byb h) Χ rq];rfl
theorem a0P(h:0<r):ps b (r+1) 1=ps b r (2^b):=by
 rw[Ù ps (byb h) List.flatMap_append];show _++[]=_;rw[Hk aN];simp
theorem bQg(b:Nat):ps b 1 1=[]:=rfl
theorem byc(n:Nat):Ą (r1 n)=n - 1:=aj1 r1
theorem a0Q(b:Nat):∀d,Ą (aTy 1)=d*(i5 b)
 | 0=>BD bQg
 | d+1=>by
  have e:aTy (2^b)=aTy 1++aA8 (2^b) (d+1):=uL ps rq;rw[a0P Ă,e,Ÿ,Ċ,byc,a0Q b d,aTx]
def oQ(J:Jt)(f:Mx)(b r c:Nat):Tb:=Ĥ ama p (p,UL p.1 p.2)
theorem byd{V:gG->Nat}:∀l:aa,(iQ p (p,V p)).lookup q=ō (q∈l) (V q)
 | []=>rfl
 | p::l=>by
  rw[Ö,jx];by_cases e:q=p
  ·subst e;simp
  ·rw[mv (k6 q p) (bE e)];show(iQ p _).lookup q=_;rw[byd l];simp[e]
theorem a0R(q:gG):(aA9 r c).lookup q=ō (q∈ama) (UL q.1 q.2):=byd _
theorem bye(f:Mx)(b r c:Nat):Ą (aA9 r c)=Ą ama:=amb
universe k85
namespace k85
open PySem L2
theorem byf(a:b<=5)(R0:0<R)(hR:R<=32)(hC:C<=32):Î (Ą aBa):=by
 have e:aBa=ps b R 1++aA8 C R:=uL ps rq;rw[RY d d R];rw[e,Ÿ,Ċ,byc,a0Q];have pb:=mY a;have:d*(i5 b)<=31*31:=As Ă Ă;omega
theorem bQh(c:0<C)(a:C<2^b)(R0:0<R)(h:al9):xG∈aBa/\TX∈aBa:=by
 rw[bkN]
 ·rw[ab9,bkQ (ı ⟨aca,aca,c,a⟩)]
 ·rw[ab9,bkQ (ķ ⟨rfl,aca,aca⟩)]
def wv(J:Jt)(f:Mx)(w:Wy):Nat:=J.j (UL UK xG.2) (UL UJ UI)
theorem byg(h:0<C):aA9 R (C+1)=aA9 R C++[((R,C),aA7)]:=by
 rw[nU oQ (bQf h) Χ]
theorem byh(d:R<32)(e:C<32)(h:0<R)(i:0<C)(g:2<=qB):DA≠[]:=by
 rw[ir a (jH wl a (đ c b (List.append_eq_nil_iff.mp a))),vX (bPM d e h i g)]
 ·exact q (acb c)
 ·exact q (acb b)
theorem bQi{rest:ď}(P:HY)(t:DV)(v:ab1)(u:ab0)(U:0<a)(n:a<=5)(j:b<=5)(f:0<R)(A:R<2^a)(g:0<C)(s:C<2^b)(w:Sv) :
  ∃E,Ð (aZ jP bxX (aTz w)) (UM (C+1) (ļ C) E):=by
 rw[Ĕ pa (mY n) pb (mY j)];have o:R<32:=Ě;have p:C<32:=Ě;have e:Ą aBb<100000:=by rw[bye];have:=byf (b:=b) (R:=R) (C:=C) j f Ă Ă;omega
 have x:(aBb).lookup (R,C)=none:=by
  rw[a0R,Ř mt]at ⊢;rw[vX (aGt.mp z)]
  ·have:=mz;rw[Zh this];omega
  ·have:=BZ;rw[Zh this];omega
 rw[fj (Ĕ r (bPW (fu:=fu) (k:=k) (δ:=aTz w) v u U n j f A g s rfl rfl rfl) c (bxO r (oE (Ĵ 1)))) B (bxW v u n j f A g s) d (a0O (J:=J) Dy (R:=R) (C:=C) Ă),jH Wh d (au (byg g) m (al3=1))]
 ·rw[nh (gb m c (Ę (į m) d d)) w (DB c (ŏ (bxT (z:=J.g) rfl ą ą ą x e) rfl) rfl)]
 ·rw[jY H (k6 al3 1) (bE m) H c];rw[Ř m]at d;have Q:2<=al3:=Ě;have S:=Aq jP (aTz (Aw (al0 wD))) l DA h wD elt bkT tg (uR [0,1,2,3]) it Dj fr bkS (cl:=.č) rfl Đ
   (by rw[iG wl Ÿ Ċ Ċ];exact þ (Nat.add_le_add (apm o) (apm p))) fun w N=>by rw[đ K I (bQh g s f N)];refine Dq [ħ w.1,ļ w.2.1,ħ (GY xG),ħ (GY TX),ħ HX,.od (dD aBb)] ?_;exact bxY (k:=k+2) P rfl (Β (bkR K) (bkR I))
  have ne:al0 (wv J Dy)≠[]:=fun z=>byh o p f g Q (acb z);rw[Ĩ z M O y (bPU (xj S (Hi nD)) ne)];rw[bx9 M O,bK (Es (al0 (wv J Dy))=V J Dy R C) d.symm]at y;rw[Į _ (bsu (Ω c) (ÿ (Ar (bxP o p)) (ŏ (bxT (z:=V J Dy R C) rfl y ą ą x e) rfl)) rfl)]
theorem bQj{rest:ď}(m:HY)(t:DV)(g:ab1)(f:ab0)(o:0<a)(l:a<=5)(i:b<=5)(q:0<R)(p:R<2^a)(y w:Sv) :
  ∃δ',Gi (UA 6 δ' jP bxX (alY (i5 b)) (UM 1 y w))/\∃d c,δ'=UM (i5 b+1) d c:=by
 refine bkU (∃d c,δ'=UM aG d c) (cj y w);rw[Ŷ d c rfl h (đ w2 e (bQi m t g f o l i q p (C:=j+1) Ă Ă c))];have n:(UM aG d c).set 6 aBc=UM aG (Dx j) c:=XY (aTA _ NE aBc c) (cP (aac+_=mB j));exact aeN (zr n) _
theorem bQk{rest:ď}(s:HY)(t:DV)(g:ab1)(q:ab0)(o:0<a)(r:a<=5)(n:b<=5)(x y w:Sv) :
  ∃δ',Gi (UA 5 δ' jP [bPY] (alY (i5 a)) (aTA [] x y w))/\∃f c d,δ'=aTB (i5 a+1) 1 f c d:=by
 rw[ľ (Ĕ pb (mY n) b1 (acd b)) (bkU (∃f c d,δ'=amc f) ⟨x,y,w,rfl⟩),Ĩ f c d rfl h,ĩ p e y2 w2 rfl (bQj s t g q o r n (R:=j+1) Ă Ă c d)];rw[ź (i5 b+1=2^b)]at e;have v:(amc f).set 5 aBc=amc (Dx j):=MK (amc aBc=_) bkW;rw[jY u (aBd aG (2^b)=aBd (j+1+1) 1) (o6 oQ (a0P Ă)) u e];have l:0<rest.length:=Ć g.1 o;have m:=Uq jP (amc (Dx j)) (bjY Ō (OX l));rw[uG (alF (rest.getD 0 []) b (g.2 _ (xy l))) m ⟨_,Ć v (bkV m rfl),_,_,_,rfl⟩]
def ft(J:Jt)(m:Nat)(rows:ď):Tb:=aTC lA DC 1
theorem byi:tm cT lA DD:=by
 rw[t7 (by rw[jC Wg sub Ċ]) r a,qy i a,Ċ]
theorem a0S(a:Ü)(b:HZ):W9 DD:=fun r d x c=>by
 rw[bx i f d];rw[bx j e c];have:=apg f;rw[kR (apg e) (aee a).1];exact aGq a b (by rw[←a.1];omega) this
theorem byj(p:HY)(rows:ď)(n m:Nat)(f:Ü)(o:HZ)(g:0<n)(b:Nv)(d:Nu)(h:xE)(j:xD) :
  Ê (k+6) 39 [ba,ć J.g,HX] aBe:=by
 have a:=aTD;rw[Š l e x' y' w' rfl (bQk (fu:=fu) (k:=k+2) p ba a (a0S f o) (IZ (Ć f.1 g)) h j .no .no .no)];have a1:=acd cT;rw[ς bkX e pa (mY h),iZ];have i:=Uq (lE 5) (aoa J ba DD [] .no .no .no) (e:=Ō) (c:=.č) rfl;rw[Ċ,a.1]at i;show wM _=_;exact qA (aon (Ar (bx0 rows n m f g b d h j))) (ÿ (Ar (a0D rows n m f g b d)) (ŏ (bPZ rfl) (bkV i (ž (bP0 rfl)))))
theorem bQl(d:0<cT)(c:0<lA):∃L,UO J=L++[((NL,ace),aBg J)]:=by
 unfold ft;generalize cT=A at *;generalize Ą (FI _)=B at *;have a1:=aBf d;have b1:=aBf c;have e:=byg (J:=J) (f:=UN) (b:=B) (R:=i5 A) (C:=i5 B) Ă;rw[ź (i5 B+1=2^B)]at e;have a:aTC B (2^A) 1=aTC B (i5 A) (2^B):=by have:=a0P (b:=B) (r:=i5 A) Ă;rw[Ę (ź (i5 A+1=2^A)) this (š oQ this)]
 rw[Į _ (a.trans e)]
theorem bQm(b:xE)(a:xD):Ą (UO J)=NL*ace/\Î (Ą (UO J)):=by
 rw[š ft bye];have c:=acd cT;refine QH (byf a c (mY b) Ă);have:=a0Q lA NL
 rwa [bkX]at this
theorem bQn(rows:ď)(n m:Nat)(a:Ü)(j:HZ)(g:0<n)(b:Nv)(l:0<m)(d:Nu)(i:xE)(h:xD) :
  bk1 33 jE:=by
 have e:=bk0 jE gw h;rw[bkZ bwG 36 bwJ,bkY jE]
theorem bQo(rows:ď)(n m:Nat)(a:Ü)(j:HZ)(e:0<n)(b:Nv)(g:0<m)(d:Nu)(o:xE)(l:xD) :
  aBh 9 43 (aBg jE):=by
 have h:=bQn (fu:=fu) (k:=k) rows n m a j e b g d o l;rw[đ L p (aTE jE e g),bk4 bwO,bk3 33,bk2]
theorem bQp(rows:ď)(n m:Nat)(a:Ü)(j:HZ)(g:0<n)(b:Nv)(l:0<m)(d:Nu)(i:xE)(h:xD) :
  bk1 32 jB:=by
 have e:=bk0 jB ŵ h;rw[bkZ bwF 35 bwI,bkY jB]
theorem byk(rows:ď)(n m:Nat)(a:Ü)(j:HZ)(e:0<n)(b:Nv)(g:0<m)(d:Nu)(o:xE)(l:xD) :
  aBh 9 42 (aBg jB):=by
 have h:=bQp (fu:=fu) (k:=k) rows n m a j e b g d o l;rw[đ L p (aTE jB e g),bk4 bwN,bk3 32,bk2]
universe k85
namespace k85
open PySem L2
theorem bQq(a b:Int):AM agX rJ (ć b)=ā (!WL):=rfl
theorem byl(b:Ru=ahw)(a:avp=ā (.rt v fr)):wJ (d::r) δ=ā (.rt v fr):=by
 show avN δ δ1 IM r;rw[b];show(ahV δ1 IM r)=_;rw[a]
theorem a0T{G:Gs}(hw:Y7)(b:Y6)(h:avD a=wL):pU YY=wL:=by
 refine UP;have e:fQ YY=ahC _ _:=rfl;rw[e,hw,bFN,į b,h]
theorem bym(a0:0<a)(h:a<2^n):cs a=Nr a.testBit:=by
 unfold cs;have hl:=aTc;rw[RZ d rfl d n (a.log2+1) d (a.log2+1)]
 conv=>rhs;rw[List.range_add,amd]
 have:(eK (Ο d) x (a.log2+1+x)).filter a.testBit=[]:=by
  rw[List.filter_eq_nil_iff];intro j b;rw[qy x b,alU (Dt Nat.lt_log2_self Ze)];exact vQ
 rw[this,aN]
theorem apr(r:Ď):Ą sE=Á:=aaW iD
theorem bQr(R:Ü)(b:0<n)(h:π x ba c):iP (aSk x) (m:Nat):=by
 rw[bkJ q Ņ,ph apr (abM a) q q]
theorem len_tab(R:Ü)(h:π x ba c):iP (gI x) (n:Nat):=by
 rw[bkI]
universe k85
namespace k85
open PySem L2
def bw(l:ė):Nat:=(iQ c (2^c)).sum
theorem bQs(a b:ė):bw (a++b)=bw a+bw b:=by rw[Ù bw Χ bk5]
theorem Wi(p:F4):∀n,aBi<2^n/\∀j,aAS aBi=(ü j n&&p j)
 | 0=>⟨bg bw,fun j=>bg bw⟩
 | n+1=>by
  rw[đ h1 b (Wi p n),RQ,amd,bQs];by_cases a:p n=true
  ·rw[bk8 (2^n)];refine bk7;rw[aAL,Zc j n h]
   ·rw[Nat.testBit_two_pow_add_gt h,b j,bk6]
   ·subst h;rw[Nat.testBit_two_pow_add_eq,b j];simp[a]
   ·have:2^n+aBi<2^j:=by
     refine Dt (Ä Ax) h
    rw[alU this];simp[ź (¬j<n+1)]
  ·rw[bk8 0];refine bk7;rw[Nat.add_zero,b j,Zc j n h]
   ·rw[bk6]
   ·subst h;simp[a]
   ·simp[ź (¬j<n),ź (¬j<n+1)]
theorem aGu:bw l=0↔l=[]:=by
 cases l with
 | nil=>simp[bw]
 | cons a l=>
  have:0<2^a:=aTF;simp only[bw,Ö,C9];rw[jF]
  ·intro h;omega
  ·rw[E2 h]
theorem byn(h:Nr p≠[]):cs aBi=Nr p:=by
 rw[bym (aTG (h (aGu.mp z))) (Wi p n).1];apply bk9;intro j a;rw[(Wi p n).2 j,Þ (ay a),CK]
theorem bQt(b:0<S)(h:S<2^n):bw (cs S)=S:=by
 rw[bym b h];apply Nat.eq_of_testBit_eq;rw[ir j (au ((Wi _ n).2 j) a (j<n))]
 ·rw[Þ a,CK]
 ·rw[eM a,aIF,alU (Dt h Ă)]
theorem bQu(a:0<S)(h:S<2^n):cs S≠[]:=fun z=>by
 rw[kR (bQt a h) z];simp[bw]at this;omega
section
variable (rows:List (List Int)) (w:Int) (n m:Nat)
def jp(I:ė)(c:Nat):Bool:=I.all fun r=>aTH
def rp(J:ė)(r:Nat):Bool:=J.all aBj
def JL(S:Nat):ė:=pd m bla
def RL(J:ė):ė:=Nr (rp rows w J)
def good(S:Nat):Bool:=!(uW S).isEmpty&&ame==S
def pr(S:Nat):ul:=((S:Int),Ĵ (NM S))
def al:ė:=UD (i5 n)
def byo:ī ul:=((al n).filter acf).map aBk
def mp(S:Nat):ul:=(Ĵ ame,Ĵ (NM S))
universe E_
theorem byp:S∈al n↔0<S/\S<2^n:=by
 rw[š al RC,jF]
 ·rintro⟨j,h,rfl⟩;rw[aP5]at h;omega
 ·rw[ir h (bkO S)]
theorem closed{rows:ď}{w:Int}{n m:Nat}{S:Nat}(h0:0<S)(h:S<2^n)(hJ:uW S≠[]):∃S',0<S'/\S'<2^n/\ame=S'/\uW S'=uW S:=by
 have sub:xH r (cs S) (acg S):=TD r hr (eS (tJ (apj h hr) (Ay ayl)) (zV (yh hc) r hr));rw[mj ne (acg S≠[]) (Ye (ň r hr (List.exists_mem_of_ne_nil _ (bQu h0 h)) (EO (sub r hr) z))) (ac _ (aTG (ne (aGu.mp z))) (Wi _ n).1 ?_)];have e:cs ame=acg S:=byn ne;unfold JL at e ⊢;rw[e];apply bk9;intro c hc;rw[CM,jF]
 ·intro z;refine Ay fun r hr=>zV z r (sub r hr)
 ·rw[ir z (eS (Ay aBl) (zV (yh hr) c (abi ⟨hc,z⟩)))]
theorem byq{rows:ď}{w:Int}{n m:Nat}{S:Nat}:acf S=true↔uW S≠[]/\ame=S:=by
 unfold good;rw[ĥ,ř,ei,List.isEmpty_eq_false_iff]
universe k85
namespace k85
open PySem L2
theorem a0U{b:Type}{p:ſ b}:∀l:p9,D9 aBm=ā (fg p)
 | []=>rfl
 | a::r=>XY (D9 (DV.bl (p a)::CW fun w=>DV.bl (p w))) (v_ D9 (a0U r))
theorem a0V{F:Ť}{δ:ē}{cl:Cl}{α:Type}{p:aiG}{l:di}{e:ME}(h:ur (.lst aBm)):xC .all=oC (Q1 p):=by
 show alQ (Gf [e]) (aEB l)=_;rw[NJ];show eK (D9 aBm) bw (qm (.bl (bw.all id)))=_;rw[a0U,iO (qm (.bl ((fg p).all id))) List.all_map];rfl
theorem byr:∀l:ė,lJ blc=ā blb
 | []=>rfl
 | a::l=>z_ (abO _) _ (byr l)
theorem aBn:∀l:ė,(blb).sum=Ĵ l.sum
 | []=>rfl
 | a::l=>by rw[Ö,C9,C9,aBn l];rfl
theorem bQv{l:ė}(h:nV (.lst blc)):xC .sum=Ç (Ĵ l.sum):=by
 rw[HU];show abO _=_;rw[byr,uf,aBn]
universe k85
namespace k85
open PySem L2
theorem bQw(R:Ü)(d:r<n)(f:c<m)(h:π a ba c1)(g:π b (ak r) l)(e:π x uX j):∃i,gA (HA a b x) (UQ r c) i:=
 ⟨_,cU (cU h g (OX (Ć R.1 d))) e (alD (aTu d) f)⟩
theorem bys{j:Nat}(hj:Î j)(h:Lj Ŭ):rQ (sx e) aTI:=by
 refine aTe ?_;rw[aTd (fO aAO Ε) (pu j),abU]
theorem a0W(hn:n<=8)(h:S<2^n):S<2^64:=Dt h Ă
theorem bQx{fu k:Nat}{rows:ď}{w:Int}{n m:Nat}(R:Ü)(aGv:0<n)(hn:n<=8)(hm:m<=8){S:Nat}(s0:0<S)(s1:S<2^n):Ê lD 24 [ba,ć S,Az] (cn (NM S)):=by
 rw[bR a0i];have st:=aBo S s0 (a0W hn s1);rw[blh a0i S];have cm:=blg S m bla (tg:=eF) (it:=.fw [xq 0])
  (cd:=ala [aTK ĉ ģ]) (fr:=aTJ) (cl:=Ŋ)
  (We (bQr R aGv ą) Ă) Đ (Dr hm) (fun c hc=>by
   have a0X:=ay hc;rw[blf c S r hn hr,ble r c (apj s1 hr) a0X ĉ ģ])
 rw[bld (uW S) (xq 0) ĉ ģ]
theorem bQy{fu k:Nat}{rows:ď}{w:Int}{n m:Nat}(R:Ü)(aGv:0<n)(hn:n<=8)(hm:m<=8){C:Nat}(s0:0<C)(s1:C<2^m):Ê lD 25 [ba,ć C,Az] (cn (bw (aTL UG))):=by
 rw[bR a0j];have st:=aBo C s0 (a0W hm s1);rw[blh a0j C];have cm:=blg C n (rp rows w UG) (tg:=eF) (it:=.fw [gH])
  (cd:=ala [aTK ģ ĉ]) (fr:=aTJ) (cl:=Ŋ)
  (We (len_tab R ą) Ă) Đ (Dr hn) (fun r hr=>by
   have aps:=ay hr;rw[blf r C c hm hc,ble c r aps (apj s1 hc) ģ ĉ])
 rw[bld (aTL UG) gH ģ ĉ]
def pD(l:ī ul):Ħ:=iQ p (GY p)
def wB:dZ:=[biH,aSo]
theorem bQz(j:Nat):UD aG=UD j++[j+1]:=gx RQ Χ
theorem bQA(R:Ü)(o:0<n)(x:n<=8)(J:m<=8):qC (jP 23 UT) bln:=by
 rw[bR a0h];have h8:2^n<=2^8:=sI x;obtain⟨K,N,g,e,rfl⟩:=aA2 3 H (bll H (blm aBk))
  (body:=fun v=>aZ bc wB v) (i5 n) 1 (δ:=[eD,jR,fq [],.no,.no])
  (fun j hj H I=>by
   rw[Ŷ g e rfl I bkW];have s1:j+1<2^n:=Ě;have Q:=bQx (fu:=fu) (k:=k) (w:=w) R o x J (S:=j+1) Ă s1;rw[NO L A (blm aBk) L];have y:Hh<=255:=(by rw[←A,Ċ];refine alZ;rw[Ċ,bO];omega);rw[A,bQz,amd,Χ,A];have r:∀z:Sv,NN 2 (ach ah) aBs=oC (!aBt):=fun z=>by have C:(amf==0)=aBt:=(by rw[CM,ř,List.isEmpty_iff];rw[cP (amf=0↔US=0)];exact aGu);refine amg ?_;rw[bQq,C]
   have h:∃b,Ð (aZ bc [aSo] aBs) b/\bll b (L++([j+1].filter acf).map aBk):=by
    have s:=r .no;by_cases p:uW aG=[]
    ·have c:aBr=ă:=uL good p;have M:aBt=true:=Η p;rw[Ę M s (blj (Wf s))]
    ·rw[jY l (aBt=ă) (List.isEmpty_eq_false_iff.mpr p) l s];have U:0<US:=aTG (p (aGu.mp z));have E:US<2^m:=(Wi _ m).1;have r1:=bQy (fu:=fu) (k:=k) (w:=w) R o x J U E;rw[jY B (cs US=uW aG) (byn p) B r1];have u:NN 2 blk aBs=oC aBr:=(by have q:=mV (uY bc aBs f 25 (eG aTM (bQ 4 (cn US)) (i4 (xI 1 w))) rfl r1) (bQ 3 (UR j));have C:(Ĵ (bw (acg aG))==mB j)=aBr:=(by unfold good;rw[l,Bool.not_false,CK,CM,ř,ř];omega);rw[q,C]);cases c:aBr with
     | ă=>
      rw[Ę c u (blj (sH s u))]
     | true=>
      rw[c]at u;refine⟨_,DB (sH s u) (ŏ (aTt (Ē [UR j,cn US]) (ds:=pD L) rfl rfl rfl (o6 pD (Ĉ Ċ (uK y Đ)))) rfl) rfl,Dx j,ļ amf,?_⟩;rw[K7 c,bli,v_ pD Χ]
   rw[gC b P O h b (aBq (cn US) (Dv aTM (bQ 3 (UR j)) (i4 (xI 1 w)) Q) P) O]) (cj .no .no)
 rw[t_ a0h (qA aBp (ab2 (a0K (n:=2^n) (bys (j:=n) Ă (len_tab R ą)) Ă) N Dk))]
universe k85
namespace k85
open PySem L2
theorem eq_nil(h:KK 59=true):lF Ŧ oz=ā agT/\AM agX Ŧ oz=ā (!agT):=by
 have p:KL 60 Ŧ=true:=h;rw[mj d (jV Ŧ oz=agT) (ql ds) (aD ?_)]
 ·rw[blo];rfl
 ·rw[blo];rfl
universe k85
namespace k85
open PySem L2
def qD(p:gG):DV:=Ē [ak p.1,ak p.2]
def hs(b e:gG):Bool:=b.1.testBit e.1&&b.2.testBit e.2
theorem byt(o i:Nat):Nz o i=Ĵ (o/2^i):=by
  rfl
theorem bQB(x y r c:Nat):(yx (yx (Nz x r) (Nz y c)) 1==1)=(x.testBit r&&y.testBit c):=by
 rw[byt,byt,api];have:yx (Ĵ blq) 1=_:=api _ 1;rw[this,bki];have h:=Nat.testBit_zero blq;rw[Nat.testBit_and,blp,blp,p_,p_]at h;rw[h];rcases aTN _ with z | z<;>rw[z]<;>rfl
theorem bQC{fu k:Nat}(b e:gG):UB 29 [qD b,qD e] (hs b e):=by
 rw[fj (am bwD) i0 (blr xt T6 b.1 e.1) i1 (blr Hz (jM 1) b.2 e.2),yB q (mV (aTO (aTO i0 i1 rfl) jQ rfl) jQ) bQB (sG q)]
theorem byu{fu k:Nat}(bl:aa)(e:gG)(hb:ami):qC (bc 28 [xJ,qD e]) (oF (amh e)):=by
 rw[am bwC,ij (blu bl b (hs b e) e bls)]
theorem bQD{fu k:Nat}(es:aa)(b:gG)(hb:amk):qC (bc 30 [aci,qD b]) (oF (amj es)):=by
 rw[am bwE,ij (blu es e (!hs b e) b (vf bls))]
universe k85
namespace k85
open PySem L2
def cO:ś aa->Ou
 | ū=>blv aml
 | none=>.v .ę ă
def cB:dZ:=biL
def bQE(es bl:aa)(m:Nat)(z3 z4:Sv):ē:=[ħ aci,aBu,sM m,z3,z4]
theorem bQF(es:aa)(b:gG):Ą (amj es)<=r9:=Nt ..
theorem byv{fu k:Nat}{es bl:aa}{m:Nat}(he:amk){g:gG->ś aa}(hg:∀b c,g b=ū->jt<=999):∀(bw:aa) (z3 z4:Sv),
  (∀b∈bw,bc 31 [aBx (amj es),xJ,ak m]=ā (cO (g b))) ->
  match cv.AV g bw with
  | ū=>blz=ā (.rt (.lst aml) true)
  | none=>∃a0Y a0Z,Ð blz (aTQ a0Y a0Z)
 | [],z3,z4,_=>(cj z3 z4)
 | b::bw,z3,z4,h=>by
  rw[fj (Ĕ hb (uq b) ih (byv (fu:=fu) (k:=k) (bl:=bl) (m:=m) he hg bw)) l (HW bc (amm z4) 30 [ĉ,Ō] [(aci,.č),UU b] (bQD es b he)) m1 (AO (NP bc (amm z4) 2 (cn vw)) jQ)];rw[cP (mB m - 1=aBw)]at m1;unfold cv.AV;cases q:g b with
  | some c=>
   rw[bly,ĺ (byl (δ1:=amm z4) rfl (ÿ cc (Nl (aBv true) (aGs (bP9 (sN 3) rfl) (sN 4) ?_)))) Ċ];have:=hg b c q;rw[pH (Î (1+jt))]
  | none=>
   rw[bly];have st:∀IM,blx (bw.map qD) (amm ahz)=IM->blw (oF (b::bw))=IM:=fun IM e=>ŗ e (OY (δ1:=amm z4) rfl (ÿ cc (aTP rfl)));have:=ih (ħ (qD b)) ahz (jq b' bWg);rw[bv];cases e':cv.AV g bw with
   | some c'=>rw[Ļ e' this (st _ this)]
   | none=>
    rw[Ę e' this (gC a0Y a0Z e this a0Y a0Z (st _ e))]
theorem byw:qL (.lst rH) ŭ=kY:=by
 show VS _ 0=kY;rw[jC VS mT (pw Đ eY)];rfl
theorem byx(l:aa):mx 59 DE=true:=aGh fun d a=>by
 rw[qy p a];rfl
theorem byy:∀(m:Nat) (es bl:aa),amk->ami->m<=900->H9 (k+m+3) 31 [aci,xJ,ak m]=ā (cO (DF m))
 | m,[],bl,_,_,_=>by
  rw[am apb];have:UV m []=FZ:=ql m;rw[Ĉ this (Ñ (Nl (aBv true) aBz))]
 | 0,jz,bl,_,_,_=>by rw[am apb];have q:mO (k+0+2) (Aj oz) 5 [aBx jz,xJ,ć J8]=rN:=blD;exact NQ q (V0 (aBv true) blA)
 | m+1,jz,bl,j,o,hm=>by
  rw[ź (k+vw+3=(k+m+3)+1),bR apb];unfold apb;have q:aTT (Aj oz) aBy=rN:=blD;have h:aTT aSs aBy=rN:=by have:=mV (NP (H9 (k+m+3)) aBy 2 (cn vw)) Ds;rw[this,bE Ă]
  have w:xx (aTT biM aBy) (oF (amh e)):=(Η (Dz f 28 es [az,xt] l [aTS,UU e] (Β ą (uZ (bQ 0 (.lst (qD e::es.map qD))) Ds byw)) (byu (fu:=fu) (k:=k+m+1) bl e o)));have a:=byv (fu:=fu) (k:=k+m+1) (es:=jz) (bl:=bl) (m:=m) j (g:=blC) (fun b c r=>û (aTR r).2.2 Ă) (amh e) .no .no fun b ζ=>byy m (amj dW) bl (û (bQF ..) j) o Ă;show _=ā (cO blB);cases p:blB with
  | some c=>
   rw[Ļ p a (NQ q (eB h (a0T w gw a)))]
  | none=>
   rw[Ę p a (Ė z3 z4 a a)];exact NQ q (eB h (V1 w gw a blA))
universe k85
namespace k85
open PySem L2
section
variable {rows:List (List Int)} {w:Int} {n m:Nat}
def rE(rows:ď)(w:Int)(m r:Nat):aa:=Ĥ (pd m aBj) c NI
def eE(rows:ď)(w:Int)(m:Nat)(l:ė):aa:=l.flatMap NR
theorem bQG(r:Nat):Ą (NR r)<=m:=by
 rw[gf (Z7 rE) alZ (Ĉ bO Ķ)]
theorem bQH(l:ė):aTV<=Ű*m:=by
 induction l with
 | nil=>exact cg
 | cons r l ih=>
  have h:=aTU r;show Ą (NR r++NS l)<=_;rw[Ÿ,ŀ,aTx];omega
theorem bQI(r:Nat):oF (NR r)=wG (pd m aBj) c blE:=by
 rw[Hi rE]
theorem byz:p∈NS l↔p.1∈l/\p.2<m/\UQ p.1 p.2=w:=by
 rw[jC eE rE bkP,jF]
 ·rw[LC r d h (bx c e h),gc (đ b a (xm e)) d B5 (Ł a)]
 ·rw[LC b a f (υ p.1 b (nL (cj p.2 (tJ a (Ł f)))))]
universe E_
universe k85
namespace k85
open PySem L2
theorem byA(c:ahP)(h:aF=ā (nR a))(b:Î (ŧ+ad)):fQ ahD=ā (ahB a):=by
 show bkc;rw[t5 c,bkb Cl.fresh,pw gw (þ b)]
theorem byB{fu k:Nat}{m:AK}{cs args:Ħ}{d:DV}(h1:aLz)(h:fP ahH aLy=hY)(hd:CS):ω xU avJ=k9:=by
 have e1:ω xU avJ=Ef fP avJ:=rfl;rw[e1];show(if aLz then(match fP ahH aLy with
  | hY=>aR4
  | _=>none)else none)=_
 rw[į h1,h];exact acj
theorem a00:∀l:aa,e_ DE=true
 | []=>rfl
 | p::l=>z_ ((qD p).jX&&UW) true (a00 l)
theorem a01:∀(l:ď) (j:Nat),i7 j (iQ r Nm)=wG aiA i (qt [cn (j+i),sF (Q_ [])])
 | [],_=>rfl
 | r::l,j=>by
  show C5::i7 aG _=_;rw[a01 l aG,ŀ,La,Ö,ų,aTX i];show C5=qt [iJ,sF (Q_ [])];rw[aTW j]
def xB:dZ:=[biJ]
theorem byC(R:Ü)(v:m<=8):∀(l:ė) (a:aa) (o g:Sv),(∀r∈l,r<n)->ad+Ű*8<=900 ->
  ∃d b,Ð (ack (uR [4,5]) q F xB (iQ aBC (qt [ab3,HJ j])) [eD,jR,ħ x,aBB,o,g]) [eD,jR,ħ x,fq (oF (a++NS l)),d,b]
 | [],a,o,g,_,_=>(cY g (by rw[nU eE List.flatMap_nil aN]))
 | r::l,a,o,g,h,B=>by
  rw[Ĕ A (uq r) rl (aTU r),Ę ŀ B (JM d b e (byC (x:=x) R v l (a++NR r) _ _ (jq x z) (Ä Ÿ)) b ?_),show a++NS (r::l)=a++NR r++NS l by rw[rq];rfl,←e,Ĕ y (aTu A) u (Uq F [eD,jR,ħ x,aBB,sM r,ħ (HJ r)] (e:=cR) (c:=.č) rfl)];rw[alF (lz r) m y]at u;have c:=OZ (F:=F) (f:=fun (c:Nat)=>blE) (p:=aBj) (elt:=Ē aby) (tg:=eF)
   (fr:=aBA 4 5 1) (cl:=Ŋ) (We u Ă) Đ (Dr v) (fun c C=>by
    have s:=ay C;refine abY [ļ c,ļ r,HQ,jR] ?_ rfl;exact Ω (mV (cU (sN 2) ND (alD y s)) (sN 3)))
  rw[←bQI]at c;have ex:=byA (fu:=fu) (i:=3) (ds:=nT qD) rfl c (nC Ċ Ċ);rw[←Χ]at ex;exact OY rfl (ŏ ex rfl)
theorem byD(h:∀p,yZ [mm,qD p]=Υ (ć (g p))):∀l:aa,B3 mm DE=ā (fg g)
 | []=>rfl
 | p::l=>by
  show(match yZ _ with
   | Υ eX=>lM (B3 mm _)
   | _=>none)=_
  rw[h p,byD h l];rfl
theorem bQJ(h:∀i∈a,zh):gM DV.ę a DE=oF (aTY a l):=by
 rw[š gM ų];apply He;intro i b;have:=h i b;simp[Ũ,Â,Õ this]
theorem bQK(ks:Ď)(h:¬jy<64->IH ks=true):∃ix,D_ ks=ā ix/\ix.Perm agZ:=by
 rw[g_ D_]
 ·exact bG5 ks
 ·rw[fM z (į (h z))];exact a9E
theorem bQL(R:Ü)(C:0<n)(hn:n<=8)(E:m<=8)(J:ami)(h:Ą u0<=64)(c:¬Ra u0->IH (Ĥ u0 p aT2)=true):∃es':aa,es'.Perm u0/\qC (lE 4 27 [ba,Az,xJ]) (es'.map qD):=by
 rw[Ė v u e (byC (F:=jP) (fu:=fu) (w:=w) (x:=xJ) R E uk [] .no .no (fun r B=>ay B) (xj bO (pH (0+n*8<=900)))),gb QL e (NO b s b u0)];rw[←s]at e h c ⊢;rw[Ė j A o (bQK (zI fun p=>aT2) (Ć Ċ c))];rw[Ċ]at o;refine iM (aTY j b) (bG6 o);rw[am bwB];have H:=byD (F:=jP) (mm:=amo aT1 1 aT0 [xJ]) (g:=fun p=>aT2) (fun p=>by
  refine byB (k:=k+2) (args:=[qD p]) ⟨rfl,rfl,rfl,?_⟩ ?_ rfl
  ·show bW (e_ aBE) true;rw[a00];rfl
  ·rw[AY (lK (HW bc [ħ (qD p),aBu] 28 aby [aTS,UU p] (byu bl p J))) Ċ]) b
 have y:uV (Uy biI blF) (oF (aTY j b)):=by
  show aoi G jP (UX _ Ō _) aT1 1 aT0 (xV _ [2])=_;have K:xV blF [2]=ā [xJ]:=by show(if(aTZ).jX then ā [aTZ]else none)=_;rw[show(aTZ).jX=e_ aBE from rfl,a00];rfl
  rw[K];rw[O_ aoi];rw[Ř iU,aoq (d:=.lst amn) rfl];show(if agp/\Ą amn<=64 then Ź (aEM _ _ amn) ks (Ĥ (D_ ks) j (Gj (.lst (gM .ę j amn)) Ŋ)) else none)=_;rw[į (cG (Ć Ċ h)),H,jA,A,uf,bQJ fun i I=>ay (o.mem_iff.mp I)]
 refine qA (Eg aBz) (aBD .č ?_ ŵ e (ž (bC y)));show Ε=_;rw[a01,R.1,fI p_];rfl
universe k85
namespace k85
open PySem L2
section
variable {rows:List (List Int)} {w:Int} {n m:Nat}
def wN(rows:ď)(w:Int)(n m:Nat):aa:=Ĥ ((al n).filter acf) S (S,NM S)
theorem bQM:bln=oF oG:=by
 unfold pD byo wN;rw[ų,ų];rfl
theorem bQN(a:n<=8):Î (Ą oG):=by
 rw[gf (Z7 wN) alZ (Ù al Ċ bO)];have:2^n<=2^8:=sI a;omega
def rb(rows:ď)(w:Int)(n m i:Nat):gG:=(bw (acg (2^i)),NM (2^i))
theorem bQO(h:r∈cs (2^i)):i=r:=by
 rw[yB a (yh h) blG (ZJ a)]
theorem byE(b:j<m)(h:NT=w):j∈uW (2^i):=by
 refine tJ b (Ay (qp r));rw[←bQO a,h];exact ue _
theorem bQP(e:i<n)(d:j<m)(h:NT=w):aT4 i∈oG:=by
 have b:uW (2^i)≠[]:=fun q=>by rw[EO (byE d h) q]
 rw[aT l g f c a (closed aTF (aT3 e) b) (ĺ (nL (iM l (abi ⟨byp.mpr ⟨g,f⟩,byq.mpr ⟨Ć a b,Ć a c⟩⟩))) (Ù rb a c))]
theorem bQQ(hi:i<n)(a:j<m)(h:NT=w):hs (aT4 i) (i,j)=true:=by
 rw[jC hs rb ĥ,jF]
 ·show aBG (bw _)=true;rw[ľ (aBF RL n hi) (Ay (Ĝ c b))];have h2:0<2^i:=aTF;exact zV (yh b) i (tJ (Ä Nat.log2_two_pow) (Ć blG amp))
 ·show aAS (bw _)=true;rw[aBF JL m a];exact yh (byE a h)
theorem byF(f:xH p es u0):aBH n es oG≠none:=by
 refine cv.aGb hs (c:=(Nr fun i=>(Ο m).any fun j=>NT==w).map aT4) (Ĝ b o) (Ĝ p h) ?_
 ·rw[bx i l o,ň d a (xm l) (Ė j g q (aAI a))];exact bQP (ay d) (ay g) (Ł q)
 ·rw[gC d a e (byz.mp (f p h)) _ (nL (cj p.1 (abi ⟨d,aAJ ⟨p.2,zx a,Ł e⟩⟩))) (bQQ (ay d) a e)]
 ·rw[gf Ċ alZ (Ĉ bO Ķ)]
universe E_
universe k85
namespace k85
open PySem L2
theorem bQR{rows:ď}{w:Int}{n m:Nat}(byG:∀i<n,∀j<m,NT=w){b:gG}(hb:b∈oG){i j:Nat}(hi:i<n)(hj:j<m):hs b (i,j)=true:=by
 rw[bx S h hb,ň h1 h2 (xm h) (Ĕ h1 (byp.mp h1) h2 (byq.mp h2))];show bW (S.testBit i) (aAS (NM S));rw[ĥ,jF]
 ·rw[←h2.2,gf (aBF RL n hi) (Ay ayl) (Ĉ (byG i hi c (aAD hc)) (ue _))]
 ·rw[gf (aBF JL m hj) (Ay aBl) (Ĉ (byG r (O1 h1.2 hr) j hj) (ue _))]
theorem byH{rows:ď}{w:Int}{m:Nat}:∀{l:ė},aTV=Ű*m->∀r∈l,∀j<m,UQ r j=w
 | [],_,r,hr,_,_=>eZ hr
 | a::l,h,r,hr,j,hj=>by
  rw[Ĕ h1 (aTU a) h2 (aT5 l)];have h3:Ą (NS (a::l))=Ą (NR a)+aTV:=Ÿ ..;rw[ŀ,aTx]at h;rw[p8 hr e hr]
  ·rw[pK q (Ą (NR a)=m) (dr rE q Ċ)];have:=List.length_filter_eq_length_iff.mp (q.trans (bO (n:=m)).symm) j (zx hj);rw[e,aaA]
  ·exact byH (l:=l) Ă r hr j hj
theorem byI{d:Type}{f:d->Int}:Do (ī d) x (f x=c) (IH TF=true)
 | [],_=>rfl
 | [_],_=>rfl
 | a::b::l,h=>by show bW mD (IH _);rw[byI (jq x e),uq a,h b akf,Þ (axP _)];rfl
theorem byJ{rows:ď}{w:Int}{n m:Nat}(hn:n<=8)(hm:m<=8):Ą u0<=64:=by
 rw[kR (aT5 uk) bO];exact û this (As hn hm)
theorem bQS{rows:ď}{w:Int}{n m:Nat}(hn:n<=8)(hm:m<=8)(h:¬Ra u0):IH (Ĥ u0 p (Ą (cv.wi hs oG p):Int))=true:=by
 have a:=aT5 uk;have b:n*m<=8*8:=As hn hm;have al:=byH (rows:=rows) (w:=w) (m:=m) (l:=Ο n) (by rw[bO]at a ⊢;omega);rw[ĺ (byI (c:=(Ą oG:Int)) (Ĝ x hx)) (fC x1 x2 (byz.mp hx))];have:cv.wi hs oG x=oG:=List.filter_eq_self.mpr fun b hb=>bQR (fun i hi j hj=>al i (zx hi) j hj) hb (ay x1) x2;rw[this]
universe k85
namespace k85
open PySem L2
theorem bQT(h:π e .ę .č):K9 (ut i e) ahz:=by
 have a:fQ (ut i e)=pS _ _:=rfl;rw[a,h];rfl
theorem bQU(f:sh TB)(h:Lj b):K9 ahE aLx:=by
 have g:fQ ahE=Ź (aXV Τ) a (um _ ζ (yV d b Ε)):=rfl;rw[g,f,h];rfl
def sv:ś aa->Sv
 | ū=>fq aml
 | none=>ahz
def cE:ME:=aSq
def bQV:dZ:=[.aug 4 ù,ut 5 cE]
def bQW(x:DV)(w:Int)(bl es:aa)(j:Nat)(z:Sv):ē:=[ħ x,jR,aBu,ħ aci,HR,z]
theorem byK(hj:j<=8)(a:amk)(b:ami):Ð (blI (ut 5 cE) (aT6 j z)) (aBI (DF j)):=by
 rw[JD (byy (fu:=fu) (k:=k+(8 - j)) j es bl a b Ă) (ź (k+_+j+3=k+11))];cases z:DF j with
 | some c=>
  rw[Ļ z q (Eg blH)]
 | none=>
  rw[Ļ z q (bQT blH)]
theorem byL(m:n<=8)(g:amk)(l:ami)(h:DF n≠none):∀(d j f:Nat),j+d=n->d<f->(∀i<j,DF i=none) ->
  ∃t c,t<=n/\DF t=ū/\(∀i<t,DF i=none)/\Ð (IN (fun a=>fy (NN 11 aSr a)) (fun a=>aZ (lE 11) bQV a) f (aBI (DF j))) (aT6 t (sv ū))
 | d,j,0,_,e,_=>eZ e
 | d,j,f+1,hd,e,b=>by
  cases z:DF j with
  | some c=>
   refine⟨j,c,Ě,z,b,?_⟩;have t:fy (NN 11 aSr (aBI ū))=Ε:=Ω rfl;exact aX3 t
  | none=>
   cases d with
   | zero=>
    have:j=n:=Ě;rw[ş this (Ŗ z h)]
   | succ d=>
    obtain⟨t,c,u,s,r,p⟩:=byL m g l h d aG f Ă Ă (fun i o=>by
     rw[Za (avZ (aLM o))]
     ·exact b i q
     ·rw[Ĉ q z])
    refine⟨t,c,u,s,r,?_⟩;have v:=bQU (F:=lE 11) (fu:=fu) (δ:=aBI none) (i:=4) rfl jQ;exact aX4 (Ω rfl) (ŏ v (ŏ (byK (j:=j+1) (z:=sv none) Ă g l) rfl)) p
theorem byM{es:aa}(h:xH p es a)(q:DF m=none):UV m a=none:=by
 cases z:UV m a with
 | none=>rfl
 | some c=>
  rw[jk f e d (aTR z) (Ŗ q (cv.aGb hs f (fun p b=>e p (h p b)) d))]
theorem bQX(R:Ü)(a:0<n)(b:n<=8)(e:m<=8)(B:xE)(A:xD)(hf:100<=fu):∃(es' c:aa) (t:Nat),es'.Perm u0/\blM t=ū/\(∀i<t,blM i=none)/\t<=n/\blL:=by
 have g:=bQN (rows:=rows) (w:=w) (m:=m) b;rw[Ė es' p F (bQL (fu:=fu) (k:=k+7) (w:=w) R a b e g (byJ b e) (bQS b e))];have h:Î es'.length:=hZ aMB (av (byJ (rows:=rows) (w:=w) b e));rw[Š t c u s r o (byL (fu:=fu) (k:=k) (x:=ba) (w:=w) (bl:=oG) (es:=es') b h g (byF fun q v=>awl v) n 0 fu Ă Ă (fun i y=>eZ y))];refine⟨es',c,t,p,s,r,u,?_⟩;have wd:=bQA (fu:=fu) (k:=k+8) (w:=w) R a b e;rw[ς bQM wd ck (blK 6 a B A),am bwA];have E:Ð blJ aBJ:=by
  have C:blJ=Re.Ee aBJ (mO (k+11) (Ψ 14) 6 UT) (aLw aBJ):=rfl;rw[C,mN f 14 (l:=[abQ]) rfl rfl ck];rfl
 refine Ñ (ŏ E (ÿ (mN f 23 (l:=[abQ,ik w]) rfl rfl wd) (ÿ (mN f 27 (l:=[abQ,ik w,(aBx oG,.č)]) rfl rfl F) (ŏ (Ux ŭ rfl rfl) (ŏ (byK (k:=k) (j:=0) (z:=.no) Ă h g) (aX5 o (ž (bC DG))))))))
universe k85
namespace k85
open PySem L2
def O3(E bl:aa)(t:Nat):Prop:=UV t E≠none/\∀i<t,UV i E=none
theorem O3.uniq(h:O3 E bl t)(g:O3 E bl u):t=u:=by
 rw[Zc t u z]
 ·rw[Ŗ (g.2 t z) h.1]
 ·exact z
 ·rw[Ŗ (h.2 u z) g.1]
theorem O3.perm(h:O3 E bl t)(p:E.Perm b):O3 b bl t:=
 ⟨fun z=>h.1 (byM (fun q a=>aOn a) z),fun i c=>byM (fun q a=>awl a) (h.2 i c)⟩
theorem bQY{fu k:Nat}{rows:ď}{w:Int}{n m:Nat}(R:Ü)(aGv:0<n)(hn:n<=8)(hm:m<=8)(h1:xE)(h2:xD)(hf:100<=fu){t:Nat}(ht:aT7) :
  ∃c:aa,jt=t/\(tN c oG)/\(∀e∈u0,∃b∈c,hs b e=true)/\blL:=by
 obtain⟨es',c,u,p,h1,h2,_,h4⟩:=bQX (fu:=fu) (k:=k) R aGv hn hm h1 h2 hf;have hu:O3 es' oG u:=⟨(aar z h1),h2⟩;have:=(hu.perm p).uniq ht;rw[ş this (fC q1 q2 (aTR h1))];exact⟨c,cv.bOZ hs h1 h2,q1,fun e he=>q2 e (aOn he),h4⟩
theorem bQZ(hn:n<=8):∃t,t<=n/\aT7:=by
 have g:∀d j,j+d=n->(∀i<j,aBH i u0 oG=none)->∃t,t<=n/\aT7:=by
  intro d;induction d with
  | zero=>
   intro j f a;have:j=n:=Ě;rw[eN this ⟨j,Ķ,(byF (aS h h)),a⟩]
  | succ d e=>
   intro j f a;cases z:aBH j _ _ with
   | some c=>exact⟨j,Ě,(fun q=>Ń (Yh z)),a⟩
   | none=>
    refine e aG Ă (Ĝ i b);rw[Za (avZ (aLM b))]
    ·exact a i q
    ·rw[Ĉ q z]
 exact g n 0 Ă fun i b=>eZ b
universe k85
namespace k85
open PySem L2
section
variable {α β:Type}
def apt(ap:aiH):Nat->di->di
 | 0,_=>[]
 | _+1,[]=>[]
 | n+1,e::l=>aT8 ap n (ap e)
def mA(ap:aiH)(l:di):di:=apt ap Ű l
theorem a02(a:aiH):∀(n m:Nat) (l:di),Ű<=n->Ű<=m->apt a n l=apt a m l
 | 0,_,_::_,h,_=>blO
 | _,0,_::_,_,h=>blO
 | 0,0,[],_,_=>rfl
 | 0,_+1,[],_,_=>rfl
 | _+1,0,[],_,_=>rfl
 | _+1,_+1,[],_,_=>rfl
 | n+1,m+1,e::l,h,k=>by
  rw[fj (Ĕ h (blN h) k (blN k)) p (a02 a n m l h k) q (a02 a n m aT9 (amq h) (amq k))];show(aT8 a n (a e))=_;rw[p,q];rfl
theorem byN:mA a []=[]:=rfl
theorem byO:mA a (e::l)=blP (mA a l) e (mA a aT9):=by
 have q:=a02 a Ű _ aT9 (Nt ..) Ķ;show(aT8 a Ű (a e))=_;rw[q];rfl
theorem aGw(a:aiH):∀(n:Nat) (l:di),Ű<=n->(mA a l).Sublist l
 | _,[],_=>Ć byN (List.Sublist.refl _)
 | 0,_::_,h=>Fm
 | n+1,e::l,h=>by
  rw[Ę ŀ h byO];split
  ·exact(Ų (aGw a n _ (amq Ă)) aUa).cons₂ _
  ·exact(aGw a n l Ă).cons _
universe E_
def kp(f:Au)(p q:gG):Bool:=if blR then ă else(blQ amr)
def aGx(f:Au)(w:Int)(J:ė)(I:ė):aa:=I.flatMap fun r=>aUb
theorem byP(h:p∈UY I):p.1∈I/\p.2∈J/\amr=w:=by
 rw[Ŷ r a b (List.mem_flatMap.mp h) (bx c d b),gc (đ g e (xm d)) a g aR6]
universe k85
namespace k85
open PySem L2
theorem aGy(h:aF=acl p):ams ŭ (ak p.1):=NU
theorem aGz(h:aF=acl p):ams ù (ak p.2):=NU
theorem bQ0{F:Ť}{δ:ē}{a b:ME}{x y:Bool}{cx:Cl}(ha:pQ=UZ x)(hb:B4=UZ y):uu (.or kr) (x||y):=by
 cases x with
 | true=>exact aX2 ha
 | ă=>rw[Ĉ Bool.false_or (aE2 ha hb)]
theorem bQ1{F:Ť}{δ:ē}{n m:Nat}{f:Au}{d:DV}{p q:gG}{w:Int}{wv:ME}(L:ab4)(h0:œ ĉ=hY)(h1:œ Ľ=acl p)(h2:œ ģ=acl q)(h3:œ Ō=Ç w)(p1:p.1<n)(p2:p.2<m)(q1:q.1<n)(q2:q.2<m) :
  uu biF (blQ w):=
 aBK (aeh (apo L h0 (aGy h1) (aGz h2) p1 q2) h3) (aeh (apo L h0 (aGy h2) (aGz h1) q1 p2) h3)
theorem bQ2{fu k n m:Nat}{f:Au}{d:DV}(L:ab4){p q:gG}(p1:p.1<n)(p2:p.2<m)(q1:q.1<n)(q2:q.2<m):UB 22 [d,qD p,qD q] (kp f p q):=by
 rw[bR a0g];unfold a0g kp;have s1:mO k biG 4 [d,qD p,qD q]=Ç amr:=apo L ą (aGy ą) (aGz ą) p1 p2;have t1:=aeh (F:=ţ) (δ:=[gz,ħ (qD p),ħ (qD q),ļ amr]) (apo (a:=ĉ) (b:=gJ 2) (e:=jM 2) L ą (aGy ą) (aGz ą) q1 q2) (sN 3);refine Ñ (ÿ s1 ?_);cases h:blR with
 | true=>
  rw[Ę h t1 (Ĉ jb (amt t1 Dk))]
 | ă=>
  rw[Ę h t1 (E7 vQ (eB t1 (ž (bC (bQ1 (wv:=Ō) L ą ą ą ą p1 p2 q1 q2)))))]
theorem apu(h:Ga=Rh)(d:pQ=o):œ ahm=o:=by
 show Q0 _ _=o;rw[Ĉ h d]
theorem apv(h:Ga=Rg)(d:B4=o):œ ahm=o:=by
 show Q0 _ _=o;rw[Ĉ h d]
theorem byQ(l:aa):lF (.lst DE) oz=ā (l==[]):=by
 have b:KL 60 qV=true:=byx l;show(yW blS (jV _ _))=_;rw[b];cases l with
 | nil=>rfl
 | cons a r=>rfl
theorem bQ3(d:pY)(c:pW):ahU .GtE (aq j i):=RH
theorem bQ4{l:aa}{cd:ME}(hw:Rp=ā (.ok DE cl))(c:Y8)(b:Î Ű)
  (h:aLF a l δ' ((Tg.one 0).bind (qD a) Tl) (ā δ') (Ŀ ĉ δ'=acl a)):B7 (alf it cd fr) (oF (uU p)):=
 OZ hw c (þ b) fun a d=>gh (Ĩ δ' g f e (h a d)) ⟨δ',g,f,.č,e,rfl⟩
theorem byR{fu n m:Nat}{f:Au}{d:DV}(L:ab4):∀(N:Nat) (l:aa) (k:Nat),Ű<=N->N<=900->N+2<=k->blW->qC (ţ 21 [d,.lst DE]) aBM
 | N,[],k+1,_,_,_,_=>by rw[bR aGc,byN,t_ aGc (Ñ (amt (i8 (x:=oz) (y:=oz) (cx:=.č) (cy:=Ŋ) ą rfl (byQ [])) Dk))]
 | 0,_::_,_,h,_,_,_=>Fm
 | N+1,e::l,k+1,h,h9,hk,hr=>by
  rw[Ę ŀ h (am aGc)];have rl:blW:=fun p hp=>hr p (ť hp);have re:=hr e Α;have bQ5:Ą aBO<=N:=amq Ă;have r1:=blV aBO bQ5 Ă Ă fun p hp=>rl p (xm hp).1;have r2:=blV l Ă Ă Ă rl;have t0:fy (mO k (abv oz) 6 [d,acn])=Rg:=Ω (i8 (cx:=.č) (cy:=Ŋ) (x:=acn) (y:=oz) ą rfl (byQ (e::l)));have s1:mO k T6 6 [d,acn]=acl e:=uZ (x:=acn) (y:=ŭ) ą Ņ (by
   rw[blU h0 (acm l)];rfl)
  have s2:uV (fP abx [gz,ħ acn,aUe,.no,.no,.no]) DE:=apq (c:=.č) (c1:=.č) (ds:=acm l) (h:=1) ą Ņ;have cm:=bQ4 (F:=ţ) (δ:=aBN .no .no) (l:=l) (p:=kp f e) (it:=Ō) (cd:=blT) (fr:=uQ 0 2) (cl:=.č) rfl Đ Ă
   fun a ha=>⟨[ħ (qD a),gz,aUe],rfl,DH (aUd [(d,.č),UU e,UU a] (by
    rw[RY k' k' k];exact bQ2 (fu:=fu) (k:=k') L re.1 re.2 (rl a ha).1 (rl a ha).2)),sJ⟩
  have lt:∀l:aa,Ą aBM<=Ű:=fun l=>gh Ċ (aGw (kp f) _ l Ķ).length_le;have s3:uV (fP biE (aBN .no .no)) (acm aBL):=
   aGs (x:=[qD e]) (cx:=Ŋ) (cy:=Ŋ) rfl (Dw ą cm r1) (aJj (lt aBO) (fI MH))
  have s4:fP aSl (aBN (fq (acm aBL)) .no)=ā (nR aBM):=AA U0 r2;have t1:=bQ3 (F:=ţ) (δ:=aBN (fq (acm aBL)) (fq aBM)) (lK (aoq (n:=4) rfl)) (lK (aoq (n:=5) rfl));rw[Ċ,Ċ]at t1;rw[au (ĺ (Ñ (ve t0 (ÿ s1 (ÿ s2 (ŏ (Eg s3) (ŏ (Eg s4) UP)))))) byO) hle (Ą (aUc l)<=Ą (e::aBL))]
  ·rw[į hle,Ļ ud t1 (NF .top (apu (Ω t1) DG))]
  ·rw[Ř hle,Ļ ub t1 (NF .top (apv (Ω t1) DG))]
universe k85
namespace k85
open PySem L2
variable {fu k:Nat} {F:Nat->List DV->Option Ou} {δ:List Sv} {ds:List DV} {cl:Cl} {n m:Nat} {f:Nat->Nat->Int} {d:DV}
variable {rows:List (List Int)}
theorem a03(f:Au)(w:Int)(J:ė):∀I:ė,Ą (UY I)<=Tz*CZ
 | []=>bg aGx
 | r::I=>by have q:=a03 f w J I;show Ą (_++UY I)<=_;rw[Ÿ,Ċ,ŀ,MW,Hn];have:=Nt aUf J;omega
theorem bQ6(L:ab4)(e:r<n)(h:aAx)(b:CZ<=8)(a:Sv):uV (Ŀ aSm [gz,jR,Ap J,a,sM r]) (oF aUb):=by
 rw[ų];exact OZ rfl Đ (þ b) fun j g=>
  (abY [HQ,HQ,gz,HQ] (Ω (mV (apo L ą ą ą e (h j g)) ą)) rfl)
theorem byS(L:ab4)(l:aAx)(g:CZ<=8):∀(I:ė) (a:aa) (z:Sv),(∀i∈I,i<n)->ad+Tz*CZ<=900->∃e,Ð (UA 4 b F [.ext 3 aSm] (nD I) [gz,jR,Ap J,aBB,z]) [gz,jR,Ap J,fq (oF (a++UY I)),e]
 | [],a,z,_,_=>⟨z,gx (Y4 (UY []) []) aN⟩
 | r::I,a,z,o,p=>by rw[ŀ,MW,Hn]at p;have cl:=Nt aUf J;rw[đ e h (byS L l g I (a++aUb) _ (fun i q=>o i (ť q)) (nC Ÿ Ċ))];refine aD e;show vd _ _ (iJ::nD I) _=_;rw[OY rfl (ŏ (byA rfl (bQ6 L (o r Α) l g aBB) (by rw[Ċ,Ċ,Ċ];omega)) rfl),←Χ];rw[bK (UY (r::I)=_++UY I) rfl,←rq];exact h
def tell(rows:ď)(m:Nat)(w:Int):aa:=mA (kp aA3) blX
theorem byT:∀l:aa,BQ DE=true
 | []=>rfl
 | _::l=>byT l
theorem bQ7(R:Ü)(d:0<n)(n8:n<=8)(m8:m<=8)(o:xE)(h:xD)(w:Int):qC (lE 40 20 UT) (oF (tell rows m w)):=by
 have s:=aee R;have g:∀i∈bP,i<n:=fun i y=>aAF y R;have f:∀j∈xz,j<m:=fun j x=>aAF x s;rw[Ĕ u (As o h) L (bP4 R)];have B:=blK 34 d o h;have A:uV (mO (k+39) (abr 11) 5 UT) (nD xz):=(bl0 (aL 5 UT) 11 eC (a0C (k:=k+37) rows n m R d Ă Ă) s);have z:uV blY (nD bP):=(bl0 blZ 10 rows (bj6 38) R);have a:xx blY (nD bP):=Η z;rw[đ z' b (byS (F:=lE 39) (fu:=fu) (w:=w) (J:=xz) L f Ă bP [] .no g (Ä wP)),Ę QL b (Ĕ el (a03 aA3 w xz bP) v (byR (fu:=fu) L 25 blX (k+39) Ă Ă Ă fun p c=>⟨g _ (byP c).1,f _ (byP c).2.1⟩)),am bwz,eS (qA (aon (Uw ba B)) (ÿ A (ŏ aAM (aBD Ŋ a gw b bkv)))) (aX1 aUg v (byT _))]
universe k85
namespace k85
open PySem L2
theorem byU(h:ur ĭ):iP (ale e) (D' i):=by
 show(bgK Mt.ID .ID)=_;rw[jb,h];rfl
universe k85
namespace k85
open PySem L2
abbrev jS(r:Ď):rk.Rw:=fun j=>Dl
theorem a04(h:b->DV):∀(l:p9) (n:Nat),i7 n Ao=Ĥ aiA i (Ē [cn (n+i),(fg h).getD i .ę]):=by
 intro l;induction l with
 | nil=>intro n;rfl
 | cons a l c=>
  intro n;rw[ŀ,La,Ö,Ö,ų];show F6::i7 gB _=_;rw[ľ (Hk (c gB)) (aUh i)];show _=C5;rw[aTW n];rfl
theorem bQ8{G:Gs}(h:aF=È jN):bl2:=by
 rw[aBQ,bl1,aBP];rfl
theorem bQ9:∀{l:ė} {a:Nat} {r:ė},uU p=a::r->l.find? p=aR:=by
 intro l;induction l with
 | nil=>intro a r h;cases h
 | cons x l b=>
  intro a r h;rw[bl3];cases q:p x with
  | true=>rw[ŉ (K7 q)];rfl
  | ă=>rw[aAP q]at h;exact b h
theorem bRa{fu k:Nat}{r:Ď}(hl:Î Á)(h0:¬aco Á r):amu 51 [jN]=Υ (rV aUi):=by
 have c1:∀F:Ť,uV (aUk F biV [oH r]) (aBR aUj):=fun F=>
  OZ (h:=fun RV=>qt bl5) (f:=Nn) (p:=bl4) (bQ8 ą) Đ (Dr hl) fun i hi=>⟨[Nq,ļ (U1 i)],rfl,by
   rw[Ω (x:=kh (jS r i≠0)) (amg ?_)]at ⊢;show ā (!bF (U1 i) 0)=ā (kh (U1 i≠0));rw[decide_not],.č,sJ,rfl⟩
 rw[đ h1 h2 (rk.a0a h0)];have hm:aUi∈aUj:=tJ h1 (Ć aX h2);cases q:aUj with
 | nil=>rw[Ī q hm hm]
 | cons a t=>
  have e:aUi=a:=uL rk.ld (bQ9 q);rw[ľ (bR bwW) (Ñ (ž (NF (Cl.item Ŋ) (cU (c1 _) Ņ ?_)))),q,e];have:=ape (r:=Ĥ (a::t) aBC Ŭ) (j:=0) (nC Ċ ŀ);rw[jH iD this (awC ų)]
theorem byV(h1:KO 2000)(h2:auL<2^2000):auO=true:=by
 unfold xT;rw[Þ h1,Þ h2,aN2,aws]
def a05(w x:Ď):Ď:=Ĥ (Ο cK) j (bl6 j)
def aGA(K:ď)(x:Ď):Ď:=K.foldl (fun x w=>DI) x
theorem apw(w x:Ď):Ą DI=cK:=aj1 a05
theorem bRb:∀(x w:Ď),cK=amv->bl7=bl8:=by
 intro x;induction x with
 | nil=>intro w h;rfl
 | cons a x c=>
  intro w h;cases w with
  | nil=>cases h
  | cons b w=>
   rw[ŀ,La,Ö,ų];show C5::bl7=_;rw[c w (ays h)];rfl
def Bd(e:Nat)(x:Ď):Prop:=∀a∈x,a.natAbs<2^e
theorem Bd.at(h:Bd e x)(j:Nat):(U2 j).natAbs<2^e:=by
 rw[Ũ];cases q:x[j]? with
 | none=>exact acd e
 | some a=>exact h a (kJ q)
theorem bRc{d:Int}(i:a.natAbs<2^e)(h:b.natAbs<2^f)(g:c.natAbs<2^e)(hd:d.natAbs<2^f):(a*b - c*d).natAbs<2^(e+f+1):=by
 have h1:(a*b).natAbs<=2^(e+f):=(bl9 (As (Ba i) (Ba h)));have h2:(c*d).natAbs<2^(e+f):=(bl9 (Nat.mul_lt_mul'' g hd));have h3:=Int.natAbs_sub_le (a*b) (c*d);rw[Θ Ax]
theorem bRd(hw:Bd f w)(b:Bd e x):Bd (e+f+1) DI:=fun a c=>by
 rw[qy j c];exact bRc (b.at j) (hw.at _) (b.at _) (hw.at j)
universe k85
namespace k85
open PySem L2
def V5:ď->Ž Ď
 | [],_=>True
 | w::K,x=>(amw/\aUl/\aBS x/\aBS w)/\V5 K DI
theorem bRe{G:Gs}(h:aF=È ο):xC wj=ā (nR ds):=by
 rw[abI]
theorem bRf{G:Gs}(d:π a (dG x) .top)(c:B4=È (dG w))(h:cK=amv):bU (œ YQ)=ā (.ok bl8 .top):=by
 rw[Uu q YQ,q,d,aA,c,aA,iO (Ri.ok _ .top) (bRb x w h)]
abbrev aGB(l:DV)(K:ď)(x:Ď)(a b c:Sv):ē:=[ħ l,DJ K,Nw x,a,b,c]
def bRg:dZ:=biU
theorem bRh(g:Î cK)(h:amw/\aUl/\aBS x/\aBS w):∃s o,Ð (bme (aBT x b c)) (aBT DI s o):=by
 rw[Ĩ j f e d h,NO p a aUm p];have pl:=rk.a0a f;rw[a]at pl;have n:aUk amu (ł 51 [Ō]) (aBT x b c)=UE p:=by have:=bRa (fu:=fu) (k:=k) (r:=w) Ă f;rw[Ļ a this (AA al5 this)]
 have m:aUk amu bmd bmc=amx DI:=by
  have:=Ut F amu it (.zp ģ Ō) δ bmc l (Ο cK) elt bmb tg Dg (fr:=bma) (bRf DG ą j.symm) Đ (Dr g) (qz i hi [ļ (U2 i),ļ (w.getD i 0),oH w,qE p,ļ (U2 p)] (AO (aor ą (Uj ą (ape pl.1)) (byV (e.at i) (d.at p))) (aA1 (byV (e.at p) (d.at i)))));rw[this];unfold a05 iD;rw[a,ų];rfl
 rw[υ _ _ (ÿ n (ÿ (cU DG ą (ape Ă)) (ŏ (Eg m) rfl)))]
theorem byW{fu k:Nat}{l:DV}{K0:ď}:∀(K:ď) (x:Ď) (a b c:Sv),Î cK->V5 K x->∃a' b' c',Ð (vd (.one 3) (fun δ'=>bme δ') aUn (aGB l K0 x a b c)) (aGB l K0 amy a' b' c')
 | [],x,a,b,c,_,_=>bmf
 | w::K,x,a,b,c,hl,h=>by rw[Ŷ b1 c1 e (bRh (fu:=fu) (k:=k) (l:=l) (K:=K0) (b:=b) (c:=c) hl h.1) (Ĩ a' b' c' e' (byW K DI (oH w) b1 c1 (Ć apw hl) h.2)),FN a' b' c'];show vd (.one 3) _ (dG w::aUn) _=_;rw[Ĉ (OY (δ1:=aGB l K0 x (oH w) b c) rfl e) e']
theorem bRi{fu k:Nat}{K:ď}{x:Ď}(hl:Î cK)(h:V5 K x):run k85.G T fu lD 50 [sF x,rL K]=ā (aAy amy):=by
 rw[Ĩ a' b' c' e (byW (fu:=fu) (k:=k) (l:=sF x) (K0:=K) K x .no .no .no hl h),bR bwV,eS (Ñ (ŏ (Eg (bRe ą)) ?_)) (alP aUn rfl e aUo)]
universe k85
namespace k85
open PySem L2
theorem bRj(h:amw):jS DI=bl6:=by
 funext j;show jD DI j=rk.aZ9 _ _ j;by_cases q:j<cK
 ·rw[Ũ,nU a05 Â (Zx q)]
 ·have c:jD DI j=0:=gx Ũ (awk apw);have b:U2 j=0:=gx Ũ RW;have a:w.getD j 0=0:=gx Ũ RW;rw[c];show 0=U2 j*_ - _*w.getD j 0;rw[b,a,Int.zero_mul,Int.mul_zero];rfl
theorem aGC:∀(K:ď) (x:Ď),Ą amy=cK
 | [],x=>rfl
 | w::K,x=>by show Ą (aGA K _)=_;rw[aGC K,apw]
def kq(w:Ď):Nat×rk.Rw:=(aUm,jS w)
theorem byX:∀(K:ď) (x:Ď),(∀w∈K,amw)->jS amy=rk.rz (abh kq) (jS x)
 | [],x,_=>rfl
 | w::K,x,h=>by show jS (aGA K _)=rk.rz _ _;rw[byX K _ (l_ a b apw (h a (ť b))),bRj (h w dQ)];rfl
def ex(s:Nat):Nat:=5*2^s - 1
theorem bRk(s:Nat):ex s+ex s+1=ex (s+1):=by
 unfold ex;have:=acd s;rw[Θ Ax]
theorem byY(h:s<=8):ex s<=2000:=by
 unfold ex;have:2^s<=2^8:=sI h;have e:2^8=256:=ø;omega
theorem Bd.mono(h:Bd e x)(q:e<=f):Bd f x:=fun a b=>Dt (h a b) q
theorem IX:∀(K:ď) (s:Nat) (x:Ď),Bd (ex s) x->(∀i w,ŋ K w->amw/\aUl/\Bd (ex (s+i)) w)->s+MN<=8->V5 K x/\Bd (ex (s+MN)) amy
 | [],s,x,a,_,_=>⟨uc,a⟩
 | w::K,s,x,a,h,hs=>by
  rw[Ė k e b (h 0 w rfl)];rw[ŀ]at hs;have I:=IX K (s+1) _ (ŗ bRk (bRd b a)) (fun i c j=>by
   rw[gc (Ŷ g f d (h ö c j) apw) g f (Ć (aTW s) d)]) Ă
  refine aD ⟨⟨k,e,a.mono (byY Ă),b.mono (byY Ă)⟩,I.1⟩;have:=I.2;rw[ŀ,ź (s+_=s+1+MN)];exact this
def kl(rows:ď)(m:Nat):Nat->ag3 Ď
 | 0=>[]
 | n+1=>
  let y:=U3
  bmg y
def vv(rows:ď):Nat->rk.Rw:=fun i=>jS HN
structure Kl(rows:ď)(m n:Nat):Prop where
 len:aBV<=n
 ok:∀(i:Nat) q,ŋ DL q->q.2.length=m/\¬aco m q.2/\Bd (ex i) q.2
 eq:rk.kz aBU m n=Ĥ DL q (q.1,kq q.2)
theorem Kl.all(I:aUp):∀q∈DL,q.2.length=m:=fun q a=>by
 rw[Fe i b e (aiE a) (I.ok i q (ŷ Gn e)).1]
theorem a06(R:acp)(h:n<N):lz n∈rows/\Ą (lz n)=m:=by
 rw[alG n h];have:lz n∈rows:=cH Ũ rW (Cg a);rw[Į this (R.2 _ this)]
theorem Kl.red(R:acp)(l:Uz)(I:aUp)(j:n<N)(h8:N<=8):V5 acq (lz n)/\Bd (ex aBV) U3/\jS U3=rk.a0b aBU m n (aBU n):=by
 rw[đ r1 d (a06 R j)];have:=IX acq 0 _ (fun a k=>by
  have:=l _ r1 a k;show a.natAbs<2^4;have e:2^4=16:=ø;omega) (fun i w b=>by
   rw[Ę Â b (aJ q c rfl (eJ b) f h g (I.ok i q c)),d,p_,υ f (Ć f h) g]) (hZ Ċ (av ET))
 rw[Ċ,p_]at this;refine iM this.1 this.2;rw[byX _ _ fun w b=>by
  rw[bx q c b,Ĉ d (I.all q c)]]
 rw[iG rk.a0b I.eq ų ų];rfl
theorem aGD(rows:ď)(m n:Nat):U4=bmg U3:=rfl
theorem a07(R:acp)(d:Uz)(f:N<=8):∀n,n<=N->aUp
 | 0,_=>(cj Ķ (L8 q (by have g:ŋ ([]:ī _) q:=h;rw[Ī List.getElem?_nil g g])))
 | n+1,hn=>by
  have I:=a07 R d f n Ă;obtain⟨_,b,e⟩:=I.red R d Ă f;rw[au (tH c (a06 (n:=n) R Ă)) z (aco m U3)]
  ·rw[mj a (U4=DL) (ŷ aGD G6) (iM (hZ a (av ET)) (Ć a I.ok)),a,rk.a0c,į (ŗ e z)];exact I.eq
  ·rw[mj a (U4=DL++[(n,U3)]) (ŷ aGD SR) (iM (by rw[a,Ÿ,MH];rw[av ET]) (ġ i q h))]
   ·rw[a]at h;by_cases w:i<aBV
    ·rw[Ļ (Fz w) h (I.ok i q h)]
    ·rw[X1 Ă]at h;have j:i=aBV:=by
      refine Classical.byContradiction (fA ne);rw[awk MH]at h;cases h
     rw[gc (ş j (ŉ aTr)) (ŷ aGC c) z b]
   ·rw[a,rk.a0c,Ř (ŗ e z),Χ,I.eq,←e];show _++[_]=_++[(n,kq _)];rw[Ù kq aGC c]
universe k85
namespace k85
open PySem L2
theorem byZ:∀(y:Ď),BQ (iD y)=true
 | []=>rfl
 | a::y=>z_ (DV.IG _&&BQ (iD y)) true (byZ y)
theorem by0{b:Type}(f:ſ b):∀(l:p9),bmh=ā TF
 | []=>rfl
 | a::l=>z_ (lM (D9 _)) _ (by0 f l)
theorem bRl{F:Ť}{δ:ē}{α:Type}{f:aiG}{l:di}{e:ME}{c:Cl}(h:nV (.lst (iQ a (.bl qd)))):xC .any=oC (l.any f):=by
 show alQ (Gf [e]) (aEC l)=_;rw[NJ];show eK bmh bw (qm (.bl (bw.any id)))=_;rw[by0,iO (qm (.bl ((fg f).any id))) akx];rfl
theorem any_nil(hy:ky=m):y.any (aBX a a) = !kh aBW:=by
 rw[ol aBW]
 ·rw[Þ z];show _=ă;rw[aI5];intro a c;rw[Ė j b e (aiE c)];have:=z j Ă;have this:y.getD j 0=0:=this;rw[Ũ,Gn]at this;have:y[j]=0:=this;rw[e]at this;simp[this]
 ·rw[eM z];show _=true;rw[awB,đ h1 h2 (rk.a0a z),mj b (aUq m y<ky) Ě (iM y[rk.ld m _] (Cg b)),aX];have h2:y.getD _ 0≠0:=h2;rw[ph Ũ Gn h2 h2]
abbrev bS(rows:ď)(m n:Nat)(a b c:Sv):ē:=[eD,fq aBY,.own (rL acq),a,b,c]
def bB:dZ:=biT
theorem bRm(R:acp)(p:Uz)(s:N<=8)(i:Np)(o:n<N)(c:Sv):∃E,Ð (aZ bc bB (aB0 n c)) (aB0 gB E):=by
 have I:=a07 R p s n Ă;obtain⟨r1,_,_⟩:=I.red R p o s;rw[tH g (a06 R o)];have u:=ET;rw[NO y b U3 y];have j:ky=m:=by rw[←b,aGC,g]
 have C:NN 2 (ł 50 [ah,ģ]) (aB0 n c)=amx y:=(by rw[yB e (bRi (fu:=fu) (k:=k) (Ć g i) r1) b (aX1 aUg e (byZ y))]);have d:NN 2 bml (aB0 n (oH y))=oC (!kh aBW):=(by rw[←any_nil j];refine bRl (f:=aBX a a) (l:=y) (c:=Ŋ) (IY (h:=É) (cl:=.č) rfl Đ (NV j i) (qz a ζ [TB] (amg ?_)));show ā (!bF a 0)=ā (kh (a≠0));rw[decide_not]);refine⟨oH y,ÿ C ?_⟩;rw[ol aBW]
 ·rw[Þ z]at d;refine eB d ?_;have e:U4=DL:=by rw[aGD,b,G6]
  show _=Ε;rw[v_ bS e]
 ·rw[eM z]at d;have e:U4=DL++[(n,y)]:=by rw[aGD,b,SR]
  have B:nD (vA U4)=aBY++[atP]:=(bmk nD);have A:rL (nG U4)=.lst (bmj++[dG y]):=(bmk rL);have w:Ą aBY<Ū:=(JI nD Ċ Ċ bmi);have v:Ą bmj<Ū:=(cH Ċ Ċ bmi);refine DB d (ŏ (aoo (ds:=aBY) rfl ą rfl w) (ŏ (aoo (ds:=Ĥ acq r (HL r)) rfl ą rfl v) rfl)) ?_;show _=ā (wK (aBZ gB _ _ _));rw[nU bS B A]
theorem by1(R:acp)(g:Uz)(h:N<=8)(f:Np):∀n,n<=N->∃a b c,Ð (ack (uR [3,4]) d bc bB (wG uk i aUs) bmn) (aBZ n a b c)
 | 0,_=>aUr
 | n+1,hn=>bmm (by1 R g h f n Ă) l j (bRm R g h f (n:=n) Ă c) (ļ Æ) (ħ (HJ n))
theorem bRn(h:aF=al7):acr aUt ao i aUs:=by
 rw[aBQ,iO _ a04,aBP];rfl
def a08(rows:ď)(m:Nat):ė:=rk.bz aBU m ao
theorem bRo{fu k:Nat}{rows:ď}{N m:Nat}(R:acp)(h9:Uz)(h8:N<=8)(m8:Np):qC (jP 49 uT) (nD aB2):=by
 rw[kU a b c e (by1 (fu:=fu) (k:=k) R h9 h8 m8 N Ķ) I (a07 R h9 h8 N Ķ)];have eb:aB2=vA (aB1 N):=by unfold a08 rk.bz;rw[R.1,I.eq,ų];rfl
 rw[bR bwU,eb,q5 (qA aBp (ŏ aBp ?_)) (alP (wG (Ο N) i aUs) ?_ e aUo),AY (bRn (F:=bc) (δ:=bmn) (rows:=rows) (e:=ĉ) ą) R.1]
universe k85
namespace k85
open PySem L2
theorem bRp{fu k:Nat}{rows:ď}{n m:Nat}(R:Ü)(h9:HZ)(h8:n<=8)(m8:Np):aBh 4 48 (Ą aB2):=by
 rw[bR bwT];have e:=lK (F:=jP) (δ:=[eD]) (ii ND (bRo (fu:=fu) (k:=k) R h9 h8 m8));rw[bmo aB2]
universe k85
namespace k85
open PySem L2
theorem aej(i:Int):aB3 i = -i - 1:=by unfold aB3;omega
theorem by2(a b:Nat):XA Me NG=Ĵ aB4:=by
 unfold XA yx;rw[aej Me,aej NG,ub,ub];show aB3 (aB3 _)=_;rw[aej (-_ - 1),aej (-_ - 1),cP (aAU (-(-Me - 1))=a),cP (aAU (-(-NG - 1))=b),aej,aej];omega
theorem by3:∀(n a b:Nat),a<2^n->b<2^n->aB4=aB5+(a &&& b)
 | 0,a,b,d,c=>by
  have:a=0:=Mz Nat.pow_zero d;have:b=0:=Mz Nat.pow_zero c;subst a;subst b;rfl
 | n+1,a,b,d,c=>by
  have e:∀x:Nat,x=2*(x/2)+x%2:=fun x=>Ě;rw[e aB4,e aB5,e (a &&& b),Nat.or_div_two,Nat.xor_div_two,Nat.and_div_two,(by3 n (a/2) (b/2) (Mz Ax d) (Mz Ax c))];have m:aB4%2=aB5%2+(a &&& b)%2:=by
   rw[Ĕ h1 (Nat.or_mod_two_pow (a:=a) (b:=b) (n:=1)) h2 (Nat.xor_mod_two_pow (a:=a) (b:=b) (n:=1))];have f:=Nat.and_mod_two_pow (a:=a) (b:=b) (n:=1);rw[Nat.pow_one]at h1 h2 f;rw[h1,h2,f];rcases aTN a with p | p<;>rcases aTN b with q | q<;>rw[p,q]<;>rfl
  omega
theorem bRq(a b:Nat):afA Me NG=Ĵ aB5:=by
 rw[Ù afA by2 api];have:=by3 (a+b) a b bmp bmp;omega
abbrev K3:=Nat×rk.N2
def k3(q:K3):DV:=Ē [rV q.1,rV mz,rV BZ]
abbrev tS(l kd:DV)(p:rk.N2)(a b c:Sv):ē:=[ħ l,ħ kd,qE p.1,qE p.2,a,b,c]
def tB:dZ:=[bjb]
theorem bRr{q:K3}(hq:mz≠0):Ð (aZ F tB (amz b p)) (amz b (rk.st p q.2)):=by
 have f:D' (Ĵ mz)=mB U5:=(by rw[nU D' uy bkj]);have j:∀a:ē,ĳ a 5 aB7->Ŀ aUu a=Ç (Ĵ U5):=fun a h=>by have:=AO (byU U6) (aTo F (δ:=a) (i:=1));rw[aiD f (cP (mB U5 - 1=Ĵ U5))]
 have g:Ŀ (alk ģ aUu) (amz b p)=Ç bms:=vg ą (j _ rfl) (mv ((KR (0<=Ĵ U5) (alT (ć bms)))=_) (į (pu _)));have c:Ŀ _ _=oC aB6:=(by have:=mV (vg g Ņ (show adA Xz _ _ _ _=ā (qm (ć (rn aB6))) by rw[←aGo];rfl)) (aTo F (i:=1));rw[this];cases aB6<;>rfl);have d:Ŀ bmr (amz b (p.1 ^^^ mz,p.2))=UF (p.2 ^^^ BZ):=bmq;unfold rk.st;cases z:aB6 with
 | ă=>
  rw[Ļ z c (UC c)]
 | true=>
  rw[Ļ z c (DB c (ÿ (bmq) (ÿ d rfl)) rfl)]
theorem by4{F:Ť}{fu:Nat}{l kd:DV}:∀(K:ī K3) (p:rk.N2) (a b c:Sv),bmu->∃a' b' c',Ð (ack (uR [4,5,6]) δ' F tB amA (tS l kd p a b c)) (tS l kd (bmt p) a' b' c')
 | [],p,a,b,c,_=>bmf
 | q::K,p,a,b,c,h=>by
  rw[Ĩ a' b' c' e (by4 K (rk.st p q.2) (qE q.1) aB7 (qE BZ) (jq r hr)),FN a' b' c'];show vd _ _ (k3 q::amA) _=_;rw[Ĉ (OY (δ1:=amz kd p) rfl (bRr (h q dQ))) e]
theorem bRs{fu k:Nat}{K:ī K3}{x:Nat}(h:bmu):Ê ŕ 80 [rV x,.lst amA] (Ē (aUv (bmt (x,0)))):=by
 rw[Ĩ a' b' c' e (by4 (F:=ţ) (fu:=fu) (l:=rV x) (kd:=.lst amA) K (x,0) .no .no .no h),bR bxb,eS (abZ ą (ÿ Ds ?_)) (alP amA rfl e (ž (bC (vh U0 (aay (CU<=Ū)) rfl))))]
universe k85
namespace k85
open PySem L2
theorem a09(L:nW):∀n,∀q∈rk.kp L n,mz≠0
 | 0,q,h=>eV h (bg rk.kp)
 | n+1,q,h=>by
  rw[Ę amB h a_]
  ·exact a09 L n q h
  ·rw[fM z (BF h w)]
   ·exact a09 L n q w
   ·have:=aI w;rw[cA this z]
theorem a1a(L:nW):bmv
 | 0=>Ķ
 | n+1=>by
  rw[amB];have:=a1a L n;split
  ·omega
  ·rw[aJM]
abbrev LL(ls:ė):nW:=fun i=>acs i
abbrev kS(ls:ė)(n:Nat)(a b c:Sv):ē:=[Ap ls,fq aB8,a,b,c]
def kB:dZ:=[bja,bi9]
theorem bRt(o:n<64)(c:Sv):∃r,Ð (aZ ω kB (aUx n c)) (aUx gB r):=by
 rw[NO p f bmA p];have g:=bRs (fu:=fu) (k:=k) (K:=NW n) (x:=acs n) (a09 (LL ls) n);have g:Ê ŕ 80 [rV (acs n),.lst aB8] aB9:=by rw[g,iO (Ou.v (Ē (aUv bmA)) ă) f]
 rw[NO d hd bmw d];have h:gL ah d=È aB9:=ŗ hd sJ;have i:gL ģ d=UE n:=ŗ hd sJ;have j:gL (gJ 4) d=UE p.1:=NU;have b:gL (ach (gJ 4)) d=oC (!bF (Ĵ p.1) 0):=i8 j Ņ rfl;have l:gL (sx ģ) d=UF (1<<<n):=(by refine bmz Ņ i ù (rV n) 1 n ø;rw[cI,aUw,Nat.one_shiftLeft,bmy];rfl);rw[mj s (gL bmx d=UF (p.2 ||| 1<<<n)) (ŗ by2 (vg NU l rfl)) ⟨ħ aB9,ÿ (bFS aUg rfl g) ?_⟩];show aZ ω _ bmw=_;rw[ol (p.1=0)]
 ·rw[ľ (Ę ud b hd) (eB b ?_)];have e:NW gB=NW n:=by rw[amB,f,G6]
  rw[←hd,v_ kS e]
 ·rw[ub]at b;have e:NW gB=NW n++[aSe p]:=by rw[amB,f,SR]
  have m:Ą aB8<Ū:=(Ć Ċ (uK (a1a (LL ls) n) (GX o)));rw[ľ hd (DB b (ŏ (aoo (ds:=aB8) (oX hd) (vh (eG i j (jW s i9)) (aay ((3:Nat)<=Ū)) rfl) rfl m) rfl) ?_),←hd,nU kS e Χ]
theorem by5:∀n,n<=64->∃a b c,Ð (ack (uR [2,3]) d ω kB (wG uk i bmC) bmB) (kS ls n a b c)
 | 0,_=>aUr
 | n+1,hn=>bmm (by5 n Ă) g f (bRt (n:=n) Ă c) (qE n) (qE (acs n))
theorem bRu(h:aF=È (jO ls)):acr aUt U7 i bmC:=by
 rw[aBQ,iO (Ri.ok (i7 0 (ls.map (ű (É _)))) .č) a04,aBP];rfl
theorem bRv{fu k:Nat}{ls:ė}(hl:U7<=64):qC (bc 79 [jO ls]) ((NW U7).map k3):=by
 rw[Ĩ a b c e (by5 (fu:=fu) (k:=k) (ls:=ls) U7 hl),bR bxa,eS (Ñ (ŏ aBp ?_)) (aBD .č (bRu (δ:=bmB) ą) ŵ e aUo)]
theorem bRw(a:U7<=64):qC (jP 78 [jO ls]) bmD:=by
 rw[iZ];have b:=Aq bc [Ap ls] it (Ψ 79) h k3 elt ĉ tg (uR [0,1,2]) fr bi8 cl Ŋ (Η (ii ą (bRv a))) Đ (û (a1a _ _) (þ a)) fun q ζ=>Dq [qE q.1,aB7,qE BZ] sJ;have e:eK (NW U7) q (É (q.1:Nat))=bmD:=(alI nD rk.bs);rw[Ļ e b (sG b)]
universe k85
namespace k85
open PySem L2
def tw:Ď->Nat
 | []=>0
 | a::r=>(a%2).toNat+2*tw r
def aek(r:Ď)(o:Nat):Ď:=Ĥ aCa j (Dl%2*2^(o+j))
theorem bRx(a:Int)(r:Ď)(o:Nat):aek Zi o=(a%2*2^o)::aek r (o+1):=by
 unfold aek;rw[ŀ,La,Ö,ų];congr 1;refine aUh j;show jD Zi aG%2*2^_=Dl%2*2^_;rw[ź (o+aG=o+1+j)];rfl
theorem by6:∀(r:Ď) (o:Nat),(aek r o).sum=(tw r:Int)*2^o
 | [],o=>by show yw=0*2^o;rw[Int.zero_mul]
 | a::r,o=>by
  rw[bRx,C9,by6 r (o+1)];have h0:0<=a%2:=ab6 a Đ;have e:Ĵ (tw Zi)=a%2+2*(tw r:Int):=by show Ĵ ((a%2).toNat+2*tw r)=_;omega
  rw[e,Int.add_mul,Int.pow_succ,bmE,←Int.mul_assoc,bmE]
theorem bRy(h:nV jN):xC .sum=Ç r.sum:=by
 rw[HU];show abO sE=_;rw[apf];rfl
theorem bRz(h:aF=È Nm):bl2:=by
 rw[aBQ,bl1,aBP];rfl
theorem bRA(b:Á<=64):Ŀ (Nc aSC) aCb=UE (tw r):=by
 have a:=Ut F F δ aCb it (.sW ĉ) f (abS i (act*2^(0+i))) elt bmF tg Dg (fr:=abz) (bRz ą) Đ (Dr b) fun i d=>⟨aSY,.č,rfl,by
  have c:=ay d;have h0:0<=act:=ab6 _ Đ;rw[mj h1 (act<2) (ab5 _ Đ) (bmz aTs ą _ xF act i (GX (cP ((act).natAbs<2)))),cI,p_],rfl⟩
 have e:eK aCa RV (É (act*2^(0+i)))=iD (aek r 0):=(alI aek iD);rw[ς e a s (bRy a)];rw[by6,Int.pow_zero,Int.mul_one]at s;exact s
theorem bRB{fu k:Nat}{rows:ď}{n m:Nat}(R:Ü)(hn:n<=64)(hm:m<=64):alR 77 uT (No tw):=by
 rw[bR bw9];have c:=Aq ţ [eD] it ĉ l rows h (fun r=>qt sE) f bmG elt (Nc aSC) tg eF (fr:=H_) (cl:=.č) rfl Đ (NV R.1 hn) (qz r hr aCb (bRA (Ć (R.2 r hr) hm)));have e:No bmG=nD (No tw):=uL nD ų;rw[Ļ e c (sG c)]
def apx(rows:ď):ė:=rk.bs (LL (No tw)) ao
theorem bRC(R:Ü)(a:n<=64)(b:m<=64)(h:Uy e δ=al7):uV (Uy (ł 78 [ł 77 [e]]) δ) (nD (apx rows)):=by
 have:=bRw (fu:=fu) (k:=k) (ls:=No tw) (cH Ċ R.1 a);rw[Ļ Ċ this (AA (i4 (ii h (bRB R a b))) this)]
theorem bRD{fu k:Nat}{rows:ď}{n m:Nat}(R:Ü)(hn:n<=64)(hm:m<=64):aBh 4 76 (Ą (apx rows)):=by
 rw[bR bw8];have e:=lK (bRC (fu:=fu) (k:=k) (δ:=[eD]) (e:=ĉ) R hn hm ą);rw[bmo (apx rows)]
universe k85
namespace k85
open PySem L2
inductive Pn where
 | fin (w:Int) | ask (s:Bool) (c:Nat) (n y:Pn)
def Pn.D:Pn->DV
 | u3=>zi xn w
 | aCc=>Ē [ox,sd s,RE,n.D,y.D]
def Pn.deep:Pn->Nat
 | Dd=>0
 | abk n y=>1+max n.deep y.deep
def Pn.AW:Pn->Au
 | u3,_,_=>w
 | aCc,i,j=>NX (y.AW i j) (n.AW i j)
universe k85
namespace k85
open PySem L2
def bs:Nat->F4->Nat
 | 0,_=>0
 | n+1,q=>2^n*(rn (q n))+acu
theorem a1b(q:F4):∀n,acu<2^n
 | 0=>Nat.zero_lt_one
 | n+1=>by have:=a1b q n;show U8 q<2^gB;rw[Ax,BN]
theorem by7(q:F4)(i:Nat):∀n,aBG acu=(ü i n&&q i)
 | 0=>by show Nat.testBit 0 i=_;rw[aAQ,eM (bmH i)];rfl
 | n+1=>by
  show aBG (U8 q)=_;rw[Nat.testBit_two_pow_mul_add _ (a1b q n)];split
  ·rename_i h;rw[by7 q i n,Þ h,ud]
  ·rename_i h;by_cases e:i=n
   ·subst e;rw[aTr,Þ (ahY i)];cases q i<;>rfl
   ·rw[ub,RZ d hd d (i - n) d 1 1,hd];cases q n
    ·exact aAQ _
    ·show Nat.testBit 1 (d+1)=ă;exact alU (hZ Ax (av (acd d)))
theorem aGE:∀{n},(∀c,c<n->q c=a c)->acu=bs n a
 | 0,_=>rfl
 | n+1,h=>by show U8 q=U8 a;rw[h n Ă,aGE bmI]
theorem by8:∀{n},(∀c,c<n->q c=true->a c=ă)->acu+bs n a=bmJ
 | 0,_=>rfl
 | n+1,h=>by
  show(U8 q)+(U8 a)=2^n*(rn (q n||a n))+bmJ;rw[←(by8 bmI)];have:=h n Ă;cases d:q n<;>cases b:a n
  ·simp;
  ·rw[nX]
  ·rw[nX]
  ·rw[Ę d this (nN (this rfl))]
theorem by9:∀n,bs n awE=0
 | 0=>rfl
 | n+1=>by show 2^n*0+bs n _=0;rw[by9 n,Nat.mul_zero]
theorem bza(q:F4):∀n,(Ĥ (Nr q) c (Ĵ (2^c))).sum=(acu:Nat)
 | 0=>rfl
 | n+1=>by
  rw[RQ,amd,Χ,bk5,bza q n];show _=Ĵ (U8 q);cases e:q n
  ·simp[e]
  ·simp[e];omega
def kd(rows:ď)(c:Nat):Nat:=Dp (lz c)
def kx(rows:ď)(c:Nat):Nat:=(bP).idxOf (DM c)
section
variable {rows:List (List Int)} {i j n m h:Nat}
theorem bzb(a:An):DM i∈bP:=by
 unfold FI;have:=xy a;rw[ĺ (tJ (aGk this) ?_) (Ù kd (aGl this) ue)]
theorem O4(a:An):AB<cT:=ajo (bzb a)
theorem bzc(a:An):jD bP AB=DM i:=by
 rw[Ù kx Ũ (Õ (ajo (bzb a)))];exact aaa _
theorem bRE(rows:ď):o9 bP:=(aUa).nodup aUy
theorem bRF(hi:An)(a:t<cT):(DM i==jD bP t)=(AB==t):=by
 rw[Ũ,rW];show(DM i==_[t])=_;rw[aMW ř]
 ·rw[ir e (š kx (Ĉ e (bmK a)))]
 ·rw[ir e (eN e (aaa _).symm)]
def ks(rows:ď):ė:=Ĥ bP t (U9 acv)
theorem bRG(a:t<cT):aUz=U9 fun c=>amC c==t:=by
 rw[iG ks Ũ Â rW];show U9 _=_;refine aGE (Ĝ c b);have:=bRF b a;rw[aiD Ũ rW]
theorem bzd:∀(L:ė),L.Nodup->(∀t∈L,t<cT)->(oe t aUz).sum=U9 fun c=>L.contains (amC c)
 | [],_,_=>(by9 _).symm
 | t::L,d,b=>by
  have a:=Fu d;rw[Ö,C9,bzd L a.2 fun t f=>b t (ť f),bRG (b t Α),by8 (ġ c g e)]at ⊢
  ·rw[ĺ (aGE (Ĝ c g)) List.contains_cons]
  ·rw[Ę ř e e];cases q:L.contains t with
   | ă=>rfl
   | true=>rw[Ŗ (azC q) a.1]
def wd(rows:ď)(h:Nat):Nat:=(Ĥ (cs h) t aUz).sum
theorem bze(b:h<DC):aCd=U9 fun c=>At (amC c):=by
 rw[š wd (bzd (cs h) ((aUa).nodup aUy) fun t a=>O1 b a)];refine aGE ayl;rw[CM,ZK,Į O0 aeg]
theorem a1c(b:h<DC)(a:An):aBG aCd=At AB:=by
 rw[bze b,by7,Þ a,CK]
theorem bzf(a:h<DC):aCd<2^ao:=by
 rw[Ĉ (bze a) (a1b _ _)]
theorem bRH(f:h<DC)(g:0<h)(a:h<32):0<aCd:=by
 rw[gf (ň t b (alX (I_ h a g)) (Ĕ d (O1 f b) c (Cg d))) (bxN (j:=bP[t]) ?_) (a1c f (apg c))];have e:DM bP[t]=bP[t]:=bn (yh c);have:amC bP[t]=t:=o6 kx (Ĉ e (bmK d));rw[Ĉ this (O0 b)]
theorem bRI(h:Ü)(o:i<n)(f:j<m):aUA=NT:=by
 have a:An:=Ć h.1 o;have b:j<al6:=Ć tq f;rw[Ĕ e (O4 a) d (O4 b)];have p:aUA=UQ (jD bP AB) (jD xz amD):=(by unfold mf Wg sub;rw[Ũ (i:=AB),Â,Õ e];show jD (ay9 _ _) _=_;rw[Ũ,Â,Õ d,Ũ (i:=AB),Õ e,Ũ (l:=xz),Õ d];rfl);rw[p,bzc a,bzc b];have r1:lz (DM i)=lz i:=aGl (xy a);have g:aTw (kd eC j) []=aTw j []:=aGl (xy b);have k:kd eC j<m:=U' (aGk (xy b)) tq;rw[bx3 k,bx3 f]at g;have c:jD (Uk (kd eC j)) i=jD (Uk j) i:=Ń g;rw[bH col c];rw[Ũ,Ũ,Â,Â,rW]at c;rw[iG mf r1 (Ũ (l:=rows)) rW];exact c
universe E_
universe k85
namespace k85
open PySem L2
theorem bzg(h:nV jN):xC .sum=Ç r.sum:=by
 rw[HU];show abO sE=_;rw[apf];rfl
theorem bzh:∀(l:ď) (k:Nat),i7 k (fg g)=Ĥ aiA c (Ē [cn (k+c),g (l.getD c [])])
 | [],_=>rfl
 | a::l,k=>by
  rw[Ö,ŀ,La,Ö,ų];show _::i7 ŕ _=_;rw[ľ (Hk (bzh l ŕ)) (aUh c),bmL];rfl
theorem bRJ{fu k:Nat}(rows:ď)(h8:al8):alR 46 [aCe] amE:=by
 rw[am bwR];have s0:=alK ţ (xA aCe) ĉ rows ą (Ä aGn);rw[aGm,aGj]at s0;have w:xx (mO k (Nb gK) 1 [aCe]) (Ĥ bP (t:Nat) (É aAT)):=Η s0;have o:=Aq ţ (xA aCe) elt (Nc biS) tg eF it (Nb gK) fr uO l bP h (abS t aAT) (f:=fun t=>cn (U9 acv)) w Đ (û (aph rows) (þ h8)) (fun t ht=>Dq aUB ?_)
 ·have e2:(Ĥ bP t (al2 (U9 acv)))=nD amE:=alI nD ks;rw[Ļ e2 o (sG o)]
 ·have w2:acr (fP (.sW Ľ) aUB) ao c bmN:=by
   show ā (Ri.ok (i7 0 (iD Us)) .č)=_;unfold iD kI;rw[ų,bzh];congr 3;funext c;rw[p_];rfl
  have c1:=OZ (F:=ţ) (δ:=aUB) (l:=Ο ao) (h:=fun (c:Nat)=>bmN) (f:=fun c=>cn (2^c)) (p:=acv) (elt:=abA) (tg:=Dg) (cd:=abv ģ) (fr:=bmM) w2 Đ (Dr h8) (fun c hc=>abY [sM c,ļ (Ĵ (DM c)),AC] (Ω (bx4 ą ą)) (bxZ ą (bL (ay hc))));rw[jY e3 ((Ĥ (pd ao acv) c (al2 (2^c)))=iD (Ĥ (pd ao acv) c (Ĵ (2^c)))) (uL iD ų) e3 c1,AY (bzg c1) bza]
theorem bRK{i:Nat}(h:zh):Am (jO l) xF (cn (Q_ 0)):=by
 show Li (mT (Ą (nD l)) _)=_;rw[Ù nD Ċ (aGf h)];show(ay9 _ l)[i]? = _;rw[Â,Lb,Ũ,Lb];rfl
theorem bRL{h:Nat}(c:0<h)(a:h<32)(b:h<2^S.length):Ê lD 47 aUC (ć (Ĵ (bmO).sum)):=by
 rw[am bwS];have e:=Dz G G δ (NB aUC) f 8 (es:=gK) rfl (aBo h c Ă);have w:xx (mO ŕ (Ψ 8) 2 aUC) (aAX (cs h) t):=Η e;have o:=IY (F:=ω) (elt:=aAa ĉ) (tg:=eF) (fr:=Ai 1) (l:=cs h) w Đ (þ (aGr h a)) (qz t ht [AC,Ap S] (aAw ą (bRK (O1 b ht))));have d:(Ĥ (cs h) t (al2 (S.getD t 0)))=iD (Ĥ bmO aBC Ŭ):=by rw[nU iD ų ų]
 rw[Ę d o (kR (bzg o) aBn)];exact sG this
theorem bRM(r:Ď):e_ sE=true:=by
 induction r with
 | nil=>rfl
 | cons a r b=>exact b
theorem bzi(r:ė):e_ (nD r)=true:=by
 induction r with
 | nil=>rfl
 | cons a r b=>exact b
theorem bzj(rows:ď):(ba).jX=true:=by
 show UW=true;induction rows with
 | nil=>rfl
 | cons a r b=>
  show bW (e_ (iD a)) UW;rw[bRM,b];rfl
theorem aGF(L:Tb):(dC L).jX=true:=by
 show UW=true;induction L with
 | nil=>rfl
 | cons a r b=>exact b
theorem apy:∀p:Pn,p.D.jX=true
 | u3=>rfl
 | aCc=>by show bW (sd s).jX (n.D.jX&&(y.D.jX&&true));rw[apy n,apy y];cases s<;>rfl
abbrev own(m:Nat)(rows:ď):DV:=aUD [jO amE,jO (ks eC)]
abbrev bzk(J:Jt)(m:Nat)(rows:ď):Ħ:=[aBe,HX,tT DD,aCf]
theorem bzl(m:Nat)(rows:ď):(aCf).jX=true:=by
 show bW UW (UW&&true);rw[bzi,bzi];rfl
theorem bRN(m:Nat)(rows:ď):e_ aUE=true:=by
 show bW (dC _).jX (true&&((tT _).jX&&((aCf).jX&&true)));rw[aGF,bzj,bzl];rfl
def bzm:dZ:=Ρ i6 Yb Y3 none []
theorem bRO(h:Y5 bzm 10 amF=YW)(hd:CS):ω mU amF=k9:=by
 show(if 6=2+4/\UW=true then(match aZ _ bzm (aL 10 _)with
  | YW=>aR4
  | _=>none)else none)=_
 rw[į (cG (bRN m rows)),h];exact acj
theorem bRP{cs:Ħ}(c:F' aUF=KZ)(e:pV)(a:y9)(b:Ű=2)(h:aK8=k9)(hd:CS):œ (aSt es)=hY:=by
 show(if 2=2/\4=4 then Ź (F' aUF) cs (rM _ (Rl 2)) else none)=_;rw[į qQ,c,e];show Rl 2=_;rw[bmP];exact acj
theorem bRQ{cs:Ħ}{ks:Ď}(g:pQ=ā (nR ds))(f:MB)(c:B3 (amo N np b cs) ds=ā ks)(e:KY=aV)(hd:uB ds):œ (aLg b)=hY:=by
 show aEQ G F _ N np b _=_;rw[f,g];show(Ź (B3 _ ds) ks bmR)=_;rw[c];show bmR=_;rw[e];show bmQ=_;rw[hd];rfl
theorem bRR{ks:Ď}(h:ks≠[]):∃i,KY=aV/\i<jy/\Ly ks (BW i 0):=by
 cases f:ks with
 | nil=>rw[Ŗ f h]
 | cons m r=>
  rw[Ė v u p (a0L r m)];have l:=v.elim (fun e=>Z' e) fun e=>ť e;have c:=fun x k=>(W' k).elim (fun e=>Ć e u) (p x);rw[←f]at l c ⊢;generalize uj m=z at l c;have d:=ajo l;have n:BW aUG 0=z:=cH Ũ (Õ d) (aaa d);have w:∀j,j<jy->YD∈ks:=fun j b=>cH Ũ Gn (Cg b);have ok:(a7W aUG)=true:=by
   rw[wQ];intro j b;have b:=B5;rw[ĥ,pL,aX,aX,aX,n];have a:=c _ (w j b);refine aD a;rw[Za (Ll j aUG)]
   ·refine ķ (Int.lt_iff_le_and_ne.mpr ⟨a,fA e⟩);have:=ba6 q;rw[Ũ,Gn]at e;have y:z=ks[j]:=e;rw[←y,ue]at this;cases this
   ·rw[ŝ q]
  cases g:KY with
  | none=>
   rw[bH aEO g];have:=bix g _ (zx d);rw[Ŗ ok this]
  | some i=>
   rw[bH aEO g];have o:=axX g;rw[wQ]at o;refine⟨i,rfl,(ay (axY g)),Ĝ x k⟩;rw[Ė j b rfl (List.mem_iff_getElem.mp k)];have:=o j (zx b);rw[ĥ,aX]at this;have e:=this.1;rw[ph (Ũ (i:=j)) Gn e e]
theorem keys_map{F:Ť}{m:DV}{α:Type}{h:α->DV}{g:α->Int}:Do di a (yZ [m,h a]=Υ (ć KA)) (B3 m Ao=ā (fg g))
 | [],_=>rfl
 | a::l,q=>by
  show(match yZ [m,h a]with
   | Υ eX=>(B3 m Ao).map (k :: ·)
   | _=>none)=_
  rw[q a Α,keys_map fun b hb=>q b (ť hb)];rfl
universe k85
namespace k85
open PySem L2
theorem bRS{r c:Nat}(b:π u (dC L) cx)(h:π e (Ē (dg r c)) cy)(a:aTm=ā z):iP aCg z:=by
 rw[Uu d aCg,d,b,aA,h,aA,bkA];rfl
universe k85
namespace k85
open PySem L2
variable {fu k:Nat} {F:Nat->List DV->Option Ou} {δ:List Sv} {ds:List DV} {cl:Cl} {n m R C:Nat} {rows:List (List Int)}
theorem bRT(b:œ u=È (aUD [d,a]))(h:π e (sd s) cy):rQ aCg (İ s d a):=by
 rw[Uu c aCg,c,b,aA,h,aA];cases s
 ·show bmS xu=_;rw[MZ,jb];rfl
 ·show bmS lN=_;rw[jb];rfl
theorem bRU(h:sh gz)(hd:CS)(b:F' r=aR):F' (i::r)=ā (d::a):=by
 show(match Τ,F' r with
  | au3,aR=>ō FW (d::a)
  | _,_=>none)=_
 rw[h,b];exact acj
theorem a1d(h:al9):(∃g,Sb g R/\w=(sd true,g,(R - g,C),(g,C)))\/∃g,Sb g C/\w=(sd ă,g,(R,C - g),(R,g)):=by
 rw[bkM]
 ·rw[aA6,ŝ bmT]
 ·rw[aA6,Í bmT]
theorem bRV:∀R,R<32->∀g,g<32->0<g/\g<R/\g &&& R=g->Ą (cs g)+Ą (cs (R - g))=HV:=ĸ
def Pn.ok(n m:Nat):Ž Pn
 | u3=>abl w
 | oI=>0<c/\c<2^(İ s n m)/\a.ok n m/\b.ok n m
def Pn.val(J:Jt):Pn->Nat
 | Dd=>J.g
 | abk n y=>J.j (n.val J) (y.val J)
structure bRW(J:Jt)(n m:Nat)(rows:ď)(R C:Nat)(p:Pn):Prop where
 val:p.val J=V J UN R C
 AX:mQ+2<=HV+Ą UG
 ok:acw
 to:∀i j,i<n->j<m->R.testBit AB=true->aAR amD=true->qF=NT
theorem bRX(l:HY)(rc:aAq a)(h1:amH a)(h2:acx m a)(f:0<R)(hR:R<2^Ą (FI a))(h:0<C)(hC:C<2^Ą (FI (amG a)))(hw:al9)(j:fK=3) :
  Ê Uv xU [amo N 1 aSu [HX,aUH],wD w] (cn (wv J aUI w)):=by
 have b:∀r c,0<r->r<=R->0<c->c<=C->aUJ NI=Ε:=fun r c i r1 o c1=>by rw[Ù ft a0R (į (aGt.mpr (ı ⟨i,aca,o,aca⟩)))]
 have d:aUJ xG=ā (V J aUI UK xG.2)/\aUJ TX=ā (V J aUI UJ UI):=by
  rw[as3 (a1d hw) g s rfl g]
  ·rw[nh ab9 (aCh Ă h) (aCh s.1 h)]
  ·rw[nh ab9 (aCh f Ă) (aCh f s.1)]
 have nl:(wD w).jX=true:=(by rcases a1d hw with⟨g,s,rfl⟩ | ⟨g,s,rfl⟩<;>rfl);have e:∀F,Ŀ ĉ (([wD w]++[HX,aUH]).map abe)=Ε:=fun F=>sJ;refine byB ⟨rfl,j.symm,?_,?_⟩ (bxY l rfl (Β (bmU d.1) (bmU d.2))) rfl
 ·show bW (wD w).jX true;rw[nl];rfl
 ·show bW true ((aUH).jX&&true);rw[aGF];rfl
theorem bzn{J:Jt}(hJ:HY)(rc:Ü)(w9:HZ)(n0:0<n)(m0:0<m)(n8:n<=8)(m8:m<=8)(h1:xE)(h2:xD) :
  ∀(N R C:Nat),HV+Ą UG<=N->0<R->R<DC->0<C->C<2^lA->∃p,bRW J n m rows R C p/\∀k,acy mU amF=acB
 | 0,R,C,hN,R0,hR,C0,hC=>bL (I_ R (tI hR (mY h1)) R0)
 | N+1,R,C,hN,R0,hR,C0,hC=>by
  rw[fj (Ĕ pa (mY h1) pb (mY h2)) r1 (I_ R Ă R0) bWh (I_ C Ă C0),Ĕ aGG aTD a1e (a0S rc w9)];have a0:0<cT:=IZ (Ć rc.1 n0);have ih:=bzn hJ rc w9 n0 m0 n8 m8 h1 h2 N
  let D0:ē:=aL 10 amF
  let f:=UN
  rw[bkC DD hr bRY hx hi (Um hx) aGG a1e hR hC hj,NO ws aGH (abW f) ws];have bzo:qB=Ci:=oX aGH
  let D1:ē:=D0.set 6 (Ap ws)
  have pre:∀k,Ð (aE0 G acy fu aSw D0) D1/\acA (k+N+6) (aSv ly) D1=oC (qB==1):=fun k=>by
   let F:=acy
   rw[Ĕ c1 (HW F D0 5 aUM [(tT DD,.č),ik R,ik C] (bxJ (fu:=fu) (k:=k+N+3) DD _ _ R C aGG a0 Ă Ă R0 hR C0 hC)) c2 (uY F D0 f 15 (es:=[ł 5 aUM]) (jW c1 i9) rfl (bxI (fu:=fu) (k:=k+N+5) _ _ _ rs (aAZ R) (aAZ C) bRY))];rw[bxV]at c2;rw[mv (abW UN=ws) aGH]at c2;have aGI:Ð (Rx aSw D0) D1:=AN c2 rfl;have l1:=aUL F D1 ly (nD ws) ą;rw[bH nD l1];rw[Ċ,←bzo]at l1;have t1:=bx4 l1 jQ;rw[Į aGI t1]
  by_cases apz:qB=1
  ·rw[đ w rfl (List.length_eq_one_iff.mp (bzo.symm.trans apz))];refine⟨u3,⟨gh (a0O _ Ă) (į apz).symm,yK (0+2<=_),?_,bm9⟩,fun k=>bm6⟩
   ·have:w∈abW f:=Ć aGH (azQ rfl);have:=aAD this;rw[Į Ě Ě]
   ·rw[Ĕ e (bRI rc hi hj) b9 (aGq aGG a1e (O4 (rows:=rows) (i:=i) (Ć rc.1 hi)) (O4 (rows:=eC) (i:=j) (Ć tq hj))),jY hx ((aUA).toNat∈abW f) (tJ Ă (apk.mpr ⟨_,_,aeg aGJ,aeg aGK,yK (mf _ _ _=_)⟩)) aGH hx];have:=aI hx;rw[←e];show alL=_;omega
   ·rw[bm7];rw[show ju qB 1 by rw[apz];rfl]at t1;have x0:amI (gJ 6) D1 w:=Va (bQ 6 (jO [w]));exact ŏ aGI (Nl (Ω t1) (vh (Β (be (x:="end")) x0) (ab7 2) rfl))
  ·have hp:0<qB:=bxW aGG a1e h1 h2 R0 hR C0 hC;have bRZ:=byh (f:=f) (R:=R) (C:=C) Ă Ă R0 C0 Ă;have cp:xV D1 [3,2]=ā [HX,aBe]:=acz rfl (acz (aGF _) rfl);rw[Ĩ i hi apA bzp (bRR (ks:=Ĥ DA w aCi) (fun z=>bRZ (acb z)))];rw[Ċ]at apA;obtain⟨w,hw⟩:∃w,ŋ DA w:=⟨_,Õ apA⟩;have bzq:=kJ hw;rw[jY gi (jD (Ĥ DA w aCi) i=aCi) (zW Ũ Â hw) gi bzp];have hV:wv J f w=aA7:=by
    rw[a0O f Ă,gf (š Wh (Ř apz)) (bx9 (nL (cj w bzq)) (Ĝ x hx)) (bx w' bR0 hx)];have:=bzp _ (nL (cj w' bR0));exact Int.ofNat_le.mp this
   let D2:ē:=D1.set 7 (ħ (wD w))
   let D3:ē:=D2.set 8 (ħ (GY xG))
   let D4:ē:=D3.set 9 (ħ (GY TX))
   have bR1:xV D4 aUF=ā aUE:=bm8;have fin:∀(k:Nat) (s:Bool) (g c:Nat) (pn py:Pn),w.1=sd s->w.2.1=g->Ê (k+N+6) 47 [ak g,if s then jO amE else jO (ks eC)] uX ->
     acy mU (aUK UK xG.2)=Υ pn.D->acy mU (aUK UJ UI)=Υ py.D->H9 (k+(N+1)+6) mU amF=Υ (Pn.ask s c pn py).D:=fun k s g c pn py e1 e2 e3 e4 e5=>by
    rw[bm7];rw[mv (k6 qB 1) (bE apz)]at t1;rw[Ĕ sp (HW F D1 40 ali [ik R,ik C] (bxP (fu:=fu) (k:=k+N+4) (R:=R) (C:=C) Ă Ă)) hk (keys_map (F:=F) (m:=amo [Jj,Pf,Ey] 1 aSu [HX,aBe]) (h:=wD) (g:=fun w=>aCi) (l:=DA) (fun w hw=>bRX (k:=k+N+3) hJ rc h1 h2 R0 hR C0 hC hw rfl))];have mk:=bRQ sp cp hk hi (gx Â hw);refine bm6;have v7:Ŀ Dj D4=È (wD w):=sJ;have x0:Ŀ (gJ 7) D4=È (sd s):=U_ v7 (oX e1);have x1:amI (jM 7) D4 g:=U_ v7 (oX e2);rw[Ĕ x2 (uY F D4 f 47 (es:=[jM 7,biR]) (Β x1 (bRT (s:=s) (u:=cR) ą x0)) rfl e3) y3 (bm5 8 UK xG e4)];have y4:=bm5 9 UJ TX e5;exact ŏ aGI (eB t1 (ÿ mk (bm4 D2 (bm4 D3 (ž (bC (vh (eG (be (x:=Ew)) x0 (eG x2 y3 (jW y4 i9))) (ab7 5) rfl)))))))
   rw[as3 (a1d bzq) g s rfl g]
   ·rw[bm3,bm2 R,aJ pn apB en (ih (R - g) C Ă Ă Ă C0 hC) py apC ey (ih g C Ă s1 Ă C0 hC),mj Wj (g<DC) Ě (bm1 true rows (MK (_<2^n) (qc rc.1 (bzf Wj))) _ k)]
    ·rw[bm0];rfl
    ·rw[Θ bmZ]
    ·have apA:An:=Ć rc.1 hi;have k5:AB<5:=tI (O4 apA) h1;rw[bmY R rows i,a1c Wj apA];cases e:g.testBit AB with
     | true=>exact bmX e aGK
     | ă=>exact bmW (zW bits aGJ e) aGK
    ·exact bmV
   ·rw[bm3,bm2 C,aJ pn apB en (ih R (C - g) Ă R0 hR Ă Ă) py apC ey (ih R g Ă R0 hR s1 Ă),mj Wj (g<2^lA) Ě (bm1 ă eC (U' (bzf Wj) tq) _ k)]
    ·rw[bm0];rfl
    ·rw[Θ bmZ]
    ·have aF6:j<al6:=Ć tq hj;have k5:amD<5:=tI (O4 aF6) h2;rw[bmY C eC j,a1c Wj aF6];cases e:g.testBit amD with
     | true=>exact bmX aGJ e
     | ă=>exact bmW aGJ (zW bits aGK e)
    ·exact bmV
universe k85
namespace k85
open PySem L2
variable {fu k:Nat} {F:Nat->List DV->Option Ou} {δ:List Sv} {ds:List DV} {cl:Cl} {n m:Nat} {rows:List (List Int)}
theorem bR2(h:π a d c)(g:π b e f)(j:F8=true)(i:f6 e f=true):rQ (.aEu lN xu a b) (aUD [d,e]):=by
 rw[ff,h,aA,g,aA];exact į ⟨j,i,ø⟩
theorem bR3{cs:Ħ}(c:ĳ δ 5 .no)(e:F' az9=KZ)(f:pV)(a:y9)(b:Ű=2)(h:aK8=k9)(hd:CS):fQ (.aEy 5 az9 es)=YW:=by
 show aXW G F _ _ _ δ[5]? = _;rw[f,e,c];show(Rl 2).bind (fun r=>match r with
   | dt _=>Ε)=_
 rw[bmP];show((ō FW Lg):Ĺ).bind _=_;rw[acj];rfl
structure bzr(J:Jt)(n m:Nat)(rows:ď)(p:Pn):Prop where
 val:p.val J=aBg J
 AX:AD
 ok:acw
 to:bna
theorem bR4(a:Ü)(z:HZ)(g:0<n)(E:0<m)(B:n<=8)(C:m<=8)(s:xE)(h:xD):∃p,bzr jB n m rows p/\∀k,lE 18 44 uT=acB:=by
 rw[Ĕ pa (mY s) pb (mY h)];have K:0<cT:=IZ (Ć a.1 g);have S:0<lA:=IZ (Ć tq E);have q1:2<=DC:=aBf K;have q2:2<=2^lA:=aBf S;rw[ab (Ĕ l1 (aGr NL Ă) l2 (aGr ace Ă)) p ok e (bzn (J:=jB) (fu:=fu) ŵ a z g E B C s h 10 NL ace Ă Ă Ă Ă Ă)];refine⟨p,⟨ok.val,bL ok.AX,ok.ok,fun i j I H=>ok.to i j I H ?_ ?_⟩,fA k⟩
 ·rw[bnc,Þ (O4 (Ć a.1 I))]
 ·rw[bnc,Þ (O4 (Ć tq H))]
 rw[Ĕ c aTD en (byj (J:=jB) (fu:=fu) (k:=k+10) ŵ rows n m a z g Ă Ă s h)];have u:lE 17 45 [ba,dC (UO jB),aCj]=acB:=by
  rw[am bwQ]
  let F:=lE 16
  let L:ē:=aL 6 [ba,dC (UO jB),aCj]
  have R:=aCk F L 12 (bj8 (k+13) a g Ă Ă)
  let b:ē:=L.set 3 (ħ (tT DD))
  rw[fj (Ĕ O (aCk F b 10 (aGi (fu:=fu) (k:=k+15) rows (Ä a.1))) N (aCk F b 11 (a0C (fu:=fu) (k:=k+14) rows n m a g Ă Ă))) s1 (bnb O rows a.1 B) M (bnb N eC tq C)];have o:=bR2 s1 M rfl rfl
  let w:ē:=b.set 4 (ħ aCf)
  have Q:xV w az9=ā (bzk jB m rows):=bm8;have A:Ŀ Ō w=È (tT DD):=sJ;rw[Ĕ y (a0G Ă (bQb c A)) x (a0G Ă (bQc c K A))];rw[cP (Ĵ DC - 1=Ĵ NL)]at y;rw[cP (Ĵ (2^lA) - 1=Ĵ ace)]at x;exact abZ R (mP δ b o (ž (bR3 (δ:=w) rfl Q (Β y x) rfl rfl (e k) (apy _))))
 rw[bR bwP];have v:=aCk (lE 17) abN 35 ((Ć iZ (sG (Ar en))));have P:mO (k+17) (.oS x5) 1 uT=È aCj:=rfl;have r:=bC (fu:=fu) (Dv aTM v (jW P i9) u);rw[show VZ p.D _=ă by cases p<;>rfl]at r;exact Ñ (ž r)
universe k85
namespace k85
open PySem L2
theorem bR5:lF xn ox=nz:=ĸ
theorem bR6:lF ox ox=dX:=ĸ
theorem p0{p:Pn}(h:π e p.D .č):ams ŭ (.str (Ρ p Dd "end" (abk _ _) Ew)):=cU h Ņ (ql p)
theorem p1(h:aCl):ams ù (sd s):=NU
theorem p2(h:aCl):ams dL (ak x):=NU
theorem p3(h:aCl):π (.ix e iY) p.D .č:=NU
theorem p4(h:aCl):π (.ix e xw) q.D .č:=NU
universe k85
namespace k85
open PySem L2
variable {fu k:Nat} {F:Nat->List DV->Option Ou} {δ:List Sv} {ds:List DV} {cl:Cl} {N M:Nat} {R:List (List Int)}
theorem bR7(a b:Nat):jV (ak a) (ak b)=WL:=by
 rw[iG jV CM ř ř];omega
theorem bR8{l:ė}(h:r∈l)(a:Î Ű):IK (.lst (fg Nn)) (ak r)=ā (rV (Q6 r)):=by
 rw[O_ IK];rw[bxs,aGh fun d hd=>by rw[qy j hd];exact bxs 60 _,bjW,a0z bR7 r h];rfl
def dR(σ:ď)(r:Ď):ď:=İ (r∈σ) σ (σ++[r])
def ael(rows:ď):ď:=rows.foldl dR []
theorem bzs{b:Type}[BEq b][Uo b]{r:b}:∀{p q:p9},r∉p->(p++r::q).idxOf r=wm
 | [],q,_=>Ğ
 | a::p,q,h=>by
  have e:¬a=r:=fun z=>h (z▸Α);have d:=fun z=>h Md;have c:k6 a r:=Ł e;rw[Kz,alC,c,bzs d];rfl
theorem bzt{b:Type}[BEq b][Uo b]{r:b}:∀{p q:p9},r∈p->(p++q).idxOf r<wm
 | a::p,q,h=>by
  rw[Kz,alC,ol (a=r)]
  ·have c:ju a r:=Ł z;rw[Ĉ c (Nat.succ_pos _)]
  ·have c:k6 a r:=Ł z;rw[c];have:r∈p:=by
    rw[Fk h]
    ·rw[Ŗ e.symm z]
    ·exact e
   exact aOf (bzt this)
inductive aem:Ž Ď
 | nil:aem []
 | snoc {l:Ď} {x:Int}:aem l->(∀y∈l,y<x)->aem (l++[x])
theorem bzu(rows:ď):∀(q p:ď),p++q=rows ->
  Zm (p.map fun r=>Ur)=aUN->(alJ Vb p)->aem aUN->Ą Vb<=wm->o9 Vb ->
  (aUO=aCm/\(alJ NY rows)/\aem aCm/\Ą NY<=ao/\o9 NY)
 | [],p,e,j,f,i,m,h=>by rw[Ę aN e (eN e ⟨j,f,i,m,h⟩)]
 | r::q,p,e,j,f,i,m,h=>by
  have lt:∀x∈p,Dp x<wm:=fun x k=>ŗ e (bzt k);by_cases g:r∈p
  ·have hd:=(f r).mpr g;have c:bnf=Vb:=(Ć ah4 acj);refine bnd (Ć c i) (nC c Ÿ) (Ć c h)
   ·rw[Χ,ah4,j,c];show dk _ _=_;rw[š dk (į (nL (cj r hd)))]
   ·intro x;rw[c,f x,C4,oh,Į .inl (fun z=>z.elim id fun z=>z▸g)]
  ·have hd:r∉Vb:=fun z=>g ((f r).mp z);have o:Dp r=wm:=ŗ e (bzs g);have c:bnf=Vb++[r]:=(Ć ah4 (Ř hd));have d:∀y∈aUN,y<Ur:=fun y n=>by rw[bx x k n];have:=lt x ((f x).mp k);rw[Θ o]
   refine bnd (cH c Χ (.snoc i d)) (by rw[c,Ÿ,Ÿ,Θ (fI MH)]) ?_
   ·rw[Χ,ah4,j,c,Χ];show dk _ _=_;rw[š dk (z9 (Int.lt_irrefl _ (d _ z)))];rfl
   ·intro x;rw[c,C4,C4,f x]
   ·rw[ľ c (List.nodup_append.mpr (iM h Ğ))];intro a s b l;rw[Ę oh l (cA l (fun z=>hd (z▸s)))]
theorem bzv(a:x<z\/¬x<z):Do Ď y (y<z) (x<z->KP (l++[z])=SW++[z])
 | [],_,h=>XY (KP [z]) (v_ insI Br)
 | y::r,c,h=>by
  rw[Kz];unfold insI;by_cases q:x<y
  ·rw[pw q q];rfl
  ·rw[Bs,Bs,bzv a (fun y b=>c y (ť b)) h];rfl
theorem bzw:Do Ď y (y<z) (k8 (l++[z])=Mr++[z]/\∀y∈Mr,y<z)
 | [],_=>cG (fun y b=>eZ b)
 | x::r,h=>by
  rw[đ g d (bzw (l:=r) (jq y b))];have c:=uq x;refine aD ?_
  ·show KP (k8 (r++[z]))=KP _++[z];rw[Ĉ g (bzv (ı c) d c)]
  ·have ins:∀{l:Ď} {y:Int},y∈SW->y=x\/y∈l:=by
    intro l;induction l with
    | nil=>intro y b;rw[ŝ (aI b)]
    | cons a l f=>
     intro y b;rw[ax insI b]
     ·rw[Fk b]
      ·rw[ŝ e]
      ·rw[Í e]
     ·rw[Fk b]
      ·rw[Í (e▸Α)]
      ·rcases f e with e | e
       ·rw[ŝ e]
       ·rw[Í (ť e)]
   intro y b;rcases ins (show y∈KP (k8 r)from b)with e | e
   ·rw[Ĉ e c]
   ·exact d y e
theorem bR9(h:aem l):Mr=l:=by
 induction h with
 | nil=>rfl
 | snoc h b a=>rw[(bzw b).1,a]
theorem a1f(rows:ď):k8 aUO=aCm/\aUO=aCm/\(alJ NY rows)/\Ą NY<=ao/\o9 NY:=by
 rw[ĩ a e d c b (bzu rows rows [] rfl rfl (fun x=>Ğ) .nil Ķ aaR)];exact⟨Ć a (bR9 d),a,e,c,b⟩
theorem bSa[BEq c][Uo c]{l:LG}(e:a∈l)(d:CP)(h:Q6 a=Q6 b):a=b:=by
 rw[←(bng e),←(bng d),fI h]
theorem idx_map{b c:Type}[BEq b][Uo b][BEq c][Uo c]{g:b->c}{r:b}:Do p9 s (g s=g r->s=r) ((fg g).idxOf (g r)=Q6 r)
 | [],_=>rfl
 | a::l,h=>by
  rw[Ö,alC,alC,idx_map (jq s hs),ol (a=r)]
  ·subst z;simp
  ·have d:=fun q=>z (uq a q);have f:k6 KA (g r):=Ł d;have e:k6 a r:=Ł z;rw[f,e]
theorem bzx(n:Nat):∀l,Ą alV=l
 | 0=>rfl
 | l+1=>by show Ą alV+1=_;rw[bzx n l]
theorem bSb(g:pQ=È ĭ)(f:B4=È aj)(e:œ c=Ç (-1))(m : -1000<=i)(l:Î i)(k : -1000<=j)(h:Î j):xx (œ (.fw QY)) auW:=by
 show bU zg=_;rw[eG g f aUP,aom];have s1:oT i=true:=by rw[fR oT (aAV m l)]
 have d:oT j=true:=(by rw[fR oT (aAV k h)]);rw[abH (KR (aKZ aly (-1:Int)) auW) n (nR n),s1,d,(Þ (aAW (ź (J_<=2000)) Đ))];rfl
theorem bSc(l:Nat):Eb amJ (l+1)=Rq::aUQ:=by
 unfold Eb;rw[La,Ö,ų,cP (amJ - _=l),aTX a,avT,aLE]
theorem bzy(n:Nat)(f:DV->DV)(a:∀j:Nat,f aj=cn (n/2^j%2)):∀l:Nat,(aUQ).map f=iD alV
 | 0=>rfl
 | l+1=>by rw[cP ((_:Int) - 1=amJ),bSc,Ö,bzy n f a l,a];rfl
theorem bSd{l:Nat}(h:d∈aUQ):∃j:Nat,j<l/\d=aj:=by
 rw[on Eb (bx a b h)];have:=B5;rw[υ (l - 1 - a) Ě a7E]
theorem bSe(n l:Nat)(a:l<=100):ω 19 (dg n l)=ā (aAy alV):=by
 rw[am bwy];have w:=bSb (F:=ţ) (δ:=NB (dg n l)) (b:=abw) (c:=abw) (AO (xI 1 l) jQ) (a0I jQ) (a0I jQ) Ă Ă Ă Ă;rw[cP ((amJ - 1 - -1).toNat=l)]at w;have e:=bPl (F:=ţ) (δ:=NB (dg n l)) (elt:=ald) (tg:=eF) (fr:=uO) (f:=fun d=>Ρ d aj (cn (n/Yx%2)) d d) w Đ (JI Eb Ċ bO (þ a)) (fun d hd=>by
  rw[Ė j hj rfl (bSd hd)];refine Dq [uS,ļ n] ?_;refine vg (aAN (mv ((if yw<=Ŭ then ā (alT (É (Æ/amK j)))else none)=_) ahR)) Ņ ?_;rw[iO _ aGo];show _=ā (alT (al2 (n/amK j%2)));rw[cI,bkh,bkg n j])
 rw[bzy n _ (fun j=>XY (É _) cI)]at e;exact sG e
def bzz(m:Nat)(rows:ď)(s:Bool):ď:=İ s rows eC
theorem apD:lF dM dM=dX:=ĸ
theorem apE:lF qw dM=nz:=ĸ
theorem bSf(rows:ď)(n m:Nat)(R:Ü)(c:0<n)(a:Ak)(b:Np)(s:Bool):Ê lD 18 aUS (tT aUR):=by
 rw[cS bwx];cases s with
 | true=>rw[ij (apu (DH (amL be apD)) ą)]
 | ă=>rw[ij (apv (DH (amL be apE)) (ii ą (bj4 a b)))]
def lg(n:Nat):Nat:=[0,0,1,2,2,3,3,3,3].getD n 0
def a1g(R:ď):ď:=amM aUT
def cL(R:ď):DV:=rL (a1g R)
theorem a1h(n:Nat):lg n<=3:=by
 by_cases h:n<9
 ·have:n=0\/aUU n:=Ě;rcases this with rfl | rfl | rfl | rfl | rfl | rfl | rfl | rfl | rfl<;>decide
 ·rw[Ù lg Ũ (Gy E9)];decide
theorem bSg{n:Nat}(h0:0<n)(h:n<=8):D' (Æ - 1)=(lg n:Int)/\n<=2^lg n/\Gk [ŭ,ŭ,gV,dL,dL,iY,iY,iY,iY] n=ā (ak (lg n)):=by
 have:aUU n:=Ě;rcases this with rfl | rfl | rfl | rfl | rfl | rfl | rfl | rfl<;>exact(NZ ĸ)
theorem bSh(h:0<Ia):0<aUV:=by
 rw[qP r a (alX h) (aAE (((a1f R).2.2.1 r).mpr a))]
theorem bSi(h:aF=ā (pO Ŧ)):xC wj=ā (nR ds):=by
 have q:xC wj=zg:=rfl;rw[q,NJ];rfl
theorem bSj(a:0<Ia):∃c cs,a1g R=c::cs/\jt=amN:=by
 cases R with
 | nil=>cases a
 | cons r R=>exact yL rfl (bzx _ _)
theorem bSk{cs:ď}:Am (rL (c::cs)) ŭ (dG c):=aGg Ğ
universe k85
namespace k85
open PySem L2
variable {n m:Nat} {rows:List (List Int)}
theorem aUW(d:a)(r:ī a):eK aCa j (r.getD j d)=r:=by
 apply bnh;rw[ir i (au Â h (i<Á))]
 ·rw[Zx h,uf,Ũ,Lb];rfl
 ·rw[awk bO,RW];rfl
theorem bSl(R:Ü):bni=rows:=by
 unfold sub;have e:=fun i b=>by
  rw[alG i B5,yB q (aUW yw HN) (abM a) q]
 rw[He e,←R.1];exact aUW [] rows
theorem flip_flip(R:Ü):flip n eC=rows:=by
 have h:flip n eC=bni:=by
  unfold flip sub;apply He;intro i b;rw[alG i B5,š col ų,B' j];show bnj=_;rw[Ũ,Â,rW,Ũ (l:=rows),rW];rfl
 rw[h,bSl R]
def fi(rows:ď)(i:Nat):Nat:=Dp HN
theorem bzA(h:i∈bP):fi rows i=i:=bn (yh h)
theorem bzB{a:Type}[BEq a][Uo a]:∀{l L:ī a},aAC->(xH x l L)->Ű<=Hh
 | [],_,_,_=>cg
 | x::l,L,h,s=>by
  rw[đ f d (Fu h)];have c:=s x Α;have:=bzB (L:=L.erase x) d fun y b=>(biu (fun e=>f (ŗ e b))).mpr (s y (ť b));rw[bis c]at this;have:=aAE c;rw[Θ ŀ]
theorem bzC{c g:Type}{f:c->g}:∀{l:LG},aAC->(∀x∈l,∀y∈l,f x=f y->x=y)->o9 TF
 | [],_,_=>aaR
 | x::l,h,s=>by rw[pC m k (Fu h) (bnk ⟨mt,bzC k fun a j b i=>s a (ť j) b (ť i)⟩),gj y d e (Gq z) (m (ŗ (s y (ť d) x Α e) d))]
theorem bSm:o9 bP:=bj1 aUy
theorem bSn(rows:ď):Ą NY=cT:=by
 have a:=aGm rows;rw[dr kI a ((a1f rows).1)];have:=Bz Km a;rw[jH nI this (aiD Ċ Ċ)]
theorem bzD{S:ď}(h:xH r rows S):cT<=S.length:=by
 have e:Ą (Ĥ bP i HN)=cT:=amb;rw[←e];refine bzB (bzC bSm (Ý i b i' a q)) (Ĝ r c)
 ·rw[←bzA b,←bzA a,š fi q]
 ·rw[bx i b c];exact h _ (xy (apg b))
universe k85
namespace k85
open PySem L2
theorem bSo(xs:Ď)(j:Nat)(v:Int):(iD xs).set j BU=iD (xs.set j v):=o6 iD List.map_set
universe k85
namespace k85
open PySem L2
def a1i:dZ:=[bjh]
theorem bSp{fu:Nat}{F:Ť}{rows:ď}(xs:Ď)(hx:aP=8)(h0:0<ao)(h8:al8)(j:Nat)(hj:j<4)(w:Sv):∃aen w',0<aCo/\aCo<=8/\(xH r aen rows)/\Ð (aZ F a1i (amO w)) [DJ aen,N0,uS,w']:=by
 have ln:∀w:Sv,Ŀ gH (amO w)=UE ao:=fun w=>U' (aUL F (amO w) ĉ alz rfl) Ċ;have t:=aos (ln w) (oE 8);by_cases h:ao<8
 ·rw[Ę (Þ (cP (Ĵ ao<8))) t (dU a1 e1 (Vc (1+Ŭ)) a2 e2 (Vc (4+Ŭ))),bno p hp a1 (acC+1) (acC+1),bno q hq a2 acC acC];have q1:q<ao:=bL (ab5 a2 (ź (0<acC)));have p1:p<=ao:=bL (ab5 a1 (ź (0<acC+1)));have s1:Ŀ bnn (amO w)=Ç p:=(ŗ hp (aUZ e1 (sY (ln w) Ņ) Ă));have s2:Ŀ (aU0 xw gH) aCn=Ç q:=(ŗ hq (aUZ e2 (ln _) Ă));rw[fj (Ĕ s3 (uZ (aUY (F:=F) (n:=0) (d:=aAt) (δ:=aCn) rfl) s2 (aGg q1)) s4 (Wd (jW s3 i9) al4 rfl)) s5 (bP7 (F:=F) (δ:=aCn) (a:=ĉ) (b:=Ō) (ds:=alz) (c:=.č) (h:=p) ą ą) s6 (apq (F:=F) (δ:=aCn) (a:=ĉ) (b:=Ō) (ds:=alz) (c:=.č) (h:=p) ą ą)];have s7:=aGs s5 s4 E9;have s8:=aGs s7 s6 E9;have e:f9 (Al (HL r)) p++[HL (lz q)]++(Al (HL r)).drop p=Ĥ aUX r jN:=by rw[Χ,Χ,aAr,abK];rfl
  refine⟨aUX,ļ p,by rw[Ÿ,Ÿ,MH];omega,by rw[Ÿ,Ÿ,MH,mn,yE];omega,aBl,?_⟩
  ·rw[BF hr z]
   ·rw[ZQ]
    ·exact bnm z
    ·rw[ML z (xy q1)]
   ·exact bnl z
  ·rw[ĺ (DB t (ÿ s1 (ŏ (AN (d:=rL aUX) (cl:=Ŋ) ?_ rfl) rfl)) rfl) (š rL (qc e s8))]
 ·rw[uG (eM (ź (¬Ĵ ao<8))) t ⟨rows,w,h0,h8,fun r hr=>hr,UC t⟩]
theorem bSq{fu k:Nat}{rows:ď}(xs:Ď)(hx:aP=8)(h0:0<ao)(h8:al8):∃aen,0<aCo/\aCo<=8/\(xH r aen rows)/\Ê ŕ 89 [aAt,acD] (rL aen):=by
 rw[ň a0 e0 (Vc 0) (xK p hp (a0%4))];obtain⟨δ',e,R,z,w,r0,r8,rs,rfl⟩:=aA2 2 δ (∃R z w,0<Ia/\Ia<=8/\(xH r R rows)/\δ=[DJ R,N0,z,w]) (body:=fun δ'=>aZ ţ a1i δ') p 0 (δ:=bnp)
  (fun j hj δ I=>by
   rw[gZ R z w r0 r8 rs rfl I,Š R' w' q0 q8 qs e (bSp (F:=ţ) (fu:=fu) xs hx r0 r8 j Ă w),abT];exact⟨_,e,R',_,w',q0,q8,fun r hr=>rs r (qs r hr),rfl⟩) ⟨rows,.no,.no,h0,h8,fun r hr=>hr,rfl⟩
 refine⟨R,r0,r8,rs,?_⟩;rw[bR bxh];have em:fP (mM 1 0 4) bnp=Ç p:=ŗ hp (Av (Uj Ņ e0));show wM (Y5 (bji a1i) 4 [aAt,acD])=_;exact abZ (bSi ą) (ab2 (aed em Ă) e (ž (Ib ą)))
universe k85
namespace k85
open PySem L2
theorem bSr{b:Nat}(c:aP=20)(e:a<=b)(d:b<=20):bnr=bnq:=by
 rw[aA4,uy,uy,apr,c,cI,cI,HK (ź (a<=20)),HK d,Ù iD aAr abK]
def bSs:dZ:=a0q.body.drop 5
theorem bSt{n m:Nat}{rows:ď}(rc:Ü){cols:ď}(hc:xH c cols eC):∃J:ė,cols=J.map Uk/\aAx:=by
 induction cols with
 | nil=>exact τ [] (fun j hj=>nomatch hj)
 | cons c cols ih=>
  rw[Ė J e hJ (ih fun c a0X=>hc c (ť a0X)),Um (hc c Α)];exact⟨j::J,Η e,fun i hi=>by
   rw[bM hi]
   ·rw[Ĉ z (ay hj)]
   ·exact hJ i z⟩
theorem bSu{n m:Nat}{ws:Ď}{r:Ď}(h:r∈alB ws){x:Int}(hx:x∈r):x∈ws:=by
 rw[qy j h];exact bns
theorem bSv{m:Nat}{rows:ď}{rows0:ď}{n':Nat}(n5:rows0.length<=5)(m5:m<=5)(rc:tm n' m rows)(hr:xH r rows rows0){cols:ď}(hc:xH c cols eC)(w9:W9 rows0) :
  tm n' aU1 aCp/\W9 aCp/\acx n' cols/\acx aU1 aCp:=by
 rw[Ė J e hJ (bSt rc hc)];have rcc:tm aU1 n' cols:=⟨rfl,fun c h=>by
  rw[qy j (hc c h),Ù col Ċ rc.1]⟩
 have eR:aCp=Al (aAp Dl):=by
  rw[e];unfold flip;apply bnu
  ·rw[Ċ,bO,Ċ,rc.1]
  ·intro i h1 h2;rw[Ċ,bO]at h1;rw[auD,List.getElem_range,auD,š col ų,B' j];show bnj=_;rw[Ũ,Â,Õ (Ć rc.1 h1)];rfl
 rw[FN (aee rcc) (ń r h x hx) ?_]
 ·rw[bnt];rw[Um hx];exact w9 r' (hr r' aps) _ (getD_in (Ć (rc.2 r' aps) (hJ j hj)))
 ·refine û (bzD (S:=rows0.map fun r=>aAp Dl) (Ĝ r h)) (Ć Ċ n5);rw[bnt];exact nL (cj r' (hr r' aps))
 ·rw[Ĉ (flip_flip rcc) (û (bzD hc) (Ć tq m5))]
theorem bzE{F:Ť}{δ:ē}{i:Nat}{e:ME}{rows:ď}{m:Nat}(hi:sh alE)(he:aF=Ç m)(hm:alA)(hl:abL)(m8:Np) :
  π (aSG e [none,aV]) (rL eC) Ŋ:=by
 rw[IY (h:=Nn) (f:=fun j=>dG (Uk j)) (We he m8) Đ (Dr m8) fun j hj=>⟨[uS,alE],Ŋ,by
  show ā ((OK [none,aV] δ).set 0 uS)=_;unfold OK;show ā [abe aj,aK2]=_;rw[Ũ,hi];rfl,bPu rows m j hm (ay hj) hl,rfl⟩]
 rw[jC rL flip HP]
theorem bSw{n m:Nat}(o:Ď)(bWi:amQ<=63)(g:Int)(B:0<g)(bWj:g<=10)(xs:Ď)(C:aP=20)(p:Sv)(n0:0<n)(U:n<=5)(m0:0<m)(m5:m<=5) :
  bnA W M (tm W M R) (aZ ω bSs aU6) (.rt (rL R) true):=by
 rw[đ v1 c1 (amR fu k o 1)];have nm:n*m<=25:=As U m5;rw[Ė u K S (aCs fu k v1 (n*m) Ă)];have J:xT Æ aBw=true:=aSR;have cm:=Aq ω aU6 elt (aAi Ľ) tg eF it bjl fr (Ai 1) l u h É (f:=fun x=>ć (x%g)) (cl:=Ŋ)
  (by
   have q:=bnz aU6 o jQ c1 bny (Ć (show(Æ*aBw)=Ĵ (n*m) by rw[abU]) S);rw[q];rfl) Đ (NV K nm) (qz x ζ [ļ x,ļ g] (aCr ą B))
 rw[K_ (u.map (fun x=>É (x%g))=iD aU4) (Hi iD)]at cm;obtain⟨b,hb,bWk,bWl⟩:∃b:Int,(if aU5<Æ*m then aU5 else Æ*m)=b/\b<=Ĵ (n*m)/\b<=aU5:=by refine⟨_,rfl,?_,?_⟩<;>split<;>push_cast<;>omega
 have Y : -1000<=b:=(by rw[←hb];have:yw<=Æ*m:=Int.mul_nonneg (pu n) (pu m);rw[BN]);have md:∀x:Int,abl (x%g):=fun x=>rh (Ĕ h1 (ab6 x (ź (g≠0))) h2 (ab5 x B));obtain⟨δ1,l1,s,z,L,A,rfl⟩:=aop (i:=7) (I:=aS δ (∃(s:Ď) (z:Sv),F0=n*m/\(aS9 s)/\δ=amP .no))
  (body:=fun P=>aZ ω [bjj] P) b.toNat 0 (δ:=aU3)
  (fun j N δ I=>by
   rw[aT s z L A rfl I abT];have h3:4+j<amQ:=Ě;have hv:Am (.fx o) (ć (4+Ŭ)) (ć o[4+j]):=(by rw[show(4:Int)+Ŭ=Ĵ (4+j) by rw[abU]];show aKV amQ (Ĵ (4+j)) o=_;rw[aGf h3,jA,Õ h3];rfl);refine⟨_,ŏ (bFU (d:=ć (o[4+j]%g)) (cl:=.č) (n:=j) (cx:=.č) (j:=j) rfl (aUZ hv ą B) ą rfl (aGf (nC apr L))) rfl,ay1 (o[4+j]%g),uS,Ć FC L,Ĝ x h,?_⟩
   ·rw[vX (List.mem_or_eq_of_mem_set h)]
    ·exact A x q
    ·rw[Ĉ q (md _)]
   ·rw[←bSo];rfl) ⟨aU4,.no,Ć Ċ K,fun x h=>by rw[qy y h];exact md y,rfl⟩
 have em:gL bjk aU3=Ç b:=(by have e1:gL gH aU3=Ç amQ:=rfl;rw[bxp (Β bny (AO e1 (oE 4))),←hb];rfl);have rt:=Aq ω (amP .no) elt (aAj ĉ ģ) tg eF it (.fw [ah]) fr (uQ 6 5) h Nn f (fun j=>dG bnx)
  (We (n:=n) ą Ă) Đ (Dr U) (fun j N=>by
   have N:=ay N;have H:xT Ŭ aBw=true:=aSR;refine⟨[uS,Nw s,ļ m],Ŋ,rfl,?_,rfl⟩;rw[qc (bPo L N) (a0y DG (aA1 H) (sY (aA1 H) ą))])
 have Z:(Yz uk j (HL bnx):DV)=rL (alB s):=(alI rL rowsOf);rw[ς Z rt w (bPn L)];have Q:W9 (alB s):=fun r X x C=>A x (bSu X C);rw[ĩ v r0 r8 rs e1 (bnw (f9 (yd 3) 8) (zW mn yE C) (K_ (0<Ą (alB s)) (Ĉ w.1 n0)) (Ä w.1))];have E:tm aCq m v:=cG (fun r X=>w.2 r (rs r X));have x1:=aU2 ω (amP .no) ģ 3 11 xs;rw[bnv 3 11 x1 c2 rt e1,fj (ĩ O q0 q8 qs e2 (bnw (rows:=amG v) (f9 (yd 11) 8) (zW mn yE C) (Ć tq m0) (Ä tq))) cf (bzE (F:=ω) (δ:=amP (DJ v)) (i:=8) (e:=cR) (rows:=v) (m:=m) rfl ą E.2 Ă Ă) x2 (aU2 ω (amP (DJ v)) ģ 11 19 xs),gX (bnv 11 19 x2 c3 cf e2) f1 f2 f3 f4 (bSv (Ć w.1 U) m5 E rs qs Q)];have lc:∀c∈O,jt=aCq:=fun c hc=>hZ (qy j (qs c hc)) (Z7 col);have ll:=aUL ω [ħ (.fx o),ļ g,N0,p,ļ n,ļ m,Nw s,z,DJ v,DJ O] abC (v.map fun r=>jN) rfl;rw[Ċ]at ll;refine⟨aCq,O.length,flip aCq O,r0,r8,q0,q8,f1,f2,f3,f4,?_⟩;show aZ ω _ _=_;exact ŏ (Eg cm) (ab2 (bPm em Ă Y) l1 (ÿ c2 (ÿ c3 (ž (bC (bzE rfl ll lc Ă Ă))))))
theorem bSx(c:Ď)(s:jt<=63)(j:Int)(r:0<j)(o:j<=10) :
  bnA n m Ic (bc 90 [.fx c,aj]) (.v (rL R) true):=by
 rw[ň U Y (amR fu k c 0) (Ė g p x (aCs fu k U 20 Đ)),dU v S (amS g 0 p) u Q (amS g 1 p),đ Z X (amS g 2 p)];obtain⟨q,W⟩:∃q:Int,Z%8/7=q:=ce;have y:q=0\/q=1:=Ě;have O:=bnz (aL 10 [.fx c,aj]) c Ds Y (oE 20) x;have P:∀w:ē,ĳ w 2 (oH g)->gL bjm w=Ç q:=fun w h=>ŗ W (aE3 (Av (cU U6 Ņ X)) Ņ Đ);rw[Lv y]
 ·rw[xK n B (1+v%4)];rw[xK m C (1+u%4),bnD 4 n m,bnC,bnB 4 (eB (amg (bK (lF xw HB=nz) rfl)) e)]
 ·rw[xK n B (1+v%5)];rw[xK m C (1+u%5),bnD 5 5 5,bnC,bnB 5 (DB (amg (bK (lF HB HB=dX) rfl)) (ÿ Ņ (ÿ Ņ rfl)) e)]
universe k85
namespace k85
open PySem L2
theorem bSy(a s:DV)(R:ď)(B:0<Ia)(A:Ia<=8)(z:Ê lD 18 [a,s] Id):jP 16 [a,s]=ā (.v (cL R) true):=by
 rw[bR a0e,ĩ E f2 o f4 f5 (a1f R)];have C:=bSh B;rw[Ė I b2 b3 (bSg C (cP (aUV<=8)))];have rk:=aGi (fu:=fu) (k:=k+1) R Ă;have kl:Ą (kI R)<=60:=rh (Z7 kI);have s1:iD (k8 (Zm (kI R)))=aCt:=by show iD (k8 (Zm (amM (Ĵ acE))))=_;rw[E,nU iD ų ų]
 have u:=Aq bc (aU8 (Aw aCt) (sM amN)) elt biD tg eF it ģ fr (uQ 3 4) l R h (fun r=>cn acE) (f:=fun r=>dG aUT) (cl:=.č)
  (by rw[aA0 (dG (kI R)),jC iD kI HP]) Đ (þ A) (fun r m=>by
   refine⟨[ļ (Ĵ acE),HQ,sM amN],Ŋ,rfl,?_,rfl⟩;have y:acE∈bnE:=nL (cj r ((o r).mpr m));have p:=bR8 y (Ä Ċ);rw[idx_map (g:=fun r=>acE) (r:=r) (l:=ael R) fun x w e=>bSa ((o x).mp w) m e]at p;exact aU7 (Β (bjZ p) ą) rfl (bSe ((ael R).idxOf r) amN (þ (a1h _))))
 have H:(.lst (amM (HL aUT)):DV)=cL R:=by unfold cL rL a1g;rw[HP]
 rw[ς H u b (alK bc (aU8 .no .no) ģ R (c:=.č) ą kl),ς s1 b v (byU (F:=bc) (AO (lK (gO (n:=3) (d:=.lst aCt) (δ:=aU8 (Aw aCt) .no) rfl)) jQ))];rw[Ċ,Ċ,I]at v;rw[t_ a0e (Ñ (mP cl Ŋ (aU7 (i4 (AA U0 z)) rfl rk) (ÿ b (ÿ v (ž (bC u))))))]
theorem bSz(b:Ü)(d:0<n)(e:n<=8)(j:0<m)(g:m<=8)(s:Bool):Ê (k+4) 17 aUS (rV (aCu rows s)):=by
 have a:0<Ą aUR/\Ą aUR<=8:=by
  cases s with
  | true=>show 0<ao/\al8;rw[nh b.1 d e]
  | ă=>show 0<al6/\al6<=8;rw[nh tq j g]
 have h:=bSy (fu:=fu) (k:=k) ba (sd s) _ a.1 a.2 (bSf rows n m b d Ă Ă s);rw[cS a0f,kU c cs p o (bSj a.1) t (lK (cU (HW jP (NB aUS) 16 ali [abQ,(sd s,.č)] h) Ds (o6 cL (Ĉ p bSk))))];rw[apr,o,bSn]at t;exact sG t
theorem bSA(n:Int):∃a:Int,0<a/\a<=10/\Gk [dL,xw,abF] (n%3)=ā rJ:=by
 have:n%3=0\/n%3=1\/n%3=2:=Ě;rcases this with h | h | h<;>rw[h]
 ·exact aU9 2
 ·exact aU9 4
 ·exact aU9 10
universe k85
namespace k85
open PySem L2
theorem a1j:lF xn xn=dX:=ĸ
theorem a1k:lF ox xn=nz:=ĸ
theorem bSB:lF ox ox=dX:=ĸ
theorem bSC:lF qw qw=dX:=ĸ
theorem AX{l:ī a}(h:Ű=n)(b:n<=100):Ld:=NV h b
theorem bSD(n:Int):∃s:Bool,Gk aAl (n%2)=ā amT:=by
 have:aVa n:=Ě;rw[yP this]
 ·rw[Į true (Η h)]
 ·rw[Į ă (Η h)]
theorem bSE(n:Int):∃o:Nat,1+n%255=(o:Int):=aVb (1+n%255)
theorem bzF(ds:Ħ)(n:Int):UB 67 [ο,ux] ((ŧ:Int)==n):=by
 rw[cS bw3,ij (sH rfl (mV (OW ą) ą))]
theorem bSF(h:lF ő ma=fb):Ê ŕ 68 [ő,ma] o5:=by
 rw[cS bw4,ij (sH rfl (amL ą h))]
theorem bSG(h:abl v):Ê lD 65 [dv su] iK:=by
 rw[cS a0m];have q:=bnH (x:=v) (a:=0) (b:=9);rw[Þ h.1,Þ h.2]at q;rw[ij (aef (bnG (dv su) 2) (sH (amU xn xn a1j) (bnF v 0 9)))]
theorem bSH:Ê lD 65 [Vd] rg:=by
 rw[cS a0m,ij (Wf (Ar (bzF _ 2)))]
theorem bSI(h:1<=o/\o<=255):Ê lD 66 [Vd] iK:=by
 rw[cS bw2];have q:=bnH (x:=(o:Int)) (a:=1) (b:=255);rw[ud,ud]at q;refine Ñ (ve (DH (aE2 (aVc (bnG Vd 5)) (aVc (amU ox ox bSB)))) (ž (bC (bFT (cx:=.č) ?_ (bnF o 1 255)))));cases s with
 | true=>exact aX2 (amU dM dM apD)
 | ă=>exact aE2 (amU qw dM apE) (amU qw qw bSC)
theorem a1l{fu:Nat}:∀(p:Pl) (d k:Nat),Ad->ht p<=d->ht p+2<k->Ê k 64 [dv p,ć d] iK
 | p,_,0,_,_,h=>aaf h
 | p,_,1,_,_,h=>Ě
 | p,_,2,_,_,h=>Ě
 | su,d,k+3,h,_,_=>bnJ a0l (Uw (dv su) (bSG h))
 | Ve,0,k+3,_,h,_=>rh (eI ht)
 | Ve,d+1,k+3,h,hd,hk=>by
  unfold ht at hd hk;rw[fj (Ĩ h1 h2 h3 h4 h) ea (a1l (fu:=fu) a d lD h3 Ă Ă) eb (a1l (fu:=fu) b d lD h4 Ă Ă)];have VW:mB d - 1=d:=Ě;rw[←VW]at ea eb;rw[gf (am a0l) (Ñ (ve (DH (Uw Vd bSH)) (AE (aVd ?_ (aef (Uw Vd (bSI ⟨h1,h2⟩)) (sH (bnI ea) (bnI eb))))))) (kR (bx2 (aUY (F:=bc) (n:=1) (d:=UR d) (δ:=NB [Vd,UR d]) rfl) Ds) (Þ (cP (yw<mB d))))];exact this
theorem a1m{fu:Nat}:∀(p:Pl) (k:Nat),ht p<k->Ê k 69 [dv p] (ć (lv p))
 | p,0,h=>aaf h
 | su,k+1,_=>bnJ a0n (i8 xL be a1j)
 | Ve,k+1,h=>by rw[on ht (Ĕ ea (a1m (fu:=fu) a k Ă) eb (a1m (fu:=fu) b k Ă)),am a0n];have e:=Ñ (ve (r:=[.ret bi2]) (a:=[.ret ù]) (fu:=fu) (DH (i8 (G:=G) (F:=ţ) (δ:=xA Vd) (cU ND Ds rfl) be a1k)) (ž (bC (sY (aCv ea) (aCv eb)))));rw[show Ĵ (lv Ve)=(lv a:Int)+(lv b:Int)from Int.natCast_add (lv a) (lv b)];exact e
universe k85
namespace k85
open PySem L2
theorem a1n:ht Ve=az2+1:=rfl
theorem bzG:lv Ve=lv a+lv b:=rfl
theorem bSJ(p:Pl):VZ Ie .č=ă:=ql p
def bSK:ME:=.lst aCw
theorem bSL:œ bSK=ā (nR aCw):=rfl
universe k85
namespace k85
open PySem L2
theorem bSM(h:nV d)(hi:aof G d [t]=fb):uu (.OC e [t]) b:=by
 rw[Uu q (.OC e [t]),q,h,aA,hi];rfl
theorem AI(d:DV):VZ d .č=ă:=ql d
universe k85
namespace k85
open PySem L2
theorem vq(l:ė):(N1).cps.toList=l:=aMs
theorem vt(l:ė):Ą N1=Ű:=b_ ..
theorem aGL(x:Str):stx wF=x:=agd x
theorem bSN(h:stx a=stx b):a=b:=by rw[←vq a,←vq b,h]
theorem a1o:gU aCx=stx N3:=ĸ
def aeo(l:ė):Prop:=xh (c<0x110000)
theorem aep(h:N4):(acF l).plain 60=true:=by
 show(N1).cps.all _=true;rw[←bnK,vq];exact Ay fun c a=>Þ (h c a)
theorem bSO{G:Gs}(d:N4)(c:aeo q)(f:qG a l h)(e:qG b q g):uu (dF a b) (bF l q):=
 i8 f e (by
  rw[bnM (jV _ _)];show ā mD=_;congr 1;rw[ol (l=q)]
  ·rw[Þ z,z,amp]
  ·rw[eM z,bnL])
theorem bSP{G:Gs}(d:N4)(c:aeo q)(f:qG a l h)(e:qG b q g):uu (Di a b) (!bF l q):=
 i8 f e (by
  rw[bnM (!jV _ _)];show ā (!mD)=_;congr 2;rw[ol (l=q)]
  ·rw[Þ z,z,amp]
  ·rw[eM z,bnL])
theorem bSQ{G:Gs}(e:qG a [c] g)(d:qG b l f):bnN:=
 i8 e d (by
  show an9 _ (stx [c])=_;rw[Ù an9 vq vq])
theorem a1p{G:Gs}(h:nV g9):iP (gI e) jr:=by
 rw[abI]
def a1q(l:ė)(i:Nat):ė:=f9 Vf 1
theorem bSR(h:amV):VT N1 i (OJ (Ą N1) (ae+1)).toNat=stx aCy:=by
 unfold VT a1q;rw[vq,vt];have e:(OJ Ű (ae+1)).toNat=min ö Ű:=by rw[aNX]
 rw[e];show stx _=stx _;congr 1;rw[ol zh]
 ·rw[ź (min ö Ű - i=1)]
 ·have:i=Ű:=Ě;rw[ş this ayx];simp
theorem aGM(h:aCz):aCy=[c]:=by
 rw[ň a e (JQ h) (Ù a1q (air a) e)];rfl
section
variable {fu k a dx:Nat} {l:List Nat} {i:Nat}
abbrev rs(a dx:Nat)(l:ė)(i:Nat):DV:=aCA l ae
theorem bzH(h:ĳ TM m d)(a:Ą (s::ds)=d.np):aCB m (s::ds)=Y2 s (Zq7 GM (amW k) fu Ku (RJ d.n s ds)):=ŷ (bsy h) v6
theorem Ja:GM.aoc=Ĵ 639:=rfl
theorem apF:GM.aod=true:=rfl
theorem bSS(h:amV):aCB 0 [oK]=Vg (Ë aCy) i:=by
 rw[aVf,amX a0t b 1 [] _];have e:=bF1 (F:=amW k) (bsA Ja b) aVe (sY aVe jQ) (xj vt aNX);rw[Ļ (bSR h) e (IP (aCC b e))]
def Wl(l:ė)(i:Nat):Bool:=match l[i]? with
 | ū=>Ny 48 c 57
 | none=>ă
theorem bST(b:ZZ oK)(h:amV):amY aCB (.an4 j 0) δ=sO aCy:=bsB Ja apF b (bSS h)
theorem bzI:amY F alv δ=sO N3:=by
 show Option.map _ (GM.con.lookup _)=_;rw[←a1o];rfl
theorem bSU(h:amV):N6 2 1 [oK]=Vg (.bl N5) i:=by
 rw[aVf,amX a0u b 1 [] _];have c:=aos aVe (a1p (bsA (F:=aCB) Ja b));rw[vt]at c;rw[ol zh]
 ·rw[Ę ud c (Ĕ f (Õ z) g (aCD k b h)),ς (aGM f) g m (sH c (bSQ g bzI))];have e:N5=kh (l[i]∈N3):=by
   rw[š Wl f];show(Ny 48 l[i] 57)=_;by_cases w:ag0 l[i]
   ·rw[Þ w.1,Þ w.2,Þ (rh (mi uH Mv))];rfl
   ·rw[eM (p:=l[i]∈_) (fun z=>w (rh (Ck z)))];by_cases d:48<=l[i]
    ·rw[Þ d,eM fun j=>w ⟨d,j⟩];rfl
    ·rw[eM d];rfl
  rw[Ĉ e (IP (aCC b m))]
 ·rw[ub]at c;have e:N5=ă:=o6 Wl RW;rw[Ĉ e (IP (aCC b (Wf c)))]
theorem bzJ(b:ZZ oK)(h:amV):amZ 2 (.an4 j 1) δ=oC N5:=bsB Ja apF b (bSU h)
theorem bSV(h:x=1):aCA l (ae+x)=aCE ö:=Η h
theorem bzK(b:ZZ oK):Ð (aE0 GM F fu (.VR j ù) δ) (δ.set j aVg):=by
 rw[bF2 Ja b (Ņ),bSV rfl]
theorem bSW(j:N4)(h:aCz):N6 2 2 [oK,Ë [c]]=Vg .ę ö:=by
 rw[aVh,amX a0v e 2 [Ë [c]] _];have g:=aCD k e Ă;rw[aGM h]at g;have b:aeo [c]:=l_ d m (aI m) (j c (kJ h));rw[yB f (bSP b b g N7) amp (bF7 (eB f (ŏ (bzK e) rfl)))]
theorem bSX:∀n,n<10->OI (48+n) N3=Æ:=ĸ
theorem a1r{n:Nat}(f:n<10)(h:ŋ l (48+n)):N6 3 3 [oK]=Vg atP ö:=by
 rw[aVh,amX a0w b 2 [] _];have e:=bzJ (fu:=fu) (k:=k) b Ă;have g:N5=true:=by rw[š Wl h];show bW mD mD;rw[ud,ud];rfl
 rw[ς g e c (aCD (k+1) b Ă)];rw[aGM h]at c;have j:amZ 2 (alw (HG 0)) (RJ 2 oK [])=Ç Æ:=by rw[ff,bzI,c];show(Ĥ (an8 (Ë N3) (Ë acG)) d Lg)=_;rw[O_ an8,t5 vq,vq,bSX n f];rfl
 exact IP (eB (vf e) (ÿ j (ŏ (bzK (i:=i) rfl) (am0 (xI 1 Æ)))))
theorem bSY(hs:N4)(h:ŋ l (İ r 114 99)):N6 3 5 [oK]=Vg (side r) ö:=by
 rw[aVh,amX a0x e 1 [] (.od oK)];have f:=aCD (k+1) e Ă;rw[aGM h]at f;have s1:∀c:Nat,c<1000->aeo [c]:=fun c hc d hd=>Ä (aI hd);have b:=bSO (s1 _ (by cases r<;>decide)) (s1 114 Đ) f (be (x:="r"):amZ 2 alu _=_);cases r with
 | true=>
  rw[Þ (show([İ agp 114 99]:ė)=[114]from rfl)]at b;have t:=aVi k h;exact IP (bsC (Ω b) (ŏ (am1 "r" e t) (am0 (be (x:=lN)))))
 | ă=>
  rw[ς (eM Đ) b t (aVi k h)];exact IP (eB b (ŏ (am1 "c" e t) (am0 (be (x:=xu)))))
universe E_
universe k85
namespace k85
open PySem L2
theorem O5{l:ė}(h:Vf=c::r):aCz/\l.drop ö=r/\zh:=by
 have a:zh:=by
  rw[ol zh]
  ·exact z
  ·rw[List.drop_eq_nil_of_le Ă]at h;cases h
 rw[gc (Ę (air a) h (đ d b (QW h))) (ŷ rW d) b a]
def aeq:ė->Nat
 | []=>0
 | d::r=>2^d+aeq r
def aGN:Nat->ſ ė
 | _,[]=>true
 | a,d::r=>ü a d&&ü d 10&&aGN d r
theorem bSZ:∀c,c<256->1<=c->(Ρ N8 [] ă (d::r) (ü d 10&&aGN d r&&bF (2^d+aeq r) c))=true:=ĸ
theorem bS0:∀d,d<10->∀c,c<2^d->XA (Ĵ c) (1*bnO)=Ĵ (c+2^d):=ĸ
section
variable {fu k a dx:Nat} {l:List Nat}
def bzL:dZ:=bjL
abbrev bzM(a dx:Nat)(l:ė)(i t c:Nat)(x:Sv):ē:=[.od oK,AC,sM c,x]
theorem bzN{d:Nat}(hd:d<10)(h:amY F e δ=ā (.ok (ak d) cx)):amY F (sx e) δ=Ç (1*bnO):=by
 have:=vg (op:=Xy) (Ņ) h (by
  rw[zf (ō aAO Ml) ⟨Ě,Ě,ø⟩])
 exact this
theorem bS1{G:Gs}{a:ME}(d:pY)(c:pW):bj7:=RH
theorem bzO(hs:N4):∀(D:ė) (i t c m:Nat) (x:Sv),aGN t D=true->t<10->c<2^(t+1)->Vf=bnR++(40::r)->aCF<m ->
  ∃t' p,Ð (IN (fun b=>fy (amZ 3 (HG 1) b)) (fun b=>Zq7 GM (N6 3) fu bzL b) m aVj) (bzM a dx l (i+aCF) t' (c+aeq D) p)
 | [],i,t,c,m+1,x,_,_,_,h,_=>by obtain⟨o,_,B⟩:=O5 (c:=40) (r:=r) h;rw[aVk k 1 aVj];rw[K_ (N5=ă) (v_ Wl o)]at e;rw[υ t x (aX3 (Ω e))]
 | d::D,i,t,c,m+1,x,s,ht,z,h,y=>by
  rw[jH aGN s (wZ aX s),ab (cq h4 f A s) o C B (O5 (c:=48+d) (r:=bnR++(40::r)) h),bnQ aVj o d];have v:c<2^d:=Dt z Ă;have u:c+2^d<2^(d+1):=Ä Ax;rw[Ė t' p g (bzO hs D ö d (c+2^d) m (sM d) A f u C (Mz ŀ y))];refine iM t' p;rw[K_ (i+Ą (d::D)=i+1+aCF) (Θ ŀ),K_ (c+aeq (d::D)=c+2^d+aeq D) (pH (c+(2^d+aeq D)=_))];refine aX4 (Ω e) ?_ g;have w:=bS1 (bnP 3 d) (am2 1 t);rw[ub]at w;have E:=vg (op:=XB) (bnP 2 c) (bzN f (am2 3 d)) (by
   rw[iO _ (bS0 d f c v)])
  rw[t_ bzL (acH (a1r f o) (eB w (mP i 2 E (mP i 1 (am2 3 d) rfl))))]
theorem bS2(hs:N4)(o:20<fu)(p:1<=c)(h2:c<=255)(h:Vf=Ig++(40::r)):N6 4 6 [oK]=Vg uX (i+am3):=by
 have q:=bSZ c Ă p;have b:am3<=8:=bnS;cases f:N8 with
 | nil=>rw[Yh f]
 | cons d D=>
  rw[f]at q h b;rw[wZ aX q,cq e m j q,aJ u s g3 (O5 (c:=48+d) h) t' x' g (bzO (fu:=fu) (k:=k) (a:=a) (dx:=dx) hs D ö d (2^d) fu .no m e (aT3 Ă) s (Mz ŀ b))];rw[aVl aGe];unfold aGe;rw[j,K_ (i+1+aCF=i+Ą (d::D)) (Θ ŀ)]at g;have v:amZ 3 az4 [aVg,sM d,.no,.no]=UF (2^d):=by
   rw[bzN e (am2 1 d)];congr 3;rw[cI,aUw];exact(bmy 2 d).symm
  exact IP (acH (a1r e u) (mP i 2 v (aX5 g (am0 (bQ 2 uX)))))
theorem bS3:tx su=[48+T4]:=rfl
theorem O6:tx (.ask r c p q)=aSf r p q [41]:=rfl
theorem bS4(h:aCz)(hc:57<c):N5=ă:=by
 rw[š Wl h];show(mD&&mD)=ă;rw[eM (p:=c<=57) Ă,aMJ]
theorem a1s(h:Vf=x++y):l.drop (i+cK)=y:=by
 rw[←List.drop_drop,h,List.drop_left]
theorem a1t(hs:N4)(a1u:20<fu):∀(p:Pl) (i k:Nat) (r:ė),Ad->Vf=tx p++r->ht p+5<=k->amW k 4 [oK]=Vg Ie (i+Ih)
 | su,i,k,r,hp,h,hk=>by rw[RZ k rfl k' k k' 4 4,ň h0 h9 hp (aCH n rfl v T4),Ŷ h1 h2 h3 (O5 (c:=48+n) (r:=r) h) (aVl aec),fR aec (bnQ (RJ 5 oK []) h1 n)];exact IP (bsC (Ω e) (aX9 (bF5 Ja apF rfl (a1r (k:=k) Ă h1))))
 | acI p q,i,k,r,hp,h,hk=>by
  rw[aCG,gX (Ę a1n hk (RZ k2 rfl k' k k' 4 4)) o1 o2 op oq hp];have h':Vf=aSf s p q (41::r):=(by rw[h,O6];simp);rw[Ė a1 a2 a3 (O5 h')];have b0:=a1s a2;rw[Ę Ċ b0 (Ė b1 b2 b3 (O5 b0))];have c0:=a1s b2;rw[Ė c1 c2 c3 (O5 c0)];have d0:=a1s c2;rw[fj (jk d1 d2 d3 (O5 d0) (Ĕ P1 (a1t hs a1u p (i+1+am3+1) (k2+4) _ op b2 Ă) P2 (a1t hs a1u q bnU (k2+4) _ oq c2 Ă))) C1 (bS2 (fu:=fu) (k:=k2) (a:=a) (dx:=dx) hs a1u o1 o2 a2) T1 (aVm b1),Ĕ T2 (aVm c1) T3 (aVm d1),aVk k2 2 (RJ 5 oK [])];rw[bS4 a1 (by cases s<;>decide)]at e;have hlen:i+Ą (tx (acI p q))=bnU+Ą (tx q)+1:=(by rw[O6,bnT]);rw[hlen,aVl aec];unfold aec;exact IP (eB e (acH (bSY (k:=k2+1) hs a1) (acH C1
   (ŏ (am1 "(" rfl T1) (acH P1 (ŏ (am1 "," rfl T2)
   (acH P2 (ŏ (am1 ")" rfl T3)
   (am0 (vh (eG be (bQ 1 amT) (eG (bQ 2 uX) (bQ 3 Ie) (i4 (bQ 4 (dv q))))) (ab7 5) rfl))))))))))
universe E_
universe k85
namespace k85
open PySem L2
def dS(l:ui):Ħ:=iQ p (Ë p)
theorem a1v:∀l:ui,Q8 (dS l)=ā acJ
 | []=>rfl
 | a::r=>z_ (lM (Q8 (dS r))) _ (a1v r)
theorem bzP:∀l:ğ,(my acK l).cps.toList=(iQ x wF).flatten
 | []=>rfl
 | [x]=>bg my
 | YC=>by rw[ba5 acK _ _ #[] acK,e,Z_,Z_,(bzP Gx)];simp
theorem bS5(l:ui):my acK acJ=stx l.flatten:=by
 rw[←aGL (my _ _),bzP,ų,bnV,List.map_id]
theorem bzQ(l:ui):(acJ).map YA=aVn:=by
 rw[Ĉ ų (He fun p ζ=>vt p)]
theorem bzR(f:acL [])(d:Ul e (dS l) g)(c:(aVn).sum<=Ū):u4 (YS e) l.flatten:=by
 rw[ff,bnW f d [],t5 a1v,bzQ,Ċ,vt,į XX,bS5];rfl
theorem bzS:∀n,n<10->auV (Ĵ n)=stx acG:=ĸ
theorem apG{n:Nat}(a:n<10)(h:Lj Æ):u4 (ig [e]) acG:=by
 rw[HU];show bnX=_;rw[aaJ,bzS n a]
theorem bS6:∀c,c<256->1<=c->cs c=N8:=ĸ
theorem bzT(h:d∈N8):d<8:=aAD h
theorem a1w(c:Nat):am3<=8:=bnS
theorem bzU:∀l:ė,(iQ j xM).flatten=fg (48 + ·)
 | []=>rfl
 | a::r=>z_ ((48+a)::(CW fun j=>xM).flatten) _ (bzU r)
theorem bzV:∀l:ė,acM (iQ j xM)=Ű
 | []=>rfl
 | a::r=>QF (bzV r) (1+acM (CW fun j=>xM)=Á+1)
theorem bzW:∀l:ė,BQ (nD l)=true
 | []=>rfl
 | _::r=>bzW r
theorem bS7{c:Nat}(f:1<=c)(h2:c<=255)(h:gL e δ=ā (.ok uX cx)):gL (Ng aVo) δ=sO Ig:=by
 rw[JD (aBo c Ă Ă) (bS6 c Ă f)];have w:xx (gL aVo δ) (aBR N8):=(by have g:=aX1 NJ q (bzW _);rw[g];rfl);have b:uV (gL (xp (ig gK) aVo) δ) (dS (Ĥ N8 j xM)):=xj (aAu w (a1w c) (qz j d [HR] (apG (bL (bzT d)) ą))) (Hi dS);rw[AY (bzR (a:=.str "") (δ:=δ) EC b (NV bzV (a1w c))) bzU]
theorem bzX(a b:ė):stx a++stx b=stx (a++b):=by
 show Str.append _ _=_;unfold Str.append stx;simp
theorem bzY:∀(ls:ui) (a:ė) (l:bu),br=bnY->ad+(ls.map Km).sum<=Ū->VY (stx a) l=ā (stx (a++ls.flatten))
 | [],a,l,h,_=>by have:=acb h;subst this;show Ε=_;rw[bke,aN]
 | q::ls,a,l,h,e=>by
  cases l with
  | nil=>cases h
  | cons x l=>
   rw[ň d c x (đ b f (QW h)),zM b b];rw[Ö,C9]at e;show(if Ą (stx a)+Ą (stx q)<=Ū then VY _ l else none)=_;rw[vt,vt,aaJ,bzX,bzY ls (a++q) l f (Ä Ÿ),bkd,rq]
theorem bS8(ls:ui)(h:pV)(a:br=bnY)(hn:(ls.map Km).sum<=Ū):u4 (.fst es) ls.flatten:=by
 show bsc _=_;rw[h];show lM (VY atf l)=_;have:=bzY ls [] l a (Ä wP);rw[QL]at this;rw[show(atf:Str)=acK from rfl,this];rfl
theorem aGO(h:qG e q c):u4 (.fmt e) q:=by
 rw[ff,h];rfl
theorem i_(d:acL p)(c:qG b q cb)(h:wm+Tw<=Ū):u4 ahr (p++q):=by
 rw[ff,d,aA,c,aA];show(lM (yW (Ą (stx p)+Ą (stx q)<=Ū) (wO _)))=_;rw[vt,vt,Br,bzX];rfl
theorem apH:∀p:Pl,lv p<=2^ht p
 | Dd=>Ķ
 | abk a b=>by rw[Ĕ h1 (apH a) h2 (apH b),a1n,bzG,Ax];have h3:2^ht a<=2^az2:=sI Ă;have h4:2^ht b<=2^az2:=sI Ă;omega
theorem aGP:∀p:Pl,Ih+12<=13*lv p
 | Dd=>Ķ
 | ak8=>by rw[Ĕ h1 (aGP a) h2 (aGP b)];have h3:=a1w c;rw[O6,bzG,bnT]
theorem bzZ(h:ht p<=13):Ih<=106496:=by
 rw[Ĕ h1 (aGP p) h2 (apH p)];have h3:2^ht p<=2^13:=sI h;have h4:CU^13=8192:=ø;omega
theorem aGQ:∀p:Pl,Ad->aeo (tx p)
 | su,h,c,f=>by
  have:c=48+T4:=bn0;have:=h.2;rw[av h.1]
 | ak8,(yL i g),x,e=>by
  rw[Ę O6 e bnZ]
  ·rw[e,BN]
  ·rw[av (bzT hd)]
  ·omega
  ·exact aGQ a i x e
  ·omega
  ·exact aGQ b g x e
  ·omega
theorem a1x(h:nV ő)(a:lF ő (.str s)=fb):uu (dF e (.str s)) b:=i8 h be a
theorem ml(n:Nat)(h:n<=Q2):Su:=h
theorem a1y{fu:Nat}:bn5 (ht p+1) 74
 | su,k+1,hp,_,_=>bn4 a0o (apG (n:=n) (bL hp.2) xL)
 | oI,k+1,hp,hh,hk=>by
  have hb:=bzZ hh;rw[fj bn3 A (a1y (fu:=fu) a k oa Ă Ă) B (a1y (fu:=fu) b k ob Ă Ă),aCG,am a0o]
  let S0:ē:=aL 5 [dv oI]
  let sd:ė:=[İ s 114 99]
  have e1:gL bi6 S0=sO sd:=by
   have q:∀t:Bool,lF amT dM=ahN->t=s:=fun t h=>by
    cases s with
    | true=>have:=apD;rw[bn2 true dM]
    | ă=>have:=apE;rw[bn2 ă qw]
   have e0:gL (abE 0) S0=UZ s:=by
    cases s with
    | true=>exact acN lN apD
    | ă=>exact acN xu apE
   show Q0 (fy (gL (abE 0) S0)) (fun t=>İ t (gL alu S0) (gL (.str "c") S0))=_;rw[Ω e0];cases s<;>rfl
  have e2:=bS7 (fu:=fu) (k:=k) (δ:=S0.set 1 (im sd)) (e:=Dh 0) o1 o2 xL
  let S4:ē:=[ħ (dv oI),im sd,im Ig,im (tx a),im (tx b)]
  have e3:gL bi5 S4=sO (tx oI):=by
   have:=bS8 (F:=ω) (δ:=S4) [sd,Ig,[40],tx a,[44],tx b,[41]] (eG (aGO N7) (aGO (sN 2)) (eG (be (x:="(")) (aGO (sN 3)) (eG (be (x:=",")) (aGO (sN 4)) (i4 (be (x:=")")))))) rfl (by
     refine ml _ ?_;rw[bn1];simp only[Ö,atO,C9,List.sum_nil,ŀ,Ċ,wP];show[İ (s=true) 114 99].length+_<=_;rw[Θ (mi ŀ wP)])
   rw[this,O6];congr 3
  have c0:gL alp S0=rN:=acN Ew a1k;exact NQ c0 (mP i 1 e1 (mP i 2 e2 (mP i 3 (aCv A) (mP i 4 (aCv B) (ž (bC e3))))))
universe k85
namespace k85
open PySem L2
def bz0:Ħ:=aCw
theorem a1z{P:Ž Nat}(a:P n)(b:∀j,j<n->P j):∀j,j<n+1->P j:=fun j c=>(Nat.lt_succ_iff_lt_or_eq.mp c).elim (b j) fun e=>e▸a
theorem bS9:∀j:Nat,j<8->Gk bz0 Ŭ=ā aTI:=by
 exact a1z (P:=fun j=>Gk bz0 Ŭ=ā aTI) rfl bn6
theorem bTa:∀j:Nat,j<8->Am (.str aVp) ab3 (Ë xM):=by
 intro j a
 match j,a with
 | 0,_=>rfl
 | 1,_=>rfl
 | 2,_=>rfl
 | 3,_=>rfl
 | 4,_=>rfl
 | 5,_=>rfl
 | 6,_=>rfl
 | 7,_=>rfl
theorem bTb:∀j:Nat,j<10->bn7:=by
 exact a1z (P:=fun j=>bn7) rfl (Ii (Ii bn6))
def aGR(c j:Nat):ė:=pd j fun d=>c/2^d%2==1
theorem bz1(c j:Nat):aGR c aG=aCI++(if acO==1 then[j]else[]):=by
 rw[au (Hk (Ù aGR RQ amd)) z (ju acO 1)]
 ·rw[G6,K7 (a:=j) z];rfl
 ·rw[SR,avP (a:=j) z];rfl
theorem bTc(c j:Nat):Ą aCI<=j:=aio aGR (aS8 (QI bO))
abbrev St(p:DV)(t:ė)(x:Sv):ē:=[ħ p,Ij,x]
def ltB:dZ:=[bjs []]
theorem bTd{sd c:Nat}:∃z,Ð (UA 2 a F ltB (Rf 8) (St aCJ [sd] .no)) (St aCJ (sd::Ig) z):=by
 obtain⟨h,k,z,rfl⟩:=aA2 2 f (∃z,f=bn9 z) (body:=fun a=>aZ F ltB a) 8 0 (fun j g f I=>by
  rw[ň z rfl I abT]
  let S:=bn9 HR
  have o:=aE3 (aVq F S (cx:=.č) (bQ 0 aCJ) (oE 2) (d:=uX) rfl) (cU (bSL (F:=F) (δ:=S)) (xI 2 Ŭ) (bS9 j g)) ⟨bL (Nat.pow_pos (n:=j) (Yt (0<2))),by
   have:CU^j<=2^7:=sI Ă;have:CU^7=128:=ø;have:(128:Int)<2^200:=ø;omega⟩
  have b:=mV (adJ o (oE 2) Đ) jQ;have m:((bn8:Int)==1)=(acO==1):=by
   have:(bn8:Int)=Ĵ acO:=aSV;rw[au this w (acO=1)]
   ·rw[w];rfl
   ·rw[bE w,bE Ă]
  rw[ς m b hl (bTc c j)];cases e:(acO==1)with
  | true=>
   rw[e]at b;have l:=i_ (F:=F) (δ:=S) (bQ 1 (Ë (sd::(aCI).map (48 + ·)))) (uZ (be (x:=aVp)) (xI 2 Ŭ) (bTa j g)) (by
    refine ml _ ?_;simp only[ŀ,Ċ,wP];omega)
   rw[FN _ (DB b (mP i 1 l rfl) rfl) HR,bz1,e,jb,Χ];rfl
  | ă=>
   rw[e]at b;rw[FN _ (UC b) HR,bz1,e,MZ,aN];rfl) (aW .no)
 rw[Į z k]
theorem aGS{fu:Nat}:bn5 (ht p) 93
 | su,k+1,hp,_,_=>bn4 a0s (uZ (be (x:=aCx)) xL (bTb n (bL hp.2)))
 | oI,k+1,hp,hh,hk=>by
  have hb:=bzZ hh;rw[fj bn3 A (aGS (fu:=fu) a k oa Ă Ă) B (aGS (fu:=fu) b k ob Ă Ă),am a0s]
  let P:DV:=dv oI
  let sd:Nat:=İ s 114 99
  rw[đ z g (bTd (fu:=fu) (F:=ţ) (sd:=sd) (c:=c) (s:=amT) (x:=dv a) (y:=dv b))];have c0:mO k alp 3 [P]=rN:=acN Ew a1k;have c1:fP (abE 0) (St P [99] .no)=UZ s:=by
   cases s with
   | true=>exact acN lN apD
   | ă=>exact acN xu apE
  let t1:=sd::Ig
  have hlen:t1.length+Ą (tx a)+Ą (tx b)<=200000:=by rw[bn1];show Ą (sd::Ig)+_+_<=_;rw[Θ (mi ŀ Ċ)]
  have v1:fP Ľ aVs=sO t1:=sJ;have s1:=aVr 40 v1 "(" (ml _ (rh (mi ŀ wP)));have s2:=boc a s1 3 A;have s3:=aVr 44 s2 "," (ml _ aCK);have s4:=boc b s3 4 B;have s5:=aVr 41 s4 ")" (ml _ aCK);have et:bob (t1++[40])=tx oI:=by rw[O6];show bob ((sd::Ig)++[40])=_;simp[sd]
  rw[et]at s5;refine NQ c0 (ŏ (boa 99 "c") ?_);have rest:aZ ţ [Hy 2 [xv] ltB,.ret bjr] (St P [sd] .no)=ā (ze (Ë (tx oI))):=
   ab2 (aed (n:=8) (oE 8) Đ) g (ž (bC s5))
  cases s with
  | true=>exact DB c1 (ŏ (boa 114 "r") rfl) rest
  | ă=>exact eB c1 rest
universe k85
namespace k85
open PySem L2
theorem a1A(b:Ad)(h:ht p<=40)(hk:50<=k)(a dx:Nat):aSP [aCA (tx p) 0]=Υ (Ē [dv p,aCA (tx p) (Ih:Int)]):=by
 rw[yB q (a1t (fu:=100) (a:=a) (dx:=dx) (aGQ p b) Đ p 0 k [] b (Η aN) Ă) p_ q]
theorem bTe(a:Ad)(h:ht p<=40)(b:50<=k):acP xW [am4,ŭ]=Υ (Ē [dv p,ak Ih]):=by
 show Ea ŕ [mh,ŭ]=_;rw[O_ Ea];rw[į ⟨rfl,b,p,a,h,rfl⟩,a1A a h b];rfl
theorem bTf:∀(k:Nat) (t:Str) (j:Int) (o:Rm),aRL=ĕ->aRM (aSP [OM 639 a dx t j]) 639:=by
 intro k t j o h a dx;have b:F_ (Ea ŕ akG)=ĕ:=h;rw[jH Ea b (TJ b b)]
 ·rw[fM f (Š rfl d p c e rfl f),nN (a1A c e d)];rw[a1A c e d];rfl
 ·cases b
theorem a1B:uo:=ø
theorem bz2:Gd:=rfl
universe k85
namespace k85
open PySem L2
def tab(h w:Nat)(g:Au):ď:=Ĥ (Ο h) r (Ĥ (Ο w) c (g r c))
theorem bTg(h w:Nat)(g:Au):tm h w (tab h w g):=by
 rw[fR tab aST,Um a];rw[Ċ,bO]
universe k85
namespace k85
open PySem L2
variable {fu k:Nat} {F:Nat->List DV->Option Ou} {δ:List Sv} {ds:List DV} {cl:Cl}
theorem bz3{G:Gs}(f:gA a x cx)(e:gA b y cy)(d:gA c z g):uu (aSg a b c) (Ny x y z):=by
 rw[ff,f,aA,e,aA];show(match(Ε:agV)with
  | none=>none
  | nz=>Ε
  | dX=>aY _ fun z ζ=>Ĥ (AM .LtE _ z) k Ml)=_
 cases aq x y with
 | ă=>rfl
 | true=>
  rw[ff,d];rfl
def Wm:yS
 | FV=>ă | BR=>ă | FU=>ă | _=>true
def Jb:DV->Ħ
 | Ŧ=>ds | ο=>ds | _=>[]
def aGT(d:DV):Bool:=Ny 1 (am5:Int) 8
def bTh:yS
 | ĭ=>Ny 0 i 9 | _=>ă
def O7(d:DV):Bool:=Vh&&(qH).all bTh
theorem bTi(h:Wm w=true):UB 0 [w,ŭ,ć 9] (bTh w):=by
 rw[cS bwi];cases w with
 | int i=>rw[ij (aef rfl (sH rfl (bz3 (x:=0) (y:=i) (z:=9) ą ą ą)))]
 | ę=>rfl
 | bl b=>rfl
 | str s=>rfl
 | tup l=>rfl
 | lst l=>rfl
 | dJ a b=>rfl
 | fn c=>cases h
 | fx c=>cases h
 | lam a b=>cases h
theorem bz4(h:Wm d=true):UB 2 [d] Vh:=by
 rw[cS bwk];cases d with
 | int i=>rfl
 | ę=>rfl
 | bl b=>rfl
 | str s=>rfl
 | tup l=>rw[ij (bod (OW ą))]
 | lst l=>rw[ij (bod (lK ą))]
 | dJ a b=>rfl
 | fn c=>cases h
 | fx c=>cases h
 | lam a b=>cases h
theorem bTj{a:Type}{p:ſ a}{l:ī a}(h:ur (.lst aBm)):xC .any=oC (l.any p):=by
 rw[HU];show lM (D9 _)=_;rw[a0U,iO Ml akx];rfl
theorem a1C(h:acQ):1<=am5/\am5<=8:=by
 rw[eI aGT];rw[ĥ,zY,zY]at h;omega
theorem bz5(h:acQ):bU hY=È qH:=by
 cases d with
 | lst l=>rfl
 | tup l=>rfl
 | _=>cases h
theorem bz6(h:n<=8):Su:=L9
theorem bTk(h:Wm d=true)(hi:∀w∈qH,Wm w=true):Ê lD 3 [d] (.bl (O7 d)):=by
 rw[am bwl,boe ŕ (bz4 h)];unfold O7;cases a:Vh with
 | ă=>
  rw[Ę a b (ij (Wf b))]
 | true=>
  rw[a]at b;have e:=aVt ω (abo 0 ŭ abn) H_ a
   (fun w c=>τ [ħ w] (Dv ą Ņ (jW (x:=ć 9) rfl i9) (bTi (hi w c))))
  rw[ij (sH b (a0V e))]
structure bz7(d:DV):Prop where
 o:Wm d=true
 i:∀x∈qH,Wm x=true
 w:∀x∈qH,∀y∈Jb x,Wm y=true
theorem bTl(D:bz7 d):mO lD biB 1 [d]=oC (!(Vh&&(qH).all O7)):=by
 rw[boe lD (bz4 (k:=k+1) D.o)];cases a:Vh with
 | ă=>
  rw[Ļ a b (aX2 (vf b))]
 | true=>
  rw[a]at b;have e:=aVt bc (Ψ 3) H_ a
   (fun w c=>τ [ħ w] (ii ą (bTk (D.i w c) (D.w w c))))
  exact aE2 (vf b) (vf (a0V e))
theorem bz8(a:acQ)(h:aF=hY):iP (gI e) am5:=by
 cases d with
 | lst l=>exact lK h
 | tup l=>exact OW h
 | _=>cases a
def a1D(x:DV)(y:DV):Bool:=!((Ą (Jb y):Int)==(Ą (Jb x):Int))
theorem bTm(hd:qH=x::l)(f:acQ)(e:∀y∈x::l,O7 y=true):Ŀ biA (xA d)=oC ((x::l).any (a1D x)):=by
 have b:∀{y:DV},O7 y=true->aGT y=true:=fun {y} h=>by rw[dr O7 h ĥ];exact h.1
 have i:qL d ŭ=bI:=by
  cases d with
  | lst j=>
   rw[bog];rfl
  | tup j=>
   rw[bog];rfl
  | _=>cases hd
 have g:=aVt F bof uO f
   (fun w c=>⟨[ħ w,gz],rfl,by
    rw[Ļ hd c (i8 (bz8 (d:=w) (b (e w c)) ą) (bz8 (d:=x) (b (e x Α)) (cU (x:=d) (y:=ŭ) (cx:=.č) ą Ņ i)) rfl)]⟩)
 rw[Ļ hd g (bTj g)]
theorem bTn(D:bz7 d)(a:acQ)(b:∀x∈qH,O7 x=true)(c:∀x∈qH,Ą (Jb x)=m):Ê Uv 1 [d] (Ē (Ĥ qH x (Ē (Jb x)))):=by
 rw[am bwj];have h:=bTl (fu:=fu) (k:=k) D;rw[a,Ay b]at h;obtain⟨x,l,e⟩:∃x l,qH=x::l:=by
  cases q:qH with
  | nil=>rw[kR (a1C a).1 q];simp at this
  | cons x l=>exact cj x l
 have g:=bTm (F:=bc) e a (ŗ e b);have:(x::l).any (a1D x)=ă:=(by rw[aI5];intro y i;unfold a1D;rw[e]at c;rw[c y i,c x Α];simp);rw[this]at g;have n:=bsv (G:=G) (F:=bc) (δ:=xA d) (elt:=De gK) (tg:=eF) (it:=ĉ) (fr:=H_) (f:=fun x=>Ē (Jb x)) (ds:=qH) (cl:=.č) (bz5 a) Đ (bz6 (a1C a).2)
  (fun w j=>⟨[ħ w],rfl,by
   have q:=b w j;cases w with
   | lst l=>rfl
   | tup l=>rfl
   | _=>cases q⟩)
 exact NQ h (eB g (ž (bC (apd n))))
universe k85
namespace k85
open PySem L2
theorem bz9:gU "/"=stx [47]:=ĸ
theorem bTo:gU ""=acK:=ĸ
theorem bAa:gU ":"=stx [58]:=ĸ
def O8(w:Int):Nat:=48+w.toNat
def aer(r:Ď):ė:=CW O8
def txt(R:ď):ė:=aFE 47 N9
def bTp(R:ď):Prop:=∀r∈R,aCL
theorem bTq(c:Nat)(l:ui):my (stx [c]) acJ=stx (oj l):=by
 rw[←aGL (my _ _)];have:=aY2 c acJ;rw[Y4 (my (stx [c]) _) (my sj acJ),this,ų,bnV,List.map_id]
theorem bTr(g:acL [c])(f:Ul e (dS l) h)(d:(aVn).sum+Ű<=Ū):u4 (YS e) (oj l):=by
 rw[ff,bnW g f [c],t5 a1v,bzQ,Ċ,vt,į (Ł d),bTq];rfl
theorem bTs(h0:0<=x)(h9:x<10)(h:Lj x):u4 (ig [e]) Vi:=by
 rw[HU,zf (ō (x.natAbs<2^64) Ml) Ă,aVu];rw[bzS n Ă];rfl
theorem bAb:∀r:Ď,acM am6=Á
 | []=>rfl
 | a::r=>QF (bAb r) (1+acM am6=Á+1)
theorem bAc:∀r:Ď,(am6).flatten=sP
 | []=>rfl
 | a::r=>by show O8 a::(am6).flatten=O8 a::sP;rw[bAc r]
theorem bTt(r:Ď):(CW fun x=>acF Vi)=dS am6:=by
 rw[Hi dS]
theorem big(n:Nat)(h:Ak):Su:=L9
theorem bAd(h:nV d)(hd:d=sF r\/d=jN)(i:c=.č)(f:aCL)(b:Î Á):u4 (Ng e) sP:=by
 subst i;have g:=boi (ig gK)
  (xj h (aCM hd)) Đ (DN b) (qz x a [ļ x] (aVv (f x a) ą))
 rw[boh]
theorem bAe(r:Ď):Ą sP=Á:=amb
theorem sum_rows(h:Ic):acM N9=n*m:=by
 rw[gn d a h d];induction R with
 | nil=>simp
 | cons r R b=>
  have:=b fun x c=>a x (ť c);show Ą sP+acM N9=(Ia+1)*m;rw[this,bAe,a r Α,MW,Hn,aAL]
theorem bAf(R:ď):(amM (acF sP))=dS N9:=by
 rw[Hi dS]
theorem bAg(h:Ic)(d:n<=8)(e:m<=8)(f:DO):Ê ŕ 70 [tT R] acR:=by
 rw[cS bw5];have nm:n*m<=64:=þ (As d e);have b:=Ut l R F ţ δ (xA (tT R)) elt (Ng ĉ) tg eF it ĉ (fr:=H_)
  rfl Đ (DN (Ä h.1)) (qz r a aCb (bAd ą ŵ rfl (f r a) (Ä (h.2 r a))))
 rw[Ę bAf b (ij (boj b))]
theorem bTu(h0:0<=x)(h9:x<10)(h:Lj x):u4 (aAm e) Vi:=by
 rw[aVu,pK d (n<10) (ĺ (uZ rfl h ?_) a1o)];show(Ź (mT 10 Æ) j (Ĥ (bok:Lk)[j]? c (wO sj)))=Ε;rw[aGf d,jA];have:∀n,n<10->((bok:Lk)[n]?)=ā (48+n):=ø;rw[this n d];rfl
universe k85
namespace k85
open PySem L2
theorem a1E(h:N_ x):ag0 (O8 x):=by unfold O8;omega
theorem a1F(d:aCL)(b:c∈sP):ag0 c:=by
 rw[bx x a b];exact a1E (d x a)
theorem bTv:∀{l:ui},x∈oj l->x=c\/∃p∈l,x∈p
 | [],h=>aJ4
 | [a],h=>ķ ⟨a,azQ rfl,h⟩
 | ajn,h=>by
  rw[Za (asb (show x∈axq from h))]
  ·rw[Í ⟨a,Α,q⟩]
  ·rw[p8 q q q]
   ·rw[ŝ q]
   ·rw[aCN q z z]
    ·rw[ŝ z]
    ·rw[Í ⟨p,ť hp,z⟩]
theorem bAh:∀l:ui,Ą (oj l)<=(fg Km).sum+Ű
 | []=>cg
 | [a]=>by show ad<=_;simp
 | ajn=>by have d:=bAh (c:=c) abP;show Ą axq<=_;rw[Ÿ,ŀ];simp only[Ö,C9,ŀ]at d ⊢;omega
theorem bAi(h:l≠[])(a:ajm p l):rF (oj l)=l:=bua c _ _ (aFC c _) h (aFD c _) a (aFF c _)
theorem a1G(e:DO)(hc:c<48\/57<c):ajm p N9:=fun p d a=>by
 rw[bx r b d,av (a1F (e r b) a)]
theorem bTw(a:R≠[])(b:DO):D7 47 AF=N9:=bAi (by intro z;exact a (acb z)) (a1G b (ı Đ))
theorem bTx(a:DO):58∉AF:=fun h=>by
 rw[aCN h z z]
 ·cases z
 ·exact a1G a (ķ Đ) p hp z
theorem bAj(h:Ic)(a:n<=8)(b:m<=8):Ą AF<=100:=by
 have nm:n*m<=64:=þ (As a b);have:=bAh (c:=47) N9;rw[sum_rows h,Ċ,h.1]at this;show Ą (aFE 47 _)<=100;omega
theorem bTy(f:acL l)(e:qG b [c] cb)(d:Î Ű):bom:=by
 rw[ff,f,aA,aVw,e,aA];show lM bol=_;rw[vt,vq,į (DN d)];rfl
theorem bTz(e:acL [c])(d:qG b l cb):bnN:=by
 rw[ĺ (i8 e d ?_) (iO _ vq)]
theorem bTA:∀n,n<10->OI (48+n) N3=Ĵ n:=ø
theorem bTB:rQ alv (Ë N3):=by
 rw[←a1o];rfl
theorem bTC(h:N_ x)(d:qG e Vi c):iP (alw e) x:=by
 rw[ff,bTB,aA,aVw,d,aA,iO (qm (É (OI _ N3))) aVu,bK (O8 _=48+n) rfl,bTA n Ă]
theorem bTD(h:Ic)(o:0<n)(u:n<=8)(p:0<m)(v:m<=8)(w:DO):Ê Uv 1 [rL R] Id:=by
 have c:Jb (rL R)=amM jN:=rfl;have g:∀r:Ď,Jb jN=iD r:=Qh;have l:∀r:Ď,Ą sE=Á:=fun r=>amb;have b:∀{d:DV} {j:Nat},am5=j->0<j->j<=8->acQ:=fun {d j} e h1 h2=>by unfold aGT;rw[ĥ,zY,zY,e];omega
 have q:=bTn (fu:=fu) (k:=k) ⟨rfl,fun x a=>by rw[boo];rfl,fun x a y f=>by
   rw[boo,Ę g f (qy z f)];rfl⟩
  (b (by rw[c,Ċ,h.1]) o u)
  (fun x a=>by
   rw[bon,Ù O7 ĥ wQ,t7 (b (by rw[g,l,h.2 r i]) p v) y f,Ę g f (bx z s f)];have:=w r i z s;show(Ny 0 z 9)=true;rw[ĥ,zY,zY];omega)
  (fun x a=>by rw[bon];rw[g,l,h.2 r i])
 rw[q,c,ų];rfl
universe k85
namespace k85
open PySem L2
theorem bTE:fQ (.adw b)=aol (pT b):=rfl
theorem bTF(h:Ic)(j:0<n)(g:n<=8)(p:0<m)(i:m<=8)(d:DO):Ê (k+4) 71 [acR] Id:=by
 rw[am bw6];have u:R≠[]:=fun z=>by rw[bil h];omega
 have tl:=bAj h g i;have v:=bop R r sP (fun r=>jN) aCP boq (aAh "/") Ŋ
  (by rw[bTy (l:=AF) (c:=47) ą (oX bz9) Ă,bTw u d,←bAf];rfl) Đ (DN (Ä h.1)) (fun r e=>⟨[im sP],Ŋ,rfl,?_,rfl⟩)
 ·rw[ĺ (Ñ (ve (δ:=aCP) rfl UP)) bTE];have b:=ve (G:=G) (F:=jP) (fu:=fu) (a:=[T_ 72 [aAh ":"]]) (δ:=aCP) (r:=[bi3]) (c:=bi4) (o:=ā (ze Id))
   (Ω (x:=ă) (cl:=.č) (by
    rw[yB q (bTz (F:=jP) (δ:=aCP) (a:=.str ":") (b:=ĉ) (c:=58) (l:=AF) (ca:=.č) (cb:=.č) (oX bAa) ą) (eM (bTx d)) q]))
   (ž (bC (aCO v (bTD h j g p i d))))
  rw[b];rfl
 ·have q:=bop r x Vi É [im sP] (alw ĉ) ĉ .č
   (by
    rw[iO _ vq,Hi aer]) Đ (DN (Ä (h.2 r e))) (qz x s [im Vi] (bTC (d r e x s) ą))
  exact q
universe k85
namespace k85
open PySem L2
theorem bTG(p:Pl)(h:Ad)(b:ht p<=12)(h2:lv p<=301)(hk:15<k):Ê ŕ 63 [dv p] Ie:=by
 rw[cS bw1];have c:mO k bi1 1 [dv p]=Ç 301:=rfl;rw[yB a (bx2 (ii ND (a1m p k Ă)) c) ub (NQ (aVc (Ar (a1l p 12 k h b Ă))) (eB a (ž (Ų (Ib (aA0 (dv p))) (ql p)))))]
def a1H(p:Pl):Prop:=ht p<=12/\lv p<=301
theorem bTH(c:Ad)(ok:a1H p)(h1:52<=k):acP 75 [am4]=Υ Ie:=by
 rw[RY k e k];have P:=bTe (k:=k) c (bL ok.1) Ă
 let t:DV:=am4
 let S0:ē:=aL 3 [t]
 let S1:ē:=[ħ t,avs t ŭ,.no]
 let a:ē:=[ħ t,avs t (ak Ih),ħ Ie]
 have f:UX acP bi7 a=rN:=by
  have q:=i8 (op:=agX) (bGa (G:=G) (F:=acP) (δ:=a) (i:=1) a1B rfl) (a1p ND) (t:=ă) (by
   rw[vt,iO (!(Ĵ Ih==Ĵ Ih)) ue];rfl)
  exact q
 have m:=bTG (fu:=100) p c ok.1 ok.2 (k:=k) Ă;have b:bor=ā (ze Ie):=ž (Ų (Ib (AA (i4 (bQ 2 Ie)) m)) (Ń bSJ));rw[ľ (am bw7) (Ñ (aTP (ŏ (bF8 a1B bz2 ą rfl (Η P)) (ŏ (bF9 Đ a1B bz2 rfl P) (eB f UP)))))];show aol bor=_;rw[b];rfl
def pl:Pn->Pl
 | u3=>u3
 | oI=>acI (pl a) (pl b)
theorem bAk(s:Bool):sd s=amT:=ql s
theorem aes:∀p:Pn,dv DP=p.D
 | u3=>rfl
 | oI=>by show C5=C5;rw[aes a,aes b,bAk]
theorem O9:∀p:Pn,ht DP=mQ
 | u3=>rfl
 | oI=>by show max _ _+1=1+bos;rw[O9 a,O9 b,aAL]
theorem apI(d:n<=8)(e:m<=8):∀p:Pn,acw->am7
 | u3,h=>h
 | oI,h=>by
  rw[Ĩ i h2 g f h];have:2^(İ s n m)<=2^8:=sI (by split<;>assumption);have q:CU^8=256:=ø;exact⟨i,Ă,apI d e a g,apI d e b f⟩
theorem bTI(h:AD):a1H DP:=by
 refine aD (Ä O9);rw[kR (apH DP) O9];have h2:2^mQ<=2^8:=sI h;have:CU^8=256:=ø;omega
universe k85
namespace k85
open PySem L2
variable {fu k n m:Nat} {F:Nat->List DV->Option Ou} {δ:List Sv} {rows:List (List Int)}
theorem bTJ(s:Bool):lF (sd s) dM=ā s:=by cases s<;>decide +kernel
def bAl:dZ:=biX 6 4 2 3
def Pn.bt:Pn->Fa Ď
 | Dd,_,_=>[]
 | aCc,i,j=>(NX 1 0)::(NX (y.bt i j) (n.bt i j))
theorem bAm(P0:DV)(i j:Nat):∀(p:Pn) (z:Nat) (bs:Ħ) (x y:Sv),mQ<z->Î (R4+mQ)->∃o a,Ð (bou g biY bAl z (am9 P0 bs p.D x y)) (am9 P0 (bs++iD Ik) (Pn.fin qF).D o a)
 | p,0,bs,x,y,h,_=>aaf h
 | u3,z+1,bs,x,y,_,_=>⟨x,y,Ć (bK (bs++aVx (Pn.fin w)=bs) (aN _)) (aX3 (Ω (i8 (p0 (p:=u3) ą) be bR5)))⟩
 | acI n a,z+1,bs,x,y,h,B=>by
  have hd:bot<z+1:=h;have B:Î (R4+bot):=B;obtain⟨t,ht⟩:∃t:Nat,t=aVz:=ce
  let D (l:Ħ) (u v:Sv):ē:=(am9 P0 l (aCQ).D u v)
  have m:∀l u v,Ŀ ah (D l u v)=ā (Rr (aCQ).D):=fun l u v=>sJ;have L:amI (.ite (abE 4) Ľ ģ) (D bs x y) t:=by
   have A:=Ω (i8 (p1 (m bs x y)) (be (x:=lN)) (bTJ s));rw[ht];cases s with
   | true=>exact apu A ą
   | ă=>exact apv A ą
  have K:Ŀ (alm (Dh 4) cR ù) (D bs AC y)=Ç aCS:=(by have H:=bx8 (p2 (m bs AC y)) (am2 5 t) (pu t);rw[AY (aTO H jQ (r:=Ç (yx (Nz c t) 1)) rfl) aGo]);have k:Ð (aZ F bAl (D bs x y)) (am9 P0 aCU (aCR).D AC aCT):=by
   rw[ĺ (ÿ L (ÿ K (ŏ (aTt aVy rfl ą rfl (uK (ź (Î R4)) Đ)) ?_))) (Ĕ b (m aCU AC aCT) q (mV (NP F (D aCU AC aCT) 6 aVy) jQ))];cases C:lB t with
   | true=>rw[C]at q b;exact ÿ (apu (Ω q) (p4 b)) rfl
   | ă=>rw[C]at q b;exact ÿ (apv (Ω q) (p3 b)) rfl
  rw[Ė o E I (bAm P0 i j aCR z aCU AC aCT (by rw[BN]) (by rw[Ÿ];show Î (R4+1+_);rw[BN]))];refine cY E (aX4 (Ω (i8 (p0 (p:=acI n a) (m bs x y)) be bR6)) k (I.trans ?_));have e:(aCR).AW i j=(aCQ).AW i j:=by show _=(NX (a.AW i j) (n.AW i j));rw[ht,am8];cases lB u<;>rfl
  have J:bs++[É aCS]++aVx aCR=bs++aVx aCQ:=by
   rw[Hk rq];show _=É (NX 1 0)::iD (NX (a.bt i j) (n.bt i j));rw[ht,am8];cases lB u<;>rfl
  rw[e,J]
theorem bAn{p:Pn}{i j:Nat}(h:mQ<fu)(hl:aCW):Ê ŕ 53 ana aCV:=by
 rw[Ė x y e (bAm p.D i j p fu [] .no .no h (yK (Î (0+_)))),gb QL e (NO bs f (iD Ik) bs)];rw[f]at e ⊢;rw[ľ (cS bwY) (qA (Eg aBz) (ÿ (bQ 0 p.D) (aX5 e ?_)))];have c:=aVq ţ bov (a:=ah) (b:=gV) (d:=ć qF) ą Ņ rfl;have g:fP biW bov=ā (.ok (zi (.lst bs) qF) cJ):=by show BP (aS7 [Ō,jM 4] _) _=_;rw[(Β DG c)];rfl
 exact ž (bC g)
theorem bTK{p:Pn}{i j:Nat}(h:mQ<fu)(a:aCW):Ê lD 54 ana (ć qF):=by
 rw[iZ,ij (Vj (Ar (bAn h a)))]
theorem bAo:∀(r:Ď) (k:Nat),i7 k sE=Ĥ aCa c (zi (cn (k+c)) (U1 c))
 | [],_=>rfl
 | x::r,k=>by
  show C5::i7 ŕ sE=_;rw[bAo r ŕ,ŀ,La,Ö,ų,aTX c,bmL];rfl
universe k85
namespace k85
open PySem L2
variable {fu k n m:Nat} {F:Nat->List DV->Option Ou} {δ:List Sv} {rows:List (List Int)}
theorem bAp{c:Type}{P:ſ c}{h:c->DV}{I:avO}:∀{l:LG} {δ:ē},(∀d∈l,∀δ,I δ->∃δ1,Up (h d) δ=ahw/\((P d=true/\∃a,aLI/\I a)\/P d=ă/\avp=ā (ze v)))->I δ->(Q1 P=true/\∃δ',Gi (wJ Ao δ)/\I δ')\/Q1 P=ă/\wJ Ao δ=ā (ze v)
 | [],δ,_,f=>ı ⟨rfl,δ,rfl,f⟩
 | d::r,δ,g,f=>by
  rw[Ė δ1 b q (g d Α δ f),Ö,aNC];rcases q with⟨z,a,e,i⟩ | ⟨z,e⟩
  ·rw[OY b e,z,CK];exact bAp (fun d hd=>g d (ť hd)) i
  ·rw[Ĉ z (ķ (cG (byl b e)))]
def sB(p:Pn)(n m:Nat)(rows:ď):Bool:=ahy n fun i=>bow
theorem bTL(a:bna):sB p n m rows=true:=Ay fun i c=>Ay (l_ j b (a i j (ay c) B5) (ue _))
theorem bAq(A:Ü)(n8:n<=8)(m8:m<=8){p:Pn}(h:mQ<fu)(K:aCW):Ê Uv 55 [p.D,ba] (.bl (sB p n m rows)):=by
 rw[am bwZ]
 let D (u v x y:Sv):ē:=[ħ p.D,eD,u,v,x,y]
 let F:=bc
 have w:acr (Ŀ (.sW Ľ) aVB) n c (Ē [uX,HJ c]):=(boB abJ a01 A.1);have H:=boA i bow c [uX,HJ c] (∃u v x y,b=D u v x y) 2 3 biZ n (δ:=aVB) (fun i o b ⟨u,v,x,y,e⟩=>by
  rw[ş e (Ĕ o (ay o) C (apn A o))];have g:acr (Ŀ (.sW Ō) aCX) m c (zi uX (jD HN c)):=boB (iD HN) bAo C;have J:=boA j (qF==HI) j (dg Ŭ HI) (∃x y,b=aCX) 4 5 boz m (δ:=aCX) (fun j hj b aVA=>by
   subst e
   let E:=boy HR (ļ HI)
   rw[Ĕ B (HW F E 54 [ĉ,ģ,ah] box (bTK (k:=k) h K)) ne (aeh B (xI 5 HI))];refine τ E ?_;rw[bH bne ne];cases t:(qF==HI)with
   | ă=>rw[Ę t ne (Í (cG (amt ne Dk)))]
   | true=>rw[Ļ t ne (ı ⟨rfl,E,UC ne,_,_,rfl⟩)]) (cj x y)
  refine τ aCX ?_;rcases J with⟨z,a,s,x',y',rfl⟩ | ⟨z,s⟩
  ·rw[ŝ ⟨z,_,V1 g ŵ s rfl,_,_,_,_,rfl⟩]
  ·rw[Í ⟨z,a0T g ŵ s⟩]) (aeN _ _)
 unfold sB;rcases H with⟨z,a,e,u,v,x,y,rfl⟩ | ⟨z,e⟩
 ·rw[Ĉ z (Ñ (V1 w ŵ e Dk))]
 ·rw[Ĉ z (Ñ (a0T w ŵ e))]
theorem bTM{i:Nat}(h:i<8):bc 7 (dg ae 8)=avI:=by
 rw[cS bwp];have e:=uY ω (NB (dg ae 8)) f 0 (es:=[ĉ,ŭ,alc]) rfl rfl (a0E (x:=ae) (a:=0) (b:=7));rw[ph ud (Þ (cP (ae<=7))) e (aXZ (ve (DH (vf e)) rfl))]
theorem bAr{p:Pn}{i j:Nat}(hi:i<8)(b:j<8)(h:mQ<fu)(a:aCW):Ê Uv 52 ana aCV:=by
 rw[cS bwX]
 let S:=aL 3 ana
 exact qA (boC az ae hi) (ŏ (boC ģ Ŭ b) (AE (Dz δ S es T7 l box rfl (bAn (k:=k+1) h a))))
theorem aGU:aVC (∀x∈Ik,N_ x)
 | Dd,_,_,_,h=>bV
 | oI,i,j,x,h=>by
  have h:x∈_::_:=h;revert h;rw[am8];cases lB u with
  | true=>
   rw[boD]
   ·rw[h];decide
   ·exact aGU b i j x h
  | ă=>
   rw[boD]
   ·rw[h];decide
   ·exact aGU a i j x h
theorem a1I:aVC (Ą Ik<=mQ)
 | Dd,_,_=>Ķ
 | oI,i,j=>by
  show Ą (NX (b.bt i j) (a.bt i j))+1<=1+bos;rw[Ĕ h1 (a1I a i j) h2 (a1I b i j),am8];cases lB u with
  | true=>show Ą (b.bt i j)+1<=_;omega
  | ă=>show Ą (a.bt i j)+1<=_;omega
theorem aGV:aVC (acw->N_ qF)
 | u3,_,_,h=>⟨h.1,QF h.2 (w<10)⟩
 | oI,i,j,h=>by
  show N_ (NX (b.AW i j) (a.AW i j));rw[am8];cases lB u with
  | true=>exact aGV b i j h.2.2.2
  | ă=>exact aGV a i j h.2.2.1
def bAs(p:Pn)(i j:Nat):ė:=aer Ik++[32]++[O8 qF]
theorem apJ:gU " "=stx [32]:=ĸ
theorem bAt(b:acw)(hl:mQ<=900)(e:œ e1=È (dG Ik))(d:gA e2 qF c2) :
  u4 (.bT (HF (Ng e1)) (ig [e2])) anb:=by
 rw[fj (Ĕ bl (a1I p i j) a (bAe Ik)) s (bAd e gw rfl (aGU p i j) Ă) c (i_ s (aVD (œ HE)) (NV a boE))];exact i_ c (aVv (aGV p i j b) d) (cH Ÿ a (þ boE))
theorem bTN{p:Pn}(a:acw)(b:mQ<=900):Ê ŕ 86 [aCV] (Ë anb):=by
 rw[iZ,ij (bAt a b xL xL)]
universe k85
namespace k85
open PySem L2
variable {fu k n m:Nat} {F:Nat->List DV->Option Ou} {δ:List Sv} {rows:List (List Int)}
theorem bTO(g:acL l)(f:qG b [c] cb)(e:Ld):bom:=by
 rw[ff,g,f];show(SA bol Ŋ)=_;rw[į (zr vt),vq];rfl
theorem a1J(d:aCZ=true)(h:ţ 81 [JF]=xN):Ê ŕ 97 [JF,ő] iK:=by
 rw[anc (cS bxk) [ħ JF,ħ ő,ħ ő]];have c:lF ő ő=dX:=(by show(yW (bW aCZ aCZ) (bF x x))=_;rw[d,į EC,amp]);have a:∀b:ē,UH b 0 JF->fP (Ψ 81) b=avW:=fun b e=>AA (i4 (gO e)) h;exact Ñ (aCY S (a _ rfl) (AE (aVd (bSM ą rfl) (sH (i8 (sN 2) N7 c) (i8 (a S rfl) N7 c)))))
abbrev Th:=Str×ė×DV
def qT(v:ė)(L:ī Th):ė:=Vk (v::ane)
structure bTP(fu k:Nat)(v:ė)(L:ī Th):Prop where
 hv:32∉v
 hw:∀t∈L,32∉bN
 hl:Ą anf<=Ū
 hg:aVG=ā (Ē aVF)
 AX:Hh<=10
 r:∀t∈L,ţ 82 aVE=Υ kX
theorem bAu:∀L:ī Th,boG=boF
 | []=>rfl
 | t::L=>by show C5::sX _ (dS _)=_;rw[bAu L];rfl
theorem bAv(A:aVJ L)
  (B:wM (aZ ţ [bjd,bjc] [im anf,Aw aVH,im v,Aw (oe t kX)])=o) :
  aVI L=o:=by
 rw[am bxc]
 let F:=ţ
 let q:DV:=Ë anf
 let W:DV:=.lst aVH
 have u:D7 32 anf=v::ane:=bAi iU fun p w=>by
  rw[Fk w]
  ·rw[Ĉ e A.hv]
  ·rw[bx t ht e];exact A.hw t ht
 have J:Ŀ (.aEw ĉ HE) (aL 4 [q])=ā (CV W):=(U' (bTO (F:=F) (δ:=aL 4 [q]) (a:=ĉ) (b:=HE) (l:=anf) (c:=32) ą (aVD (Ŀ HE _)) A.hl) u)
 let S1:ē:=[ħ q,ħ W,.no,.no]
 let g:ē:=[ħ q,ħ W,im v,.no]
 have I:Ŀ T6 S1=sO v:=U_ (bQ 1 W) byw;have r:∀j:ē,ĳ j 2 (im v)->Ŀ alr j=È (Ē aVF):=fun j h=>by show akO ģ j y (aXR G y)=_;rw[U6];show eK aVG d Lg=_;rw[A.hg];rfl
 have H:Ŀ (.aXv ģ) g=rN:=(by show akO ģ g y ave=_;rw[sN 2];show(if ahh then none else yW (aVG).isSome (qm rg))=_;rw[z9 (by have m:=A.hg;rw[Ī z m m]),A.hg];rfl);have E:Ŀ bje g=rN:=(by rw[Ĕ a (lK (NP F g 1 W)) b (sY (OW (r g rfl)) jQ)];have c:=aeh a b;have m:(Ą aVH:Int)=(Ą (oe t (wO t.1)):Int)+1:=(ZC dS);rw[ph m aMv c c]);have s:bU (Ŀ (.zp alr abx) g)=È boF:=(by have a:=r g rfl;have b:uV (Ŀ abx g) (dS ane):=apq (h:=1) (bQ 1 W) Ņ;show bU (za (Ŀ alr g) c (Ŀ abx g) K (aLh K))=_;rw[a,b,iO (Ri.ok boG .č) bAu]);have C:=Aq F g l L h (fun t=>Ē aVE) f (fun t=>kX) elt (abu 82) tg Dg fr abz s Đ (þ A.AX) (qz t ht [ħ aC0,im bN] (aC1 aC0 (Ë bN) rfl rfl (A.r t ht)));rw[←B];congr 1;exact aTP (aCY S1 J (aCY g I (eB (bx5 H (bx6 E)) (ÿ C rfl))))
theorem bTQ(A:aVJ [t])(h:ţ 84 [Ë v,kX]=xN):aVI [t]=xN:=by
 rw[q5 (bAv A (Ñ (V0 (Ω (x:=true) rfl) UP))) (bC (aC1 (Ë v) kX ?_ rfl h))];exact Β ą (U_ ą rfl)
theorem bAw(A:aVJ acS)(h:ţ 85 [Ë v,aC2]=xN):aVI acS=xN:=by
 refine bAv A (Ñ (ve (DH ?_) UP))
 ·have c:=mV (lK (NP ţ [im (qT v acS),Aw (dS (v::Ĥ acS t bN)),im v,ħ aC2] 3 aC2)) jQ;rw[show k6 (Ą (Ĥ acS t kX):Int) 1 by rw[aOu];rw[nX]]at c;exact c
 ·rw[eS (Ib (aC1 (Ë v) aC2 ?_ rfl h)) U0]
universe k85
namespace k85
open PySem L2
variable {fu k n m:Nat} {F:Nat->List DV->Option Ou} {δ:List Sv} {rows:List (List Int)}
theorem bTR(h:nV d)(hd:d=sF r\/d=jN)(i:c=.č)(f:aCL)(b:Î Á):u4 (boH e) sP:=by
 subst i;have g:=boi (aAm ĉ)
  (xj h (aCM hd)) Đ (DN b) (qz x a [ļ x] (bTu (f x a).1 (f x a).2 ą))
 rw[boh]
theorem bAx(p:X=.lst (R.map w)\/X=Ē (R.map w))(hw:∀r,w r=sF r\/w r=jN)(h:Ic)(l:n<=8)(o:m<=8)(u:DO):Ê ŕ 92 [X] acR:=by
 rw[am bxi];have nm:n*m<=64:=þ (As l o);have i:∀(A B:ď) (z:Sv),A++B=R->∃a,Ð (UA 2 b ţ [bjq] (B.map w) [ħ X,fq (dS aVK),z]) [ħ X,fq (dS N9),a]:=by
  intro A B;induction B generalizing A with
  | nil=>intro z e;rw[Ę aN e (eN e (aW z))]
  | cons r B j=>
   intro z e;have g:r∈R:=ba4;have s:A.length<8:=(by have:=Bz Km e;rw[Ÿ,ŀ,h.1]at this;omega);rw[đ a q (j (A++[r]) (ħ (w r)) (zr rq))];refine aD a;rw[Ö];refine Ų (OY (d:=w r) rfl (ŏ (aoo (cl:=.č) rfl (bTR ą (hw r) rfl (u r g) (Ä (h.2 r g))) rfl (JI dS Ċ Ċ (GX s))) rfl)) ?_;rw[Χ]at q;have v:dS (aVK++[sP])=dS aVK++[Ë sP]:=uL dS Χ;have f:=q;rw[Y4 (ay9 aer [r]) [sP],v]at f;exact f
 rw[pC a q (i [] R .no rfl) (qA aAM (alP (R.map w) (by rw[aCM p]) q (ž (bC (boj DG)))))]
theorem a1K(c:HY)(f:Mx):∀k R C,ab8 k R C<=2^k
 | 0,_,_=>cg
 | k+1,R,C=>by
  show NK _<=2^ŕ;have p1:=Nat.one_le_two_pow (n:=k);have p2:2^ŕ=2*2^k:=ŷ Ax Nat.mul_comm;rw[g_ Wh]
  ·rw[Lv c]
   ·exact cg
   ·rw[pH (1<=_)]
  ·cases q:Ĥ DA w (J.j _ (ab8 k UJ UI))with
   | nil=>exact cg
   | cons x r=>
    rw[←q,Ė w hw e (Gq ((a0M (xj q (E2 z))).1)),←e,Ĕ a (a1K c f k UK xG.2) b (a1K c f k UJ UI),Lv c]
    ·rw[pH (1+max _ _<=_)]
    ·rw[pH (_+_<=_)]
theorem a1L(e:HY)(d:a<=5)(c:b<=5):UL (i5 a) (i5 b)<2^64:=by
 rw[Ĕ pa (mY d) pb (mY c)];exact uK (a1K e f _ _ _) (aT3 Ă)
def nx(n:Nat):Str:=auV Æ
theorem bAy(n:Nat):(wO (nx n)).plain 60=true:=by
 have e:(Gw _).cps.toList=(afG Æ).toList.map Char.toNat:=cpsOfBytes_string _;show(Gw _).cps.all _=true;rw[←bnK,e,wQ];intro c a;rw[qy d a];exact Þ (by rw[yP d.valid];exact Y_ h Đ;exact h.2)
theorem aGW(hn:n<2^64)(h:Lj Æ):rQ (ig [e]) (.str (nx n)):=by
 rw[HU,zf bnX Ă];rfl
theorem bTS:∀n,n<10->adD (stx acG)=ā (Ĵ n):=ĸ
theorem bTT(h:Il):Ê ŕ 83 [Ë Vl] Az:=by
 rw[aCH n rfl w w.toNat,anc (pK d (n<10) (cS bxd)) [im acG]];have a:=aeh (a1p (aC3 ţ S 0 rfl)) jQ;have b:fP aSB S=rN:=by
  rw[boI n]
 exact NQ (bx5 a (bx6 b)) (ž (bC ((by show alQ (aS7 gK S) (intD l)=_;rw[al5];show eK (adD (stx acG)) n (qm ux)=_;rw[bTS n d];rfl))))
theorem bTU(S:ē)(h:UH S 0 agR)(c:lF agR (.str b)=bI):fy (Ŀ (Aj (.str b)) S)=ā (.ok x):=Ω (a1x U6 c)
theorem bTV(h:Ic)(a:0<n)(c:n<=8)(b:0<m)(d:m<=8)(e:DO):Ê (k+5) 82 [sD,acR] Id:=by
 rw[Ĉ iZ (Ñ (Nl aVL (ii ą (bTF h a c b d e))))]
theorem bTW(a:Ad)(ok:a1H p)(b:52<=k):oM 2 82 [Ua,am4]=Υ Ie:=by
 rw[Ĉ iZ (Ñ (DQ (ang (ž (Ų (Ib (ii ą (bTH a ok b))) (Ń AI))))))]
theorem a1M(h:Il)(a:f = "WORD" \/ f = acT):Ê lD 82 [.str f,Ë Vl] Az:=by
 rw[iZ];rcases a with rfl | rfl<;>exact Ñ (DQ (DQ (ž (bC (ii ą (bTT h))))))
universe k85
namespace k85
open PySem L2
variable {fu k n m:Nat} {F:Nat->List DV->Option Ou} {δ:List Sv} {R:List (List Int)} {w:Int} {t:List Nat}
def bAz:ğ:=[Uf,Ue,Nh,Ud,Ni,x8,x4,Uc,Ub,tE]
def vb(i:Nat):ė:=(bAz.getD i "").cps.toList
theorem a1N(i:Nat):stx acU=bAz.getD i "":=aGL _
theorem apK:∀i,i<10->32∉vb i/\Ą acU<=5:=ĸ
theorem bTX:∀i:Nat,i<10->Gk (bju .str) ae=ā anh:=by
 intro i hi;rw[a1N,boI i]
def two(i:Nat):Bool:=i==4||i==5
def qs(i:Nat)(t:ė)(w:Int):ė:=if Vm then boJ else Vk [vb i,t]
theorem bTY{i:Nat}(hi:i<10)(hw:Il)(ht:Î aC6):Ê ŕ 96 [xF,Ë t,Az] anj:=by
 rw[anc (am bxj) [Nq,Ij,jR,aC5]];have hv:=(apK i hi).2;have big:∀n,n<=1010->Su:=fun n h=>L9;have b:∀F,Ŀ HE S=sO [32]:=fun F=>oX apJ;have s1:=i_ (F:=ţ) (gO (δ:=S) (n:=3) (d:=anh) (G:=G) rfl) NA aC4;have c:=i_ s1 (bQ 1 (Ë t)) aC4;rw[ĺ (Ñ (aCY S (aVM rfl ą (bTX i hi)) ?_)) (Ĕ j (boK 4) g (boK 5))];have f:((ae==4)||(ae==5))=Vm:=xj (š two CM) nX;have a:=aBK j g;rw[f]at a;unfold qs;cases z:Vm with
 | true=>
  rw[ς z a e (i_ (i_ c NA aC4) (aVv hw (xI 2 w)) aC4),jb,ani boJ ((vb i++[32])++t++[32]) Vl acU (t++32::Vl)];exact amt a (ž (bC e))
 | ă=>
  rw[z]at a;rw[MZ,ani (Vk [vb i,t]) (vb i++[32]) t acU t];exact eB a (ž (bC c))
structure Tx(k:Nat)(t:ė)(R:ď):Prop where
 sp:32∉t
 ln:aC6<=200
 rd:u6 k 82 [sD,Ë t]=Υ Id
theorem bAA(hi:i<10)(a:Vm=ă)(X:Tx k t R)(h:u6 k 84 [anh,tT R]=xN):acP 81 [anj]=xN:=by
 rw[đ b v2 (apK i hi)];have q:=bTQ (t:=(Vn,t,tT R)) ⟨b,l_ t ht (aI ht) X.sp,þ (boM t),?_,SC 1 10,l_ t ht (aI ht) X.rd⟩ h
 ·rw[boL]
 ·rw[a1N,aC7 i];rcases this with rfl | rfl | rfl | rfl | rfl | rfl | rfl | rfl | rfl | rfl<;>first | rfl | cases a
theorem bTZ(a:Vm=true)(hw:Il)(X:Tx lD t R)(h:oM 2 85 [anh,.lst aVO]=xN):oM 3 81 [anj]=xN:=by
 rw[đ b v2 (apK i ((by rw[bH two a];simp at a;omega)))];have q:=bAw (s:=(Vn,t,tT R)) (t:=("WORD",Vl,Az)) (L:=[]) ⟨b,Ĝ s hs,þ (boM (t++32::Vl)),?_,SC 2 10,Ĝ s hs⟩ h
 ·rw[boL]
 ·rw[Oa]
  ·exact X.sp
  ·rw[aI hs];have:=a1E hw;rw[aVN]
 ·rw[a1N];have:i=4\/i=5:=by rw[bH two a];simp at a;exact a
  rw[aCM this]
 ·rw[Oa]
  ·exact X.rd
  ·rw[ML hs (a1M hw ŵ)]
universe k85
namespace k85
open PySem L2
variable {fu k n m:Nat} {F:Nat->List DV->Option Ou} {δ:List Sv} {R:List (List Int)} {w:Int} {t:List Nat}
def bT0:iN:=[iX 70,als 70 12,aC8 42,aC8 43,ŭ,ŭ,aC8 48,aC8 76,aSD,als 74 44]
theorem bAB(hi:i<10)(a:Vm=ă)(h:fP (bT0.getD i ŭ) [aC5,gz]=avW):ω 84 [anh,d]=xN:=by
 rw[iZ,aC7 i];rcases this with rfl | rfl | rfl | rfl | rfl | rfl | rfl | rfl | rfl | rfl<;>first | (cases a;done) | skip
 all_goals
  rw[acV bxe]
  repeat (first | exact ang (ž (bC h)) | refine DQ ?_)
  try exact ž (bC h)
structure Way(k i:Nat)(t:ė)(R:ď)(w:Int)(x:Str):Prop where
 a:anl 81 [anj]=xN
 d:ank 95 aVP=xN
 p:aCZ=true
structure Sm(n m:Nat)(R:ď):Prop where
 rc:Ic
 w9:W9 R
 n0:0<n
 n8:n<=8
 m0:0<m
 m8:m<=8
theorem Wn(h:W9 R):DO:=fun r b x a=>bL (h r b x a)
theorem Sm.tr(S:u7):Sm (Ą (FI R)) (Ą aVQ) (Wg m R):=by
 rw[Ĕ a (aph R) b (aph (amG R))];have r:=S.rc.1;rw[uG tq b ⟨byi,a0S S.rc S.w9,IZ (Ć r S.n0),bL S.n8,IZ (Ć tq S.m0),aC9⟩]
theorem bT1(h:DO)(b:c∈AF):c<0x110000:=by
 rw[aCN b e h1]
 ·rw[e];decide
 ·rw[bx r a hp,av (a1F (h r a) h1)]
theorem apL{N:Nat}(a:(i,f)=(2,42)\/(i,f)=(3,43)\/(i,f)=(6,48)\/(i,f)=(7,76))(X:sQ)(d:N<2^64)(h:∀k,oM 20 f [tT R]=aVT):Im i (nx N):=by
 have b:Vm=ă/\i<10:=by rcases a with z | z | z | z<;>cases z<;>decide
 refine⟨bAA b.2 b.1 X (bAB b.2 b.1 ?_),?_,bAy N⟩
 ·have c:=aGW d (Dz G G F (oM 55) δ [aC5,Vo] (i4 N7) (h (k+35)));rw[boN c]
 ·have q:anl 94 aVP=aVT:=by
   rw[bR apc];have c:=aDc (Dz G G F (oM 56) δ aVS (i4 N7) (h (k+36)));rw[acV apc];rcases a with z | z | z | z<;>cases z
   ·exact aDb (ž c)
   ·exact aDa
   ·exact lG (lG (lG aDa))
   ·exact lG aVR
  rw[bR aeb];have c:=boO;rw[acV aeb,boN aVR]
theorem bAC(S:u7)(X:sQ):Im 0 (stx AF):=by
 rw[boQ (aDd (bAg S.rc S.n8 S.m8 (Wn S.w9))) a S.w9 (aDb (AE (aDd (boP S.rc S.n8 S.m8 (Wn S.w9)))))]
theorem bAD(S:u7)(X:sQ):Im 1 (stx (txt (Wg m R))):=by
 rw[Ĕ a S.tr e (fun k=>a0D (fu:=100) (k:=k) R n m S.rc S.n0 (bL S.n8) aC9),boQ (ii (aDd (e (k+52))) (bAg a.rc a.n8 a.m8 (Wn a.w9))) b a.w9 (lG (aDb (AE (ii (aDd (e (k+54))) (boP a.rc a.n8 a.m8 (Wn a.w9))))))]
theorem bAE(S:u7)(X:sQ):∃x,Im 8 x:=by
 have e:=fun s k=>bSz (fu:=100) (k:=k) S.rc S.n0 S.n8 S.m0 S.m8 s
 let a:=aCu R true
 let b:=aCu R ă
 have ha:a<=3:=a1h _;have hb:b<=3:=a1h _;have c:=fun k S h=>by
  have q:∀(s:Bool) (x:Str),sd s=ő->UX (oM 4) (aVW ő) S=UF (aCu R s):=fun s x d=>Ob (Β U6 be) (ŗ d (e s k));exact i_ (i_ (apG Ă (q true _ rfl)) (aVD (UX _ HE S)) (ab7 2)) (apG Ă (q ă _ rfl)) (ab7 3)
 refine⟨_,aVV (aVU (c (k+51) _ rfl)),?_,aep (Ĝ c f)⟩
 ·rw[Ĉ (bR aeb) (Ñ (lG (lG (Nl rfl (c (k+53) _ rfl)))))]
 ·simp at f;omega
theorem bAF(a:bzr jB n m R p)(S:u7)(h:∀k,boS=acB)(X:sQ):Im 9 (stx u8):=by
 have ok:=apI S.n8 S.m8 p a.ok;have hd:ht DP<=8:=Ć O9 a.AX;have b:∀k,boS=Υ (dv DP):=fun k=>Ć aes (h k);refine⟨aVV (aVU (ii (boR 37) (a1y _ _ ok Ă Ă))),?_,aep (aGQ _ ok)⟩;rw[Ĉ iZ (Ñ (lG (lG (lG (Nl rfl (ii (boR 39) (aGS _ _ ok Ă Ă)))))))]
universe k85
namespace k85
open PySem L2
variable {fu k n m:Nat} {F:Nat->List DV->Option Ou} {δ:List Sv} {R:List (List Int)} {w:Int} {t:List Nat}
theorem bAG(a:(i,f)=(4,26)\/(i,f)=(5,20))(X:sQ)(hw:Il)(d:N<2^64)(h:∀k,∃L:Ħ,Hh=N/\oM 40 f aVO=ā (.v (.lst L) true)):Im i (nx N):=by
 refine⟨bTZ (k:=k+54) (by rcases a with z | z<;>cases z<;>rfl) hw X ?_,?_,bAy N⟩
 ·rw[anc (Ė L b e (h (k+15))) [aC5,Aw aVO]];have c:=aDc (aGW (n:=Hh) (Ć b d) (lK (uY (oM 55) S es (Nd 1) (Β (Va N7) (Va N7)) rfl e)));rw[Ę b c iZ,acV bxf,aKe a]
  ·exact ang (ž c)
  ·exact DQ (ang (ž c))
 ·have q:anl 94 aVP=aVT:=by
   rw[Ŷ L b e (h (k+16)) (bR apc)];have c:=aDc (lK (uY (oM 56) aVS es aSI U0 rfl e));rw[gb b c (acV apc),aKe a]
   ·exact lG aDa
   ·exact lG (lG aDa)
  rw[bR aeb];have c:=boO;rw[acV aeb];rcases a with z | z<;>cases z<;>exact aVR
theorem bAH(v:Nat->rk.Rw)(m:Nat):∀n,Ą (rk.bz v m n)<=n
 | 0=>Ķ
 | n+1=>by
  have:=bAH v m n;rw[rk.bO0];split
  ·omega
  ·rw[Ÿ,pH (_+1<=_)]
theorem bAI(L:nW):bmv
 | 0=>Ķ
 | n+1=>by
  have:=bAI L n;rw[amB];split
  ·omega
  ·rw[Ÿ,pH (_+1<=_)]
theorem bAJ(S:u7)(X:sQ):Im 6 (nx (Ą (a08 R m))):=
 apL (at9 ŵ) X (uK (bAH _ m Ia) boT) fun k=>bRp S.rc S.w9 S.n8 aC9
theorem bAK(S:u7)(X:sQ):Im 7 (nx (Ą (apx R))):=
 apL (at9 gw) X (by
  rw[jC apx rk.bs (Ĉ Ċ (uK (bAI _ Ia) boT))]) fun k=>bRD S.rc (bL S.n8) aC9
structure Sk(n m:Nat)(R:ď):Prop extends u7 where
 h1:amH R
 h2:acx m R
theorem bT2(S:aDf)(hi:i<10)(hw:Il)(X:sQ):∃x,aDe:=by
 rw[Ĕ d S.n8 f S.m8,aC7 i];rcases this with rfl | rfl | rfl | rfl | rfl | rfl | rfl | rfl | rfl | rfl
 ·rw[Į _ (bAC DR X)]
 ·rw[Į _ (bAD DR X)]
 ·rw[Į _ (apL ŵ X (a1L ŵ S.h1 S.h2) fun k=>byk (k:=k+11) R n m S.rc S.w9 S.n0 Ă S.m0 Ă S.h1 S.h2)]
 ·rw[Į _ (apL (ķ ŵ) X (a1L gw S.h1 S.h2) fun k=>bQo (k:=k+11) R n m S.rc S.w9 S.n0 Ă S.m0 Ă S.h1 S.h2)]
 ·rw[Ė t ht L (bQZ (rows:=R) (w:=w) (m:=m) d)];exact⟨_,bAG (N:=t) ŵ X hw Ă fun k=>by
   obtain⟨c,j,_,_,e⟩:=bQY (fu:=100) (k:=k+28) S.rc S.n0 d f S.h1 S.h2 Ă L;rw[υ aml (ŷ Ċ j) e]⟩
 ·refine⟨_,bAG gw X hw ?_ fun k=>⟨_,amb,bQ7 S.rc S.n0 d f S.h1 S.h2 w⟩⟩;rw[Ĕ a (aGw (kp (at2 R)) _ (aGx (at2 R) w aVQ (FI R)) Ķ).length_le b (a03 (at2 R) w aVQ (FI R))];exact uK (mv (Ą (tell R m w)<=25) (û a (û b (As S.h1 S.h2)))) Đ
 ·rw[Į _ (bAJ DR X)]
 ·rw[Į _ (bAK DR X)]
 ·exact bAE DR X
 ·rw[Ŷ p g h (boU d f S.h1 S.h2) (Į _ (bAF g DR h X))]
universe k85
namespace k85
open PySem L2
theorem a1O(b:œ Q=È JF)(c:œ D=avW)(h:F 97 [JF,ő]=acW)(a:B6=o):pU (Ah (Af 97 [Q,D]))=o:=
 eB (vf (Dw b c h)) a
theorem Way.q(W:aDe):ank 97 [anj,ő]=acW:=a1J W.p W.a
theorem bAL(hi:i<10)(hw:Il)(X:sQ)(W:aDe)(f:ĳ δ a Nq)(j:ĳ δ b Ij)(h:ĳ δ c Vo)(e:UX ank d δ=Ç w)(g:aDg r δ=o):aDg (aSJ (.var a) (.var b) d (.var c)::r) δ=o:=
 a1O (Dv (gO f) (gO j) aUP (bTY hi hw (þ X.ln))) (Dv (gO f) U6 aUP W.d) W.q g
theorem bT3(S:aDf)(hw:Il)(X:sQ)(a:Int):oM 59 98 [tT R,Ë t,Az,rJ]=acW:=by
 rw[cS bxl]
 let St:=fun (z y:Sv)=>([Vo,Ij,jR,TB,z,y]:ē)
 refine Ñ (bsw (aed (n:=10) Ņ Đ) gw (aop (i:=4) (I:=aS d (∃z y,d=St z y)) 10 0 (ń j hj d I) Hu) (TD d J (gj z y rfl J Dk)));rw[Ŷ z y rfl I abT,xK i e ((a+3*Ŭ)%10),đ x W (bT2 S (i:=i) Ă hw X)];refine⟨St _ _,mP cl .č ?_ (bAL Ă hw X W rfl rfl rfl ą rfl),_,_,rfl⟩;rw[qc e (Av (sY ą (aDh (mul_r Ă Ă))))]
universe k85
namespace k85
open PySem L2
theorem bT4{F:Ť}{δ:ē}{a b:ME}{x y:Bool}(ha:pQ=UZ x)(hb:B4=UZ y):uu (.and kr) (x&&y):=by
 cases x
 ·exact Wf ha
 ·exact sH ha hb
theorem bT5:B7 (.lst aAl) aAl:=rfl
theorem bT6(xs:Ď)(hx:aP=30):∀(d:Nat) (a:Int),aVX d:=by
 intro d;induction d with
 | zero=>exact fun a=>go 0 a (Lw h h Ă)
 | succ d b=>exact fun a=>go (d+1) a (ű (τ d b))
where
 go (d:Nat) (a:Int) (ih:0<d->∃d',d=d'+1/\∀a,aVX d'):aVX d:=by
  rw[anc (đ n hn (Vc (a%30))) [N0,TB,ļ d,ļ 3,ļ n,.no,.no,.no]];have st:∀F,Ð (Rx bjp boZ) S:=fun F=>by
   have l:=lK (aC3 F boZ 0 rfl);rw[jH iD l (ph Ċ hx l (Ux ux (Uj (aCr l Đ) hn) rfl))]
  have tt:∀F,Ŀ bjo S=oC boY:=fun F=>
   aBK (mV ą Ņ) (bT4 (mV aTs Ņ) (aos ą ą))
  generalize hB:boY=B at tt;cases B with
  | true=>
   refine⟨.fin (n/7%10),⟨Ě,Ě⟩,cg,Ĝ k hk⟩;rw[aCG,Ĉ (bR a0r) (qA (st _) (amt (tt _) (AE (vh (Β be (aDi (xI 4 n))) boV rfl))))]
  | ă=>
   obtain⟨d',rfl,bAM⟩:=ih (by
    rw[Ę boX hB (av (beq_eq_false_iff_ne.mp hB.1))])
   rw[gX (dU s hs (bSD (n/7)) o ho (bSE (n/14))) p p0 p1 p2 (bAM (2*a+1)),Ĩ q q0 q1 q2 (bAM (2*a+2))];refine⟨.ask s o p q,⟨Ě,by show o<2^(İ s 8 8);cases s<;>(rw[pH (o<256)]),p0,q0⟩,yK (1+max mQ q.deep<=_),Ĝ k hk⟩;rw[fj aCG a4 (p2 k Ă) b4 (q2 k Ă)];rw[cP ((d':Int)=mB d' - 1)]at a4 b4;have m2:∀x:Int,xT 2 x=true:=fun x=>ZC xT;rw[bR a0r];refine Ñ (ŏ (st _) (eB (tt _) (ŏ (Ux (sd s) (Ć bAk (cU bT5 (aDi ą) hs)) (ql s))
    (aBq (ć o) (ŗ ho (aDj (aDi ą)))
    (ŏ (Ux p.D (boW a4) (ql p)) aS4)))))
   exact vh (eG be ą (eG ą ą (i4 (boW b4)))) boV rfl
universe k85
namespace k85
open PySem L2
theorem bT7(h:aF=È aPH):Ð (fQ (.adu [i,j] e)) ((B9 (ħ x)).set j (ħ y)):=by
 show bsm [i,j] δ _=_;rw[h];rfl
theorem aGX:∀p:Pl,Ad->32∉tx p
 | su,h=>fun f=>by
  have:32=48+T4:=bn0;omega
 | ak8,(yL i g)=>fun e=>by
  rw[Ę O6 e bnZ]
  ·revert e;rw[BN]
  ·omega
  ·omega
  ·exact aGX a i e
  ·omega
  ·exact aGX b g e
  ·omega
def O':ė:=[114,117,110]
def Jc:ė:=[115,101,116,116,108,101,115]
theorem aGY(h:AD):Ą u8<=3500:=by
 rw[Ĕ h1 (aGP DP) a (apH DP)];rw[O9]at a;have h3:2^mQ<=2^8:=sI h;have h4:CU^8=256:=ø;omega
theorem bAN(ok:am7)(hd:AD):oM 56 82 [Ua,Ë u8]=acB:=by
 rw[qc aes (bTW ok (bTI hd) Ă)]
theorem bAO{i:Nat}(hi:i<8):yw<=ae/\ae<10:=Ě
theorem bT8(ok:aDk)(hd:AD)(hi:i<8)(c:j<8):anl 81 [Ë aVZ]=Υ (Ë anb):=by
 rw[ľ (Ĕ a aVY l8 (aGY hd)) (bo1 O' t acT anm xF L [(acT,xM,ab3)] s _ (anm++32::xM) 3 ?_)]
 ·rw[Oa]
  ·exact aGX _ a
  ·rw[Oa]
   ·rw[aVN]
   ·rw[aI hs,aVN]
 ·rw[Oa]
  ·exact bAN a hd
  ·rw[Oa]
   ·exact a1M (w:=ae) (bAO hi) gw
   ·rw[ML hs (a1M (w:=Ŭ) (bAO c) gw)]
 ·rw[iZ,bo0 S O' ana];exact Ñ (DQ (DQ (ang (AE (ii (Dv (Vj NA) (Vj NA) (i4 (Vj NA)) (bAr hi c Ă Ă)) (bTN (k:=k+54) ok Ă))))))
def yn(b:Bool):Str:=İ b "yes" "no"
theorem bAP(a:am7)(hd:AD)(S:u7)(X:sQ):anl 81 [Ë bo2]=Υ aV0:=by
 rw[ľ (Ĕ l8 (aGY hd) lt X.ln) (bo1 Jc t Vn t Id L [] s _ t 2 ?_)]
 ·rw[Oa]
  ·exact aGX _ a
  ·rw[Ĉ (aI hs) X.sp]
 ·rw[Oa]
  ·exact bAN a hd
  ·rw[Ĉ (aI hs) X.rd]
 ·rw[iZ];rw[bo0 c Jc [p.D,tT R]];have r:=Dz G G δ c es (Nd 1) (Β (Va NA) (Va NA)) (bAq (fu:=100) (k:=k+52) S.rc S.n8 S.m8 (p:=p) Ă Ă);refine Ñ (DQ (DQ (DQ UP)));cases z:aDl with
  | true=>rw[Ļ z r (Ib (apu (Ω r) be))]
  | ă=>rw[Ļ z r (Ib (apv (Ω r) be))]
universe k85
namespace k85
open PySem L2
theorem apM(h:x=N1):œ ő=sO l:=oX h
theorem a1P(b:qG e p c)(h:x=N1)(a:wm+Ű<=Q2):u4 (.bT e ő) (p++l):=i_ b (apM h) (ml _ a)
theorem bT9:gU "settles "=stx (Jc++[32]):=ĸ
theorem bUa:gU "run "=stx (O'++[32]):=ĸ
theorem bUb:gU "plan "=stx (vb 9++[32]):=ĸ
theorem bAQ(hd:AD)(ln:aC6<=200)(a:qG e u8 c)(d:ĳ δ b Ij):u4 (.bT (HF (aSK e)) (.var b)) bo2:=by
 have l8:=aGY hd;rw[ani (Vk _) (Jc++[32]++u8++[32]) t Jc (u8++32::t)];exact i_ (a1P (i_ (apM bT9) a (ml _ (Lz Jc))) apJ (Lz Jc)) (gO d) (ml _ (Lz Jc))
theorem bAR(e:am7)(hd:AD)(S:u7)(X:sQ)(l:UH δ a p.D)(j:ĳ δ c Vo)
  (h:UH aDm a p.D) (g:ĳ aDm b Ij) (f:UH aDm d aV0)
  (i:aDg r aDm=o) :
  aDg (du d (aSM (.var a) (.var c)) :: Ah (aSL [.var a] (.var b) d)::r) δ=o:=by
 refine ÿ (cU rfl (bP8 (Dw (gO l) (gO j) (bAq S.rc S.n8 S.m8 Ă Ă))) ?_) (a1O (bAQ hd X.ln (ii U6 (ŗ aes (bo3 e))) g) (gO f) (a1J ?_ (bAP e hd S X)) i)
 ·cases aDl<;>rfl
 ·cases aDl<;>decide +kernel
theorem bUc(S:aDf)(X:∀j,Tx (j+56) t R){p:Pn}(ok:aDk)(hd:AD)(a b:Int):oM 59 99 [tT R,Ë t,p.D,.lst aaS]=acW:=by
 rw[xK i hi (a%8)];rw[xK j hj (b%8)];have Y:i<8:=Ě;rw[pK U (j<8) (ab (Ĕ o aVY l8 (aGY hd)) q z K (boU S.n8 S.m8 S.h1 S.h2))];have E:=apI S.n8 S.m8 q z.ok;rw[am bxm]
 let F:=ank
 let D:=fun (u v x y:Sv)=>([Vo,Ij,ħ p.D,Aw aaS,u,v,x,y]:ē)
 have Q:bo7 0 ae:=bo6 hi;have P:bo7 1 Ŭ:=bo6 hj
 let l:=D (oH Ik) (ļ qF)
 have e1:anp 52 bjA aVB=È aCV:=
  Dv ą (Q _ _ _ _) (i4 (P _ _ _ _)) (bAr (fu:=100) (k:=k+55) Y U Ă Ă)
 have e2:=bAt (F:=F) (δ:=l .no .no) (e1:=ah) (e2:=cR) (c2:=.č) ok Ă ą ą
 let L:=l (im anb)
 have M:∀(p:Pn),am7->AD->F 93 [p.D]=Υ (Ë u8):=fun p o hd=>ŗ aes (bo3 o);have e3:Ŀ bjz (L .no)=sO aVZ:=(by have q:=i_ (bo5 a1P i_ (i_ (apM bUa)) (uY F (L .no) es Hv al5 rfl (M p o hd)) (ml _) (Lz O') apJ (aDo i (Q _ _ _ _)) apJ) (aDo j (P _ _ _ _)) (ml _ (Lz O'));rw[ani aVZ (O'++[32]++u8++[32]++anm++[32]) xM O' (u8++32::(anm++32::xM))];exact q);have bp:(acF anb).plain 60=true:=aep fun c H=>by
  rw[aV1 bAs H C4 oh];rcases H with(H | rfl) | rfl
  ·rw[av (a1F (aGU p i j) H)]
  ·decide
  ·rw[av (a1E (aGV p i j ok))]
 refine qA (bT7 e1) (mP δ (l .no .no) e2 (a1O (δ:=L .no) e3 ą (a1J bp (bT8 ok hd Y U)) ?_));have wk:bU (Ŀ bjy (L .no))=ā (CV [p.D,q.D]):=Η (Wd (Β (bQ 2 p.D) (Ob (i4 ND) (K (k+40)))) aDn (by cases p<;>cases q<;>rfl));refine bo4 C (∃x y,C=l x y) s aVA Hu (Ĝ C aVA)
 ·subst e;have g:∀r:Pn,apa (pl r)->r.deep<=8->∃B A,(Tg.one 7).bind r.D (l x y)=ā B/\Ð (ano F [bjx,bjw] B) A/\∃x y,A=l x y:=
   fun r N hr=>⟨l x (ħ r.D),l _ (ħ r.D),rfl,bAR N hr DR (X k) rfl rfl rfl rfl rfl rfl,_,_,rfl⟩
  rw[z7 s]
  ·exact g p o hd
  ·rw[ML s (g q E z.AX)]
 ·subst e;obtain W:=bAF (k:=k+1) (w:=0) z DR K (X ŕ);have y1:Ŀ bjv (l x y)=sO (qs 9 t 0):=by rw[Ĕ ln (X 0).ln v9 (apK 9 Đ).2,ani (qs 9 t 0) (vb 9++[32]) t (vb 9) t];exact i_ (apM bUb) ą (ml _ E9)
  rw[Ĕ Z (bAQ (c:=.č) (b:=1) z.AX (X 0).ln (aCO y1 W.a) (rfl:ĳ (l x y) 1 Ij)) O (bAP (k:=k+1) E z.AX DR (X ŕ)),Ļ (bTL z.to) O (AE (i8 (aCO Z O) be ĸ))]
universe k85
namespace k85
open PySem L2
variable {fu k n m:Nat} {F:Nat->List DV->Option Ou} {δ:List Sv} {R:List (List Int)} {w:Int} {t:List Nat}
def bUd:ğ:=["alike:8","shared:3","pick:3","less:8:7"]
def bAS:ī ď:=[tab 8 8 fun r c=>rn (r=c),tab 8 8 fun r c=>(Ą (pd 3 fun b=>(r &&& c)/2^b%2==1):Int),tab 3 8 fun r c=>Ĵ (c/2^r%2),tab 8 7 fun r c=>rn (r<c)]
def aet(i:Nat):ė:=(aV2).cps.toList
theorem bAT(i:Nat):stx (aet i)=aV2:=aGL _
theorem bUe:aDp 56 [xv] 0:=Ů
theorem bUf:aDp 59 [iY] 1:=Ů
theorem bUg:aDp 60 [iY] 2:=Ů
theorem bUh:aDp 57 (dg 8 7) 3:=Ů
theorem bUi:∀i,i<4->u6 56 82 [sD,.str aV2]=Υ (Od i)
 | 0,_=>Ů
 | 1,_=>Ů
 | 2,_=>Ů
 | 3,_=>Ů
theorem bAU:∀i,i<4->32∉aet i/\Ą (aet i)<=200/\W9 aDq/\tm (acX 3 8) (acX 8 7) aDq:=by rw[jC W9 tm A3]
theorem bUj(h:i<4):Tx 56 (aet i) aDq:=aV3 (bAU i h) (Ć bAT (bUi i h))
theorem bUk(h:i<4):∃n m,Sm n m aDq:=by
 have f:=(bAU i h).2.2;have:∀i,i<4->0<acX 3 8/\acX 3 8<=8/\0<acX 8 7/\acX 8 7<=8:=ø;rw[Ĩ a b c d (this i h)];exact⟨_,_,f.2,f.1,a,b,c,d⟩
def a1Q(n m:Nat):ď:=tab n m fun r c=>Ĵ (r+c)%2
def aGZ(n m:Nat):ė:=aDr++[48+n,58,48+m,58,50]
theorem bUl:∀n m:Nat,n<6->m<9->0<n->0<m->u6 59 58 [atP,ak m,dL]=bo8/\u6 57 82 [sD,Ë (aGZ n m)]=bo8:=by
 intro n m hn hm n0 m0;have b:n=1\/n=2\/n=3\/n=4\/n=5:=Ě;have a:aUU m:=Ě;rcases b with rfl | rfl | rfl | rfl | rfl<;>rcases a with rfl | rfl | rfl | rfl | rfl | rfl | rfl | rfl<;>exact⟨Ů,Ů⟩
theorem bAV:∀n,n<5->∀m,m<8->32∉aGZ gB vw/\Ą (aGZ gB vw)<=200/\(aTq aDs)/\amH aDs/\acx vw aDs:=ĸ
theorem bUm(d:n<5)(e:m<8):Sk gB vw aDs:=by
 obtain⟨_,_,a,b,c⟩:=bAV n d m e;rw[υ ⟨bTg _ _ _,a,Ě,Ě,Ě,Ě⟩ b c]
universe k85
namespace k85
open PySem L2
theorem bAW{b:Nat}(d:a<=b)(c:b<=aP):bnr=bnq:=by
 rw[aA4,uy,uy,apr,cI,cI,HK (ź (a<=aP)),HK c,Ù iD aAr abK]
theorem bUn(S:u7)(X:sQ)(hi:bo9):∃x,aDe:=by
 rw[aka hi]
 ·rw[Į _ (bAC S X)]
 ·rw[Į _ (bAD S X)]
 ·rw[Į _ (bAJ S X)]
 ·rw[Į _ (bAK S X)]
 ·exact bAE S X
theorem bAX(S:u7):Tx (k+5) AF R:=by
 rw[Ĕ w (Wn S.w9) l (bAj S.rc S.n8 S.m8)];exact⟨fun h=>by
  rw[aCN h z z]
  ·cases z
  ·exact a1G w (ı Đ) p hp z,Ě,bTV S.rc S.n0 S.n8 S.m0 S.m8 w⟩
theorem bUo(ns:Ď){p:Pn}(ok:aDk)(hd:AD):u6 59 100 [BS,p.D]=acW:=by
 let F:=u6 58
 have bUp:=aVY;rw[ň v c0 (amR 100 57 ns 1) (Ė xs hx st (aCs 100 57 v 67 Đ)),dU a0 i0 (Vc 0) a1 i1 (Vc 1),ň a2 i2 (Vc 2) (xK h hh (1+a0%8)),xK u hu (1+a1%8)];obtain⟨q,hq,iq⟩:∃q:Int,(0<q/\q<=10)/\Gk (dg 2 10) (a2%2)=ā (ć q):=by
  have:aVa a2:=Ě;rcases this with z | z<;>rw[z]
  ·exact NZ 2
  ·exact NZ 10
 let ws:=bpb
 have lw:Ci=64:=by show Ą (lM (yd 3))=64;rw[Ċ,yE,hx]
 let R:=bpg
 have S:Sm h u R:=by
  refine⟨⟨by show Ą (ah3 h _)=h;rw[Ċ,bO],aBl⟩,ń r hr x hx,Ě,Ě,Ě,Ě⟩
  ·rw[Um hr];have:=ay hj;rw[mn,yE,lw];omega
  ·rw[Um hr,qy y bns];have:=ab6 y (b:=q) Ă;rw[av (ab5 y hq.1)]
 rw[xK g hg (a2/2%4)];have g4:g<4:=Ě
 let nd:DV:=.lst (bph (Od 0) (Od 1) (Od 2) (Od 3))
 have ind:Am nd (ak g) (Ē [Ë (aet g),Od g]):=by
  rw[bAT];have:g=0\/g=1\/g=2\/g=3:=Ě;rcases this with rfl | rfl | rfl | rfl<;>rfl
 rw[am bxn]
 let D0:=aL 12 [BS,p.D]
 let D1:=D0.set 2 N0
 let D2:=(bpc).set 4 (sM u)
 let D3:=D2.set 5 (oH ws)
 let D4:=D3.set 6 (DJ R)
 let D5:=D4.set 7 (ħ nd)
 have s2:anp 88 [aSO,ć 67] D0=amx xs:=Dw (Ob (Β ą Ņ) c0) Ņ st;have s5:=Aq F D2 l (yd 3) h É f (fun x=>ć (x%q)) elt bjF tg eF it aSN (fr:=Ai 2) (cl:=Ŋ)
  (gx (show uV (Ŀ aSN D2) ((iD xs).drop 3)from apq (h:=3) (c:=.č) ą Ņ) abK) Đ (by rw[yE,hx];decide) (qz x hx [ļ x,N0] (aCr (aVM rfl (Av (aDu 1 i2)) iq) hq.1))
 have s6:=Aq F D3 l (Ο h) h Nn f (fun j=>dG aV5) elt (aAj xv ĉ) tg eF it (.fw [Ō]) (fr:=uQ 5 4)
  (We (n:=h) ą Ă) Đ (Ć bO (DN Ă)) (fun j hj=>by
   have hj:=ay hj;rw[mj bAY (xT 8 Ŭ=true) (mul_r Ă Ă) ⟨[uS,oH ws,ļ u],Ŋ,rfl,?_,rfl⟩];have e:=bAW (xs:=ws) (a:=8*j) (b:=8*j+u) Ă (Ä lw);rw[ź (8*j+u - 8*j=u)]at e
   push_cast at e
   rw[qc e (a0y ą (aDh bAY) (sY (aDh bAY) ą))])
 have eR:(Yz (Ο h) j (HL aV5):DV)=rL R:=MK (acY _=acY (Ĥ bpg r jN)) HP;rw[eR]at s6;have s7:Ŀ bjE D4=ā (CV nd):=by
  have tp:∀{x:Str} {e:ME} {d:DV},Ŀ e D4=hY->Ŀ (Ē [ő,e]) D4=È aLK:=fun h=>vh (Β be h) aDn rfl;exact Wd (eG (aV4 bUe) (aV4 bUf) (Β (aV4 bUg) (tp (Ob (Β Ņ Ņ) bUh)))) (SC 4 Ū) rfl
 have wk:bU (Ŀ bjD D5)=ā (CV [Ē [acR,tT R],Ē [Ë (aet g),Od g]]):=(by rw[Ĕ e1 (bpf D5 ly 57 S.rc S.n8 S.m8 S.w9) e2 (bpe D5 ly S.rc)];have e3:amI bpd D5 g:=(ŗ hg (aDi (aDu 2 i2)));rw[Wd (Β (vh (Β e1 e2) aDn rfl) (uZ (bQ 7 nd) e3 ind)) aDn rfl];rfl)
 let D6:=fun (x y z v:Sv)=>(((D5.set 8 x).set 9 y).set 10 z).set 11 v
 refine Ñ (ÿ s2 (ŏ (aDv D1 (ak h) hh (aDu 2 i0)) (ŏ (aDv bpc (ak u) hu (aDu 2 i1)) (ŏ (AN (δ:=D2) (d:=dG ws) (cl:=Ŋ) (by
   have e:(Yz (yd 3) x (É (x%q)):DV)=dG ws:=MK (_=acY (YE bpb)) HP;rw[qc e s5]) rfl) (mP δ D3 s6 (mP δ D4 s7 (bo4 δ (∃x y z v,δ=D6 x y z v) apN bpa ⟨.no,.no,.no,.no,rfl⟩ (TD δ bpa (cA e Dk)))))))))
 subst e;have f:∃t R n m,d=Ē [Ë t,tT R]/\u7/\Tx 56 t R:=by
  rw[z7 apN]
  ·exact⟨_,_,_,_,rfl,S,bAX S⟩
  ·rw[Fe n m s (bUk g4) ⟨_,_,n,m,aI apN,s,bUj g4⟩]
 rw[gZ t R' n m rfl S' X f];obtain⟨δ',lp,z',rfl⟩:=aXY (I:=fun δ=>∃z,δ=aDt z) (tg:=.one 10) (body:=fun δ'=>ano F [bjB] δ') (ds:=bjC) (δ:=aDt z) (fun d apN δ ⟨z,e⟩=>by
  subst e;obtain⟨i,hi,rfl⟩:∃i:Nat,bo9/\d=xF:=by
   rw[Ck apN,aka apN]
   ·exact NZ 0
   ·exact NZ 1
   ·exact NZ 6
   ·exact NZ 7
   ·exact NZ 8
  rw[đ x W (bUn (k:=0) (w:=0) S' X hi)];exact⟨aDt Nq,_,rfl,bAL (k:=0) Ă Đ X W rfl rfl rfl Ņ rfl,_,rfl⟩) ce
 exact⟨aDt z,_,rfl,aBD Ŋ rfl gw lp (bAR (k:=0) bUp hd S' X rfl rfl rfl rfl rfl rfl),_,_,_,_,rfl⟩
universe k85
namespace k85
open PySem L2
theorem bUq(hd:avh=KU)(a:pV)(hs:((l++akB).all fun p=>aV6 p.2)=true)(h:F f (vA (l++akB))=k9):œ (.adr f es)=hY:=by
 show aET F f _ _=_;rw[hd,a];show Ec F f _=_;rw[nU Ec h hs]
theorem gi{r:Ď}(h:j<Á):Dl∈r:=by
 rw[awo]
theorem bUr:gU "bits sums:"=stx (vb 2++32::aDr):=ĸ
theorem bUs(B:Ď)(b0:B.length<=63):u6 60 101 [anq]=acW:=by
 rw[ab (dU v2 c2 (amR 100 58 B 2) v3 c3 (amR 100 58 B 3)) r Y st (aCs 100 58 v2 40 Đ)];have E:∀i:Nat,i<40->∃a,qL jN xF=ā rJ:=fun i hi=>amS r ae Y;rw[aDy a0 h0 0 a1 h1 1];rw[aDy a2 h2 2 a3 h3 3];rw[aDy a4 h4 4 a5 h5 5,gX (aDy a6 h6 6 a9 h9 9) tp t0 a7 ht (bSA a0)];obtain⟨n,m,R,Q,n8,m0,m8,A,Z,f1,f2,es⟩:=bSx (fu:=100) (k:=57) B b0 tp t0 a7;have S:aDf:=⟨⟨A,Z,Q,n8,m0,m8⟩,f1,f2⟩;have X:∀j,Tx (j+56) AF R:=fun j=>bAX (k:=j+51) DR;rw[aJ i hi U (bx7 a1 Q) j hj jl (bx7 a2 m0)];obtain⟨C,bUt,hw⟩:∃C,jD (R.getD i []) j=C/\N_ C:=⟨_,rfl,by
  have hl:j<Ą (R.getD i []):=Ć (apn A U) jl;have:=Z _ (xy (Ć A.1 U)) _ (gi hl);omega⟩
 obtain⟨w,a8,s⟩:∃w:Int,Il/\w=Bj (a3%4==0) (a4%10) C:=dY (by rw[BN]);rw[gX (xK d hd (a6%5)) p ok dp ep (bT6 (fu:=100) (r.drop 10) (ŷ yE Y) d 0)];obtain⟨b7,b8,bUu⟩:∃b7 b8:Int,iD aDx=dg b7 b8:=by
  have l:Ą aDx=2:=zW mn yE Y
  match aDx,l with
  | [x,y],_=>exact cj x y
 obtain⟨u,hu⟩:∃u:Nat,1+a9%5=mB u:=aVb (a9%5);obtain⟨v,hv⟩:∃v:Nat,1+v3%8=mB v:=aVb (v3%8);have u5:u<5:=Ě;rw[fj (pK v8 (v<8) (Ĕ K (bUm u5 v8) fs (bAV u u5 v v8))) nn (bUl (u+1) Vp Ă Ă Ă Ă) el (fun k=>byk (fu:=100) (k:=k) _ _ _ K.rc K.w9 K.n0 Ă K.m0 Ă K.h1 K.h2),Ĕ O (a1L (J:=jB) (f:=mf (Wg Vp (a1Q (u+1) Vp))) ŵ K.h1 K.h2) W (apL (k:=1) (w:=0) ŵ (aV3 fs nn.2) O fun k=>el (k+11))]
 let F:=u6 59
 let D1:ē:=(aL 9 [anq]).set 1 (oH r)
 let D3:ē:=(bpl).set 3 Vo
 let H:ē:=D3.set 4 (im AF)
 let I:Int->ē:=fun w=>H.set 5 jR
 let L:ē:=(I w).set 6 (ħ p.D)
 let D8:ē:=(bpi).set 8 (Dx v)
 have x:∀{D:ē} {z i:Int},ĳ D 1 (oH r)->Am jN ĭ (ć z)->Ŀ (oB 1 i) D=Ç z:=fun hD h=>U_ (gO hD) h;have cl:∀{D:ē} {i v:Int},UH D 0 anq->F 87 [anq,ĭ]=Υ BU->Ŀ (sC 87 ĭ) D=Ç v:=fun hD h=>Dw (gO hD) Ņ h;have s1:anp 88 bjK (aL 9 [anq])=amx r:=Dw (cl rfl c2) Ņ st;rw[Ĕ s3 (bpe bpl ģ A) s4 (bpf D3 ģ 58 A n8 m8 Z)];have lR:Ŀ (gI ģ) H=Ç Æ:=(aAH q (lK bpk) Ċ A.1);have lC:amI (xq 2) H m:=(by have q:=lK (uZ bpk (oE J8) (aGg (Ć A.1 Q)));rw[jH iD q (ph Ċ (apn A Q) q q)]);have s5:Ŀ bjJ H=Ç C:=xj (Ĕ N (aDw H h1 lR Ă) M (aDw H h2 lC Ă)) (gb hi N (Ę hj M (qc bUt (uZ (uZ (bQ 2 (rL R)) N (aGg (Ć A.1 U))) M (ape (Ć (apn A U) jl))))));rw[Ĕ P (mV (aDw (I C) h3 (oE 4) Đ) Ds) y7 (aU2 F L az 7 9 r)];rw[show cutD sE (ā 7) (ā 9)=iD aDx from bAW (a:=7) (b:=9) Đ (ar7 Y),bUu]at y7;have s6:anp 91 bjI (I w)=ā (Rr p.D):=(by have N:=apq (h:=10) (NP F (I w) 1 jN) Ņ;rw[show(iD r).drop 10=iD (r.drop 10)from(abK ..).symm]at N;rw[yB M (aDw (I w) h6 (oE 5) Đ) hd (Ob (eG N Ņ (Β M Ņ)) (ep 59 Ă))]);have t2:anp 99 bjH L=È iK:=Ob (eG ą ą (Β ą y7)) (bUc (k:=0) S X ok Ă b7 b8);have t3:Ŀ (sC 100 ly) L=È iK:=aV7 U0 rfl (bUo B ok Ă);have q:Ŀ bjG D8=sO bpj:=by
  have l:=(apK 2 Đ).2;have l2:("sums:" : Str).cps.toList.length=5:=ĸ;have q:=bo5 a1P i_ (i_ (apM bUr)) (aDo (u+1) (aC3 F D8 7 rfl)) (ml _) aCK bAa (aDo Vp (sN 8)) (show gU ":2"=stx [58,50] by rw[A3]);rw[show bpj=vb 2++32::aDr++[48+(u+1)]++[58]++[48+Vp]++[58,50] by
   show vb 2++32::(aDr++[48+(u+1),58,48+Vp,58,50])=_;simp]
  exact q
 have rest:ano F (aGd.body.drop 6) (I w)=ā (ze iK):=
  ve (DH (vf (Dv ą ą (Β ą (Av (x rfl h5))) (bT3 S a8 (X 0) _)))) (ŏ (AN s6 (ql p)) (eB (aBK (vf t2) (vf t3)) (ŏ (aDv L (UR u) hu (x rfl h9)) (ŏ (aDv bpi (UR v) hv (cl rfl c3)) (AE (Ob (Β q (aGW O (ii (bUq rfl rfl rfl nn.1) (el 50)))) W.q))))))
 rw[ľ (bR aGd) (abZ s1 (ÿ (Dw ą (cU rfl (Av (x rfl h0)) ht) es) (ÿ s3 (ÿ s4 (ÿ s5 ?_)))))];cases hb:(a3%4==0)with
 | true=>
  rw[hb]at P s;rw[Ę jb s (cA s (DB P (mP δ (I C) (Av (x rfl h4)) rfl) rest))]
 | ă=>
  rw[hb]at P s;rw[Ę MZ s (cA s (eB P rest))]
universe k85
namespace k85
open PySem PySem.W L2 PySem.Spec PyProof.Rows
theorem a1R(h:iH=n+1):∃a r,b=a::r/\Á=n:=by cases b with | nil=>cases h | cons a r=>exact⟨a,r,rfl,ays h⟩
theorem bAZ(h:ad=0):a=[]:=aLU h
theorem bUv{α:Type}{us:di}(h:aO=1):∃a0,us=[a0]:=by rw[aDA h0 h,aDz h0 ce]
theorem bUw{α:Type}{us:di}(h:aO=2):∃a0 a1,us=[a0,a1]:=by rw[anr h,aDz h1 Hu]
theorem bUx{α:Type}{us:di}(h:aO=3):∃a0 a1 a2,us=[a0,a1,a2]:=WN (anr h) (aDA h2 h1) (aDz h2 aUr)
theorem bUy{α:Type}{us:di}(h:aO=4):∃a0 a1 a2 a3,us=[a0,a1,a2,a3]:=WN (anr h) (bpm h2 h1 h3) (aDz h3 (aeN _ _))
def fn:ğ:=adE
def bl:ğ:=II
def cl:ğ:=IJ
theorem bUz:Na a0f aeE aeE (top 31)=true:=ĸ
theorem bUA:Na a0k Wv Wv (top 55)=true:=ĸ
theorem bUB:Na bwK Wv Wv (top 56)=true:=ĸ
theorem bUC:Na bw0 aHk aHk (top 82)=true:=ĸ
theorem bUD:Na aGd [Jm,ac0,anu,ant,acZ,ans,aDB,"_law_n","_law_m"] [Jm] (top 136)=true:=ĸ
theorem bUE:ac1 a0t Pi 1=true:=ĸ
theorem bUF:ac1 a0u Pi 2=true:=ĸ
theorem bUG:aR7 a0v aHr aHr (AG 3)=true:=ĸ
theorem bUH:ac1 a0w [Jo,"digit"] 4=true:=ĸ
theorem bUI:ac1 aec (aHq Jo) 5=true:=ĸ
theorem bUJ:ac1 a0x Pi 6=true:=ĸ
theorem bUK:ac1 aGe a20 7=true:=ĸ
theorem bUL:aZ5 aHs aHs (AG 0)=true:=ĸ
theorem bUM:TY:=by
 intro f ds q;rw[dr G q jx,Φ q]
 ·rw[fW e q,dO aR6 _ rfl rfl iU]
 cases q
abbrev ck(P:cW)(x:Str)(f:Addr)(i:Nat)(dV pm:ě)(cd:Addr):Prop:=(aV8 x,(kK P).lookup f,bpo,keepIn Oe j9)=(Fj,ā bpn,true,true)
theorem a1S{P:cW}{x:Str}{f:Addr}{i:Nat}{dV pm:ě}{cd:Addr}(q:ck P x f i dV pm cd):aV8 x=Fj/\(kK P).lookup f=ā bpn/\bpo=true/\keepIn Oe j9=true:=by
 rw[gc (dU a b (awx q) b c (awx b)) a b (awx c)]
theorem bA0(q:aK3=(j,i,h,g,f)):a=j/\b=i/\c=h/\d=g/\e=f:=G8 q bf7
theorem kN(P:cW):atX Oe:=bpp Oe zA
theorem kM(P:cW):atX (IA Oe):=bpp (IA Oe) (kT.map lP)
theorem zz(P:cW):bl.map aV8=bl.map (ű Kc):=Ů
abbrev zd(j:Nat):Rw:=zD.getD j (ú "" 0 0 0 0 0 0 0)
theorem sk{w:ņ}{h:Heap}{mg:bY}(j:Nat){d:FD}(N:ğ)(X:(fv).In h)(Ns:agn)(ok:Na d N aDD ac2=true:=by rw[A3])(q:ck eL Vq (aDE+1) (zd j).i Ġ (zP (zd j).m) aDE:=by kernel_rfl)(hb:aR9 doc an ad7 ct us aO (Ą aDD) (fnOf Vq Vq (aDX ac2) (Om ac2) (Ir ac2) Ġ kV doc pm an ad7 ct) ((aDD).zip us):=by(intro _ _ _ _ _ _ us hl;first | (rw[bps];rfl) | (rw[bpr];rfl) | (obtain⟨_,_,_,rfl⟩:=bUx hl;rfl) | (obtain⟨_,_,_,_,rfl⟩:=bUy hl;rfl)))(dq:aF7 Vq (Ir ac2).names=true:=by rw[A3])(e1:d.vc=[]:=by rfl):aSb fv Vq (aDE+1) (bpq Vq Vq ac2 Ġ (zP (zd j).m) aDE) aDD:=by
 rw[Ĩ a l c k (a1S q)];exact aDC ok a l c k hb e1 dq
theorem all_mk{l:atQ}{w:ņ}{h:Heap}{mg:bY}{fa:Addr}(X:(fv).In h)(Ns:agn)(bUN:aeU "law" fa):∃fd:yA,(atY v fd Jm)/\aJZ ((fv).In base) l.prog fv VO 60 fa Jm (spS fv):=by
 rw[Ĩ bUO bUP bUQ k17 (aDP Ez 212 31 (ċ 205) bpA 428 211),bpy bUR 205 (dM 436) bUS bUz bUO bUP bUQ k17 s (by rw[bpx];rw[aWe h1 bUR]) dM (aDA h0 hl) h0 H (zL ø),kU bUT bUU bUV k37 (aDP x5 334 55 Ġ arq 559 333) bA1 (aDC bUA bUT bUU bUV k37 aDH),gX (kU bUW bUX bUY k38 (aDP AZ 341 56 Ġ arq 559 340) bA2 (aDC bUB bUW bUX bUY k38 aDH)) bUZ bU0 bU1 k58 (aDP A0 466 82 (ċ 459) bpz 750 465),bpy bU2 459 (dL 771) bU3 bUC bUZ bU0 bU1 k58 s (by rw[bpx];rw[aDA h2 h1];rw[aWe h2 bU2]) dL (anr hl) h1 H GN,fj (Ĩ bA3 bU4 bU5 bU6 (a1S (P:=eL) (x:="law") (f:=820) (i:=136) (dV:=Ġ) (pm:=aeD) (cd:=819) Ů)) bA4 (aDC bUD bA3 bU4 bU5 bU6 Vr) e (bUN.symm.trans (anv bA3))];cases e;have HC:abc fv:=by
  intro x d h;rw[Oj g0 aDO 8 316,Oj g1 abn 9 318,Oj g2 abt 5 320,Oj g3 aAc 10 752,Oj g4 aDN 3 754,Oj g5 aAe 12 813,Oj g6 aDM 300 815,Oj g7 aAf 255 817];have g8:aDG aDL = ā (ā (aDK 873)):=Ů;exact Oh g0 (Oh g1 (Oh g2 (Oh g3 (Oh g4 (Oh g5 (Oh g6 (Oh g7 (aZ4 ⟨_,mh,anv g8,ce,fun H=>zL ø⟩ (bpw bA1.mg (bpw bA2.mg (bOG))))))))))) x d h
 have da:aDG arE = ā (yR 675):=Ů;have dl:aDJ 675=ā (vy #[xP Uf 1049 676,xP Ue 1051 677,xP Nh 1053 678,xP Ud 1055 679,xP Ni 1057 680,xP x8 1060 681,xP x4 1063 682,xP Uc 1065 683,xP Ub 1067 684,xP Ex 1069 685,xP Ji 1073 686,xP tE 1076 687] 12):=Ů;have bU7:nsIn fv 675 Uf = ā (yR 676):=Ů;have bU8:aDJ 676=ā (lO 1050):=Ů;rw[Vt bU9 Ue 677 bVa 1052];rw[Vt bVb Nh 678 bVc 1054];rw[Vt bVd Ud 679 bVe 1056,anA bVf Ni 680 bVg aHp,anA bVh x8 681 bVi aHo,Vt bVj x4 682 bVk 1064];rw[Vt bVl Uc 683 bVm 1066];rw[Vt bVn Ub 684 bVo 1068,anA bVp Ex 685 bVq aHn,anA bVr Ji 686 bVs aHm,Vt bVt tE 687 bVu 1077];have HD:ak1 fv:=yL _ (ķ ⟨anv da,dl,⟨xO,xO,xO,xO,xO,xO,xO,xO,xO,xO,xO,xO,uc⟩,ø,Og bU8 bU7 (Og bVa bU9 (Og bVc bVb (Og bVe bVd (bpv bVg bVf (bpv bVi bVh (Og bVk bVj (Og bVm bVl (Og bVo bVn (aDI ["PLAN",acT,acT] (ai ce aWd) bVq bVp (aDI ["PLAN",Vn] aWd bVs bVr (Og bVu bVt (bOL))))))))))))⟩);rw[Of bVv fv WG 594 594 593 arB fm 1,Vs bWm bWn bWo bWp bWq bVv M0 bUE Vr,Of bVw fv WF 601 601 600 arA fm 2,Vs bWr bWs bWt bWu bWv bVw M1 bUF Vr,Of bVx fv WE 608 608 607 arz fm 3,Vs bWw bWx bWy bWz bWA bVx M2 bUG aDH,Of bVy fv WD 615 615 614 ary fm 4,Vs bWB bWC bWD bWE bWF bVy M3 bUH Vr,Of bVz fv tA 622 622 621 arx fm 5,Vs bWG bWH bWI bWJ bWK bVz M4 bUI Vr,Of bVA fv WC 629 629 628 arw fm 6,Vs bWL bWM bWN md5 bWO bVA M5 bUJ Vr,Of bVB fv WB 636 636 635 arv fm 7,Vs bWP bWQ bWR bWS bWT bVB M6 bUK Vr,Of bVC fv EA 587 639 586 arC fm 0,ĩ bVD bVE bVF bVG bVH (bA0 bVC)];have MI:=bOI (K:=fv) (C:=639) bUL ⟨Ů,bVD,bVE,bVF⟩ bVG bVH aDH;have bVI:aDG x9 = ā (yR 639):=Ů;have bVJ:HS fv mg fn bl cl T fn:=(Ŏ 0 (arr tz) (Ŏ 1 [GG] (anw 2 (anw 3 (oO 4 (Ŏ 5 aHl (oN 6 Ph Wx (oN 7 "card" Wx (Ŏ 8 [Ph] (Ŏ 9 aHl (oO 10 (oO 11 (oO 12 (oN 13 fz A1 (oO 14 (Ŏ 15 [fz,Pg,lN] (Ŏ 16 [fz,"side","kinds","firsts","length"] (aea bUS (Ŏ 17 aeE (oN 18 "number" "length" (Ŏ 19 [fz,oZ,GF,aWc,lN] (Ŏ 20 [fz,aWc,"first","later","taken","passed"] (Ŏ 21 a2M (Ŏ 22 a2L (Ŏ 23 [fz,GG,oZ,"inside"] (Ŏ 24 [fz,GF,oZ,"inside"] (Ŏ 25 a2K (Ŏ 26 [fz,oZ,anz,aWc,lN,Pg] (oN 27 anz Ww (oN 28 art Ww (oN 29 "bare" art (Ŏ 30 a2J (oO 31 (oO 32 (Ŏ 33 [Ey] (oO 34 (oO 35 (aea bA1 (aea bA2 (Ŏ 38 [fz,"ground",Pf,A1,Ey,GG,GF,"ways"] (Ŏ 39 [GG,GF,"by_rows","by_columns"] (Ŏ 40 [Ph] (oO 41 (oO 42 (oO 43 (Ŏ 44 [fz,Ey,Pf,A1,"own",Pe] (Ŏ 45 ["kinds"] (oN 46 Ph "sets" (oO 47 (Ŏ 48 ["lines","found","kept",LM,anx,A1] (Ŏ 49 [anx,"kept",A1,"other",qO,"taken"] (Ŏ 50 [anx] (Ŏ 51 ars (Ŏ 52 a2I (Ŏ 53 ars (Ŏ 54 a2H (Ŏ 55 ["n"] (oN 56 "n" "m" (aea bU3 (Ŏ 57 ["n"] (Ŏ 58 ["n"] (Ŏ 59 (arr "number") (Ŏ 60 ["height","width","rule"] (anw 61 (oN 62 tz "deep" (anw 63 (anw 64 (oN 65 tz Wx (oN 66 tz m7 (Ŏ 67 [tE] (oO 68 (Ŏ 69 [m7] (Ŏ 70 [Pg,WA,Ey] (Ŏ 71 [oZ] (Ŏ 72 (aHq tE) (Ŏ 73 a3a (oO 74 (oO 75 (Ŏ 76 ["lines"] (Ŏ 77 a2W (Ŏ 78 a2V (Ŏ 79 ["question",Pg,WA,"things"] (oN 80 "form" oZ (Ŏ 81 [oZ] (oN 82 WA fz (oN 83 WA "things" (Ŏ 84 ["result"] (oN 85 Jm Wz (Ŏ 86 a2T (Ŏ 87 a2S (Ŏ 88 [Jm,"_law_most",ac0,"_law_far",aWb,aWa,"_law_words",Wz,anu,"_law_columns"] (Ŏ 89 a2R (Ŏ 90 [anu,"_law_texts","_law_row"] (Ŏ 91 a2Q (Ŏ 92 aru (Ŏ 93 aru (Ŏ 94 a2P (Ŏ 95 a2O (Ŏ 96 a2N (Ŏ 97 [ant,acZ,aDB,ac0,"_law_bits",ans,aV9,"_law_some"] (Ŏ 98 [Jm,aDB,ac0,aWb,aWa,"_law_words",anu,"_law_named",acZ,ant,aDF,aV9] (aea bA4 bOE))))))))))))))))))))))))))))))))))))))))))))))))))))))))))))))))))))))))))))))))))))))))))))))))))))));refine⟨_,fun s v=>.of_eq rfl,fun base ζ ζ=>bOO (T:=T) (G:=G) (fu:=100) rfl bVJ (fun x hx=>bpt) HD bUM (ű ⟨ø,bOt (G2:=GM) (T2:=TM) (fu:=100) (bl:=bl) (cl:=cl) rfl rfl rfl rfl ⟨Ů,Ů,Ů,Ů⟩ bpu bpu (anv bVI) MI (Wc M0 (Wc M1 (Wc M2 (Wc M3 (Wc M4 (Wc M5 (Wc M6 bOJ))))))) (fun x hx=>bpt) HC rfl rfl bTf⟩) HC (i:=101) rfl rfl bA4 (ű ⟨Zo,ø,fun i d x qual st fa fd ζ ζ ζ F=>bOU (K:=fv) Ů F⟩) (by unfold T;repeat' (first | (refine List.forall_mem_cons.mpr (aD ?_)) | exact Or.inl rfl | exact Or.inr rfl | exact aS h aJ4)) bUs⟩
universe k85
end
open PySem PySem.W PyProof.Rows
set_option maxRecDepth 100000 in
theorem PySem.Challenge.cw_talkleast_k85_questions_answered_holds : PySem.Challenge.rw_talkleast_k85_questions_answered.Holds := by
 refine k85.bCr fun bVK => ?_;refine holds_open (q := k85.kQ) (loose := k85.kL) (Xt := fun s => xlAt k85.kQ [] s && recOk (RowW.records (OpenRow.toRowW (OpenLaw.row PySem.Challenge.rw_talkleast_k85_questions_answered))) s) (XP := XL k85.kQ []) (Yf := (kHook k85.VE k85.zB k85.kE).obs) (Ya := (kHook k85.VE k85.zB k85.kE).val) (YP := (kHook k85.VE k85.zB k85.kE).says) (N := 10762) k85.bCq (kHook k85.VE k85.zB k85.kE).of (kHook k85.VE k85.zB k85.kE).keeps (fun s e => xl_of s (Bool.and_eq_true_iff.mp e).1) XL.keeps (by rfl) (by rfl) (by rfl) (fun s e => recFacts_of (Bool.and_eq_true_iff.mp e).2) (by rfl) bVK k85.bCs k85.bCt ?hw ?hc
 case hw => w_witness2
 exact L2.bOP (l := PySem.Challenge.rw_talkleast_k85_questions_answered) (k := 60) (p := "_law_script") rfl rfl ⟨rfl, by decide, by decide⟩ (fun w h Y => (L2.aZ6 (kIn_of Y) (by kernel_rfl)).1) (fun w h Y => ⟨L2.bOX (T := k85.kT) (L2.aZ6 (kIn_of Y) (by kernel_rfl)).1 (L2.aZ6 (kIn_of Y) (by kernel_rfl)).2 (k85.kN _) (by kernel_rfl), k85.kM _⟩) fun w mg fa h KX G bVL => k85.all_mk KX G bVL

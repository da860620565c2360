import PyProof.Rows.All
import Wide.All
import OpenK.AllK
import Wide.FinOn
import PyProof.EqAt
import PyProof.EqKinds
import PyProof.TupleCall
import KE.BitLaws
import Open.SpecLaws
import KE.OsGo
import KE.KLam
import KE.KRevIter
import KE.KMinKey
import Open.Tops
import PySem.Challenge.RW_copperboard_s01_answers
import KE.OsShapes
set_option Elab.async false
set_option linter.all false
set_option maxRecDepth 100000
set_option maxHeartbeats 0
set_option compiler.extract_closed false
open Lean in
def _S(a l:List Syntax)(t:String):List Syntax:=match t.splitOn "/" with
|[k,n]=>.node .none (if k=="" then `null else (if k.front.isUpper then `Lean.Parser else `Lean.Parser.Tactic)++k.toName) (l.take n.toNat!).reverse.toArray::l.drop n.toNat!
|_=>(match t.toNat? with|some i=>a[i]!|_=>if t=="'"||t=="+" then .atom .none t else mkIdent t.toName)::l
def _P(s:String)(a:List Lean.Syntax):=(((" tacticSeq1Indented/1 tacticSeq/1".intercalate (s.splitOn "^")).splitOn " ").foldl (_S a) []).head!
def _r:=_P "' tacticRfl/1 /1^" []
abbrev Lean.T:=True
open Lean in
local macro_rules(kind:=Lean.Parser.Command.check)|s=>let t:=[4,27,89,172,211,235,292,357,420,444,468,525,609,668,725,768,851,938,984,1060,1127,1186,1272,1283,1290,1309];let m:=(List.range 1310).map (s!"o_{·}")++t.map (s!"tree_{·}")++(t++t.map (·+2)++t.map (·+4)).map (s!"sts_{·}");return mkNullNode ((`PySem.Challenge.pw_copperboard_s01_answers::m.map (.str `XS)).toArray.map fun n=>_P s!"/0 /0 /0 /0 /0 /0 /0 Command.declModifiers/7 ' PySem.W.Fast.tw{n.hash} /0 Command.declId/2 /0 ' Lean.T Term.typeSpec/2 Command.declSig/2 ' trivial /0 /0 Termination.suffix/2 /0 Command.declValSimple/4 Command.theorem/4 Command.declaration/2" [])
#check 0
section
open PySem PySem.W PyProof.Rows
open_shared XS for PySem.Challenge.pw_copperboard_s01_answers leaving 0
namespace Hd
abbrev pw:=PySem.Challenge.pw_copperboard_s01_answers
abbrev p0:Pos:=⟨0,0,0,0⟩
abbrev pK:Pos:=⟨834,0,851,17⟩
abbrev an:Option Value:=some (.ref 6)
noncomputable abbrev cb:Code := .body (behindTheImports pw) XS.env_1
noncomputable def sB (w:World) (os:OsState):SharedT:=⟨XS.tree_4 w.params,15, {},⟨[]⟩, {},187,os⟩
noncomputable def sK (w:World) (os:OsState):SharedT:=⟨XS.tree_1309 w.params,1239, {},⟨[]⟩, {},2120,os⟩
theorem pre (w:World) (os:OsState):topGo treeTable pw w 11 an 12 ⟨boot_heap w.params,⟨[]⟩,boot_drawn,boot_toks,os⟩ (topStub pw)=some ((sB w os).abs,⟨denote treeTable cb,cb,p0, [topFrame p0]⟩):=by kernel_rfl
theorem blk (w:World) (os:OsState):segRun treeTable pw w 11 an 1 1 (sB w os).abs (blockOf (behindTheImports pw) XS.env_1 cb p0 [topFrame p0])=some (.next,(sB w os).abs,cb,p0):=by kernel_rfl
theorem fin (w:World) (os:OsState):topRun treeTable pw w 11 an 2 (sK w os).abs ⟨doneF .next,cb,pK, [topFrame p0]⟩ = some (sK w os).abs:=by kernel_rfl
theorem size (w:World):((boot_heap w.params).isNs mainGlobals && (⟨[]⟩: Array GenState).size == 0,(boot_heap w.params).objs.size,(boot_heap w.params).nsMap mainGlobals "__annotations__")=(true,11,an):=by kernel_rfl
theorem bo : ∀ w:World,(fencedOpening treeTable pw w 16408).map (fun s => (s.heap,s.gens,s.drawn,s.toks))=some (boot_heap w.params,Array.mk [],boot_drawn,boot_toks):=boot_open (by kernel_rfl) rfl (fun s => by kernel_rfl)
theorem run (w:World) (os:OsState) : ∃ M,Nat.ble M 16408=true ∧ topRun treeTable pw w 11 an M ⟨boot_heap w.params,⟨[]⟩,boot_drawn,boot_toks,os⟩ (topStub pw)=some (sK w os).abs :=
  ⟨_,by decide +kernel,go_top (pre w os) (piece_block (blk w os) (XS.chain pw (behindTheImports pw) w os [] 2 _ (piece_nil (fin w os))))⟩
noncomputable def H1 (P:Params):Heap:=absHeap (XS.tree_1309 P) 1239 {}
noncomputable abbrev q0:Program:=view pw [190,191,192,232]
abbrev lo:List Str:=pw.boundNames
theorem l1 (P:Params):staticsOk (importedModules pw.main.body) (boot_heap P) (H1 P)=true:=by kernel_rfl
theorem l2 (P:Params):namesBound pw (H1 P)=true:=by kernel_rfl
theorem l4 (P:Params):laidKept (boot_heap P) (H1 P)=true:=by kernel_rfl
theorem a1 (P:Params) (os:OsState):seen ((recsOf q0).map (·.name)) (ownsOf q0) [] ⟨H1 P,⟨[]⟩, {},2120,os⟩ = expectedOf q0:=by kernel_rfl
theorem a2 (P:Params):(H1 P).bltView=bltViewBooted:=by kernel_rfl
theorem a3 (P:Params):(H1 P).keysOk (looseW q0 lo) ((recsOf q0).map (·.name)) ((litsOf q0).map (·.1)) ((clssOf q0 (looseW q0 lo)).map (·.name))=true:=by kernel_rfl
theorem a4 (P:Params):(H1 P).accountedOkI (importedModules pw.main.body)=true:=by kernel_rfl
theorem a5 (P:Params):((H1 P).isNs mainGlobals && (H1 P).isNs builtinsNs)=true:=by kernel_rfl
theorem a6 (P:Params):tablesOk q0 (H1 P)=true:=by kernel_rfl
theorem a7 (P:Params) (os:OsState):tabsOk q0 ⟨H1 P,⟨[]⟩, {},2120,os⟩ = true:=by kernel_rfl
theorem a8 (P:Params) (os:OsState):pinSeenD q0 (drecsOf q0) ⟨H1 P,⟨[]⟩, {},2120,os⟩ = pinGoodD (drecsOf q0):=by kernel_rfl
theorem a9 (P:Params) (os:OsState):plainSeenE q0 (looseW q0 lo) ⟨H1 P,⟨[]⟩, {},2120,os⟩ = plainGoodE q0 (looseW q0 lo):=by kernel_rfl
theorem aA (P:Params) (os:OsState):plainSeenD q0 lo ⟨H1 P,⟨[]⟩, {},2120,os⟩ = plainGoodD q0 lo:=by kernel_rfl
theorem aB (P:Params) (os:OsState):wideSeen q0 ⟨H1 P,⟨[]⟩, {},2120,os⟩ = wideGood q0:=by kernel_rfl
theorem aC (P:Params) (os:OsState):clsSeenW q0 lo ⟨H1 P,⟨[]⟩, {},2120,os⟩ = clsGoodW q0 lo:=by kernel_rfl
def fr (t:BT) (l:List Nat):Frag:=l.map fun a => (a,(t.get a).getD default)
def live (t:BT) (n a:Nat):Bool:=Nat.blt a n && match t.get a with | some ⟨_, _, .freed, _⟩ => false | some _ => true | none => false
theorem fr_look {t:BT} {a:Nat} {o:Obj} : ∀ {l:List Nat},(fr t l).lookup a=some o → a ∈ l ∧ (t.get a).getD default=o
  | [],h => by cases h
  | b :: l,h => by
    unfold fr at h
    rw [List.map_cons,List.lookup_cons] at h
    split at h
    · rename_i e; cases h; have:=eq_of_beq e; subst this; exact ⟨.head _,rfl⟩
    · exact ⟨.tail _ (fr_look h).1,(fr_look h).2⟩
theorem fr_in {t:BT} {n:Nat} {l:List Nat} (ok:l.all (live t n)=true):(fr t l).In (absHeap t n {}):=fun a o h => by
  obtain ⟨h1,h2⟩:=fr_look h
  obtain ⟨h3,this⟩:=Bool.and_eq_true_iff.mp (List.all_eq_true.mp ok a h1)
  revert this
  cases e:t.get a with
  | none => intro z; cases z
  | some o' =>
    intro z
    rw [e] at h2
    rw [abs_get (Nat.le_of_ble_eq_true h3) e]
    cases h2
    obtain ⟨c,d,dt,sl⟩:=o'
    cases dt <;> first | rfl | cases z
def ads:List Nat:=List.range' 0 976 ++ (List.range' 977 4 ++ (List.range' 982 6 ++ List.range' 989 250))
noncomputable def K (P:Params):Frag:=fr (XS.tree_1309 P) ads
theorem okA (P:Params):ads.all (live (XS.tree_1309 P) 1239)=true:=by kernel_rfl
theorem K_in (P:Params):(K P).In (H1 P):=fr_in (okA P)
abbrev rr:=PySem.Challenge.rw_copperboard_s01_answers
theorem hd0:(defOf q0 rr.name).isSome=true:=by kernel_rfl
noncomputable def dd:DefRec:=((defOf q0 rr.name).get hd0).1
theorem hd:defOf q0 rr.name=some (dd, []):=by kernel_rfl
theorem hp:rr.prog.theDef rr.name=some (dd.params,dd.body,dd.scope):=by kernel_rfl
theorem hk:kwWritten? dd.params.kwonlyargs dd.params.kw_defaults=some []:=by kernel_rfl
theorem lo_of {p:Program} (a:sreFenced p.main=true) (b:((moduleNames p.main.body).isEmpty || lookedIntoSs (moduleNames p.main.body) p.main.body)=true) (c:namesResolve p=true) (d:p.boundNames.all (fun n => !worldNames.contains n)=true)
    (e:noRoadLSs { strict := !(importedModules p.main.body).all cThrough.contains,foot:=none,bare:=(["vars", "dir", "locals"]: List Str).filter (readsOut p p.main.body) } p.main.body=true) (f:namesMeet p p.main.body (fun _ n => attrL n)=true):looksOpen p=true:=by
  unfold looksOpen; rw [a,b,c,d,e,f]; rfl
theorem ws_of {r:OpenSpec} (a:looksOpen r.prog=true) (b:(r.prog.boundNames.contains r.name && !startupNames.contains r.name && specDef r.prog r.name r.args.length && r.args.all Codec.fits && r.ret.ok)=true):r.wellSaid=true:=by
  unfold OpenSpec.wellSaid; rw [a,Bool.true_and]; exact b
theorem w3:namesResolve pw=true:=by kernel_rfl
theorem w5:noRoadLSs { strict := !(importedModules pw.main.body).all cThrough.contains,foot:=none,bare:=(["vars", "dir", "locals"]: List Str).filter (readsOut pw pw.main.body) } pw.main.body=true:=by kernel_rfl
theorem w7:namesMeet pw pw.main.body (fun _ n => attrL n)=true:=by kernel_rfl
theorem wS:rr.wellSaid=true:=ws_of (lo_of (by kernel_rfl) (by kernel_rfl) w3 (by kernel_rfl) w5 w7) (by kernel_rfl)
theorem ok1:(chainsOk q0 && opensWell rr.prog)=true:=by kernel_rfl
theorem tw:pw.tablesWhole=true:=by kernel_rfl
theorem bare:rr.prog.bare:=⟨rfl,rfl,rfl,rfl,rfl,tw⟩
theorem looks (w:World):(fun os => ((staticsOk (importedModules pw.main.body) (boot_heap w.params) (H1 w.params) && namesBound pw (H1 w.params) && gensDone ⟨H1 w.params,⟨[]⟩, {},2120,os⟩ && laidKept (boot_heap w.params) (H1 w.params)),
        openSeen q0 lo (importedModules pw.main.body) (fun _ => true) true ⟨H1 w.params,⟨[]⟩, {},2120,os⟩,H1 w.params))=fun _ => (true,openGood q0 lo,H1 w.params):=funext fun os => by
  refine looks_pair (by rw [l1,l2,l4]; rfl) (looks_pair ?_ rfl)
  unfold openSeen openGood
  refine looks_pair (a1 _ _) (looks_pair (a2 _) (looks_pair ?_ (looks_pair (a7 _ _) (looks_pair (a8 _ _) (looks_pair (a9 _ _) (looks_pair (aA _ _) (looks_pair (aB _ _) (aC _ _))))))))
  have h5:=Bool.and_eq_true_iff.mp (a5 w.params)
  rw [a3,a4,h5.1,h5.2,a6]; rfl
theorem left:LeftO pw q0 lo (fun _ => true) (fun s => s.heap) (fun w => H1 w.params) 16408 :=
  LeftO.of_pieces (H₁:=H1) (gs₁:=⟨[]⟩) (d₁ := {}) (k₁ := 2120) bo size (fun w os => go_top (pre w os) (piece_block (blk w os) (XS.chain pw (behindTheImports pw) w os [] 2 _ (piece_nil (fin w os))))) (by decide +kernel) looks
theorem hw0 : ∃ args,rr.pre args=true ∧ WData.layableAll args=true:=⟨[.list [.int 4, .int 0]],by decide +kernel,by decide +kernel⟩
theorem hy0 (w:World) (s:Shared) (e:s.heap=H1 w.params):(K w.params).In s.heap:=e ▸ K_in _
theorem top_fin (call:WalkOS q0 lo (fun _ _ => True) (fun w h => (K w.params).In h) rr dd [] fun f vs => PySem.call f vs):rr.Holds :=
  holds_os (r:=rr) (q:=q0) (loose:=lo) (Xt:=fun _ => true) (XP:=fun _ _ => True) (Yf:=fun s => s.heap) (Ya:=fun w => H1 w.params) (YP:=fun w h => (K w.params).In h) (d:=dd) (kwd := []) (N := 16408)
    left hy0 (fun w h h' x k => Frag.In.keeps x k) (fun _ _ => trivial) (fun _ _ _ _ _ => trivial) hd hp hk (fun _ _ => recFacts_nil rfl) os_shapes wS ok1 bare hw0 call
end Hd
end
def aa:=_P "' nv exact/2 /1^" []
def ae:=_P "' gn exact/2 /1^" []
def af:=_P "' /0 optConfig/1 decide/2 /1^" []
def ag:=_P "' ' Term.hole/1 /1 intro/2 ' ' tacticRfl/1 /3^" []
def ah:=_P "' lc exact/2 /1^" []
def ai:=_P "' jT U /1 Term.app/2 exact/2 /1^" []
def aj:=_P "' tJ exact/2 /1^" []
def ak:=_P "' assumption/1 /1^" []
def alD:=_P "' ' U ' U ' U ' ' ' + kernel posConfigItem/2 configItem/1 /1 optConfig/1 decide/2 /1^ Term.byTactic/2 ' U ' ' ' + kernel posConfigItem/2 configItem/1 /1 optConfig/1 decide/2 /1^ Term.byTactic/2 ' ' ' + kernel posConfigItem/2 configItem/1 /1 optConfig/1 decide/2 /1^ Term.byTactic/2 /13 ' Term.anonymousCtor/3 exact/2 /1^" []
def alE:=_P "' + kernel posConfigItem/2 configItem/1 /1 optConfig/1 decide/2 /1^" []
def alF:=_P "' ' ' ' inl Term.dotIdent/2 U /1 Term.app/2 exact/2 /1^ group/2 ' ' ' inr Term.dotIdent/2 U /1 Term.app/2 exact/2 /1^ group/2 ' ' assumption/1 /1^ group/2 /3 first/2 /1^" []
def alG:=_P "' ' tacticRfl/1 /1^ withUnfoldingAll/2 /1^" []
def alH:=_P "' ' ' Term.hole/1 ' Term.hole/1 /2 /0 ' U Term.basicFun/4 Term.fun/2 exact/2 /1^" []
def alI:=_P "' cj.mono ' ' assumption/1 /1^ Term.byTactic/2 ' ' /0 optConfig/1 decide/2 /1^ Term.byTactic/2 /2 Term.app/2 exact/2 /1^" []
def alJ:=_P "' Cw U U U U /4 Term.app/2 exact/2 /1^" []
def alK:=_P "' ' ' ' trivial exact/2 /1^ group/2 ' ' aP U /1 Term.app/2 exact/2 /1^ group/2 ' ' aW U /1 Term.app/2 exact/2 /1^ group/2 ' ' ' ' ' Term.syntheticHole/2 ' ' ' Term.syntheticHole/2 /3 ' Term.anonymousCtor/3 refine/2 /1^ group/2 /4 first/2 /1^ repeat'/2 /1^" []
def alL:=_P "' ' Term.hole/1 ' Term.hole/1 h /3 intro/2 ' ' /0 h elimTarget/2 /1 /0 /0 cases/4 ' ' tacticRfl/1 «tactic_<;>_»/3 /3^" []
def alM:=_P "' ' ' aP U /1 Term.app/2 exact/2 /1^ group/2 ' ' aW U /1 Term.app/2 exact/2 /1^ group/2 /2 first/2 /1^" []
def alN:=_P "' ' ' LW ' Term.hole/1 /1 Term.app/2 exact/2 /1^ group/2 ' ' ' tacticRfl/1 /1^ withUnfoldingAll/2 /1^ group/2 /2 first/2 /1^" []
def alO:=_P "' ' Term.hole/1 ' Term.hole/1 ' Term.hole/1 h /4 intro/2 ' ' /0 h elimTarget/2 /1 /0 /0 cases/4 ' ' tacticRfl/1 «tactic_<;>_»/3 /3^" []
def alP:=_P "' ' ' aP U /1 Term.app/2 exact/2 /1^ group/2 ' ' aW aP U /1 Term.app/2 /1 Term.app/2 exact/2 /1^ group/2 ' ' aW aW U /1 Term.app/2 /1 Term.app/2 exact/2 /1^ group/2 /3 first/2 /1^" []
def alQ:=_P "' ' ' ' trivial exact/2 /1^ group/2 ' ' ' inl Term.dotIdent/2 U /1 Term.app/2 exact/2 /1^ group/2 ' ' ' inr Term.dotIdent/2 U /1 Term.app/2 exact/2 /1^ group/2 ' ' ' ' ' Term.syntheticHole/2 ' ' ' Term.syntheticHole/2 /3 ' Term.anonymousCtor/3 refine/2 /1^ group/2 /4 first/2 /1^ repeat'/2 /1^" []
def alR:=_P "' ' Term.hole/1 ' Term.hole/1 ' Term.hole/1 ' Term.hole/1 h /5 intro/2 ' ' /0 h elimTarget/2 /1 /0 /0 cases/4 ' ' tacticRfl/1 «tactic_<;>_»/3 /3^" []
def alS:=_P "' /0 optConfig/1 lia/2 /1^" []
def alT:=_P "' /0 optConfig/1 /0 /0 /0 /0 simp/6 /1^" []
def alU:=_P "' /0 optConfig/1 omega/2 /1^" []
def alV:=_P "' /0 optConfig/1 /0 /0 /0 grind/5 /1^" []
def alW:=_P "' /0 optConfig/1 /0 /0 /0 simpAll/5 /1^" []
open Lean in
local macro_rules(kind:=Lean.Parser.Command.declaration)|s=>let d:=s[1];let k:=d[0].getAtomVal;if s.getPos?.isNone then Macro.throwUnsupported else return if k=="abbrev"||k=="def"&&s[0][1].isNone&&d[2][1].isNone then _P "/0 /0 /0 /0 ' Command.noncomputable/1 /1 /0 /0 Command.declModifiers/7 ' 0 1 2 /0 Command.definition/5 Command.declaration/2" [d[1],d[2],d[3]] else if k=="def"&&s[0][1].isNone then _P "3 ' 0 1 4 Command.declSig/2 2 Command.theorem/4 Command.declaration/2" [d[1],d[2][0],d[3],s[0],d[2][1][0]] else s.rewriteBottomUp (·.setInfo .none)
def U{α}{a:α}:a=a:=rfl
@[reducible]def O:=@List
@[reducible]def aR:=@Option
def ap{p:Prop}(h:autoParam p alS):p:=h
def au{p:Prop}(h:autoParam p alT):p:=h
def aU{p:Prop}(h:autoParam p alU):p:=h
def bh{p:Prop}(h:autoParam p alV):p:=h
def bw{p:Prop}(h:autoParam p af):p:=h
def bG{p:Prop}(h:autoParam p alW):p:=h
def cq{p:Prop}(h:autoParam p _r):p:=h
def eN{p:Prop}(h:autoParam p alE):p:=h
def aD:=@if_neg
def aH:=@if_pos
def bJ:=@congrArg
def cM:=@of_decide_eq_true
def cX:=@of_decide_eq_false
def dm:=@decide_eq_true
def fr:=@decide_eq_true_iff
def iQ:=@congrFun
def jx:=@or_false
def jO:=@decide_eq_decide
def kF:=@decide_eq_false
def lH:=@decide_eq_true_eq
def tD:=@if_false
def tM:=@decide_eq_false_iff_not
def xw:=@if_true
def Aq:=@not_or
def EX:=@beq_false_of_ne
def JA:=@beq_eq_false_iff_ne
def Ug:=@beq_iff_eq
def UF:=@beq_self_eq_true
noncomputable section
open Lean in
local macro_rules(kind:=«term_⁻¹»)|s=>return _P "0 ' heap Term.proj/3 ' objs Term.proj/3 ' size Term.proj/3" [s[0]]
open Lean in
local macro_rules(kind:=«term_<|>_»)|s=>return _P "autoParam 0 1 /2 Term.app/2" [s[0],s[2]]
open Option renaming «some»->Y,«none»->am,bind_some->gB,filter->vg,isSome_map->vp,getD_some->vx,isSome->xY,ite_none_right_eq_some->Bg,bind_eq_some_iff->Bh,map_some->Ep,isNone_iff_eq_none->EW,isSome_iff_exists->TJ,«map»->U4
open Bool renaming «true»->L,«false»->aA,and_eq_true->c6,eq_iff_iff->fV,eq_false_iff->gj,false_ne_true->gR,not_eq_false'->jU,not_eq_true'->my,true_and->mC,noConfusion->nO,or_eq_false_iff->pV,or_eq_true->tu,not_eq_true->xp,false_eq_true->xO,and_true->Bl,and_false->Jm,or_false->TH,false_and->TK,and_eq_true_iff->UE,and_eq_false_iff->UY,not_and->U1,and_assoc->U5,not_eq_false->agZ,decide_and->aiZ
open PySem renaming Str->aq,Addr->az,Value->aB,Expr->aT,wpAny->aZ,wpAny_bind->a9,Heap->bf,model->bg,Pos->bn,Shared->bp,sizeLine->bK,World->bN,Program->bO,Stmt->bY,Obj->b9,wpAny_pure->cF,Scope->dJ,starEach->d9,Around->eJ,mainGlobals->eZ,compareOp->fi,cLine->fP,Env->gC,assignEach->gE,mem_of_lookup->gF,compEnvC->ii,cellsFrom->iP,rawInt->jc,call->ju,PyData->jv,holding->kG,wpAny_mono->kY,assign->k6,FuncData->k7,IsPair->k9,sysModules->lK,NameKind->lL,wpAny_holding->mD,wpAny_truthy_bool->nL,pyNext->nM,wpAny_Call_Name_kw->nN,backTo->oV,swapsWith->oW,codeAny->oX,wpAny_updateSeq->oZ,wpAny_seqItems->o_,PassesOwn->p0,wpAny_tryCatch->p_,plainId_quiet->qa,intKind->rj,bootBuiltins->rm,binaryOp->rq,wpAny_letGo->rA,wpAny_field->rB,bindArgs->tH,updateSeq->tL,sliceBounds->vk,pushCells->vo,Params->vq,codeAny_builtin->vv,DictEntry->vB,standAt->xB,wpAny_passesOwn->xC,attributeBase->xG,bindL->xJ,bindC->xK,intItems->xN,ZipApart->xP,argBest->xT,spliced->AG,behindInMarks->AI,Result->AL,codeAny_mono->AM,Keyword->AN,Arguments->AO,typeLookup->AR,getItem->AS,numAt_eq->AT,notedBy->AW,atKey->AX,seqItems?->AZ,field->A3,hashInt->Et,tupleKind->Ex,setItem->Ey,pyIter->Ez,foldedSetIterable->EA,lastMarks->EB,call_meets->EE,wpAny_specialOf->EG,callerA->E4,builtinsNs->Jt,truthy->Ju,wpAny_standAt->Jv,findBy->Jz,wpAny_call->JB,IsPart->JC,subscripted->JE,numsOf->JG,nums_intItems->JH,intItems_at->JK,numAt->JL,pushCells_keeps->JN,wpAny_newObj_type->JP,valueAt->JR,tupleKind_room_in1->JS,wpAny_pyIter_enum->JT,wpAny_callSpecial?_slot->JW,wpAny_call_entry->JY,typeLookup_type->JZ,builtinLookup_eq_fast->J0,letGo->J2,Within->TQ,storeName->TV,wpAny_Name->TX,wpAny_execs_nil->TZ,Operator->T0,inplaceOp->T1,release->T4,swapsWithSole->T5,swappedStores->T6,letOwnedTupleGo->T7,wpAny_pyIter_list->T8,wpAny_pyIter_tuple->T9,getAttr->Ud,sizeLine_eq->Uh,backToKw->Uj,keywordEach->Uk,richCompare->Up,seqIndex_of->Uq,operate->Ur,slot_list_getitem->Us,getD_mem->Uv,mem_getD->Uw,closureFor->Uz,compPost->UA,wpAny_pyIter_zip->UC,relabel->UG,wpAny_rule->UL,wpAny_of_eq->UM,wpAny_loadName_local->ahp,wpAny_loadName_cell->ahq,interactive->ahs,wpAny_assign_Name->aht,rangeSize_one->ahx,intBits_le_64->ahy,recursionLimit->ahF,wpAny_loadPart'->ahM,wpAny_Slice->ahO,wpAny_getItem_list_slice->ahR,call_list_seq->ahT,wpAny_getItem_of->ah3,wpAny_in_of->ah4,wpAny_letOwnedTupleGo_enum->ah6,wpAny_pyNext_zip_item->ah8,wpAny_pyNext_zip_end->ah9,boot_len->aie,wpAny_nextOf_list_item->aiu,wpAny_attempt->aiv,wpAny_isInstance->aiy,callType_codes->aiB,code_list_new->aiF,wpAny_typeOf->aiI,wpAny_setField->ai3
open List renaming length_map->aI,length_append->cC,map_append->cN,getElem?_map->cT,mem_cons->cU,range->c8,map_map->c9,length_cons->c_,getElem?_eq_getElem->dq,getElem?_eq_some_iff->dH,all_eq_true->dR,mem_of_getElem?->eD,append_nil->eG,map_cons->eQ,mem_map->eY,mem_singleton->e_,mem_append->fE,length_set->fX,size_toArray->g8,mem_cons_self->ig,take_length->ij,ext_getElem?->iO,mem_cons_of_mem->ja,take->je,length_take->jr,getD_eq_getElem?_getD->jt,not_mem_nil->jw,length->jQ,length_drop->jR,mem_append_right->jS,«map»->jV,all_cons->kE,foldl_cons->kU,length_range->mG,mem_map_of_mem->nJ,length_mapIdx->nK,length_nil->p6,lookup_cons->p7,foldl->qc,mem_filter->q_,contains_iff_mem->rc,getElem?_mapIdx->rd,foldl_append->rD,mem_range->tz,nodup_cons->tE,getElem?_eq_none->tG,any_eq_false->va,mem_flatMap->vc,length_zip->vd,getElem?_append_left->ve,append_assoc->vf,findIdx?_cons->vA,reverse_cons->xq,getElem?_zip_eq_some->xr,of_mem_zip->xx,getElem?_set_ne->xA,any_cons->xM,getElem?_cons_succ->xR,forall_mem_cons->xS,map_drop->xW,takeWhile_cons->xZ,map_inj_left->ye,reverse_reverse->Av,getElem?_append_right->Aw,head?_cons->AA,getElem?_set->AC,lookup->AJ,all_map->AU,getElem_of_mem->A0,length_reverse->A5,getElem_mem->A8,flatMap->A9,find?_cons_of_neg->Bd,all_nil->Bk,map_eq_nil_iff->Ec,getElem?_of_mem->Ef,dropLast_eq_take->Ei,length_pos_iff->El,find?_cons->Eo,length_replicate->EC,getElem?_range->EO,map_take->EQ,flatMap_cons->ER,map_nil->ES,sum_cons->Jf,getElem?_take_of_lt->Jg,any_eq_true->Jh,mem_append_left->Jk,filter_cons->Jl,mem_of_mem_take->Jp,mem_filterMap->Jw,take_of_length_le->JI,any_map->JM,map_singleton->J6,drop_length->J7,flatMap_append->J8,mem_of_find?_eq_some->J_,length_eq_one_iff->Kc,all_append->Kd,contains_cons->Ke,map_id''->Tr,getElem?_drop->Tx,filter_append->TB,filter_map->TC,filter_congr->TD,nil_append->TM,length_dropLast->TN,filterMap_cons->TR,getElem_inj->TU,getElem?_set_self->TW,replicate->Ul,getElem?_replicate->Um,range_succ_eq_map->Ux,forIn_cons->Uy,nodup_nil->UB,set_set->UH,cons_append->UJ,zip_map->US,map_reverse->UU,length_filter_le->UX,mapM_cons->UZ,flatten_append->U9,range_succ->ag5,reverse_append->ag6,singleton_append->ag7,eq_nil_of_length_eq_zero->ag_,foldl_nil->ag',range'->ahb,nodup_append->ahc,contains_nil->ahe,mem_of_mem_drop->ahf,take_sublist->ahJ,zip_cons_cons->ahN,toList_toArray->ah',getElem_range->aii,set_comm->aik,take_zero->ail,drop_take->aim,forIn_nil->ait,getElem?_append->aiA,filterMap_map->aiK,drop_eq_getElem_cons->aiP,exists_cons_of_ne_nil->aiQ,mem_of_mem_eraseIdx->aiT,dropLast_sublist->ai0,findIdx?_eq_none_iff->ai6,findIdx?_eq_some_iff_getElem->ai7,getElem?_cons_zero->ai8,head?_drop->ai_,tail_drop->ai',drop_drop->aja,flatMap_def->ajg
open PySem.W renaming Frag->aJ,WData->gU,keepIn->k8,nsIn->nT,tabObj->tN,fnOf->vh,WellAll->vt,findIn->xD,emptyDict->xE,callWith_K->xI,kla_obj->xX,mg_of->yc,instObj->AD,codeIn->AQ,kla_fn->J',lookIn->Ua,plainGet->Ub,hasDictIn->Uc,takerIn->Ue,makesIn->Uf,codeHdIn->U2,hideAll->ahk,hideAll_size->ahl,hideAll_get->ahm,of_hideAll->ahn,hideAll_none->aho,handedIn->ahC,plainOver->ahD,isFn->ahG,cellsFrom_some->ahH,ktu_apart->ah_,WRecords->aia,length_le_weightAllW->aib,Ground->ajm
open PySem.Expr renaming Name->aK,Call->b0,Attribute->cD,Subscript->cR,Constant->dX,BoolOp->g9,Tuple->jW,ListComp->kI,BinOp->rE,Compare->tS,UnaryOp->vC,Lambda->yg,Dict->E5
open Or renaming «inl»->aP,«inr»->aW
open Vbpcaa renaming turnOf->a_,normal->cP,holds->eC,meet->fD,onSeg->gP,segSeg->ie,pointSeg->jN,dist2->jP,rightOf->kz,Frac->nI,inRange->nR,onEdge->pU,MOST->pX,dot->qZ,below->q0,fromLowest->tw,lowest->tx,apart->Ay,CORNERS->Be,goesOn->Ed,farEdges->Eg,nobodyMeets->Eh,opposite->Tg,cornersGoOn->ag2,flipped->ajh
open Vbpcad renaming Board->bC,Cell->cV,numbered->d_,boardLine->eh,Keep->eF,Reading->eM,«at_»->fY,ptsOf->iB,Raster->iN,pass->jb,pair->jd,flatPts->kJ,ringsFrom->kW,isSkeleton->k_,goodPts->lf,cutFits->lN,polygon->pb,«ints»->pc,goodMargin->pd,coords->qd,CUTS->qe,thingOf->qf,KINDS->tO,goodTold->tQ,goodGrid->tR,bits->vz,may'->xu,shownPts->ya,goodCell->yb,rings->AB,points->A7,THICK->Bf,readBoard->Bi,State->Bj,asked->Bm,«room»->Ej,neighbours->Em,raster->ET,reach->EU,KEEPS->EV,printed->E3,reasons->Ji,pointAt->J9,way->Ka,place->Kf,step->Ki,area2->UW,moved->U',between->aiS,stackLines->ajf,LONG->ajj
open Option.some renaming «inj»->bL
open Nat renaming le_refl->cg,le_trans->cS,zero_le->dI,ne_of_lt->fO,lt_of_lt_of_le->gQ,le_of_ble_eq_true->jT,lt_irrefl->kX,le_add_right->p8,lt_of_le_of_lt->p9,mul_pos->u_,zero_add->Ax,le_of_lt->AE,ne_of_gt->AH,add_le_add_left->A_,mul_le_mul_right->Eb,le_of_succ_le->Ee,le_of_eq->JQ,le_of_mul_le_mul_left->Tn,mod_eq_of_lt->Tu,add_comm->Tz,le_succ->Ui,succ_le_succ->UI,sub_self->UQ,add_le_add->U3,one_pos->agS,lt_sub_of_add_lt->ag0,mod_eq_sub_mod->ag1,mod_lt->ag3,mul_le_mul->ag4,succ_mul->aha,lt_succ_self->ahE,lt_succ_of_lt->ah0,lt_trans->ah2,«repr»->aiN,repr_eq_ofList_toDigits->aiO,sub_sub->aiR,mul_zero->aiU,add_zero->aiV,min_eq_left->ai9,add_le_add_right->ajk,ble->ajo
open PySem.Heap renaming lt_size->cA,get?_push_of_some->dO,get?_push_size->fW,get?_update_other->kH,size_push->mE,get?_update_self->xL,SameBut->AF
open PyVbpcad renaming whole->cI,shape->tP,answers_asked->Vb,answers->Vc,calls->ajl
open VbpcText renaming text->cQ,Bytes->kC,wordsFrom->kD,linesFrom->mB,decimal->nP,number->nQ,digit->pY,lineOf->qb,integer->Az,digitsOf->A6,natural->Ek,words->EY,readLines->U6,readText->aky
open Ne renaming «symm»->gk
open VbpcadNeutral renaming step->gl,bytes->Kh,asked1->Va,whole60->akz,natural->akA,asked->akB
open PySem.Stmt renaming Assign->iC,If->kK,Return->nU,For->yf
open False renaming elim->kZ
open Int renaming mul_le_mul_of_nonneg_left->lI,le_refl->lJ,mul_nonneg->nH,toNat_natCast->rh,mul_pos->tp,«ofNat»->tK,not_lt->u9,le_total->xo,mul_nonpos_of_nonpos_of_nonneg->Ao,le_antisymm->Ap,min_self->Ar,max_self->As,lt_of_le_of_lt->Au,mul_eq_zero->Ea,toNat->Er,mul_comm->Es,lt_iff_le_and_ne->EZ,mul_nonpos_of_nonneg_of_nonpos->Jb,mul_ne_zero->Jd,max_le->Je,natCast_add->Jn,add_mul->Jo,max_comm->Tf,le_max_left->Th,le_max_right->Ti,lt_min->Tj,mul_le_mul_of_nonneg_right->To,not_le->Tp,le_of_lt->Tq,mul_pos_of_neg_of_neg->agK,lt_trichotomy->agL,min_comm->agM,lt_of_sub_pos->agN,le_of_sub_nonpos->agO,min_eq_left->agP,min_eq_right->agQ,le_min->agT,mul_lt_mul_of_pos_left->agU,neg_mul->agV,le_trans->agW,lt_of_lt_of_le->agX,ediv_lt_iff_lt_mul->ahd,toNat_lt->ahg,mul_one->ahu,zero_add->aij,natCast_nonneg->aiW,lt_or_le->aiX,toNat_of_nonneg->aiY,max_eq_left->ajc,max_eq_right->ajd,max_lt->aje
open PyProof.Rows renaming IntsAre->lM,callWith_type1->p5,Call_->rp,envOfC->tI,AllBare->xz,IsTup->Ew,seqObj->EK,pickNums->EN,ite_ff->Jx,ite_tt->Jy,Subscript_->JD,chain_link->T_,lt_int->ahz,Compare_chain->ahA,subscriptTail_builtinR->ahQ,boot_enumerate->ah7,callWith_kw->aiq,callWith_builtin1->aj4,join_list->akl,join_tuple->akm,recsOf->akD
open Array renaming length_toList->mF,toList->TY,find?_toList->ahB,size_append->ain,getElem?_toList->aip,forIn_toList->ais
open PySem.Value renaming isInt->oU,type->pZ,bool->Eu,«none»->Jq,ref->Jr,isStrOf->ahh
open PySem.Obj renaming mapSeq->oY,data_mapFields->ai4
open PySem.PassesOwn renaming never->tJ
open PySem.SeqAt renaming shaped->vm,EqAt->Uo,compareEq_shaped->ahY
open PySem.PyData renaming eqv->vn,eqvAll->aio
open PySem.Around renaming under_plainId->vw,frames_deeper->ahI
open Prod.mk renaming injEq->vy
open True renaming «intro»->xF
open PySem.Calls renaming spliced_cons->xH,spliced_nil->AK,callWith_builtin->Ut,Name_function_global->ahr,evalArgs_plain->ahU
open PySem.Txt renaming join->xQ
open PySem.F renaming plain_max_loop->xU,plain_min_loop->xV,plainAttrs_list->AY,plain_extend_loop->EM,slot_list_extend->JF,slot_zip_next->JX,slot_tuple_iterator_next->Kb,slot_list_append->Uu,entry_max_loop->UK,entry_min_loop->UN,entry_list_extend->ahV,args_list_extend_2->ahW,slot_list_reverse->ahX,slot_dict_getitem->ah5,type_list_append->aif,type_list_extend->aih,slot_list_index->air,entry_zip_next->aiw,args_zip_next_1->aix,entry_extend_loop->aiz,called_list->aiC,typeCall_list_1->aiD,entry_list_init->aiE,args_list_init_2->aiG,entry_tuple_iterator_next->ai1,args_tuple_iterator_next_1->ai2
open Prod renaming fst->yd
open PySem.Walks renaming list->AV
open PySem.Builtin.List renaming listExtendWith->A4,listTooLong->ED,listItems->J1,listSameRef->J3,listUpdate->UP,listLengthHint->aiJ,listTouch->akv
open PySem.NameKind renaming free->EF,cell->ahZ
open PySem.W.WData renaming int->EH,weightAll->JU
open PySem.W.Codec renaming encAll->EI,denoteAll->UD,app->ajn
open PySem.AutoSeq1 renaming wpAny_loadPart'->EJ,sub_tuple_tuple->ahL,list_extend_list_list_0->akh,list_reverse_list_0->aki,idx_int->akq,sub_list_list->akr,sub_tuple_list->aks,sub_list_tuple->akt
open PySem.Builtin.SmallTypes renaming nextOf->EL,ownedTupleIsFree->UO
open And renaming «symm»->Jc
open List.eraseDupsBy renaming loop->Jj
open PySem.Paired renaming length->Js,snoc->ah1
open ForInStep renaming yield->JO
open PySem.Builtin.Builtins renaming bindParams->JV
open UInt8 renaming toNat->J4,toNat_ofNat'->TF,«ofNat»->ag8,le_iff_toNat_le->ag9,toNat_ofNat_of_lt'->aiM
open Char renaming toNat->J5
open Function renaming comp->Kg
open PyFlat renaming calls->Kj,call->U7,rows->U8,row->ajb
open Vbpcaa.Frac renaming whole->Tk,least->Tl,le->agR
open PySem.Str renaming ofString->UR,join->aiL
open Vbpcad.Board renaming layers->UT,fits->U_,mirrored->aji
open List.cons renaming injEq->UV,«inj»->Vd
open PySem.StrLaws renaming join_length_le->U0
open Iff renaming «rfl»->agY
open PySem.SeqAt.EqAt renaming int_str->ahi,str_int->ahj,int_int->ahK,same->ahS,none_bool->aj6,none_int->aj7,none_str->aj8,bool_none->aj9,bool_bool->aj_,bool_int->aj',bool_str->aka,int_none->akb,int_bool->akc,str_none->akd,str_bool->ake,str_str->akf,of_refs->aku
open PySem.IsRange renaming new->ahv
open PySem.Builtin.Range renaming rangeSize->ahw
open PySem.Heap.IsSliceOf renaming new->ahP
open PySem.Data renaming seq->aic
open PySem.Value.type renaming «inj»->aid
open PySem.Shared renaming TypeIs->aiH
open PySem.Heap.SameBut renaming update->ai5
open List.Perm renaming append->ajC
open Classical renaming byContradiction->ajD
open PySem.EqNone renaming eq_none_none->ajE,eq_none_bool->ajF,eq_none_int->ajG,eq_none_str->ajH,eq_bool_none->ajI,eq_int_none->ajK,eq_str_none->ajM,ne_none_none->ajP,ne_none_bool->ajQ,ne_none_int->ajR,ne_none_str->ajS,ne_bool_none->ajT,ne_int_none->ajV,ne_str_none->ajX
open PySem.EqMixed renaming eq_bool_str->ajJ,eq_int_str->ajL,eq_str_bool->ajN,eq_str_int->ajO,ne_bool_str->ajU,ne_int_str->ajW,ne_str_bool->ajY,ne_str_int->ajZ
open PySem.DictEntry renaming refKey->aj0
open PySem.W.Looks renaming here->aj1
open PySem.Within renaming «cons»->aj2
open PySem.Heap.Ns1 renaming of_empty->aj3
open PySem.Builtin.Tuple renaming tupleCompareSizes->aj5
open PySem.IsL renaming update->akg
open PySem.ReadsAll renaming «nil»->akj,«cons»->akk
open PySem.W.ReadsAllW renaming «nil»->akn,«cons»->ako
open PySem.Challenge renaming pw_copperboard_s01_answers->akp
open Vbpcad.Board.mk renaming injEq->akw
open Int.ofNat renaming «inj»->akx
open PySem.W.OpenSpec renaming post_iff->akC
open Nat.succ renaming «inj»->akE
section
variable{Q:Prop}
def eR{p q r}(h:p/\q/\r)(f:p->q->r->Q):Q:=by obtain⟨B,C,D⟩:=h;exact f B C D
def Ve{p q r s}(h:p/\q/\r/\s)(f:p->q->r->s->Q):Q:=by obtain⟨B,C,D,E⟩:=h;exact f B C D E
def vD{p q r s t}(h:p/\q/\r/\s/\t)(f:p->q->r->s->t->Q):Q:=by obtain⟨B,C,D,E,F⟩:=h;exact f B C D E F
def Bn{p q r s t u}(h:p/\q/\r/\s/\t/\u)(f:p->q->r->s->t->u->Q):Q:=by obtain⟨B,C,D,E,F,G⟩:=h;exact f B C D E F G
section
variable{a}{p q r s t u v w A:a->Prop}
def mH(h:∃x,p x)(f:∀x,p x->Q):Q:=by obtain⟨x,B⟩:=h;exact f x B
def aL(h:∃x,p x/\q x)(f:∀x,p x->q x->Q):Q:=by obtain⟨x,B,C⟩:=h;exact f x B C
def b7(h:∃x,p x/\q x/\r x)(f:∀x,p x->q x->r x->Q):Q:=by obtain⟨x,B,C,D⟩:=h;exact f x B C D
def rF(h:∃x,p x/\q x/\r x/\s x)(f:∀x,p x->q x->r x->s x->Q):Q:=by obtain⟨x,B,C,D,E⟩:=h;exact f x B C D E
def yh(h:∃x,p x/\q x/\r x/\s x/\t x)(f:∀x,p x->q x->r x->s x->t x->Q):Q:=by obtain⟨x,B,C,D,E,F⟩:=h;exact f x B C D E F
def aY x(B:p x)(C:q x):∃x,p x/\q x:=⟨x,B,C⟩
def fQ x(B:p x)(C:q x)(D:r x):∃x,p x/\q x/\r x:=⟨x,B,C,D⟩
def tU x(B:p x)(C:q x)(D:r x)(E:s x):∃x,p x/\q x/\r x/\s x:=⟨x,B,C,D,E⟩
def E6 x(B:p x)(C:q x)(D:r x)(E:s x)(F:t x):∃x,p x/\q x/\r x/\s x/\t x:=⟨x,B,C,D,E,F⟩
end
section
variable{a b}{p q r s t u v w A:a->b->Prop}
def Bo(h:∃x y,p x y)(f:∀x y,p x y->Q):Q:=by obtain⟨x,y,B⟩:=h;exact f x y B
def fF(h:∃x y,p x y/\q x y)(f:∀x y,p x y->q x y->Q):Q:=by obtain⟨x,y,B,C⟩:=h;exact f x y B C
def be(h:∃x y,p x y/\q x y/\r x y)(f:∀x y,p x y->q x y->r x y->Q):Q:=by obtain⟨x,y,B,C,D⟩:=h;exact f x y B C D
def de(h:∃x y,p x y/\q x y/\r x y/\s x y)(f:∀x y,p x y->q x y->r x y->s x y->Q):Q:=by obtain⟨x,y,B,C,D,E⟩:=h;exact f x y B C D E
def jX(h:∃x y,p x y/\q x y/\r x y/\s x y/\t x y)(f:∀x y,p x y->q x y->r x y->s x y->t x y->Q):Q:=by obtain⟨x,y,B,C,D,E,F⟩:=h;exact f x y B C D E F
def E7(h:∃x y,p x y/\q x y/\r x y/\s x y/\t x y/\u x y)(f:∀x y,p x y->q x y->r x y->s x y->t x y->u x y->Q):Q:=by obtain⟨x,y,B,C,D,E,F,G⟩:=h;exact f x y B C D E F G
def Vf(h:∃x y,p x y/\q x y/\r x y/\s x y/\t x y/\u x y/\v x y)(f:∀x y,p x y->q x y->r x y->s x y->t x y->u x y->v x y->Q):Q:=by obtain⟨x,y,B,C,D,E,F,G,H⟩:=h;exact f x y B C D E F G H
def Vg(h:∃x y,p x y/\q x y/\r x y/\s x y/\t x y/\u x y/\v x y/\w x y)(f:∀x y,p x y->q x y->r x y->s x y->t x y->u x y->v x y->w x y->Q):Q:=by obtain⟨x,y,B,C,D,E,F,G,H,I⟩:=h;exact f x y B C D E F G H I
def E8 x y(B:p x y):∃x y,p x y:=⟨x,y,B⟩
def gq x y(B:p x y)(C:q x y):∃x y,p x y/\q x y:=⟨x,y,B,C⟩
def cn x y(B:p x y)(C:q x y)(D:r x y):∃x y,p x y/\q x y/\r x y:=⟨x,y,B,C,D⟩
def tV x y(B:p x y)(C:q x y)(D:r x y)(E:s x y):∃x y,p x y/\q x y/\r x y/\s x y:=⟨x,y,B,C,D,E⟩
def jf x y(B:p x y)(C:q x y)(D:r x y)(E:s x y)(F:t x y):∃x y,p x y/\q x y/\r x y/\s x y/\t x y:=⟨x,y,B,C,D,E,F⟩
def vE x y(B:p x y)(C:q x y)(D:r x y)(E:s x y)(F:t x y)(G:u x y):∃x y,p x y/\q x y/\r x y/\s x y/\t x y/\u x y:=⟨x,y,B,C,D,E,F,G⟩
def Vh x y(B:p x y)(C:q x y)(D:r x y)(E:s x y)(F:t x y)(G:u x y)(H:v x y)(I:w x y):∃x y,p x y/\q x y/\r x y/\s x y/\t x y/\u x y/\v x y/\w x y:=⟨x,y,B,C,D,E,F,G,H,I⟩
end
section
variable{a b c}{p q r s t u v w A:a->b->c->Prop}
def Kk(h:∃x y z,p x y z)(f:∀x y z,p x y z->Q):Q:=by obtain⟨x,y,z,B⟩:=h;exact f x y z B
def nV(h:∃x y z,p x y z/\q x y z)(f:∀x y z,p x y z->q x y z->Q):Q:=by obtain⟨x,y,z,B,C⟩:=h;exact f x y z B C
def vF(h:∃x y z,p x y z/\q x y z/\r x y z)(f:∀x y z,p x y z->q x y z->r x y z->Q):Q:=by obtain⟨x,y,z,B,C,D⟩:=h;exact f x y z B C D
def mI(h:∃x y z,p x y z/\q x y z/\r x y z/\s x y z/\t x y z)(f:∀x y z,p x y z->q x y z->r x y z->s x y z->t x y z->Q):Q:=by obtain⟨x,y,z,B,C,D,E,F⟩:=h;exact f x y z B C D E F
def yi(h:∃x y z,p x y z/\q x y z/\r x y z/\s x y z/\t x y z/\u x y z)(f:∀x y z,p x y z->q x y z->r x y z->s x y z->t x y z->u x y z->Q):Q:=by obtain⟨x,y,z,B,C,D,E,F,G⟩:=h;exact f x y z B C D E F G
def Vi x y z(B:p x y z):∃x y z,p x y z:=⟨x,y,z,B⟩
def yj x y z(B:p x y z)(C:q x y z):∃x y z,p x y z/\q x y z:=⟨x,y,z,B,C⟩
def vG x y z(B:p x y z)(C:q x y z)(D:r x y z):∃x y z,p x y z/\q x y z/\r x y z:=⟨x,y,z,B,C,D⟩
def vH x y z(B:p x y z)(C:q x y z)(D:r x y z)(E:s x y z):∃x y z,p x y z/\q x y z/\r x y z/\s x y z:=⟨x,y,z,B,C,D,E⟩
def qg x y z(B:p x y z)(C:q x y z)(D:r x y z)(E:s x y z)(F:t x y z):∃x y z,p x y z/\q x y z/\r x y z/\s x y z/\t x y z:=⟨x,y,z,B,C,D,E,F⟩
def E9 x y z(B:p x y z)(C:q x y z)(D:r x y z)(E:s x y z)(F:t x y z)(G:u x y z):∃x y z,p x y z/\q x y z/\r x y z/\s x y z/\t x y z/\u x y z:=⟨x,y,z,B,C,D,E,F,G⟩
end
section
variable{a b c d}{p q r s t u v w A:a->b->c->d->Prop}
def Kl(h:∃x y z i,p x y z i/\q x y z i)(f:∀x y z i,p x y z i->q x y z i->Q):Q:=by obtain⟨x,y,z,i,B,C⟩:=h;exact f x y z i B C
def E_(h:∃x y z i,p x y z i/\q x y z i/\r x y z i)(f:∀x y z i,p x y z i->q x y z i->r x y z i->Q):Q:=by obtain⟨x,y,z,i,B,C,D⟩:=h;exact f x y z i B C D
def vI(h:∃x y z i,p x y z i/\q x y z i/\r x y z i/\s x y z i)(f:∀x y z i,p x y z i->q x y z i->r x y z i->s x y z i->Q):Q:=by obtain⟨x,y,z,i,B,C,D,E⟩:=h;exact f x y z i B C D E
def E'(h:∃x y z i,p x y z i/\q x y z i/\r x y z i/\s x y z i/\t x y z i)(f:∀x y z i,p x y z i->q x y z i->r x y z i->s x y z i->t x y z i->Q):Q:=by obtain⟨x,y,z,i,B,C,D,E,F⟩:=h;exact f x y z i B C D E F
def Vj(h:∃x y z i,p x y z i/\q x y z i/\r x y z i/\s x y z i/\t x y z i/\u x y z i)(f:∀x y z i,p x y z i->q x y z i->r x y z i->s x y z i->t x y z i->u x y z i->Q):Q:=by obtain⟨x,y,z,i,B,C,D,E,F,G⟩:=h;exact f x y z i B C D E F G
def Vk x y z i(B:p x y z i):∃x y z i,p x y z i:=⟨x,y,z,i,B⟩
def Vl x y z i(B:p x y z i)(C:q x y z i):∃x y z i,p x y z i/\q x y z i:=⟨x,y,z,i,B,C⟩
def Km x y z i(B:p x y z i)(C:q x y z i)(D:r x y z i):∃x y z i,p x y z i/\q x y z i/\r x y z i:=⟨x,y,z,i,B,C,D⟩
def yk x y z i(B:p x y z i)(C:q x y z i)(D:r x y z i)(E:s x y z i):∃x y z i,p x y z i/\q x y z i/\r x y z i/\s x y z i:=⟨x,y,z,i,B,C,D,E⟩
def Bp x y z i(B:p x y z i)(C:q x y z i)(D:r x y z i)(E:s x y z i)(F:t x y z i):∃x y z i,p x y z i/\q x y z i/\r x y z i/\s x y z i/\t x y z i:=⟨x,y,z,i,B,C,D,E,F⟩
def Fa x y z i(B:p x y z i)(C:q x y z i)(D:r x y z i)(E:s x y z i)(F:t x y z i)(G:u x y z i):∃x y z i,p x y z i/\q x y z i/\r x y z i/\s x y z i/\t x y z i/\u x y z i:=⟨x,y,z,i,B,C,D,E,F,G⟩
end
section
variable{a b c d e}{p q r s t u v w A:a->b->c->d->e->Prop}
def Vm(h:∃x y z i j,p x y z i j/\q x y z i j/\r x y z i j)(f:∀x y z i j,p x y z i j->q x y z i j->r x y z i j->Q):Q:=by obtain⟨x,y,z,i,j,B,C,D⟩:=h;exact f x y z i j B C D
def Bq(h:∃x y z i j,p x y z i j/\q x y z i j/\r x y z i j/\s x y z i j/\t x y z i j/\u x y z i j)(f:∀x y z i j,p x y z i j->q x y z i j->r x y z i j->s x y z i j->t x y z i j->u x y z i j->Q):Q:=by obtain⟨x,y,z,i,j,B,C,D,E,F,G⟩:=h;exact f x y z i j B C D E F G
def rH x y z i j(B:p x y z i j)(C:q x y z i j)(D:r x y z i j)(E:s x y z i j)(F:t x y z i j)(G:u x y z i j):∃x y z i j,p x y z i j/\q x y z i j/\r x y z i j/\s x y z i j/\t x y z i j/\u x y z i j:=⟨x,y,z,i,j,B,C,D,E,F,G⟩
def Vn x y z i j(B:p x y z i j)(C:q x y z i j)(D:r x y z i j)(E:s x y z i j)(F:t x y z i j)(G:u x y z i j)(H:v x y z i j):∃x y z i j,p x y z i j/\q x y z i j/\r x y z i j/\s x y z i j/\t x y z i j/\u x y z i j/\v x y z i j:=⟨x,y,z,i,j,B,C,D,E,F,G,H⟩
def Vo x y z i j(B:p x y z i j)(C:q x y z i j)(D:r x y z i j)(E:s x y z i j)(F:t x y z i j)(G:u x y z i j)(H:v x y z i j)(I:w x y z i j):∃x y z i j,p x y z i j/\q x y z i j/\r x y z i j/\s x y z i j/\t x y z i j/\u x y z i j/\v x y z i j/\w x y z i j:=⟨x,y,z,i,j,B,C,D,E,F,G,H,I⟩
end
section
variable{a b c d e f}{p q r s t u v w A:a->b->c->d->e->f->Prop}
def Kn(h:∃x y z i j k,p x y z i j k/\q x y z i j k/\r x y z i j k/\s x y z i j k/\t x y z i j k/\u x y z i j k/\v x y z i j k)(f:∀x y z i j k,p x y z i j k->q x y z i j k->r x y z i j k->s x y z i j k->t x y z i j k->u x y z i j k->v x y z i j k->Q):Q:=by obtain⟨x,y,z,i,j,k,B,C,D,E,F,G,H⟩:=h;exact f x y z i j k B C D E F G H
end
def an2{p q}(h:p/\q)(f:p->q->Q):Q:=f h.1 h.2
end
@[elab_as_elim] theorem rwl {α:Sort u} {a b:α} {motive:α->Prop} (h:a=b) (k:motive b):motive a:=h▸k
@[elab_as_elim] theorem rwi {a b:Prop} {motive:Prop->Prop} (h:a↔b) (k:motive b):motive a:=propext h▸k
open Lean in
local macro_rules(kind:=Lean.Parser.Tactic.rwSeq)|s=>let r:=s[2][1].getArgs;let f:=fun x=>s.setArg 2 (s[2].setArg 1 (mkNullNode x));let m:=fun n=>"' ' ' "++n++" 0 ' Term.ellipsis/1 /1 Term.app/2 ' ' Term.syntheticHole/2 /2 Term.app/2 refine/2 ' 1 /3^ withReducibleAndInstances/2 /1^ group/2 ";if r.isEmpty||s[1][0].getNumArgs>0||s[3].getNumArgs>0 then Macro.throwUnsupported else if r.size>1 then return _P "' 0 ' 1 /3^ ' paren/3" [f #[r[0]!],f (r.extract 2 r.size)] else let l:=r[0]![0].getNumArgs>0;return _P ("' "++(if l then m "Eq.subst" else m "rwl"++m "rwi")++"' ' 2 3 4 rewriteSeq/4 ' 1 /3^ group/2 "++(if l then "/2" else "/3")++" first/2") [r[0]![1],f #[],s[1],s[2],s[3]]
open Lean in
local macro_rules|`(tactic|show$t)=>`(tactic|refine(?_:$t))
open Lean in
local macro_rules(kind:=Lean.Parser.Tactic.cases)|s=>let t:=s[1][0];let b:=t[0].getNumArgs>0;if s[2].getNumArgs>0||(!b&& !t[1].isIdent) then Macro.throwUnsupported else if s[3].getNumArgs>0 then return if b then _P "' ' 0 ' /2 1 ' _o generalizeArg/4 /1 /0 generalize/3 ' ' /0 _o elimTarget/2 /1 /0 /0 2 induction/5 /3^ ' paren/3" [t[0][0][0],t[1],s[3]] else _P "' 0 /0 /0 1 induction/5" [s[1],s[3]] else if b then Macro.throwUnsupported else return _P "' ' 0 /0 injection/3 ' ' done/1 /3^ ' paren/3" [t[1]]
namespace _d
open Vbpcaa
def pf(a:Int):0<=a*a:=by
 obtain h|h:=xo 0 a
 .exact nH h h
 .exact Int.mul_nonneg_of_nonpos_of_nonpos h h
def Br{a:Int}(h:a≠0):0<a*a:=by
 obtain h|h:=Int.lt_or_gt_of_ne h
 .exact agK h h
 .exact tp h h
def tW{a:Int}(h:a*a<=0):a=0:=by
 by_cases e:a=0
 .lia
 .have:=Br e;lia
def Fb{u v:Int}:u*v<=0↔(u<=0/\0<=v)\/(0<=u/\v<=0):=by
 constructor
 .rcases agL u 0 with a|a|a<;>rcases agL v 0 with b|b|b
  .have:=agK a b;lia
  all_goals first|lia|(have:=tp a b;lia)
 .rintro(⟨a,b⟩|⟨a,b⟩)
  .exact Ao a b
  .exact Jb a b
def Bu{x c:Int}(a:0<c)(h:x*c<=0):x<=0:=by rcases Fb.mp h with _|_<;>lia
def Vp{x c:Int}(a:0<c)(h:0<=x*c):0<=x:=by have:=Bu (x:=-x) a ap;lia
def Vq{x c:Int}(a:c<0)(h:0<=x*c):x<=0:=
 Bu (c:=-c) ap ap
def Vr{d e a b:Int}(h:d*b=e*a)(f:d*a+e*b<=0):d*a<=0/\e*b<=0:=by
 have j:(d*a)*(b*b)=(e*b)*(a*a):=bh;by_cases k:a=0
 .simp_all
 by_cases g:b=0
 .subst g;simp at f⊢;exact f
 have i:=Br k;have l:=Br g;by_cases c:0<d*a
 .have:=tp c l;have q:0<=e*b:=Vp i ap
  lia
 .refine⟨ap,Bu i ?_⟩;exact(j).symm▸Ao ap ap
def ym{a b p:Int}:(a-p)*(b-p)<=0↔min a b<=p/\p<=max a b:=by rw[Fb];lia
def lh p a b:gP p a b=L↔a_ a b p=0/\(min a.x b.x<=p.x/\p.x<=max a.x b.x)/\(min a.y b.y<=p.y/\p.y<=max a.y b.y):=by
 delta gP qZ sub
 simp only[c6,lH];rw[<-ym,<-ym];constructor
 .rintro⟨c,d⟩;refine⟨c,Vr ?_ d⟩;grind[a_]
 lia
def Vs{a f d b w1 w2:Int}(h:a*b=f*d)(l:a*d<=0)(g:f*b<=0):
  (w1*f-w2*a)*(w1*b-w2*d)<=0:=by
 by_cases i:a*d=0
 .have k:(a*b)*(a*b)=0:=by
   grind
  have j:a*b=0:=tW ap;have e:(w1*f-w2*a)*(w1*b-w2*d)=(w1*w1)*(f*b)+(w2*w2)*(a*d)-2*(w1*w2)*(a*b):=ap;rw[e,i,j];have:=Jb (pf w1) g
  lia
 .apply Vq (c:=a*d) (by grind-order);have e:(w1*f-w2*a)*(w1*b-w2*d)*(a*d)=(w1*(a*b)-w2*(a*d))*(w1*(a*b)-w2*(a*d)):=bh;exact e▸pf _
def Vt{a d e b w1 w2:Int}(h:a*b=d*e)(l:(w1*d-w2*a)*(w1*b-w2*e)<=0)
  (p:w1*d-w2*a≠w1*b-w2*e):a*e+d*b<=0:=by
 have m:(w1*d-w2*a)*(w1*b-w2*e)*(a*e)=(w1*(a*b)-w2*(a*e))*(w1*(a*b)-w2*(a*e)):=bh;have n:(w1*d-w2*a)*(w1*b-w2*e)*(d*b)=(w1*(d*b)-w2*(a*b))*(w1*(d*b)-w2*(a*b)):=bh;have s:a*e<=0:=by
  by_cases c:0<a*e
  .exfalso;have z:(w1*(a*b)-w2*(a*e))*(w1*(a*b)-w2*(a*e))<=0:=by
    exact(m).symm▸Ao l ap
   have o:=tW z;have g:a≠0:=by rintro⟨⟩;simp at c
   have i:e≠0:=by rintro⟨⟩;simp at c
   have j:a*(w1*b-w2*e)=0:=bh;have k:e*(w1*d-w2*a)=0:=bh;obtain q|q:=Ea.mp j
   .exact g q
   obtain f|f:=Ea.mp k
   .exact i f
   lia
  .lia
 have t:d*b<=0:=by
  by_cases c:0<d*b
  .exfalso;have z:(w1*(d*b)-w2*(a*b))*(w1*(d*b)-w2*(a*b))<=0:=by
    rw[<-n];exact Ao l ap
   have o:=tW z;have g:d≠0:=by rintro⟨⟩;simp at c
   have i:b≠0:=by rintro⟨⟩;simp at c
   have j:d*(w1*b-w2*e)=0:=bh;have k:b*(w1*d-w2*a)=0:=bh;rcases Ea.mp j with q|q
   .exact g q
   obtain f|f:=Ea.mp k
   .exact i f
   lia
  .lia
 lia
def means{u v u' v' p q r s m:Int}(a:0<=u)(b:0<=v)(c:0<=u')(d:0<=v')(h:u+v=u'+v')(i:0<u+v)(e:u*p+v*q=u'*r+v'*s)
  (f:p<=m)(g:q<=m)(hr:m<r)(j:m<s):False:=by
 have k:=lI f a;have l:=lI g b;have n:=lI (show m+1<=r by lia) c;have o:=lI (show m+1<=s by lia) d;have t:u*m+v*m=(u+v)*m:=bh;have w:u'*(m+1)+v'*(m+1)=(u'+v')*m+(u'+v'):=bh;grind
@[reducible]def Bx:=Int×Int×Int×Int
abbrev cr(a b:Pt):Bx:=(min a.x b.x,min a.y b.y,max a.x b.x,max a.y b.y)
abbrev fZ(f s:Bx)(g:Int):Bool:=decide (f.1-s.2.2.1>=g)||(decide (s.1-f.2.2.1>=g)||(decide (f.2.1-s.2.2.2>=g)||decide (s.2.1-f.2.2.2>=g)))
def li:fZ f s g=L↔f.1-s.2.2.1>=g\/s.1-f.2.2.1>=g\/f.2.1-s.2.2.2>=g\/s.2.1-f.2.2.2>=g:=by simp[fZ]
abbrev iD(a b c d:Pt):Bool:=
 if fZ (cr a b) (cr c d) 1=L then aA
 else if a_ a b c*a_ a b d>0 then aA
 else decide (a_ c d a*a_ c d b<=0)
def fG(a b c:Pt):a_ b a c=-a_ a b c:=by delta a_;grind
def Bv p a b:gP p a b=gP p b a:=by rw[fV,lh,lh,fG a b p];simp[agM,Tf]
def Fc:Tg u v=L↔u*v<0:=by
 simp[Tg];constructor
 .rintro(⟨a,b⟩|⟨a,b⟩)
  .exact Int.mul_neg_of_neg_of_pos a b
  .exact Int.mul_neg_of_pos_of_neg a b
 .intro h;rcases Fb.mp (show u*v<=0 by lia)with _|_<;>lia
def jg a b c d:fD a b c d=L↔(a_ a b c*a_ a b d<0/\a_ c d a*a_ c d b<0)\/gP c a b=L\/gP d a b=L\/gP a c d=L\/gP b c d=L:=by simp[fD,Fc]
def Bw{a b c d p q r s m:Int}(o1:a<0/\0<b\/0<a/\b<0)(o2:c<0/\0<d\/0<c/\d<0)(es:c-d=b-a)(e:c*q-d*p=b*r-a*s)(f:p<=m)(g:q<=m)(hr:m<r)(h:m<s):False:=by
 obtain k|k:=o2
 .have o:0<a/\b<0:=aU;exact means (u:=d) (v:=-c) (u':=a) (v':=-b) aU aU aU aU aU aU ap f g h hr
 .have o:a<0/\0<b:=aU;exact means (u:=c) (v:=-d) (u':=b) (v':=-a) aU aU aU aU aU aU ap g f hr h
def sep{a b c d:Int}(h:min a b-max c d>=1):∃m,c<=m/\d<=m/\m<a/\m<b:=tU (max c d) (Th ..) (Ti ..) (Tj.1<|agN h).1 (Tj.1<|agN h).2
def Vu(l:a_ a b c*a_ a b d<0)(n:a_ c d a*a_ c d b<0):fZ (cr a b) (cr c d) 1=aA:=by
 rw[gj];intro f;rw[li]at f;have g:a_ c d a*b.x-a_ c d b*a.x=a_ a b d*c.x-a_ a b c*d.x:=by(simp only[a_];lia)
 have i:a_ c d a*b.y-a_ c d b*a.y=a_ a b d*c.y-a_ a b c*d.y:=by(simp only[a_];lia)
 have e:a_ c d a-a_ c d b=a_ a b d-a_ a b c:=by(simp only[a_];lia)
 have o1:=Fc.mpr l;have o2:=Fc.mpr n;simp only[Tg,tu,c6,lH]at o1 o2;have j:=o1.symm.imp Jc Jc;have k:=o2.symm.imp Jc Jc;obtain h|h|h|h:=f
 .exact rF (sep h) λm u v w x=>Bw k j e.symm g.symm v u x w
 .exact rF (sep h) λm=>Bw o1 o2 e g
 .exact rF (sep h) λm u v w x=>Bw k j e.symm i.symm v u x w
 .exact rF (sep h) λm=>Bw o1 o2 e i
def By d(h:gP c a b=L):a_ a b c=0/\a_ c d a*a_ c d b<=0:=by rw[lh,<-ym,<-ym]at h;refine eR h λe f g=>?_;refine⟨e,?_⟩;have:=Vs (w1:=d.x-c.x) (w2:=d.y-c.y) (by delta a_ at e;grind) f g;exact this
def rJ(e:a_ a b c=0)(h:a_ c d a*a_ c d b<=0)(f:a_ c d a≠a_ c d b):gP c a b=L:=by have:=Vt (by delta a_ at e;grind) h f;simp_all[gP,qZ,sub]
def Bz(h:gP c a b=L):fZ (cr a b) (cr c d) 1=aA:=by rw[lh]at h;grind[li,cr]
def vJ:fZ f s g=fZ s f g:=by rw[fV,li,li];omega
def Ko a b:cr a b=cr b a:=by simp[cr,agM,Tf]
def rK(h:a_ a b c=0)(d:min a.x b.x<=c.x/\c.x<=max a.x b.x)(g:a.x≠b.x):gP c a b=L:=by
 rw[lh];refine⟨h,d,?_⟩;rw[<-ym]at d⊢;have e:((a.x-c.x)*(b.x-c.x))*((b.y-c.y)*(b.y-c.y))=((a.y-c.y)*(b.y-c.y))*((b.x-c.x)*(b.x-c.x)):=by grind[a_]
 by_cases f:b.x-c.x=0
 .have i:a.x-c.x≠0:=ap;have:(a.x-c.x)*(b.y-c.y)=0:=by grind[a_]
  rcases Ea.mp this with q|q<;>simp_all
 .apply Bu<|Br f;exact(e).symm▸Ao d (pf _)
def ov{a b c d:Int}(h:¬min a b-max c d>=1)(k:¬min c d-max a b>=1):(min a b<=c/\c<=max a b)\/(min a b<=d/\d<=max a b)\/(min c d<=a/\a<=max c d)\/(min c d<=b/\b<=max c d):=by
 have h:=agO<|u9.1 h;have k:=agO<|u9.1 k;obtain l|l:=xo (min a b)<|min c d
 .obtain p|p:=xo c d
  .rw[agP p]at l k;exact aP ⟨l,k⟩
  .rw[agQ p]at l k;exact aW<|aP ⟨l,k⟩
 .obtain p|p:=xo a b
  .rw[agP p]at l h;exact aW<|aW<|aP ⟨l,h⟩
  .rw[agQ p]at l h;exact aW<|aW<|aW ⟨l,h⟩
def mm{a c d:Int}(X:(a<=c/\c<=a)\/(a<=d/\d<=a)\/min c d<=a/\a<=max c d):min c d<=a/\a<=max c d:=by
 obtain z|z|z:=X
 .rw[Ap z.1 z.2];exact⟨Int.min_le_left ..,Th ..⟩
 .rw[Ap z.1 z.2];exact⟨Int.min_le_right ..,Ti ..⟩
 .exact z
def Vv{a b c d:Pt}(i:a_ a b c=0)(k:a_ a b d=0)(j:a_ c d a=0)(l:a_ c d b=0)(g:fZ (cr a b) (cr c d) 1=aA):fD a b c d=L:=by
 rw[jg];right;rw[gj,ne_eq,li,Aq,Aq,Aq]at g;have X:=ov g.1 g.2.1;by_cases h:a.x=b.x
 .rw[<-h,Ar,As,or_self]at X;by_cases f:c.x=d.x
  .rw[<-f,Ar,As,or_self_left]at X;have e:a.x=c.x:=X.elim (λz=>Ap z.1 z.2) λz=>Ap z.2 z.1;simp only[lh,i,k,j,l,<-h,<-f,<-e,Ar,As,lJ,true_and];exact ov g.2.2.1 g.2.2.2
  .exact aW<|aW<|aP<|rK j (mm X) f
 .by_cases f:c.x=d.x
  .rw[<-f,Ar,As,or_self_left]at X;exact aP<|rK i (mm<|X.elim (aW∘aW) (·.imp_right aP)) h
  .exact X.imp (rK i · h)<|.imp (rK k · h)<|.imp (rK j · f) (rK l · f)
def Fd a b c d:iD a b c d=fD a b c d:=by
 rw[fV]
 delta iD
 constructor
 .intro h;split at h
  .simp at h
  split at h
  .simp at h
  rename_i m v;have e:=cM h;have f:a_ a b c*a_ a b d<=0:=ap;have w:a_ c d a-a_ c d b=a_ a b d-a_ a b c:=by grind[a_]
  by_cases g:a_ c d a=a_ c d b
  .rw[g]at e;have n:=tW e;have o:a_ c d a=0:=ap;have p:a_ a b c=a_ a b d:=ap;rw[p]at f;have q:=tW f;have s:a_ a b c=0:=ap;exact Vv s q o n<|by simpa using m
  .rw[jg];by_cases i:a_ a b c=0
   .exact aW<|aP<|rJ i e g
   by_cases j:a_ a b d=0
   .refine aW<|aW<|aP<|rJ (d:=c) j ?_ ?_
    .rw[fG c d a,fG c d b];lia
    .rw[fG c d a,fG c d b];simp_all
   by_cases k:a_ c d a=0
   .exact aW<|aW<|aW<|aP<|rJ k f ap
   by_cases l:a_ c d b=0
   .refine aW<|aW<|aW<|aW<|rJ (d:=a) l ?_ ?_
    .rw[fG a b c,fG a b d];lia
    .simp[fG a b c,fG a b d];lia
   have A:=Jd i j;have C:=Jd k l
   lia
 .intro h;rw[jg]at h;have fin:fZ (cr a b) (cr c d) 1=aA->a_ a b c*a_ a b d<=0->a_ c d a*a_ c d b<=0->(if fZ (cr a b) (cr c d) 1=L then aA else if a_ a b c*a_ a b d>0 then aA else decide (a_ c d a*a_ c d b<=0))=L:=by
   intro x y z;rw[aD (by rw[x];simp),aD ap];exact dm z
  rcases h with⟨t,u⟩|h|h|h|h
  .exact fin (Vu t u) ap ap
  .obtain⟨z,y⟩:=By d h;exact fin (Bz h) (by rw[z];simp) y
  .obtain⟨z,y⟩:=By c h;refine fin ?_ (by rw[z];simp) ?_
   .exact(Ko c d)▸Bz h
   .rw[fG c d a,fG c d b]at y;lia
  .obtain⟨z,y⟩:=By b h;exact fin (vJ▸Bz h) y<|by rw[z];simp
  .obtain⟨z,y⟩:=By a h;refine fin ?_ ?_<|by rw[z];simp
   .rw[vJ,Ko a b];exact Bz h
   .rw[fG a b c,fG a b d]at y;lia
abbrev f6(a b:Pt):Int:=(a.x-b.x)*(a.x-b.x)+(a.y-b.y)*(a.y-b.y)
def ph(a b):((len2 a b:Nat))=f6 a b:=by simp[len2,sq,f6]
def Kp z:((sq z:Nat))=z*z:=by simp[sq]
def Vw(a b:Pt):f6 a b=f6 b a:=by delta f6;grind
abbrev cw(n:Nat)(f:nI):Prop:=n*f.den<=f.num
instance(n:Nat)(f:nI):Decidable (cw n f):=by unfold cw;infer_instance
def Kq{n:Nat}{f:nI}:(Tk n).le f=decide (cw n f):=by simp[Tk,agR,cw]
def tX{n m:Nat}:cw n (.whole m)↔n<=m:=by simp[cw,Tk]
abbrev jY(p a b:Pt):Int:=(p.x-a.x)*(b.x-a.x)+(p.y-a.y)*(b.y-a.y)
abbrev lO(p a b:Pt)(g:Int):Bool:=
 if jY p a b<=0 then decide (f6 p a>=g*g)
 else if jY p a b>=f6 a b then decide (f6 p b>=g*g)
 else decide (a_ a b p*a_ a b p>=g*g*f6 a b)
def Vx(p a b)(g:Nat):lO p a b g=decide (cw (g*g)<|jN p a b):=by
 delta lO jN
 have c:qZ (sub p a) (sub b a)=jY p a b:=U;simp only[c];rw[ph a b];split
 .rw[jO,tX,<-ph];norm_cast
 .split
  .rw[jO,tX,<-ph];norm_cast
  .rw[<-Kp,<-ph];norm_cast
def Kr(p a b):0<(jN p a b).den:=by
 rw[jN];split
 .exact agS
 .split
  .exact agS
  lia
def Vy{n:Nat}{f g:nI}(b:0<f.den)(d:0<g.den):cw n (f.least g)↔cw n f/\cw n g:=by
 delta Tl agR cw
 by_cases c:f.num*g.den<=g.num*f.den
 .rw[aH ap];refine⟨λh=>⟨h,?_⟩,λh=>h.1⟩;have e:n*f.den*g.den<=f.num*g.den:=Eb _ h;have a:f.den*(n*g.den)<=f.den*g.num:=by
   grind
  exact Tn a b
 .rw[aD bG];refine⟨λh=>⟨?_,h⟩,λh=>h.2⟩;have e:n*g.den*f.den<=g.num*f.den:=Eb _ h;have a:g.den*(n*f.den)<=g.den*f.num:=by
   grind
  exact Tn a d
def Ks{f g:nI}(a:0<f.den)(b:0<g.den):0<(f.least g).den:=by grind[Tl]
def Kt{n:Nat}:∀(l:O nI)(f:nI),0<f.den->(∀x∈l,0<x.den)->(cw n (l.foldl .least f)↔cw n f/\∀x∈l,cw n x)
 |[],f,_,_=>by simp
 |x::l,f,hf,b=>by have a:=b x au;rw[kU,Kt l _ (Ks hf a) bG,Vy hf a];simp[and_assoc]
def Ku:∀(l:O nI)(f:nI),0<f.den->(∀x∈l,0<x.den)->0<(l.foldl Tl f).den
 |[],f,hf,_=>hf
 |x::l,f,hf,a=>Ku l _ (Ks hf bG) bG
def Kw{n:Nat}{l:O nI}(a:l≠[])(b:∀x∈l,0<x.den):cw n (leastOf l)↔∀x∈l,cw n x:=by
 match l,a with
 |f::r,_=>
  show cw n (r.foldl .least f)↔_;simp_all[Kt]
def Kx{l:O nI}(a:l≠[])(b:∀x∈l,0<x.den):0<(leastOf l).den:=by
 match l,a with
 |f::r,_=>exact Ku r f (b f au) bh
def Vz{n:Nat}{f:nI}(c:0<f.den):cw n f.reduced↔cw n f:=by
 delta Frac.reduced cw
 have d:0<.gcd f.num f.den:=Nat.gcd_pos_of_pos_right _ c;let⟨a,e⟩:=Nat.gcd_dvd_left f.num f.den;let⟨b,i⟩:=Nat.gcd_dvd_right f.num f.den;generalize Nat.gcd f.num f.den=g at*
 have j:f.num/g=a:=bG;have k:f.den/g=b:=bG;rw[j,e,i];constructor
 .intro h
  calc n*_=g*_:=by grind-ring
   _<=g*a:=Nat.mul_le_mul_left g h
 .exactλh=>Tn (by(simp_all;lia)) d
def VA(a b c d):0<(ie a b c d).den:=by
 delta ie
 split
 .decide
 simp[Kx,Kr]
def rL{n:Nat}(e:0<n)(a b c d):cw n (ie a b c d)↔fD a b c d=aA/\cw n (jN a c d)/\cw n (jN b c d)/\cw n (jN c a b)/\cw n (jN d a b):=by
 delta ie
 split
 .grind[tX]
 simp_all[Kw,Kr]
def Ff{a b:Int}(c:0<=a)(h:a<=b):a*a<=b*b:=by
 calc a*a<=a*b:=lI h c
  _<=b*b:=To h ap
def BA{px py ax ay bx by_ g:Int}(a:0<=g)(b:px-ax>=g)(d:px-bx>=g)
  (m:0<(px-ax)*(bx-ax)+(py-ay)*(by_-ay))(n:(px-ax)*(bx-ax)+(py-ay)*(by_-ay)<(ax-bx)*(ax-bx)+(ay-by_)*(ay-by_)):
  ((bx-ax)*(py-ay)-(by_-ay)*(px-ax))*((bx-ax)*(py-ay)-(by_-ay)*(px-ax))>=g*g*((ax-bx)*(ax-bx)+(ay-by_)*(ay-by_)):=by
 have e:((ax-bx)*(ax-bx)+(ay-by_)*(ay-by_))*(px-ax)-((px-ax)*(bx-ax)+(py-ay)*(by_-ay))*(bx-ax)=(ay-by_)*((bx-ax)*(py-ay)-(by_-ay)*(px-ax)):=bh;have f:(ay-by_)*(ay-by_)<=(ax-bx)*(ax-bx)+(ay-by_)*(ay-by_):=by have:=pf<|ax-bx;lia
 generalize(bx-ax)*(py-ay)-(by_-ay)*(px-ax)=T at*
 generalize(px-ax)*(bx-ax)+(py-ay)*(by_-ay)=t at*
 generalize(ax-bx)*(ax-bx)+(ay-by_)*(ay-by_)=s at*
 have h:s*g<=(ay-by_)*T:=by
  rw[<-e];by_cases c:bx-ax<=0
  .have i:t*(bx-ax)<=0:=Jb ap c;have j:s*g<=s*(px-ax):=lI b ap
   lia
  .have i:t*(bx-ax)<=s*(bx-ax):=To ap ap;have j:s*g<=s*(px-bx):=lI d ap;have o:s*(px-ax)-s*(bx-ax)=s*(px-bx):=bh
   lia
 have k:0<=s*g:=nH ap a;have p:=Ff k h;have q:(ay-by_)*T*((ay-by_)*T)<=s*(T*T):=
  have:(ay-by_)*T*((ay-by_)*T)=(ay-by_)*(ay-by_)*(T*T):=bh
  this▸(To f<|pf T)
 have l:s*(g*g*s)<=s*(T*T):=by
  have:s*(g*g*s)=s*g*(s*g):=bh
  lia
 exact Int.le_of_mul_le_mul_left l ap
def BB{z g:Int}(a:0<=g)(h:z>=g\/-z>=g):z*z>=g*g:=by
 obtain h|h:=h
 .exact Ff a h
 .have:=Ff a h
  lia
def Ky{a b:Pt}{g:Int}(c:0<=g)(h:a.x-b.x>=g\/b.x-a.x>=g\/a.y-b.y>=g\/b.y-a.y>=g):f6 a b>=g*g:=by
 delta f6
 have x:=pf<|a.x-b.x;have y:=pf<|a.y-b.y;obtain h|h|h|h:=h
 .have:=BB c<|aP h;lia
 .have:=BB (z:=a.x-b.x) c ap;lia
 .have:=BB c<|aP h;lia
 .have:=BB (z:=a.y-b.y) c ap;lia
def VB{g x a b:Int}:g<=x-max a b↔g<=x-a/\g<=x-b:=by have e m:g<=x-m↔m<=x-g:=aU;rw[e,e,e,Je]
def VC{g x a b:Int}:g<=min a b-x↔g<=a-x/\g<=b-x:=by
 have e m:g<=m-x↔g+x<=m:=⟨Int.add_le_of_le_sub_right,Int.le_sub_right_of_add_le⟩
 rw[e,e,e,agT]
def BC{p a b:Pt}{g:Int}(c:0<=g)(h:fZ (cr p p) (cr a b) g=L):lO p a b g=L:=by
 rw[li]at h;simp only[cr,ge_iff_le,Ar,As,VB,VC]at h
 delta lO
 split
 .exact dm<|Ky c<|h.imp (·.1)<|.imp (·.1)<|.imp (·.1) (·.1)
 split
 .exact dm<|Ky c<|h.imp (·.2)<|.imp (·.2)<|.imp (·.2) (·.2)
 rename_i c1 c2;apply dm
 delta jY at c1 c2
 delta f6 at c2⊢
 delta a_
 obtain h|h|h|h:=h
 .exact BA c h.1 h.2 bh bh
 .have:=BA (px:=-p.x) (py:=p.y) (ax:=-a.x) (ay:=a.y) (bx:=-b.x) (by_:=b.y) c ap ap bh bh;grind
 .have:=BA (px:=p.y) (py:=p.x) (ax:=a.y) (ay:=a.x) (bx:=b.y) (by_:=b.x) c h.1 h.2 bh bh;grind
 .have:=BA (px:=-p.y) (py:=p.x) (ax:=-a.y) (ay:=a.x) (bx:=-b.y) (by_:=b.x) c ap ap bh bh;grind
def VD{a b c d:Pt}{g:Int}(e:1<=g)(h:fZ (cr a b) (cr c d) g=L):fD a b c d=aA:=by
 rw[<-Fd,iD,aH];rw[li]at h⊢
 lia
def tY{f s a s':Bx}{g:Int}(h:fZ f s g=L)(b:f.1<=a.1/\f.2.1<=a.2.1/\a.2.2.1<=f.2.2.1/\a.2.2.2<=f.2.2.2)(c:s.1<=s'.1/\s.2.1<=s'.2.1/\s'.2.2.1<=s.2.2.1/\s'.2.2.2<=s.2.2.2):fZ a s' g=L:=by(simp_all[li];lia)
abbrev iR(a b c d:Pt)(g:Int):Bool:=
 if fZ (cr a b) (cr c d) g=L then L
 else if iD a b c d=L then aA
 else lO a c d g&&(lO b c d g&&(lO c a b g&&lO d a b g))
def Fh(a b c d){g:Nat}(e:0<g):iR a b c d g=decide (cw (g*g)<|ie a b c d):=by
 have f:0<g*g:=u_ e e;rw[fV,fr,rL f];have pt:∀p a b,cw (g*g) (jN p a b)↔lO p a b g=L:=λp a b=>by rw[Vx,fr]
 simp only[pt]
 delta iR
 split
 .rename_i h;refine⟨λ_=>⟨VD ap h,?_,?_,?_,?_⟩,λ_=>U⟩
  .refine BC ap (tY h ?_ ?_)<;>simp only[cr]<;>lia
  .refine BC ap (tY h ?_ ?_)<;>simp only[cr]<;>lia
  .rw[vJ]at h;refine BC ap (tY h ?_ ?_)<;>simp only[cr]<;>lia
  .rw[vJ]at h;refine BC ap (tY h ?_ ?_)<;>simp only[cr]<;>lia
 .rw[Fd];split
  .rename_i h;simp[h]
  .rename_i h;have i:fD a b c d=aA:=by simpa using h
   simp only[c6,i,true_and]
abbrev px{α:Type}(f:α->Bool):O α->Bool
 |[]=>aA
 |e::r=>f e^^px f r
def BD f:∀l:O α,px f l=decide ((l.filter f).length%2=1)
 |[]=>rfl
 |e::r=>by rw[px,BD f r];grind
def Kz f g:∀l:O α,px (λe=>f e^^g e) l=(px f l^^px g l)
 |[]=>rfl
 |e::r=>by unfold px;simp[Kz f g r];cases f e<;>cases g e<;>cases px f r<;>cases px g r<;>rfl
def BE:∀{l:O α},(∀e∈l,f e=g e)->px f l=px g l:=by
 intro a h
 induction a with
 |nil=>exact U
 |cons e r b=>
  unfold px;rw[h e au,b<|λx c=>h x bh]
abbrev path(a:Pt):O Pt->Pt->O (Pt×Pt)
 |[],b=>[(a,b)]
 |c::l,b=>(a,c)::path c l b
def KA:∀l a b,(a::l).zip (l++[b])=path a l b
 |[],a,b=>rfl
 |c::l,a,b=>by show _::(c::l).zip (l++[b])=_;rw[KA l c b];rfl
def vK p q r l:edges (p::q::r::l)=path p (q::r::l) p:=by rw[<-KA];rfl
def KB(d:Pt->Bool):∀l a b,px (λe=>d e.1^^d e.2) (path a l b)=(d a^^d b)
 |[],a,b=>by simp[path,px]
 |c::l,a,b=>by rw[path,px,KB d l c b];simp
def KC(a:Pt->Bool)k(h:3<=k.length):px (λe=>a e.1^^a e.2) (edges k)=aA:=by
 match k,h with
 |p::q::r::l,_=>
  simp[vK,KB]
def VE(i:a_ a b c*a_ a b d<=0)(j:a_ c d a*a_ c d b<=0)(k:a_ c d a≠a_ c d b):fD a b c d=L:=by
 have l:a_ c d a-a_ c d b=a_ a b d-a_ a b c:=by delta a_;grind
 rw[jg];by_cases e:a_ a b c=0
 .exact aW<|aP<|rJ e j k
 by_cases f:a_ a b d=0
 .refine aW<|aW<|aP<|rJ (d:=c) f ?_ ?_
  .rw[fG c d a,fG c d b];lia
  .rw[fG c d a,fG c d b];simp_all
 by_cases g:a_ c d a=0
 .exact aW<|aW<|aW<|aP<|rJ g i ap
 by_cases h:a_ c d b=0
 .refine aW<|aW<|aW<|aW<|rJ (d:=a) h ?_ ?_
  .rw[fG a b c,fG a b d];lia
  .simp[fG a b c,fG a b d];lia
 have m:=Jd e f;have n:=Jd g h
 lia
section
variable{t1 t2 t3 t4 A B P Q:Int}
def vL{x y c:Int}(a:0<c)(h:x*c<=y*c):x<=y:=Int.le_of_mul_le_mul_right h a
def mlt{x y c:Int}(a:0<c)(h:x*c<y*c):x<y:=bG
def KE(e:t3-t4=t2-t1)(i:t3*B-t4*A=t2*P-t1*Q)(a:P<A/\A<=Q)(b:P<B/\B<=Q)(f:0<t3)(g:t4<0):t1<0/\0<=t2:=by
 have h:=agU b.1 f;have j:t3*B<=t3*Q:=lI b.2 ap;have k:(-t4)*P<_*A:=agU a.1 ap;have l:(-t4)*A<=_*Q:=lI a.2 ap;have d:t3=t4+t2-t1:=ap;refine⟨mlt (c:=Q-P) ap ?_,vL (c:=Q-P) ap ?_⟩
 .subst d;grind
 .subst d;grind
def KF(e:t3-t4=t2-t1)(i:t3*B-t4*A=t2*P-t1*Q)(f:A<=P)(g:P<B/\B<=Q)(a:0<t1)(b:0<t4):t2<=0/\t3<=0/\t3<t4:=by have h:t1*(B-P)<=t1*(Q-P):=lI ap bh;have j:t4*(B-P)<=t4*(B-A):=lI ap ap;have k:0<t1*(B-P):=tp a ap;have l:0<t4*(B-P):=tp b ap;have d:t3=t4+t2-t1:=ap;refine⟨vL (c:=B-P) ap ?_,vL (c:=B-P) ap ?_,mlt (c:=B-P) ap ?_⟩<;>(subst d;grind)
def KG(e:t3-t4=t2-t1)(i:t3*B-t4*A=t2*P-t1*Q)(b:A<=P)(d:P<=Q)(f:Q<B)(g:0<t1)(h:t2<0):t3<=0/\0<=t4:=by have j:0<=t1*(B-Q):=nH ap ap;have k:0<=(-t2)*(B-P):=nH ap ap;have l:0<=t1*(Q-A):=nH ap ap;have m:0<=(-t2)*(P-A):=nH ap ap;have a:t3=t4+t2-t1:=ap;refine⟨vL (c:=B-A) ap ?_,vL (c:=B-A) ap ?_⟩<;>(subst a;lia)
def KH(e:t3-t4=t2-t1)(i:t3*B-t4*A=t2*P-t1*Q)(d:P<A/\A<=Q)(f:Q<B)(a:0<t2)(b:0<t3):t1<=0/\t4<=0/\t4<t3:=by
 have k:(t2-t1)*(Q-A)=t3*(B-A)+t2*(Q-P):=bh;have g:0<t3*(B-A):=tp b ap;have h:0<t2*(Q-P):=tp a ap;have c:0<Q-A:=by grind
 have j:t3*(Q-A)<=t3*(B-A):=lI ap ap;have l:t2*(Q-A)<=t2*(Q-P):=lI ap ap;have z:t3+t2<=t2-t1:=vL c ap
 lia
end
def Fj p e:kz p (e.2,e.1)=kz p e:=by simp only[kz,fG e.1 e.2];rw[Bool.or_comm];simp
def KI a b c d:fD a b d c=fD a b c d:=by
 rw[fV,jg,jg,fG c d a,fG c d b,Bv a d c,Bv b d c]
 lia
def meet_comm a b c d:fD c d a b=fD a b c d:=by rw[fV,jg,jg];lia
def Fk a b c d:fD b a c d=fD a b c d:=by grind[meet_comm,KI]
abbrev strip(p q v:Pt):Bool:=decide (p.y<v.y)&&(decide (v.y<=q.y)&&decide (a_ p q v<0))
set_option maxHeartbeats 1000000 in
def KJ {p q a b:Pt} (akF:p.y<=q.y) (akG:a.y<=b.y) (t:fD a b p q=aA):
  (kz p (a,b)^^kz q (a,b))=(strip p q a^^strip p q b):=by
 have es:a_ p q a-a_ p q b=a_ a b q-a_ a b p:=by unfold a_;grind
 have i:a_ p q a*b.y-a_ p q b*a.y=a_ a b q*p.y-a_ a b p*q.y:=by unfold a_;grind
 have g:=λj k h3=>gj.mp t<|VE (a:=a) (b:=b) (c:=p) (d:=q) j k h3;have na:gP a p q=aA:=by rw[gj];intro z;exact gj.mp t<|(jg ..).mpr<|aW<|aW<|aW<|aP z
 have nb:gP b p q=aA:=by rw[gj];intro z;exact gj.mp t<|(jg ..).mpr<|aW<|aW<|aW<|aW z
 have np:gP p a b=aA:=by rw[gj];intro z;exact gj.mp t<|(jg ..).mpr<|aW<|aP z
 have nq:gP q a b=aA:=by rw[gj];intro z;exact gj.mp t<|(jg ..).mpr<|aW<|aW<|aP z
 have A:∀{c x y:Pt},a_ x y c=0->x.y<=c.y->c.y<=y.y->x.y<y.y->gP c x y=L:=by
  intro c x y h0 j k h3;have e1:a_ ⟨x.y,x.x⟩ ⟨y.y,y.x⟩ ⟨c.y,c.x⟩=0:=by unfold a_ at h0⊢;grind
  have:=rK (a:=⟨x.y,x.x⟩) (b:=⟨y.y,y.x⟩) (c:=⟨c.y,c.x⟩) e1 (by show min x.y y.y<=c.y/\c.y<=max x.y y.y;omega) (by show x.y≠y.y;omega);rw[lh]at this⊢;exact⟨h0,this.2.2,this.2.1⟩
 have G:a.y<=p.y->p.y<b.y->a_ a b p≠0:=λj k z=>gj.mp np<|A z j aU aU;have H:a.y<=q.y->q.y<b.y->a_ a b q≠0:=λj k z=>gj.mp nq<|A z j aU aU;have I:p.y<a.y->a.y<=q.y->a_ p q a≠0:=λj k z=>gj.mp na<|A z aU k aU;have N:p.y<b.y->b.y<=q.y->a_ p q b≠0:=λj k z=>gj.mp nb<|A z aU k aU;unfold kz strip;simp only;generalize a_ a b p=t1 at*
 generalize a_ a b q=l at*
 generalize a_ p q a=t3 at*
 generalize a_ p q b=m at*
 have C:-t3*b.y- -m*a.y=-l*p.y- -t1*q.y:=by clear g G H I N na nb np nq A t;simp only[agV];omega
 have E:-t3- -m=-l- -t1:=aU;have n:∀{x y:Int},0<=x->y<=0->x*y<=0:=λa b=>Jb a b;have o:∀{x y:Int},x<=0->0<=y->x*y<=0:=λa b=>Ao a b;by_cases e:a.y<=p.y
 .by_cases B1:b.y<=p.y
  .
   simp[show¬p.y<b.y by omega,show¬q.y<b.y by omega,show¬p.y<a.y by omega,show¬q.y<a.y by omega]
  .by_cases f:b.y<=q.y
   .
    have n1:=G e aU;have n4:=N aU f;have Q:¬(0<t1/\0<m):=λ⟨x,y⟩=>by obtain⟨u,v,w⟩:=KF es i e ⟨aU,f⟩ x y;exact g (n aU u) (o v aU) aU
    have T:¬(t1<0/\m<0):=λ⟨x,y⟩=>by obtain⟨u,v,w⟩:=KF E C e ⟨aU,f⟩ aU aU;exact g (o aU aU) (n aU aU) aU
    have s:decide (0<t1)=decide (m<0):=by rw[jO];omega
    simp[e,show p.y<b.y by omega,show¬q.y<b.y by omega,show¬p.y<a.y by omega,show¬q.y<a.y by omega,show¬b.y<=p.y by omega,f,s]
   .
    have n1:=G e aU;have n2:=H aU aU;have Q:¬(0<t1/\l<0):=λ⟨x,y⟩=>by obtain⟨u,v⟩:=KG es i e akF aU x y;exact g (n aU aU) (o u v) aU
    have T:¬(t1<0/\0<l):=λ⟨x,y⟩=>by obtain⟨u,v⟩:=KG E C e akF aU aU aU;exact g (o aU aU) (n aU aU) aU
    have s:decide (0<t1)=decide (0<l):=by rw[jO];omega
    simp[e,show p.y<b.y by omega,show q.y<b.y by omega,show¬p.y<a.y by omega,show¬q.y<a.y by omega,show¬b.y<=p.y by omega,f,s,show a.y<=q.y by omega]
 .by_cases h:a.y<=q.y
  .by_cases f:b.y<=q.y
   .
    have n3:=I aU h;have n4:=N aU f;have Q:¬(0<t3/\m<0):=λ⟨x,y⟩=>by obtain⟨u,v⟩:=KE es i ⟨aU,h⟩ ⟨aU,f⟩ x y;exact g (o aU v) (n aU aU) aU
    have T:¬(t3<0/\0<m):=λ⟨x,y⟩=>by obtain⟨u,v⟩:=KE E C ⟨aU,h⟩ ⟨aU,f⟩ aU aU;exact g (n aU aU) (o aU aU) aU
    have s:decide (t3<0)=decide (m<0):=by rw[jO];omega
    simp[e,h,f,show p.y<b.y by omega,show¬q.y<b.y by omega,show p.y<a.y by omega,show¬q.y<a.y by omega,show¬b.y<=p.y by omega,s]
   .
    have n2:=H aU aU;have n3:=I aU h;have Q:¬(0<l/\0<t3):=λ⟨x,y⟩=>by obtain⟨u,v,w⟩:=KH es i ⟨aU,h⟩ aU x y;exact g (o u aU) (n aU v) aU
    have T:¬(l<0/\t3<0):=λ⟨x,y⟩=>by obtain⟨u,v,w⟩:=KH E C ⟨aU,h⟩ aU aU aU;exact g (n aU aU) (o aU aU) aU
    have s:decide (0<l)=decide (t3<0):=by rw[jO];omega
    simp[e,h,f,show p.y<b.y by omega,show q.y<b.y by omega,show p.y<a.y by omega,show¬q.y<a.y by omega,show¬b.y<=p.y by omega,s]
  .
   simp[e,h,show¬b.y<=p.y by omega,show¬b.y<=q.y by omega]
def VF(c:p.y<=q.y)e(d:fD p q e.1 e.2=aA):(kz p e^^kz q e)=(strip p q e.1^^strip p q e.2):=by
 obtain⟨a,b⟩:=e;rw[<-meet_comm]at d;obtain h|h:=xo a.y b.y
 .exact KJ c h d
 .have:=KJ c h (by rw[Fk];lia);rw[Fj p (a,b),Fj q (a,b)]at this
  lia
def vM k p(h:3<=k.length):odd k p=px (kz p) (edges k):=by simp_all[odd,BD]
def VG(a:∀e∈edges k,fD p q e.1 e.2=aA):odd k p=odd k q:=by
 by_cases h:3<=k.length
 .have d:∀p q,p.y<=q.y->(∀e∈edges k,fD p q e.1 e.2=aA)->odd k p=odd k q:=by
   intro p q b a;rw[vM k p h,vM k q h];have:(px (kz p) (edges k)^^px (kz q) (edges k))=aA:=by rw[<-Kz,BE<|λe c=>VF b e<|a e c,KC _ k h]
   lia
  grind-order [xo,Fk]
 .simp[odd,h]
abbrev nW:O Int->Int
 |[]=>0
 |[x]=>x
 |x::y::r=>min x<|nW (y::r)
abbrev nX:O Int->Int
 |[]=>0
 |[x]=>x
 |x::y::r=>max x<|nX (y::r)
def BF:∀{l:O Int},l≠[]->nW l∈l/\∀y∈l,nW l<=y
 |[],h=>absurd U h
 |[x],_=>by simp[nW]
 |x::y::r,_=>by
  obtain _:=BF (l:=y::r) au
  (rw[nW];grind+splitImp)
def BG:∀{l:O Int},l≠[]->nX l∈l/\∀y∈l,y<=nX l
 |[],h=>absurd U h
 |[x],_=>by simp[nX]
 |x::y::r,_=>by
  obtain _:=BG (l:=y::r) au
  (rw[nX];grind+splitImp)
def KL(a:m∈l)(h:∀y∈l,m<=y):m=nW l:=by obtain _:=BF (l:=l) bh;grind-order
def KM(a:m∈l)(h:∀y∈l,y<=m):m=nX l:=by obtain _:=BG (l:=l) bh;grind-order
abbrev dS(l:O Pt):Bx:=(nW<|l.map (·.x),nW<|l.map (·.y),nX<|l.map (·.x),nX<|l.map (·.y))
def Fl(h:p∈l):(dS l).1<=p.x/\(dS l).2.1<=p.y/\p.x<=(dS l).2.2.1/\p.y<=(dS l).2.2.2:=
 have a:∀f,l.map f≠[]:=λf e=>bG;have m:∀f,f p∈l.map f:=λf=>nJ h
 ⟨(BF<|a _).2 _<|m _,(BF<|a _).2 _<|m _,(BG<|a _).2 _<|m _,(BG<|a _).2 _<|m _⟩
def KO:∀{l:O Pt}{a b:Pt}{e:Pt×Pt},e∈path a l b->(e.1=a\/e.1∈l)/\(e.2=b\/e.2∈l)
 |[],a,b,e,h=>by simp_all[path]
 |c::l,a,b,e,h=>by
  obtain rfl|h:=cU.mp h
  .simp
  .obtain _:=KO h;grind
def VH(h:e∈edges l):e.1∈l/\e.2∈l:=by
 match l,h with
 |[p],h=>simp_all[edges]
 |[p,q],h=>simp_all[edges]
 |p::q::r::l,h=>
  grind[vK,KO]
def KP(h:l≠[]):edges l≠[]:=by
 match l,h with
 |[p],_=>simp[edges]
 |[p,q],_=>simp[edges]
 |p::q::r::l,_=>rw[vK];simp[path]
def KQ:∀{l:O Pt}{a b c:Pt},(c=a\/c∈l)->∃d,(c,d)∈path a l b
 |[],a,b,c,h=>by grind[path]
 |x::l,a,b,c,h=>by
  by_cases e:c=a
  .grind[path]
  .obtain⟨d,f⟩:=KQ (l:=l) (a:=x) (c:=c) bG;exact⟨d,ja _ f⟩
def VI(h:c∈l):∃d,(c,d)∈edges l\/(d,c)∈edges l:=by
 match l,h with
 |[p],h=>grind[edges]
 |[p,q],h=>
  grind[edges]
 |p::q::r::l,h=>
  obtain _:=KQ (l:=q::r::l) (a:=p) (b:=p) (c:=c) bh;grind[vK]
def vN(h:e∈edges l):(dS l).1<=(cr e.1 e.2).1/\(dS l).2.1<=(cr e.1 e.2).2.1/\(cr e.1 e.2).2.2.1<=(dS l).2.2.1/\(cr e.1 e.2).2.2.2<=(dS l).2.2.2:=by let⟨c,d⟩:=VH h;have a:=Fl c;have b:=Fl d;simp[cr];omega
def Fm(h:fZ (cr p p) (dS l) 1=L):pU l p=aA:=by rw[pU,va];intro e he z;have b:=vN he;grind[lh,li,cr]
def KR(c:p.x<a.x)(d:p.x<b.x)(e:a.y<=p.y)(f:p.y<b.y):0<a_ a b p:=by
 delta a_
 have g:0<=(b.x-p.x)*(p.y-a.y):=nH ap ap;have h:0<(a.x-p.x)*(b.y-p.y):=tp ap ap
 lia
def KS(c:a.x<p.x)(d:b.x<p.x)(e:a.y<=p.y)(f:p.y<b.y):a_ a b p<0:=by
 delta a_
 have g:0<=(p.x-b.x)*(p.y-a.y):=nH ap ap;have h:0<(p.x-a.x)*(b.y-p.y):=tp ap ap
 lia
def Fn(h:fZ (cr p p) (dS l) 1=L):odd l p=aA:=by
 by_cases i:3<=l.length
 .rw[vM l p i];rw[li]at h;by_cases c:p.x<(dS l).1
  .rw[BE (g:=λe=>decide (p.y<e.1.y)^^decide (p.y<e.2.y)),KC (λv=>decide<|p.y<v.y) l i];intro e he;have b:=vN he;simp[cr]at b
   delta kz
   by_cases u:p.y<e.1.y<;>by_cases v:p.y<e.2.y
   .simp[u,v,show¬e.1.y<=p.y by lia,show¬e.2.y<=p.y by lia]
   .have:=KR (a:=e.2) (b:=e.1) ap ap ap u;rw[fG e.1 e.2]at this;simp[v,show e.2.y<=p.y by lia];lia
   .have:=KR (a:=e.1) (p:=p) ap ap ap v;simp[u,v,show e.1.y<=p.y by lia,show¬e.2.y<=p.y by lia,this]
   .simp[u,v]
  .simp only[cr,Ar,As]at h;have d (k:(dS l).2.1<=p.y) (q:p.y<(dS l).2.2.2):(dS l).2.2.1<p.x:=aU;have n:∀e∈edges l,kz p e=aA:=by
    intro e he;have b:=vN he;have f:=Je.1 b.2.2.1;have j:=agT.1 b.2.1;have m:=Je.1 b.2.2.2
    delta kz
    by_cases u:e.1.y<=p.y/\p.y<e.2.y
    .have d:=d (agW j.1 u.1)<|agX u.2 m.2;have:=KS (Au f.1 d) (Au f.2 d) u.1 u.2;simp[u];lia
    .by_cases v:e.2.y<=p.y/\p.y<e.1.y
     .have d:=d (agW j.2 v.1)<|agX v.2 m.1;have:=KS (Au f.2 d) (Au f.1 d) v.1 v.2;rw[fG e.1 e.2]at this;simp[v];lia
     .simp[u,v]
   rw[BE n];have:∀r:O (Pt×Pt),px (λ_=>aA) r=aA:=by
    intro r;induction r with
    |nil=>rfl
    |cons a r o=>rw[px,o];rfl
   exact this _
 .simp[odd,i]
abbrev rM(p:Pt)(e:Pt×Pt):Bool:=((decide<|e.1.y>p.y) !=(decide<|e.2.y>p.y))&&((decide<|a_ e.1 e.2 p>0)==(decide<|e.2.y>e.1.y))
abbrev yn(p:Pt)(e:Pt×Pt):Bool:=decide (a_ e.1 e.2 p=0)&&!fZ (cr p p) (cr e.1 e.2) 1
abbrev lP(p:Pt):O (Pt×Pt)->Bool->Int
 |[],inside=>if inside=L then 2 else 0
 |e::r,inside=>if yn p e=L then 1 else lP p r (if rM p e=L then !inside else inside)
abbrev dY(p:Pt)(l:O Pt):Int:=if fZ (cr p p) (dS l) 1=L then 0 else lP p (edges l) aA
def VJ p e:yn p e=gP p e.1 e.2:=by
 rw[fV,lh,yn,c6,my,gj,ne_eq,li];simp[cr]
 lia
def VL(h:gP p e.1 e.2=aA):rM p e=kz p e:=by
 have g:∀a b,gP p a b=aA->a.y<=p.y->p.y<b.y->a_ a b p≠0:=by
  intro a b k c d z;have i:a_ ⟨a.y,a.x⟩ ⟨b.y,b.x⟩ ⟨p.y,p.x⟩=0:=by unfold a_ at z⊢;lia
  have:=rK i bh bh;grind[lh]
 have j:=g _ _<|(Bv ..).symm▸h;have:=fG e.1 e.2 p;unfold rM kz;by_cases c:p.y<e.1.y
 .by_cases d:p.y<e.2.y
  .simp[c,d,Tp.2 c,Tp.2 d]
  .have f:=u9.1 d;have:=j f c;simp[c,d,f,Tp.2 c,u9.2<|Tq<|Au f c]
   lia
 .have f:=u9.1 c;by_cases d:p.y<e.2.y
  .simp[c,d,f,Au f d]
  .simp[c,d]
def VM p:∀r b,lP p r b=if r.any (λe=>gP p e.1 e.2)=L then 1 else if(b^^px (kz p) r)=L then 2 else 0:=by
 intro a b
 induction a generalizing b with
 |nil=>cases b<;>rfl
 |cons e r c=>
  simp[lP,VJ];by_cases h:gP p e.1 e.2=L
  .grind
  .have d:gP p e.1 e.2=aA:=ap;rw[c,VL d];grind[px]
def BH p(a:3<=l.length):dY p l=if pU l p=L then 1 else if odd l p=L then 2 else 0:=by
 delta dY
 split
 .simp_all[Fm,Fn]
 .rw[VM,vM l p a];simp;rfl
abbrev lj(l:O Pt)(p:Pt):Bool:=decide (2<l.length)&&!decide (dY p l=0)
def BI l p:lj l p=(decide (3<=l.length)&&eC l p):=by grind-order [lj,BH,eC]
def qh(o:0<n)(j:k≠[])(m:l≠[]):cw n (jP k l)↔(∀p∈l,eC k p=aA)/\(∀p∈k,eC l p=aA)/\∀e∈edges k,∀f∈edges l,cw n (ie e.1 e.2 f.1 f.2):=by
 delta jP
 split
 .rw[tX];grind
 .rename_i h;rw[xp,pV]at h;have g:((edges k).flatMap λe=>(edges l).map λf=>ie e.1 e.2 f.1 f.2)≠[]:=by
   intro z;rw[List.flatMap_eq_nil_iff]at z;let⟨e,a⟩:=List.exists_mem_of_ne_nil _<|KP j;have:=z e a;rw[Ec]at this;exact KP m this
  have q (P:nI->Prop):(∀x∈(edges k).flatMap λe=>(edges l).map λf=>ie e.1 e.2 f.1 f.2,P x)↔∀e∈edges k,∀f∈edges l,P (ie e.1 e.2 f.1 f.2):=⟨λH e a f b=>H _<|vc.2 ⟨e,a,nJ b⟩,λH x c=>by obtain⟨e,a,c⟩:=vc.1 c;obtain⟨f,b,rfl⟩:=eY.1 c;exact H e a f b⟩
  have i:=(q λx=>0<x.den).2 λ_ _ _ _=>VA ..;rw[Vz<|Kx g i,Kw g i,q];exact⟨λH=>⟨λp d=>gj.2<|va.1 h.1 p d,λp d=>gj.2<|va.1 h.2 p d,H⟩,(·.2.2)⟩
def Fo(e:0<n)(h:cw n (ie a b c d)):fD a b c d=aA:=by simp_all[rL]
def VN(h:gP c a b=L):fD c d a b=L:=by grind[jg]
def yo(h:∀e∈edges k,∀f∈edges l,fD e.1 e.2 f.1 f.2=aA):∀p∈l,pU k p=aA:=by grind[pU,VI,VN,meet_comm,KI]
def KU{f:Pt->Bool}:∀{l:O Pt}{a b:Pt},(∀e∈path a l b,f e.1=f e.2)->∀c∈l,f c=f a
 |[],_,_,_,c,d=>by grind
 |x::l,a,b,h,c,d=>by
  have g:=h (a,x) (by simp[path]);obtain rfl|d:=cU.mp d
  .lia
  .rw[KU (λe i=>h e<|ja _ i) c d,g]
def VO{f:Pt->Bool}(h:∀e∈edges (p::l),f e.1=f e.2):∀c∈p::l,f c=f p:=by
 match l,h with
 |[],_=>simp
 |[q],h=>
  simp_all[edges]
 |q::r::l,h=>
  intro c a;obtain rfl|a:=cU.mp a
  .rfl
  .rw[vK]at h;exact KU h c a
def KW(h:∀e∈edges k,∀f∈edges (p::l),fD e.1 e.2 f.1 f.2=aA):∀c∈p::l,eC k c=eC k p:=by
 have a:=yo h;have b:∀c∈p::l,odd k c=odd k p:=by refine VO<|λf d=>VG<|λe g=>?_;rw[meet_comm];grind
 simp_all[eC]
abbrev nY(e:Pt×Pt)(l:O Pt)(g:Int):Bool:=
 if fZ (cr e.1 e.2) (dS l) g=L then L else(edges l).all λf=>iR e.1 e.2 f.1 f.2 g
def Fp e l{g:Nat}(a:0<g):nY e l g=(edges l).all λf=>decide (cw (g*g)<|ie e.1 e.2 f.1 f.2):=by
 have q:((edges l).all λf=>iR e.1 e.2 f.1 f.2 g)=(edges l).all λf=>decide (cw (g*g)<|ie e.1 e.2 f.1 f.2):=by simp_all[Fh]
 delta nY
 split
 .rename_i h;rw[<-q,eq_comm,dR];intro f hf;rw[iR,aH<|tY h au<|vN hf]
 omega
abbrev jZ(k l:O Pt)(g:Int):Bool:=
 if fZ (dS k) (dS l) g=L then L
 else if(lj k (l.headD ⟨0,0⟩)||lj l (k.headD ⟨0,0⟩))=L then aA
 else(edges k).all λe=>nY e l g
def VP{g:Nat}(a:0<g):((edges k).all λe=>nY e l g)=L↔∀e∈edges k,∀f∈edges l,cw (g*g) (ie e.1 e.2 f.1 f.2):=by simp_all[Fp]
def VQ(h:p∈l):(dS l).1<=(cr p p).1/\(dS l).2.1<=(cr p p).2.1/\(cr p p).2.2.1<=(dS l).2.2.1/\(cr p p).2.2.2<=(dS l).2.2.2:=by simp_all[Fl,cr]
def KY(a:1<=g)(h:fZ (dS k) (dS l) g=L):∀p∈l,eC k p=aA:=by
 intro p hp;have b:fZ (cr p p) (dS k) 1=L:=by
  rw[vJ]at h;have:=tY h (VQ hp) ⟨lJ _,lJ _,lJ _,lJ _⟩;rw[li]at this⊢
  lia
 simp_all[eC,Fm,Fn]
def BJ(i:k≠[])(j:l≠[]){g:Nat}(d:0<g):jZ k l g=decide (cw (g*g)<|jP k l):=by
 have m:=u_ d d;rw[fV,fr,qh m i j,jZ];split
 .rename_i h;refine⟨λ_=>⟨KY (g:=g) ap h,KY (g:=g) ap<|vJ▸h,?_⟩,λ_=>U⟩;intro e a f b;have:=Fh e.1 e.2 f.1 f.2 d;rw[iR,aH<|tY h (vN a)<|vN b]at this;exact cM this.symm
 .match k,l,i,j with
  |p::k,q::l,_,_=>
   have s:lj (p::k) ((q::l).headD ⟨0,0⟩)=(decide (3<=(p::k).length)&&eC (p::k) q):=BI _ _;have t:lj (q::l) ((p::k).headD ⟨0,0⟩)=(decide (3<=(q::l).length)&&eC (q::l) p):=BI _ _;rw[s,t];split
   .rename_i h;refine⟨λz=>absurd z au,λu=>eR u λv w _=>?_⟩;rw[v q au,w p au]at h;simp at h
   .rename_i h;rw[xp,pV]at h;rw[VP d];refine⟨λz=>?_,λz=>z.2.2⟩;have n:=λe a f b=>Fo m<|z e a f b;have x:∀f∈edges (q::l),∀e∈edges (p::k),fD f.1 f.2 e.1 e.2=aA:=λf b e a=>by rw[meet_comm];exact n e a f b
    have fin:∀{k:O Pt}{q:Pt}{l:O Pt},(∀e∈edges k,∀f∈edges (q::l),fD e.1 e.2 f.1 f.2=aA)->(decide (3<=k.length)&&eC k q)=aA->∀c∈q::l,eC k c=aA:=by
     intro k q l hm h0 c y;rw[KW hm c y];by_cases o:3<=k.length
     .rwa[dm o]at h0
     .rw[eC,yo hm q au];simp[odd,o]
    exact⟨fin n h.1,fin x h.2,z⟩
abbrev Fq(e:Pt×Pt)(l:O Pt)(g:Int):Bool:=!lj l e.1&&nY e l g
def VR e(m:l≠[]){g:Nat}(h:0<g):Fq e l g=decide (cw (g*g)<|jP l [e.1,e.2]):=by
 have b:=u_ h h;rw[fV,fr,qh b m au,Fq,c6,my,BI,Fp e l h,dR];have n:∀f:Pt×Pt,cw (g*g) (ie f.1 f.2 e.1 e.2)↔cw (g*g) (ie e.1 e.2 f.1 f.2):=by
  intro f;simp[rL b,rL b,meet_comm]
  lia
 have o:edges [e.1,e.2]=[e]:=U;constructor
 .rintro⟨p,s⟩;have z:∀f∈edges l,∀x∈edges [e.1,e.2],cw (g*g) (ie f.1 f.2 x.1 x.2):=by
   intro f d x a;rw[o,e_]at a;exact a▸(n f).mpr bh
  have i:=λf d x a=>Fo b<|z f d x a;refine⟨?_,?_,z⟩
  .intro c j;rw[KW i c j];by_cases k:3<=l.length
   .rwa[dm k]at p
   .rw[eC,yo i e.1 au];simp[odd,k]
  .intro c j;have q:∀x∈edges [e.1,e.2],∀f∈edges l,fD x.1 x.2 f.1 f.2=aA:=λx a f d=>by rw[meet_comm];exact i f d x a
   rw[eC,yo q c j];simp[odd]
 .rintro _;refine bG
@[reducible]def vO(e:Pt×Pt):Pt×Pt:=(e.2,e.1)
structure EP(l m:List Pt):Prop where
 mem:∀p,p∈m↔p∈l
 len:m.length=l.length
 BK:(edges m).Perm (edges l)\/(edges m).Perm ((edges l).map vO)
def EP.refl l:EP l l:=⟨λ_=>agY,U,aP cq⟩
def EP.trans(h:EP a b)(k:EP b c):EP a c:=by
 refine⟨λp=>(k.mem p).trans<|h.mem p,k.len.trans h.len,?_⟩;have C:∀l:O _,(l.map vO).map vO=l:=λl=>by simp[Tr]
 rcases h.BK with x|x<;>rcases k.BK with y|y
 .grind
 .grind
 .grind
 grind
def EP.all(h:EP l m){P:Pt×Pt->Prop}(C:∀e,P (vO e)↔P e):(∀e∈edges m,P e)↔∀e∈edges l,P e:=by rcases h.BK with x|x<;>grind
def KZ(f:α->Bool)(h:l.Perm m):px f l=px f m:=by rw[BD,BD,(h.filter f).length_eq]
def VS f(g:α->β):∀l,px f (l.map g)=px (λx=>f<|g x) l:=by
 intro a
 induction a with
 |nil=>exact U
 |cons x r b=>rw[px,<-b];rfl
def EP.odd(h:EP l m)p:odd m p=odd l p:=by
 by_cases c:3<=l.length
 .rw[vM l p c,vM m p<|by rw[h.len];omega];obtain x|x:=h.BK
  .exact KZ _ x
  .rw[KZ _ x,VS];exact BE λe _=>Fj p e
 .simp[Vbpcaa.odd,c,h.len]
def EP.onEdge(h:EP l m)p:pU m p=pU l p:=by
 rw[fV,<-agZ,<-agZ]
 delta pU
 rw[va,va];refine not_congr<|h.all λe=>?_;rw[Bv]
def EP.holds(h:EP l m)p:eC m p=eC l p:=by
 delta eC;rw[h.onEdge,h.odd]
def yp(h:EP l m)(a:l≠[]):m≠[]:=by have:=h.len;grind
def VT(f:0<n)a b c d:cw n (ie b a c d)↔cw n (ie a b c d):=by
 have m:∀p a b,cw n (jN p b a)↔cw n (jN p a b):=by
  intro p a b;unfold jN;have o:qZ (sub p b) (sub a b)=f6 a b-qZ (sub p a) (sub b a):=by(simp only[qZ,sub,f6];lia)
  have h:len2 b a=len2 a b:=by have:=ph a b;have:=ph b a;rw[Vw]at this;lia
  have i:sq (a_ b a p)=sq (a_ a b p):=by rw[fG];unfold sq;rw[Int.natAbs_neg]
  rw[h,i,ph];generalize hd:qZ (sub p a) (sub b a)=t;by_cases e:t<=0<;>by_cases g:f6 a b<=t
  .have j:a=b:=by
    unfold f6 at(by omega);have:=pf<|a.x-b.x;have:=pf<|a.y-b.y;have k:=tW (a:=a.x-b.x) aU;have l:=tW (a:=a.y-b.y) aU;cases a;cases b;simp at k l⊢;lia
   subst j;rw[aH ap,aH aU]
  .rw[aD aU,aH ap,aH e]
  .rw[aH aU,aD e,aH g]
  .rw[aD aU,aD aU,aD e,aD g]
 simp[rL f,rL f,Fk]
 (simp_all;lia)
def VU(e:0<n)a b c d:cw n (ie c d a b)↔cw n (ie a b c d):=by grind[rL,meet_comm]
def vP(a:0<n)(b:k≠[])(c:l≠[]):cw n (jP l k)↔cw n (jP k l):=by grind[qh,VU]
def Fs(a:0<n)(h:EP k b)(c:k≠[])(d:l≠[]):cw n (jP b l)↔cw n (jP k l):=by
 rw[qh a c d,qh a (yp h c) d];have g:(∀p∈l,eC b p=aA)↔∀p∈l,eC k p=aA:=by simp[h.holds]
 have i:(∀p∈b,eC l p=aA)↔∀p∈k,eC l p=aA:=by simp[h.mem]
 have j:=h.all (P:=λe=>∀f∈edges l,cw n<|ie e.1 e.2 f.1 f.2) λe=>by simp[VT a]
 simp_all only
def K0(a:0<n)(h:EP k d)(h':EP l e)(b:k≠[])(c:l≠[]):cw n (jP d e)↔cw n (jP k l):=by rw[Fs a h b<|yp h' c,<-vP a b (yp h' c),Fs a h' c b,vP a b c]
def BL:∀l m a b c,path a (l++c::m) b=path a l c++path c m b:=by
 intro d m a b c
 induction d generalizing m a b c with
 |nil=>exact U
 |cons x l e=>
  show _::path x (l++c::m) b=_;rw[e m x b c];rfl
def Ft(h:2<=l.length):edges (p::l)=path p l p:=by
 match l,h with
 |q::r::l,_=>exact vK p q r l
def VV a b(h:3<=(a++b).length):EP (a++b) (b++a):=by
 refine⟨λp=>by simp[or_comm],bh,aP ?_⟩
 match a,b,h with
 |[],b,h=>simp
 |a,[],h=>simp
 |x::a,y::b,h=>
  grind[Ft,BL]
def K1:∀l a b,path b l.reverse a=((path a l b).map vO).reverse
 |[],a,b=>rfl
 |x::l,a,b=>by rw[xq,BL,K1 l x b];simp[path]
def VW l(h:3<=l.length):EP l l.reverse:=by
 refine⟨λp=>au,au,aW ?_⟩;obtain⟨z,m,e⟩:∃z m,l.reverse=z::m:=by
  cases e:l.reverse with
  |nil=>rw[List.reverse_eq_nil_iff]at e;subst e;simp at h
  |cons z m=>exact E8 z m U
 have a:l=m.reverse++[z]:=by rw[<-Av l,e,xq]
 rw[e];have f:2<=m.length:=by have:=bJ jQ a;simp at this;lia
 obtain⟨p,r,b⟩:∃p r,m.reverse=p::r:=by cases c:m.reverse<;>simp_all
 have d:m=r.reverse++[p]:=by rw[<-Av m,b,xq]
 rw[a,b];have g:1<=r.length:=by have:=bJ jQ d;simp at this;lia
 rw[Ft f];show List.Perm _ ((edges (p::(r++[z]))).map vO);rw[Ft (by simp;omega),d,BL,BL,K1 r p z,cN];apply ajC<|List.reverse_perm _;simp[path]
def K2(h:3<=l.length):EP l (tw l):=by
 match l,h with
 |p::r,h=>
  grind-order [tw,VV,List.takeWhile_append_dropWhile]
def BM{l:O Pt}(h:l≠[]):EP l (cP l):=by
 match l,h with
 |[p],_=>
  simp[cP,tw,tx,List.dropWhile,List.takeWhile,EP.refl]
 |[p,q],_=>
  show EP [p,q] (if q0 q p=L then[q,p]else[p,q]);split
  .exact⟨λx=>by grind+splitImp,U,aW cq⟩
  .exact EP.refl _
 |p::q::r::l,_=>
  show EP _ (tw _);split
  .exact(VW _ au).trans<|K2 au
  .exact K2 au
abbrev vQ(l:O Pt):Int:=((l.zip<|l.drop 1++l.take 1).map λe=>e.1.x*e.2.y-e.1.y*e.2.x).sum
def K3:∀(l:O (Pt×Pt))s,l.foldl (λs e=>s+(e.1.x*e.2.y-e.1.y*e.2.x)) s=s+(l.map λe=>e.1.x*e.2.y-e.1.y*e.2.x).sum
 |[],s=>by simp
 |e::l,s=>by simp[kU,K3 l,eQ,Jf];lia
def K4 l:vQ l=signed2 l:=by
 match l with
 |[]=>rfl
 |[p]=>show[p.x*p.y-p.y*p.x].sum=0;grind
 |[p,q]=>show[p.x*q.y-p.y*q.x,q.x*p.y-q.y*p.x].sum=0;(simp;lia)
 |p::q::r::l=>
  (simp[signed2,edges,K3,vQ];lia)
abbrev lQ(a b:Pt):Prop:=a.y<b.y\/(a.y=b.y/\a.x<=b.x)
def Fu:∀l p,(tx l p=p\/tx l p∈l)/\lQ (tx l p) p/\∀q∈l,lQ (tx l p) q
 |[],p=>⟨aP U,aW ⟨U,lJ _⟩,λq h=>bh⟩
 |q::l,p=>by
  rw[tx];refine eR (Fu l<|if q0 q p=L then q else p) λa b d=>?_;have e:q0 q p=L↔q.y<p.y\/(q.y=p.y/\q.x<p.x):=by simp[q0]
  by_cases c:q0 q p=L
  .grind[lQ]
  .grind[id,ja,lQ]
def K5(h:lQ a b)(k:lQ b a):a=b:=by
 unfold lQ at*
 cases a;cases b<;>grind-order
def VX{l:O Pt}{b:Pt}{i:Nat}(hi:l[i]?=b)(a:∀j,j<i->l[j]?≠b):
  l.drop i++l.take i=l.dropWhile (λq=>decide<|q≠b)++l.takeWhile (λq=>decide<|q≠b):=by
 have:∀(l:O Pt)(i:Nat),l[i]?=b->(∀j,j<i->l[j]?≠b)->l.drop i=l.dropWhile (λq=>decide<|q≠b)/\l.take i=l.takeWhile (λq=>decide<|q≠b):=by
  intro l
  induction l with
  |nil=>simp
  |cons x l c=>
   intro i h a
   match i,h,a with
   |0,h,a=>simp at h;rw[h];simp
   |i+1,h,a=>
    have d:x≠b:=by have:=a 0 ap;simpa using this
    obtain⟨u,v⟩:=c i (by simpa using h) (λj e=>by have:=a (j+1) bG;simpa using this);simp[d,u,v]
 simp_all
def VY{l o:O Pt}{b:Pt}{i:Nat}(a:o=if vQ l<0 then l.reverse else l)(f:∀q∈o,lQ b q)(hi:o[i]?=b)(g:∀j,j<i->o[j]?≠b)(k:l≠[]):
  o.drop i++o.take i=cP l:=by
 rw[VX hi g];rw[K4]at a
 have d:o.dropWhile (λq=>decide<|q≠b)++o.takeWhile (λq=>decide<|q≠b)=tw o:=by
  match o,hi with
  |p::r,hi=>
   have m:b∈p::r:=eD hi;refine eR (Fu r p) λn s t=>?_
   have e:tx r p=b:=by
    refine K5 ?_ (f _ (by obtain h|h:=n;rw[h];simp;simp[h]));obtain h|h:=cU.mp m
    .exact h▸s
    .exact t _ h
   rw[tw,e]
 match l,k with
 |[p],_=>rw[d,a];rfl
 |[p,q],_=>
  have e:o=[p,q]:=a▸U;rw[d,e];show tw [p,q]=if q0 q p=L then[q,p]else[p,q];show[p,q].dropWhile (λx=>decide<|x≠(if q0 q p=L then q else p))++[p,q].takeWhile (λx=>decide<|x≠(if q0 q p=L then q else p))=_;by_cases c:q0 q p=L
  .have:p≠q:=by rintro⟨⟩;simp[q0]at c
   simp[c,this]
  .simp[c]
 |p::q::r::l,_=>rw[d,a];rfl
abbrev qi(a b c:Pt):Bool:=if¬a_ a b c=0 then aA else decide (0<(a.x-b.x)*(c.x-b.x)+(a.y-b.y)*(c.y-b.y))
abbrev iS(E:O (Pt×Pt))(i:Nat):O (Pt×Pt):=if i=0 then(E.take<|E.length-1).drop 2 else E.drop (i+2)
abbrev rN(E:O (Pt×Pt))(i:Nat):Pt×Pt:=E.getD (if i=0 then E.length-1 else i-1) (⟨0,0⟩,⟨0,0⟩)
abbrev tZ(E:O (Pt×Pt))(i:Nat)(e:Pt×Pt):Bool:=!qi (rN E i).1 e.1 e.2&&!(iS E i).any λf=>iD e.1 e.2 f.1 f.2
abbrev vR(l:O Pt):Bool:=
 if((edges l).any λe=>decide<|e.1=e.2)=L then aA
 else(c8 (edges l).length).all λi=>tZ (edges l) i<|(edges l).getD i (⟨0,0⟩,⟨0,0⟩)
def Fv(h:3<=l.length):edges l=l.zip (l.drop 1++l.take 1):=by
 match l,h with
 |p::q::r::l,_=>rfl
def Fx(h:3<=l.length):(edges l).length=l.length:=by rw[Fv h,vd,cC,jR,jr];lia
abbrev dL(l:O Pt)(i:Nat):Pt:=l.getD (i%l.length) ⟨0,0⟩
def VZ{α:Type}{l:O α}{d x:α}(h:l[i]?=x):l.getD i d=x:=bG
def yq(h:i<l.length):l[i]?=(dL l i):=by simp_all[dL,Tu]
def yr{l:O Pt}{k i:Nat}(a:k<=l.length)(h:i<l.length):(l.drop k++l.take k)[i]?=(dL l<|i+k):=by
 by_cases c:i+k<l.length
 .rw[ve<|jR .. ▸ag0 c,Tx,Tz k i,yq c]
 .have c:=Nat.not_lt.1 c;have m:i+k-l.length<k:=Nat.sub_lt_left_of_lt_add c<|Nat.add_lt_add_right h k;rw[Aw<|jR .. ▸Nat.sub_le_of_le_add c,jR,Nat.sub_sub_right _ a,Jg m,yq<|gQ m a]
  delta dL
  rw[ag1 c]
def BN(a:3<=l.length)(h:i<l.length):(edges l)[i]?=(dL l i,dL l<|i+1):=by rw[Fv a,xr];exact⟨yq h,yr ap h⟩
def V0{l:O Pt}(g:3<=l.length):ag2 l=L↔∀i,i<l.length->Ed (dL l i) (dL l<|i+1) (dL l<|i+2)=L:=by
 have e:ag2 l=(l.zip<|(l.drop 1++l.take 1).zip<|l.drop 2++l.take 2).all λt=>Ed t.1 t.2.1 t.2.2:=by
  match l,g with
  |a::b::c::r,_=>rfl
 rw[e,dR];have f:=Ee g;have j:=Ee f;constructor
 .refineλh i d=>h (dL l i,dL l<|i+1,dL l<|i+2)<|eD (i:=i) ?_;rw[xr,xr];exact⟨yq d,yr j d,yr f d⟩
 .intro h t m;obtain⟨i,d⟩:=Ef m;rw[xr,xr]at d;have k:=(dH.1 d.1).1;rw[<-bL ((yq k).symm.trans d.1),<-bL ((yr j k).symm.trans d.2.1),<-bL ((yr f k).symm.trans d.2.2)];exact h i k
def K6:∀{r:O (Pt×Pt)},Eg aA r=L↔∀i e,r[i]?=Y e->Eh e (r.drop<|i+2)=L
 |[]=>by simp[Eg]
 |e::r=>by
  rw[Eg,c6,K6];constructor
  .grind-ring-order-order
  .exactλh=>⟨h 0 e U,λi x a=>h _ x ‹_›⟩
def V1{E:O (Pt×Pt)}(b:2<=E.length):Eg L E=L↔∀i e,E[i]?=Y e->Eh e (iS E i)=L:=by
 match E,b with
 |e::r,b=>
  rw[Eg,c6,K6 (r:=r)]
  have c:iS (e::r) 0=(r.drop 1).dropLast:=by
   rw[iS,aH U,Ei,jR]
   match r,b with
   |f::r,_=>
    show((e::f::r).take<|r.length+1+1-1).drop 2=r.take (r.length+1-1-1);cases r<;>rfl
  constructor
  .rintro⟨d,g⟩ i x a
   match i,a with
   |0,a=>simp at a;subst a;exact c▸d
   |i+1,a=>exact g i x<|by simpa using a
  .refineλh=>⟨?_,λi x a=>?_⟩
   .grind
   .have:=h (i+1) x (by simpa using a);exact this
def V2 a b c:qi a b c=(decide (a_ a b c=0)&&decide (0<qZ (sub a b) (sub c b))):=by
 delta qi
 by_cases h:a_ a b c=0
 .rw[aD ap,dm h];rfl
 simp_all
def V3{l:O Pt}(b:3<=l.length):vR l=simple l:=by
 have s:=Fx b;have k:∀i,i<l.length->(edges l).getD i (⟨0,0⟩,⟨0,0⟩)=(dL l i,dL l<|i+1):=λi a=>VZ<|BN b a;have t:∀i,i<l.length->(rN (edges l) i).1=dL l (i+(l.length-1)):=by
  intro i a;rw[rN,s];by_cases c:i=0
  .rw[c];rw[aH U,k _ ap,Ax]
  .rw[aD c,k _ ap]
   delta dL
   have:(i+(l.length-1))%l.length=i-1:=by rw[ag1 ap,Tu ap];lia
   rw[this,Tu ap]
 have d:∀i,dL l (i+l.length)=dL l i:=λi=>by delta dL;rw[Nat.add_mod_right]
 rw[fV,simple,c6,c6,lH,V0 b,V1 ap]
 delta vR
 have u:∀(e:Pt×Pt)(r:O (Pt×Pt)),(!r.any λf=>iD e.1 e.2 f.1 f.2)=Eh e r:=by
  intro e r
  delta Eh
  rw[List.not_any_eq_all_not];congr 1;funext f;rw[Fd]
 have o:∀{i e},(edges l)[i]?=Y e->i<l.length/\e=(dL l i,dL l<|i+1):=by
  intro i e h;have a:i<l.length:=by have:=(dH.mp h).1;lia
  rw[BN b a]at h;exact⟨a,(bL h).symm⟩
 split
 .rename_i h;refine⟨λz=>by simp at z,λv=>eR v λ_ g _=>?_⟩;exfalso;obtain⟨e,m,z⟩:=Jh.mp h;obtain⟨i,a⟩:=Ef m;obtain⟨w,rfl⟩:=o a;have:=g i w;simp[Ed]at this z;exact this.1 z
 .rename_i h;rw[xp,va]at h;have p:∀i,i<l.length->dL l i≠dL l (i+1):=λi a z=>h _ (eD<|BN b a)<|dm z;have x:∀i,dL l i≠dL l (i+1):=by
   intro i;have:=p (i%l.length)<|ag3 _ ap;unfold dL at this⊢;rw[Nat.mod_mod,Nat.mod_add_mod]at this;exact this
  rw[dR];have j:∀i,i<l.length->(tZ (edges l) i ((edges l).getD i (⟨0,0⟩,⟨0,0⟩))=L↔Ed (dL l<|i+(l.length-1)) (dL l i) (dL l<|i+1)=L/\Eh (dL l i,dL l<|i+1) (iS (edges l) i)=L):=by
   intro i a
   delta tZ
   rw[k i a,t i a,u,c6,V2]
   delta Ed
   have y:dL l (i+(l.length-1))≠dL l i:=by have:=x<|i+(l.length-1);rw[show i+(l.length-1)+1=i+l.length by lia,d]at this;exact this
   simp[y,p i a]
  constructor
  .intro z;refine⟨b,λi a=>?_,λi e m=>?_⟩
   .
    by_cases c:i+1<l.length
    .have:=((j (i+1) c).mp<|z (i+1)<|tz.mpr ap).1;rw[show i+1+(l.length-1)=i+l.length by lia,d]at this;exact this
    .have A:i=l.length-1:=ap;have:=((j 0 ap).mp<|z 0<|tz.mpr ap).1;rw[Ax,<-A]at this;have n:dL l (i+1)=dL l 0:=by rw[show i+1=0+l.length by lia,d]
     have C:dL l (i+2)=dL l (0+1):=by rw[show i+2=0+1+l.length by lia,d]
     rw[n,C];exact this
   .obtain⟨a,rfl⟩:=o m;exact((j i a).mp<|z i<|tz.mpr ap).2
  .rintro⟨_,g,E⟩ i a;have q:i<l.length:=by rw[tz]at a;lia
   refine(j i q).mpr ⟨?_,E i _<|BN b q⟩;by_cases c:i=0
   .rw[c];have:=g (l.length-1) ap;rw[show l.length-1+1=0+l.length by lia,show l.length-1+2=0+1+l.length by lia,d,d]at this;rw[Ax];exact this
   .have:=g (i-1) ap;rw[show i-1+1=i by lia,show i-1+2=i+1 by lia]at this;have n:dL l (i+(l.length-1))=dL l (i-1):=by rw[show i+(l.length-1)=i-1+l.length by lia,d]
    rw[n];exact this
open Vbpcaa Vbpcad
def K7:Ay a b c=decide (cw ((a.r+b.r+c)*(a.r+b.r+c))<|jP a.pts b.pts):=Kq
def K8(c:k≠[])(b:l≠[]){g:Nat}(a:0<g):jZ k (cP l) g=decide (cw (g*g)<|jP l k):=by have e:=BM b;rw[BJ c (yp e b) a,jO,K0 (u_ a a) (EP.refl k) e c b,vP (u_ a a) b c]
def V4(b:a.pts≠[])(d:k≠[])(e:0<c):Ay a ⟨r,k⟩ c=jZ k (cP a.pts) ((a.r+r+c:Nat):Int):=by rw[K7,K8 d b ap]
structure Ob where
 why:Nat×Nat
 pts:List Pt
 r:Nat
abbrev lR(k:eF)(kind lo hi:Int):Bool:=if(¬(k.kind:Int)=3)/\¬k.kind=kind then aA else decide (k.lo<=hi)&&decide (lo<=k.hi)
def V5 k t:lR k t.kind t.lo t.hi=stops k t:=by(simp[lR,stops];lia)
abbrev obs(b:bC)(kind lo hi:Int):O Ob:=
 ((numbered 0<|edges b.outline).map λe=>⟨(2,e.1),[e.2.1,e.2.2],0⟩)++((numbered 0 b.cuts).map λc=>⟨(3,c.1),c.2,0⟩)
  ++(((numbered 0 b.keeps).filter λk=>lR k.2 kind lo hi).map λk=>⟨(4,k.1),k.2.shape.pts,k.2.shape.r⟩)
abbrev j7(l:O Pt)(r:Nat)(m:Int)(o:Ob):Bool:=jZ o.pts l<|r+o.r+m
abbrev jy(l o:O Pt):Bool:=l.all λp=>!decide (dY p o=0)
structure jz(b:bC):Prop where
 out:3<=b.outline.length
 cuts:∀c∈b.cuts,3<=c.length
 keeps:∀k∈b.keeps,k.shape.pts≠[]
def t6:∀{l:O α}{n:Nat}{x:Nat×α},x∈numbered n l->x.2∈l
 |[],_,_,h=>by simp[numbered]at h
 |a::l,n,x,h=>by
  rw[numbered,cU]at h;obtain rfl|h:=h
  .simp
  .exact ja _<|t6 h
def t7(a:jz b):∀o∈obs b kind lo hi,o.pts≠[]:=by
 intro o d;simp only[obs,fE,eY,q_]at d;obtain(⟨e,_,rfl⟩|⟨c,f,rfl⟩)|⟨k,⟨g,_⟩,rfl⟩:=d
 .simp
 .have:=a.cuts _<|t6 f;grind
 .exact a.keeps _<|t6 g
def yt(h:3<=l.length)p:(!decide (dY p l=0))=eC l p:=by(simp_all[BH,eC];lia)
def V6(h:3<=o.length):jy l o=l.all (eC o):=by simp_all[jy,yt]
def yu(h:3<=o.length)(b:l≠[]):jy (cP l) o=l.all (eC o):=by rw[V6 h,fV,dR,dR];have e:=BM b;exact⟨λz p a=>z p<|(e.mem p).mpr a,λz p a=>z p<|(e.mem p).mp a⟩
abbrev t8(b:bC)(kind lo hi:Int)(l:O Pt)(r:Nat)(m:Int):O (Nat×Nat):=
 (if jy l b.outline=L then[]else[(1,0)])++((obs b kind lo hi).filter λo=>!j7 l r m o).map (·.why)
def Fy(a:jz b)(g:t.shape.pts≠[])(h:0<m):Ji b t m=t8 b t.kind t.lo t.hi (cP t.shape.pts) t.shape.r m:=by
 have d:∀k r,k≠[]->Ay t.shape ⟨r,k⟩ m=jZ k (cP t.shape.pts) (t.shape.r+r+m):=by intro k r f;rw[V4 g f h];congr 1
 rw[Ji,t8,obs,yu a.out g,TB,TB,cN,cN,<-vf,<-vf];congr 1
 .congr 1
  .rw[TC,c9];have:(numbered 0<|edges b.outline).filter (λe=>!Ay t.shape ⟨0,[e.2.1,e.2.2]⟩ m)=(numbered 0<|edges b.outline).filter ((λo=>!j7 (cP t.shape.pts) t.shape.r m o)∘λe:Nat×(Pt×Pt)=>(⟨(2,e.1),[e.2.1,e.2.2],0⟩)):=by
    refine TD λe l=>?_;rw[d _ _ au];rfl
   rw[this];rfl
  .rw[TC,c9];have:(numbered 0 b.cuts).filter (λc=>!Ay t.shape ⟨0,c.2⟩ m)=(numbered 0 b.cuts).filter ((λo=>!j7 (cP t.shape.pts) t.shape.r m o)∘λc:Nat×O Pt=>(⟨(3,c.1),c.2,0⟩)):=by
    refine TD λc i=>?_;have j:c.2≠[]:=by have:=a.cuts _<|t6 i;intro z;rw[z]at this;simp at this
    rw[d _ _ j];rfl
   rw[this];rfl
 .rw[TC,c9,List.filter_filter];have:(numbered 0 b.keeps).filter (λk=>stops k.2 t&&!Ay t.shape k.2.shape m)=(numbered 0 b.keeps).filter (λk=>((λo=>!j7 (cP t.shape.pts) t.shape.r m o)∘λk:Nat×eF=>(⟨(4,k.1),k.2.shape.pts,k.2.shape.r⟩)) k&&lR k.2 t.kind t.lo t.hi):=by
   refine TD λk f=>?_;rw[V5,Bool.and_comm,d _ _<|a.keeps _<|t6 f];rfl
  rw[this];rfl
def V7(h:a<=n)(k:cw n f):cw a f:=cS (Eb _ h) k
def K9(a:l≠[])(b:o.pts≠[]){m m':Nat}(c:1<=m')(h:m'<=m)(k:j7 l r m o=L):j7 l r m' o=L:=by
 unfold j7 at*
 have e:∀x,r+o.r+x=((r+o.r+x:Nat):Int):=λx=>au;rw[e,BJ b a ap,fr]at k⊢;exact V7 (ag4 ap ap) k
abbrev yw(b:bC)(kind lo hi:Int)(l:O Pt)(r:Nat)(m:Int):Bool:=jy l b.outline&&(obs b kind lo hi).all (j7 l r m)
def yx(a:jz b)(c:t.shape.pts≠[])(d:0<m):xu b t m=yw b t.kind t.lo t.hi (cP t.shape.pts) t.shape.r m:=by
 simp[xu,yw,Fy a c d]
 delta t8
 cases jy _ b.outline
 .rfl
 .rw[fV];simp
def Fz(P:Nat->Bool):∀n M,M<=pX.toNat->(M=0\/P M=L)->(pX.toNat<M+2^n\/P (M+2^n)=aA)->
  let a:=(((c8 n).reverse.map λi=>2^i).foldl (λm d=>if m+d<=pX.toNat/\P (m+d)=L then m+d else m) M)
  a<=pX.toNat/\(a=0\/P a=L)/\(pX.toNat<a+1\/P (a+1)=aA)
 |0,M,b,e,f=>bG
 |n+1,M,b,e,f=>by
  rw[ag5,ag6,List.reverse_singleton,ag7,eQ,kU];by_cases c:M+2^n<=pX.toNat/\P (M+2^n)=L
  .rw[aH c];apply Fz P n _ c.1 (aW c.2)
   lia
  .rw[aD c];apply Fz P n _ b e
   lia
structure nZ(P:Nat->Bool)M:Prop where
 le:M<=1000000000
 at_:M=0\/P M=L
 up:M=1000000000\/P (M+1)=aA
def V8 b t:nZ (xu b t) (Ej b t):=by
 have:=Fz (xu b t) 30 0 (dI _) (aP U)<|aP bw;refine eR this λa c d=>?_;refine⟨a,c,?_⟩;obtain h|h:=d
 .exact aP<|Nat.le_antisymm a<|Nat.le_of_lt_succ h
 .exact aW h
def nZ.unique(C:∀m m',1<=m'->m'<=m->P m=L->P m'=L)(a:nZ P M)(b:nZ P N):M=N:=by
 have I:∀{M N:Nat},nZ P M->nZ P N->¬M<N:=by
  intro M N a b h;have hN:P N=L:=by rcases b.at_ with z|z<;>lia
  obtain z|z:=a.up
  .have:=b.le;lia
  grind
 grind-order
def K_(a:0<n)(b:l≠[])p:cw n (jP l [p,p])↔cw n (jP l [p]):=by
 rw[qh a b au,qh a b au];have h:∀q,eC [p,p] q=eC [p] q:=by intro q;rfl
 simp_all[edges]
abbrev gW(e:Pt×Pt)(l:O Pt)(g:Int):Bool:=!lj l e.1&&(edges l).all λf=>iR e.1 e.2 f.1 f.2 g
def yy e(a:l≠[]){g:Nat}(b:0<g):gW e l g=decide (cw (g*g)<|jP l [e.1,e.2]):=by rw[<-VR e a b];simp_all[gW,Fq,Fp,Fh]
def K' p(a:l≠[]){g:Nat}(b:0<g):gW (p,p) l g=jZ l [p] g:=by simp_all[yy,BJ,K_]
def La a b(c:l≠[]){g:Nat}(d:0<g):gW (a,b) l g=jZ l (cP [a,b]) g:=by simp_all[yy,K8,vP]
def V9(h:cw n (jN p a b)):n<=len2 p a:=by
 delta jN at h
 simp only at h;split at h
 .exact tX.mp h
 .have c:=ph p a;have g:=ph p b;have d:=ph a b;have i:qZ (sub p a) (sub b a)=jY p a b:=U;have rel:f6 p b=f6 p a-2*jY p a b+f6 a b:=by delta f6 jY;grind
  split at h
  .have:=tX.mp h
   lia
  .have e:sq (a_ a b p)<=len2 p a*len2 a b:=by
    have j:((sq (a_ a b p):Nat):Int)=a_ a b p*a_ a b p:=Kp _;have id:f6 p a*f6 a b=a_ a b p*a_ a b p+jY p a b*jY p a b:=by delta f6 jY a_;grind
    have k:=pf<|jY p a b;have:((sq (a_ a b p):Nat):Int)<=((len2 p a*len2 a b:Nat):Int):=by rw[Int.natCast_mul,c,d];lia
    grind
   have f:0<len2 a b:=bh;have:=cS h e;exact Nat.le_of_mul_le_mul_right this f
def V_ p a:jN p a a=.whole (len2 p a):=by simp[jN,qZ,sub]
def V'(m:0<n)(h:cw n (ie c d a b)):cw n (ie c d a a):=by
 rw[rL m]at h⊢;obtain⟨f,o,s,l,u⟩:=h;have w:∀{p:Pt},cw n (jN p a b)->cw n (jN p a a):=λ{p}z=>by rw[V_];exact tX.mpr<|V9 z
 refine⟨?_,w o,w s,l,l⟩;cases q:fD c d a a with
 |false=>rfl
 |true=>
  rw[jg]at q;have t:∀z,a_ a a z=0:=λz=>by simp[a_]
  obtain⟨_,q⟩|q|q|q|q:=q
  .rw[t]at q;lia
  .have:fD c d a b=L:=by rw[jg];exact aW<|aP q
   rw[f]at this;cases this
  .have:fD c d a b=L:=by rw[jg];exact aW<|aP q
   rw[f]at this;cases this
  .rw[lh]at q;have e:c=a:=by obtain⟨_,⟨g,i⟩,j,k⟩:=q;cases c;cases a;simp at g i j k⊢;lia
   subst e;have:fD c d c b=L:=by rw[jg];refine aW<|aP ?_;rw[lh];delta a_;refine⟨au,⟨ap,ap⟩,ap,ap⟩
   rw[f]at this;cases this
  .rw[lh]at q;have e:d=a:=by obtain⟨_,⟨g,i⟩,j,k⟩:=q;cases d;cases a;simp at g i j k⊢;lia
   subst e;have:fD c d d b=L:=by rw[jg];refine aW<|aP ?_;rw[lh];delta a_;refine(by grind-order)
   rw[f]at this;cases this
def Wa(c:0<n)(d:l≠[])(h:cw n (jP l [a,b])):cw n (jP l [a]):=by
 rw[qh c d au];rw[qh c d au]at h;obtain⟨m,o,i⟩:=h;have z:∀e∈edges l,∀f∈edges [a,a],cw n _:=λe j f g=>by have k:edges [a,a]=[_]:=U;rw[k,e_]at g;rw[g];exact V' c<|i e j (a,b)<|by show _∈[_];simp
 grind[edges,meet_comm,Fo,eC,yo,odd]
def Wb(d:l≠[]){g:Nat}(c:0<g)(h:gW (a,b) l g=L):gW (a,a) l g=L:=by rw[yy _ d c,fr]at h⊢;rw[K_ (u_ c c) d];exact Wa (u_ c c) d h
def Wc(c:l≠[]){g:Nat}(d:0<g):gW (b,a) l g=gW (a,b) l g:=by rw[yy _ c d,yy _ c d,jO];have e:=u_ d d;rw[<-vP e c au,<-vP e c au];refine Fs e ⟨λp=>bh,U,aW ?_⟩ au c;rfl
end _d
namespace _e
open VbpcText
@[reducible]def B(z:Int):UInt8:=.ofNat z.toNat
@[reducible]def bs(l:O Int):kC:=l.map B
abbrev dM(l:O Int):Prop:=∀z∈l,0<=z/\z<=255
def yz(h:0<=z/\z<=255):(B z).toNat=z.toNat:=by simp;lia
def vS(h:0<=z/\z<=255)(n:Nat)(a:n<256):B z=.ofNat n↔z=n:=by grind-order [TF]
def FA(h:0<=z/\z<=255)(n:Nat)(a:n<256):B z<=ag8 n↔z<=n:=by simp[ag9,yz h,TF];lia
def BO{z:Int}(h:0<=z/\z<=255)(n:Nat)(a:n<256):ag8 n<=B z↔(n:Int)<=z:=by rw[ag9,yz h,TF];lia
def Wd(a:0<=y/\y<=255)(hz:0<=z/\z<=255):B y=B z↔y=z:=by
 constructor
 .grind[yz]
 lia
abbrev gG(s:O (O Int)×O Int)(b:Int):O (O Int)×O Int:=if b=10 then(s.1++[s.2],[])else(s.1,s.2++[b])
abbrev fin(s:O (O Int)×O Int):O (O Int):=if 0<s.2.length then s.1++[s.2]else s.1
def vT(h:0<s.2.length):fin s=s.1++[s.2]:=aH h
def yA(h:¬0<s.2.length):fin s=s.1:=aD h
abbrev dN(t:O Int):O (O Int):=fin<|t.foldl gG ([],[])
def We acc c(r:kC):mB acc (c::r)=if c=10 then acc.reverse::mB [] r else mB (c::acc) r:=by simp[mB]
def Wg{acc:kC}(h:acc≠[]):mB acc []=[acc.reverse]:=by cases acc<;>grind[mB]
def Wh acc c(r:kC):kD acc (c::r)=if c=32 then(if acc.isEmpty=L then kD [] r else acc.reverse::kD [] r)else kD (c::acc) r:=by simp[kD]
def Wi{acc:kC}(h:acc≠[]):kD acc []=[acc.reverse]:=by cases acc<;>grind[kD]
def FB:∀t f a,dM t->
  (fin<|t.foldl gG (f,a)).map bs=f.map bs++mB (bs a).reverse (bs t)
 |[],f,a,_=>by
  by_cases c:0<a.length
  .have j:(bs a).reverse≠[]:=by intro e;simp at e;rw[e]at c;simp at c
   rw[vT c];show(f++[a]).map bs=f.map bs++mB (bs a).reverse [];rw[Wg j,Av,cN];rfl
  .have e:a=[]:=ag_ ap;rw[e];show f.map bs=f.map bs++mB [] [];rw[mB,eG]
 |b::t,f,a,h=>by
  have g:dM t:=λz k=>h z bh;rw[kU];have i:mB (bs a).reverse (bs (b::t))=if B b=10 then(bs a)::mB [] (bs t)else mB (B b::(bs a).reverse) (bs t):=by show mB (bs a).reverse (B b::bs t)=_;rw[We,Av]
  have d:B b=10↔b=10:=vS (h b au) 10 ap;by_cases c:b=10
  .have e:gG (f,a) b=(f++[a],[]):=by rw[gG,aH c]
   rw[e,FB t _ _ g,i,aH<|d.mpr c];simp
  .have e:gG (f,a) b=(f,a++[b]):=by rw[gG,aD c]
   rw[e,FB t _ _ g,i,aD ap];simp
def Wj(h:dM t):(dN t).map bs=lines (bs t):=by simp_all[FB,dN,lines]
def FC:∀t d f,dM t->(∀l∈d,dM l)->dM f->
  ∀l∈(fin<|t.foldl gG (d,f)),dM l
 |[],d,f,_,i,j=>by grind[vT,yA]
 |b::t,d,f,h,i,j=>by
  have k:dM t:=λz a=>h z bh;have m:=h b au;rw[kU];by_cases c:b=10
  .have e:gG (d,f) b=(d++[f],[]):=by rw[gG,aH c]
   rw[e];refine FC t _ _ k ?_ (λz a=>by simp at a);intro l g;obtain g|g:=fE.mp g
   .exact i l g
   .rw[e_]at g;exact g▸j
  .have e:gG (d,f) b=(d,f++[b]):=by rw[gG,aD c]
   rw[e];apply FC t _ _ k i;intro z a;obtain a|a:=fE.mp a
   .exact j z a
   .rw[e_]at a;exact a▸m
def Wk(h:dM t):∀l∈dN t,dM l:=FC t [] [] h au<|λ_ h=>bG
abbrev vU(l:O Int):Bool:=l.any λb=>decide (b<32)||decide (b>126)
def Lb(h:dM l):vU l=!((bs l).all plain):=by
 rw[fV,my,<-xp,dR,vU,Jh];constructor
 .rintro⟨b,a,hw⟩ z;have d:=z _<|nJ a;rw[plain,c6,lH,lH]at d;have f:=(BO (h b a) 32 au).mp d.1;have g:=(FA (h b a) 126 au).mp d.2;grind
 .intro z;apply ajD;intro n;apply z;intro c e;obtain⟨b,a,rfl⟩:=eY.mp e;have i:¬_:=λq=>n ⟨b,a,by simpa using q⟩;rw[plain,c6,lH,lH];exact⟨(BO (h b a) 32 au).mpr ap,(FA (h b a) 126 au).mpr ap⟩
abbrev f7(s:O (O Int)×O Int)(b:Int):O (O Int)×O Int:=
 if b≠32 then(s.1,s.2++[b])else if 0<s.2.length then(s.1++[s.2],[])else s
abbrev n0(t:O Int):O (O Int):=fin<|t.foldl f7 ([],[])
def BP:∀t(f:O (O Int))cur,dM t->
  (fin<|t.foldl f7 (f,cur)).map bs=f.map bs++kD (bs cur).reverse (bs t)
 |[],f,cur,_=>by
  rw[ag'];by_cases c:0<cur.length
  .have j:(bs cur).reverse≠[]:=by intro e;simp at e;rw[e]at c;simp at c
   rw[vT c];show(f++[cur]).map bs=f.map bs++kD (bs cur).reverse [];rw[Wi j,Av,cN];rfl
  .have e:cur=[]:=ag_ ap;subst e;rw[yA c];show f.map bs=f.map bs++kD [] [];rw[kD,eG]
 |b::t,f,cur,h=>by
  have g:dM t:=λz k=>h z (by simp[k]);rw[kU];have d:B b=32↔b=32:=vS (h b au) 32 ap
  have i:kD (bs cur).reverse (bs (b::t))=if B b=32 then(if cur=[]then kD [] (bs t)else(bs cur)::kD [] (bs t))else kD (B b::(bs cur).reverse) (bs t):=by
   show kD (bs cur).reverse (B b::bs t)=_;rw[Wh,Av];cases cur with
   |nil=>rfl
   |cons a r=>
    rw[aD (show¬(a::r)=[] by simp),aD<|show¬(bs (a::r)).reverse.isEmpty=L by simp]
  by_cases c:b=32
  .rw[i,aH<|d.mpr c];cases cur with
   |nil=>
    have e:f7 (f,[]) b=(f,[]):=by rw[f7,aD<|by simp[c]];rfl
    rw[e,BP t _ _ g];rfl
   |cons a r=>
    have e:f7 (f,a::r) b=(f++[a::r],[]):=by delta f7;rw[aD ap];rfl
    rw[e,BP t _ _ g];simp
  .have e:f7 (f,cur) b=(f,cur++[b]):=by delta f7;rw[aH c]
   rw[e,BP t _ _ g,i,aD<|λz=>c<|d.mp z];simp
def Wl(h:dM t):(n0 t).map bs=kD [] (bs t):=by simp_all[BP,n0]
def BQ:∀(t:O Int)d a(P:Int->Prop),(∀z∈t,z≠32->P z)->(∀l∈d,l≠[]/\∀z∈l,P z)->(∀z∈a,P z)->
  ∀l∈(fin<|t.foldl f7 (d,a)),l≠[]/\∀z∈l,P z
 |[],d,a,P,_,i,j=>by grind[ag',vT,yA]
 |b::t,d,a,P,h,i,j=>by
  have m:∀z∈t,z≠32->P z:=λz f=>h z (by simp[f]);rw[kU];by_cases c:b=32
  .by_cases k:0<a.length
   .have e:f7 (d,a) b=(d++[a],[]):=by rw[f7,aD (by simp[c]),aH k]
    rw[e];refine BQ t _ _ P m ?_ (λz f=>by simp at f);intro l g;rcases fE.mp g with g|g
    .exact i l g
    .rw[e_]at g;rw[g];exact⟨by intro e;rw[e]at k;simp at k,j⟩
   .have e:f7 (d,a) b=(d,a):=by delta f7;rw[aD (by simp[c]),aD k]
    rw[e];exact BQ t _ _ P m i j
  .have e:f7 (d,a) b=(d,a++[b]):=by delta f7;rw[aH c]
   rw[e];apply BQ t _ _ P m i;intro z f;rcases fE.mp f with f|f
   .exact j z f
   .rw[e_]at f;exact f▸h _ au c
abbrev mJ:O Int->Int->aR Int
 |[],v=>v
 |b::r,v=>if¬(48<=b/\b<=57)then am else mJ r (10*v+b-48)
abbrev ft(w:O Int):aR Int:=
 if w=[48]then Y 0
 else
  let d:=if w.head?=Y 45 then w.drop 1 else w
  if¬(1<=d.length/\d.length<=10)\/d.head?=Y 48 then am
  else(mJ d 0).map λv=>if w.head?=Y 45 then-v else v
def Ld:∀d(v:Nat),dM d->mJ d v=if(bs d).all pY=L then Y (((bs d).foldl (λn c=>10*n+(c.toNat-48)) v:Nat):Int)else am
 |[],v,_=>by simp[mJ]
 |b::r,v,h=>by
  have a:=h b au;have f:dM r:=λz g=>h z bh;have e:pY (B b)=decide (48<=b/\b<=57):=by rw[pY,fV,c6,lH,lH,lH];exact and_congr (BO a 48 au)<|FA a 57 au
  simp only[mJ,eQ,kE,kU];rw[e];by_cases c:48<=b/\b<=57
  .rw[aD bG,dm c,mC,yz a];have:(10*v+b-48)=((10*v+(b.toNat-48):Nat)):=bh;rw[this,Ld r _ f]
  lia
def Wm(h:dM w)(v:w≠[]):ft w=Az (bs w):=by
 have j:∀d,dM d->Ek (bs d)=if d=[48]then Y 0 else if¬(1<=d.length/\d.length<=10)\/d.head?=Y 48 then am else if(bs d).all pY=L then(value<|bs d)else am:=by
  intro d g
  delta Ek
  have k:bs d=[48]↔d=[48]:=by
   constructor
   .intro e
    match d,e with
    |[],e=>simp at e
    |x::y::r,e=>simp at e
    |[x],e=>
     have:=by simpa using e
     rw[(vS (g x au) 48 au).mp this];rfl
   .intro e;rw[e];rfl
  have m:(bs d).head?=Y 48↔d.head?=Y 48:=by
   match d with
   |[]=>simp
   |x::r=>
    simp;exact vS (g x au) 48 au
  by_cases f:d=[48]
  .rw[aH<|k.mpr f,aH f]
  .rw[aD<|λz=>f<|k.mp z,aD f];by_cases c2:¬(1<=d.length/\d.length<=10)\/d.head?=Y 48
   .rw[aH c2,aH];obtain c2|c2:=c2
    .by_cases b:d=[]
     .left;rw[b];rfl
     .right;left;have:=El.mpr b;simp;lia
    .right;right;right;exact m.mpr c2
   .rw[aD c2];by_cases b:(bs d).all pY=L
    .rw[aH b,aD];rintro(z|z|z|z)
     .simp at z;rw[z]at c2;simp at c2
     .simp at z;lia
     .rw[z]at b;simp at b
     .exact c2<|aW<|m.mp z
    .rw[aD b,aH];right;right;left;simpa using b
 delta ft
 match w,v with
 |x::r,_=>
  have i:dM r:=λz A=>h z (by simp[A]);have o:∀d,dM d->mJ d 0=if(bs d).all pY=L then Y ((value (bs d):Nat):Int)else am:=λd=>Ld d 0;by_cases c:x=45
  .rw[c];rw[aD au];show _=(Ek<|bs r).bind λn=>if n=0 then am else Y (-(n:Int));simp only[AA,xw,List.drop_one,List.tail_cons];rw[j r i,o r i];by_cases f:r=[48]
   .rw[f];rfl
   .rw[aD f];by_cases c2:¬(1<=r.length/\r.length<=10)\/r.head?=Y 48
    .rw[aH c2,aH c2];rfl
    .rw[aD c2,aD c2];by_cases b:(bs r).all pY=L
     .rw[aH b,aH b]
      have C:value (bs r)≠0:=by
       match r,c2,b with
       |y::s,c2,b=>
        have p:=i y au;have G:y≠48:=λz=>c2<|aW<|z▸U;have q:(pY (B y)&&(bs s).all pY)=L:=b;rw[c6]at q;have t:=q.1;rw[pY,c6,lH]at t;have H:=(BO p 48 au).mp t.1;show(bs s).foldl (λn c=>10*n+(c.toNat-48)) (10*0+((B y).toNat-48))≠0;rw[yz p]
        have mono:∀(l:kC)(n:Nat),n<=l.foldl (λn c=>10*n+(c.toNat-48)) n:=by
         intro l
         induction l with
         |nil=>exactλn=>cg _
         |cons a l E=>intro n;exact kU▸cS ap (E _)
        have:=mono (bs s)<|10*0+(y.toNat-48);grind
      simp[C]
     .rw[aD b,aD b];rfl
  .have g:(x::r).head?≠Y 45:=by simpa using c
   have e:Az (bs (x::r))=.map (λn:Nat=>n) (Ek<|bs (x::r)):=by
    delta Az
    split
    .rename_i u;simp at u;exact absurd u.1 λz=>c<|(vS (h x au) 45 au).mp z
    .cases Ek (bs (x::r))<;>rfl
   rw[e,j (x::r) h];simp only[g,tD];by_cases f:x::r=[48]
   .rw[aH f,aH f];rfl
   .rw[aD f,aD f];by_cases c2:¬(1<=(x::r).length/\(x::r).length<=10)\/(x::r).head?=Y 48
    .rw[aH c2,aH c2];rfl
    .rw[aD c2,aD c2,o _ h];by_cases b:(bs (x::r)).all pY=L
     .rw[aH b,aH b];rfl
     .rw[aD b,aD b];rfl
end _e
namespace _h
open Vbpcaa Vbpcad _d
abbrev mK(seen acc:O cV)(d:cV):O cV:=if(seen++acc).contains d=L then acc else acc++[d]
def Wn(seen:O cV):∀(l acc:O cV),(∀d∈acc,seen.contains d=aA)->l.foldl (mK seen) acc=Jj (· == ·) (l.filter λd=>!seen.contains d) acc.reverse:=by
 intro g acc h
 induction g generalizing acc h with
 |nil=>simp[Jj]
 |cons d l a=>
  rw[kU];unfold mK;by_cases c:seen.contains d=L
  .have:(seen++acc).contains d=L:=by
    rw[rc]at c⊢;exact Jk _ c
   rw[aH this,Jl,aD ap];exact a acc h
  .have i:seen.contains d=aA:=by simpa using c
   have j:(d::l).filter (λd=>!seen.contains d)=d::l.filter λd=>!seen.contains d:=Jl▸i▸U;rw[j];by_cases f:acc.contains d=L
   .have:(seen++acc).contains d=L:=by
     rw[rc]at f⊢;exact jS _ f
    rw[aH this];have q:acc.reverse.any (λb=>d==b)=L:=by rw[Jh];exact bG
    simp only[Jj,q];exact a acc h
   .have:¬(seen++acc).contains d=L:=by
     rw[rc,fE,Aq];exact bh
    rw[aD this]
    have q:acc.reverse.any (λb=>d==b)=aA:=by
     rw[va];intro x k e;have:=by simpa using e
     subst this;exact f bh
    rw[Jj,q];have:=a (acc++[d]) bh;rwa[ag6]at this
def erase_eq(seen l:O cV):l.foldl (mK seen) []=(l.filter λd=>!seen.contains d).eraseDups:=Wn seen l [] au
abbrev ll(b:bC)(g:iN)(c:cV):O cV:=(Em g c).filter λd=>jb b g c d
abbrev jA(b:bC)(g:iN)(seen now:O cV):O cV:=(now.flatMap<|ll b g).foldl (mK seen) []
def Wo b g seen now:jA b g seen now=(now.flatMap λc=>(Em g c).filter λd=>!seen.contains d&&jb b g c d).eraseDups:=by simp[jA,ll,erase_eq,List.filter_flatMap]
def Wp b g n seen now(h:now≠[]):AB b g (n+1) seen now=now::AB b g n (seen++jA b g seen now) (jA b g seen now):=by rw[AB,aD h,Wo]
def Wq b g n seen:AB b g n seen []=[]:=by cases n<;>simp[AB]
abbrev assoc:Nat->O (O cV)->O (cV×Nat)
 |_,[]=>[]
 |i,r::rs=>r.map (λc=>(c,i))++assoc (i+1) rs
def BR:∀i a b,assoc i (a++b)=assoc i a++assoc (i+a.length) b
 |i,[],b=>rfl
 |i,r::a,b=>by
  show r.map _++assoc _ (a++b)=_;simp[BR _ a b,assoc]
  lia
def FD:∀i(a:O (O cV)),(assoc i a).map (·.1)=a.flatten
 |_,[]=>rfl
 |i,r::a=>by rw[assoc,cN,FD _ a];simp[Tr]
def Wr d(i:Nat):∀r:O cV,(r.map λc=>(c,i)).find? (λx=>decide<|x.1=d)=if r.contains d=L then Y (d,i)else am:=by
 intro a
 induction a with
 |nil=>exact U
 |cons c r b=>
  rw[eQ,Eo];by_cases h:c=d
  .grind
  .rw[kF h]
   have e:(c::r).contains d=r.contains d:=by
    (simp;lia)
   exact e▸(b)
def Le d:∀i(a:O (O cV)),((assoc i a).find? λx=>decide<|x.1=d).map (·.2)=((numbered i a).find? λx=>x.2.contains d).map (·.1)
 |_,[]=>rfl
 |i,r::a=>by
  rw[assoc,numbered,List.find?_append,Wr,Eo];cases h:r.contains d
  .exact Le d _ a
  rfl
abbrev gH(g:iN)(c:cV):Prop:=c.1<g.cols/\c.2<g.rows
def Lf(a:gH g c)(h:d∈Em g c):gH g d:=by simp[Em]at h;grind-order [gH]
def FE seen:∀(l acc:O cV),(seen++acc).Nodup->(seen++l.foldl (mK seen) acc).Nodup/\∀d∈l.foldl (mK seen) acc,d∈acc\/d∈l:=by
 intro g acc h
 induction g generalizing acc h with
 |nil=>exact bG
 |cons x l f=>
  rw[kU];unfold mK;by_cases c:(seen++acc).contains x=L
  .rw[aH c];obtain⟨a,b⟩:=f acc h;exact⟨a,λd e=>(b d e).imp id<|ja _⟩
  .rw[aD c];obtain⟨a,b⟩:=f (acc++[x]) bh;refine⟨a,λd e=>?_⟩;obtain z|z:=b d e
   .obtain z|z:=fE.mp z
    .exact aP z
    .rw[e_.mp z];exact aW au
   .exact aW<|ja _ z
def Ws{b:bC}{g:iN}{seen now:O cV}(k:seen.Nodup)(e:∀c∈now,gH g c)(hi:∀c∈seen,gH g c):(seen++jA b g seen now).Nodup/\∀c∈seen++jA b g seen now,gH g c:=by
 obtain⟨f,h⟩:=FE seen _ [] bG;refine⟨f,λc d=>?_⟩;obtain d|d:=fE.mp d
 .grind
 .obtain z|z:=h c d
  .cases z
  .obtain⟨a,i,j⟩:=vc.mp z;exact Lf (e a i) (q_.mp j).1
def Lg:∀{l m:O cV},l.Nodup->(∀c∈l,c∈m)->l.length<=m.length
 |[],m,_,_=>dI _
 |a::l,m,h,k=>by let⟨d,b⟩:=tE.mp h;have:=Lg (l:=l) (m:=m.erase a) b λc e=>(List.mem_erase_of_ne ap).mpr bh;grind
def FF{g:iN}{l:O cV}(h:l.Nodup)(hi:∀c∈l,gH g c):l.length<=g.cols*g.rows:=by
 have:∀c∈l,c∈(c8 g.cols).flatMap λi=>(c8 g.rows).map λj=>(i,j):=λc a=>by let⟨d,f⟩:=hi c a;grind
 have k:=Lg h this;have e:((c8 g.cols).flatMap λi=>(c8 g.rows).map λj=>((i,j))).length=g.cols*g.rows:=by
  have:∀n,((c8 n).map λ_=>g.rows).sum=n*g.rows:=λn=>by
   induction n with
   |zero=>simp
   |succ n b=>rw[ag5,cN,List.sum_append,b,aha];rfl
  simpa using this g.cols
 simp_all
structure qj b g c done now:Prop where
 all:∃n,kW b g c=done++AB b g n (done++[now]).flatten now/\(now≠[]->g.cols*g.rows+1<=n+(done++[now]).flatten.length)
 nd:(done++[now]).flatten.Nodup
 yB:∀d∈(done++[now]).flatten,gH g d
def qj.start{b:bC}{g:iN}{c:cV}(C:gH g c)(I:free b g c=L):qj b g c [] [c]:=by refine⟨⟨g.cols*g.rows+1,?_,λ_=>au⟩,au,bG⟩;simp_all[kW]
def qj.next{b:bC}{g:iN}{c:cV}{done:O (O cV)}{now:O cV}(B:qj b g c done now)(h:now≠[]):
  qj b g c (done++[now]) (jA b g (done++[now]).flatten now)/\2*(g.cols*g.rows-((done++[now])++[jA b g (done++[now]).flatten now]).flatten.length)+(if jA b g (done++[now]).flatten now=[]then 0 else 1)<2*(g.cols*g.rows-(done++[now]).flatten.length)+1:=by
 refine aL B.all λn e hn=>?_;have hn:=hn h;have akF:∀d∈now,gH g d:=λd hd=>B.yB d (by simp[hd]);obtain⟨h1,h2⟩:=Ws (b:=b) (g:=g) (now:=now) B.nd akF B.yB;have C:((done++[now])++[jA b g (done++[now]).flatten now]).flatten=(done++[now]).flatten++jA b g (done++[now]).flatten now:=au;have akH:=FF B.nd B.yB;have akG:=FF h1 h2;have akI:0<n:=ap;obtain⟨I,rfl⟩:∃I,n=I+1:=⟨n-1,ap⟩
 rw[Wp _ _ _ _ _ h]at e;refine⟨⟨⟨I,?_,λhr=>?_⟩,C▸h1,C▸h2⟩,?_⟩
 .rw[C,e];simp
 .rw[C,cC];have:0<(jA b g (done++[now]).flatten now).length:=El.mpr hr
  lia
 .rw[C,cC];rw[cC]at akG;split
  .simp_all
  .rename_i hr;have:0<(jA b g (done++[now]).flatten now).length:=El.mpr hr;grind
def qj.end_{b:bC}{g:iN}{c:cV}{done:O (O cV)}(B:qj b g c done []):kW b g c=done:=by obtain _:=B.all;simp_all[Wq]
abbrev gJ:O Bool->Int×Int->Int×Int
 |[],s=>s
 |m::r,s=>gJ r<|if m=L then(s.1+s.2,s.2*2)else(s.1,s.2*2)
def Wt q:∀n k s,((ahb k n).foldl (λ(s:Nat)i=>if q i=L then s+2^i else s) s)=(gJ ((ahb k n).map q) (s,((2^k:Nat)))).1:=by
 intro b k s
 induction b generalizing k s with
 |zero=>exact U
 |succ n a=>
  rw[List.range'_succ,kU,eQ,gJ];cases h:q k
  .exact a _ s
  .exact a _ _
def Wu(g:iN)(p:cV->Bool)j:(((c8 g.cols).foldl (λs i=>if p (i,j)=L then s+2^i else s) 0:Nat))=(gJ ((c8 g.cols).map λi=>p (i,j)) (0,1)).1:=by simp[List.range_eq_range',Wt]
@[reducible]def Sd:=Pt×Pt
@[reducible]def bE:=O<|O<|aR Sd
abbrev cellAt(g:bE)(i j:Nat):aR Sd:=((g[j]?).bind λr=>r[i]?).bind id
abbrev ej(q:Nat->Nat->Sd->Bool)(g:bE):bE:=g.mapIdx λj a=>a.mapIdx λi o=>o.filter λe=>!q i j e
abbrev lS(g:bE)(i j:Nat):bE:=g.set j<|(g.getD j []).set i am
def idx_map{α a:Type}(f:Nat->α->a)(l:O α)i:(l.mapIdx f)[i]?=(l[i]?).map (f i):=rd
def vV q g i j:cellAt (ej q g) i j=(cellAt g i j).filter λe=>!q i j e:=by
 delta cellAt ej
 rw[idx_map];cases g[j]? with
 |none=>rfl
 |some row=>
  simp;grind
def yC g:ej (λ_ _ _=>aA) g=g:=by
 delta ej
 refine iO λj=>?_;rw[idx_map];cases g[j]? with
 |none=>rfl
 |some row=>
  rw[Ep];congr 1;refine iO λi=>?_;rw[idx_map];cases row[i]? with
  |none=>rfl
  |some o=>cases o<;>rfl
def BS(h:∀i j e,cellAt g i j=Y e->q i j e=a i j e):ej q g=ej a g:=by
 delta ej
 refine iO λj=>?_;rw[idx_map,idx_map];cases b:g[j]? with
 |none=>rfl
 |some row=>
  rw[Ep];congr 1;refine iO λi=>?_;rw[idx_map,idx_map];cases hi:row[i]? with
  |none=>rfl
  |some o=>
   cases o with
   |none=>rfl
   |some e=>
    have:=h i j e (by simp_all[cellAt]);simp[vg,this]
def FG q a g:ej a (ej q g)=ej (λi j e=>q i j e||a i j e) g:=by
 delta ej
 refine iO λj=>?_;rw[idx_map,idx_map,idx_map];cases g[j]? with
 |none=>rfl
 |some row=>
  simp only[Ep];congr 1;refine iO λi=>?_;rw[idx_map,idx_map,idx_map];cases row[i]?<;>simp
def Wv{q:Nat->Nat->Sd->Bool}{g:bE}{i j:Nat}{e:Sd}(h:cellAt g i j=e):lS (ej q g) i j=ej (λc f m=>q c f m||(decide (c=i)&&decide (f=j))) g:=by
 delta lS
 have a:∃b,g[j]?=Y b/\b[i]?=(Y e):=by
  delta cellAt at h
  cases a:g[j]? with
  |none=>rw[a]at h;simp at h
  |some b=>
   rw[a]at h;rw[gB]at h;cases d:b[i]? with
   |none=>rw[d]at h;simp at h
   |some o=>rw[d]at h;simp at h;subst h;exact aY b U d
 let⟨b,a,d⟩:=a;have n:(ej q g).getD j []=b.mapIdx λi o=>o.filter λe=>!q i j e:=by rw[jt];rw[ej,idx_map,a];rfl
 rw[n];have p:j<(ej q g).length:=by rw[ej,nK];exact(dH.mp a).1
 refine iO λf=>?_;rw[AC];by_cases k:j=f
 .subst k;rw[aH U,aH p]
  delta ej
  rw[idx_map,a,Ep];congr 1;refine iO λc=>?_;rw[AC,idx_map,idx_map];by_cases l:i=c
  .subst l;rw[aH U,aH (by rw[nK];exact(dH.mp d).1),d];simp[vg]
  .rw[aD l];cases b[c]? with
   |none=>rfl
   |some o=>
    have:decide (c=i)=aA:=kF λz=>l z.symm;simp[this]
 .rw[aD k]
  delta ej
  rw[idx_map,idx_map];have:decide (f=j)=aA:=kF λz=>k z.symm;simp[this]
abbrev iT(a:Sd->Bool)(g:bE)(cells:O (Nat×Nat)):bE:=
 cells.foldl (λh c=>match cellAt h c.1 c.2 with
  |some e=>if a e=L then lS h c.1 c.2 else h
  |none=>h) g
def BU bad(g:bE):∀(pre cells),(pre++cells).Nodup->(∀c∈cells,∃e,cellAt g c.1 c.2=Y e)->
  iT bad (ej (λi j e=>pre.contains (i,j)&&bad e) g) cells=ej (λi j e=>(pre++cells).contains (i,j)&&bad e) g
 |pre,[],_,_=>by rw[eG];rfl
 |pre,c::cells,nd,h=>by
  obtain⟨e,f⟩:=h c au;have n:c∉pre:=λz=>
   have:=(ahc.mp nd).2.2 c z c au
   this U
  have o:pre.contains (c.1,c.2)=aA:=by rw[gj];exactλz=>n<|rc.mp z
  have m:pre++c::cells=(pre++[c])++cells:=au;rw[m,<-BU bad g (pre++[c]) cells (by rwa[<-m]) λd p=>h d<|by simp[p]]
  delta iT
  rw[kU];congr 1;rw[vV,f,o];have q:(Y e).filter (λe=>!(aA&&bad e))=e:=U;rw[q];simp only;by_cases k:bad e=L
  .rw[aH k,Wv f];refine BS λi j s b=>?_;by_cases a:i=c.1/\j=c.2
   .obtain⟨rfl,rfl⟩:=a;rw[f]at b;cases b;simp[k]
   .have t:(decide (i=c.1)&&decide (j=c.2))=aA:=by
     rw[gj];intro z;rw[c6,fr,fr]at z;exact a z
    have l:(pre++[c]).contains (i,j)=pre.contains (i,j):=by rw[fV,rc,rc,fE,e_];exact⟨λz=>z.resolve_right λw=>a (by rw[<-w];exact⟨U,U⟩),aP⟩
    rw[t,l,TH]
  .rw[aD k];refine BS λi j s b=>?_;by_cases a:i=c.1/\j=c.2
   .obtain⟨rfl,rfl⟩:=a;rw[f]at b;cases b;have u:bad e=aA:=by simpa using k
    rw[u,Jm,Jm]
   .have l:(pre++[c]).contains (i,j)=pre.contains (i,j):=by
     rw[fV,rc,rc,fE,e_];exact⟨λz=>z.resolve_right λw=>a (by rw[<-w];exact⟨U,U⟩),aP⟩
    rw[l]
abbrev g_(a b:Int)(d:Nat)(c e:Int):O Int:=
 (c8 ((min (d:Int) (-((a-e)/b)))-max 0 ((c-a)/b+1)).toNat).map λk=>max 0 ((c-a)/b+1)+(k:Nat)
def Ww{a m i:Int}:i∈(c8 (m-a).toNat).map (λk=>a+(k:Nat))↔a<=i/\i<m:=by rw[eY];exact⟨λ⟨k,h,e⟩=>by have:=tz.1 h;omega,λh=>⟨(i-a).toNat,tz.2 aU,aU⟩⟩
def t9{a b d c:Int}{e:Nat}(f:0<b){i:Int}:i∈g_ a b e d c↔(0<=i/\i<e)/\d<a+i*b/\a+i*b<c:=by unfold g_;rw[Ww,Je,Tj,Int.add_one_le_iff,ahd f,Int.lt_neg_iff,ahd f,agV];generalize i*b=x;have:a-c< -x↔a+x<c:=aU;exact⟨λh=>⟨⟨h.1.1,h.2.1⟩,Int.lt_add_of_sub_left_lt h.1.2,this.1 h.2.2⟩,λh=>⟨⟨h.1.1,Int.sub_left_lt_of_lt_add h.2.1⟩,h.1.2,this.2 h.2.2⟩⟩
def Lh{α c:Type}{f:α->c}(d:∀a b,f a=f b->a=b):∀{l:O α},l.Nodup->(l.map f).Nodup:=bh
def Wx:(g_ begin pitch count low high).Nodup:=Lh ap List.nodup_range
abbrev ik(g:bE)(x y a:Int)(bx:Bx)(b:Int):O (Nat×Nat):=
 ((g_ y a g.length (bx.2.1-(b+a))<|bx.2.2.2+b).map Er).flatMap λj=>
  (((g_ x a (g.headD []).length (bx.1-(b+a))<|bx.2.2.1+b).map Er).filter λi=>(cellAt g i j).isSome).map λi=>(i,j)
def Li(d:0<pitch):((g_ begin pitch count low high).map Er).Nodup:=by
 have:∀{l:O Int},l.Nodup->(∀i∈l,0<=i)->(l.map Er).Nodup:=by
  intro l
  induction l with
  |nil=>simp
  |cons a l b=>
   intro h k;let⟨e,c⟩:=tE.mp h;rw[eQ,tE];refine⟨λz=>?_,b c λi f=>k i bh⟩;obtain _:=eY.mp z;have:=k a au;grind-order
 simp_all[Wx,t9]
def Wy{α:Type}{f:Nat->O (α×Nat)}(a:∀j,(f j).Nodup)(b:∀j x,x∈f j->x.2=j):∀{l:O Nat},l.Nodup->(l.flatMap f).Nodup:=bh
structure mL x y pitch g:Prop where
 at_:∀i j e,cellAt g i j=Y e->e.1=⟨x+i*pitch,y+j*pitch⟩/\(e.1.x<=e.2.x/\e.2.x<=e.1.x+pitch)/\(e.1.y<=e.2.y/\e.2.y<=e.1.y+pitch)
 len:∀r∈g,r.length=(g.headD []).length
def Wz(h:cellAt g i j=Y e):j<g.length/\∃r∈g,i<r.length:=by grind-order [cellAt]
def WA(a:0<pitch)(ok:mL x y pitch g)(h:cellAt g i j=Y e):
  (i,j)∈ik g x y pitch bx gap↔(bx.1-(gap+pitch)<e.1.x/\e.1.x<bx.2.2.1+gap)/\bx.2.1-(gap+pitch)<e.1.y/\e.1.y<bx.2.2.2+gap:=by
 obtain⟨f,_⟩:=ok.at_ i j e h;obtain⟨o,r,q,c⟩:=Wz h;have A:i<(g.headD []).length:=by rwa[<-ok.len r q]
 delta ik
 have d:∀{b p lo c:Int}{n k:Nat},0<p->(k∈(g_ b p n lo c).map Er↔k<n/\lo<b+k*p/\b+k*p<c):=by
  intro b p lo c n k a;rw[eY];constructor
  .rintro⟨z,s,rfl⟩;have:=(t9 a).mp s;have e:z.toNat=z:=ap;exact e▸(bG)
  .rintro⟨t,l⟩;exact aY k ((t9 a).mpr bG) au
 rw[vc];have u:e.1.x=x+i*pitch:=f▸U;have v:e.1.y=y+j*pitch:=f▸U;rw[u,v];constructor
 .rintro⟨C,w,z⟩;obtain⟨E,m,⟨⟩⟩:=eY.mp z;rw[q_]at m;exact⟨((d a).mp m.1).2,((d a).mp w).2⟩
 .rintro⟨t,l⟩;exact aY j ((d a).mpr ⟨o,l⟩)<|eY.mpr bG
def BV(h:c∈ik g x y pitch bx gap):∃e,cellAt g c.1 c.2=Y e:=by refine aL (vc.mp h) λj _ h=>?_;refine aL (eY.mp h) λi a b=>?_;subst b;exact TJ.mp (q_.mp a).2
def BW(a:0<pitch):(ik g x y pitch bx gap).Nodup:=by refine Wy (λj=>Lh au<|(Li a).filter _) (λj x b=>?_)<|Li a;grind
def Lj(a:0<pitch)(ok:mL x y pitch g)(h:cellAt g i j=Y e)(b:(i,j)∉ik g x y pitch bx gap):fZ (cr e.1 e.2) bx gap=L:=by
 rw[WA a ok h]at b;obtain _:=ok.at_ i j e h;rw[li]
 (delta cr;grind)
abbrev n8(g:bE)(x y b:Int)(f:Sd)(a:Int):bE:=iT (λe=>!iR e.1 e.2 f.1 f.2 a) g<|ik g x y b (cr f.1 f.2) a
def WB{g:bE}{x y b:Int}(d:0<b)(ok:mL x y b g)f{a:Int}(k:0<a):n8 g x y b f a=ej (λ_ _ e=>!iR e.1 e.2 f.1 f.2 a) g:=by
 delta n8
 have:=BU (λe=>!iR e.1 e.2 f.1 f.2 a) g [] (ik g x y b (cr f.1 f.2) a) (by simpa using BW d) λc=>BV;simp[yC]at this;rw[this];refine BS λi j e h=>?_;by_cases c:(i,j)∈ik g x y b (cr f.1 f.2) a
 .simp_all
 .have:=Lj d ok h c;simp_all[iR]
abbrev qk(g:bE)(x y a:Int)(l:O Pt):bE:=iT (λe=>lj l e.1) g<|ik g x y a (dS l) 1
def WC{g:bE}{x y a:Int}(b:0<a)(ok:mL x y a g)(l:O Pt):qk g x y a l=ej (λ_ _ e=>lj l e.1) g:=by
 delta qk
 have:=BU (λe=>lj l e.1) g [] (ik g x y a (dS l) 1) (by simpa using BW b) λc=>BV;simp only[ahe,TK,yC,TM]at this;rw[this];refine BS λi j e h=>?_;by_cases c:(i,j)∈ik g x y a (dS l) 1
 .rw[rc.mpr c,mC]
 .have d:=Lj b ok h c;have:fZ (cr e.1 e.1) (dS l) 1=L:=by
   (simp_all[li,cr];lia)
  rw[BI,eC,Fm this,Fn this];simp
def mL.FH(ok:mL x y pitch g)q:mL x y pitch (ej q g):=by
 have hd:((ej q g).headD []).length=(g.headD []).length:=by cases g<;>simp[ej]
 refine⟨λi j e h=>?_,λr hr=>?_⟩
 .rw[vV]at h;cases C:cellAt g i j with
  |none=>rw[C]at h;simp at h
  |some e'=>
   have:e'=e:=by simp_all
   exact(this).symm▸ok.at_ i j e' C
 .rw[hd];unfold ej at hr;obtain⟨j,I⟩:=Ef hr;rw[idx_map]at I;cases C:g[j]? with
  |none=>rw[C]at I;cases I
  |some r'=>
   rw[C]at I;obtain rfl:=bL I;rw[nK];exact ok.len r'<|eD C
abbrev jB(x y a b:Int)(os:O Ob)(g:bE):bE:=
 os.foldl (λh o=>qk ((edges o.pts).foldl (λh f=>n8 h x y a f<|b+o.r) h) x y a o.pts) g
def WD{x y a b:Int}(d:0<a)(i:0<b):∀(c:O Sd)g,mL x y a g->c.foldl (λh f=>n8 h x y a f b) g=ej (λ_ _ e=>!c.all λf=>iR e.1 e.2 f.1 f.2 b) g:=by
 intro j g ok
 induction j generalizing g ok with
 |nil=>
  simp[yC]
 |cons f c k=>
  rw[kU,WB d ok f i,k _<|ok.FH _,FG];simp
def BX{x y b a:Int}(c:0<b)(l:0<a):∀(os:O Ob)g,mL x y b g->jB x y b a os g=ej (λ_ _ e=>!os.all λo=>gW e o.pts<|a+o.r) g:=by
 intro d g ok
 induction d generalizing g ok with
 |nil=>
  show g=_;simp[yC]
 |cons o os i=>
  have j:0<a+o.r:=ap;have k:qk ((edges o.pts).foldl (λh f=>n8 h x y b f<|a+o.r) g) x y b o.pts=ej (λ_ _ e=>!gW e o.pts (a+o.r)) g:=by rw[WD c j _ g ok,WC c<|ok.FH _,FG];grind[gW]
  have:jB x y b a (o::os) g=jB x y b a os (ej (λ_ _ e=>!gW e o.pts (a+o.r)) g):=k.symm▸U;rw[this,i _<|ok.FH _,FG];simp
section
variable(b:bC)(g:iN)
abbrev lm:O Ob:=obs b g.kind g.lo g.hi
abbrev f8:Int:=(g.r:Int)+g.m
abbrev yD:bE:=(c8 g.rows).map λj=>(c8 g.cols).map λi=>if dY (g.pt (i,j)) b.outline=0 then am else Y (g.pt (i,j),g.pt (i,j))
abbrev iE:bE:=jB g.x g.y g.pitch (f8 g) (lm b g)<|yD b g
abbrev pi(s o:aR Sd):aR Sd:=match s,o with
 |some s,Y o=>Y (s.1,o.1)
 |_,_=>am
abbrev lp(l m:O (aR Sd)):O (aR Sd):=(l.zip m).map λz=>pi z.1 z.2
abbrev kL(s:bE):bE:=s.map λa=>lp a.dropLast<|a.drop 1
abbrev kM(s:bE):bE:=(s.dropLast.zip<|s.drop 1).map λz=>lp z.1 z.2
abbrev n9:bE:=jB g.x g.y g.pitch (f8 g) (lm b g)<|kL<|iE b g
abbrev n_:bE:=jB g.x g.y g.pitch (f8 g) (lm b g)<|kM<|iE b g
end
variable{b:bC}{g:iN}
def yE i j:g.pt (i,j)=⟨g.x+i*g.pitch,g.y+j*g.pitch⟩:=by simp[Raster.pt,Es]
def Lk(f:Nat->Nat->aR Sd)(n m i j):cellAt ((c8 n).map λj=>(c8 m).map λi=>f i j) i j=if i<m/\j<n then f i j else am:=by by_cases p:j<n<;>by_cases q:i<m<;>simp[cellAt,p,q]
def WE(f:Nat->Nat->aR Sd)n m:∀r∈((c8 n).map λj=>(c8 m).map λi=>f i j),r.length=m:=au
def FI{l:bE}(h:∀r∈l,r.length=m):∀r∈l,r.length=(l.headD []).length:=by cases l<;>grind
def Ll:mL g.x g.y g.pitch (yD b g):=by refine⟨λi j e h=>?_,FI<|WE _ _ _⟩;rw[yD,Lk λi j=>if dY _ b.outline=0 then am else _]at h;grind[yE]
def BY(a:0<g.m):0<f8 g:=by grind[f8]
def yF(h:jz b)(s:0<g.pitch)(k:0<g.m)i j:cellAt (iE b g) i j=if(i<g.cols/\j<g.rows)/\free b g (i,j)=L then Y (g.pt (i,j),g.pt (i,j))else am:=by
 rw[iE,BX bG (BY k) _ _ Ll,vV,yD,Lk λi j=>if dY (g.pt (i,j)) b.outline=0 then am else(g.pt (i,j),g.pt (i,j))];by_cases c:i<g.cols/\j<g.rows
 .rw[aH c];have l:free b g (i,j)=(!decide (dY (g.pt (i,j)) b.outline=0)&&(lm b g).all λo=>gW (g.pt (i,j),g.pt (i,j)) o.pts<|f8 g+o.r):=by
   rw[free,yx h au k]
   delta yw
   have e:cP [g.pt (i,j)]=[g.pt (i,j)]:=by simp[cP,tw,tx]
   rw[e];congr 1
   .simp[jy]
   .rw[fV,dR,dR];have:∀o∈obs b g.kind g.lo g.hi,j7 [g.pt (i,j)] g.r g.m o=gW (g.pt (i,j),g.pt (i,j)) o.pts (f8 g+o.r):=λo a=>by
     delta j7 f8
     have n:g.r+o.r+g.m=((g.r+o.r+g.m:Nat):Int):=ap;have p:g.r+g.m+o.r=((g.r+o.r+g.m:Nat):Int):=ap;rw[n,p,K' _ (t7 h o a) ap]
    exact⟨λz o a=>by exact(this o a).symm▸z o a,λz o a=>(this o a)▸z o a⟩
  rw[l];by_cases d:dY (g.pt (i,j)) b.outline=0
  .rw[aH d,aD<|by simp[d]];rfl
  .rw[aD d,kF d];by_cases f:((lm b g).all λo=>gW (g.pt (i,j),g.pt (i,j)) o.pts<|f8 g+o.r)=L
   .rw[aH ⟨c,f▸U⟩];rw[vg,f];rfl
   .have q:((lm b g).all λo=>gW (g.pt (i,j),g.pt (i,j)) o.pts<|f8 g+o.r)=aA:=by simpa using f
    rw[aD<|λz=>f<|by simpa using z.2];rw[vg,q];rfl
 .rw[aD c,aD<|λz=>c z.1];rfl
def rO(a:jz b)(e:0<g.m)c d:jb b g c d=((!decide (dY (g.pt c) b.outline=0)&&!decide (dY (g.pt d) b.outline=0))&&(lm b g).all λo=>gW (g.pt c,g.pt d) o.pts<|f8 g+o.r):=by
 rw[jb,yx a au e]
 delta yw
 congr 1
 .rw[yu a.out au,yt a.out,yt a.out];simp
 .show(obs b g.kind g.lo g.hi).all _=(obs b g.kind g.lo g.hi).all _;have:∀o∈obs b g.kind g.lo g.hi,j7 _ g.r g.m o=gW (g.pt c,g.pt d) o.pts (f8 g+o.r):=λo f=>by
   delta j7 f8
   have h:g.r+o.r+g.m=((g.r+o.r+g.m:Nat):Int):=ap;have i:g.r+g.m+o.r=((g.r+o.r+g.m:Nat):Int):=ap;rw[h,i,La _ _ (t7 a o f) ap]
  grind
def free_eq(d:jz b)(f:0<g.m)c:free b g c=(!decide (dY (g.pt c) b.outline=0)&&(lm b g).all λo=>gW (g.pt c,g.pt c) o.pts<|f8 g+o.r):=by
 have:=rO d f c c;rw[Bool.and_self]at this;rw[<-this]
 delta free jb
 rw[yx d au f,yx d au f]
 delta yw
 have e:cP [g.pt c]=[g.pt c]:=by simp[cP,tw,tx]
 show(jy (cP [g.pt c]) b.outline&&_)=(jy (cP [g.pt c,g.pt c]) b.outline&&_)
 congr 1
 .rw[yu d.out au,yu d.out au];simp
 .show(obs b g.kind g.lo g.hi).all _=(obs b g.kind g.lo g.hi).all _;rw[fV,dR,dR];have:∀o∈obs b g.kind g.lo g.hi,j7 (cP [g.pt c]) g.r g.m o=j7 (cP [g.pt c,g.pt c]) g.r g.m o:=λo a=>by
   delta j7
   have h:(g.r:Int)+o.r+g.m=((g.r+o.r+g.m:Nat)):=ap;rw[h,e,<-La _ _ (t7 d o a) ap,K' _ (t7 d o a) ap]
  exact⟨λz o a=>by exact(this o a).symm▸z o a,λz o a=>(this o a)▸z o a⟩
def BZ(a:jz b)(e:0<g.m)c d:jb b g d c=jb b g c d:=by
 rw[rO a e,rO a e];have:∀o∈lm b g,gW (g.pt d,g.pt c) o.pts (f8 g+o.r)=gW (g.pt c,g.pt d) o.pts (f8 g+o.r):=λo f=>by
  delta f8
  have h:g.r+g.m+o.r=((g.r+o.r+g.m:Nat):Int):=ap;rw[h,Wc (t7 a o f) ap]
 grind
def B0(a:jz b)(e:0<g.m){c d:cV}(h:jb b g c d=L):free b g c=L:=by rw[rO a e,c6,c6,dR]at h;rw[free_eq a e,c6,dR];refine⟨h.1.1,λo f=>?_⟩;have:=h.2 o f;exact Wb (t7 a o f) ap this
def WF q s:(ej q s).map jQ=s.map jQ:=by
 delta ej
 refine iO λj=>?_;grind
def FJ(c:0<g.pitch)(a:0<g.m):(iE b g).map jQ=.replicate g.rows g.cols:=by
 rw[iE,BX bG (BY a) _ _ Ll,WF]
 delta yD
 refine iO λj=>?_;grind-order
def Lm(l m:O (aR Sd))(i:Nat):(lp l m)[i]?=match l[i]?,m[i]? with
  |some s,Y o=>Y<|pi s o
  |_,_=>am:=by
 unfold lp;rw[cT,List.zip_eq_zipWith,List.getElem?_zipWith];cases l[i]?<;>cases m[i]?<;>rfl
def pj(h:s[j]?=Y row)i:cellAt s i j=(row[i]?).bind id:=by simp_all[cellAt]
def B3(h:s[j]?=am)i:cellAt s i j=am:=by simp_all[cellAt]
def join_none s:pi s am=am:=by cases s<;>rfl
def Ln s:pi am s=am:=U
def WG s i j:cellAt (kL s) i j=pi (cellAt s i j) (cellAt s (i+1) j):=by
 have c:(kL s)[j]?=(s[j]?).map λa=>lp a.dropLast (a.drop 1):=by rw[kL,cT]
 cases h:s[j]? with
 |none=>
  rw[h]at c;rw[B3 h];exact B3 c i
 |some a=>
  rw[h]at c;rw[pj c i,pj h,pj h,Lm,Tx,Tz 1 i];cases q:a[i+1]? with
  |none=>exact(by cases a.dropLast[i]?<;>rfl:_=am).trans (join_none _).symm
  |some o=>
   rw[Ei,Jg<|ag0 (dH.1 q).1];cases a[i]?<;>rfl
def WH s i j:cellAt (kM s) i j=pi (cellAt s i j) (cellAt s i<|j+1):=by
 have d:(kM s)[j]?=((s.dropLast.zip<|s.drop 1)[j]?).map λz=>lp z.1 z.2:=by rw[kM,cT]
 have k:(s.drop 1)[j]?=s[j+1]?:=by rw[Tx,Tz]
 by_cases f:j+1<s.length
 .have l:s.dropLast[j]?=s[j]?:=by
   rw[Ei,Jg aU]
  have h:s[j]?=Y s[j]:=dq aU;have e:(s.dropLast.zip<|s.drop 1)[j]?=Y (s[j],s[j+1]):=xr.mpr bG;rw[e]at d;simp[pj d i,pj h,pj<|dq f,Lm];cases s[j][i]? with
  |none=>try rfl
  |some a=>
   cases s[j+1][i]? with
   |none=>rw[show(none.bind id)=am from U,join_none];|some c=>rfl
 .have e:(s.dropLast.zip<|s.drop 1)[j]?=am:=by
   rw[tG];rw[vd,jR];simp_all
  rw[e]at d;rw[B3 d,B3 (j:=j+1)<|tG bG,join_none]
def FK{s:bE}(h:s.map jQ=.replicate n m):s.length=n/\∀r∈s,r.length=m:=by refine⟨by have:=bJ jQ h;grind,λr a=>?_⟩;grind[nJ]
variable{b:bC}{g:iN}
def WI(c:jz b)(t:0<g.pitch)(a:0<g.m)i j:cellAt (n9 b g) i j=if(i+1<g.cols/\j<g.rows)/\jb b g (i,j) (i+1,j)=L then Y (g.pt (i,j),g.pt (i+1,j))else am:=by
 have v:∀i j,cellAt (kL<|iE b g) i j=if(i+1<g.cols/\j<g.rows)/\free b g (i,j)=L/\free b g (i+1,j)=L then Y (g.pt (i,j),g.pt (i+1,j))else am:=λi j=>by
  rw[WG,yF c t a,yF c t a];by_cases q:(i<g.cols/\j<g.rows)/\free b g (i,j)=L
  .rw[aH q];by_cases l:(i+1<g.cols/\j<g.rows)/\free b g (i+1,j)=L
   .rw[aH l,aH ⟨l.1,q.2,l.2⟩];rfl
   .rw[aD l,aD<|λz=>l ⟨z.1,z.2.2⟩];rfl
  .rw[aD q,Ln,aD<|λz=>q ⟨⟨ap,z.1.2⟩,z.2.1⟩]
 have ok:mL g.x g.y g.pitch (kL<|iE b g):=by
  refine⟨λi j e h=>?_,FI (m:=g.cols-1) λr A=>?_⟩
  .rw[v]at h;split at h
   .obtain rfl:=bL h;rw[yE,yE];simp only;refine⟨by trivial,⟨?_,?_⟩,lJ _,ap⟩
    .rw[Jn,Jo];lia
    .rw[Jn,Jo];lia
   .simp at h
  .obtain⟨C,E,rfl⟩:=eY.mp A;have:=(FK<|FJ (b:=b) t a).2 C E;rw[lp,aI,vd,TN,jR];lia
 delta n9
 rw[BX ap (BY a) _ _ ok,vV,v];by_cases n:i+1<g.cols/\j<g.rows
 .by_cases k:jb b g (i,j) (i+1,j)=L
  .have s:free b g (i+1,j)=L:=B0 c a (d:=(i,j)) (by rwa[BZ c a]);have f:(i+1<g.cols/\j<g.rows)/\free b g (i,j)=L/\free b g (i+1,j)=L:=⟨n,(B0 c a k),s⟩
   have p:(i+1<g.cols/\j<g.rows)/\jb b g (i,j) (i+1,j)=L:=⟨n,k⟩
   rw[aH f,aH p];rw[rO c a,c6]at k;rw[vg,k.2];rfl
  .have p:¬((i+1<g.cols/\j<g.rows)/\jb b g (i,j) (i+1,j)=L):=λz=>k z.2;rw[aD p];by_cases u:free b g (i,j)=L/\free b g (i+1,j)=L
   .have f:(i+1<g.cols/\j<g.rows)/\free b g (i,j)=L/\free b g (i+1,j)=L:=⟨n,u⟩
    rw[aH f];have:((lm b g).all λo=>gW (g.pt (i,j),g.pt (i+1,j)) o.pts<|f8 g+o.r)=aA:=by rw[gj];intro z;apply k;rw[rO c a,z];obtain⟨w,s⟩:=u;rw[free_eq c a,c6]at w s;rw[w.1,s.1];rfl
    rw[vg,this];rfl
   .have f:¬((i+1<g.cols/\j<g.rows)/\free b g (i,j)=L/\free b g (i+1,j)=L):=λz=>u z.2;rw[aD f];rfl
 .have f:¬((i+1<g.cols/\j<g.rows)/\free b g (i,j)=L/\free b g (i+1,j)=L):=λz=>n z.1;have p:¬((i+1<g.cols/\j<g.rows)/\jb b g (i,j) (i+1,j)=L):=λz=>n z.1;rw[aD f,aD p];rfl
def WJ(c:jz b)(t:0<g.pitch)(a:0<g.m)i j:cellAt (n_ b g) i j=if(i<g.cols/\j+1<g.rows)/\jb b g (i,j) (i,j+1)=L then Y (g.pt (i,j),g.pt (i,j+1))else am:=by
 have v:∀i j,cellAt (kM<|iE b g) i j=if(i<g.cols/\j+1<g.rows)/\free b g (i,j)=L/\free b g (i,j+1)=L then Y (g.pt (i,j),g.pt (i,j+1))else am:=λi j=>by
  rw[WH,yF c t a,yF c t a];by_cases f:(i<g.cols/\j<g.rows)/\free b g (i,j)=L
  .rw[aH f];by_cases k:(i<g.cols/\j+1<g.rows)/\free b g (i,j+1)=L
   .rw[aH k,aH ⟨k.1,f.2,k.2⟩];rfl
   .rw[aD k,aD<|λz=>k ⟨z.1,z.2.2⟩];rfl
  .rw[aD f,Ln,aD<|λz=>f ⟨⟨z.1.1,ap⟩,z.2.1⟩]
 have w:=FK<|FJ (b:=b) t a;have ok:mL g.x g.y g.pitch (kM<|iE b g):=by
  refine⟨λi j e h=>?_,FI (m:=g.cols) λr C=>?_⟩
  .rw[v]at h;split at h
   .obtain rfl:=bL h;rw[yE,yE];simp only;refine⟨by trivial,⟨lJ _,ap⟩,?_,?_⟩
    .rw[Jn,Jo];lia
    .rw[Jn,Jo];lia
   .cases h
  .obtain⟨z,E,rfl⟩:=eY.mp C;obtain⟨f,k⟩:=xx E;have G:=w.2 z.1 (by rw[Ei]at f;exact Jp f);have H:=w.2 z.2 (ahf k)
   delta lp
   rw[aI,vd];simp_all
 delta n_
 rw[BX ap (BY a) _ _ ok,vV,v];by_cases p:i<g.cols/\j+1<g.rows
 .by_cases n:jb b g (i,j) (i,j+1)=L
  .have s:free b g (i,j+1)=L:=B0 c a (d:=(i,j)) (by rwa[BZ c a]);have l:(i<g.cols/\j+1<g.rows)/\free b g (i,j)=L/\free b g (i,j+1)=L:=⟨p,B0 c a n,s⟩
   have q:(i<g.cols/\j+1<g.rows)/\jb b g (i,j) (i,j+1)=L:=⟨p,n⟩
   rw[aH l,aH q];rw[rO c a,c6]at n;rw[vg,n.2];rfl
  .have q:¬((i<g.cols/\j+1<g.rows)/\jb b g (i,j) (i,j+1)=L):=λz=>n z.2;rw[aD q];by_cases u:free b g (i,j)=L/\free b g (i,j+1)=L
   .have l:(i<g.cols/\j+1<g.rows)/\free b g (i,j)=L/\free b g (i,j+1)=L:=⟨p,u⟩
    rw[aH l];have:((lm b g).all λo=>gW (g.pt (i,j),g.pt (i,j+1)) o.pts<|f8 g+o.r)=aA:=by rw[gj];intro z;apply n;rw[rO c a,z];obtain⟨A,s⟩:=u;rw[free_eq c a,c6]at A s;rw[A.1,s.1];rfl
    simp only[vg,this];rfl
   .have l:¬((i<g.cols/\j+1<g.rows)/\free b g (i,j)=L/\free b g (i,j+1)=L):=λz=>u z.2;rw[aD l];rfl
 .have l:¬((i<g.cols/\j+1<g.rows)/\free b g (i,j)=L/\free b g (i,j+1)=L):=λz=>p z.1;have q:¬((i<g.cols/\j+1<g.rows)/\jb b g (i,j) (i,j+1)=L):=λz=>p z.1;rw[aD l,aD q];rfl
abbrev oa(s:bE)(i j:Int):Bool:=decide (0<=j/\j<s.length)&&(decide (0<=i/\i<((s.getD j.toNat []).length))&&(cellAt s i.toNat j.toNat).isSome)
def Lp s i j:oa s i j=(decide (0<=i)&&(decide (0<=j)&&(cellAt s i.toNat j.toNat).isSome)):=by
 have k:(cellAt s i.toNat j.toNat).isSome=L->j.toNat<s.length/\i.toNat<(s.getD j.toNat []).length:=λz=>by
  unfold cellAt at z;rw[jt];cases h:s[j.toNat]? with
  |none=>rw[h]at z;cases z
  |some r=>
   rw[h]at z;exact⟨(dH.1 h).1,Nat.lt_of_not_le λw=>bG⟩
 rw[oa,fV];simp only[c6,lH];exact⟨λh=>⟨h.2.1.1,h.1.1,h.2.2⟩,λh=>⟨⟨h.2.1,(ahg h.2.1).1 (k h.2.2).1⟩,⟨h.1,(ahg h.1).1 (k h.2.2).2⟩,h.2.2⟩⟩
abbrev B4(r u:bE)(c:cV):O (Int×Int):=
 (if oa r c.1 c.2=L then[((c.1:Int)+1,(c.2:Int))]else[])++(if oa u c.1 c.2=L then[((c.1:Int),(c.2:Int)+1)]else[])
  ++(if oa r (c.1-1) c.2=L then[((c.1:Int)-1,(c.2:Int))]else[])++(if oa u c.1 (c.2-1)=L then[((c.1:Int),(c.2:Int)-1)]else[])
abbrev ci(c:cV):Int×Int:=(c.1,c.2)
def Lq(a:jz b)(c:0<g.pitch)(d:0<g.m)i j:(cellAt (n9 b g) i j).isSome=(decide (i+1<g.cols/\j<g.rows)&&jb b g (i,j) (i+1,j)):=by
 rw[WI a c d]
 (split<;>simp_all)
def Lr(a:jz b)(c:0<g.pitch)(d:0<g.m)i j:(cellAt (n_ b g) i j).isSome=(decide (i<g.cols/\j+1<g.rows)&&jb b g (i,j) (i,j+1)):=by
 rw[WJ a c d]
 (split<;>simp_all)
def B5 p q c d(h:ci c=d)k(a:k=if p=L then[c]else[])f(e:f c=q):(if(p&&q)=L then[d]else[])=(k.filter f).map ci:=by(split<;>simp_all)
def WK(a:jz b)(h:0<g.pitch)(d:0<g.m)(n:gH g c):B4 (n9 b g) (n_ b g) c=(ll b g c).map ci:=by
 let⟨i,j⟩:=c;let⟨k,l⟩:=n;simp only at k l;simp only[B4,ll,Em,Lp,TB,cN];congr 1
 .congr 1
  .congr 1
   .rw[dm (show(0:Int)<=i by lia),dm (show(0:Int)<=j by lia),Lq a h d,mC,mC];exact B5 _ _ (i+1,j) _ (by simp[ci]) _ (by simp[l]) _ U
   .rw[dm (show(0:Int)<=i by lia),dm (show(0:Int)<=j by lia),rh,rh,Lr a h d,mC,mC];exact B5 _ _ (i,j+1) _ (by simp[ci]) _ (by simp only[k,true_and,lH]) _ U
  .by_cases f:0<i
   .rw[dm (show(0:Int)<=i-1 by lia),dm (show(0:Int)<=j by lia),rh,show((i:Int)-1).toNat=i-1 by lia,Lq a h d,mC,mC];have e:i-1+1=i:=ap;rw[e];exact B5 _ _ (i-1,j) _ (by simp[ci];lia) _ (by simp[k,l,f]) _<|BZ a d (i-1,j) (i,j)
   .rw[aD f,kF<|show¬(0:Int)<=i-1 by lia];rfl
 .by_cases f:0<j
  .rw[dm (show(0:Int)<=i by lia),dm (show(0:Int)<=j-1 by lia),rh,show((j:Int)-1).toNat=j-1 by lia,Lr a h d,mC,mC];have e:j-1+1=j:=ap;rw[e];exact B5 _ _ (i,j-1) _ (by simp[ci];lia) _ (by simp[k,l,f]) _<|BZ a d (i,j-1) (i,j)
  .rw[aD f,kF<|show¬(0:Int)<=j-1 by lia];rfl
end _h
namespace _a
open PySem PySem.Spec PyProof.Rows
@[reducible]def Key:=Sum Int aq
abbrev vW:Key->aB->Bool
 |.inl k,v=>oU k v
 |.inr x,v=>ahh x v
abbrev WL(w:bN):Key->Int
 |.inl k=>Et k
 |.inr x=>hashStr w x
def qm:∀{k:Key}{v:aB},vW k v=L->(∃i t,k=.inl i/\v=.int i t)\/(∃x t,k=.inr x/\v=.str x t)
 |.inl i,v,h=>
  let _:=Value.isInt_shape h
  .inl bG
 |.inr x,v,h=>
  let _:=Value.isStrOf_shape h
  .inr bG
def WM i t:vW (.inl i) (.int i t)=L:=by simp[vW,oU]
def WN x t:vW (.inr x) (.str x t)=L:=by simp[vW,ahh]
def WO a b:decide ((.inl a:Key)=.inl b)=(a==b):=ap
def WP a b:decide ((.inr a:Key)=.inr b)=decide (a=b):=au
def WQ a b:decide ((.inl a:Key)=.inr b)=aA:=U
def WR a b:decide ((.inr a:Key)=.inl b)=aA:=U
abbrev lT(prog:bO)(w:bN):PySem.KeyKind prog w Key where
 is:=vW
 hash:=WL w
 inj:=λv a b g f=>by
  rcases qm g with⟨i,t,rfl,rfl⟩|⟨x,t,rfl,rfl⟩
  .rcases qm f with⟨j,u,rfl,e⟩|⟨y,u,rfl,e⟩
   .injection e with c _;rw[c]
   .exact nomatch e
  .rcases qm f with⟨j,u,rfl,e⟩|⟨y,u,rfl,e⟩
   .exact nomatch e
   .injection e with c _;rw[c]
 byValue:=λk v h=>by rcases qm h with⟨i,t,rfl,rfl⟩|⟨x,t,rfl,rfl⟩<;>rfl
 pyHash:=λd h=>by
  rcases qm d with⟨i,t,rfl,rfl⟩|⟨x,t,rfl,rfl⟩
  .exact wpAny_pyHash_int h
  .exact wpAny_pyHash_str h
 eqBool:=λl d h=>by
  rcases qm l with⟨i,t,rfl,rfl⟩|⟨x,t,rfl,rfl⟩
  .rcases qm d with⟨j,u,rfl,rfl⟩|⟨y,u,rfl,rfl⟩
   .rw[WO]at h;exact wpAny_eqBool_int h
   .rw[WQ]at h;exact ahi i t y u _ _ _ _ h
  .rcases qm d with⟨j,u,rfl,rfl⟩|⟨y,u,rfl,rfl⟩
   .rw[WR]at h;exact ahj x t j u _ _ _ _ h
   .rw[WP]at h;exact wpAny_eqBool_str h
 «strs»:=λk x t v h=>by
  rcases qm h with⟨i,u,rfl,e⟩|⟨y,u,rfl,e⟩
  .exact nomatch e
  .injection e with c _
   subst c;cases v<;>rfl
def WS prog w i t:(lT prog w).is (.inl i) (.int i t)=L:=WM i t
def WT prog w x t:(lT prog w).is (.inr x) (.str x t)=L:=WN x t
inductive V where
 |bH|bl(b:Bool)|int(i:Int)|str(x:aq)|j8(b:Array UInt8)|B6(b:UInt64)|ref(a:az)|ty(n:String)
 deriving DecidableEq
abbrev RelV:V->aB->Prop
 |.bH,u=>u=Jq
 |.bl b,u=>u=Eu b
 |.int i,u=>∃t,u=Value.int i t
 |.str x,u=>∃t,u=Value.str x t
 |.j8 b,u=>∃t,u=Value.bytes b t
 |.B6 b,u=>∃t,u=Value.float b t
 |.ref a,u=>u=Jr a
 |.ty n,u=>u=pZ n
@[reducible]def Vals:O V->O aB->Prop:=Paired RelV
def Vals.length(r:Vals xs us):xs.length=us.length:=Js r
def Vals.get:∀{C:O V}{us:O aB}{i:Nat}{x:V},Vals C us->C[i]?=x->∃u,us[i]?=Y u/\RelV x u
 |_,_,_,_,.nil,e=>by simp_all
 |_,_,0,_,.cons r _,e=>by grind
 |_,_,i+1,x,.cons _ t,e=>
  aL (Vals.get (i:=i) t ‹_›) λu h1 I=>
  ⟨u,bG,I⟩
def Vals.set(r:RelV x u):∀{C:O V}{us:O aB}i,Vals C us->Vals (C.set i x) (us.set i u)
 |_,_,_,.nil=>.nil
 |_,_,0,.cons _ t=>.cons r t
 |_,_,i+1,.cons q t=>.cons q<|Vals.set r i t
def Vals.append:∀{C ys:O V}{us ws:O aB},Vals C us->Vals ys ws->Vals (C++ys) (us++ws):=by
 intro akF akG akH akI I s
 induction I generalizing s with
 |nil=>exact s
 |cons r t ih=>exact .cons r<|ih s
def Vals.take:∀{C:O V}{us:O aB}n,Vals C us->Vals (C.take n) (us.take n)
 |_,_,0,_=>.nil
 |_,_,_+1,.nil=>.nil
 |_,_,n+1,.cons r t=>.cons r<|Vals.take n t
def Vals.drop:∀{C:O V}{us:O aB}n,Vals C us->Vals (C.drop n) (us.drop n)
 |_,_,0,r=>r
 |_,_,_+1,.nil=>.nil
 |_,_,n+1,.cons _ t=>Vals.drop n t
abbrev mM:aR V->aR aB->Prop
 |some v,Y u=>RelV v u
 |none,am=>True
 |_,_=>False
abbrev KV{a:Type}:O (a×V)->O (a×aB)->Prop:=Paired λ(p:a×V)(q:a×aB)=>p.1=q.1/\RelV p.2 q.2
abbrev kV:Key->V
 |.inl i=>.int i
 |.inr x=>.str x
inductive HO where
 |lst(a:List V)
 |tup(a:List V)
 |dK(kvs:List (Key×V))|dT(kvs:List (List Key×V))
 |set(S:Int->Bool)(n:Nat)
 |ins(C c:az)(b:List (aq×V))
 |own(x:az)
 |xd(b:List (aq×V))
 |met(f x:az)
 |FL(lo hi:Int)
 |iF(o:b9)(u:HO)
 |t_(ps:Array aB)
 |ext(d:bf->Prop)
@[reducible]def Hp:=az->aR HO
abbrev upd(H:Hp)(a:az)(o:HO):Hp:=λb=>if b=a then Y o else H b
def bQ:upd H a o a=o:=by simp[upd]
def aQ(h:b≠a):upd H a o b=H b:=by grind[upd]
def Ls{H:Hp}(h:H a=Y o)(h':H b=Y u)(d:o≠u):a≠b:=ap
def f9{H:Hp}(h:H a=Y o)(h':H b=am):a≠b:=ap
section
variable(P:bO)(w:bN)
abbrev f_(H:Hp)(h:bf)(a:az):HO->Prop
 |.lst b=>b.length<=bK/\∃(its:O aB)(n:Nat),Vals b its/\h.get? a=Y {cls:=.type "list",data:=.seq its.toArray n}
 |.tup b=>b.length<=bK/\∃its:O aB,Vals b its/\Ew h a its.toArray
 |.dK kvs=>kvs.length<=bK/\(a==lK)=aA/\∃vs,KV kvs vs/\h.DictOf (lT P w) a vs
 |.dT kvs=>kvs.length<=bK/\(a==lK)=aA/\∃b:O (O Key×az×aB),
   Paired (λ(p:O Key×V)(q:O Key×az×aB)=>p.1=q.1/\H q.2.1=Y (.tup<|p.1.map kV)/\RelV p.2 q.2.2) kvs b/\
   ∃o es i,h.get? a=Y o/\o.ExactDict/\o.data=.dict es i/\es.toList=b.map (entryOfKey<|Ex<|lT P w)/\(b.map (·.1)).Nodup
 |.set S n=>h.SetOf (rj P w) a S n
 |.ins C dx fs=>H dx=Y (.own a)/\fs.length<=1000/\dx≠a/\h.get? a=Y (AD C dx)/\
   ∃c,h.Ns1 dx c/\(∀f,mM (fs.lookup f)<|c f)/\TQ c (fs.map (·.1))
 |.own _=>∃o,h.get? a=Y o
 |.xd fs=>∃c,h.Ns1 a c/\∀f,mM (fs.lookup f)<|c f
 |.FL lo hi=>∃t u v,h.get? a=Y {cls:=.type "range",data:=.fields #[.int lo t,.int hi u,.int 1 v]}
 |.iF o u=>h.get? a=Y o/\f_ H h a u
 |.t_ ps=>h.get? a=Y {cls:=.none,data:=.fields ps}
 |.met f x=>h.get? a=Y (PySem.W.methodObj (.ref f)<|.ref x)
 |.ext d=>d h/\(∃o,h.get? a=Y o)/\∀e g:bf,d e->(∀o,e.get? a=Y o->g.get? a=Y o)->d g
abbrev dZ(H:Hp)(h:bf):Prop:=∀a o,H a=Y o->f_ P w H h a o
end
section
variable{P:bO}{w:bN}{H H':Hp}{h h':bf}{a:az}{o:HO}
def f_.lt(x:f_ P w H h a o):a<h.objs.size:=by
 cases o with
 |lst xs=>obtain⟨_,_,_,_,e⟩:=x;exact cA e
 |tup xs=>obtain⟨_,_,_,p⟩:=x;exact p.lt
 |dK akF=>obtain⟨_,_,_,_,o,_,_,e,_⟩:=x;exact cA e
 |dT akF=>refine eR x λ_ _ I=>?_;refine aL I λ_ _ I=>?_;refine nV I λo _ _ e _=>?_;exact cA e
 |set S n=>refine Kl x λo _ _ _ e _=>?_;exact cA e
 |ins C dx fs=>refine vD x λ_ _ _ e _=>?_;exact cA e
 |own y=>obtain⟨_,e⟩:=x;exact cA e
 |xd fs=>obtain⟨_,⟨_,_,_,e,_⟩,_⟩:=x;exact cA e
 |FL lo hi=>refine Kk x λ_ _ _ e=>?_;exact cA e
 |iF ob u=>obtain⟨e,_⟩:=x;exact cA e
 |t_ ps=>exact cA<|x
 |met f y=>exact cA<|x
 |ext φ=>obtain⟨_,⟨_,e⟩,_⟩:=x;exact cA e
def Paired.Lu:∀{C:O α}{I:O β},Paired F C I->(∀a b,F a b->G a b)->Paired G C I:=by
 intro akF akG x_ f
 induction x_ generalizing f with
 |nil=>exact .nil
 |cons r t ih=>exact .cons (f _ _ r)<|ih f
def f_.pk(x:f_ P w H h a o)(k:∀b u,(b=a\/H b=Y (.own a))->h.get? b=Y u->h'.get? b=Y u)
  (ho:∀b,H b=Y (.own a)->H' b=Y (.own a))(ht:∀b xs,H b=Y (.tup xs)->H' b=Y (.tup xs)):f_ P w H' h' a o:=by
 induction o with
 |lst xs=>obtain⟨z,akF,n,r,e⟩:=x;exact⟨z,akF,n,r,k _ _ (.inl U) e⟩
 |tup xs=>obtain⟨z,akF,r,I,e,c⟩:=x;exact⟨z,akF,r,I,k _ _ (.inl U) e,c⟩
 |dK akG=>obtain⟨z,y,vs,r,I,es,ep,e,c⟩:=x;exact⟨z,y,vs,r,I,es,ep,k _ _ (.inl U) e,c⟩
 |dT akG=>
  refine eR x λz y z_=>?_;refine aL z_ λxs r z_=>?_;refine nV z_ λI es ep e c=>?_;exact⟨z,y,xs,Paired.Lu r λp q z=>⟨z.1,ht _ _ z.2.1,z.2.2⟩,I,es,ep,k _ _ (.inl U) e,c⟩
 |set S n=>refine Kl x λI es ep t e c=>?_;exact Vl I es ep t (k _ _ (.inl U) e) c
 |ins C dx fs=>
  obtain⟨d,z,ne,e,mA,⟨od,es,ep,e2,c⟩,r⟩:=x;exact⟨ho _ d,z,ne,k _ _ (.inl U) e,mA,⟨od,es,ep,k _ _ (.inr d) e2,c⟩,r⟩
 |own y=>obtain⟨I,e⟩:=x;exact⟨I,k _ _ (.inl U) e⟩
 |xd fs=>obtain⟨mA,⟨od,es,ep,e,c⟩,r⟩:=x;exact aY mA ⟨od,es,ep,k _ _ (.inl U) e,c⟩ r
 |FL lo hi=>refine Kk x λt u v e=>?_;exact Vi t u v<|k _ _ (.inl U) e
 |iF I u ih=>obtain⟨e,q⟩:=x;exact⟨k _ _ (.inl U) e,ih q⟩
 |t_ ps=>
  have e:=x;exact k a _ (.inl U) e
 |met f y=>
  have e:=x;exact k a _ (.inl U) e
 |ext φ=>obtain⟨p,⟨o,e⟩,st⟩:=x;exact⟨st _ _ p λo=>k _ _<|.inl U,⟨o,k _ _ (.inl U) e⟩,st⟩
def dZ.lt(x:dZ P w H h)(e:H a=o):a<h.objs.size:=(x a o e).lt
def dZ.fresh(x:dZ P w H h)(e:h.objs.size<=a):H a=am:=by
 cases q:H a with
 |none=>rfl
 |some u=>exact absurd (gQ (x.lt q) e)<|kX _
def dZ.kept(x:dZ P w H h)(k:∀b u,h.get? b=Y u->h'.get? b=u):dZ P w H h':=λa o e=>
 (x a o e).pk bh au λ_ _ q=>q
def dZ.laid(x:dZ P w H h)(k:∀b u,h.get? b=Y u->h'.get? b=u)(I:h.objs.size<=a)(akF:f_ P w (upd H a o) h' a o):dZ P w (upd H a o) h':=λb u e=>by
 have C:=x.fresh I;by_cases hb:b=a
 .grind[bQ]
 .rw[aQ hb]at e;exact(x b u e).pk bh (λc q=>(aQ<|f9 q C)▸q) λc xs q=>(aQ<|f9 q C)▸q
end
abbrev Rd(H:Hp)(a:az)(u:HO):Prop:=H a=Y u\/∃o,H a=Y (.iF o u)
def Rd.ok(r:Rd H a u)(x:dZ P w H h):f_ P w H h a u:=by
 obtain r|⟨o,r⟩:=r
 .exact x a u r
 .obtain⟨_,q⟩:=x a _ r;omega
abbrev yG:aR HO->Prop
 |some (.lst _)=>True
 |some (.dK _)=>True
 |some (.dT _)=>True
 |some (.set _ _)=>True
 |some (.ins _ _ _)=>True
 |some (.ext _)=>True
 |_=>False
section
variable{P:bO}{w:bN}{H:Hp}{h h':bf}{x e:az}{o':HO}
def dZ.write(ok:dZ P w H h)(mu:yG (H x))(he:e=x\/H e=Y (.own x))(k:∀b u,b≠e->h.get? b=Y u->h'.get? b=Y u)(akH:∃u,h'.get? e=Y u)
  (akI:f_ P w (upd H x o') h' x o'):dZ P w (upd H x o') h':=λb u q=>by
 have akG:∀c y,H c=Y (.own y)->c≠x:=λc y r z=>by subst z;rwa[r]at mu
 have akJ:∀c C,H c=Y (.tup C)->c≠x:=λc C r z=>by subst z;rwa[r]at mu
 by_cases I:b=x
 .subst I;rw[bQ]at q;obtain rfl:=bL q;exact akI
 .rw[aQ I]at q;by_cases akF:b=e
  .have q':H b=Y (.own x):=by
    obtain z|z:=he
    .exact absurd (akF.trans z) I
    .exact akF▸z
   rw[q]at q';obtain rfl:=bL q';let⟨v,hv⟩:=akH;exact⟨v,akF▸hv⟩
  .refine(ok b u q).pk (λc v hc=>k c v ?_) (λc r=>(aQ<|akG c b r)▸r) λc C r=>(aQ<|akJ c C r)▸r;obtain rfl|hc:=hc
   .exact akF
   .rintro rfl;obtain z|z:=he
    .exact akG c b hc z
    .rw[hc]at z;cases z;exact I U
end
structure Un(d a:List az)(H c:Hp)(h h':bf):Prop where
 keep:∀b o,h.get? b=Y o->H b=am->b∉d->b∉a->h'.get? b=Y o
 slot:∀b o,h.get? b=Y o->H b=am->b∈d->b∉a->∃f,h'.get? b=Y {o with slots:=f}
 free:∀b o,h.get? b=Y o->H b=am->b∉a->c b=am
 there:∀b o,h.get? b=Y o->b∉a->∃g,h'.get? b=Y g
 ua:∀b e,H b=Y (.tup e)->c b=Y (.tup e)
 rP:∀b o u,H b=Y (.iF o u)->c b=Y (.iF o u)
 ub:∀b ps,H b=Y (.t_ ps)->∃i,c b=Y (.t_<|ps++i)
section
variable{fs WU ex ex':O az}{H H1 H2:Hp}{h h1 h2 h':bf}{a x e:az}{o:HO}
def Un.any(u:Un fs ex H H1 h h1)(q:h.get? b=Y C)(n:H b=am)(I:b∉ex):∃sl,h1.get? b=Y {C with slots:=sl}:=by
 by_cases hb:b∈fs
 .exact u.slot b C q n hb I
 .exact⟨C.slots,u.keep b C q n hb I⟩
def Un.kept(k:∀b u,h.get? b=Y u->h'.get? b=u):Un fs ex H H h h':=
 ⟨λb C q _ _ _=>k b C q,λb C q _ _ _=>⟨C.slots,k b C q⟩,λ_ _ _ n _=>n,λb C q _=>bh,λ_ _ q=>q,λ_ _ _ q=>q,λ_ I q=>bG⟩
def Un.refl:Un fs ex H H h h:=by simp[Un.kept]
def Un.laid(k:∀b u,h.get? b=Y u->h'.get? b=u)(I:h.objs.size<=a)(C:H a=am):Un fs ex H (upd H a o) h h' where
 keep:=λb u q _ _ _=>k b u q
 slot:=λb u q _ _ _=>⟨u.slots,k b u q⟩
 free:=λb u q n _=>(aQ<|fO<|gQ (cA q) I)▸n
 there:=λb u q _=>bh
 ua:=λb xs q=>(aQ<|f9 q C)▸q
 rP:=λb u xs q=>(aQ<|f9 q C)▸q
 ub:=λb ps q=>⟨#[],by rw[aQ<|f9 q C,q];rfl⟩
def Un.write(mu:yG (H x))(he:e=x\/H e=Y (.own x))(k:∀b u,b≠e->h.get? b=Y u->h'.get? b=u)(akF:∃u,h'.get? e=Y u):Un fs ex H (upd H x o) h h':=by
 have hx:∀b,H b=am->b≠x:=λb n z=>by subst z;rwa[n]at mu
 have I:∀b,H b=am->b≠e:=λb n z=>by
  lia
 have C:∀b u,H b=u->¬yG u->b≠x:=λb u q nm z=>ap;refine⟨λb u q n _ _=>k b u (I b n) q,λb u q n _ _=>⟨u.slots,k b u (I b n) q⟩,λb u q n _=>(aQ<|hx b n)▸n,λb u q _=>?_,
  λb xs q=>(aQ<|C b _ q λz=>z)▸q,λb u xs q=>(aQ<|C b _ q λz=>z)▸q,λb ps q=>⟨#[],by rw[aQ<|C b _ q λz=>z,q];rfl⟩⟩
 grind
end
abbrev Lv(h:bf)(H:Hp):O az:=(c8 h.objs.size).filter λa=>(H a).isSome
abbrev qo(h:bf)(H:Hp):bf:=ahk h<|Lv h H
def WV h H:(qo h H).objs.size=h.objs.size:=ahl _ _
def WW(e:h.get? b=Y o)(n:H b=am):(qo h H).get? b=Y o:=
 ahm _ e λa=>by have q:=(q_.mp a).2;grind
def WX(e:(qo h H).get? b=Y o):h.get? b=o/\H b=am:=by have a:=ahn _ e;refine⟨a,?_⟩;cases q:H b<;>simp_all[Lv,cA,qo,aho]
structure Mod(K:aJ)(c:aq->Option aB)(a:bf):Prop where
 pp:K.In a
 glob:a.Ns eZ c
 blt:∃b,a.Ns Jt b/\∀x:aq,x≠"__name__"->b x=rm x
 nolimit:a.NoLimit
structure Cx where
 prog:bO
 w:bN
 K:aJ
 mg:aq->Option aB
 base:bf
 A:eJ
 N:List aq
 hU:bp
 vX:Hp
 env:gC
 outer:List gC
 stack:List gC
 ex:List az
 fn:aq->Bool
 calm:Bool
 pn:List (az×b9)
 xe:aB->bp->Prop
abbrev iU(l:O gC):O az:=l.filterMap (·.frame)
@[reducible]def Cx.fs(X:Cx):O az:=iU X.outer
abbrev rQ(a:dJ)(x:aq):Prop:=a.names.lookup x=Y .local\/a.names.lookup x=Y .cell\/a.names.lookup x=Y .free
abbrev Loc(a:dJ)(x:aq):Prop:=a.names.lookup x=Y .local\/a.names.lookup x=Y .cell
abbrev Look(a:gC)(h:bf)(m:aq->aR aB)(x:aq)(u:aB):Prop:=
 (a.kindOf x=Y .local/\m x=Y u)\/((a.kindOf x=Y .cell\/a.kindOf x=Y .free)/\∃c,a.cells.lookup x=Y c/\h.IsCell c (Y u))
structure Cx.Ok(X:Cx):Prop where
 mod:Mod X.K X.mg X.base
 kind:X.env.scope.kind=.function
 glob:X.env.globals=eZ
 blt:X.env.builtins=Jt
 above:X.hU⁻¹<=X.env.locals
 inj:∀x y c,X.env.cells.lookup x=Y c->X.env.cells.lookup y=Y c->x=y
 has:∀x,(X.env.kindOf x=Y .cell\/X.env.kindOf x=Y .free)->∃c,X.env.cells.lookup x=Y c
 vY:∀x c,X.fn x=L->X.env.cells.lookup x=Y c->X.hU⁻¹<=c
 hd:X.calm=L->X.A.handled=am
 frames:X.A.frames=Y X.stack
 gK:X.stack=X.outer\/(X.stack=X.env::X.outer/\X.env.frame=Y X.env.locals)
 B7:∀b∈X.ex,b≠X.env.locals/\∀x c,X.env.cells.lookup x=Y c->c≠b
 bs:∀b o,X.base.get? b=Y o->X.hU.heap.get? b=Y o/\X.vX b=am
 oe:X.base.objs.size<=X.hU⁻¹
 yH:∀b o,X.base.get? b=Y o->b∉X.ex
 yI:∀b∈X.ex,b∉X.fs
 j9:X.hU.heap.FunFrames X.base X.outer
 qp:∀b∈X.fs,X.vX b=am
structure Inv(X:Cx)(a:List (az×b9))(σ:List (Option V))(H:Hp)(s:bp):Prop where
 ok:X.Ok
 os:s.os=X.hU.os
 bare:xz s.gens
 base:Un X.fs X.ex X.vX H X.hU.heap s.heap
 loc:∃m,s.heap.Ns X.env.locals m/\∀(i:Nat)(x:aq)(v:V),X.N[i]?=Y x->σ[i]?=Y (Y v)->rQ X.env.scope x->∃u,RelV v u/\Look X.env s.heap m x u
 cell:∀x c,X.env.cells.lookup x=Y c->∃v,s.heap.IsCell c v
 free:H X.env.locals=am
 mN:∀x c,X.env.cells.lookup x=Y c->H c=am
 pin:∀p∈X.pn++a,s.heap.get? p.1=Y p.2/\H p.1=am/\p.1≠X.env.locals/\p.1∉X.fs/\∀v,p.2.data≠.cell v
 bS:dZ X.prog X.w H s.heap
 len:σ.length=X.N.length
section
variable{X:Cx}{aF:O (az×b9)}{σ:O (aR V)}{H H':Hp}{s:bp}{h':bf}
def Cx.Ok.WY(ok:X.Ok)(e:X.base.get? b=Y o):b∉X.fs:=λC=>by
 have:=(ok.j9.mem C).1
 lia
def Inv.bs(I:Inv X aF σ H s):∀b o,X.base.get? b=Y o->s.heap.get? b=o/\H b=am:=λb o e=>
 ⟨I.base.keep b o (I.ok.bs b o e).1 (I.ok.bs b o e).2 (I.ok.WY e)<|I.ok.yH b o e,I.base.free b o (I.ok.bs b o e).1 (I.ok.bs b o e).2<|I.ok.yH b o e⟩
def Inv.bk(I:Inv X aF σ H s):∀b o,X.base.get? b=Y o->s.heap.get? b=o:=λb o e=>(I.bs b o e).1
def Inv.mod(I:Inv X aF σ H s):Mod X.K X.mg X.base:=I.ok.mod
def Inv.hW(I:Inv X aF σ H s):X.K.In s.heap:=I.ok.mod.pp.keeps I.bk
def Inv.lt(I:Inv X aF σ H s):X.env.locals<s⁻¹:=aL I.loc λ_ C _=>C.lt
def Inv.sz(I:Inv X aF σ H s):X.hU⁻¹<=s⁻¹:=cS I.ok.above<|AE I.lt
def Inv.WZ(I:Inv X aF σ H s){a:az}(h:s⁻¹<=a):a∉X.fs:=λC=>
 let⟨_,o,ho,_⟩:=I.ok.j9.mem C
 absurd (gQ (cA ho)<|cS I.sz h) (kX _)
def Inv.B8(I:Inv X aF σ H s):∀x c,X.env.cells.lookup x=Y c->c≠X.env.locals:=λx c e z=>by
 refine fF (I.cell x c e) λv o C hd=>?_;obtain⟨m,⟨o',es,ep,akF,akG,_⟩,_⟩:=I.loc
 lia
def Inv.j9(I:Inv X aF σ H s):s.heap.FunFrames X.base X.outer:=by
 have all:∀l,(∀b∈iU l,b∈X.fs)->X.hU.heap.FunFrames X.base l->s.heap.FunFrames X.base l:=by
  intro l
  induction l with
  |nil=>intro _ _;trivial
  |cons env r ih=>
   rintro hs ⟨hk,⟨akF,o,hf,hn,ho,hd⟩,hr⟩;have C:=hs akF (by rw[iU,TR,hf];simp);let _:=I.base.slot akF o ho (I.ok.qp akF C) C λz=>I.ok.yI akF z C;exact⟨hk,bh,ih (λb hb=>hs b<|by rw[iU,TR,hf];exact ja _ hb) hr⟩
 exact all X.outer au I.ok.j9
def Inv.stack(I:Inv X aF σ H s):s.heap.FunFrames X.base X.stack:=by
 obtain e|⟨e,C⟩:=I.ok.gK
 .exact e▸I.j9
 .rw[e];let⟨m,hn,_⟩:=I.loc;exact .cons (by rw[I.ok.kind];simp) C hn (Heap.get?_none_of_le<|cS I.ok.oe I.ok.above) I.j9
def Inv.yJ(I:Inv X aF σ H s):∀b∈iU X.stack,b∈X.env.locals::X.fs:=λb C=>by
 obtain e|⟨e,hf⟩:=I.ok.gK
 .grind
 .rwa[e,iU,TR,hf]at C
def Inv.B9(I:Inv X aF σ H s):∀b∈iU X.stack,H b=am:=λb C=>by
 obtain e|C:=cU.mp<|I.yJ b C
 .exact e▸I.free
 .obtain⟨_,o,ho,_⟩:=I.ok.j9.mem C;exact I.base.free b o ho (I.ok.qp b C) λz=>I.ok.yI b z C
def Inv.step{d':Drawn}{ch:O az}(I:Inv X aF σ H s)
  (akF:∀b∈ch,(b∈X.ex\/X.hU⁻¹<=b)/\b≠X.env.locals/\(∀x c,X.env.cells.lookup x=Y c->c≠b)/\∀p∈X.pn++aF,p.1≠b)
  (keep:∀b o,b≠X.env.locals->b∉X.fs->b∉ch->s.heap.get? b=Y o->H b=am->h'.get? b=Y o)
  (slot:∀b o,b≠X.env.locals->b∈X.fs->b∉ch->s.heap.get? b=Y o->H b=am->∃sl,h'.get? b=Y {o with slots:=sl})(free:∀b o,b∉ch->s.heap.get? b=Y o->H b=am->H' b=am)
  (akK:∀b o,b∉ch->s.heap.get? b=Y o->∃o',h'.get? b=Y o')
  (akL:∀b xs,H b=Y (.tup xs)->H' b=Y (.tup xs))(akM:∀b o u,H b=Y (.iF o u)->H' b=Y (.iF o u))(akN:∀b ps,H b=Y (.t_ ps)->∃akO,H' b=Y (.t_<|ps++akO))
  (ns:∀m,s.heap.Ns X.env.locals m->h'.Ns X.env.locals m)(akP:dZ X.prog X.w H' h')(hg:xz g'):
  Inv X aF σ H' {s with heap:=h',gens:=g',drawn:=d',toks:=t'}:=by
 have akI:∀b o,X.hU.heap.get? b=Y o->b≠X.env.locals:=λb o e=>fO<|gQ (cA e) I.ok.above;have akH:∀b o,X.hU.heap.get? b=Y o->b∉X.ex->b∉ch:=λb o e C hb=>by
  obtain z|z:=(akF b hb).1
  .exact C z
  .exact absurd (gQ (cA e) z)<|kX _
 have akJ:∀x c,X.env.cells.lookup x=Y c->∀v,s.heap.IsCell c v->h'.IsCell c v:=λx c e v z_=>aL z_ λo ho hd=>by
  have akG:=λz=>(akF c z).2.2.1 x c e U;by_cases hc:c∈X.fs
  .let⟨sl,q⟩:=slot c o (I.B8 x c e) hc akG ho<|I.mN x c e;exact aY _ q hd
  .exact aY o (keep c o (I.B8 x c e) hc akG ho<|I.mN x c e) hd
 refine⟨I.ok,I.os,hg,⟨λb o e n hb C=>?_,λb o e n hb C=>?_,λb o e n C=>?_,λb o e C=>?_,λb xs e=>akL b xs<|I.base.ua b xs e,λb o xs e=>akM b o xs<|I.base.rP b o xs e,λb ps e=>?_⟩,?_,λx c e=>?_,?_,λx c e=>?_,λp hp=>?_,akP,I.len⟩
 .exact keep b o (akI b o e) hb (akH b o e C) (I.base.keep b o e n hb C)<|I.base.free b o e n C
 .let⟨sl,e1⟩:=I.base.slot b o e n hb C;obtain⟨akQ,e2⟩:=slot b _ (akI b o e) hb (akH b o e C) e1<|I.base.free b o e n C;exact⟨akQ,e2⟩
 .let⟨o',e1⟩:=I.base.there b o e C;exact free b o' (akH b o e C) e1<|I.base.free b o e n C
 .let⟨o',e1⟩:=I.base.there b o e C;exact akK b o' (akH b o e C) e1
 .let⟨m1,e1⟩:=I.base.ub b ps e;obtain⟨m2,e2⟩:=akN b _ e1;exact⟨m1++m2,by rw[e2,Array.append_assoc]⟩
 .let⟨m,hn,hl⟩:=I.loc;refine aY m (ns m hn)<|λi x v e1 e2 e3=>?_;let⟨u,r,l⟩:=hl i x v e1 e2 e3;refine aY u r ?_;obtain l|⟨k,c,e,z⟩:=l
  .exact .inl l
  .exact .inr ⟨k,c,e,akJ x c e _ z⟩
 .let⟨v,z⟩:=I.cell x c e;exact⟨v,akJ x c e v z⟩
 .obtain⟨m,⟨o,_,_,ho,_⟩,_⟩:=I.loc;exact free _ o (λz=>(akF _ z).2.1 U) ho I.free
 .let⟨v,o,ho,hd⟩:=I.cell x c e;exact free c o (λz=>(akF c z).2.2.1 x c e U) ho<|I.mN x c e
 .refine vD (I.pin p hp) λe n ne nf d=>?_;have akG:=λz=>(akF p.1 z).2.2.2 p hp U;exact⟨keep p.1 p.2 ne nf akG e n,free p.1 p.2 akG e n,ne,nf,d⟩
def Inv.un(I:Inv X aF σ H s)(u:Un X.fs [] H H' s.heap h')(akG:dZ X.prog X.w H' h'):Inv X aF σ H' {s with heap:=h',toks:=t'}:=
 let⟨m,⟨o,es,ep,ho,r⟩,_⟩:=id I.loc
 mH (u.any ho I.free au) λsl hL=>
 I.step (ch:=[]) bh (λb o _ C _ e n=>u.keep b o e n C ‹_›) (λb o _ C _ e n=>u.slot b o e n C ‹_›) (λb o _ e n=>u.free b o e n ‹_›) (λb o _ e=>u.there b o e ‹_›) u.ua u.rP u.ub (λm' z_=>nV z_ λo' akH akI akF r'=>by rw[ho]at akF;obtain rfl:=bL akF;exact yj _ akH akI hL r') akG I.bare
def Inv.call(I:Inv X aF σ H s)(u:Un (iU X.stack) ch H H' s.heap h')(akH:dZ X.prog X.w H' h')(hg:xz g')
  (akF:∀b∈ch,(b∈X.ex\/X.hU⁻¹<=b)/\b≠X.env.locals/\(∀x c,X.env.cells.lookup x=Y c->c≠b)/\∀p∈X.pn++aF,p.1≠b):
  Inv X aF σ H' {s with heap:=h',gens:=g',drawn:=d',toks:=t'}:=
 let⟨m,⟨o,es,ep,ho,r⟩,_⟩:=id I.loc
 mH (u.any ho I.free λz=>(akF _ z).2.1 U) λsl hL=>
 I.step akF (λb o hL hb C e n=>u.keep b o e n (λz=>(cU.mp<|I.yJ b z).elim hL hb) C) (λb o _ _ C e n=>u.any e n C) (λb o C e n=>u.free b o e n C) (λb o C e=>u.there b o e C) u.ua u.rP u.ub (λm' z_=>nV z_ λo' akI akJ akG r'=>by rw[ho]at akG;obtain rfl:=bL akG;exact yj _ akI akJ hL r') akH hg
def Inv.turned{t':Nat}{C:az}(I:Inv X aF σ H s)(k:∀b o,b≠C->s.heap.get? b=Y o->h'.get? b=Y o)(hn:H C=am)(hL:C≠X.env.locals)
  (h1:C∈X.ex\/X.hU⁻¹<=C)(h2:∀x c,X.env.cells.lookup x=Y c->c≠C)(h3:∀p∈X.pn++aF,p.1≠C):Inv X aF σ H {s with heap:=h',toks:=t'}:=by
 have akF:∀b u,H b=Y u->b≠C:=λb u e z=>by rw[z,hn]at e;cases e
 refine I.step (g':=s.gens) (d':=s.drawn) (ch:=[C]) (λb hb=>?_) (λb o _ _ hc e _=>k b o (λz=>hc<|by simp[z]) e) (λb o _ _ hc e _=>⟨o.slots,k b o (λz=>hc<|by simp[z]) e⟩) (λ_ _ _ _ n=>n)
  (λb o hc e=>⟨o,k b o (λz=>hc<|by simp[z]) e⟩) (λ_ _ e=>e) (λ_ _ _ e=>e) (λb ps e=>⟨#[],by rw[e];rfl⟩) (λm hm=>?_) (λb u e=>?_) I.bare
 .have e:b=C:=by simpa using hb
  subst e;exact⟨h1,hL,h2,h3⟩
 .refine nV hm λo es ep ho r=>?_;exact yj o es ep (k _ o (gk hL) ho) r
 .refine(I.bS b u e).pk (λc v hc q=>k c v ?_ q) (λ_ q=>q) λ_ _ q=>q;rcases hc with z|z
  .rw[z];exact akF b u e
  .exact akF c _ z
def Inv.tok(I:Inv X aF σ H s)t:Inv X aF σ H {s with toks:=t}:=I.un Un.refl I.bS
def Inv.kept(I:Inv X aF σ H s)(k:∀b u,s.heap.get? b=Y u->h'.get? b=u):Inv X aF σ H {s with heap:=h',toks:=t'}:=I.un (Un.kept k)<|I.bS.kept k
def Inv.laid{a:az}(I:Inv X aF σ H s)(k:∀b u,s.heap.get? b=Y u->h'.get? b=u)(C:s⁻¹<=a)(akF:f_ X.prog X.w (upd H a o) h' a o):
  Inv X aF σ (upd H a o) {s with heap:=h',toks:=t'}:=I.un (Un.laid k C<|I.bS.fresh C)<|I.bS.laid k C akF
def Inv.write(I:Inv X aF σ H s)(mu:yG (H x))(C:e=x\/H e=Y (.own x))(k:∀b u,b≠e->s.heap.get? b=Y u->h'.get? b=u)(akF:∃u,h'.get? e=Y u)
  (akG:f_ X.prog X.w (upd H x o) h' x o):Inv X aF σ (upd H x o) {s with heap:=h',toks:=t'}:=I.un (Un.write mu C k akF)<|I.bS.write mu C k akF akG
def Inv.weak(I:Inv X aF σ H s)(hl:C.length=σ.length)(w:∀(i:Nat)v,C[i]?=Y (Y v)->σ[i]?=Y (Y v)):Inv X aF C H s:=
 ⟨I.ok,I.os,I.bare,I.base,let _:=I.loc;bh,I.cell,I.free,I.mN,I.pin,I.bS,hl.trans I.len⟩
def Inv.Lw(I:Inv X aF σ H s)(h:∀p∈C,s.heap.get? p.1=p.2/\H p.1=am/\p.1≠X.env.locals/\p.1∉X.fs/\∀v,p.2.data≠.cell v):Inv X C σ H s:=
 ⟨I.ok,I.os,I.bare,I.base,I.loc,I.cell,I.free,I.mN,λp hp=>(fE.mp hp).elim (λz=>I.pin p<|Jk _ z)<|h p,I.bS,I.len⟩
def FM{N:O aq}(c:N.Nodup){i j:Nat}(a:N[i]?=Y x)(b:N[j]?=x):i=j:=by grind-order [TU]
def Lx(I:Inv X aF σ H s)(hN:X.N.Nodup)(hi:X.N[i]?=Y x)(t:Loc X.env.scope x)(r:RelV v u)
  (h:∀s',Inv X aF (σ.set i<|Y v) H s'->(∃a,AF a s.heap s'.heap/\(a=X.env.locals\/X.env.cells.lookup x=Y a))->Q () s')(hf:X.fn x=L\/X.env.scope.names.lookup x=Y .local<|>alF):aZ M A (TV X.env x u) Q E s:=by
 let⟨m,hn,hl⟩:=id I.loc;have akN:(X.env.scope.kind==.class||(X.env.scope.kind==.module&&X.env.locals !=X.env.globals))=aA:=I.ok.kind▸U;have akH:=I.len▸(dH.mp hi).1;have akF:=I.B8;have akI:∀{a:az}{h':bf},(∃o,s.heap.get? a=Y o/\H a=am)->AF a s.heap h'->dZ X.prog X.w H h':=λ{a h'}⟨_,_,akJ⟩f b ob e=>by
  refine(I.bS b ob e).pk (λc w' l=>(f.2 c ?_).trans) (λ_ q=>q) λ_ _ q=>q;rintro rfl;obtain rfl|l:=l
  .rw[akJ]at e;cases e
  .rw[akJ]at l;cases l
 obtain G|G:=t
 .refine wpAny_storeName_local G hn (λh' akO f=>?_) akN;obtain⟨oL,_,_,akP,_⟩:=id hn;refine h _ ⟨I.ok,I.os,I.bare,⟨λb o e n T t=>?_,λb o e n T t=>?_,I.base.free,λb o e t=>?_,I.base.ua,I.base.rP,I.base.ub⟩,⟨_,akO,λj y v' g C e3=>?_⟩,λy c e=>?_,I.free,I.mN,λp hp=>?_,akI ⟨oL,akP,I.free⟩ f,by simpa using I.len⟩ ⟨_,f,.inl U⟩
  .exact(f.2 b<|fO<|gQ (cA e) I.ok.above).trans<|I.base.keep b o e n T t
  .let⟨sl,g⟩:=I.base.slot b o e n T t;exact⟨sl,(f.2 b<|fO<|gQ (cA e) I.ok.above).trans g⟩
  .let⟨o',g⟩:=I.base.there b o e t;exact⟨o',(f.2 b<|fO<|gQ (cA e) I.ok.above).trans g⟩
  .by_cases hj:j=i
   .subst hj;rw[hi]at g;cases g;rw[TW akH]at C;cases C;exact aY u r<|.inl ⟨G,au⟩
   .rw[xA<|gk hj]at C;let⟨u',r',q⟩:=hl j y v' g C e3;refine aY u' r' ?_;obtain⟨k,e⟩|⟨k,c,e,z⟩:=q
    .refine .inl ⟨k,?_⟩;have:y≠x:=λe=>hj<|FM hN g<|e▸hi;simp[this,e]
    .exact .inr ⟨k,c,e,z.sameBut f<|akF y c e⟩
  .let⟨w',z⟩:=I.cell y c e;exact⟨w',z.sameBut f<|akF y c e⟩
  .let⟨e,n,ne,nf,d⟩:=I.pin p hp;exact⟨(f.2 p.1 ne).trans e,n,ne,nf,d⟩
 .have akG:X.fn x=L:=by
   obtain z|z:=hf
   .exact z
   .rw[z]at G;contradiction
  let⟨c,l⟩:=I.ok.has x<|.inl G;let⟨w',z⟩:=I.cell x c l;refine wpAny_storeName_cell I.ok.kind G l z<|λh' akK f=>?_;let⟨oc,akL,akQ⟩:=id z;refine h {s with heap:=h'} ⟨I.ok,I.os,I.bare,⟨λb o e n T t=>?_,λb o e n T t=>?_,I.base.free,λb o e t=>?_,I.base.ua,I.base.rP,I.base.ub⟩,⟨m,hn.sameBut f<|gk<|akF x c l,λj y v' g C e3=>?_⟩,λy c' e=>?_,I.free,I.mN,λp hp=>?_,akI ⟨oc,akL,I.mN x c l⟩ f,by simpa using I.len⟩ ⟨c,f,.inr l⟩
  .exact(f.2 b<|fO<|gQ (cA e)<|I.ok.vY x c akG l).trans<|I.base.keep b o e n T t
  .let⟨sl,g⟩:=I.base.slot b o e n T t;exact⟨sl,(f.2 b<|fO<|gQ (cA e)<|I.ok.vY x c akG l).trans g⟩
  .let⟨o',g⟩:=I.base.there b o e t;exact⟨o',(f.2 b<|fO<|gQ (cA e)<|I.ok.vY x c akG l).trans g⟩
  .by_cases hj:j=i
   .subst hj;rw[hi]at g;cases g;rw[TW akH]at C;cases C;exact aY u r<|.inr ⟨.inl G,c,l,akK⟩
   .rw[xA<|gk hj]at C;let⟨u',r',q⟩:=hl j y v' g C e3;refine aY u' r' ?_;obtain q|⟨k,c',e,z'⟩:=q
    .exact .inl q
    .refine .inr ⟨k,c',e,z'.sameBut f ?_⟩;rintro rfl;exact hj<|FM hN g<|I.ok.inj _ _ _ e l▸hi
  .by_cases akM:c'=c
   .subst akM;exact⟨_,akK⟩
   .let⟨w2,z2⟩:=I.cell y c' e;exact⟨w2,z2.sameBut f akM⟩
  .let⟨e,n,ne,nf,d⟩:=I.pin p hp;refine⟨(f.2 p.1 ?_).trans e,n,ne,nf,d⟩;intro q;rw[q,akL]at e;have q':=bL e;exact d w'<|by rwa[<-q']
def FN(I:Inv X aF σ H s)(a:X.N.Nodup)(hi:X.N[i]?=Y x)(b:Loc X.env.scope x)(r:RelV v u)
  (h:∀s',Inv X aF (σ.set i v) H s'->Q () s')(c:X.fn x=L\/X.env.scope.names.lookup x=Y .local<|>alF):aZ M A (TV X.env x u) Q E s:=
 Lx I a hi b r bG c
def Inv.W0(I:Inv X aF σ H s)(C:s'.os=s.os)(u:Un (iU X.stack) ch H H' s.heap s'.heap)(akF:dZ X.prog X.w H' s'.heap)(hg:xz s'.gens)
  (akG:∀b∈ch,(b∈X.ex\/X.hU⁻¹<=b)/\b≠X.env.locals/\(∀x c,X.env.cells.lookup x=Y c->c≠b)/\∀p∈X.pn++aF,p.1≠b):Inv X aF σ H' s':=by
 obtain⟨h',g',d',t',o'⟩:=s';have e:=C;subst e;exact I.call u akF hg akG
end
@[reducible]def XK:=aB->aR az->Hp->Prop
@[reducible]def St:=O<|aR V
@[reducible]def VK:=V->Hp->Prop
@[reducible]def TE:=St->Hp->VK->Prop
@[reducible]def TT:=St->Hp->(Bool->Hp->Prop)->Prop
@[reducible]def TA:=St->Hp->(O V->Hp->Prop)->Prop
structure Ends where
 nx:St->Hp->Prop
 rt:VK
 bk:St->Hp->Prop:=λ_ _=>False
 ct:St->Hp->Prop:=λ_ _=>False
@[reducible]def TS:=Ends->St->Hp->Prop
abbrev EP(X:Cx)(b:O (az×b9))(σ:St)(Q:VK)(u:aB)(s':bp):Prop:=∃v a,Inv X b σ a s'/\RelV v u/\Q v a
abbrev TP(X:Cx)(c:O (az×b9))(σ:St)(Q:Bool->Hp->Prop)(b:Bool)(s':bp):Prop:=∃a,Inv X c σ a s'/\Q b a
abbrev AP(X:Cx)(b:O (az×b9))(σ:St)(Q:O V->Hp->Prop)(us:O aB)(s':bp):Prop:=∃vs a,Inv X b σ a s'/\Vals vs us/\Q vs a
abbrev SP(X:Cx)(c:O (az×b9))(D:Ends)(f:Flow)(s':bp):Prop:=
 match f with
 |.next=>∃b a,Inv X c b a s'/\D.nx b a
 |.brk=>∃b a,Inv X c b a s'/\D.bk b a
 |.cont=>∃b a,Inv X c b a s'/\D.ct b a
 |.ret u=>∃v b a,Inv X c b a s'/\RelV v u/\D.rt v a
abbrev PE(X:Cx)(e:aT)(t:TE):Prop:=
 ∀(a:O (az×b9))(s:bp)(σ:St)(H:Hp)(Q:VK),Inv X a σ H s->t σ H Q->aZ (bg X.prog X.w) X.A (eval e X.env) (EP X a σ Q) X.xe s
abbrev PT(X:Cx)(e:aT)(t:TT):Prop:=
 ∀(a:O (az×b9))(s:bp)(σ:St)(H:Hp)(Q:Bool->Hp->Prop),Inv X a σ H s->t σ H Q->aZ (bg X.prog X.w) X.A (isTrue e X.env<|eval e X.env) (TP X a σ Q) X.xe s
abbrev PW(X:Cx)(e:aT)(t:TT):Prop:=
 ∀(whole:Sem aB)(a:O (az×b9))(s:bp)(σ:St)(H:Hp)(Q:Bool->Hp->Prop),Inv X a σ H s->t σ H Q->aZ (bg X.prog X.w) X.A (isTrue e X.env whole) (TP X a σ Q) X.xe s
abbrev PA(X:Cx)(es:O aT)(t:TA):Prop:=
 ∀(b:bn)(a:O (az×b9))(s:bp)(σ:St)(H:Hp)(Q:O V->Hp->Prop),Inv X a σ H s->t σ H Q->aZ (bg X.prog X.w) X.A (AG<|oV b<|d9 es X.env) (AP X a σ Q) X.xe s
abbrev PS(X:Cx)(st:bY)(t:TS):Prop:=
 ∀(a:O (az×b9))(s:bp)(σ:St)(H:Hp)(D:Ends),Inv X a σ H s->t D σ H->aZ (bg X.prog X.w) X.A (exec st X.env) (SP X a D) X.xe s
abbrev lq(X:Cx)(st:O bY)(t:TS):Prop:=
 ∀(a:O (az×b9))(s:bp)(σ:St)(H:Hp)(D:Ends),Inv X a σ H s->t D σ H->aZ (bg X.prog X.w) X.A (execs st X.env) (SP X a D) X.xe s
def bo{Q b:α->bp->Prop}(h:aZ M A t Q E s)(c:∀a s,Q a s->b a s):aZ M A t b E s:=kY h c λ_ _ x=>x
section
variable{X:Cx}
abbrev Ly(i:Nat):TE:=λσ H Q=>∃v,σ[i]?=Y (Y v)/\Q v H
abbrev tC(v:V):TE:=λ_ H Q=>Q v H
def rR{g:bn}(j:X.N[i]?=Y x)(k:rQ X.env.scope x)(b:(x==("__debug__":aq))=aA<|>af)(n:(x==("__classdict__":aq))=aA<|>af):PE X (aK x g) (Ly i):=by
 rintro aF s σ H Q I ⟨v,e,h⟩;let⟨m,o,p⟩:=I.loc;let⟨u,r,l⟩:=p i x v j e k;have fin:EP X aF σ Q u s:=cn v H I r h;obtain⟨a,q⟩|⟨a,c,d,f⟩:=l
 .exact TX (ahp I.ok.kind a o q fin) b
 .obtain a|a:=a
  .exact TX (ahq I.ok.kind a d f fin) b
  .exact TX (wpAny_loadName_free I.ok.kind a d f fin n) b
def rT{i j ao}:PE X (dX (.int i) j ao) (tC<|.int i):=λ_ _ _ H _ I h=>wpAny_Constant_int ⟨.int i,H,I.tok _,⟨_,U⟩,h⟩
def W1{b j ao}:PE X (dX (.bool b) j ao) (tC<|.bl b):=λ_ _ _ H _ I h=>Constant_bool ⟨.bl b,H,I,U,h⟩
def yK{j ao}:PE X (dX .none j ao) (tC .bH):=λ_ _ _ H _ I h=>Constant_none ⟨.bH,H,I,U,h⟩
def W2{x j ao}:PE X (dX (.str x) j ao) (tC<|.str x):=λ_ _ _ H _ I h=>Calls.Constant_str ⟨.str x,H,I.tok _,⟨_,U⟩,h⟩
abbrev Gl(X:Cx)(x:aq):Prop:=X.env.kindOf x=Y .globalImplicit
def yL{σ:St}(I:Inv X aF σ H s)(a:Gl X x)(b:X.mg x=Y u)(h:Q u s)
  (c:(x=="__debug__")=aA<|>af):aZ (bg X.prog X.w) X.A (eval (aK x ao) X.env) Q E s:=
 ahr I.ok.kind a (Calls.loadGlobal_global (I.ok.glob▸I.mod.glob.keeps I.bk) b h) c
def lr{E:aB->bp->Prop}{σ:St}{a:bn}(I:Inv X aF σ H s)(b:Gl X x)(c:X.mg x=am)(f:rm x=Y u)(h:Q u s)
  (g:x≠"__name__"<|>af)(d:(x=="__debug__")=aA<|>af):aZ (bg X.prog X.w) X.A (eval (aK x a) X.env) Q E s:=
 aL I.mod.blt λi e j=>
 ahr I.ok.kind b (Calls.loadGlobal_builtin (I.ok.glob▸I.mod.glob.keeps I.bk) c (I.ok.blt▸e.keeps I.bk) bh h) d
def Lz(a:Gl X x)(b:X.mg x=Y u)(r:RelV v u)(c:(x=="__debug__")=aA<|>af):PE X (aK x ao) (tC v):=
 λ_ _ _ H _ I h=>yL I a b ⟨v,H,I,r,h⟩ c
variable{a b:aT}{ta tb:TE}{ao:bn}
abbrev tB(t:TE):TT:=λσ H Q=>t σ H λx d=>∃c,x=.bl c/\Q c d
def FO{e:aT}{t:TE}(h:PE X e t)(c:(∀whole,isTrue e X.env whole=(do let v<-whole;xB e.pos;kG [v]<|Ju v))<|>ag):PT X e (tB t):=by refineλf s g H Q I i=>isTrue_plain (bo (h f s g H _ I i) λv o j=>be j λx k l m n=>?_)<|c _;obtain⟨d,rfl,q⟩:=n;subst m;exact nL ⟨k,l,q⟩
variable{tA B_:TT}{a8:O aT}
abbrev W3(t u:TT):TT:=λσ H Q=>t σ H λc d=>if c=L then u σ d Q else Q aA d
abbrev W4(t u:TT):TT:=λσ H Q=>t σ H λc d=>if c=L then Q L d else u σ d Q
abbrev W5(t:TT):TT:=λσ H Q=>t σ H λc d=>Q (!c) d
def W6(d:PT X a tA):PW X (g9 .And [a] ao) tA:=by refineλi f s g H Q I h=>isTrue_and<|bo (d f s g H Q I h) λc j e=>?_;grind[isTrue_and_nil]
def W7(d:PT X a tA):PW X (g9 .Or [a] ao) tA:=by refineλi f s g H Q I h=>isTrue_or<|bo (d f s g H Q I h) λc j e=>?_;grind[isTrue_or_nil]
def W8(f:PT X a tA)(g:PW X (g9 .And (b::a8) ao) B_):PW X (g9 .And (a::b::a8) ao) (W3 tA B_):=by
 refineλi d s e H Q I h=>isTrue_and<|bo (f d s e H _ I h) λc j k=>aL k λl m n=>?_;cases c with
 |true=>exact g i d j e l Q m n
 |false=>assumption
def W9(f:PT X a tA)(g:PW X (g9 .Or (b::a8) ao) B_):PW X (g9 .Or (a::b::a8) ao) (W4 tA B_):=by
 refineλi d s e H Q I h=>isTrue_or<|bo (f d s e H _ I h) λc j k=>aL k λl m n=>?_;cases c with
 |true=>assumption
 |false=>exact g i d j e l Q m n
def FP(c:PT X a tA):PT X (vC .Not a ao) (W5 tA):=λd s e H Q I h=>isTrue_not<|c d s e H _ I h
abbrev W_(ta tb:TE):TE:=λσ H Q=>ta σ H λx d=>∃c,x=.bl c/\if c=L then tb σ d Q else Q (.bl aA) d
abbrev Xa(ta tb:TE):TE:=λσ H Q=>ta σ H λx d=>∃c,x=.bl c/\if c=L then Q (.bl L) d else tb σ d Q
abbrev Xb(ta:TE):TE:=λσ H Q=>ta σ H λx d=>∃c,x=.bl c/\Q (.bl (!c)) d
def LB{op}(h:PE X a t):PE X (g9 op [a] ao) t:=by assumption
def LC(j:PE X a ta)(k:PE X (g9 .And (b::a8) ao) tb):PE X (g9 .And (a::b::a8) ao) (W_ ta tb):=by
 refineλe s f H Q I h=>BoolOp_and<|bo (j e s f H _ I h) λv l m=>be m λx g i n d=>?_;obtain⟨c,rfl,d⟩:=d;subst n;apply nL;cases c with
 |true=>exact k e l f g Q i d
 |false=>exact cn (.bl aA) g i U d
def LD(j:PE X a ta)(k:PE X (g9 .Or (b::a8) ao) tb):PE X (g9 .Or (a::b::a8) ao) (Xa ta tb):=by
 refineλe s f H Q I h=>BoolOp_or<|bo (j e s f H _ I h) λv l m=>be m λx g i n d=>?_;obtain⟨c,rfl,d⟩:=d;subst n;apply nL;cases c with
 |false=>exact k e l f g Q i d
 |true=>exact cn (.bl L) g i U d
def Xc(e:PE X a ta):PE X (vC .Not a ao) (Xb ta):=by refineλf s g H Q I h=>UnaryOp_<|bo (e f s g H _ I h) λv m i=>be i λx j k l d=>?_;obtain⟨c,rfl,d⟩:=d;subst l;exact not_of<|nL ⟨.bl (!c),j,k,U,d⟩
abbrev Xd(t:TT)(ta tb:TE):TE:=λσ H Q=>t σ H λc d=>if c=L then ta σ d Q else tb σ d Q
def LF(l:PT X c tA)(m:PE X a ta)(n:PE X b tb):PE X (.IfExp c a b ao) (Xd tA ta tb):=by
 refineλe s f H Q I h=>wpAny_IfExp<|bo (l e s f H _ I h) λd g o=>aL o λi j k=>?_;cases d with
 |true=>exact m e g f i Q j k
 |false=>exact n e g f i Q j k
end
abbrev bR(K:aJ)(H:Hp)(a:az)(b:O V):Prop:=
 Rd H a (.lst b)\/
  ∃(o:b9)(its:Array aB)(n:Nat),K.lookup a=Y o/\o.cls=.type "list"/\o.dict=am/\o.data=.seq its n/\its.size<=bK/\Vals b its.toList
abbrev cx(K:aJ)(H:Hp)(a:az)(b:O V):Prop:=
 Rd H a (.tup b)\/
  ∃(o:b9)(its:Array aB)(n:Nat),K.lookup a=Y o/\o.cls=.type "tuple"/\o.data=.seq its n/\its.size<=bK/\Vals b its.toList
abbrev yM:aB->aR V
 |.none=>Y .bH
 |.bool b=>Y<|.bl b
 |.int i _=>Y<|.int i
 |.str x _=>Y<|.str x
 |.bytes b _=>Y<|.j8 b
 |.float b _=>Y<|.B6 b
 |.ref a=>Y<|.ref a
 |.type n=>Y<|.ty n
 |_=>am
def RelV.abs(r:RelV x u):yM u=x:=by
 cases x with
 |bH=>subst r;rfl
 |bl _=>subst r;rfl
 |int _=>obtain⟨t,rfl⟩:=r;rfl
 |str _=>obtain⟨t,rfl⟩:=r;rfl
 |j8 _=>obtain⟨t,rfl⟩:=r;rfl
 |B6 _=>obtain⟨t,rfl⟩:=r;rfl
 |ref _=>subst r;rfl
 |ty _=>subst r;rfl
def RelV.inj(r:RelV x u)(q:RelV y u):x=y:=bL<|r.abs.symm.trans q.abs
def Vals.inj:∀{C ys:O V}{us:O aB},Vals C us->Vals ys us->C=ys:=by
 intro C ys us h;induction h generalizing ys with
 |nil=>intro h;cases h;rfl
 |cons r t I=>intro h;obtain _|⟨q,u⟩:=h;rw[r.inj q,I u]
section
variable{X:Cx}{aF:O (az×b9)}{σ:St}{H:Hp}{s:bp}{a:az}{xs ys:O V}
def bR.of{K:aJ}(h:H a=Y (.lst xs)):bR K H a xs:=.inl<|.inl h
def cx.of{K:aJ}(h:H a=Y (.tup xs)):cx K H a xs:=.inl<|.inl h
def Inv.list(I:Inv X aF σ H s)(h:bR X.K H a xs):∃its,Vals xs its/\PlainL s.heap a its.toArray/\xs.length<=bK:=by
 obtain h|⟨o,its,n,C,hc,hd,hs,hz,r⟩:=h
 .obtain⟨z,its,n,r,e⟩:=h.ok I.bS;exact fQ its r ⟨_,n,e,U,U,U⟩ z
 .refine fQ its.toList r ⟨o,n,I.hW a o C,hc,hd,aU⟩ ?_;have e:=r.length;simp_all
def Inv.tuple(I:Inv X aF σ H s)(h:cx X.K H a xs):∃its,Vals xs its/\Ew s.heap a its.toArray/\xs.length<=bK:=by
 obtain h|⟨o,its,n,C,hc,hs,hz,r⟩:=h
 .obtain⟨z,its,r,p⟩:=h.ok I.bS;grind-order
 .refine fQ its.toList r ⟨o,I.hW a o C,hc,n,aU⟩ ?_;have e:=r.length;simp_all
def Inv.Ca(I:Inv X aF σ H s)(h:bR X.K H a xs)(h':bR X.K H a ys):xs=ys:=by
 let⟨akF,r,⟨o,n,e,_,_,d⟩,_⟩:=I.list h;let⟨akG,r',⟨o',n',C,_,_,d'⟩,_⟩:=I.list h';rw[e]at C;obtain rfl:=bL C;rw[d]at d';injection d' with d1 _
 have:=by simpa using bJ TY d1
 subst this;exact r.inj r'
def Inv.Cc(I:Inv X aF σ H s)(h:cx X.K H a xs)(h':cx X.K H a ys):xs=ys:=by
 let⟨akF,r,⟨o,e,_,n,d⟩,_⟩:=I.tuple h;let⟨akG,r',⟨o',C,_,n',d'⟩,_⟩:=I.tuple h';rw[e]at C;obtain rfl:=bL C;rw[d]at d';injection d' with d1 _
 have:=by simpa using bJ TY d1
 subst this;exact r.inj r'
end
@[reducible]def Cx.pq(X:Cx)(E:aB->bp->Prop):Cx:={X with xe:=E}
@[reducible]def Cx.uc(X:Cx):Cx:=X.pq λ_ _=>False
def Cx.Ok.pq{X:Cx}(ok:X.Ok)E:(X.pq E).Ok:=
 ⟨ok.mod,ok.kind,ok.glob,ok.blt,ok.above,ok.inj,ok.has,ok.vY,ok.hd,ok.frames,ok.gK,ok.B7,ok.bs,ok.oe,ok.yH,ok.yI,ok.j9,ok.qp⟩
def Cx.Ok.rV{X:Cx}(ok:(X.pq E).Ok):X.Ok:=
 ⟨ok.mod,ok.kind,ok.glob,ok.blt,ok.above,ok.inj,ok.has,ok.vY,ok.hd,ok.frames,ok.gK,ok.B7,ok.bs,ok.oe,ok.yH,ok.yI,ok.j9,ok.qp⟩
section
variable{X:Cx}{aF:O (az×b9)}{σ:St}{H:Hp}{s:bp}{E:aB->bp->Prop}
def Inv.pq(I:Inv X aF σ H s)E:Inv (X.pq E) aF σ H s:=⟨I.ok.pq E,I.os,I.bare,I.base,I.loc,I.cell,I.free,I.mN,I.pin,I.bS,I.len⟩
def Inv.rV(I:Inv (X.pq E) aF σ H s):Inv X aF σ H s:=⟨I.ok.rV,I.os,I.bare,I.base,I.loc,I.cell,I.free,I.mN,I.pin,I.bS,I.len⟩
def SP.rV(h:SP (X.pq E) aF D f s'):SP X aF D f s':=by
 cases f with
 |next=>refine fF h λC H' I q=>?_;exact gq C H' I.rV q
 |brk=>refine fF h λC H' I q=>?_;exact gq C H' I.rV q
 |cont=>refine fF h λC H' I q=>?_;exact gq C H' I.rV q
 |ret u=>refine vF h λv C H' I r q=>?_;exact vG v C H' I.rV r q
def lq.uc{st:O bY}(h:lq X.uc st t):lq X st t:=λaF s σ H D I C=>
 kY (h aF s σ H D (I.pq _) C) (λ_ _ q=>q.rV) λ_ _=>kZ
end
section
variable{X:Cx}{st:bY}{a8:O bY}{t u:TS}{e:aT}{te:TE}{ao:bn}
abbrev Xe:TS:=λD σ H=>D.nx σ H
abbrev Xf(t u:TS):TS:=λD σ H=>t {D with nx:=u D} σ H
def il:lq X [] Xe:=λ_ _ a H _ I h=>TZ ⟨a,H,I,h⟩
def LG(b:PS X st t)(c:lq X a8 u):lq X (st::a8) (Xf t u):=by
 refineλa s d H D I h=>wpAny_execs_cons<|bo (b a s d H {D with nx:=u D} I h) λf g q=>?_;cases f with
 |next=>
  let⟨i,j,k,q⟩:=q;exact c a g i j D k q
 |ret v=>exact q
 |brk=>exact q
 |cont=>exact q
def Inv.quiet{σ:St}(I:Inv X aF σ H s):ahs X.env=aA:=by simp[ahs,I.ok.kind]
abbrev Xg(te:TE):TS:=λD σ H=>te σ H λ_ a=>D.nx σ a
def rW(b:PE X e te)(c:oW e am ao.line X.env=pure aA<|>_r):PS X (.Expr e ao) (Xg te):=λd s a H D I h=>wpAny_Expr_any (bo (b d s a H _ I h) λv k f=>be f λx g i l j=>gq a g i j) I.quiet c
abbrev Xh(te:TE):TS:=λD σ H=>te σ H D.rt
def jC(b:PE X e te):PS X (nU e ao) (Xh te):=λc s a H D I h=>wpAny_Return_some<|bo (b c s a H _ I h) λv k d=>be d λx f g i j=>vG x a f g i j
abbrev Xi(c:TT)(t u:TS):TS:=λD σ H=>c σ H λb a=>if b=L then t D σ a else u D σ a
def kN(m:PT X c n)(o:lq X a t)(p:lq X b u):PS X (kK c a b ao) (Xi n t u):=by
 refineλf s g H D I h=>wpAny_If<|bo (m f s g H _ I h) λd i q=>aL q λj k l=>?_;cases d with
 |true=>exact o f i g j D k l
 |false=>exact p f i g j D k l
abbrev Xj:TS:=λ_ _ _=>False
def FQ:lq X a Xj:=λ_ _ _ _ _ _ h=>h.elim
end
@[reducible]def TG:=V->St->Hp->(St->Hp->Prop)->Prop
@[reducible]def ud:=O V->St->Hp->(St->Hp->Prop)->Prop
abbrev PG(X:Cx)(d:aT)(t:TG):Prop:=
 ∀(a:O (az×b9))(s:bp)(σ:St)(H:Hp)(v:V)(u:aB)(Q:St->Hp->Prop),Inv X a σ H s->RelV v u->t v σ H Q->
  aZ (bg X.prog X.w) X.A (k6 d X.env u) (λ_ s'=>∃b c,Inv X a b c s'/\Q b c) X.xe s
abbrev Ce(X:Cx)(d:O aT)(t:ud):Prop:=
 ∀(a:O (az×b9))(s:bp)(σ:St)(H:Hp)(vs:O V)(us:O aB)(Q:St->Hp->Prop),Inv X a σ H s->Vals vs us->t vs σ H Q->
  aZ (bg X.prog X.w) X.A (assignInOrder ((gE d X.env).map (·.2)) us) (λ_ s'=>∃b c,Inv X a b c s'/\Q b c) X.xe s
@[reducible]def FR:=V->V->V->Hp->(Hp->Prop)->Prop
abbrev LH(X:Cx)(t:FR):Prop:=
 ∀(a:O (az×b9))(s:bp)(σ:St)(H:Hp)(o i v:V)(ov b u:aB)(Q:Hp->Prop),Inv X a σ H s->RelV o ov->RelV i b->RelV v u->t o i v H Q->
  aZ (bg X.prog X.w) X.A (Ey ov b u) (λ_ s'=>∃c,Inv X a σ c s'/\Q c) X.xe s
@[reducible]def Cf:=V->V->Hp->VK->Prop
abbrev FS(X:Cx)(op:T0)(t:Cf):Prop:=
 ∀(a:O (az×b9))(s:bp)(σ:St)(H:Hp)(x y:V)(v u:aB)(Q:VK),Inv X a σ H s->RelV x v->RelV y u->t x y H Q->
  aZ (bg X.prog X.w) X.A (T1 op v u) (EP X a σ Q) X.xe s
section
variable{X:Cx}{ao:bn}
abbrev FT(i:Nat):TG:=λv σ H Q=>Q (σ.set i<|Y v) H
def mO(a:X.N.Nodup)(hi:X.N[i]?=Y x)(b:Loc X.env.scope x)(c:X.fn x=L\/X.env.scope.names.lookup x=Y .local<|>alF):PG X (aK x ao) (FT i):=λe s f H v u Q I r h=>aht<|FN I a hi b r (λg d=>gq _ H d h) c
abbrev Xk:ud:=λvs σ H Q=>vs=[]/\Q σ H
abbrev Xl(t:TG)(u:ud):ud:=λvs σ H Q=>∃v r,vs=v::r/\t v σ H λa b=>u r a b Q
def Cg:Ce X [] Xk:=by rintro aF s σ H a us Q I r ⟨e,h⟩;exact assignInOrder_nil bh
def rX{e:aT}{es:O aT}{t:TG}{u:ud}(a:PG X e t)(b:Ce X es u)
  (c:((gE (e::es) X.env).map (·.2)=k6 e X.env::(gE es X.env).map (·.2))<|>_r):Ce X (e::es) (Xl t u):=by
 rintro aF s σ H n us Q I r ⟨v,o,d,h⟩;subst d;cases r with
 |cons r f=>
  exact c▸(assignInOrder_cons<|bo (a aF s σ H _ _ _ I r h) λ_ g i=>fF i λj k l m=>b aF g j k _ _ Q l f m)
abbrev Xm(K:aJ)(n:Nat)(t:ud):TG:=λv σ H Q=>∃a b,v=.ref a/\cx K H a b/\b.length=n/\t b σ H Q
def Ch{es:O aT}{k:Nat}{t:ud}{n:Nat}(c:X.calm=L)(h:Ce X es t)
  (d:(gE es X.env).length=n<|>_r)(f:(gE es X.env).findIdx? (·.1)=am<|>_r):PG X (jW es k ao) (Xm X.K n t):=by
 rintro aF s σ H v u Q I r ⟨a,xs,g,i,j,hw⟩;subst g;subst r;refine b7 (I.tuple i) λx l m y=>?_;refine assign_Tuple_tuple (I.ok.hd c) m (by simp[d,<-j,l.length]) f λp q=>?_;have w:Inv X aF σ H {s with heap:=p}:=I.kept λb o e=>q b o (fO<|cA e) e;exact h aF _ σ H xs _ Q w ‹_› hw
abbrev Xn(a b:TE)(t:FR):TG:=λv σ H Q=>a σ H λo c=>b σ c λi d=>t o i v d λe=>Q σ e
def LI{o i:aT}{c d:TE}{t:FR}(e:PE X o c)(hi:PE X i d)(f:LH X t)
  (A:(∀v,k6 (cR o i ao) X.env v=(do
   let ov<-kG [v] (eval o X.env);let a<-kG [v,ov] (eval i X.env)
   xB ao
   kG [v,ov,a] (Ey ov a v)
   T4 [v,ov,a] []))<|>ag):PG X (cR o i ao) (Xn c d t):=by
 intro aF s σ H v u Q I r h;exact a9<|mD<|bo (e aF s σ H _ I h) λov g b=>be b λx j k l m=>a9<|mD<|bo (hi aF g σ j _ k m) λa n b=>be b λy p q w z=>a9<|Jv<|a9<|mD<|bo (f aF n σ p x y v ov a u _ q l w r z) λ_ C _=>wpAny_release bh
abbrev FU(a:TE)(g:TG):TS:=λD σ H=>a σ H λx b=>g x σ b D.nx
def LJ{a e:aT}{b:TE}{g:TG}(f:PE X e b)(i:PG X a g)(j:T5 [a] e ao.line X.env=pure aA<|>_r)(k:T6 [a] e X.env=pure am<|>_r)
  (l:(gE [a] X.env).map (·.2)=[k6 a X.env]<|>_r):PS X (iC [a] e ao) (FU b g):=λc s d H D I h=>wpAny_Assign_stores (bo (f c s d H _ I h) λv m n=>be n λx o p t u=>l▸(bo (i c m d o x v _ p t u) λ_ w q=>q)) j k
def lU(a:X.N.Nodup)(hi:X.N[i]?=Y x)(b:Loc X.env.scope x)(c:PE X e d)(f:oW e (Y<|aK x jM) ao.line X.env=pure aA<|>_r)(g:X.fn x=L\/X.env.scope.names.lookup x=Y .local<|>alF):
  PS X (iC [aK x jM] e ao) (FU d<|FT i):=λj s k H D I h=>wpAny_Assign_Name (bo (c j s k H _ I h) λv t l=>be l λy m n o p=>FN n a hi b o (λu q=>gq _ m q p) g) f
abbrev Xo(i:Nat)(a:TE)(b:Cf):TS:=λD σ H=>∃x,σ[i]?=Y (Y x)/\a σ H λy c=>b x y c λz d=>D.nx (σ.set i<|Y z) d
def Xp(f:X.N.Nodup)(hi:X.N[i]?=Y x)(b:Loc X.env.scope x)(g:PE X e j)(n:FS X op o)(p:X.fn x=L\/X.env.scope.names.lookup x=Y .local<|>alF):
  PS X (.AugAssign (aK x jM) op e ao) (Xo i j o):=by
 rintro aF s σ H D I ⟨v,q,h⟩;refine aL I.loc λm t C=>?_;have vZ:rQ X.env.scope x:=by obtain k|k:=b;exact .inl k;exact .inr<|.inl k
 refine aL (C i x v hi q vZ) λu r l=>?_;apply wpAny_AugAssign_Name;have go:aZ (bg X.prog X.w) X.A (eval e X.env) (λw E=>aZ (bg X.prog X.w) X.A (T1 op u w) (λr G=>aZ (bg X.prog X.w) X.A (TV X.env x r) (λ_=>SP X aF D .next) X.xe G) X.xe E) X.xe s:=bo (g aF s σ H _ I h) λw Q d=>be d λy T I1 r1 q1=>bo (n aF Q σ T v y u w _ I1 r r1 q1) λz s2 d=>be d λzv H2 I2 r2 q2=>FN I2 f hi b r2 (λs3 I3=>gq _ H2 I3 q2) p;obtain⟨a,hm⟩|⟨a,c,hc,akF⟩:=l
 .exact ahp I.ok.kind a t hm go
 .obtain a|a:=a
  .exact ahq I.ok.kind a hc akF go
  .obtain k|k:=b
   .have:X.env.scope.names.lookup x=Y .free:=a;rw[k]at this;cases this
   .have:X.env.scope.names.lookup x=Y .free:=a;rw[k]at this;cases this
abbrev Xq(f:Int->Int->Int):Cf:=λx y H Q=>∃i j,x=.int i/\y=.int j/\Q (.int<|f i j) H
def Xr:FS X .Add (Xq λi j=>i+j):=by rintro aF s σ H x y v u Q I r1 r2 ⟨i,j,a,b,q⟩;subst a;subst b;obtain⟨t,rfl⟩:=r1;obtain⟨c,rfl⟩:=r2;exact iadd_int ⟨.int _,H,I.tok _,⟨_,U⟩,q⟩
abbrev Xs(c:TT)(f:TS):TS:=λD σ H=>∃W:Nat->St->Hp->Prop,(∃m,W m σ H)/\∀m σ H,W m σ H->
 c σ H λb a=>if b=L then∃N:St->Hp->Prop,(∀d e,N d e->∃m',m'<m/\W m' d e)/\f {D with nx:=N,ct:=N,bk:=D.nx} σ a else D.nx σ a
def FV(j:p0 (bg X.prog X.w) X.A X.env X.xe)(t:PT X c u)(x:lq X bD y):PS X (.While c bD [] ao) (Xs u y):=by
 rintro aF s σ H D I ⟨W,⟨m0,w0⟩,turn⟩;refine wpAny_While<|codeAny_whileLoop (λn z=>∃k l,Inv X aF k l z/\W n k l) ?_ m0 bh;rintro n s1 ⟨a,H1,C,E⟩;refine xC j<|bo (t aF s1 a H1 _ C<|turn n a H1 E) λb G Q=>aL Q λm o d=>?_;cases b with
 |true=>
  let⟨N,p,d⟩:=d;refine xC j<|bo (x aF G a m _ o d) λf s3 e=>?_;cases f with
  |next=>
   let⟨g,h,q,i⟩:=e;let⟨T,hm,w3⟩:=p g h i;exact⟨T,hm,g,h,q,w3⟩
  |cont=>
   let⟨g,h,q,i⟩:=e;let _:=p g h i;exact(by grind-order)
  |brk=>exact e
  |ret v=>exact e
 |false=>
  exact(aD gR)▸(TZ ⟨a,m,o,d⟩)
end
structure It where
 go:Nat->Hp->Prop
 Ci:Nat->Hp->V->Hp->Prop
 stop:Nat->Hp->Prop
abbrev fb(X:Cx)(a:O (az×b9))(H:Hp)(b:az):Prop:=
 H b=am/\b≠X.env.locals/\b∉X.fs/\(b∈X.ex\/X.hU⁻¹<=b)/\(∀x c,X.env.cells.lookup x=Y c->c≠b)/\∀p∈X.pn++a,p.1≠b
def Inv.og{σ:St}{b:az}(I:Inv X aF σ H s)(C:s⁻¹<=b)(hn:H' b=am):fb X aF H' b:=by
 refine⟨hn,AH<|gQ I.lt C,I.WZ C,.inr<|cS I.sz C,λx c e z=>?_,λp hp z=>?_⟩
 .let⟨v,q⟩:=I.cell x c e;exact absurd (gQ q.lt<|z▸C)<|kX _
 .exact absurd (gQ (cA (I.pin p hp).1)<|z▸C)<|kX _
structure Turn(P:bO)(w:bN)(K:aJ)(j:aT)(k:It)(fp:List az)(d:az)(a:Nat->bf->Prop):Prop where
 mem:d∈fp
 obj:∀i h,a i h->∀b∈fp,∃o,h.get? b=Y o/\∀v,o.data≠.cell v
 keep:∀i h h',a i h->(∀b∈fp,∀o,h.get? b=Y o->h'.get? b=Y o)->a i h'
 item:∀(X:Cx),X.prog=P->X.w=w->X.K=K->X.calm=L->∀(i:Nat)(c:List (az×b9))(s:bp)(σ:St)(H:Hp)(E:aB->bp->Prop),Inv X c σ H s->(∀b∈fp,fb X c H b)->a i s.heap->k.go i H->
  aZ (bg P w) X.A (nM<|.ref d) (λr e=>∃u,r=Y u/\
   aZ (bg P w) X.A (T7 j (.ref d) u) (λ_ g=>∃x f,Inv X c σ f g/\RelV x u/\k.Ci i H x f/\a (i+1) g.heap/\∀b∈fp,f b=am) E e) E s
 done:∀(X:Cx),X.prog=P->X.w=w->X.K=K->X.calm=L->∀(i:Nat)(c:List (az×b9))(s:bp)(σ:St)(H:Hp)(E:aB->bp->Prop),Inv X c σ H s->(∀b∈fp,fb X c H b)->a i s.heap->k.stop i H->
  aZ (bg P w) X.A (nM<|.ref d) (λr e=>r=am/\Inv X c σ H e) E s
 self:∀(A:eJ)(i:Nat)(s:bp)(Q:aB->bp->Prop)(E:aB->bp->Prop),a i s.heap->Q (.ref d) s->aZ (bg P w) A (Ez<|.ref d) Q E s
@[reducible]def TI:=St->Hp->(It->Hp->Prop)->Prop
abbrev Cj(X:Cx)(c:O (az×b9))(σ:St)(g:aT)(R:It->Hp->Prop)(h:aB)(d:bp):Prop:=
 ∃(e:az)(fp:O az)(f:Nat->bf->Prop)(i:It)(a:Hp),h=.ref e/\Inv X c σ a d/\Turn X.prog X.w X.K g i fp e f/\f 0 d.heap/\(∀b∈fp,fb X c a b)/\R i a
abbrev PI(X:Cx)(b iter:aT)(c:TI):Prop:=
 ∀(a:O (az×b9))(s:bp)(σ:St)(H:Hp)(R:It->Hp->Prop),Inv X a σ H s->c σ H R->
  aZ (bg X.prog X.w) X.A (eval iter X.env) (λv d=>aZ (bg X.prog X.w) X.A (Ez v) (Cj X a σ b R) X.xe d) X.xe s
def Ck(b:s.heap.get? it=Y o)(c:o.cls=.type n)(d:o.data=.fields vs)
  (f:["enumerate","zip","dict_itemiterator","dict_reverseitemiterator","odict_iterator","itertools.zip_longest","itertools.pairwise"].contains n=aA)(a:Q () s):aZ M A (T7 e (.ref it) u) Q E s:=by
 cases e<;>first
  |exact cF a
  |(cases u<;>first
    |exact cF a
    |(refine a9 (wpAny_load b ?_)
      rw[c,d];show aZ M A (if _=L then _ else _) Q E s;rw[aD ap];exact cF a))
abbrev LK(K:aJ)(a:az):It:=
 ⟨λi H=>∃b x,bR K H a b/\b[i]?=Y x,λi H x c=>c=H/\∀b,bR K H a b->b[i]?=Y x,λi H=>∃b,bR K H a b/\b.length<=i⟩
abbrev LL(K:aJ)(a:az):It:=
 ⟨λi H=>∃b x,cx K H a b/\b[i]?=Y x,λi H x c=>c=H/\∀b,cx K H a b->b[i]?=Y x,λi H=>∃b,cx K H a b/\b.length<=i⟩
abbrev FW(lo:Int)(n:Nat):It:=⟨λi _=>i<n,λi H x a=>a=H/\x=.int (lo+i),λi _=>n<=i⟩
def Xt{K:aJ}a it:Turn P w K tg (LK K a) [it] it (λi h=>h.IsListIter it a i) where
 mem:=au
 obj:=λi h st b f=>by
  have e:=by simpa using f
  subst e;refine b7 st λo e c d=>?_;exact bG
 keep:=λi h j st k=>st.at λo=>k it au o
 item:=by intro X l hw m G i aF s σ H E I hf st n;subst l hw m;let⟨Q,x,g,q⟩:=n;let⟨T,t,p,hz⟩:=I.list g;let⟨u,hu,ru⟩:=t.get q;let⟨v,y,f2,z,A,C⟩:=hf it au;refine wpAny_pyNext_list_item st p.isList (by simpa using hu) λj N sb=>?_;have I1:Inv X aF σ H {s with heap:=j}:=I.turned (λb o f=>(sb.2 b f).trans) v y z A C;let⟨o,e,c,d⟩:=id N;exact aY u U (Ck e c d cq ⟨x,H,I1,ru,⟨U,λys hy=>(I.Ca hy g)▸q⟩,N,λb f=>(hf b f).1⟩)
 done:=by intro X l hw m G i aF s σ H E I hf st n;subst l hw m;obtain⟨Q,g,q⟩:=n;let⟨T,t,p,hz⟩:=I.list g;let⟨v,y,f2,z,A,C⟩:=hf it au;have hl:=t.length;exact wpAny_pyNext_list_end (I.ok.hd G) st p.isList (by simp;simp_all) λj eb=>⟨U,I.turned (eb) v y z A C⟩
 self:=λ_ _ _ _ _ st=>wpAny_pyIter_listiter st
def Xu{K:aJ}a it:Turn P w K tg (LL K a) [it] it (λi h=>h.IsTupleIter it a i) where
 mem:=au
 obj:=λi h st b f=>by
  have e:=by simpa using f
  subst e;refine b7 st λo e c d=>?_;exact bG
 keep:=λi h j st k=>st.at λo=>k it au o
 item:=by intro X l hw m G i aF s σ H E I hf st n;subst l hw m;let⟨Q,x,g,q⟩:=n;let⟨T,t,p,hz⟩:=I.tuple g;let⟨u,hu,ru⟩:=t.get q;let⟨v,y,f2,z,A,C⟩:=hf it au;refine wpAny_pyNext_tuple_item st (p) (by simpa using hu) λj N sb=>?_;have I1:Inv X aF σ H {s with heap:=j}:=I.turned (λb o f=>(sb.2 b f).trans) v y z A C;let⟨o,e,c,d⟩:=id N;exact aY u U (Ck e c d cq ⟨x,H,I1,ru,⟨U,λys hy=>(I.Cc hy g)▸q⟩,N,λb f=>(hf b f).1⟩)
 done:=by intro X l hw m G i aF s σ H E I hf st n;subst l hw m;obtain⟨Q,g,q⟩:=n;let⟨T,t,p,hz⟩:=I.tuple g;let⟨v,y,f2,z,A,C⟩:=hf it au;have hl:=t.length;exact wpAny_pyNext_tuple_end (I.ok.hd G) st (p) (by simp;omega) λj eb=>⟨U,I.turned (eb) v y z A C⟩
 self:=λ_ _ _ _ _ st=>wpAny_pyIter_tupleiter st
def Xv{K:aJ}it lo n:Turn P w K G (FW lo n) [it] it (λi h=>IsRangeIter h it (lo+i*1) (n-i) 1) where
 mem:=au
 obj:=λi h st b a=>by
  have e:=by simpa using a
  subst e;exact bh
 keep:=λi h c st k=>k it au _ st
 item:=by intro X q hw u d i aF s σ H E I hf st f;let⟨g,j,x,l,m,o⟩:=hf it au;refine(Walks.range (I.ok.hd d) it lo 1 n).item i s _ _ f st λv c y z p N=>?_;obtain⟨t,rfl⟩:=z;have A:Inv X aF σ H {s with heap:=c,toks:=y}:=I.turned bh g j l m o;refine aY _ U<|Ck p U U cq ⟨.int<|lo+i,H,A,⟨t,?_⟩,⟨U,U⟩,p,λb a=>(hf b a).1⟩;rw[ahu]
 done:=by intro X q hw u d i aF s σ H E I hf st f;let⟨g,j,x,l,m,o⟩:=hf it au;exact wpAny_pyNext_range_end (I.ok.hd d) st (by have:n<=i:=f;lia) λc C=>⟨U,I.turned (C) g j l m o⟩
 self:=λ_ _ _ _ _ st=>wpAny_pyIter_rangeiter st
section
variable{X:Cx}{tg:aT}
abbrev Xw(K:aJ)(c:TE):TI:=λσ H R=>c σ H λx b=>∃a,x=.ref a/\(∃d,bR K b a d)/\R (LK K a) b
abbrev Xx(K:aJ)(c:TE):TI:=λσ H R=>c σ H λx b=>∃a,x=.ref a/\(∃d,cx K b a d)/\R (LL K a) b
def Xy(f:PE X l g):PI X tg l (Xw X.K g):=by
 refineλi s j H R I h=>bo (f i s j H _ I h) λv d k=>be k λx m c n t=>?_;obtain⟨a,rfl,⟨y,u⟩,q⟩:=t;subst n;refine b7 (c.list u) λz A p C=>?_;apply T8 p.isList;refine rH d⁻¹ ([d⁻¹]) _ _ m U (c.kept λb o=>dO _) (Xt a _) ⟨_,fW _ U,U,U⟩ (λb w=>?_) q;have e:=by simpa using w
 subst e;exact c.og (cg _)<|c.bS.fresh<|cg _
def Xz(f:PE X l g):PI X tg l (Xx X.K g):=by
 refineλi s j H R I h=>bo (f i s j H _ I h) λv d k=>be k λx m c n t=>?_;obtain⟨a,rfl,⟨y,u⟩,q⟩:=t;subst n;refine b7 (c.tuple u) λz A p C=>?_;apply T9<|p;refine rH d⁻¹ ([d⁻¹]) _ _ m U (c.kept λb o=>dO _) (Xu a _) ⟨_,fW _ U,U,U⟩ (λb w=>?_) q;have e:=by simpa using w
 subst e;exact c.og (cg _)<|c.bS.fresh<|cg _
def XA{σ:St}{lo hi:Int}(I:Inv X aF σ H s)(c:-(2^62)<=lo)(d:lo<2^62)(f:-(2^62)<=hi)(g:hi<2^62)
  (q:R (FW lo (hi-lo).toNat) H):aZ (bg X.prog X.w) X.A (Ez<|.ref s⁻¹) (Cj X aF σ tg R) E {s with heap:=s.heap.push {cls:=.type "range",data:=.fields #[.int lo t,.int hi u,.int 1 v]},toks:=h}:=by
 refine wpAny_pyIter_range (ahv ..) (small_one c d f g) ?_;have a:Inv X aF σ H {s with heap:=s.heap.push {cls:=.type "range",data:=.fields #[.int lo t,.int hi u,.int 1 v]},toks:=h}:=I.kept λb o=>dO _;refine⟨(s.heap.push {cls:=.type "range",data:=.fields #[.int lo t,.int hi u,.int 1 v]}).objs.size,[(s.heap.push {cls:=.type "range",data:=.fields #[.int lo t,.int hi u,.int 1 v]}).objs.size],_,_,H,U,
  a.kept λb o=>dO _,Xv _ lo (hi-lo).toNat,?_,λb i=>?_,q⟩
 .have j:lo+((0:Nat):Int)*1=lo:=au;have k:(((hi-lo).toNat:Nat):Int)-((0:Nat):Int)=ahw lo hi 1:=by rw[ahx];split<;>grind
  rw[j,k];exact fW _ U
 .have e:b=(s.heap.push {cls:=.type "range",data:=.fields #[.int lo t,.int hi u,.int 1 v]}).objs.size:=by simpa using i
  subst e;exact a.og (cg _)<|a.bS.fresh<|cg _
abbrev XB(a:TA):TI:=λσ H R=>a σ H λvs b=>∃j:Int,vs=[.int j]/\-(2^62)<=j/\j<2^62/\R (FW 0 j.toNat) b
def XC(c:Gl X "range")(d:X.mg "range"=am)(e:PA X [a] f)(g:d9 [a] X.env=[(aA,eval a X.env)]<|>_r):PI X tg (b0 (aK "range" p) [a] [] ao) (XB f):=by
 refineλi s k H R I h=>rp<|lr I c d boot_range<|p5 (bo (e ao i s k H _ I h) λv w l=>be l λx y m n b=>?_) g U;obtain⟨j,rfl,b,o,q⟩:=b;cases n with
 |cons r u=>
  cases u;obtain⟨t,rfl⟩:=r;exact call_range_1<|XA m au au b o ap
abbrev XE(c:TI)(g:TG)(d:TS):TS:=λD σ H=>c σ H λj e=>∃W:Nat->Nat->St->Hp->Prop,(∃m,W 0 m σ e)/\∀i m σ H,W i m σ H->
 (j.stop i H/\D.nx σ H)\/(j.go i H/\∃N:St->Hp->Prop,(∀b a,N b a->∃m',m'<m/\W (i+1) m' b a)/\∀x a,j.Ci i H x a->g x σ a λf h=>d {D with nx:=N,ct:=N,bk:=D.nx} f h)
abbrev qr(fp:O az)(h:bf):O (az×b9):=fp.filterMap λb=>(h.get? b).map λo=>(b,o)
def ue(a:b∈fp)(e:h.get? b=Y o):(b,o)∈qr fp h:=Jw.mpr bh
def XF(a:p∈qr fp h):p.1∈fp/\h.get? p.1=p.2:=by refine aL (Jw.mp a) λb c e=>?_;cases q:h.get? b<;>grind
def Inv.pinned{σ:St}(I:Inv X aF σ H s)(C:∀b∈fp,fb X aF H b)(ho:∀b∈fp,∃o,s.heap.get? b=Y o/\∀v,o.data≠.cell v):Inv X (aF++qr fp s.heap) σ H s:=
 I.Lw λp hp=>(fE.mp hp).elim (λz=>I.pin p<|jS _ z) λz=>by let⟨hb,e⟩:=XF z;let⟨f0,f1,f2,_⟩:=C p.1 hb;grind
def Inv.v6{σ:St}(I:Inv X (aF++C) σ H s):Inv X aF σ H s:=I.Lw λp hp=>I.pin p bG
def Cm(t:p0 (bg X.prog X.w) X.A X.env X.xe)(hc:X.calm=L)(hi:PI X tg iter wi)(hg:PG X tg g)(a:lq X bD tb)
  (hs:(∀x,EA iter X.env x=pure x)<|>ag):PS X (yf tg iter bD [] ao) (XE wi g tb):=by
 refineλq s σ H D I h=>wpAny_For (bo (hi q s σ H _ I h) λv s1 h1=>bo h1 λakN s2 h2=>?_) hs;obtain⟨it,y,tn,akO,H2,rfl,I2,T,akJ,f2,W,⟨m0,w0⟩,akK⟩:=h2;have akF:∀{l:Hp},(∀b∈y,l b=am)->∀b∈y,fb X q l b:=λhn b a=>⟨hn b a,(f2 b a).2⟩
 refine codeAny_forLoop_any (λn s'=>∃i z l,Inv X q z l s'/\tn i s'.heap/\(∀b∈y,l b=am)/\W i n z l) ?_ m0 ⟨0,σ,H2,I2,akJ,λb a=>(f2 b a).1,w0⟩;rintro n s3 ⟨i,C,Q,I3,akH,akI,w3⟩;obtain⟨stop,qn⟩|⟨go,N,hN,step⟩:=akK i n C Q w3
 .refine xC t<|bo (T.done X U U U hc i q s3 C Q X.xe I3 (akF akI) akH stop) λr s4⟨hr,I4⟩=>?_;subst hr;exact TZ ⟨C,Q,I4,qn⟩
 .refine xC t<|bo (T.item X U U U hc i q s3 C Q X.xe I3 (akF akI) akH go) λr s4 E=>aL E λu hr h4=>?_;subst hr;refine xC t<|bo h4 λ_ s5 E=>jX E λx H5 I5 r5 y5 akG akL=>xC t<|bo (hg _ s5 C H5 x u _ (I5.pinned (akF akL)<|T.obj _ _ akG) r5<|step x H5 y5) λ_ s6 E=>fF E λakM H6 I6 q6=>xC t<|bo (a _ s6 akM H6 _ I6 q6) λf s7 p=>?_;have again:∀{c:St}{j:Hp},Inv X (q++qr y s5.heap) c j s7->N c j->∃m,m<n/\∃i z l,Inv X q z l s7/\tn i s7.heap/\(∀b∈y,l b=am)/\W i m z l:=λ{c j}k G=>by
   refine aL (hN c j G) λm' hm w7=>?_;refine⟨m',hm,i+1,c,j,k.v6,T.keep _ _ _ akG λb a o e=>(k.pin (b,o)<|jS _<|jS _<|ue a e).1,λb a=>?_,w7⟩;refine aL (T.obj _ _ akG b a) λo e d=>?_;exact(k.pin (b,o)<|jS _<|jS _<|ue a e).2.1
  cases f with
  |next=>obtain⟨c,j,k,G⟩:=p;exact again k G
  |cont=>obtain⟨c,j,k,G⟩:=p;exact again k G
  |brk=>obtain⟨c,j,k,p⟩:=p;exact gq c j k.v6 p
  |ret v=>refine vF p λx7 c j k r7 p=>?_;exact vG x7 c j k.v6 r7 p
end
@[reducible]def R2:=V->V->Hp->VK->Prop
abbrev du(X:Cx)(f:aB->aB->Sem aB)(r:R2):Prop:=
 ∀(a:O (az×b9))(s:bp)(σ:St)(H:Hp)(x y:V)(v u:aB)(Q:VK),Inv X a σ H s->RelV x v->RelV y u->r x y H Q->
  aZ (bg X.prog X.w) X.A (f v u) (EP X a σ Q) X.xe s
abbrev FX(X:Cx)(f:aB->Sem aB)(r:V->Hp->VK->Prop):Prop:=
 ∀(a:O (az×b9))(s:bp)(σ:St)(H:Hp)(x:V)(v:aB)(Q:VK),Inv X a σ H s->RelV x v->r x H Q->
  aZ (bg X.prog X.w) X.A (f v) (EP X a σ Q) X.xe s
abbrev j_(X:Cx)(f:aB)(r:O V->Hp->VK->Prop):Prop:=
 ∀(a:O (az×b9))(s:bp)(σ:St)(H:Hp)(b:O V)(us:O aB)(Q:VK),Inv X a σ H s->Vals b us->r b H Q->
  aZ (bg X.prog X.w) X.A (ju f us) (EP X a σ Q) X.xe s
abbrev v7(r:R2)(a b:TE):TE:=λσ H Q=>a σ H λx c=>b σ c λy d=>r x y d Q
abbrev XG(r:V->Hp->VK->Prop)(a:TE):TE:=λσ H Q=>a σ H λx b=>r x b Q
abbrev rI(C:Int->Int->Prop)(g:Int->Int->V):R2:=λx y H Q=>∃i j,x=.int i/\y=.int j/\C i j/\Q (g i j) H
abbrev ka(g:Int->Int->V):R2:=λx y H Q=>∃i j,x=.int i/\y=.int j/\Q (g i j) H
abbrev rU(g:Int->V):V->Hp->VK->Prop:=λx H Q=>∃i,x=.int i/\Q (g i) H
section
variable{X:Cx}{a b c:aT}{ta tb tc:TE}{ao:bn}
def FY(j:PE X a ta)(k:PE X b tb){σ:St}{R:V->V->Hp->Prop}(I:Inv X aF σ H s)
  (h:ta σ H λx g=>tb σ g λy d=>R x y d){f:aB->aB->Sem aB}
  (l:∀v u e x y d,Inv X aF σ d e->RelV x v->RelV y u->R x y d->aZ (bg X.prog X.w) X.A (f v u) Q X.xe e):
  aZ (bg X.prog X.w) X.A (eval a X.env) (λv m=>aZ (bg X.prog X.w) X.A (eval b X.env) (λu n=>aZ (bg X.prog X.w) X.A (f v u) Q X.xe n) X.xe m) X.xe s:=bo (j aF s σ H _ I h) λv o i=>be i λx g p q t=>bo (k aF o σ g _ p t) λu e i=>be i λy d z C E=>l v u e x y d z q C E
def Cn(d:du X (rq op) r)(e:PE X a ta)(f:PE X b tb):PE X (rE a op b ao) (v7 r ta tb):=λg s i H Q I h=>wpAny_BinOp<|FY e f I h λv u j x y k l m n=>d g j i k x y v u Q l m n
def XH(f:FX X (unaryOp op) r)(g:PE X a ta):PE X (vC op a ao) (XG r ta):=λd s e H Q I h=>UnaryOp_<|bo (g d s e H _ I h) λv i j=>be j λx k l m n=>f d i e k x v Q l m n
def Co{g:Int->Int->Int}
  (rule:∀i j t u s Q E,C i j->Q (.int (g i j) s.toks) {s with toks:=s.toks+1}->aZ (bg X.prog X.w) X.A (f (.int i t)<|.int j u) Q E s):
  du X f (rI C λi j=>.int<|g i j):=by
 rintro aF s σ H x y v u Q I d e ⟨i,j,rfl,rfl,h,q⟩;obtain⟨t,rfl⟩:=d;obtain⟨k,rfl⟩:=e;exact rule i j t k s _ _ h ⟨.int _,H,I.tok _,⟨_,U⟩,q⟩
def LM{g:Int->Int->Int}
  (rule:∀i j t u s Q E,Q (.int (g i j) s.toks) {s with toks:=s.toks+1}->aZ (bg X.prog X.w) X.A (f (.int i t)<|.int j u) Q E s):
  du X f (ka λi j=>.int<|g i j):=by
 rintro aF s σ H x y v u Q I d e ⟨i,j,rfl,rfl,q⟩;obtain⟨t,rfl⟩:=d;obtain⟨h,rfl⟩:=e;exact rule i j t h s _ _ ⟨.int _,H,I.tok _,⟨_,U⟩,q⟩
def Cp{g:Int->Int->Bool}
  (rule:∀i j t u s Q E,Q (.bool<|g i j) s->aZ (bg X.prog X.w) X.A (f (.int i t)<|.int j u) Q E s):
  du X f (ka λi j=>.bl<|g i j):=by
 rintro aF s σ H x y v u Q I d e ⟨i,j,rfl,rfl,q⟩;obtain⟨t,rfl⟩:=d;obtain⟨h,rfl⟩:=e;exact rule i j t h s _ _ ⟨.bl _,H,I,U,q⟩
abbrev LN(i j:Int):Prop:=0<j/\j<1073741824
abbrev uf(i j:Int):Prop:=(-(2^64)<i/\i<2^64)\/(-(2^64)<j/\j<2^64)
def uf.ok(h:uf i j):IntMulOk i j:=by
 obtain⟨C,I⟩|⟨C,I⟩:=h
 .exact .of_left<|ahy C I
 .exact .of_right<|ahy C I
def XJ:du X (rq .Add) (ka λi j=>.int<|i+j):=by simp_all[LM,add_int]
def XM:du X (rq .Sub) (ka λi j=>.int<|i-j):=by simp_all[LM,sub_int]
def XN:du X (rq .Mult) (rI uf λi j=>.int<|i*j):=Co λ_ _ _ _ _ _ _ d q=>mul_int q d.ok
def XO:du X (rq .FloorDiv) (rI LN λi j=>.int<|i/j):=Co λi j _ _ _ _ _ d q=>
 have e:=d.1;have f:=d.2
 floordiv_int ap bh (.inl<|PyProof.noPylong_small bh)
def XR:du X (rq .Mod) (rI (λ_ j=>0<j) λi j=>.int<|i%j):=Co λi j _ _ _ _ _ d q=>
 have e:=d
 mod_int' aU bh
def XS:du X (T1 .Mult) (rI uf λi j=>.int<|i*j):=Co λ_ _ _ _ _ _ _ d q=>imul_int q d.ok
def XT{g:Int->Int}
  (rule:∀i t s Q E,Q (.int (g i) s.toks) {s with toks:=s.toks+1}->aZ (bg X.prog X.w) X.A (f<|.int i t) Q E s):
  FX X f (rU λi=>.int<|g i):=by
 rintro aF s σ H x v Q I d ⟨i,rfl,q⟩;obtain⟨t,rfl⟩:=d;exact rule i t s _ _ ⟨.int _,H,I.tok _,⟨_,U⟩,q⟩
def XU:FX X (unaryOp .USub) (rU λi=>.int (-i)):=by simp_all[XT,neg_int]
end
abbrev LO:V->V->Bool
 |.bH,.bH=>L|.bH,.int _=>L|.int _,.bH=>L|.bH,.bl _=>L|.bl _,.bH=>L|.bH,.str _=>L|.str _,.bH=>L
 |.int _,.int _=>L|.bl _,.bl _=>L|.str _,.str _=>L|.j8 _,.j8 _=>L
 |.int _,.str _=>L|.str _,.int _=>L|.bl _,.str _=>L|.str _,.bl _=>L
 |_,_=>aA
abbrev XV:R2:=λx y H Q=>LO x y=L/\Q (.bl<|decide<|x=y) H
abbrev XW:R2:=λx y H Q=>LO x y=L/\Q (.bl (!decide (x=y))) H
def LP:decide (V.int i=.int j)=(i==j):=ap
def LQ:decide (V.bl i=.bl j)=(i==j):=ap
def LR:decide (V.str i=.str j)=(i==j):=ap
def LS:decide (V.j8 i=.j8 j)=(i.toList==j.toList):=by rw[fV];simp
section
variable{X:Cx}{a b c:aT}{ta tb tc:TE}{ao:bn}
def e7{σ:St}(I:Inv X aF σ H s)(q:Q (.bl k) H)(e:k=d):EP X aF σ Q (.bool d) s:=by subst e;exact cn (.bl k) H I U q
def LU:du X (fi .Eq) XV:=by
 intro aF s σ H x y v u Q I g d h;obtain⟨f,q⟩:=h;cases x with
 |bH=>
  subst g;cases y with
  |bH=>subst d;exact ajE<|e7 I q cq
  |bl j=>subst d;exact ajF<|e7 I q au
  |int j=>obtain⟨e,rfl⟩:=d;exact ajG<|e7 I q cq
  |str j=>obtain⟨e,rfl⟩:=d;exact ajH<|e7 I q au
  |_=>exact absurd (show aA=L from f) gR
 |bl i=>
  subst g;cases y with
  |bH=>subst d;exact ajI<|e7 I q cq
  |bl j=>subst d;exact eq_bool<|e7 I q LQ
  |str j=>obtain⟨e,rfl⟩:=d;exact ajJ<|e7 I q au
  |_=>exact absurd (show aA=L from f) gR
 |int i=>
  obtain⟨t,rfl⟩:=g;cases y with
  |bH=>subst d;exact ajK<|e7 I q cq
  |int j=>obtain⟨e,rfl⟩:=d;exact eq_int<|e7 I q LP
  |str j=>obtain⟨e,rfl⟩:=d;exact ajL<|e7 I q au
  |_=>exact absurd (show aA=L from f) gR
 |str i=>
  obtain⟨t,rfl⟩:=g;cases y with
  |bH=>subst d;exact ajM<|e7 I q cq
  |bl j=>subst d;exact ajN<|e7 I q au
  |int j=>obtain⟨e,rfl⟩:=d;exact ajO<|e7 I q cq
  |str j=>obtain⟨e,rfl⟩:=d;exact eq_str<|e7 I q LR
  |_=>exact absurd (show aA=L from f) gR
 |j8 i=>
  obtain⟨t,rfl⟩:=g;cases y with
  |j8 j=>obtain⟨e,rfl⟩:=d;exact PySem.W.eq_bytes<|e7 I q LS
  |_=>exact absurd (show aA=L from f) gR
 |_=>cases y<;>exact absurd (show aA=L from f) gR
def LV:du X (fi .NotEq) XW:=by
 intro aF s σ H x y v u Q I g d h;obtain⟨f,q⟩:=h;cases x with
 |bH=>
  subst g;cases y with
  |bH=>subst d;exact ajP<|e7 I q cq
  |bl j=>subst d;exact ajQ<|e7 I q au
  |int j=>obtain⟨e,rfl⟩:=d;exact ajR<|e7 I q cq
  |str j=>obtain⟨e,rfl⟩:=d;exact ajS<|e7 I q au
  |_=>exact absurd (show aA=L from f) gR
 |bl i=>
  subst g;cases y with
  |bH=>subst d;exact ajT<|e7 I q cq
  |bl j=>subst d;exact ne_bool<|e7 I q<|bJ not LQ
  |str j=>obtain⟨e,rfl⟩:=d;exact ajU<|e7 I q au
  |_=>exact absurd (show aA=L from f) gR
 |int i=>
  obtain⟨t,rfl⟩:=g;cases y with
  |bH=>subst d;exact ajV<|e7 I q cq
  |int j=>obtain⟨e,rfl⟩:=d;exact ne_int<|e7 I q<|bJ not LP
  |str j=>obtain⟨e,rfl⟩:=d;exact ajW<|e7 I q au
  |_=>exact absurd (show aA=L from f) gR
 |str i=>
  obtain⟨t,rfl⟩:=g;cases y with
  |bH=>subst d;exact ajX<|e7 I q cq
  |bl j=>subst d;exact ajY<|e7 I q au
  |int j=>obtain⟨e,rfl⟩:=d;exact ajZ<|e7 I q au
  |str j=>obtain⟨e,rfl⟩:=d;exact ne_str<|e7 I q<|bJ not LR
  |_=>exact absurd (show aA=L from f) gR
 |j8 i=>
  obtain⟨t,rfl⟩:=g;cases y with
  |j8 j=>obtain⟨e,rfl⟩:=d;exact PySem.W.ne_bytes<|e7 I q<|bJ not LS
  |_=>exact absurd (show aA=L from f) gR
 |_=>cases y<;>exact absurd (show aA=L from f) gR
def Cq:du X (fi .Lt) (ka λi j=>.bl<|decide<|i<j):=by simp_all[Cp,ahz]
def eT:du X (fi .LtE) (ka λi j=>.bl<|decide<|i<=j):=by simp_all[Cp,le_int]
def XX:du X (fi .Gt) (ka λi j=>.bl<|decide<|j<i):=by simp_all[Cp,gt_int]
def XY:du X (fi .GtE) (ka λi j=>.bl<|decide<|j<=i):=by simp_all[Cp,ge_int]
def XZ:du X (fi .Is) (λx y H Q=>y=.bH/\Q (.bl<|decide<|x=.bH) H):=by
 rintro aF s σ H x y v u Q I d e ⟨rfl,q⟩;subst e;refine is_none_gen<|e7 I q ?_;cases x<;>first
  |rfl
  |(obtain⟨t,rfl⟩:=d;rfl)
def X0:du X (fi .IsNot) (λx y H Q=>y=.bH/\Q (.bl (!decide (x=.bH))) H):=by
 rintro aF s σ H x y v u Q I d e ⟨rfl,q⟩;subst e;refine isnot_none_gen<|e7 I q ?_;cases x<;>first
  |rfl
  |(obtain⟨t,rfl⟩:=d;rfl)
def LW b(h:op≠.In<|>af)(f:op≠.NotIn<|>af):AI op b=aA:=by have d:(op==.In)=aA:=bh;have e:(op==.NotIn)=aA:=bh;cases b<;>simp[AI,d,e]
def X1(d:du X (fi op) r)(e:PE X a ta)(f:PE X b tb)(g:AI op b=aA):PE X (tS a [op] [b] ao) (v7 r ta tb):=λi s j H Q I h=>wpAny_Compare1 (FY e f I h λv u k x y l m n o=>d i k j l x y v u Q m n o) g
abbrev LX(t:TE):TT:=λσ H Q=>t σ H λx d=>∃k,x=.bl k/\Q k d
def X2(i:du X (fi op) r)(j:PE X a ta)(l:PE X b tb)(m:AI op b=aA):PT X (tS a [op] [b] ao) (LX<|v7 r ta tb):=by
 refineλd s f H Q I h=>wpAny_isTrue_Compare1 (bo (j d s f H _ I h) λv n g=>be g λx o p q t=>bo (l d n f o _ p t) λu w⟨y,A,C,E,G⟩=>
  bo (i d w f A x y v u _ C q E G) λc s3 g=>be g λz N T r3 w_=>aL w_ λk e q3=>?_) m
 subst e;subst r3;exact nL ⟨N,T,q3⟩
abbrev LY(r e:R2)(ta tb tc:TE):TE:=λσ H Q=>ta σ H λx f=>tb σ f λy g=>r x y g λz d=>∃k,z=.bl k/\
 (if k=L then tc σ d λh i=>e y h i Q else Q (.bl aA) d)
def X3(p:du X (fi op) r)(q:du X (fi j) t)(w:PE X a ta)(A:PE X b tb)(C:PE X c tc)
  (E:EB [op,j] [b,c]=aA<|>alG):PE X (tS a [op,j] [b,c] ao) (LY r t ta tb tc):=by
 refineλf s g H Q I h=>ahA (bo (w f s g H _ I h) λv G i=>be i λx N T r1 q1=>T_ (bo (A f G g N _ T q1) λu s2⟨y,H2,I2,l,q2⟩=>
  bo (p f s2 g H2 x y v u _ I2 r1 l q2) λd s3 i=>be i λz m n r3 w_=>aL w_ λk e o=>?_)) E
 subst e;subst r3;apply nL;cases k with
 |false=>exact Jx ⟨.bl aA,m,n,U,o⟩
 |true=>exact Jy<|chain_last<|bo (C f s3 g m _ n o) λw' s4 i=>be i λz' H4 I4 r4 q4=>q f s4 g H4 y z' u w' Q I4 l r4 q4
def X4(q:du X (fi op) r)(t:du X (fi l) w)(A:PE X a ta)(C:PE X b tb)(E:PE X c tc)
  (G:EB [op,l] [b,c]=aA<|>alG):PT X (tS a [op,l] [b,c] ao) (LX<|LY r w ta tb tc):=by
 refineλf s g H Q I h=>isTrue_chain (bo (A f s g H _ I h) λv N i=>be i λx T I1 r1 q1=>test_link (bo (C f N g T _ I1 q1) λu s2⟨y,H2,I2,m,q2⟩=>
  bo (q f s2 g H2 x y v u _ I2 r1 m q2) λd s3 i=>be i λz n o r3 j=>aL j λk e p=>?_)) G
 subst e;subst r3;apply nL;cases k with
 |false=>
  obtain⟨k',⟨⟩,q'⟩:=p;exact Jx ⟨n,o,q'⟩
 |true=>
  refine Jy<|test_last<|bo (E f s3 g n _ o p) λw' s4⟨z',H4,I4,r4,q4⟩=>bo (t f s4 g H4 y z' u w' _ I4 m r4 q4) λd' s5 i=>be i λz2 H5 I5 r5 j=>aL j λk2 e2 q5=>?_;subst e2;subst r5;exact nL ⟨H5,I5,q5⟩
def Cr:bK<2^63:=bw
def X5:du X (rq .Add) (λx y H Q=>∃i j,x=.str i/\y=.str j/\i.length+j.length<=bK/\Q (.str<|i++j) H):=by rintro aF s σ H x y v u Q I d e ⟨i,j,rfl,rfl,f,q⟩;obtain⟨t,rfl⟩:=d;obtain⟨g,rfl⟩:=e;exact add_str (λg h=>cn (.str<|i++j) H (I.tok _) ⟨_,U⟩ q) f
def vals1(r:Vals [x] us):∃u,us=[u]/\RelV x u:=by
 cases r with
 |cons r1 r2=>cases r2<;>lia
def vals2(r:Vals [x,y] us):∃u d,us=[u,d]/\RelV x u/\RelV y d:=by
 cases r with
 |cons r1 r2=>
  cases r2 with
  |cons f e=>cases e<;>lia
def X6(f:X.calm=L):j_ X (.builtin "max") (λe H Q=>∃i j,e=[.int i,.int j]/\Q (.int<|if j>i then j else i) H):=by
 rintro aF s σ H e us Q I r ⟨i,j,rfl,q⟩;obtain⟨u,g,rfl,⟨t,rfl⟩,⟨h,rfl⟩⟩:=vals2 r;refine max_two_ints (I.ok.hd f) λl m k=>cn _ H (I.kept k) ?_ q;by_cases d:j>i
 .rw[aH d,aH d];exact⟨_,U⟩
 .rw[aD d,aD d];exact⟨_,U⟩
def X7(f:X.calm=L):j_ X (.builtin "min") (λe H Q=>∃i j,e=[.int i,.int j]/\Q (.int<|if j<i then j else i) H):=by
 rintro aF s σ H e us Q I r ⟨i,j,rfl,q⟩;obtain⟨u,g,rfl,⟨t,rfl⟩,⟨h,rfl⟩⟩:=vals2 r;refine min_two_ints (I.ok.hd f) λl m k=>cn _ H (I.kept k) ?_ q;by_cases d:j<i
 .rw[aH d,aH d];exact⟨_,U⟩
 .rw[aD d,aD d];exact⟨_,U⟩
def X8:j_ X (.type "str") (λd H Q=>∃i,d=[.int i]/\i.natAbs.log2<1920/\Q (.str<|toString i) H):=by rintro aF s σ H d us Q I r ⟨i,rfl,e,q⟩;obtain⟨u,rfl,t,rfl⟩:=vals1 r;exact PySem.P.str_of_int e ⟨.str _,H,I.tok _,⟨_,U⟩,q⟩
def X9:j_ X (.builtin "ord") (λd H Q=>∃x,d=[.str x]/\x.length=1/\Q (.int<|x.cps.getD 0 0) H):=by rintro aF s σ H d us Q I r ⟨x,rfl,e,q⟩;obtain⟨u,rfl,t,rfl⟩:=vals1 r;exact ord_of_one e ⟨.int _,H,I.tok _,⟨_,U⟩,q⟩
end
structure v8(h:bf)(x a C:az)(b:aq->Option aB):Prop where
 obj:h.get? x=Y (AD C a)
 ns:h.Ns1 a b
 ne:a≠x
def X_{h:bf}(n:h.Ns1 dx c):∃b,h.get? dx=Y b/\∀name,Ua name b=Y (c name):=by
 refine mI n λo d l f g i _ j=>?_;refine aY o f<|λname=>?_;have e:=j name;rw[nsFind,Jz,<-ahB]at e;rw[Ua,g];dsimp only;split
 .rename_i y q;rw[q]at e;exact bJ Y e
 .rename_i q;rw[q]at e;have a:d.toList.any (·.refKey)=aA:=by
   rw[va];intro y m;refine Bo (i y bh) λz t k=>?_;simp[aj0,k]
  grind
def v8.look(I:v8 h x dx C mA):∃od,PySem.W.InstAt h x (AD C dx) C (Y od)/\∀name,Ua name od=Y (mA name):=
 aL (X_ I.ns) λod ho hl=>
 ⟨od,⟨I.obj,U,U,ho⟩,hl⟩
section
variable{prog:bO}{w:bN}{A:eJ}{E:aB->bp->Prop}{s:bp}{K:aJ}{x dx C f:az}{mA:aq->aR aB}{name:aq}{v:aB}
def get_map(X:K.In s.heap)(I:v8 s.heap x dx C mA)(a:Ub K C name=L)(b:Uc K C=L)
  (c:xD K (.ref C) name=Y am)(e:mA name=v)(d:ahC v=L)(h:Q v {s with toks:=s.toks+1}):
  aZ (bg prog w) A (Ud (.ref x) name expr) Q E s:=
 aL I.look λg j i=>
 PySem.W.get_value X j (PySem.W.plainGet_of a).1 (PySem.W.findObj_own b c U bh) d h
def X'(X:K.In s.heap)(I:v8 s.heap x dx C mA)
  (d:xD K (.ref C) "__setattr__"=Y (Y<|.builtin "object.__setattr__"))(e:ahD K C=L)(g:Ue K C name=Y am)(i:Uc K C=L)
  (j:TQ mA ns)(hsz:ns.length<=bK)
  (h:∀h',v8 h' x dx C (λy=>if y=name then Y v else mA y)->AF dx s.heap h'->Q () {s with heap:=h',toks:=s.toks+2}):
  aZ (bg prog w) A (setAttr (.ref x) name v) Q E s:=by
 refine aL I.look λq N t=>?_;refine PySem.W.set_plain X N d<|PySem.W.osa_open X N e g λb=>?_;let⟨u,k,l⟩:=PySem.W.any_some i;have m:=I.obj;refine a9<|cF<|a9<|a9<|wpAny_loadPart m<|a9<|aj1 (PySem.W.looks_clsIn X k) ?_;rw[l];refine cF<|a9<|cF<|a9<|wpAny_nsSet1 I.ns λh' a c=>?_;let⟨z,G,H,n,o,p⟩:=a.count<|aj2 name v j;exact a9<|wpAny_lookBehind n (o▸pastItsLine_dict (cS p<|by rw[c_];lia))<|cF<|h _ ⟨(c.2 _<|gk I.ne).trans I.obj,a,I.ne⟩ c
def Ya(X:K.In s.heap)(a:Uf K C=L)
  (hi:xD K (.ref C) "__init__"=Y (Y<|.ref f))(b:PySem.W.typeIn K (.ref f)=Y (.type "function"))
  (h:oX (bg prog w) (A.under<|.builtin "type.__call__" ⟨.ref C::vs,kw⟩) (.call (.ref f) ⟨.ref (s⁻¹+1)::vs,kw⟩) (PySem.W.InitBack (s⁻¹+1) R)
   {s with heap:=(s.heap.push xE).push<|AD C s⁻¹}):
  oX (bg prog w) A (.call (.ref C) ⟨vs,kw⟩) R s:=
 let _:=s
 PySem.W.make_core (PySem.W.makes_of X a) (PySem.W.looks_findIn X hi) (λc=>PySem.W.bind_fn X c b) (.inl U) h
end
abbrev kO(f:aq)(v:V):O (aq×V)->O (aq×V)
 |[]=>[(f,v)]
 |(g,x)::r=>if g=f then(g,v)::r else(g,x)::kO f v r
def FZ f g v:∀b:O (aq×V),(kO f v b).lookup g=if g=f then Y v else b.lookup g
 |[]=>by
  show AJ g [_]=_;by_cases h:g=f
  .have a:=Ug.mpr h;simp[AJ,a,aH h]
  .have a:=JA.mpr h;simp[AJ,a,aD h]
 |(k,x)::r=>by
  rw[show kO f v _=(if k=f then _::r else _::kO f v r)from U];by_cases c:k=f
  .grind
  .rw[aD c];by_cases h:g=k
   .have a:=Ug.mpr h;simp[AJ,a,aD (λe:g=f=>c bh)]
   .have a:=JA.mpr h;simp[AJ,a];exact FZ f g v r
def F1 f v:∀a:O (aq×V),f∈(kO f v a).map (·.1)/\∀g,g∈a.map (·.1)->g∈(kO f v a).map (·.1)
 |[]=>⟨by simp[kO],λg h=>bh⟩
 |(k,x)::r=>by obtain⟨b,c⟩:=F1 f v r;grind[kO]
def F2 f v:∀a:O (aq×V),(kO f v a).length<=a.length+1
 |[]=>by simp[kO]
 |(k,x)::r=>by have b:=F2 f v r;grind-order [kO]
def mM.some_of(r:mM (Y v) o):∃u,o=Y u/\RelV v u:=by
 cases o with
 |none=>exact(r).elim
 |some u=>exact aY u U r
def Yb(r:RelV v u):ahC u=L:=by
 cases v with
 |bH=>cases(r);rfl
 |bl b=>cases(r);rfl
 |int i=>obtain⟨t,rfl⟩:=(r);rfl
 |str x=>obtain⟨t,rfl⟩:=(r);rfl
 |j8 b=>obtain⟨t,rfl⟩:=(r);rfl
 |B6 b=>obtain⟨t,rfl⟩:=(r);rfl
 |ref a=>cases(r);rfl
 |ty n=>cases(r);rfl
section
variable{P:bO}{w:bN}{H H':Hp}{h h':bf}{a C dx:az}{fs WU:O (aq×V)}
def LZ(c:dZ P w H h)(e:H a=Y (.ins C dx fs)):∃b,v8 h a dx C b/\(∀f,mM (fs.lookup f)<|b f)/\TQ b (fs.map (·.1))/\fs.length<=1000/\H dx=Y (.own a):=
 vD (c a _ e) λd z g i j=>b7 j λb n r q=>
 ⟨b,⟨i,n,g⟩,r,q,z,d⟩
end
structure iV(K:aJ)(C:az):Prop where
 pg:Ub K C Str.empty=L
 hd:Uc K C=L
 po:ahD K C=L
 sa:xD K (.ref C) "__setattr__"=Y (Y<|.builtin "object.__setattr__")
def iV.get{K:aJ}(c:iV K C)f:Ub K C f=L:=c.pg
abbrev dv(K:aJ)(C:az)(f:aq):Prop:=xD K (.ref C) f=Y am
def dv.Yc{K:aJ}(n:dv K C f):Ue K C f=Y am:=by rw[Ue,n];rfl
section
variable{X:Cx}{aF:O (az×b9)}{σ:St}{H:Hp}{s:bp}{a C dx:az}{fs:O (aq×V)}{f:aq}{v:V}{A:eJ}{E:aB->bp->Prop}
def Yd(I:Inv X aF σ H s)(e:H a=Y (.ins C dx fs))(c:iV X.K C)(n:dv X.K C f)(l:fs.lookup f=Y v)
  (h:∀u s',Inv X aF σ H s'->RelV v u->Q u s'):aZ (bg X.prog X.w) A (Ud (.ref a) f b) Q E s:=
 yh (LZ I.bS e) λi j r _ _ _=>
 aL (mM.some_of bh) λu g d=>
 get_map I.hW j (c.get f) c.hd n g (Yb d)<|h u _ (I.tok _) d
def Ye(I:Inv X aF σ H s)(e:H a=Y (.ins C dx fs))(c:iV X.K C)(n:dv X.K C f)(T:fs.length<1000)(ry:RelV y u)
  (h:∀s',Inv X aF σ (upd H a<|.ins C dx<|kO f y fs) s'->Q () s'):aZ (bg X.prog X.w) A (setAttr (.ref a) f u) Q E s:=by
 refine yh (LZ I.bS e) λk akF r i _ j=>?_;have l:(fs.map (·.1)).length<=bK:=by rw[aI,Uh];lia
 refine X' I.hW akF c.sa c.po n.Yc c.hd i l λm d p=>h _ ?_;have t:∃o,m.get? dx=Y o:=nV d.ns λo _ _ x _=>⟨o,x⟩
 apply I.write (e▸xF) (.inr j) (λb q G=>(p.2 b G).trans) t;refine⟨(aQ akF.ne)▸j,?_,akF.ne,d.obj,_,d.ns,λg=>?_,λg N=>?_⟩
 .have:=F2 f y fs;lia
 .rw[FZ];by_cases q:g=f
  .rwa[aH q,aH q]
  .rw[aD q,aD q];exact r g
 .by_cases q:g=f
  .exact q▸(F1 f y fs).1
  .refine(F1 f y fs).2 g<|i g λz=>N ?_;show(if g=f then Y u else k g)=am;rwa[aD q]
def Inv.made(I:Inv X aF σ H s):Inv X aF σ (upd (upd H s⁻¹<|.own<|s⁻¹+1) (s⁻¹+1)<|.ins C s⁻¹ [])
  {s with heap:=(s.heap.push xE).push<|AD C s⁻¹}:=by
 have e1:(s.heap.push xE).get? s⁻¹=xE:=fW s.heap U;have e2:=by have:=fW (s.heap.push xE) (o:=AD C s⁻¹) U;rwa[mE]at this
 have e3:(s.heap.push xE).Ns s⁻¹ _:=vH xE (#[]) _ e1 U (λe he=>absurd he au)<|λ_=>U;refine(I.laid (o:=.own _) (t':=s.toks) (λb u=>dO _) (cg _) ⟨_,e1⟩).laid (λb u=>dO _) au ?_;have ne:s⁻¹≠s⁻¹+1:=fO<|ahE _;refine⟨by rw[aQ ne,bQ],dI _,ne,e2,λ_=>am,(aj3 e3).at λo=>dO _,λ_=>xF,λy=>absurd U⟩
def Yf(b:xG e f env (eval e env)=eval e env)
  (h:aZ (bg prog w) A (eval e env) (λo c=>aZ (bg prog w) A (Ud o f L) Q E c) E s):aZ (bg prog w) A (eval (cD e f ao) env) Q E s:=
 Attribute_any_ h<|by rw[arm_eval_Attribute,b]
end
abbrev Yg(K:aJ)(d:TE)(f:aq):TE:=λσ H Q=>d σ H λx b=>∃a C e c v,x=.ref a/\b a=Y (.ins C e c)/\iV K C/\dv K C f/\c.lookup f=Y v/\Q v b
abbrev Yh(K:aJ)(e g:TE)(f:aq):TS:=λD σ H=>g σ H λy h=>e σ h λx c=>∃a C d b,x=.ref a/\c a=Y (.ins C d b)/\iV K C/\dv K C f/\b.length<1000/\
 D.nx σ (upd c a<|.ins C d<|kO f y b)
section
variable{X:Cx}{o e value:aT}{f:aq}{ao jM ug:bn}{ta tv:TE}
def L0(b:PE X e ta)(d:xG e f X.env (eval e X.env)=eval e X.env):PE X (cD e f ao) (Yg X.K ta f):=by refineλg s i H Q I h=>Yf d<|bo (b g s i H _ I h) λu E j=>be j λx k m p t=>Bq t λa C G N v w y c n l q=>?_;subst w;obtain rfl:=p;exact Yd m y c n l λT s2 z A=>cn v k z A q
def uh(i:PE X o ta)(j:PE X value tv)(k:oW value (Y<|cD o f jM) ao.line X.env=pure aA):PS X (iC [cD o f jM] value ao) (Yh X.K ta tv f):=by refineλg s b H D I h=>plainObj_wpAny_Assign_Attribute (bo (j g s b H _ I h) λu m d=>be d λy p t v q=>bo (i g m b p _ t q) λov T d=>be d λx H2 w z A=>Vj A λa C dx fs E G c n l N=>?_) k;subst E;obtain rfl:=z;exact Ye w G c n l v λs3 Q=>gq b _ Q N
end
structure cj(k:Nat)(A:eJ):Prop where
 hd:A.handled=am
 dp:A.depth+3*k+5<ahF
 un:A.units+16*k+200<fP
def cj.mono{j k:Nat}{A:eJ}(r:cj k A)(h:j<=k):cj j A:=⟨r.hd,by have:=r.dp;lia,by have:=r.un;lia⟩
def cj.deeper{k:Nat}{A:eJ}(r:cj (k+1) A)(C:gC):cj k (A.deeper C):=
 ⟨r.hd,by have:=r.dp;show A.depth+1+3*k+5<_;lia,by have:=r.un;show A.units+3+16*k+200<_;lia⟩
def cj.in1(r:cj (k+1) A):cj k A.in1:=
 ⟨r.hd,by have:=r.dp;lia,by have:=r.un;lia⟩
def Yi{A:eJ}{C:az}:(A.under<|.builtin "type.__call__" ⟨.ref C::us,kw⟩).depth=A.depth+1:=U
def Yj{A:eJ}:(A.under<|.builtin "type.__call__" ⟨.ref C::us,kw⟩).units=A.units+1:=U
def cj.make(r:cj (k+1) A)C us kw:cj k (A.under<|.builtin "type.__call__" ⟨.ref C::us,kw⟩):=
 ⟨r.hd,by have:=r.dp;rw[Yi];lia,by have:=r.un;rw[Yj];lia⟩
def cj.depth{k:Nat}{A:eJ}(r:cj k A):A.depth<ahF:=by have:=r.dp;lia
def cj.units{k:Nat}{A:eJ}(r:cj k A):A.units+64<fP:=by have:=r.un;lia
abbrev F3:TA:=λ_ H Q=>Q [] H
abbrev L5(a:TE)(b:TA):TA:=λσ H Q=>a σ H λx c=>b σ c λd e=>Q (x::d) e
section
variable{X:Cx}{e:aT}{es:O aT}{te:TE}{t:TA}{ao:bn}
def hZ:PA X [] F3:=λ_ _ _ _ H Q I h=>AK ⟨[],H,I,.nil,h⟩
def eO(b:PE X e te)(hr:PA X es t)(c:(d9 (e::es) X.env=(aA,eval e X.env)::d9 es X.env)<|>_r):PA X (e::es) (L5 te t):=by intro ao aF s σ H Q I h;rw[c];exact xH<|bo (b aF s σ H _ I h) λu d a=>be a λx f g i j=>bo (hr ao aF d σ f _ g j) λp q a=>be a λk l m n o=>cn (x::k) l m (.cons i n) o
abbrev Yk(t:TA):TE:=λσ H Q=>t σ H λa b=>a.length<=bK/\∀p,b p=am->Q (.ref p) (upd b p<|.tup a)
abbrev Ym(t:TA):TE:=λσ H Q=>t σ H λa b=>a.length<=bK/\∀p,b p=am->Q (.ref p) (upd b p<|.lst a)
def yN{d}(h:PA X es t):PE X (jW es d ao) (Yk t):=by refineλf s g H Q I i=>wpAny_Tuple_spliced (bo (h ao f s g H _ I i) λj a k=>de k λn l c r z q=>⟨by rwa[<-r.length],?_⟩);have m:=c.bS.fresh<|cg _;refine cn (.ref a⁻¹) (upd l a⁻¹ _) (c.laid (λb u=>dO _) (cg _) ?_) U<|q _ m;exact⟨z,j,r,⟨_,fW _ U,U,_,U⟩⟩
def yO(h:PA X es t):PE X (.List es ao) (Ym t):=by refineλd s f H Q I g=>wpAny_List_spliced (bo (h ao d s f H _ I g) λi a j=>de j λm k c r z q=>⟨by rwa[<-r.length],?_⟩);have l:=c.bS.fresh<|cg _;refine cn (.ref a⁻¹) (upd k a⁻¹ _) (c.laid (λb u=>dO _) (cg _) ?_) U<|q _ l;exact⟨z,i,0,r,fW _ U⟩
end
@[reducible]def Sp:=O V->Hp->VK->XK->Prop
@[reducible]def qt:=O gC->Hp->bp->XK->aB->bp->Prop
structure oj(P:bO)(w:bN)(K:aJ)(d:aq->Option aB)(a:bf)(A:eJ)(c:List gC)(s:bp)(H:Hp):Prop where
 frames:A.frames=Y c
 mod:Mod K d a
 bs:∀b o,a.get? b=Y o->s.heap.get? b=Y o/\H b=am
 oe:a.objs.size<=s⁻¹
 j9:s.heap.FunFrames a c
 qp:∀b∈iU c,H b=am
 bS:dZ P w H s.heap
 bare:xz s.gens
abbrev CE(b:O gC)(P:bO)(w:bN)(H:Hp)(s:bp)(Q:VK)(u:aB)(s':bp):Prop:=
 ∃v a,s'.os=s.os/\xz s'.gens/\Un (iU b) [] H a s.heap s'.heap/\dZ P w a s'.heap/\RelV v u/\Q v a
abbrev CR(b:qt)(a:O gC)(P:bO)(w:bN)(H:Hp)(s:bp)(Q:VK)(E:XK)(r:AL)(s':bp):Prop:=
 match r with
 |.ok (.ret u)=>CE a P w H s Q u s'
 |.ok _=>False
 |.error e=>b a H s E e s'
structure fH(P:bO)(w:bN)(K:aJ)(c:aq->Option aB)(d:bf)(e:qt)(k:Nat)(f:az)(g:k7)(ps:List aq)(sp:Sp):Prop where
 len:∀vs H Q E,sp vs H Q E->vs.length=ps.length
 run:∀(A:eJ)(a:List gC)(s:bp)(H:Hp)(b:Args)(us:List aB)(vs:List V)(Q:VK)(E:XK),cj k A->oj P w K c d A a s H->BindsTo s g b (ps.zip us)->Vals vs us->sp vs H Q E->
  oX (bg P w) A (.call (.ref f) b) (CR e a P w H s Q E) s
def fH.mono{K:aJ}(F:fH P w K mg base C j f fd ps sp)(h:j<=k):
  fH P w K mg base C k f fd ps sp:=⟨F.len,λA I s H akF us vs Q E hr=>F.run A I s H akF us vs Q E<|hr.mono h⟩
def fH.imp{K:aJ}(F:fH P w K mg base C k f fd ps sp)
  (h:∀vs H Q E,I vs H Q E->sp vs H Q E):fH P w K mg base C k f fd ps I:=
 ⟨λvs H Q E q=>F.len vs H Q E bh,λA akF s H akG us vs Q E hr he hb hv hs=>F.run A akF s H akG us vs Q E hr he hb hv bh⟩
def oj.make{K:aJ}(e:oj P w K mg base A outer s H)C us kw:
  oj P w K mg base (A.under<|.builtin "type.__call__" ⟨.ref C::us,kw⟩) outer s H:=⟨by first|exact e.frames|rfl,e.mod,e.bs,e.oe,e.j9,e.qp,e.bS,e.bare⟩
def oj.in1{K:aJ}(e:oj P w K mg base A outer s H):
  oj P w K mg base A.in1 outer s H:=⟨e.frames,e.mod,e.bs,e.oe,e.j9,e.qp,e.bS,e.bare⟩
section
variable{X:Cx}{aF:O (az×b9)}{σ:St}{H:Hp}{s s':bp}
def Inv.F4(I:Inv X aF σ H s):oj X.prog X.w X.K X.mg X.base X.A X.stack s H:=
 ⟨I.ok.frames,I.ok.mod,I.bs,cS I.ok.oe I.sz,I.stack,I.B9,I.bS,I.bare⟩
def Inv.after(I:Inv X aF σ H s)(h:CE X.stack X.prog X.w H s Q u s'):EP X aF σ Q u s':=by let⟨v,C,os,akF,un,akG,r,q⟩:=h;let⟨hh,g,d,t,akH⟩:=s';obtain rfl:=os;exact cn v C (I.call un akG akF au) r q
end
abbrev Yn(sp:Sp)(jD:O V)(E:XK)(t:TA):TE:=λσ H Q=>t σ H λvs a=>sp (vs++jD) a Q E
abbrev L6(C:az)(sp:Sp)(jD:O V)(E:XK)(t:TA):TE:=λσ H Q=>t σ H λvs b=>∀x a,b x=am->b a=am->a≠x->
 sp (.ref x::(vs++jD)) (upd (upd b a<|.own x) x<|.ins C a []) (λv c=>v=.bH/\Q (.ref x) c) E
abbrev Binds(K:aJ)(a:k7)(ps:O aq)(ds:O aB):Prop:=
 ∀(s:bp)(us:O aB),K.In s.heap->(us++ds).length=ps.length->BindsTo s a ⟨us,[]⟩ (ps.zip<|us++ds)
def Binds.all{K:aJ}(h:∀us,us.length=ps.length->tH fd ⟨us,[]⟩=pure (ps.zip us)):Binds K fd ps []:=λs us _ C=>by rw[eG]at C⊢;exact .of_eq<|h us C
abbrev Passes(a:qt)(X:Cx)(E:XK):Prop:=∀(b:O (az×b9))(σ:St)(H:Hp)(s:bp)(e:aB)(s':bp),Inv X b σ H s->a X.stack H s E e s'->X.xe e s'
section
variable{X:Cx}{CX:qt}{k:Nat}{f C:az}{fd:k7}{ps:O aq}{sp:Sp}{jD:O V}{ds:O aB}{E:XK}{x m:aq}{p ao kx:bn}{e o:aT}{es:O aT}{ta:TE}{t:TA}
def v9{σ:St}(F:fH X.prog X.w X.K X.mg X.base CX k f fd ps sp)(hr:cj k X.A)(c:Binds X.K fd ps ds)(d:Vals jD ds)(g:Passes CX X E)
  (I:Inv X aF σ H s)(r:Vals vs us)(h:sp (vs++jD) H Q E):aZ (bg X.prog X.w) X.A (ju (.ref f) us) (EP X aF σ Q) X.xe s:=by
 have a:=r.append d;have i:(us++ds).length=ps.length:=by rw[<-a.length];exact F.len _ _ _ _ h
 refine JB<|AM (F.run X.A X.stack s H _ _ _ Q E hr I.F4 (c s us I.hW i) a h) λr j b=>?_;cases r with
 |error e=>exact g aF σ H s e j I b
 |ok l=>
  cases l with
  |ret u=>exact I.after b
  |next=>assumption
  |brk=>assumption
  |cont=>assumption
def mP(F:fH X.prog X.w X.K X.mg X.base CX k f fd ps sp)(hr:cj k X.A)(b:Gl X x)(c:X.mg x=Y (.ref f))(d:k8 X.K (.ref f)=L)(g:Binds X.K fd ps ds)(i:Vals jD ds)(j:Passes CX X E)
  (l:PA X (e::es) t)(n:(x==("__debug__":aq))=aA<|>af)(u:(d9 (e::es) X.env=(aA,eval e X.env)::d9 es X.env)<|>_r)(v:(oV ao<|d9 es X.env).any (·.1)=aA<|>_r):
  PE X (b0 (aK x p) (e::es) [] ao) (Yn sp jD E t):=λy s z H Q I h=>nN<|yL I b c (xI I.ok.mod.pp d (bo (l ao y s z H _ I h) λN T G=>be G λvs H1 a r q=>⟨a.hW,v9 F hr g i j a r q⟩) u v) n
structure Mk(K:aJ)(C f:az):Prop where
 makes:Uf K C=L
 init:xD K (.ref C) "__init__"=Y (Y<|.ref f)
 fn:ahG K (.ref f)=L
 kp:k8 K (.ref C)=L
def L7{σ:St}(M:Mk X.K C f)(F:fH X.prog X.w X.K X.mg X.base CX k f fd ps sp)(hr:cj (k+1) X.A)(i:Binds X.K fd ps ds)(j:Vals jD ds)
  (l:Passes CX X E)(I:Inv X aF σ H s)(r:Vals vs us)
  (h:∀x b,H x=am->H b=am->b≠x->sp (.ref x::(vs++jD)) (upd (upd H b<|.own x) x<|.ins C b []) (λv n=>v=.bH/\Q (.ref x) n) E):
  aZ (bg X.prog X.w) X.A (ju (.ref C) us) (EP X aF σ Q) X.xe s:=by
 have d:=h _ s⁻¹ (I.bS.fresh<|Ui _) (I.bS.fresh<|cg _) au;have c:=Inv.made (C:=C) I;have g:Vals (V.ref (s⁻¹+1)::(vs++jD)) _:=.cons U<|r.append j;have q:=by have e:=g.length;rw[F.len _ _ _ _ d]at e;exact e.symm
 refine JB (Ya I.hW M.makes M.init (Ug.mp M.fn) (AM (F.run _ X.stack _ _ _ _ _ _ E (hr.make C us [])
  (c.F4.make C us []) (i _ _ c.hW q) g d) λr y a=>?_))
 cases r with
 |error e=>exact l aF σ _ _ e y c a
 |ok z=>
  cases z with
  |ret u=>
   refine de (c.after a) λv G N T akF q3=>?_;subst akF;exact⟨T,⟨V.ref _,G,N,U,q3⟩⟩
  |next=>exact kZ a
  |brk=>exact kZ a
  |cont=>exact kZ a
def Yo(M:Mk X.K C f)(F:fH X.prog X.w X.K X.mg X.base CX k f fd ps sp)(hr:cj (k+1) X.A)(b:Gl X x)(c:X.mg x=Y (.ref C))(d:Binds X.K fd ps ds)(g:Vals jD ds)(i:Passes CX X E)
  (j:PA X (e::es) t)(l:(x==("__debug__":aq))=aA<|>af)(n:(d9 (e::es) X.env=(aA,eval e X.env)::d9 es X.env)<|>_r)(u:(oV ao<|d9 es X.env).any (·.1)=aA<|>_r):
  PE X (b0 (aK x p) (e::es) [] ao) (L6 C sp jD E t):=λv s y H Q I h=>nN<|yL I b c (xI I.ok.mod.pp M.kp (bo (j ao v s y H _ I h) λG N z=>be z λT H1 a r q=>⟨a.hW,L7 M F hr d g i a r q⟩) n u) l
def Yp(M:Mk X.K C f)(F:fH X.prog X.w X.K X.mg X.base CX k f fd ps sp)(hr:cj (k+1) X.A)(a:Gl X x)(b:X.mg x=Y (.ref C))(c:Binds X.K fd ps ds)(d:Vals jD ds)(g:Passes CX X E)
  (i:(x=="__debug__")=aA<|>af):PE X (b0 (aK x p) [] [] ao) (L6 C sp jD E F3):=λj s l H Q I h=>nN<|yL I a b (PySem.W.callWith_K0 I.hW M.kp<|L7 M F hr c d g I .nil h) i
end
abbrev PK(X:Cx)(b:O AN)(t:TA):Prop:=
 ∀(c:bn)(a:O (az×b9))(s:bp)(σ:St)(H:Hp)(Q:O V->Hp->Prop),Inv X a σ H s->t σ H Q->aZ (bg X.prog X.w) X.A (evalAll<|(Uj c<|Uk b X.env).map (·.2)) (AP X a σ Q) X.xe s
section
variable{X:Cx}{CX:qt}{k:Nat}{f C:az}{fd:k7}{ps ks:O aq}{sp:Sp}{E:XK}{x m:aq}{p ao kx Yq:bn}{e o:aT}{es:O aT}{L8:O AN}{te ta:TE}{t tk:TA}{nm:aR aq}
def L9:PK X [] F3:=λ_ _ _ _ H Q I h=>wpAny_evalAll_nil ⟨[],H,I,.nil,h⟩
def L_(b:PE X e te)(hr:PK X L8 t):PK X (⟨nm,e,Yq⟩::L8) (L5 te t):=by intro ao aF s σ H Q I h;exact wpAny_evalAll_cons<|a9<|bo (b aF s σ H _ I h) λu c a=>be a λx d g i j=>a9<|Jv<|cF<|bo (hr ao aF c σ d _ g j) λy z a=>be a λl n q v w=>cn (x::l) n q (.cons i v) w
variable{g:O aB->O aB->O aB}{gV:O V->O V->O V}
end
structure im(N P:List aq)(a:dJ):Prop where
 kind:a.kind=.function
 co:a.isCoroutine=aA
 gen:a.isGenerator=aA
 nd:N.Nodup
 pre:N.take P.length=P
 par:∀x∈P,a.names.lookup x=Y .local\/a.names.lookup x=Y .cell
 Yr:∀y∈a.names,y.2≠.free
def L'{kindOf:aq->aR lL}:∀{a:O (aq×aB)}{m:aq->aR aB},(∀v,(x,v)∉a)->xJ kindOf a m x=m x
 |[],_,_=>rfl
 |(n,v)::r,m,h=>by rw[xJ,L' λw b=>h w bh];split<;>grind
def Ma{kindOf:aq->aR lL}:∀{a:O (aq×aB)}{m:aq->aR aB},(∀v,(x,v)∉a)->xK kindOf a m x=m x
 |[],_,_=>rfl
 |(n,v)::r,m,h=>by rw[xK,Ma λw b=>h w bh];split<;>grind
def Mb{kindOf:aq->aR lL}{x:aq}{v:aB}:∀{P:O aq}{vs:O aB}{i:Nat}{m:aq->aR aB},P.Nodup->P[i]?=x->vs[i]?=v->kindOf x=Y .local->
  xJ kindOf (P.zip vs) m x=v
 |[],_,_,_,_,h,_,_=>by grind-order
 |_::_,[],_,_,_,_,h,_=>by grind-order
 |p::P,w::vs,0,m,nd,a,b,c=>by simp at a b;subst a;subst b;show xJ kindOf (_::P.zip vs) m p=_;rw[xJ,L' λv d=>(tE.mp nd).1 (xx d).1,aH c];simp
 |p::P,w::vs,i+1,m,nd,a,b,c=>by unfold xJ;exact Mb (tE.mp nd).2 ‹_› ‹_› c
def Me{kindOf:aq->aR lL}{x:aq}{v:aB}:∀{P:O aq}{vs:O aB}{i:Nat}{m:aq->aR aB},P.Nodup->P[i]?=x->vs[i]?=v->kindOf x≠Y .local->
  xK kindOf (P.zip vs) m x=v
 |[],_,_,_,_,h,_,_=>by grind-order
 |_::_,[],_,_,_,_,h,_=>by grind-order
 |p::P,w::vs,0,m,nd,a,b,c=>by simp at a b;subst a;subst b;show xK kindOf (_::P.zip vs) m p=_;rw[xK,Ma λv d=>(tE.mp nd).1 (xx d).1,aD c];simp
 |p::P,w::vs,i+1,m,nd,a,b,c=>by unfold xK;exact Me (tE.mp nd).2 ‹_› ‹_› c
abbrev start(N:O aq)(vs:O V):St:=vs.map Y++Ul (N.length-vs.length) am
abbrev rY(d:qt)(P:bO)(w:bN)(K:aJ)(mg:aq->aR aB)(base:bf)(N:O aq)(a:aq)(b:dJ)(f:az)(cd:aB)(A:eJ)(outer:O gC)(s:bp)(H:Hp)(E:XK):Cx where
 prog:=P
 w:=w
 K:=K
 mg:=mg
 base:=base
 A:=A.deeper (tI a b s⁻¹ f cd)
 N:=N
 hU:=s
 vX:=H
 env:=tI a b s⁻¹ f cd
 outer:=outer
 stack:=tI a b s⁻¹ f cd::outer
 ex:=[]
 calm:=L
 fn:=λ_=>L
 pn:=[]
 xe:=λe s'=>aZ (bg P w) (A.deeper<|tI a b s⁻¹ f cd) («leaving» (tI a b s⁻¹ f cd) e) (λ_ c=>d outer H s E e c) (λg c=>d outer H s E g c) s'
def Mf{a:dJ}(h:a.names.lookup x=Y .cell):∃c,(iP n a.names []).lookup x=Y c:=TJ.mp<|ahH a.names n []<|.inl h
def Ys{CX:qt}{P:bO}{w:bN}{K:aJ}{C:aq->aR aB}{G:bf}{N ps:O aq}{o:aq}{j:dJ}{f:az}{cd:aB}{A:eJ}{I:O gC}{s s1:bp}{H:Hp}{E:XK}{us:O aB}{vs:O V}
  (S:im N ps j)(hd:A.handled=am)(g:oj P w K C G A I s H)(hl:vs.length=ps.length)(r:Vals vs us)
  (x:InCallC s s⁻¹ (xJ (tI o j s⁻¹ f cd).kindOf (ps.zip us) λ_=>am) (iP (s⁻¹+1) j.names []) (xK (tI o j s⁻¹ f cd).kindOf (ps.zip us) λ_=>am) s1):
  Inv (rY CX P w K C G N o j f cd A I s H E) [] (start N vs) H s1:=by
 have akH:=by have:=bJ jQ S.pre;rw[jr]at this;omega
 refine fF x.done λQ tk akG hk=>?_;subst akG;have T:∀b:az,b∉(rY CX P w K C G N o j f cd A I s H E).ex:=λb z=>absurd (show b∈([]:O az)from z) au;refine⟨⟨g.mod,S.kind,U,U,cg _,λy z c Q d=>?_,λy l=>?_,λy c _ h=>?_,λ_=>hd,ahI g.frames,.inr ⟨U,U⟩,λb z=>absurd z<|T b,g.bs,g.oe,λb _ _=>T b,λb z=>absurd z<|T b,g.j9,g.qp⟩,
  rfl,g.bare,Un.kept hk,⟨_,x.toInCall.ns,λi y v Q d h3=>?_⟩,λy c h=>⟨_,x.cell y c h⟩,g.bS.fresh<|cg _,λy c h=>?_,λp m=>absurd (show p∈([]:O (az×b9))from m) au,g.bS.kept hk,?_⟩
 .exact name_of_addr x.apart (gF Q)<|gF d
 .obtain l|l:=l
  .exact Mf l
  .exact absurd U<|S.Yr _<|gF l
 .exact AE<|x.above y c<|gF h
 .have t:i<vs.length:=by
   unfold start at d;by_cases t:i<vs.length
   .exact t
   .rw[Aw (by simpa using t),Um]at d;split at d<;>cases d
  have ha:vs[i]?=Y v:=by
   rw[start,ve (by simpa using t),cT]at d;cases e:vs[i]? with
   |none=>rw[e]at d;cases d
   |some a=>rw[e]at d;cases d
  refine aL (r.get ha) λu hu rv=>?_;have m:ps[i]?=Y y:=by rwa[<-S.pre,Jg bG]
  have akF:ps.Nodup:=by rw[<-S.pre];exact S.nd.sublist<|ahJ _ _
  refine aY u rv ?_;obtain k|k:=S.par y<|eD m
  .exact .inl ⟨k,Mb akF m hu k⟩
  .obtain⟨c,e⟩:=Mf (n:=s⁻¹+1) k;refine .inr ⟨.inl k,c,e,?_⟩;have q:=x.cell y c e;rwa[Me akF m hu<|by show j.names.lookup y≠_;rw[k];simp]at q
 .exact g.bS.fresh<|AE<|x.above y c<|gF h
 .unfold start;show _=N.length;rw[cC,aI,EC];grind
def Mg{l:qt}{P:bO}{w:bN}{K:aJ}{m:aq->aR aB}{p:bf}{k:Nat}{f:az}{name d:aq}{akF:AO}{C:O bY}{a:dJ}{dV kV akG pm g ct oc:aB}{an od:aR az}
  {akI:Array (aR aB)}{N ps:O aq}{sp:Sp}(lk:K.lookup f=Y ⟨oc,od,.func<|vh name d akF C a dV kV akG pm an g ct,akI⟩)(akJ:AQ K g d=L)(S:im N ps a)
  (len:∀vs H Q E,sp vs H Q E->vs.length=ps.length)
  (akK:∀(A:eJ)(h:O gC)(s:bp)H(vs:O V)Q E,cj k (A.deeper<|tI d a s⁻¹ f g)->sp vs H Q E->
   ∃t,lq (rY l P w K m p N d a f g A h s H E) C t/\t {nx:=λ_ c=>Q .bH c,rt:=Q} (start N vs) H):
  fH P w K m p l (k+1) f (vh name d akF C a dV kV akG pm an g ct) ps sp:=by
 refine⟨len,λA h s H akN us vs Q E G j hb r akH=>?_⟩;have KX:=j.mod.pp.keeps λb o e=>(j.bs b o e).1;have akL:=j.mod.nolimit.keeps λb o e=>(j.bs b o e).1
 have akM:∀y∈ps.zip us,a.names.lookup y.1=Y .local\/(a.names.lookup y.1=Y .cell/\((iP (s⁻¹+1) a.names []).lookup y.1).isSome=L):=λ⟨n,v⟩hy=>by
  obtain q|q:=S.par n (xx hy).1
  .exact .inl q
  .exact .inr ⟨q,ahH _ _ _<|.inl q⟩
 refine codeAny_call_function G.depth (KX _ _ lk) U S.co S.gen U (PySem.W.codeRec_of KX akJ)<|hb _ _ _ _ ?_;refine wpAny_newFunctionEnv_cells S.kind akM λakO he s1 x=>?_;subst he;refine⟨akL.keeps x.toInCall.keep,codeAny_func ?_⟩;refine aL (akK A h s H vs Q E (G.deeper _) akH) λt ht hq=>?_;have I:Inv (rY l P w K m p N d a f g A h s H E) [] (start N vs) H s1:=Ys S G.hd j (len _ _ _ _ akH) r x;refine kY (ht [] s1 (start N vs) H _ I hq) (λfl T i=>?_) λe T i=>i;have fin:∀{z:St}{c:Hp}{v:V}{u:aB},Inv (rY l P w K m p N d a f g A h s H E) [] z c T->RelV v u->Q v c->CE h P w H s Q u T:=
  λ{z c v u}akP rv q=>vE v c akP.os akP.bare akP.base akP.bS rv q
 cases fl with
 |ret u=>
  refine vF i λv z c akP rv q=>?_;exact fin akP rv q
 |next=>
  refine fF i λz c akP q=>?_;exact fin (v:=V.bH) (u:=Jq) akP U q
 |brk=>
  refine fF i λ_ _ _ q=>?_;exact kZ q
 |cont=>
  refine fF i λ_ _ _ q=>?_;exact kZ q
section
variable{X:Cx}{x:aq}{p ao:bn}{e:aT}{es:O aT}{t:TA}{id T:String}{r:O V->Hp->VK->Prop}
abbrev Mh(r:O V->Hp->VK->Prop)(t:TA):TE:=λσ H Q=>t σ H λvs a=>r vs a Q
def Yt(c:j_ X (.builtin id) r)(d:Gl X x)(f:X.mg x=am)(g:rm x=Y (.builtin id))(i:PA X (e::es) t)(j:x≠"__name__"<|>af)(k:(x==("__debug__":aq))=aA<|>af)
  (l:(d9 (e::es) X.env=(aA,eval e X.env)::d9 es X.env)<|>_r)(m:(oV ao<|d9 es X.env).any (·.1)=aA<|>_r):PE X (b0 (aK x p) (e::es) [] ao) (Mh r t):=λa s b H Q I h=>nN<|lr I d f g (aj4 (bo (i ao a s b H _ I h) λn o q=>be q λu v w y z=>c a o b v u n Q w y z) l m) j k
def Mi(c:j_ X (.type T) r)(d:Gl X x)(f:X.mg x=am)(g:rm x=Y (.type T))(i:PA X (e::es) t)(j:x≠"__name__"<|>af)(k:(x==("__debug__":aq))=aA<|>af)
  (l:(d9 (e::es) X.env=(aA,eval e X.env)::d9 es X.env)<|>_r)(m:(oV ao<|d9 es X.env).any (·.1)=aA<|>_r):PE X (b0 (aK x p) (e::es) [] ao) (Mh r t):=λa s b H Q I h=>nN<|lr I d f g (p5 (bo (i ao a s b H _ I h) λn o q=>be q λu v w y z=>c a o b v u n Q w y z) l m) j k
end
end _a
namespace HT
open PySem PyProof.Rows
abbrev lexLt:O Int->O Int->Bool
 |[],[]=>aA
 |[],_::_=>L
 |_::_,[]=>aA
 |x::xs,y::ys=>if x=y then lexLt xs ys else decide (x<y)
def Mj x y xs ys:lexLt (x::xs) (y::ys)=if x=y then lexLt xs ys else decide (x<y):=U
def Ml:lexLt [] []=aA:=U
def Yu y ys:lexLt [] (y::ys)=L:=U
def Yv x xs:lexLt (x::xs) []=aA:=U
def Yw A s a t c u:∃e,Uo A s (.int a t) (.int c u) e/\(e=L↔a=c):=
 ⟨_,ahK a t c u,au⟩
def Yx A s a t c u prog w E Q(h:Q (.bool<|decide<|a<c) s):
  aZ (bg prog w) A (Up .Lt (.int a t)<|.int c u) Q E s:=
  ahz h
section
open PySem.SeqAt
open PySem.AutoSeq1 (wpAny_loadPart')
open PySem.MeetsSeq PySem.MeetsSeq2 PySem.MeetsSeq3
def Yy(l b:az)(j k:Array aB)(n n2:Nat)(dd akH:aR az)(sl akI:Array (aR aB))(ns p:O Int)(hi:lM j.toList ns)(Q:lM k.toList p):
  Meets (Builtin.«tuple.__lt__» ⟨[.ref l,.ref b],[]⟩)
   (λ_ R s=>s.heap.get? l=Y {cls:=.type "tuple",dict:=dd,data:=.seq j n,slots:=sl}/\s.heap.get? b=Y {cls:=.type "tuple",dict:=akH,data:=.seq k n2,slots:=akI}/\
    R (.ok<|.ret<|.bool<|lexLt ns p) s):=
 .of_wp λT w A R s h=>by
  obtain⟨v,g,d,z,os⟩:=s;obtain⟨hl,hb,h⟩:=h;have f2:=ahL;have z1:j.size=ns.length:=by rw[<-hi.length];simp
  have z2:k.size=p.length:=by rw[<-Q.length];simp
  wp_walk using ahM hl,ahM hb,wpAny_forIn_list _ (λakF b H=>b.1=am/\H=⟨v,g,d,z,os⟩/\∃(C E:O aB)(m o:O Int),akF=C.zip E/\
   lM C m/\lM E o/\m.length+k.size=o.length+j.size/\R (.ok<|.ret<|.bool<|lexLt m o) ⟨v,g,d,z,os⟩) _
  case turn=>
   rintro⟨y,x⟩ akF b H ⟨I,rfl,C,E,m,o,f,N,G,hlen,i⟩;cases N with
   |nil=>rw[List.zip_nil_left]at f;cases f
   |cons a t akJ=>
    cases G with
    |nil=>rw[List.zip_nil_right]at f;cases f
    |cons c u akK=>
     rw[ahN]at f;injection f with akL akM
     injection akL with hy hx
     subst hy hx;rw[Mj]at i;simp only[c_]at hlen;obtain⟨e,he,akG⟩:=Yw A.in1 ⟨v,g,d,z,os⟩ a t c u;refine a9<|he T w _ _ ?_;cases e with
     |true=>
      rw[aH<|akG.mp U]at i
      wp_walk
      exact⟨U,U,_,_,_,_,akM,akJ,akK,aU,i⟩
     |false=>
      rw[aD<|λq=>absurd (akG.mpr q) gR]at i;have akN:=Yx A.in1 ⟨v,g,d,z,os⟩ a t c u T w
      wp_walk using akN
      exact⟨_,U,by simpa using i⟩
  case fin=>
   rintro⟨b1,b2⟩ H ⟨I,rfl,C,E,m,o,f,N,G,hlen,i⟩;simp only at I;subst I
   have hv:lexLt m o=decide (j.size<k.size):=by
    cases N with
    |nil=>
     cases G with
     |nil=>
      simp only[p6]at hlen;rw[Ml];exact(kF aU).symm
     |cons c u hw=>
      simp only[p6,c_]at hlen;rw[Yu];exact(dm aU).symm
    |cons a t hv=>
     cases G with
     |nil=>
      simp only[p6,c_]at hlen;rw[Yv];exact(kF aU).symm
     |cons c u hw=>
      rw[ahN]at f;cases f
   rw[hv]at i
   wp_walk
   exact⟨_,U,by simpa[aj5]using i⟩
  case h=>
   exact⟨U,U,j.toList,k.toList,ns,p,U,hi,Q,aU,h⟩
end
section
variable{prog:bO}{w:bN}{A:eJ}{E:aB->bp->Prop}{s:bp}
def Yz(c:Ew s.heap l items)(d:Ew s.heap b a)(hi:lM items.toList ns)(e:lM a.toList ms)
  (f:A.units<fP)(h:Q (.bool<|lexLt ns ms) s):aZ (bg prog w) A (fi .Lt (.ref l)<|.ref b) Q E s:=by
 let⟨⟨x,g,y,i⟩,j,k,n,m⟩:=id c;let⟨⟨z,o,data2,p⟩,q,t,u,v⟩:=id d;subst k m t v;exact richCompare_meets_room (op:=.Lt) ⟨_,j,U⟩ ⟨_,q,U⟩ PySem.F.slot_tuple_lt PySem.F.entry_tuple_lt (PySem.F.args_tuple_lt_2 _ _) (Yy l b items a n u g o i p ns ms hi e)
  ap f
abbrev jh(n d:Nat):aR Int->Nat
 |none=>d
 |some v=>if v<0 then(v+(n:Int)).toNat else min v.toNat n
def yP n d:jh n d am=d:=U
def ui(n d k:Nat):jh n d (Y k)=min k n:=U
def YA v(n d:Nat):(if v<0 then max (v+(n:Int)) 0 else min v n)=((jh n d v:Nat)):=by
 show _=(((if v<0 then(v+n).toNat else min v.toNat n):Nat):Int)
 grind
end
end HT
namespace _a
open PySem PySem.Spec PyProof.Rows
@[reducible]def TO:=St->Hp->(aR Int->Hp->Prop)->Prop
abbrev PO(X:Cx)(e:aR aT)(t:TO):Prop:=
 ∀(a:O (az×b9))(s:bp)(σ:St)(H:Hp)(Q:aR Int->Hp->Prop),Inv X a σ H s->t σ H Q->
  aZ (bg X.prog X.w) X.A (evalPart e X.env) (λu s'=>∃o b,Inv X a σ b s'/\JC u o/\Q o b) X.xe s
abbrev YB:TO:=λ_ H Q=>Q am H
abbrev YC(t:TE):TO:=λσ H Q=>t σ H λx a=>∃i,x=.int i/\Q (Y i) a
def intsAre_of:∀{us:O aB},Vals (ns.map .int) us->lM us ns:=by
 induction ns with
 |nil=>intro us r;cases r;exact .nil
 |cons n ns a=>
  intro us r;cases r with
  |cons r1 r2=>
   obtain⟨t,rfl⟩:=r1;exact .cons n t<|a r2
section
variable{X:Cx}{e:aT}{te:TE}{lo hi:aR aT}{tl th:TO}{ao p2:bn}
def Mm:PO X am YB:=by intro aF s σ H Q I h;exact cF ⟨am,H,I,.none,h⟩
def F5(h:PE X e te):PO X e (YC te):=by intro aF s σ H Q I hw;refine bo (h aF s σ H _ I hw) λu g a=>be a λx b c d f=>?_;obtain⟨i,rfl,q⟩:=f;obtain⟨t,rfl⟩:=d;exact cn i b c (.int i t) q
abbrev Mn(X:Cx)(r:V->aR Int->aR Int->Hp->VK->Prop):Prop:=
 ∀(a:O (az×b9))(s:bp)(σ:St)(H:Hp)(x:V)(v vl b:aB)(lo hi:aR Int)(c:az)(Q:VK),Inv X a σ H s->RelV x v->s.heap.IsSliceOf c vl b .none->JC vl lo->JC b hi->r x lo hi H Q->
  ∃T id,AR (.type T) "__getitem__"=pure (Y<|.builtin id)/\s.TypeIs v T/\aZ (bg X.prog X.w) X.A (AS v<|.ref c) (EP X a σ Q) X.xe s
abbrev YD(r:V->aR Int->aR Int->Hp->VK->Prop)(te:TE)(tl th:TO):TE:=λσ H Q=>te σ H λx a=>tl σ a λl b=>th σ b λu c=>r x l u c Q
def Mo(hr:Mn X r)(g:PE X e te)(i:PO X lo tl)(j:PO X hi th):PE X (cR e (.Slice lo hi am p2) ao) (YD r te tl th):=by intro aF s σ H Q I h;refine JD<|bo (g aF s σ H _ I h) λv k c=>be c λx m n o p=>?_;refine ahO<|bo (i aF k σ m _ n p) λvl t c=>be c λl w y z A=>bo (j aF t σ w _ y A) λd a c=>be c λu f C E G=>?_;apply cF;have N:Inv X aF σ f {a with heap:=a.heap.push {cls:=.type "slice",data:=.fields #[vl,d,.none]}}:=C.kept (t':=a.toks) λb ob q=>dO _ q;refine be (hr aF {a with heap:=a.heap.push {cls:=.type "slice",data:=.fields #[vl,d,.none]}} σ f x v vl d l u a⁻¹ Q N o (ahP ..) z E G) λT id hT ht hg=>?_;exact tail_any (ops:=[.ref a⁻¹,v]) ht hT hg U
abbrev yQ(a:O V)(lo hi:aR Int):O V:=(a.drop<|HT.jh a.length 0 lo).take<|HT.jh a.length a.length hi-HT.jh a.length 0 lo
def YE(a:O V)(lo hi:aR Int):(yQ a lo hi).length<=a.length:=by
 unfold yQ;rw[jr,jR]
 lia
end
abbrev om(n:Nat)(i:Int):aR Nat:=if 0<=i then(if i<n then Y i.toNat else am)else if-(n:Int)<=i then Y (i+n).toNat else am
abbrev iG{α:Type}(a:O α)(i:Int):aR α:=(om a.length i).bind λj=>a[j]?
def Mp{n:Nat}{i:Int}{j:Nat}(h:om n i=Y j):seqIndex? i n=Y j/\j<n/\-n<=i/\i<n:=by
 unfold om at h;by_cases b:0<=i
 .rw[aH b]at h;by_cases a:i<n
  .rw[aH a]at h;have e:=bL h;exact⟨by rw[Uq b a,e],ap,ap,a⟩
  .rw[aD a]at h;cases h
 .rw[aD b]at h;by_cases a:-n<=i
  .rw[aH a]at h;have e:=bL h;exact⟨by rw[seqIndex_neg ap a,e],ap,a,ap⟩
  .rw[aD a]at h;cases h
def Mq{v:α}(h:iG xs i=Y v):∃j,seqIndex? i xs.length=Y j/\xs[j]?=Y v/\j<xs.length/\-xs.length<=i/\i<xs.length:=by
 unfold iG at h;cases e:om xs.length i with
 |none=>rw[e]at h;cases h
 |some j=>
  rw[e]at h;grind[Mp]
def F6{j:Nat}{v:α}(h:xs[j]?=Y v):iG xs j=v:=by have a:=(dH.mp h).1;simp_all[om,aH,iG]
abbrev v_(b:aT):Prop:=∀o i,JE b aA o i=Ur [o,i] (AS o i)
abbrev F7(X:Cx)(r:R2):Prop:=
 ∀(value a:aT)(b:O (az×b9))(s:bp)(σ:St)(H:Hp)(x y:V)(v u:aB)(Q:VK),Inv X b σ H s->RelV x v->RelV y u->r x y H Q->
  JE a aA v u=Ur [v,u] (AS v u)->aZ (bg X.prog X.w) X.A (subscriptTail value a v u) (EP X b σ Q) X.xe s
abbrev yR(X:Cx)(id:String)(r:V->O V->Hp->VK->Prop):Prop:=
 ∀(a:O (az×b9))(s:bp)(σ:St)(H:Hp)(x:V)(b:O V)(v:aB)(us:O aB)(Q:VK),Inv X a σ H s->RelV x v->Vals b us->r x b H Q->
  aZ (bg X.prog X.w) X.A (ju (.builtin id) (v::us)) (EP X a σ Q) X.xe s
section
variable{X:Cx}{a b:aT}{ta tb:TE}{ao:bn}
def Cs(hr:F7 X r)(c:PE X a ta)(d:PE X b tb)(e:v_ b):PE X (cR a b ao) (v7 r ta tb):=λf s g H Q I h=>JD<|FY c d I h λv u i x y j k l m q=>hr a b f i g j x y v u Q k l m q<|e _ _
abbrev YF(K:aJ):R2:=λx y H Q=>∃p c i v,x=.ref p/\y=.int i/\bR K H p c/\iG c i=Y v/\Q v H
abbrev YG(K:aJ):R2:=λx y H Q=>∃p c i v,x=.ref p/\y=.int i/\cx K H p c/\iG c i=Y v/\Q v H
def F8:F7 X (YF X.K):=by
 intro value slice aF s σ H x y v u Q I l m h f;refine E' h λp xs i z n o A C q=>?_;subst n;subst o;subst l;obtain⟨t,rfl⟩:=m;refine b7 (I.list A) λE r d hz=>?_;refine yh (Mq C) λj c G h3 N T=>?_;refine aL (r.get G) λw g akF=>?_;have hl:=r.length;have hn:=Cr;have fin:EP X aF σ Q w s:=cn z H I akF q;by_cases k:0<=i
 .have e:i.toNat=j:=by
   rw[Uq k T]at c;exact bL c
  exact item_listR d.isList k ap (by rw[e];simpa using g) fin f
 .have e:(i+(E.toArray.size:Int)).toNat=j:=by
   rw[seqIndex_neg ap N]at c;rw[g8,<-hl];exact bL c
  exact ahQ (x:=w) d.isList.typeIs Us.lookup
   (wpAny_getItem_list_neg (Q:=λr s'=>r=w/\EP X aF σ Q r s') d.isList ap (by rw[g8]<;>simp_all) ap (by rw[e];simpa using g) ⟨U,fin⟩) f
def YH:F7 X (YG X.K):=by
 intro value slice aF s σ H x y v u Q I d e h f;refine E' h λp N i z g k l m q=>?_;subst g;subst k;subst d;obtain⟨t,rfl⟩:=e;refine b7 (I.tuple l) λT r c hz=>?_;refine yh (Mq m) λj n o h3 h4 h5=>?_;refine aL (r.get o) λw A C=>?_;have E:=r.length;have hn:=Cr;have fin:EP X aF σ Q w s:=cn z H I C q;exact ahQ (x:=w) c.typeIs slot_tuple_getitem.lookup
  (getItem_tuple (j:=j) (Q:=λr G=>r=w/\EP X aF σ Q r G) c ap ap (by rw[g8,<-E];exact n) (by simpa using A) ⟨U,fin⟩) f
def YI(its:O aB)n j u:oY (·.setIfInBounds j u) {cls:=.type "list",data:=.seq its.toArray n}={cls:=.type "list",data:=.seq (its.set j u).toArray n}:=by simp[oY]
def Inv.lst{σ:St}(I:Inv X aF σ H s)(h:H p=Y (.lst xs)):
  ∃its n,Vals xs its/\s.heap.get? p=Y {cls:=.type "list",data:=.seq its.toArray n}/\xs.length<=bK:=
 let⟨z,its,n,r,e⟩:=I.bS p _ h
 bG
def Inv.YJ{σ:St}{its its':O aB}(I:Inv X aF σ H s)(h:H p=Y (.lst xs))
  (ho:s.heap.get? p=Y {cls:=.type "list",data:=.seq its.toArray n})(C:f {cls:=.type "list",data:=.seq its.toArray n}={cls:=.type "list",data:=.seq its'.toArray n'})(r:Vals ys its')(hz:ys.length<=bK)t:
  Inv X aF σ (upd H p<|.lst ys) {s with heap:=s.heap.update p f,toks:=t}:=by
 have e:(s.heap.update p f).get? p=Y {cls:=.type "list",data:=.seq its'.toArray n'}:=by rw[xL f ho (by rw[C];rfl),C]
 refine I.write (by rw[h];trivial) (.inl U) (λb u hb=>(kH _ _<|gk hb).trans) ⟨_,e⟩ ?_;exact⟨hz,its',n',r,e⟩
abbrev YK:V->V->V->Hp->(Hp->Prop)->Prop:=λo i v H Q=>∃p c k j,o=.ref p/\i=.int k/\H p=Y (.lst c)/\om c.length k=Y j/\Q (upd H p<|.lst<|c.set j v)
def set_list:LH X YK:=by
 rintro aF s σ H o i v ov A u Q I h l m ⟨p,xs,k,j,rfl,rfl,hp,w,q⟩;subst h;obtain⟨t,rfl⟩:=l;refine be (I.lst hp) λe n r d C=>?_;let⟨c,E,x,y⟩:=Mp w;have z:=r.length;have G:=Cr;have N:=
  I.YJ hp d (YI e n j u) (r.set m j) bh s.toks
 by_cases f:0<=k
 .have g:=by
   rw[Uq f y]at c;exact bL c
  exact PySem.W.ki_setAt d f ap bh<|g▸bh
 .have g:(k+e.toArray.size).toNat=j:=by
   rw[seqIndex_neg aU x]at c;rw[g8,<-z];exact bL c
  exact PySem.W.ki_setBack d aU bh aU bh
def YL lo hi n:(vk lo hi am n).1=((HT.jh n 0 lo:Nat):Int)/\(vk lo hi am n).2.1=HT.jh n n hi/\(vk lo hi am n).2.2=1:=by
 refine⟨?_,?_,U⟩
 .cases lo with
  |none=>simp[vk,HT.jh]
  |some i=>
   simp[vk,HT.jh];by_cases h:i<0
   .simp[h]<;>grind
   .simp[h]<;>grind
 .cases hi with
  |none=>simp[vk,HT.jh]
  |some i=>
   simp[vk,HT.jh];by_cases h:i<0
   .simp only[h,xw]<;>grind
   .simp only[h,tD]<;>lia
def YM(its:O aB)lo hi:slicePick its.toArray lo hi am=((its.drop<|HT.jh its.length 0 lo).take<|HT.jh its.length its.length hi-HT.jh its.length 0 lo).toArray:=by refine eR (YL lo hi its.toArray.size) λc d e=>?_;rw[slicePick,c,d,e];simp only[sliceRange_one,pick_run]<;>rfl
abbrev YN(K:aJ):V->aR Int->aR Int->Hp->VK->Prop:=λx lo hi H Q=>∃a c,x=.ref a/\bR K H a c/\∀p,H p=am->Q (.ref p) (upd H p<|.lst<|yQ c lo hi)
def Mr:Mn X (YN X.K):=by rintro aF s σ H x v vl j lo hi k Q I d e f pu ⟨a,xs,rfl,g,q⟩;subst d;refine b7 (I.list g) λl r c h=>?_;have i:=r.length;refine cn ("list") _ Us.lookup c.isList.typeIs<|ahR c.isList e f pu .none au ?_ bG;rw[YM,<-i];refine cn (.ref s⁻¹) _ (I.laid (λb m=>dO _) (cg _) ?_) U<|q _<|I.bS.fresh<|cg _;exact⟨cS (YE xs lo hi) h,_,0,(r.drop _).take _,fW _ U⟩
abbrev lu:V->Bool
 |.bH=>L
 |.bl _=>L
 |.int _=>L
 |.str _=>L
 |_=>aA
abbrev qu:V->V->Bool
 |.bH,.bH=>L
 |.bl a,.bl b=>a==b
 |.bl a,.int b=>(if a then 1 else 0)==b
 |.int a,.bl b=>a==(if b then 1 else 0)
 |.int a,.int b=>a==b
 |.str a,.str b=>a==b
 |_,_=>aA
def YO{u v:aB}(e:RelV y u)(c:RelV x v)(g:lu y=L)(f:lu x=L):Uo A s u v (qu y x):=by
 cases y with
 |bH=>
  subst e;cases x with
  |bH=>subst c;exact ahS _
  |bl b=>subst c;exact aj6 b
  |int b=>obtain⟨t,rfl⟩:=c;exact aj7 b t
  |str b=>obtain⟨t,rfl⟩:=c;exact aj8 b t
  |_=>exact absurd (show aA=L from f) gR
 |bl a=>
  subst e;cases x with
  |bH=>subst c;exact aj9 a
  |bl b=>subst c;exact aj_ a b
  |int b=>obtain⟨t,rfl⟩:=c;exact aj' a b t
  |str b=>obtain⟨t,rfl⟩:=c;exact aka a b t
  |_=>exact absurd (show aA=L from f) gR
 |int a=>
  obtain⟨d,rfl⟩:=e;cases x with
  |bH=>subst c;exact akb a d
  |bl b=>subst c;exact akc a d b
  |int b=>obtain⟨t,rfl⟩:=c;exact ahK a d b t
  |str b=>obtain⟨t,rfl⟩:=c;exact ahi a d b t
  |_=>exact absurd (show aA=L from f) gR
 |str a=>
  obtain⟨d,rfl⟩:=e;cases x with
  |bH=>subst c;exact akd a d
  |bl b=>subst c;exact ake a d b
  |int b=>obtain⟨t,rfl⟩:=c;exact ahj a d b t
  |str b=>obtain⟨t,rfl⟩:=c;exact akf a d b t
  |_=>exact absurd (show aA=L from f) gR
 |_=>exact absurd (show aA=L from g) gR
abbrev uj(x:V)(u:aB):Bool:=match u with
 |.none=>qu .bH x
 |.bool b=>qu (.bl b) x
 |.int i _=>qu (.int i) x
 |.str z _=>qu (.str z) x
 |_=>aA
def Ms(r:RelV y u)(f:lu y=L):uj x u=qu y x:=by
 cases y with
 |bH=>subst r;rfl
 |bl b=>subst r;rfl
 |int i=>obtain⟨t,rfl⟩:=r;rfl
 |str z=>obtain⟨t,rfl⟩:=r;rfl
 |_=>exact absurd (f) gR
def F9:∀{c:O V}{us:O aB},Vals c us->c.all lu=L->us.any (uj x)=c.any λy=>qu y x
 |_,_,.nil,_=>rfl
 |y::c,u::us,.cons r t,f=>by rw[kE,c6]at f;rw[xM,xM,Ms r f.1,F9 t f.2]
def F_{A:eJ}{s:bp}{x:V}{v:aB}(e:RelV x v)(g:lu x=L):∀{d:O V}{us:O aB},Vals d us->d.all lu=L->∀u∈us,Uo A s u v (uj x u)
 |_,_,.nil,_=>λu c=>by grind
 |y::d,u::us,.cons r t,f=>λh c=>by
  rw[kE,c6]at f;obtain rfl|c:=cU.mp c
  .exact(Ms r f.1)▸YO r e f.1 g
  .exact F_ e g t f.2 h c
abbrev ul(x:V)(c:O V):Bool:=c.any λy=>qu y x
abbrev YQ(K:aJ)(neg:Bool):R2:=λx y H Q=>∃p c,y=.ref p/\(bR K H p c\/cx K H p c)/\lu x=L/\c.all lu=L/\Q (.bl<|if neg then !ul x c else ul x c) H
def Mt:du X (fi .In) (YQ X.K aA):=by
 rintro aF s σ H x y v u Q I f i ⟨p,xs,rfl,c,g,fs,q⟩;subst i;rcases c with c|c
 .obtain⟨d,r,e,j⟩:=I.list c;refine SeqAt.in_listAt (uj x) e.isList (λw h=>F_ f g r fs w<|by simpa using h) ⟨.bl _,H,I,U,?_⟩;rw[show d.toArray.any (uj x)=d.any (uj x) by simp,F9 r fs];exact q
 .obtain⟨d,r,e,j⟩:=I.tuple c;refine SeqAt.in_tupleAt _ e (λw h=>F_ f g r fs w bG) ⟨.bl _,H,I,U,?_⟩;rw[show d.toArray.any _=d.any (uj x) by simp,F9 r fs];exact q
def Mu:j_ X (.builtin "len") (λg H Q=>∃p ys,g=[.ref p]/\(bR X.K H p ys\/cx X.K H p ys)/\Q (.int ys.length) H):=by
 intro aF s σ H g us Q I r h;refine be h λp ys i c q=>?_;subst i;obtain⟨u,rfl,j⟩:=vals1 r;subst j;have m:=Cr;rcases c with c|c
 .obtain⟨k,d,e,l⟩:=I.list c;have f:=d.length;exact Calls.call_len_list e.isList (by simp only[g8]<;>lia) ⟨.int ys.length,H,I.tok _,⟨s.toks+1,by rw[g8,f]⟩,q⟩
 .obtain⟨k,d,e,l⟩:=I.tuple c;have f:=d.length;exact len_tuple e (by simp only[g8]<;>lia) ⟨.int ys.length,H,I.tok _,⟨s.toks+1,by rw[g8,f]⟩,q⟩
def Mw:j_ X (.type "list") (λx H Q=>∃p ys,x=[.ref p]/\(bR X.K H p ys\/cx X.K H p ys)/\∀l,H l=am->Q (.ref l) (upd H l<|.lst ys)):=by
 intro aF s σ H x us Q I r h;obtain⟨p,ys,rfl,f,q⟩:=h;refine aL (vals1 r) λu y z=>?_;subst y;subst z;have fin:∀c,Vals ys c->ys.length<=bK->∀g j,_->
   g.get? s⁻¹=Y {cls:=.type "list",dict:=am,data:=.seq c.toArray j,slots:=#[]}->EP X aF σ Q _ {s with heap:=g}:=λc d i g j A e=>
  ⟨.ref s⁻¹,_,I.laid A (cg _)<|show f_ X.prog X.w _ g _ (.lst ys)from⟨i,c,j,d,e⟩,U,q _<|I.bS.fresh<|cg _⟩
 obtain f|f:=f
 .obtain⟨c,d,k,i⟩:=I.list f;have C:=d.length;obtain⟨o,m,t,n,v⟩:=k.isList;exact ahT p (.inl U) m t v (fin c d i)<|by grind<;>lia
 .obtain⟨c,d,k,i⟩:=I.tuple f;have C:=d.length;obtain⟨o,m,t,n,v⟩:=k;exact ahT p (.inr U) m t v bh bh
abbrev F'(K:aJ)(T:String)(x:V)(H:Hp):Prop:=match x with
 |.str _=>T="str"
 |.int _=>T="int"
 |.ref p=>(T="list"/\∃c,bR K H p c)\/(T="tuple"/\∃o,K.lookup p=Y o/\o.cls=.type "tuple"/\o.dict=am)\/
   (T="dict"/\((∃kvs,H p=Y (.dK kvs))\/∃kvs,H p=Y (.dT kvs)))\/(T="set"/\∃S n,H p=Y (.set S n))
 |_=>False
def Mx{σ:St}(I:Inv X aF σ H s)(r:RelV x v)(h:F' X.K T x H):
  s.TypeIs v T/\∀a,v=.ref a->∃k,s.heap.get? a=Y k/\k.dict=am:=by
 cases x with
 |str z=>
  obtain⟨t,rfl⟩:=r;cases(h);exact⟨typeIs_str s z t,λ_ e=>nomatch e⟩
 |int i=>
  obtain⟨t,rfl⟩:=r;cases(h);exact⟨typeIs_int s i t,λ_ e=>nomatch e⟩
 |ref p=>
  subst r;obtain⟨rfl,w,m⟩|⟨rfl,o,d,q,j⟩|⟨rfl,d⟩|⟨rfl,S,n,d⟩:=h
  .let⟨y,_,l,_⟩:=I.list m;refine⟨l.isList.typeIs,λa e=>?_⟩;cases e;let⟨o,n,e,c,j,_⟩:=l;exact aY o e j
  .refine⟨⟨o,I.hW p o d,q⟩,λa e=>?_⟩;injection e with e;subst e
   exact aY o (I.hW _ o d) j
  .have z:∃o,s.heap.get? p=Y o/\o.ExactDict:=by
    obtain⟨u,d⟩|⟨u,d⟩:=d
    .let⟨_,_,_,_,o,_,_,e,f,_⟩:=I.bS p _ d;exact aY o e f
    .let⟨_,_,_,_,o,_,_,e,f,_⟩:=I.bS p _ d;exact aY o e f
   let⟨o,e,f⟩:=z;refine⟨⟨o,e,f.1⟩,λa g=>?_⟩;cases g;exact aY o e f.2.1
  .let⟨o,_,_,_,e,f,_⟩:=I.bS p _ d;refine⟨⟨o,e,f.1⟩,λa g=>?_⟩;injection g with g;subst g
   exact aY o e f.2.1
 |_=>exact kZ h
abbrev YR(K:aJ)(T:String)(r:V->O V->Hp->VK->Prop)(d:TE):TE:=λσ H Q=>d σ H λx c=>F' K T x c/\r x [] c Q
abbrev YS(K:aJ)(T:String)(r:V->O V->Hp->VK->Prop)(d:TE)(t:TA):TE:=λσ H Q=>d σ H λx c=>F' K T x c/\t σ c λe f=>r x e f Q
variable{o e:aT}{es:O aT}{to:TE}{t:TA}{name:aq}{kx mQ:bn}{T id:String}{r:V->O V->Hp->VK->Prop}
def YT(i:PlainAttrs T)(slot:Slot T name id)(j:typeOf (.builtin id)=pure (.type "method_descriptor"))(k:yR X id r)(l:PE X o to)
  (m:xG o name X.env (eval o X.env)=eval o X.env<|>_r)(n:(kx.endLine==mQ.line)=L<|>_r):PE X (b0 (cD o name kx) [] [] mQ) (YR X.K T r to):=by
 refineλc s d H Q I h=>wpAny_Call_method0_late m n<|bo (l c s d H _ I h) λv p q=>de q λx u f g w y=>?_;let⟨z,A⟩:=Mx f g w;exact vE T id i slot j z A<|Ut U<|PySem.evalArgs_none<|k c p d u x [] v [] Q f g .nil y
def yS(k:PlainAttrs T)(slot:Slot T name id)(l:typeOf (.builtin id)=pure (.type "method_descriptor"))(m:yR X id r)(n:PE X o to)(p:PA X (e::es) t)
  (q:xG o name X.env (eval o X.env)=eval o X.env<|>_r)
  (u:((oV mQ<|d9 (e::es) X.env).all (λx=>!x.1)&&(Uj mQ<|Uk [] X.env).all (λx=>x.1.isSome)
   &&decide ((e::es).length+([]:O AN).length+(if([]:O AN).isEmpty then 0 else 1)<30))=L<|>_r)
  (w:(kx.endLine==mQ.line)=L<|>_r)(y:(d9 (e::es) X.env=(aA,eval e X.env)::d9 es X.env)<|>_r)(akF:(oV mQ<|d9 es X.env).any (·.1)=aA<|>_r):
  PE X (b0 (cD o name kx) (e::es) [] mQ) (YS X.K T r to t):=by
 refineλc s d H Q I h=>wpAny_Call_method_late q u w U<|bo (n c s d H _ I h) λv z f=>de f λx A g i C E=>?_;obtain⟨G,N⟩:=Mx g i C;refine vE T id k slot l G N ?_;have j:=p mQ c z d A _ g E;rw[y]at j⊢;exact Ut ‹_› (ahU<|bo j λus s2 f=>be f λvs H2 I2 r2 q2=>m c s2 d H2 x vs v us Q I2 i r2 q2)
end
abbrev Ct(X:Cx)(id:String)(r:V->O V->Hp->VK->Prop):Prop:=
 ∀(a:O (az×b9))(s:bp)(σ:St)(H:Hp)(x:V)(b:O V)(v:aB)(us:O aB)(Q:VK),Inv X a σ H s->RelV x v->Vals b us->r x b H Q->
  aZ (bg X.prog X.w) X.A (ju (.builtin id) (v::us)) (EP X a σ Q) X.xe s
def Vals.one:∀{x:V}{us:O aB},Vals [x] us->∃u,us=[u]/\RelV x u:=by intro x us h;obtain _|⟨r,_|_⟩:=h;exact aY _ U r
def Vals.zero:∀{us:O aB},Vals [] us->us=[]
 |_,.nil=>rfl
def Vals.reverse(h:Vals xs us):Vals xs.reverse us.reverse:=by
 induction h with
 |nil=>exact .nil
 |cons r t C=>rw[xq,xq];exact Vals.append C<|.cons r .nil
section
variable{X:Cx}{aF:O (az×b9)}{σ:St}{H:Hp}{s:bp}{l b:az}{xs ys zs:O V}
def Inv.rZ{its its':O aB}(I:Inv X aF σ H s)(C:H l=Y (.lst xs))
  (e:s.heap.get? l=Y {cls:=.type "list",data:=.seq its.toArray n})(hf:f its.toArray=its'.toArray)(hv:Vals ys its')(hz:ys.length<=bK):
  Inv X aF σ (upd H l<|.lst ys) {s with heap:=s.heap.update l<|.mapSeq f,toks:=t'}:=by
 have q:=akg e f;rw[hf]at q;refine I.write (C▸trivial) (.inl U) (λb' u hb=>(kH s.heap _<|gk hb).trans) ⟨_,q⟩ ?_;exact⟨hz,its',_,hv,q⟩
def Inv.My(I:Inv X aF σ H s)(C:Vals ys its)(hz:ys.length<=bK):
  Inv X aF σ (upd H s⁻¹<|.lst ys) {s with heap:=s.heap.push {cls:=.type "list",data:=.seq its.toArray},toks:=t'}:=
 I.laid (λ_ _=>dO _) (cg _) ⟨hz,its,0,C,fW _ U⟩
def Inv.fresh(I:Inv X aF σ H s):H s⁻¹=am:=I.bS.fresh<|cg _
def Inv.pr(I:Inv X aF σ H s)(C:H l=Y (.lst xs)):xs.length<=bK/\∃its n,Vals xs its/\xs.length=its.length/\s.heap.get? l=Y {cls:=.type "list",data:=.seq its.toArray n}:=
 let⟨z,its,n,r,e⟩:=I.bS l _ C
 ⟨z,its,n,r,r.length,e⟩
def MA(h:n<=bK):ED n=aA:=by simp_all[ED]
end
section
variable{X:Cx}
abbrev YU:V->O V->Hp->VK->Prop:=λx vs H Q=>∃l a y,x=.ref l/\vs=[y]/\H l=Y (.lst a)/\a.length<bK/\Q .bH (upd H l<|.lst<|a++[y])
def MB:Ct X "list.append" YU:=by intro aF s σ H x k v us Q I b c h;refine mI h λl m y d f a o q=>?_;subst d;subst f;subst b;refine aL c.one λu g i=>?_;subst g;obtain⟨z,j,n,r,p,e⟩:=I.pr a;refine EE Uu ⟨_,e,U⟩ F.entry_list_append (F.args_list_append_2 _ _) (PySem.list_append l j.toArray n u bG) ⟨e,⟨.bH,_,I.rZ a e au (r.append<|.cons i .nil) ?_,U,q⟩⟩;grind
abbrev YV:V->O V->Hp->VK->Prop:=λx vs H Q=>∃l b a c,x=.ref l/\vs=[.ref b]/\H l=Y (.lst a)/\H b=Y (.lst c)/\a.length+c.length<=bK/\Q .bH (upd H l<|.lst<|a++c)
def YW:Ct X "list.extend" YV:=by
 rintro aF s σ H x p v us Q I f g ⟨l,b,xs,zs,rfl,rfl,d,h,t,q⟩;subst f;obtain⟨u,rfl,rfl⟩:=g.one;let⟨z,a,n,r,w,e⟩:=I.pr d;let⟨y,c,i,j,A,k⟩:=I.pr h;have m:a.toArray.size+c.toArray.size<=bK:=by rw[g8,g8];simp_all
 have o:¬(!a.toArray.isEmpty&&ED (a.toArray.size+c.toArray.size))=L:=by rw[MA m,Jm];exact gR
 refine EE JF ⟨_,e,U⟩ ahV (ahW _ _)
  (akh l a.toArray n b c.toArray i o ap ap) ⟨e,k,⟨.bH,_,I.rZ d e au (r.append j) ?_,U,q⟩⟩
 rw[cC];omega
abbrev YX:V->O V->Hp->VK->Prop:=λx vs H Q=>∃l a,x=.ref l/\vs=[]/\H l=Y (.lst a)/\Q .bH (upd H l<|.lst a.reverse)
def YY:Ct X "list.reverse" YX:=by rintro aF s σ H x g v us Q I b c ⟨l,xs,rfl,rfl,a,q⟩;subst b;have d:=c.zero;subst d;obtain⟨z,f,n,r,h,e⟩:=I.pr a;refine EE ahX ⟨_,e,U⟩ F.entry_list_reverse (F.args_list_reverse_1 _) (aki l f.toArray n bG) ⟨e,⟨.bH,_,I.rZ a e au r.reverse ?_,U,q⟩⟩;simp_all
abbrev YZ:R2:=λx y H Q=>∃l b a c,x=.ref l/\y=.ref b/\H l=Y (.lst a)/\H b=Y (.lst c)/\a.length+c.length<=bK/\∀p,H p=am->Q (.ref p) (upd H p<|.lst<|a++c)
def Y0:du X (rq .Add) YZ:=by rintro aF s σ H x y v u Q I d f ⟨l,b,xs,zs,rfl,rfl,g,h,m,q⟩;subst d;subst f;let⟨z,a,n,r,o,e⟩:=I.pr g;let⟨p,c,t,i,w,j⟩:=I.pr h;refine PySem.P.add_list e j ?_ bG;have k:a.toArray++c.toArray=(a++c).toArray:=au;exact k▸⟨.ref _,_,I.My (r.append i) bG,U,q _ I.fresh⟩
end
def Vals.ints:∀{ns:O Int}{us:O aB},Vals (ns.map .int) us->lM us ns
 |[],us,h=>by cases h;exact .nil
 |n::ns,us,h=>by
  cases h with
  |cons r t=>
   obtain⟨k,rfl⟩:=r;exact .cons n k<|Vals.ints t
def MC:∀{us:O aB}{ns:O Int},lM us ns->Vals (ns.map .int) us:=by
 intro c d a
 induction a with
 |nil=>exact .nil
 |cons n t h b=>exact eQ▸.cons (⟨t,U⟩) (b)
def Vals.Ga:∀{bs:O Bool}{us:O aB},Vals (bs.map .bl) us->us=bs.map .bool
 |[],us,h=>by cases h;rfl
 |b::bs,us,h=>by
  cases h with
  |cons r t=>
   subst r;rw[Vals.Ga t,eQ]
def Vals.wa(r:Vals [.ref a] us):us=[.ref a]:=by
 cases r with
 |cons r t=>
  cases t;subst r;rfl
def Vals.MD(r:Vals [.int i,.int j] us):∃t u,us=[.int i t,.int j u]:=by
 cases r with
 |cons r t=>
  cases t with
  |cons r2 C=>
   cases C;obtain⟨t,rfl⟩:=r;obtain⟨u,rfl⟩:=r2;grind
section
variable{prog:bO}{w:bN}{A:eJ}{E:aB->bp->Prop}{s:bp}{l:az}{its:O aB}{ns:O Int}{Q:aB->bp->Prop}
def Y1(f:A.handled=am)(c:s.heap.IsList l its.toArray)(hi:lM its ns)
  (h:∀h' a t',(∀b o,s.heap.get? b=Y o->h'.get? b=Y o)->Q (.int ns.sum t') {s with heap:=h',toks:=a}):aZ (bg prog w) A (ju (.builtin "sum") [.ref l]) Q E s:=by
 let⟨g,e⟩:=hi.allInts.items;have d:JG (xN g).toList=ns:=by rw[<-e];exact hi.numsOf
 rw[JH]at d;rw[e]at c;refine PySem.sum_intListG f c λh' a t' i=>?_;have:=h h' a t' i;rwa[preSum_eq,JI au,d]
def Y2(i:A.handled=am)(f:s.heap.IsList l its.toArray)(hi:lM its ns)(k:0<ns.length)
  (h:∀h' c M t',(∀b o,s.heap.get? b=Y o->h'.get? b=Y o)->M∈ns->(∀a,a∈ns->a<=M)->Q (.int M t') {s with heap:=h',toks:=c}):aZ (bg prog w) A (ju (.builtin "max") [.ref l]) Q E s:=by
 obtain⟨d,e⟩:=hi.allInts.items;have g:JG (xN d).toList=ns:=by rw[<-e];exact hi.numsOf
 rw[JH]at g;subst g;rw[e]at f;have m:=by simpa using k
 refine PySem.max_intList i f m λv h' c n p=>?_;obtain⟨t,rfl⟩:=JK n;obtain⟨z,q⟩:=argBest_gt (JL d)<|d.size-1;refine h h' c _ t p ?_ λa u=>?_
 .rw[AT];exact Uv<|by rw[aI,mF];omega
 .refine aL (Uw u) λj x y=>?_;subst y;rw[aI,mF]at x;rw[<-AT];exact q j aU
def Y3(i:A.handled=am)(f:s.heap.IsList l its.toArray)(hi:lM its ns)(k:0<ns.length)
  (h:∀h' c M t',(∀b o,s.heap.get? b=Y o->h'.get? b=Y o)->M∈ns->(∀a,a∈ns->M<=a)->Q (.int M t') {s with heap:=h',toks:=c}):aZ (bg prog w) A (ju (.builtin "min") [.ref l]) Q E s:=by
 obtain⟨d,e⟩:=hi.allInts.items;have g:JG (xN d).toList=ns:=by rw[<-e];exact hi.numsOf
 rw[JH]at g;subst g;rw[e]at f;have m:=by simpa using k
 refine PySem.min_intList i f m λv h' c n p=>?_;obtain⟨t,rfl⟩:=JK n;obtain⟨z,q⟩:=argBest_lt (JL d)<|d.size-1;refine h h' c _ t p ?_ λa u=>?_
 .rw[AT];exact Uv<|by rw[aI,mF];omega
 .refine aL (Uw u) λj x y=>?_;subst y;rw[aI,mF]at x;rw[<-AT];exact q j aU
end
section
variable{X:Cx}
abbrev Y4(K:aJ):O V->Hp->VK->Prop:=λvs H Q=>∃(a:az)(ns:O Int),vs=[V.ref a]/\bR K H a (ns.map V.int)/\Q (.int ns.sum) H
abbrev Y5(K:aJ):O V->Hp->VK->Prop:=λvs H Q=>∃(a:az)(ns:O Int),vs=[V.ref a]/\bR K H a (ns.map V.int)/\0<ns.length/\∀m,m∈ns->(∀y,y∈ns->y<=m)->Q (.int m) H
abbrev Y6(K:aJ):O V->Hp->VK->Prop:=λvs H Q=>∃(a:az)(ns:O Int),vs=[V.ref a]/\bR K H a (ns.map V.int)/\0<ns.length/\∀m,m∈ns->(∀y,y∈ns->m<=y)->Q (.int m) H
def Y7(b:X.calm=L):j_ X (.builtin "sum") (Y4 X.K):=by rintro aF s σ H g us Q I r ⟨a,ns,rfl,c,q⟩;refine b7 (I.list c) λh d e _=>?_;exact(Vals.wa r)▸Y1 (I.ok.hd b) e.isList d.ints λi j k f=>cn (.int _) H (I.kept f) ⟨_,U⟩ q
def Y8(b:X.calm=L):j_ X (.builtin "max") (Y5 X.K):=by rintro aF s σ H j us Q I r ⟨a,ns,rfl,c,d,q⟩;refine b7 (I.list c) λk e f _=>?_;rw[Vals.wa r];exact Y2 (I.ok.hd b) f.isList e.ints d λl n m o g h i=>cn (.int _) H (I.kept g) ⟨_,U⟩<|q m h i
def Y9(b:X.calm=L):j_ X (.builtin "min") (Y6 X.K):=by rintro aF s σ H j us Q I r ⟨a,ns,rfl,c,d,q⟩;refine b7 (I.list c) λk e f _=>?_;exact(Vals.wa r)▸Y3 (I.ok.hd b) f.isList e.ints d λl n m o g h i=>cn (.int _) H (I.kept g) ⟨_,U⟩<|q m h i
end
def ME(b:s.heap.IsList l items)
  (h:∀a,a={s with heap:=s.heap.push {cls:=.type "list_iterator",data:=.fields #[.ref l,.int 0 0]}}->
   (a.heap.IsListIter s⁻¹ l 0/\a.heap.IsList l items)->l≠s⁻¹->Q (.ref s⁻¹) a):aZ (bg prog w) A (Ez<|.ref l) Q E s:=
 have c:=
                    aL b λ_ e _=>
                    cA e
 T8 b (h _ U ⟨⟨_,fW _ U,U,U⟩,b.push _⟩<|fO c)
def MF{bs:O Bool}(e:its=bs.map .bool):
  TruthOf prog w A (λi v=>its.toArray[i]?=Y v) (λi=>bs.getD i aA):=λi v s Q E a b=>by
 grind-order [cT,jt,nL]
def any_range:∀bs:O Bool,(c8 bs.length).any (λi=>bs.getD i aA)=bs.any id:=by
 intro a
 induction a with
 |nil=>exact U
 |cons b bs c=>
  rw[c_,Ux,xM,JM,xM,<-c];rfl
def all_range:∀bs:O Bool,(c8 bs.length).all (λi=>bs.getD i aA)=bs.all id
 |[]=>rfl
 |b::bs=>by rw[c_,Ux,kE,AU,kE,<-all_range bs];rfl
section
variable{X:Cx}
abbrev Y_(K:aJ):O V->Hp->VK->Prop:=λvs H Q=>∃(a:az)(bs:O Bool),vs=[V.ref a]/\bR K H a (bs.map V.bl)/\Q (.bl<|bs.any id) H
abbrev Y'(K:aJ):O V->Hp->VK->Prop:=λvs H Q=>∃(a:az)(bs:O Bool),vs=[V.ref a]/\bR K H a (bs.map V.bl)/\Q (.bl<|bs.all id) H
def Za(f:X.calm=L):j_ X (.builtin "any") (Y_ X.K):=by
 rintro aF s σ H p us Q I r ⟨a,bs,rfl,g,q⟩;refine b7 (I.list g) λh i j _=>?_;rw[Vals.wa r];have d:=i.Ga;refine call_any_walk<|ME j.isList λt k st l=>?_;subst k;refine⟨_,_,_,_,_,_,_,U,AV (A:=X.A.in1) (I.ok.hd f) _ a l h.toArray,st,MF d,λu v m=>cn (.bl _) H (I.kept λb o e=>m b o (λc=>?_)<|dO _ e) ?_ q⟩
 .obtain n|c:=cU.mp c
  .exact absurd (n▸cA e)<|kX _
  .cases c
 .show Eu _=Eu _;rw[<-any_range,d,g8,aI]
def Zb(f:X.calm=L):j_ X (.builtin "all") (Y' X.K):=by
 rintro aF s σ H p us Q I r ⟨a,bs,rfl,g,q⟩;refine b7 (I.list g) λh i j _=>?_;rw[Vals.wa r];have d:=i.Ga;refine call_all_walk<|ME j.isList λt k st l=>?_;subst k;refine⟨_,_,_,_,_,_,_,U,AV (A:=X.A.in1) (I.ok.hd f) _ a l h.toArray,st,MF d,λu v m=>cn (.bl _) H (I.kept λb o e=>m b o (λc=>?_)<|dO _ e) ?_ q⟩
 .obtain n|c:=cU.mp c
  .exact absurd (n▸cA e)<|kX _
  .cases c
 .show Eu _=Eu _;rw[<-all_range,d,g8,aI]
end
mutual
inductive Dp (K:aJ) (H:Hp):V->jv->Prop
 |bH:Dp K H .bH .none
 |bl (b:Bool):Dp K H (.bl b) (.bool b)
 |int (i:Int):Dp K H (.int i) (.int i)
 |str (x:aq):Dp K H (.str x) (.str x)
 |lst {a:az} {c:List V} {ds:List jv}:bR K H a c->lV K H c ds->Dp K H (.ref a) (.list ds)
 |tup {a:az} {c:List V} {ds:List jv}:cx K H a c->lV K H c ds->Dp K H (.ref a) (.tuple ds)
inductive lV (K:aJ) (H:Hp):List V->List jv->Prop
 |nil:lV K H [] []
 |cons {v:V} {vs:List V} {d:jv} {ds:List jv}:Dp K H v d->lV K H vs ds->lV K H (v::vs) (d::ds)
end
section
variable{X:Cx}{aF:O (az×b9)}{σ:St}{H:Hp}{s:bp}
mutual
theorem Dp.reads (I:Inv X aF σ H s):∀(d:jv)(v:V)(u:aB),Dp X.K H v d->RelV v u->∃a,Reads s.heap u d a
 |.none,_,_,h,r=>by cases h;cases r;exact⟨_,Reads.none⟩
 |.bool b,_,_,h,r=>by cases h;cases r;exact⟨_,Reads.bool b⟩
 |.int i,_,_,h,r=>by cases h;obtain⟨t,rfl⟩:=r;exact⟨_,Reads.int i t⟩
 |.str x,_,_,h,r=>by cases h;obtain⟨t,rfl⟩:=r;exact⟨_,Reads.str x t⟩
 |.list ds,_,_,h,r=>by
  cases h with
  |lst c e=>
   cases r;obtain⟨its,f,⟨o,n,g,j,_,k⟩,_⟩:=I.list c;obtain⟨a,hr⟩:=Dp.readsAll I ds _ its e f;exact⟨_,Reads.list g j k hr⟩
 |.tuple ds,_,_,h,r=>by
  cases h with
  |tup c e=>
   cases r;obtain⟨its,f,⟨o,g,j,n,k⟩,_⟩:=I.tuple c;obtain⟨a,hr⟩:=Dp.readsAll I ds _ its e f;exact⟨_,Reads.tuple g j k hr⟩
 |.dict _,_,_,h,_=>by cases h
theorem Dp.readsAll (I:Inv X aF σ H s):∀(ds:List jv)(vs:List V)(us:List aB),lV X.K H vs ds->Vals vs us->∃a,ReadsAll s.heap us ds a
 |[],_,_,h,r=>by cases h;cases r;exact⟨_,akj⟩
 |d::ds,_,_,h,r=>by
  cases h with
  |cons l m=>
   cases r with
   |cons r1 r2=>
    obtain⟨a,p⟩:=Dp.reads I d _ _ l r1;obtain⟨bs,q⟩:=Dp.readsAll I ds _ _ m r2;exact⟨_,akk p q⟩
end
end
section
variable{X:Cx}
abbrev Zd(K:aJ):R2:=λx y H Q=>∃d e,Dp K H x d/\Dp K H y e/\vm d=L/\vm e=L/\Q (.bl<|vn d e) H
abbrev Ze(K:aJ):R2:=λx y H Q=>∃d e,Dp K H x d/\Dp K H y e/\vm d=L/\vm e=L/\Q (.bl (!vn d e)) H
def Zf(a:X.A.units+64<fP):du X (fi .Eq) (Zd X.K):=by rintro aF s σ H x y v u Q I b c ⟨d,e,hd,he,f,g,q⟩;let⟨j,h⟩:=Dp.reads I d x v hd b;let⟨bs,i⟩:=Dp.reads I e y u he c;exact ahY h i f g a ⟨.bl _,H,I,U,q⟩
def Zg(a:X.A.units+64<fP):du X (fi .NotEq) (Ze X.K):=by rintro aF s σ H x y v u Q I b c ⟨d,e,hd,he,f,g,q⟩;let⟨j,h⟩:=Dp.reads I d x v hd b;let⟨bs,i⟩:=Dp.reads I e y u he c;exact SeqAt.compareNe_shaped h i f g a ⟨.bl _,H,I,U,q⟩
end
@[reducible]def MG(h:bf)(c:az)(v:aR aB):Prop:=h.IsCell c v
abbrev Ge(a b:dJ):dJ:=
 {a with names:=a.names.map λ(n,k)=>if(k==.free&&b.kind==.function&&b.names.lookup n==Y .cell)then(n,.cell)else(n,k)}
abbrev io(cells:O (aq×az)):O (aq×lL)->O (aq×az)->O (aq×az)
 |[],acc=>acc
 |(n,k)::r,acc=>if k==.free then io cells r ((n,(cells.lookup n).getD 0)::acc)else io cells r acc
def MH b(f:aq×lL->O (aq×az)->Sem (ForInStep<|O<|aq×az))
  (g:∀n k c,f (n,k) c=if k==.free then(do let a<-cellOf b n;pure<|.yield ((n,a)::c))else pure (.yield c)):
  ∀names acc,(∀y∈names,y.2=.free->∃c,b.cells.lookup y.1=Y c)->forIn names acc f=pure (io b.cells names acc)
 |[],acc,_=>rfl
 |(n,k)::r,acc,h=>by
  rw[Uy,g];have i:=λacc=>MH b f g r acc λy l=>h y<|ja _ l;unfold io;by_cases d:(k==EF)=L
  .rw[aH d,aH d];obtain⟨c,j⟩:=h _ ig ap;have e:cellOf b n=pure c:=by rw[cellOf,j]
   rw[e];have m:(b.cells.lookup n).getD 0=c:=j▸U;exact m▸(i _)
  .rw[aD d,aD d];exact i _
def Zh(h:∀y∈a.names,y.2=.free->∃c,env.cells.lookup y.1=Y c):Uz a env=pure (io env.cells a.names []):=by simp only[Uz];rw[MH env _ au a.names [] h];rfl
def mem_lookup{α:Type}:∀{l:O (aq×α)}{n:aq}{c:α},(n,c)∈l->∃a,l.lookup n=Y a
 |(k,v)::r,n,c,h=>by
  rw[p7];cases b:n==k with
  |true=>simp
  |false=>
   obtain e|h:=cU.mp h
   .lia
   .exact mem_lookup h
def Cu:∀{names:O (aq×lL)}{acc:O (aq×az)}{n:aq}{c:az},(n,c)∈io cells names acc->(n,c)∈acc\/((n,.free)∈names/\c=(cells.lookup n).getD 0)
 |[],_,_,_,h=>.inl h
 |_::r,acc,n,c,h=>by
  unfold io at h;split at h
  .rename_i a;have a:=aU;obtain h|⟨b,d⟩:=Cu h
   .grind
   grind
  .obtain h|_:=Cu h
   .exact .inl h
   grind
def Zi:∀{names:O (aq×lL)}{acc:O (aq×az)}{p:aq×az},p∈acc->p∈io cells names acc:=by
 intro b acc p h
 induction b generalizing acc p h with
 |nil=>exact h
 |cons _ r a=>
  rw[io];split
  .exact a<|ja _ h
  .exact a h
def Gf:∀{names:O (aq×lL)}{acc:O (aq×az)}{n:aq},(n,.free)∈names->(n,(cells.lookup n).getD 0)∈io cells names acc
 |_::r,acc,n,h=>by
  unfold io;obtain e|h:=cU.mp h
  .subst e;exact Zi ig
  .split
   .exact Gf h
   .exact Gf h
def yT:∀{names:O (aq×lL)}{h:bf}{acc:O (aq×az)}{x:aq}{c:az},(x,c)∈iP h.objs.size names acc->
  (x,c)∈acc\/((x,.cell)∈names/\h.objs.size<=c/\MG (vo h names) c am)
 |[],_,_,_,_,h=>.inl h
 |_::r,h,acc,x,c,hm=>by
  unfold iP at hm;rw[vo];split at hm
  .rename_i a;rw[aH a];have a:=by simpa using a
   rw[<-mE h {cls:=.type "cell",data:=.cell am}]at hm;obtain hm|⟨d,b,f⟩:=yT hm
   .obtain e|hm:=cU.mp hm
    .cases e;exact .inr ⟨a▸ig,cg _,_,JN r _ _ _<|fW _ U,U⟩
    .exact .inl hm
   .rw[mE]at b;exact .inr<|by grind-order
  .rename_i a;rw[aD a];obtain hm|_:=yT hm
   .exact .inl hm
   .exact .inr bG
def MI:∀{names:O (aq×lL)}{n:Nat}{acc:O (aq×az)}{p:aq×az},p∈acc->p∈iP n names acc:=by
 intro b n acc p h
 induction b generalizing n acc p h with
 |nil=>exact h
 |cons _ r a=>
  rw[iP];split
  .exact a bh
  .exact a h
def Gh:∀{names:O (aq×lL)}{n:Nat}{acc:O (aq×az)}{x:aq},(x,.cell)∈names->∃c,(x,c)∈iP n names acc
 |_::r,n,acc,x,h=>by
  unfold iP;obtain e|h:=cU.mp h
  .grind[MI,ig]
  .split
   .exact Gh h
   .exact Gh h
def Gi:∀{names:O (aq×lL)}{h:bf}{acc:O (aq×az)}{x y:aq}{c:az},(∀p∈acc,p.2<h.objs.size)->(∀x y c,(x,c)∈acc->(y,c)∈acc->x=y)->
  (x,c)∈iP h.objs.size names acc->(y,c)∈iP h.objs.size names acc->x=y
 |[],_,_,_,_,_,_,hi,e,d=>hi _ _ _ e d
 |_::r,h,acc,x,y,c,g,hi,e,d=>by
  unfold iP at e d;split at e
  .rename_i f;rw[aH f]at d;rw[<-mE h {cls:=.type "cell",data:=.cell am}]at e d;refine Gi (λp i=>?_) (λx y c a b=>?_) e d
   .rw[mE];grind
   grind
  .rename_i f;rw[aD f]at d;exact Gi g hi e d
def Zj{A:eJ}{code:aB}(h:Q (newEnv bP s⁻¹ globals (iP (s⁻¹+1) bP.names closure) gx func code around builtins)
   {s with heap:=vo (s.heap.push {cls:=.type "dict",data:=.dict #[]}) bP.names}):
  aZ M A (newFunctionEnv bP globals closure [] gx func code (Y around) builtins) Q E s:=by
 refine a9<|wpAny_alloc<|a9<|wpAny_layCells _ au bP.names closure _ _ ?_;rw[mE ..];exact a9<|cF<|cF h
def Gj{b:dJ}:∀{names:O (aq×lL)}{x:aq}{k:lL},
  (names.map λ(n,k)=>if(k==EF&&b.kind==.function&&b.names.lookup n==Y .cell)then(n,ahZ)else(n,k)).lookup x=Y k->
  ∃e,names.lookup x=Y e/\(k=e\/(e=.free/\k=.cell))
 |[],_,_,h=>by simp at h
 |(n,f)::r,x,k,h=>by
  have g:=@Gj b r x k;have a:AJ x ((if _=L then _ else(n,f))::(r.map _))=Y k:=h;cases c:x==n with
  |true=>
   simp only[p7,c];by_cases d:(f==EF&&b.kind==.function&&b.names.lookup n==Y .cell)=L
   .rw[aH d]at a;simp[p7,c]at a;subst a;simp at d;exact ap
   .rw[aD d]at a;simp[p7,c]at a;subst a;exact ap
  |false=>
   simp[p7,c];by_cases d:(f==EF&&b.kind==.function&&b.names.lookup n==Y .cell)=L
   .rw[aH d]at a;simp only[p7,c]at a;exact g a
   .rw[aD d]at a;simp only[p7,c]at a;exact g a
structure oo(N:List aq)(b a:dJ)(own:List (aq×Nat)):Prop where
 kind:a.kind=.function
 uniq:∀y∈a.names,a.names.lookup y.1=Y y.2
 ix:∀p∈own,N[p.2]?=Y p.1
 free:∀y∈a.names,y.2=.free->b.names.lookup y.1=Y .cell\/b.names.lookup y.1=Y .free
 own:∀y∈a.names,y.2=.local\/y.2=.cell->y.1∈own.map (·.1)\/y.1∉N
abbrev wipe(σ:St):O Nat->St
 |[]=>σ
 |v::vs=>(wipe σ vs).set v am
def MJ σ:∀vs,(wipe σ vs).length=σ.length:=by
 intro a
 induction a with
 |nil=>exact U
 |cons v vs b=>rw[wipe,fX,b]
def MK:∀{vs:O Nat},(wipe σ vs)[i]?=Y (Y x)->σ[i]?=Y (Y x)/\i∉vs:=by
 intro c h
 induction c with
 |nil=>exact⟨h,au⟩
 |cons v vs d=>
  unfold wipe at h;by_cases a:v=i
  .subst a;by_cases b:v<(wipe σ vs).length
   .rw[TW b]at h;cases h
   .rw[tG<|by simpa using b]at h;cases h
  .rw[xA a]at h;let _:=d h;exact(by grind-order)
@[reducible]def Cx.fu(X:Cx)(s:bp)(H:Hp)(C:dJ)(I:gC)(fp:O az):Cx:={X with hU:=s,vX:=H,env:=I,outer:=X.stack,ex:=fp,fn:=λx=>C.names.lookup x==Y .cell,pn:=[],xe:=λ_ _=>False}
section
variable{X:Cx}{aF:O (az×b9)}{σ:St}{H:Hp}{s:bp}
def Zk{f:dJ}{own:O (aq×Nat)}{fp:O az}(I:Inv X aF σ H s)(ok:oo X.N X.env.scope f own)(hN:X.N.Nodup)(G:∀b∈fp,fb X aF H b/\b<s⁻¹):
  Inv (X.fu s H f (ii f (iP (s⁻¹+1) f.names<|io X.env.cells f.names []) s⁻¹ X.env) fp) [] (wipe σ<|own.map (·.2)) H {s with heap:=vo (s.heap.push {cls:=.type "dict",data:=.dict #[]}) f.names}:=by
 have akM:∀y∈f.names,y.2=.free->∃c,X.env.cells.lookup y.1=Y c:=λy t e=>by
  rcases ok.free y t e with k|k
  .exact I.ok.has _<|.inl k
  .exact I.ok.has _<|.inr k
 generalize akF:ii f (iP (s⁻¹+1) f.names<|io X.env.cells f.names []) s⁻¹ X.env=d;have kp:∀b o,s.heap.get? b=Y o->(vo (s.heap.push {cls:=.type "dict",data:=.dict #[]}) f.names).get? b=Y o:=λb o e=>JN _ _ _ _<|dO _ e;have hL:d.locals=s⁻¹:=by rw[<-akF];rfl
 have E:d.cells=iP (s⁻¹+1) f.names (io X.env.cells f.names []):=akF.symm▸U;have akH:d.scope=Ge f X.env.scope:=by rw[<-akF];rfl
 rw[<-mE s.heap {cls:=.type "dict",data:=.dict #[]}]at E;have cm:∀{y c},(y,c)∈io X.env.cells f.names []->X.env.cells.lookup y=Y c/\c<s⁻¹:=λ{y c}l=>by
  obtain l|⟨g,rfl⟩:=Cu l
  .contradiction
  .obtain⟨c,hc⟩:=akM _ g U;rw[hc];obtain⟨w,z⟩:=I.cell _ _ hc;exact⟨U,z.lt⟩
 have akI:∀{y c},d.cells.lookup y=Y c->(X.env.cells.lookup y=Y c/\c<s⁻¹)\/(s⁻¹+1<=c/\MG (vo (s.heap.push {cls:=.type "dict",data:=.dict #[]}) f.names) c am):=λ{y c}e=>by
  rw[E]at e;rcases yT (gF e)with l|⟨_,u,h3⟩
  .exact .inl<|cm l
  .rw[mE]at u;exact .inr ⟨u,h3⟩
 have akK:∀{y},f.names.lookup y=Y .free->∃c,d.cells.lookup y=Y c/\X.env.cells.lookup y=Y c:=λ{y}hl=>by
  have t:(y,EF)∈f.names:=gF hl;obtain⟨c',h⟩:=mem_lookup<|MI (names:=f.names) (n:=(s.heap.push {cls:=.type "dict",data:=.dict #[]}).objs.size)<|Gf (cells:=X.env.cells) (acc:=[]) t;rw[<-E]at h;refine aY c' h ?_;rw[E]at h;obtain l|⟨g,_,_⟩:=yT<|gF h
  .exact(cm l).1
  .have:=ok.uniq _ g;rw[hl]at this;cases this
 have akN:(X.fu s H f d fp).Ok:=by
  refine⟨I.ok.mod,by show d.scope.kind=_;rw[akH];exact ok.kind,by show d.globals=_;rw[<-akF];exact I.ok.glob,by show d.builtins=_;rw[<-akF];exact I.ok.blt,by show s⁻¹<=d.locals;rw[hL];exact cg _,
   λy z c v x=>?_,λy t=>?_,λy c z e=>?_,I.ok.hd,I.ok.frames,.inl U,λb A=>⟨?_,λy c e z=>?_⟩,I.bs,cS I.ok.oe I.sz,λb o e A=>?_,λb A z=>?_,I.stack,I.B9⟩
  .have v:d.cells.lookup y=Y c:=v;have x:d.cells.lookup z=Y c:=x;rw[E]at v x;refine Gi (λp Q=>?_) (λy z c a b=>I.ok.inj y z c (cm a).1 (cm b).1) (gF v)<|gF x;rw[mE];exact ah0 (cm (y:=p.1) (c:=p.2) Q).2
  .show∃c,d.cells.lookup y=Y c;have T:∀k,d.kindOf y=Y k->(k=.cell\/k=.free)->∃c,d.cells.lookup y=Y c:=λk hk akJ=>by
    rw[Env.kindOf,akH]at hk;refine aL (Gj hk) λC e r=>?_;have:C=.cell\/C=.free:=by
     rcases r with rfl|⟨rfl,_⟩
     .exact akJ
     .exact .inr U
    rcases this with rfl|rfl
    .obtain⟨c,l⟩:=Gh (n:=(s.heap.push {cls:=.type "dict",data:=.dict #[]}).objs.size) (acc:=io X.env.cells f.names [])<|gF e;obtain⟨c',h⟩:=mem_lookup l;exact⟨c',by rw[E];exact h⟩
    .refine aL (akK e) λc g _=>?_;exact⟨c,g⟩
   obtain t|t:=t
   .exact T _ t<|.inl U
   .exact T _ t<|.inr U
  .have z:(f.names.lookup y==Y ahZ)=L:=z;have z:f.names.lookup y=Y .cell:=by simpa using z
   have e:d.cells.lookup y=Y c:=e;rw[E]at e;rcases yT (gF e)with l|⟨_,u,_⟩
   .rcases Cu l with l|⟨g,_⟩
    .contradiction
    .have q:=ok.uniq _ g;rw[z]at q;cases q
   .rw[mE]at u;exact Ee u
  .show b≠d.locals;rw[hL];exact fO (G b A).2
  .have e:d.cells.lookup y=Y c:=e;rcases akI e with⟨g,_⟩|⟨g,_⟩
   .exact(G b A).1.2.2.2.2.1 y c g z
   .have u:s⁻¹+1<=b:=by rw[<-z];exact g
    exact absurd (gQ (G b A).2<|Ee u)<|kX _
  .rcases(G b A).1.2.2.2.1 with z|z
   .exact I.ok.yH b o e z
   .exact absurd (gQ (cA e)<|cS I.ok.oe z)<|kX _
  .rcases cU.mp (I.yJ b z)with z|z
   .exact(G b A).1.2.1 z
   .exact(G b A).1.2.2.1 z
 refine⟨akN,U,I.bare,Un.kept kp,⟨λ_=>am,?_,λi y av v x j=>?_⟩,λy c e=>?_,?_,λy c e=>?_,λp Q=>?_,I.bS.kept kp,by rw[MJ];exact I.len⟩
 .show Heap.Ns _ d.locals _;rw[hL];exact Heap.Ns.keeps (Heap.Ns.new ..) λb o e=>JN _ _ _ _ e
 .obtain⟨x,akO⟩:=MK x;have akG:f.names.lookup y=Y .free/\(d.kindOf y=Y .cell\/d.kindOf y=Y .free):=by
   have T:∀k,d.scope.names.lookup y=Y k->k=.local\/k=.cell\/k=.free->f.names.lookup y=Y .free/\(d.kindOf y=Y .cell\/d.kindOf y=Y .free):=λk hk akJ=>by
    have akL:=hk;rw[akH]at hk;refine aL (Gj hk) λC e r=>?_;have no:¬(C=.local\/C=.cell):=λhh=>by
     rcases ok.own _ (gF e) hh with h|h
     .refine aL (eY.mp h) λp Q akP=>?_;have j:=ok.ix p Q;have:p.1=y:=akP;rw[this]at j;exact akO<|eY.mpr ⟨p,Q,FM hN j v⟩
     .exact h<|eD v
    rcases r with rfl|⟨rfl,rfl⟩
    .rcases akJ with rfl|rfl|rfl
     .exact absurd (.inl U) no
     .exact absurd (.inr U) no
     .exact⟨e,.inr akL⟩
    .exact⟨e,.inl akL⟩
   have j:rQ d.scope y:=j;rcases j with j|j|j
   .exact T _ j<|.inl U
   .exact T _ j<|.inr<|.inl U
   .exact T _ j<|.inr<|.inr U
  refine aL I.loc λm hn hl=>?_;have akQ:rQ X.env.scope y:=(ok.free _ (gF akG.1) U).elim (λk=>.inr<|.inl k)<|λk=>.inr<|.inr k;refine aL (hl i y av v x akQ) λw r q=>?_;refine aY w r<|.inr ⟨akG.2,?_⟩;refine aL (akK akG.1) λc g u=>?_;rcases q with⟨k,_⟩|⟨_,c',h,z⟩
  .have k:X.env.scope.names.lookup y=Y .local:=k;rcases ok.free _ (gF akG.1) U with C|C<;>rw[show X.env.scope.names.lookup y=_ from C]at k<;>contradiction
  .rw[u]at h;obtain rfl:=bL h;exact aY c g<|z.keeps kp
 .have e:d.cells.lookup y=Y c:=e;rcases akI e with⟨g,_⟩|⟨_,z⟩
  .obtain⟨w,z⟩:=I.cell y c g;exact⟨w,z.keeps kp⟩
  .exact⟨_,z⟩
 .show H d.locals=am;rw[hL];exact I.bS.fresh<|cg _
 .have e:d.cells.lookup y=Y c:=e;rcases akI e with⟨g,_⟩|⟨g,_⟩
  .exact I.mN y c g
  .exact I.bS.fresh<|Ee g
 .exact absurd (show p∈([]:O (az×b9))++[]from Q) au
def Zl(I:Inv X aF σ H s)(a:H D=Y (.lst xs))(hz:xs.length<bK)(r:RelV y v)
  (h:∀s',Inv X aF σ (upd H D<|.lst<|xs++[y]) s'->Q .none s'):aZ (bg X.prog X.w) X.A (ju (.builtin "list.append") [.ref D,v]) Q E s:=by
 obtain⟨k,d,n,c,e⟩:=I.bS D _ a;have l:=c.length;refine append_at (hsz:=bG) e λf g i=>h {s with heap:=f} (I.write (by rw[a];trivial) (.inl U) (λb u j q=>(g.2 b j).trans q) ⟨_,i⟩ ⟨cC▸hz,d++[v],n+1,c.append<|.cons r .nil,?_⟩);grind
abbrev wb(X:Cx)(a:O aT)(t:TT):Prop:=
 ∀(aF:O (az×b9))(s:bp)(σ:St)(H:Hp)(Q:Bool->Hp->Prop),Inv X aF σ H s->t σ H Q->
  aZ (bg X.prog X.w) X.A (forIn a L λc r=>if r=L then do let ok<-isTrue c X.env (eval c X.env);pure (JO ok)else pure<|JO r) (TP X aF σ Q) X.xe s
abbrev Gk:TT:=λ_ H Q=>Q L H
def Gm:wb X [] Gk:=λ_ _ _ H _ I h=>wpAny_tests_nil ⟨H,I,h⟩
def Zm(h:PT X c t):wb X [c] t:=λaF s σ H Q I a=>wpAny_tests_one<|h aF s σ H Q I a
end
def wc{α:Type}{t:Sem α}{Q b:α->bp->Prop}{M:Model}{A:eJ}{E:aB->bp->Prop}{s:bp}(h:aZ M A t Q (λ_ _=>False) s)(c:∀a s,Q a s->b a s):aZ M A t b E s:=kY h c λ_ _=>kZ
def Zn{prog:bO}{w:bN}{A:eJ}{R:AL->bp->Prop}{s:bp}{j d iter:aT}{k:O aT}{y:dJ}{z:bn}{f acc:aB}{a:gC}(I:Nat->bp->Prop)
  (C:∀n s,I n s->aZ (bg prog w) A (nM f) (λr g=>match r with
   |none=>R (.ok .next) g
   |some v=>aZ (bg prog w) A (T7 d f v) (λ_ l=>aZ (bg prog w) A (k6 d a v) (λ_ o=>
     aZ (bg prog w) A (forIn k L λc r=>if r=L then do let ok<-isTrue c a (eval c a);pure (JO ok)else pure<|JO r) (λok i=>
      if ok=L then aZ (bg prog w) A (eval j a) (λx p=>
       aZ (bg prog w) A (ju (.builtin "list.append") [acc,x]) (λ_ q=>∃m,m<n/\I m q) (AW (bg prog w) A a λe s'=>R (.error e) s') p) (AW (bg prog w) A a λe s'=>R (.error e) s') i
      else∃m,m<n/\I m i) (AW (bg prog w) A a λe s'=>R (.error e) s') o) (AW (bg prog w) A a λe s'=>R (.error e) s') l) (AW (bg prog w) A a λe s'=>R (.error e) s') g) (AW (bg prog w) A a λe s'=>R (.error e) s') s)n(h:I n s):
  oX (bg prog w) A (.compLoop (kI j [⟨d,iter,k,0⟩] y z) 0 f acc a) R s:=by
 refine codeAny_loop U I (λn s E=>?_) n h;refine wpAny_noted ?_;refine a9<|Jv<|a9<|kY (C n s E) (λr g t=>?_) λ_ _ b=>b;cases r with
 |none=>exact cF t
 |some v=>
  refine a9<|kY t (λ_ l G=>a9<|kY G (λ_ o H=>a9<|kY H (λok i u=>?_) λ_ _ b=>b) λ_ _ b=>b) λ_ _ b=>b;cases ok with
  |false=>exact cF ⟨U,u⟩
  |true=>
   exact a9<|a9<|kY u (λx p N=>a9<|kY N (λ_ q Q=>cF<|cF ⟨U,Q⟩) λ_ _ b=>b) λ_ _ b=>b
section
variable{X:Cx}
abbrev yU(j:TI)(g:TG)(k:TT)(l:TE)(vs:O Nat):TE:=λσ H Q=>j σ H λo e=>∀D,e D=am->∃W:Nat->Nat->Hp->Prop,(∃m,W 0 m<|upd e D<|.lst [])/\∀i m H,W i m H->
 (o.stop i H/\Q (.ref D) H)\/(o.go i H/\∃c:Hp->Prop,(∀a,c a->∃m',m'<m/\W (i+1) m' a)/\∀x a,o.Ci i H x a->g x (wipe σ vs) a λd n=>wipe d vs=wipe σ vs/\k d n λb f=>
  if b=L then l d f λy h=>∃acc,h D=Y (.lst acc)/\acc.length<bK/\c (upd h D<|.lst<|acc++[y])else c f)
def ML{G:O (az×b9)}{s:bp}{σ:St}{H:Hp}{Q:VK}{akF tg iter:aT}{akG:O aT}{a:dJ}{own:O (aq×Nat)}{akI akV:bn}{wi:TI}{g:TG}{tt:TT}{te:TE}{use:aR (aB->Sem Unit)}{Qf:aB->bp->Prop}
  (hc:X.calm=L)(hN:X.N.Nodup)(I:Inv X G σ H s)(hi:PI X tg iter wi)(ok:oo X.N X.env.scope a own)
  (hg:∀s H C(cl:O (aq×az))(fp:O az),PG (X.fu s H a (ii a cl C X.env) fp) tg g)(ht:∀s H C(cl:O (aq×az))(fp:O az),wb (X.fu s H a (ii a cl C X.env) fp) akG tt)
  (he:∀s H C(cl:O (aq×az))(fp:O az),PE (X.fu s H a (ii a cl C X.env) fp) akF te)(hs:∀x,EA iter X.env x=pure x)
  (h:yU wi g tt te (own.map (·.2)) σ H Q)
  (akW:∀D C s' m f,Inv X G σ f s'->Q (.ref D) f->s'.heap.Ns C m->fb X G f C->UA (bg X.prog X.w) X.A X.xe use Qf (.ref D) C (.ok .next) s'):
  aZ (bg X.prog X.w) X.A (comprehension (kI akF [⟨tg,iter,akG,0⟩] a akI) a X.env akV (newList []) aA (eval iter X.env) use) Qf X.xe s:=by
 have akX:∀y∈a.names,y.2=.free->∃c,X.env.cells.lookup y.1=Y c:=λy hy e=>by
  rcases ok.free y hy e with k|k
  .exact I.ok.has _<|.inl k
  .exact I.ok.has _<|.inr k
 refine wpAny_comprehension_free (use:=use) U hs (Zh akX) ok.kind (λy hy e=>by rw[ok.uniq y hy,e])
  (bo (hi G s σ H _ I h) λxv s1 hx=>bo hx λak_ s2 h2=>?_)
 refine Bq h2 λit fp tn ale E e I2 T akL f2 q=>?_;subst e;refine JP (Zj ?_) (by show 0<=bK;decide);generalize hD:s2⁻¹=D;have akY:E D=am:=I2.bS.fresh<|JQ hD;obtain⟨W,⟨m0,w0⟩,akZ⟩:=q D akY;generalize akM:({s2 with heap:=s2.heap.push {cls:=.type "list",data:=.seq ([]:O aB).toArray}}:bp)=s3;have I3:Inv X G σ (upd E D<|.lst []) s3:=by rw[<-akM];refine I2.laid (t':=s2.toks) (λb o e=>dO _ e) (JQ hD) ⟨dI _,[],0,.nil,?_⟩;rw[<-hD];exact fW _ U
 have h3:s3.heap=s2.heap.push {cls:=.type "list",data:=.seq ([]:O aB).toArray}:=by rw[<-akM]
 have sz:∀b∈fp,b<s2⁻¹:=λb d=>by refine aL (T.obj _ _ akL b d) λo e _=>?_;exact cA e
 have f3:∀b∈fp,fb X G (upd E D<|.lst []) b/\b<s3⁻¹:=λb d=>by have akN:=sz b d;refine⟨⟨?_,(f2 b d).2⟩,by rw[h3,mE];exact ah0 akN⟩;rw[aQ<|by rw[<-hD];exact fO akN];exact(f2 b d).1
 have ak0:tn 0 s3.heap:=T.keep _ _ _ akL λb _ o e=>by rw[h3];exact dO _ e
 have I4:=Zk I3 ok hN f3;have pg:=hg s3 (upd E D<|.lst []) s3⁻¹ (iP (s3⁻¹+1) a.names<|io X.env.cells a.names []) fp;have pt:=ht s3 (upd E D<|.lst []) s3⁻¹ (iP (s3⁻¹+1) a.names<|io X.env.cells a.names []) fp;have pe:=he s3 (upd E D<|.lst []) s3⁻¹ (iP (s3⁻¹+1) a.names<|io X.env.cells a.names []) fp;show oX _ _ (.compStart (kI akF [⟨tg,iter,akG,0⟩] a akI) 0 (.ref it) (.ref D)<|ii a (iP (s3⁻¹+1) a.names<|io X.env.cells a.names []) s3⁻¹ X.env) (UA (bg X.prog X.w) X.A X.xe use Qf (.ref D) s3⁻¹) {s3 with heap:=vo (s3.heap.push {cls:=.type "dict",data:=.dict #[]}) a.names};have akO:∀b∈fp,(upd E D<|.lst []) b=am:=λb d=>(f3 b d).1.1;generalize ak1:ii a (iP (s3⁻¹+1) a.names<|io X.env.cells a.names []) s3⁻¹ X.env=ce at I4 pg pt pe⊢;have cL:ce.locals=s3⁻¹:=by subst ak1;rfl
 generalize ak':upd E D (.lst [])=l at I3 I4 pg pt pe w0 akO f3;generalize ak2:({s3 with heap:=vo (s3.heap.push {cls:=.type "dict",data:=.dict #[]}) a.names}:bp)=s4 at I4⊢;have akP:tn 0 s4.heap:=T.keep _ _ _ ak0 λb _ o e=>by rw[<-ak2];exact JN _ _ _ _<|dO _ e
 have akJ:∀{akQ:St}{f:Hp}{s':bp},Inv (X.fu s3 l a ce fp) [] akQ f s'->(∀b∈fp,f b=am)->∀b∈fp,fb (X.fu s3 l a ce fp) [] f b:=λ{akQ f s'}I' hn b d=>
  ⟨hn b d,(I'.ok.B7 b d).1,I'.ok.yI b d,.inl d,λx c e=>(I'.ok.B7 b d).2 x c e,λp hp=>absurd (show p∈([]:O (az×b9))++[]from hp) au⟩
 have akR:oX (bg X.prog X.w) X.A (.compLoop (kI akF [⟨tg,iter,akG,0⟩] a akI) 0 (.ref it) (.ref D) ce) (UA (bg X.prog X.w) X.A X.xe use Qf (.ref D) s3⁻¹) s4:=by
  refine Zn (λn s'=>∃i f,Inv (X.fu s3 l a ce fp) [] (wipe σ<|own.map (·.2)) f s'/\tn i s'.heap/\(∀b∈fp,f b=am)/\W i n f) ?_ m0 ⟨0,l,I4,akP,akO,w0⟩;rintro n s5 ⟨i,H5,I5,akS,n5,w5⟩;rcases akZ i n H5 w5 with⟨stop,qq⟩|⟨go,Nx,ak3,step⟩
  .have td:=T.done (X.fu s3 l a ce fp) U U U hc i [] s5 _ H5 (λ_ _=>False) I5 (akJ I5 n5) akS stop;refine wc td λr s6⟨hr,I6⟩=>?_;subst hr;have I7:Inv X G σ H5 s6:=I3.W0 (ch:=fp) I6.os I6.base I6.bS I6.bare λb d=>⟨(f3 b d).1.2.2.2.1,(f3 b d).1.2.1,(f3 b d).1.2.2.2.2.1,(f3 b d).1.2.2.2.2.2⟩
   have nC:H5 s3⁻¹=am:=by have z:H5 ce.locals=am:=I6.free;rw[cL]at z;exact z
   refine aL I6.loc λm hn _=>?_;have hn:s6.heap.Ns ce.locals m:=hn;rw[cL]at hn;exact akW D s3⁻¹ s6 m H5 I7 qq hn<|I3.og (cg _) nC
  .have ti:=T.item (X.fu s3 l a ce fp) U U U hc i [] s5 _ H5 (λ_ _=>False) I5 (akJ I5 n5) akS go;refine wc ti λr s6 t=>aL t λu hr h6=>?_;subst hr;refine wc h6 λ_ s7 t=>jX t λx H7 I7 r7 y7 akK n7=>?_;have ak4:=I7.pinned (akJ I7 n7)<|T.obj _ _ akK;refine wc (pg _ s7 _ H7 x u _ ak4 r7<|step x H7 y7) λ_ s8 t=>be t λakH H8 I8 akT q8=>?_;refine wc (pt _ s8 akH H8 _ I8 q8) λb s9 t=>aL t λH9 I9 q9=>?_
   have fin:∀{s':bp}{f:Hp},Inv (X.fu s3 l a ce fp) ([]++qr fp s7.heap) akH f s'->Nx f->∃m,m<n/\∃i f,Inv (X.fu s3 l a ce fp) [] (wipe σ<|own.map (·.2)) f s'/\tn i s'.heap/\(∀b∈fp,f b=am)/\W i m f:=λ{s' f}I' nx=>by
    refine aL (ak3 f nx) λm' hm w'=>?_;have akU:∀b∈fp,∀o,s7.heap.get? b=Y o->s'.heap.get? b=Y o/\f b=am:=λb d o e=>
     let z:=I'.pin (b,o) (jS _<|jS _<|ue d e)
     ⟨z.1,z.2.1⟩
    have hl:(wipe σ<|own.map (·.2)).length=akH.length:=by rw[<-akT,MJ]
    refine⟨m',hm,i+1,f,(I'.v6:Inv _ [] _ _ _).weak hl<|λj v e=>?_,T.keep _ _ _ akK λb d o e=>(akU b d o e).1,λb d=>?_,w'⟩
    .rw[<-akT]at e;exact(MK e).1
    .refine aL (T.obj _ _ akK b d) λo e _=>?_;exact(akU b d o e).2
   cases b with
   |false=>
    simp only[xO,tD]at q9⊢;exact fin I9 q9
   |true=>
    simp only[xw]at q9⊢;refine wc (pe _ s9 akH H9 _ I9 q9) λz ala t=>be t λyv alb ak5 ak6 w_=>b7 w_ λalc ak7 ak8 nx=>?_;exact Zl (X:=X.fu s3 l a ce fp) ak5 ak7 ak8 ak6 λald ak9=>fin ak9 nx
 exact codeAny_compStart_list akR<|T.self X.A 0 _ _ _ akP akR
def MM{d c iter:aT}{e:O aT}{a:dJ}{own:O (aq×Nat)}{l:bn}{i:TI}{g:TG}{j:TT}{k:TE}(n:X.calm=L)(p:X.N.Nodup)(hi:PI X c iter i)(ok:oo X.N X.env.scope a own)
  (t:∀s H C(cl:O (aq×az))(fp:O az),PG (X.fu s H a (ii a cl C X.env) fp) c g)(u:∀s H C(cl:O (aq×az))(fp:O az),wb (X.fu s H a (ii a cl C X.env) fp) e j)
  (v:∀s H C(cl:O (aq×az))(fp:O az),PE (X.fu s H a (ii a cl C X.env) fp) d k)(w:(∀x,EA iter X.env x=pure x)<|>ag):
  PE X (kI d [⟨c,iter,e,0⟩] a l) (yU i g j k<|own.map (·.2)):=by
 intro aF s σ H Q I h;refine ML n p I hi ok t u v w h λD C s' m y z q A f=>aY m A<|λakF E=>?_;refine Bn f λG T f2 f3 f4 f5=>?_;exact cn (.ref D) y (z.turned (λb o hb=>(E.2 b hb).trans) G T f3 f4 f5) U q
def Go{i:Nat}{y:aq}{py:bn}{j d iter:aT}{k:O aT}{c:dJ}{own:O (aq×Nat)}{l n:bn}{p:TI}{g:TG}{t:TT}{u:TE}(Q:X.calm=L)(w:X.N.Nodup)(T:X.N[i]?=Y y)(A:X.env.scope.names.lookup y=Y .local)
  (akF:oW (kI j [⟨d,iter,k,0⟩] c l) (Y<|aK y py) n.line X.env=pure L)(hi:PI X d iter p)(ok:oo X.N X.env.scope c own)
  (hg:∀s H C(cl:O (aq×az))(fp:O az),PG (X.fu s H c (ii c cl C X.env) fp) d g)(ht:∀s H C(cl:O (aq×az))(fp:O az),wb (X.fu s H c (ii c cl C X.env) fp) k t)
  (he:∀s H C(cl:O (aq×az))(fp:O az),PE (X.fu s H c (ii c cl C X.env) fp) j u)(hs:(∀x,EA iter X.env x=pure x)<|>ag):
  PS X (iC [aK y py] (kI j [⟨d,iter,k,0⟩] c l) n) (FU (yU p g t u<|own.map (·.2))<|FT i):=by
 intro aF s σ H D I h;rw[exec_Assign_Name_used _ _ _ _ akF];refine a9<|Jv<|a9 ?_;refine a9<|bo (ML Q w I hi ok hg ht he hs h λakI C s' m H' I' q hn f=>?_) λ_ s' hq=>cF<|cF hq;refine aht<|Lx (v:=V.ref akI) I' w T (.inl A) U (λs2 I2 z_=>aL z_ λa sb ha=>?_)<|.inr A;refine Bn f λf0 E f2 f3 G f5=>?_;have akG:C≠a:=by
  obtain z|z:=ha
  .exact z▸E
  .exactλe=>G y a z e.symm
 exact aY m (hn.sameBut sb akG)<|λh3 akH=>gq _ H' (I2.turned (λb o hb=>(akH.2 b hb).trans) f0 E f3 G f5) q
def Cw{d:aT}{gs:O Comprehension}{c:dJ}{b py:bn}{y:aq}{l:Nat}{a:gC}(e:a.scope.kind=.function)(f:a.scope.names.lookup y=Y .local)(g:(py.line==b.line)=L)
  (h:(c.names.any λ(n,k)=>n==y&&(k==.local||k==.cell))=aA):oW (kI d gs c b) (Y (aK y py)) l a=pure L:=by
 have i:a.kindOf y=Y .local:=f;have j:a.blockKind=.function:=by unfold Env.blockKind;rw[e];rfl
 unfold oW;simp only[j,i,h,show(kI d gs c b).pos=b from U,g];rfl
end
abbrev MN(N:O aq)(b a:dJ)(own:O (aq×Nat)):Bool:=
 (match a.kind with|.function=>L|_=>aA)&&(a.names.all λy=>decide<|a.names.lookup y.1=Y y.2)&&(own.all λp=>decide<|N[p.2]?=Y p.1)&&
  (a.names.all λy=>match y.2 with
   |.free=>(match b.names.lookup y.1 with|some .cell=>L|some .free=>L|_=>aA)
   |.local=>decide (y.1∈own.map (·.1))||decide (y.1∉N)
   |.cell=>decide (y.1∈own.map (·.1))||decide (y.1∉N)
   |_=>L)
def dD(h:MN N sc bP own=L):oo N sc bP own:=by
 simp only[MN,c6,dR,lH]at h;obtain⟨⟨⟨f,b⟩,c⟩,d⟩:=h;refine⟨?_,b,c,λy a e=>?_,λy a e=>?_⟩
 .lia
 .grind
 .have q:=d y a;rcases e with e|e<;>(simp only[e,tu,lH]at q;exact q)
section
variable{κ:Type}[DecidableEq κ]
abbrev gt(kvs:O (κ×V))(k:κ):aR V:=(kvs.find? λkv=>decide<|kv.1=k).map (·.2)
abbrev putK(kvs:O (κ×V))(k:κ)(v:V):O (κ×V):=
 if(kvs.any λkv=>decide<|kv.1=k)=L then kvs.map (λkv=>if kv.1=k then(kv.1,v)else kv)else kvs++[(k,v)]
def Cy{k:κ}(e:p.1=k):gt (p::r) k=p.2:=by simp[gt,e]
def Cz{k:κ}(e:¬p.1=k):gt (p::r) k=gt r k:=by simp[gt,e]
def MO k:∀kvs:O (κ×V),(kvs.any λkv=>decide<|kv.1=k)=(gt kvs k).isSome:=by
 intro a
 induction a with
 |nil=>exact U
 |cons p r b=>
  rw[xM];by_cases e:p.1=k
  .simp[Cy e,dm e]
  .rw[Cz e,kF e];exact b
def MP kvs(k:κ)v:(putK kvs k v).length<=kvs.length+1:=by grind[putK]
def Zo{k:κ}v(h:gt kvs k=am):putK kvs k v=kvs++[(k,v)]:=by simp_all[putK,MO]
def mM.yV(r:mM o u):o.isSome=u.isSome:=by
 cases o with
 |none=>cases u with
  |none=>rfl
  |_=>exact(r).elim
 |_=>cases u with
  |none=>exact(r).elim
  |_=>rfl
def KV.val(r:KV kvs vs)(k:κ):mM (gt kvs k) (JR vs k):=by
 induction r with
 |nil=>exact xF
 |@cons p q ps C h t ih=>
  obtain⟨I,h2⟩:=h;by_cases e:p.1=k
  .have e':=I.symm.trans e;have b:JR (q::C) k=q.2:=by simp[JR,e']
   rwa[Cy e,b]
  simp_all[JR,Cz]
def KV.any(r:KV kvs vs)(k:κ):(kvs.any λkv=>decide<|kv.1=k)=vs.any λkv=>decide (kv.1=k):=by
 induction r<;>simp_all
def KV.Gp(r:KV kvs vs)(k:κ)(I:RelV y u):
  KV (kvs.map λkv=>if kv.1=k then(kv.1,y)else kv) (vs.map λkv=>if kv.1=k then(kv.1,u)else kv):=by
 induction r with
 |nil=>exact .nil
 |@cons p q ps qs h t C=>
  simp[eQ,eQ];refine .cons ?_ C
  lia
def KV.put(r:KV kvs vs)(k:κ)(C:RelV y u):KV (putK kvs k y) (stored vs k u):=by
 rw[putK,stored,r.any k];by_cases e:(vs.any λkv=>decide<|kv.1=k)=L
 .rw[aH e,aH e];exact r.Gp k C
 .rw[aD e,aD e];exact ah1 r ap
def KV.length{vs:O (κ×aB)}(r:KV kvs vs):kvs.length=vs.length:=Js r
end
def yW(r:RelV (kV k) u):(lT P w).is k u=L:=by
 cases k with
 |inl i=>obtain⟨t,rfl⟩:=(r);exact WS P w i t
 |inr x=>obtain⟨t,rfl⟩:=(r);exact WT P w x t
def MQ:∀{a:O Key}{us:O aB},Vals (a.map kV) us->ItemsAre (lT P w) a us
 |[],_,r=>by cases r;exact .nil
 |k::a,_,r=>by
  cases r with
  |cons h t=>exact .cons (yW h)<|MQ t
@[reducible]def KT(H:Hp):O (O Key×V)->O (O Key×az×aB)->Prop:=Paired λp q=>p.1=q.1/\H q.2.1=Y (.tup<|p.1.map kV)/\RelV p.2 q.2.2
def KT.val{H:Hp}{kvs:O (O Key×V)}{C:O (O Key×az×aB)}(r:KT H kvs C)(k:O Key):mM (gt kvs k) ((AX C k).map (·.2)):=by
 induction r with
 |nil=>exact xF
 |@cons p q ps I h t ih=>
  refine eR h λh1 _ h2=>?_;by_cases e:p.1=k
  .have e':=h1.symm.trans e;have b:AX (q::I) k=q.2:=by simp[AX,e']
   rwa[Cy e,b]
  simp_all[AX,Cz]
def KT.Gp(r:KT H kvs xs)k(I:RelV y u):
  KT H (kvs.map λkv=>if kv.1=k then(kv.1,y)else kv) (xs.map<|putAt k u):=by
 induction r with
 |nil=>exact .nil
 |@cons p q ps qs h t C=>
  rw[eQ];refine .cons ?_ C;grind[putAt]
def KT.put(r:KT H kvs xs)k(I:H b=Y (.tup<|k.map kV))(C:RelV y u):
  KT H (putK kvs k y) (storedH xs k b u):=by
 have e:(kvs.any λkv=>decide<|kv.1=k)=(AX xs k).isSome:=by rw[MO,(r.val k).yV,vp]
 rw[putK,storedH,e];by_cases q:(AX xs k).isSome=L
 .rw[aH q,aH q];exact r.Gp k C
 simp_all[aD,ah1]
def KT.keeps(r:KT H kvs xs)(I:∀b ys,H b=Y (.tup ys)->C b=Y (.tup ys)):KT C kvs xs:=
 Paired.Lu r λ_ _ z=>bG
section
variable{P:bO}{w:bN}{H:Hp}{h:bf}{a:az}
def MR(ok:dZ P w H h)(e:Rd H a u):f_ P w H h a u:=e.ok ok
def yX(ok:dZ P w H h)(e:Rd H a (.dK kvs)):kvs.length<=bK/\(a==lK)=aA/\∃vs,KV kvs vs/\h.DictOf (lT P w) a vs:=
 MR ok e
def Zp(ok:dZ P w H h)(e:H a=Y (.dK kvs)):kvs.length<=bK/\(a==lK)=aA/\∃vs,KV kvs vs/\h.DictOf (lT P w) a vs:=yX ok<|.inl e
def wd(ok:dZ P w H h)(e:H a=Y (.tup<|b.map kV)):(Ex<|lT P w).is h b a:=
 let⟨_,c,r,o,d,f,n,g⟩:=(ok a _ e)
 ⟨o,c.toArray,n,d,f,g,by simpa using MQ r⟩
def yY{kvs:O (O Key×V)}(ok:dZ P w H h)(e:Rd H a (.dT kvs)):kvs.length<=bK/\(a==lK)=aA/\
  ∃b,KT H kvs b/\h.DictOfH (Ex<|lT P w) a b:=by
 let⟨z,y,b,r,o,c,d,f,g,i,j,k⟩:=(MR ok e)
 refine⟨z,y,b,r,o,c,d,f,g,i,j,λx n=>?_,k⟩;have all:∀{l m:O _},KT H l m->∀x∈m,(Ex<|lT P w).is h x.1 x.2.1:=by
  intro l m q
  induction q<;>grind[wd]
 exact all r x n
def MS(ok:dZ P w H h)(e:H a=Y (.dT kvs)):kvs.length<=bK/\(a==lK)=aA/\
  ∃b,KT H kvs b/\h.DictOfH (Ex<|lT P w) a b:=yY ok<|.inl e
end
abbrev mR(H:Hp)(a:az)(y:V)(r:aR V):Prop:=
 (∃kvs k,Rd H a (.dK kvs)/\y=kV k/\r=gt kvs k)\/∃kvs k b,Rd H a (.dT kvs)/\y=.ref b/\H b=Y (.tup<|k.map kV)/\r=gt kvs k
abbrev yZ(H:Hp)(a:az)(y v:V)(c:Hp):Prop:=
 (∃kvs k,H a=Y (.dK kvs)/\y=kV k/\kvs.length<bK/\c=upd H a (.dK<|putK kvs k v))\/
 ∃kvs k b,H a=Y (.dT kvs)/\y=.ref b/\H b=Y (.tup<|k.map kV)/\kvs.length<bK/\c=upd H a (.dT<|putK kvs k v)
def mR.t{k:O Key}(e:H a=Y (.dT kvs))(C:H b=Y (.tup<|k.map kV)):mR H a (.ref b) (gt kvs k):=.inr ⟨kvs,k,b,.inl e,U,C,U⟩
def yZ.t{k:O Key}(e:H a=Y (.dT kvs))(C:H b=Y (.tup<|k.map kV))(I:kvs.length<bK):
  yZ H a (.ref b) v (upd H a<|.dT<|putK kvs k v):=.inr ap
section
variable{X:Cx}{aF:O (az×b9)}{σ:St}{H:Hp}{s:bp}{a:az}{y v:V}{u r:aB}{o:aR V}{A:eJ}{E:aB->bp->Prop}
def Inv.big(I:Inv X aF σ H s):lK<s⁻¹:=
 have h:=(I.mod.glob.keeps I.bk).lt
 ah2 bw h
def Zq(n:A.units+1<fP)(I:Inv X aF σ H s)(g:mR H a y (Y v))(m:RelV y u)(h:∀c s',Inv X aF σ H s'->RelV v c->Q c s'):
  aZ (bg X.prog X.w) A (AS (.ref a) u) Q E s:=by
 obtain⟨q,k,e,d,l⟩|⟨q,k,b,e,d,t,l⟩:=g
 .subst d;refine eR (yX I.bS e) λz x C=>aL C λvs rel f=>?_;refine aL (mM.some_of<|l▸rel.val k) λc i j=>?_;exact ah3 (yW m) f.mapOf i<|h c _ (I.tok _) j
 .subst d;cases(m);refine eR (yY I.bS e) λz x G=>?_;refine aL G λxs rel f=>?_;refine aL (mM.some_of (v:=v)<|l▸rel.val k) λc i j=>?_;refine aL (Option.map_eq_some_iff.mp i) λp N T=>?_;apply wpAny_getItem_heap (JS n) (wd I.bS t) f N;exact T▸(h c _ (I.tok _) j)
def Zr(j:A.units+1<fP)(I:Inv X aF σ H s)(g:mR H a y o)(i:RelV y u)(h:∀s',Inv X aF σ H s'->Q (.bool o.isSome) s'):
  aZ (bg X.prog X.w) A (fi .In u<|.ref a) Q E s:=by
 obtain⟨m,k,e,c,l⟩|⟨m,k,b,e,c,n,l⟩:=g
 .subst c;refine eR (yX I.bS e) λz d p=>aL p λx rel f=>?_;apply ah4 (yW i) d f.mapOf;rw[<-(rel.val k).yV,<-l];exact h _<|I.tok _
 .subst c;cases(i);refine eR (yY I.bS e) λz d t=>?_;refine aL t λC rel f=>?_;refine wpAny_in_heap (JS j) (wd I.bS n) d f ?_;have q:=(rel.val k).yV;rw[vp]at q;rw[<-q,<-l];exact h _<|I.tok _
def Zt{Q:aB->bp->Prop}(j:A.units+1<fP)(I:Inv X aF σ H s)(g:mR H a y o)(i:RelV y u)(h:∀s',Inv X aF σ H s'->Q (.bool (!o.isSome)) s'):
  aZ (bg X.prog X.w) A (fi .NotIn u<|.ref a) Q E s:=by
 rcases g with⟨m,k,e,c,l⟩|⟨m,k,b,e,c,n,l⟩
 .subst c;refine eR (yX I.bS e) λz d p=>aL p λx rel f=>?_;refine wpAny_notIn_of (yW i) d f.mapOf ?_;rw[<-(rel.val k).yV,<-l];exact h _<|I.tok _
 .subst c;cases(i);refine eR (yY I.bS e) λz d t=>?_;refine aL t λC rel f=>?_;refine wpAny_notIn_heap (JS j) (wd I.bS n) d f ?_;have q:=(rel.val k).yV;rw[vp]at q;rw[<-q,<-l];exact h _<|I.tok _
def Gq(I:Inv X aF σ H s)(mu:yG (H a))(d:AF a s.heap h')(e:∃q,h'.get? a=Y q)(f:f_ X.prog X.w (upd H a c) h' a c):
  Inv X aF σ (upd H a c) {s with heap:=h',toks:=t'}:=
 I.write mu (.inl U) (λb q g=>(d.2 b g).trans) e f
def Zu(z:kvs.length<=bK)(b:(a==lK)=aA)(rel:KV kvs vs)(c:h'.DictOf (lT P w) a vs):
  f_ P w d h' a (.dK kvs):=⟨z,b,vs,rel,c⟩
def Zv(hu:A.units+1<fP)(I:Inv X aF σ H s)(g:yZ H a y v H')(G:RelV y u)(N:RelV v r)(h:∀s',Inv X aF σ H' s'->Q () s'):
  aZ (bg X.prog X.w) A (Ey (.ref a) u r) Q E s:=by
 obtain⟨d,k,e,j,l,m⟩|⟨d,k,b,e,j,T,l,m⟩:=g
 .subst j m;refine eR (Zp I.bS e) λz n w_=>aL w_ λvs rel p=>?_;have t:vs.length<=bK:=by rwa[<-rel.length]
  have x:(putK d k v).length<=bK:=by have:=MP d k v;lia
  refine wpAny_setItem_pairs (hsz:=t) (yW G) p λh' f C=>h _ ?_;have he:∃q,h'.get? a=Y q:=nV f λq _ _ i _=>⟨q,i⟩
  exact Gq I (e▸xF) C he<|Zu x n (rel.put k N) f
 .subst j m;cases(G);refine eR (MS I.bS e) λz n z_=>?_;refine aL z_ λxs rel p=>?_;have t:xs.length<=bK:=by rwa[<-Js rel]
  have x:(putK d k v).length<=bK:=by have:=MP d k v;lia
  refine wpAny_setItem_heap (hsz:=t) (JS hu) (wd I.bS T) p λh' f C=>h _ ?_;refine yi f λq es ep i h2 h3 h4 _ h5=>?_;exact Gq I (e▸xF) C ⟨q,i⟩ ⟨x,n,_,(rel.put k T N).keeps λc ys ec=>(aQ<|Ls ec e au)▸ec,q,es,ep,i,h2,h3,h4,h5⟩
end
abbrev CA(i:aT):Prop:=∀ov a,JE i aA ov a=Ur [ov,a] (AS ov a)
def MT{T id:String}(e:AR (.type T) "__getitem__"=pure (Y<|.builtin id))(f:CA slice)
  (h:aZ (bg prog w) A (eval value env) (λo c=>aZ (bg prog w) A (eval slice env) (λi a=>a.TypeIs o T/\aZ (bg prog w) A (AS o i) Q E a) E c) E s):
  aZ (bg prog w) A (eval (cR value slice ao) env) Q E s:=by
 refine JD<|kY h (λo c g=>kY g (λi a b=>?_) λ_ _ x=>x) λ_ _ x=>x;obtain⟨j,b⟩:=b;apply a9;refine a9<|EG j e ?_;have fin:aZ (bg prog w) A (JE slice aA o i) (λr d=>aZ (bg prog w) A (letTemporaryGo value o r>>=λ_=>pure r) Q E d) E a:=(f o i)▸(wpAny_operating<|kY b (λr d k=>a9<|wpAny_letTemporaryGo<|cF k) λ_ _ x=>x)
 first
  |exact cF (a9 fin)
  |exact a9 _
  |exact a9 fin
def Zw{σ:St}(I:Inv X aF σ H s)(g:mR H a y o):s.TypeIs (.ref a) "dict":=by
 obtain⟨f,k,e,_,_⟩|⟨f,k,b,e,_,_,_⟩:=g
 .refine eR (yX I.bS e) λ_ _ c=>aL c λh _ d=>?_;exact d.typeIs
 .refine eR (yY I.bS e) λ_ _ c=>aL c λi _ d=>?_;exact d.typeIs
abbrev Zx(c d:TE):TE:=λσ H Q=>c σ H λx e=>d σ e λy b=>∃a v,x=.ref a/\mR b a y (Y v)/\Q v b
abbrev Zy(c d e:TE):TS:=λD σ H=>e σ H λv f=>c σ f λx g=>d σ g λy h=>∃a b,x=.ref a/\yZ h a y v b/\D.nx σ b
section
variable{X:Cx}{o i e value:aT}{ao jM ug:bn}{td ty tv:TE}
def Zz(j:X.A.units+1<fP)(k:PE X o td)(hi:PE X i ty)(l:CA i):PE X (cR o i ao) (Zx td ty):=by refineλc s d H Q I h=>MT ah5.lookup l<|bo (k c s d H _ I h) λu m b=>be b λx n p q t=>bo (hi c m d n _ p t) λiv s2 b=>be b λy w f z C=>be C λa v E g G=>?_;subst E;obtain rfl:=q;exact⟨Zw f g,Zq j f g z λw' s3 N T=>cn v w N T G⟩
def ZA(f:X.A.units+1<fP)(j:PE X o td)(hi:PE X i ty)(k:PE X value tv)(l:oW value (Y<|cR o i jM) ao.line X.env=pure aA):
  PS X (iC [cR o i jM] value ao) (Zy td ty tv):=by
 refineλd s c H D I h=>wpAny_Assign_Subscript (bo (k d s c H _ I h) λr m b=>be b λv n p q t=>bo (j d m c n _ p t) λu w b=>be b λx z C E G=>bo (hi d w c z _ C G) λiv s3 b=>be b λy H3 N Q T=>be T λa H4 ex g q3=>?_) l;subst ex;obtain rfl:u=.ref a:=E;exact Zv f N g Q q λs4 I4=>gq c H4 I4 q3
end
def MU(h:bf)(a:lK<h.objs.size):f_ P w H (h.push {cls:=.type "dict",data:=.dict #[]}) h.objs.size (.dT []):=
 ⟨dI _,JA.mpr ap,[],.nil,_,#[],0,fW _ U,⟨U,U,U⟩,U,U,UB⟩
abbrev ZB:TE:=λ_ H Q=>∀p,H p=am->Q (.ref p) (upd H p<|.dT [])
section
variable{X:Cx}{ao:bn}
def ZC:PE X (E5 [] [] ao) ZB:=λa s b H Q I h=>
 wpAny_Dict_empty ⟨.ref s⁻¹,_,I.laid (λ_ _=>dO _) (cg _)<|MU s.heap I.big,U,h _<|I.bS.fresh<|cg _⟩
end
def ZD:rm "reversed"=Y (.type "reversed"):=eN
section
variable{X:Cx}{aF:O (az×b9)}{σ:St}{H:Hp}{s:bp}{h':bf}
def Inv.r8{ch:O az}(I:Inv X aF σ H s)(k:∀b o,b∉ch->s.heap.get? b=Y o->h'.get? b=Y o)(C:∀b∈ch,fb X aF H b):Inv X aF σ H {s with heap:=h',toks:=t'}:=by
 have akF:∀b u,H b=Y u->b∉ch:=λb u e z=>by rw[(C b z).1]at e;cases e
 refine I.step (λb hb=>⟨(C b hb).2.2.2.1,(C b hb).2.1,(C b hb).2.2.2.2.1,(C b hb).2.2.2.2.2⟩) bh (λb o _ _ hc e _=>⟨o.slots,k b o hc e⟩)
  au bh au au bG (λm hm=>?_) (λb u e=>?_) I.bare
 .refine nV hm λo es ep ho r=>?_;exact yj o es ep (k _ o (λz=>(C _ z).2.1 U) ho) r
 .refine(I.bS b u e).pk (λc v hc=>k c v ?_) au λ_ _ q=>q;obtain z|z:=hc
  .exact z▸akF b u e
  .exact akF c _ z
def Inv.CB{ch:O az}{T:az}(I:Inv X aF σ H s)(k:∀b o,b∉ch->s.heap.get? b=Y o->h'.get? b=Y o)(hf:∀b∈ch,fb X aF H b)(hT:s⁻¹<=T)
  (akG:f_ X.prog X.w (upd H T ob) h' T ob):Inv X aF σ (upd H T ob) {s with heap:=h',toks:=t'}:=by
 have hn:=I.bS.fresh hT;have akF:∀b u,H b=Y u->b∉ch:=λb u e z=>by rw[(hf b z).1]at e;cases e
 refine I.step (λb C=>⟨(hf b C).2.2.2.1,(hf b C).2.1,(hf b C).2.2.2.2.1,(hf b C).2.2.2.2.2⟩) bh (λb o _ _ hc e _=>⟨o.slots,k b o hc e⟩)
  (λb o _ e n=>?_) bh (λb xs e=>?_) (λb o u e=>?_) (λb ps e=>⟨#[],?_⟩) (λm hm=>?_) (λb u e=>?_) I.bare
 .exact(aQ<|fO<|gQ (cA e) hT)▸n
 .exact(aQ<|f9 e hn)▸e
 .exact(aQ<|f9 e hn)▸e
 .rw[aQ<|f9 e hn,e];simp
 .refine nV hm λo es ep ho r=>?_;exact yj o es ep (k _ o (λz=>(hf _ z).2.1 U) ho) r
 .by_cases C:b=T
  .subst C;rw[bQ]at e;obtain rfl:=bL e;exact akG
  .rw[aQ C]at e;refine(I.bS b u e).pk (λc v hc=>k c v ?_) (λc q=>(aQ<|f9 q hn)▸q) λc xs q=>(aQ<|f9 q hn)▸q;obtain z|z:=hc
   .exact z▸akF b u e
   .exact akF c _ z
end
section
variable{X:Cx}
def MV{σ:St}(I:Inv X aF σ H s)o(T:Turn X.prog X.w X.K c h [s⁻¹] s⁻¹ a)(st:a 0 (s.heap.push o))(q:R h H):Cj X aF σ c R (.ref s⁻¹) {s with heap:=s.heap.push o,toks:=f}:=by
 refine rH s⁻¹ ([s⁻¹]) a h H U (I.kept λb g=>dO _) T st (λb d=>?_) q;have e:=by simpa using d
 subst e;exact I.og (cg _)<|I.bS.fresh<|cg _
end
abbrev MW(x:aq):It:=⟨λi _=>i<x.cps.size,λi H v a=>a=H/\∃c,x.cps[i]?=Y c/\v=.str ⟨#[c]⟩,λi _=>x.cps.size<=i⟩
def MX{K:aJ}it x t ty(g:ty="str_ascii_iterator"\/ty="str_iterator"):
  Turn P w K tg (MW x) [it] it (λi h=>h.IsStrIter it ty x t i) where
 mem:=au
 obj:=λi h st b a=>by
  have e:=by simpa using a
  subst e;refine b7 st λo e c d=>?_;exact aY o e<|λv z=>by rw[d]at z;cases z
 keep:=λi h j st k=>aL st λo ho r=>aY o (k it au o ho) r
 item:=by
  intro X y hw C f i aF s σ H E I hf st G;subst y hw C;let⟨l,m,f2,n,p,q⟩:=hf it au;have W:Walks X.prog X.w X.A it [it] [it] x.cps.size (SignAt x) (λi h=>h.IsStrIter it ty x t i):=by
   obtain e|e:=g
   .exact e▸Walks.strAscii (I.ok.hd f) it x t
   .exact e▸Walks.strWide (I.ok.hd f) it x t
  have akF:["enumerate","zip","dict_itemiterator","dict_reverseitemiterator","odict_iterator","itertools.zip_longest","itertools.pairwise"].contains ty=aA:=by
   obtain e|e:=g
   .rw[e];rfl
   .rw[e];decide
  refine W.item i s _ _ G st λv j tk hv T kk=>?_;refine fF hv λc u akG akH=>?_;subst akH;have I1:Inv X aF σ H {s with heap:=j,toks:=tk}:=I.turned (λb o a=>kk b o<|by simpa using a) l m n p q;let⟨oi,e,cc,dd⟩:=id T;exact aY _ U<|Ck e cc dd akF ⟨.str ⟨#[c]⟩,H,I1,⟨u,U⟩,⟨U,c,akG,U⟩,T,λb a=>(hf b a).1⟩
 done:=by
  intro X y hw C f i aF s σ H E I hf st G;subst y hw C;let⟨l,m,f2,n,p,q⟩:=hf it au;have hx:=Array.getElem?_eq_none G;obtain e|e:=g
  .rw[e]at st;exact wpAny_pyNext_ascii_end (I.ok.hd f) st hx λj N=>⟨U,I.turned (N) l m n p q⟩
  .rw[e]at st;exact wpAny_pyNext_wide_end (I.ok.hd f) st hx λj N=>⟨U,I.turned (t':=s.toks) (N) l m n p q⟩
 self:=λA i s Q E st h=>by
  obtain e|e:=g
  .rw[e]at st;exact wpAny_pyIter_striter_ascii st h
  .rw[e]at st;exact wpAny_pyIter_striter_wide st h
abbrev ZE(a:TE):TI:=λσ H R=>a σ H λv b=>∃x,v=.str x/\R (MW x) b
def ZF(c:PE X e d):PI X m e (ZE d):=by
 refineλf s g H R I h=>bo (c f s g H _ I h) λv n i=>be i λy o a j k=>aL k λx l q=>?_;subst l;obtain⟨t,rfl⟩:=j;cases b:x.cps.all (· <128)
 .exact wpAny_pyIter_wide b<|MV a _ (MX _ x t "str_iterator"<|.inr U) ⟨_,fW _ U,U,U⟩ q
 .exact wpAny_pyIter_ascii b<|MV a _ (MX _ x t "str_ascii_iterator"<|.inl U) ⟨_,fW _ U,U,U⟩ q
abbrev MY(K:aJ)(a:az):It:=
 ⟨λi H=>∃(b:O V)(x:V),bR K H a b/\b[i]?=Y x,λi H v c=>∃T x,v=.ref T/\H T=am/\c=upd H T (.tup [.int (i:Nat),x])/\∀b,bR K H a b->b[i]?=Y x,λi H=>∃b:O V,bR K H a b/\b.length<=i⟩
def ZG{K:aJ}a e it:
  Turn P w K (jW elts kk akO) (MY K a) [e,it] e (λi h=>(∃f,IsEnum h e it i f)/\h.IsListIter it a i/\e≠it) where
 mem:=au
 obj:=λi h⟨⟨f,c⟩,⟨o,m,n,hd⟩,_⟩b d=>by
  have t:=by simpa using d
  obtain z|z:=t
  .exact z▸⟨_,c,λv q=>nomatch q⟩
  .exact z▸⟨o,m,λv q=>by rw[hd]at q;cases q⟩
 keep:=λi h h' st k=>let⟨⟨f,c⟩,hi,g⟩:=st;⟨⟨f,k e au _ c⟩,hi.at λo=>k it au o,g⟩
 item:=by
  intro X y hw C n i aF s σ H E I hf st G;subst y hw C;let⟨⟨f,c⟩,j,g⟩:=st;let⟨xs,x,l,N⟩:=G;let⟨akH,T,p,hz⟩:=I.list l;let⟨u,hu,ru⟩:=T.get N;have akF:=cA c;have akI:=
                      aL j λ_ q _=>
                      cA q
  refine wpAny_pyNext_enum_item c j p.isList (by simpa using hu) g λh' m akJ hT akP hk=>aY _ U<|ah6 m λakG akK sb=>?_;have akL:=(sb.2 _<|AH akF).trans hT;have akM:f_ X.prog X.w (upd H s⁻¹<|.tup [.int i,x]) akG s⁻¹ (.tup [.int i,x]):=
   ⟨by show 2<=bK;decide,[.int i s.toks,u],.cons ⟨_,U⟩<|.cons ru .nil,⟨_,akL,U,_,U⟩⟩
  have I1:Inv X aF σ (upd H s⁻¹<|.tup [.int i,x]) {s with heap:=akG,toks:=s.toks+1}:=
   I.CB (λb ob d q=>(sb.2 b<|λz=>d<|by simp[z]).trans<|hk b ob (λz=>d<|by simp[z]) (λz=>d<|by simp[z]) q) hf (cg _) akM
  refine jf (.ref s⁻¹) _ I1 U ⟨_,x,U,I.bS.fresh<|cg _,U,λys hy=>(I.Ca hy l)▸N⟩ ⟨⟨u,?_⟩,akJ.at λo=>(sb.2 it<|gk g).trans,g⟩<|λb d=>?_
  .have e1:((i+1:Nat):Int)=i+1:=ap;exact e1▸akK
  .have akN:b<s⁻¹:=by
    have t:=by simpa using d
    obtain z|z:=t
    .exact z▸akF
    .exact z▸akI
   exact(aQ<|fO akN)▸(hf b d).1
 done:=by intro X y hw C n i aF s σ H E I hf st G;subst y hw C;let⟨⟨f,c⟩,j,g⟩:=st;obtain⟨xs,l,N⟩:=G;let⟨akH,T,p,hz⟩:=I.list l;refine Bn (hf it au) λf0 f1 f2 f3 f4 f5=>?_;have hl:=T.length;exact wpAny_pyNext_enum_end (I.ok.hd n) c j p.isList (by simp;omega) λh' eb=>⟨U,I.turned (eb) f0 f1 f3 f4 f5⟩
 self:=λA i s Q E st h=>let⟨⟨_,c⟩,_⟩:=st;JT c h
abbrev ZH(K:aJ)(c:TA):TI:=λσ H R=>c σ H λvs b=>∃a d,vs=[.ref a]/\bR K b a d/\R (MY K a) b
def ZI(k:Gl X "enumerate")(l:X.mg "enumerate"=am)(m:PA X [e] n)(o:d9 [e] X.env=[(aA,eval e X.env)]<|>_r):
  PI X (jW elts kk akF) (b0 (aK "enumerate" p) [e] [] ao) (ZH X.K n):=by
 refineλf s g H R I h=>rp<|lr I k l ah7<|p5 (bo (m ao f s g H _ I h) λus c t=>be t λvs i d u v=>?_) o U;refine be v λa xs w x q=>?_;subst w;cases u with
 |cons r y=>
  cases y;subst r;refine b7 (d.list x) λakG rv A hz=>?_;refine call_enumerate_list A.isList λC E akH akI G=>JT E ?_;have N:Inv X f g i {c with heap:=C}:=d.kept G;refine rH (c⁻¹+1) ([c⁻¹+1,c⁻¹]) _ _ i U N (ZG a (c⁻¹+1) c⁻¹) bh (λb Q=>?_) q;have T:=by simpa using Q
  have j:c⁻¹<=b:=by
   obtain z|z:=T
   .exact z▸p8 _ _
   .exact z▸cg _
  exact d.og j<|d.bS.fresh j
def MZ:rm "zip"=Y (.type "zip"):=cq
abbrev M0(K:aJ)(a b:az):It:=
 ⟨λi H=>∃(c ys:O V)(x y:V),bR K H a c/\bR K H b ys/\c[i]?=Y x/\ys[i]?=Y y,
  λi H v d=>∃T x y,v=.ref T/\H T=am/\d=upd H T (.tup [x,y])/\(∀c,bR K H a c->c[i]?=Y x)/\∀ys,bR K H b ys->ys[i]?=Y y,
  λi H=>∃c ys:O V,bR K H a c/\bR K H b ys/\(c.length<=i\/ys.length<=i)⟩
def ZJ{K:aJ}{a b z TI TO f g:az}(D:xP z TI TO f g a b):
  Turn P w K (jW elts kk akW) (M0 K a b) [z,TI,TO,f,g] z (λi h=>IsZip h z TI TO .none/\k9 h TI (.ref f) (.ref g)/\(∃x y,k9 h TO x y)/\h.IsListIter f a i/\h.IsListIter g b i) where
 mem:=au
 obj:=λi h⟨m,j,⟨x,y,n⟩,⟨o1,e1,_,d1⟩,⟨o2,e2,_,d2⟩⟩c N=>by
  have e':c=z\/c=TI\/c=TO\/c=f\/c=g:=by simpa using N
  obtain q|q|q|q|q:=e'
  .exact q▸⟨_,m,λv q=>nomatch q⟩
  .exact q▸⟨_,j,λv q=>nomatch q⟩
  .exact q▸⟨_,n,λv q=>nomatch q⟩
  .exact q▸⟨o1,e1,λv q=>by rw[d1]at q;cases q⟩
  .exact q▸⟨o2,e2,λv q=>by rw[d2]at q;cases q⟩
 keep:=λi h h'⟨m,j,⟨x,y,n⟩,t,C⟩k=>⟨k z au _ m,k TI au _ j,⟨x,y,k TO au _ n⟩,t.at λo=>k f au o,C.at λo=>k g au o⟩
 item:=by
  intro X hP hw hK N i aF s σ H E I hf st hg;subst hP hw hK;let⟨m,j,⟨x0,y0,n⟩,t,C⟩:=st;let⟨xs,ys,x,y,T,akF,hx,hy⟩:=hg;let⟨akI,rv,p,_⟩:=I.list T;let⟨akJ,akG,p2,_⟩:=I.list akF;let⟨u,hu,ru⟩:=rv.get hx;let⟨u2,akM,akN⟩:=akG.get hy;have akK:z<s⁻¹:=cA m;refine ah8 D m j n t C p.isList p2.isList (x:=u) (y:=u2) (by simpa using hu) (by simpa using akM) λh' z' akO akP akQ hT akX hk=>aY _ U<|wpAny_letOwnedTupleGo_zip (s:={s with heap:=h'}) z' λakH akR G=>?_;have akS:akH.get? s⁻¹=Y {cls:=.type "tuple",data:=.seq #[u,u2]}:=(G.2 _<|AH akK).trans hT;have akT:f_ X.prog X.w (upd H s⁻¹<|.tup [x,y]) akH s⁻¹ (.tup [x,y]):=
   ⟨by show 2<=bK;decide,[u,u2],.cons ru<|.cons akN .nil,⟨_,akS,U,_,U⟩⟩
  have I1:Inv X aF σ (upd H s⁻¹<|.tup [x,y]) {s with heap:=akH}:=
   I.CB (t':=s.toks) (ch:=[z,TI,TO,f,g]) (λc o e q=>(G.2 c<|λd=>e<|by simp[d]).trans<|hk c o (λd=>e<|by simp[d]) (λd=>e<|by simp[d]) (λd=>e<|by simp[d]) (λd=>e<|by simp[d]) q) hf (cg _) akT
  refine jf (.ref s⁻¹) _ I1 U ⟨_,x,y,U,I.bS.fresh<|cg _,U,λl hl=>by rwa[I.Ca hl T],λl hl=>(I.Ca hl akF)▸hy⟩ ⟨akR,?_,⟨u,u2,?_⟩,?_,?_⟩<|λc akL=>?_
  .exact(G.2 _ D.TIz).trans<|hk _ _ D.TIz D.TITO D.TIi1 D.TIi2 j
  .exact(G.2 _ D.TOz).trans akO
  .exact akP.at λo=>(G.2 _ D.i1z).trans
  .exact akQ.at λo=>(G.2 _ D.i2z).trans
  .have akU:c<s⁻¹:=by
    have e':c=z\/c=TI\/c=TO\/c=f\/c=g:=by simpa using akL
    obtain q|q|q|q|q:=e'
    .rw[q];exact akK
    .rw[q];exact cA j
    .rw[q];exact cA n
    .rw[q];let⟨_,e1,_⟩:=t;exact cA e1
    .rw[q];let⟨_,e2,_⟩:=C;exact cA e2
   exact(aQ<|fO akU)▸(hf c akL).1
 done:=by
  intro X hP hw hK N i aF s σ H E I hf st hg;subst hP hw hK;obtain⟨m,j,⟨x0,y0,n⟩,t,C⟩:=st;refine be hg λxs ys T akF akV=>?_;let⟨akI,rv,p,_⟩:=I.list T;refine b7 (I.list akF) λakJ akG p2 _=>?_;have l1:=rv.length;have l2:=akG.length
  have he:akI.toArray[i]?=am\/akJ.toArray[i]?=am:=by
   obtain q|q:=akV
   .exact .inl<|by simp;lia
   .exact .inr<|by simp;lia
  exact ah9 (I.ok.hd N) D m j n t C p.isList p2.isList he λh' hk=>⟨U,I.r8 (t':=s.toks) (ch:=[z,TI,TO,f,g]) (λc o e q=>
   hk c o (λd=>e<|by simp[d]) (λd=>e<|by simp[d]) (λd=>e<|by simp[d]) (λd=>e<|by simp[d]) q) hf⟩
 self:=λA i s Q E st=>UC st.1
abbrev ZK(K:aJ)(d:TA):TI:=λσ H R=>d σ H λvs c=>∃a b e ys,vs=[.ref a,.ref b]/\bR K c a e/\bR K c b ys/\R (M0 K a b) c
def ZL{X:Cx}{e f:aT}{k:TA}{p i v:bn}{w:O aT}{x:Nat}(y:Gl X "zip")(A:X.mg "zip"=am)(C:PA X [e,f] k)
  (E:(d9 [e,f] X.env=(aA,eval e X.env)::d9 [f] X.env)<|>_r)(G:(oV i<|d9 [f] X.env).any (·.1)=aA<|>_r):
  PI X (jW w x v) (b0 (aK "zip" p) [e,f] [] i) (ZK X.K k):=by
 refineλl s m H R I h=>rp<|lr I y A MZ<|p5 (bo (C i l s m H _ I h) λus d N=>be N λvs n g Q T=>?_) E G;refine vI T λa b xs ys akF akG akH q=>?_;subst akF;cases Q with
 |cons r j=>
  cases j with
  |cons r' j=>
   cases j;subst r;subst r';let⟨akJ,rv,o,_⟩:=g.list akG;let⟨akK,akL,t,_⟩:=g.list akH;have la:=o.lt;have lb:=t.lt;refine call_zip_2 o.isList t.isList λh' hz akM akN h1 h2 akO hk=>UC hz ?_;have I2:Inv X l m n {d with heap:=h'}:=g.kept hk;refine rH (d⁻¹+4) ([d⁻¹+4,d⁻¹+2,d⁻¹+3,d⁻¹,d⁻¹+1]) _ _ n U I2 (ZJ<|ah_ d⁻¹ a b la lb) bh (λc akI=>?_) q;have e':=by simpa using akI
   have u:d⁻¹<=c:=by
    obtain z|z|z|z|z:=e'
    .exact z▸p8 _ _
    .exact z▸p8 _ _
    .rw[z];exact p8 _ _
    .exact z▸cg _
    .exact z▸p8 _ _
   exact g.og u<|g.bS.fresh u
end _a
namespace TL
open PySem PySem.Builtin PySem.Builtin.Str PySem.StrLaws
def join_eq y parts:xQ y parts=.join y parts:=glued_eq_join y parts
end TL
namespace _a
open PySem PySem.Spec PyProof.Rows
def Gs:∀{ys:O aq}{us:O aB},Vals (ys.map .str) us->StrsAre us ys
 |[],_,.nil=>.nil
 |y::ys,_,.cons r t=>by obtain⟨k,rfl⟩:=r;exact .cons y k<|Gs t
section
variable{X:Cx}
def ZM:yR X "str.join" (λx c H Q=>∃a p,∃ys:O aq,x=.str a/\c=[.ref p]/\(bR X.K H p (ys.map .str)\/cx X.K H p (ys.map .str))/\
  (ys.map (·.length)).sum+ys.length*a.length<=16777216/\Q (.str<|xQ a ys) H):=by
 rintro aF s σ H x c v us Q I e rs ⟨a,p,ys,rfl,rfl,hp,d,h⟩;obtain⟨t,rfl⟩:=e;cases rs with
 |cons r1 rs=>
  cases rs;subst r1;obtain hp|hp:=hp
  .obtain⟨f,r,⟨o,n,g,i,_,j⟩,_⟩:=I.list hp;exact akl ⟨o,g,i,n,j⟩ (ah'▸Gs r) d λb k=>cn (.str _) H (I.tok k) ⟨b,U⟩ h
  .refine b7 (I.tuple hp) λf r l _=>?_;exact akm l (ah'▸Gs r) d λb k=>cn (.str _) H (I.tok k) ⟨b,U⟩ h
end
section
variable{X:Cx}{o e:aT}{to te:TE}
abbrev M1(r:V->O V->Hp->VK->Prop)(to te:TE):TE:=λσ H Q=>to σ H λx b=>(∃a,x=.str a)/\te σ b λy c=>r x [y] c Q
def ZN{id:String}{g i:bn}(slot:Slot "str" name id)(k:typeOf (.builtin id)=pure (.type "method_descriptor"))(rule:yR X id r)(l:PE X o to)(m:PE X e te)
  (n:d9 [e] X.env=[(aA,eval e X.env)]<|>_r)(p:xG o name X.env (eval o X.env)=eval o X.env<|>_r)(q:(g.endLine==i.line)=L<|>_r):
  PE X (b0 (cD o name g) [e] [] i) (M1 r to te):=by
 refineλb s c H Q I h=>PySem.Call_method1 p n q<|bo (l b s c H _ I h) λv w d=>be d λx z A j f=>?_;obtain⟨⟨a,rfl⟩,f⟩:=f;obtain⟨t,rfl⟩:=_root_.id j;exact vE ("str") _ F.plainAttrs_str slot k (typeIs_str _ _ _) au<|Ut U<|ahU<|xH<|bo (m b w c z _ A f) λu C d=>be d λy E G N T=>AK<|rule b C c E _ [y] _ [u] Q G j (.cons N .nil) T
def ZO{b c:bn}(d:PE X o to)(f:PE X e te)(g:d9 [e] X.env=[(aA,eval e X.env)]<|>_r)(h:xG o "join" X.env (eval o X.env)=eval o X.env<|>_r)(i:(b.endLine==c.line)=L<|>_r):
  PE X (b0 (cD o "join" b) [e] [] c) (M1 (λx j H Q=>∃a p,∃ys:O aq,x=.str a/\j=[.ref p]/\(bR X.K H p (ys.map .str)\/cx X.K H p (ys.map .str))/\
   (ys.map (·.length)).sum+ys.length*a.length<=16777216/\Q (.str<|xQ a ys) H) to te):=
 ZN F.slot_str_join F.type_str_join ZM d f g h i
end
abbrev inClass(s:bY)(j:Nat):bY:=match s with
 |.ClassDef _ _ _ bD _ _ _ _ _ _ _=>bD.getD j<|.Pass ⟨0,0,0,0⟩
 |_=>.Pass ⟨0,0,0,0⟩
abbrev um(s:bY):AO:=match s with
 |.FunctionDef _ a _ _ _ _ _ _ _ _=>a
 |_=>{posonlyargs:=[],args:=[],vararg:=am,kwonlyargs:=[],kw_defaults:=[],kwarg:=am,defaults:=[]}
abbrev gL(s:bY):O bY:=match s with
 |.FunctionDef _ _ b _ _ _ _ _ _ _=>b
 |_=>[]
abbrev fv(s:bY):dJ:=match s with
 |.FunctionDef _ _ _ _ _ _ sc _ _ _=>sc
 |_=>{kind:=.function,names:=[],isGenerator:=aA,isCoroutine:=aA}
@[reducible]def iH:qt:=λ_ _ _ _ _ _=>False
@[reducible]def E0:XK:=λ_ _ _=>False
def iW:Passes iH X E0:=λ_ _ _ _ _ _ _ h=>h.elim
structure we(K:aJ)(x a:aq)(st:bY)(f:az)(b:k7):Prop where
 ex:∃(d:aB)(e:Option az)(kV g h:aB)(i:Option az)(c j:aB)(k:Array (Option aB)),
  b=vh x a (um st) (gL st) (fv st) .none kV g h i c j/\K.lookup f=Y ⟨d,e,.func b,k⟩/\AQ K c a=L
 kp:k8 K (.ref f)=L
section
variable{P:bO}{w:bN}{K:aJ}{mg:aq->aR aB}{base:bf}
def we.ok{x I:aq}{st:bY}{f:az}{fd:k7}{N ps:O aq}{k:Nat}{sp:Sp}(F:we K x I st f fd)(S:im N ps (fv st))(len:∀vs H Q E,sp vs H Q E->vs.length=ps.length)
  (akG:∀C(A:eJ)(akF:O gC)s H(vs:O V)Q E,cj k (A.deeper<|tI I (fv st) s⁻¹ f C)->sp vs H Q E->
   ∃t,lq (rY iH P w K mg base N I (fv st) f C A akF s H E).uc (gL st) t/\t {nx:=λ_ H'=>Q .bH H',rt:=Q} (start N vs) H):fH P w K mg base iH (k+1) f fd ps sp:=by
 obtain⟨oc,od,kV,akJ,pm,an,C,ct,akK,rfl,lk,akH⟩:=F.ex;refine Mg lk akH S len λA akF s H vs Q E hr akI=>?_;refine aL (akG C A akF s H vs Q E hr akI) λt h q=>?_;exact aY t h.uc q
def ZP{st:bY}{kV b d a e:aB}(l:K.lookup f=Y ⟨g,h,.func<|vh x gx (um st) (gL st) (fv st) .none kV b d an a e,i⟩)
  (c:AQ K a gx=L)(k:k8 K (.ref f)=L):we K x gx st f (vh x gx (um st) (gL st) (fv st) .none kV b d an a e):=⟨bh,k⟩
end
def ZQ{A B:Prop}(h:B):if aA=L then A else B:=ap
def Gu{A B:Prop}(h:A):if L=L then A else B:=ap
abbrev aX(H a:Hp):Prop:=∀b o,H b=Y o->a b=Y o
def aX.refl H:aX H H:=λ_ _ h=>h
def aX.trans(a:aX H H1)(b:aX H1 C):aX H C:=λc o h=>b c o<|a c o h
def aX.free(e:aX H C)(h:C l=.none):H l=.none:=by
 cases q:H l with
 |none=>rfl
 |some o=>
  rw[e l o q]at h
  lia
def aX.seq{K:aJ}(e:aX H C)(h:bR K H a xs):bR K C a xs:=by
 obtain(h|⟨o,h⟩)|h:=h
 .exact .inl<|.inl<|e _ _ h
 .exact .inl<|.inr ⟨o,e _ _ h⟩
 .exact .inr h
open PySem.W (WData Codec OpenSpec Well WellAll ReadsW ReadsAllW)
mutual
inductive Dw (K:aJ) (H:Hp):V->gU->Prop
 |bH:Dw K H .bH .none
 |bl (b:Bool):Dw K H (.bl b) (.bool b)
 |int (i:Int):Dw K H (.int i) (.int i)
 |str (x:aq):Dw K H (.str x) (.str x)
 |j8 (b:Array UInt8):Dw K H (.j8 b) (.bytes b.toList)
 |lst {a:az} {c:List V} {ds:List gU}:bR K H a c->mS K H c ds->Dw K H (.ref a) (.list ds)
 |tup {a:az} {c:List V} {ds:List gU}:cx K H a c->mS K H c ds->Dw K H (.ref a) (.tuple ds)
inductive mS (K:aJ) (H:Hp):List V->List gU->Prop
 |nil:mS K H [] []
 |cons {v:V} {vs:List V} {d:gU} {ds:List gU}:Dw K H v d->mS K H vs ds->mS K H (v::vs) (d::ds)
end
def M2{K:aJ}{H:Hp}:∀ns:O Int,mS K H (ns.map V.int) (ns.map EH)
 |[]=>.nil
 |n::r=>.cons (.int n)<|M2 r
def M3{K:aJ}{H:Hp}:∀(ns:O Int)(a:O V),mS K H a (ns.map EH)->a=ns.map V.int
 |[],a,h=>by cases h;rfl
 |n::r,a,h=>by
  cases h with
  |cons b c=>
   cases b;rw[M3 r _ c]<;>rfl
section
variable{P:bO}{w:bN}{K:aJ}{H:Hp}{h:bf}{R:aia}{cl:aq->aR az}
def ZR{a:az}{b:O V}(d:dZ P w H h)(f:K.In h)(q:bR K H a b):∃(its:O aB)(o:b9)(n:Nat),Vals b its/\h.get? a=Y o/\o.cls=.type "list"/\o.data=.seq its.toArray n:=by
 rcases q with q|⟨o,its,n,e,g,_,hd,_,c⟩
 .obtain⟨_,its,n,c,e⟩:=(show f_ P w H h a (.lst b)from q.ok d)
  exact vH its _ n c e U U
 .exact vH its.toList o n c (f _ _ e) g<|by simp[hd]
def ZS{a:az}{b:O V}(g:dZ P w H h)(i:K.In h)(q:cx K H a b):∃(its:O aB)(o:b9)(n:Nat),Vals b its/\h.get? a=Y o/\o.cls=.type "tuple"/\o.data=.seq its.toArray n:=by
 rcases q with q|⟨o,its,n,e,c,d,_,f⟩
 .obtain⟨_,its,f,o,e,c,n,d⟩:=(show f_ P w H h a (.tup b)from q.ok g)
  exact vH its o n f e c d
 .exact vH its.toList o n f (i _ _ e) c<|by simp[d]
mutual
theorem Dw.reads (a:dZ P w H h) (c:K.In h):∀(d:gU)(v:V)(u:aB),Dw K H v d->RelV v u->∃e,ReadsW R cl h u d e
 |.none,_,_,x,r=>by cases x;cases r;exact⟨_,ReadsW.none⟩
 |.bool b,_,_,x,r=>by cases x;cases r;exact⟨_,ReadsW.bool b⟩
 |.int i,_,_,x,r=>by cases x;obtain⟨t,rfl⟩:=r;exact⟨_,ReadsW.int i t⟩
 |.str s,_,_,x,r=>by cases x;obtain⟨t,rfl⟩:=r;exact⟨_,ReadsW.str s t⟩
 |.bytes b,_,_,x,r=>by cases x;obtain⟨t,rfl⟩:=r;exact⟨_,ReadsW.bytes _ t⟩
 |.list ds,_,_,x,r=>by
  cases x with
  |lst f g=>
   cases r;obtain⟨its,o,n,j,k,l,m⟩:=ZR a c f;obtain⟨e,hr⟩:=Dw.readsAll a c ds _ its g j;exact⟨_,ReadsW.list k l m hr⟩
 |.tuple ds,_,_,x,r=>by
  cases x with
  |tup f g=>
   cases r;obtain⟨its,o,n,j,k,l,m⟩:=ZS a c f;obtain⟨e,hr⟩:=Dw.readsAll a c ds _ its g j;exact⟨_,ReadsW.tuple k l m hr⟩
 |.float _,_,_,x,_=>by cases x
 |.dict _,_,_,x,_=>by cases x
 |.bytearray _,_,_,x,_=>by cases x
 |.set _,_,_,x,_=>by cases x
 |.frozenset _,_,_,x,_=>by cases x
 |.obj _ _,_,_,x,_=>by cases x
theorem Dw.readsAll (a:dZ P w H h) (c:K.In h):∀(ds:List gU)(vs:List V)(us:List aB),mS K H vs ds->Vals vs us->∃e,ReadsAllW R cl h us ds e
 |[],_,_,x,r=>by cases x;cases r;exact⟨_,akn⟩
 |d::ds,_,_,x,r=>by
  cases x with
  |cons p q=>
   cases r with
   |cons r1 r2=>
    obtain⟨e,y⟩:=Dw.reads a c d _ _ p r1;obtain⟨bs,z⟩:=Dw.readsAll a c ds _ _ q r2;exact⟨_,ako y z⟩
end
end
mutual
def lv:gU->Bool
 |.none=>L
 |.bool _=>L
 |.int _=>L
 |.str _=>L
 |.bytes _=>L
 |.list xs=>mT xs
 |.tuple xs=>mT xs
 |_=>aA
def mT:List gU->Bool
 |[]=>L
 |x::r=>lv x&&mT r
end
def M4{α:Type}{f:α->gU}(h:∀a,lv (f a)=L):∀l:O α,mT (l.map f)=L
 |[]=>rfl
 |x::r=>by show(lv (f x)&&mT (r.map f))=L;rw[h x,M4 h r]<;>rfl
def r9:∀(c:Codec)(a:c.denote),lv (c.enc a)=L
 |.unit,_=>rfl
 |.bool,_=>rfl
 |.int _ _,_=>rfl
 |.nat _ _,_=>rfl
 |.u8,_=>rfl
 |.bytes _ _,_=>rfl
 |.text _ _ _ _,_=>rfl
 |.list _ _ c,a=>M4 (λx=>r9 c x) a
 |.pair c d,a=>by show(lv (c.enc a.1)&&(lv (d.enc a.2)&&L))=L;rw[r9 c a.1,r9 d a.2]<;>rfl
 |.triple c d e,a=>by show(lv (c.enc a.1)&&(lv (d.enc a.2.1)&&(lv (e.enc a.2.2)&&L)))=L;rw[r9 c a.1,r9 d a.2.1,r9 e a.2.2]<;>rfl
 |.option c,am=>rfl
 |.option c,Y x=>r9 c x
def M5:∀(cs:O Codec)(a:UD cs),mT (EI cs a)=L
 |[],_=>rfl
 |c::cs,a=>by show(lv (c.enc a.1)&&mT (EI cs a.2))=L;rw[r9 c a.1,M5 cs a.2]<;>rfl
def Gv:∀{a:O gU}{d:gU},d∈a->d.weight<=JU a
 |[],d,h=>absurd h au
 |x::r,d,h=>by
  show d.weight<=x.weight+1+JU r;rcases cU.mp h with e|m
  .rw[e];omega
  .have z:=Gv m;omega
abbrev toV:aB->V
 |.none=>.bH
 |.bool b=>.bl b
 |.int i _=>.int i
 |.str x _=>.str x
 |.bytes b _=>.j8 b
 |.ref a=>.ref a
 |_=>.bH
abbrev lW(A:O az):aB->Prop
 |.none=>True
 |.bool _=>True
 |.int _ _=>True
 |.str _ _=>True
 |.bytes _ _=>True
 |.ref a=>a∈A
 |_=>False
def lW.mono{A B:O az}(h:∀a∈A,a∈B):∀{u:aB},lW A u->lW B u:=λ{u}x=>by
 cases u with
 |ref a=>exact h a x
 |none=>trivial
 |bool b=>trivial
 |int i t=>trivial
 |str s t=>trivial
 |bytes b t=>trivial
 |_=>exact kZ x
def ZT{A:O az}{u:aB}(x:lW A u):RelV (toV u) u:=by
 cases u with
 |ref a=>rfl
 |none=>rfl
 |bool b=>rfl
 |int i t=>exact⟨t,U⟩
 |str s t=>exact⟨t,U⟩
 |bytes b t=>exact⟨t,U⟩
 |_=>exact kZ x
def wg{A:O az}:∀{vs:O aB},(∀u∈vs,lW A u)->Vals (vs.map toV) vs
 |[],_=>.nil
 |u::r,h=>.cons (ZT<|h u<|ig ..)<|wg λx a=>h x<|ja _ a
abbrev oq(h:bf)(A:O az)(a:az):Prop:=∃vs:O aB,vs.length<=bK/\(∀u∈vs,lW A u)/\
 (h.get? a=Y {cls:=.type "list",data:=.seq vs.toArray}\/h.get? a=Y {cls:=.type "tuple",data:=.seq vs.toArray})
def oq.mono{h:bf}{A B:O az}{a:az}(k:∀a∈A,a∈B)(x:oq h A a):oq h B a:=by refine b7 x λC I h2 h3=>?_;exact fQ C I (λu hu=>(h2 u hu).mono k) h3
def CC{P:vq}{h:bf}:∀{vs:O aB}{ds:O gU},vt P h vs ds->vs.length=ds.length
 |_,_,.nil=>rfl
 |_,_,.cons _ b=>by show _+1=_+1;rw[CC b]
def M6{P:vq}{h:bf}{v:aB}{ds:O gU}(x:Well P h v (.list ds)):∃(a:az)(vs:O aB),v=.ref a/\h.get? a=Y {cls:=.type "list",data:=.seq vs.toArray}/\vt P h vs ds:=by
 cases x with
 |list b c=>exact cn _ _ U b c
def M7{P:vq}{h:bf}{v:aB}{ds:O gU}(x:Well P h v (.tuple ds)):∃(a:az)(vs:O aB),v=.ref a/\h.get? a=Y {cls:=.type "tuple",data:=.seq vs.toArray}/\vt P h vs ds:=by
 cases x with
 |tuple b c=>exact cn _ _ U b c
def M8{P:vq}{h:bf}{us:O aB}{d:gU}{ds:O gU}(x:vt P h us (d::ds)):∃(v:aB)(vs:O aB),us=v::vs/\Well P h v d/\vt P h vs ds:=by
 cases x with
 |cons a b=>exact cn _ _ U a b
def M9{n:Nat}(h:n<=1048576):n<=bK:=cS h bw
section
variable{P:vq}{h:bf}
mutual
theorem ZU:∀(d:gU)(v:aB),Well P h v d->lv d=L->d.weight<=1048576->∃A:List az,lW A v/\∀a∈A,oq h A a
 |.none,_,x,_,_=>by cases x;exact⟨[],trivial,λa m=>absurd m<|by simp⟩
 |.bool b,_,x,_,_=>by cases x;exact⟨[],trivial,λa m=>absurd m<|by simp⟩
 |.int i,_,x,_,_=>by cases x;exact⟨[],trivial,λa m=>absurd m<|by simp⟩
 |.str s,_,x,_,_=>by cases x;exact⟨[],trivial,λa m=>absurd m<|by simp⟩
 |.bytes b,_,x,_,_=>by cases x;exact⟨[],trivial,λa m=>absurd m<|by simp⟩
 |.list ds,_,x,p,z=>by
  obtain⟨a,vs,rfl,l,f⟩:=M6 x;have g:JU ds<=1048576:=z;obtain⟨A,n,o⟩:=CD ds _ f p λd t=>cS (Gv t) g;have k:∀b∈A,b∈a::A:=λb c=>ja _ c;refine⟨a::A,ig ..,λb c=>?_⟩;rcases cU.mp c with e|m
  .rw[e];exact⟨vs,M9 (by rw[CC f];exact cS (aib ds) g),λu j=>(n u j).mono k,.inl l⟩
  .exact(o b m).mono k
 |.tuple ds,_,x,p,z=>by
  obtain⟨a,vs,rfl,l,f⟩:=M7 x;have g:JU ds<=1048576:=z;obtain⟨A,n,o⟩:=CD ds _ f p λd t=>cS (Gv t) g;have k:∀b∈A,b∈a::A:=λb c=>ja _ c;refine⟨a::A,ig ..,λb c=>?_⟩;rcases cU.mp c with e|m
  .rw[e];exact⟨vs,M9 (by rw[CC f];exact cS (aib ds) g),λu j=>(n u j).mono k,.inr l⟩
  .exact(o b m).mono k
 |.float _,_,_,p,_=>nO<|show aA=L from p
 |.dict _,_,_,p,_=>nO<|show aA=L from p
 |.bytearray _,_,_,p,_=>nO<|show aA=L from p
 |.set _,_,_,p,_=>nO<|show aA=L from p
 |.frozenset _,_,_,p,_=>nO<|show aA=L from p
 |.obj _ _,_,_,p,_=>nO<|show aA=L from p
theorem CD:∀(ds:List gU)(vs:List aB),vt P h vs ds->mT ds=L->(∀d∈ds,d.weight<=1048576)->∃A:List az,(∀u∈vs,lW A u)/\∀a∈A,oq h A a
 |[],_,x,_,_=>by cases x;exact⟨[],λu m=>absurd m (by simp),λa m=>absurd m<|by simp⟩
 |d::ds,_,x,p,z=>by
  obtain⟨v,vs,rfl,C,E⟩:=M8 x;have q:lv d=L/\mT ds=L:=UE.mp p;obtain⟨A,G,H⟩:=ZU d v C q.1<|z d<|ig ..;obtain⟨B,I,N⟩:=CD ds vs E q.2 λe Q=>z e<|ja _ Q;have w:∀b∈A,b∈A++B:=λb c=>fE.mpr<|.inl c;have y:∀b∈B,b∈A++B:=λb c=>fE.mpr<|.inr c;refine⟨A++B,λu j=>?_,λb c=>?_⟩
  .rcases cU.mp j with e|m
   .rw[e];exact G.mono w
   .exact(I u m).mono y
  .rcases fE.mp c with m|m
   .exact(H b m).mono w
   .exact(N b m).mono y
end
end
abbrev CF(o:b9):aR HO:=match o.data with
 |.seq vs _=>if(o.cls==pZ "list")=L then Y (.iF o<|.lst<|vs.toList.map toV)else Y (.iF o<|.tup<|vs.toList.map toV)
 |_=>am
abbrev jE(K:aJ)(h:bf)(A:O az):Hp:=λb=>if b∈A then(if(K.lookup b).isNone=L then(h.get? b).bind CF else am)else am
abbrev y8(H:Hp):Prop:=∀b,H b=am\/∃o u,H b=Y (.iF o u)
def M_(vs:O aB):CF {cls:=.type "list",data:=.seq vs.toArray}=Y (.iF {cls:=.type "list",data:=.seq vs.toArray}<|.lst<|vs.map toV):=by show(if(pZ "list"==pZ "list")=L then Y (HO.iF {cls:=.type "list",data:=.seq vs.toArray}<|.lst<|vs.toArray.toList.map toV)else Y (HO.iF {cls:=.type "list",data:=.seq vs.toArray}<|.tup<|vs.toArray.toList.map toV))=_;rw[aH<|UF _]
def Na(vs:O aB):CF {cls:=.type "tuple",data:=.seq vs.toArray}=Y (.iF {cls:=.type "tuple",data:=.seq vs.toArray}<|.tup<|vs.map toV):=by show(if(pZ "tuple"==pZ "list")=L then Y (HO.iF {cls:=.type "tuple",data:=.seq vs.toArray}<|.lst<|vs.toArray.toList.map toV)else Y (HO.iF {cls:=.type "tuple",data:=.seq vs.toArray}<|.tup<|vs.toArray.toList.map toV))=_;rw[aD bw]
section
variable{P:bO}{w:bN}{K:aJ}{h:bf}{A:O az}
def CG{b:az}{o:b9}(a:b∈A)(c:K.lookup b=am)(e:h.get? b=Y o):jE K h A b=CF o:=by unfold jE;rw[aH a,c,aH<|show(am:aR b9).isNone=L from U,e]<;>rfl
def ZV{b:az}{u:HO}(q:jE K h A b=Y u):b∈A/\K.lookup b=am:=by
 unfold jE at q;by_cases a:b∈A
 .rw[aH a]at q;cases c:K.lookup b with
  |none=>exact⟨a,U⟩
  |some o=>
   rw[c,aD au]at q;cases q
 .rw[aD a]at q;cases q
def Nb(ar:∀a∈A,oq h A a){b:az}{u:HO}(q:jE K h A b=Y u):K.lookup b=am/\∃vs:O aB,vs.length<=bK/\(∀u∈vs,lW A u)/\
  ((h.get? b=Y {cls:=.type "list",data:=.seq vs.toArray}/\u=.iF {cls:=.type "list",data:=.seq vs.toArray} (.lst<|vs.map toV))\/
   (h.get? b=Y {cls:=.type "tuple",data:=.seq vs.toArray}/\u=.iF {cls:=.type "tuple",data:=.seq vs.toArray} (.tup<|vs.map toV))):=by
 obtain⟨c,d⟩:=ZV q;refine b7 (ar b c) λvs f g i=>?_;refine⟨d,vs,f,g,?_⟩;rcases i with e|e
 .rw[CG c d e,M_]at q;exact .inl ⟨e,(bL q).symm⟩
 .rw[CG c d e,Na]at q;exact .inr ⟨e,(bL q).symm⟩
def ZW(ar:∀a∈A,oq h A a):y8 (jE K h A):=λb=>by
 cases q:jE K h A b with
 |none=>exact .inl U
 |some u=>
  obtain⟨_,c,_,_,⟨_,e⟩|⟨_,e⟩⟩:=Nb ar q
  .exact .inr ⟨_,_,by rw[e]⟩
  .exact .inr ⟨_,_,by rw[e]⟩
def CH{c a:aB}{vs us:O aB}(e:(Y {cls:=c,data:=.seq vs.toArray}:aR b9)=Y {cls:=a,data:=.seq us.toArray}):c=a/\vs=us:=by
 have b:=bL e;have d:c=a:=bJ Obj.cls b;have f:aic vs.toArray=aic us.toArray:=bJ Obj.data b;injection f with g
 refine⟨d,?_⟩;have i:=bJ TY g;simpa using i
def ZX(i:K.In h)(ar:∀a∈A,oq h A a){a:az}{vs:O aB}(c:a∈A)(e:h.get? a=Y {cls:=.type "list",data:=.seq vs.toArray}):(∀u∈vs,lW A u)/\bR K (jE K h A) a (vs.map toV):=by
 refine b7 (ar a c) λd j f k=>?_
 have l:d=vs:=by
  rcases k with q|q
  .rw[e]at q;exact(CH q).2.symm
  .rw[e]at q;exact absurd (aid (CH q).1) bw
 subst l;refine⟨f,?_⟩;cases b:K.lookup a with
 |none=>exact .inl<|.inr ⟨_,by rw[CG c b e,M_]⟩
 |some o=>
  have g:=i a o b;rw[e]at g;obtain rfl:=bL g;exact .inr ⟨_,d.toArray,_,b,U,U,U,by rw[g8];exact j,by simpa using wg f⟩
def ZY(i:K.In h)(ar:∀a∈A,oq h A a){a:az}{vs:O aB}(c:a∈A)(e:h.get? a=Y {cls:=.type "tuple",data:=.seq vs.toArray}):(∀u∈vs,lW A u)/\cx K (jE K h A) a (vs.map toV):=by
 refine b7 (ar a c) λd j f k=>?_
 have l:d=vs:=by
  rcases k with q|q
  .rw[e]at q;exact absurd (aid (CH q).1) bw
  .rw[e]at q;exact(CH q).2.symm
 subst l;refine⟨f,?_⟩;cases b:K.lookup a with
 |none=>exact .inl<|.inr ⟨_,by rw[CG c b e,Na]⟩
 |some o=>
  have g:=i a o b;rw[e]at g;obtain rfl:=bL g;exact .inr ⟨_,d.toArray,_,b,U,U,by rw[g8];exact j,by simpa using wg f⟩
mutual
theorem ZZ {f:vq} (c:K.In h) (ar:∀a∈A,oq h A a):∀(d:gU)(v:aB),Well f h v d->lv d=L->lW A v->Dw K (jE K h A) (toV v) d
 |.none,_,x,_,_=>by cases x;exact .bH
 |.bool b,_,x,_,_=>by cases x;exact .bl b
 |.int i,_,x,_,_=>by cases x;exact .int i
 |.str s,_,x,_,_=>by cases x;exact .str s
 |.bytes b,_,x,_,_=>by cases x;have z:=Dw.j8 (K:=K) (H:=jE K h A) b.toArray;exact z
 |.list ds,_,x,p,e=>by obtain⟨a,vs,rfl,g,j⟩:=M6 x;obtain⟨k,l⟩:=ZX c ar e g;exact .lst l<|CI c ar ds _ j p k
 |.tuple ds,_,x,p,e=>by obtain⟨a,vs,rfl,g,j⟩:=M7 x;obtain⟨k,l⟩:=ZY c ar e g;exact .tup l<|CI c ar ds _ j p k
 |.float _,_,_,p,_=>nO<|show aA=L from p
 |.dict _,_,_,p,_=>nO<|show aA=L from p
 |.bytearray _,_,_,p,_=>nO<|show aA=L from p
 |.set _,_,_,p,_=>nO<|show aA=L from p
 |.frozenset _,_,_,p,_=>nO<|show aA=L from p
 |.obj _ _,_,_,p,_=>nO<|show aA=L from p
theorem CI {f:vq} (c:K.In h) (ar:∀a∈A,oq h A a):∀(ds:List gU)(vs:List aB),vt f h vs ds->mT ds=L->(∀u∈vs,lW A u)->mS K (jE K h A) (vs.map toV) ds
 |[],_,x,_,_=>by cases x;exact .nil
 |d::ds,_,x,p,e=>by obtain⟨v,vs,rfl,n,o⟩:=M8 x;have q:lv d=L/\mT ds=L:=UE.mp p;exact .cons (ZZ c ar d v n q.1<|e _<|ig ..)<|CI c ar ds vs o q.2 λu m=>e u<|ja _ m
end
end
def Z0{ds:O gU}(h:WData.layableAll ds=L):∀d∈ds,d.weight<=1048576:=λd a=>
 (PySem.W.layableW_iff.mp<|dR.mp h d a).2.2
def Nc:∀(cs:O Codec)(a:UD cs),(EI cs a).length=cs.length
 |[],_=>rfl
 |c::cs,a=>by show(EI cs a.2).length+1=cs.length+1;rw[Nc cs a.2]
end _a
namespace _b
open PySem PySem.Spec _a
open PyProof.Rows hiding St
structure Nv(X:Cx)(i:Nat)(x:aq):Prop where
 n:X.N[i]?=x
 v:rQ X.env.scope x
 d:(x=="__debug__")=aA
 c:(x=="__classdict__")=aA
def nv{X:Cx}(a:X.N[i]?=Y x<|>_r)(b:rQ X.env.scope x<|>alP)(c:(x=="__debug__")=aA<|>af)(d:(x=="__classdict__")=aA<|>af):Nv X i x:=⟨a,b,c,d⟩
def gu{X:Cx}(h:Nv X i x):PE X (aK x ao) (Ly i):=rR h.n h.v h.d h.c
structure Lc(X:Cx)(i:Nat)(x:aq):Prop where
 d:X.N.Nodup
 n:X.N[i]?=x
 l:Loc X.env.scope x
 f:X.fn x=L\/X.env.scope.names.lookup x=Y .local
def lc{X:Cx}(a:X.N.Nodup<|>ak)(b:X.N[i]?=Y x<|>_r)(c:Loc X.env.scope x<|>alM)(d:X.fn x=L\/X.env.scope.names.lookup x=Y .local<|>alM):Lc X i x:=⟨a,b,c,d⟩
structure Gn X x:Prop where
 g:Gl X x
 d:(x=="__debug__")=aA
def gn{X:Cx}(a:Gl X x<|>_r)(b:(x=="__debug__")=aA<|>af):Gn X x:=⟨a,b⟩
@[reducible]def Se(X:Cx)(e:aT)(es:O aT):Prop:=d9 (e::es) X.env=(aA,eval e X.env)::d9 es X.env
@[reducible]def Ab(X:Cx)(e:aT)(s:aq):Prop:=xG e s X.env (eval e X.env)=eval e X.env
@[reducible]def Bt(X:Cx)(p:bn)(es:O aT):Prop:=(oV p<|d9 es X.env).any (·.1)=aA
@[reducible]def Fe(X:Cx)(p:bn)(es:O aT):Prop:=((oV p<|d9 es X.env).all (λx=>!x.1)&&(Uj p<|Uk [] X.env).all (λx=>x.1.isSome)&&decide (es.length+([]:O AN).length+(if([]:O AN).isEmpty then 0 else 1)<30))=L
@[reducible]def Sw(X:Cx)(e:aT)(t:aR aT)(l:Nat):Prop:=oW e t l X.env=pure aA
@[reducible]def Fi(X:Cx)(e:aT):Prop:=∀z,EA e X.env z=pure z
structure Rp where
 r:Hp->V->Prop
 mono:∀{G a:Hp}{v:V},aX G a->r G v->r a v
abbrev bv(G:Hp):O V->O Rp->Prop
 |[],[]=>True
 |v::vs,d::ds=>d.r G v/\bv G vs ds
 |[],_::_=>False
 |_::_,[]=>False
def bv.ind{P:O V->O Rp->Prop}(n:P [] [])(c:∀v vs d ds,d.r G v->bv G vs ds->P vs ds->P (v::vs) (d::ds)){vs ds}:bv G vs ds->P vs ds:=by
 revert vs
 induction ds with
 |nil=>
  intro vs h;cases vs with
  |nil=>exact n
  |cons=>exact h.elim
 |cons d ds C=>
  intro vs h;cases vs with
  |nil=>exact h.elim
  |cons v vs=>exact c _ _ _ _ h.1 h.2<|C h.2
def bv.mono{vs ds}(e:aX G C)(h:bv G vs ds):bv C vs ds:=h.ind (P:=bv C) trivial λ_ _ d _ a _ c=>⟨d.mono e a,c⟩
def bv.length(h:bv G vs ds):vs.length=ds.length:=h.ind (P:=λvs ds=>vs.length=ds.length) U λ_ _ _ _ _ _ c=>bJ (· +1) c
def bv.get{i:Nat}{d:Rp}(h:bv G vs ds)(e:ds[i]?=Y d):∃v,vs[i]?=Y v/\d.r G v:=by
 revert i;refine h.ind (P:=λvs ds=>∀{i},ds[i]?=Y d->∃v,vs[i]?=Y v/\d.r G v) (λe=>by cases e) λv vs d ds a _ c i e=>?_;cases i with
 |zero=>exact aY v U<|bL e▸a
 |succ i=>exact c e
def bv.get'{i:Nat}(h:bv G vs ds)(e:vs[i]?=Y v):∃d,ds[i]?=Y d/\d.r G v:=by
 have C:i<ds.length:=by rw[<-h.length];grind
 obtain _:=h.get<|dq C;simp_all
def bv.append(h:bv G vs ds)(k:bv G us es):bv G (vs++us) (ds++es):=h.ind (P:=λvs ds=>bv G (vs++us)<|ds++es) k λ_ _ _ _ a _ c=>⟨a,c⟩
def bv.of_get:∀{vs:O V}{ds:O Rp},vs.length=ds.length->(∀(i:Nat)v d,vs[i]?=Y v->ds[i]?=Y d->d.r G v)->bv G vs ds
 |[],[],_,_=>trivial
 |v::vs,d::ds,C,h=>⟨h 0 v d U U,bv.of_get bG λi I d' a=>h (i+1) I d' a⟩
 |[],_::_,C,_=>by grind
 |_::_,[],C,_=>bh
def bv.take n(h:bv G vs ds):bv G (vs.take n) (ds.take n):=by
 revert n;refine h.ind (P:=λvs ds=>∀n,bv G (vs.take n)<|ds.take n) (λn=>by cases n<;>trivial) λ_ _ _ _ a _ c n=>?_;cases n with
 |zero=>trivial
 |succ n=>exact⟨a,c n⟩
def bv.drop n(h:bv G vs ds):bv G (vs.drop n) (ds.drop n):=by
 revert n;refine h.ind (P:=λvs ds=>∀n,bv G (vs.drop n)<|ds.drop n) (λn=>by cases n<;>trivial) λ_ _ _ _ a b c n=>?_;cases n with
 |zero=>exact⟨a,b⟩
 |succ n=>exact c n
def bv.reverse(h:bv G vs ds):bv G vs.reverse ds.reverse:=h.ind (P:=λvs ds=>bv G vs.reverse ds.reverse) trivial λ_ _ _ _ a _ c=>by rw[xq,xq];exact c.append ⟨a,trivial⟩
def bv.map{α:Type}{f:α->V}{g:α->Rp}:∀{l:O α},(∀x∈l,(g x).r G<|f x)->bv G (l.map f) (l.map g):=by
 intro C h
 induction C with
 |nil=>exact trivial
 |cons x l I=>exact⟨h x au,I λy hy=>h y bh⟩
def _root_._a.aX.tup{K:aJ}(e:aX H C)(h:cx K H a xs):cx K C a xs:=by
 obtain(h|⟨o,h⟩)|h:=h
 .exact aP<|aP<|e _ _ h
 .exact aP<|aW ⟨o,e _ _ h⟩
 .exact aW h
namespace Rp
abbrev bH:Rp:=⟨λ_ v=>v=.bH,λ_ h=>h⟩
abbrev bl(b:Bool):Rp:=⟨λ_ v=>v=.bl b,λ_ h=>h⟩
abbrev int(i:Int):Rp:=⟨λ_ v=>v=.int i,λ_ h=>h⟩
abbrev str(x:aq):Rp:=⟨λ_ v=>v=.str x,λ_ h=>h⟩
abbrev ref(a:az):Rp:=⟨λ_ v=>v=.ref a,λ_ h=>h⟩
abbrev tup(K:aJ)(ds:O Rp):Rp:=⟨λG v=>∃a vs,v=.ref a/\cx K G a vs/\bv G vs ds,λe⟨a,vs,b,c,d⟩=>⟨a,vs,b,e.tup c,d.mono e⟩⟩
abbrev lst(ds:O Rp):Rp:=⟨λG v=>∃a vs,v=.ref a/\G a=Y (.lst vs)/\bv G vs ds,λe⟨a,vs,b,c,d⟩=>⟨a,vs,b,e _ _ c,d.mono e⟩⟩
abbrev ins(C:az)(g:O (aq×Rp)):Rp:=⟨λG v=>∃a c b,v=.ref a/\G a=Y (.ins C c b)/\∀f d,g.lookup f=Y d->∃u,b.lookup f=Y u/\d.r G u,
 λe⟨a,c,b,h,i,j⟩=>⟨a,c,b,h,e _ _ i,λf d l=>let⟨u,q,k⟩:=j f d l;⟨u,q,d.mono e k⟩⟩⟩
abbrev opt:aR Rp->Rp
 |none=>bH
 |some d=>d
abbrev wit(p:Prop)(d:Rp):Rp:=⟨λG v=>p/\d.r G v,λe h=>⟨h.1,d.mono e h.2⟩⟩
end Rp
open Rp
structure Ext G H b c:Prop where
 g:aX G b
 s:aX b c
 h:aX H c
 f:∀a,H a≠am->G a=am->b a=am
def lw{H:Hp}(h:H a≠am):∃o,H a=Y o:=by cases e:H a<;>lia
def Ext.refl(s:aX G H):Ext G H G H:=⟨aX.refl _,s,aX.refl _,λ_ _ h=>h⟩
def Ext.trans(a:Ext G H I H1)(b:Ext I H1 G2 H2):Ext G H G2 H2:=
 ⟨a.g.trans b.g,b.s,a.h.trans b.h,λx C hg=>b.f x (by obtain⟨o,e⟩:=lw C;rw[a.h _ _ e];simp)<|a.f x C hg⟩
def Ext.hp(s:aX G H)(h:aX H C):Ext G H G C:=⟨aX.refl _,s.trans h,h,λ_ _ h=>h⟩
def gM(a:H p=am):aX H (upd H p o):=λb u e=>by rw[aQ<|f9 e a];lia
def Z1(s:aX G H):aX (upd G p o) (upd H p o):=λb u e=>by
 by_cases a:b=p
 .grind[bQ]
 .rw[aQ a]at e⊢;exact s _ _ e
def kc(s:aX G H)(h:H p=am):G p=am:=s.free h
def Ext.new(s:aX G H)(C:H p=am):Ext G H (upd G p o) (upd H p o):=
 ⟨gM<|kc s C,Z1 s,gM C,λa I hg=>by grind[aQ]⟩
abbrev Wf(H:Hp):Prop:=∀a b,H a=Y (.lst b)->b.length<=bK
def ji{σ:St}(I:Inv X aF σ H s):Wf H:=λa b e=>(I.bS a _ e).1
def Wf.new(w:Wf H)(h:∀C,o=.lst C->C.length<=bK):Wf (upd H p o):=λa C e=>by
 by_cases I:a=p
 .simp_all[bQ]
 .rw[aQ I]at e;exact w _ _ e
def Wf.tup(w:Wf H):Wf (upd H p<|.tup xs):=w.new λ_ e=>nomatch e
@[reducible]def En:=O<|aR Rp
structure eU(σ:St)G(a:En):Prop where
 len:σ.length=a.length
 at_:∀(i:Nat)d,a[i]?=Y (Y d)->∃v,σ[i]?=Y (Y v)/\d.r G v
def eU.mono(e:eU σ G C)(s:aX G I):eU σ I C:=
 ⟨e.len,λi d h=>aL (e.at_ i d h) λv a b=>aY v a<|d.mono s b⟩
section
variable(X:Cx)
abbrev wE(e:aT):TE:=λσ H Q=>∀a s,Inv X a σ H s->aZ (bg X.prog X.w) X.A (eval e X.env) (EP X a σ Q) X.xe s
abbrev wT(e:aT):TT:=λσ H Q=>∀a s,Inv X a σ H s->aZ (bg X.prog X.w) X.A (isTrue e X.env<|eval e X.env) (TP X a σ Q) X.xe s
abbrev wW(e:aT):TT:=λσ H Q=>∀whole a s,Inv X a σ H s->aZ (bg X.prog X.w) X.A (isTrue e X.env whole) (TP X a σ Q) X.xe s
abbrev wA(es:O aT):TA:=λσ H Q=>∀b a s,Inv X a σ H s->aZ (bg X.prog X.w) X.A (AG<|oV b<|d9 es X.env) (AP X a σ Q) X.xe s
abbrev wS(b:O bY):TS:=λD σ H=>∀a s,Inv X a σ H s->aZ (bg X.prog X.w) X.A (execs b X.env) (SP X a D) X.xe s
abbrev wI(b iter:aT):TI:=λσ H R=>∀a s,Inv X a σ H s->aZ (bg X.prog X.w) X.A (eval iter X.env) (λv c=>aZ (bg X.prog X.w) X.A (Ez v) (Cj X a σ b R) X.xe c) X.xe s
abbrev wG(d:aT):TG:=λv σ H Q=>∀(a:O (az×b9))s u,Inv X a σ H s->RelV v u->aZ (bg X.prog X.w) X.A (k6 d X.env u) (λ_ s'=>∃b c,Inv X a b c s'/\Q b c) X.xe s
end
section
variable{X:Cx}{e:aT}{es:O aT}{fj:O bY}{st:bY}{tg iter:aT}{σ:St}{H:Hp}
def pE:PE X e (wE X e):=λa s _ _ _ I h=>h a s I
def pT:PT X e (wT X e):=λa s _ _ _ I h=>h a s I
def pW:PW X e (wW X e):=λa b s _ _ _ I h=>h a b s I
def pA:PA X es (wA X es):=λa b s _ _ _ I h=>h a b s I
def eP:lq X fj (wS X fj):=λa s _ _ _ I h=>h a s I
def pI:PI X tg iter (wI X tg iter):=λa s _ _ _ I h=>h a s I
def pG:PG X tg (wG X tg):=λa s _ _ _ u _ I r h=>h a s u I r
def wE.by(p:PE X e t)(h:Wf H->t σ H λv C=>Wf C->Q v C):wE X e σ H Q:=λakF s I=>
 bo (p akF s σ H _ I<|h<|ji I) λ_ _ z_=>be z_ λv C I' r q=>cn v C I' r<|q<|ji I'
def wT.by(p:PT X e t)(h:Wf H->t σ H λv C=>Wf C->Q v C):wT X e σ H Q:=λakF s I=>
 bo (p akF s σ H _ I<|h<|ji I) λ_ _ z_=>aL z_ λC I' q=>aY C I'<|q<|ji I'
def wW.by(p:PW X e t)(h:Wf H->t σ H λv C=>Wf C->Q v C):wW X e σ H Q:=λwh akF s I=>
 bo (p wh akF s σ H _ I<|h<|ji I) λ_ _ z_=>aL z_ λC I' q=>aY C I'<|q<|ji I'
def wA.by(p:PA X es t)(h:Wf H->t σ H λv C=>Wf C->Q v C):wA X es σ H Q:=λakF akG s I=>
 bo (p akF akG s σ H _ I<|h<|ji I) λ_ _ z_=>be z_ λvs C I' r q=>cn vs C I' r<|q<|ji I'
def wI.by(p:PI X tg iter t)(h:Wf H->t σ H λakH C=>Wf C->R akH C):wI X tg iter σ H R:=λakF s I=>
 bo (p akF s σ H _ I<|h<|ji I) λ_ _ q=>bo q λ_ _ akG=>by refine Bq akG λit fp tn akH C e I' T t0 ok q=>?_;exact rH it fp tn akH C e I' T t0 ok<|q<|ji I'
end
@[reducible]def Kv(G H:Hp)(d:Rp)(Q:VK):Prop:=∀v b a,Ext G H b a->Wf a->d.r b v->Q v a
abbrev Ev(X:Cx)(a:En)(e:aT)(d:Rp):Prop:=∀σ G H Q,eU σ G a->aX G H->Wf H->Kv G H d Q->wE X e σ H Q
abbrev bu(X:Cx)(d:En)(e:aT)(ds:O Rp):Prop:=∀σ G H Q,eU σ G d->aX G H->Wf H->
 (∀a vs c b,Ext G H c b->Wf b->H a=am->c a=am->b a=Y (.lst vs)->bv c vs ds->Q (.ref a) b)->wE X e σ H Q
abbrev fc(X:Cx)(c:En)(es:O aT)(ds:O Rp):Prop:=∀σ G H Q,eU σ G c->aX G H->Wf H->
 (∀vs b a,Ext G H b a->Wf a->bv b vs ds->Q vs a)->wA X es σ H Q
abbrev Tv(X:Cx)(c:En)(e:aT)(b:Bool):Prop:=∀σ G H Q,eU σ G c->aX G H->Wf H->(∀a,aX H a->Wf a->Q b a)->wT X e σ H Q
abbrev Tw(X:Cx)(c:En)(e:aT)(b:Bool):Prop:=∀σ G H Q,eU σ G c->aX G H->Wf H->(∀a,aX H a->Wf a->Q b a)->wW X e σ H Q
section
variable{X:Cx}{J:En}{e a b c:aT}{es:O aT}{d d' da db:Rp}{ds:O Rp}{ao p:bn}{i j:Int}{op:T0}
def bu.ev(h:bu X J e ds):Ev X J e (lst ds):=λσ G H Q E S W k=>h σ G H Q E S W λa vs G' H' x w hn I h' r=>
 k _ _ H' ⟨x.g.trans<|gM I,λb u q=>by
   by_cases C:b=a
   .grind[bQ]
   .rw[aQ C]at q;exact x.s _ _ q,x.h,λb C hg=>by
   rw[aQ ap];exact x.f b C hg⟩ w ⟨a,vs,U,bQ,r.mono<|gM I⟩
def Ev.as(h:Ev X J e d)(k:∀G v,d.r G v->d'.r G v):Ev X J e d':=λC G H Q E S W q=>h C G H Q E S W λv I H' x w r=>q v I H' x w<|k _ _ r
def Ev.eq(h:Ev X J e d)(k:d=d'):Ev X J e d':=k▸h
def cJ i(f:J[i]?=Y (Y d))(g:Nv X i x<|>aa)
 :Ev X J (aK x ao) d:=λn G H Q E S W k=>
 aL (E.at_ i d f) λv h l=>
 wE.by (gu g) λw=>aY v h<|λm=>k v G H (.refl S) m l
def aw(f:Nv X 0 x<|>aa):Ev X (d::J) (aK x ao) d:=cJ 0 U f
def aE(f:Nv X 1 x<|>aa):Ev X (c0::d::J) (aK x ao) d:=cJ 1 U f
def aM(f:Nv X 2 x<|>aa):Ev X (c0::c1::d::J) (aK x ao) d:=cJ 2 U f
def aV(f:Nv X 3 x<|>aa):Ev X (c0::c1::c2::d::J) (aK x ao) d:=cJ 3 U f
def bZ(f:Nv X 4 x<|>aa):Ev X (c0::c1::c2::g::d::J) (aK x ao) d:=cJ 4 U f
def dU(f:Nv X 5 x<|>aa):Ev X (c0::c1::c2::g::h::d::J) (aK x ao) d:=cJ 5 U f
def y9(p:PE X e (tC v))(h:∀G,d.r G v):Ev X J e d:=λg G H Q E S W k=>wE.by p λw f=>k v G H (.refl S) f<|h G
def aG{j:Nat}:Ev X J (dX (.int i) j ao) (int i):=y9 rT λ_=>U
def df{b:Bool}{j:Nat}:Ev X J (dX (.bool b) j ao) (bl b):=y9 W1 λ_=>U
def kd{j:Nat}:Ev X J (dX .none j ao) bH:=y9 yK λ_=>U
def r_{j:Nat}:Ev X J (dX (.str x) j ao) (str x):=y9 W2 λ_=>U
def or(k:X.mg x=Y u)(r:RelV v u)(h:∀G,d.r G v)(f:Gn X x<|>ae):Ev X J (aK x ao) d:=y9 (Lz f.g k r f.d) h
def wj(p:PE X c (v7 t (wE X a)<|wE X b))(n:Ev X J a da)(o:Ev X J b db)
  (h:∀x y G H Q,da.r G x->db.r G y->aX G H->Wf H->Kv G H d Q->t x y H Q):Ev X J c d:=λm G H Q E S W k=>
 wE.by p λw=>n m G H _ E S W λx q u f z A=>o m q u _ (E.mono f.g) f.s z λy C I l N T=>
  h x y C I _ (da.mono l.g A) T l.s N λv G3 H3 e3 w3 r3 _=>k v G3 H3 ((f.trans l).trans e3) w3 r3
def Z2(p:PE X c (v7 t (wE X a)<|wE X b))(q:Ev X J a da)(u:Ev X J b db)
  (h:∀x y G H Q,da.r G x->db.r G y->aX G H->Wf H->
   (∀a vs n f,Ext G H n f->Wf f->H a=am->n a=am->f a=Y (.lst vs)->bv n vs ds->Q (.ref a) f)->t x y H Q):bu X J c ds:=λo G H Q E S W k=>
 wE.by p λw=>q o G H _ E S W λx z A l C I=>u o z A _ (E.mono l.g) l.s C λy N T m w2 r2=>
  h x y N T _ (da.mono m.g I) r2 m.s w2 λv vs G3 H3 e3 w3 n3 g3 h3 r3 _=>k v vs G3 H3 ((l.trans m).trans e3) w3 ((l.h.trans m.h).free n3) g3 h3 r3
def Gw{g:Int->Int->Int}(f:du X (rq op) (rI C λi j=>.int<|g i j))(h:Ev X J a (int i))(l:Ev X J b (int j))(m:C i j):Ev X J (rE a op b ao) (int<|g i j):=
 wj (Cn f pE pE) h l λx y G H Q n o S W k=>tV i j n o m<|k _ G H (.refl S) W U
def Nd{g:Int->Int->Int}(f:du X (rq op) (ka λi j=>.int<|g i j))(h:Ev X J a (int i))(l:Ev X J b (int j)):Ev X J (rE a op b ao) (int<|g i j):=
 wj (Cn f pE pE) h l λx y G H Q m n S W k=>cn i j m n<|k _ G H (.refl S) W U
def cY(f:Ev X J a (int i))(g:Ev X J b (int j)):Ev X J (rE a .Add b ao) (int<|i+j):=Nd XJ f g
def cZ(f:Ev X J a (int i))(g:Ev X J b (int j)):Ev X J (rE a .Sub b ao) (int<|i-j):=Nd XM f g
def fJ(f:Ev X J a (int i))(g:Ev X J b (int j))(h:uf i j):Ev X J (rE a .Mult b ao) (int<|i*j):=Gw XN f g h
def uo(f:Ev X J a (int i))(g:Ev X J b (int j))(h:LN i j):Ev X J (rE a .FloorDiv b ao) (int<|i/j):=Gw XO f g h
def y_(f:Ev X J a (int i))(g:Ev X J b (int j))(h:0<j):Ev X J (rE a .Mod b ao) (int<|i%j):=Gw XR f g h
def sf(f:Ev X J a (int i)):Ev X J (vC .USub a ao) (int (-i)):=λg G H Q E S W k=>
 wE.by (XH XU pE) λw=>f g G H _ E S W λx h l m q n=>aY i n<|λo=>k _ h l m o U
def jj{ds es:O Rp}(o:Ev X J a (lst ds))(s:Ev X J b (lst es))(h:ds.length+es.length<=bK):bu X J (rE a .Add b ao) (ds++es):=
 Z2 (Cn Y0 pE pE) o s λx y G H Q⟨l,t,u,v,g⟩⟨m,w,z,A,n⟩S W k=>
  ⟨l,m,t,w,u,z,S _ _ v,S _ _ A,(by rw[g.length,n.length];lia),λp f=>k p _ G _ ⟨aX.refl _,S.trans<|gM f,gM f,λ_ _ h=>h⟩
   (W.new λC q=>by injection q with q;subst q;rw[cC,g.length,n.length];lia) f (kc S f) bQ (g.append n)⟩
def Z3(f:Ev X J a (str x))(g:Ev X J b (str y))(h:x.length+y.length<=bK):Ev X J (rE a .Add b ao) (str<|x++y):=
 wj (Cn X5 pE pE) f g λ_ _ G H Q l m S W k=>tV x y l m h<|k _ G H (.refl S) W U
def pv(h:Ev X J a d):Ev X J (g9 f [a] ao) d:=by assumption
def pw{r:O aT}{p q:Bool}(o:Ev X J a (bl p))(t:p=L->Ev X J (g9 .And (b::r) ao) (bl q)):Ev X J (g9 .And (a::b::r) ao) (bl<|p&&q):=λh G H Q E S W k=>
 wE.by (LC pE pE) λw=>o h G H _ E S W λx l m f n u=>aY p u (by
  cases p with
  |true=>exact t U h l m _ (E.mono f.g) f.s n λy v z A C I _=>k y v z (f.trans A) C I
  |false=>exactλN=>k _ l m f n U)
def qv{r:O aT}{p q:Bool}(o:Ev X J a (bl p))(t:p=aA->Ev X J (g9 .Or (b::r) ao) (bl q)):Ev X J (g9 .Or (a::b::r) ao) (bl<|p||q):=λh G H Q E S W k=>
 wE.by (LD pE pE) λw=>o h G H _ E S W λx l m f n u=>aY p u (by
  cases p with
  |false=>exact t U h l m _ (E.mono f.g) f.s n λy v z A C I _=>k y v z (f.trans A) C I
  |true=>exactλN=>k _ l m f n U)
def Z4{p:Bool}(f:Ev X J a (bl p)):Ev X J (vC .Not a ao) (bl (!p)):=λg G H Q E S W k=>
 wE.by (Xc pE) λw=>f g G H _ E S W λx h l m n o=>aY p o<|λq=>k _ h l m n U
def b_{p:Bool}(f:Ev X J a (bl p))(g:(∀whole,isTrue a X.env whole=(do let v<-whole;xB a.pos;kG [v]<|Ju v))<|>ag):Tv X J a p:=λl G H Q E S W k=>
 wT.by (FO pE g) λw=>f l G H _ E S W λx s m n o q=>aY p q<|λt=>k m n.h o
def dE{p:Bool}(f:Tv X J a p):Tv X J (vC .Not a ao) (!p):=λg G H Q E S W k=>
 wT.by (FP pT) λw=>f g G H _ E S W λh l m n=>k h l m
def Tw.tv{p:Bool}(h:Tw X J a p):Tv X J a p:=λC G H Q E S W k I s=>h C G H Q E S W k _ I s
def wl{p:Bool}(f:Tv X J a p):Tw X J (g9 .And [a] ao) p:=λg G H Q E S W k=>
 wW.by (W6 pT) λw=>f g G H _ E S W λh l m n=>k h l m
def iX{p:Bool}(f:Tv X J a p):Tw X J (g9 .Or [a] ao) p:=λg G H Q E S W k=>
 wW.by (W7 pT) λw=>f g G H _ E S W λh l m n=>k h l m
def uq{r:O aT}{p q:Bool}(h:Tv X J a p)(l:p=L->Tw X J (g9 .And (b::r) ao) q):Tw X J (g9 .And (a::b::r) ao) (p&&q):=λf G H Q E S W k=>
 wW.by (W8 pT pW) λw=>h f G H _ E S W λm g n=>by
  cases p with
  |true=>exact l U f G m _ E (S.trans g) n λo s t _=>k o (g.trans s) t
  |false=>simp_all
def fK{r:O aT}{p q:Bool}(h:Tv X J a p)(l:p=aA->Tw X J (g9 .Or (b::r) ao) q):Tw X J (g9 .Or (a::b::r) ao) (p||q):=λf G H Q E S W k=>
 wW.by (W9 pT pW) λw=>h f G H _ E S W λm g n=>by
  cases p with
  |false=>exact l U f G m _ E (S.trans g) n λo s t _=>k o (g.trans s) t
  |true=>simp_all
def h_{p:Bool}(t:Tv X J c p)(u:p=L->Ev X J a d)(x:p=aA->Ev X J b d):Ev X J (.IfExp c a b ao) d:=λg G H Q E S W k=>
 wE.by (LF pT pE pE) λw=>t g G H _ E S W λq f s=>by
  cases p with
  |true=>exact u U g G q _ E (S.trans f) s λv h l m n o _=>k v h l ((Ext.hp S f).trans m) n o
  |false=>exact x U g G q _ E (S.trans f) s λv h l m n o _=>k v h l ((Ext.hp S f).trans m) n o
end
abbrev Cv(X:Cx)(d:En)(op:CmpOp)(a b:aT)(p:Bool):Prop:=∃r,du X (fi op) r/\∀σ G H Q,eU σ G d->aX G H->Wf H->(∀c,aX H c->Q (.bl p) c)->
 wE X a σ H λx e=>wE X b σ e λy f=>r x y f Q
section
variable{X:Cx}{J:En}{e a b c:aT}{da db:Rp}{ao:bn}{i j k:Int}{op:CmpOp}
def jF{r:R2}(n:du X (fi op) r)(o:Ev X J a da)(q:Ev X J b db)(h:∀x y G H Q,da.r G x->db.r G y->aX G H->Q (.bl p) H->r x y H Q):Cv X J op a b p:=
 ⟨r,n,λl G H Q E S W k=>o l G H _ E S W λx t u d v w=>q l t u _ (E.mono d.g) d.s v λy z m f C A=>h x y z m Q (da.mono f.g w) A f.s<|k m<|d.h.trans f.h⟩
def dF(h:Cv X J op a b p)(d:AI op b=aA<|>alN):Ev X J (tS a [op] [b] ao) (bl p):=λf G H Q E S W k=>
 aL h λr g h=>
 wE.by (X1 g pE pE d) λw=>h f G H _ E S W λl m n=>k _ G l (.hp S m) n U
def bi(h:Cv X J op a b p)(d:AI op b=aA<|>alN):Tv X J (tS a [op] [b] ao) p:=λf G H Q E S W k=>
 aL h λr g h=>
 wT.by (X2 g pE pE d) λw=>h f G H _ E S W λl m=>bG
def e8(d:Ev X J a (int i))(f:Ev X J b (int j)):Cv X J .Lt a b (decide<|i<j):=jF Cq d f λ_ _ _ _ _ g h _ q=>cn i j g h q
def CJ(d:Ev X J a (int i))(f:Ev X J b (int j)):Cv X J .LtE a b (decide<|i<=j):=jF eT d f λ_ _ _ _ _ g h _ q=>cn i j g h q
def iq(d:Ev X J a (int i))(f:Ev X J b (int j)):Cv X J .Gt a b (decide<|j<i):=jF XX d f λ_ _ _ _ _ g h _ q=>cn i j g h q
def lX(d:Ev X J a (int i))(f:Ev X J b (int j)):Cv X J .GtE a b (decide<|j<=i):=jF XY d f λ_ _ _ _ _ g h _ q=>cn i j g h q
def Nf i j:decide (V.bl i=.bl j)=(i==j):=ap
def fL(d:Ev X J a (int i))(f:Ev X J b (int j)):Cv X J .Eq a b (decide<|i=j):=jF LU d f λ_ _ _ _ _ g h _ q=>by subst g h;exact⟨U,bG⟩
def qw(d:Ev X J a (int i))(f:Ev X J b (int j)):Cv X J .NotEq a b (!decide (i=j)):=jF LV d f λ_ _ _ _ _ g h _ q=>by subst g h;exact⟨U,bG⟩
def Z5(d:Ev X J a (bl p))(f:Ev X J b (bl q)):Cv X J .Eq a b (p==q):=jF LU d f λ_ _ _ _ _ g h _ q=>by subst g h;exact⟨U,by rw[Nf];lia⟩
def Z6(d:Ev X J a (bl p))(f:Ev X J b (bl q)):Cv X J .NotEq a b (p !=q):=jF LV d f λ_ _ _ _ _ g h _ q=>by subst g h;exact⟨U,by rw[Nf];lia⟩
def gc(d:Ev X J a da)(h:∀G x,da.r G x->decide (x=.bH)=p):Cv X J .Is a (dX .none g jM) p:=
 jF XZ d kd λx y G H Q l f _ q=>⟨f,bh⟩
def ur(d:Ev X J a da)(h:∀G x,da.r G x->(!decide (x=.bH))=p):Cv X J .IsNot a (dX .none g jM) p:=
 jF X0 d kd λx y G H Q l f _ q=>⟨f,bh⟩
def qA{f g:Int->Int->Bool}(u:du X (fi op) (ka λi j=>.bl<|f i j))(v:du X (fi m) (ka λi j=>.bl<|g i j))(A:Ev X J a (int i))(C:Ev X J b (int j))(I:Ev X J c (int k))
  (N:EB [op,m] [b,c]=aA<|>alG):Ev X J (tS a [op,m] [b,c] ao) (bl<|f i j&&g j k):=λl G H Q E S W q=>
 wE.by (X3 u v pE pE pE N) λw=>A l G H _ E S W λx T H1 d w1 r1=>C l T H1 _ (E.mono d.g) d.s w1 λy n o h p t=>⟨i,j,r1,t,f i j,U,by
  cases e:f i j with
  |false=>exactλw'=>q _ n o (d.trans h) p<|by rw[e];rfl
  |true=>exact I l n o _ (E.mono (d.trans h).g) h.s p λz G3 H3 e3 w3 r3=>cn j k t r3<|λw'=>q _ G3 H3 ((d.trans h).trans e3) w3<|e▸U⟩
def ut{f g:Int->Int->Bool}(u:du X (fi op) (ka λi j=>.bl<|f i j))(v:du X (fi n) (ka λi j=>.bl<|g i j))(A:Ev X J a (int i))(C:Ev X J b (int j))(I:Ev X J c (int k))
  (N:EB [op,n] [b,c]=aA<|>alG):Tv X J (tS a [op,n] [b,c] ao) (f i j&&g j k):=λm G H Q E S W q=>
 wT.by (X4 u v pE pE pE N) λw=>A m G H _ E S W λx T H1 d w1 r1=>C m T H1 _ (E.mono d.g) d.s w1 λy G2 o l p t=>⟨i,j,r1,t,f i j,U,by
  cases e:f i j with
  |false=>exact aY aA U (λw'=>by have:=q o (d.h.trans l.h) p;lia)
  |true=>exact I m G2 o _ (E.mono (d.trans l).g) l.s p λz G3 H3 e3 w3 r3=>⟨j,k,t,r3,g j k,U,λw'=>by have:=q H3 ((d.h.trans l.h).trans e3.h) w3;lia⟩⟩
end
section
variable{X:Cx}{J:En}{e a b c o:aT}{es:O aT}{d d' da db:Rp}{ds:O Rp}{ao p:bn}{i j:Int}{f:aq}
def Ng(r:bv G vs ds)(h:iG ds i=d):∃v,iG vs i=Y v/\d.r G v:=by
 unfold iG at h⊢;rw[r.length];cases q:om ds.length i with
 |none=>simp_all
 |some n=>rw[q]at h;exact r.get h
def gN{K:aJ}(g:Ev X J a (tup K ds))(m:Ev X J b (int i))(h:iG ds i=d)(n:X.K=K<|>_r)(q:v_ b<|>alH):Ev X J (cR a b ao) d:=by
 subst n;exact wj (Cs YH pE pE q) g m λx y G H Q s t S W k=>be s λl u w z A=>
  aL (Ng A h) λv C E=>
  ⟨l,u,i,v,w,t,S.tup z,C,k v G H (.refl S) W E⟩
def bW(g:Ev X J a (lst ds))(m:Ev X J b (int i))(h:iG ds i=d)(n:v_ b<|>alH):Ev X J (cR a b ao) d:=
 wj (Cs F8 pE pE n) g m λx y G H Q q s S W k=>be q λl t u w z=>
  aL (Ng z h) λv A C=>
  ⟨l,t,i,v,u,s,bR.of<|S _ _ w,A,k v G H (.refl S) W C⟩
def eV(l:Ev X J o (ins C fs))(m:iV X.K C)(n:dv X.K C f)(h:fs.lookup f=d)(q:Ab X o f<|>_r):Ev X J (cD o f ao) d:=λt G H Q E S W k=>
 wE.by (L0 pE q) λw=>l t G H _ E S W λx v y g z A=>vF A λa I N T h2 h3=>
  aL (h3 f d h) λu h4 h5=>
  ⟨a,C,I,N,u,T,g.s _ _ h2,m,n,h4,λw'=>k u v y g z h5⟩
def eW:fc X J [] []:=λh G H Q E S W k=>wA.by hZ λw g=>k [] G H (.refl S) g trivial
def cB(n:Ev X J e d)(hr:fc X J es ds)(q:Se X e es<|>_r):fc X J (e::es) (d::ds):=λl G H Q E S W k=>
 wA.by (eO pE pA q) λw=>n l G H _ E S W λv t u h x y=>hr l t u _ (E.mono h.g) h.s x λN z A m C I _=>k _ z A (h.trans m) C ⟨d.mono m.g y,I⟩
def kP(h:fc X J es ds)(u:ds.length<=bK<|>ai):Ev X J (jW es v ao) (tup X.K ds):=λn G H Q E S W k=>
 wE.by (yN pA) λw=>h n G H _ E S W λq x y g z l=>⟨by rw[l.length];lia,λp m t=>
  k _ _ _ (g.trans<|.new g.s m) t ⟨p,q,U,cx.of bQ,l.mono<|gM<|kc g.s m⟩⟩
def iY(h:fc X J es ds)(x:ds.length<=bK<|>ai):bu X J (.List es ao) ds:=λq G H Q E S W k=>
 wE.by (yO pA) λw=>h q G H _ E S W λt u y l z n=>⟨by rw[n.length];grind,λp m v=>
  k p t u _ ⟨l.g,l.s.trans<|gM m,l.h.trans<|gM m,l.f⟩ v (l.h.free m) (kc l.s m) bQ n⟩
def aS(h:Ev X J g d1)(k:Se X g []<|>_r):fc X J [g] [d1]:=cB h eW k
def bF(k:Ev X J h d1)(l:Ev X J g m)(n:Se X h [g]<|>_r)(q:Se X g []<|>_r):fc X J [h,g] [d1,m]:=cB k (cB l eW q) n
def bM(l:Ev X J k d1)(m:Ev X J h n)(q:Ev X J g s)(t:Se X k [h,g]<|>_r)(u:Se X h [g]<|>_r)(v:Se X g []<|>_r):fc X J [k,h,g] [d1,n,s]:=cB l (cB m (cB q eW v) u) t
def kg(m:Ev X J l d1)(n:Ev X J k q)(s:Ev X J h t)(u:Ev X J g v)(w:Se X l [k,h,g]<|>_r)(x:Se X k [h,g]<|>_r)(y:Se X h [g]<|>_r)(z:Se X g []<|>_r):fc X J [l,k,h,g] [d1,q,t,v]:=cB m (cB n (cB s (cB u eW z) y) x) w
def si(n:Ev X J m d1)(q:Ev X J l s)(t:Ev X J k u)(v:Ev X J h w)(x:Ev X J g y)(z:Se X m [l,k,h,g]<|>_r)(A:Se X l [k,h,g]<|>_r)(C:Se X k [h,g]<|>_r)(E:Se X h [g]<|>_r)(G:Se X g []<|>_r):fc X J [m,l,k,h,g] [d1,s,u,w,y]:=cB n (cB q (cB t (cB v (cB x eW G) E) C) A) z
def cz(h:fc X J es ds)(g:ds.length<=bK<|>ai):Ev X J (.List es ao) (lst ds):=bu.ev<|iY h g
end
abbrev sj(R:O Rp->Rp->Prop):Sp:=λvs H Q _=>∃G ds d,aX G H/\Wf H/\bv G vs ds/\R ds d/\Kv G H d Q
structure Good P w K mg base k x ps R:Prop where
 ex:∃f a,mg x=Y (.ref f)/\k8 K (.ref f)=L/\Binds K a ps []/\fH P w K mg base iH k f a ps (sj R)
structure Makes P w K mg base k x ps R:Prop where
 ex:∃C f b sp,mg x=Y (.ref C)/\Mk K C f/\Binds K b ps []/\fH P w K mg base iH k f b ps sp/\
  ∀vs H Q E,sj R vs H Q E->∀x a,H x=am->H a=am->a≠x->sp (.ref x::vs) (upd (upd H a<|.own x) x<|.ins C a []) (λv c=>v=.bH/\Q (.ref x) c) E
section
variable{X:Cx}{J:En}{e:aT}{es:O aT}{d:Rp}{ds:O Rp}{ao p:bn}{x:aq}{k:Nat}{ps:O aq}{R:O Rp->Rp->Prop}
def iu(g:Good X.prog X.w X.K X.mg X.base k x ps R)(c:fc X J (e::es) ds)(h:R ds d)(a:Gn X x<|>ae)
  (i:Se X e es<|>_r)(j:Bt X ao es<|>_r)(hr:cj k X.A<|>alI):Ev X J (b0 (aK x p) (e::es) [] ao) d:=λl G H Q E S W q=>
 de g.ex λf fd m n o F=>
 wE.by (mP F hr a.g m n o .nil iW pA a.d i j) λw=>c l G H _ E S W λvs t H1 b u y=>by rw[eG];exact qg t ds d b.s u y h<|λv z C I N T _=>q v z C (b.trans I) N T
def aO(g:Good X.prog X.w X.K X.mg X.base k x ps λa b=>a=ds/\b=d)(c:fc X J (e::es) ds)(f:Gn X x<|>ae)
  (h:Se X e es<|>_r)(i:Bt X ao es<|>_r)(hr:cj k X.A<|>alI):Ev X J (b0 (aK x p) (e::es) [] ao) d:=iu g c ⟨U,U⟩ f h i hr
def gv(g:Makes X.prog X.w X.K X.mg X.base k x ps R)(h:fc X J (e::es) ds)(i:R ds d)(a:Gn X x<|>ae)
  (j:Se X e es<|>_r)(l:Bt X ao es<|>_r)(hr:cj (k+1) X.A<|>alI):Ev X J (b0 (aK x p) (e::es) [] ao) d:=λm G H Q E S W q=>
 E' g.ex λC f fd sp n o t F u=>
 wE.by (Yo o F hr a.g n t .nil iW pA a.d j l) λw=>h m G H _ E S W λz I N b T r1 y dy ny akF akG=>by rw[eG];exact u z N (λv c=>Wf c->Q v c) _ ⟨I,ds,d,b.s,T,r1,i,λv G2 H2 e2 w2 r2 _=>q v G2 H2 (b.trans e2) w2 r2⟩ y dy ny akF akG
def pz{id:String}{r:O V->Hp->VK->Prop}(c:j_ X (.builtin id) r)(f:X.mg x=am)(i:rm x=Y (.builtin id))(j:fc X J (e::es) ds)
  (h:∀vs G H Q,bv G vs ds->aX G H->Wf H->Kv G H d Q->r vs H Q)(a:Gn X x<|>ae)(l:x≠"__name__"<|>af)
  (m:Se X e es<|>_r)(n:Bt X ao es<|>_r):Ev X J (b0 (aK x p) (e::es) [] ao) d:=λo G H Q E S W q=>
 wE.by (Yt c a.g f i pA l a.d m n) λw=>j o G H _ E S W λvs t u b y z=>h vs t u _ z b.s y λv A C I N T _=>q v A C (b.trans I) N T
def Z7{T:String}{r:O V->Hp->VK->Prop}(c:j_ X (.type T) r)(f:X.mg x=am)(i:rm x=Y (.type T))(j:fc X J (e::es) ds)
  (h:∀vs G H Q,bv G vs ds->aX G H->Wf H->Kv G H d Q->r vs H Q)(a:Gn X x<|>ae)(l:x≠"__name__"<|>af)
  (m:Se X e es<|>_r)(n:Bt X ao es<|>_r):Ev X J (b0 (aK x p) (e::es) [] ao) d:=λo G H Q E S W q=>
 wE.by (Mi c a.g f i pA l a.d m n) λw=>j o G H _ E S W λvs t u b y z=>h vs t u _ z b.s y λv A C I N r2 _=>q v A C (b.trans I) N r2
def Nh{T:String}{r:O V->Hp->VK->Prop}{i:O Rp}(l:j_ X (.type T) r)(m:X.mg x=am)(n:rm x=Y (.type T))(o:fc X J (e::es) i)
  (h:∀vs G H Q,bv G vs i->aX G H->Wf H->(∀a us c b,Ext G H c b->Wf b->H a=am->c a=am->b a=Y (.lst us)->bv c us ds->Q (.ref a) b)->r vs H Q)(j:Gn X x<|>ae)(t:x≠"__name__"<|>af)
  (u:Se X e es<|>_r)(y:Bt X ao es<|>_r):bu X J (b0 (aK x p) (e::es) [] ao) ds:=λz G H Q E S W q=>
 wE.by (Mi l j.g m n pA t j.d u y) λw=>o z G H _ E S W λvs A C f I N=>h vs A C _ N f.s I λv us G2 H2 e2 w2 n2 g2 h2 r2 _=>q v us G2 H2 (f.trans e2) w2 (f.h.free n2) g2 h2 r2
def za(h:bv G vs (d::ds)):∃v us,vs=v::us/\d.r G v/\bv G us ds:=by
 cases vs with
 |nil=>exact h.elim
 |cons v vs=>exact cn v vs U h.1 h.2
def Z8(h:bv G vs []):vs=[]:=List.length_eq_zero_iff.1 h.length
def all1(h:bv G vs [d]):∃v,vs=[v]/\d.r G v:=be (za h) λv _ e a b=>aY v (Z8 b▸e) a
def all2(h:bv G vs [d,d']):∃v u,vs=[v,u]/\d.r G v/\d'.r G u:=be (za h) λv _ e a b=>aL (all1 b) λu f c=>cn v u (f▸e) a c
def cO(b:X.mg "len"=am)(c:Ev X J e (lst ds))(f:Gn X "len"<|>ae)(a:Se X e []<|>_r):Ev X J (b0 (aK "len" p) [e] [] ao) (int ds.length):=
 pz Mu b aie (aS c a) (λo G H Q r S W k=>by refine aL (all1 r) λv g h=>be h λl i j m n=>?_;subst g;subst j;exact cn l i U (aP<|bR.of<|S _ _ m)<|k _ G H (.refl S) W<|n.length▸U) f bw a U
def CK{α:Type}{f:α->Rp}{g:α->V}(k:∀x v,(f x).r G v->v=g x){ns:O α}{vs}:bv G vs (ns.map f)->vs=ns.map g:=by
 revert vs
 induction ns with
 |nil=>
  intro vs h;cases vs with
  |nil=>rfl
  |cons=>exact h.elim
 |cons n ns a=>
  intro vs h;cases vs with
  |nil=>exact h.elim
  |cons v vs=>rw[eQ,<-a h.2,k _ _ h.1]
def ints_of_all{ns:O Int}:bv G vs (ns.map int)->vs=ns.map .int:=CK λ_ _ h=>h
def Nj{ns:O Bool}:bv G vs (ns.map bl)->vs=ns.map .bl:=CK λ_ _ h=>h
def strs_of_all{ns:O aq}:bv G vs (ns.map str)->vs=ns.map .str:=CK λ_ _ h=>h
def all_ints(ns:O Int):bv G (ns.map .int) (ns.map int):=bv.map λ_ _=>U
end
inductive Sl where
 |aC(d:Rp)
 |own(ds:List Rp)
@[reducible]def bV:=O<|aR Sl
abbrev Z9:aR Sl->aR Rp
 |some (.aC d)=>Y d
 |some (.own _)=>am
 |none=>am
abbrev Ge:aR Sl->aR Rp
 |some (.aC d)=>d
 |some (.own ds)=>(lst ds)
 |none=>am
abbrev bj(a:bV):En:=a.map Z9
abbrev rel(a:bV):En:=a.map Ge
structure br(H0:Hp)(σ:St)G H(b:bV):Prop where
 len:σ.length=b.length
 sub:aX G H
 wf:Wf H
 aC:∀(i:Nat)d,b[i]?=Y (Y<|.aC d)->∃v,σ[i]?=Y (Y v)/\d.r G v
 own:∀(i:Nat)ds,b[i]?=Y (Y<|.own ds)->∃a vs,σ[i]?=Y (Y<|.ref a)/\H0 a=am/\G a=am/\H a=Y (.lst vs)/\bv G vs ds
 iZ:∀(i j:Nat)ds es a,b[i]?=Y (Y<|.own ds)->b[j]?=Y (Y<|.own es)->σ[i]?=Y (Y<|.ref a)->σ[j]?=Y (Y<|.ref a)->i=j
section
variable{H0:Hp}{σ:St}{G H G' H':Hp}{J:bV}
def br.bj(s:br H0 σ G H J):eU σ G (bj J):=⟨by rw[_b.bj,aI];exact s.len,λi d h=>by
 rw[_b.bj,cT]at h;cases e:J[i]? with
 |none=>simp_all
 |some o=>
  rw[e]at h;cases o with
  |none=>cases h
  |some q=>
   cases q with
   |aC C=>cases h;exact s.aC i d e
   |own ds=>cases h⟩
def br.rel(s:br H0 σ G H J):eU σ H (rel J):=⟨by rw[_b.rel,aI];exact s.len,λi d h=>by
 rw[_b.rel,cT]at h;cases e:J[i]? with
 |none=>simp_all
 |some o=>
  rw[e]at h;cases o with
  |none=>cases h
  |some q=>
   cases q with
   |aC d'=>cases h;exact aL (s.aC i d e) λv a b=>aY v a<|d.mono s.sub b
   |own ds=>cases h;exact jX (s.own i ds e) λa C I _ _ h2 h3=>⟨.ref a,I,a,C,U,h2,h3.mono s.sub⟩⟩
def br.grow(s:br H0 σ G H J)(e:Ext G H G' H')(w:Wf H'):br H0 σ G' H' J:=
 ⟨s.len,e.s,w,λi d h=>aL (s.aC i d h) λv a b=>aY v a<|d.mono e.g b,
  λi C h=>jX (s.own i C h) λa I h1 h2 h3 h4 h5=>jf a I h1 h2 (e.f a ap h3) (e.h _ _ h4)<|h5.mono e.g,s.iZ⟩
def get_set{α:Type}{l:O α}{x y:α}(h:(l.set i x)[k]?=y):(k=i/\y=x)\/(k≠i/\l[k]?=y):=by grind-order
def so{α:Type}{l:O α}{x:α}(h:i<l.length):(l.set i x)[i]?=x:=bG
def lY{α:Type}{l:O α}{x:α}(h:k≠i):(l.set i x)[k]?=l[k]?:=bh
def zb{α:Type}{l:O α}{i:Nat}{x y:α}(h:(l.set i x)[i]?=Y y):i<l.length:=by have:=(dH.mp h).1;rwa[fX]at this
def br.set(s:br H0 σ G H J)(r:d.r G v):br H0 (σ.set i<|Y v) G H (J.set i<|Y<|.aC d):=by
 refine⟨by rw[fX,fX];exact s.len,s.sub,s.wf,λk d' h=>?_,λk I h=>?_,λk j I es a h1 h2 h3 h4=>?_⟩
 .obtain⟨rfl,e⟩|⟨C,e⟩:=get_set h
  .cases e;exact aY v (so<|s.len▸zb h) r
  .rw[lY C];exact s.aC k d' e
 .obtain⟨rfl,e⟩|⟨C,e⟩:=get_set h
  .simp at e
  .rw[lY C];exact s.own k I e
 .obtain⟨rfl,e⟩|⟨C,e1⟩:=get_set h1
  .simp at e
  .obtain⟨rfl,e⟩|⟨hj,e2⟩:=get_set h2
   .simp at e
   .rw[lY C]at h3;rw[lY hj]at h4;exact s.iZ k j I es a e1 e2 h3 h4
def br.Nk(s:br H0 σ G H J)(e:Ext G H G' H')(w:Wf H')(h0:H0 a=am)(n:H a=am)(g:G' a=am)(h:H' a=Y (.lst vs))(r:bv G' vs ds):br H0 (σ.set i<|Y<|.ref a) G' H' (J.set i<|Y<|.own ds):=by
 have s':=s.grow e w;have akF:∀(k:Nat)I b,J[k]?=_->σ[k]?=Y (Y<|.ref b)->b≠a:=λk I b C hb e=>by refine jX (s.own k I C) λb' _ q1 _ _ q2 _=>?_;rw[hb]at q1;cases q1;subst e;rw[n]at q2;simp at q2
 refine⟨by rw[fX,fX];exact s.len,s'.sub,w,λk d' h=>?_,λk I h'=>?_,λk j akG I b h1 h2 h3 h4=>?_⟩
 .obtain⟨rfl,e⟩|⟨C,e⟩:=get_set h
  .simp at e
  .rw[lY C];exact s'.aC k d' e
 .obtain⟨rfl,e⟩|⟨C,e⟩:=get_set h'
  .cases e;exact jf a vs (so<|s.len▸zb h') h0 g h r
  .rw[lY C];exact s'.own k I e
 .obtain⟨rfl,e⟩|⟨C,e1⟩:=get_set h1
  .obtain⟨rfl,e⟩|⟨hj,e2⟩:=get_set h2
   .rfl
   .rw[lY hj]at h4;rw[so<|s.len▸zb h1]at h3;cases h3;exact absurd U<|akF j I a e2 h4
  .obtain⟨rfl,e⟩|⟨hj,e2⟩:=get_set h2
   .rw[lY C]at h3;rw[so<|s.len▸zb h2]at h4;cases h4;exact absurd U<|akF k akG a e1 h3
   .rw[lY C]at h3;rw[lY hj]at h4;exact s.iZ k j akG I b e1 e2 h3 h4
def br.write(s:br H0 σ G H J)(hi:J[i]?=Y (Y<|.own ds))(C:σ[i]?=Y (Y<|.ref a))(r:bv G us es)(hz:us.length<=bK):br H0 σ G (upd H a<|.lst us) (J.set i<|Y<|.own es):=by
 let⟨a',vs,q1,q2,q3,q4,q5⟩:=s.own i ds hi;rw[C]at q1;cases q1;refine⟨by rw[fX];exact s.len,λb o e=>(aQ<|f9 e q3)▸s.sub _ _ e,s.wf.new λxs e=>by injection e with e;subst e;exact hz,λk d' h=>?_,λk I h'=>?_,λk j akG I b h1 h2 h3 h4=>?_⟩
 .obtain⟨rfl,e⟩|⟨hk,e⟩:=get_set h
  .simp at e
  .exact s.aC k d' e
 .obtain⟨rfl,e⟩|⟨hk,e⟩:=get_set h'
  .cases e;exact jf a us C q2 q3 bQ r
  .let⟨b,akF,w1,w2,w3,w4,w5⟩:=s.own k I e;refine jf b akF w1 w2 w3 ?_ w5;rwa[aQ<|λz=>by subst z;exact hk<|s.iZ k i I ds b e hi w1 C]
 .have f1:∀{k:Nat}{l:O Rp},(J.set i<|Y<|.own es)[k]?=Y (Y<|.own l)->∃l',J[k]?=Y (Y<|.own l'):=λ{k l}q=>by
   rcases get_set q with⟨rfl,_⟩|⟨_,e⟩<;>simp_all
  let⟨l1,g1⟩:=f1 h1;let⟨l2,g2⟩:=f1 h2;exact s.iZ k j l1 l2 b g1 g2 h3 h4
def br.release(x:Ext G0 H0 G H)(s:br H0 σ G H J)(hi:J[i]?=Y (Y<|.own ds)):∃G',Ext G0 H0 G' H/\aX G G'/\br H0 σ G' H (J.set i<|Y<|.aC<|lst ds):=by
 let⟨a,vs,q1,q2,q3,q4,q5⟩:=s.own i ds hi;have C:aX G (upd G a<|.lst vs):=gM q3;have sh:aX (upd G a _) H:=λb o e=>by
  by_cases I:b=a
  .subst I;rw[bQ]at e;exact q4▸e
  .rw[aQ I]at e;exact s.sub _ _ e
 refine⟨upd G a _,⟨x.g.trans C,sh,x.h,λb I hg=>by rw[aQ ap];exact x.f b I hg⟩,C,by rw[fX];exact s.len,sh,s.wf,λk d' h=>?_,λk es h'=>?_,λk j akF es b h1 h2 h3 h4=>?_⟩
 .obtain⟨rfl,e⟩|⟨hk,e⟩:=get_set h
  .cases e;exact⟨.ref a,q1,a,vs,U,bQ,q5.mono C⟩
  .exact aL (s.aC k d' e) λv h1 h2=>aY v h1<|d'.mono C h2
 .obtain⟨rfl,e⟩|⟨hk,e⟩:=get_set h'
  .simp at e
  .let⟨b,akG,w1,w2,w3,w4,w5⟩:=s.own k es e;refine jf b akG w1 w2 ?_ w4<|w5.mono C;rwa[aQ<|λz=>by subst z;exact hk<|s.iZ k i es ds b e hi w1 q1]
 .obtain⟨rfl,e⟩|⟨hk,e1⟩:=get_set h1
  .cases e
  .obtain⟨rfl,e⟩|⟨hj,e2⟩:=get_set h2
   .simp at e
   .exact s.iZ k j akF es b e1 e2 h3 h4
end
inductive Out where
 |nx(b:bV)
 |rt(d:Rp)
 |zc(ds:List Rp)
 |CL(P:Ends->Hp->Hp->Prop)(h:∀{D:Ends}{a H0 G H:Hp},Ext a H0 G H->P D a H0->P D G H0)
abbrev Fits(D:Ends)(b H0:Hp):Out->Prop
 |.nx c=>∀σ G H,Ext b H0 G H->br H0 σ G H c->D.nx σ H
 |.rt d=>∀v G H,Ext b H0 G H->Wf H->d.r G v->D.rt v H
 |.zc ds=>∀a vs G H,Ext b H0 G H->Wf H->H0 a=am->G a=am->H a=Y (.lst vs)->bv G vs ds->D.rt (.ref a) H
 |.CL P _=>P D b H0
abbrev Sv(X:Cx)(b:bV)(c:O bY)(o:Out):Prop:=∀a H0 σ G H D,Ext a H0 G H->br H0 σ G H b->Fits D a H0 o->wS X c D σ H
section
variable{X:Cx}{J Γ':bV}{e c:aT}{d d':Rp}{ds es:O Rp}{ao p:bn}{st:bY}{fj a8 bD Gx:O bY}{o:Out}{x:aq}{G0 H0 G H G' H':Hp}{σ:St}{D:Ends}
def wS.cons(q:PS X st t)(h:t {D with nx:=wS X a8 D} σ H):wS X (st::a8) D σ H:=λC s I=>LG q eP C s σ H D I h
def wS.last{t:TS}(q:PS X st t)(h:t {D with nx:=λ_ _=>False} σ H):wS X (st::a8) D σ H:=λC s I=>LG q FQ C s σ H D I h
def Ext.back(a:Ext G0 H0 G H)(b:Ext G H0 G' H'):Ext G0 H0 G' H':=⟨a.g.trans b.g,b.s,b.h,λy C I=>b.f y C<|a.f y C I⟩
def Ext.base(a:Ext G0 H0 G H):Ext G H0 G H:=⟨aX.refl _,a.s,a.h,λ_ _ h=>h⟩
def cG:Sv X J [] (.nx J):=λG0 H0 σ G H D x s f a st I=>il a st σ H D I<|f σ G H x s
def bI(a:Ev X (bj J) e d):Sv X J (nU e ao::a8) (.rt d):=λG0 H0 σ G H D x s f=>
 wS.last (jC pE)<|a σ G H _ s.bj s.sub s.wf λv G' H' y w=>f v G' H' (x.trans y) w
def Nl(b:bu X (bj J) e ds):Sv X J (nU e ao::a8) (.zc ds):=λG0 H0 σ G H D x s f=>
 wS.last (jC pE)<|b σ G H _ s.bj s.sub s.wf λa i G' H' y w n g h=>f a i G' H' (x.trans y) w (x.h.free n) g h
def Nm i(hi:J[i]?=Y (Y<|.own ds))(b:Nv X i x<|>aa)
 :Sv X J (nU (Y<|aK x p) ao::a8) (.zc ds):=λG0 H0 σ G H D y s f=>
 jX (s.own i ds hi) λa g h j k l m=>
 wS.last (jC<|gu b) ⟨.ref a,h,f a g G H y s.wf j k l m⟩
def bB(a:Ev X (bj J) e d)(q:d=d'):Sv X J (nU e ao::a8) (.rt d'):=q▸bI a
def jk i(hi:J[i]?=Y (Y<|.own ds))(h:Sv X (J.set i<|Y<|.aC<|lst ds) fj o):Sv X J fj o:=λG0 H0 σ G H D x s f=>
 b7 (s.release x hi) λG' a _ b=>
 h G0 H0 σ G' H D a b f
def bz i(a:Ev X (bj J) e d)(b:Sv X (J.set i<|Y<|.aC d) a8 o)(hi:Lc X i x<|>ah)(g:Sw X e (Y<|aK x p) ao.line<|>_r)
 :Sv X J (iC [aK x p] e ao::a8) o:=λG0 H0 σ G H D y s f=>
 wS.cons (lU hi.d hi.n hi.l pE g hi.f)<|a σ G H _ s.bj s.sub s.wf λv G' H' z w r=>b G0 H0 _ G' H' D (y.trans z) ((s.grow z w).set r) f
def jl i(b:bu X (bj J) e ds)(j:Sv X (J.set i<|Y<|.own ds) a8 o)(hi:Lc X i x<|>ah)(k:Sw X e (Y<|aK x p) ao.line<|>_r)
 :Sv X J (iC [aK x p] e ao::a8) o:=λG0 H0 σ G H D y s f=>
 wS.cons (lU hi.d hi.n hi.l pE k hi.f)<|b σ G H _ s.bj s.sub s.wf λa m G' H' z w n g h r=>j G0 H0 _ G' H' D (y.trans z) (s.Nk z w (y.h.free n) n g h r) f
def lx(g:Tv X (rel J) c q)(h:q=L->Sv X J bD (.nx Γ'))(i:q=aA->Sv X J Gx (.nx Γ'))(hr:Sv X Γ' a8 o):Sv X J (kK c bD Gx ao::a8) o:=λG0 H0 σ G H D x s f=>
 wS.cons (kN pT eP eP) (g σ H H _ s.rel (aX.refl _) s.wf λa j b=>by
  have y:=Ext.hp s.sub j;have k:=λl G' H' z m=>hr G0 H0 l G' H' D z m f;cases q with
  |true=>exact h U G0 H0 σ G a _ (x.trans y) (s.grow y b) k
  |false=>exact i U G0 H0 σ G a _ (x.trans y) (s.grow y b) k)
def dg(g:Tv X (rel J) c q)(h:q=L->Sv X J bD (.rt d))(i:q=aA->Sv X J a8 (.rt d)):Sv X J (kK c bD [] ao::a8) (.rt d):=λG0 H0 σ G H D x s f=>
 wS.cons (kN pT eP il) (g σ H H _ s.rel (aX.refl _) s.wf λa j b=>by
  have y:=Ext.hp s.sub j;cases q with
  |true=>exact h U G0 H0 σ G a _ (x.trans y) (s.grow y b) f
  |false=>exact i U G0 H0 σ G a _ (x.trans y) (s.grow y b) f)
def kh(a:Tv X (rel J) c L)(b:Sv X J bD (.rt d)):Sv X J (kK c bD Gx ao::a8) (.rt d):=λG0 H0 σ G H D x s f=>
 wS.last (kN pT eP FQ) (a σ H H _ s.rel (aX.refl _) s.wf λg h i=>
  have y:=Ext.hp s.sub h
  b G0 H0 σ G g _ (x.trans y) (s.grow y i) f)
def iI(a:Tv X (rel J) c aA)(hr:Sv X J a8 o):Sv X J (kK c bD [] ao::a8) o:=λG0 H0 σ G H D x s f=>
 wS.cons (kN pT FQ il) (a σ H H _ s.rel (aX.refl _) s.wf λb g h=>
  have y:=Ext.hp s.sub g
  hr G0 H0 σ G b _ (x.trans y) (s.grow y h) f)
def i3 j{i q:bn}(k:J[j]?=Y (Y<|.own ds))(I:Ev X (bj J) e d)(hz:ds.length<bK)(hr:Sv X (J.set j<|Y<|.own<|ds++[d]) a8 o)(N:Nv X j x<|>aa)
  (Q:Ab X (aK x p) "append"<|>_r)
  (T:Fe X q [e]<|>_r)
  (akF:(i.endLine==q.line)=L<|>_r)(u:Se X e []<|>_r)(akG:Sw X (b0 (cD (aK x p) "append" i) [e] [] q) am ao.line<|>_r):
  Sv X J (.Expr (b0 (cD (aK x p) "append" i) [e] [] q) ao::a8) o:=λG0 H0 σ G H D y s f=>by
 let⟨a,vs,l,q2,q3,q4,q5⟩:=s.own j ds k;apply wS.cons<|rW (yS AY Uu aif MB (gu N) (eO pE hZ u) Q T akF u U) akG;refine fQ (.ref a) l (aP ⟨U,vs,bR.of q4⟩)<|I σ G H _ s.bj s.sub s.wf λv G' H' z w r=>?_;have A:=s.grow z w;let⟨a',akH,m,w2,w3,w4,n⟩:=A.own j ds k;rw[l]at m;simp at m;subst m;refine qg a akH v U U w4 (by rw[n.length];lia) ?_;have C:=A.write k l (n.append (us:=[v]) (es:=[d]) ⟨r,trivial⟩) (by rwa[cC,n.length]);have t:=y.trans z;exact hr G0 H0 σ G' _ D ⟨t.g,C.sub,λb o' E=>(aQ<|f9 E w2)▸t.h _ _ E,t.f⟩ C f
def zd j{i q:bn}(k:J[j]?=Y (Y<|.own ds))(I:Ev X (bj J) e (lst es))(hz:ds.length+es.length<=bK)(hr:Sv X (J.set j<|Y<|.own<|ds++es) a8 o)(N:Nv X j x<|>aa)
  (Q:Ab X (aK x p) "extend"<|>_r)
  (T:Fe X q [e]<|>_r)
  (akF:(i.endLine==q.line)=L<|>_r)(u:Se X e []<|>_r)(akG:Sw X (b0 (cD (aK x p) "extend" i) [e] [] q) am ao.line<|>_r):
  Sv X J (.Expr (b0 (cD (aK x p) "extend" i) [e] [] q) ao::a8) o:=λG0 H0 σ G H D y s f=>by
 let⟨a,vs,l,q2,q3,q4,q5⟩:=s.own j ds k;apply wS.cons<|rW (yS AY JF aih YW (gu N) (eO pE hZ u) Q T akF u U) akG;refine fQ (.ref a) l (aP ⟨U,vs,bR.of q4⟩)<|I σ G H _ s.bj s.sub s.wf λv G' H' z w z_=>be z_ λb us e1 h1 r=>?_;have A:=s.grow z w;let⟨a',akH,m,w2,w3,w4,n⟩:=A.own j ds k;rw[l]at m;simp at m;subst m;rw[e1];refine Fa a b akH us U U w4 (z.s _ _ h1) (by rw[n.length,r.length];lia) ?_;have C:=A.write k l (n.append r) (by rw[cC,n.length,r.length];lia);have t:=y.trans z;exact hr G0 H0 σ G' _ D ⟨t.g,C.sub,λb o' E=>(aQ<|f9 E w2)▸t.h _ _ E,t.f⟩ C f
end
structure Yl(c:It)G(ds:List Rp):Prop where
 go:∀i d H,ds[i]?=Y d->aX G H->c.go i H
 yl:∀i d H x a,ds[i]?=Y d->aX G H->c.Ci i H x a->∃b,Ext G H b a/\(Wf H->Wf a)/\d.r b x
 st:∀i H,ds.length<=i->aX G H->c.stop i H
abbrev both(a b:Hp):Hp:=λc=>match a c with|some o=>o|none=>b c
def GA(h:a c=Y o):both a b c=Y o:=by grind[both]
def GB(h:a c=am):both a b c=b c:=by grind[both]
def Ext.join(x:Ext G H I H1)(a:aX G C)(b:aX C H):∃G3,Ext C H G3 H1/\aX I G3:=by
 refine aY (both C I) ⟨λc o=>GA,λc o e=>?_,x.h,λc hc hg=>?_⟩<|λc o e=>?_
 .cases q:C c with
  |some u=>rw[GA q]at e;obtain rfl:=bL e;exact x.h _ _<|b _ _ q
  |none=>rw[GB q]at e;exact x.s _ _ e
 .exact(GB hg)▸(x.f c hc<|a.free hg)
 .cases q:C c with
  |some u=>
   rw[GA q];have h1:=x.h _ _<|b _ _ q;have h2:=x.s _ _ e
   lia
  |none=>rw[GB q];lia
def Yl.mono(y:Yl akF G ds)(a:aX G C):Yl akF C ds:=
 ⟨λi d H h s=>y.go i d H h<|a.trans s,λi d H x I h s q=>
  b7 (y.yl i d H x I h (a.trans s) q) λG' e w r=>
  aL (e.join a s) λG3 e3 s3=>
  ⟨G3,e3,w,d.mono s3 r⟩,λi H h s=>y.st i H h<|a.trans s⟩
abbrev Iv(X:Cx)(c:En)(d iter:aT)(ds:O Rp):Prop:=∀σ G H R,eU σ G c->aX G H->Wf H->(∀e b a,Ext G H b a->Wf a->ds.length<=bK->Yl e b ds->R e a)->wI X d iter σ H R
section
variable{X:Cx}{J:En}{tg e e2:aT}{es:O aT}{d:Rp}{ds:O Rp}{ao p:bn}
def cK(h:Ev X J e (lst ds)):Iv X J tg e ds:=λn G H R E S W k=>
 wI.by (Xy pE) λw=>h n G H _ E S W λv l o g m t=>be t λa c u b f=>fQ a u ⟨c,bR.of<|g.s _ _ b⟩ (λA=>k _ l o g m (by exact(f.length).symm▸m _ _ (g.s _ _ b))
  ⟨λi d H h s=>aL (f.get h) λv j _=>gq c v (bR.of<|s _ _ b) j,λi d H x C h s⟨q,y⟩=>by rw[q];refine aL (f.get h) λv j z=>?_;have:=y c<|bR.of<|s _ _ b;rw[j]at this;obtain rfl:=bL this;exact fQ l (.refl s) id z,λi H h s=>aY c (bR.of<|s _ _ b)<|by exact f.length▸h⟩)
def Nn{K:aJ}(h:Ev X J e (tup K ds))(m:ds.length<=bK<|>ai)(n:X.K=K<|>_r):Iv X J tg e ds:=λo G H R E S W k=>by
 subst n;exact wI.by (Xz pE) λw=>h o G H _ E S W λv j t l u y=>be y λa b z c f=>fQ a z ⟨b,l.s.tup c⟩ (λI=>k _ j t l u m
  ⟨λi d H h s=>aL (f.get h) λv g _=>gq b v (s.tup c) g,λi d H x N h s⟨q,A⟩=>by rw[q];let⟨v,g,C⟩:=f.get h;have:=A b<|s.tup c;rw[g]at this;obtain rfl:=bL this;exact fQ j (.refl s) id C,λi H h s=>aY b (s.tup c)<|by rw[f.length];lia⟩)
def CM(c:X.mg "range"=am)(h:Ev X J e (int n))(u:0<=n)(y:n<=1000)(f:Gl X "range"<|>_r)(a:d9 [e] X.env=[(aA,eval e X.env)]<|>_r):
  Iv X J tg (b0 (aK "range" p) [e] [] ao) ((c8 n.toNat).map λi=>int (i:Nat)):=λg G H R E S W k=>
 wI.by (XC f c (eO pE hZ a) a) λw=>h g G H _ E S W λv b j l m o=>tU n (o▸U) ap ap (λz=>k _ b j l m (by rw[aI,mG];exact cS (show n.toNat<=1000 by simp_all) bw)
  ⟨λi d H h s=>by
   have:=(dH.mp h).1
   rwa[aI,mG]at this,λi d H x A h s⟨q,t⟩=>by
   rw[q];rw[cT]at h;have C:i<n.toNat:=by grind-order
   rw[dq bG,aii]at h;obtain rfl:=bL h
   exact fQ b (.refl s) id (by rw[t];show V.int _=.int i;rw[aij]),λi H h s=>by
   rwa[aI,mG]at h⟩)
def uu{K:aJ}{u:O aT}{z:Nat}{A:bn}(C:X.mg "enumerate"=am)(h:Ev X J e (lst ds))(I:Gl X "enumerate"<|>_r)(m:d9 [e] X.env=[(aA,eval e X.env)]<|>_r):
  Iv X J (jW u z A) (b0 (aK "enumerate" p) [e] [] ao) (ds.mapIdx λi d=>tup K [int i,d]):=λN G H R E S W k=>
 wI.by (ZI I C (eO pE hZ m) m) λw=>h N G H _ E S W λv Q H1 g n z_=>be z_ λa c q1 b f=>cn a c ap (bR.of<|g.s _ _ b) (λw'=>k _ Q H1 g n (by rw[nK,<-f.length];exact n _ _<|g.s _ _ b)
  ⟨λi d H h s=>by
   rw[rd]at h;cases q:ds[i]? with
   |none=>rw[q]at h;contradiction
   |some o=>exact aL (f.get q) λv j _=>gq c v (bR.of<|s _ _ b) j,λi d H x H' h s akF=>by
   refine de akF λT y q t qx qy=>?_;rw[rd]at h;cases l:ds[i]? with
   |none=>rw[l]at h;simp at h
   |some o=>
    rw[l]at h;simp at h;subst h;let⟨v,j,hr⟩:=f.get l;have:=qy c<|bR.of<|s _ _ b;rw[j]at this;obtain rfl:=bL this;subst q qx;exact⟨_,.new s t,λw=>w.tup,T,_,U,cx.of bQ,U,o.mono (gM<|kc s t) hr,trivial⟩,λi H h s=>aY c (bR.of<|s _ _ b)<|by rw[nK]at h;exact f.length▸h⟩)
def zip_get{α a:Type}{l:O α}{m:O a}{i:Nat}{x:α×a}(h:(l.zip m)[i]?=x):l[i]?=x.1/\m[i]?=x.2:=xr.mp h
def CN{K:aJ}{es:O Rp}{akF:O aT}{kk:Nat}{akG:bn}(hm:X.mg "zip"=am)(h:Ev X J e (lst ds))(h2:Ev X J e2 (lst es))(hg:Gl X "zip"<|>_r)(hs:Se X e [e2]<|>_r)
  (akH:Se X e2 []<|>_r)(akI:Bt X ao [e2]<|>_r):
  Iv X J (jW akF kk akG) (b0 (aK "zip" p) [e,e2] [] ao) ((ds.zip es).map λd=>tup K [d.1,d.2]):=λσ G H R E S W k=>
 wI.by (ZL hg hm (eO pE (eO pE hZ akH) hs) hs akI) λw=>h σ G H _ E S W λv G1 H1 t w1 r1=>h2 σ G1 H1 _ (E.mono t.g) t.s w1 λv2 G2 H2 e2 w2⟨b,j,p1,l,A⟩=>by
  let⟨a,m,q1,f,n⟩:=(lst ds).mono e2.g r1;refine yk a b m j ap (bR.of<|e2.s _ _ f) (bR.of<|e2.s _ _ l)<|λw'=>k _ G2 H2 (t.trans e2) w2 ?_ ⟨λi d H h s=>?_,λi d H x H' h s z_=>mI z_ λT y z q hT qx qy qz=>?_,λi H h s=>?_⟩
  .rw[aI,vd];have:=w2 _ _<|e2.s _ _ f;rw[n.length]at this
   lia
  .rw[cT]at h;cases c:(ds.zip es)[i]? with
   |none=>rw[c]at h;simp at h
   |some C=>
    let⟨I,N⟩:=zip_get c;let⟨v,Q,_⟩:=n.get I;let⟨u,hu,_⟩:=A.get N;exact yk m j v u (bR.of<|s _ _ f) (bR.of<|s _ _ l) Q hu
  .rw[cT]at h;cases c:(ds.zip es)[i]? with
   |none=>rw[c]at h;simp at h
   |some C=>
    rw[c]at h;obtain rfl:=bL h;let⟨I,N⟩:=zip_get c;let⟨v,Q,hr⟩:=n.get I;let⟨u,hu,akJ⟩:=A.get N;have t1:=qy m<|bR.of<|s _ _ f;have t2:=qz j<|bR.of<|s _ _ l;rw[Q]at t1;cases t1;rw[hu]at t2;cases t2;subst q qx;have sn:=gM (o:=.tup [y,z])<|kc s hT;exact⟨_,.new s hT,λw=>w.tup,T,_,U,cx.of bQ,C.1.mono sn hr,C.2.mono sn akJ,trivial⟩
  .rw[aI,vd]at h;refine cn m j (bR.of<|s _ _ f) (bR.of<|s _ _ l) ?_;rw[n.length,A.length];lia
end
abbrev Gb(X:Cx)(b:bV)(c:aT)(d:Rp)(e:O bY)(o:Out):Prop:=∀a H0 σ G H D v,Ext a H0 G H->br H0 σ G H b->d.r G v->Fits D a H0 o->wG X c v σ H λf g=>wS X e D f g
section
variable{X:Cx}{J:bV}{tg iter:aT}{d d1 d2:Rp}{ds:O Rp}{ao p p2 ug:bn}{bD a8:O bY}{o:Out}{x y:aq}
def wG.by(q:PG X tg t)(h:t v σ H Q):wG X tg v σ H Q:=λC s u I r=>q C s σ H v u Q I r h
def gX i(h:Sv X (J.set i<|Y<|.aC d) bD o)(hi:Lc X i x<|>ah)
 :Gb X J (aK x p) d bD o:=λa b c G H D v e s r f=>
 wG.by (mO hi.d hi.n hi.l hi.f)<|h a b _ G H D e (s.set r) f
def ly{K:aJ}{c:Nat}i j(h:Sv X ((J.set i<|Y<|.aC d1).set j<|Y<|.aC d2) bD o)(g:X.calm=L<|>_r)(hi:Lc X i x<|>ah)(b:Lc X j y<|>ah)
 (k:X.K=K<|>_r)
  (m:((gE [aK x p,aK y p2] X.env).map (·.2)=k6 (aK x p) X.env::(gE [aK y p2] X.env).map (·.2))<|>_r)(q:((gE [aK y p2] X.env).map (·.2)=k6 (aK y p2) X.env::(gE [] X.env).map (·.2))<|>_r)
  (t:(gE [aK x p,aK y p2] X.env).length=2<|>_r)(z:(gE [aK x p,aK y p2] X.env).findIdx? (·.1)=am<|>_r):
  Gb X J (jW [aK x p,aK y p2] c ug) (tup K [d1,d2]) bD o:=λA C σ G H D v e s E f=>be E λa vs I N Q=>by
 subst k;refine be (all2 Q) λu w T r1 r2=>?_;subst T;exact wG.by (Ch g (rX (mO hi.d hi.n hi.l hi.f) (rX (mO (i:=j) hi.d b.n b.l b.f) Cg q) m) t z) ⟨a,[u,w],I,s.sub.tup N,U,u,[w],U,w,[],U,U,h A C _ G H D e ((s.set r1).set r2) f⟩
def mU n(hn:n<=ds.length)(j:Nat->bV)(hi:Iv X (bj J) tg iter ds)(h0:j 0=J)(hb:∀i d,i<n->ds[i]?=Y d->Gb X (j i) tg d bD (.nx<|j<|i+1))
  (akH:(n=ds.length/\Sv X (j n) a8 o)\/∃dn d,ds[n]?=Y dn/\Gb X (j n) tg dn bD (.rt d)/\o=.rt d)(hc:X.calm=L<|>_r)(hp:p0 (bg X.prog X.w) X.A X.env X.xe<|>aj)(hs:Fi X iter<|>ag):Sv X J (yf tg iter bD [] ao::a8) o:=λE k σ G H D x s f=>by
 refine wS.cons (Cm hp hc pI pG eP hs)<|hi σ G H _ s.bj s.sub s.wf λakL I H1 e1 w1 hl u=>⟨λi m z c=>i<=n/\m=ds.length-i/\∃C,Ext E k C c/\aX I C/\br k z C c (j i),⟨_,dI _,U,I,x.trans e1,aX.refl _,h0▸s.grow e1 w1⟩,?_⟩;rintro i m z c ⟨akJ,rfl,C,N,l,a⟩;by_cases akF:i<n
 .have q:=dq<|gQ akF hn;refine aW ⟨(u.mono l).go i _ c q a.sub,λakG e=>∃b,Ext E k b e/\aX I b/\br k akG b e (j<|i+1),λakG e z_=>b7 z_ λb y1 y2 y3=>⟨ds.length-(i+1),bh,ap,U,b,y1,y2,y3⟩,λv e Q=>?_⟩;refine b7 ((u.mono l).yl i _ c v e q a.sub Q) λb t T r2=>?_;have x2:=N.trans t;exact hb i _ akF q b k z b e _ v x2.base (a.grow t<|T a.wf) r2 λakK G3 H3 e3 s3=>fQ G3 (x2.back e3) ((l.trans t.g).trans e3.g) s3
 .have akI:i=n:=ap;subst akI;obtain⟨he,hr⟩|⟨dn,d,q,hg,he⟩:=akH
  .exact aP ⟨u.st i c ap<|l.trans a.sub,hr E k z C c D N a f⟩
  .subst he;refine aW ⟨(u.mono l).go i _ c q a.sub,λ_ _=>False,λ_ _ h=>h.elim,λv e Q=>?_⟩;refine b7 ((u.mono l).yl i _ c v e q a.sub Q) λb t T r2=>?_;exact hg E k z b e _ v (N.trans t) (a.grow t<|T a.wf) r2 f
def lz(a:Nat->bV)(hi:Iv X (bj J) tg iter ds)(b:a 0=J)(g:∀i d,ds[i]?=Y d->Gb X (a i) tg d bD (.nx<|a<|i+1))(hr:Sv X (a ds.length) a8 o)
  (c:X.calm=L<|>_r)(e:p0 (bg X.prog X.w) X.A X.env X.xe<|>aj)(f:Fi X iter<|>ag):Sv X J (yf tg iter bD [] ao::a8) o:=
 mU ds.length (cg _) a hi b bh ap c e f
def Z_ n(h:ds[n]?=Y dn)(a:Nat->bV)(hi:Iv X (bj J) tg iter ds)(b:a 0=J)(c:∀i d,i<n->ds[i]?=Y d->Gb X (a i) tg d bD (.nx<|a<|i+1))(j:Gb X (a n) tg dn bD (.rt d))
  (e:X.calm=L<|>_r)(f:p0 (bg X.prog X.w) X.A X.env X.xe<|>aj)(g:Fi X iter<|>ag):Sv X J (yf tg iter bD [] ao::a8) (.rt d):=
 mU n bh a hi b c bG e f g
end
abbrev CO(X:Cx)(a:dJ)(b:aT):TG:=λv σ H Q=>∀s c C cl fp,wG (X.fu s c a (ii a cl C X.env) fp) b v σ H Q
abbrev GC(X:Cx)(a:dJ)(e:aT):TE:=λσ H Q=>∀s b C cl fp,wE (X.fu s b a (ii a cl C X.env) fp) e σ H Q
abbrev wTb(X:Cx)(a:dJ)(e:aT):TT:=λσ H Q=>∀s b C cl fp,wT (X.fu s b a (ii a cl C X.env) fp) e σ H Q
abbrev GD(X:Cx)(a:dJ)(b:En)(e:aT)(d:Rp):Prop:=∀s c C cl fp,Ev (X.fu s c a (ii a cl C X.env) fp) b e d
abbrev TvB(X:Cx)(a:dJ)(c:En)(e:aT)(b:Bool):Prop:=∀s d C cl fp,Tv (X.fu s d a (ii a cl C X.env) fp) c e b
abbrev Gc(X:Cx)(b:dJ)(vs:O Nat)(c:En)(e:aT)(d:Rp)(Γ':En):Prop:=∀σ G H v Q,eU σ G c->aX G H->d.r G v->(∀a,eU a G Γ'->wipe a vs=wipe σ vs->Q a H)->CO X b e v (wipe σ vs) H Q
def eU.set(e:eU σ G C)(r:d.r G v):eU (σ.set i<|Y v) G (C.set i<|Y d):=
 ⟨by rw[fX,fX];exact e.len,λk I h=>by
  obtain⟨rfl,q⟩|⟨hk,q⟩:=get_set h
  .obtain rfl:=bL q;exact aY v (so<|e.len▸zb h) r
  .rw[lY hk];exact e.at_ k I q⟩
def eU.wipe(e:eU σ G C):eU (σ.set i am) G (C.set i am):=
 ⟨by rw[fX,fX];exact e.len,λk I h=>by
  obtain _|⟨hk,q⟩:=get_set h
  .lia
  .rw[lY hk];exact e.at_ k I q⟩
section
variable{X:Cx}{J Γ':En}{bP:dJ}{tg iter g7 c:aT}{d d1 d2:Rp}{ds gs:O Rp}{ao p p2 ug:bn}{x y:aq}{own:O (aq×Nat)}
def eu i(f:X.N.Nodup<|>ak)(hi:X.N[i]?=x<|>_r)(b:(UG bP X.env).names.lookup x=Y .local<|>_r):Gc X bP [i] J (aK x p) d (J.set i d):=λa G H v Q E S r k s g C h j=>
 wG.by (mO f hi (aP b)<|aW b) (by have e:eU ((a.set i am).set i _) G _:=E.wipe.set r;rw[UH (l:=J)]at e;exact k _ e<|by show(((a.set i am).set i _).set i am)=a.set i am;simp)
def wm{K:aJ}{m:Nat}i j(n:X.calm=L<|>_r)(f:X.N.Nodup<|>ak)(hi:X.N[i]?=x<|>_r)(o:X.N[j]?=y<|>_r)(g:(UG bP X.env).names.lookup x=Y .local<|>_r)(h:(UG bP X.env).names.lookup y=Y .local<|>_r)(q:X.K=K<|>_r)(t:i≠j<|>af):
  Gc X bP [i,j] J (jW [aK x p,aK y p2] m ug) (tup K [d1,d2]) ((J.set i d1).set j d2):=λb G H v Q E S A k s H1 C cl fp=>be A λa vs I T q3=>by
 subst q;refine be (all2 q3) λu w akF r1 r2=>?_;subst akF;refine wG.by (Ch n<|rX (mO f hi (aP g)<|aW g)<|rX (mO f o (aP h)<|aW h) Cg) ⟨a,[u,w],I,S.tup T,U,u,[w],U,w,[],U,U,?_⟩;have e:eU ((((b.set j am).set i am).set i u).set j w) G _:=(E.wipe.wipe.set r1).set r2;rw[UH (l:=J.set j am),aik (l:=J) _ _<|λz=>t z.symm,UH (l:=J.set i d1)]at e;apply k _ e;show(((((b.set j am).set i am).set i u).set j w).set j am).set i am=((b.set j am).set i am)
 simp_all[aik]
def ze:PG (X.fu s H bP (ii bP cl C X.env) fp) tg (CO X bP tg):=λa b _ _ _ u _ I r h=>h s H C cl fp a b u I r
def zf:PE (X.fu s H bP (ii bP cl C X.env) fp) g7 (GC X bP g7):=λa b _ _ _ I h=>h s H C cl fp a b I
def pTb:PT (X.fu s H bP (ii bP cl C X.env) fp) c (wTb X bP c):=λa b _ _ _ I h=>h s H C cl fp a b I
structure lZ a H1 D gs G H:Prop where
 x:Ext a H1 G H
 w:Wf H
 g:G D=am
 h:∃acc,H D=Y (.lst acc)/\bv G acc gs
def lZ.grow(I:lZ G1 H1 D gs G H)(e:Ext G H G' C)(w:Wf C):lZ G1 H1 D gs G' C:=
 aL I.h λakF h1 h2=>
 ⟨I.x.trans e,w,e.f D ap I.g,akF,e.h _ _ h1,h2.mono e.g⟩
def lZ.push(hD:H1 D=am)(I:lZ G1 H1 D gs G H)(h:H D=Y (.lst acc))(r:d.r G v)(hz:gs.length<bK):lZ G1 H1 D (gs++[d]) G (upd H D<|.lst<|acc++[v]):=by
 let⟨akF,C,h2⟩:=I.h;rw[h]at C;cases C;exact⟨⟨I.x.g,λb o e=>(aQ<|f9 e I.g)▸I.x.s _ _ e,λb o e=>(aQ<|f9 e hD)▸I.x.h _ _ e,I.x.f⟩,
  I.w.new λxs e=>by injection e with e;subst e;rw[cC,h2.length];assumption,I.g,_,bQ,h2.append ⟨r,trivial⟩⟩
def lZ.start(S:aX I H1)(W:Wf H1)(C:H1 D=am):lZ I H1 D [] I (upd H1 D<|.lst []):=
 ⟨⟨aX.refl _,S.trans<|gM C,gM C,λ_ _ h=>h⟩,W.new λxs e=>bG,kc S C,[],bQ,trivial⟩
def take_snoc{α:Type}{l:O α}{z:α}(h:l[i]?=z):l.take (i+1)=l.take i++[z]:=by simp_all[List.take_succ]
def No{gs:O (aR Rp)}(hc:X.calm=L)(hN:X.N.Nodup)(hi:Iv X J tg iter ds)(ok:oo X.N X.env.scope bP own)(hl:gs.length=ds.length)
  (hb:∀(i:Nat)d g,ds[i]?=Y d->gs[i]?=Y g->∃Γ',Gc X bP (own.map (·.2)) J tg d Γ'/\TvB X bP Γ' c g.isSome/\∀g',g=Y g'->GD X bP Γ' g7 g')
  (hs:Fi X iter<|>ag):bu X J (kI g7 [⟨tg,iter,[c],0⟩] bP ao) (gs.filterMap id):=λσ G H Q E S W k=>by
 refine wE.by (MM hc hN pI ok (λ_ _ _ _ _=>ze) (λ_ _ _ _ _=>Zm pTb) (λ_ _ _ _ _=>zf) hs) λw=>hi σ G H _ E S W λakO l H1 f w1 akM n D o=>⟨λi m b=>i<=ds.length/\m=ds.length-i/\∃t,lZ l H1 D ((gs.take i).filterMap id) t b,⟨_,dI _,U,l,.start f.s w1 o⟩,?_⟩
 rintro i m b ⟨akN,rfl,t,akP⟩;by_cases akG:i<ds.length
 .have u:=dq akG;have z:gs[i]?=Y (gs[i]'ap):=dq ap;refine aW ⟨(n.mono akP.x.g).go i _ b u akP.x.s,λe=>∃a,lZ l H1 D ((gs.take<|i+1).filterMap id) a e,λe z_=>mH z_ λa y=>⟨ds.length-(i+1),bh,ap,U,a,y⟩,λv e hy=>?_⟩;refine b7 ((n.mono akP.x.g).yl i _ b v e u akP.x.s hy) λa e2 w2 r2=>?_;have _a:=akP.grow e2<|w2 akP.w;refine b7 (hb i _ _ u z) λΓ' hG hT hE=>?_;refine hG σ a e v _ (E.mono<|(f.trans _a.x).g) _a.x.s r2 λakF E2 hw=>⟨hw,λs' akH C cl fp=>hT s' akH C cl fp akF a e _ E2 _a.x.s _a.w λH3 s3 w3=>?_⟩
  have A:=_a.grow (Ext.hp _a.x.s s3) w3;cases q:(gs[i]'ap)with
  |none=>
   exact ZQ ⟨a,by rw[take_snoc z,q];simpa using A⟩
  |some g'=>
   refine Gu λakI H4 C' akJ akK=>hE g' q akI H4 C' akJ akK akF a H3 _ E2 A.x.s w3 λy G4 H4 e4 w4 r4=>?_;have L4:=A.grow e4 w4;refine aL L4.h λI j T=>?_
   have hz:((gs.take i).filterMap id).length<bK:=by
    have:=List.length_filterMap_le id<|gs.take i;rw[jr]at this
    lia
   exact⟨I,j,T.length▸hz,G4,by rw[take_snoc z,q,List.filterMap_append];exact L4.push o j r4 hz⟩
 .have akL:i=ds.length:=ap;subst akL;rw[<-hl,ij]at akP;refine aL akP.h λI j T=>?_;exact aP ⟨n.st _ b (cg _)<|akP.x.g.trans akP.x.s,λw'=>k D I t b (f.trans akP.x) w' (f.h.free o) akP.g j T⟩
end
section
variable{X:Cx}{J:En}{e a b c o:aT}{es:O aT}{d d' da db:Rp}{ds:O Rp}{ao p p2:bn}{i j k l:Int}
def zg{bs:O Bool}(h:X.mg "any"=am)(m:Ev X J e (lst<|bs.map bl))(n:X.calm=L<|>_r)(q:Gn X "any"<|>ae)(f:Se X e []<|>_r):Ev X J (b0 (aK "any" p) [e] [] ao) (bl<|bs.any id):=
 pz (Za n) h U (aS m f) (λt G H Q r S W k=>by obtain⟨v,rfl,l,u,rfl,g,s⟩:=all1 r;rw[Nj s]at g;exact cn l bs U (bR.of<|S _ _ g)<|k _ G H (.refl S) W U) q bw f U
def CP{bs:O Bool}(h:X.mg "all"=am)(m:Ev X J e (lst<|bs.map bl))(n:X.calm=L<|>_r)(q:Gn X "all"<|>ae)(f:Se X e []<|>_r):Ev X J (b0 (aK "all" p) [e] [] ao) (bl<|bs.all id):=
 pz (Zb n) h eN (aS m f) (λt G H Q r S W k=>by obtain⟨v,rfl,l,u,rfl,g,s⟩:=all1 r;rw[Nj s]at g;exact cn l bs U (bR.of<|S _ _ g)<|k _ G H (.refl S) W U) q bw f U
def CQ{ns:O Int}(h:X.mg "sum"=am)(m:Ev X J e (lst<|ns.map int))(n:X.calm=L<|>_r)(q:Gn X "sum"<|>ae)(f:Se X e []<|>_r):Ev X J (b0 (aK "sum" p) [e] [] ao) (int ns.sum):=
 pz (Y7 n) h U (aS m f) (λt G H Q r S W k=>by obtain⟨v,rfl,l,u,rfl,g,s⟩:=all1 r;rw[ints_of_all s]at g;exact cn l ns U (bR.of<|S _ _ g)<|k _ G H (.refl S) W U) q bw f U
def Np{ns:O Int}(n:X.mg "min"=am)(q:Ev X J e (lst<|ns.map int))(h:0<ns.length/\∀x∈ns,(∀y∈ns,x<=y)->x=m)(s:X.calm=L<|>_r)(t:Gn X "min"<|>ae)(f:Se X e []<|>_r):Ev X J (b0 (aK "min" p) [e] [] ao) (int m):=
 pz (Y9 s) n eN (aS q f) (λA G H Q r S W k=>by obtain⟨v,rfl,l,C,rfl,g,u⟩:=all1 r;rw[ints_of_all u]at g;exact tV l ns U (bR.of<|S _ _ g) h.1<|λx w z=>k _ G H (.refl S) W<|(h.2 x w z)▸U) t bw f U
def Nq{ns:O Int}(n:X.mg "max"=am)(q:Ev X J e (lst<|ns.map int))(h:0<ns.length/\∀x∈ns,(∀y∈ns,y<=x)->x=m)(s:X.calm=L<|>_r)(t:Gn X "max"<|>ae)(f:Se X e []<|>_r):Ev X J (b0 (aK "max" p) [e] [] ao) (int m):=
 pz (Y8 s) n eN (aS q f) (λA G H Q r S W k=>by obtain⟨v,rfl,l,C,rfl,g,u⟩:=all1 r;rw[ints_of_all u]at g;exact tV l ns U (bR.of<|S _ _ g) h.1<|λx w z=>k _ G H (.refl S) W<|(h.2 x w z)▸U) t bw f U
def Nr(m:X.mg "min"=am)(n:Ev X J a (int i))(q:Ev X J b (int j))(s:X.calm=L<|>_r)(t:Gn X "min"<|>ae)(h:Se X a [b]<|>_r)(w:Se X b []<|>_r)
  (x:Bt X ao [b]<|>_r):Ev X J (b0 (aK "min" p) [a,b] [] ao) (int<|min i j):=
 pz (X7 s) m eN (cB n (aS q w) h) (λz G H Q r S W k=>by refine be (all2 r) λv u y f g=>?_;subst y;have f:=f;have g:=g;subst f g;exact gq i j U<|k _ G H (.refl S) W<|by grind-order) t bw h x
def Nt(m:X.mg "max"=am)(n:Ev X J a (int i))(q:Ev X J b (int j))(s:X.calm=L<|>_r)(t:Gn X "max"<|>ae)(h:Se X a [b]<|>_r)(w:Se X b []<|>_r)
  (x:Bt X ao [b]<|>_r):Ev X J (b0 (aK "max" p) [a,b] [] ao) (int<|max i j):=
 pz (X6 s) m eN (cB n (aS q w) h) (λz G H Q r S W k=>by refine be (all2 r) λv u y f g=>?_;subst y;have f:=f;have g:=g;subst f g;exact gq i j U<|k _ G H (.refl S) W bh) t bw h x
def zh(g:X.mg "str"=am)(m:Ev X J e (int i))(h:i.natAbs.log2<1920)(n:Gn X "str"<|>ae)(f:Se X e []<|>_r):Ev X J (b0 (aK "str" p) [e] [] ao) (str<|toString i):=
 Z7 X8 g eN (aS m f) (λt G H Q r S W k=>by refine aL (all1 r) λv q s=>?_;subst q;subst s;exact fQ i U h<|k _ G H (.refl S) W U) n bw f U
def aad(g:X.mg "ord"=am)(m:Ev X J e (str x))(h:x.length=1)(n:Gn X "ord"<|>ae)(f:Se X e []<|>_r):Ev X J (b0 (aK "ord" p) [e] [] ao) (int<|(x.cps.getD 0 0:Nat)):=
 pz X9 g eN (aS m f) (λt G H Q r S W k=>by refine aL (all1 r) λv q s=>?_;subst q;subst s;exact fQ x U h<|k _ G H (.refl S) W U) n bw f U
def uv(S:aX G H)(f:H q=am):Ext G H G (upd H q<|.lst us):=⟨aX.refl _,S.trans<|gM f,gM f,λ_ _ h=>h⟩
def aae(n:X.mg "list"=am)(s:Ev X J e (lst ds))(t:Gn X "list"<|>ae)(g:Se X e []<|>_r):bu X J (b0 (aK "list" p) [e] [] ao) ds:=
 Nh Mw n eN (aS s g) (λA G H Q r S W k=>by refine aL (all1 r) λv u w=>?_;subst u;refine be w λl h x m y=>?_;subst x;exact cn l h U (aP<|bR.of<|S _ _ m)<|λq f=>k q h G _ (uv S f) (W.new λC z=>by injection z with z;subst z;exact W _ _<|S _ _ m) f (kc S f) bQ y) t bw g U
def aaf{K:aJ}(n:X.mg "list"=am)(s:Ev X J e (tup K ds))(C:ds.length<=bK<|>ai)(t:X.K=K<|>_r)(u:Gn X "list"<|>ae)(g:Se X e []<|>_r):bu X J (b0 (aK "list" p) [e] [] ao) ds:=by subst t;exact Nh Mw n eN (aS s g) (λE G H Q r S W k=>by refine aL (all1 r) λv w x=>be x λl h y A m=>?_;subst w;subst y;exact cn l h U (aW<|S.tup A)<|λq f=>k q h G _ (uv S f) (W.new λI z=>by injection z with z;subst z;rw[m.length];lia) f (kc S f) bQ m) u bw g U
abbrev wO(X:Cx)(e:aR aT):TO:=λσ H Q=>∀f s,Inv X f σ H s->aZ (bg X.prog X.w) X.A (evalPart e X.env) (λu s'=>∃o g,Inv X f σ g s'/\JC u o/\Q o g) X.xe s
def pO:PO X f (wO X f):=λg s _ _ _ I h=>h g s I
abbrev sr(X:Cx)(J:En)(e:aR aT)(o:aR Int):Prop:=∀σ G H Q,eU σ G J->aX G H->Wf H->(∀g f,Ext G H g f->Wf f->Q o f)->wO X e σ H Q
def sr.none_:sr X J am am:=λC G H Q E S W k akF s I=>Mm akF s C H Q I<|k G H (.refl S) W
def sr.dW(h:Ev X J e (int i)):sr X J e i:=λC G H Q E S W k akF s I=>
 F5 pE akF s C H Q I<|h C G H _ E S W λv G1 H1 e1 w1 r1=>aY i r1<|k G1 H1 e1 w1
abbrev eX{α:Type}(f:O α)(lo hi:aR Int):O α:=(f.drop<|HT.jh f.length 0 lo).take<|HT.jh f.length f.length hi-HT.jh f.length 0 lo
def wn(f:α->β)xs lo hi:eX (xs.map f) lo hi=(eX xs lo hi).map f:=by simp[eX]
def fk{lo hi:aR aT}(z:Ev X J e (lst ds))(A:sr X J lo ol)(C:sr X J hi I):bu X J (cR e (.Slice lo hi am p2) ao) (eX ds ol I):=λt G H Q E S W k=>
 wE.by (Mo Mr pE pO pO) λw=>z t G H _ E S W λv N T m w1 r1=>A t N T _ (E.mono m.g) m.s w1 λG2 H2 n w2=>C t G2 H2 _ (E.mono (m.trans n).g) n.s w2 λG3 H3 f w3=>
  be ((lst ds).mono (n.trans f).g r1) λl vs q1 q2 y=>
  have x:=(m.trans n).trans f
  ⟨l,vs,q1,bR.of<|f.s _ _ q2,λq u w'=>k q _ G3 _ (x.trans<|uv f.s u) w' (x.h.free u) (kc f.s u) bQ<|by unfold yQ eX;exact y.length▸(y.drop _).take _⟩
def aag{f g h:Int->Int->Bool}(ho:du X (fi op) (ka λi j=>.bl<|f i j))(akI:du X (fi akF) (ka λi j=>.bl<|g i j))(akJ:du X (fi akG) (ka λi j=>.bl<|h i j))
  (ha:Ev X J a (int i))(hb:Ev X J b (int j))(hc:Ev X J c (int k))(hd:Ev X J e4 (int l))(hm:EB [op,akF,akG] [b,c,e4]=aA<|>alG):Ev X J (tS a [op,akF,akG] [b,c,e4] ao) (bl<|f i j&&(g j k&&h k l)):=λt G H Q E S W q w s I=>by
 refine ahA (bo (ha t G H _ E S W (λx N H1 m w1 r1=>show x=.int i/\∃N,Ext G H N H1/\Wf H1 from⟨r1,N,m,w1⟩) w s I) λv s1 z_=>de z_ λx H1 I1 r1 hx w_=>aL w_ λN m w1=>T_ (bo (hb t N H1 _ (E.mono m.g) m.s w1 (λy A H2 n w2 r2=>show y=.int j/\∃A,Ext N H1 A H2/\Wf H2 from⟨r2,A,n,w2⟩) w s1 I1) λu s2⟨y,H2,I2,r2,hy,A,n,w2⟩=>
  bo (ho w s2 t H2 x y v u (λz T=>z=.bl (f i j)/\T=H2) I2 r1 r2 ⟨i,j,hx,hy,U,U⟩) λd s3⟨z,T,I3,r3,hz,hH⟩=>?_)) hm
 subst hz hH;subst r3;apply nL;cases ef:f i j with
 |false=>exact Jx ⟨.bl aA,T,I3,U,q _ A T (m.trans n) w2<|by rw[ef];rfl⟩
 |true=>
  refine Jy (T_ (bo (hc t A T _ (E.mono (m.trans n).g) n.s w2 (λy C H4 e3 w3 r3=>show y=.int k/\∃C,Ext A T C H4/\Wf H4 from⟨r3,C,e3,w3⟩) w s3 I3) λu4 s4⟨y4,H4,I4,r4,akH,C,e3,w3⟩=>
   bo (akI w s4 t H4 y y4 u u4 (λz H5=>z=.bl (g j k)/\H5=H4) I4 r2 r4 ⟨j,k,hy,akH,U,U⟩) λd s5⟨z,H5,I5,r5,hz,hH⟩=>?_))
  subst hz hH;subst r5;apply nL;cases eg:g j k with
  |false=>exact Jx ⟨.bl aA,H5,I5,U,q _ C H5 ((m.trans n).trans e3) w3<|by rw[ef,eg];rfl⟩
  |true=>
   refine Jy (chain_last (bo (hd t C H5 _ (E.mono ((m.trans n).trans e3).g) e3.s w3 (λy G4 H6 e4 w4 r4=>show y=.int l/\∃G4,Ext C H5 G4 H6/\Wf H6 from⟨r4,G4,e4,w4⟩) w s5 I5) λu6 s6⟨y6,H6,I6,r6,akK,G4,akL,w4⟩=>
    akJ w s6 t H6 y4 y6 u4 u6 Q I6 r4 r6 ⟨k,l,akH,akK,q _ G4 H6 (((m.trans n).trans e3).trans akL) w4<|by rw[ef,eg];rfl⟩))
end
mutual
theorem Dp.mono {K:aJ} {H a:Hp} (s:aX H a) (d:jv) (v:V) (h:Dp K H v d):Dp K a v d:=by
 cases h with
 |lst h k=>exact .lst (s.seq h)<|lV.mono s _ _ k
 |tup h k=>exact .tup (s.tup h)<|lV.mono s _ _ k
 |_=>constructor
theorem lV.mono {K:aJ} {H a:Hp} (s:aX H a) (ds:List jv) (vs:List V) (h:lV K H vs ds):lV K a vs ds:=by
 cases h with
 |nil=>exact .nil
 |cons h k=>exact .cons (Dp.mono s _ _ h)<|lV.mono s _ _ k
end
structure wo K(d:Rp)p:Prop where
 dp:∀G v,d.r G v->Dp K G v p
 sh:vm p=L
section
variable{X:Cx}{J:En}{a b:aT}{da db:Rp}{p q:jv}
def Nu(e:X.A.units+64<fP)(f:Ev X J a da)(g:Ev X J b db)(c:wo X.K da p)(d:wo X.K db q):Cv X J .Eq a b (vn p q):=
 jF (Zf e) f g λx y G H Q h i S k=>jf p q (Dp.mono S _ _<|c.dp _ _ h) (Dp.mono S _ _<|d.dp _ _ i) c.sh d.sh k
def aah(e:X.A.units+64<fP)(f:Ev X J a da)(g:Ev X J b db)(c:wo X.K da p)(d:wo X.K db q):Cv X J .NotEq a b (!vn p q):=
 jF (Zg e) f g λx y G H Q h i S k=>jf p q (Dp.mono S _ _<|c.dp _ _ h) (Dp.mono S _ _<|d.dp _ _ i) c.sh d.sh k
end
abbrev bA(d:Rp):Prop:=∃G v,d.r G v
def bA.wit(h:bA (wit p d)):p/\bA d:=fF h λG v C I=>⟨C,G,v,I⟩
def bv.pB:∀{vs:O V}{ds:O Rp},bv G vs ds->∀d∈ds,bA d:=λ{vs ds}h d C=>
 mH (Ef C) λi I=>
 aL (h.get I) λv _ r=>
 ⟨G,v,r⟩
def bA.lst(h:bA (.lst ds)):(∀d∈ds,bA d):=E_ h λG v a C _ _ r=>r.pB
def bA.ins(h:bA (.ins C fs))(l:fs.lookup f=Y d):bA d:=Vm h λG v a I akF _ _ r=>aL (r f d l) λu _ q=>E8 G u q
section
variable{X:Cx}{J:En}{bP:dJ}{tg iter g7 c:aT}{ds gs:O Rp}{ao p ajt:bn}{y:aq}{own:O (aq×Nat)}
abbrev eA(X:Cx)(J:En)(e:aT)(ds:O Rp):Prop:=∃(g7 tg iter:aT)(f:O aT)(bP:dJ)(ao:bn)(own:O (aq×Nat))(g:TT),e=kI g7 [⟨tg,iter,f,0⟩] bP ao/\oo X.N X.env.scope bP own/\
 (∀s H C(cl:O (aq×az))(fp:O az),wb (X.fu s H bP (ii bP cl C X.env) fp) f g)/\(Fi X iter)/\
 ∀σ G H(Q:VK),eU σ G J->aX G H->Wf H->(∀a vs d b,Ext G H d b->Wf b->H a=am->d a=am->b a=Y (.lst vs)->bv d vs ds->Q (.ref a) b)->
  yU (wI X tg iter) (CO X bP tg) g (GC X bP g7) (own.map (·.2)) σ H Q
def eA.fw(h:eA X J e ds)(C:X.calm=L<|>_r)(I:X.N.Nodup<|>ak):bu X J e ds:=λσ G H Q E S W k=>by obtain⟨g7,tg,iter,akF,bP,ao,own,tt,rfl,ok,ht,hs,h⟩:=h;exact wE.by (MM C I pI ok (λ_ _ _ _ _=>ze) ht (λ_ _ _ _ _=>zf) hs) λw=>h σ G H _ E S W λa vs G' H' x w' n g hh r _=>k a vs G' H' x w' n g hh r
def evl(hi:Iv X J tg iter ds)(ok:oo X.N X.env.scope bP own)(hl:gs.length=ds.length)(hb:∀(i:Nat)d g,ds[i]?=Y d->gs[i]?=Y g->∃Γ',Gc X bP (own.map (·.2)) J tg d Γ'/\GD X bP Γ' g7 g)
  (hs:Fi X iter<|>ag):eA X J (kI g7 [⟨tg,iter,[],0⟩] bP ao) gs:=⟨g7,tg,iter,[],bP,ao,own,Gk,U,ok,λ_ _ _ _ _=>Gm,hs,λI G H Q E S W k=>by
 refine hi I G H _ E S W λakL f n j w1 akJ o D q=>⟨λi m e=>i<=ds.length/\m=ds.length-i/\∃t,lZ f n D (gs.take i) t e,⟨_,dI _,U,f,by rw[ail];exact .start j.s w1 q⟩,?_⟩
 rintro i m e ⟨akK,rfl,t,akM⟩;by_cases akF:i<ds.length
 .have u:ds[i]?=Y ds[i]:=dq akF;have T:gs[i]?=(gs[i]'ap):=dq ap;refine aW ⟨(o.mono akM.x.g).go i _ e u akM.x.s,λb=>∃a,lZ f n D (gs.take<|i+1) a b,λb z_=>mH z_ λa y=>⟨ds.length-(i+1),ap,ap,U,a,y⟩,λv b hy=>?_⟩;refine b7 ((o.mono akM.x.g).yl i _ e v b u akM.x.s hy) λa e2 w2 r2=>?_;have _a:=akM.grow e2<|w2 akM.w;refine aL (hb i _ _ u T) λΓ' hG hE=>?_;refine hG I a b v _ (E.mono<|(j.trans _a.x).g) _a.x.s r2 λakG E2 hw=>⟨hw,?_⟩
  apply Gu (B:=∃a,lZ f n D (gs.take<|i+1) a b);refineλs' akH C cl fp=>hE s' akH C cl fp akG a b _ E2 _a.x.s _a.w λy G3 H3 e3 w3 r3=>?_;have L3:=_a.grow e3 w3;refine aL L3.h λz l A=>?_;have hz:(gs.take i).length<bK:=by rw[jr];lia
  exact⟨z,l,A.length▸hz,G3,(take_snoc T)▸L3.push q l r3 hz⟩
 .have akI:i=ds.length:=ap;subst akI;rw[<-hl,ij]at akM;refine aL akM.h λz l A=>?_;exact aP ⟨o.st _ e (cg _)<|akM.x.g.trans akM.x.s,k D z t e (j.trans akM.x) akM.w (j.h.free q) akM.g l A⟩⟩
end
section
variable{X:Cx}{J:bV}{e:aT}{d:Rp}{ds:O Rp}{ao p:bn}{a8:O bY}{o:Out}{x:aq}
def Nw i(b:eA X (bj J) e ds)(c:Sv X (J.set i<|Y<|.own ds) a8 o)(j:X.calm=L<|>_r)(k:X.N.Nodup<|>ak)(hi:X.N[i]?=Y x<|>_r)(l:X.env.scope.names.lookup x=Y .local<|>_r)
  (m:oW e (Y<|aK x p) ao.line X.env=pure L<|>alJ):Sv X J (iC [aK x p] e ao::a8) o:=λq t u G H D y s f=>by
 obtain⟨Q,T,iter,akF,akG,akH,own,tt,rfl,ok,v,A,h⟩:=b;apply wS.cons<|Go j k hi l m pI ok (λ_ _ _ _ _=>ze) v (λ_ _ _ _ _=>zf) A;exact h u G H _ s.bj s.sub s.wf λa vs C E z w n g I r=>c q t _ C E D (y.trans z) (s.Nk z w (y.h.free n) n g I r) f
def wq i(a:eA X (bj J) e ds)(j:Sv X (J.set i<|Y<|.aC<|lst ds) a8 o)(b:X.calm=L<|>_r)(c:X.N.Nodup<|>ak)(f:i<J.length<|>ai)(hi:X.N[i]?=x<|>_r)(g:X.env.scope.names.lookup x=Y .local<|>_r)
  (h:oW e (Y<|aK x p) ao.line X.env=pure L<|>alJ):Sv X J (iC [aK x p] e ao::a8) o:=
 Nw i a (jk i (so f) bG) b c hi g h
end
structure Ny H0 x dx C σ G H c(b:List (aq×Rp)):Prop where
 st:br H0 σ G H c
 at_:σ[0]?=Y (Y<|.ref x)
 h0:H0 x=am
 g:G x=am
 h:∃a,H x=Y (.ins C dx a)/\a.length<=b.length/\∀f d,b.lookup f=Y d->∃u,a.lookup f=Y u/\d.r G u
abbrev Ni(X:Cx)(C:az)(b:bV)(g:O (aq×Rp))(h:O bY)(gs:O (aq×Rp)):Prop:=∀c H0 x d σ G H D,Ext c H0 G H->Ny H0 x d C σ G H b g->
 (∀e f a,Ext c H0 f a->Ny H0 x d C e f a b gs->D.nx e a)->wS X h D σ H
section
variable{X:Cx}{C:az}{J:bV}{fs gs:O (aq×Rp)}{e:aT}{d:Rp}{ao p q:bn}{a8:O bY}{f:aq}
def su:Ni X C J fs [] fs:=λc g x h a G H D e n k b s I=>il b s a H D I<|k a G H e n
def fM(he:Ev X (bj J) e d)(hc:iV X.K C)(hn:dv X.K C f)(hr:Ni X C J ((f,d)::fs) a8 gs)(hl:fs.length<1000<|>ai)(hN:X.N[0]?=("self":aq)<|>_r)(hv:rQ X.env.scope "self":=by exact aP U)
  (akI:Sw X e (Y<|cD (aK "self" p) f q) ao.line<|>_r):Ni X C J fs (iC [cD (aK "self" p) f q] e ao::a8) gs:=λG0 H0 x m E G H D y n k=>
 wS.cons (uh (rR hN hv cq bw) pE akI) (he E G H _ n.st.bj n.st.sub n.st.wf λv t H1 c I r1=>aY (.ref x) n.at_ (by
  refine b7 n.h λQ T h2 h3=>?_;have akF:=c.h _ _ T;have akG:t x=am:=c.f x (T▸λz=>nomatch z) n.g;refine Fa x C m Q U akF hc hn (p9 h2 hl) ?_;have w:=y.trans c;have j:=n.st.grow c I;have akH:aX t (upd H1 x<|.ins C m<|kO f v Q):=λb o z=>(aQ<|f9 z akG)▸c.s _ _ z;refine hr G0 H0 x m E t _ D ⟨w.g,akH,λb o z=>(aQ<|f9 z n.h0)▸w.h _ _ z,w.f⟩ ⟨⟨j.len,akH,(I.new<|λxs z=>by cases z),j.aC,λi ds hi=>?_,j.iZ⟩,n.at_,n.h0,akG,_,bQ,?_,λg d' l=>?_⟩ k
  .refine jX (j.own i ds hi) λa vs q1 q2 q3 q4 q5=>?_;exact jf a vs q1 q2 q3 (by rwa[aQ<|λz=>by subst z;rw[akF]at q4;cases q4]) q5
  .exact cS (F2 ..)<|UI h2
  .rw[FZ];by_cases A:g=f
   .subst A;rw[p7,UF]at l;obtain rfl:=bL l;exact aY v (aH U) r1
   .have hb:(g==f)=aA:=by simpa using A
    rw[p7,hb]at l;refine aL (h3 g d' l) λu u1 u2=>?_;exact aY u ((aD A)▸u1)<|d'.mono c.g u2))
end
def lookup_mem{a:O (aq×Rp)}(h:a.lookup f=Y d):(f,d)∈a:=by
 induction a<;>grind
structure l0 K(b:aq->Option aB)x st ps:Prop where
 ex:∃f a,b x=Y (.ref f)/\we K x x st f a/\Binds K a ps []
@[reducible]def XD(P:bO)(w:bN)(K:aJ)(a:aq->aR aB)(b:bf)(N:O aq)(x:aq)(st:bY)(f:az)(c:aB)(A:eJ)(d:O gC)(s:bp)(H:Hp)(E:XK):Cx:=
 (rY iH P w K a b N x (fv st) f c A d s H E).uc
abbrev ent(N:O aq)(ds:O Rp):bV:=ds.map (λd=>Y<|.aC d)++Ul (N.length-ds.length) am
def sv{N:O aq}{ds:O Rp}{vs:O V}{G H:Hp}(r:bv G vs ds)(S:aX G H)(W:Wf H):br H (_a.start N vs) G H (ent N ds):=by
 have c:∀(i:Nat)(b:O Rp),(ent N ds)[i]?≠Y (Y<|.own b):=λi b h=>by grind-order [ent]
 refine⟨?_,S,W,λi d h=>?_,λi b h=>absurd h<|c i b,λi j b _ a h=>absurd h<|c i b⟩
 .simp[_a.start,ent,cC,cC,aI,aI,EC,EC,r.length]
 .unfold ent at h;by_cases e:i<ds.length
  .rw[ve (by rwa[aI]),cT,dq e]at h;cases h;refine aL (r.get<|dq e) λv f q=>?_;grind-order [_a.start,ve,aI,cT]
  .rw[Aw (by rw[aI];simp_all),Um]at h;split at h<;>cases h
section
variable{P:bO}{w:bN}{K:aJ}{mg:aq->aR aB}{base:bf}{k:Nat}{x:aq}{st:bY}{N ps:O aq}{R:O Rp->Rp->Prop}
def Nz(T:l0 K mg x st ps)(S:im N ps (fv st))(j:∀ds d,R ds d->ds.length=ps.length)
  (h:∀f a A b s H E,cj k (XD P w K mg base N x st f a A b s H E).A->∀ds d,R ds d->(∀d∈ds,bA d)->Sv (XD P w K mg base N x st f a A b s H E) (ent N ds) (gL st) (.rt d)):
  Good P w K mg base (k+1) x ps R:=
 be T.ex λf l m F n=>
 ⟨f,l,m,F.kp,n,F.ok S (λo H Q E c=>mI c λG ds d _ _ r g _=>r.length▸j ds d g) λa A b s H o Q E p c=>mI c λG ds d i W r g q=>aY _ eP<|h f a A b s H E p ds d g r.pB G H _ G H _ (.refl i) (sv r i W) λv t u e y=>q v t u e y⟩
end
structure mV K(b:aq->Option aB)x gx C st ps:Prop where
 ex:∃f a,b x=Y (.ref C)/\Mk K C f/\we K "__init__" gx st f a/\Binds K a ps []
abbrev spI(R:O Rp->Rp->Prop)(C:az):Sp:=λvs c d E=>∃x a us H Q,vs=.ref x::us/\sj R us H Q E/\H x=am/\H a=am/\a≠x/\c=upd (upd H a<|.own x) x (.ins C a [])/\∀b,Q (.ref x) b->d .bH b
abbrev uw(N:O aq)(ds:O Rp):bV:=am::ds.map (λd=>Y<|.aC d)++Ul (N.length-(ds.length+1)) am
def aak{N:O aq}{ds:O Rp}{vs:O V}{G H c:Hp}{x:az}(r:bv G vs ds)(S:aX G c)(W:Wf c):br H (_a.start N (.ref x::vs)) G c (uw N ds):=by
 have e:∀(i:Nat)(b:O Rp),(uw N ds)[i]?≠Y (Y<|.own b):=λi b h=>by grind-order [uw]
 refine⟨?_,S,W,λi d h=>?_,λi b h=>absurd h<|e i b,λi j b _ a h=>absurd h<|e i b⟩
 .simp only[_a.start,uw,cC,cC,aI,c_,c_,aI,EC,EC,r.length]
 .unfold uw at h;cases i with
  |zero=>cases h
  |succ i=>
   rw[UJ,xR]at h;by_cases f:i<ds.length
   .rw[ve (by rwa[aI]),cT,dq f]at h;cases h;refine aL (r.get<|dq f) λv g q=>?_;refine aY v ?_ q;rw[_a.start,eQ,UJ,xR,ve (by rwa[aI,r.length]),cT,g];rfl
   .rw[Aw (by rw[aI];omega),Um]at h;split at h<;>cases h
section
variable{P:bO}{w:bN}{K:aJ}{mg:aq->aR aB}{base:bf}{k:Nat}{x gx:aq}{C:az}{st:bY}{N ps:O aq}{R:O Rp->Rp->Prop}
@[reducible]def XI(P:bO)(w:bN)(K:aJ)(mg:aq->aR aB)(base:bf)(N:O aq)(q:aq)(st:bY)(f:az)(a:aB)(A:eJ)(b:O gC)(s:bp)(H:Hp)(E:XK):Cx:=
 (rY iH P w K mg base N q (fv st) f a A b s H E).uc
def makes_of(T:mV K mg x gx C st ps)(S:im N ps (fv st))(hl:∀ds d,R ds d->ds.length+1=ps.length)
  (h:∀f j A m s H E,cj k (XI P w K mg base N gx st f j A m s H E).A->∀ds d,R ds d->(∀d∈ds,bA d)->
   ∃gs,Ni (XI P w K mg base N gx st f j A m s H E) C (uw N ds) [] (gL st) gs/\∀G v,(ins C gs).r G v->d.r G v):Makes P w K mg base (k+1) x ps R:=by
 refine de T.ex λf fd hm hk F hb=>?_;refine⟨C,f,fd,spI R C,hm,hk,hb,F.ok S (λt H Q E h=>?_) λj A m s Hn t Q' E hr h'=>?_,λt H Q E h x a c y akG=>Vn x a t H Q U h c y akG U<|λH2 q=>⟨U,q⟩⟩
 .obtain⟨x,a,us,H,Q,rfl,⟨G,ds,d,_,_,r,I,_⟩,_⟩:=h;rw[c_,r.length];exact hl ds d I
 .obtain⟨x,a,us,H,Q,rfl,⟨G,ds,d,S',W,r,I,q⟩,c,y,akG,rfl,hq⟩:=h';refine aL (h f j A m s (upd (upd H a<|.own x) x<|.ins C a []) E hr ds d I r.pB) λgs hN hd=>?_;have sH:aX H (upd (upd H a<|.own x) x<|.ins C a []):=λb o e=>by rwa[aQ<|f9 e c,aQ<|f9 e y]
  have W':Wf (upd (upd H a<|.own x) x<|.ins C a []):=(W.new (p:=a) λxs e=>by cases e).new λxs e=>by cases e
  refine aY _ eP<|hN G H x a _ G _ _ ⟨aX.refl _,S'.trans sH,sH,λ_ _ h=>h⟩ ⟨aak r (S'.trans sH) W',?_,c,kc S' c,[],bQ,cg _,λf d l=>by cases l⟩ λakH G' H' e n=>?_
  .rfl
  .refine b7 n.h λakF h1 h2 h3=>?_;have sg:aX G' (upd G' x<|.ins C a akF):=gM n.g;refine hq H'<|q (.ref x) (upd G' x<|.ins C a akF) H' ⟨e.g.trans sg,λb o z=>?_,e.h,λb i hg=>?_⟩ n.st.wf<|hd _ _ ⟨x,a,akF,U,bQ,λf d l=>?_⟩
   .by_cases i:b=x
    .subst i;rw[bQ]at z;exact h1▸z
    .rw[aQ i]at z;exact e.s _ _ z
   .rw[aQ<|λz=>i<|by exact z▸c];exact e.f b i hg
   .refine aL (h3 f d l) λu u1 u2=>?_;exact aY u u1<|d.mono sg u2
def ia{p:α->Prop}(h:p a)(k:∀x∈l,p x):∀x∈a::l,p x:=xS.mpr ⟨h,k⟩
def wt{p:α->Prop}:∀x∈([]:O α),p x:=nofun
def sx(h:∀p∈b,gs.lookup p.1=p.2)(q:(ins C gs).r G v):(ins C b).r G v:=
 vF q λa c e g i j=>vG a c e g i<|λf d l=>j f d<|h _<|lookup_mem l
end
end _b
namespace _c
open PySem PySem.Spec _a _b
open PyProof.Rows hiding St
open _b.Rp
abbrev top(i:Nat):bY:=akp.main.body.getD i<|.Pass ⟨0,0,0,0⟩
open Vbpcaa (Pt turnOf inRange edges)
open Vbpcad (Keep)
open _d (Bx cr dS Ob)
open _h (bE Sd)
structure Ad where
 side:az
 bU:az
 sy:az
 ba:az
 dP:az
 dB:az
 fR:az
 ki:az
 gw:az
abbrev dh(p:Pt):Prop:=(-1000000000<=p.x/\p.x<=1000000000)/\(-1000000000<=p.y/\p.y<=1000000000)
structure CS(k:eF):Prop where
 kind:k.kind<=3
 lo:1<=k.lo
 hi:k.lo<=k.hi
 top:k.hi<=8
 r:k.shape.r<=1000000000
structure mW(b:bC):Prop where
 gK:b.stack.length<=15
 odd:b.stack.length%2=1
 ow:∀t∈b.stack,t<=10000000
 out:3<=b.outline.length
 cuts:b.cuts.length<=8
 cut:∀c∈b.cuts,3<=c.length
 keeps:b.keeps.length<=32
 lay:∀k∈b.keeps,k.hi<=b.layers
section
variable(K:aJ)(A:Ad)
abbrev pt(p:Pt):Rp:=wit (dh p)<|tup K [int p.x,int p.y]
abbrev ip(c:Int×Int):Rp:=tup K [int c.1,int c.2]
abbrev box(b:Bx):Rp:=tup K [int b.1,int b.2.1,int b.2.2.1,int b.2.2.2]
abbrev nums(l:O Int):Rp:=lst<|l.map int
abbrev pts(l:O Pt):Rp:=lst<|l.map<|pt K
abbrev side(e:Sd):Rp:=ins A.side [("begin",pt K e.1),("end",pt K e.2),("box",box K<|cr e.1 e.2)]
abbrev bU(l:O Pt):Rp:=wit (l≠[]/\l.length<=32)<|ins A.bU [("points",pts K l),("sides",lst<|(edges l).map<|side K A),("box",box K<|dS l)]
abbrev keep(k:eF):Rp:=wit (CS k)<|ins A.sy [("kind",int k.kind),("lo",int k.lo),("hi",int k.hi),("radius",int k.shape.r),("skeleton",bU K A k.shape.pts)]
abbrev ba(b:bC):Rp:=wit (mW b)<|ins A.ba [("thicknesses",nums<|b.stack.map .ofNat),("outline",bU K A b.outline),("cuts",lst<|b.cuts.map<|bU K A),("keeps",lst<|b.keeps.map<|keep K A)]
abbrev dP(o:Ob):Rp:=wit (o.r<=1000000000)<|ins A.dP [("reason",ip K (o.why.1,o.why.2)),("skeleton",bU K A o.pts),("radius",int o.r)]
structure Ra where
 x:Int
 y:Int
 pitch:Int
 cols:Nat
 rows:Nat
structure mX(g:Ra):Prop where
 p1:1<=g.pitch
 p2:g.pitch<=1000000000
 c1:1<=g.cols
 c2:g.cols<=24
 r1:1<=g.rows
 r2:g.rows<=24
 in1:dh ⟨g.x,g.y⟩
 NA:dh ⟨g.x+g.pitch*(g.cols-1),g.y+g.pitch*(g.rows-1)⟩
abbrev dB(g:Ra):Rp:=wit (mX g)<|ins A.dB [("left",int g.x),("low",int g.y),("pitch",int g.pitch),("columns",int g.cols),("rows",int g.rows)]
structure Gr where
 outline:List Pt
 os:List Ob
 gap:Int
structure NB(g:Gr):Prop where
 out:3<=g.outline.length
 g1:1<=g.gap
 g2:g.gap<=2000000000
abbrev fR(g:Gr):Rp:=wit (NB g)<|ins A.fR [("outline",bU K A g.outline),("obstacles",lst<|g.os.map<|dP K A),("gap",int g.gap)]
abbrev dC(o:aR Sd):Rp:=opt<|o.map<|side K A
abbrev jn(g:bE):Rp:=lst<|g.map λr=>lst<|r.map<|dC K A
abbrev ki(g:bE×bE):Rp:=ins A.ki [("rightward",jn K A g.1),("upward",jn K A g.2)]
end
structure Mc(K:aJ)(a:aq->Option aB)(A:Ad):Prop where
 len:a "len"=am
 any:a "any"=am
 all:a "all"=am
 sum:a "sum"=am
 min:a "min"=am
 max:a "max"=am
 str:a "str"=am
 ord:a "ord"=am
 list:a "list"=am
 zip:a "zip"=am
 range:a "range"=am
 enumerate:a "enumerate"=am
 reversed:a "reversed"=am
 ux:∃t,a "OUTSIDE"=Y (.int (0) t)
 CT:∃t,a "ON_SIDE"=Y (.int (1) t)
 GE:∃t,a "INSIDE"=Y (.int (2) t)
 NC:∃t,a "LAST_THING_KIND"=Y (.int (2) t)
 ND:∃t,a "ALL_KINDS"=Y (.int (3) t)
 aal:∃t,a "OFF_BOARD"=Y (.int (0) t)
 aam:∃t,a "ON_OUTLINE"=Y (.int (1) t)
 aan:∃t,a "ON_CUT"=Y (.int (2) t)
 aao:∃t,a "IN_CUT"=Y (.int (3) t)
 aap:∃t,a "ON_BOARD"=Y (.int (4) t)
 aaq:∃t,a "LINE_END"=Y (.int (10) t)
 NE:∃t,a "BLANK"=Y (.int (32) t)
 aar:∃t,a "LAST_SIGN"=Y (.int (126) t)
 aas:∃t,a "HASH"=Y (.int (35) t)
 NF:∃t,a "MINUS"=Y (.int (45) t)
 zi:∃t,a "ZERO"=Y (.int (48) t)
 NG:∃t,a "NINE"=Y (.int (57) t)
 aat:∃t,a "MOST_DIGITS"=Y (.int (10) t)
 NH:∃t,a "COORDINATE_LIMIT"=Y (.int (1000000000) t)
 aau:∃t,a "THICKNESS_LIMIT"=Y (.int (10000000) t)
 aav:∃t,a "RADIUS_LIMIT"=Y (.int (1000000000) t)
 GF:∃t,a "MARGIN_LIMIT"=Y (.int (1000000000) t)
 aaw:∃t,a "PITCH_LIMIT"=Y (.int (1000000000) t)
 aax:∃t,a "MOST_POINTS"=Y (.int (32) t)
 aay:∃t,a "MOST_COPPERS"=Y (.int (8) t)
 NI:∃t,a "MOST_CUTS"=Y (.int (8) t)
 NJ:∃t,a "MOST_KEEPS"=Y (.int (32) t)
 aaz:∃t,a "MOST_TEXT_BYTES"=Y (.int (40000) t)
 aaA:∃t,a "MOST_CELLS"=Y (.int (24) t)
 NL:∃t,a "POINT_OUTSIDE"=Y (.int (1) t)
 aaB:∃t,a "NEAR_OUTLINE"=Y (.int (2) t)
 aaC:∃t,a "NEAR_CUT"=Y (.int (3) t)
 aaD:∃t,a "NEAR_KEEP"=Y (.int (4) t)
 GG:∃t,a "BAD_PLACE"=Y (.int (-1) t)
 aaE:∃t,a "EMPTY_PLACE"=Y (.int (-2) t)
 NM:∃t,a "BAD_LAYERS"=Y (.int (-3) t)
 aaF:∃t,a "BAD_KIND"=Y (.int (-4) t)
 aaG:∃t,a "BAD_RADIUS"=Y (.int (-5) t)
 aaH:∃t,a "BAD_MARGIN"=Y (.int (-6) t)
 NN:∃t,a "BAD_COUNT"=Y (.int (-7) t)
 GI:∃t,a "OUT_OF_RANGE"=Y (.int (-8) t)
 NO:∃t,a "NO_SKELETON"=Y (.int (-9) t)
 aaI:∃t,a "NOT_THERE"=Y (.int (-10) t)
 NP:∃t,a "NO_MORE"=Y (.int (-11) t)
 aaJ:∃t,a "NO_FIT"=Y (.int (-12) t)
 aaK:∃t,a "LONG_TEXT"=Y (.int (-13) t)
 aaL:∃t,a "WRONG_TEXT"=Y (.int (-100) t)
 wu:iV K A.side
 NQ:dv K A.side "begin"
 NS:dv K A.side "end"
 NT:dv K A.side "box"
 wv:iV K A.bU
 NU:dv K A.bU "points"
 NV:dv K A.bU "sides"
 NW:dv K A.bU "box"
 pC:iV K A.sy
 NX:dv K A.sy "kind"
 NY:dv K A.sy "lo"
 NZ:dv K A.sy "hi"
 N0:dv K A.sy "radius"
 N1:dv K A.sy "skeleton"
 sA:iV K A.ba
 N2:dv K A.ba "thicknesses"
 N3:dv K A.ba "outline"
 N4:dv K A.ba "cuts"
 N5:dv K A.ba "keeps"
 ww:iV K A.dP
 N6:dv K A.dP "reason"
 N7:dv K A.dP "skeleton"
 N8:dv K A.dP "radius"
 pD:iV K A.dB
 N9:dv K A.dB "left"
 N_:dv K A.dB "low"
 N':dv K A.dB "pitch"
 Oa:dv K A.dB "columns"
 Oc:dv K A.dB "rows"
 wx:iV K A.fR
 Od:dv K A.fR "outline"
 Oe:dv K A.fR "obstacles"
 Of:dv K A.fR "gap"
 CU:iV K A.ki
 Og:dv K A.ki "rightward"
 Oh:dv K A.ki "upward"
 kj:iV K A.gw
 GJ:dv K A.gw "thicknesses"
 GK:dv K A.gw "outline"
 GL:dv K A.gw "cuts"
 GM:dv K A.gw "keeps"
 CV:dv K A.gw "wrong_line"
section
variable{X:Cx}{J:En}{o:aT}{ao:bn}{K:aJ}{mg:aq->aR aB}{A:Ad}
def bX{x:aq}{i:Int}(h:∃t,X.mg x=Y (.int i t))(a:Gn X x<|>ae):Ev X J (aK x ao) (int i):=by obtain⟨t,h⟩:=h;exact or (v:=.int i) h ⟨t,U⟩ (λ_=>U) a
def Ev.wit{e:aT}{d:Rp}{p:Prop}(h:Ev X J e (wit p d)):Ev X J e d:=h.as λ_ _ q=>q.2
def ge{a:aT}{p:Pt}{j:Nat}{q:bn}(h:Ev X J a (pt X.K p)):Ev X J (cR a (dX (.int 0) j q) ao) (int p.x):=gN (Ev.wit h) aG U U<|λ_ _=>U
def e9{a:aT}{p:Pt}{j:Nat}{q:bn}(h:Ev X J a (pt X.K p)):Ev X J (cR a (dX (.int 1) j q) ao) (int p.y):=gN (Ev.wit h) aG U U<|λ_ _=>U
section
variable(M:Mc X.K mg A)
include M
def gO{e:Sd}(h:Ev X J o (side X.K A e))(a:Ab X o "begin"<|>_r):Ev X J (cD o "begin" ao) (pt X.K e.1):=eV h M.wu M.NQ U a
def jo{e:Sd}(h:Ev X J o (side X.K A e))(a:Ab X o "end"<|>_r):Ev X J (cD o "end" ao) (pt X.K e.2):=eV h M.wu M.NS U a
def sB{e:Sd}(h:Ev X J o (side X.K A e))(a:Ab X o "box"<|>_r):Ev X J (cD o "box" ao) (box X.K<|cr e.1 e.2):=eV h M.wu M.NT U a
def iJ{l:O Pt}(h:Ev X J o (bU X.K A l))(a:Ab X o "points"<|>_r):Ev X J (cD o "points" ao) (pts X.K l):=eV (Ev.wit h) M.wv M.NU U a
def zj{l:O Pt}(h:Ev X J o (bU X.K A l))(a:Ab X o "sides"<|>_r):Ev X J (cD o "sides" ao) (lst<|(edges l).map<|side X.K A):=eV (Ev.wit h) M.wv M.NV U a
def zk{l:O Pt}(h:Ev X J o (bU X.K A l))(a:Ab X o "box"<|>_r):Ev X J (cD o "box" ao) (box X.K<|dS l):=eV (Ev.wit h) M.wv M.NW U a
def sC{k:eF}(h:Ev X J o (keep X.K A k))(a:Ab X o "kind"<|>_r):Ev X J (cD o "kind" ao) (int k.kind):=eV (Ev.wit h) M.pC M.NX U a
def uz{k:eF}(h:Ev X J o (keep X.K A k))(a:Ab X o "lo"<|>_r):Ev X J (cD o "lo" ao) (int k.lo):=eV (Ev.wit h) M.pC M.NY U a
def uA{k:eF}(h:Ev X J o (keep X.K A k))(a:Ab X o "hi"<|>_r):Ev X J (cD o "hi" ao) (int k.hi):=eV (Ev.wit h) M.pC M.NZ U a
def uB{k:eF}(h:Ev X J o (keep X.K A k))(a:Ab X o "radius"<|>_r):Ev X J (cD o "radius" ao) (int k.shape.r):=eV (Ev.wit h) M.pC M.N0 U a
def ox{k:eF}(h:Ev X J o (keep X.K A k))(a:Ab X o "skeleton"<|>_r):Ev X J (cD o "skeleton" ao) (bU X.K A k.shape.pts):=eV (Ev.wit h) M.pC M.N1 U a
def kQ{b:bC}(h:Ev X J o (ba X.K A b))(a:Ab X o "thicknesses"<|>_r):Ev X J (cD o "thicknesses" ao) (nums<|b.stack.map tK):=eV (Ev.wit h) M.sA M.N2 U a
def i4{b:bC}(h:Ev X J o (ba X.K A b))(a:Ab X o "outline"<|>_r):Ev X J (cD o "outline" ao) (bU X.K A b.outline):=eV (Ev.wit h) M.sA M.N3 U a
def ib{b:bC}(h:Ev X J o (ba X.K A b))(a:Ab X o "cuts"<|>_r):Ev X J (cD o "cuts" ao) (lst<|b.cuts.map<|bU X.K A):=eV (Ev.wit h) M.sA M.N4 U a
def i5{b:bC}(h:Ev X J o (ba X.K A b))(a:Ab X o "keeps"<|>_r):Ev X J (cD o "keeps" ao) (lst<|b.keeps.map<|keep X.K A):=eV (Ev.wit h) M.sA M.N5 U a
def Oi{a:Ob}(h:Ev X J o (dP X.K A a))(b:Ab X o "reason"<|>_r):Ev X J (cD o "reason" ao) (ip X.K ((a.why.1:Int),(a.why.2:Int))):=eV (Ev.wit h) M.ww M.N6 U b
def GN{a:Ob}(h:Ev X J o (dP X.K A a))(b:Ab X o "skeleton"<|>_r):Ev X J (cD o "skeleton" ao) (bU X.K A a.pts):=eV (Ev.wit h) M.ww M.N7 U b
def Oj{a:Ob}(h:Ev X J o (dP X.K A a))(b:Ab X o "radius"<|>_r):Ev X J (cD o "radius" ao) (int a.r):=eV (Ev.wit h) M.ww M.N8 U b
def Ol{g:Ra}(h:Ev X J o (dB A g))(a:Ab X o "left"<|>_r):Ev X J (cD o "left" ao) (int g.x):=eV (Ev.wit h) M.pD M.N9 U a
def Om{g:Ra}(h:Ev X J o (dB A g))(a:Ab X o "low"<|>_r):Ev X J (cD o "low" ao) (int g.y):=eV (Ev.wit h) M.pD M.N_ U a
def zl{g:Ra}(h:Ev X J o (dB A g))(a:Ab X o "pitch"<|>_r):Ev X J (cD o "pitch" ao) (int g.pitch):=eV (Ev.wit h) M.pD M.N' U a
def On{g:Ra}(h:Ev X J o (dB A g))(a:Ab X o "columns"<|>_r):Ev X J (cD o "columns" ao) (int g.cols):=eV (Ev.wit h) M.pD M.Oa U a
def CW{g:Ra}(h:Ev X J o (dB A g))(a:Ab X o "rows"<|>_r):Ev X J (cD o "rows" ao) (int g.rows):=eV (Ev.wit h) M.pD M.Oc U a
def aaM{g:Gr}(h:Ev X J o (fR X.K A g))(a:Ab X o "outline"<|>_r):Ev X J (cD o "outline" ao) (bU X.K A g.outline):=eV (Ev.wit h) M.wx M.Od U a
def aaN{g:Gr}(h:Ev X J o (fR X.K A g))(a:Ab X o "obstacles"<|>_r):Ev X J (cD o "obstacles" ao) (lst<|g.os.map<|dP X.K A):=eV (Ev.wit h) M.wx M.Oe U a
def aaO{g:Gr}(h:Ev X J o (fR X.K A g))(a:Ab X o "gap"<|>_r):Ev X J (cD o "gap" ao) (int g.gap):=eV (Ev.wit h) M.wx M.Of U a
def Oo{g:bE×bE}(h:Ev X J o (ki X.K A g))(a:Ab X o "rightward"<|>_r):Ev X J (cD o "rightward" ao) (jn X.K A g.1):=eV h M.CU M.Og U a
def Op{g:bE×bE}(h:Ev X J o (ki X.K A g))(a:Ab X o "upward"<|>_r):Ev X J (cD o "upward" ao) (jn X.K A g.2):=eV h M.CU M.Oh U a
end
end
@[reducible]def CY:bY:=top 232
@[reducible]def aaP:bY:=inClass (top 4) 0
@[reducible]def aaQ:bY:=inClass (top 5) 0
@[reducible]def aaR:bY:=inClass (top 39) 0
@[reducible]def aaS:bY:=inClass (top 40) 0
@[reducible]def aaT:bY:=inClass (top 77) 0
@[reducible]def aaU:bY:=inClass (top 78) 0
@[reducible]def aaV:bY:=inClass (top 79) 0
@[reducible]def aaW:bY:=inClass (top 123) 0
@[reducible]def Oq:bY:=inClass (top 208) 0
end _c
namespace _b
open PySem PySem.Spec _a
open PyProof.Rows hiding St
open Rp
abbrev Fg:bV->bV->Prop
 |[],[]=>True
 |a::l,b::m=>(b=a\/b=am)/\Fg l m
 |_,_=>False
def Fg.len:∀{C Δ:bV},Fg C Δ->C.length=Δ.length
 |[],[],_=>rfl
 |_::l,_::m,h=>by rw[c_,c_,Fg.len h.2]
 |[],_::_,h=>h.elim
 |_::_,[],h=>h.elim
def Fg.get:∀{C Δ:bV}{i:Nat}{s:Sl},Fg C Δ->Δ[i]?=Y (Y s)->C[i]?=Y (Y s)
 |[],[],_,_,_,h=>by omega|a::l,b::m,0,s,h,e=>by rcases h.1 with q|q<;>grind
 |_::l,_::m,i+1,s,h,e=>Fg.get (Δ:=m) (i:=i) h.2 e
 |[],_::_,_,_,h,_=>h.elim
 |_::_,[],_,_,h,_=>h.elim
def br.forget{I Δ:bV}(s:br H0 σ G H I)(f:Fg I Δ):br H0 σ G H Δ:=
 ⟨by rw[<-f.len];exact s.len,s.sub,s.wf,λi d h=>s.aC i d<|f.get h,λi C h=>s.own i C<|f.get h,λi j C es a h1 h2=>s.iZ i j C es a (f.get h1)<|f.get h2⟩
def fe{a Δ b:bV}(h:Sv X a c (.nx Δ))(f:Fg Δ b<|>alK):Sv X a c (.nx b):=λd g i G H D x s k=>h d g i G H D x s λj l m e n=>k j l m e<|n.forget f
def aaX{a Δ:bV}(f:Fg a Δ)(h:Sv X Δ b o):Sv X a b o:=λc d e G H D x s=>h c d e G H D x<|s.forget f
def aaY{α:Type}(q:α->Bool):∀l:O α,(∀x∈l,q x=aA)\/∃(n:Nat)(x:α),l[n]?=x/\q x=L/\∀i y,i<n->l[i]?=Y y->q y=aA:=by
 intro b
 induction b with
 |nil=>exact aP λx h=>by grind
 |cons a l c=>
  cases h:q a with
  |true=>exact aW ⟨0,a,U,h,λi y d=>ap⟩
  |false=>
   obtain k|⟨n,x,f,g,j⟩:=c
   .simp_all
   .refine aW ⟨n+1,x,f,g,λi y d e=>?_⟩;grind-order
def oy{α:Type}(q:α->Bool)(l:O α):∃n,n<=l.length/\(∀i x,i<n->l[i]?=Y x->q x=aA)/\(n=l.length\/∃x,l[n]?=Y x/\q x=L):=by
 obtain k|⟨n,x,a,b,c⟩:=aaY q l
 .exact fQ l.length (cg _) (λi x _ h=>k x<|eD h)<|aP U
 .exact fQ n (AE (dH.mp a).1) c<|aW ⟨x,a,b⟩
def Tv.eq(h:Tv X C c p)(e:p=q):Tv X C c q:=e▸h
def cH{α a:Type}{f:α->a}{l:O α}{i:Nat}{d:a}(h:(l.map f)[i]?=d):∃x,l[i]?=Y x/\d=f x:=by grind-order
def get_map{α a:Type}(f:α->a){l:O α}{i:Nat}{x:α}(h:l[i]?=x):(l.map f)[i]?=(f x):=bG
def jG(a:O α)(n:Nat):eX a (Y n) am=a.drop n:=by simp[eX,HT.ui,HT.yP,JI]
def wy(a:O α)(n:Nat):eX a am (Y n)=a.take n:=by simp[eX,HT.ui,HT.yP]
def Os{α:Type}(a:O α)(n m:Nat):eX a (n:Int) (m:Int)=(a.take m).drop n:=by grind[eX,HT.ui,aim,jR,List.drop_eq_nil_of_le]
def b8{n:Nat}{x:α}(e:i=(n:Int))(h:xs[n]?=Y x):iG xs i=x:=by grind[F6]
def aaZ{x:α}(h:xs[xs.length-1]?=Y x):iG xs (-1)=x:=by rw[iG,om,show(-1+(xs.length:Int)).toNat=xs.length-1 by grind];grind
section
variable{X:Cx}{J:En}{bP:dJ}{tg iter g7:aT}{ds es gs:O Rp}{ao:bn}{own:O (aq×Nat)}
def Iv.eq(h:Iv X J tg iter ds)(e:ds=es):Iv X J tg iter es:=e▸h
def d6{α:Type}{l:O α}{f g:α->Rp}(hi:Iv X J tg iter (l.map f))(ok:oo X.N X.env.scope bP own)(c:∀x∈l,∃Γ',Gc X bP (own.map (·.2)) J tg (f x) Γ'/\GD X bP Γ' g7 (g x))(e:gs=l.map g)
  (h:Fi X iter<|>ag):eA X J (kI g7 [⟨tg,iter,[],0⟩] bP ao) gs:=by
 subst e;refine evl hi ok au (λi d n j k=>?_) h;refine aL (cH j) λx a m=>?_;subst m;obtain⟨y,b,rfl⟩:=cH k;rw[a]at b;obtain rfl:=bL b;exact c x<|eD a
end
section
variable{X:Cx}{J Δ:bV}{c:aT}{bD a8:O bY}{o:Out}{ao:bn}
def aa0{α:Type}(S:α->bV)a0(p:α->Bool)(mY:α->α)(ok:α->Prop)(mu:α->Nat)(I:S a0=J)(N:ok a0)(Q:∀a,ok a->Tv X (rel<|S a) c (p a))(T:∀a,ok a->p a=L->Sv X (S a) bD (.nx<|S<|mY a))
  (hn:∀a,ok a->p a=L->ok (mY a)/\mu (mY a)<mu a)(hr:∀a,ok a->p a=aA->Sv X (S a) a8 o)
  (hp:p0 (bg X.prog X.w) X.A X.env X.xe<|>aj):Sv X J (.While c bD [] ao::a8) o:=λi b σ G H D x s f=>by
 refine wS.cons (FV hp pT eP) ⟨λm e j=>∃a,ok a/\m=mu a/\∃d,Ext i b d j/\br b e d j (S a),⟨_,a0,N,U,G,x,I▸s⟩,?_⟩;rintro m e j ⟨a,u,rfl,d,k,l⟩;refine Q a u e j j _ l.rel (aX.refl _) l.wf λn t w1=>?_;have z:Ext i b d n:=⟨k.g,k.s.trans t,k.h.trans t,k.f⟩
 have C:br b e d n (S a):=l.grow ⟨aX.refl _,l.sub.trans t,t,λ_ _ h=>h⟩ w1;cases q:p a with
 |true=>
  exact⟨λE v=>∃y,Ext i b y v/\br b E y v (S<|mY a),λE v z_=>aL z_ λy y1 y2=>(by grind-order),T a u q i b e d n _ z C λakF G3 H3 e3 s3=>aY G3 e3 s3⟩
 |false=>
  exact hr a u q i b e d n D z C f
end
set_option maxRecDepth 8000 in
def aa1 (l:az) (a:Array aB) (n:Nat) (b:az) (c:Array aB) (q:¬(!a.isEmpty&&ED (a.size+c.size))=L) (j:a.size<=bK) (k:a.size+c.size<=bK+1):
  Meets (Builtin.«list.extend» ⟨[.ref l,.ref b],[]⟩) (λ_ R s=>s.heap.get? l=Y {cls:=.type "list",dict:=am,data:=.seq a n,slots:=#[]}/\Ew s.heap b c/\R (.ok<|.ret Jq) {s with heap:=s.heap.update l<|oY λx=>x++c,toks:=s.toks}):=
 .of_wp λprog w A R s h=>by
  obtain⟨t,g,d,u,os⟩:=s;obtain⟨e,⟨o,m,f,v,i⟩,h⟩:=h;obtain⟨y,z,C,E⟩:=o;simp only at f i;subst f i;have G:=akq;have H:=ahL;have I:=akr;have N:=aks;have Q:=akt;have p:(a++c).size<=bK+1:=by rw[ain];exact k
  wp_walk using(oZ e U (hz:=j) (_hz':=p)),EJ e,EJ m;exact⟨_,U,h⟩
section
variable{X:Cx}
abbrev aa2(K:aJ):V->O V->Hp->VK->Prop:=λx vs H Q=>∃l b a c,x=.ref l/\vs=[.ref b]/\H l=Y (.lst a)/\cx K H b c/\a.length+c.length<=bK/\Q .bH (upd H l<|.lst<|a++c)
def aa3:Ct X "list.extend" (aa2 X.K):=by
 rintro aF s σ H x m v us Q I g h ⟨l,b,xs,zs,rfl,rfl,d,i,o,q⟩;subst g;obtain⟨u,rfl,rfl⟩:=h.one;obtain⟨z,a,n,r,p,e⟩:=I.pr d;refine b7 (I.tuple i) λc f j t=>?_;have w:=f.length;have y:a.toArray.size+c.toArray.size<=bK:=bG;have k:¬(!a.toArray.isEmpty&&ED (a.toArray.size+c.toArray.size))=L:=by simp_all[MA,Jm,gR]
 refine EE JF ⟨_,e,U⟩ ahV (ahW _ _)
  (aa1 l a.toArray n b c.toArray k ap ap) ⟨e,j,⟨.bH,_,I.rZ (its':=a++c) d e au (r.append f) ?_,U,q⟩⟩
 simp_all
end
section
variable{X:Cx}{J:bV}{e:aT}{ds es:O Rp}{a8:O bY}{o:Out}{ao p:bn}{x:aq}
def Ot j{c q:bn}(d:J[j]?=Y (Y<|.own ds))(E:Ev X (bj J) e (tup X.K es))(hz:ds.length+es.length<=bK)(hr:Sv X (J.set j<|Y<|.own<|ds++es) a8 o)(I:Nv X j x<|>aa)
  (N:Ab X (aK x p) "extend"<|>_r)
  (Q:Fe X q [e]<|>_r)
  (T:(c.endLine==q.line)=L<|>_r)(m:Se X e []<|>_r)(akF:Sw X (b0 (cD (aK x p) "extend" c) [e] [] q) am ao.line<|>_r):
  Sv X J (.Expr (b0 (cD (aK x p) "extend" c) [e] [] q) ao::a8) o:=λG0 H0 n G H D y s f=>by
 let⟨a,vs,i,q2,q3,q4,q5⟩:=s.own j ds d;apply wS.cons<|rW (yS AY JF aih aa3 (gu I) (eO pE hZ m) N Q T m U) akF;refine fQ (.ref a) i (aP ⟨U,vs,bR.of q4⟩)<|E n G H _ s.bj s.sub s.wf λv G' H' z w z_=>be z_ λb us e1 h1 r=>?_;have t:=s.grow z w;let⟨a',akG,u,w2,w3,w4,k⟩:=t.own j ds d;rw[i]at u;cases u;subst e1;refine Fa a b akG us U U w4 (z.s.tup h1) (by rwa[k.length,r.length]) ?_;have A:=t.write d i (k.append r) (by rwa[cC,k.length,r.length]);have l:=y.trans z;exact hr G0 H0 n G' _ D ⟨l.g,A.sub,λb o' C=>(aQ<|f9 C w2)▸l.h _ _ C,l.f⟩ A f
end
section
variable{X:Cx}{J:En}{a b c:aT}{ds:O Rp}{ao:bn}
def aa4(t:Tv X J c p)(u:p=L->bu X J a ds)(x:p=aA->bu X J b ds):bu X J (.IfExp c a b ao) ds:=λe G H Q E S W k=>
 wE.by (LF pT pE pE) λw=>t e G H _ E S W λq d s=>by
  cases p with
  |true=>exact u U e G q _ E (S.trans d) s λv f g h i j l m n o _=>k v f g h ((Ext.hp S d).trans i) j (d.free l) m n o
  |false=>exact x U e G q _ E (S.trans d) s λv f g h i j l m n o _=>k v f g h ((Ext.hp S d).trans i) j (d.free l) m n o
def bu.eq(h:bu X J a ds)(e:ds=es):bu X J a es:=e▸h
end
structure oz{α:Type}[DecidableEq α]K(f:α->Rp)(g:α->jv)n:Prop where
 dp:∀x G v,(f x).r G v->Dp K G v (g x)
 CZ:∀x,(g x).canLay0=L
 dep:∀x,(g x).depth<=n
 eqv:∀x y,vn (g x) (g y)=decide (x=y)
def oz.Ou{α:Type}[DecidableEq α]{K:aJ}{f:α->Rp}{g:α->jv}{n:Nat}(D:oz K f g n)(h:n<=64)x:wo K (f x) (g x):=⟨D.dp x,by rw[vm,D.CZ,dm<|cS (D.dep x) h];rfl⟩
def oz.all{α:Type}[DecidableEq α]{K:aJ}{f:α->Rp}{g:α->jv}{n:Nat}(D:oz K f g n){G:Hp}:∀(l:O α)vs,bv G vs (l.map f)->lV K G vs (l.map g)
 |[],[],_=>.nil
 |x::l,u::vs,r=>.cons (D.dp x _ _ r.1)<|D.all l vs r.2
 |[],_::_,r=>r.elim
 |_::_,[],r=>r.elim
def oz.list{α:Type}[DecidableEq α]{K:aJ}{f:α->Rp}{g:α->jv}{n:Nat}(D:oz K f g n):oz K (λl:O α=>lst<|l.map f) (λl=>.list<|l.map g) (n+1) where
 dp:=λl G v I=>be I λa vs e h r=>by subst e;exact .lst (bR.of h) (D.all l vs r)
 CZ:=λl=>by
  show PyData.canLayAll0 _=L
  induction l with
  |nil=>rfl
  |cons x l C=>show(_&&_)=L;rw[D.CZ,C];rfl
 dep:=λl=>by
  apply UI
  induction l with
  |nil=>exact dI _
  |cons x l C=>exact Nat.max_le.mpr ⟨D.dep x,C⟩
 eqv:=λl m=>by
  show aio _ _=_
  induction l generalizing m with
  |nil=>cases m<;>rfl
  |cons x l C=>cases m with
   |nil=>rfl
   |cons y m=>
    show(_&&_)=_;rw[D.eqv,C];simp
def sD{K:aJ}:oz K int .int 0:=⟨λx G v h=>by subst h;exact .int _,λ_=>U,λ_=>cg _,λx y=>by rfl⟩
section
variable{X:Cx}{J:En}{a b:aT}{α:Type}[DecidableEq α]{f:α->Rp}{g:α->jv}{n:Nat}{x y:α}
def oA(D:oz X.K f g n)(d:X.A.units+64<fP)(e:Ev X J a (f x))(h:Ev X J b (f y))(c:n<=64<|>af):Cv X J .Eq a b (decide<|x=y):=by have:=Nu d e h (D.Ou c x)<|D.Ou c y;rwa[D.eqv]at this
end
abbrev sgn(c:Nat):aq:=⟨#[c]⟩
section
variable{X:Cx}{J:En}{e e2 tg:aT}{ds:O Rp}{ao kx:bn}{da:Rp}
def aa5{x:aq}(h:Ev X J e (str x))(o:x.cps.toList.length<=bK):Iv X J tg e (x.cps.toList.map λc=>str<|sgn c):=λf G H R E S W k=>
 wI.by (ZF pE) λw=>h f G H _ E S W λv a g j l m=>aY x m (λp=>k _ a g j l (by rwa[aI])
  ⟨λi d H h s=>by
    have:=(dH.mp h).1
    rwa[aI,mF]at this,λi d H y t h s⟨q,c,b,n⟩=>by
   subst q;refine fQ a (.refl s) id ?_;rw[cT]at h;rw[<-aip]at b;rw[b]at h;obtain rfl:=bL h;exact n,λi H h s=>by rwa[aI,mF]at h⟩)
def aa6{q:Bool}(d:Ev X J e da)(f:Ev X J e2 (lst ds))(h:∀G x b,da.r G x->bv G b ds->lu x=L/\b.all lu=L/\ul x b=q):Cv X J .In e e2 q:=
 jF Mt d f λx y G H Q g i S k=>be i λa c j l m=>
  eR (h G x c g m) λn o p=>
  ⟨a,c,j,aP<|bR.of<|S _ _ l,n,o,by rwa[aD gR,p]⟩
def aa7{q:Bool}(d:Ev X J e da)(f:Ev X J e2 (tup X.K ds))(h:∀G x b,da.r G x->bv G b ds->lu x=L/\b.all lu=L/\ul x b=q):Cv X J .In e e2 q:=
 jF Mt d f λx y G H Q g i S k=>be i λa c j l m=>
  eR (h G x c g m) λn o p=>
  ⟨a,c,j,aW<|S.tup l,n,o,by rwa[aD gR,p]⟩
def Ov{a:aq}{ys:O aq}(f:Ev X J e (str a))(i:Ev X J e2 (lst<|ys.map str))(h:(ys.map (·.length)).sum+ys.length*a.length<=16777216)(j:d9 [e2] X.env=[(aA,eval e2 X.env)]<|>_r)(m:Ab X e "join"<|>_r)(n:(kx.endLine==ao.line)=L<|>_r):
  Ev X J (b0 (cD e "join" kx) [e2] [] ao) (str<|xQ a ys):=λc G H Q E S W k=>
 wE.by (ZO pE pE j m n) λw=>f c G H _ E S W λx o p b q d=>⟨⟨a,d⟩,i c o p _ (E.mono b.g) b.s q λy t u e2 v⟨l,I,z,A,C⟩=>
  ⟨a,l,ys,d,z▸U,aP (by rw[<-strs_of_all C];exact bR.of<|e2.s _ _ A),h,λN=>k _ t u (b.trans e2) v U⟩⟩
end
def aa8 a v:argsOk "max" ⟨[a],[(.ofString "default",v)]⟩:=cq
section
variable{prog:bO}{w:bN}{A:eJ}{R:AL->bp->Prop}{I:az}{fp wr:O az}{n:Nat}{P:Nat->aB->Prop}{St:Nat->bf->Prop}{kw:O (aq×aB)}
def aa9(W:Walks prog w A.in1 I fp wr n P St)(f:Nat->Nat->Bool)(akG:CmpOf prog w A.in1 .Gt P f)S(H:S∉fp):
  ∀k j s a c,n-(j+1)=k->j+1<=n->St (j+1) s.heap->P (xT f j) a->
  s.heap.get? S=Y {cls:=.type "list",dict:=am,data:=.seq #[a,a] c,slots:=#[]}->
  (∀v h' m,P (xT f<|n-1) v->(∀b o,b∉wr->b≠S->s.heap.get? b=Y o->h'.get? b=Y o)->R (.ok<|.ret v) {s with heap:=h',toks:=m})->
  oX (bg prog w) A (.builtin "max.loop" ⟨[.ref I,.none,.ref S],kw⟩) R s:=by
 have N:S∉wr:=λh=>H<|W.sub _ h;have Q:(toString "max"++toString ".loop")="max.loop":=cq;intro k
 induction k with
 |zero=>
  intro j s a c hk hj t p l q;have T:j+1=n:=aU;apply vv UK;rw[vw xU _];show aZ _ A.in1 (AZ (.ref S)>>=_) _ _ s;refine a9<|o_ l U ?_;show aZ _ A.in1 (tryCatch (nM<|.ref I) _>>=_) _ _ s;refine a9<|p_<|W.done s _ _ (T▸t) λh' m g=>?_;show aZ _ A.in1 (tL S (λ_=>#[])>>=_) _ _ _;apply a9;refine oZ (g S _ N l) U<|a9<|rA<|cF ?_;refine q a _ m (by rw[<-T];exact p) λb o d i e=>(kH _ _<|gk i).trans<|g b o d e
 |succ k ih=>
  intro j s a c hk hj t p l q;have u:j+1<n:=aU;apply vv UK;rw[vw xU _];show aZ _ A.in1 (AZ (.ref S)>>=_) _ _ s;refine a9<|o_ l U ?_;show aZ _ A.in1 (tryCatch (nM<|.ref I) _>>=_) _ _ s;refine a9<|p_<|W.item (j+1) s _ _ u t λv h' m hP akF g=>?_;have x:=g S _ N l;show aZ _ A.in1 (tryCatch (kG [v,v]<|Up .Gt v a>>=_) _>>=_) _ _ _;refine a9<|p_<|mD<|a9<|akG (j+1) (xT f j) v a _ _ _ hP p ?_;refine a9<|mD<|nL ?_;refine a9<|rA<|cF ?_;cases hb:f (j+1) (xT f j)with
  |true=>
   simp only[xw];apply a9;refine oZ x U<|a9<|rA ?_;rw[Q];refine cF ⟨qa xU _,ih (j+1) _ v _ aU u (W.frame _ _ _ akF λb akH o e=>?_) (by simp only[xT,hb,xw];exact hP) (xL _ x U)
    λy z C E G=>?_⟩
   .exact(kH _ _ (λh:S=b=>H<|by rw[h];exact akH)).trans e
   .exact q y z C E λb o d i e=>G b o d i<|(kH _ _<|gk i).trans<|g b o d e
  |false=>
   simp only[xO,tD];refine a9<|rA ?_;rw[Q];refine cF ⟨qa xU _,ih (j+1) _ a c aU u akF (by simp only[xT,hb,xO,tD];exact p) x λy z C E G=>?_⟩;exact q y z C E λb o d i e=>G b o d i<|g b o d e
def aa_(W:Walks prog w A.in1 I fp wr n P St)i(u:CmpOf prog w A.in1 .Gt P i)S(j:S∉fp){x:aq}{d:aB}{s:bp}{c:Nat}(l:St 0 s.heap)
  (m:s.heap.get? S=Y {cls:=.type "list",dict:=am,data:=.seq #[] c,slots:=#[]})
  (p:∀v h' a,((n=0/\v=d)\/(0<n/\P (xT i<|n-1) v))->(∀b o,b∉wr->b≠S->s.heap.get? b=Y o->h'.get? b=Y o)->R (.ok<|.ret v) {s with heap:=h',toks:=a}):
  oX (bg prog w) A (.builtin "max.loop" ⟨[.ref I,.none,.ref S],[(x,d)]⟩) R s:=by
 have y:S∉wr:=λh=>j<|W.sub _ h;have z:(toString "max"++toString ".loop")="max.loop":=cq;apply vv UK;rw[vw xU _];show aZ _ A.in1 (AZ (.ref S)>>=_) _ _ s;refine a9<|o_ m U ?_;show aZ _ A.in1 (tryCatch (nM<|.ref I) _>>=_) _ _ s;by_cases k:0<n
 .refine a9<|p_<|W.item 0 s _ _ k l λv h' a C E f=>?_;have q:=f S _ y m;show aZ _ A.in1 (tL S (λ_=>#[v,v])>>=_) _ _ _;apply a9;apply oZ q U;rw[z];refine cF ⟨qa xU _,aa9 W i u S j _ 0 _ v _ U k (W.frame _ _ _ E λb G o e=>?_) C (xL _ q U) λH N Q T akF=>?_⟩
  .exact(kH _ _ (λh:S=b=>j<|h▸G)).trans e
  .exact p H N Q (aW ⟨k,T⟩) λb o g t e=>akF b o g t<|(kH _ _<|gk t).trans<|f b o g e
 .have h0:n=0:=ap;subst h0;exact a9<|p_<|W.done s _ _ l λh' a f=>a9<|UL<|cF<|p d h' a (aP ⟨U,U⟩) λb o g _=>f b o g
end
section
variable{prog:bO}{w:bN}{A:eJ}{E:aB->bp->Prop}{s:bp}{l:az}{its:O aB}{ns:O Int}{Q:aB->bp->Prop}
def aa'{d:Int}{t:Tok}(q:A.handled=am)(i:s.heap.IsList l its.toArray)(hi:lM its ns)
  (h:∀h' f M t',(∀b o,s.heap.get? b=Y o->h'.get? b=Y o)->((ns=[]/\M=d)\/(M∈ns/\∀a,a∈ns->a<=M))->Q (.int M t') {s with heap:=h',toks:=f}):
  aZ (bg prog w) A (ju (.builtin "max") [.ref l] [(.ofString "default",.int d t)]) Q E s:=by
 obtain⟨c,e⟩:=hi.allInts.items;have k:JG (xN c).toList=ns:=by rw[<-e];exact hi.numsOf
 rw[JH]at k;subst k;rw[e]at i;have u:(toString "max"++toString ".loop")="max.loop":=cq;refine kmk_tree F.kind_max F.plain_max F.entry_max (aa8 _ _) ?_;show aZ _ A.in1 (JV "max" ["key","default"] 0 ⟨[],[(.ofString "default",.int d t)]⟩>>=_) _ _ s;refine a9 (UM (show JV "max" ["key","default"] 0 ⟨[],[(.ofString "default",.int d t)]⟩=pure [am,Y<|.int d t]from U)<|a9<|cF ?_);refine a9<|iter_intList i λakG e st x y=>?_;subst e;refine a9<|JP ?_;have W:=AV (prog:=prog) (w:=w) (A:=A.in1) q s⁻¹ l y<|xN c;have z:(s.heap.push {cls:=.type "list_iterator",data:=.fields #[.ref l,.int 0 0]}).objs.size∉[s⁻¹,l]:=λC=>kX _<|x _ C;rw[u];refine cF ⟨qa xU _,aa_ W _ (CmpOf.ints_gt (JL c)<|λ_ _=>JK) _ z (W.frame _ _ _ st λb _ o=>dO _) (fW _ U) λv h' f G H=>?_⟩;have m:∀b o,s.heap.get? b=Y o->h'.get? b=o:=old_kept λb o I e=>H b o I (fO<|cA e)<|dO _ e;have n:(xN c).size=c.size:=by simp[xN]
 obtain⟨g,rfl⟩|⟨g,p⟩:=G
 .refine h h' f d t m<|aP ⟨?_,U⟩;rw[n]at g;rw[Array.size_eq_zero_iff.mp g];rfl
 .rw[n]at g p;obtain⟨t',rfl⟩:=JK p;obtain⟨h1,N⟩:=argBest_gt (JL c)<|c.size-1;refine h h' f _ t' m<|aW ⟨?_,λa T=>?_⟩
  .rw[AT];exact Uv<|by rw[aI,mF];omega
  .refine aL (Uw T) λj hj akF=>?_;subst akF;rw[aI,mF]at hj;rw[<-AT];exact N j aU
end
section
variable{X:Cx}{J:En}{e:aT}{p ao kp cp:bn}{j:Nat}
def aba{ns:O Int}{d m:Int}(N:X.mg "max"=am)(T:Ev X J e (lst<|ns.map int))(h:∀M,((ns=[]/\M=d)\/(M∈ns/\∀a∈ns,a<=M))->M=m)(hc:X.calm=L<|>_r)(hg:Gl X "max"<|>_r)(i:Se X e []<|>_r):
  Ev X J (b0 (aK "max" p) [e] [⟨"default",dX (.int d) j cp,kp⟩] ao) (int m):=λl G H Q E S W k q s I=>by
 refine nN (lr I hg N (u:=.builtin "max") eN (aiq (bo ((eO pE hZ i) ao q s l H (λf b=>∃g,Ext G H g b/\Wf b/\bv g f [lst<|ns.map int]) I<|T l G H _ E S W λv g b x w r=>tU g x w r trivial) λus s1 c=>be c λf y I1 rv w_=>b7 w_ λG1 z w1 n=>bo ((L_ rT L9) ao q s1 l y (λf b=>b=y/\f=[.int d]) I1 ⟨U,U⟩) λks s2 c=>de c λzs A o rz e2 ez=>?_) (by rw[i];rfl) (i▸U) U U) bw cq);subst e2 ez;refine aL (all1 n) λv akF c=>?_;subst akF;obtain⟨a,akI,rfl,C,n⟩:=c;obtain⟨u,rfl,rfl⟩:=vals1 rv;obtain⟨uk,rfl,akG⟩:=vals1 rz;obtain⟨t,rfl⟩:=akG;rw[ints_of_all n]at C;refine b7 (o.list<|bR.of<|z.s _ _ C) λakJ akH hl _=>?_;exact aa' (o.ok.hd hc) hl.isList akH.ints λh' tk M t' hk hM=>cn (.int M) A (o.kept hk) ⟨_,U⟩<|k _ G1 A z w1<|(h M hM)▸U
end
def fb.to(f:fb X aF H b)(h:C b=am):fb X aF C b:=⟨h,f.2⟩
section
variable{X:Cx}{aF:O (az×b9)}{σ:St}{l q I S:az}{H0:Hp}{vs:O V}{kf:Nat->O Int}{R:AL->bp->Prop}
abbrev Ow(X:Cx)(σ:St)(q:az)(H0:Hp)(vs:O V)(kf:Nat->O Int):Prop:=
 ∀(aF:O (az×b9))s H i(v:V)u,Inv X aF σ H s->aX H0 H->vs[i]?=Y v->RelV v u->
  aZ (bg X.prog X.w) X.A.in1 (ju (.ref q) [u]) (λr s'=>∃b a,Inv X aF σ a s'/\aX H a/\r=.ref b/\cx X.K a b ((kf i).map .int)) (λ_ _=>False) s
def abb(hh:X.A.handled=am)(hu:X.A.in1.units<fP)(hl:H0 l=Y (.lst vs))(akN:l≠I)(akI:S≠I)(akZ:Ow X σ q H0 vs kf)
  (tr:∀i j k,HT.lexLt (kf i) (kf j)=L->HT.lexLt (kf j) (kf k)=L->HT.lexLt (kf i) (kf k)=L)(ir:∀i,HT.lexLt (kf i) (kf i)=aA)
  (hR:∀i v u s' H',vs[i]?=Y v->RelV v u->Inv X aF σ H' s'->aX H0 H'->(∀j,j<vs.length->HT.lexLt (kf j) (kf i)=aA)->R (.ok<|.ret u) s'):
  ∀(r j i:Nat)(s:bp)(H:Hp)(g:V)(h:aB)(m:az)(c:Nat),vs.length-(j+1)=r->j+1<=vs.length->Inv X aF σ H s->aX H0 H->fb X aF H I->fb X aF H S->
   s.heap.IsListIter I l (j+1)->s.heap.get? S=Y {cls:=.type "list",dict:=am,data:=.seq #[h,.ref m] c,slots:=#[]}->vs[i]?=Y g->RelV g h->cx X.K H m ((kf i).map V.int)->
   (∀d,d<=j->HT.lexLt (kf d) (kf i)=aA)->oX (bg X.prog X.w) X.A (.builtin "min.loop" ⟨[.ref I,.ref q,.ref S],[]⟩) R s:=by
 have akO:(toString "min"++toString ".loop":String)="min.loop":=cq;intro r
 induction r with
 |zero=>
  intro j i s H g h m c hr hj Iv f n p hit C akJ akK akP best;have ak0:j+1=vs.length:=ap;obtain⟨t,rv,pl,hz⟩:=Iv.list<|bR.of<|f _ _ hl;have W:=AV (prog:=X.prog) (w:=X.w) (A:=X.A.in1) hh I l akN t.toArray;have akL:t.toArray.size=vs.length:=by rw[g8,rv.length]
  refine vv UN ?_;rw[vw xV _];show aZ _ X.A.in1 (AZ (.ref S)>>=_) _ _ _;refine a9<|o_ C U ?_;show aZ _ X.A.in1 (tryCatch (nM<|.ref I) _>>=_) _ _ _;refine a9 (p_<|W.done _ _ _ ⟨by rw[akL,<-ak0];exact hit,pl.isList⟩ λE akF G=>?_);have I1:Inv X aF σ H {s with heap:=E,toks:=akF}:=Iv.r8 (ch:=[I]) G (λb a=>by rw[e_.mp a];exact n);have akG:=G S _ (by simpa using akI) C;show aZ _ X.A.in1 (tL S (λ_=>#[])>>=_) _ _ _;refine a9 ?_;refine oZ akG U<|a9<|rA<|cF ?_;refine hR i g h _ H akJ akK (I1.r8 (t':=akF) (ch:=[S]) (λb o a e=>(kH _ _<|λz=>a<|by simp[z]).trans e)<|λb a=>by rw[e_.mp a];exact p) f λd akQ=>best d ap
 |succ r ih=>
  intro j i s H g h m c hr hj Iv f n p hit C akJ akK akP best;have N:j+1<vs.length:=ap;obtain⟨t,rv,pl,hz⟩:=Iv.list<|bR.of<|f _ _ hl;have W:=AV (prog:=X.prog) (w:=X.w) (A:=X.A.in1) hh I l akN t.toArray;have akL:t.toArray.size=vs.length:=by rw[g8,rv.length]
  refine vv UN ?_;rw[vw xV _];show aZ _ X.A.in1 (AZ (.ref S)>>=_) _ _ _;refine a9<|o_ C U ?_;show aZ _ X.A.in1 (tryCatch (nM<|.ref I) _>>=_) _ _ _;refine a9 (p_<|W.item (j+1) _ _ _ (by rw[akL];exact N) ⟨hit,pl.isList⟩ λv E akF hP ak1 G=>?_);have I1:Inv X aF σ H {s with heap:=E,toks:=akF}:=Iv.r8 (ch:=[I]) G (λb a=>by rw[e_.mp a];exact n);have akG:=G S _ (by simpa using akI) C;have hv:t[j+1]?=Y v:=by simpa using hP
  obtain⟨Q,akR,akS⟩:∃Q,vs[j+1]?=Y Q/\RelV Q v:=by obtain⟨u,akT,ru⟩:=rv.get<|dq N;rw[hv]at akT;cases akT;exact⟨_,dq N,ru⟩
  obtain⟨akH,akU,akV,akM⟩:=id ak1.1
  have I2:=I1.pinned (fp:=[I,S]) (λb a=>by
   rcases cU.mp a with rfl|a
   .exact n
   .rw[e_.mp a];exact p) (λb a=>by
   rcases cU.mp a with rfl|a
   .exact⟨akH,akU,λv z=>by rw[akM]at z;cases z⟩
   .rw[e_.mp a];exact⟨_,akG,λv z=>by cases z⟩)
  have pI:(I,akH)∈qr [I,S] E:=ue au akU;have pS:(S,_)∈qr [I,S] E:=ue au akG;show aZ _ X.A.in1 (tryCatch (kG [v]<|ju (.ref q) [v]) _>>=_) _ _ _;refine a9<|p_<|mD<|kY (akZ _ _ H (j+1) Q v I2 f akR akS) (λx T he=>?_) λ_ _ hF=>hF.elim;obtain⟨kt,H2,I3,S2,rfl,akW⟩:=he;have qI:=I3.pin _<|jS _<|jS _ pI;have y:=I3.pin _<|jS _<|jS _ pS;have I4:=I3.v6;have akX:=S2.tup akP;obtain⟨ak4,rk,ak2,_⟩:=I4.tuple akW;obtain⟨ak5,rb,ak3,_⟩:=I4.tuple akX;show aZ _ X.A.in1 (tryCatch (kG [v,.ref kt]<|Up .Lt (.ref kt) (.ref m)>>=_) _>>=_) _ _ _;refine a9 (p_<|mD<|a9<|HT.Yz ak2 ak3 (by simpa using rk.ints) (by simpa using rb.ints) hu ?_);refine a9<|mD<|nL ?_;refine a9<|rA<|cF ?_;cases akY:HT.lexLt (kf<|j+1) (kf i)with
  |true=>
   simp only[xw];refine a9 ?_;refine oZ y.1 U<|a9<|rA ?_;rw[akO];have I5:Inv X aF σ H2 {T with heap:=T.heap.update S<|oY λ_=>#[v,.ref kt],toks:=T.toks}:=I4.r8 (t':=T.toks) (ch:=[S]) (λb o a e=>(kH _ _<|λz=>a<|by simp[z]).trans e) (λb a=>by rw[e_.mp a];exact fb.to p y.2.1);refine cF ⟨qa xV _,ih (j+1) (j+1) _ H2 Q v kt _ bh N I5 (f.trans S2) (fb.to n qI.2.1) (fb.to p y.2.1) ⟨akH,(kH _ _ akI).trans qI.1,akV,akM⟩ (xL _ y.1 U) akR akS akW λd akQ=>?_⟩;by_cases e:d=j+1
   .rw[e];exact ir _
   .cases z:HT.lexLt (kf d) (kf<|j+1)with
    |false=>rfl
    |true=>
     have:=tr _ _ _ z akY;rw[best d ap]at this;cases this
  |false=>
   simp only[xO,tD];refine a9<|rA ?_;rw[akO];refine cF ⟨qa xV _,ih (j+1) i T H2 g h m c ap N I4 (f.trans S2) (fb.to n qI.2.1) (fb.to p y.2.1) ⟨akH,qI.1,akV,akM⟩ y.1 akJ akK akX λd akQ=>?_⟩;by_cases e:d=j+1
   .rw[e];exact akY
   .exact best d ap
def abc(hh:X.A.handled=am)(hu:X.A.in1.units<fP)(hl:H l=Y (.lst vs))(f:0<vs.length)(Iv:Inv X aF σ H s)(akF:Ow X σ q H vs kf)
  (tr:∀i j k,HT.lexLt (kf i) (kf j)=L->HT.lexLt (kf j) (kf k)=L->HT.lexLt (kf i) (kf k)=L)(ir:∀i,HT.lexLt (kf i) (kf i)=aA)
  (hQ:∀i v u s' H',vs[i]?=Y v->RelV v u->Inv X aF σ H' s'->aX H H'->(∀j,j<vs.length->HT.lexLt (kf j) (kf i)=aA)->Q u s'):
  aZ (bg X.prog X.w) X.A (ju (.builtin "min") [.ref l] [(.ofString "key",.ref q)]) Q E s:=by
 have akG:(toString "min"++toString ".loop":String)="min.loop":=cq;refine b7 (Iv.list<|bR.of hl) λm rv n hz=>?_;refine aL (id n.isList) λol akP _=>?_;have akQ:l<s⁻¹:=cA akP;apply kmk_tree PySem.F.kind_min PySem.F.plain_min PySem.F.entry_min<|kmk_min_key _ _;show aZ _ X.A.in1 (JV "min" ["key","default"] 0 ⟨[],[(.ofString "key",.ref q)]⟩>>=_) _ _ s;refine a9 (UM (show JV "min" ["key","default"] 0 ⟨[],[(.ofString "key",.ref q)]⟩=pure [Y<|.ref q,am]from U)<|a9<|cF<|a9<|T8 n.isList<|a9<|wpAny_newList ?_<|dI _);rw[akG];generalize p:s.heap.push {cls:=.type "list_iterator",data:=.fields #[.ref l,.int 0 0]}=a;have akX:a.objs.size=s⁻¹+1:=by rw[<-p];exact size_push' ..
 have k1:∀b o,s.heap.get? b=Y o->a.get? b=Y o:=λb o e=>by rw[<-p];exact dO _ e
 have t:∀b o,a.get? b=Y o->(a.push<|EK "list" #[] 0).get? b=Y o:=λb o=>dO _;have gI:(a.push<|EK "list" #[] 0).get? s⁻¹=Y {cls:=.type "list_iterator",data:=.fields #[.ref l,.int 0 0]}:=t _ _ (by rw[<-p];exact fW _ U);have gS:(a.push<|EK "list" #[] 0).get? a.objs.size=Y {cls:=.type "list",dict:=am,data:=.seq #[] 0,slots:=#[]}:=fW _ U;have akH:l≠s⁻¹:=fO akQ;have y:a.objs.size≠s⁻¹:=ap;have I1:Inv X aF σ H {s with heap:=a.push<|EK "list" #[] 0,toks:=s.toks}:=Iv.kept λb o e=>t _ _<|k1 _ _ e;have C:fb X aF H s⁻¹:=Iv.og (cg _) Iv.fresh;have G:fb X aF H a.objs.size:=Iv.og ap<|Iv.bS.fresh ap;have akR:m.toArray.size=vs.length:=by rw[g8,rv.length]
 refine cF ⟨qa xV _,(vv UN ?_)⟩;rw[vw xV _];show aZ _ X.A.in1 (AZ (.ref _)>>=_) _ _ _;refine a9<|o_ gS U ?_;show aZ _ X.A.in1 (tryCatch (nM<|.ref s⁻¹) _>>=_) _ _ _;refine a9<|p_<|(AV (prog:=X.prog) (w:=X.w) (A:=X.A.in1) hh s⁻¹ l akH m.toArray).item 0 _ _ _ (akR▸f) ⟨⟨_,gI,U,U⟩,n.isList.at λo e=>t _ _<|k1 _ _ e⟩ λv N akS hP akT akI=>?_;have hv:m[0]?=Y v:=by simpa using hP
 obtain⟨d,akJ,akK⟩:∃d,vs[0]?=Y d/\RelV d v:=by refine aL (rv.get<|dq f) λu akL ru=>?_;rw[hv]at akL;obtain rfl:=bL akL;exact aY _ (dq f) ru
 have I2:Inv X aF σ H {s with heap:=N,toks:=akS}:=Inv.r8 (s:={s with heap:=a.push<|EK "list" #[] 0,toks:=s.toks}) I1 (ch:=[s⁻¹]) akI (λb c=>(e_.mp c)▸C);have akM:=akI _ _ (by simpa using y) gS;let⟨T,akN,akU,akO⟩:=id akT.1;have I3:=I2.pinned (fp:=[s⁻¹,a.objs.size]) (λb c=>by
  obtain rfl|c:=cU.mp c
  .exact C
  .exact(e_.mp c)▸G) (λb c=>by
  obtain rfl|c:=cU.mp c
  .exact⟨T,akN,λv z=>by rw[akO]at z;cases z⟩
  .rw[e_.mp c];exact⟨_,akM,λv z=>by cases z⟩)
 have pI:(s⁻¹,T)∈qr [s⁻¹,a.objs.size] N:=ue au akN;have pS:(a.objs.size,_)∈qr [s⁻¹,a.objs.size] N:=ue au akM;show aZ _ X.A.in1 (tryCatch (kG [v]<|ju (.ref q) [v]) _>>=_) _ _ _;refine a9<|p_<|mD<|kY (akF _ _ H 0 d v I3 (aX.refl _) akJ akK) (λx g he=>?_) λ_ _ hF=>hF.elim;refine de he λkt H2 I4 S2 akV akW=>?_;subst akV;have qI:=I4.pin _<|jS _<|jS _ pI;have h:=I4.pin _<|jS _<|jS _ pS;show aZ _ X.A.in1 (tL a.objs.size (λ_=>#[v,.ref kt])>>=_) _ _ _;refine a9<|oZ h.1 U ?_;rw[akG];have I6:Inv X aF σ H2 {g with heap:=g.heap.update a.objs.size<|.mapSeq λ_=>#[v,.ref kt],toks:=g.toks}:=I4.v6.r8 (t':=g.toks) (ch:=[a.objs.size]) (λb o c e=>(kH _ _<|λz=>c<|by simp[z]).trans e)<|λb c=>(e_.mp c)▸fb.to G h.2.1;refine cF ⟨qa xV _,abb hh hu hl akH y akF tr ir hQ _ 0 0 _ H2 d v kt _ U f I6 S2 (fb.to C qI.2.1) (fb.to G h.2.1) ⟨T,(kH _ _ y).trans qI.1,akU,akO⟩ (xL _ h.1 U) akJ akK akW λj' akY=>?_⟩;have e:j'=0:=ap;exact e▸ir _
end
section
variable{X:Cx}{J:En}{e:aT}{p ao kp fp:bn}{α:Type}
def Ox{l:O α}(r:bv G vs (l.map f)){i:Nat}(h:vs[i]?=Y v):∃x,l[i]?=Y x/\(f x).r G v:=by obtain _:=r.get' h;grind-order
def abd{l:O α}{f:α->Rp}{kf:α->O Int}{k:Nat}{x:aq}{ps:O aq}{R:O Rp->Rp->Prop}{d:Rp}[Inhabited α](hm:X.mg "min"=am)(gd:Good X.prog X.w X.K X.mg X.base k x ps R)(hr:cj (k+1) X.A)(ha:Ev X J e (lst<|l.map f))
  (hR:∀x∈l,R [f x]<|tup X.K<|(kf x).map int)(akM:l≠[])(tr:∀a b c,HT.lexLt (kf a) (kf b)=L->HT.lexLt (kf b) (kf c)=L->HT.lexLt (kf a) (kf c)=L)(ir:∀a,HT.lexLt (kf a) (kf a)=aA)
  (h:∀x∈l,(∀y∈l,HT.lexLt (kf y) (kf x)=aA)->∀G v,(f x).r G v->d.r G v)(hc:X.calm=L<|>_r)(hg:Gl X "min"<|>_r)(akJ:Gn X x<|>ae)
  (he:Se X e []<|>_r):
  Ev X J (b0 (aK "min" p) [e] [⟨Y "key",aK x fp,kp⟩] ao) d:=λσ G H Q E S W kq akK s I=>by
 refine de gd.ex λfa fd akN hk hb F=>?_;refine nN<|lr I hg hm (u:=.builtin "min") eN ?_ bw cq;refine aiq ?_ (by rw[he];rfl) (he▸U) U U;refine bo ((eO pE hZ he:PA X [e] _) ao akK s σ H (λN j=>∃o,Ext G H o j/\Wf j/\bv o N [lst<|l.map f]) I<|ha σ G H _ E S W λv o j x w r=>⟨o,x,w,r,trivial⟩) λus s1 akF=>?_;refine be akF λN H1 I1 rv z_=>?_;refine b7 z_ λG1 T w1 q=>?_;refine bo ((L_ (Lz (v:=.ref fa) akJ.g akN U akJ.d) L9:PK X [⟨Y "key",aK x fp,kp⟩] _) ao akK s1 σ H1 (λN j=>j=H1/\N=[.ref fa]) I1 ⟨U,U⟩) λks s2 akF=>?_;refine de akF λzs H2 I2 rz e2 ez=>?_;subst e2 ez;obtain⟨v,rfl,a,akO,rfl,h1,q⟩:=all1 q;obtain⟨u,rfl,rfl⟩:=vals1 rv;obtain⟨uk,rfl,rfl⟩:=vals1 rz;have akG:=q.length;rw[aI]at akG;have akR:∀(A:eJ),A.units+64<fP->A.units<fP:=λA z=>ap;refine abc (kf:=λi=>kf<|l.getD i default) (H:=H2) (vs:=akO) (I2.ok.hd hc) (by have:=hr.in1.un;lia) (T.s _ _ h1) (by rw[akG];exact El.mpr akM) I2 ?_ (λ_ _ _=>tr _ _ _) (λ_=>ir _) λi v u s' j hi akH I' S' akP=>?_
 .intro akS s3 H3 i v u I3 S3 hi akH;obtain⟨y,t,ry⟩:=Ox q hi;have akI:l.getD i default=y:=jt▸t▸U;have akL:sj R [v] H3 (λv' j=>aX H3 j/\∃m,v'=.ref m/\cx X.K j m ((kf y).map V.int)) E0:=
   ⟨G1,[f y],_,T.s.trans S3,ji I3,⟨ry,trivial⟩,hR y<|eD t,λv' o j e' w' z_=>be z_ λm ks q1 q2 q3=>⟨e'.h,m,q1,by rw[<-ints_of_all q3];exact e'.s.tup q2⟩⟩
  refine JB (AM (F.run X.A.in1 X.stack s3 H3 ⟨[u],[]⟩ [u] [v] _ E0 hr.in1 I3.F4.in1 (by have:=hb s3 [u] I3.hW<|F.len _ _ _ _ akL;rwa[eG]at this) (.cons akH .nil) akL) λr s' C=>?_);cases r with
  |error e=>exact C.elim
  |ok fl=>
   cases fl with
   |ret u'=>
    obtain⟨v',j,I',r',S',m,rfl,akQ⟩:=I3.after C;subst r';exact⟨m,j,I',S',U,by show cx X.K j m<|(kf<|l.getD i default).map V.int;rw[akI];exact akQ⟩
   |next=>exact kZ C
   |brk=>exact kZ C
   |cont=>exact kZ C
 .obtain⟨y,t,ry⟩:=Ox q hi;have akI:l.getD i default=y:=by rw[jt,t];rfl
  refine⟨v,j,I',akH,kq v G1 j (T.trans<|Ext.hp T.s S') (ji I')<|h y (eD t) (λz hz=>?_) _ _ ry⟩;obtain⟨n,hn,rfl⟩:=A0 hz;have:HT.lexLt (kf<|l.getD n default) (kf<|l.getD i default)=aA:=akP n (by rw[akG];exact hn);rw[akI]at this;rwa[show l.getD n default=l[n] by rw[jt,dq hn];rfl]at this
end
section
variable{X:Cx}
structure abe K H(ys:List V)(ns:List (List Int)):Prop where
 len:ys.length=ns.length
 at_:∀(m:Nat)(n:List Int),ns[m]?=n->∃t,ys[m]?=Y (.ref t)/\cx K H t (n.map .int)
def Oy{m n:O Int}(h:m.map V.int=n.map .int):m=n:=by
 induction m generalizing n with
 |nil=>cases n with
  |nil=>rfl
  |cons a n=>grind
 |cons a m c=>cases n with
  |nil=>grind
  |cons b n=>
   grind
abbrev wz(n:O Int):jv:=.tuple<|n.map .int
def Oz{K:aJ}(h:cx K H t (n.map .int)):Dp K H (.ref t) (wz n):=by
 refine .tup h ?_;clear h
 induction n with
 |nil=>exact .nil
 |cons a n b=>exact .cons (.int a) b
def abf n:(wz n).canLay0=L:=by
 induction n with
 |nil=>rfl
 |cons x l a=>assumption
def abg n:(wz n).depth<=1:=by
 induction n with
 |nil=>decide
 |cons x l a=>assumption
def abh m n:vn (wz m) (wz n)=decide (m=n):=by
 show aio _ _=_
 induction m generalizing n with
 |nil=>cases n<;>rfl
 |cons x l a=>cases n with
  |nil=>rfl
  |cons y m=>
   show((x==y)&&_)=_
   (simp_all;lia)
def OA n:vm (wz n)=L:=by grind[vm,abf,abg]
abbrev abi(K:aJ):V->O V->Hp->VK->Prop:=λx b H Q=>∃(a t:az)(ys:O V)(ns:O (O Int))(n:O Int)(j:Nat),x=.ref a/\b=[.ref t]/\bR K H a ys/\abe K H ys ns/\cx K H t (n.map .int)/\ns[j]?=n/\
 (∀m,m<j->ns[m]?≠n)/\Q (.int j) H
open Classical in
def abj (hu:X.A.in1.units+64<fP):yR X "list.index" (abi X.K):=by
 intro pins s σ H x xs v us Q I rx akH h;obtain⟨a,t,ys,ns,n,j,rfl,rfl,hs,T,N,l,akI,q⟩:=h;cases rx;obtain⟨uy,rfl,ry⟩:=vals1 akH;cases ry;obtain⟨its,rv,⟨⟨akM,dd,akN,sl⟩,c,ho,hc,akO,hd⟩,akP⟩:=I.list hs;simp only at hc hd;subst hc hd;have o:=rv.length;have i:∀(m:Nat)(k:List Int),ns[m]?=Y k->∃t',its[m]?=Y (.ref t')/\cx X.K H t' (k.map V.int):=λm k f=>by obtain⟨t',b,d⟩:=T.at_ m k f;obtain⟨u,akJ,ru⟩:=rv.get b;cases ru;exact⟨t',akJ,d⟩
 let e:aB->Bool:=λy=>decide (∃m:Nat,its[m]?=Y y/\ns[m]?=Y n);have p:∀(m:Nat)(k:List Int)(t':az),its[m]?=Y (.ref t')->ns[m]?=Y k->cx X.K H t' (k.map V.int)->e (.ref t')=decide (k=n):=λm k t' b d h3=>by
  show decide _=_;rw[jO];constructor
  .rintro⟨m',g1,g2⟩;obtain⟨akQ,g3,g4⟩:=i m' n g2;rw[g1]at g3;cases g3;exact Oy (I.Cc h3 g4)
  .rintro rfl;exact⟨m,b,d⟩
 have akF:j<its.toArray.size:=by have:=(dH.mp l).1;rw[g8,<-o,T.len];exact this
 have akR:=Uh;refine EE air ⟨_,ho,rfl⟩ PySem.F.entry_list_index (PySem.F.args_list_index_2 _ _)
  (SeqAt.list_indexAt a its.toArray c dd sl (.ref t) e j akF (by rw[g8]at akF;omega) ?_ ?_) ⟨ho,λy hy=>?_,?_⟩
 .obtain⟨t',b,d⟩:=i j n l;have C:its.toArray[j]=.ref t':=by
   obtain⟨_,z⟩:=dH.mp b;simpa using z
  rw[C,p j n t' b l d];simp
 .intro m g akK;have G:m<ns.length:=by rw[g8,<-o,T.len]at g;exact g
  have f:=dq G;obtain⟨t',b,d⟩:=i m _ f;have C:its.toArray[m]=.ref t':=by obtain⟨_,z⟩:=dH.mp b;simpa using z
  rw[C,p m _ t' b f d,kF];intro z;rw[z]at f;exact akI m akK f
 .obtain⟨m,g,rfl⟩:=A0 (show y∈its by simpa using hy);have G:m<ns.length:=by rw[<-o,T.len]at g;exact g
  have f:=dq G;obtain⟨t',b,d⟩:=i m _ f;have akL:its[m]=.ref t':=by obtain⟨_,z⟩:=dH.mp b;exact z
  rw[akL,p m _ t' b f d];by_cases akG:t'=t
  .subst akG;rw[dm (Oy (I.Cc d N))];exact ahS _
  .refine aku akG λprog w E Q hq=>?_;obtain⟨as,r1⟩:=Dp.reads I _ _ _ (Oz d) rfl;obtain⟨bs,r2⟩:=Dp.reads I _ _ _ (Oz N) rfl;refine ahY r1 r2 (OA _) (OA _) ?_ (by rw[abh];exact hq);exact hu
 .exact⟨.int (j:Nat),H,I.tok _,⟨_,rfl⟩,q⟩
end
@[reducible]def oB(h:bf)(z TI TO:az)(a b:aB):Prop:=
 h.get? z=Y {cls:=.type "zip",dict:=am,data:=.fields #[a,b,.bool aA,.ref TI,.ref TO],slots:=#[]}
section
variable{prog:bO}{w:bN}{A:eJ}{E:aB->bp->Prop}{s:bp}
def abk(c:s.heap.get? a=Y o)(h:Q o s):aZ (bg prog w) A (loadIfAlive a) Q E s:=by intro b p d;show Sem.wp _ b (.loadIfAlive a .pure) _ _ p s;simp_all
def OB{z TI TO T:az}{a:aB}{c:b9}{Q:Bool->bp->Prop}(hz:oB s.heap z TI TO (jc T) a)(d:a=.bool L\/a=.bool aA)(e:s.heap.get? T=c)
  (b:∀h',oB h' z TI TO (jc T) (.bool L)->AF z s.heap h'->Q aA {s with heap:=h'}):aZ (bg prog w) A (UO<|.ref z) Q E s:=by
 refine a9<|rB hz U (x:=jc T) U<|a9<|abk e<|a9<|rB hz U (x:=a) U ?_;obtain rfl|rfl:=d
 .exact cF<|b s.heap hz ⟨U,λ_ _=>U⟩
 .exact a9<|wpAny_setField_rec hz au λf g h=>cF<|b f g h
def abl{z TI TO T b d h i:az}{l:aB}{t:b9}{m k2:Nat}{n ys:Array aB}{x y:aB}{Q:aB->bp->Prop}(D:xP z TI TO b d h i)
  (hz:oB s.heap z TI TO (jc T) l)(u:l=.bool L\/l=.bool aA)(C:s.heap.get? T=t)(G:k9 s.heap TI (.ref b) (.ref d))
  (H:s.heap.IsListIter b h m)(I:s.heap.IsListIter d i k2)(N:s.heap.IsList h n)(akF:s.heap.IsList i ys)(hx:n[m]?=x)(hy:ys[k2]?=y)
  (hQ:∀h',oB h' z TI TO (jc T) (.bool L)->h'.IsListIter b h (m+1)->h'.IsListIter d i (k2+1)->k9 h' s⁻¹ x y->h'.objs.size=s⁻¹+1->
   (∀c o,c≠z->c≠b->c≠d->s.heap.get? c=Y o->h'.get? c=o)->Q (.ref s⁻¹) {s with heap:=h'}):
  aZ (bg prog w) A (Builtin.«zip.__next__» ⟨[.ref z],[]⟩) (λfin s'=>∃v,fin=.done (.ret v)/\Q v s') E s:=by
 show aZ _ _ (A3 (.ref z) 2>>=_) _ _ _;refine a9<|rB hz U (x:=.bool aA) U ?_;show aZ _ _ (A3 (.ref z) 3>>=_) _ _ _;refine a9<|rB hz U (x:=.ref TI) U<|a9<|o_ G U ?_;show aZ _ _ (UO (.ref z)>>=_) _ _ _;refine a9<|OB hz u C λakL akG f=>?_;simp only[xO,tD];refine a9 ?_;rw[<-ais];simp only[Uy,ait];refine a9<|a9<|mD ?_;show aZ _ _ (EL (.ref b)>>=_) _ _ _;refine a9<|aiu (H.extBut f.extBut D.i1z) (N.extBut f.extBut D.l1z) hx λakM akH g=>cF<|cF<|a9<|a9<|mD ?_;show aZ _ _ (EL (.ref d)>>=_) _ _ _;refine a9 (aiu ((I.extBut f.extBut D.i2z).extBut g.extBut D.i12.symm) ((akF.extBut f.extBut D.l2z).extBut g.extBut D.l2i1) hy λa akI j=>cF<|cF<|cF<|a9<|wpAny_newTuple ?_<|by show 2<=bK;decide);have akJ:a.objs.size=s⁻¹:=by rw[j.1,g.1,f.1]
 have akK:oB a z TI TO (jc T) (.bool L):=j.extBut _ _ D.i2z.symm<|g.extBut _ _ D.i1z.symm akG;have k:∀c o,a.get? c=Y o->(a.push {cls:=.type "tuple",data:=.seq #[x,y]}).get? c=o:=λc o=>dO _;refine cF ⟨_,U,?_⟩;show Q (.ref a.objs.size) _;have p:k9 (a.push {cls:=.type "tuple",data:=.seq #[x,y]}) a.objs.size x y:=fW _ U;have q:(a.push {cls:=.type "tuple",data:=.seq #[x,y]}).objs.size=a.objs.size+1:=mE ..;rw[akJ]at p q⊢;exact hQ _ (k _ _ akK) ((akH.extBut j.extBut D.i12).at λo=>k _ o) (akI.at λo=>k _ o) p q λc o c1 c2 c3 e=>k _ _<|j.extBut _ _ c3<|g.extBut _ _ c2<|f.extBut _ _ c1 e
def abm{z TI TO T a g b j:az}{d:aB}{k:b9}{h k2:Nat}{i ys:Array aB}{Q:Fin->bp->Prop}(l:A.handled=am)(D:xP z TI TO a g b j)
  (hz:oB s.heap z TI TO (jc T) d)(m:d=.bool L\/d=.bool aA)(n:s.heap.get? T=k)(p:k9 s.heap TI (.ref a) (.ref g))
  (q:s.heap.IsListIter a b h)(t:s.heap.IsList b i)(u:i[h]?=am)
  (v:∀h' e,(∀c o,c≠z->c≠a->s.heap.get? c=Y o->h'.get? c=Y o)->(∃o,h'.get? e=Y o/\o.cls=.type "StopIteration")->E (.ref e) {s with heap:=h'}):
  aZ (bg prog w) A (Builtin.«zip.__next__» ⟨[.ref z],[]⟩) Q E s:=by
 show aZ _ _ (A3 (.ref z) 2>>=_) _ _ _;refine a9<|rB hz U (x:=.bool aA) U ?_;show aZ _ _ (A3 (.ref z) 3>>=_) _ _ _;refine a9<|rB hz U (x:=.ref TI) U ?_;refine a9<|o_ p U ?_;show aZ _ _ (UO (.ref z)>>=_) _ _ _;refine a9<|OB hz m n λN akF f=>?_;simp only[xO,tD];refine a9 ?_;rw[<-ais];simp only[Uy,ait];refine a9<|a9<|mD ?_;show aZ _ _ (EL (.ref a)>>=_) _ _ _;refine a9<|wpAny_nextOf_list_end l (q.extBut f.extBut D.i1z) (t.extBut f.extBut D.l1z) u λy e C G=>v y e (λc o H I x=>C _ _ I<|f.extBut _ _ H x) G
def abn{z TI TO T a b d e:az}(D:xP z TI TO a b d e)
  (hz:oB s.heap z TI TO (jc T) f1)(h:f1=.bool L\/f1=.bool aA)(i:s.heap.get? T=Y N)(j:k9 s.heap TI (.ref a) (.ref b))
  (k:s.heap.IsListIter a d f)(l:s.heap.IsListIter b e k2)(m:s.heap.IsList d xs)(n:s.heap.IsList e ys)(p:xs[f]?=Y x)(q:ys[k2]?=Y y)
  (t:∀h',oB h' z TI TO (jc T) (.bool L)->h'.IsListIter a d (f+1)->h'.IsListIter b e (k2+1)->k9 h' s⁻¹ x y->h'.objs.size=s⁻¹+1->
   (∀c o,c≠z->c≠a->c≠b->s.heap.get? c=Y o->h'.get? c=o)->Q (Y<|.ref s⁻¹) {s with heap:=h'}):
  aZ (bg prog w) A (nM<|.ref z) Q E s:=
 have g:s.TypeIs (.ref z) "zip":=aY _ hz U
 a9 (aiv (JW g JX
  (JY JX g aiw
   (abl D hz h i j k l m n p q λh' u v C G H I=>cF<|t h' u v C G H I) (aix _))))
def abo{z TI TO T a g d k:az}{f:aB}{l:b9}{h k2:Nat}{i ys:Array aB}{Q:aR aB->bp->Prop}(m:A.handled=am)(D:xP z TI TO a g d k)
  (hz:oB s.heap z TI TO (jc T) f)(n:f=.bool L\/f=.bool aA)(p:s.heap.get? T=l)(q:k9 s.heap TI (.ref a) (.ref g))
  (t:s.heap.IsListIter a d h)(u:s.heap.IsList d i)(v:i[h]?=am)
  (x:∀h',(∀c o,c≠z->c≠a->s.heap.get? c=Y o->h'.get? c=Y o)->Q am {s with heap:=h'}):aZ (bg prog w) A (nM<|.ref z) Q E s:=by
 have j:s.TypeIs (.ref z) "zip":=aY _ hz U;refine a9 (aiv (JW (name:=.ofString "__next__") j JX
  (JY JX j aiw (abm (k2:=0) (ys:=#[]) m D hz n p q t u v λh' e y C=>?_)<|aix _)))
 let⟨o,G,H⟩:=C;exact a9<|aiy (T:="StopIteration") (b:=L) ⟨o,G,H⟩ isSubtype_stop<|cF<|x _ y
end
def abp:AR (.type "zip") "__len__"=pure am:=by rw[JZ,J0];kernel_rfl
def abq:AR (.type "zip") "__length_hint__"=pure am:=by rw[JZ,J0];kernel_rfl
structure Zs H0 H S(b ys:List V)(a:List az):Prop where
 old:aX H0 H
 at_:H S=Y (.lst<|a.map .ref)
 it:∀(m:Nat)t,a[m]?=Y t->H0 t=am/\t≠S/\∃x y,b[m]?=Y x/\ys[m]?=Y y/\H t=Y (.tup [x,y])
def Vals.refs:∀(C:O az),Vals (C.map .ref) (C.map .ref):=by
 intro I
 induction I with
 |nil=>exact .nil
 |cons _ C ih=>exact .cons U<|ih
def Vals.of_refs:∀{C:O az}{us:O aB},Vals (C.map .ref) us->us=C.map .ref
 |[],_,.nil=>rfl
 |t::C,_,.cons r I=>by subst r;rw[Vals.of_refs I];rfl
section
variable{X:Cx}{aF:O (az×b9)}{σ:St}{z TI TO i1 i2 a b S:az}{H0:Hp}{xs ys:O V}{A:eJ}{R:AL->bp->Prop}{nG:aB}
def abr(hh:A.handled=am)(D:xP z TI TO i1 i2 a b)(ha:H0 a=Y (.lst xs))(hb:H0 b=Y (.lst ys))(hl:xs.length=ys.length)(ald:xs.length<=bK)(akU:H0 S=am)
  (akV:S∉[z,TI,TO,i1,i2])
  (hR:∀s' H' d,Inv X aF σ H' s'->Zs H0 H' S xs ys d->d.length=xs.length->R (.ok<|.ret nG) s'):
  ∀(r:Nat)(s:bp)(H:Hp)(d:O az),xs.length-d.length=r->d.length<=xs.length->Inv X aF σ H s->Zs H0 H S xs ys d->(∀c∈[z,TI,TO,i1,i2],fb X aF H c)->
   (∃l k,oB s.heap z TI TO l k/\((d=[]/\l=.none/\k=.bool aA)\/(∃t:az,d[0]?=Y t/\l=jc t/\(k=.bool L\/k=.bool aA))))->k9 s.heap TI (.ref i1) (.ref i2)->(∃u v,k9 s.heap TO u v)->
   s.heap.IsListIter i1 a d.length->s.heap.IsListIter i2 b d.length->
   oX (bg X.prog X.w) A (.builtin "list.extend.loop" ⟨[.ref S,.ref z,nG],[]⟩) R s:=by
 intro r
 induction r with
 |zero=>
  rintro s H d hr hle Iv Z hf ⟨l,k,p,akH⟩ n ⟨u0,v0,I⟩ C N;have akW:d.length=xs.length:=bh;obtain⟨akO,rv,Q,_⟩:=Iv.list<|bR.of<|Z.old _ _ ha;obtain⟨akX,akP,akG,_⟩:=Iv.list<|bR.of<|Z.old _ _ hb;have hx:akO.toArray[d.length]?=am:=by have:=rv.length;simp;lia
  have T:∀(i:bf),(∀c o,c∉[z,TI,TO,i1,i2]->s.heap.get? c=Y o->i.get? c=Y o)->R (.ok<|.ret nG) {s with heap:=i}:=λi j=>
   hR _ H d (Iv.r8 (t':=s.toks) (ch:=[z,TI,TO,i1,i2]) j hf) Z akW
  apply vv aiz;rw[vw EM _];show aZ _ A.in1 (nM (.ref z)>>=_) _ _ s;obtain⟨e0,rfl,rfl⟩|⟨t,ht,rfl,akI⟩:=akH
  .exact a9<|ah9 (A:=A.in1) hh D p n I C N Q.isList akG.isList (aP hx) λi j=>cF<|T i λc o h q=>j c o (λg=>h<|by simp[g]) (λg=>h<|by simp[g]) (λg=>h<|by simp[g]) (λg=>h<|by simp[g]) q
  .refine eR (Z.it 0 t ht) λ_ _ w_=>be w_ λx y _ _ akJ=>?_;obtain⟨_,_,⟨oT,akK,_⟩,_⟩:=Iv.tuple<|cx.of akJ;exact a9<|abo (A:=A.in1) (ys:=#[]) (k2:=0) hh D p akI akK n C Q.isList hx λi j=>cF<|T i λc o h q=>j c o (λg=>h<|by simp[g]) (λg=>h<|by simp[g]) q
 |succ r ih=>
  rintro s H d hr hle Iv Z hf ⟨l,k,p,akH⟩ n ⟨u0,v0,I⟩ C N;have akY:d.length<xs.length:=aU;have akZ:d.length<ys.length:=ap;obtain⟨akO,rv,Q,_⟩:=Iv.list<|bR.of<|Z.old _ _ ha;obtain⟨akX,akP,akG,_⟩:=Iv.list<|bR.of<|Z.old _ _ hb;have akQ:xs[d.length]?=Y xs[d.length]:=dq akY;have akR:ys[d.length]?=Y ys[d.length]:=dq akZ;obtain⟨u,hu,ru⟩:=rv.get akQ;obtain⟨u2,akS,ak0⟩:=akP.get akR
  have lt:∀c∈[z,TI,TO,i1,i2],c<s⁻¹:=λc h=>by
   have e':c=z\/c=TI\/c=TO\/c=i1\/c=i2:=by simpa using h
   obtain q|q|q|q|q:=e'
   .rw[q];exact cA p
   .rw[q];exact cA n
   .rw[q];exact cA I
   .rw[q];obtain⟨_,e1,_⟩:=C;exact cA e1
   .rw[q];obtain⟨_,e2,_⟩:=N;exact cA e2
  have akF:H s⁻¹=am:=Iv.fresh;have akL:s⁻¹≠S:=λq=>by rw[q,Z.at_]at akF;cases akF
  have T:∀(i:bf)(l k:aB),oB i z TI TO l k->(∃t:az,(d++[s⁻¹])[0]?=Y t/\l=jc t/\(k=.bool L\/k=.bool aA))->(∃u v,k9 i TO u v)->k9 i TI (.ref i1) (.ref i2)->i.IsListIter i1 a (d.length+1)->i.IsListIter i2 b (d.length+1)->
    k9 i s⁻¹ u u2->(∀c o,c∉[z,TI,TO,i1,i2]->s.heap.get? c=Y o->i.get? c=Y o)->
    aZ (bg X.prog X.w) A.in1 (do UP (.ref S) (·.push (.ref s⁻¹));again<|.builtin "list.extend.loop" ⟨[.ref S,.ref z,nG],[]⟩)
     (λfin s'=>match fin with|.done f=>R (.ok f) s'|.again c'=>c'.quiet=L/\oX (bg X.prog X.w) A c' R s') (λe s'=>R (.error e) s') {s with heap:=i}:=by
   intro i ak1 ak2 ak3 ak4 ak5 ak6 ak7 ak8 hT j;have ak9:f_ X.prog X.w (upd H s⁻¹<|.tup [xs[d.length],ys[d.length]]) i s⁻¹ (.tup [xs[d.length],ys[d.length]]):=
    ⟨by show 2<=bK;decide,[u,u2],.cons ru<|.cons ak0 .nil,⟨_,hT,U,_,U⟩⟩
   have I1:Inv X aF σ (upd H s⁻¹<|.tup [xs[d.length],ys[d.length]]) {s with heap:=i}:=Iv.CB (t':=s.toks) (ch:=[z,TI,TO,i1,i2]) j hf (cg _) ak9;have akT:(upd H s⁻¹<|.tup [xs[d.length],ys[d.length]]) S=Y (.lst<|d.map V.ref):=by rw[aQ<|gk akL];exact Z.at_
   obtain⟨_,ale,nS,rS,_,eS⟩:=I1.pr akT;have ak_:=Vals.of_refs rS;subst ak_;show aZ _ A.in1 (tL S (·.push (.ref s⁻¹))>>=_) _ _ _;apply a9;refine oZ eS U (cF ⟨qa EM _,?_⟩) (by simp;omega) (by simp;omega);have I2:=I1.rZ (t':=s.toks) (its':=(d++[s⁻¹]).map Jr) (ys:=(d++[s⁻¹]).map V.ref) (f:=(·.push (.ref s⁻¹))) akT eS au (Vals.refs _) (by rw[aI,cC];simp;lia);have up:∀c o,c≠S->i.get? c=Y o->(i.update S<|oY (·.push (.ref s⁻¹))).get? c=Y o:=λc o h q=>(kH _ _<|gk h).trans q;have E:∀c∈[z,TI,TO,i1,i2],c≠S:=λc h q=>akV<|q▸h;refine ih _ _ (d++[s⁻¹]) (by rw[cC];simp;omega) (by rw[cC];simp;lia) I2 ⟨λc o q=>?_,by rw[bQ],λm t G=>?_⟩ (λc h=>?_) ⟨ak1,ak2,up _ _ (E z au) ak3,aW ak4⟩ (up _ _ (E TI au) ak6) ?_ ?_ ?_
   .have ak':c≠S:=λg=>by rw[g,akU]at q;cases q
    rw[aQ ak',aQ (λg=>by have:=Z.old _ _ q;rw[g,akF]at this;cases this)];exact Z.old _ _ q
   .rw[aiA]at G;split at G
    .obtain⟨g1,g2,x,y,g3,g4,g5⟩:=Z.it m t G;refine⟨g1,g2,x,y,g3,g4,?_⟩;rw[aQ g2,aQ<|λq=>by rw[q,akF]at g5;cases g5];exact g5
    .rename_i alf;have ala:m=d.length:=by have:=(dH.mp G).1;simp at this;omega
     subst ala;rw[UQ]at G;obtain rfl:=bL G;refine⟨?_,akL,_,_,akQ,akR,by rw[aQ akL,bQ]⟩;cases q:H0 s⁻¹ with
     |none=>rfl
     |some o=>have:=Z.old _ _ q;rw[akF]at this;cases this
   .refine fb.to (hf c h) ?_;rw[aQ<|E c h,aQ<|fO<|lt c h];exact(hf c h).1
   .obtain⟨u',v',q⟩:=ak5;exact⟨u',v',up _ _ (E TO au) q⟩
   .rw[cC];exact ak7.at λo q=>up _ _ (E i1 au) q
   .rw[cC];exact ak8.at λo q=>up _ _ (E i2 au) q
  apply vv aiz;rw[vw EM _];show aZ _ A.in1 (nM (.ref z)>>=_) _ _ s;obtain⟨rfl,rfl,rfl⟩|⟨t,ht,rfl,akI⟩:=akH
  .refine a9 (ah8 (A:=A.in1) D p n I C N Q.isList akG.isList (x:=u) (y:=u2) (by simpa using hu) (by simpa using akS) λi z' alb akM akN hT alc j=>?_);exact T i _ _ z' ⟨_,U,U,aW U⟩ ⟨_,_,alb⟩ (j _ _ D.TIz D.TITO D.TIi1 D.TIi2 n) akM akN hT λc o h q=>j c o (λg=>h<|by simp[g]) (λg=>h<|by simp[g]) (λg=>h<|by simp[g]) (λg=>h<|by simp[g]) q
  .obtain⟨_,_,x,y,_,_,akJ⟩:=Z.it 0 t ht;obtain⟨_,_,⟨oT,akK,_⟩,_⟩:=Iv.tuple<|cx.of akJ;refine a9 (abn (A:=A.in1) D p akI akK n C N Q.isList akG.isList (x:=u) (y:=u2) (by simpa using hu) (by simpa using akS) λi z' akM akN hT alc j=>?_);refine T i _ _ z' ⟨t,by rw[aiA,aH (dH.mp ht).1];exact ht,U,aP U⟩ ⟨_,_,j _ _ D.TOz D.TOi1 D.TOi2 I⟩ (j _ _ D.TIz D.TIi1 D.TIi2 n) akM akN hT λc o h q=>j c o (λg=>h<|by simp[g]) (λg=>h<|by simp[g]) (λg=>h<|by simp[g]) q
end
section
variable{X:Cx}{aF:O (az×b9)}{σ:St}{z TI TO i1 i2 a b:az}{H:Hp}{xs ys:O V}{s:bp}{Q:aB->bp->Prop}{E:aB->bp->Prop}
def abt(hh:X.A.handled=am)(Iv:Inv X aF σ H s)(D:xP z TI TO i1 i2 a b)(ha:H a=Y (.lst xs))(hb:H b=Y (.lst ys))(hl:xs.length=ys.length)(akN:xs.length<=bK)
  (C:∀c∈[z,TI,TO,i1,i2],fb X aF H c)(hz:IsZip s.heap z TI TO .none)(G:k9 s.heap TI (.ref i1) (.ref i2))(i:∃u v,k9 s.heap TO u v)(I:s.heap.IsListIter i1 a 0)(N:s.heap.IsListIter i2 b 0)
  (hQ:∀s' j k,Inv X aF σ j s'->Zs H j s⁻¹ xs ys k->k.length=xs.length->Q (.ref s⁻¹) s'):
  aZ (bg X.prog X.w) X.A (ju (.type "list") [.ref z]) Q E s:=by
 have lt:∀c∈[z,TI,TO,i1,i2],c<s⁻¹:=λc d=>by
  have e':c=z\/c=TI\/c=TO\/c=i1\/c=i2:=by simpa using d
  obtain⟨_,_,i⟩:=i;rcases e' with q|q|q|q|q
  .rw[q];exact cA hz
  .rw[q];exact cA G
  .rw[q];exact cA i
  .rw[q];obtain⟨_,e1,_⟩:=I;exact cA e1
  .rw[q];obtain⟨_,e2,_⟩:=N;exact cA e2
 have g:∀c∈[z,TI,TO,i1,i2],c≠s⁻¹:=λc d=>fO<|lt c d;have akO:s⁻¹∉[z,TI,TO,i1,i2]:=λp=>g _ p U;refine aiB (Q₁:=λT akF=>T=.ref s⁻¹/\akF={s with heap:=s.heap.push {cls:=.type "list",data:=.seq #[]}}) aiC (aiD _) aiE
  (aiF _ ⟨U,U⟩) λT akF akP=>?_
 obtain⟨rfl,rfl⟩:=akP;generalize x:s⁻¹=S at*
 have l:(s.heap.push {cls:=.type "list",data:=.seq #[]}).get? S=Y {cls:=.type "list",data:=.seq #[]}:=by rw[<-x];exact fW _ U
 have I0:Inv X aF σ (upd H S<|.lst []) {s with heap:=s.heap.push {cls:=.type "list",data:=.seq #[]}}:=by have:=Iv.My (its:=[]) (ys:=[]) (t':=s.toks) .nil<|dI _;rw[x]at this;exact this
 have akQ:(upd H S<|.lst []) S=Y (.lst []):=bQ;have akG:H S=am:=by rw[<-x];exact Iv.fresh
 refine⟨⟨_,l,U⟩,aiG _ _,?_⟩;show aZ _ X.A.in1.in1 (do let akR<-J1 (.ref S);UP (.ref S)<|λ_=>#[];J2 akR.toList.reverse;A4 (.ref S) (.ref z) .none) _ _ _;refine a9 ?_;unfold J1;refine a9<|o_ l U<|cF ?_;show aZ _ X.A.in1.in1 (tL S (λ_=>#[])>>=λ_=>J2 (#[]:Array aB).toList.reverse>>=λ_=>A4 (.ref S) (.ref z) .none) _ _ _;refine a9<|oZ l U ?_;have I1:=I0.rZ (t':=s.toks) (its:=[]) (its':=[]) (ys:=[]) (f:=λ_=>#[]) (n:=0) akQ l U .nil<|dI _;have akH:(upd (upd H S<|.lst []) S<|.lst []) S=Y (.lst []):=bQ;obtain⟨_,akU,n1,r1,_,akI⟩:=I1.pr akH;cases r1;refine a9<|rA ?_;have k1:∀c o,c≠S->s.heap.get? c=Y o->((s.heap.push {cls:=.type "list",data:=.seq #[]}).update S<|oY<|λ_=>(#[]:Array aB)).get? c=Y o:=λc o d e=>
  (kH _ _<|gk d).trans<|dO _ e
 have akJ:IsZip _ z TI TO .none:=k1 _ _ (g z au) hz;generalize akV:(s.heap.push {cls:=.type "list",data:=.seq #[]}).update S (oY<|λ_=>(#[]:Array aB))=akK at*
 have akS:S≠z:=gk<|g z au;have y:aiH {s with heap:=akK} (.ref z) "zip":=⟨_,akJ,U⟩
 unfold A4;refine a9<|aiI y ?_;have q1:J3 (.ref S) (.ref z)=aA:=by simp[J3,akS]
 have q2:(pZ "zip"==pZ "list")=aA:=cq;have q3:(pZ "zip"==pZ "tuple")=aA:=bw;simp only[q1,q2,q3,TH,xO,tD];refine a9<|UC akJ ?_;refine a9<|mD ?_;unfold aiJ;refine a9<|EG y abp ?_;show aZ _ X.A.in1.in1 (specialOf (Jr z) (UR "__length_hint__")>>=_) _ _ _;refine a9<|EG y abq ?_;refine cF ?_;show aZ _ X.A.in1.in1 (rule "list.extend.makes-room">>=λ_=>akv (.ref S)>>=λ_=>
  again<|.builtin "list.extend.loop" ⟨[.ref S,.ref z,.none],[]⟩) _ _ _
 refine a9<|UL ?_;refine a9 ?_;show aZ _ X.A.in1.in1 (tL S (·.push .none)>>=λ_=>tL S (·.pop)) _ _ _;refine a9<|oZ akI U ?_;have I2:=I1.rZ (t':=s.toks) (its:=[]) (its':=[.none]) (ys:=[.bH]) (f:=(·.push .none)) akH akI U (.cons U .nil) (by show 1<=bK;decide);have akL:(upd (upd (upd H S<|.lst []) S<|.lst []) S<|.lst [.bH]) S=Y (.lst [.bH]):=bQ;obtain⟨_,akW,n2,r2,_,akM⟩:=I2.pr akL;obtain⟨u,rfl,ru⟩:=vals1 r2;cases ru;refine oZ (hz:=by seq_fits) akM U ?_;have I3:=I2.rZ (t':=s.toks) (its:=[.none]) (its':=[]) (ys:=[]) (f:=(·.pop)) akL akM U .nil<|dI _;have h:∀c o,c≠S->s.heap.get? c=Y o->((akK.update S<|oY (·.push Jq)).update S<|oY (·.pop)).get? c=Y o:=λc o d e=>
  (kH _ _<|gk d).trans<|(kH _ _<|gk d).trans<|k1 c o d e
 refine cF ⟨qa EM _,abr (X:=X) (σ:=σ) (A:=X.A.in1) (H0:=H) hh D ha hb hl akN akG akO (λs' j k I' Z' akT=>⟨U,hQ s' j k I' Z' akT⟩) _ _ _ [] U (dI _) I3 ⟨λc o q=>?_,by rw[bQ];rfl,λm t p=>by simp at p⟩ (λc d=>?_)
  ⟨_,_,h _ _ (g z au) hz,aP ⟨U,U,U⟩⟩ (h _ _ (g TI au) G) ?_ (I.at λo q=>h _ _ (g i1 au) q) (N.at λo q=>h _ _ (g i2 au) q)⟩
 .have d:c≠S:=λq'=>by rw[q',akG]at q;cases q
  rw[aQ d,aQ d,aQ d,aQ d];exact q
 .refine fb.to (C c d) ?_;have:=g c d;rw[aQ this,aQ this,aQ this,aQ this];exact(C c d).1
 .obtain⟨u,v,q⟩:=i;exact⟨u,v,h _ _ (g TO au) q⟩
end
abbrev qB(G H a:Hp)(S:az):Hp:=λc=>if c=S then am else match H c with|some _=>G c|none=>a c
def OC(s:aX G H)(h:aX H a)(d:H S=am):Ext G H (qB G H a S) a:=by
 refine⟨λc o q=>?_,λc o q=>?_,h,λc b e=>?_⟩
 .have b:=s _ _ q;grind[qB]
 .unfold qB at q;split at q
  .lia
  .split at q
   .exact h _ _<|s _ _ q
   lia
 .let⟨o,f⟩:=lw b;simp_all[qB]
def C0(h:H c=am)(b:c≠S):qB G H a S c=a c:=by simp_all[qB]
def abu:qB G H a S S=am:=by simp[qB]
section
variable{X:Cx}{J:En}{e1 e2:aT}{p p' ao jM:bn}{ds es:O Rp}
def abv(hm:X.mg "list"=am)(akO:X.mg "zip"=am)(ha:Ev X J e1 (lst ds))(hb:Ev X J e2 (lst es))(hl:ds.length=es.length)(hc:X.calm=L<|>_r)(hg:Gl X "list"<|>_r)(akP:Gl X "zip"<|>_r)
  (hs:Se X e1 [e2]<|>_r)(akQ:Se X e2 []<|>_r)(akR:Bt X ao [e2]<|>_r)
  (akH:Se X (b0 (aK "zip" p) [e1,e2] [] ao) []<|>_r):
  bu X J (b0 (aK "list" p') [b0 (aK "zip" p) [e1,e2] [] ao] [] jM) ((ds.zip es).map λd=>tup X.K [d.1,d.2]):=λj G H Q E S W k akI s I=>by
 refine rp<|lr I hg hm (u:=.type "list") eN (p5 ?_ akH U) bw cq;rw[akH];show aZ _ _ (AG ((aA,eval (b0 (aK "zip" p) [e1,e2] [] ao) X.env)::[])) _ _ s;refine xH (rp (lr I akP akO MZ (p5 (bo ((eO pE (eO pE hZ akQ) hs) ao akI s j H (λvs f=>∃G',Ext G H G' f/\Wf f/\bv G' vs [lst ds,lst es]) I
  (ha j G H _ E S W λv o l e w1 w=>hb j o l _ (E.mono e.g) e.s w1 λv2 G2 H2 x2 w2 r2=>E6 G2 (e.trans x2) w2 ((lst ds).mono x2.g w) r2 trivial)) λus z z_=>be z_ λvs l i rv A=>b7 A λo e w1 w=>?_) hs akR) bw cq))
 obtain⟨v,v2,rfl,⟨a,xs,rfl,akS,C⟩,b,ys,rfl,akT,rb⟩:=all2 w;obtain⟨u,N,rfl,ru,akU⟩:∃u N,us=[u,N]/\RelV (.ref a) u/\RelV (.ref b) N:=by
  cases rv with
  |cons r T=>cases T with
   |cons r' T=>cases T;exact cn _ _ U r r'
 subst ru;subst akU;have akJ:=e.s _ _ akS;have akK:=e.s _ _ akT;refine b7 (i.list<|bR.of akJ) λak1 ak2 p1 akV=>?_;refine b7 (i.list<|bR.of akK) λak3 ak4 p2 _=>?_;refine call_zip_2 p1.isList p2.isList λn hz akW akX h1 h2 ak5 hk=>?_;have I2:Inv X akI j l {z with heap:=n}:=i.kept hk;show aZ _ _ (AG []) _ _ _;refine AK<|abt (I2.ok.hd hc) I2 (ah_ z⁻¹ a b p1.lt p2.lt) akJ akK (by rw[C.length,rb.length,hl]) akV (λc akY=>?_) hz akW ⟨_,_,akX⟩ h1 h2 λs' f ts I' Z akZ=>?_
 .have akL:z⁻¹<=c:=by
   rcases by simpa using akY with q|q|q|q|q<;>rw[q]
   .exact p8 _ _
   .exact p8 _ _
   .exact p8 _ _
   .exact cg _
   .exact p8 _ _
  exact i.og akL<|i.bS.fresh akL
 .have akF:=I2.fresh;refine cn (.ref n.objs.size) f I' U (k n.objs.size (ts.map .ref) (qB o l f n.objs.size) f (e.trans<|OC e.s Z.old akF) (ji I') (e.h.free akF) abu Z.at_<|bv.of_get (by rw[aI,aI,vd,akZ,C.length,<-hl,Nat.min_self]) λm v d hv hd=>?_);refine aL (cH hv) λt ht akG=>?_;subst akG;refine aL (cH hd) λdd ak0 akG=>?_;subst akG;refine eR (Z.it m t ht) λg1 g2 A=>be A λx y g3 g4 g5=>?_;obtain⟨d1,d2⟩:=zip_get ak0;have sm:=(OC e.s Z.old akF).g;refine aL (C.get d1) λx' akM rx=>?_;refine aL (rb.get d2) λy' akN ry=>?_;rw[g3]at akM;obtain rfl:=bL akM;rw[g4]at akN;obtain rfl:=bL akN;exact⟨t,[x,y],U,cx.of<|(C0 g1 g2)▸g5,dd.1.mono sm rx,dd.2.mono sm ry,trivial⟩
end
abbrev uC(l:O (Int×Int)):O Int:=l.flatMap λc=>[c.1,c.2]
def GO c l:uC (c::l)=c.1::c.2::uC l:=U
def GP l:(uC l).length=2*l.length:=by
 induction l with
 |nil=>rfl
 |cons a l b=>simp[GO,c_,c_,c_];lia
def abw(l:O (Int×Int))j:(uC l)[2*j]?=(l[j]?).map (·.1):=by
 induction l generalizing j with
 |nil=>rfl
 |cons a l b=>cases j with
  |zero=>rfl
  |succ j=>rw[GO,show 2*_=2*j+1+1 by lia,xR,xR,b];rfl
def abx(l:O (Int×Int))j:(uC l)[2*j+1]?=(l[j]?).map (·.2):=by
 induction l generalizing j with
 |nil=>rfl
 |cons a l b=>cases j with
  |zero=>rfl
  |succ j=>rw[GO,show 2*_+1=2*j+1+1+1 by lia,xR,xR,b];rfl
def OD{α a:Type}(f:α->a)(l:O α):(c8 l.length).filterMap (λj=>(l[j]?).map f)=l.map f:=by
 have h:(c8 l.length).map (λj=>(l[j]?).map f)=l.map λx=>Y (f x):=by refine iO λi=>?_;grind
 have e:(c8 l.length).filterMap (λj=>(l[j]?).map f)=((c8 l.length).map<|λj=>(l[j]?).map f).filterMap id:=au;simp_all
def OE(k n:Nat)(a:k<=1):sliceRange (k:Int) ((2*n:Nat):Int) 2=(c8 n).map λj=>k+2*j:=by
 have b:(if(k:Int)<((2*n:Nat):Int)then(((2*n:Nat):Int)-k+2-1)/2 else 0).toNat=n:=ap;show(c8 (if(k:Int)<((2*n:Nat):Int)then(((2*n:Nat):Int)-k+2-1)/2 else 0).toNat).map (λ(j:Nat)=>((k:Int)+2*(j:Int)).toNat)=_
 (simp_all;lia)
def OF(k n:Nat)(a:k<=n):vk (Y k) am (Y 2) n=((k:Int),(n:Int),2):=by show(max 0 _,_,_)=_;grind
def aby(l:O (Int×Int)):EN (uC l) (Y 0) am (Y 2)=l.map (·.1):=by rw[EN,show(0:Int)=((0:Nat))from U,OF 0 _<|dI _,GP,OE 0 _ au,aiK,<-OD];congr 1;funext j;show _[0+2*j]?=_;rw[Ax,abw]
def abz(l:O (Int×Int)):EN (uC l) (Y 1) am (Y 2)=l.map (·.2):=by
 unfold EN;cases l with
 |nil=>rfl
 |cons a l=>
  rw[show(1:Int)=((1:Nat))from U,OF 1 _ (by rw[GP,c_];lia),GP,OE 1 _ au,aiK,<-OD];congr 1;funext j;grind[abx]
section
variable{X:Cx}{J:En}{e:aT}{p2 ao q1 q2:bn}{j1 j2:Nat}{k:Int}{ns ms:O Int}
def OG(C:Ev X J e (lst<|ns.map int))(h:EN ns k am (Y 2)=ms):bu X J (cR e (.Slice (Y<|dX (.int k) j1 q1) am (Y<|dX (.int 2) j2 q2) p2) ao) (ms.map int):=λd G H Q E S W N f s I=>by
 refine JD<|bo (C d G H (λv a=>∃j,Ext G H j a/\Wf a/\(lst<|ns.map int).r j v) E S W (λv j a x w r=>fQ j x w r) f s I) λv T akF=>?_;refine be akF λx q I1 r1 c=>?_;refine b7 c λG1 g w1 w_=>be w_ λl vs hx t rv=>?_;subst hx;subst r1;rw[ints_of_all rv]at t;refine ahO<|bo (F5 rT f T d q (λo a=>o=k/\a=q) I1 ⟨k,U,U,U⟩) λvl s2 c=>be c λlo u I2 pl q2=>?_;obtain⟨rfl,rfl⟩:=q2;refine bo (Mm f s2 d u (λo a=>o=am/\a=u) I2 ⟨U,U⟩) λvu s3 c=>be c λhi y I3 pu q3=>?_;obtain⟨rfl,rfl⟩:=q3;refine bo (F5 rT f s3 d y (λo a=>o=Y 2/\a=y) I3 ⟨2,U,U,U⟩) λakG i c=>be c λst H4 I4 ps q4=>?_;obtain⟨rfl,rfl⟩:=q4;have m:Inv X f d H4 {i with heap:=i.heap.push {cls:=.type "slice",data:=.fields #[vl,vu,akG]}}:=I4.kept (t':=i.toks) λb ob=>dO _;refine b7 (m.list<|bR.of<|g.s _ _ t) λakH r A hz=>?_;have akI:=r.length;refine tail_any (ops:=[.ref l,.ref i⁻¹]) A.isList.typeIs Us.lookup (ahR A.isList (ahP ..) pl pu ps au ?_<|by rw[g8]<;>lia) (by with_unfolding_all rfl);have n:=(intsAre_of r).pick k am<|Y 2;rw[h]at n;have akJ:ms.length<=bK:=by
  have h1:=slicePick_size_le akH.toArray k am<|Y 2;rw[<-mF,n.length,g8,<-akI]at h1
  lia
 have p:=m.bS.fresh<|cg _;refine cn (.ref _) _ (m.laid (t':=i.toks) (o:=.lst<|ms.map .int) (λb ob=>dO _) (cg _) ⟨by rwa[aI],_,0,MC n,fW _ U⟩) U ?_;exact N _ (ms.map .int) G1 _ (g.trans<|uv g.s p) (w1.new λxs z=>by injection z with z;subst z;rwa[aI]) (g.h.free p) (kc g.s p) bQ (all_ints ms)
end
abbrev ints2(a b:Int):O Int:=(c8 (b-a).toNat).map λ(i:Nat)=>a+i
def OH:∀{its:O aB}{ns:O Int},its.length=ns.length->(∀(i:Nat)v,its[i]?=Y v->∃n t,ns[i]?=Y n/\v=.int n t)->lM its ns
 |[],[],_,_=>.nil
 |v::its,n::ns,a,h=>by obtain⟨b,t,⟨⟩,rfl⟩:=h 0 v U;exact .cons _ _<|OH bG λi v=>h (i+1) v
 |[],_::_,a,_=>by grind
 |_::_,[],a,_=>bh
section
variable{X:Cx}{J:En}{e e2:aT}{p p' ao jM:bn}{i j:Int}
def abA(hm:X.mg "list"=am)(akI:X.mg "range"=am)(ha:Ev X J e (int i))(hb:Ev X J e2 (int j))(h1:-(2^62)<=i)(h2:i<2^62)(h3:-(2^62)<=j)(h4:j<2^62)(hn:(j-i).toNat<=10000)(hc:X.calm=L<|>_r)(hg:Gl X "list"<|>_r)(akJ:Gl X "range"<|>_r)
  (N:Se X e [e2]<|>_r)(akK:Se X e2 []<|>_r)(akL:Bt X ao [e2]<|>_r)
  (akM:Se X (b0 (aK "range" p) [e,e2] [] ao) []<|>_r):
  bu X J (b0 (aK "list" p') [b0 (aK "range" p) [e,e2] [] ao] [] jM) ((ints2 i j).map int):=λd G H Q E S W k T s I=>by
 refine rp<|lr I hg hm (u:=.type "list") eN (p5 ?_ akM U) bw cq;apply xH;refine rp (lr I akJ akI boot_range (p5 (bo ((eO pE (eO pE hZ akK) N) ao T s d H (λvs H'=>∃G',Ext G H G' H'/\Wf H'/\bv G' vs [int i,int j]) I
  (ha d G H _ E S W λv l n a q c=>hb d l n _ (E.mono a.g) a.s q λv2 G2 H2 x2 w2 w=>E6 G2 (a.trans x2) w2 c w trivial)) λus f x=>be x λvs n I1 rv w_=>b7 w_ λl a q c=>?_) N akL) bw cq)
 refine fF (all2 c) λv v2 y x=>?_;subst y;obtain⟨c,w⟩:=x;subst c w;refine Bo rv.MD λt u y=>?_;subst y;apply call_range_2;apply AK;have akN:ahw i j 1=(((j-i).toNat:Nat)):=by rw[ahx];split<;>lia
 have I2:Inv X T d n {f with heap:=f.heap.push {cls:=.type "range",data:=.fields #[.int i t,.int j u,.int 1 f.toks]},toks:=f.toks+1}:=I1.kept λb o=>dO _;refine call_list_range (I1.ok.hd hc) (ahv ..) (small_one h1 h2 h3 h4) akN ap λh' tk akF c' hk hS A=>?_;have akO:lM akF.toList (ints2 i j):=OH (by rw[mF,A.1,ints2,aI,mG]) λm v hv=>by obtain⟨t',rfl⟩:=A.2 m v (by simpa using hv);have akG:=(dH.mp hv).1;rw[mF,A.1]at akG;exact gq (i+m) t' (by rw[ints2,cT,EO akG];rfl)<|by rw[ahu]
 have akH:(ints2 i j).length<=bK:=by rw[ints2,aI,mG];exact cS hn bw
 have C:=I2.bS.fresh<|cg _;exact cn (.ref _) _ (I2.laid (o:=.lst<|(ints2 i j).map .int) hk (cg _) ⟨by rw[aI];exact akH,akF.toList,c',MC akO,by simpa using hS⟩) U (k _ ((ints2 i j).map .int) l _ (a.trans<|uv a.s C) (q.new λxs z=>by injection z with z;subst z;rw[aI];exact akH) (a.h.free C) (kc a.s C) bQ (all_ints _))
end
def abB:AR (.type "list_reverseiterator") "__len__"=pure am:=by rw[JZ,J0];kernel_rfl
def abC:AR (.type "list_reverseiterator") "__length_hint__"=pure (Y<|.builtin "list_reverseiterator.__length_hint__"):=by rw[JZ,J0];kernel_rfl
section
variable{prog:bO}{w:bN}{A:eJ}{E:aB->bp->Prop}{s:bp}{R:AL->bp->Prop}
def abD{a:Array aB}{Q:aB->bp->Prop}(H:A.handled=am)(N:l≠I)(u:s.heap.IsRevIter I l (a.size-1))(x:s.heap.IsList l a)(T:a.size<=bK)
  (hQ:∀h' tk d j,(∀b o,b≠I->s.heap.get? b=Y o->h'.get? b=Y o)->h'.get? s⁻¹=Y {cls:=.type "list",dict:=am,data:=.seq d j,slots:=#[]}->
   ItemsOf (λi v=>a[a.size-1-i]?=Y v) d a.size->Q (.ref s⁻¹) {s with heap:=h',toks:=tk}):
  aZ (bg prog w) A (ju (.type "list") [.ref I]) Q E s:=by
 have akF:I<s⁻¹:=by refine aL u λ_ e _=>?_;exact cA e
 have akG:l<s⁻¹:=by refine aL x λ_ e _=>?_;exact cA e
 refine aiB (Q₁:=λy z=>y=.ref s⁻¹/\z={s with heap:=s.heap.push {cls:=.type "list",data:=.seq #[]}}) aiC (aiD _) aiE
  (aiF _ ⟨U,U⟩) λy z akH=>?_
 obtain⟨rfl,rfl⟩:=akH;generalize k:s⁻¹=S at*
 have f:(s.heap.push {cls:=.type "list",data:=.seq #[]}).get? S=Y {cls:=.type "list",data:=.seq #[]}:=by rw[<-k];exact fW _ U
 have m:=AH akF;refine⟨⟨_,f,U⟩,aiG _ _,?_⟩;show aZ _ A.in1.in1 (do let akI<-J1 (.ref S);UP (.ref S)<|λ_=>#[];J2 akI.toList.reverse;A4 (.ref S) (.ref I) .none) _ _ _;apply a9;unfold J1;refine a9<|o_ f U<|cF ?_;show aZ _ A.in1.in1 (tL S (λ_=>#[])>>=λ_=>J2 (#[]:Array aB).toList.reverse>>=λ_=>A4 (.ref S) (.ref I) .none) _ _ _;refine a9<|oZ f U ?_;have akJ:=xL (oY<|λ_=>(#[]:Array aB)) f U;have n:∀b o,b≠S->s.heap.get? b=Y o->((s.heap.push {cls:=.type "list",data:=.seq #[]}).update S<|oY<|λ_=>(#[]:Array aB)).get? b=Y o:=
  λb o p e=>(kH _ _<|gk p).trans<|dO _ e
 refine a9<|rA ?_;generalize akP:(s.heap.push {cls:=.type "list",data:=.seq #[]}).update S (oY<|λ_=>(#[]:Array aB))=akK at*
 have t:=u.at λo e=>n _ o (gk m) e;have g:aiH {s with heap:=akK} (.ref I) "list_reverseiterator":=by refine b7 t λo e c _=>?_;exact aY o e c
 have q1:J3 (.ref S) (.ref I)=aA:=by simp[J3,m]
 unfold A4;refine a9<|aiI g ?_;rw[aD<|by rw[q1];decide];refine a9<|wpAny_pyIter_revIter t ?_;refine a9<|mD ?_;unfold aiJ;refine a9<|EG g abB ?_;show aZ _ A.in1.in1 (specialOf (Jr I) (UR "__length_hint__")>>=_) _ _ _;refine a9<|EG g abC ?_;generalize bj:("list_reverseiterator.__length_hint__":String)=akL
 wp_delta
 rw[show splitId akL=Y ("list_reverseiterator","__length_hint__")from by subst bj;decide+kernel];subst bj;refine a9 (aiy (b:=L) g (by rw[isSubtype_type];kernel_rfl) ?_);apply cF;rw[aD bw]
 have C:S∉[I,l]:=λh=>by
  rcases cU.mp h with q|q
  .exact m q
  .exact absurd akG<|by rw[<-e_.mp q];exact kX _
 refine cF ⟨qa EM _,codeAny_extend_loopS (Walks.listRev (prog:=prog) (w:=w) (A:=A.in1.in1) H I l N a).toS T _ C _ a.size 0 _ _ _ U (dI _) ⟨dI _,by simpa using t,x.at λo e=>n _ o (λq=>C<|by simp[q]) e⟩ akJ (ItemsOf.nil _) λG d j h akM akN=>⟨U,?_⟩⟩;rw[Moved.eq_with h];refine hQ G.heap G.toks d j (λb o p e=>h.heap b o (λakO=>?_)<|n b o (λq=>by rw[q,<-k]at e;exact absurd (cA e)<|kX _) e) akM akN;obtain q|q:=cU.mp akO
 .rw[q,<-k]at e;exact absurd (cA e)<|kX _
 .exact p<|e_.mp q
end
section
variable{X:Cx}{J:En}{e:aT}{p p' ao jM:bn}{ds:O Rp}
def abE(hm:X.mg "list"=am)(akI:X.mg "reversed"=am)(ha:Ev X J e (lst ds))(hc:X.calm=L<|>_r)(hg:Gl X "list"<|>_r)(akJ:Gl X "reversed"<|>_r)
  (C:Se X e []<|>_r)(akK:Se X (b0 (aK "reversed" p) [e] [] ao) []<|>_r):
  bu X J (b0 (aK "list" p') [b0 (aK "reversed" p) [e] [] ao] [] jM) ds.reverse:=λN G H Q E S W k akL s I=>by
 refine rp<|lr I hg hm (u:=.type "list") eN (p5 ?_ akK U) bw cq;apply xH;refine rp (lr I akJ akI ZD (p5 (bo (eO pE hZ C ao akL s N H (λT H'=>∃G',Ext G H G' H'/\Wf H'/\bv G' T [lst ds]) I
  (ha N G H _ E S W λv j H1 c l d=>tU j c l d trivial)) λus f n=>be n λT H1 g rv w_=>b7 w_ λj c l d=>?_) C U) bw cq)
 refine aL (all1 d) λv akM n=>?_;subst akM;obtain⟨a,q,rfl,h1,d⟩:=n;rw[Vals.wa rv];let⟨i,akF,t,hz⟩:=g.list<|bR.of<|c.s _ _ h1;have akO:=akF.length;apply call_reversed_list t.isList;apply AK;have akG:∀b o,f.heap.get? b=Y o->(f.heap.push<|revObj a<|i.toArray.size-1).get? b=o:=λb o=>dO _;refine abD (g.ok.hd hc) (fO t.lt) ⟨_,fW _ U,U,U⟩ (t.isList.at λo=>akG _ o) (by rw[g8];lia) λh' tk w c' hk hS x=>?_;have akN:w.toList=i.reverse:=by
  refine iO λm=>?_;by_cases y:m<i.length
  .obtain⟨v,hv⟩:∃v,w[m]?=Y v:=⟨_,Array.getElem?_eq_getElem<|by rw[x.1];simpa using y⟩
   have:=x.2 m v hv;rw[aip,hv,List.getElem?_reverse y];rw[g8]at this;simpa using this.symm
  .rw[tG (by rw[mF,x.1];simpa using y),tG<|by rw[A5];simp_all]
 have akH:f⁻¹<=(f.heap.push<|revObj a<|i.toArray.size-1).objs.size:=by rw[mE];exact Ui _
 have A:=g.bS.fresh akH;exact cn (.ref _) _ (g.laid (o:=.lst q.reverse) (λb o e=>hk b o (fO<|cA e)<|akG b o e) akH ⟨by rwa[A5],w.toList,c',akN▸akF.reverse,by simpa using hS⟩) U (k _ q.reverse j _ (c.trans<|uv c.s A) (l.new λq z=>by injection z with z;subst z;rwa[A5]) (c.h.free A) (kc c.s A) bQ d.reverse)
end
section
variable{X:Cx}{J:bV}{ds:O Rp}{a8:O bY}{o:Out}{ao p:bn}{x:aq}
def abF j{c q:bn}(e:J[j]?=Y (Y<|.own ds))(hr:Sv X (J.set j<|Y<|.own ds.reverse) a8 o)(n:Nv X j x<|>aa)
  (t:Ab X (aK x p) "reverse"<|>_r)
  (u:(c.endLine==q.line)=L<|>_r)(v:Sw X (b0 (cD (aK x p) "reverse" c) [] [] q) am ao.line<|>_r):
  Sv X J (.Expr (b0 (cD (aK x p) "reverse" c) [] [] q) ao::a8) o:=λw z A G H D y s f=>by
 refine jX (s.own j ds e) λa i k C I d E=>?_;apply wS.cons<|rW (YT AY ahX PySem.F.type_list_reverse YY (gu n) t u) v;refine⟨.ref a,k,aP ⟨U,i,bR.of d⟩,a,i,U,U,d,?_⟩;have N:=s.wf _ _ d;have l:=s.write e k E.reverse bG;exact hr w z A G _ D ⟨y.g,l.sub,λb Q m=>(aQ<|f9 m C)▸y.h _ _ m,y.f⟩ l f
end
section
variable{X:Cx}{J:En}{o e:aT}{ao kx:bn}{α:Type}{d:Rp}
def abG{l:O α}{n:O Int}{j:Nat}(C:X.A.in1.units+64<fP)(I:Ev X J o (lst<|l.map f))(N:Ev X J e d)(T:∀x G v,(f x).r G v->∃t,v=.ref t/\cx X.K G t ((kf x).map .int))(hd:∀G v,d.r G v->∃t,v=.ref t/\cx X.K G t (n.map .int))
  (hj:(l.map kf)[j]?=Y n)(akF:∀m,m<j->(l.map kf)[m]?≠n)(i:Se X e []<|>_r)(akG:Ab X o "index"<|>_r)
  (akH:Fe X ao [e]<|>_r)
  (akI:(kx.endLine==ao.line)=L<|>_r):Ev X J (b0 (cD o "index" kx) [e] [] ao) (int j):=λp G H Q E S W k=>
 wE.by (yS AY air PySem.F.type_list_index (abj C) pE pA akG akH akI i U) λw=>I p G H _ E S W λv G1 H1 h w1 z_=>be z_ λa q q1 y z=>by subst q1;exact⟨aP ⟨U,q,bR.of<|h.s _ _ y⟩,aS N i p G1 H1 _ (E.mono h.g) h.s w1 λus G2 H2 b w2 r2=>by refine aL (all1 r2) λu c r=>?_;subst c;refine aL (hd _ _ r) λt c ht=>?_;subst c;refine⟨a,t,q,l.map kf,n,j,U,U,bR.of<|b.s _ _<|b.g _ _ y,⟨by rw[z.length,aI,aI],λm n' akJ=>?_⟩,b.s.tup ht,hj,akF,λw'=>k _ G2 H2 (h.trans b) w2 U⟩;refine aL (cH akJ) λx hx akK=>?_;subst akK;refine aL (z.get<|get_map f hx) λv hv hr=>?_;refine aL (T x _ _ hr) λt' c akL=>?_;subst c;exact aY t' hv<|b.s.tup<|b.g.tup akL⟩
end
end _b
namespace _c
open PySem PySem.Spec _a _b
open PyProof.Rows hiding St
open _b.Rp
structure KD P w(K:aJ)a(f:Int->Option aB):Prop where
 sm:(a==lK)=aA
 ex:∃o es b,K.lookup a=Y o/\o.ExactDict/\o.data=.dict es b/\PySem.KeysOf (rj P w) es/\∀k,Jz (rj P w).is es k=f k
def KD.map{K:aJ}(d:KD P w K a f)(C:K.In h):h.MapOf (rj P w) a f:=by refine mI d.ex λo I ep h1 h2 h3 h4 h5=>?_;exact qg o I ep (C _ _ h1) h2 h3 h4 h5
section
variable{X:Cx}{J:En}{o i e:aT}{es:O aT}{ao p:bn}{x:aq}{a:az}{f:Int->aR aB}{k:Int}{d:Rp}{v:V}{u:aB}
abbrev abH(X:Cx):R2:=λx y H Q=>∃a f k,KD X.prog X.w X.K a f/\x=.int k/\y=.ref a/\Q (.bl (f k).isSome) H
def abI:du X (fi .In) (abH X):=by rintro aF s σ H x y v u Q I b c ⟨a,f,k,D,rfl,rfl,q⟩;obtain⟨t,rfl⟩:=b;subst c;exact ah4 (by simp[rj,oU]) D.sm (D.map I.hW) ⟨.bl _,H,I.tok _,U,q⟩
def zm(D:KD X.prog X.w X.K a f)(b:Ev X J i (int k))(c:Ev X J o (ref a)):Cv X J .In i o (f k).isSome:=
 jF abI b c λx y G H Q g h S q=>vH a f k D g h q
def C1(D:KD X.prog X.w X.K a f)(C:Ev X J o (ref a))(N:Ev X J i (int k))(T:f k=u)(r:RelV v u)(hd:∀G,d.r G v)(hs:CA i):Ev X J (cR o i ao) d:=λl G H Q E S W q m s I=>by
 refine MT ah5.lookup hs (bo (C l G H (λv b=>∃c,Ext G H c b/\Wf b/\v=.ref a) E S W (λv c b x w r=>fQ c x w r) m s I) λu1 s1⟨x1,n,I1,rx,z,h,w1,ex⟩=>
  bo (N l z n (λv b=>∃c,Ext z n c b/\Wf b/\v=.int k) (E.mono h.g) h.s w1 (λv c b x w r=>fQ c x w r) m s1 I1) λiv s2 z_=>be z_ λy A j ry w_=>b7 w_ λG2 e2 w2 ey=>?_)
 subst ex ey;obtain rfl:=rx;obtain⟨t,rfl⟩:=ry;refine⟨(D.map j.hW).typeIs,ah3 (by simp[rj,oU]) (D.map j.hW) T ⟨v,A,j.tok _,r,q v G2 A (h.trans e2) w2<|hd _⟩⟩
def sE(h:∃a,X.mg x=Y (.ref a)/\∀G,cx X.K G a vs)(b:∀G,bv G vs ds)(c:Gn X x<|>ae):Ev X J (aK x ao) (tup X.K ds):=
 aL h λa g j=>
 or (v:=.ref a) g U (λG=>cn a vs U (j G)<|b G) c
def l6{n:Nat}{y:aq}{ps:O aq}{R:O Rp->Rp->Prop}{ds:O Rp}{c:az}j(akF:J[j]?=Y (Y<|ref c))(g:Good X.prog X.w X.K X.mg X.base n y ps R)(hy:X.mg y=Y (.ref c))(hr:cj n X.A)(ha:fc X J (e::es) ds)(hR:R ds d)
  (hN:Nv X j x<|>aa)
  (he:Se X e es<|>_r)(akG:Bt X ao es<|>_r):Ev X J (b0 (aK x p) (e::es) [] ao) d:=λC G H Q E S W q N s I=>by
 refine de g.ex λakH fd T hk hb F=>?_;rw[hy]at T;cases T;refine aL (E.at_ j _ akF) λv h1 l=>?_;have l:v=.ref c:=l;subst l;refine nN<|bo (gu hN N s C H (λv b=>v=.ref c/\b=H) I ⟨_,h1,U,U⟩) λu s1 m=>de m λv H1 t r1 e1 e2=>?_;subst e1 e2;subst r1;refine xI (h₀:=X.base) t.ok.mod.pp hk (bo (ha C G H1 (λz b=>∃h,Ext G H1 h b/\Wf b/\bv h z ds) E S (ji t) (λz h b x w r=>fQ h x w r) ao N s1 t) λus s2 m=>be m λz H2 I2 rv w_=>b7 w_ λG2 x2 w2 r2=>⟨I2.hW,?_⟩) he akG;apply v9 (jD:=[]) (ds:=[]) (Q:=Q) F hr hb .nil iW I2 rv;rw[eG];exact qg G2 ds d x2.s w2 r2 hR<|λv G3 H3 e3 w3=>q v G3 H3 (x2.trans e3) w3
end
abbrev mZ:O (Int×Nat):=[(0,1),(1,1),(2,2),(3,2),(4,1),(5,1),(6,1),(7,3),(8,2),(9,3),(10,3),(11,6),(12,6),(13,5),(14,5),(15,2),(16,2),(17,1),(18,2),(19,2),(20,11),(21,13),(22,15)]
abbrev pF:O (Int×aq):=[(0,"call_load"),(2,"call_copy"),(3,"call_same")]
abbrev oC:O (Int×aq):=[(1,"call_print"),(4,"call_size"),(5,"call_area"),(9,"call_point"),(10,"call_between"),(11,"call_may"),(12,"call_all"),(13,"call_room"),(16,"call_keepout"),(19,"call_cutout"),(20,"call_raster"),(21,"call_reach"),(22,"call_way")]
abbrev C2:O (Int×aq):=[(6,"call_mirror"),(7,"call_shift"),(8,"call_turn"),(14,"call_keep"),(15,"call_unkeep"),(17,"call_cut"),(18,"call_uncut")]
abbrev zn(P:bO)(w:bN)(K:aJ)(b:aq->aR aB)(x:aq)(l:O (Int×aq)):Prop:=
 ∃a f,b x=Y (.ref a)/\KD P w K a f/\(∀k,(f k).isSome=(l.lookup k).isSome)/\∀k n,l.lookup k=Y n->∃c,f k=Y (.ref c)/\b n=Y (.ref c)
structure Md P w K(b:aq->Option aB):Prop where
 GQ:∃a,b "KIND_NAMES"=Y (.ref a)/\∀G,cx K G a [.str "track",.str "via",.str "part",.str "all"]
 abJ:∃a,b "COSINES"=Y (.ref a)/\∀G,cx K G a [.int 1,.int 0,.int (-1),.int 0]
 abK:∃a,b "SINES"=Y (.ref a)/\∀G,cx K G a [.int 0,.int 1,.int 0,.int (-1)]
 abL:∃a,b "ROW_CALLS"=Y (.ref a)/\∀G,cx K G a [.int 0,.int 11,.int 12,.int 13,.int 14,.int 17]
 abM:∃a c d e g h i j l m o,b "READERS"=Y (.ref a)/\(∀G,cx K G a [.ref c,.ref d,.ref e,.ref g,.ref h])/\(∀G,cx K G c [.str "copper",.ref i])/\(∀G,cx K G d [.str "core",.ref j])/\(∀G,cx K G e [.str "outline",.ref l])/\(∀G,cx K G g [.str "cut",.ref m])/\(∀G,cx K G h [.str "keep",.ref o])/\
  b "read_copper"=Y (.ref i)/\b "read_core"=Y (.ref j)/\b "read_outline"=Y (.ref l)/\b "read_cut"=Y (.ref m)/\b "read_keep"=Y (.ref o)
 mZ:∃a f,b "NUMBER_COUNTS"=Y (.ref a)/\KD P w K a f/\(∀k,(f k).isSome=(_c.mZ.lookup k).isSome)/\∀k n,_c.mZ.lookup k=Y n->∃t,f k=Y (.int n t)
 pF:zn P w K b "PLACE_CALLS" _c.pF
 oC:zn P w K b "ASKING_CALLS" _c.oC
 C2:zn P w K b "CHANGING_CALLS" _c.C2
abbrev OI(R:O Rp->O Rp->Prop):Sp:=λvs H Q _=>∃G ds es,aX G H/\Wf H/\bv G vs ds/\R ds es/\
 ∀a us c b,Ext G H c b->Wf b->H a=am->c a=am->b a=Y (.lst us)->bv c us es->Q (.ref a) b
structure GR P w K mg base k x ps R:Prop where
 ex:∃f a,mg x=Y (.ref f)/\k8 K (.ref f)=L/\Binds K a ps []/\fH P w K mg base iH k f a ps (OI R)
section
variable{X:Cx}{J:En}{e:aT}{es:O aT}{ds gs:O Rp}{ao p:bn}{x:aq}{k:Nat}{ps:O aq}{R:O Rp->O Rp->Prop}
def wB(g:GR X.prog X.w X.K X.mg X.base k x ps R)(i:fc X J (e::es) ds)(j:R ds gs)(c:Gn X x<|>ae)
  (l:Se X e es<|>_r)(m:Bt X ao es<|>_r)(hr:cj k X.A<|>alI):bu X J (b0 (aK x p) (e::es) [] ao) gs:=λn G H Q E S W q=>
 de g.ex λf fd o t u F=>
 wE.by (mP F hr c.g o t u .nil iW pA c.d l m) λw=>i n G H _ E S W λv y z b C I=>by show OI R (v++[]) z _ _;rw[eG];exact qg y ds gs b.s C I j<|λa N T H2 e2 w2 n2 g2 h2 r2 _=>q a N T H2 (b.trans e2) w2 (b.h.free n2) g2 h2 r2
end
section
variable{P:bO}{w:bN}{K:aJ}{mg:aq->aR aB}{base:bf}{k:Nat}{x:aq}{st:bY}{N ps:O aq}{R:O Rp->O Rp->Prop}
def abN(T:l0 K mg x st ps)(S:im N ps (fv st))(m:∀ds d,R ds d->ds.length=ps.length)
  (h:∀f b A c s H E,cj k (XD P w K mg base N x st f b A c s H E).A->∀ds es,R ds es->(∀d∈ds,bA d)->Sv (XD P w K mg base N x st f b A c s H E) (ent N ds) (gL st) (.zc es)):
  GR P w K mg base (k+1) x ps R:=
 be T.ex λf o p F t=>
 ⟨f,o,p,F.kp,t,F.ok S (λu H Q E i=>by refine mI i λG ds d _ _ r j _=>?_;exact r.length▸m ds d j) λb A c s H u Q E v i=>by refine mI i λG ds es l W r j q=>?_;exact aY _ eP<|h f b A c s H E v ds es j r.pB G H _ G H _ (.refl l) (sv r l W) λa y z C e I n g h'=>q a y z C e I n g h'⟩
end
end _c
namespace _g
open PySem VbpcText
abbrev Enc(x:aq)(b:kC):Prop:=x.cps.toList=b.map J4
def Enc.len(h:Enc x b):x.length=b.length:=by show x.cps.size=_;rw[<-mF,h,aI]
def zo(h:Enc x a)(k:Enc y b):Enc (x++y) (a++b):=by show(x.cps++y.cps).toList=_;rw[Array.toList_append,h,k,cN]
def OJ:∀{ws:O aq}{bs:O kC},ws.length=bs.length->(∀(i:Nat)w b,ws[i]?=Y w->bs[i]?=Y b->Enc w b)->Enc (.join " " ws) (spaced bs)
 |[],[],_,_=>rfl
 |[w],[b],_,h=>h 0 w b U U
 |w::c::ws,b::d::bs,a,h=>by have f:=zo (zo (h 0 w b U U)<|show Enc (" ") [32]from U)<|OJ (ws:=c::ws) (bs:=d::bs) bG λi x y e=>h (i+1) x y e;simp_all[Enc,aiL,spaced]
 |[],_::_,a,_=>by simp_all
 |_::_,[],a,_=>by grind
 |[_],_::_::_,a,_=>by simp_all
 |_::_::_,[_],a,_=>bG
def abO(a:ws.length=bs.length)(h:∀(i:Nat)w b,ws[i]?=Y w->bs[i]?=Y b->Enc w b):Enc (.join " " ws++"\n") (qb bs):=zo (OJ a h) U
def OK:∀{ws:O aq}{bs:O kC},ws.length=bs.length->(∀(i:Nat)w b,ws[i]?=Y w->bs[i]?=Y b->Enc w b)->Enc (.join "" ws) bs.flatten
 |[],[],_,_=>rfl
 |[w],[b],_,h=>by rw[show[b].flatten=b by simp];exact h 0 w b U U
 |w::c::ws,b::d::bs,a,h=>by have f:=zo (zo (h 0 w b U U)<|show Enc "" []from U)<|OK (ws:=c::ws) (bs:=d::bs) bG λi x y e=>h (i+1) x y e;simp_all[Enc,aiL,List.flatten_cons]
 |[],_::_,a,_=>by simp_all
 |_::_,[],a,_=>by grind
 |[_],_::_::_,a,_=>by simp_all
 |_::_::_,[_],a,_=>bG
def OL(h:n<10):(Nat.digitChar n).toNat=48+n:=by revert n;decide
def digits_eq:∀k n,n<10^k->0<k->(A6 k n).map J4=(Nat.toDigits 10 n).map J5
 |0,n,_,h=>by lia
 |k+1,n,b,_=>by
  rw[A6];by_cases h:n<10
  .rw[aH h,Nat.toDigits_of_lt_base h,J6,J6,OL h,aiM ap]
  .rw[aD h,Nat.toDigits_of_base_le au ap,cN,cN,J6,J6,OL<|ag3 _ au,aiM ap];have a:0<k:=by
    lia
   rw[digits_eq k (n/10) ap a]
def OM:∀k n,(A6 k n).length<=k
 |0,n=>cg _
 |k+1,n=>by
  rw[A6];split
  .simp
  have:=OM k<|n/10;simp_all
def abP z:(nP z).length<=21:=by grind[nP,OM]
def abQ s:(UR s).cps.toList=s.toList.map J5:=by rw[Str.ofString_eq_toList]
def uD{z:Int}(h:z.natAbs<10^20):Enc (toString z) (nP z):=by
 rw[Enc,nP,abQ]
 match z,h with
 |.ofNat m,h=>
  show(aiN m).toList.map J5=(A6 20 m).map J4;simp_all[digits_eq,aiO,String.toList_ofList]
 |.negSucc m,h=>
  rw[aH<|Int.negSucc_lt_zero m];show("-"++aiN (m+1)).toList.map J5=(45::A6 20 (m+1)).map J4;simp_all[String.toList_append,cN,eQ,digits_eq,aiO]
end _g
namespace _c
open PySem PySem.Spec _a _b
open PyProof.Rows hiding St
open _b.Rp
open Vbpcaa (Pt turnOf inRange edges)
open Vbpcad (Keep)
open _d (Bx cr dS Ob)
open _h (bE Sd)
abbrev nameAt(i:Nat):aq:=match top i with
 |.FunctionDef n _ _ _ _ _ _ _ _ _=>n
 |_=>""
abbrev dw(i:Nat):O aq:=(um<|top i).args.map (·.arg)
abbrev kl:O Nat:=[6,7,8,9,10,11,12,13,14,15,16,17,18,19,20,21,22,24,25,26,27,28,29,41,42,43,44,45,46,47,48,49,50,51,52,53,54,64,65,66,67,68,69,70,72,73,74,75,80,81,82,83,84,85,86,87,88,89,90,91,92,93,94,95,96,97,110,111,112,113,114,115,116,117,124,125,126,127,128,129,130,131,132,148,149,150,151,152,153,154,155,156,157,158,159,161,162,163,164,165,166,167,168,169,170,171,172,173,174,175,176,177,178,179,181,182,186,187,188,189,193,194,196,197,198,199,200,201,202,203,204,206,209,210,211,212,213,214,215,216,217,218,220,221,222,223,225,226,227,231,232]
class Zc(P:outParam bO)(w:outParam bN)(K:outParam aJ)(a:outParam (aq->Option aB))(A:outParam Ad):Prop where
 M:Mc K a A
 D:Md P w K a
 T:∀i∈kl,l0 K a (nameAt i) (top i) (dw i)
 abR:mV K a "Side" "Side.__init__" A.side aaP ["self","begin","end"]
 abS:mV K a "Skeleton" "Skeleton.__init__" A.bU aaQ ["self","points"]
 abT:mV K a "Thing" "Thing.__init__" A.sy aaR ["self","kind","lo","hi","radius","skeleton"]
 abU:mV K a "Board" "Board.__init__" A.ba aaS ["self","thicknesses","outline","cuts","keeps"]
 abV:mV K a "Obstacle" "Obstacle.__init__" A.dP aaW ["self","reason","skeleton","radius"]
 abW:mV K a "Raster" "Raster.__init__" A.dB aaT ["self","left","low","pitch","columns","rows"]
 abX:mV K a "Ground" "Ground.__init__" A.fR aaU ["self","outline","obstacles","gap"]
 abY:mV K a "Steps" "Steps.__init__" A.ki aaV ["self","rightward","upward"]
 abZ:mV K a "Draft" "Draft.__init__" A.gw Oq ["self"]
structure Q7 where
 f:az
 c:aB
 a:eJ
 o:List gC
 s:bp
 H:Hp
 E:XK
def M{K:aJ}[Z:Zc P w K mg A]:Mc K mg A:=Z.M
def D{K:aJ}[Z:Zc P w K mg A]:Md P w K mg:=Z.D
section
variable{P:bO}{w:bN}{K:aJ}{mg:aq->aR aB}{base:bf}{A:Ad}[Z:Zc P w K mg A]
@[reducible]def XQ(P:bO)(w:bN)(K:aJ)(mg:aq->aR aB)(base:bf)(N:O aq)(x:aq)(st:bY)(q:Q7):Cx:=XD P w K mg base N x st q.f q.c q.a q.o q.s q.H q.E
@[reducible]def Gz[Z:Zc P w K mg A](base:bf)(k i:Nat)(x:aq)(R:aJ->Ad->O Rp->Rp->Prop):Prop:=Good P w K mg base k x (dw i)<|R K A
@[reducible]def zp[Z:Zc P w K mg A](base:bf)(k i:Nat)(x:aq)(R:aJ->Ad->O Rp->O Rp->Prop):Prop:=GR P w K mg base k x (dw i)<|R K A
@[reducible]def Mz[Z:Zc P w K mg A](base:bf)(k:Nat)(x:aq)(ps:O aq)(R:aJ->Ad->O Rp->Rp->Prop):Prop:=Makes P w K mg base k x ps<|R K A
def Zc.at{A:Ad}[Z:Zc P w K mg A]i x(C:nameAt i=x)(hi:i∈kl):l0 K mg x (top i) (dw i):=C▸Z.T i hi
@[reducible]def Gy{P:bO}{w:bN}{K:aJ}{mg:aq->aR aB}{A:Ad}[Z:Zc P w K mg A](base:bf)(k i:Nat)(x:aq)(ds:O Rp)(d:Rp):Prop:=Good P w K mg base k x (dw i) λa b=>a=ds/\b=d
def gy{k i:Nat}{x:aq}{ds:O Rp}{d:Rp}N
  (h:∀q,cj k (XQ P w K mg base N x (top i) q).A->(∀d∈ds,bA d)->N.Nodup->Sv (XQ P w K mg base N x (top i) q) (ent N ds) (gL<|top i) (.rt d))
  (S:im N (dw i) (fv<|top i)<|>alD)
  (e:ds.length=(dw i).length<|>_r)(g:nameAt i=x<|>_r)(hi:i∈kl<|>alE):Gy base (k+1) i x ds d:=
 Nz (Zc.at i x g hi) S (λa b z=>z.1▸e) λf c a o s H E j ds d l m=>by obtain⟨rfl,rfl⟩:=l;exact h ⟨f,c,a,o,s,H,E⟩ j m S.nd
def gz N(h:∀q,cj k (XQ P w K mg base N x (top i) q).A->∀ds d,R K A ds d->(∀d∈ds,bA d)->N.Nodup->Sv (XQ P w K mg base N x (top i) q) (ent N ds) (gL<|top i) (.rt d))
  (S:im N (dw i) (fv<|top i)<|>alD)
  (b:(∀ds d,R K A ds d->ds.length=(dw i).length)<|>alL)(e:nameAt i=x<|>_r)(hi:i∈kl<|>alE):Gz base (k+1) i x R:=
 Nz (Zc.at i x e hi) S b λf c a o s H E g ds d j l=>h ⟨f,c,a,o,s,H,E⟩ g ds d j l S.nd
def C3 N(h:∀q,cj k (XQ P w K mg base N x (top i) q).A->∀ds d,R K A ds d->(∀d∈ds,bA d)->N.Nodup->Sv (XQ P w K mg base N x (top i) q) (ent N ds) (gL<|top i) (.zc d))
  (S:im N (dw i) (fv<|top i)<|>alD)
  (b:(∀ds d,R K A ds d->ds.length=(dw i).length)<|>alL)(e:nameAt i=x<|>_r)(hi:i∈kl<|>alE):zp base (k+1) i x R:=
 abN (Zc.at i x e hi) S b λf c a o s H E g ds d j l=>h ⟨f,c,a,o,s,H,E⟩ g ds d j l S.nd
def mz{st:bY}(T:mV K mg x gx C st ps)
  (h:∀q:Q7,cj k (XI P w K mg base ps gx st q.f q.c q.a q.o q.s q.H q.E).A->∀ds d,R K A ds d->(∀d∈ds,bA d)->ps.Nodup->
   ∃gs,Ni (XI P w K mg base ps gx st q.f q.c q.a q.o q.s q.H q.E) C (uw ps ds) [] (gL st) gs/\∀G v,(ins C gs).r G v->d.r G v)
  (S:im ps ps (fv st)<|>alD)
  (b:(∀ds d,R K A ds d->ds.length+1=ps.length)<|>alL):Mz base (k+1) x ps R:=
 makes_of T S b λf c a o s H E e ds d g i=>h ⟨f,c,a,o,s,H,E⟩ e ds d g i S.nd
end
def cm(h:-20000000000<=i/\i<=20000000000):uf i j:=aP ap
def qC(h:-9000000000000000000<=i/\i<=9000000000000000000):uf i j:=aP ap
def GS(a:-B<=u/\u<=B)(b:-B<=v/\v<=B):-(B*B)<=u*v/\u*v<=B*B:=by
 have c:0<=(B-u)*(B+v):=nH ap ap;have d:0<=(B+u)*(B-v):=nH ap ap;have e:0<=(B-u)*(B-v):=nH ap ap;have f:0<=(B+u)*(B+v):=nH ap ap
 lia
def zq(d:dh a)(e:dh b)(f:dh c):-8000000000000000000<=a_ a b c/\a_ a b c<=8000000000000000000:=by
 unfold dh at*
 have g:=GS (u:=b.x-a.x) (v:=c.y-a.y) (B:=2000000000) ap ap;have h:=GS (u:=b.y-a.y) (v:=c.x-a.x) (B:=2000000000) ap ap;unfold a_;omega
def inR{K:aJ}(h:bA (pt K p)):dh p:=h.wit.1
section
variable{P:bO}{w:bN}{K:aJ}{mg:aq->aR aB}{base:bf}{A:Ad}[Z:Zc P w K mg A]
def GT(h:bA (side K A e)):dh e.1/\dh e.2:=⟨inR<|h.ins (f:="begin") U,inR<|h.ins (f:="end") U⟩
def eB(h:bA (bU K A l)):(l≠[]/\l.length<=32)/\∀p∈l,dh p:=
 ⟨h.wit.1,λp a=>inR<|(h.wit.2.ins (f:="points") U).lst _<|nJ a⟩
def sF{a b c:Pt}:Gy base 1 6 "turning" [pt K a,pt K b,pt K c] (int<|a_ a b c):=by refine gy ["a","b","c"] λq e d f=>?_;let⟨⟨_,_⟩,_,_⟩:=inR<|d _<|.head _;let⟨⟨_,_⟩,_,_⟩:=inR<|d _<|.tail _<|.head _;let⟨⟨_,_⟩,_,_⟩:=inR<|d _<|.tail _<|.tail _<|.head _;exact bI<|cZ (fJ (cZ (ge aE)<|ge aw) (cZ (e9 aM)<|e9 aw)<|cm ap)<|fJ (cZ (e9 aE)<|e9 aw) (cZ (ge aM)<|ge aw)<|cm ap
def uE{a s':Bx}{g:Int}:Gy base 1 10 "boxes_apart" [box K a,box K s',int g] (bl<|_d.fZ a s' g):=gy ["first","second","gap"] λq b c d=>bI<|qv (dF<|lX (cZ (gN aw aG U)<|gN aE aG U) aM)<|λh=>(qv (dF<|lX (cZ (gN aE aG U)<|gN aw aG U) aM)<|λh=>(qv (dF<|lX (cZ (gN aw aG U)<|gN aE aG U) aM)<|λh=>(pv<|dF<|lX (cZ (gN aE aG U)<|gN aw aG U) aM)))
def GU{a b:Pt}:Gy base 1 24 "square_between" [pt K a,pt K b] (int<|_d.f6 a b):=by refine gy ["a","b"] λq d c e=>?_;let⟨⟨_,_⟩,_,_⟩:=inR<|c _<|.head _;let⟨⟨_,_⟩,_,_⟩:=inR<|c _<|.tail _<|.head _;exact bI<|cY (fJ (cZ (ge aw)<|ge aE) (cZ (ge aw)<|ge aE)<|cm ap)<|fJ (cZ (e9 aw)<|e9 aE) (cZ (e9 aw)<|e9 aE)<|cm ap
def GV{a b c:Pt}:Gy base 2 13 "folds_back" [pt K a,pt K b,pt K c] (bl<|_d.qi a b c):=by
 refine gy ["a","corner","c","along"] λq f d g=>?_;let⟨⟨_,_⟩,_,_⟩:=inR<|d _<|.head _;let⟨⟨_,_⟩,_,_⟩:=inR<|d _<|.tail _<|.head _;let⟨⟨_,_⟩,_,_⟩:=inR<|d _<|.tail _<|.tail _<|.head _;refine dg (bi<|qw (aO sF<|bM aw aE aM) aG) (λh=>bB df ?_)<|λh=>bz 3 (cY (fJ (cZ (ge aw)<|ge aE) (cZ (ge aM)<|ge aE)<|cm ap)<|fJ (cZ (e9 aw)<|e9 aE) (cZ (e9 aM)<|e9 aE)<|cm ap)<|bB (dF<|iq aV aG) ?_
 .have e:¬a_ a b c=0:=by simpa using h
  rw[_d.qi,aH e]
 .have e:a_ a b c=0:=by simpa using h
  rw[_d.qi,aD<|by simpa using e]
def ON{l:O Pt}(h:l≠[]):Gy base 1 9 "box_of" [pts K l] (box K<|dS l):=by
 refine gy ["points","point","xs","ys"] λq j k m=>?_;have b:∀g:Pt->Int,0<(l.map g).length:=λg=>by rw[aI];exact El.mpr h
 refine wq 2 (d6 (l:=l) (g:=λp=>int p.x) (own:=[("point",1)]) (cK aw) (dD U) (λp _=>aY _ (eu 1)<|λs c C d e=>(ge aE)) U)
  (wq 3 (d6 (l:=l) (g:=λp=>int p.y) (own:=[("point",1)]) (cK aw) (dD U) (λp _=>aY _ (eu 1)<|λs c C d e=>(e9 aE)) U) ?_ U)
 have f:l.map (λp=>int p.x)=(l.map (·.x)).map int:=by rw[c9];rfl
 have i:l.map (λp=>int p.y)=(l.map (·.y)).map int:=by rw[c9];rfl
 rw[f,i];refine bI<|kP<|kg (Np M.min aM ?_) (Np M.min aV ?_) (Nq M.max aM ?_)<|Nq M.max aV ?_
 .exact⟨b _,λx a=>_d.KL a⟩
 .exact⟨b _,λx a=>_d.KL a⟩
 .exact⟨b _,λx a=>_d.KM a⟩
 .exact⟨b _,λx a=>_d.KM a⟩
inductive OO K A:List Rp->Rp->Prop
 |mk:OO K A [pt K a,pt K b] (side K A (a,b))
def zr:Mz base 2 "Side" ["self","begin","end"] OO:=by
 refine mz Z.abR λq e f d c g h=>?_;cases c with|@mk a b=>?_
 refine aY _ (fM aE M.wu M.NQ<|fM aM M.wu M.NS<|fM (aO (ON (l:=[a,b]) au)<|aS<|cz<|bF aE aM) M.wu M.NT su)<|λG v=>sx ?_;exact xS.mpr ⟨U,xS.mpr ⟨U,xS.mpr ⟨U,au⟩⟩⟩
def OP K(l m:O Pt):((l.map<|pt K).zip<|m.map<|pt K).map (λd=>tup K [d.1,d.2])=(l.zip m).map λe=>tup K [pt K e.1,pt K e.2]:=by simp[US]
def OQ K(l:O Pt):eX (l.map<|pt K) (Y 1) am++eX (l.map<|pt K) am (Y 1)=(l.drop 1++l.take 1).map (pt K):=by rw[show(1:Int)=((1:Nat))from U,jG,wy,cN,xW,EQ]
def OR(l:O α)(h:l.length<=32):(eX l (Y 1) am).length+(eX l am<|Y 1).length<=bK:=by rw[show(1:Int)=((1:Nat))from U,jG,wy,jR,jr];exact cS (aU:_<=64) bw
def OS{l:O Pt}(a:l≠[])(b:l.length<=32):Gy base 4 11 "sides_of" [pts K l] (lst<|(edges l).map<|side K A):=by
 refine gy ["points","following","begin","end"] λq c d i=>?_;refine dg (bi<|e8 (cO M.len aw) aG) (λh=>?_)<|λh=>bz 1 (Ev.eq (bu.ev<|jj (bu.ev<|fk aw (.dW aG) .none_) (bu.ev<|fk aw .none_<|.dW aG) ?_)<|bJ lst<|OQ K l) ?_
 .have h:((l.map<|pt K).length:Int)<3:=cM h;rw[aI]at h
  match l,a,h with
  |[p],_,_=>exact bI<|cz<|aS<|gv zr (bF (bW aw aG U)<|bW aw (sf aG) U) .mk
  |[p,q],_,_=>exact bI<|cz<|aS<|gv zr (bF (bW aw aG U)<|bW aw (sf aG) U) .mk
  |p::q::r::l,_,h=>simp at h;lia
 .exact OR (l.map<|pt K)<|by rw[aI];exact b
 .have h:¬((l.map<|pt K).length:Int)<3:=cX h;rw[aI]at h;refine bI<|bu.ev<|eA.fw ?_;refine(d6 (l:=l.zip<|l.drop 1++l.take 1) (f:=λe=>tup K [pt K e.1,pt K e.2]) (g:=λe=>side K A e) (own:=[("begin",2),("end",3)]) (Iv.eq (CN M.zip aw aE)<|OP K l _) (dD U)
   (λe _=>aY _ (wm 2 3)<|λs j C k m=>(gv zr (bF aM aV) .mk)) ?_)
  rw[_d.Fv ap]
inductive OT K A:List Rp->Rp->Prop
 |mk (a:l≠[]) (b:l.length<=32):OT K A [pts K l] (bU K A l)
def OU:Mz base 5 "Skeleton" ["self","points"] OT:=by
 refine mz Z.abS λq e f d c g h=>?_;cases c with|@mk l a b=>?_
 exact aY _ (fM aE M.wv M.NU<|fM (aO (OS a b)<|aS aE) M.wv M.NV<|fM (aO (ON a)<|aS aE) M.wv M.NW su)<|λG v q=>⟨⟨a,b⟩,sx (xS.mpr ⟨U,xS.mpr ⟨U,xS.mpr ⟨U,au⟩⟩⟩) q⟩
def GW{e f:Sd}:Gy base 2 12 "sides_meet" [side K A e,side K A f] (bl<|_d.iD e.1 e.2 f.1 f.2):=by
 refine gy ["first","second","begin_turn","end_turn"] λq j d k=>?_;obtain⟨a,g⟩:=GT<|d _<|.head _;obtain⟨b,i⟩:=GT<|d _<|.tail _<|.head _;refine dg (b_<|aO uE<|bM (sB M aw) (sB M aE) aG) (λh=>bB df ?_) (λh=>bz 2 (aO sF<|bM (gO M aw) (jo M aw)<|gO M aE) (bz 3 (aO sF<|bM (gO M aw) (jo M aw)<|jo M aE)
  (dg (bi<|iq (fJ aM aV<|qC (by have:=zq a g b;have:=zq b i a;lia)) aG) (λc=>bB df ?_)<|λc=>bz 2 (aO sF<|bM (gO M aE) (jo M aE)<|gO M aw)<|bz 3 (aO sF<|bM (gO M aE) (jo M aE)<|jo M aw)<|bB (dF<|CJ (fJ aM aV<|qC (by have:=zq a g b;have:=zq b i a;lia)) aG) ?_)))
 .rw[_d.iD,aH h]
 .rw[_d.iD,aD (by rw[h];simp),aH<|cM c]
 .rw[_d.iD,aD (by rw[h];simp),aD<|cX c]
def ab0(h:bA (pts K l)):∀p∈l,dh p:=λp a=>inR<|h.lst _<|nJ a
def OV{l:O Pt}(h:e∈l.zip (l.drop 1++l.take 1)):e.1∈l/\e.2∈l:=by obtain _:=xx h;grind
def GX{l:O Pt}(d:l.length<=32):Gy base 1 15 "twice_area" [pts K l] (int<|_d.vQ l):=by
 refine gy ["points","following","a","b"] λq h c i=>?_;have a:=ab0<|c _<|.head _;refine bz 1 (Ev.eq (bu.ev<|jj (bu.ev<|fk aw (.dW aG) .none_) (bu.ev<|fk aw .none_<|.dW aG) ?_)<|bJ lst<|OQ K l) ?_
 .exact OR (l.map<|pt K)<|by rwa[aI]
 refine bI (CQ (ns:=(l.zip<|l.drop 1++l.take 1).map λe=>e.1.x*e.2.y-e.1.y*e.2.x) M.sum (bu.ev (eA.fw (d6 (l:=l.zip<|l.drop 1++l.take 1) (f:=λe=>tup K [pt K e.1,pt K e.2]) (g:=λe=>int<|e.1.x*e.2.y-e.1.y*e.2.x) (own:=[("a",2),("b",3)]) (Iv.eq (CN M.zip aw aE)<|OP K l _) (dD U)
  (λe b=>?_) (c9▸U)))))
 let⟨⟨_,_⟩,_,_⟩:=a _ (OV b).1;let⟨⟨_,_⟩,_,_⟩:=a _ (OV b).2;exact aY _ (wm 2 3)<|λs j C k m=>(cZ (fJ (ge aM) (e9 aV)<|cm ap)<|fJ (e9 aM) (ge aV)<|cm ap)
inductive OW K(A:Ad):List Rp->Rp->Prop
 |mk:OW K A [pt K p] (ip K (p.y,p.x))
def ab1:Gz base 1 16 "height_then_left" OW:=by
 refine gz ["point"] λq b c d a e f=>?_;cases a with|@mk p=>?_
 exact bI<|kP<|bF (e9 aw)<|ge aw
abbrev qD(p:Pt)(E:O Sd)(i:Nat):Bool:=(E.take i).foldl (λb e=>if _d.rM p e=L then !b else b) aA
def OX{e:Sd}(h:E[i]?=e):qD p E (i+1)=if _d.rM p e=L then !qD p E i else qD p E i:=by rw[qD,take_snoc h,rD];rfl
def OY:∀(E:O Sd)n b,n<=E.length->(∀i e,i<n->E[i]?=Y e->_d.yn p e=aA)->
  _d.lP p E b=_d.lP p (E.drop n) ((E.take n).foldl (λb e=>if _d.rM p e=L then !b else b) b)
 |E,0,b,_,_=>rfl
 |[],n+1,b,h,_=>rfl
 |e::E,n+1,b,h,k=>by rw[_d.lP,k 0 e au U];exact OY E n _ bG λi a c=>k (i+1) a bG
def uF{p:Pt}{l:O Pt}:Gy base 2 22 "where_in_polygon" [pt K p,bU K A l] (int<|_d.dY p l):=by
 refine gy ["point","polygon","point_box","inside","side","turn","rises","crosses_height"] λq u v x=>?_;refine bz 2 (Ev.eq (kP<|kg (ge aw) (e9 aw) (ge aw)<|e9 aw)<|show _=box K (cr p p) by unfold box cr;simp;rfl) ?_;refine dg (b_<|aO uE<|bM aM (zk M aE) aG) (λh=>bB (bX M.ux) ?_)<|λh=>bz 3 df ?_
 .rw[_d.dY,aH h]
 have g:_d.dY p l=_d.lP p (edges l) aA:=by rw[_d.dY,aD<|by rw[h];simp]
 obtain⟨n,m,o,a⟩:=oy (_d.yn p)<|edges l;have j:_d.lP p (edges l) aA=_d.lP p ((edges l).drop n) (qD p (edges l) n):=OY (p:=p) (edges l) n aA m o;refine mU n (by rw[aI];exact m) (λi=>[Y<|.aC<|pt K p,Y<|.aC<|bU K A l,Y<|.aC<|box K<|cr p p,Y<|.aC<|bl<|qD p (edges l) i,am,am,am,am]) (cK<|zj M aE) U (λi d s k=>?_) ?_
 .obtain⟨e,b,rfl⟩:=cH k;have f:=o i e s b;refine gX 4<|bz 5 (aO sF<|bM (gO M bZ) (jo M bZ) aw)<|iI (Tv.eq (Tw.tv<|uq (bi<|fL dU aG)<|λh=>(wl<|dE<|b_<|aO uE<|bM aM (sB M bZ) aG)) f)<|bz 6 (dF<|iq (e9<|jo M bZ)<|e9<|gO M bZ)<|bz 7 (dF<|Z6 (dF<|iq (e9<|gO M bZ)<|e9 aw)<|dF<|iq (e9<|jo M bZ)<|e9 aw) ?_;refine fe<|lx (Γ':=[Y<|.aC<|pt K p,Y<|.aC<|bU K A l,Y<|.aC<|box K<|cr p p,Y<|.aC<|bl<|qD p (edges l)<|i+1,Y<|.aC<|side K A e,Y<|.aC<|int<|a_ e.1 e.2 p,Y<|.aC<|bl<|decide<|e.1.y<e.2.y,Y<|.aC<|bl<|decide (p.y<e.1.y) !=decide (p.y<e.2.y)]) (Tw.tv<|uq (b_<|cJ 7 U)<|λh=>(wl<|bi<|Z5 (dF<|iq dU aG)<|cJ 6 U)) (λc=>bz 3 (Ev.eq (Z4 aV) ?_) cG) (λc=>?_) cG
  .rw[OX b,aH<|show _d.rM p e=L from c]
  .rw[OX b,aD<|by rw[_d.rM];exactλz=>by rw[c]at z;cases z];exact cG
 .rcases a with a|⟨e,b,f⟩
  .refine aP ⟨by rw[aI];exact a,bI<|h_ (b_ aV) (λc=>Ev.eq (bX M.GE) ?_)<|λc=>Ev.eq (bX M.ux) ?_⟩
   .rw[g,j,a,J7,_d.lP,<-a,show qD p (edges l) n=L from c];rfl
   .rw[g,j,a,J7,_d.lP,<-a,show qD p (edges l) n=aA from c];rfl
  .refine aW ⟨_,_,get_map _ b,gX 4<|bz 5 (aO sF<|bM (gO M bZ) (jo M bZ) aw)<|kh (Tv.eq (Tw.tv<|uq (bi<|fL dU aG)<|λh=>(wl<|dE<|b_<|aO uE<|bM aM (sB M bZ) aG)) f)<|bB (bX M.CT) ?_,U⟩;have k:(edges l).drop n=e::(edges l).drop (n+1):=by
    have t:=(dH.mp b).1;rw[aiP t,(dH.mp b).2]
   rw[g,j,k,_d.lP,aH f]
structure uG(g:Int):Prop where
 lo:0<=g
 hi:g<=3000000000
def C4{p:Pt}{e:Sd}{g:Int}(i:uG g):Gy base 2 25 "point_apart" [pt K p,side K A e,int g] (bl<|_d.lO p e.1 e.2 g):=by
 refine gy ["point","side","gap","begin","end","length_square","along","height"] λq j b k=>?_;obtain⟨l,m⟩:=i;have c:=inR<|b _<|.head _;obtain⟨d,f⟩:=GT<|b _<|.tail _<|.head _;have n:=zq d f c;have o:=GS (u:=g) (v:=g) (B:=3000000000) aU aU;obtain⟨⟨_,_⟩,_,_⟩:=c;obtain⟨⟨_,_⟩,_,_⟩:=d;obtain⟨⟨_,_⟩,_,_⟩:=f;refine bz 3 (gO M aE) (bz 4 (jo M aE) (bz 5 (aO GU<|bF aV bZ) (bz 6 (cY (fJ (cZ (ge aw)<|ge aV) (cZ (ge bZ)<|ge aV)<|qC aU)<|fJ (cZ (e9 aw)<|e9 aV) (cZ (e9 bZ)<|e9 aV)<|qC aU)
  (dg (bi<|CJ (cJ 6 U) aG) (λh=>bB (dF<|lX (aO GU<|bF aw aV)<|fJ aM aM<|qC aU) ?_)<|λh=>dg (bi<|lX (cJ 6 U) dU) (λa=>bB (dF<|lX (aO GU<|bF aw bZ)<|fJ aM aM<|qC aU) ?_)<|λa=>bz 7 (aO sF<|bM aV bZ aw)<|bB (dF<|lX (fJ (cJ 7 U) (cJ 7 U)<|qC aU)<|fJ (fJ aM aM<|qC aU) dU<|qC aU) ?_))))
 .rw[_d.lO,aH<|show _d.jY p e.1 e.2<=0 from cM h]
 .rw[_d.lO,aD<|show¬_d.jY p e.1 e.2<=0 from cX h,aH<|show _d.jY p e.1 e.2>=_d.f6 e.1 e.2 from cM a]
 .rw[_d.lO,aD<|show¬_d.jY p e.1 e.2<=0 from cX h,aD<|show¬_d.jY p e.1 e.2>=_d.f6 e.1 e.2 from cX a]
def GY{e f:Sd}{g:Int}(a:uG g):Gy base 3 26 "sides_apart" [side K A e,side K A f,int g] (bl<|_d.iR e.1 e.2 f.1 f.2 g):=by
 refine gy ["first","second","gap"] λq c d i=>?_;refine dg (b_<|aO uE<|bM (sB M aw) (sB M aE) aM) (λh=>bB df ?_) (λh=>dg (b_<|aO GW<|bF aw aE) (λb=>bB df ?_)
  (λb=>bB (pw (aO (C4 a)<|bM (gO M aw) aE aM)<|λh=>(pw (aO (C4 a)<|bM (jo M aw) aE aM)<|λh=>(pw (aO (C4 a)<|bM (gO M aE) aw aM)<|λh=>(pv<|aO (C4 a)<|bM (jo M aE) aw aM)))) ?_))
 .rw[_d.iR,aH h]
 .rw[_d.iR,aD (by rw[h];simp),aH b]
 .rw[_d.iR,aD (by rw[h];simp),aD<|by rw[b];simp]
def GZ{l:O Pt}{p:Pt}:Gy base 3 27 "holds_point" [bU K A l,pt K p] (bl<|_d.lj l p):=by refine gy ["skeleton","point"] λq a b c=>?_;apply bB<|pw (dF<|iq (cO M.len<|iJ M aw) aG)<|λh=>(pv<|dF<|qw (aO uF<|bF aE aw)<|bX M.ux);rw[_d.lj,aI];congr 2;rw[jO];omega
def wC{α:Type}{q:α->Bool}{l:O α}(a:∀i x,i<n->l[i]?=Y x->(!q x)=aA)(b:n=l.length\/∃x,l[n]?=Y x/\(!q x)=L):(n=l.length/\l.all q=L)\/∃x,l[n]?=Y x/\q x=aA/\l.all q=aA:=by grind-order [Ef]
def OZ{e:Sd}{l:O Pt}{g:Int}(j:uG g):Gy base 4 28 "far_from_sides" [side K A e,bU K A l,int g] (bl<|_d.nY e l g):=by
 refine gy ["side","skeleton","gap","other"] λq x y z=>?_;refine dg (b_<|aO uE<|bM (sB M aw) (zk M aE) aM) (λh=>bB df ?_)<|λh=>?_
 .rw[_d.nY,aH h]
 have o:_d.nY e l g=(edges l).all λf=>_d.iR e.1 e.2 f.1 f.2 g:=by rw[_d.nY,aD<|by rw[h];simp]
 rw[o];refine b7 (oy (λf:Sd=>!_d.iR e.1 e.2 f.1 f.2 g)<|edges l) λn p k a=>?_;refine mU n (by rw[aI];exact p) (λi=>[Y<|.aC<|side K A e,Y<|.aC<|bU K A l,Y<|.aC<|int g,am]) (cK<|zj M aE) U (λi d s t=>?_) ?_
 .refine aL (cH t) λm b u=>?_;subst u;exact gX 3<|fe<|iI (Tv.eq (dE<|b_<|aO (GY j)<|bM aw aV aM)<|k i m s b) cG
 .rcases wC k a with⟨a,c⟩|⟨m,b,v,c⟩
  .exact aP ⟨by rw[aI];exact a,bB df<|by rw[c]⟩
  .exact aW ⟨_,_,get_map _ b,gX 3 (kh (Tv.eq (dE<|b_<|aO (GY j)<|bM aw aV aM)<|by rw[v];rfl)<|bB df<|by rw[c]),U⟩
def O0(h:l≠[]):iG (l.map<|pt K) 0=(pt K<|l.headD ⟨0,0⟩):=by
 cases l with
 |nil=>lia
 |cons a l=>exact F6 U
def O1{k l:O Pt}{g:Int}(j:uG g):Gy base 5 29 "skeletons_apart" [bU K A k,bU K A l,int g] (bl<|_d.jZ k l g):=by
 refine gy ["first","second","gap","side"] λq E m G=>?_;have s:=(eB<|m _<|.head _).1.1;have t:=(eB<|m _<|.tail _<|.head _).1.1;refine dg (b_<|aO uE<|bM (zk M aw) (zk M aE) aM) (λh=>bB df ?_)<|λh=>dg (Tw.tv<|fK (b_<|aO GZ<|bF aw<|bW (iJ M aE) aG<|O0 t)<|λh=>(iX<|b_<|aO GZ<|bF aE<|bW (iJ M aw) aG<|O0 s)) (λa=>bB df ?_)<|λa=>?_
 .rw[_d.jZ,aH h]
 .rw[_d.jZ,aD (by rw[h];simp),aH a]
 have u:_d.jZ k l g=(edges k).all λe=>_d.nY e l g:=by rw[_d.jZ,aD (by rw[h];simp),aD<|by rw[a];simp]
 rw[u];refine b7 (oy (λe:Sd=>!_d.nY e l g)<|edges k) λn v o b=>?_;refine mU n (by rw[aI];exact v) (λi=>[Y<|.aC<|bU K A k,Y<|.aC<|bU K A l,Y<|.aC<|int g,am]) (cK<|zj M aw) U (λi d x y=>?_) ?_
 .refine aL (cH y) λp c z=>?_;subst z;exact gX 3<|fe<|iI (Tv.eq (dE<|b_<|aO (OZ j)<|bM aV aE aM)<|o i p x c) cG
 .rcases wC o b with⟨b,f⟩|⟨p,c,C,f⟩
  .exact aP ⟨by rw[aI];exact b,bB df<|by rw[f]⟩
  .exact aW ⟨_,_,get_map _ c,gX 3 (kh (Tv.eq (dE<|b_<|aO (OZ j)<|bM aV aE aM)<|by rw[C];rfl)<|bB df<|by rw[f]),U⟩
abbrev zt(p:Pt):jv:=.tuple [.int p.x,.int p.y]
def zu p:wo K (pt K p) (zt p):=⟨λG v⟨_,a,f,e,h,r⟩=>by refine be (all2 r) λu w b c d=>?_;subst b;subst e c d;exact .tup h<|.cons (.int _)<|.cons (.int _) .nil,U⟩
def G5 p q:vn (zt p) (zt q)=decide (p=q):=by show((p.x==q.x)&&((p.y==q.y)&&L))=_;rw[fV];cases p;cases q;simp
def G6{E:O Sd}(h:i<E.length):iG (E.map<|side K A) (i-1)=(side K A<|_d.rN E i):=by
 delta _d.rN
 by_cases c:i=0
 .grind-order [aaZ]
 .rw[aD c];refine b8 (n:=i-1) ap<|get_map _ ?_;grind-order
def G7{ds:O Rp}(h:(ds.mapIdx λi d=>tup K [int i,d])[i]?=Y d):∃e,ds[i]?=Y e/\d=tup K [int (i:Nat),e]:=by grind-order
def O2{ds:O Rp}(h:ds[i]?=Y d):(ds.mapIdx λi d=>tup K [int i,d])[i]?=(tup K [int (i:Nat),d]):=bG
def ab2{l:O Pt}(t:3<=l.length)(N:l.length<=32):Gy base 5 14 "is_simple" [pts K l] (bl<|_d.vR l):=by
 refine gy ["points","sides","side","last","i","others","other"] λq Q hI nd=>?_;have T:=(Q.mono<|show 0<=4 by decide).units;have akF:l≠[]:=by intro z;rw[z]at t;simp at t
 have eE:(edges l).length=l.length:=_d.Fx t;refine bz 1 (aO (OS akF N)<|aS aw) ?_;refine dg (b_<|zg M.any (bs:=(edges l).map λe=>decide<|e.1=e.2)<|bu.ev<|eA.fw<|d6 (l:=edges l) (g:=λe=>bl<|decide<|e.1=e.2) (own:=[("side",2)]) (cK aE) (dD U) (λe _=>⟨_,eu 2,λs x C y E=>Ev.eq (dF<|Nu T (gO M aM) (jo M aM) (zu _)<|zu _)<|by rw[G5]⟩)<|by rw[c9];rfl) (λh=>bB df ?_)<|λh=>bz 3 (cZ (cO M.len aE) aG) ?_
 .have h:((edges l).any λe=>decide<|e.1=e.2)=L:=by rw[JM]at h;exact h
  rw[_d.vR,aH h]
 have h:¬((edges l).any λe=>decide<|e.1=e.2)=L:=by rw[JM]at h;exactλz=>by rw[show((edges l).any λe=>decide<|e.1=e.2)=aA from h]at z;cases z
 have hf:_d.vR l=(c8 (edges l).length).all λi=>_d.tZ (edges l) i ((edges l).getD i (⟨0,0⟩,⟨0,0⟩)):=by rw[_d.vR,aD h]
 rw[hf];obtain⟨n,G,H,k⟩:=oy (λi=>!_d.tZ (edges l) i ((edges l).getD i (⟨0,0⟩,⟨0,0⟩)))<|c8 (edges l).length;rw[mG]at G;have akI:∀(i:Nat)(e:Sd),(edges l)[i]?=Y e->∀X:Cx,True:=λ_ _ _ _=>trivial
 have m:∀(i:Nat),i<(edges l).length->((i:Int)=0->eX ((edges l).map<|side K A) (Y<|(i:Int)+2) (Y<|((((edges l).map<|side K A).length:Nat):Int)-1)=(_d.iS (edges l) i).map (side K A))/\(¬(i:Int)=0->eX ((edges l).map<|side K A) (Y<|(i:Int)+2) am=(_d.iS (edges l) i).map (side K A)):=λi b=>by
  constructor
  .intro z;have z:i=0:=aU;subst z;rw[_d.iS,aH U,aI,show((0:Nat):Int)+2=((2:Nat):Int)from U,show(((edges l).length:Nat):Int)-1=(((edges l).length-1:Nat):Int) by omega,Os,xW,EQ]
  .intro z;rw[_d.iS,aD aU,show(i:Int)+2=((i+2:Nat):Int) by omega,jG,xW]
 have I:∀(e:Sd)(os:O Sd),((os.map λf=>_d.iD e.1 e.2 f.1 f.2).any id)=os.any λf=>_d.iD e.1 e.2 f.1 f.2:=λe os=>by rw[JM];rfl
 refine mU n (by rw[nK,aI];exact G) (λi=>[Y<|.aC<|pts K l,Y<|.aC<|lst<|(edges l).map<|side K A,am,Y<|.aC<|int<|(((edges l).map<|side K A).length:Nat)-1,am,am,am]) (uu (K:=K) M.enumerate aE) U (λi d b hd=>?_) ?_
 .obtain⟨d',akG,rfl⟩:=G7 hd;obtain⟨e,c,rfl⟩:=cH akG;have o:=(dH.mp c).1;have j:=H i i b<|EO o;rw[jt,c,vx,_d.tZ]at j
  have akH:_d.qi (_d.rN (edges l) i).1 e.1 e.2=aA:=by
   cases q:_d.qi (_d.rN (edges l) i).1 e.1 e.2 with
   |false=>rfl
   |true=>rw[q]at j;simp at j
  have u:((_d.iS (edges l) i).any λf=>_d.iD e.1 e.2 f.1 f.2)=aA:=by
   cases q:((_d.iS (edges l) i).any λf=>_d.iD e.1 e.2 f.1 f.2)with
   |false=>rfl
   |true=>rw[q]at j;simp at j
  refine ly 4 2 (fe (iI (Tv.eq (b_<|aO GV<|bM (gO M<|bW aE (cZ bZ aG)<|G6 o) (gO M aM)<|jo M aM) akH)
   (bz 5 (h_ (d:=lst<|(_d.iS (edges l) i).map<|side K A) (bi<|fL bZ aG) (λh=>Ev.eq (bu.ev<|fk aE (.dW<|cY bZ aG)<|.dW aV)<|bJ lst<|(m i o).1<|cM h)<|λh=>Ev.eq (bu.ev<|fk aE (.dW<|cY bZ aG) .none_)<|bJ lst<|(m i o).2<|cX h)
    (iI (Tv.eq (b_<|zg M.any (bs:=(_d.iS (edges l) i).map λf=>_d.iD e.1 e.2 f.1 f.2)<|bu.ev<|eA.fw<|d6 (l:=_d.iS (edges l) i) (g:=λf=>bl<|_d.iD e.1 e.2 f.1 f.2) (own:=[("other",6)]) (cK dU) (dD U) (λf' _=>⟨_,eu 6,λs x C y E=>(aO GW<|bF aM<|cJ 6 U)⟩)<|by rw[c9];rfl)<|by rw[I,u]) cG))))
 .rcases wC H k with⟨k,p⟩|⟨i,b,v,p⟩
  .exact aP ⟨by rw[nK,aI];rw[mG]at k;exact k,bB df<|by rw[p]⟩
  .have a:=(dH.mp b).1;rw[mG]at a;rw[EO a]at b;cases b;have c:(edges l)[n]?=Y ((edges l)[n]):=dq a;rw[jt,c,vx,_d.tZ]at v;refine aW ⟨_,_,O2<|get_map _ c,?_,U⟩;cases q:_d.qi (_d.rN (edges l) n).1 (edges l)[n].1 (edges l)[n].2 with
   |true=>exact ly 4 2<|kh (Tv.eq (b_<|aO GV<|bM (gO M<|bW aE (cZ bZ aG)<|G6 a) (gO M aM)<|jo M aM) q)<|bB df<|by rw[p]
   |false=>
    have u:((_d.iS (edges l) n).any λf=>_d.iD (edges l)[n].1 (edges l)[n].2 f.1 f.2)=L:=by
     cases q':((_d.iS (edges l) n).any λf=>_d.iD (edges l)[n].1 (edges l)[n].2 f.1 f.2)with
     |true=>rfl
     |false=>rw[q,q']at v;simp at v
    exact ly 4 2 (iI (Tv.eq (b_<|aO GV<|bM (gO M<|bW aE (cZ bZ aG)<|G6 a) (gO M aM)<|jo M aM) q)
     (bz 5 (h_ (d:=lst<|(_d.iS (edges l) n).map<|side K A) (bi<|fL bZ aG) (λh=>Ev.eq (bu.ev<|fk aE (.dW<|cY bZ aG)<|.dW aV)<|bJ lst<|(m n a).1<|cM h)<|λh=>Ev.eq (bu.ev<|fk aE (.dW<|cY bZ aG) .none_)<|bJ lst<|(m n a).2<|cX h)
      (kh (Tv.eq (b_<|zg M.any (bs:=(_d.iS (edges l) n).map λf=>_d.iD (edges l)[n].1 (edges l)[n].2 f.1 f.2)<|bu.ev<|eA.fw<|d6 (l:=_d.iS (edges l) n) (g:=λf=>bl<|_d.iD (edges l)[n].1 (edges l)[n].2 f.1 f.2) (own:=[("other",6)]) (cK dU) (dD U) (λf' _=>⟨_,eu 6,λs x C y E=>(aO GW<|bF aM<|cJ 6 U)⟩)<|by rw[c9];rfl)<|by rw[I,u])<|bB df<|by rw[p])))
def O3{l:O Pt}(b:l≠[])(c:l.length<=32):Gy base 6 19 "is_skeleton" [pts K l] (bl<|k_ l):=by
 refine gy ["points"] λq d f g=>?_;have e:=(d.mono<|show 0<=5 by simp).units;by_cases a:3<=l.length
 .refine kh (Tv.eq (bi<|iq (cO M.len aw) aG)<|dm<|by rw[aI];lia)<|bB (aO (ab2 a c)<|aS aw) ?_;rw[_d.V3 a]
  match l,a with
  |p::q::r::l,_=>rfl
 .refine iI (Tv.eq (bi<|iq (cO M.len aw) aG)<|kF<|by rw[aI];lia) ?_
  match l,b,a with
  |[p],_,_=>exact bB (qv (dF<|fL (cO M.len aw) aG) (λh=>absurd h au) (q:=aA)) U
  |[p,q],_,_=>exact bB (qv (dF<|fL (cO M.len aw) aG)<|λh=>pv<|dF<|aah e (bW aw aG U) (bW aw aG U) (zu p)<|zu q)<|by rw[G5];simp[k_]
  |p::q::r::l,_,h=>simp at h
end
open Vbpcad (within)
section
variable{P:bO}{w:bN}{K:aJ}{mg:aq->aR aB}{base:bf}{A:Ad}[Z:Zc P w K mg A]
def ab3{v:Int}:Gy base 1 110 "is_thickness" [int v] (bl<|within 1 v 10000000):=gy ["value"] λq a b c=>bI<|qA eT eT aG aw<|bX M.aau
def O4{v:Int}:Gy base 1 111 "is_radius" [int v] (bl<|within 0 v 1000000000):=gy ["value"] λq a b c=>bI<|qA eT eT aG aw<|bX M.aav
def ab4{v:Int}:Gy base 1 112 "is_margin" [int v] (bl<|within 1 v 1000000000):=gy ["value"] λq a b c=>bI<|qA eT eT aG aw<|bX M.GF
def ab5{v:Int}:Gy base 1 113 "is_pitch" [int v] (bl<|within 1 v 1000000000):=gy ["value"] λq a b c=>bI<|qA eT eT aG aw<|bX M.aaw
def sG{v:Int}:Gy base 1 114 "is_coordinate" [int v] (bl<|within (-1000000000) v 1000000000):=gy ["value"] λq a b c=>bI<|qA eT eT (sf<|bX M.NH) aw<|bX M.NH
def O5{v:Int}:Gy base 1 115 "is_point_count" [int v] (bl<|within 1 v 32):=gy ["value"] λq a b c=>bI<|qA eT eT aG aw<|bX M.aax
def O6{v:Int}:Gy base 1 116 "is_cell_count" [int v] (bl<|within 1 v 24):=gy ["value"] λq a b c=>bI<|qA eT eT aG aw<|bX M.aaA
abbrev m9(lo hi c:Int):Bool:=decide (1<=lo)&&(decide (lo<=hi)&&decide (hi<=c))
def O7{lo hi c:Int}:Gy base 1 117 "are_layers" [int lo,int hi,int c] (bl<|m9 lo hi c):=gy ["lo","hi","coppers"] λq a b d=>bB (aag eT eT eT aG aw aE aM) U
def wD{l:O Int}:Gy base 1 41 "coppers_in" [nums l] (int<|((l.length:Nat)+1)/2):=gy ["thicknesses"] λq a b c=>bB (uo (cY (cO M.len aw) aG) aG ⟨au,au⟩) au
def C5(b:bC):int ((((b.stack.map tK).length:Nat)+1)/2)=int b.layers:=by simp[UT]
abbrev rf(p:Bool)(c:Int):Int:=if p=L then 0 else c
def qE(d:Tv X a c p)(e:Ev X a b (int k)):Ev X a (.IfExp c (dX (.int 0) j q) b ao) (int<|rf p k):=
 h_ d (λh=>Ev.eq aG<|by rw[rf,aH h])<|λh=>Ev.eq e<|by rw[rf,aD ap]
abbrev nr:O Int->Int
 |[]=>0
 |a::l=>if a<0/\(nr l=0\/nr l<a)then a else nr l
def G8:∀{l:O Int}{a:Int},a∈l->a<0->a<=nr l/\nr l<0
 |b::l,a,h,h0=>by
  rw[nr];obtain rfl|h:=cU.mp h
  .split
   .lia
   .have c:=oE l
    lia
  .obtain _:=G8 h h0;omega
where
 oE:∀l,nr l<=0
  |[]=>lJ _
  |b::l=>by rw[nr];have:=oE l;omega
def G9:∀l,nr l=0\/(nr l∈l/\nr l<0)
 |[]=>aP U
 |b::l=>by
  rw[nr];split
  .simp_all
  .rcases G9 l with h|_<;>simp_all
def ab6(l:O Int):(l.map λv=>if v<0 then Y (int v)else am).filterMap id=(l.filter λv=>decide<|v<0).map int:=by
 induction l<;>grind
def wF{l:O Int}:Gy base 1 148 "nearest_refusal" [nums l] (int<|nr l):=by
 refine gy ["refusals","refusal"] λq H I c=>bI<|aba M.max (Ev.eq (bu.ev<|No U c (cK aw) (own:=[("refusal",1)]) (dD U) au λi d g e f=>?_)<|bJ lst<|ab6 l) λm j=>?_
 .refine aL (cH e) λv k n=>?_;subst n;obtain⟨N,b,rfl⟩:=cH f;rw[k]at b;simp at b;subst b;refine fQ _ (eu 1) (λs o C p t=>Tv.eq (bi<|e8 aE aG) ?_)<|λQ a s o C p t=>Ev.eq aE ?_
  .by_cases h:v<0
   .rw[aH h,dm h];rfl
   .rw[aD h,kF h];rfl
  .by_cases h:v<0
   .rw[aH h]at a;exact bL a
   .rw[aD h]at a;simp at a
 .obtain⟨u,rfl⟩|⟨x,y⟩:=j
  .obtain h|⟨h,z⟩:=G9 l
   .exact h.symm
   .have:nr l∈l.filter λv=>decide (v<0):=q_.mpr ap;rw[u]at this;simp at this
  .let⟨E,G⟩:=q_.mp x;let⟨T,h6⟩:=G8 E (by simpa using G);obtain h|⟨h,z⟩:=G9 l
   .lia
   .have:=y (nr l) bG
    lia
inductive O8(K:aJ)(A:Ad):List Rp->Rp->Prop
 |mk:O8 K A [int v] (bl (decide (v=0)||decide (v=1)))
def G_:Gz base 1 149 "is_place" O8:=by
 refine gz ["place"] λq b c d a e f=>?_;cases a with|@mk v=>?_
 exact bI<|qv (dF<|fL aw aG)<|λh=>(pv<|dF<|fL aw aG)
abbrev lA(l:O Int):Int:=rf (l.all λv=>within (-1000000000) v 1000000000) (-8)
def C6{α:Type}f(l:O α):(l.map f).all id=l.all f:=au
def O9{α:Type}f(l:O α):(l.map f).any id=l.any f:=au
def Ha{l:O Int}:Gy base 2 151 "coordinates_refusal" [nums l] (int<|lA l):=by refine gy ["numbers","number"] λq a b c=>bI<|qE (Tv.eq (b_<|CP M.all<|bu.ev<|eA.fw<|d6 (own:=[("number",1)]) (cK aw) (dD U) (λv _=>aY _ (eu 1)<|λs d C e f=>(aO sG<|aS aE)) au)<|C6 _ _)<|bX M.GI
abbrev fA(l:O (Int×Int)):O Int:=l.flatMap λc=>[c.1,c.2]
def wH{l:O (Int×Int)}(h:l.length<=32):Gy base 1 7 "paired" [nums<|fA l] (lst<|l.map<|ip K):=by refine gy ["numbers"] λq a b c=>bI<|Ev.eq (bu.ev<|abv M.list M.zip (bu.ev<|OG aw<|aby l) (bu.ev<|OG aw<|abz l) au) ?_;rw[c9,c9,List.zip_map',c9];rfl
abbrev km(c:Int×Int):Pt:=⟨c.1,c.2⟩
abbrev ko(l:O Int):Bool:=decide ((l.length:Int)%2=1)||!within 1 (l.length/2) 32
def zw:∀l:O (Int×Int),A7 (fA l)=(l.map km)
 |[]=>rfl
 |c::l=>by show(A7<|fA l).map _=_;rw[zw l];rfl
def pH l:iB (fA l)=l.map km:=by simp[iB,zw]
def C7 l:(fA l).length=2*l.length:=by
 induction l<;>grind-ring [fA]
def C8:∀l,l.length%2=0->∃m,l=fA m
 |[],_=>⟨[],U⟩
 |[a],h=>by simp_all
 |a::b::l,h=>
  mH (C8 l bh) λm e=>
  ⟨(a,b)::m,e▸U⟩
def Hb(h:((fA l).all λv=>within (-1000000000) v 1000000000)=L):∀c∈l,dh (km c):=by intro c d;rw[dR]at h;have a:=h c.1 (by grind[fA]);have b:=h c.2 (by grind[fA]);simp[within]at a b;exact⟨a,b⟩
def zx{l:O (Int×Int)}(h:∀c∈l,dh<|km c)(q:(lst<|l.map<|ip K).r G v):(pts K<|l.map km).r G v:=by refine be q λa j e k b=>?_;refine cn a j e k ?_;rw[c9];refine bv.of_get (by rw[b.length,aI,aI]) λi v d m n=>?_;obtain⟨x,f,rfl⟩:=cH n;refine aL (b.get' m) λo g r=>?_;rw[cT,f]at g;obtain rfl:=bL g;exact⟨h x<|eD f,r⟩
abbrev iw(l:O Int):Int:=if ko l=L then-7 else if lA l<0 then lA l else rf (k_<|iB l) (-9)
def C9(h:¬lA l<0):(l.all λv=>within (-1000000000) v 1000000000)=L:=by grind[lA,rf]
def Hc{l:O Int}:(((l.map int).length:Nat):Int)=l.length:=au
def wJ(h:ko l=aA):∃m:O (Int×Int),l=fA m/\1<=m.length/\m.length<=32:=by grind[ko,within,C8,C7]
def Hd{l:O Int}:Gy base 7 152 "points_refusal" [nums l] (int<|iw l):=by
 refine gy ["numbers","refusal"] λq f g i=>?_;refine dg (Tv.eq (q:=ko l) (Tw.tv<|fK (bi<|fL (y_ (cO M.len aw) aG au) aG)<|λh=>(iX<|dE<|b_<|aO O5<|aS<|uo (cO M.len aw) aG ⟨au,au⟩))<|by delta ko;rw[Hc]) (λh=>bB (bX M.NN)<|by rw[iw,aH h])<|λh=>bz 1 (aO Ha<|aS aw) ?_;have b:iw l=if lA l<0 then lA l else rf (k_<|iB l) (-9):=by rw[iw,aD<|by rw[h];simp]
 refine dg (bi<|e8 aE aG) (λa=>bB aE<|by rw[b,aH<|cM a])<|λa=>?_;have a:=cX a;refine b7 (wJ h) λm e c d=>?_;subst e;refine bB (qE (b_<|aO (O3 (by intro z;rw[Ec]at z;rw[z]at c;simp at c) (by rw[aI];exact d)) (aS<|Ev.as (aO (wH d)<|aS aw) λ_ _=>zx<|Hb<|C9 a)) (bX M.NO)) (by rw[b,aD a,pH])
abbrev sI(l:O Int):Int:=if iw l<0 then iw l else rf (decide<|6<=(l.length:Int)) (-9)
def ab7{l:O Int}:Gy base 8 153 "polygon_refusal" [nums l] (int<|sI l):=by refine gy ["numbers","refusal"] λq a b c=>bz 1 (aO Hd<|aS aw) (dg (bi<|e8 aE aG) (λh=>bB aE<|by rw[sI,aH<|cM h])<|λh=>bB (qE (bi<|lX (cO M.len aw) aG)<|bX M.NO) ?_);rw[sI,aD<|cX h,Hc]
abbrev zy(b:bC)(lo hi:Int):Int:=rf (m9 lo hi b.layers) (-3)
def ab8{b:bC}{lo hi:Int}:Gy base 2 154 "layers_refusal" [ba K A b,int lo,int hi] (int<|zy b lo hi):=gy ["board","lo","hi"] λq a c d=>bI<|qE (b_<|aO O7<|bM aE aM<|Ev.eq (aO wD<|aS<|kQ M aw)<|C5 b)<|bX M.NM
abbrev oF(b:bC)(k lo hi r a:Int):Int:=nr [zy b lo hi,rf (within 0 k a) (-4),rf (within 0 r 1000000000) (-5)]
def He{b:bC}{k lo hi r a:Int}{l:O Int}:Gy base 3 155 "thing_refusal" [ba K A b,nums (k::lo::hi::r::l),int a] (int<|oF b k lo hi r a):=gy ["board","numbers","last_kind","kind_refusal","radius_refusal"] λq c d e=>bz 3 (qE (ut eT eT aG (bW aE aG<|b8 U U) aM)<|bX M.aaF)<|bz 4 (qE (b_<|aO O4<|aS<|bW aE aG<|b8 (n:=3) U U)<|bX M.aaG)<|bI<|aO (wF (l:=[_,_,_]))<|aS<|cz<|bM (aO ab8<|bM aw (bW aE aG<|b8 (n:=1) U U)<|bW aE aG<|b8 (n:=2) U U) aV bZ
def O_{m:Int}:Gy base 2 156 "margin_refusal" [int m] (int<|rf (within 1 m 1000000000) (-6)):=gy ["margin"] λq a b c=>bI<|qE (b_<|aO ab4<|aS aw)<|bX M.aaH
abbrev uH(b:bC)(i j:Int):Bool:=!decide (i=j)&&(within 1 i b.layers&&within 1 j b.layers)
def ab9{b:bC}{i j:Int}:Gy base 2 157 "between_refusal" [ba K A b,int i,int j] (int<|rf (uH b i j) (-3)):=gy ["board","i","j","coppers"] λq a c d=>bz 3 (Ev.eq (aO wD<|aS<|kQ M aw)<|C5 b)<|bI<|qE (Tw.tv<|uq (bi<|qw aE aM)<|λh=>(uq (ut eT eT aG aE aV)<|λh=>(wl<|ut eT eT aG aM aV)))<|bX M.NM
def wK{n c:Int}:Gy base 1 158 "number_refusal" [int n,int c] (int<|rf (decide (0<=n)&&decide (n<c)) (-10)):=gy ["number","count"] λq a b d=>bI<|qE (ut eT Cq aG aw aE)<|bX M.aaI
abbrev m_(x y p c r:Int):Int:=if(!within 1 c 24||!within 1 r 24)=L then-7 else if(!within 1 p 1000000000)=L then-8 else lA [x,y,x+(c-1)*p,y+(r-1)*p]
def ab_{x y p c r:Int}:Gy base 3 159 "raster_refusal" [int x,int y,int p,int c,int r] (int<|m_ x y p c r):=by
 refine gy ["x","y","pitch","columns","rows"] λq b d f=>?_;refine dg (Tw.tv<|fK (dE<|b_<|aO O6<|aS aV)<|λh=>(iX<|dE<|b_<|aO O6<|aS bZ)) (λh=>bB (bX M.NN)<|by rw[m_,aH h]) (λh=>dg (dE<|b_<|aO ab5<|aS aM) (λa=>bB (bX M.GI)<|by rw[m_,aD (by rw[h];simp),aH a])<|λa=>?_);have e:m_ x y p c r=lA [x,y,x+(c-1)*p,y+(r-1)*p]:=by rw[m_,aD (by rw[h];simp),aD<|by rw[a];simp]
 have g:(1<=c/\c<=24)/\(1<=r/\r<=24):=by simp only[pV,jU,within,c6,fr]at h;exact h
 have i:1<=p/\p<=1000000000:=by simp only[jU,within,c6,fr]at a;exact a
 exact bB (aO (Ha (l:=[_,_,_,_]))<|aS<|cz<|kg aw aE (cY aw<|fJ (cZ aV aG) aM<|cm ap)<|cY aE<|fJ (cZ bZ aG) aM<|cm ap)<|by rw[e]
end
open Vbpcaa (normal lowest)
section
variable{P:bO}{w:bN}{K:aJ}{mg:aq->aR aB}{base:bf}{A:Ad}[Z:Zc P w K mg A]
instance:Inhabited Pt:=⟨⟨0,0⟩⟩
def zz l:(kJ l).length=2*l.length:=by
 induction l<;>grind-ring [kJ]
def ab'{l:O Pt}(h:l[n]?=Y p):(kJ<|l.take<|n+1).map int=(kJ<|l.take n).map int++[int p.x,int p.y]:=by rw[kJ,take_snoc h,J8,cN];rfl
def Hf{l:O Pt}:Gy base 1 8 "coordinates_of" [bU K A l] (nums<|kJ l):=by refine gy ["skeleton","numbers","point"] λq f a g=>?_;have h:=(eB<|a _<|.head _).1.2;refine jl 1 (iY eW) (lz (λn=>[Y<|.aC<|bU K A l,Y<|.own<|(kJ<|l.take n).map int,am]) (cK<|iJ M aw) U (λn d b=>?_)<|jk 1 U<|bB aE<|by rw[aI,ij];rfl);refine aL (cH b) λp c e=>?_;subst e;rw[ab' c];refine gX 2<|Ot 1 U (Ev.wit aM) ?_<|fe cG;rw[aI,zz,jr];exact cS (show _<=100 by simp only[c_,p6];lia) bw
abbrev l8(p:Pt):O Int:=[p.y,p.x]
def Pa p q:HT.lexLt (l8 q) (l8 p)=aA↔_d.lQ p q:=by
 (simp only[l8,_d.lQ,HT.Mj,HT.Ml];lia)
def aca a b c(d:HT.lexLt (l8 a) (l8 b)=L)(e:HT.lexLt (l8 b) (l8 c)=L):HT.lexLt (l8 a) (l8 c)=L:=by(simp_all[HT.lexLt,l8];lia)
def acb a:HT.lexLt (l8 a) (l8 a)=aA:=by simp[Pa,_d.lQ]
def acd(h:o≠[]):∃b∈o,∀q∈o,_d.lQ b q:=by obtain⟨p,r,rfl⟩:=aiQ h;obtain _:=_d.Fu r p;grind
abbrev jp(l:O Pt):O Pt:=if _d.vQ l<0 then l.reverse else l
def Pb(h:l≠[]):jp l≠[]:=by rw[jp];split<;>simp_all
def Pc l:(jp l).length=l.length:=by grind[jp]
def Pd{l:O Pt}(h:l≠[]):∃(b:Pt)(i:Nat),(b∈jp l/\∀q∈jp l,_d.lQ b q)/\(jp l)[i]?=b/\(∀j,j<i->(jp l)[j]?≠Y b)/\(jp l).drop i++(jp l).take i=cP l:=
 aL (acd<|Pb h) λb a c=>
 b7 (oy (λq=>decide<|q=b)<|jp l) λn o p d=>
 have e:∀j,j<n->(jp l)[j]?≠b:=λj s z=>bh
 have f:(jp l)[n]?=b:=by
  obtain d|⟨x,g,k⟩:=d
  .obtain⟨m,t,rfl⟩:=A0 a;grind-order
  .rw[g,cM k]
 ⟨b,n,⟨a,c⟩,f,e,_d.VY U c f e h⟩
def uI(h:l≠[]):(cP l).length=l.length:=by refine de (Pd h) λb i _ a _ e=>?_;grind-order [Pc]
def Pe(h:l≠[]):cP l≠[]:=by grind[uI]
def Pf(h:(pt K p).r G v):∃t,v=.ref t/\cx K G t ((([p.x,p.y])).map .int):=by obtain⟨_,a,c,e,d,r⟩:=h;refine be (all2 r) λu w b f g=>?_;subst b;simp_all[int]
def ace{l:O Pt}(c:l≠[])(o:l.length<=32):Gy base 3 17 "form_of" [pts K l] (pts K<|cP l):=by
 refine gy ["points","ordered","first"] λq g Q T=>?_;obtain⟨b,i,⟨s,t⟩,u,C,E⟩:=Pd c;refine jl 1 (aae M.list aw)<|lx (Γ':=[Y<|.aC<|pts K l,Y<|.own<|(jp l).map<|pt K,am]) (bi<|e8 (aO (GX o)<|aS aw) aG) (λh=>?_) (λh=>?_)<|jk 1 U ?_
 .rw[jp,aH<|cM h,UU];exact abF 1 U cG
 .rw[jp,aD<|cX h];exact cG
 refine bz 2 (abG (f:=pt K) (l:=jp l) (kf:=λp=>[p.x,p.y]) (n:=[b.x,b.y]) (j:=i) (d:=pt K b) (by have:=g.un;rw[Around.in1_units];lia) aE
  (abd (f:=pt K) (l:=jp l) (kf:=l8) M.min ab1 (g.mono au) aE (λp _=>.mk) (Pb c) aca acb λx H I G v r=>?_) (λx G v=>Pf) (λG v=>Pf) (get_map _ u) λm N z=>?_) ?_
 .have e:x=b:=_d.K5 ((Pa x b).mp<|I b s)<|t x H;rwa[<-e]
 .refine aL (cH z) λp k e=>?_;have:p=b:=by
   have a:=e.symm;simp only[UV,and_true]at a;cases p;cases b;simp only at a;rw[a.1,a.2]
  rw[this]at k;exact C m N k
 refine bB (bu.ev<|jj (bu.ev<|fk aE (.dW aM) .none_) (bu.ev<|fk aE .none_<|.dW aM) ?_) ?_
 .rw[jG,wy,jR,jr,aI,Pc];exact cS (show _<=100 by omega) bw
 .rw[jG,wy,<-E];show lst _=lst _;rw[cN,xW,EQ]
def zA{l:O Pt}(a:l≠[])(b:l.length<=32):Gy base 7 18 "skeleton_in_form" [pts K l] (bU K A<|cP l):=gy ["points"] λq c d e=>bI<|gv OU (aS<|aO (ace a b)<|aS aw)<|.mk (Pe a)<|by rw[uI a];omega
def Pg{l:O Pt}(a:l≠[])(b:l.length<=32):Gy base 8 20 "skeleton_of" [pts K l] (opt<|if k_ l=L then(bU K A<|cP l)else am):=gy ["points"] λq c d e=>bI<|h_ (b_<|aO (O3 a b)<|aS aw) (λh=>Ev.eq (aO (zA a b)<|aS aw)<|(aH h)▸U)<|λh=>Ev.eq kd<|by rw[aD<|by rw[h];simp];rfl
def acf(a:l.length<=32):pb l=(decide (2<(l.length:Int))&&k_ l):=by
 unfold pb
 match l,a with
 |[],_=>rfl
 |[_],_=>rfl
 |[_,_],_=>rfl
 |p::q::r::l,a=>
  rw[dm<|⟨au,a⟩,dm<|by(simp;lia)];rfl
def acg{l:O Pt}(b:l≠[])(a:l.length<=32):Gy base 9 21 "polygon_of" [pts K l] (opt<|if pb l=L then(bU K A<|cP l)else am):=by refine gy ["points"] λq c d e=>?_;rw[acf a];refine bI<|h_ (Tv.eq (q:=decide<|2<(l.length:Int)) (bi<|iq (cO M.len aw) aG) au) (λh=>Ev.eq (aO (Pg b a)<|aS aw) ap)<|λh=>Ev.eq kd<|h▸U
end
open Vbpcad (within numbered)
section
variable{P:bO}{w:bN}{K:aJ}{mg:aq->aR aB}{base:bf}{A:Ad}[Z:Zc P w K mg A]
def fg(h:bA (ba K A b)):mW b:=h.wit.1
def qF(h:bA (ba K A b)):bA (bU K A b.outline):=h.wit.2.ins (f:="outline") U
def pJ(h:bA (ba K A b)):∀c∈b.cuts,bA (bU K A c):=λc a=>(h.wit.2.ins (f:="cuts") U).lst _<|nJ a
def pK(h:bA (ba K A b)):∀k∈b.keeps,bA (keep K A k):=λk a=>(h.wit.2.ins (f:="keeps") U).lst _<|nJ a
def sJ(h:bA (keep K A k)):CS k:=h.wit.1
def qG(h:bA (keep K A k)):bA (bU K A k.shape.pts):=h.wit.2.ins (f:="skeleton") U
def uJ(h:bA (ba K A b)):_d.jz b:=⟨(fg h).out,(fg h).cut,λk a=>(eB<|qG<|pK h k a).1.1⟩
inductive Ph K A:List Rp->Rp->Prop
 |mk (h:CS k):Ph K A [int k.kind,int k.lo,int k.hi,int k.shape.r,bU K A k.shape.pts] (keep K A k)
def zB:Mz base 1 "Thing" ["self","kind","lo","hi","radius","skeleton"] Ph:=by
 refine mz Z.abT λq b c d a e f=>?_;cases a with|@mk k h=>?_
 exact aY _ (fM (cJ 1 U) M.pC M.NX<|fM (cJ 2 U) M.pC M.NY<|fM (cJ 3 U) M.pC M.NZ<|fM (cJ 4 U) M.pC M.N0<|fM (cJ 5 U) M.pC M.N1 su)<|λG v q=>⟨h,sx (ia U<|ia U<|ia U<|ia U<|ia U wt) q⟩
inductive Pi K A:List Rp->Rp->Prop
 |mk (h:mW b):Pi K A [nums (b.stack.map .ofNat),bU K A b.outline,lst (b.cuts.map (bU K A)),lst (b.keeps.map (keep K A))] (ba K A b)
def uK:Mz base 1 "Board" ["self","thicknesses","outline","cuts","keeps"] Pi:=by
 refine mz Z.abU λq c e d a f g=>?_;cases a with|@mk b h=>?_
 exact aY _ (fM aE M.sA M.N2<|fM aM M.sA M.N3<|fM aV M.sA M.N4<|fM bZ M.sA M.N5 su)<|λG v q=>⟨h,sx (ia U<|ia U<|ia U<|ia U wt) q⟩
inductive Pj K A:List Rp->Rp->Prop
 |mk (h:o.r<=1000000000):Pj K A [ip K (o.why.1,o.why.2),bU K A o.pts,int o.r] (dP K A o)
def Hg:Mz base 1 "Obstacle" ["self","reason","skeleton","radius"] Pj:=by
 refine mz Z.abV λq b c d a e f=>?_;cases a with|@mk o h=>?_
 exact aY _ (fM aE M.ww M.N6<|fM aM M.ww M.N7<|fM aV M.ww M.N8 su)<|λG v q=>⟨h,sx (ia U<|ia U<|ia U wt) q⟩
inductive Pk(K:aJ)A:List Rp->Rp->Prop
 |mk (h:mX g):Pk K A [int g.x,int g.y,int g.pitch,int g.cols,int g.rows] (dB A g)
def ach:Mz base 1 "Raster" ["self","left","low","pitch","columns","rows"] Pk:=by
 refine mz Z.abW λq b c d a e f=>?_;cases a with|@mk g h=>?_
 exact aY _ (fM (cJ 1 U) M.pD M.N9<|fM (cJ 2 U) M.pD M.N_<|fM (cJ 3 U) M.pD M.N'<|fM (cJ 4 U) M.pD M.Oa<|fM (cJ 5 U) M.pD M.Oc su)<|λG v q=>⟨h,sx (ia U<|ia U<|ia U<|ia U<|ia U wt) q⟩
inductive Pl K A:List Rp->Rp->Prop
 |mk (h:NB g):Pl K A [bU K A g.outline,lst (g.os.map (dP K A)),int g.gap] (fR K A g)
def aci:Mz base 1 "Ground" ["self","outline","obstacles","gap"] Pl:=by
 refine mz Z.abX λq b c d a e f=>?_;cases a with|@mk g h=>?_
 exact aY _ (fM aE M.wx M.Od<|fM aM M.wx M.Oe<|fM aV M.wx M.Of su)<|λG v q=>⟨h,sx (ia U<|ia U<|ia U wt) q⟩
inductive Pn K A:List Rp->Rp->Prop
 |mk:Pn K A [jn K A g.1,jn K A g.2] (ki K A g)
def acj:Mz base 1 "Steps" ["self","rightward","upward"] Pn:=by
 refine mz Z.abY λq b c d a e f=>?_;cases a with|@mk g=>?_
 exact aY _ (fM aE M.CU M.Og<|fM aM M.CU M.Oh su)<|λG v=>sx<|ia U<|ia U wt
def sum_nat(l:O Nat):(l.map tK).sum=((l.foldl (· + ·) 0:Nat):Int):=by
 have h:∀(l:O Nat)n,((l.foldl (· + ·) n:Nat):Int)=n+(l.map .ofNat).sum:=by
  intro l
  induction l<;>simp_all<;>lia
 simp_all
def ack{b:bC}:Gy base 2 42 "board_size" [ba K A b] (nums<|pc [b.layers,b.stack.foldl (· + ·) 0,b.outline.length,b.cuts.length,b.keeps.length]):=by refine gy ["board","coppers"] λq a c d=>bz 1 (Ev.eq (aO wD<|aS<|kQ M aw)<|C5 b)<|bB (cz<|si aE (CQ M.sum<|kQ M aw) (cO M.len<|iJ M<|i4 M aw) (cO M.len<|ib M aw)<|cO M.len<|i5 M aw) ?_;rw[sum_nat,aI,aI,aI];rfl
def btw(l:O Nat){i j:Nat}(hi:1<=i)(a:1<=j):(eX (l.map tK) (Y<|2*((i:Int)-1)+1)<|Y<|2*((j:Int)-1)).sum=(((l.drop<|2*i-1).take<|2*(j-i)-1).foldl (· + ·) 0:Nat):=by rw[show 2*_+1=((2*i-1:Nat):Int) by lia,show 2*_=((2*j-2:Nat):Int) by lia,Os,<-sum_nat,<-EQ,<-xW,aim,aiR,Nat.mul_sub,aiR,show 2+(2*i-1)=2*i+1 by lia]
def acn(l:O Nat){i j:Nat}(hi:1<=i)(a:1<=j):(eX (l.map tK) (Y<|2*(min (i:Int) j-1)+1)<|Y<|2*(max (i:Int) j-1)).sum=(((l.drop<|2*min i j-1).take<|2*(max i j-min i j)-1).foldl (· + ·) 0:Nat):=by rw[show min (i:Int) j=(min i j:Nat) by lia,show max (i:Int) j=(max i j:Nat) by lia];exact btw l (Nat.le_min.2 ⟨hi,a⟩)<|cS hi<|Nat.le_max_left ..
def aco{b:bC}{i j:Nat}(a:1<=i)(c:1<=j)(d:i<=8)(e:j<=8):Gy base 1 43 "thickness_between" [ba K A b,int i,int j] (int<|aiS b i j):=by refine gy ["board","i","j","above","below"] λq f g h=>bz 3 (fJ aG (cZ (Nr M.min aE aM) aG)<|cm ap) (bz 4 (fJ aG (cZ (Nt M.max aE aM) aG)<|cm ap)<|bB (CQ M.sum<|Ev.eq (bu.ev<|fk (kQ M aw) (.dW<|cY aV aG)<|.dW bZ)<|by rw[wn]) ?_);rw[acn _ a c];rfl
def Po:∀(l:O Int)n,l.foldl (· + ·) n=n+l.sum
 |[],n=>by simp
 |a::l,n=>by simp[kU,Po l,Jf,Int.add_assoc]
def acp{b:bC}:Gy base 2 44 "twice_board_area" [ba K A b] (int<|UW b):=by
 refine gy ["board","cut"] λq f d g=>?_;have a:=d _<|.head _;apply bB (cZ (aO (GX (eB<|qF a).1.2)<|aS<|iJ M<|i4 M aw) (CQ M.sum (ns:=b.cuts.map _d.vQ) (bu.ev (eA.fw (d6 (own:=[("cut",1)]) (cK<|ib M aw) (dD U)
  (λc e=>aY _ (eu 1)<|λs h C i j=>aO (GX (eB<|pJ a c e).1.2)<|aS<|iJ M aE) au)))))
 rw[UW,Po,aij,funext _d.K4]
def wL:oz K (pt K) zt 1:=⟨λp G v=>(zu p).dp G v,λ_=>U,λ_=>cg _,G5⟩
abbrev kv(K:aJ)(k:eF):Rp:=tup K [int k.kind,int k.lo,int k.hi,int k.shape.r,pts K k.shape.pts]
def Pp{k:eF}:Gy base 1 45 "keep_values" [keep K A k] (kv K k):=gy ["keep"] λq a b c=>bI<|kP<|si (sC M aw) (uz M aw) (uA M aw) (uB M aw)<|iJ M<|ox M aw
def acq(h:bv G vs [a,b,c,d,e]):∃f g i j k,vs=[f,g,i,j,k]/\a.r G f/\b.r G g/\c.r G i/\d.r G j/\e.r G k:=be (za h) λf _ l m h=>be (za h) λg _ n o h=>be (za h) λi _ p q h=>be (all2 h) λj k s t u=>rH f g i j k (by rw[l,n,p,s]) m o q t u
abbrev kvD(k:eF):jv:=.tuple [.int k.kind,.int k.lo,.int k.hi,.int k.shape.r,.list<|k.shape.pts.map zt]
def acs:oz K (kv K) kvD 3:=⟨λk G v b=>be b λa m e h r=>by
  refine Bq (acq r) λn o p q s c d f g i j=>?_;subst c;subst e d f g i;exact .tup h<|.cons (.int _)<|.cons (.int _)<|.cons (.int _)<|.cons (.int _)<|.cons (wL.list.dp _ _ _ j) .nil,λk=>by
  show(L&&(L&&(L&&(L&&(_&&L)))))=L;rw[wL.list.CZ (K:=K)];rfl,λk=>by
  show max 0 (max 0<|max 0<|max 0<|max _ 0)+1<=3;have:=(wL (K:=K)).list.dep k.shape.pts;simp_all,λk l=>by
  show((k.kind:Int)==l.kind&&((k.lo:Int)==l.lo&&((k.hi:Int)==l.hi&&((k.shape.r:Int)==l.shape.r&&(vn _ _&&L)))))=_;rw[(wL (K:=K)).list.eqv,fV];let⟨t,u,x,y,z⟩:=k;let⟨C,E,H,I,N⟩:=l;simp[Int.natCast_inj]⟩
def acu{a b:bC}:Gy base 2 46 "same_boards" [ba K A a,ba K A b] (bl<|decide<|a=b):=by
 refine gy ["first","second","cut","keep"] λq i j k=>?_;have d:=(i.mono<|dI _).units;apply bB (pw (dF<|oA sD.list d (kQ M aw)<|kQ M aE) (λ_=>pw (dF<|oA wL.list d (iJ M<|i4 M aw)<|iJ M<|i4 M aE) (λ_=>
  pw (dF (oA wL.list.list d
   (bu.ev<|eA.fw<|d6 (own:=[("cut",2)]) (cK<|ib M aw) (dD U) (λc _=>aY _ (eu 2)<|λs e C f h=>(iJ M aM)) U)
   (bu.ev<|eA.fw<|d6 (l:=b.cuts) (own:=[("cut",2)]) (cK<|ib M aE) (dD U) (λc _=>aY _ (eu 2)<|λs e C f h=>(iJ M aM)) U))) (λ_=>
  pv (dF (oA acs.list d
   (bu.ev<|eA.fw<|d6 (own:=[("keep",3)]) (cK<|i5 M aw) (dD U) (λc _=>aY _ (eu 3)<|λs e C f h=>(aO Pp<|aS aV)) U)
   (bu.ev<|eA.fw<|d6 (g:=kv K) (own:=[("keep",3)]) (cK<|i5 M aE) (dD U) (λc _=>aY _ (eu 3)<|λs e C f h=>(aO Pp<|aS aV)) U)))))))
 congr 1;rw[fV];obtain⟨m,n,o,p⟩:=a;obtain⟨t,u,v,z⟩:=b;simp only[c6,fr,akw];rw[List.map_inj_right<|λx y=>akx]
def C_{l o:O Pt}:Gy base 3 47 "all_inside" [pts K l,bU K A o] (bl<|_d.jy l o):=by
 refine gy ["points","outline","point"] λq j k m=>?_
 delta _d.jy
 refine b7 (oy (λp=>!(!decide (_d.dY p o=0))) l) λn s e f=>?_;refine mU n (by rwa[aI]) (λi=>[Y<|.aC<|pts K l,Y<|.aC<|bU K A o,am]) (cK aw) U (λi d g h=>?_) ?_
 .obtain⟨p,b,rfl⟩:=cH h;have a:=e i p g b;rw[Bool.not_not]at a;exact gX 2<|fe<|iI (Tv.eq (bi<|fL (aO uF<|bF aM aE)<|bX M.ux) a) cG
 .obtain⟨f,c⟩|⟨p,b,a,c⟩:=wC e f
  .exact aP ⟨by rwa[aI],bB df<|c▸U⟩
  .rw[jU]at a;exact aW ⟨_,_,get_map _ b,gX 2<|kh (Tv.eq (bi<|fL (aO uF<|bF aM aE)<|bX M.ux) a)<|bB df<|c▸U,U⟩
def Pq{o:O Pt}:Gy base 7 49 "outline_bars" [bU K A o] (lst<|(edges o).map λe=>bU K A [e.1,e.2]):=gy ["outline","side"] λq a b c=>bI<|bu.ev<|eA.fw<|d6 (own:=[("side",1)]) (cK<|zj M aw) (dD U) (λe _=>aY _ (eu 1)<|λs d C f g=>(gv OU (aS<|cz<|bF (gO M aE)<|jo M aE)<|.mk (l:=[_,_]) au au)) U
abbrev qH(c o:O Pt)(cs:O (O Pt)):Bool:=_d.jy c o&&((edges o).map (λe=>[e.1,e.2])++cs).all λd=>_d.jZ c d 1
def Hh(h:o.length<=32):(edges o).length<=32:=by
 match o,h with
 |[],_=>decide
 |[_],_=>simp[edges]
 |[_,_],_=>simp[edges]
 |p::q::r::l,h=>simp_all[_d.Fx]
def Ps{c o:O Pt}{cs:O (O Pt)}(h:cs.length<=8):Gy base 8 50 "cut_fits" [bU K A c,bU K A o,lst<|cs.map<|bU K A] (bl<|qH c o cs):=by
 refine gy ["cut","outline","cuts","other"] λq f b i=>dg (dE<|b_<|aO C_<|bF (iJ M aw) aE) (λa=>bB df<|by delta qH;rw[my]at a;rw[a];rfl) (λa=>bB (CP M.all (bu.ev (eA.fw (d6 (l:=(edges o).map (λe=>[e.1,e.2])++cs) (g:=λd=>bl<|_d.jZ c d 1) (own:=[("other",3)])
  (Iv.eq (cK<|bu.ev<|jj (aO Pq<|aS aE) aM ?_)<|cN▸c9▸U) (dD U) (λd _=>aY _ (eu 3)<|λs j C k m=>aO (O1 ⟨au,au⟩)<|bM aw aV aG) (by rw[c9];rfl))))) ?_)
 .rw[aI,aI];have:=Hh (eB<|b _<|.tail _<|.head _).1.2;exact cS (ap:_<=64) bw
 .rw[jU]at a;rw[C6,qH,a];rfl
inductive Pu K A:List Rp->Rp->Prop
 |mk (h:mW {b with keeps:=b.keeps++[k]}):Pu K A [ba K A b,keep K A k] (ba K A {b with keeps:=b.keeps++[k]})
def Pv{α:Type}(f:α->Rp)l x:l.map f++[f x]=(l++[x]).map f:=au
def jH(h:n<=1000):n<=bK:=cS h bw
def acv:Gz base 3 51 "with_keep" Pu:=by
 refine gz ["board","keep"] λq c e d a f g=>?_;cases a with|@mk b k h=>?_
 have i:=h.keeps;exact bI<|gv uK (kg (kQ M aw) (i4 M aw) (ib M aw)<|Ev.eq (bu.ev<|jj (i5 M aw) (cz<|aS aE)<|jH<|by(simp_all;lia))<|bJ lst<|Pv (keep K A) b.keeps k)<|.mk h
inductive Pw K A:List Rp->Rp->Prop
 |mk (h:mW {b with cuts:=b.cuts++[c]}):Pw K A [ba K A b,bU K A c] (ba K A {b with cuts:=b.cuts++[c]})
def acw:Gz base 3 53 "with_cut" Pw:=by
 refine gz ["board","cut"] λq c e d a f g=>?_;cases a with|@mk b k h=>?_
 have i:=h.cuts;refine bI<|gv uK (kg (kQ M aw) (i4 M aw) (Ev.eq (bu.ev<|jj (ib M aw) (cz<|aS aE) ?_)<|bJ lst<|Pv (bU K A) b.cuts k)<|i5 M aw)<|.mk h;exact jH<|by(simp_all;lia)
def Px{α:Type}(f:α->Rp)(l:O α)(i:Nat):eX (l.map f) am (Y i)++eX (l.map f) (Y<|i+1) am=(l.eraseIdx i).map f:=by rw[show _+1=((i+1:Nat):Int) by lia,wy,jG,List.eraseIdx_eq_take_drop_succ,cN,EQ,xW]
def Py{α:Type}(f:α->Rp)(l:O α)(i:Nat)(h:l.length<=500):(eX (l.map f) am<|Y i).length+(eX (l.map f) (Y<|i+1) am).length<=bK:=by rw[show _+1=((i+1:Nat):Int) by lia,wy,jG,jr,jR,aI];exact jH aU
def Pz{α:Type}(l:O α)i:(l.eraseIdx i).length<=l.length:=bh
def acx{b:bC}{i:Nat}:Gy base 3 52 "without_keep" [ba K A b,int i] (ba K A {b with keeps:=b.keeps.eraseIdx i}):=by refine gy ["board","i"] λq e c f=>?_;have a:=fg<|c _<|.head _;exact bI<|gv uK (kg (kQ M aw) (i4 M aw) (ib M aw)<|Ev.eq (bu.ev<|jj (bu.ev<|fk (i5 M aw) .none_<|.dW aE) (bu.ev<|fk (i5 M aw) (.dW<|cY aE aG) .none_)<|Py _ _ _<|cS a.keeps au)<|bJ lst<|Px _ _ _)<|.mk (b:={b with keeps:=b.keeps.eraseIdx i}) ⟨a.gK,a.odd,a.ow,a.out,a.cuts,a.cut,cS (Pz _ _) a.keeps,λk d=>a.lay k<|aiT d⟩
def acy{b:bC}{i:Nat}:Gy base 3 54 "without_cut" [ba K A b,int i] (ba K A {b with cuts:=b.cuts.eraseIdx i}):=by refine gy ["board","i"] λq e c f=>?_;have a:=fg<|c _<|.head _;exact bI<|gv uK (kg (kQ M aw) (i4 M aw) (Ev.eq (bu.ev<|jj (bu.ev<|fk (ib M aw) .none_<|.dW aE) (bu.ev<|fk (ib M aw) (.dW<|cY aE aG) .none_)<|Py _ _ _<|cS a.cuts au)<|bJ lst<|Px _ _ _)<|i5 M aw)<|.mk (b:={b with cuts:=b.cuts.eraseIdx i}) ⟨a.gK,a.odd,a.ow,a.out,cS (Pz _ _) a.cuts,λk d=>a.cut k<|aiT d,a.keeps,a.lay⟩
def Hi:∀(l:O α)n i,(d_ n l)[i]?=(l[i]?).map λx=>(n+i,x)
 |[],n,i=>rfl
 |a::l,n,0=>rfl
 |a::l,n,i+1=>by
  simp only[d_,xR,Hi l _ i]
  lia
def jI:∀(l:O α)n,(d_ n l).length=l.length
 |[],n=>rfl
 |a::l,n=>by simp[d_,c_,jI,c_]
def Hj f(l:O α):((l.map f).mapIdx λi d=>tup K [int i,d])=(d_ 0 l).map λx=>tup K [int x.1,f x.2]:=by refine iO λi=>?_;simp[rd,cT,cT,Hi];grind
def PB(q:α->Bool):∀l k n,(∀i x,i<n->l[i]?=Y x->q x=aA)->
  (n=l.length->(d_ k l).find? (λx=>q x.2)=am)/\∀x,l[n]?=Y x->q x=L->(d_ k l).find? (λx=>q x.2)=(k+n,x)
 |[],k,n,h=>⟨λ_=>U,λx b=>bh⟩
 |a::l,k,0,h=>⟨λz=>bG,λx b c=>by simp_all[d_]⟩
 |a::l,k,n+1,h=>by
  have d:=h 0 a au U;let _:=PB q l (k+1) n λi x e=>h (i+1) x ap
  (simp_all[d_];lia)
abbrev wM(b:bC)(p:Pt):Nat×Nat:=
 if _d.dY p b.outline=0 then(0,0)else if _d.dY p b.outline=1 then(1,0)
 else match(d_ 0 b.cuts).find? λc=>!decide (_d.dY p c.2=0)with
  |some c=>if _d.dY p c.2=1 then(2,c.1)else(3,c.1)
  |none=>(4,0)
def Db(h:3<=l.length)p:(_d.dY p l=1)↔pU l p=L:=by grind[_d.BH]
def PC(h:3<=l.length)p:(_d.dY p l=0)↔eC l p=aA:=by
 have:=_d.yt h p
 lia
def acz(h:3<=l.length)p:_d.dY p l=0\/_d.dY p l=1\/_d.dY p l=2:=by grind[_d.BH]
def acA(d:mW b)p:wM b p=J9 b p:=by
 delta wM J9
 have e:(d_ 0 b.cuts).find? (λc=>!decide (_d.dY p c.2=0))=(d_ 0 b.cuts).find? λc=>eC c.2 p:=by
  have:∀l n,(∀c∈l,3<=c.length)->(d_ n l).find? (λc=>!decide (_d.dY p c.2=0))=(d_ n l).find? λc=>eC c.2 p:=by
   intro l
   induction l with
   |nil=>intro n _;rfl
   |cons a l k=>
    intro n h;simp[d_,Eo,Eo];simp[_d.yt (h a au) p];rw[k (n+1) λc f=>h c<|by simp[f]]
  exact this _ _ d.cut
 rw[e];by_cases g:eC b.outline p=aA
 .rw[aH<|(PC d.out p).mpr g,aH g]
 .rw[aD<|λz=>g<|(PC d.out p).mp z,aD g];by_cases i:pU b.outline p=L
  .rw[aH<|(Db d.out p).mpr i,aH i]
  .rw[aD<|λz=>i<|(Db d.out p).mp z,aD i];cases q:(d_ 0 b.cuts).find? λc=>eC c.2 p with
   |none=>rfl
   |some c=>
    have f:=d.cut c.2<|_d.t6<|J_ q;simp only;by_cases j:pU c.2 p=L
    .rw[aH<|(Db f p).mpr j,aH j]
    .rw[aD<|λz=>j<|(Db f p).mp z,aD j]
def acB{b:bC}{p:Pt}:Gy base 3 48 "where_on_board" [pt K p,ba K A b] (nums<|jd<|J9 b p):=by
 refine gy ["point","board","where","i","cut"] λq C s E=>?_;have l:=fg<|s _<|.tail _<|.head _;rw[<-acA l];refine bz 2 (aO uF<|bF aw<|i4 M aE)<|dg (bi<|fL aM<|bX M.ux) (λh=>bB (cz<|bF (bX M.aal) aG) ?_)<|λh=>dg (bi<|fL aM<|bX M.CT) (λg=>bB (cz<|bF (bX M.aam) aG) ?_)<|λg=>?_
 .rw[wM,aH<|cM h];rfl
 .rw[wM,aD<|cX h,aH<|cM g];rfl
 have j:wM b p=match(d_ 0 b.cuts).find? λc=>!decide (_d.dY p c.2=0)with
  |some c=>if _d.dY p c.2=1 then(2,c.1)else(3,c.1)
  |none=>(4,0):=by rw[wM,aD<|cX h,aD<|cX g]
 refine b7 (oy (λc=>!decide (_d.dY p c=0)) b.cuts) λn t m f=>?_;obtain⟨u,v⟩:=PB (λc=>!decide (_d.dY p c=0)) b.cuts 0 n m;refine aaX (Δ:=[Y<|.aC<|pt K p,Y<|.aC<|ba K A b,am,am,am]) ⟨aP U,aP U,aW U,aP U,aP U,trivial⟩ ?_;refine mU n (by rw[nK,aI];exact t) (λi=>[Y<|.aC<|pt K p,Y<|.aC<|ba K A b,am,am,am]) (uu (K:=K) M.enumerate<|ib M aE) U (λi d x y=>?_) ?_
 .refine aL (G7 y) λG z k=>?_;subst k;refine aL (cH z) λc e k=>?_;subst k;have a:=m i c x e;rw[jU,fr]at a;exact ly 3 4<|fe<|bz 2 (aO uF<|bF aw bZ)<|iI (Tv.eq (bi<|fL aM<|bX M.CT)<|by rw[a];rfl)<|iI (Tv.eq (bi<|fL aM<|bX M.GE)<|by rw[a];rfl) cG
 .rcases f with f|⟨c,e,a⟩
  .exact aP ⟨by rw[nK,aI];exact f,bB (cz<|bF (bX M.aap) aG)<|by rw[j,u f];rfl⟩
  .refine aW ⟨_,_,O2<|get_map _ e,?_,U⟩;have o:=v c e a;rw[my,tM]at a;have H:=acz (l.cut c<|eD e) p;refine ly 3 4<|bz 2 (aO uF<|bF aw bZ)<|dg (bi<|fL aM<|bX M.CT) (λh=>bB (cz<|bF (bX M.aan) aV) ?_)<|λh=>kh (Tv.eq (bi<|fL aM<|bX M.GE)<|dm ?_)<|bB (cz<|bF (bX M.aao) aV) ?_
   .rw[j,o];simp only;rw[aH<|cM h,Ax];rfl
   .have:=cX h;simp_all
   .rw[j,o];simp only;rw[aD<|cX h,Ax];rfl
def acC{k:eF}{kind lo hi:Int}:Gy base 1 124 "stops" [keep K A k,int kind,int lo,int hi] (bl<|_d.lR k kind lo hi):=by
 refine gy ["keep","kind","lo","hi"] λq a b c=>dg (Tw.tv<|uq (bi<|qw (sC M aw)<|bX M.ND)<|λh=>(wl<|bi<|qw (sC M aw) aE)) (λh=>bB df ?_)<|λh=>bB (pw (dF<|CJ (uz M aw) aV)<|λh=>(pv<|dF<|CJ aM<|uA M aw)) ?_
 .rw[_d.lR,aH<|by simpa using h]
 .rw[_d.lR,aD<|by intro z;rw[kF z.1,kF z.2]at h;simp at h]
abbrev Hk(x:Nat×eF):Ob:=⟨(4,x.1),x.2.shape.pts,x.2.shape.r⟩
def PD{α:Type}{l:O α}{x:α}q(h:l[i]?=x):(l.take<|i+1).filter q=(l.take i).filter q++if q x=L then[x]else[]:=by
 rw[take_snoc h]
 (split<;>simp_all)
def acD{α a:Type}{pre:O a}{l:O α}{x:α}{q:α->Bool}{g:α->a}{f:a->Rp}(h:l[i]?=Y x):
  (pre++((l.take<|i+1).filter q).map g).map f=(pre++((l.take i).filter q).map g).map f++if q x=L then[f<|g x]else[]:=by
 simp[PD q h];cases q x<;>simp
def filter_le{α:Type}(l:O α)i q:((l.take i).filter q).length<=l.length:=bh
def PF{b:bC}{kind lo hi:Int}:Gy base 8 125 "obstacles_of" [ba K A b,int kind,int lo,int hi] (lst<|(_d.obs b kind lo hi).map<|dP K A):=by
 refine gy ["board","kind","lo","hi","e","bar","found","i","cut","keep"] λq hr u nd=>?_;have j:=u _<|.head _;have a:=fg j;have he:=Hh (eB<|qF j).1.2;have hz:(_d.obs b kind lo hi).length<=500:=by
  have:=a.cuts;have:=a.keeps
  delta _d.obs
  rw[cC,cC,aI,aI,aI,jI,jI];have:=UX (λk=>_d.lR k.2 kind lo hi)<|d_ 0 b.keeps;rw[jI]at this;lia
 refine Nw 6 (d6 (l:=d_ 0<|edges b.outline) (g:=λx=>dP K A ⟨(2,x.1),[x.2.1,x.2.2],0⟩) (own:=[("e",4),("bar",5)])
  (Iv.eq (uu (K:=K) M.enumerate<|aO Pq<|aS<|i4 M aw)<|Hj _ _) (dD U)
  (λx _=>aY _ (wm 4 5)<|λs v C y E=>gv Hg (bM (kP<|bF (bX M.aaB) bZ) dU aG)<|.mk (o:=⟨(2,x.1),[x.2.1,x.2.2],0⟩) au) U) ?_
 refine zd 6 U (bu.ev (eA.fw (d6 (l:=d_ 0 b.cuts) (g:=λx=>dP K A ⟨(3,x.1),x.2,0⟩) (own:=[("i",7),("cut",8)])
  (Iv.eq (uu (K:=K) M.enumerate<|ib M aw)<|Hj _ _) (dD U)
  (λx _=>aY _ (wm 7 8)<|λs v C y E=>gv Hg (bM (kP<|bF (bX M.aaC)<|cJ 7 U) (cJ 8 U) aG)<|.mk (o:=⟨(3,x.1),x.2,0⟩) au) U))) ?_ ?_
 .have:=a.cuts;rw[aI,aI,jI,jI];exact jH ap
 let f:O Ob:=((d_ 0<|edges b.outline).map λe=>⟨(2,e.1),[e.2.1,e.2.2],0⟩)++((d_ 0 b.cuts).map λc=>⟨(3,c.1),c.2,0⟩)
 have G:(jV (λx=>dP K A ⟨(2,x.1),[x.2.1,x.2.2],0⟩)<|d_ 0<|edges b.outline)++(jV (λx=>dP K A ⟨(3,x.1),x.2,0⟩)<|d_ 0 b.cuts)=f.map (dP K A):=by rw[cN,c9,c9];rfl
 let F:Nat->O Ob:=λn=>f++(((d_ 0 b.keeps).take n).filter λk=>_d.lR k.2 kind lo hi).map Hk;have H:F 0=f:=by simp[F]
 have I:∀n,(F n).length<=500:=λn=>by
  have:=a.cuts;have:=a.keeps;show(f++_).length<=500;have N:=filter_le (d_ 0 b.keeps) n λk=>_d.lR k.2 kind lo hi;rw[jI]at N;rw[cC,aI,cC,aI,aI,jI,jI]
  lia
 have Q:F ((b.keeps.map<|keep K A).mapIdx λi d=>tup K [int (i:Nat),d]).length=_d.obs b kind lo hi:=by rw[nK,aI];show f++_=_;rw[JI<|by rw[jI];lia];rfl
 refine lz (λn=>[Y<|.aC<|ba K A b,Y<|.aC<|int kind,Y<|.aC<|int lo,Y<|.aC<|int hi,am,am,Y<|.own<|(F n).map<|dP K A,am,am,am]) (uu (K:=K) M.enumerate<|i5 M aw) (by rw[H,<-G];rfl) (λn d T=>?_)<|jk 6 U<|bB (cJ 6 U)<|bJ (λz=>lst<|z.map<|dP K A) Q;refine aL (G7 T) λd' akF m=>?_;subst m;refine aL (cH akF) λk p m=>?_;subst m;have akG:(d_ 0 b.keeps)[n]?=Y (n,k):=by rw[Hi,p];simp
 have t:(F<|n+1).map (dP K A)=(F n).map (dP K A)++if _d.lR k kind lo hi=L then[dP K A<|Hk (n,k)]else[]:=by exact acD (q:=λk=>_d.lR k.2 kind lo hi) akG
 refine ly 7 9<|fe<|lx (Γ':=[Y<|.aC<|ba K A b,Y<|.aC<|int kind,Y<|.aC<|int lo,Y<|.aC<|int hi,am,am,Y<|.own<|(F<|n+1).map<|dP K A,Y<|.aC<|int (n:Nat),am,Y<|.aC<|keep K A k]) (b_<|aO acC<|kg (cJ 9 U) aE aM aV) (λh=>?_) (λh=>?_) cG
 .rw[t,aH h];exact i3 6 U (gv Hg (bM (kP<|bF (bX M.aaD)<|cJ 7 U) (ox M<|cJ 9 U)<|uB M<|cJ 9 U)<|.mk (o:=Hk (n,k)) (sJ<|pK j k<|eD p).r) (by rw[aI];exact p9 (I n) bw) cG
 .rw[t,aD (by rw[h];simp),eG];exact cG
def Hl{b:bC}{t:eF}:Gy base 9 126 "obstacles_to" [ba K A b,keep K A t] (lst<|(_d.obs b t.kind t.lo t.hi).map<|dP K A):=gy ["board","thing"] λq a c d=>bI<|aO PF<|kg aw (sC M aE) (uz M aE)<|uA M aE
@[reducible]def fo(t:eF)(m:Int)(o:Ob):Bool:=_d.j7 t.shape.pts t.shape.r m o
def zC{t:eF}{o:Ob}{m:Int}(b:0<=m)(c:m<=1000000000):Gy base 6 127 "clears" [keep K A t,dP K A o,int m] (bl<|fo t m o):=by refine gy ["thing","obstacle","margin"] λq d a e=>?_;have f:=(sJ<|a _<|.head _).r;have g:=(a _<|.tail _<|.head _).wit.1;exact bI<|aO (O1 ⟨ap,ap⟩)<|bM (GN M aE) (ox M aw)<|cY (cY (uB M aw)<|Oj M aE) aM
@[reducible]def l9(b:bC)(t:eF)(m:Int):O (Nat×Nat):=_d.t8 b t.kind t.lo t.hi t.shape.pts t.shape.r m
def PH{α:Type}q:∀(l:O α)n,(∀i x,i<n->l[i]?=Y x->q x=aA)->
  (n=l.length->l.find? q=am)/\∀x,l[n]?=Y x->q x=L->l.find? q=Y x
 |[],n,h=>au
 |a::l,0,h=>bG
 |a::l,n+1,h=>by have b:=h 0 a au U;obtain _:=PH q l n λi x c=>h (i+1) x bG;simp_all
def acE{b:bC}{t:eF}{m:Int}(h:_d.jy t.shape.pts b.outline=L):(l9 b t m).headD (0,0)=(((_d.obs b t.kind t.lo t.hi).find? λo=>!fo t m o).map (·.why)).getD (0,0):=by simp_all[_d.t8]
def PJ{b:bC}{t:eF}{m:Int}(e:0<=m)(f:m<=1000000000):Gy base 10 128 "first_reason" [ba K A b,keep K A t,int m] (nums<|jd<|(l9 b t m).headD (0,0)):=by
 refine gy ["board","thing","margin","obstacle"] λq v x y=>?_;refine dg (dE<|b_<|aO C_<|bF (iJ M<|ox M aE)<|i4 M aw) (λh=>bB (cz<|bF (bX M.NL) aG) ?_)<|λh=>?_
 .rw[my]at h
  delta l9 _d.t8
  rw[aD<|by rw[h];simp];rfl
 rw[jU]at h;rw[acE h];refine b7 (oy (λo=>!fo t m o)<|_d.obs b t.kind t.lo t.hi) λn k g a=>?_;obtain⟨l,p⟩:=PH (λo=>!fo t m o) _ n g;refine mU n (by rw[aI];exact k) (λi=>[Y<|.aC<|ba K A b,Y<|.aC<|keep K A t,Y<|.aC<|int m,am]) (cK<|aO Hl<|bF aw aE) U (λi d s u=>?_) ?_
 .obtain⟨o,c,rfl⟩:=cH u;exact gX 3<|fe<|iI (Tv.eq (dE<|b_<|aO (zC e f)<|bM aE aV aM)<|g i o s c) cG
 .rcases a with a|⟨o,c,j⟩
  .exact aP ⟨by rw[aI];exact a,bB (cz<|bF aG aG)<|by rw[l a];rfl⟩
  .refine aW ⟨_,_,get_map _ c,gX 3<|kh (Tv.eq (dE<|b_<|aO (zC e f)<|bM aE aV aM) j)<|bB (bu.ev<|aaf (K:=K) M.list<|Oi M aV) ?_,U⟩;rw[p o c j];rfl
def Hm(l:O (Nat×Nat)):(l.flatMap jd).length=2*l.length:=by
 induction l with
 |nil=>rfl
 |cons a l b=>rw[ER,cC,c_];show 2+_=_;lia
def PL(h:bA (ba K A b))kind lo hi:(_d.obs b kind lo hi).length<=100:=by have a:=fg h;have c:=Hh (eB<|qF h).1.2;have:=a.cuts;have:=a.keeps;simp[_d.obs,cC,cC,aI,aI,aI,jI,jI];have:=UX (λk=>_d.lR k.2 kind lo hi)<|d_ 0 b.keeps;rw[jI]at this;lia
def acF{α:Type}{l:O α}{x:α}{q:α->Bool}{g:α->Nat×Nat}(h:l[i]?=x):
  ((pre++((l.take<|i+1).filter q).map g).flatMap jd).map int=((pre++((l.take i).filter q).map g).flatMap jd).map int++if q x=L then[int (g x).1,int (g x).2]else[]:=by
 simp[PD q h];cases q x<;>simp[jd,pc]
def acG{b:bC}{t:eF}{m:Int}(i:0<=m)(j:m<=1000000000):Gy base 10 129 "all_reasons" [ba K A b,keep K A t,int m] (nums (((l9 b t m).length:Nat)::(l9 b t m).flatMap jd)):=by
 refine gy ["board","thing","margin","reasons","obstacle"] λq s k u=>?_;have v:=PL (k _<|.head _) t.kind t.lo t.hi;let a:O (Nat×Nat):=if _d.jy t.shape.pts b.outline=L then[]else[(1,0)];have x:a.length<=1:=by show(if _ then _ else _:O (Nat×Nat)).length<=1;split<;>simp
 let F:Nat->O (Nat×Nat):=λn=>a++(((_d.obs b t.kind t.lo t.hi).take n).filter λo=>!fo t m o).map (·.why);have e:∀n,((F n).flatMap jd).length<=500:=λn=>by rw[Hm];show 2*(a++_).length<=500;have:=filter_le (_d.obs b t.kind t.lo t.hi) n λo=>!fo t m o;rw[cC,aI];omega
 refine jl 3 (aa4 (ds:=((F 0).flatMap jd).map int) (b_<|aO C_<|bF (iJ M<|ox M aE)<|i4 M aw) (λh=>bu.eq (iY eW) ?_)<|λh=>bu.eq (iY<|bF (bX M.NL) aG) ?_) ?_
 .show _=((a++_).flatMap jd).map int;simp only[a];rw[aH h];rfl
 .show _=((a++_).flatMap jd).map int;simp only[a];rw[aD<|by rw[h];simp];rfl
 have f:F ((_d.obs b t.kind t.lo t.hi).map<|dP K A).length=l9 b t m:=by rw[aI];show a++_=_;rw[ij];rfl
 refine lz (λn=>[Y<|.aC<|ba K A b,Y<|.aC<|keep K A t,Y<|.aC<|int m,Y<|.own<|((F n).flatMap jd).map int,am]) (cK<|aO Hl<|bF aw aE) U (λn d l=>?_) ?_
 .obtain⟨o,p,rfl⟩:=cH l;have c:=acF (pre:=a) (g:=λo:Ob=>o.why) (q:=λo=>!fo t m o) p;refine gX 4<|fe<|lx (Γ':=[Y<|.aC<|ba K A b,Y<|.aC<|keep K A t,Y<|.aC<|int m,Y<|.own<|((F<|n+1).flatMap jd).map int,Y<|.aC<|dP K A o]) (dE<|b_<|aO (zC i j)<|bM aE bZ aM) (λh=>?_) (λh=>?_) cG
  .rw[aH h]at c;rw[c];exact Ot 3 U (Oi M bZ) (by rw[aI];exact jH (by have:=e n;show _+2<=1000;omega)) cG
  .rw[aD (by rw[h];simp),eG]at c;rw[c];exact cG
 .rw[f];refine jk 3 U<|bB (bu.ev<|jj (cz<|aS<|uo (cO M.len aV) aG ⟨bw,bw⟩) aV ?_) ?_
  .rw[<-f,aI];exact jH (by have:=e ((_d.obs b t.kind t.lo t.hi).map<|dP K A).length;show 1+_<=1000;omega)
  .rw[aI,Hm];show lst _=lst _;rw[eQ,ag7];congr 3;omega
abbrev iz(f:Int->Bool)(e t:Int):Int:=if h:1<t-e then(if f ((e+t)/2)=L then iz f ((e+t)/2) t else iz f e ((e+t)/2))else e
termination_by (t-e).toNat
decreasing_by all_goals omega
structure LmS f T(a:Int×Int):Prop where
 lo:0<=a.1
 lt:a.1<a.2
 hi:a.2<=T
 eq:iz f a.1 a.2=iz f 0 T
def acI{t:eF}{o:Ob}{T:Int}(g:0<T)(l:T<=1000000000):Gy base 7 130 "lesser_margin" [keep K A t,dP K A o,int T] (int<|iz (λx=>fo t x o) 0 T):=by
 refine gy ["thing","obstacle","too_great","enough","middle"] λq m n p=>?_;apply bz 3 aG;let f:=λx=>fo t x o;refine aa0 (λa:Int×Int=>[Y<|.aC<|keep K A t,Y<|.aC<|dP K A o,Y<|.aC<|int a.2,Y<|.aC<|int a.1,am]) (0,T) (λa=>decide<|1<a.2-a.1) (λa=>if f ((a.1+a.2)/2)=L then((a.1+a.2)/2,a.2)else(a.1,(a.1+a.2)/2)) (LmS f T) (λa=>(a.2-a.1).toNat) U ⟨lJ _,g,lJ _,U⟩
  (λa _=>(bi<|iq (cZ aM aV) aG)) (λa d b=>?_) (λa d b=>?_) (λa d b=>bB aV ?_)
 .let⟨i,j,k,c⟩:=d;refine bz 4 (uo (cY aV aM) aG ⟨au,au⟩)<|fe<|lx (Γ':=[Y<|.aC<|keep K A t,Y<|.aC<|dP K A o,Y<|.aC<|int (if f ((a.1+a.2)/2)=L then((a.1+a.2)/2,a.2)else(a.1,(a.1+a.2)/2)).2,Y<|.aC<|int (if f ((a.1+a.2)/2)=L then((a.1+a.2)/2,a.2)else(a.1,(a.1+a.2)/2)).1,Y<|.aC<|int<|(a.1+a.2)/2]) (q:=f<|(a.1+a.2)/2) (b_<|aO (zC ap ap)<|bM aw aE bZ) (λh=>?_) (λh=>?_) cG
  .rw[aH h];exact bz 3 bZ cG
  .rw[aD<|by rw[h];simp];exact bz 2 bZ cG
 .have b:=cM b;let⟨i,j,k,c⟩:=d;rw[iz,dif_pos b]at c;split
  .rename_i e;rw[aH e]at c;exact⟨⟨by simp only;lia,by simp only;lia,by simp only;lia,c⟩,by simp only;lia⟩
  .rename_i e;rw[aD e]at c;exact⟨⟨by simp only;lia,by simp only;lia,by simp only;lia,c⟩,by simp only;lia⟩
 .rw[<-d.eq,iz,dif_neg<|cX b]
abbrev l_(t:eF)(m:Int)(o:Ob):Int:=if 0<m/\fo t m o=aA then iz (λx=>fo t x o) 0 m else m
abbrev kR(b:bC)(t:eF):Int:=if _d.jy t.shape.pts b.outline=L then(_d.obs b t.kind t.lo t.hi).foldl (l_ t) 1000000000 else 0
def Dc f:∀n e t,(t-e).toNat<=n->e<t->e<=iz f e t/\iz f e t<t
 |0,e,t,a,h=>by grind
 |n+1,e,t,a,h=>by
  rw[iz];split
  .split
   .have:=Dc f n ((e+t)/2) t ap ap;lia
   .have:=Dc f n e ((e+t)/2) ap ap;lia
  simp_all
def PM(h:0<=m/\m<=1000000000):0<=l_ t m o/\l_ t m o<=1000000000:=by
 delta l_
 split
 .rename_i a;have:=Dc (λx=>fo t x o) _ 0 m (cg _) a.1
  lia
 omega
def Ho t:∀(l:O Ob)m,(0<=m/\m<=1000000000)->0<=l.foldl (l_ t) m/\l.foldl (l_ t) m<=1000000000
 |[],m,h=>h
 |o::l,m,h=>Ho t l _<|PM h
def PP b t:0<=kR b t/\kR b t<=1000000000:=by
 delta kR
 split<;>simp[Ho]
def acJ{b:bC}{t:eF}:Gy base 10 131 "greatest_margin" [ba K A b,keep K A t] (int<|kR b t):=by
 refine gy ["board","thing","margin","obstacle"] λq k l m=>?_;refine dg (dE<|b_<|aO C_<|bF (iJ M<|ox M aE)<|i4 M aw) (λh=>bB aG ?_)<|λh=>bz 2 (bX M.GF) ?_
 .rw[my]at h;rw[kR,aD<|by rw[h];simp]
 rw[jU]at h;rw[kR,aH h];let F:Nat->Int:=λn=>((_d.obs b t.kind t.lo t.hi).take n).foldl (l_ t) 1000000000;have a:∀n,0<=F n/\F n<=1000000000:=λn=>Ho t _ _ ap;refine lz (λn=>[Y<|.aC<|ba K A b,Y<|.aC<|keep K A t,Y<|.aC<|int<|F n,am]) (cK<|aO Hl<|bF aw aE) U (λn d e=>?_) (bB aM<|by rw[aI];show int (qc _ _<|je _ _)=_;rw[ij]);refine aL (cH e) λo f g=>?_;subst g;have c:F (n+1)=l_ t (F n) o:=by show qc _ _ (je _ _)=_;rw[take_snoc f,rD];rfl
 refine gX 3 (fe (lx (Γ':=[Y<|.aC<|ba K A b,Y<|.aC<|keep K A t,Y<|.aC<|int<|F<|n+1,Y<|.aC<|dP K A o]) (q:=decide (0<F n)&&!fo t (F n) o) (Tw.tv<|uq (bi<|iq aM aG)<|λh=>wl<|dE<|b_<|aO (zC (a n).1 (a n).2)<|bM aE aV aM)
  (λh=>?_) (λh=>?_) cG))
 .rw[c6,fr,my]at h;rw[c,l_,aH h];exact bz 2 (aO (acI h.1 (a n).2)<|bM aE aV aM) cG
 .rw[c,l_,aD<|by rintro⟨i,j⟩;rw[dm i,j]at h;simp at h];exact cG
def acK{b:bC}{t:eF}:Gy base 11 132 "room_for" [ba K A b,keep K A t] (nums (kR b t::jd (if kR b t=1000000000 then(0,0)else(l9 b t<|kR b t+1).headD (0,0)))):=by
 refine gy ["board","thing","margin"] λq a c d=>?_;have e:=PP b t;refine bz 2 (aO acJ<|bF aw aE)<|dg (bi<|fL aM<|bX M.GF) (λh=>bB (cz<|bM aM aG aG) ?_)<|λh=>?_
 .rw[aH<|cM h];rfl
 have h:=cX h;rw[aD h];refine bB (bu.ev<|jj (cz<|aS aM) (aO (PJ ap ap)<|bM aw aE<|cY aM aG)<|jH<|by show 1+2<=1000;simp) U
end
open _e (dN n0 vU ft mJ gG f7)
section
variable{P:bO}{w:bN}{K:aJ}{mg:aq->aR aB}{base:bf}{A:Ad}[Z:Zc P w K mg A]
abbrev codes(x:aq):O Int:=x.cps.toList.map .ofNat
inductive PQ(K:aJ)(A:Ad):List Rp->Rp->Prop
 |mk (h:x.cps.toList.length<=bK):PQ K A [str x] (nums (codes x))
def uL:Gz base 1 64 "bytes_of" PQ:=by
 refine gz ["text","sign"] λq b e d a f g=>?_;cases a with|@mk x h=>?_
 exact bI<|bu.ev<|eA.fw<|d6 (own:=[("sign",1)]) (aa5 aw h) (dD U) (λc _=>aY _ (eu 1)<|λs i C j k=>aad M.ord aE U)<|by rw[codes,c9];rfl
def acL s b:(gG s b).1.length+(gG s b).2.length<=s.1.length+s.2.length+1:=by grind[gG]
def acM s b:(f7 s b).1.length+(f7 s b).2.length<=s.1.length+s.2.length+1:=by grind[f7]
def PU(e:∀s b,(f s b).1.length+(f s b).2.length<=s.1.length+s.2.length+1):∀(l:O Int)(s:O (O Int)×O Int),(l.foldl f s).1.length+(l.foldl f s).2.length<=s.1.length+s.2.length+l.length:=by
 intro c s
 induction c generalizing s with
 |nil=>exact cg _
 |cons a l d=>
  have g:=d<|f s a;grind
def jJ(h:n<=40000):n<bK:=p9 h bw
def acN{l:O Int}(h:l.length<=40000):Gy base 1 65 "lines_of" [nums l] (lst<|(dN l).map nums):=by
 refine gy ["text","lines","line","byte"] λq o p s=>?_;let F:Nat->O (O Int)×O Int:=λn=>(l.take n).foldl gG ([],[]);have c:∀n,(F n).1.length+(F n).2.length<=40000:=λn=>by
  have:=PU acL (l.take n) ([],[]);rw[jr]at this;simp only[p6]at this;show(qc gG ([],[])<|l.take n).1.length+(qc gG ([],[])<|l.take n).2.length<=40000
  lia
 refine jl 1 (iY eW)<|jl 2 (iY eW) ?_;refine lz (λn=>[Y<|.aC<|nums l,Y<|.own<|(F n).1.map nums,Y<|.own<|(F n).2.map int,am]) (cK aw) U (λn d g=>?_) ?_
 .refine aL (cH g) λb i j=>?_;subst j;have e:F (n+1)=gG (F n) b:=by show qc _ _ (je _ _)=_;rw[take_snoc i,rD];rfl
  have k:=c n;refine gX 3<|fe<|lx (Γ':=[Y<|.aC<|nums l,Y<|.own<|(F<|n+1).1.map nums,Y<|.own<|(F<|n+1).2.map int,Y<|.aC<|int b]) (bi<|fL aV<|bX M.aaq) (λa=>?_) (λa=>?_) cG
  .rw[e,gG,aH<|cM a,cN];exact jk 2 U<|i3 1 U aM (by rw[aI];exact jJ ap)<|jl 2 (iY eW) cG
  .rw[e,gG,aD<|cX a,cN];exact i3 2 U aV (by rw[aI];exact jJ ap) cG
 .have m:F (l.map int).length=l.foldl gG ([],[]):=by show qc _ _ (je _ _)=_;rw[aI,ij]
  have k:=c (l.map int).length;have f:dN l=_e.fin (F (l.map int).length):=by rw[m];rfl
  refine lx (Γ':=[Y<|.aC<|nums l,Y<|.own<|(dN l).map nums,am,am]) (bi<|iq (cO M.len aM) aG) (λa=>?_) (λa=>?_)<|jk 1 U<|bI aE
  .have a:=cM a;rw[aI]at a;rw[f,_e.vT ap,cN];exact jk 2 U<|i3 1 U aM (by rw[aI];exact jJ ap)<|fe cG
  .have a:=cX a;rw[aI]at a;rw[f,_e.yA ap];exact fe cG
def acO{l:O Int}:Gy base 1 66 "has_wrong_byte" [nums l] (bl<|vU l):=gy ["line","byte"] λq a b c=>bB (zg M.any<|bu.ev<|eA.fw<|d6 (own:=[("byte",1)]) (cK aw) (dD U) (λv _=>aY _ (eu 1)<|λs d C e f=>(qv (dF<|e8 aE<|bX M.NE)<|λh=>(pv<|dF<|iq aE<|bX M.aar)))<|by rw[c9];rfl)<|by rw[O9];rfl
def acP{l:O Int}(h:l.length<=40000):Gy base 1 67 "words_of" [nums l] (lst<|(n0 l).map nums):=by
 refine gy ["line","words","word","byte"] λq p s t=>?_;let F:Nat->O (O Int)×O Int:=λn=>(l.take n).foldl f7 ([],[]);have e:∀n,(F n).1.length+(F n).2.length<=40000:=λn=>by
  have:=PU acM (l.take n) ([],[]);rw[jr]at this;simp only[p6]at this;show(qc f7 ([],[])<|l.take n).1.length+(qc f7 ([],[])<|l.take n).2.length<=40000
  lia
 refine jl 1 (iY eW)<|jl 2 (iY eW) ?_;refine lz (λn=>[Y<|.aC<|nums l,Y<|.own<|(F n).1.map nums,Y<|.own<|(F n).2.map int,am]) (cK aw) U (λn d i=>?_) ?_
 .refine aL (cH i) λb j k=>?_;subst k;have f:F (n+1)=f7 (F n) b:=by show qc _ _ (je _ _)=_;rw[take_snoc j,rD];rfl
  have m:=e n;refine gX 3<|fe<|lx (Γ':=[Y<|.aC<|nums l,Y<|.own<|(F<|n+1).1.map nums,Y<|.own<|(F<|n+1).2.map int,Y<|.aC<|int b]) (bi<|qw aV<|bX M.NE) (λa=>?_) (λa=>?_) cG
  .rw[f,f7,aH (by simpa using a),cN];exact i3 2 U aV (by rw[aI];exact jJ ap) cG
  .have a:¬b≠32:=by simpa using a
   rw[f,f7,aD a];refine lx (Γ':=[Y<|.aC<|nums l,Y<|.own<|(if 0<(F n).2.length then((F n).1++[(F n).2],[])else F n).1.map nums,Y<|.own<|(if 0<(F n).2.length then((F n).1++[(F n).2],[])else F n).2.map int,Y<|.aC<|int b]) (bi<|iq (cO M.len aM) aG) (λc=>?_) (λc=>?_) cG
   .have c:=cM c;rw[aI]at c;rw[aH ap,cN];exact jk 2 U<|i3 1 U aM (by rw[aI];exact jJ ap)<|jl 2 (iY eW) cG
   .have c:=cX c;rw[aI]at c;rw[aD ap];exact cG
 .have o:F (l.map int).length=l.foldl f7 ([],[]):=by show qc _ _ (je _ _)=_;rw[aI,ij]
  have m:=e (l.map int).length;have g:n0 l=_e.fin (F (l.map int).length):=by rw[o];rfl
  refine lx (Γ':=[Y<|.aC<|nums l,Y<|.own<|(n0 l).map nums,am,am]) (bi<|iq (cO M.len aM) aG) (λa=>?_) (λa=>?_)<|jk 1 U<|bI aE
  .have a:=cM a;rw[aI]at a;rw[g,_e.vT ap,cN];exact jk 2 U<|i3 1 U aM (by rw[aI];exact jJ ap)<|fe cG
  .have a:=cX a;rw[aI]at a;rw[g,_e.yA ap];exact fe cG
abbrev Hq:O (O Int)->Bool
 |[]=>L
 |w::_=>decide<|w.head?=Y 35
def acQ{l:O (O Int)}(h:∀w∈l,w≠[]):Gy base 1 68 "is_passed_over" [lst<|l.map nums] (bl<|Hq l):=by
 refine gy ["words"] λq b c d=>?_
 match l,h with
 |[],_=>exact bB (qv (dF<|fL (cO M.len aw) aG) (λh=>absurd h au) (q:=aA)) U
 |[]::l,h=>exact absurd U<|h [] au
 |(a::w)::l,h=>exact bB (qv (dF<|fL (cO M.len aw) aG)<|λ_=>pv<|dF<|fL (bW (bW aw aG<|b8 U U) aG<|b8 U U)<|bX M.aas)<|by congr 1;show decide (a=35)=decide ((a::w).head?=Y 35);simp
abbrev Dd(b:Int):Bool:=decide (48<=b)&&decide (b<=57)
def PV:∀d n v,n<=d.length->(∀i b,i<n->d[i]?=Y b->Dd b=L)->mJ d v=mJ (d.drop n) ((d.take n).foldl (λv b=>10*v+b-48) v)
 |d,0,v,_,_=>rfl
 |[],n+1,v,h,_=>rfl
 |b::d,n+1,v,h,k=>by have:=k 0 b au U;rw[mJ,aD<|by simp_all[Dd]];exact PV d n _ bG λi a c=>k (i+1) a bG
def acR{l:O Int}(h:l≠[]):Gy base 1 69 "number_of" [nums l] (opt<|(ft l).map int):=by
 refine gy ["word","digits","value","byte"] λq N hI nd=>?_;have Q:=(N.mono<|dI _).units;obtain⟨a,r,rfl⟩:=aiQ h;refine dg (bi<|oA (x:=a::r) (y:=[48]) sD.list Q aw<|Ev.eq (cz<|aS<|bX M.zi) U) (λo=>bB aG<|by rw[ft,aH<|cM o];rfl)<|λo=>?_;have o:=cX o;have C:∀{X:Cx}{E:En}{p q T:bn}{j:Nat},Ev X E (aK "word" p) (nums (a::r))->Ev X E (cR (aK "word" p) (dX (.int 0) j q) T) (int a):=λe=>bW e aG<|b8 U U;have s:∃d:O Int,d=if(a::r).head?=Y 45 then(a::r).drop 1 else a::r:=⟨_,U⟩
 obtain⟨d,s⟩:=s;have t:ft (a::r)=if¬(1<=d.length/\d.length<=10)\/d.head?=Y 48 then am else(mJ d 0).map λv=>if(a::r).head?=Y 45 then-v else v:=by rw[ft,aD o,s]
 refine bz 1 (h_ (d:=nums d) (bi<|fL (C aw)<|bX M.NF) (λg=>Ev.eq (bu.ev<|fk aw (.dW aG) .none_) ?_)<|λg=>Ev.eq aw ?_) ?_
 .rw[s,AA,aH<|bJ Y<|cM g,show(1:Int)=((1:Nat):Int)from U,jG,<-xW];rfl
 .rw[s,AA,aD<|λz=>cX g<|bL z]
 refine dg (q:=!(decide (1<=(d.length:Int))&&decide ((d.length:Int)<=10))||decide (d.head?=Y 48)) (Tw.tv (fK (dE (Tv.eq (ut eT eT aG (cO M.len aE) (bX M.aat)) (by rw[aI]))) (λc=>iX ?_))) (λc=>bB kd ?_)<|λc=>?_
 .have c:1<=(d.length:Int)/\(d.length:Int)<=10:=by simpa using c
  match d,c with
  |b::d,_=>exact Tv.eq (bi<|fL (bW aE aG<|b8 (x:=int b) U U)<|bX M.zi)<|by rw[AA,jO];simp
 .have c:¬(1<=d.length/\d.length<=10)\/d.head?=Y 48:=by
   rw[tu,my,UY,tM,tM,fr]at c;rcases c with c|c
   .exact aP aU
   .exact aW c
  rw[t,aH c];rfl
 have c:¬(¬(1<=d.length/\d.length<=10)\/d.head?=Y 48):=by
  rw[pV,jU,c6,fr,fr,tM]at c;rintro(z|z)
  .exact z aU
  .exact c.2 z
 rw[aD c]at t;rw[t];refine bz 2 aG ?_;obtain⟨n,G,H,k⟩:=oy (λb=>!Dd b) d;have I:=PV d n 0 G λi b u f=>by have:=H i b u f;simpa using this
 refine mU n (by rw[aI];exact G) (λi=>[Y<|.aC<|nums (a::r),Y<|.aC<|nums d,Y<|.aC<|int<|(d.take i).foldl (λv b=>10*v+b-48) 0,am]) (cK aE) U (λi z u hz=>?_) ?_
 .obtain⟨b,f,rfl⟩:=cH hz;have m:=H i b u f;refine gX 3<|fe<|iI (Tv.eq (dE<|ut eT eT (bX M.zi) aV<|bX M.NG) m)<|bz 2 (Ev.eq (cZ (cY (fJ aG aM<|cm aU) aV)<|bX M.zi) ?_) cG;rw[take_snoc f,rD];rfl
 .rcases k with k|⟨b,f,m⟩
  .refine aP ⟨by rw[aI];exact k,bB (h_ (d:=int<|if(a::r).head?=Y 45 then-(d.foldl (λv b=>10*v+b-48) 0)else d.foldl (λv b=>10*v+b-48) 0) (bi<|fL (C aw)<|bX M.NF) (λg=>Ev.eq (sf aM) ?_) (λg=>Ev.eq aM ?_)) ?_⟩
   .rw[k,ij,AA,aH<|bJ Y<|cM g]
   .rw[k,ij,AA,aD<|λz=>cX g<|bL z]
   .rw[I,k,J7,ij];rfl
  .refine aW ⟨_,_,get_map _ f,gX 3<|kh (Tv.eq (dE<|ut eT eT (bX M.zi) aV<|bX M.NG) m)<|bB kd ?_,U⟩;have akF:=(dH.mp f).1;rw[I,aiP akF,mJ,aH]
   .rfl
   .have:d[n]=b:=(dH.mp f).2;rw[this];intro z;rw[my]at m;rw[Dd,dm z.1,dm z.2]at m;cases m
abbrev gf(l:O (O Int)):aR (O Int):=l.mapM ft
def acS{o:aR Int}(h:(opt<|o.map int).r G v):lu v=L/\qu v .bH=o.isNone:=by
 cases o with
 |none=>rw[h];decide
 |some i=>exact h▸⟨U,U⟩
def PY:∀{l:O (O Int)}{vs:O V},bv G vs (l.map λw=>opt<|(ft w).map int)->vs.all lu=L/\ul .bH vs=l.any λw=>(ft w).isNone
 |[],[],_=>⟨U,U⟩
 |w::l,v::vs,h=>by obtain _:=acS h.1;obtain _:=PY h.2;simp_all[ul]
 |[],_::_,h=>h.elim
 |_::_,[],h=>h.elim
def PZ:∀{l:O (O Int)},(l.any λw=>(ft w).isNone)=L->gf l=am
 |w::l,h=>by
  rw[gf,UZ];cases q:ft w with
  |none=>rfl
  |some i=>
   have:=PZ (l:=l) bh;simp_all[gf]
def P0:∀{l:O (O Int)},(l.any λw=>(ft w).isNone)=aA->∃ns,gf l=Y ns/\(l.map λw=>opt<|(ft w).map int)=ns.map int
 |[],h=>aY ([]) U U
 |w::l,h=>by
  rw[xM,pV]at h;refine aL (P0 h.2) λns b a=>?_;cases q:ft w with
  |none=>simp_all
  |some i=>
   refine aY (i::ns) ?_ (by rw[eQ,a,q];rfl);simp_all[gf]
def Hr{l:O (O Int)}(h:∀w∈l,w≠[]):Gy base 2 70 "numbers_of" [lst<|l.map nums] (opt<|(gf l).map nums):=by
 refine gy ["words","word","numbers"] λq g i j=>?_;apply wq 2<|d6 (own:=[("word",1)]) (cK aw) (dD U) (λw b=>aY _ (eu 1)<|λs k C m n=>aO (acR<|h w b)<|aS aE) U;refine bI<|h_ (bi<|aa6 (q:=l.any λw=>(ft w).isNone) kd aM λG x o c d=>?_) (λa=>Ev.eq kd ?_)<|λa=>Ev.eq aM ?_
 .rw[c];exact⟨U,PY d⟩
 .rw[PZ a];rfl
 .refine aL (P0 a) λp e f=>?_;rw[e,f];rfl
end
open _g (Enc)
section
variable{P:bO}{w:bN}{K:aJ}{mg:aq->aR aB}{base:bf}{A:Ad}[Z:Zc P w K mg A]
def lg{i:Int}(h:-100000000000<=i/\i<=100000000000):i.natAbs.log2<1920:=by
 by_cases a:i.natAbs=0
 .simp_all
 .rw[Nat.log2_lt a];omega
abbrev qJ(l:O Pt):O aq:=(kJ l).map λn=>toString n
def P1(h:∀p∈l,dh p):∀n∈kJ l,-1000000000<=n/\n<=1000000000:=λn a=>by rw[kJ,vc]at a;obtain⟨p,b,a⟩:=a;obtain⟨c,d⟩:=h p b;grind-order
def Hs{l:O Pt}:Gy base 2 72 "point_words" [bU K A l] (lst<|(qJ l).map str):=by refine gy ["skeleton","number"] λq b a c=>?_;have d:=P1 (eB<|a _<|.head _).2;exact bI<|bu.ev<|eA.fw<|d6 (own:=[("number",1)]) (cK<|aO Hf<|aS aw) (dD U) (λn e=>aY _ (eu 1)<|λs f C g h=>zh M.str aE<|lg<|by grind-order)<|by rw[qJ,c9];rfl
abbrev zD(x:Nat×Nat):O aq:=[if x.1%2=0 then "copper"else "core",toString (x.2:Int)]
inductive P2(K:aJ)(A:Ad):List Rp->List Rp->Prop
 |mk (h:∀t∈l,t<=10000000):P2 K A [nums (l.map .ofNat)] ((d_ 0 l).map λx=>lst<|(zD x).map str)
def Ht:∀{x:Nat×α},x∈d_ n l->x.2∈l:=_d.t6
def acT:zp base 1 73 "stack_lines" P2:=by
 refine C3 ["thicknesses","names","i","thickness"] λq e f d b g i=>?_;cases b with|@mk l h=>?_
 refine bz 1 (kP<|bF r_ r_) (Nl (eA.fw (d6 (l:=d_ 0 l) (own:=[("i",2),("thickness",3)]) (Iv.eq (uu (K:=K) M.enumerate aw)<|by rw[c9];exact Hj (λn:Nat=>int<|.ofNat n) l) (dD U)
  (λx c=>aY _ (wm 2 3)<|λs j C k m=>cz<|bF (gN aE (y_ aM aG au) ?_)<|zh M.str aV<|lg (by have:=h x.2<|Ht c;lia)) U)))
 by_cases a:x.1%2=0
 .exact(aH a)▸b8 (n:=0) ap U
 .exact(aD a)▸b8 (n:=1) ap U
abbrev KN:O aq:=["track","via","part","all"]
abbrev sK(k:eF):O aq:=[("keep":aq),KN.getD k.kind "",(toString (k.lo:Int)),(toString (k.hi:Int)),(toString (k.shape.r:Int))]++qJ k.shape.pts
def wN l:(qJ l).length=2*l.length:=by rw[qJ,aI,zz]
def acU{k:eF}:Gy base 3 74 "keep_line" [keep K A k] (lst<|(sK k).map str):=by
 refine gy ["keep"] λq c a f=>?_;have b:=sJ<|a _<|.head _;obtain⟨⟨_,g⟩,_⟩:=eB<|qG<|a _<|.head _;obtain⟨h,i,j,l,m⟩:=b;refine bB (bu.ev (jj (cz (cB r_ (cB (gN (sE (ds:=[str "track",str "via",str "part",str "all"]) D.GQ<|λG=>⟨U,U,U,U,trivial⟩) (sC M aw) (d:=str<|KN.getD k.kind "") ?_)
  (bM (zh M.str (uz M aw)<|lg ap) (zh M.str (uA M aw)<|lg ap)<|zh M.str (uB M aw)<|lg ap)))) (aO Hs<|aS<|ox M aw) ?_)) ?_
 .refine b8 (n:=k.kind) U ?_;have:k.kind=0\/k.kind=1\/k.kind=2\/k.kind=3:=ap;rcases this with e|e|e|e<;>rw[e]<;>rfl
 .rw[aI,wN];exact jH<|by show 5+_<=_;lia
 .rw[sK,cN];rfl
abbrev zE(l:O Pt):O aq:="outline"::qJ l
abbrev wP(l:O Pt):O aq:="cut"::qJ l
abbrev kS(b:bC):O (O aq):=(d_ 0 b.stack).map zD++[zE b.outline]++b.cuts.map wP++b.keeps.map sK
abbrev oG(ws:O aq):aq:=xQ " " ws++"\n"
abbrev oH(b:bC):aq:=xQ ""<|(kS b).map oG
abbrev De(ws:O aq):Prop:=ws.length<=100/\∀w∈ws,w.length<=30
def Hu{l:O Nat}(h:∀x∈l,x<=c):l.sum<=l.length*c:=by
 induction l with
 |nil=>simp
 |cons a l b=>
  rw[c_,Nat.add_mul];simp_all;lia
def P3(h:De ws):(ws.map (·.length)).sum+ws.length*(" ":aq).length<=3100:=by
 have c:=Hu λx a=>by obtain⟨w,b,rfl⟩:=eY.mp a;exact h.2 w b
 have:=h.1;have e:(" ":aq).length=1:=U;grind
def P4(h:De ws):(xQ " " ws).length<=3100:=by rw[TL.join_eq];exact cS (U0 _ _)<|P3 h
def acV(x y:aq):(x++y).length=x.length+y.length:=by show(x.cps++y.cps).size=_;rw[ain];rfl
def P5(h:De ws):(oG ws).length<=3101:=by rw[oG,acV];have:=P4 h;have e:("\n":aq).length=1:=U;simp_all
def zF(z:Int)(h:z.natAbs<10^20):(toString z:aq).length<=30:=by rw[(_g.uD h).len];grind[_g.abP]
def Hv(h:∀p∈l,dh p):∀w∈qJ l,w.length<=30:=λw a=>by obtain⟨n,b,rfl⟩:=eY.mp a;have:=P1 h n b;exact zF n aU
def P6(d:bA (ba K A b)):(kS b).length<=100/\∀ws∈kS b,De ws:=by
 have f:=fg d;refine⟨?_,λws hw=>?_⟩
 .delta kS
  have:=f.gK;have:=f.cuts;have:=f.keeps;rw[cC,cC,cC,aI,jI];simp;lia
 .simp only[kS,fE,eY,cU,jw,jx]at hw;obtain((⟨x,i,rfl⟩|rfl)|⟨c,j,rfl⟩)|⟨k,l,rfl⟩:=hw
  .refine⟨by show 2<=100;simp,λw hw=>?_⟩;have:=f.ow x.2<|Ht i;simp[zD]at hw;obtain rfl|rfl:=hw
   .split<;>decide
   .exact zF _ ap
  .obtain⟨⟨_,g⟩,a⟩:=eB<|qF d;refine⟨by rw[zE,c_,wN];lia,λw hw=>?_⟩;obtain rfl|hw:=cU.mp hw
   .decide
   .exact Hv a w hw
  .obtain⟨⟨_,g⟩,a⟩:=eB<|pJ d c j;refine⟨by rw[wP,c_,wN];lia,λw hw=>?_⟩;rcases cU.mp hw with rfl|hw
   .decide
   .exact Hv a w hw
  .have h:=pK d k l;obtain⟨⟨_,g⟩,a⟩:=eB<|qG h;obtain⟨m,n,o,p,q⟩:=sJ h;refine⟨by rw[sK,cC,wN];simp;lia,λw hw=>?_⟩;simp only[sK,fE,cU,jw,jx]at hw;obtain(rfl|rfl|rfl|rfl|rfl)|hw:=hw
   .decide
   .have:k.kind=0\/k.kind=1\/k.kind=2\/k.kind=3:=aU;rcases this with e|e|e|e<;>rw[e]<;>decide
   .exact zF _ ap
   .exact zF _ ap
   .exact zF _ ap
   .exact Hv a w hw
def acW{b:bC}:Gy base 4 75 "printed" [ba K A b] (nums<|codes<|oH b):=by
 refine gy ["board","lines","cut","keep","words"] λq hr E nd=>?_;have h:=E _<|.head _;have i:=fg h;obtain⟨G,m⟩:=P6 h;have n:(((kS b).map oG).map (·.length)).sum<=310100:=by
  have o:=Hu (l:=((kS b).map oG).map (·.length)) (c:=3101) λx H=>by obtain⟨t,I,rfl⟩:=eY.mp H;obtain⟨d,j,rfl⟩:=eY.mp I;exact P5<|m d j
  rw[aI,aI]at o;exact cS o<|Eb 3101 G
 have N:(oH b).length<=310100:=by unfold oH;rw[TL.join_eq];refine cS (U0 _ _) ?_;rw[show("":aq).length=0 from U,aiU,aiV];exact n
 have Q:=i.gK;have l2:=i.cuts;have l3:=i.keeps;refine jl 1 (wB acT (aS<|kQ M aw)<|.mk i.ow) ?_;refine i3 1 U (Ev.eq (d':=lst<|(zE b.outline).map str) (bu.ev<|jj (cz<|aS r_) (aO Hs<|aS<|i4 M aw) ?_) U) ?_ ?_
 .have:=(eB<|qF h).1.2;rw[aI,wN];exact jH<|by show 1+_<=_;omega
 .rw[aI,jI];exact p9 Q bw
 refine zd 1 U (bu.ev<|eA.fw<|d6 (l:=b.cuts) (g:=λc=>lst<|(wP c).map str) (own:=[("cut",2)]) (cK<|ib M aw) (dD U) (λc T=>⟨_,eu 2,λs u C v y=>Ev.eq (d':=lst<|(wP c).map str) (bu.ev<|jj (cz<|aS r_) (aO Hs<|aS aM) ?_) U⟩) U) ?_ ?_
 .have:=(eB<|pJ h c T).1.2;rw[aI,wN];exact jH<|by show 1+_<=_;omega
 .rw[cC,aI,aI,jI];exact jH<|by simp only[c_,p6];omega
 refine zd 1 U (bu.ev<|eA.fw<|d6 (l:=b.keeps) (g:=λk=>lst<|(sK k).map str) (own:=[("keep",3)]) (cK<|i5 M aw) (dD U) (λk hk=>⟨_,eu 3,λs u C v y=>aO acU<|aS aV⟩) U) ?_ ?_
 .rw[cC,cC,aI,aI,aI,jI];exact jH<|by simp only[c_,p6];omega
 refine jk 1 U ?_;have akF:(((d_ 0 b.stack).map λx=>lst<|(zD x).map str)++[lst<|(zE b.outline).map str]++(b.cuts.map λc=>lst<|(wP c).map str)++(b.keeps.map λk=>lst<|(sK k).map str))=(kS b).map λd=>lst (d.map str):=by unfold kS;rw[cN,cN,cN,c9,c9,c9];rfl
 have hv:∀{X:Cx}{z:En}{p:bn},Ev X z (aK "lines" p) (lst<|((d_ 0 b.stack).map λx=>lst<|(zD x).map str)++[lst<|(zE b.outline).map str]++(b.cuts.map λc=>lst<|(wP c).map str)++(b.keeps.map λk=>lst<|(sK k).map str))->Ev X z (aK "lines" p) (lst<|(kS b).map λd=>lst<|d.map str):=λe=>Ev.eq e<|bJ lst akF;refine bI (iu uL (aS (Ov (a:="") (ys:=(kS b).map oG) r_ (bu.ev (eA.fw (d6 (l:=kS b) (f:=λd=>lst<|d.map str) (g:=λd=>str<|oG d) (own:=[("words",4)]) (cK<|hv aE) (dD U)
  (λd j=>⟨_,eu 4,λs u C v y=>Z3 (Ov (a:=" ") (ys:=d) r_ bZ ?_) r_ ?_⟩) (by rw[c9];rfl)))) ?_))<|.mk ?_)
 .exact cS (P3<|m d j) bw
 .have:=P4<|m d j;exact cS (show _+1<=3101 by omega) bw
 .rw[show("":aq).length=0 from U,aiU,aiV];exact cS n bw
 .rw[mF];exact cS N bw
end
open Vbpcaa (normal)
section
variable{P:bO}{w:bN}{K:aJ}{mg:aq->aR aB}{base:bf}{A:Ad}[Z:Zc P w K mg A]
inductive Hw K A:List Rp->Rp->Prop
 |mk:Hw K A [ba K A b,d,d'] (nums (((codes (oH b)).length)::codes (oH b)))
def P7 x:(codes x).length=x.length:=by rw[codes,aI];rfl
def text_len(a:bA (ba K A b)):(oH b).length<=310100:=by
 obtain _:=P6 a;have d:=Hu (l:=((kS b).map oG).map (·.length)) (c:=3101) λx e=>by grind-order [P5]
 rw[oH,TL.join_eq];apply cS<|U0 _ _;rw[show("":aq).length=0 from U];grind
def acX:Gz base 5 161 "call_print" Hw:=by
 refine gz ["board","numbers","row","text"] λq e f d a c g=>?_;cases a with|@mk b d h=>?_
 refine bz 3 (aO acW<|aS aw)<|bB (bu.ev<|jj (cz<|aS<|cO M.len aV) aV ?_) ?_
 .rw[aI,P7];exact cS (show 1+_<=310101 by have:=text_len<|c _<|.head _;lia) bw
 .rw[aI];rfl
inductive Hx K A:List Rp->Rp->Prop
 |mk {b:bC} {d d':Rp}:Hx K A [ba K A b,d,d'] (nums (pc [b.layers,b.stack.foldl (· + ·) 0,b.outline.length,b.cuts.length,b.keeps.length]))
def acY:Gz base 3 162 "call_size" Hx:=by
 refine gz ["board","numbers","row"] λq c e d a f g=>?_;cases a with|@mk b d h=>?_
 exact bI<|aO ack<|aS aw
inductive Hy K A:List Rp->Rp->Prop
 |mk:Hy K A [ba K A b,d,d'] (nums [UW b])
def acZ:Gz base 3 163 "call_area" Hy:=by
 refine gz ["board","numbers","row"] λq c e d a f g=>?_;cases a with|@mk b d h=>?_
 exact bI<|cz<|aS<|aO acp<|aS aw
inductive Hz K A:List Rp->Rp->Prop
 |mk:Hz K A [ba K A b,nums [x,y],d'] (nums (if lA [x,y]<0 then[lA [x,y]]else jd (J9 b ⟨x,y⟩)))
def ac0:Gz base 4 164 "call_point" Hz:=by
 refine gz ["board","numbers","row","refusal"] λq e f d c g i=>?_;cases c with|@mk b x y j=>?_
 refine bz 3 (aO Ha<|aS aE)<|dg (bi<|e8 aV aG) (λh=>bB (cz<|aS aV)<|(aH<|cM h)▸U)<|λh=>?_;have h:=cX h;have a:=C9 h;rw[aD h];refine bI<|aO acB<|bF (Ev.as (d':=pt K ⟨x,y⟩) (kP<|bF (bW aE aG<|b8 U U)<|bW aE aG<|b8 U U) λG v q=>⟨?_,q⟩) aw;simp[within]at a;exact a
inductive Df K A:List Rp->Rp->Prop
 |mk:Df K A [ba K A b,nums [i,j],d'] (nums (if uH b i j=aA then[-3]else[aiS b i.toNat j.toNat]))
def uM(a:c<0):rf p c<0↔p=aA:=by grind-order [rf]
def HA(a:mW b):b.layers<=8:=by delta UT;have:=a.gK;lia
def ac1:Gz base 3 165 "call_between" Df:=by
 refine gz ["board","numbers","row","refusal"] λq s u d k l v=>?_;cases k with|@mk b i j x=>?_
 have f:∀{X:Cx}{a:En}{p q c:bn}{t:Nat},Ev X a (aK "numbers" p) (nums [i,j])->Ev X a (cR (aK "numbers" p) (dX (.int 0) t q) c) (int i):=λe=>bW e aG<|b8 U U;have g:∀{X:Cx}{a:En}{p q c:bn}{t:Nat},Ev X a (aK "numbers" p) (nums [i,j])->Ev X a (cR (aK "numbers" p) (dX (.int 1) t q) c) (int j):=λe=>bW e aG<|b8 U U;refine bz 3 (aO ab9<|bM aw (f aE)<|g aE)<|dg (bi<|e8 aV aG) (λh=>bB (cz<|aS aV) ?_)<|λh=>?_
 .rw[(uM au).mp<|cM h];rfl
 have h:uH b i j=L:=by
  cases q:uH b i j with
  |true=>rfl
  |false=>exact absurd ((uM au).mpr q)<|cX h
 rw[aD<|by rw[h];simp];simp[uH,within]at h;have y:=HA<|fg<|l _<|.head _;obtain⟨z,m⟩:∃n:Nat,i=n:=⟨i.toNat,ap⟩
 obtain⟨C,o⟩:∃n:Nat,j=n:=⟨j.toNat,ap⟩
 subst m o;exact bB (cz<|aS<|aO (aco ap ap ap ap)<|bM aw (f aE)<|g aE)<|by rw[rh];rfl
abbrev dG(k lo hi r:Int)(a:O Int):eF:=⟨k.toNat,lo.toNat,hi.toNat,⟨r.toNat,cP<|iB a⟩⟩
structure oI(k lo hi r:Int)row:Prop where
 k0:0<=k
 k3:k<=3
 lo1:1<=lo
 P8:lo<=hi
 hi8:hi<=8
 r0:0<=r
 r1:r<=1000000000
 pts:∃m:List (Int×Int),row=fA m/\1<=m.length/\m.length<=32/\(∀c∈m,dh<|km c)
def oI.P9{k lo hi r:Int}(h:oI k lo hi r row):CS (dG k lo hi r row):=
 let⟨C,I,h3,h4,h5,h6,h7,_⟩:=h
 ⟨by show k.toNat<=3;simp_all,by show 1<=lo.toNat;lia,by show lo.toNat<=hi.toNat;grind,by show hi.toNat<=8;simp_all,by show r.toNat<=_;simp_all⟩
def wQ{m:O (Int×Int)}(h:1<=m.length):m.map km≠[]:=by grind[Ec]
def HB{k lo hi r:Int}{c a:O Int}(h:oI k lo hi r a):Gy base 8 166 "thing_of" [nums (k::lo::hi::r::c),nums a] (keep K A<|dG k lo hi r a):=by
 refine gy ["numbers","row"] λq p s t=>?_;refine rF h.pts λm d f g i=>?_;subst d;have e:dG k lo hi r (fA m)=⟨k.toNat,lo.toNat,hi.toNat,⟨r.toNat,cP<|m.map km⟩⟩:=by rw[dG,pH]
 have b:=h.P9;rw[e]at b⊢;have j:int k=int k.toNat:=by have:=h.k0;congr 1;lia
 have l:int lo=int lo.toNat:=by have:=h.lo1;congr 1;lia
 have n:int hi=int hi.toNat:=by have:=h.lo1;have:=h.P8;congr 1;lia
 have o:int r=int r.toNat:=by have:=h.r0;congr 1;lia
 exact bI (gv zB (cB (Ev.eq (bW aw aG<|b8 U U) j) (cB (Ev.eq (bW aw aG<|b8 U U) l) (cB (Ev.eq (bW aw aG<|b8 U U) n) (cB (Ev.eq (bW aw aG<|b8 U U) o)
  (aS<|aO (zA (wQ f)<|by rwa[aI])<|aS<|Ev.as (aO (wH g)<|aS aE) λ_ _=>zx i)))))<|.mk b)
def jK(h:¬nr l<0):∀a∈l,¬a<0:=λa b c=>h (G8 b c).2
abbrev wR(b:bC)(k lo hi r a:Int)(c:O Int):Int:=nr [oF b k lo hi r a,iw c]
def P_{b:bC}{k lo hi r:Int}{c a:O Int}:Gy base 8 167 "room_refusal" [ba K A b,nums (k::lo::hi::r::c),nums a] (int<|wR b k lo hi r 2 a):=gy ["board","numbers","row"] λq d e f=>bI<|aO (wF (l:=[_,_]))<|aS<|cz<|bF (aO He<|bM aw aE<|bX M.NC)<|aO Hd<|aS aM
abbrev sL(b:bC)(k lo hi r m:Int)(a:O Int):Int:=nr [wR b k lo hi r 2 a,rf (within 1 m 1000000000) (-6)]
def Qa{b:bC}{k lo hi r m:Int}{c a:O Int}:Gy base 9 168 "may_refusal" [ba K A b,nums (k::lo::hi::r::m::c),nums a] (int<|sL b k lo hi r m a):=gy ["board","numbers","row"] λq d e f=>bI<|aO (wF (l:=[_,_]))<|aS<|cz<|bF (aO P_<|bM aw aE aM)<|aO O_<|aS<|bW aE aG<|b8 U U
def HC(c:mW b){k lo hi r a:Int}(d:a<=3)(h:¬oF b k lo hi r a<0):(0<=k/\k<=a)/\(1<=lo/\lo<=hi/\hi<=b.layers)/\(0<=r/\r<=1000000000):=by have e:=jK h (zy b lo hi) au;have f:=jK h (rf (within 0 k a) (-4)) au;have g:=jK h (rf (within 0 r 1000000000) (-5)) au;simp_all[zy,uM,m9,within]
def HD(h:¬iw row<0):∃m:O (Int×Int),row=fA m/\1<=m.length/\m.length<=32/\(∀c∈m,dh<|km c):=by grind[iw,ko,wJ,Hb,C9]
def Dg(a:mW b){k lo hi r c:Int}(d:c<=3)(e:¬oF b k lo hi r c<0)(f:¬iw row<0):oI k lo hi r row:=
 let⟨⟨g,m⟩,⟨h,i,n⟩,j,l⟩:=HC a d e;have:=HA a
 ⟨g,ap,h,i,ap,j,l,HD f⟩
inductive HE K A:List Rp->Rp->Prop
 |mk {k lo hi r m:Int} {a:List Int}:HE K A [ba K A b,nums [k,lo,hi,r,m],nums a] (nums (if sL b k lo hi r m a<0 then[sL b k lo hi r m a]else jd ((l9 b (dG k lo hi r a) m).headD (0,0))))
def zG(d:mW b){k lo hi r m:Int}(h:¬sL b k lo hi r m row<0):oI k lo hi r row/\1<=m/\m<=1000000000:=by have c:=jK h _<|.head _;have a:=jK h (rf (within 1 m 1000000000) (-6)) au;rw[uM au]at a;simp[within]at a;exact⟨Dg d au (jK c _<|.head _)<|jK c (iw row) au,a⟩
def ac2:Gz base 11 169 "call_may" HE:=by
 refine gz ["board","numbers","row","refusal"] λq g i d a c j=>?_;cases a with|@mk b k lo hi r m row=>?_
 refine bz 3 (aO Qa<|bM aw aE aM)<|dg (bi<|e8 aV aG) (λh=>bB (cz<|aS aV)<|(aH<|cM h)▸U)<|λh=>?_;have h:=cX h;let⟨e,l,f⟩:=zG (fg<|c _<|.head _) h;exact(aD h)▸bI (aO (PJ ap f)<|bM aw (aO (HB e)<|bF aE aM)<|bW aE aG<|b8 U U)
inductive HF K A:List Rp->Rp->Prop
 |mk {k lo hi r m:Int} {a:List Int}:HF K A [ba K A b,nums [k,lo,hi,r,m],nums a] (nums (if sL b k lo hi r m a<0 then[sL b k lo hi r m a]else((l9 b (dG k lo hi r a) m).length)::(l9 b (dG k lo hi r a) m).flatMap jd))
def ac3:Gz base 11 170 "call_all" HF:=by
 refine gz ["board","numbers","row","refusal"] λq g i d a c j=>?_;cases a with|@mk b k lo hi r m row=>?_
 refine bz 3 (aO Qa<|bM aw aE aM)<|dg (bi<|e8 aV aG) (λh=>bB (cz<|aS aV)<|(aH<|cM h)▸U)<|λh=>?_;have h:=cX h;let⟨e,l,f⟩:=zG (fg<|c _<|.head _) h;exact(aD h)▸bI (aO (acG aU f)<|bM aw (aO (HB e)<|bF aE aM)<|bW aE aG<|b8 U U)
inductive HG K A:List Rp->Rp->Prop
 |mk {k lo hi r:Int} {a:List Int}:HG K A [ba K A b,nums [k,lo,hi,r],nums a] (nums (if wR b k lo hi r 2 a<0 then[wR b k lo hi r 2 a]else kR b (dG k lo hi r a)::jd (if kR b (dG k lo hi r a)=1000000000 then(0,0)else(l9 b (dG k lo hi r a) (kR b (dG k lo hi r a)+1)).headD (0,0))))
def ac4:Gz base 12 171 "call_room" HG:=by
 refine gz ["board","numbers","row","refusal"] λq e f d a c g=>?_;cases a with|@mk b k lo hi r row=>?_
 refine bz 3 (aO P_<|bM aw aE aM)<|dg (bi<|e8 aV aG) (λh=>bB (cz<|aS aV)<|(aH<|cM h)▸U)<|λh=>?_;have h:=cX h;exact(aD h)▸bI (aO acK<|bF aw<|aO (HB<|Dg (fg<|c _<|.head _) au (jK h _<|.head _)<|jK h (iw row) au)<|bF aE aM)
inductive HH K A:List Rp->Rp->Prop
 |mk {b:bC} {i:Int} {d':Rp}:HH K A [ba K A b,nums [i],d'] (nums (match fY b.keeps i with|none=>[-10]|some k=>pc [k.kind,k.lo,k.hi,k.shape.r]++kJ k.shape.pts))
def Dh(l:O α)i:(decide (0<=i)&&decide (i<(l.length:Int)))=(fY l i).isSome:=by grind-order [fY]
def Di{x:α}(h:fY l i=Y x):∃n:Nat,i=n/\l[n]?=x:=by grind only[fY]
def ac5:Gz base 2 172 "call_keepout" HH:=by
 refine gz ["board","numbers","row","refusal","keep"] λq m o d g h s=>?_;cases g with|@mk b i u=>?_
 have a:∀{X:Cx}{c:En}{p q j:bn}{t:Nat},Ev X c (aK "numbers" p) (nums [i])->Ev X c (cR (aK "numbers" p) (dX (.int 0) t q) j) (int i):=λe=>bW e aG<|b8 (n:=0) U U;refine bz 3 (Ev.eq (d':=int<|rf (fY b.keeps i).isSome (-10)) (aO wK<|bF (a aE)<|cO M.len<|i5 M aw)<|by rw[aI,Dh]) ?_;cases q:fY b.keeps i with
 |none=>exact kh (Tv.eq (bi<|e8 aV aG) U)<|bB (cz<|aS aV) U
 |some k=>
  refine aL (Di q) λn l f=>?_;subst l;refine iI (Tv.eq (bi<|e8 aV aG) U)<|bz 4 (bW (i5 M aw) (a aE)<|b8 U<|get_map (keep K A) f)<|bB (bu.ev<|jj (cz<|kg (sC M bZ) (uz M bZ) (uA M bZ)<|uB M bZ) (aO Hf<|aS<|ox M bZ) ?_) ?_
  .have:=(eB<|qG<|pK (h _<|.head _) k<|eD f).1.2;rw[aI,zz];exact jH<|by show 4+_<=_;lia
  .show lst _=lst _;rw[cN];rfl
inductive HI K A:List Rp->Rp->Prop
 |mk {b:bC} {i:Int} {d':Rp}:HI K A [ba K A b,nums [i],d'] (nums (match fY b.cuts i with|none=>[-10]|some c=>c.length::kJ c))
def ac6:Gz base 2 173 "call_cutout" HI:=by
 refine gz ["board","numbers","row","refusal","cut"] λq m o d g h s=>?_;cases g with|@mk b i u=>?_
 have a:∀{X:Cx}{c:En}{p q j:bn}{t:Nat},Ev X c (aK "numbers" p) (nums [i])->Ev X c (cR (aK "numbers" p) (dX (.int 0) t q) j) (int i):=λe=>bW e aG<|b8 (n:=0) U U;refine bz 3 (Ev.eq (d':=int<|rf (fY b.cuts i).isSome (-10)) (aO wK<|bF (a aE)<|cO M.len<|ib M aw)<|by rw[aI,Dh]) ?_;cases q:fY b.cuts i with
 |none=>exact kh (Tv.eq (bi<|e8 aV aG) U)<|bB (cz<|aS aV) U
 |some k=>
  refine aL (Di q) λn l f=>?_;subst l;refine iI (Tv.eq (bi<|e8 aV aG) U)<|bz 4 (bW (ib M aw) (a aE)<|b8 U<|get_map (bU K A) f)<|bB (bu.ev<|jj (cz<|aS<|cO M.len<|iJ M bZ) (aO Hf<|aS bZ) ?_) ?_
  .have:=(eB<|pJ (h _<|.head _) k<|eD f).1.2;rw[aI,aI,zz];exact jH<|by show 1+_<=_;lia
  .rw[aI];rfl
abbrev oJ(K:aJ)(A:Ad)(x:Int×bC):Rp:=tup K [int x.1,ba K A x.2]
def pL{e:Nat}{f:bn}(g:Ev X c a (int n))(h:Ev X c b (ba X.K A d))(i:Se X a [b]<|>_r)(j:Se X b []<|>_r):Ev X c (jW [a,b] e f) (oJ X.K A (n,d)):=kP<|cB g (aS h j) i
abbrev nh(p:Bool):Int:=if p=L then-11 else 0
abbrev zH(b:bC)(k lo hi r:Int)(a:O Int):Int:=nr [oF b k lo hi r 3,iw a,nh<|decide<|32<=(b.keeps.length:Int)]
def ac7{b:bC}{k lo hi r:Int}{c a:O Int}:Gy base 8 199 "keep_refusal" [ba K A b,nums (k::lo::hi::r::c),nums a] (int<|zH b k lo hi r a):=by refine gy ["board","numbers","row","full"] λq e f g=>?_;exact bz 3 (h_ (d:=int<|nh<|decide<|32<=(b.keeps.length:Int)) (Tv.eq (q:=decide<|32<=(b.keeps.length:Int)) (bi<|lX (cO M.len<|i5 M aw)<|bX M.NJ)<|by rw[aI]) (λh=>Ev.eq (bX M.NP)<|by rw[nh,aH h])<|λh=>Ev.eq aG<|by rw[nh,aD<|by rw[h];simp])<|bI<|aO (wF (l:=[_,_,_]))<|aS<|cz<|bM (aO He<|bM aw aE<|bX M.ND) (aO Hd<|aS aM) aV
abbrev wU(b:bC)(k lo hi r:Int)(a:O Int):Int×bC:=if zH b k lo hi r a<0 then(zH b k lo hi r a,b)else(b.keeps.length,{b with keeps:=b.keeps++[dG k lo hi r a]})
def Qb(h:¬nh p<0):p=aA:=by grind[nh]
def ac8{k lo hi r:Int}(h:oI k lo hi r row):int k=int k.toNat/\int lo=int lo.toNat/\int hi=int hi.toNat/\int r=int r.toNat:=by
 refine⟨?_,?_,?_,?_⟩
 .have:=h.k0;grind-order
 .have:=h.lo1;lia
 .have:=h.lo1;have:=h.P8;lia
 .have:=h.r0;grind
inductive HJ K A:List Rp->Rp->Prop
 |mk {k lo hi r:Int} {a:List Int}:HJ K A [ba K A b,nums [k,lo,hi,r],nums a] (oJ K A (wU b k lo hi r a))
def ac9:Gz base 9 200 "call_keep" HJ:=by
 refine gz ["board","numbers","row","refusal","keep"] λq H I d l o N=>?_;cases l with|@mk b k lo hi r row=>?_
 have p:=o _<|.head _;have a:=fg p;refine bz 3 (aO ac7<|bM aw aE aM) (dg (bi<|e8 aV aG) (λh=>bB (pL aV aw)<|by rw[wU,aH<|cM h];rfl)<|λh=>?_);have h:=cX h;rw[wU,aD h];have g:=jK h _<|.head _;have s:=jK h (iw row) au;have Q:=cX<|Qb<|jK h (nh<|decide<|32<=(b.keeps.length:Int)) au;have f:=Dg a au g s;obtain⟨_,⟨T,l2,l3⟩,_⟩:=HC a au g;have i:=f.P9;refine rF f.pts λm t u j v=>?_;subst t;refine Ve (ac8 f) λy z C E=>?_;have e:dG k lo hi r (fA m)=⟨k.toNat,lo.toNat,hi.toNat,⟨r.toNat,cP<|m.map km⟩⟩:=by rw[dG,pH]
 rw[e]at i⊢;refine bz 4 (gv zB (cB (Ev.eq (bW aE aG<|b8 (n:=0) (x:=int k) U U) y) (cB (Ev.eq (bW aE aG<|b8 (n:=1) (x:=int lo) U U) z) (cB (Ev.eq (bW aE aG<|b8 (n:=2) (x:=int hi) U U) C) (cB (Ev.eq (bW aE aG<|b8 (n:=3) (x:=int r) U U) E)
  (aS<|aO (zA (wQ u)<|by rw[aI];exact j)<|aS<|Ev.as (aO (wH j)<|aS aM) λ_ _=>zx v)))))<|.mk (k:=⟨k.toNat,lo.toNat,hi.toNat,⟨r.toNat,cP<|m.map km⟩⟩) i) ?_
 refine bI<|pL (Ev.eq (cO M.len<|i5 M aw)<|by rw[aI])<|iu acv (bF aw bZ)<|.mk ⟨a.gK,a.odd,a.ow,a.out,a.cuts,a.cut,?_,λG c=>?_⟩
 .rw[cC];simp only[c_,p6];lia
 .rcases fE.mp c with c|c
  .exact a.lay G c
  .rw[e_.mp c];show hi.toNat<=b.layers;lia
abbrev zI(b:bC)(i:Int):Int×bC:=match fY b.keeps i with|none=>(-10,b)|some _=>(b.keeps.length-1,{b with keeps:=b.keeps.eraseIdx i.toNat})
inductive HK K A:List Rp->Rp->Prop
 |mk:HK K A [ba K A b,nums [i],d'] (oJ K A (zI b i))
def ac_:Gz base 4 201 "call_unkeep" HK:=by
 refine gz ["board","numbers","row","refusal"] λq j l d f m o=>?_;cases f with|@mk b i s=>?_
 have a:∀{X:Cx}{c:En}{p q g:bn}{t:Nat},Ev X c (aK "numbers" p) (nums [i])->Ev X c (cR (aK "numbers" p) (dX (.int 0) t q) g) (int i):=λe=>bW e aG<|b8 (n:=0) U U;refine bz 3 (Ev.eq (d':=int<|rf (fY b.keeps i).isSome (-10)) (aO wK<|bF (a aE)<|cO M.len<|i5 M aw)<|by rw[aI,Dh]) ?_
 delta zI
 cases q:fY b.keeps i with
 |none=>exact kh (Tv.eq (bi<|e8 aV aG) U)<|bI<|pL aV aw
 |some k=>
  refine aL (Di q) λn h u=>?_;subst h;rw[rh];refine iI (Tv.eq (bi<|e8 aV aG) U)<|bI<|pL (Ev.eq (cZ (cO M.len<|i5 M aw) aG)<|by rw[aI])<|aO acx<|bF aw<|a aE
abbrev zJ(b:bC)(i:Int):Int×bC:=match fY b.cuts i with|none=>(-10,b)|some _=>(b.cuts.length-1,{b with cuts:=b.cuts.eraseIdx i.toNat})
inductive HL K A:List Rp->Rp->Prop
 |mk:HL K A [ba K A b,nums [i],d'] (oJ K A (zJ b i))
def ac':Gz base 4 204 "call_uncut" HL:=by
 refine gz ["board","numbers","row","refusal"] λq j l d f m o=>?_;cases f with|@mk b i s=>?_
 have a:∀{X:Cx}{c:En}{p q g:bn}{t:Nat},Ev X c (aK "numbers" p) (nums [i])->Ev X c (cR (aK "numbers" p) (dX (.int 0) t q) g) (int i):=λe=>bW e aG<|b8 (n:=0) U U;refine bz 3 (Ev.eq (d':=int<|rf (fY b.cuts i).isSome (-10)) (aO wK<|bF (a aE)<|cO M.len<|ib M aw)<|by rw[aI,Dh]) ?_
 delta zJ
 cases q:fY b.cuts i with
 |none=>exact kh (Tv.eq (bi<|e8 aV aG) U)<|bI<|pL aV aw
 |some k=>
  refine aL (Di q) λn h u=>?_;subst h;rw[rh];refine iI (Tv.eq (bi<|e8 aV aG) U)<|bI<|pL (Ev.eq (cZ (cO M.len<|ib M aw) aG)<|by rw[aI])<|aO acy<|bF aw<|a aE
abbrev ma(b:bC)(a:O Int):Int:=nr [sI a,nh<|decide<|8<=(b.cuts.length:Int)]
def ada{b:bC}{a:O Int}:Gy base 9 202 "cut_refusal" [ba K A b,nums a] (int<|ma b a):=gy ["board","row","full"] λq c d e=>bz 2 (h_ (Tv.eq (bi<|lX (cO M.len<|ib M aw)<|bX M.NI)<|by rw[aI]) (λh=>Ev.eq (bX M.NP)<|by rw[nh,aH h])<|λh=>Ev.eq aG<|by rw[nh,aD<|by rw[h];simp])<|bI<|aO (wF (l:=[_,_]))<|aS<|cz<|bF (aO ab7<|aS aE) aM
abbrev wV(b:bC)(a:O Int):Int×bC:=if ma b a<0 then(ma b a,b)else if qH (cP<|iB a) b.outline b.cuts=aA then(-12,b)else(b.cuts.length,{b with cuts:=b.cuts++[cP<|iB a]})
inductive HM K A:List Rp->Rp->Prop
 |mk {d':Rp}:HM K A [ba K A b,d',nums row] (oJ K A (wV b row))
def adb(h:¬sI row<0):¬iw row<0/\6<=(row.length:Int):=by
 delta sI at h
 by_cases a:iw row<0
 .simp_all
 simp_all[uM]
def ade:Gz base 10 203 "call_cut" HM:=by
 refine gz ["board","numbers","row","refusal","cut"] λq u v d j k x=>?_;cases j with|@mk b row y=>?_
 have l:=k _<|.head _;have a:=fg l;refine bz 3 (aO ada<|bF aw aM) (dg (bi<|e8 aV aG) (λh=>bB (pL aV aw)<|by rw[wV,aH<|cM h];rfl)<|λh=>?_);have h:=cX h;rw[wV,aD h];obtain⟨n,o⟩:=adb<|jK h _<|.head _;have z:=cX<|Qb<|jK h (nh<|decide<|8<=(b.cuts.length:Int)) au;refine rF (HD n) λm p g i s=>?_;subst p;rw[pH];have t:3<=m.length:=by rw[C7]at o;lia
 refine bz 4 (aO (zA (wQ g)<|by rw[aI];exact i)<|aS<|Ev.as (aO (wH i)<|aS aM) λ_ _=>zx s) ?_;refine dg (dE<|b_<|aO (Ps a.cuts)<|bM bZ (i4 M aw)<|ib M aw) (λe=>bB (pL (bX M.aaJ) aw) ?_)<|λe=>?_
 .rw[my]at e;rw[aH e];rfl
 .rw[jU]at e;rw[aD<|by rw[e];simp];refine bI<|pL (Ev.eq (cO M.len<|ib M aw)<|by rw[aI])<|iu acw (bF aw bZ)<|.mk ⟨a.gK,a.odd,a.ow,a.out,?_,λc f=>?_,a.keeps,a.lay⟩
  .rw[cC];simp only[c_,p6];lia
  .rcases fE.mp f with f|f
   .exact a.cut c f
   .rw[e_.mp f,uI<|wQ g,aI];exact t
abbrev uN(c:Nat)(k:eF):eF:={k with lo:=c+1-k.hi,hi:=c+1-k.lo}
def adf{k:eF}{c:Nat}(h:k.hi<=c)(e:c<=8):Gy base 3 189 "keep_from_below" [keep K A k,int c] (keep K A<|uN c k):=by refine gy ["keep","coppers"] λq f a g=>?_;obtain⟨b,i,j,l,d⟩:=sJ<|a _<|.head _;exact bI<|gv zB (si (sC M aw) (Ev.eq (cZ (cY aE aG)<|uA M aw)<|show int _=int ((uN c k).lo) by show int _=int ((c+1-k.hi:Nat));congr 1;lia) (Ev.eq (cZ (cY aE aG)<|uz M aw)<|show int _=int ((uN c k).hi) by show int _=int ((c+1-k.lo:Nat));congr 1;lia) (uB M aw)<|ox M aw)<|.mk (k:=uN c k) ⟨b,by show 1<=c+1-k.hi;grind,by show c+1-k.hi<=c+1-k.lo;lia,by show c+1-k.lo<=8;(simp_all;lia),d⟩
abbrev nk(b:bC):O (O Pt):=[b.outline]++b.cuts++b.keeps.map λk=>k.shape.pts
def adg{b:bC}:Gy base 1 193 "skeletons_in" [ba K A b] (lst<|(nk b).map<|bU K A):=by
 refine gy ["board","keep"] λq d c e=>?_;have a:=fg<|c _<|.head _;have f:=a.cuts;have h:=a.keeps;refine bB (bu.ev<|jj (bu.ev<|jj (cz<|aS<|i4 M aw) (ib M aw) ?_) (bu.ev<|eA.fw<|d6 (l:=b.keeps) (g:=λk=>bU K A k.shape.pts) (own:=[("keep",1)]) (cK<|i5 M aw) (dD U) (λk _=>aY _ (eu 1)<|λs i C j m=>(ox M aE)) U) ?_) ?_
 .rw[aI];exact jH<|by show 1+_<=_;lia
 .rw[cC,aI,aI];exact jH<|by rw[c_,p6];lia
 .delta nk
  rw[cN,cN,c9];rfl
abbrev sM(a b:Int)(p:Pt):Bool:=within (-1000000000) (p.x+a) 1000000000&&within (-1000000000) (p.y+b) 1000000000
abbrev qK(b:bC)(a c:Int):Bool:=(nk b).all λl=>l.all<|sM a c
def HN(h:Gb X a b d bD o)(k:∀G v,d'.r G v->d.r G v):Gb X a b d' bD o:=λc e f G H D v x s r=>h c e f G H D v x s<|k _ _ r
def adh{b:bC}{c e:Int}:Gy base 2 194 "shift_stays_in_range" [ba K A b,int c,int e] (bl<|qK b c e):=by
 refine gy ["board","dx","dy","skeleton","x","y"] λq T hI nd=>?_;rw[qK];obtain⟨n,z,t,m⟩:=oy (λl:O Pt=>!(l.all<|sM c e))<|nk b;refine mU n (by rw[aI];exact z) (λi=>[Y<|.aC<|ba K A b,Y<|.aC<|int c,Y<|.aC<|int e,am,am,am]) (cK<|aO adg<|aS aw) U (λi d C f=>?_) ?_
 .obtain⟨l,o,rfl⟩:=cH f;have g:=t i l C o;rw[jU]at g;refine gX 3<|fe<|lz (λj=>[Y<|.aC<|ba K A b,Y<|.aC<|int c,Y<|.aC<|int e,Y<|.aC<|bU K A l,am,am]) (cK<|iJ M aV) U (λj d f=>?_) cG;obtain⟨p,k,rfl⟩:=cH f;have a:=dR.mp g p<|eD k;exact HN (d:=tup K [int p.x,int p.y]) (ly 4 5<|fe<|iI (Tv.eq (Tw.tv<|fK (dE<|b_<|aO sG<|aS<|cY bZ aE)<|λh=>(iX<|dE<|b_<|aO sG<|aS<|cY dU aM))<|by unfold sM at a;rw[c6]at a;rw[a.1,a.2];rfl) cG) λG v q=>q.2
 .rcases wC t m with⟨m,s⟩|⟨l,o,g,s⟩
  .exact aP ⟨by rw[aI];exact m,bB df<|by rw[s]⟩
  .refine aW ⟨_,_,get_map _ o,gX 3 ?_,U⟩;obtain⟨E,H,u,I⟩:=oy (λp=>!sM c e p) l;refine mU E (by rw[aI];exact H) (λj=>[Y<|.aC<|ba K A b,Y<|.aC<|int c,Y<|.aC<|int e,Y<|.aC<|bU K A l,am,am]) (cK<|iJ M aV) U (λj d N f=>?_) ?_
   .obtain⟨p,k,rfl⟩:=cH f;have a:=u j p N k;rw[jU]at a;exact HN (d:=tup K [int p.x,int p.y]) (ly 4 5<|fe<|iI (Tv.eq (Tw.tv<|fK (dE<|b_<|aO sG<|aS<|cY bZ aE)<|λh=>(iX<|dE<|b_<|aO sG<|aS<|cY dU aM))<|by unfold sM at a;rw[c6]at a;rw[a.1,a.2];rfl) cG) λG v q=>q.2
   .rcases wC u I with⟨_,Q⟩|⟨p,k,a,_⟩
    .rw[Q]at g;cases g
    .exact aW ⟨_,_,get_map _ k,HN (d:=tup K [int p.x,int p.y]) (ly 4 5<|kh (Tv.eq (Tw.tv<|fK (dE<|b_<|aO sG<|aS<|cY bZ aE)<|λh=>(iX<|dE<|b_<|aO sG<|aS<|cY dU aM))<|by unfold sM at a;rw[<-U1,a];rfl) (bB df<|by rw[s])) λG v q=>q.2,U⟩
end
abbrev vl(v:V):Rp:=⟨λ_ u=>u=v,λ_ h=>h⟩
@[reducible]def Dk(a:aq)(b:dJ)(c f:az)(cd:aB)(cl:O (aq×az)):gC:=newEnv b c eZ cl (a++".<locals>.") f cd am Jt
abbrev zK(P:bO)(w:bN)(K:aJ)(mg:aq->aR aB)(base:bf)(N:O aq)(a:aq)(b:dJ)(f:az)(cd:aB)(cl:O (aq×az))(A:eJ)(outer:O gC)(s:bp)(H:Hp):Cx where
 prog:=P
 w:=w
 K:=K
 mg:=mg
 base:=base
 A:=A.deeper (Dk a b s⁻¹ f cd cl)
 N:=N
 hU:=s
 vX:=H
 env:=Dk a b s⁻¹ f cd cl
 outer:=outer
 stack:=Dk a b s⁻¹ f cd cl::outer
 ex:=[]
 calm:=L
 fn:=λ_=>aA
 pn:=[]
 xe:=λ_ _=>False
structure Dl(a:bf)gx gA bD bP cl f fd(c5:List (aq×V)):Prop where
 ex:∃(d:aB)(b:az)(e:aB)(o:b9),fd=J' "<lambda>" gx gA bD bP cl d (.ref b) e/\a.get? f=o/\o.data=.func fd/\a.CodeRec (.ref b) gx
 cells:∀x v,c5.lookup x=Y v->∃c u,cl.lookup x=Y c/\a.IsCell c (Y u)/\RelV v u
 all:∀x c,cl.lookup x=Y c->∃v,c5.lookup x=Y v
 inj:∀x y c,cl.lookup x=Y c->cl.lookup y=c->x=y
structure Qc y(c5:List (aq×V))(a:dJ):Prop where
 kind:a.kind=.function
 co:a.isCoroutine=aA
 gen:a.isGenerator=aA
 par:a.names.lookup y=Y .local
 Qd:∀x∈a.names,x.2≠.cell
 frees:∀x,a.names.lookup x=Y .free->∃v,c5.lookup x=Y v
 is:∀x v,c5.lookup x=Y v->a.names.lookup x=Y .free
section
variable{P:bO}{w:bN}{K:aJ}{mg:aq->aR aB}{base:bf}{k:Nat}{gx:aq}{gA:AO}{bD:aT}{bP:dJ}{cl:O (aq×az)}{f:az}{fd:k7}{c5:O (aq×V)}{y:aq}{R:O Rp->Rp->Prop}
def adi(ak6:Dl base gx gA bD bP cl f fd c5)(S:Qc y c5 bP)(ak3:(y::c5.map (·.1)).Nodup)(akN:∀(i:Nat)p,c5[i]?=Y p->c5.lookup p.1=Y p.2)(hb:∀(pm akO akJ u:aB),tH (J' "<lambda>" gx gA bD bP cl pm akO akJ) ⟨[u],[]⟩=pure [(y,u)])(T:∀ds d,R ds d->ds.length=1)
  (h:∀(cd:aB)(A:eJ)(akF:O gC)(s:bp)(H:Hp),cj k (A.deeper<|Dk gx bP s⁻¹ f cd cl)->∀(ds:O Rp)(d:Rp),R ds d->(∀d∈ds,bA d)->
   ∀J:En,J.length=1+c5.length->(∀e,ds[0]?=Y e->J[0]?=Y (Y e))->(∀(i:Nat)p,c5[i]?=Y p->J[i+1]?=Y (Y<|vl p.2))->Ev (zK P w K mg base (y::c5.map (·.1)) gx bP f cd cl A akF s H) J bD d):
  fH P w K mg base iH (k+1) f fd [y] (sj R):=by
 refine vI ak6.ex λpm c' akJ o akP akQ akR akS=>?_;subst akP;refine⟨λvs H Q E akT=>by refine mI akT λG ds d _ _ r hR _=>?_;rw[r.length];exact T ds d hR,λA akF s H ak4 us vs Q E hr j akU r akV=>?_⟩;have akG:∀b o,base.get? b=Y o->s.heap.get? b=Y o:=λb o e=>(j.bs b o e).1;have akW:s.heap.NoLimit:=j.mod.nolimit.keeps akG;refine mI akV λG ds d SG W rG hR q=>?_
 obtain⟨e,rfl⟩:∃e,ds=[e]:=by
  match ds,T ds d hR with
  |[e],_=>exact⟨e,U⟩
 obtain⟨v,rfl,re⟩:=all1 rG;obtain⟨u,rfl,ru⟩:=vals1 r;have akX:s.heap.CodeRec (.ref c') gx:=by refine vI akS λc oc vs tq g l h3 h4=>?_;exact yk c oc vs tq g (akG _ _ l) h3 h4
 refine PySem.W.kla_callFunE hr.depth (akG _ _ akQ) akR S.co S.gen U akX<|akU _ _ _ _ ?_;refine wpAny_newFunctionEnv S.Qd (λx hx=>?_) (λg akY akK=>⟨akW.fresh _ akK,PySem.W.kla_codeExpr ?_⟩) S.kind
 .have:x=(y,u):=by simpa using hx
  rw[this];exact S.par
 have akH:∀b o,s.heap.get? b=Y o->g.get? b=Y o:=λb o e=>akK.extBut b o (fO<|cA e)<|dO _ e;have akI:∀b:az,b∉(zK P w K mg base (y::c5.map (·.1)) gx bP f (.ref c') cl A akF s H).ex:=λb z=>absurd (show b∈([]:O az)from z) au;have akL:∀x c,cl.lookup x=Y c->∃u,base.IsCell c (Y u):=λx c e=>by obtain⟨v,hv⟩:=ak6.all x c e;refine be (ak6.cells x v hv) λc2 u g l _=>?_;rw[e]at g;obtain rfl:=bL g;exact⟨u,l⟩
 have akZ:∀x c,cl.lookup x=Y c->H c=am:=λx c e=>by refine fF (akL x c e) λu oc g _=>?_;exact(j.bs _ _ g).2
 have akM:∀{c:az}{u:aR aB},base.IsCell c u->g.IsCell c u:=λz_=>aL z_ λoc g l=>aY oc (akH _ _<|akG _ _ g) l
 have I:Inv (zK P w K mg base (y::c5.map (·.1)) gx bP f (.ref c') cl A akF s H) [] (Y v::c5.map λp=>Y p.2) H {s with heap:=g,toks:=s.toks+1}:=by
  refine⟨⟨j.mod,S.kind,U,U,cg _,ak6.inj,λa n=>?_,λa c hf _=>(by cases hf),λ_=>hr.hd,ahI j.frames,aW ⟨U,U⟩,λb z=>absurd z<|akI b,j.bs,j.oe,λb _ _=>akI b,λb z=>absurd z<|akI b,j.j9,j.qp⟩,
   rfl,j.bare,Un.kept akH,⟨_,akY,λi a x C t g3=>?_⟩,λa c e=>?_,j.bS.fresh<|cg _,akZ,λp m=>absurd (show p∈([]:O (az×b9))from m) au,j.bS.kept akH,by simp[zK]⟩
  .have n:bP.names.lookup a=Y .cell\/bP.names.lookup a=Y .free:=n;obtain n|n:=n
   .exact absurd U<|S.Qd _<|gF n
   .obtain⟨z,hz⟩:=S.frees a n;refine fF (ak6.cells a z hz) λc u g _=>?_;exact⟨c,g⟩
  .cases i with
   |zero=>
    have C:Y y=Y a:=C;have t:(Y v)=Y (Y x):=t;obtain rfl:=bL C;cases t;exact aY u ru<|aP ⟨S.par,au⟩
   |succ i=>
    have C:(c5.map (·.1))[i]?=a:=C;have t:(c5.map λp=>Y p.2)[i]?=(Y x):=t;refine aL (cH C) λp m ak0=>?_;subst ak0;rw[cT,m]at t;cases t;have T:=akN i p m;refine be (ak6.cells _ _ T) λc u' g l h3=>?_;exact aY u' h3<|aW ⟨aW<|S.is _ _ T,c,g,akM l⟩
  .obtain⟨u,l⟩:=akL a c e;exact⟨_,akM l⟩
 have E1:eU (v::c5.map λp=>p.2) G (Y e::c5.map λp=>(vl p.2)):=by
  refine⟨au,λi d N=>?_⟩;cases i with
  |zero=>
   have N:Y (Y e)=(Y d):=N;cases N;exact aY v U re
  |succ i=>
   have N:(c5.map λp=>Y<|vl p.2)[i]?=(Y d):=N;obtain⟨p,m,⟨⟩⟩:=cH N;exact aY p.2 (by show(c5.map λp=>Y p.2)[i]?=_;rw[cT,m];rfl) U
 refine kY (h (.ref c') A akF s H (hr.deeper _) [e] d hR (λd' ak1=>by rw[e_.mp ak1];exact E8 G v re) (e::c5.map λp=>(vl p.2)) (by simp;lia) (λe' ak2=>by obtain rfl:=bL ak2;rfl) (λi p m=>by show(c5.map _)[i]?=_;rw[cT,m];rfl) _ G H (Q) E1 SG W q [] _ I) (λu' s' z_=>be z_ λv' H' ak5 rv qq=>?_) λe s' hs=>hs.elim;exact vE v' H' ak5.os ak5.bare ak5.base ak5.bS rv qq
end
section
variable{X:Cx}{J:En}{e:aT}{es:O aT}{ds:O Rp}{d:Rp}{ao p:bn}{x:aq}{k:Nat}{ps:O aq}{R:O Rp->Rp->Prop}{f:az}{fd:k7}{o:b9}
def adj j(akF:J[j]?=Y (Y<|ref f))(F:fH X.prog X.w X.K X.mg X.base iH k f fd ps (sj R))(hf:∃o,X.base.get? f=Y o/\o.data=.func fd)(akG:Binds X.K fd ps [])(hr:cj k X.A)(ha:fc X J (e::es) ds)(hR:R ds d)
  (hN:Nv X j x<|>aa)
  (he:Se X e es<|>_r)(akH:Bt X ao es<|>_r):Ev X J (b0 (aK x p) (e::es) [] ao) d:=λg G H Q E S W q h s I=>by
 refine aL hf λo akI y=>?_;refine aL (E.at_ j _ akF) λv h1 i=>?_;have i:v=.ref f:=i;subst i;refine nN<|bo (gu hN h s g H (λv a=>v=.ref f/\a=H) I ⟨_,h1,U,U⟩) λu s1 l=>de l λv z m r1 e1 e2=>?_;subst e1 e2;subst r1;have C:∀{b:bp}{n:Hp},Inv X h g n b->PySem.W.FnAt f b.heap:=λ{b n}akL=>by obtain⟨oc,od,akK,akJ⟩:=o;simp only at y;subst y;exact Vk oc od fd akJ<|akL.bk _ _ akI
 refine PySem.W.callWith_F (C m) (bo (ha g G z (λt a=>∃c,Ext G z c a/\Wf a/\bv c t ds) E S (ji m) (λt c a x w r=>fQ c x w r) ao h s1 m) λus b l=>be l λt n N rv w_=>b7 w_ λG2 T w2 r2=>⟨C N,?_⟩) he akH;apply v9 (jD:=[]) (ds:=[]) (Q:=Q) F hr akG .nil iW N rv;rw[eG];exact qg G2 ds d T.s w2 r2 hR<|λv G3 H3 e3 w3=>q v G3 H3 (T.trans e3) w3
end
inductive Qe K(m:Pt->Pt):List Rp->Rp->Prop
 |mk (h:dh (m p)):Qe K m [pt K p] (pt K (m p))
structure Mv P w K mg base f m:Prop where
 ex:∃a,fH P w K mg base iH 1 f a ["point"] (sj<|Qe K m)/\(∃o,base.get? f=Y o/\o.data=.func a)/\Binds K a ["point"] []
section
variable{P:bO}{w:bN}{K:aJ}{mg:aq->aR aB}{base:bf}{A:Ad}[Z:Zc P w K mg A]
abbrev zL(m:Pt->Pt)(b:bC):Prop:=∀l∈nk b,∀p∈l,dh<|m p
inductive Qg f m K A:List Rp->Rp->Prop
 |mk (h:∀p∈l,dh (m p)):Qg f m K A [bU K A l,ref f] (bU K A (cP (l.map m)))
def HP{f:az}{m:Pt->Pt}(V:Mv P w K mg base f m):Gz base 8 186 "moved_skeleton" (Qg f m):=by
 refine gz ["skeleton","move","point"] λq a k d b c n=>?_;cases b with|@mk l h=>?_
 obtain⟨⟨o,t⟩,_⟩:=eB<|c _<|.head _;refine b7 V.ex λu F e i=>?_;exact bI<|aO (zA (l:=l.map m) bG bG)<|aS<|bu.ev<|eA.fw<|d6 (l:=l) (g:=λp=>pt K<|m p) (own:=[("point",2)]) (cK<|iJ M aw) (dD U) (λp j=>aY _ (eu 2)<|λs v C x y=>adj 1 U F e i (a.mono au) (aS aM)<|.mk<|h p j) au
abbrev Dm(m:Pt->Pt)(k:eF):eF:={k with shape:=⟨k.shape.r,cP<|k.shape.pts.map m⟩}
inductive Qh f m K A:List Rp->Rp->Prop
 |mk (h:∀p∈k.shape.pts,dh (m p)):Qh f m K A [keep K A k,ref f] (keep K A (Dm m k))
def adk{f:az}{m:Pt->Pt}(V:Mv P w K mg base f m):Gz base 9 187 "moved_keep" (Qh f m):=by
 refine gz ["keep","move"] λq l n d a b o=>?_;cases a with|@mk k h=>?_
 obtain⟨c,e,g,i,j⟩:=sJ<|b _<|.head _;exact bI<|gv zB (si (sC M aw) (uz M aw) (uA M aw) (uB M aw)<|iu (HP V) (bF (ox M aw) aE)<|.mk h)<|.mk (k:=Dm m k) ⟨c,e,g,i,j⟩
abbrev i6(m:Pt->Pt)(b:bC):bC:={b with outline:=cP<|b.outline.map m,cuts:=b.cuts.map λc=>cP<|c.map m,keeps:=b.keeps.map<|Dm m}
def HQ{m:Pt->Pt}{b:bC}(d:bA (ba K A b)):mW (i6 m b):=by
 have a:=fg d;have i:=(eB<|qF d).1.1;refine⟨a.gK,a.odd,a.ow,?_,?_,λc j=>?_,?_,λk l=>?_⟩
 .show 3<=(cP<|b.outline.map m).length;rw[uI bG,aI];exact a.out
 .show(b.cuts.map _).length<=8;rw[aI];exact a.cuts
 .obtain⟨e,f,rfl⟩:=eY.mp ‹_›;rw[uI (by intro z;rw[Ec]at z;exact(eB<|pJ d e f).1.1 z),aI];exact a.cut e f
 .show(b.keeps.map _).length<=32;rw[aI];exact a.keeps
 .obtain⟨g,h,rfl⟩:=eY.mp ‹_›;exact a.lay g h
inductive Do f m K A:List Rp->Rp->Prop
 |mk (h:zL m b):Do f m K A [ba K A b,ref f] (ba K A (i6 m b))
def HR{f:az}{m:Pt->Pt}(V:Mv P w K mg base f m):Gz base 10 188 "moved" (Do f m):=by
 refine gz ["board","move","cut","cuts","keep","keeps"] λq y z d i j E=>?_;cases i with|@mk b h=>?_
 have a:∀c∈b.cuts,∀p∈c,dh (m p):=λc a=>h c (by simp[nk,a]);have e:∀k∈b.keeps,∀p∈k.shape.pts,dh (m p):=λk e=>h _ (by simp only[nk,fE,eY];exact aW ⟨k,e,U⟩);have n:∀p∈b.outline,dh (m p):=h _ (by simp[nk]);apply wq 3<|d6 (l:=b.cuts) (g:=λc=>bU K A<|cP<|c.map m) (own:=[("cut",2)]) (cK<|ib M aw) (dD U) (λc o=>aY _ (eu 2)<|λs t C u v=>iu (HP V) (bF aM aE)<|.mk<|a c o) U;apply wq 5<|d6 (l:=b.keeps) (g:=λk=>keep K A<|Dm m k) (own:=[("keep",4)]) (cK<|i5 M aw) (dD U) (λk x=>aY _ (eu 4)<|λs t C u v=>iu (adk V) (bF bZ aE)<|.mk<|e k x) U;exact bI<|gv uK (kg (kQ M aw) (iu (HP V) (bF (i4 M aw) aE)<|.mk n) (Ev.eq aV<|show lst _=lst ((i6 m b).cuts.map<|bU K A) by show lst _=lst ((b.cuts.map _).map _);rw[c9];rfl)<|Ev.eq dU<|show lst _=lst ((i6 m b).keeps.map<|keep K A) by show lst _=lst ((b.keeps.map _).map _);rw[c9];rfl)<|.mk (b:=i6 m b)<|HQ<|j _<|.head _
end
abbrev nu(P:az)(ps:Array aB):HO:=.ext λh=>h.get? P=(tN ps)
abbrev sN(c:az)(q:aq):HO:=.ext λh=>h.CodeRec (.ref c) q
abbrev oK(a:bn)(c:az):Array aB:=#[jc a.line,jc a.col,.ref c]
abbrev Tb(G H:Hp)(P:az)(a:bn)(q:aq):Prop:=G P=am/\(H P=(nu P #[])\/∃c,c≠P/\G c=am/\H P=(nu P<|oK a c)/\H c=(sN c q))
def adl ao c:codeAmong ao (oK ao c).toList=Y (.ref c):=by simp[oK,codeAmong,jc]
def Qi(e:h.get? a=Y (tN ps)):f_ P w H h a (nu a ps):=⟨e,⟨_,e⟩,λb c g k=>k _ g⟩
def Qj(e:h.CodeRec (.ref c) q):f_ P w H h c (sN c q):=by
 refine⟨e,?_,λb d g k=>?_⟩
 .refine E_ e λf o a t b d _=>?_;simp_all
 .obtain⟨f,o,a,t,⟨⟩,i,j,l⟩:=g;exact yk c o a t U (k _ i) j l
structure Qk(X:Cx)bP cl(c5:List (aq×V))(σ:St):Prop where
 cls:Uz bP X.env=pure cl
 sub:∀x c,cl.lookup x=Y c->X.env.cells.lookup x=c
 vals:∀x v,c5.lookup x=Y v->∃(i:Nat),X.N[i]?=x/\σ[i]?=Y (Y v)/\X.env.kindOf x=Y .cell/\∃c,cl.lookup x=Y c
 all:∀x c,cl.lookup x=Y c->∃v,c5.lookup x=Y v
section
variable{X:Cx}{aF:O (az×b9)}{σ:St}{G H:Hp}{s:bp}{c0 P:az}{ao:bn}{q:aq}{gA:AO}{bD:aT}{bP:dJ}{cl:O (aq×az)}{c5:O (aq×V)}{Q:aB->bp->Prop}
def adm(I:Inv X aF σ H s)(akO:defaultsOf gA X.env=([],[]))(hq:X.env.qual++"<lambda>"=q)(hc:X.env.code=.ref c0)(C:PySem.W.CodeHd X.base c0 P)(B:X.base.BuiltinsAt X.mg P)(T:Tb G H P ao q)(akU:Qk X bP cl c5 σ)(SG:aX G H)
  (h:∀f c pm i l s',Inv X aF σ l s'->s'.heap.get? f=(xX "<lambda>" q gA bD bP cl pm c i)->s'.heap.CodeRec (.ref c) q->s⁻¹<=f->l f=am->c≠P->G c=am->l P=(nu P<|oK ao c)->l c=(sN c q)->
   (∀b o,H b=Y o->b≠P->l b=o)->(∀b,H b=am->b≠c->l b=am)->c≠f->Q (.ref f) s'):aZ (bg X.prog X.w) X.A (eval (yg gA bD bP ao) X.env) Q X.xe s:=by
 apply PySem.W.kla_eval akO;rw[hq];have hg:s.heap.Ns eZ X.mg:=I.mod.glob.keeps I.bk;have C':=C.keeps I.bk;refine E7 B λbm ob b1 b2 b3 b4 b5 b6=>?_;have B':s.heap.BuiltinsAt X.mg P:=vE bm ob b1 b2 b3 b4 (I.bk _ _ b5) b6;have akP:eZ≠P:=λz=>by refine nV I.mod.glob λo es ep e _=>?_;have:=(I.bs _ _ e).2;rw[z]at this;rcases T.2 with t|⟨c,_,_,t,_⟩<;>rw[t]at this<;>cases this
 have akJ:X.env.globals=eZ:=I.ok.glob;obtain⟨tg,t|⟨c,t1,t2,t3,N⟩⟩:=T
 .have hP:s.heap.get? P=(tN #[]):=(I.bS P _ t).1;refine PySem.W.kla_makeFunction akU.cls akJ hg hc C' hP trivial U akP B' λd i g tk hx akF akG akQ akR=>?_;have m:∀b o,b≠P->s.heap.get? b=Y o->(g.push<|xX "<lambda>" q gA bD bP cl ((X.mg "__name__").getD .none) d i).get? b=o:=λb o j e=>dO _<|hx b o j e;have akK:(g.push<|xX "<lambda>" q gA bD bP cl ((X.mg "__name__").getD .none) d i).get? P=(tN<|oK ao d):=dO _<|akR▸U;have y:(g.push<|xX "<lambda>" q gA bD bP cl ((X.mg "__name__").getD .none) d i).CodeRec (.ref d) q:=
   vI akQ λc2 o vs tt e1 e2 e3 e4=>
   ⟨c2,o,vs,tt,e1,dO _ e2,e3,e4⟩
  have E:H d=am:=I.bS.fresh akF;have akL:d≠P:=λz=>by rw[z,t]at E;cases E
  have p:∀b o,H b=Y o->b≠d:=λb o e z=>by rw[z,E]at e;cases e
  have sz:s⁻¹<=g.objs.size:=AE<|p9 akF akG;have akM:H g.objs.size=am:=I.bS.fresh sz;have akS:g.objs.size≠P:=λz=>by rw[z,t]at akM;cases akM
  have I':Inv X aF σ (upd (upd H P<|nu P<|oK ao d) d<|sN d q) {s with heap:=g.push<|xX "<lambda>" q gA bD bP cl ((X.mg "__name__").getD .none) d i,toks:=tk}:=by
   have un:∀b,H b=am->b≠P:=λb n z=>by rw[z,t]at n;cases n
   refine I.un ⟨λb o e n _ _=>m b o (un b n) e,λb o e n _ _=>⟨o.slots,m b o (un b n) e⟩,λb o e n _=>?_,λb o e _=>?_,λb xs e=>?_,λb o u e=>?_,λb ps e=>⟨#[],?_⟩⟩ λb u e=>?_
   .rwa[aQ<|fO<|gQ (cA e) akF,aQ<|un b n]
   .by_cases j:b=P
    .exact j▸⟨_,akK⟩
    .exact⟨o,m b o j e⟩
   .rwa[aQ<|p _ _ e,aQ<|λz=>by rw[z,t]at e;cases e]
   .rw[aQ<|p _ _ e,aQ<|λz=>by rw[z,t]at e;cases e];exact e
   .rw[aQ<|p _ _ e,aQ (λz=>by rw[z,t]at e;cases e),e];rfl
   .by_cases j:b=d
    .subst j;rw[bQ]at e;obtain rfl:=bL e;exact Qj y
    .rw[aQ j]at e;by_cases akH:b=P
     .subst akH;rw[bQ]at e;obtain rfl:=bL e;exact Qi akK
     .rw[aQ akH]at e;refine(I.bS b u e).pk (λa v x k=>m a v (λz=>?_) k) (λa k=>?_) λa xs k=>?_
      .obtain x|x:=x
       .exact akH<|x▸z
       .rw[z,t]at x;cases x
      .rw[aQ<|p _ _ k,aQ<|λz=>by rw[z,t]at k;cases k];exact k
      .rwa[aQ<|p _ _ k,aQ<|λz=>by rw[z,t]at k;cases k]
  refine h g.objs.size d _ i _ _ I' (fW _ U) y sz ?_ akL ?_ ?_ bQ (λb o e j=>?_) (λb e j=>?_)<|fO akG
  .rwa[aQ<|AH akG,aQ akS]
  .cases z:G d with
   |none=>rfl
   |some o=>have:=SG _ _ z;rw[E]at this;cases this
  .rw[aQ<|gk akL,bQ]
  .rw[aQ<|p _ _ e,aQ j];exact e
  .rw[aQ j,aQ<|λz=>by rw[z,t]at e;cases e];exact e
 .have hP:s.heap.get? P=(tN<|oK ao c):=(I.bS P _ t3).1;have y:s.heap.CodeRec (.ref c) q:=(I.bS c _ N).1;have akT:c<s⁻¹:=I.bS.lt N;refine PySem.W.kla_makeFunctionHit akU.cls akJ hg hc C' hP (by simp[oK,jc,TriplesOk]) (adl ao c) B' λi g tk m akI=>?_;have akN:∀b o,s.heap.get? b=Y o->(g.push<|xX "<lambda>" q gA bD bP cl ((X.mg "__name__").getD .none) c i).get? b=o:=λb o e=>dO _<|m b o e;have I':Inv X aF σ H {s with heap:=g.push<|xX "<lambda>" q gA bD bP cl ((X.mg "__name__").getD .none) c i,toks:=tk}:=I.kept akN;refine h g.objs.size c _ i _ _ I' (fW _ U) ?_ akI (I.bS.fresh akI) t1 t2 t3 N (λb o e _=>e) (λb e _=>e)<|fO<|gQ akT akI;refine vI y λc2 o vs tt e1 e2 e3 e4=>?_;exact yk c2 o vs tt e1 (akN _ _ e2) e3 e4
end
open Vbpcaa (Pt)
structure me P(G H a c:Hp):Prop where
 g:aX G a
 s:aX a c
 h:∀b o,H b=Y o->b≠P->c b=o
 f:∀b,H b≠am->G b=am->a b=am
abbrev mf(H:Hp)(c:az):Hp:=λb=>if b=c then am else H b
def mh(h:b≠c):mf H c b=H b:=aD h
def Dq:mf H c c=am:=aH U
def Ql(h:mf H c b=Y o):b≠c/\H b=o:=by grind[Dq,mh]
abbrev qM(b h:bf)(f c:az)(cl:O (aq×az)):bf:=ahk h<|(c8 h.objs.size).filter λa=>(b.get? a).isNone&&!(a==f||a==c||cl.any λp=>p.2==a)
def Qm(e:(qM base h f c cl).get? b=Y o):h.get? b=o/\((∃d,base.get? b=Y d)\/b=f\/b=c\/∃x,(x,b)∈cl):=by
 have g:=ahn _ e;by_cases i:b∈(c8 h.objs.size).filter λa=>(base.get? a).isNone&&!(a==f||a==c||cl.any λp=>p.2==a)
 .grind[qM,aho]
 .have j:=tz.mpr<|cA g;cases q:base.get? b<;>grind
def Dr(e:h.get? b=Y o)(k:(∃a,base.get? b=Y a)\/b=f\/b=c\/∃x,(x,b)∈cl):(qM base h f c cl).get? b=Y o:=by refine ahm _ e λd=>?_;rw[q_]at d;have g:=d.2;simp at g;obtain⟨i,⟨j,l⟩,m⟩:=g;rcases k with⟨a,k⟩|k|k|⟨x,k⟩<;>grind
section
variable{X:Cx}{J:En}{c0 P fm:az}{ao mQ p p1:bn}{q x x1:aq}{gA:AO}{bD:aT}{bP:dJ}{cl:O (aq×az)}{c5:O (aq×V)}{m:Pt->Pt}{k:Nat}{ps:O aq}{R:az->O Rp->Rp->Prop}{d1 d:Rp}
def HS(i:Nat)(ak1:∀y,X.fn y=L)(akR:X.mg x=Y (.ref fm))(ak2:k8 X.K (.ref fm)=L)(hr:cj k X.A)(ak3:defaultsOf gA X.env=([],[]))(hq:X.env.qual++"<lambda>"=q)(hc:X.env.code=.ref c0)(C:U2 X.K c0 P=L)(B:X.base.BuiltinsAt X.mg P)
  (gm:∀(akH:bf)(f:az),Mv X.prog X.w X.K X.mg akH f m->Good X.prog X.w X.K X.mg akH k x ps (R f))(hR:∀f,R f [d1,ref f] d)(mv:∀(akH:bf)(f:az)(fd:k7),Dl akH q gA bD bP cl f fd c5->Mv X.prog X.w X.K X.mg akH f m)
  {σ:St}{G H:Hp}{Q:VK}(E:eU σ G J)(S:aX G H)(T:Tb G H P ao q)(alz:Qk X bP cl c5 σ)(akS:∀y c,(y,c)∈cl->cl.lookup y=Y c)
  (hQ:∀v G' H',me P G H G' H'->Wf H'->Tb G' H' P ao q->d.r G' v->Q v H')
  (ak4:J[i]?=Y (Y d1))(hN:Nv X i x1<|>aa)
  (hg:Gn X x<|>ae)
  (he:Se X (aK x1 p1) [yg gA bD bP ao]<|>_r)(ak5:Se X (yg gA bD bP ao) []<|>_r)
  (ak6:Bt X mQ [yg gA bD bP ao]<|>_r):
  wE X (b0 (aK x p) [aK x1 p1,yg gA bD bP ao] [] mQ) σ H Q:=λakN s I=>by
 obtain⟨v1,ak7,ak8⟩:=E.at_ i _ ak4;refine nN<|yL I hg.g akR (xI (h₀:=X.base) I.ok.mod.pp ak2 ?_ he ak6) hg.d;rw[he,ak5];show aZ _ _ (AG ((aA,eval (aK x1 p1) X.env)::oV mQ ((aA,eval (yg gA bD bP ao) X.env)::d9 [] X.env))) _ _ s;refine xH<|bo (gu hN akN s σ H (λv H'=>v=v1/\H'=H) I ⟨_,ak7,U,U⟩) λu1 s1 z_=>de z_ λv0 H1 I1 r1 e1 e2=>?_;subst e1 e2;show aZ _ _ (AG ((aA,eval (yg gA bD bP ao) X.env)::[])) _ _ s1;refine xH<|adm (G:=G) (q:=q) I1 ak3 hq hc (PySem.W.codeHd_of_K I1.ok.mod.pp C) B T alz S λf c pm akT H' s2 I2 ak9 akO ak_ ak' akL ala hP akF akI alu alv=>AK ⟨I2.hW,?_⟩
 have alb:∀y v,c5.lookup y=Y v->∃a u,cl.lookup y=Y a/\s2.heap.IsCell a (Y u)/\RelV v u:=λy v hy=>by
  refine rF (alz.vals y v hy) λj j1 j2 j3 w_=>mH w_ λa j4=>?_;obtain⟨mm,_,hl⟩:=I2.loc;obtain⟨u,ru,lk⟩:=hl j y v j1 j2<|aW<|aP j3;obtain⟨z,_⟩|⟨_,a',j5,j6⟩:=lk
  .rw[j3]at z;cases z
  .rw[alz.sub _ _ j4]at j5;cases j5;exact⟨a,u,j4,j6,ru⟩
 have alc:∀{y:aq}{a:az},cl.lookup y=Y a->(y,a)∈cl:=gF
 have LA:Dl (qM X.base s2.heap f c cl) q gA bD bP cl f (J' "<lambda>" q gA bD bP cl pm (.ref c) akT) c5:=by
  refine⟨⟨pm,c,akT,_,U,Dr ak9<|aW<|aP U,U,?_⟩,λy v hy=>?_,alz.all,λa b z h1 h2=>I2.ok.inj a b z (alz.sub _ _ h1)<|alz.sub _ _ h2⟩
  .obtain⟨c2,o,vs,t,⟨⟩,e2,e3,e4⟩:=akO;exact⟨c,o,vs,t,U,Dr e2<|aW<|aW<|aP U,e3,e4⟩
  .obtain⟨a,u,h1,⟨o,h2,h3⟩,h4⟩:=alb y v hy;exact⟨a,u,h1,⟨o,Dr h2<|aW<|aW<|aW ⟨y,alc h1⟩,h3⟩,h4⟩
 obtain⟨alw,fd,akU,alx,ald,F⟩:=(gm _ f<|mv _ f _ LA).ex;rw[akR]at akU;cases akU;have bk:∀b o,X.base.get? b=Y o->(qM X.base s2.heap f c cl).get? b=Y o:=λb o e=>Dr (I2.bk b o e)<|aP ⟨o,e⟩;have ale:∀y a,(y,a)∈cl->H' a=am:=λy a h=>I2.mN y a<|alz.sub _ _<|akS y a h;have akP:∀b∈iU X.stack,b≠c:=λb N z=>by have:=I2.B9 b N;rw[z,akF]at this;cases this
 have alf:∀{b:az},b∈iU X.stack->b<s1⁻¹:=λ{b}N=>by
  obtain z|z:=cU.mp<|I1.yJ b N
  .exact z▸I1.lt
  .let⟨_,o,ho,_⟩:=I1.ok.j9.mem z;exact gQ (cA ho) I1.sz
 have ff:∀{l:O gC},s2.heap.FunFrames X.base l->(∀b∈iU l,b∈iU X.stack)->s2.heap.FunFrames (qM X.base s2.heap f c cl) l:=by
  intro l
  induction l with
  |nil=>exactλ_ _=>trivial
  |cons env a8 ih=>
   rintro⟨h1,⟨Lo,o,h2,h3,h4,h5⟩,h6⟩ akV;have akM:Lo∈iU X.stack:=akV Lo (by simp[iU,h2]);refine⟨h1,⟨Lo,o,h2,?_,h4,h5⟩,ih h6 λb N=>akV b<|Jw.mpr<|aL (Jw.mp N) λa ha h=>⟨a,.tail _ ha,h⟩⟩;cases z:(qM X.base s2.heap f c cl).get? Lo with
   |none=>rfl
   |some o'=>
    let⟨_,k⟩:=Qm z;obtain⟨o2,k⟩|k|k|⟨y,k⟩:=k
    .rw[h3]at k;cases k
    .rw[k]at akM;exact absurd (gQ (alf akM) ak_)<|kX _
    .exact absurd k<|akP _ akM
    .have hy:=alz.sub _ _<|akS y Lo k;obtain z|z:=cU.mp<|I2.yJ Lo akM
     .exact absurd z<|I2.B8 y Lo hy
     .let⟨_,o2,alg,_⟩:=I2.ok.j9.mem z;exact absurd (gQ (cA alg)<|I2.ok.vY y Lo (ak1 y) hy)<|kX _
 have md:Mod X.K X.mg (qM X.base s2.heap f c cl):=
  let⟨m1,m2,⟨mb,m3,m4⟩,m5⟩:=I2.ok.mod
  ⟨m1.keeps bk,m2.keeps bk,⟨mb,m3.keeps bk,m4⟩,m5.keeps bk⟩
 have aly:∀{b:az}{o:HO},H1 b=Y o->b≠P->H' b=Y o:=λe=>akI _ _ e
 have GH:∀{b:az}{o:HO},G b=Y o->b≠c/\b≠P/\H' b=Y o:=λ{b o}e=>by
  have akJ:b≠P:=λz=>by rw[z,T.1]at e;cases e
  exact⟨λz=>(by rw[z,ala]at e;cases e),akJ,akI _ _ (S _ _ e) akJ⟩
 have alh:aX G (mf H' c):=λb o e=>
  eR (GH e) λh1 _ h3=>
  (mh h1)▸h3
 have W':Wf (mf H' c):=λa xs e=>ji I2 a xs (Ql e).2
 have ali:dZ X.prog X.w (mf H' c) s2.heap:=λb u e=>by
  let⟨h1,h2⟩:=Ql e;refine(I2.bS b u h2).pk (λ_ _ _ z=>z) (λa z=>?_) λa ys z=>?_
  .rwa[mh<|λy=>by rw[y,akF]at z;cases z]
  .rwa[mh<|λy=>by rw[y,akF]at z;cases z]
 have e0:oj X.prog X.w X.K X.mg (qM X.base s2.heap f c cl) X.A X.stack s2 (mf H' c):=by
  refine⟨I2.ok.frames,md,λb o e=>?_,JQ<|ahl _ _,ff I2.stack λ_ z=>z,λb N=>?_,ali,I2.bare⟩
  .let⟨h1,k⟩:=Qm e;refine⟨h1,?_⟩;by_cases N:b=c
   .rw[N,Dq]
   .rw[mh N];obtain⟨o2,k⟩|k|k|⟨y,k⟩:=k
    .exact(I2.bs _ _ k).2
    .exact k▸ak'
    .exact absurd k N
    .exact ale y b k
  .rw[mh<|akP b N];exact I2.B9 b N
 have akW:sj (R f) [v0,.ref f] (mf H' c) (λv H3=>∃G3,Ext G (mf H' c) G3 H3/\Wf H3/\d.r G3 v) E0:=
  ⟨G,[d1,ref f],d,alh,W',⟨ak8,U,trivial⟩,hR f,λv G3 H3 e w r=>⟨G3,e,w,r⟩⟩
 have akX:=ald s2 [u1,.ref f] I2.hW (by have:=F.len _ _ _ _ akW;simpa using this);rw[eG]at akX;refine JB<|AM (F.run X.A X.stack s2 (mf H' c) ⟨[u1,.ref f],[]⟩ [u1,.ref f] [v0,.ref f] _ E0 hr e0 akX (.cons r1<|.cons U .nil) akW) λr s3 akK=>?_
 have fin:∀u,CE X.stack X.prog X.w (mf H' c) s2 (λv H3=>∃G3,Ext G (mf H' c) G3 H3/\Wf H3/\d.r G3 v) u s3->EP X akN σ Q u s3:=λu alj=>by
  refine E7 alj λv H3 os alk un alm rv w_=>b7 w_ λG3 ex w3 dr=>?_;have aln:∃o,s2.heap.get? c=Y o:=by obtain⟨c2,o,_,_,⟨⟩,e2,_⟩:=akO;exact⟨o,e2⟩
  have alo:c∉iU X.stack:=λz=>akP c z U;obtain⟨oc,akQ⟩:=aln;have akY:H3 c=am:=un.free c oc akQ Dq au;have alp:s3.heap.CodeRec (.ref c) q:=by obtain⟨c2,o,vs,t,⟨⟩,e2,e3,e4⟩:=akO;rw[akQ]at e2;obtain rfl:=bL e2;exact⟨c,oc,vs,t,U,un.keep c oc akQ Dq alo au,e3,e4⟩
  have n3:∀{b:az}{o:HO},H3 b=Y o->b≠c:=λe z=>by rw[z,akY]at e;cases e
  have alq:dZ X.prog X.w (upd H3 c<|sN c q) s3.heap:=λb u e=>by
   by_cases N:b=c
   .subst N;rw[bQ]at e;obtain rfl:=bL e;exact Qj alp
   .rw[aQ N]at e;refine(alm b u e).pk (λ_ _ _ z=>z) (λa z=>?_) λa ys z=>?_
    .rwa[aQ<|n3 z]
    .exact(aQ<|n3 z)▸z
  have alr:Un (iU X.stack) [] H' (upd H3 c<|sN c q) s2.heap s3.heap:=by
   have nc:∀b,H' b=am->b≠c:=λb n z=>by rw[z,akF]at n;cases n
   have dn:∀b,H' b=am->mf H' c b=am:=λb n=>(mh<|nc b n)▸n;refine⟨λb o e n h1=>un.keep b o e (dn b n) h1,λb o e n h1=>un.slot b o e (dn b n) h1,λb o e n h2=>?_,un.there,λb xs e=>?_,λb o u e=>?_,λb ps e=>?_⟩
   .exact(aQ<|nc b n)▸un.free b o e (dn b n) h2
   .have N:b≠c:=λz=>by rw[z,akF]at e;cases e
    exact(aQ N)▸un.ua b xs ((mh N)▸e)
   .have N:b≠c:=λz=>by rw[z,akF]at e;cases e
    exact(aQ N)▸un.rP b o u ((mh N)▸e)
   .have N:b≠c:=λz=>by rw[z,akF]at e;cases e
    exact(aQ N)▸un.ub b ps ((mh N)▸e)
  have I4:Inv X akN σ (upd H3 c<|sN c q) s3:=by obtain⟨hh,g,dd,t,als⟩:=s3;obtain rfl:als=s2.os:=os;exact I2.call (h':=hh) (g':=g) (d':=dd) (t':=t) (ch:=[]) alr alq alk<|λb z=>absurd z au
  have akZ:G3 c=am:=by
   cases z:G3 c with
   |none=>rfl
   |some o=>have:=ex.s _ _ z;rw[akY]at this;cases this
  have d3:∀{b:az}{o:HO},H' b=Y o->b≠c->H3 b=Y o:=λ{b o}e N=>ex.h _ _<|(mh N)▸e;have ak0:G3 P=am:=ex.f P (by rw[mh<|gk akL,hP];exactλz=>nomatch z) T.1;refine⟨v,_,I4,rv,hQ v G3 _ ⟨ex.g,λb o e=>?_,λb o e N=>?_,λb N hg=>?_⟩ (ji I4) ⟨ak0,aW ⟨c,akL,akZ,?_,bQ⟩⟩ dr⟩
  .have:=ex.s _ _ e;rw[aQ<|n3 this];exact this
  .by_cases akG:b=c
   .subst akG;have:=akI _ _ e N;rw[akF]at this;obtain rfl:=bL this;exact bQ
   .rw[aQ akG];exact d3 (akI _ _ e N) akG
  .by_cases akG:b=c
   .rw[akG];exact akZ
   .by_cases akJ:b=P
    .rw[akJ];exact ak0
    .let⟨o,ho⟩:=lw N;exact ex.f b (by rw[mh akG,akI _ _ ho akJ];exactλz=>nomatch z) hg
  .rw[aQ<|gk akL];exact d3 hP<|gk akL
 cases r with
 |error e=>exact akK.elim
 |ok fl=>
  cases fl with
  |ret u=>exact fin u akK
  |next=>exact .elim akK
  |brk=>exact .elim akK
  |cont=>exact .elim akK
end
@[reducible]def qL(x:aq):aq:=x++".<locals>."++"<lambda>"
abbrev spT(P:az)(c:bn)(q:aq)(R:O Rp->Rp->Prop):Sp:=λvs H Q _=>∃G ds d,aX G H/\Wf H/\bv G vs ds/\R ds d/\Tb G H P c q/\
 ∀v b a,me P G H b a->Wf a->Tb b a P c q->d.r b v->Q v a
structure Ds b w K mg base k x ps P ao R:Prop where
 ex:∃(f:az)(a:k7),mg x=Y (.ref f)/\k8 K (.ref f)=L/\Binds K a ps []/\fH b w K mg base iH k f a ps (spT P ao (qL x) R)
structure sO K(e:aq->Option aB)x st ps c0 P:Prop where
 ex:∃(f:az)(g:aB)(h:Option az)(kV a b:aB)(c:Option az)(d:aB)(i:Array (Option aB)),e x=Y (.ref f)/\K.lookup f=Y ⟨g,h,.func<|vh x x (um st) (gL st) (fv st) .none kV a b c (.ref c0) d,i⟩/\
  AQ K (.ref c0) x=L/\k8 K (.ref f)=L/\Binds K (vh x x (um st) (gL st) (fv st) .none kV a b c (.ref c0) d) ps []/\U2 K c0 P=L
section
variable{Pr:bO}{w:bN}{K:aJ}{mg:aq->aR aB}{base:bf}{k:Nat}{x:aq}{st:bY}{N ps:O aq}{R:O Rp->Rp->Prop}{c0 P:az}{ao:bn}
def HU(T:sO K mg x st ps c0 P)(S:im N ps (fv st))(l:∀ds d,R ds d->ds.length=ps.length)
  (h:∀f A c s H E,cj k (XD Pr w K mg base N x st f (.ref c0) A c s H E).A->∀ds d,R ds d->(∀d∈ds,bA d)->
   ∀G σ D,aX G H->Wf H->br H σ G H (ent N ds)->Tb G H P ao (qL x)->(∀v b a,me P G H b a->Wf a->Tb b a P ao (qL x)->d.r b v->D.rt v a)->wS (XD Pr w K mg base N x st f (.ref c0) A c s H E) (gL st) D σ H):
  Ds Pr w K mg base (k+1) x ps P ao R:=by
 obtain⟨f,oc,od,kV,akF,pm,an,ct,akG,m,lk,n,o,p,akH⟩:=T.ex;refine⟨f,_,m,o,p,?_⟩;refine Mg lk n S (λu H Q E e=>by refine mI e λG ds d _ _ r i _=>?_;rw[r.length];exact l ds d i) λA c s H u Q E y e=>?_;refine yi e λG ds d j W r i z q=>?_;refine aY _ eP.uc ?_;exact h f A c s H E y ds d i r.pB G _ _ j W (sv r j W) z λv b a g C t I=>q v b a g C t I
end
section
variable{X:Cx}{J:bV}{fj:O bY}{d:Rp}{P:az}{ao:bn}{q:aq}
def wS.rest{σ:St}{G H I C:Hp}{D:Ends}(g1:me P G H I C)(t1:Tb I C P ao q)(s1:br C σ I C J)(hs:Sv X J fj (.rt d))
  (hD:∀v G' H',me P G H G' H'->Wf H'->Tb G' H' P ao q->d.r G' v->D.rt v H'):wS X fj D σ C:=by
 refine hs I C σ I C D (.refl s1.sub) s1 λv G2 H2 e w r=>hD v G2 H2 ⟨g1.g.trans e.g,e.s,λb o hb hP=>e.h _ _<|g1.h b o hb hP,λb hb hg=>?_⟩ w ?_ r
 .by_cases akF:b=P
  .rw[akF];refine e.f P ?_ t1.1;rcases t1.2 with z|⟨c,_,_,z,_⟩<;>rw[z]<;>exactλy=>nomatch y
  .let⟨o,ho⟩:=lw hb;exact e.f b ((g1.h b o ho akF)▸λy=>nomatch y)<|g1.f b hb hg
 .obtain⟨z,z1|⟨c,c1,c2,c3,c4⟩⟩:=t1
  .exact⟨e.f P (z1▸λy=>nomatch y) z,aP<|e.h _ _ z1⟩
  .exact⟨e.f P (c3▸λy=>nomatch y) z,aW ⟨c,c1,e.f c (c4▸λy=>nomatch y) c2,e.h _ _ c3,e.h _ _ c4⟩⟩
end
section
variable{P:bO}{w:bN}{K:aJ}{mg:aq->aR aB}{base:bf}{A:Ad}[Z:Zc P w K mg A]
def HV{b:aq}{n:AO}{e:aT}{a:dJ}{cl:O (aq×az)}{f:az}{q:k7}{c5:O (aq×V)}{m:Pt->Pt}(akF:Dl base b n e a cl f q c5)(S:Qc ("point":aq) c5 a)(x:(("point":aq)::c5.map (·.1)).Nodup)(y:∀(i:Nat)p,c5[i]?=Y p->c5.lookup p.1=Y p.2)
  (t:∀g z j u,tH (J' "<lambda>" b n e a cl g z j) ⟨[u],[]⟩=pure [(("point":aq),u)])
  (h:∀cd k(l:O gC)s H p,dh p->dh (m p)->Ev (zK P w K mg base (("point":aq)::c5.map (·.1)) b a f cd cl k l s H) ((pt K p)::c5.map λc=>(vl c.2)) e (pt K<|m p)):Mv P w K mg base f m:=by
 refine⟨q,adi akF S x y t (λC d h=>by cases h;rfl) λcd k l s H hr C d E G I v N hi=>?_,?_,?_⟩
 .cases E with|@mk p hp=>?_
  have:I=Y (pt K p)::c5.map λc=>(vl c.2):=by
   refine iO λi=>?_;cases i with
   |zero=>exact N _ U
   |succ i=>
    grind
  exact this▸(h cd k l s H p (inR<|G _<|.head _) hp)
 .obtain⟨g,Q,j,o,rfl,T,h2,_⟩:=akF.ex;exact bG
 .obtain⟨g,Q,j,o,rfl,T,h2,_⟩:=akF.ex;exact .all λus v=>match us,v with|[u],_=>t _ _ _ u
def HW(c:bA (ba K A b)):∀l∈nk b,∀p∈l,dh p:=λl a=>by
 simp only[nk,fE,cU,jw,jx,eY]at a;obtain(rfl|a)|⟨k,d,rfl⟩:=a
 .exact(eB<|qF c).2
 .exact(eB<|pJ c l a).2
 .exact(eB<|qG<|pK c k d).2
def Tb.ext(t:Tb G H Q ao q)(e:Ext G H C I):Tb C I Q ao q:=by
 obtain⟨z,z1|⟨c,c1,c2,c3,c4⟩⟩:=t
 .exact⟨e.f Q ap z,aP<|e.h _ _ z1⟩
 .exact⟨e.f Q ap z,aW ⟨c,c1,e.f c ap c2,e.h _ _ c3,e.h _ _ c4⟩⟩
def me.of(e:Ext G H I H1)(t:Tb G H Q ao q)(g:me Q I H1 G2 H2):me Q G H G2 H2:=by refine⟨e.g.trans g.g,g.s,λb o C=>g.h b o<|e.h _ _ C,λb C hg=>?_⟩;obtain⟨o,ho⟩:=lw C;exact g.f b (by rw[e.h _ _ ho];simp)<|e.f b C hg
def adn(h:br H σ G H k)(l:∀(i:Nat)ds,k[i]?≠Y (Y<|.own ds))(g:aX G f)(s:aX f H1)(w:Wf H1)(r:d.r f v):br H1 (σ.set i<|Y v) f H1 (k.set i<|Y<|.aC d):=
 have m:br H1 σ f H1 k:=⟨h.len,s,w,λj e c=>aL (h.aC j e c) λu a b=>aY u a<|e.mono g b,λj ds c=>absurd c<|l j ds,λj _ ds _ _ c=>absurd c<|l j ds⟩
 m.set r
abbrev mi(p:Pt):Pt:=⟨-p.x,p.y⟩
abbrev pM(b:bC):bC:={i6 mi b with stack:=b.stack.reverse,keeps:=(i6 mi b).keeps.map<|uN b.layers}
inductive Qn K A:List Rp->Rp->Prop
 |mk:Qn K A [ba K A b] (ba K A (pM b))
@[reducible]def Qo:bn:=⟨642,27,642,62⟩
@[reducible]def Qp(a:az)(P:bO)(w:bN)(K:aJ)(mg:aq->aR aB)(base:bf)(A:Ad):Prop:=Ds P w K mg base 11 "mirrored" ["board"] a Qo<|Qn K A
def ado{c0 j:az}(T:sO K mg "mirrored" (top 190) ["board"] c0 j)(B:base.BuiltinsAt mg j):Qp j P w K mg base A:=by
 refine HU T (N:=["board","flipped","coppers","keep","keeps"]) ⟨U,U,U,eN,U,eN,eN⟩ (λI d h=>by cases h;rfl) λf A' akK s H E hr I d hR hI G σ Dn SG W Q Tt hD=>?_;have nd:(["board","flipped","coppers","keep","keeps"]:O aq).Nodup:=eN;have Tm:l0 K mg "moved" (top 188) ["board","move"]:=Zc.at 188 "moved" U eN;cases hR with|@mk b=>?_
 have a:=hI _<|.head _;have e:=fg a;have akF:zL mi b:=λl o p hp=>by obtain⟨⟨a1,a2⟩,a3⟩:=HW a l o p hp;exact⟨⟨by show-1000000000<=-p.x;lia,by show-p.x<=1000000000;lia⟩,a3⟩
 obtain⟨f0,akL,akG,F0,_⟩:=Tm.ex;obtain⟨_,_,_,_,_,_,_,_,_,_,_,_,_,_,hC⟩:=T.ex;refine wS.cons (lU (i:=1) nd U (aP U) pE U<|aP U) ?_;refine HS (m:=mi) (c5:=[]) (cl:=[]) (R:=λf=>Do f mi K A) (d1:=ba K A b) (d:=ba K A<|i6 mi b) 0 (λ_=>U) akG F0.kp (hr.mono au) U U U hC B (λbase f mv=>HR mv) (λf=>.mk akF) (λbase f fd akN=>?_) Q.bj SG Tt ⟨U,λx c h=>by simp at h,λx v h=>by simp at h,λx c h=>by simp at h⟩ (λy c h=>by simp at h)
  (λv G1 H1 u w1 t1 r1=>wS.rest u t1 (adn Q (λi I h=>?_) u.g u.s w1 r1) ?_ hD) U
 .refine HV akN ⟨U,U,U,U,eN,λx h=>?_,λx v h=>by simp at h⟩ bw (λi p h=>by simp at h) (λ_ _ _ _=>U) λcd A2 akM s2 H2 p hp akH=>?_
  .have:=gF h;simp at this
  .exact Ev.as (kP<|bF (sf<|ge aw)<|e9 aw) λG v q=>⟨akH,q⟩
 .match i,h with
  |0,h=>cases h
  |1,h=>cases h
  |2,h=>cases h
  |3,h=>cases h
  |4,h=>cases h
  |n+5,h=>cases h
 have o:=HA e;refine bz 2 (Ev.eq (aO wD<|aS<|kQ M aw)<|C5 b)<|wq 4 (d6 (l:=(i6 mi b).keeps) (g:=λk=>keep K A<|uN b.layers k) (own:=[("keep",3)]) (cK<|i5 M aE) (dD U) (λk z=>⟨_,eu 3,λs H1 C cl fp=>aO (adf ((HQ a).lay k z) o)<|bF aV aM⟩) U) ?_;refine bI (gv uK (kg (Ev.eq (bu.ev<|abE M.list M.reversed<|kQ M aw)<|show lst _=nums ((pM b).stack.map tK) by show lst _=lst (((b.stack.reverse).map tK).map int);rw[UU,UU]) (i4 M aE) (ib M aE)<|Ev.eq bZ<|show lst _=lst ((pM b).keeps.map<|keep K A) by show lst _=lst (((i6 mi b).keeps.map<|uN b.layers).map<|keep K A);rw[c9];rfl)<|.mk (b:=pM b) ?_);obtain⟨m1,m2,m3,m4,m5,m6,m7,m8⟩:=HQ (m:=mi) a;refine⟨by show b.stack.reverse.length<=15;rw[A5];exact e.gK,by show b.stack.reverse.length%2=1;rw[A5];exact e.odd,λt ht=>e.ow t<|List.mem_reverse.mp ht,m4,m5,m6,by show(jV _ _).length<=32;rw[aI];exact m7,λk z=>?_⟩;obtain⟨k',akI,rfl⟩:=eY.mp (show k∈(i6 mi b).keeps.map _ from z);obtain⟨k2,akJ,rfl⟩:=eY.mp (show k'∈b.keeps.map _ from akI);have e1:(pM b).layers=b.layers:=by unfold UT;show(b.stack.reverse.length+1)/2=_;rw[A5]
 rw[e1];have:=(sJ<|pK a k2 akJ).lo;show b.layers+1-k2.lo<=b.layers
 lia
abbrev zM(a b:Int)(p:Pt):Pt:=⟨p.x+a,p.y+b⟩
inductive Qq K A:List Rp->Rp->Prop
 |mk {a c:Int} (h:zL (zM a c) b):Qq K A [ba K A b,int a,int c] (ba K A (i6 (zM a c) b))
@[reducible]def Qr:bn:=⟨647,24,647,68⟩
@[reducible]def Qs(a:az)(P:bO)(w:bN)(K:aJ)(mg:aq->aR aB)(base:bf)(A:Ad):Prop:=Ds P w K mg base 11 "shifted" ["board","dx","dy"] a Qr<|Qq K A
def adp(T:sO K mg "shifted" (top 191) ["board","dx","dy"] c0 g)(B:base.BuiltinsAt mg g):Qs g P w K mg base A:=by
 refine HU T (N:=["board","dx","dy"]) ⟨U,U,U,eN,U,eN,eN⟩ (λk d h=>by cases h;rfl) λf A' akI s H E l k d m hI G σ Dn o W a t u=>?_;have nd:(["board","dx","dy"]).Nodup:=eN;cases m with|@mk b dx j z=>?_
 refine be ((Zc.at 188 "moved" U eN).ex) λf0 akJ C I _=>?_;obtain⟨_,_,_,_,_,_,_,_,_,_,_,_,_,_,Q⟩:=T.ex;obtain⟨v1,akF,e⟩:=a.aC 1 (int dx) U;obtain⟨v2,akG,r2⟩:=a.aC 2 (int j) U;have e:=e;subst e r2;apply wS.last<|jC pE;refine HS (c5:=[("dx",.int dx),("dy",.int j)]) (cl:=[("dy",s⁻¹+1+1),("dx",s⁻¹+1)]) 0 (λ_=>U) C I.kp (l.mono au) U U U Q B (λbase f=>HR) (λf=>.mk z) (λbase f fd akL=>?_) a.bj o t ?_ (λy c h=>?_)
  (λv G1 H1 g1 w1 t1=>u v G1 H1 g1 w1 t1) U
 .refine HV akL ⟨U,U,U,U,eN,λx h=>?_,λx v h=>?_⟩ (by show((["point","dx","dy"]:O aq)).Nodup;decide) (λi p h=>?_) (λ_ _ _ _=>U) λcd A2 akK s2 H2 p hp akH=>?_
  .have h:=gF h;simp only[cU,vy,jw,jx]at h;obtain⟨_,h⟩|⟨rfl,_⟩|⟨rfl,_⟩:=h
   .cases h
   .exact⟨_,U⟩
   .exact⟨_,U⟩
  .have h:=gF h;simp at h;rcases h with⟨rfl,_⟩|⟨rfl,_⟩<;>rfl
  .match i,h with
   |0,h=>obtain rfl:=bL h;rfl
   |1,h=>obtain rfl:=bL h;rfl
   |n+2,h=>cases h
  .exact Ev.as (kP<|bF (cY (ge aw)<|Ev.eq aE U)<|cY (e9 aw)<|Ev.eq aM U) λG v q=>⟨akH,q⟩
 .refine⟨U,λx c h=>h,λx v h=>?_,λx c h=>?_⟩
  .have h:=gF h;simp at h;obtain⟨rfl,rfl⟩|⟨rfl,rfl⟩:=h
   .exact⟨1,U,akF,U,_,U⟩
   .exact⟨2,U,akG,U,_,U⟩
  .have h:=gF h;simp at h;obtain⟨rfl,_⟩|⟨rfl,_⟩:=h
   .exact⟨_,U⟩
   .exact⟨_,U⟩
 .simp only[cU,vy,jw,jx]at h;rcases h with⟨rfl,rfl⟩|⟨rfl,rfl⟩<;>rfl
abbrev mj:O Int:=[1,0,-1,0]
abbrev nw:O Int:=[0,1,0,-1]
abbrev nA(n:Nat)(p:Pt):Pt:=⟨mj.getD n 0*p.x-nw.getD n 0*p.y,nw.getD n 0*p.x+mj.getD n 0*p.y⟩
def HX(h:n<4):(mj.getD n 0=1/\nw.getD n 0=0)\/(mj.getD n 0=0/\nw.getD n 0=1)\/(mj.getD n 0=-1/\nw.getD n 0=0)\/(mj.getD n 0=0/\nw.getD n 0=-1):=by revert n;decide
def adq(h:n<4)(c:dh p):dh (nA n p):=by refine eR c λ_ d e=>?_;unfold nA dh;rcases HX h with⟨b,a⟩|⟨b,a⟩|⟨b,a⟩|⟨b,a⟩<;>rw[a]<;>(refine ap<;>rfl<;>lia)
inductive Qt K A:List Rp->Rp->Prop
 |mk {n:Nat} (h:n<4):Qt K A [ba K A b,int n] (ba K A (i6 (nA n) b))
@[reducible]def Qu:bn:=⟨651,24,651,112⟩
@[reducible]def Qv(a:az)(P:bO)(w:bN)(K:aJ)(mg:aq->aR aB)(base:bf)(A:Ad):Prop:=Ds P w K mg base 11 "turned" ["board","quarters"] a Qu<|Qt K A
def Qw{a b c d:Int}(h:n<4):([int a,int b,int c,int d]:O Rp)[n]?=Y (int<|[a,b,c,d].getD n 0):=by obtain _|_|_|_|n:=n<;>first|rfl|lia
def ads{c0 j:az}(T:sO K mg "turned" (top 192) ["board","quarters"] c0 j)(B:base.BuiltinsAt mg j):Qv j P w K mg base A:=by
 refine HU T (N:=["board","quarters","cosine","sine"]) ⟨U,U,U,eN,U,eN,eN⟩ (λds d h=>by cases h;rfl) λf A' akL s H E hr ds d hR hI G σ Dn SG W u z hD=>?_;have C:(["board","quarters","cosine","sine"]:O aq).Nodup:=eN;have Tm:l0 K mg "moved" (top 188) ["board","move"]:=Zc.at 188 "moved" U eN;cases hR with|@mk b n a=>?_
 have hB:=hI _<|.head _;have akG:zL (nA n) b:=λl hl p I=>adq a<|HW hB l hl p I;obtain⟨f0,akM,akH,F0,_⟩:=Tm.ex;obtain⟨_,_,_,_,_,_,_,_,_,_,_,_,_,_,hC⟩:=T.ex;have ec:iG [int (1:Int),int 0,int (-1),int 0] (n:Int)=Y (int<|mj.getD n 0):=b8 U<|Qw a;have es:iG [int (0:Int),int 1,int 0,int (-1)] (n:Int)=Y (int<|nw.getD n 0):=b8 U<|Qw a;refine wS.cons (lU (i:=2) C U (aW U) pE U<|aP U)<|(gN (sE (vs:=[.int 1,.int 0,.int (-1),.int 0]) (ds:=[int (1:Int),int 0,int (-1),int 0]) D.abJ<|λG=>⟨U,U,U,U,trivial⟩) aE ec:Ev _ (bj<|ent ["board","quarters","cosine","sine"] [ba K A b,int n]) _ _) σ G H _ u.bj SG W λv2 G2 Q e w2 r2=>?_;have akF:=(u.grow e w2).set (i:=2) r2;refine wS.cons (lU (i:=3) C U (aW U) pE U<|aP U)<|(gN (sE (vs:=[.int 0,.int 1,.int 0,.int (-1)]) (ds:=[int (0:Int),int 1,int 0,int (-1)]) D.abK<|λG=>⟨U,U,U,U,trivial⟩) aE es:Ev _ (bj<|(ent ["board","quarters","cosine","sine"] [ba K A b,int n]).set 2<|Y<|.aC<|int<|mj.getD n 0) _ _) _ G2 Q _ akF.bj e.s w2 λv3 G3 H3 g w3 r3=>?_;have k:=(akF.grow g w3).set (i:=3) r3;have T3:=(z.ext e).ext g;obtain⟨c2,akI,o⟩:=k.aC 2 (int<|mj.getD n 0) U;obtain⟨c3,akJ,t⟩:=k.aC 3 (int<|nw.getD n 0) U;have o:c2=.int (mj.getD n 0):=o;have t:c3=.int (nw.getD n 0):=t;subst o t;refine wS.last (jC pE) ?_;refine HS (m:=nA n) (c5:=[("cosine",.int<|mj.getD n 0),("sine",.int<|nw.getD n 0)]) (cl:=[("sine",s⁻¹+1+1),("cosine",s⁻¹+1)]) (R:=λf=>Do f (nA n) K A) (d1:=ba K A b) (d:=ba K A<|i6 (nA n) b) 0 (λ_=>U) akH F0.kp (hr.mono au) U U U hC B (λbase f mv=>HR mv) (λf=>.mk akG) (λbase f fd akO=>?_) k.bj g.s T3 ?_ (λy c h=>?_)
  (λv G1 H1 g1 w1 t1 r1=>hD v G1 H1 (me.of (e.trans g) z g1) w1 t1 r1) U
 .refine HV akO ⟨U,U,U,U,eN,λx h=>?_,λx v h=>?_⟩ (by show(["point","cosine","sine"]:O aq).Nodup;decide) (λi p h=>?_) (λ_ _ _ _=>U) λcd A2 akN s2 Q p I akK=>?_
  .have h:=gF h;simp only[cU,vy,jw,jx]at h;rcases h with⟨_,h⟩|⟨rfl,_⟩|⟨rfl,_⟩
   .cases h
   .exact⟨_,U⟩
   .exact⟨_,U⟩
  .have h:=gF h;simp only[cU,vy,jw,jx]at h;rcases h with⟨rfl,_⟩|⟨rfl,_⟩<;>rfl
  .match i,h with
   |0,h=>cases h;rfl
   |1,h=>obtain rfl:=bL h;rfl
   |n+2,h=>cases h
  .have c4:=HX a;exact Ev.as (kP<|bF (cZ (fJ (Ev.eq (d:=vl<|.int<|mj.getD n 0) aE U) (ge aw)<|cm ap)<|fJ (Ev.eq (d:=vl<|.int<|nw.getD n 0) aM U) (e9 aw)<|cm ap)<|cY (fJ (Ev.eq (d:=vl<|.int<|nw.getD n 0) aM U) (ge aw)<|cm ap)<|fJ (Ev.eq (d:=vl<|.int<|mj.getD n 0) aE U) (e9 aw)<|cm ap) λG v q=>⟨akK,q⟩
 .refine⟨U,λx c h=>h,λx v h=>?_,λx c h=>?_⟩
  .have h:=gF h;simp only[cU,vy,jw,jx]at h;rcases h with⟨rfl,rfl⟩|⟨rfl,rfl⟩
   .exact⟨2,U,akI,U,_,U⟩
   .exact⟨3,U,akJ,U,_,U⟩
  .have h:=gF h;simp only[cU,vy,jw,jx]at h;rcases h with⟨rfl,_⟩|⟨rfl,_⟩
   .exact⟨_,U⟩
   .exact⟨_,U⟩
 .simp only[cU,vy,jw,jx]at h;rcases h with⟨rfl,rfl⟩|⟨rfl,rfl⟩<;>rfl
end
def adt(d:ps=#[]\/ps=oK ao c):nu a ps≠sN a q:=λz=>by
 have z:_=λh:bf=>h.CodeRec _ q:=HO.ext.inj z;have b:({objs:=.replicate (a+1)<|tN ps}:bf).get? a=(tN ps):=by
  unfold Heap.get?
  simp
 refine vI ((iQ z _).mp b) λe o f t g i j k=>?_;grind-order [oK,jc]
structure Ts where
 a:az
 b:az
 c:az
structure zN(t:Ts):Prop where
 ab:t.a≠t.b
 ac:t.a≠t.c
 bc:t.b≠t.c
structure TS(t:Ts)G H:Prop where
 m:Tb G H t.a Qo (qL "mirrored")
 s:Tb G H t.b Qr (qL "shifted")
 t:Tb G H t.c Qu (qL "turned")
structure ic(t:Ts)(G H d e:Hp):Prop where
 g:aX G d
 s:aX d e
 h:∀b o,H b=Y o->b≠t.a->b≠t.b->b≠t.c->e b=o
 f:∀b,H b≠am->G b=am->d b=am
def Tb.tab(t:Tb G H P ao q):∃ps c,H P=(nu P ps)/\(ps=#[]\/ps=oK ao c):=by rcases t.2 with z|_<;>grind
def Tb.other(t:Tb G H P ao q)(t':Tb G H C jM q')(g:me C G H G' H')(I:P≠C):Tb G' H' P ao q:=by
 obtain⟨z,z1|⟨c,c1,c2,c3,c4⟩⟩:=t
 .exact⟨g.f P ap z,aP<|g.h _ _ z1 I⟩
 .have hc:c≠C:=λe=>by
   obtain _:=t'.tab;grind[adt]
  exact⟨g.f P ap z,aW ⟨c,c1,g.f c ap c2,g.h _ _ c3 I,g.h _ _ c4 hc⟩⟩
section
variable{t:Ts}{G H G' H' G1 H1:Hp}
def TS.ext(x:TS t G H)(e:Ext G H G' H'):TS t G' H':=⟨x.m.ext e,x.s.ext e,x.t.ext e⟩
def ic.of(e:Ext G H G' H'):ic t G H G' H':=⟨e.g,e.s,λb o h _ _ _=>e.h _ _ h,e.f⟩
def Tb.ne(x:Tb G H P ao q):H P≠am:=by
 obtain _:=x.tab
 lia
def TS.fresh(x:TS t G H)(h:H p=am):p≠t.a/\p≠t.b/\p≠t.c:=⟨λz=>x.m.ne<|z▸h,λz=>x.s.ne<|z▸h,λz=>x.t.ne<|z▸h⟩
def ic.then(x:TS t G1 H1)(a:ic t G H G1 H1)(e:Ext G1 H1 G' H'):ic t G H G' H':=by
 refine⟨a.g.trans e.g,e.s,λb o h I h2 h3=>e.h _ _<|a.h b o h I h2 h3,λb hb hg=>?_⟩;have C:=a.f b hb hg;by_cases I:b=t.a
 .rw[I]at C⊢;exact e.f _ x.m.ne C
 .by_cases h2:b=t.b
  .rw[h2]at C⊢;exact e.f _ x.s.ne C
  .by_cases h3:b=t.c
   .rw[h3]at C⊢;exact e.f _ x.t.ne C
   .let⟨o,ho⟩:=lw hb;exact e.f b (by rw[a.h b o ho I h2 h3];simp) C
def ic.pre(x:Ext G H G1 H1)(a:ic t G1 H1 G' H'):ic t G H G' H':=by refine⟨x.g.trans a.g,a.s,λb o h I h2=>a.h b o (x.h _ _ h) I h2,λb C hg=>?_⟩;let⟨o,ho⟩:=lw C;exact a.f b (by rw[x.h _ _ ho];simp)<|x.f b C hg
def ic.a(g:me t.a G H G' H'):ic t G H G' H':=⟨g.g,g.s,λb o h C _ _=>g.h b o h C,g.f⟩
def ic.b(g:me t.b G H G' H'):ic t G H G' H':=⟨g.g,g.s,λb o h _ C _=>g.h b o h C,g.f⟩
def ic.c(g:me t.c G H G' H'):ic t G H G' H':=⟨g.g,g.s,λb o h _ _=>g.h b o h,g.f⟩
end
abbrev spC(t:Ts)(R:O Rp->Rp->Prop):Sp:=λvs H Q _=>∃G ds d,aX G H/\Wf H/\bv G vs ds/\R ds d/\TS t G H/\∀v b a,ic t G H b a->Wf a->TS t b a->d.r b v->Q v a
structure GoodC b w K mg base k x ps t R:Prop where
 ex:∃f a,mg x=Y (.ref f)/\k8 K (.ref f)=L/\Binds K a ps []/\fH b w K mg base iH k f a ps (spC t R)
section
variable{P:bO}{w:bN}{K:aJ}{mg:aq->aR aB}{base:bf}{A:Ad}[Z:Zc P w K mg A]{k k':Nat}{x:aq}{st:bY}{N ps:O aq}{R:O Rp->Rp->Prop}{t:Ts}
def Good.lift(g:Good P w K mg base k x ps R)(h:k<=k'):GoodC P w K mg base k' x ps t R:=by refine de g.ex λf C I h2 h3 h4=>?_;refine⟨f,C,I,h2,h3,(h4.mono h).imp λvs H Q E akF=>by refine yi akF λG ds d s wf r hR ts q=>?_;exact qg G ds d s wf r hR<|λv G' H' e w'=>q v G' H' (.of e) w'<|ts.ext e⟩
def GoodC.mono(g:GoodC P w K mg base k x ps t R)(h:k<=k'):GoodC P w K mg base k' x ps t R:=by refine de g.ex λf C I h2 h3 h4=>?_;exact⟨f,C,I,h2,h3,h4.mono h⟩
def adv(T:l0 K mg x st ps)(S:im N ps (fv st))(m:∀ds d,R ds d->ds.length=ps.length)
  (h:∀f c A e s H E,cj k (XD P w K mg base N x st f c A e s H E).A->∀ds d,R ds d->(∀d∈ds,bA d)->
   ∀G σ D,aX G H->Wf H->br H σ G H (ent N ds)->TS t G H->(∀v b a,ic t G H b a->Wf a->TS t b a->d.r b v->D.rt v a)->wS (XD P w K mg base N x st f c A e s H E) (gL st) D σ H):
  GoodC P w K mg base (k+1) x ps t R:=
 be T.ex λf n o F p=>
 ⟨f,n,o,F.kp,p,F.ok S (λu H Q E i=>by refine mI i λG ds d _ _ r j _=>?_;exact r.length▸m ds d j) λc A e s H u Q E y i=>by refine yi i λG ds d l W r j z q=>?_;exact aY _ eP<|h f c A e s H E y ds d j r.pB G _ _ l W (sv r l W) z λv b a g C I=>q v b a g C I⟩
def Dt{A:Ad}[Z:Zc P w K mg A]{R:aJ->Ad->O Rp->Rp->Prop}N(h:∀q,cj k (XQ P w K mg base N x (top i) q).A->∀ds d,R K A ds d->(∀d∈ds,bA d)->
   ∀G σ D,aX G q.H->Wf q.H->br q.H σ G q.H (ent N ds)->TS t G q.H->(∀v e b,ic t G q.H e b->Wf b->TS t e b->d.r e v->D.rt v b)->N.Nodup->wS (XQ P w K mg base N x (top i) q) (gL<|top i) D σ q.H)
  (S:im N (dw i) (fv<|top i)<|>alD)
  (g:(∀ds d,R K A ds d->ds.length=(dw i).length)<|>alL)(j:nameAt i=x<|>_r)(hi:i∈kl<|>alE):GoodC P w K mg base (k+1) x (dw i) t (R K A):=
 adv (Zc.at i x j hi) S g λf c a o s H E l ds d m n G σ D p u y z C=>h ⟨f,c,a,o,s,H,E⟩ l ds d m n G σ D p u y z C S.nd
def HY{Q:VK}(g:ic t G H a H1)(h:Wf H1)(f:TS t a H1)(r:(ba K A b).r a v)(i:H1 p=am)(j:∀v d c,ic t G H d c->Wf c->TS t d c->(oJ K A (n,b)).r d v->Q v c):Q (.ref p) (upd H1 p<|.tup [.int n,v]):=
 have e:Ext a H1 (upd a p<|.tup [.int n,v]) _:=.new g.s i
 j _ _ _ (g.then f e) h.tup (f.ext e) ⟨p,[.int n,v],U,cx.of bQ,U,(ba K A b).mono e.g r,trivial⟩
inductive HZ K A:List Rp->Rp->Prop
 |mk:HZ K A [ba K A b,d,d'] (oJ K A (0,pM b))
@[reducible]def Qx(t:Ts)(P:bO)(w:bN)(K:aJ)(mg:aq->aR aB)(base:bf)(A:Ad):Prop:=GoodC P w K mg base 12 "call_mirror" (dw 196) t<|HZ K A
def adw(f:zN t)(g:Qp t.a P w K mg base A):Qx t P w K mg base A:=by
 refine Dt ["board","numbers","row"] λq h ds d j hI G σ Dn l W n c o nd=>?_;cases j with|@mk b d d'=>?_
 refine de g.ex λfm akF y z C F=>?_;refine aL (n.aC 0 (ba K A b) U) λv E H=>?_;exact wS.last (jC<|yN<|eO rT<|eO (mP F (h.mono au) U y z C .nil iW<|eO (rR (i:=0) U<|aP U) hZ) hZ) ⟨v,E,G,[ba K A b],ba K A<|pM b,l,W,⟨H,trivial⟩,.mk,c.m,λu G1 H1 e I Q T=>⟨by show 2<=bK;decide,λp hp=>HY (.a e) I ⟨Q,c.s.other c.m e<|gk f.ab,c.t.other c.m e<|gk f.ac⟩ T hp o⟩⟩
def wS.by3{D:Ends}(g1:ic t G H C H1)(t1:TS t C H1)(s1:br H1 σ C H1 J)(hs:Sv X J akF (.rt d))(hD:∀v G' I,ic t G H G' I->Wf I->TS t G' I->d.r G' v->D.rt v I):wS X akF D σ H1:=
 hs C H1 σ C H1 D (.refl s1.sub) s1 λv G2 H2 e w=>hD v G2 H2 (g1.then t1 e) w<|t1.ext e
def ady(h:br H0 σ G H d)(f:∀(i:Nat)ds,d[i]?≠Y (Y<|.own ds))(g:aX G l)(s:aX l H1)(w:Wf H1):br H1 σ l H1 d:=
 ⟨h.len,s,w,λj e c=>aL (h.aC j e c) λu a b=>aY u a<|e.mono g b,λj ds c=>absurd c<|f j ds,λj _ ds _ _ c=>absurd c<|f j ds⟩
abbrev zO(b:bC)(a c:Int):Int×bC:=if qK b a c=L then(0,i6 (zM a c) b)else(-8,b)
inductive H_ K A:List Rp->Rp->Prop
 |mk:H_ K A [ba K A b,nums [dx,a],d'] (oJ K A (zO b dx a))
def adz(h:qK b dx a=L):zL (zM dx a) b:=λl c p d=>by rw[qK,dR]at h;have:=dR.mp (h l c) p d;simp[sM,within]at this;exact this
@[reducible]def Qy(t:Ts)(P:bO)(w:bN)(K:aJ)(mg:aq->aR aB)(base:bf)(A:Ad):Prop:=GoodC P w K mg base 12 "call_shift" (dw 197) t<|H_ K A
def adA{t:Ts}(C:zN t)(akG:Qs t.b P w K mg base A):Qy t P w K mg base A:=by
 refine Dt ["board","numbers","row"] λq hr l d hR hI G E Dn Q W T ts f nd=>?_;cases hR with|@mk b dx a o=>?_
 have e0:∀{X:Cx}{g:En}{p q v:bn}{t:Nat},Ev X g (aK "numbers" p) (nums [dx,a])->Ev X g (cR (aK "numbers" p) (dX (.int 0) t q) v) (int dx):=λe=>bW e aG<|b8 (n:=0) U U;have e1:∀{X:Cx}{g:En}{p q v:bn}{t:Nat},Ev X g (aK "numbers" p) (nums [dx,a])->Ev X g (cR (aK "numbers" p) (dX (.int 1) t q) v) (int a):=λe=>bW e aG<|b8 (n:=1) U U
 have no:∀(i:Nat)l,(ent ["board","numbers","row"] [ba K A b,nums [dx,a],o])[i]?≠Y (Y<|.own l):=λi l h=>by
  match i,h with
  |0,h=>cases h
  |1,h=>cases h
  |2,h=>cases h
  |n+3,h=>cases h
 refine wS.cons (kN pT eP eP)<|(dE (b_<|aO adh<|bM aw (e0 aE)<|e1 aE):Tv _ (bj<|ent ["board","numbers","row"] [ba K A b,nums [dx,a],o]) _ _) E G q.H _ T.bj Q W λH1 s1 w1=>?_;have c:Ext G q.H G H1:=.hp Q s1;have akF:=ady T no (aX.refl _) c.s w1
 delta zO at f
 cases q:qK b dx a with
 |false=>
  rw[aD<|by rw[q];simp]at f;rw[aH<|show(!aA)=L from U];exact wS.by3 (.of c) (ts.ext c) akF (bI<|pL (bX M.GI) aw) f
 |true=>
  rw[aH q]at f;rw[aD<|show¬(!L)=L by simp];refineλakH s' I=>il akH s' _ _ _ I ?_;obtain⟨fm,akK,hm,akI,akJ,F⟩:=akG.ex;refine wS.last (jC<|yN<|eO rT<|eO (mP F (hr.mono au) U hm akI akJ .nil iW pA) hZ) ?_;refine(bM aw (e0 aE) (e1 aE):fc _ (bj<|ent ["board","numbers","row"] [ba K A b,nums [dx,a],o]) _ _) E G H1 _ akF.bj c.s w1 λvs G2 H2 y w2 r2=>?_;show spT _ _ _ _ (vs++[]) _ _ _;simp[eG];have j:=(ts.ext c).ext y;refine⟨G2,_,ba K A<|i6 (zM dx a) b,y.s,w2,r2,.mk<|adz q,j.s,λu G3 H3 z w3 t3 r3=>⟨by show 2<=bK;decide,λp hp=>?_⟩⟩;exact HY (.pre (c.trans y)<|.b z) w3 ⟨j.m.other j.s z C.ab,t3,j.t.other j.s z<|gk C.bc⟩ r3 hp f
inductive Ia K A:List Rp->Rp->Prop
 |mk {k:Int} {d':Rp}:Ia K A [ba K A b,nums [k],d'] (oJ K A (0,i6 (nA (k%4).toNat) b))
@[reducible]def Qz(t:Ts)(P:bO)(w:bN)(K:aJ)(mg:aq->aR aB)(base:bf)(A:Ad):Prop:=GoodC P w K mg base 12 "call_turn" (dw 198) t<|Ia K A
def adB(g:zN t)(h:Qv t.c P w K mg base A):Qz t P w K mg base A:=by
 refine Dt ["board","numbers","row"] λq i ds d j hI G l Dn n W o v y nd=>?_;cases j with|@mk b k z=>?_
 refine de h.ex λfm akF C E I F=>?_;have Q:(k%4).toNat<4:=ap;refine wS.last (jC<|yN<|eO rT<|eO (mP F (i.mono au) U C E I .nil iW pA) hZ) ((bF aw (Ev.eq (d':=int ((k%4).toNat:Nat)) (y_ (bW aE aG<|b8 U U) aG au)<|by congr 1;lia):fc _ (bj<|ent ["board","numbers","row"] [ba K A b,nums [k],z]) _ _) l G q.H _ o.bj n W λvs T H2 e w2 r2=>?_);rw[eG];have a:=v.ext e;exact E9 T _ (ba K A<|i6 (nA (k%4).toNat) b) e.s w2 r2 (.mk Q) a.t<|λu G3 H3 f w3 t3 r3=>⟨by show 2<=bK;decide,λp hp=>HY (.pre e<|.c f) w3 ⟨a.m.other a.t f g.ac,a.s.other a.t f g.bc,t3⟩ r3 hp y⟩
inductive RC K A:aq->List Rp->Rp->Prop
 |mirror (h:HZ K A ds d):RC K A "call_mirror" ds d
 |shift (h:H_ K A ds d):RC K A "call_shift" ds d
 |turn (h:Ia K A ds d):RC K A "call_turn" ds d
 |keep (h:HJ K A ds d):RC K A "call_keep" ds d
 |unkeep (h:HK K A ds d):RC K A "call_unkeep" ds d
 |cut (h:HM K A ds d):RC K A "call_cut" ds d
 |uncut (h:HL K A ds d):RC K A "call_uncut" ds d
inductive Du K A:List Rp->Rp->Prop
 |mk (e:C2.lookup n=Y nm) (h:RC K A nm [a,b,c] d):Du K A [a,int n,b,c] d
def uO{X:Cx}{c:En}{e:aT}{es:O aT}{f p:bn}{y:aq}{n:Nat}{ds:O Rp}{d:Rp}{h:az}j(akF:c[j]?=Y (Y<|ref h))(g:GoodC X.prog X.w X.K X.mg X.base n y ps t R)(hy:X.mg y=Y (.ref h))(hr:cj n X.A)(ha:fc X c (e::es) ds)(hR:R ds d)
  {σ:St}{G H:Hp}{Q:VK}(E:eU σ G c)(S:aX G H)(ts:TS t G H)(hQ:∀v b a,ic t G H b a->Wf a->TS t b a->d.r b v->Q v a)
  (hN:Nv X j x<|>aa)
  (he:Se X e es<|>_r)(akG:Bt X f es<|>_r):wE X (b0 (aK x p) (e::es) [] f) σ H Q:=λo s I=>by
 refine de g.ex λakI fd q hk hb F=>?_;rw[hy]at q;cases q;refine aL (E.at_ j _ akF) λv h1 akH=>?_;subst akH;refine nN<|bo (gu hN o s σ H (λv a=>v=.ref h/\a=H) I ⟨_,h1,U,U⟩) λu s1 i=>de i λv z l r1 e1 e2=>?_;subst e1 e2;rw[r1];refine xI l.ok.mod.pp hk (bo (ha σ G z (λC a=>∃b,Ext G z b a/\Wf a/\bv b C ds) E S (ji l) (by grind only) f o s1 l) λus s2 i=>be i λC H2 T rv w_=>b7 w_ λG2 m w2 r2=>⟨T.hW,?_⟩) he akG;apply v9 F hr hb .nil iW T rv;rw[eG];exact E9 G2 ds d m.s w2 r2 hR (ts.ext m)<|λv G3 H3 e3 w3 t3=>hQ v G3 H3 (.pre m e3) w3 t3
@[reducible]def QA(t:Ts)(P:bO)(w:bN)(K:aJ)(mg:aq->aR aB)(base:bf)(A:Ad):Prop:=GoodC P w K mg base 13 "changed" (dw 206) t<|Du K A
def adC(tk:zN t)(y:Qx t P w K mg base A)(z:Qy t P w K mg base A)(C:Qz t P w K mg base A):QA t P w K mg base A:=by
 refine Dt ["board","number","numbers","row","call"] λq f ds d E hI G I Dn Q W p T hD nd=>?_;cases E with|@mk n nm a b c d hl h=>?_
 refine de D.C2 λad ff akF akG _ akH=>?_;refine aL (akH n nm hl) λu akI j=>?_;refine wS.cons (lU (i:=4) nd U (aP U) pE U<|aP U)<|(C1 (d:=ref u) (v:=.ref u) akG (or (v:=.ref ad) akF U<|λ_=>U) aE akI U (λ_=>U)<|λ_ _=>U) I G q.H _ p.bj Q W λv2 G2 H2 e w2 r2=>?_;have l:=(p.grow e w2).set (i:=4) r2;have m:=T.ext e;have o:=λv G' H' g=>hD v G' H'<|.pre e g;apply wS.last<|jC pE;cases h with
 |mirror h=>exact uO 4 U (y.mono au) j (f.mono<|cg _) (bM aw aM aV) h l.bj e.s m o
 |shift h=>exact uO 4 U (z.mono au) j (f.mono<|cg _) (bM aw aM aV) h l.bj e.s m o
 |turn h=>exact uO 4 U (C.mono au) j (f.mono<|cg _) (bM aw aM aV) h l.bj e.s m o
 |keep h=>exact uO 4 U (Good.lift ac9 au) j f (bM aw aM aV) h l.bj e.s m o
 |unkeep h=>exact uO 4 U (Good.lift ac_ au) j f (bM aw aM aV) h l.bj e.s m o
 |cut h=>exact uO 4 U (Good.lift ade au) j f (bM aw aM aV) h l.bj e.s m o
 |uncut h=>exact uO 4 U (Good.lift ac' au) j f (bM aw aM aV) h l.bj e.s m o
end
structure di K A(G H:Hp)a(b:List az)(gr:bE):Prop where
 top:H a=Y (.lst<|b.map .ref)
 ga:G a=am
 na:a∉b
 nd:b.Nodup
 len:b.length=gr.length
 sP:∀r∈b,G r=am
 row:∀(j:Nat)r row,b[j]?=Y r->gr[j]?=Y row->∃vs,H r=Y (.lst vs)/\bv G vs (row.map<|dC K A)
abbrev i7(G H:Hp)(a:az)(c:O az):Hp:=λb=>if b=a\/b∈c then H b else G b
section
variable{K:aJ}{A:Ad}{G H G' H':Hp}{a:az}{rs:O az}{gr:bE}
def di.QB(g:di K A G H a rs gr){r:az}(h:r∈rs):H r≠am:=by
 obtain⟨j,C,rfl⟩:=A0 h;have I:j<gr.length:=by rw[<-g.len];lia
 obtain _:=g.row j _ _ (dq C) (dq I)
 lia
def di.grow(g:di K A G H a rs gr)(e:Ext G H G' H'):di K A G' H' a rs gr:=
 ⟨e.h _ _ g.top,e.f a (by rw[g.top];simp) g.ga,g.na,g.nd,g.len,λr C=>e.f r (g.QB C)<|g.sP r C,λj r I h1 h2=>aL (g.row j r I h1 h2) λvs h3 h4=>aY vs (e.h _ _ h3)<|h4.mono e.g⟩
def di.s1(g:di K A G H a rs gr):aX G (i7 G H a rs):=λb o e=>by
 rw[i7,aD]
 .lia
 .rintro(z|z)
  .rw[z,g.ga]at e;lia
  .rw[g.sP b z]at e;lia
def uP(S:aX G H):aX (i7 G H a rs) H:=λb o e=>by
 unfold i7 at e;split at e
 .lia
 .exact S _ _ e
def di.is(g:di K A G H a rs gr):(jn K A gr).r (i7 G H a rs) (.ref a):=by refine cn a (rs.map .ref) U (by unfold i7;rw[aH<|aP U];exact g.top) (bv.of_get (by rw[aI,aI];exact g.len) λj v d I hd=>?_);obtain⟨r,C,rfl⟩:=cH I;obtain⟨akF,akG,rfl⟩:=cH hd;let⟨vs,h1,h2⟩:=g.row j r akF C akG;exact cn r vs U (by unfold i7;rw[aH<|aW<|eD C];lia)<|h2.mono g.s1
def di.write(g:di K A G H a rs gr){i j:Nat}{r:az}{vs:O V}(hr:rs[j]?=r)(akI:H r=Y (.lst vs)):di K A G (upd H r<|.lst<|vs.set i .bH) a rs (_h.lS gr i j):=by
 have akJ:a≠r:=λz=>g.na<|z▸eD hr;refine⟨(aQ akJ)▸g.top,g.ga,g.na,g.nd,by rw[_h.lS,fX];exact g.len,g.sP,λC r' akK h1 I=>?_⟩;unfold _h.lS at I;by_cases hj:C=j
 .subst hj;rw[hr]at h1;obtain rfl:=bL h1;have akF:C<gr.length:=by rw[<-g.len];exact(dH.mp hr).1
  have h0:gr[C]?=Y gr[C]:=dq akF;rw[AC,aH U,aH akF]at I;obtain rfl:=bL I;refine aL (g.row C r _ hr h0) λakG h3 h4=>?_;rw[akI]at h3;cases h3;refine aY _ bQ ?_;rw[jt,h0,vx];refine bv.of_get (by rw[fX,aI,fX,h4.length,aI]) λk v d hv hd=>?_;obtain⟨o,ho,rfl⟩:=cH hd;obtain⟨rfl,rfl⟩|⟨hk,akL⟩:=get_set hv
  .have:(gr[C].set k am)[k]?=Y am:=by
    have:=(dH.mp ho).1;rw[fX]at this;rw[AC,aH U,aH this]
   rw[ho]at this;obtain rfl:=bL this;exact U
  .rw[lY hk]at ho;refine aL (h4.get' akL) λd' akH akM=>?_;rw[cT,ho]at akH;obtain rfl:=bL akH;exact akM
 .rw[AC,aD<|λz=>hj z.symm]at I;have akN:r'≠r:=λz=>by
   subst z;obtain⟨a1,a2⟩:=dH.mp h1;obtain⟨b1,b2⟩:=dH.mp hr;exact hj<|(TU g.nd).mp<|a2.trans b2.symm
  refine aL (g.row C r' akK h1 I) λakG h3 h4=>?_;exact aY akG ((aQ akN)▸h3) h4
end
abbrev Sg(X:Cx)(A:Ad)(i:Nat)(g:bV)(gr:bE)(h:O bY)(Γ':bV)(dk:bE):Prop:=∀f H0 σ G H D a c,Ext f H0 G H->br H0 σ G H g->H0 a=am->(∀r∈c,H0 r=am)->di X.K A G H a c gr->σ[i]?=Y (Y<|.ref a)->
 (∀d e b,Ext f H0 e b->br H0 d e b Γ'->di X.K A e b a c dk->d[i]?=Y (Y<|.ref a)->D.nx d b)->wS X h D σ H
abbrev vZ(K:aJ)(A:Ad)(i:Nat)(a:bV)(gr:bE):En:=(bj a).set i<|jn K A gr
section
variable{X:Cx}{A:Ad}{i:Nat}{J Γ' Ib:bV}{gr dk wX:bE}{a8 bD:O bY}{c:aT}{ao:bn}
def QC(s:br H0 σ G H J)(g:di X.K A G H a rs gr)(b:σ[i]?=Y (Y<|.ref a)):eU σ (i7 G H a rs) (vZ X.K A i J gr):=by
 refine⟨by rw[vZ,fX];exact s.bj.len,λj d f=>?_⟩;obtain⟨rfl,e⟩|⟨l,e⟩:=get_set f
 .obtain rfl:=bL e;exact aY (.ref a) b g.is
 .obtain⟨v,h,k⟩:=s.bj.at_ j d e;exact aY v h<|d.mono g.s1 k
def qN:Sg X A i J gr [] J gr:=λh j b G H D a k x s _ _ g d f e st I=>il e st b H D I<|f b G H x s g d
def QD(o:Tv X (vZ X.K A i J gr) c q)(p:q=L->Sg X A i J gr bD Γ' dk)(t:q=aA->Γ'=J/\dk=gr)(hr:Sg X A i Γ' dk a8 Ib wX):Sg X A i J gr (kK c bD [] ao::a8) Ib wX:=λb d e G H D a h x s j k g l f=>
 wS.cons (kN pT eP il) (o e _ H _ (QC s g l) (uP s.sub) s.wf λm u n=>by
  have y:=Ext.hp s.sub u;cases q with
  |true=>exact p U b d e G m _ a h (x.trans y) (s.grow y n) j k (g.grow y) l λv w z C E I N=>hr b d v w z D a h C E j k I N f
  |false=>
   obtain⟨rfl,rfl⟩:=t U;exact hr b d e G m D a h (x.trans y) (s.grow y n) j k (g.grow y) l f)
def Ext.QE{r:az}(x:Ext C H0 G H)(I:H0 r=am)(hg:G r=am):Ext C H0 G (upd H r<|.lst us):=
 ⟨x.g,λb o e=>by rw[aQ ap];exact x.s _ _ e,λb o e=>by rw[aQ ap];exact x.h _ _ e,x.f⟩
end
abbrev fT(a:bV):Prop:=∀(k:Nat)ds,a[k]?≠Y (Y<|.own ds)
def br.plain(s:br H0 σ G H I)(n:fT I)(g:aX G G')(s':aX G' H')(w:Wf H'):br H0 σ G' H' I:=
 ⟨s.len,s',w,λi d h=>aL (s.aC i d h) λv a b=>aY v a<|d.mono g b,λi C h=>absurd h<|n i C,λi j C es a h=>absurd h<|n i C⟩
abbrev cut(H:Hp)(a:az)(c:O az):Hp:=λb=>if b=a\/b∈c then am else H b
def C0(h:b=a\/b∈rs):cut H a rs b=am:=by simp_all[cut]
def zP(h:¬(b=a\/b∈rs)):cut H a rs b=H b:=by simp_all[cut]
section
variable{X:Cx}{A:Ad}{i:Nat}{J Γ' Ib:bV}{gr dk wX:bE}{a8 bD:O bY}{c:aT}{ao p p1 p2 p3 p4:bn}
def adD(s:br H0 σ G H J)(g:di X.K A G H a rs gr)(k:σ[i]?=Y (Y<|.ref a)):eU σ (i7 G H a rs) ((bj J).set i<|lst<|rs.map .ref):=by
 refine⟨by rw[fX];exact s.bj.len,λj d b=>?_⟩;obtain⟨rfl,e⟩|⟨q,e⟩:=get_set b
 .obtain rfl:=bL e;refine⟨.ref a,k,a,rs.map .ref,U,by rw[i7,aH<|aP U];exact g.top,bv.of_get au λj v d l b=>?_⟩;refine aL (cH l) λr m f=>?_;subst f;refine aL (cH b) λt h f=>?_;subst f;rw[m]at h;obtain rfl:=bL h;rfl
 .let⟨v,n,o⟩:=s.bj.at_ j d e;exact aY v n<|d.mono g.s1 o
def QF{j k:aT}{m n o:Nat}(no:fT J)(ho:∀d:O az,d.length=gr.length->∀r,d[n]?=Y r->Ev X ((bj J).set i<|Y<|lst<|d.map .ref) j (.ref r))(hx:Ev X (bj J) k (int (m:Int)))
  (hc:∃l,gr[n]?=Y l/\m<l.length)(hr:Sg X A i J (_h.lS gr m n) a8 Γ' dk)
  (hs:T5 [cR j k p] (dX .none o p1) ao.line X.env=pure aA<|>_r)(hw:T6 [cR j k p] (dX .none o p1) X.env=pure am<|>_r)
  (h1:(gE [cR j k p] X.env).map (·.2)=[k6 (cR j k p) X.env]<|>_r)
  (ha:(∀v,k6 (cR j k p) X.env v=(do
   let ov<-kG [v] (eval j X.env);let q<-kG [v,ov] (eval k X.env)
   xB p
   kG [v,ov,q] (Ey ov q v)
   T4 [v,ov,q] []))<|>ag):Sg X A i J gr (iC [cR j k p] (dX .none o p1) ao::a8) Γ' dk:=λG0 H0 t G H D a d x s n1 T g akF f=>by
 refine aL hc λl akG hm=>?_;have hn:n<d.length:=g.len▸(dH.mp akG).1;have w:=dq hn;refine wS.cons (LJ yK (LI pE pE set_list ha) hs hw h1)<|ho d g.len _ w t _ H _ (adD s g akF) (uP s.sub) s.wf λv G1 H1 e1 w1 r1=>?_;subst r1;have y:=Ext.hp s.sub e1.h;have z:=s.grow y w1;refine hx t G H1 _ z.bj z.sub w1 λu G2 H2 C E r2=>?_;rw[r2];have I:=(g.grow y).grow C;refine aL (I.row n _ _ w akG) λN Q h4=>?_;have hl:N.length=l.length:=by rw[h4.length,aI]
 refine Bp (d[n]) N m m U U Q ?_ ?_
 .rw[om,aH<|aiW _,aH ap];rfl
 .have akH:=A8 hn;have x2:=_c.Ext.QE (us:=N.set m .bH) ((x.trans y).trans C) (T _ akH)<|I.sP _ akH;refine hr G0 H0 t G2 _ D a d x2 (br.plain (z.grow C E) no (aX.refl _) x2.s ?_) n1 T (I.write w Q) akF f;intro b xs e;by_cases hb:b=d[n]
  .subst hb;rw[bQ]at e;cases e;rw[fX];exact E _ _ Q
  .rw[aQ hb]at e;exact E _ _ e
abbrev Dv(d:Rp):Prop:=∀G a v,(∀b o,G b=Y o->(∀e,o≠.lst e)->a b=Y o)->d.r G v->d.r a v
def adE{K:aJ}:Dv (tup K [int k,int l]):=λG n v s b=>be b λa o d e f=>by
 refine be (all2 f) λu w g j m=>?_;subst g;refine⟨a,[u,w],d,?_,j,m,trivial⟩;obtain(h|_)|h:=e
 .exact aP<|aP bG
 .exact aP<|aW bh
 .exact aW h
def adF{a:az}{e:O az}(h:∀b,b=a\/b∈e->∃d,G b=Y (.lst d)):∀b o,G b=Y o->(∀d,o≠.lst d)->cut G a e b=Y o:=by grind[zP]
def bv.QG(s:∀b o,G b=Y o->(∀I,o≠.lst I)->C b=Y o):∀{vs:O V}{ds:O Rp},(∀d∈ds,Dv d)->bv G vs ds->bv C vs ds
 |[],[],_,_=>trivial
 |v::vs,d::ds,h,r=>⟨h d (ig ..) G C v s r.1,bv.QG s bh r.2⟩
 |[],_::_,_,r=>r.elim
 |_::_,[],_,r=>r.elim
def di.lists{K:aJ}(g:di K A G H a rs gr):∀b,b=a\/b∈rs->∃C,H b=Y (.lst C):=by
 rintro b (rfl|h)
 .exact⟨_,g.top⟩
 .obtain⟨j,I,rfl⟩:=A0 h;have akF:j<gr.length:=by rw[<-g.len];omega
  obtain _:=g.row j _ _ (dq I)<|dq akF;grind
def adG{K:aJ}(g:di K A G H a rs gr)(s:aX G H)(e:Ext (i7 G H a rs) H d j):Ext G H (cut d a rs) j:=
 ⟨λb o q=>by
   rw[zP (by
    rintro(z|z)
    .rw[z,g.ga]at q;lia
    .rw[g.sP b z]at q;lia)]
   exact e.g _ _<|g.s1 _ _ q,
  λb o q=>by
   delta cut at q
   split at q
   .lia
   .exact e.s _ _ q,
  e.h,λb k l=>by
   delta cut
   split
   .rfl
   .next z=>exact e.f b k<|by simp_all[i7]⟩
def di.adH{K:aJ}(g:di K A G H a rs gr)(e:Ext (i7 G H a rs) H I H'):∀b,b=a\/b∈rs->∃C,I b=Y (.lst C):=λb hb=>
 mH (g.lists b hb) λC h=>
 ⟨C,e.g _ _<|by simp_all[i7]⟩
def QH{x:aq}j(akG:j≠i)(hj:j<J.length)(N:bu X (vZ X.K A i J gr) e ds)(Q:∀d∈ds,Dv d)(hr:Sg X A i (J.set j<|Y<|.aC<|lst ds) gr a8 Γ' dk)(hi:Lc X j x<|>ah)(T:Sw X e (Y<|aK x p) ao.line<|>_r)
 :Sg X A i J gr (iC [aK x p] e ao::a8) Γ' dk:=λG0 H0 σ G H D a u y s n1 n2 g ha f=>
 wS.cons (lU hi.d hi.n hi.l pE T hi.f) (N σ _ H _ (QC s g ha) (uP s.sub) s.wf λb v G1 C z w n gb h r=>by
  have m:=adG g s.sub z;have akF:cut G1 a u b=am:=by delta cut;split;rfl;exact gb
  have E:aX _ (upd _ b<|.lst v):=gM akF
  have t:Ext G H _ C:=⟨m.g.trans E,λq o k=>by
    by_cases I:q=b
    .subst I;rw[bQ]at k;exact h▸k
    .rw[aQ I]at k;exact m.s _ _ k,m.h,λq k hg=>by
    rw[aQ ap];exact m.f q k hg⟩
  exact hr G0 H0 _ _ C D a u (y.trans t) ((s.grow t w).set (i:=j) (d:=lst ds) ⟨b,v,U,bQ,(bv.QG (adF<|g.adH z) Q r).mono E⟩) n1 n2 (g.grow t) bG f)
abbrev Gg(X:Cx)(A:Ad)(i:Nat)(J:bV)(gr:bE)(j:aT)(d:Rp)(bD:O bY)(Γ':bV)(dk:bE):Prop:=∀h H0 σ G H D a e v,Ext h H0 G H->br H0 σ G H J->H0 a=am->(∀r∈e,H0 r=am)->di X.K A G H a e gr->σ[i]?=Y (Y<|.ref a)->d.r G v->
 (∀f g b,Ext h H0 g b->br H0 f g b Γ'->di X.K A g b a e dk->f[i]?=Y (Y<|.ref a)->D.nx f b)->wG X j v σ H λk l=>wS X bD D k l
variable{d d1 d2:Rp}{tg iter:aT}{ds:O Rp}{x y:aq}{ug:bn}
def QI k(t:k≠i)(h:Sg X A i (J.set k<|Y<|.aC d) gr bD Γ' dk)(hi:Lc X k x<|>ah)
 :Gg X A i J gr (aK x p) d bD Γ' dk:=λb j u G H D a m v e s o q g w r f=>
 wG.by (mO hi.d hi.n hi.l hi.f)<|h b j _ G H D a m e (s.set r) o q g bG f
def QJ{K:aJ}{m:Nat}k j(hk:k≠i)(akG:j≠i)(h:Sg X A i ((J.set k<|Y<|.aC d1).set j<|Y<|.aC d2) gr bD Γ' dk)(o:X.calm=L<|>_r)(hi:Lc X k x<|>ah)(b:Lc X j y<|>ah)
 (q:X.K=K<|>_r)
  (z:((gE [aK x p,aK y p2] X.env).map (·.2)=k6 (aK x p) X.env::(gE [aK y p2] X.env).map (·.2))<|>_r)(C:((gE [aK y p2] X.env).map (·.2)=k6 (aK y p2) X.env::(gE [] X.env).map (·.2))<|>_r)
  (E:(gE [aK x p,aK y p2] X.env).length=2<|>_r)(I:(gE [aK x p,aK y p2] X.env).findIdx? (·.1)=am<|>_r):
  Gg X A i J gr (jW [aK x p,aK y p2] m ug) (tup K [d1,d2]) bD Γ' dk:=λN Q σ G H D a T v e s n1 n2 g ha z_ f=>be z_ λt vs q1 q2 q3=>by
 subst q;refine be (all2 q3) λu w akF r1 r2=>?_;subst akF;apply wG.by<|Ch o (rX (mO hi.d hi.n hi.l hi.f) (rX (mO hi.d b.n b.l b.f) Cg C) z) E I;exact⟨t,[u,w],q1,s.sub.tup q2,U,u,[w],U,w,[],U,U,h N Q _ G H D a T e ((s.set r1).set r2) n1 n2 g bG f⟩
def Dx(o:Nat->bV)(q:Nat->bE)(hi:Iv X (bj J) tg iter ds)(h0:o 0=J)(g0:q 0=gr)(hb:∀k d,ds[k]?=Y d->Gg X A i (o k) (q k) tg d bD (o<|k+1) (q<|k+1))(hr:Sg X A i (o ds.length) (q ds.length) a8 Γ' dk)
  (hc:X.calm=L<|>_r)(hp:p0 (bg X.prog X.w) X.A X.env X.xe<|>aj)(hs:Fi X iter<|>ag):Sg X A i J gr (yf tg iter bD [] ao::a8) Γ' dk:=λE j σ G H D a u x s n1 n2 g ha f=>by
 refine wS.cons (Cm hp hc pI pG eP hs)<|hi σ G H _ s.bj s.sub s.wf λakM I H1 N w1 hl Q=>⟨λk m t e=>k<=ds.length/\m=ds.length-k/\∃l,Ext E j l e/\aX I l/\br j t l e (o k)/\di X.K A l e a u (q k)/\t[i]?=_,⟨_,dI _,U,I,x.trans N,aX.refl _,h0▸s.grow N w1,g0▸g.grow N,ha⟩,?_⟩;rintro k m t e ⟨akK,rfl,l,x',z,n,g',akG⟩;by_cases akH:k<ds.length
 .have T:=dq akH;refine aW ⟨(Q.mono z).go k _ e T n.sub,λakF h=>∃b,Ext E j b h/\aX I b/\br j akF b h _/\di X.K A b h a u _/\akF[i]?=_,λakF h z_=>b7 z_ λb y1 y2 y3=>⟨ds.length-_,aU,ap,U,b,y1,y2,y3⟩,λv h hy=>?_⟩;refine b7 ((Q.mono z).yl k _ e v h T n.sub hy) λb C w2 r2=>?_;have x2:=x'.trans C;exact hb k _ T b j t b h _ a u v x2.base (n.grow C<|w2 n.wf) n1 n2 (g'.grow C) akG r2 λakL G3 H3 e3 s3 g3 akI=>E6 G3 (x2.back e3) ((z.trans C.g).trans e3.g) s3 g3 akI
 .have akJ:k=ds.length:=ap;subst akJ;exact aP ⟨Q.st _ e ‹_› (z.trans n.sub),hr E j t l e D a u x' n n1 n2 g' akG f⟩
end
abbrev Dy(K:aJ)(A:Ad)(R:O Rp->bE->bE->Prop):Sp:=λvs H Q _=>∃G a us c ds gr dk,vs=.ref a::us/\aX G H/\Wf H/\bv G us ds/\di K A G H a c gr/\R ds gr dk/\
 ∀d b,Ext G (cut H a c) d b->Wf b->di K A d b a c dk->Q .bH b
structure GoodG P w K A mg base k x ps R:Prop where
 ex:∃f a,mg x=Y (.ref f)/\k8 K (.ref f)=L/\Binds K a ps []/\fH P w K mg base iH k f a ps (Dy K A R)
def Ext.Ic(x:Ext G0 H0 G1 H1)(n1:H0 a=am)(n2:∀r∈I,H0 r=am)(y:Ext G1 (cut H1 a I) G2 H2):Ext G0 H0 G2 H2:=by
 have k:∀b,H0 b≠am->cut H1 a I b=H1 b:=λb C=>zP bh;refine⟨x.g.trans y.g,y.s,λb o e=>?_,λb C hg=>?_⟩
 .apply y.h _ _;exact(k b ap)▸x.h _ _ e
 .refine y.f b ?_<|x.f b C hg;rw[k b C];let⟨o,e⟩:=lw C;rw[x.h _ _ e];simp
section
variable{X:Cx}{A:Ad}{i:Nat}{J Γ':bV}{gr dk wX:bE}{a8:O bY}{e:aT}{es:O aT}{ds:O Rp}{ao p p2 nB:bn}{x y:aq}{k:Nat}{ps:O aq}{R:O Rp->bE->bE->Prop}
def QK(g:GoodG X.prog X.w X.K A X.mg X.base k x ps R)(t:cj k X.A)(u:fT J)(v:fc X (bj J) es ds)(z:R ds gr dk)(hr:Sg X A i J dk a8 Γ' wX)(h:Gn X x<|>ae)
  (C:Nv X i y<|>aa)
  (E:Se X (aK y p2) es<|>_r)(I:Bt X ao es<|>_r)(N:Sw X (b0 (aK x p) (aK y p2::es) [] ao) am nB.line<|>_r):
  Sg X A i J gr (.Expr (b0 (aK x p) (aK y p2::es) [] ao) nB::a8) Γ' wX:=λQ T j G H D a l x0 s m n gg o f=>by
 refine de g.ex λfa fd hm hk hb F=>?_;apply wS.cons<|rW (mP F t h.g hm hk hb .nil iW (eO (gu C) pA) h.d E I) N;refine aY (.ref a) o<|v j G H _ s.bj s.sub s.wf λvs G1 H1 b q r1=>?_;show Dy X.K A R _ H1 _ _;rw[eG];exact⟨G1,a,vs,l,ds,gr,dk,U,b.s,q,r1,gg.grow b,z,λG2 H2 c w2 g2=>hr Q T j G2 H2 D a l (Ext.Ic (x0.trans b) m n c) (br.plain (s.grow b q) u c.g c.s w2) m n g2 o f⟩
end
abbrev iK:Rp:=⟨λ_ _=>True,λ_ h=>h⟩
section
variable{P:bO}{w:bN}{K:aJ}{A:Ad}{mg:aq->aR aB}{base:bf}{k:Nat}{x:aq}{st:bY}{N ps:O aq}{R:O Rp->bE->bE->Prop}
def d7:fT (ent N ds):=by intro k a h;grind-order [ent]
def adI(T:l0 K mg x st ps)(S:im N ps (fv st))(hl:∀ds g g',R ds g g'->ds.length+1=ps.length)
  (h:∀f c l m s H E,cj k (XD P w K mg base N x st f c l m s H E).A->∀ds gr dk,R ds gr dk->(∀d∈ds,bA d)->∃Γ',Sg (XD P w K mg base N x st f c l m s H E) A 0 (ent N (iK::ds)) gr (gL st) Γ' dk):
  GoodG P w K A mg base (k+1) x ps R:=by
 refine be T.ex λf C I F n=>?_;refine⟨f,C,I,F.kp,n,F.ok S (λvs H Q E p=>by obtain⟨G,a,v,t,ds,gr,dk,e,_,_,r,_,y,_⟩:=p;rw[e,c_,r.length];grind) λc l m s H vs Q E u p=>?_⟩;obtain⟨G,a,v,t,ds,gr,dk,e,z,W,r,g,y,q⟩:=p;subst e;obtain⟨Γ',n⟩:=h f c l m s H E u ds gr dk y r.pB;have s0:br H _ G H (ent N (iK::ds)):=sv (vs:=.ref a::v) ⟨trivial,r⟩ z W;have x0:Ext G (cut H a t) G H:=⟨aX.refl _,z,λb o e=>by simp_all[cut],λ_ _ h=>h⟩
 refine aY _ eP<|n G _ _ G H _ a t x0 ⟨s0.len,s0.sub,s0.wf,s0.aC,λi ds h=>absurd h<|d7 i ds,λi j ds es b h=>absurd h<|d7 i ds⟩ (C0<|aP U) (λr u=>C0<|aW u) g ?_ λakF G' H' e s' g' _=>q G' H' e s'.wf g';rfl
end
section
variable{P:bO}{w:bN}{K:aJ}{mg:aq->aR aB}{base:bf}{A:Ad}[Z:Zc P w K mg A]
@[reducible]def Dz[Z:Zc P w K mg A](base:bf)(k i:Nat)(x:aq)(R:aJ->Ad->O Rp->bE->bE->Prop):Prop:=GoodG P w K A mg base k x (dw i)<|R K A
def Ie N(h:∀q,cj k (XQ P w K mg base N x (top i) q).A->∀ds gr dk,R K A ds gr dk->(∀d∈ds,bA d)->N.Nodup->∃Γ',Sg (XQ P w K mg base N x (top i) q) A 0 (ent N (iK::ds)) gr (gL<|top i) Γ' dk)
  (S:im N (dw i) (fv<|top i)<|>alD)
  (b:(∀ds g g',R K A ds g g'->ds.length+1=(dw i).length)<|>alO)(e:nameAt i=x<|>_r)(hi:i∈kl<|>alE):Dz base (k+1) i x R:=
 adI (Zc.at i x e hi) S b λf c a o s H E j ds g g' l m=>h ⟨f,c,a,o,s,H,E⟩ j ds g g' l m S.nd
end
def di.push{K:aJ}{A:Ad}{G H G' H':Hp}{a b:az}{C:O az}{gr:bE}{akF:O (aR Sd)}{vs:O V}(g:di K A G H a C gr)(e:Ext G H G' H')(n:H b=am)(gb:G' b=am)(h:H' b=Y (.lst vs))(r:bv G' vs (akF.map<|dC K A)):
  di K A G' (upd H' a<|.lst<|(C++[b]).map .ref) a (C++[b]) (gr++[akF]):=by
 have g':=g.grow e;have akG:b≠a:=λz=>by subst z;rw[g.top]at n;cases n
 have akH:b∉C:=λz=>g.QB z n;refine⟨bQ,g'.ga,λz=>?_,?_,by rw[cC,cC,g.len];rfl,λr hr=>?_,λj r' akI I h2=>?_⟩
 .obtain z|z:=fE.mp z
  .exact g.na z
  .rw[e_]at z;exact akG z.symm
 .rw[ahc];refine⟨g.nd,au,λx hx y hy=>?_⟩;rw[e_]at hy;subst hy;exactλz=>akH<|z▸hx
 .obtain z|z:=fE.mp hr
  .exact g'.sP r z
  .rw[e_]at z;exact z▸gb
 .by_cases hj:j<C.length
  .rw[ve hj]at I;rw[ve<|by rwa[<-g.len]]at h2;refine aL (g'.row j r' akI I h2) λus q1 q2=>?_;exact aY us (
    have akJ:r'≠a:=λz=>g.na (z▸eD I)
    (aQ akJ)▸q1) q2
  .have hl:=(dH.mp I).1;rw[cC]at hl;have akK:j=C.length:=by have:[b].length=1:=U;lia
   subst akK;rw[Aw<|cg _,UQ]at I;obtain rfl:=bL I;rw[g.len,Aw<|cg _,UQ]at h2;obtain rfl:=bL h2;exact aY vs ((aQ akG)▸h) r
def di.empty{K:aJ}{D:az}(C:G D=am):di K A G (upd H D<|.lst []) D [] []:=
 ⟨bQ,C,au,UB,U,λr I=>absurd I au,λj r akF h1 _=>bG⟩
abbrev Ig(X:Cx)(a:dJ)(b:En)(e:aT)(ds:O Rp):Prop:=∀s c C cl fp,bu (X.fu s c a (ii a cl C X.env) fp) b e ds
def QL{X:Cx}{A:Ad}{J:En}{N:dJ}{T iter akF:aT}{ds:O Rp}{gr:bE}{vs:O Nat}(hi:Iv X J T iter ds)(hl:gr.length=ds.length)(hb:∀(i:Nat)d row,ds[i]?=Y d->gr[i]?=Y row->∃Γ',Gc X N vs J T d Γ'/\Ig X N Γ' akF (row.map<|dC X.K A))
  σ(G H)Q(E:eU σ G J)(S:aX G H)(W:Wf H)(k:∀a f n j,Ext G H n j->Wf j->H a=am->(∀r∈f,H r=am)->di X.K A n j a f gr->Q (.ref a) j):
  yU (wI X T iter) (CO X N T) Gk (GC X N akF) vs σ H Q:=by
 refine hi σ G H _ E S W λakM t p q w1 akK yl D hD=>?_;have gD:t D=am:=q.s.free hD;refine⟨λi m j=>i<=ds.length/\m=ds.length-i/\∃n f,Ext t p n j/\Wf j/\(∀r∈f,p r=am)/\di X.K A n j D f (gr.take i),⟨_,dI _,U,t,[],Ext.hp q.s<|gM hD,?_,λr u=>absurd u au,by rw[ail];exact .empty gD⟩,?_⟩
 .intro b xs e;by_cases hb:b=D
  .subst hb;rw[bQ]at e;cases e;exact dI _
  .rw[aQ hb]at e;exact w1 _ _ e
 rintro i m j ⟨akL,rfl,n,f,x,w,nr,g⟩;by_cases akG:i<ds.length
 .have hd:ds[i]?=Y ds[i]:=dq akG;have hg:gr[i]?=(gr[i]'aU):=dq aU;refine aW ⟨(yl.mono x.g).go i _ j hd x.s,λl=>∃o f,Ext t p o l/\Wf l/\(∀r∈f,p r=am)/\di X.K A o l D f (gr.take<|i+1),λl z_=>Bo z_ λo f y=>⟨ds.length-(i+1),bh,ap,U,o,f,y⟩,λv l hy=>?_⟩;refine b7 ((yl.mono x.g).yl i _ j v l hd x.s hy) λo e2 w2 r2=>?_;have I:=x.trans e2;have g2:=g.grow e2;refine aL (hb i _ _ hd hg) λΓ' hG hE=>?_;refine hG σ o l v _ (E.mono<|(q.trans I).g) I.s r2 λakH E2 hw=>⟨hw,?_⟩
  apply Gu (B:=∃G3 f,Ext t p G3 l/\Wf l/\(∀r∈f,p r=am)/\di X.K A G3 l D f (gr.take<|i+1));refineλs' akI C cl fp=>hE s' akI C cl fp akH o l _ E2 I.s (w2 w) λb vs G3 H3 e3 w3 n3 gb h3 r3=>?_;have g3:=g2.grow e3;have hz:(f.map V.ref).length<bK:=by rw[aI,g.len,jr];lia
  refine⟨f.map V.ref,g3.top,hz,G3,f++[b],_c.Ext.QE (I.trans e3) hD g3.ga,?_,λr u=>?_,?_⟩
  .intro c xs e;by_cases hc:c=D
   .subst hc;rw[bQ]at e;cases e;exact cC▸hz
   .rw[aQ hc]at e;exact w3 _ _ e
  .obtain z|z:=fE.mp u
   .exact nr r z
   .rw[e_]at z;exact z▸I.h.free n3
  .have:=g2.push e3 n3 gb h3 r3;rw[cN]at this;exact(take_snoc hg)▸this
 .have akJ:i=ds.length:=ap;subst akJ;rw[<-hl,ij]at g;exact aP ⟨yl.st _ j (cg _)<|x.g.trans x.s,k D f n j (q.trans x) w (q.h.free hD) (λr u=>q.h.free<|nr r u) g⟩
abbrev wY(X:Cx)(A:Ad)(i:Nat)(d:bV)(gr:bE)(e:O bY)(o:Out):Prop:=∀b H0 σ G H D a c,Ext b H0 G H->br H0 σ G H d->H0 a=am->(∀r∈c,H0 r=am)->di X.K A G H a c gr->σ[i]?=Y (Y<|.ref a)->Fits D b H0 o->wS X e D σ H
section
variable{X:Cx}{A:Ad}{i:Nat}{J:bV}{gr dk:bE}{fj a8:O bY}{o:Out}{e g7 tg iter:aT}{es:O aT}{ds:O Rp}{ao p p2 nB:bn}{x y:aq}{k:Nat}{ps:O aq}{R:O Rp->bE->bE->Prop}{bP:dJ}{own:O (aq×Nat)}
def QM(h:Sv X (J.set i<|Y<|.aC<|jn X.K A gr) fj o)(n:fT J):wY X A i J gr fj o:=λj l c G H D a v d s w z g C f=>by
 have q:Ext j l _ H:=⟨d.g.trans g.s1,uP s.sub,d.h,λb t u=>by
  rw[i7,aD]
  .exact d.f b t u
  grind⟩
 have m:=(br.plain s n g.s1 (uP s.sub) s.wf).set (i:=i) g.is;have e:c.set i (Y<|.ref a)=c:=by apply iO;grind-order
 rw[e]at m;exact h j l c _ H D q m f
def adJ(g:GoodG X.prog X.w X.K A X.mg X.base k x ps R)(v:cj k X.A)(z:fT J)(C:fc X (bj J) es ds)(E:R ds gr dk)(hr:wY X A i J dk a8 o)(h:Gn X x<|>ae)
  (I:Nv X i y<|>aa)
  (N:Se X (aK y p2) es<|>_r)(Q:Bt X ao es<|>_r)(T:Sw X (b0 (aK x p) (aK y p2::es) [] ao) am nB.line<|>_r):
  wY X A i J gr (.Expr (b0 (aK x p) (aK y p2::es) [] ao) nB::a8) o:=λG0 H0 j G H D a l x0 s m n gg q f=>by
 refine de g.ex λfa fd hm hk hb F=>?_;refine wS.cons (rW (mP F v h.g hm hk hb .nil iW (eO (gu I) pA) h.d N Q) T) ⟨.ref a,q,C j G H _ s.bj s.sub s.wf λt G1 H1 b u r1=>?_⟩;show Dy X.K A R ((.ref a::t)++[]) H1 _ _;rw[eG];exact⟨G1,a,t,l,ds,gr,dk,U,b.s,u,r1,gg.grow b,E,λG2 H2 c w2 g2=>hr G0 H0 j G2 H2 D a l (Ext.Ic (x0.trans b) m n c) (br.plain (s.grow b u) z c.g c.s w2) m n g2 q f⟩
def QN i(hi:Iv X (bj J) tg iter ds)(ok:oo X.N X.env.scope bP own)(b:gr.length=ds.length)(c:∀(i:Nat)d row,ds[i]?=Y d->gr[i]?=Y row->∃Γ',Gc X bP (own.map (·.2)) (bj J) tg d Γ'/\Ig X bP Γ' g7 (row.map<|dC X.K A))
  (j:wY X A i (J.set i<|Y<|.aC iK) gr a8 o)(l:i<J.length<|>ai)(m:X.calm=L<|>_r)(q:X.N.Nodup<|>ak)(t:X.N[i]?=x<|>_r)(u:X.env.scope.names.lookup x=Y .local<|>_r)
  (v:oW (kI g7 [⟨tg,iter,[],0⟩] bP nB) (Y<|aK x p) ao.line X.env=pure L<|>alJ)(C:Fi X iter<|>ag):Sv X J (iC [aK x p] (kI g7 [⟨tg,iter,[],0⟩] bP nB) ao::a8) o:=λE I Q G H D y s f=>by
 apply wS.cons<|Go (i:=i) m q t u v pI ok (λ_ _ _ _ _=>ze) (λ_ _ _ _ _=>Gm) (λ_ _ _ _ _=>zf) C;exact QL hi b c Q G H _ s.bj s.sub s.wf λa T G' H' z w n nr g=>j E I _ G' H' D a T (y.trans z) ((s.grow z w).set (d:=iK) trivial) (y.h.free n) (λr hr=>y.h.free<|nr r hr) g (so<|s.len▸l) f
end
abbrev Dj(a:az)(d:O az)(b:az)(e:O az):Prop:=∀c,c=a\/c∈d->¬(c=b\/c∈e)
abbrev sQ(X:Cx)(A:Ad)(i j:Nat)(g:bV)(gr hr:bE)(h:O bY)(o:Out):Prop:=∀f H0 σ G H D a b d e,Ext f H0 G H->br H0 σ G H g->(∀c,c=a\/c∈d->H0 c=am)->(∀c,c=b\/c∈e->H0 c=am)->di X.K A G H a d gr->di X.K A G H b e hr->Dj a d b e->σ[i]?=Y (Y<|.ref a)->σ[j]?=Y (Y<|.ref b)->Fits D f H0 o->wS X h D σ H
section
variable{X:Cx}{A:Ad}{i j:Nat}{J:bV}{gr dk hr:bE}{fj a8:O bY}{o:Out}{e g7 tg iter:aT}{es:O aT}{ds:O Rp}{ao p p2 nB:bn}{x y:aq}{k:Nat}{ps:O aq}{R:O Rp->bE->bE->Prop}{bP:dJ}{own:O (aq×Nat)}
def di.ne{K:aJ}(g:di K A G H a rs gr)(h:c=a\/c∈rs):H c≠am:=by
 obtain _:=g.lists c h
 lia
def sQ.swap(h:sQ X A j i J hr gr fj o):sQ X A i j J gr hr fj o:=λC I σ G H D a b rs ss x s n m g g' d ha hb f=>
 h C I σ G H D b a ss rs x s m n g' g (λc hc z=>d c z hc) hb ha f
def di.cut{K:aJ}(g:di K A G H b ss hr)(d:Dj a rs b ss):di K A G (cut H a rs) b ss hr:=
 ⟨(zP λz=>d _ z<|aP U)▸g.top,g.ga,g.na,g.nd,g.len,g.sP,λj r I C h2=>(zP λz=>d _ z<|aW<|eD C)▸g.row j r I C h2⟩
def QO(g:GoodG X.prog X.w X.K A X.mg X.base k x ps R)(E:cj k X.A)(I:fT J)(N:fc X (bj J) es ds)(Q:R ds gr dk)(T:sQ X A i j J dk hr a8 o)(l:Gn X x<|>ae)
  (hN:Nv X i y<|>aa)
  (he:Se X (aK y p2) es<|>_r)(akF:Bt X ao es<|>_r)(akG:Sw X (b0 (aK x p) (aK y p2::es) [] ao) am nB.line<|>_r):
  sQ X A i j J gr hr (.Expr (b0 (aK x p) (aK y p2::es) [] ao) nB::a8) o:=λG0 H0 q G H D a b t ss x0 s n m gg gh u v hb f=>by
 refine de g.ex λfa fd hm hk akH F=>?_;apply wS.cons<|rW (mP F E l.g hm hk akH .nil iW (eO (gu hN) pA) l.d he akF) akG;refine aY (.ref a) v ?_;refine N q G H _ s.bj s.sub s.wf λz G1 H1 c C r1=>?_;show Dy X.K A R ((.ref a::z)++[]) H1 _ _;rw[eG];refine⟨G1,a,z,t,ds,gr,dk,U,c.s,C,r1,gg.grow c,Q,λG2 H2 h w2 g2=>?_⟩;exact T G0 H0 q G2 H2 D a b t ss (Ext.Ic (x0.trans c) (n _<|aP U) (λr hr=>n r<|aW hr) h) (br.plain (s.grow c C) I h.g h.s w2) n m g2 (((gh.grow c).cut u).grow h) u v hb f
def adK(h:wY X A j (J.set i<|Y<|.aC<|jn X.K A gr) hr fj o)(T:fT J):sQ X A i j J gr hr fj o:=λC E t G H D a b I N u s n m g l dj ha hb f=>by
 have x1:Ext C E (i7 G H a I) H:=⟨u.g.trans g.s1,uP s.sub,u.h,λc w hg=>by
  rw[i7,aD]
  .exact u.f c w hg
  grind⟩
 have Q:=(br.plain s T g.s1 (uP s.sub) s.wf).set (i:=i) (d:=jn X.K A gr) (v:=.ref a) g.is;have e:t.set i (Y<|.ref a)=t:=by apply iO;grind-order
 rw[e]at Q;have q:∀c,c=b\/c∈N->i7 G H a I c=G c:=λc w=>by rw[i7,aD λz=>dj c z w]
 exact h C E t _ H D b N x1 Q (m _<|aP U) (λr hr=>m r<|aW hr) ⟨l.top,by rw[q _<|aP U];exact l.ga,l.na,l.nd,l.len,λr hr=>by rw[q _<|aW hr];exact l.sP r hr,λj r akF h1 h2=>aL (l.row j r akF h1 h2) λvs h3 h4=>aY vs h3<|h4.mono g.s1⟩ hb f
def adM j(m:j≠i)(hi:Iv X (bj J) tg iter ds)(ok:oo X.N X.env.scope bP own)(q:hr.length=ds.length)(t:∀(i:Nat)d row,ds[i]?=Y d->hr[i]?=Y row->∃Γ',Gc X bP (own.map (·.2)) (bj J) tg d Γ'/\Ig X bP Γ' g7 (row.map<|dC X.K A))
  (u:sQ X A i j (J.set j<|Y<|.aC iK) gr hr a8 o)(v:j<J.length<|>ai)(l:X.calm=L<|>_r)(C:X.N.Nodup<|>ak)(E:X.N[j]?=x<|>_r)(I:X.env.scope.names.lookup x=Y .local<|>_r)
  (Q:oW (kI g7 [⟨tg,iter,[],0⟩] bP nB) (Y<|aK x p) ao.line X.env=pure L<|>alJ)(T:Fi X iter<|>ag):wY X A i J gr (iC [aK x p] (kI g7 [⟨tg,iter,[],0⟩] bP nB) ao::a8) o:=λG0 H0 σ G H D a rs y s n1 n2 g ha f=>by
 apply wS.cons<|Go (i:=j) l C E I Q pI ok (λ_ _ _ _ _=>ze) (λ_ _ _ _ _=>Gm) (λ_ _ _ _ _=>zf) T;refine QL hi q t σ G H _ s.bj s.sub s.wf λb ss G' H' z w n nr g'=>u G0 H0 _ G' H' D a b rs ss (y.trans z) ((s.grow z w).set (d:=iK) trivial) ?_ ?_ (g.grow z) g' (λc l h=>?_) (by rwa[xA m]) (so<|s.len▸v) f
 .simp_all
 .rintro c (rfl|h)
  .exact y.h.free n
  .exact y.h.free<|nr c h
 .obtain rfl|h:=h
  .exact g.ne l n
  .exact g.ne l<|nr c h
end
@[reducible]def DL:=O<|O Key×V
abbrev ck(c:Int×Int):O Key:=[.inl c.1,.inl c.2]
abbrev dz(c:Int×Int):Rp:=⟨λG v=>∃a,v=.ref a/\G a=Y (.tup<|(ck c).map kV),λe⟨a,b,d⟩=>⟨a,b,e _ _ d⟩⟩
abbrev lB(kv:DL):Rp:=⟨λG v=>∃a,v=.ref a/\G a=Y (.dT kv),λe⟨a,b,c⟩=>⟨a,b,e _ _ c⟩⟩
section
variable{X:Cx}{J:En}{a b o i:aT}{c:Int×Int}{kv:DL}{ao:bn}
def Ev.ip(h:Ev X J e (dz c)):Ev X J e (ip X.K c):=λC G H Q E S W k=>h C G H Q E S W λv I H' x w z_=>aL z_ λa h1 h2=>k v I H' x w ⟨a,_,h1,cx.of h2,U,U,trivial⟩
def sR{f:Nat}(g:Ev X J a (int c.1))(h:Ev X J b (int c.2))(j:Se X a [b]<|>_r)(l:Se X b []<|>_r):Ev X J (jW [a,b] f ao) (dz c):=λm G H Q E S W k=>
 wE.by (yN pA) λw=>cB g (aS h l) j m G H _ E S W λz A C d I e=>⟨e.length▸jT U,λp n q=>by refine be (all2 e) λu v t x y=>?_;subst t;subst x;subst y;exact k _ _ _ (d.trans<|.new d.s n) q ⟨p,U,bQ⟩⟩
abbrev adN:R2:=λx y H Q=>∃a o,y=.ref a/\mR H a x o/\Q (.bl o.isSome) H
abbrev adO:R2:=λx y H Q=>∃a o,y=.ref a/\mR H a x o/\Q (.bl (!o.isSome)) H
def adP(d:X.A.units+1<fP):du X (fi .In) adN:=by rintro aF s σ H x y v u Q I f h ⟨a,o,e,g,q⟩;subst e;exact h▸Zr d I g f λk j=>cn (.bl _) H j U q
def adQ(d:X.A.units+1<fP):du X (fi .NotIn) adO:=by rintro aF s σ H x y v u Q I f h ⟨a,o,e,g,q⟩;subst e;exact h▸Zt d I g f λk j=>cn (.bl _) H j U q
def QP(d:X.A.units+1<fP)(hi:Ev X J i (dz c))(e:Ev X J o (lB kv)):Cv X J .In i o (gt kv<|ck c).isSome:=
 jF (adP d) hi e λx y G H Q⟨b,f,g⟩⟨a,h,j⟩S q=>cn a _ h (f▸mR.t (S _ _ j) (S _ _ g)) q
def adR(d:X.A.units+1<fP)(hi:Ev X J i (dz c))(e:Ev X J o (lB kv)):Cv X J .NotIn i o (!(gt kv<|ck c).isSome):=
 jF (adQ d) hi e λx y G H Q⟨b,f,g⟩⟨a,h,j⟩S q=>cn a _ h (f▸mR.t (S _ _ j) (S _ _ g)) q
def QQ(j:X.A.units+1<fP)(l:Ev X J o (lB kv))(hi:Ev X J i (dz c))(h:gt kv (ck c)=Y (.int n))(m:CA i):Ev X J (cR o i ao) (int n):=λf G H Q E S W k=>
 wE.by (Zz j pE pE m) λw=>l f G H _ E S W λx p q e u v=>hi f p q _ (E.mono e.g) e.s u λy z C d w2⟨b,I,N⟩=>
  let⟨a,T,h4⟩:=(lB kv).mono d.g v
  ⟨a,.int n,T,h▸I▸mR.t (d.s _ _ h4) (d.s _ _ N),λw'=>k _ z C (e.trans d) w' U⟩
def adS:Ev X J (E5 [] [] ao) (lB []):=λf G H Q E S W k=>
 wE.by ZC λw p d e=>k _ _ _ (.new S d) e ⟨p,U,bQ⟩
end
structure oM d(H0 G H:Hp)(kv:DL):Prop where
 h0:H0 d=am
 g:G d=am
 h:H d=Y (.dT kv)
abbrev i8(X:Cx)(d:az)(b:bV)(kv:DL)(c:O bY)(P:Ends->Hp->Hp->Prop):Prop:=∀a H0 σ G H D,Ext a H0 G H->br H0 σ G H b->oM d H0 G H kv->P D a H0->wS X c D σ H
abbrev PN(d:az)(a:bV)(kv:DL):Ends->Hp->Hp->Prop:=λD b H0=>∀σ G H,Ext b H0 G H->br H0 σ G H a->oM d H0 G H kv->D.nx σ H
abbrev DA(a:bV)(i:Nat)(kv:DL):En:=(_b.rel a).set i<|lB kv
section
variable{X:Cx}{d:az}{i:Nat}{J Γ' oN:bV}{kv kv':DL}{fj a8 bD:O bY}{P:Ends->Hp->Hp->Prop}{c e ek:aT}{ao p p1:bn}{x:aq}
def oM.grow(a:oM d H0 G H kv)(e:Ext G H C I):oM d H0 C I kv:=⟨a.h0,e.f d (by rw[a.h];simp) a.g,e.h _ _ a.h⟩
def DB:i8 X d J kv [] (PN d J kv):=λh j b G H D x s a f g st I=>il g st b H D I<|f b G H x s a
def DC{Δ:bV}(h:i8 X d J kv fj (PN d Δ kv'))(f:Fg Δ Γ'<|>alQ):i8 X d J kv fj (PN d Γ' kv'):=λb g j G H D x s a k=>h b g j G H D x s a λl m n e o=>k l m n e<|o.forget f
def DD(h:∀o,Sv X oN a8 o->Sv X J fj o)(hr:i8 X d oN kv a8 P):i8 X d J kv fj P:=λn j l G H D x s a f=>by
 refine h (.CL (λD n j=>∀l G H,Ext n j G H->br j l G H oN->wS X a8 D l H) λy k l G H z=>k l G H<|y.back z) (λn j l G H D x s k=>k l G H x s) n (upd j d<|.dT kv) l G H D
  ⟨x.g,x.s,λb o e=>?_,λb m u=>?_⟩ ⟨s.len,s.sub,s.wf,s.aC,λi v w=>?_,s.iZ⟩ λE I N q t=>?_
 .by_cases m:b=d
  .subst m;rw[bQ]at e;exact a.h▸e
  .rw[aQ m]at e;exact x.h _ _ e
 .by_cases C:b=d
  .exact C▸a.g
  .rw[aQ C]at m;exact x.f b m u
 .refine jX (s.own i v w) λb Q T q2 q3 A q5=>?_;exact jf b Q T (by rwa[aQ<|λz=>by rw[z,a.h]at A;simp at A]) q3 A q5
 .have k:∀{b:az},upd j d (.dT kv) b=am->j b=am:=λ{b}m=>by
   by_cases z:b=d
   .exact z▸a.h0
   .rwa[aQ z]at m
  have g0:n d=am:=by
   cases e:n d with
   |none=>rfl
   |some o=>have:=x.g _ _ e;rw[a.g]at this;simp at this
  exact hr n j E I N D ⟨q.g,q.s,λb o e=>q.h _ _ (by rwa[aQ<|λz=>by rw[z,a.h0]at e;simp at e]),λb m u=>q.f b bh u⟩
   ⟨t.len,t.sub,t.wf,t.aC,λi v w=>let _:=t.own i v w;(by grind only),t.iZ⟩ ⟨a.h0,q.f d (bQ▸λz=>nomatch z) g0,q.h _ _ bQ⟩ f
def QS(hi:J[i]?=Y (Y<|.aC<|.ref d))(s:br H0 σ G H J)(a:oM d H0 G H kv):eU σ H (DA J i kv):=by
 refine⟨by rw[DA,fX];exact s.rel.len,λj q b=>?_⟩;obtain⟨rfl,e⟩|⟨k,e⟩:=get_set b
 .obtain rfl:=bL e;refine aL (s.aC j _ hi) λv f g=>?_;exact⟨v,f,d,g,a.h⟩
 .exact s.rel.at_ j q e
def adT i(hi:J[i]?=Y (Y<|.aC<|.ref d))(l:Tv X (DA J i kv) c q)(m:q=L->i8 X d J kv bD (PN d Γ' kv'))(n:q=aA->Γ'=J/\kv'=kv)(hr:i8 X d Γ' kv' a8 P):i8 X d J kv (kK c bD [] ao::a8) P:=λb g h G H D x s a f=>
 wS.cons (kN pT eP il) (l h H H _ (QS hi s a) (aX.refl _) s.wf λj o k=>by
  have y:=Ext.hp s.sub o;cases q with
  |true=>exact m U b g h G j _ (x.trans y) (s.grow y k) (a.grow y) λt u v w z A=>hr b g t u v D w z A f
  |false=>
   obtain⟨rfl,rfl⟩:=n U;exact hr b g h G j D (x.trans y) (s.grow y k) (a.grow y) f)
def adU i(hu:X.A.units+1<fP)(hi:J[i]?=Y (Y<|.aC<|.ref d))(hv:Ev X (DA J i kv) e (int n))(hk:Ev X (bj J) ek (dz q))(hl:kv.length<bK)(hr:i8 X d J (putK kv (ck q)<|.int n) a8 P)
  (hN:Nv X i x<|>aa)
  (hs:Sw X e (Y<|cR (aK x p) ek p1) ao.line<|>_r):i8 X d J kv (iC [cR (aK x p) ek p1] e ao::a8) P:=λG0 H0 E G H D y s a f=>by
 refine wS.cons (ZA hu (gu hN) pE pE hs)<|hv E H H _ (QS hi s a) (aX.refl _) s.wf λv G1 H1 e1 T r1=>?_;subst r1;have I:=Ext.hp s.sub e1.h;have m:=s.grow I T;refine aL (m.aC i _ hi) λu h1 akF=>?_;subst akF;refine aY (.ref d) h1<|hk E G H1 _ m.bj m.sub T λv G2 H2 w w2⟨b,N,Q⟩=>?_;have k:=(a.grow I).grow w;have C:=m.grow w w2;have l:=(y.trans I).trans w;refine cn d _ U (N▸yZ.t k.h (w.s _ _ Q) hl)<|hr G0 H0 E G2 _ D ⟨l.g,?_,?_,l.f⟩ ⟨C.len,?_,?_,C.aC,λj ds hj=>?_,C.iZ⟩ ⟨a.h0,k.g,bQ⟩ f
 .exactλb o e=>by rw[aQ<|λz=>by rw[z,k.g]at e;cases e];exact l.s _ _ e
 .exactλb o e=>by rw[aQ<|λz=>by rw[z,a.h0]at e;simp at e];exact l.h _ _ e
 .exactλb o e=>by rw[aQ<|λz=>by rw[z,k.g]at e;cases e];exact l.s _ _ e
 .exact w2.new λxs z=>nomatch z
 .refine jX (C.own j ds hj) λb vs N Q q3 q4 q5=>?_;exact jf b vs N Q q3 (by rwa[aQ<|λz=>by rw[z,k.h]at q4;simp at q4]) q5
abbrev Gd(X:Cx)(d:az)(J:bV)(kv:DL)(b:aT)(t:Rp)(bD:O bY)(Γ':bV)(kv':DL):Prop:=∀a H0 σ G H D v,Ext a H0 G H->br H0 σ G H J->oM d H0 G H kv->t.r G v->PN d Γ' kv' D a H0->wG X b v σ H λf g=>wS X bD D f g
def QT k(h:i8 X d (J.set k<|Y<|.aC t) kv bD (PN d Γ' kv'))(hi:Lc X k x<|>ah)
 :Gd X d J kv (aK x p) t bD Γ' kv':=λb g j G H D v e s a r f=>
 wG.by (mO hi.d hi.n hi.l hi.f)<|h b g _ G H D e (s.set r) a f
def QU(q:Nat->bV)(kvs:Nat->DL)(hi:Iv X (bj J) T iter ds)(h0:q 0=J)(k0:kvs 0=kv)(hb:∀k t,ds[k]?=Y t->Gd X d (q k) (kvs k) T t bD (q<|k+1) (kvs<|k+1))(hr:i8 X d (q ds.length) (kvs ds.length) a8 P)
  (hc:X.calm=L<|>_r)(hp:p0 (bg X.prog X.w) X.A X.env X.xe<|>aj)(hs:Fi X iter<|>ag):i8 X d J kv (yf T iter bD [] ao::a8) P:=λC h σ G H D x s a f=>by
 refine wS.cons (Cm hp hc pI pG eP hs)<|hi σ G H _ s.bj s.sub s.wf λakK E H1 I w1 hl N=>⟨λk m u j=>k<=ds.length/\m=ds.length-k/\∃n,Ext C h n j/\aX E n/\br h u n j (q k)/\oM d h n j (kvs k),⟨_,dI _,U,E,x.trans I,aX.refl _,h0▸s.grow I w1,k0▸a.grow I⟩,?_⟩;rintro k m u j ⟨akI,rfl,n,x',y,o,a'⟩;by_cases akG:k<ds.length
 .have Q:=dq akG;refine .inr ⟨(N.mono y).go k _ j Q o.sub,λakF l=>∃b,Ext C h b l/\aX E b/\br h akF b l _/\oM d h b l _,λakF l z_=>b7 z_ λb y1 y2 y3=>⟨ds.length-_,aU,ap,U,b,y1,y2,y3⟩,λv l hy=>?_⟩;refine b7 ((N.mono y).yl k _ j v l Q o.sub hy) λb z w2 r2=>?_;have x2:=x'.trans z;exact hb k _ Q b h u b l _ v x2.base (o.grow z<|w2 o.wf) (a'.grow z) r2 λakJ G3 H3 e3 s3 a3=>tU G3 (x2.back e3) ((y.trans z.g).trans e3.g) s3 a3
 .have akH:k=ds.length:=ap;subst akH;exact .inl ⟨N.st _ j ‹_› (y.trans o.sub),hr C h u n j D x' o a' f⟩
def adV{α:Type}(S:α->bV)(kvs:α->DL)a0(t:α->Bool)(mY:α->α)(ok:α->Prop)(mu:α->Nat)(Q:S a0=J)(T:kvs a0=kv)(hk:ok a0)(hc:∀a,ok a->Tv X (_b.rel<|S a) c (t a))(hb:∀a,ok a->t a=L->i8 X d (S a) (kvs a) bD (PN d (S<|mY a)<|kvs<|mY a))
  (hn:∀a,ok a->t a=L->ok (mY a)/\mu (mY a)<mu a)(hr:∀a,ok a->t a=aA->i8 X d (S a) (kvs a) a8 P)
  (hp:p0 (bg X.prog X.w) X.A X.env X.xe<|>aj):i8 X d J kv (.While c bD [] ao::a8) P:=λk b σ G H D x s q f=>by
 refine wS.cons (FV hp pT eP) ⟨λm j g=>∃a,ok a/\m=mu a/\∃h,Ext k b h g/\br b j h g (S a)/\oM d b h g (kvs a),⟨_,a0,hk,U,G,x,Q▸s,T▸q⟩,?_⟩;rintro m j g ⟨a,o,rfl,h,x',l,q'⟩;refine hc a o j g g _ l.rel (aX.refl _) l.wf λv e1 w1=>?_;have y:=Ext.hp l.sub e1;have C:=x'.trans y;have E:=l.grow y w1;have I:=q'.grow y;cases z:t a with
 |true=>
  exact⟨λN n=>∃u,Ext k b u n/\br b N u n (S<|mY a)/\oM d b u n (kvs<|mY a),λN n _=>(by grind-order),hb a o z k b j h v _ C E I λakF G3 H3 e3 s3 q3=>fQ G3 e3 s3 q3⟩
 |false=>
  exact hr a o z k b j h v D C E I f
def adW i(hi:J[i]?=Y (Y<|.aC<|.ref d))(l:Nv X i x<|>aa)
 :i8 X d J kv (nU (Y<|aK x p) ao::a8) (λD j H0=>Fits D j H0<|.rt<|lB kv):=λj H0 t G H D y s a f=>by
 refine aL (s.aC i _ hi) λu m n=>?_;subst n;refine wS.last (jC<|gu l) ⟨.ref d,m,f _ _ H ⟨y.g.trans<|gM a.g,λb o e=>?_,y.h,λb k q=>?_⟩ s.wf ⟨d,U,bQ⟩⟩
 .by_cases z:b=d
  .subst z;rw[bQ]at e;exact a.h▸e
  .rw[aQ z]at e;exact s.sub _ _ e
 .rw[aQ<|λz=>k<|by exact z▸a.h0];exact y.f b k q
def adX(hu:X.A.units+1<fP)(E:PE X ek G)(N:PE X e tv):PE X (E5 [ek] [e] ao) (λσ H Q=>∀p,H p=am->G σ (upd H p<|.dT []) λy f=>tv σ f λv a=>a p=Y (.dT [])/\∃b q,y=.ref b/\a b=Y (.tup<|(ck q).map kV)/\Q (.ref p) (upd a p<|.dT [(ck q,v)])):=by
 intro aF s σ H Q I h;have g:=I.laid (t':=s.toks) (λ_ _=>dO _) (cg _)<|MU s.heap I.big;refine wpAny_Dict_any U U au au<|pairTrees_cons_walk<|bo (E aF _ σ _ _ g<|h _<|I.bS.fresh<|cg s⁻¹) λu T j=>be j λy f g ry q1=>bo (N aF T σ f _ g q1) λw s2 j=>de j λv a k rv l m=>be m λb q ey n q2=>pairTrees_nil_walk ?_;subst ey;cases(ry);refine eR (MS k.bS l) λz hd m=>aL m λxs rel dd=>?_;have hz:xs.length<=bK:=by rwa[<-Js rel]
 refine a9 (a9<|wpAny_dictSet_heap (show X.A.units<fP by lia) (wd k.bS n) dd λh' akF hs=>cF<|cF ⟨.ref s⁻¹,_,?_,U,q2⟩);refine yi akF λo es ep t h2 h3 h4 _ h5=>?_;exact Gq k (l▸xF) hs ⟨o,t⟩ ⟨jT U,hd,_,((rel.put (ck q) n rv).keeps λc ys C=>(aQ<|Ls C l<|λz=>nomatch z)▸C),o,es,ep,t,h2,h3,h4,h5⟩
def adY i{akF:bn}(hu:X.A.units+1<fP)(hk:Ev X (bj J) ek (dz q))(hv:Ev X (bj J) e (int n))(hr:∀d,i8 X d (J.set i<|Y<|.aC<|.ref d) [(ck q,.int n)] a8<|λD E H0=>Fits D E H0 o)(hi:Lc X i x<|>ah)
  (akH:Sw X (E5 [ek] [e] akF) (Y<|aK x p) ao.line<|>_r):Sv X J (iC [aK x p] (E5 [ek] [e] akF) ao::a8) o:=λE H0 σ G H D y s f=>by
 refine wS.cons (lU hi.d hi.n hi.l (adX hu pE pE) akH hi.f) λd m=>?_;have y1:Ext G H G (upd H d<|.dT []):=Ext.hp s.sub<|gM m;have t:=s.grow y1<|s.wf.new λxs z=>nomatch z;refine hk σ G _ _ t.bj t.sub t.wf λu G2 H2 w w2⟨b,I,N⟩=>?_;have Q:=t.grow w w2;refine hv σ G2 H2 _ Q.bj Q.sub w2 λv G3 H3 a w3 r3=>?_;subst r3;have C:=Q.grow a w3;have akG:=a.h _ _<|w.h _ _ bQ;have T:=(w.trans a).f d (bQ▸λz=>nomatch z)<|s.sub.free m;refine⟨akG,b,q,I,a.s _ _<|a.g _ _ N,?_⟩;have k:=y.trans<|(y1.trans w).trans a;refine hr d E H0 _ G3 _ D ⟨k.g,?_,?_,k.f⟩ (br.set ⟨C.len,?_,?_,C.aC,λj ds hj=>?_,C.iZ⟩ U) ⟨y.h.free m,T,bQ⟩ f
 .exactλb o e=>by rw[aQ<|λz=>by rw[z,T]at e;cases e];exact k.s _ _ e
 .exactλb o e=>by rw[aQ<|λz=>by rw[z,y.h.free m]at e;simp at e];exact k.h _ _ e
 .exactλb o e=>by rw[aQ<|λz=>by rw[z,T]at e;cases e];exact k.s _ _ e
 .exact w3.new λxs z=>nomatch z
 .let⟨b,vs,I,N,q3,q4,q5⟩:=C.own j ds hj;exact jf b vs I N q3 (by rwa[aQ<|λz=>by rw[z,akG]at q4;simp at q4]) q5
end
open _h (bE Sd g_ ik)
section
variable{P:bO}{w:bN}{K:aJ}{mg:aq->aR aB}{base:bf}{A:Ad}[Z:Zc P w K mg A]
def adZ(b p)n(l h):g_ b p n l h=ints2 (max 0<|(l-b)/p+1) (min n (-((b-h)/p))):=U
def QV{a p:Int}(b:0<p)(c:-(2^60)<=a)(d:a<=2^60):-(2^61)<=a/p/\a/p<=2^61:=by
 have z:=Int.ediv_mul_le a<|Int.ne_of_gt b;have y:=Int.lt_ediv_add_one_mul_self a b;constructor
 .obtain q|q:=aiX (a/p) (-(2^61))
  .exfalso;have:(a/p+1)*p<=(a/p+1)*1:=Int.mul_le_mul_of_nonpos_left ap ap
   lia
  .exact q
 .obtain q|q:=aiX (2^61)<|a/p
  .exfalso;have:(a/p)*1<=(a/p)*p:=lI ap ap
   lia
  .exact q
def QW{b p l h:Int}{n:Nat}(d:1<=p/\p<=1000000000)(e:n<=24)(a:-(2^60)<=l-b/\l-b<=2^60)(c:-(2^60)<=b-h/\b-h<=2^60):Gy base 1 80 "indexes_between" [int b,int p,int n,int l,int h] (nums<|g_ b p n l h):=by refine gy ["begin","pitch","count","low","high","first","behind"] λq f g i=>?_;have j:=QV (p:=p) aU a.1 a.2;have k:=QV (p:=p) aU c.1 c.2;refine bz 5 (cY (uo (cZ aV aw) aE ⟨aU,aU⟩) aG)<|bz 6 (sf<|uo (cZ aw bZ) aE ⟨aU,aU⟩)<|bI<|bu.ev<|bu.eq (abA M.list M.range (Nt M.max aG dU) (Nr M.min aM<|cJ 6 U) aU aU aU aU aU) ?_;rw[adZ]
end
open _h (bE Sd g_ ik cellAt)
section
variable{P:bO}{w:bN}{K:aJ}{mg:aq->aR aB}{base:bf}{A:Ad}[Z:Zc P w K mg A]
structure fN(g:bE):Prop where
 rows:g.length<=24
 cols:(g.headD []).length<=24
 len:∀r∈g,r.length=(g.headD []).length
abbrev nD(v:Int):Prop:=-1000000000000<=v/\v<=1000000000000
abbrev DE(b:Bx):Prop:=nD b.1/\nD b.2.1/\nD b.2.2.1/\nD b.2.2.2
def fN.cell(h:fN g)(C:j<g.length)(hi:i<(g.headD []).length):∃I,g[j]?=Y I/\I[i]?=Y (cellAt g i j):=by have e:=dq C;have hl:=h.len _<|A8 C;simp_all[cellAt]
abbrev uQ(g:bE)(r:Ra)(bx:Bx)(a j:Int):O (Int×Int):=((g_ r.x r.pitch (g.headD []).length (bx.1-(a+r.pitch))<|bx.2.2.1+a).filter λi=>(cellAt g i.toNat j.toNat).isSome).map λi=>(i,j)
def ad0{g:bE}{r:Ra}{bx:Bx}{a:Int}(b:0<r.pitch):(ik g r.x r.y r.pitch bx a).map (λc=>((c.1:Int),(c.2:Int)))=(g_ r.y r.pitch g.length (bx.2.1-(a+r.pitch))<|bx.2.2.2+a).flatMap (uQ g r bx a):=by
 delta ik
 rw[List.map_flatMap,List.flatMap_map];have:∀l:O Int,(∀j∈l,0<=j)->∀F G:Int->O (Int×Int),(∀j,0<=j->F j=G j)->l.flatMap F=l.flatMap G:=by
  intro l
  induction l with
  |nil=>intros;rfl
  |cons j l h=>grind
 refine this _ (λj d=>((_h.t9 b).mp d).1.1) _ _ λj d=>?_
 delta uQ
 have e:∀i∈g_ r.x r.pitch (g.headD []).length (bx.1-(a+r.pitch)) (bx.2.2.1+a),0<=i:=λi f=>((_h.t9 b).mp f).1.1;generalize g_ r.x r.pitch (g.headD []).length (bx.1-(a+r.pitch)) (bx.2.2.1+a)=l at e;rw[c9]
 induction l<;>grind[eQ,Jl,aiY]
def QY(b p:Int)(n:Nat)(l h:Int):(g_ b p n l h).length<=n:=by
 delta g_
 simp[aI,mG];omega
def ad1{α a:Type}{f:α->O a}(h:∀x,(f x).length<=m):∀l:O α,(l.flatMap f).length<=l.length*m:=by
 intro b
 induction b with
 |nil=>simp
 |cons x l c=>
  have:=c;have:=h x;rw[ER,cC,c_,aha]
  lia
def QZ{g:bE}(h:fN g)r bx(gap j):(uQ g r bx gap j).length<=24:=by
 rw[uQ,aI];have:=UX (λi:Int=>(cellAt g i.toNat j.toNat).isSome)<|g_ r.x r.pitch (g.headD []).length (bx.1-(gap+r.pitch))<|bx.2.2.1+gap;have:=QY r.x r.pitch (g.headD []).length (bx.1-(gap+r.pitch))<|bx.2.2.1+gap;have:=h.cols
 lia
def ad2{α:Type}q F(G:α->Rp):∀l:O Int,(l.map λi=>if q i=L then Y (G<|F i)else am).filterMap id=((l.filter q).map F).map G:=by
 intro b
 induction b with
 |nil=>exact U
 |cons i l a=>
  rw[eQ,Jl];by_cases h:q i=L
  .rw[aH h,aH h];show G _::.filterMap id _=_;rw[a];rfl
  .rw[aD h,aD h];exact a
def DF(h:(dC K A o).r G x):(!decide (x=.bH))=o.isSome:=by
 cases o with
 |none=>have h:x=.bH:=h;grind
 |some e=>refine nV h λa c d b _=>?_;subst b;rfl
inductive Q0 K A:List Rp->List Rp->Prop
 |mk {r:Ra} {bx:Bx} {a:Int} (h:fN g) (b:DE bx) (d:nD a):Q0 K A [jn K A g,dB A r,box K bx,int a] ((ik g r.x r.y r.pitch bx a).map λc=>ip K (c.1,c.2))
def Q1:zp base 2 81 "left_near" Q0:=by
 refine C3 ["grid","raster","box","gap","reach","width","columns","cells","j","i"] λq hr ds d T hI nd=>?_;cases T with|@mk g r a gap h hb hg=>?_
 have t:mX r:=(hI _<|.tail _<|.head _).wit.1;obtain⟨b1,b2,b3,b4⟩:=hb;have v:=t.in1;unfold dh at v;simp only at v;unfold nD at b1 b2 b3 b4 hg;have E:=t.p1;have H:=t.p2;refine bz 4 (cY aV<|zl M aE)<|bz 5 (d:=int ((g.headD []).length:Nat)) (h_ (bi<|iq (cO M.len aw) aG) (λb=>?_)<|λb=>?_) ?_
 .have b:0<g.length:=by have:=cM b;rw[aI]at this;exact_mod_cast this
  cases g with
  |nil=>exact absurd b au
  |cons m g=>exact Ev.eq (cO M.len (ds:=m.map<|dC K A)<|bW (ds:=(m::g).map λr=>lst<|r.map<|dC K A) aw aG<|b8 (n:=0) U U)<|by rw[aI];rfl
 .have b:¬(0:Int)<_:=cX b;cases g with
  |nil=>exact aG
  |cons m g=>exact absurd (by rw[aI,c_];omega) b
 refine bz 6 (aO (QW ⟨E,H⟩ h.cols ⟨aU,aU⟩ ⟨aU,aU⟩)<|si (Ol M aE) (zl M aE) dU (cZ (gN aM aG U) bZ)<|cY (gN aM aG U) aV) ?_;refine jl 7 (iY eW) ?_;let o:=g_ r.x r.pitch (g.headD []).length (a.1-(gap+r.pitch))<|a.2.2.1+gap;let f:=g_ r.y r.pitch g.length (a.2.1-(gap+r.pitch))<|a.2.2.2+gap;have akJ:f.length<=24:=cS (QY ..) h.rows;let F:Nat->O (Int×Int):=λn=>(f.take n).flatMap<|uQ g r a gap;have hF:∀n,(F n).length<=24*24:=λn=>by refine cS (ad1 (λj=>QZ h r a gap j) _)<|Eb _ ?_;rw[jr];omega
 refine lz (ds:=f.map int) (λn=>[Y<|.aC<|jn K A g,Y<|.aC<|dB A r,Y<|.aC<|box K a,Y<|.aC<|int gap,Y<|.aC<|int<|gap+r.pitch,Y<|.aC<|int ((g.headD []).length:Nat),Y<|.aC<|nums o,Y<|.own<|(F n).map<|ip K,am,am])
  (cK<|aO (QW ⟨E,H⟩ h.rows ⟨aU,aU⟩ ⟨aU,aU⟩)<|si (Om M aE) (zl M aE) (Ev.eq (cO M.len aw)<|by rw[aI]) (cZ (gN aM aG U) bZ)<|cY (gN aM aG U) aV) U (λn d u=>?_) ?_
 .obtain⟨j,I,rfl⟩:=cH u;have akF:j∈f:=eD I;obtain⟨⟨j0,j1⟩,_⟩:=(_h.t9 aU).mp akF;have akG:F (n+1)=F n++uQ g r a gap j:=by
   show A9 _ (je _ _)=_;rw[take_snoc I,J8];show _=A9 _ _++_;rw[ER,List.flatMap_nil,eG]
  refine gX 8<|zd 7 (ds:=(F n).map<|ip K) (es:=(uQ g r a gap j).map<|ip K) U (bu.ev<|bu.eq (No (gs:=o.map λi=>if(cellAt g i.toNat j.toNat).isSome=L then Y (ip K (i,j))else am) U nd (cK<|cJ 6 U) (own:=[("i",9)]) (dD U) (by rw[aI,aI]) λk d q u l=>?_) (ad2 (λi=>(cellAt g i.toNat j.toNat).isSome) (λi=>(i,j)) (ip K) o)) ?_ (fe cG ?_)
  .obtain⟨i,N,rfl⟩:=cH u;obtain⟨i',Q,rfl⟩:=cH l;rw[N]at Q;cases Q;obtain⟨⟨i0,i1⟩,_⟩:=(_h.t9 aU).mp (eD N:i∈o);obtain⟨m,akH,akI⟩:=h.cell (i:=i.toNat) (j:=j.toNat) aU aU;refine⟨_,eu 9,λs H1 C cl fp=>Tv.eq (p:=(cellAt g i.toNat j.toNat).isSome) (bi<|ur (bW (bW (ds:=g.map λr=>lst<|r.map<|dC K A) aw (cJ 8 U)<|b8 (n:=j.toNat) aU<|by rw[cT,akH];rfl) (cJ 9 U)<|b8 (n:=i.toNat) aU<|by rw[cT,akI];rfl) ?_) ?_,λq l s H1 C cl fp=>?_⟩
   .exactλG x hx=>DF hx
   .split
    .next z=>rw[z];rfl
    .next z=>rw[xp]at z;rw[z];rfl
   .split at l
    .cases l;exact(kP<|bF (cJ 9 U)<|cJ 8 U)
    .cases l
  .rw[aI,aI];have:=hF n;have:=QZ h r a gap j;exact jH aU
  .exact⟨aP U,aP U,aP U,aP U,aP U,aP U,aP U,aP (by show Y (Sl.own _)=Y (Sl.own _);rw[akG,cN]),aW U,aW U,trivial⟩
 .have e:(F (f.map int).length).map (ip K)=(ik g r.x r.y r.pitch a gap).map λc=>ip K (c.1,c.2):=by
   rw[aI];show jV _ (A9 _<|je _ _)=_;rw[ij,<-ad0 aU,c9];rfl
  exact Nm 7<|by show Y (Y<|Sl.own<|(F _).map<|ip K)=_;rw[e]
end
open _h (bE Sd g_ ik cellAt lS iT ej)
section
variable{P:bO}{w:bN}{K:aJ}{mg:aq->aR aB}{base:bf}{A:Ad}[Z:Zc P w K mg A]
def sS:fT []:=λk a h=>by cases h
def dQ(h:fT a):fT (Y (.aC d)::a):=λk b e=>by
 cases k with
 |zero=>simp_all
 |succ k=>exact h k b e
def wZ(h:fT a):fT (am::a):=λk b e=>by
 cases k with
 |zero=>grind
 |succ k=>exact h k b e
def DG{b Δ c:bV}(h:Sg X A i b g d Δ g')(f:Fg Δ c<|>alK):Sg X A i b g d c g':=λj l m G H D a n x s o p q t k=>h j l m G H D a n x s o p q t λu v y e z C=>k u v y e (z.forget f) C
def pj(h:cellAt g i j=Y e):∃a,g[j]?=Y a/\a[i]?=Y (Y e):=by grind-order [cellAt]
def Q2 bad g(cs:O (Nat×Nat))(h:cs.Nodup)(a:∀c∈cs,∃e,cellAt g c.1 c.2=Y e){n:Nat}{c:Nat×Nat}(b:cs[n]?=c):∃e,cellAt (iT bad g<|cs.take n) c.1 c.2=Y e/\iT bad g (cs.take<|n+1)=if bad e=L then lS (iT bad g<|cs.take n) c.1 c.2 else iT bad g (cs.take n):=by
 have f:=_h.BU bad g [] (cs.take n) (by rw[TM];exact h.sublist<|ahJ ..) λd i=>a d<|Jp i;simp only[ahe,TK,_h.yC,TM]at f;obtain⟨e,j⟩:=a c<|eD b;have k:c∉cs.take n:=λz=>by grind[A0,jr,List.getElem_take,TU]
 have l:cellAt (iT bad g<|cs.take n) c.1 c.2=e:=by
  rw[f,_h.vV,j,Option.filter_some];have:(cs.take n).contains (c.1,c.2)=aA:=by rw[gj];exactλz=>k<|rc.mp z
  rw[this,TK];rfl
 refine aY e l ?_;rw[take_snoc b];grind[iT,rD,cellAt,qc,lS]
def ad3(h:-1000000000<=v/\v<=1000000000):nD v:=⟨ap,ap⟩
def Q3{l:O (Nat×Nat)}:∀d∈l.map (λc=>ip K (c.1,c.2)),Dv d:=λd a=>by obtain⟨c,_,rfl⟩:=eY.mp a;exact adE
def ad4{f:Sd}(h:bA (side K A f)):DE (_d.cr f.1 f.2):=by
 have a:dh f.1:=(h.ins (f:="begin") (d:=pt K f.1) U).wit.1;have b:dh f.2:=(h.ins (f:="end") (d:=pt K f.2) U).wit.1
 delta dh at a b
 delta _d.cr DE nD
 simp only;omega
def ad5(h:uG g):nD g:=by
 let⟨a,b⟩:=h
 delta nD
 lia
inductive Q4 K A:List Rp->bE->bE->Prop
 |mk {r:Ra} {e:Sd} {a:Int} (h:fN g) (b:uG a):Q4 K A [dB A r,side K A e,int a] g (_h.n8 g r.x r.y r.pitch e a)
def ad6:Dz base 4 82 "strike_near" Q4:=by
 refine Ie ["grid","raster","barrier","gap","cells","i","j"] λq k Q b T u l nd=>?_;cases u with|@mk b r f gap h o=>?_
 have v:mX r:=(l _<|.head _).wit.1;have z:=l _<|.tail _<|.head _;have g:=ad4 z;have hp:=v.p1;let a:=ik b r.x r.y r.pitch (_d.cr f.1 f.2) gap;let i:Sd->Bool:=λe=>!_d.iR e.1 e.2 f.1 f.2 gap;have C:=λn c j=>Q2 i b a (_h.BW ap) (λc j=>_h.BV j) (n:=n) (c:=c) j;refine⟨[Y<|.aC iK,Y<|.aC<|dB A r,Y<|.aC<|side K A f,Y<|.aC<|int gap,Y<|.aC<|lst<|a.map λc=>ip K (c.1,c.2),am,am],QH 4 au (by exact jT U) (wB Q1 (kg aw aE (sB M aM) aV)<|.mk h g<|ad5 o) Q3
  (Dx (λ_=>[Y<|.aC iK,Y<|.aC<|dB A r,Y<|.aC<|side K A f,Y<|.aC<|int gap,Y<|.aC<|lst<|a.map λc=>ip K (c.1,c.2),am,am]) (λn=>iT i b<|a.take n) (cK bZ) U U (λn d E=>?_) ?_)⟩
 .refine aL (cH E) λc j G=>?_;subst G;refine aL (C n c j) λe H p=>?_;refine aL (pj H) λI s t=>?_;refine QJ 5 6 au au (DG (QD (Γ':=[Y<|.aC iK,Y<|.aC<|dB A r,Y<|.aC<|side K A f,Y<|.aC<|int gap,Y<|.aC<|lst<|a.map λc=>ip K (c.1,c.2),Y<|.aC<|int c.1,Y<|.aC<|int c.2]) (dk:=iT i b<|a.take<|n+1) (q:=i e)
   (dE<|b_<|aO (GY o)<|bM (bW (d:=side K A e) (bW (ds:=(iT i b<|a.take n).map λr=>lst<|r.map<|dC K A) aw (cJ 6 U)<|b8 U<|by rw[cT,s];rfl) dU<|b8 U<|by rw[cT,t];rfl) aM aV) (λg=>?_) (λg=>⟨U,?_⟩) qN))
  .simp[p,aH g];exact QF (m:=c.1) (n:=c.2) (dQ<|dQ<|dQ<|dQ<|dQ<|dQ<|dQ sS) (λN _ r k=>bW (ds:=N.map Rp.ref) aw (cJ 6 U)<|b8 U<|by rw[cT,k];rfl) dU ⟨I,s,(dH.mp t).1⟩ qN
  .rw[p,aD<|by rw[g];simp]
 .rw[aI,ij];exact qN
def Q5:∀l,l≠[]->_d.nW l∈l
 |[],h=>absurd U h
 |[x],_=>.head _
 |x::y::l,_=>by have:=Q5 (y::l) au;grind[_d.nW]
def Q6:∀l,l≠[]->_d.nX l∈l
 |[],h=>absurd U h
 |[x],_=>.head _
 |x::y::l,_=>by have:=Q6 (y::l) au;grind[_d.nX]
def ad7(h:bA (bU K A l)):DE (_d.dS l):=
 have a:=eB h;have m:∀f,(∀p∈l,-1000000000<=f p/\f p<=1000000000)->nD (_d.nW<|l.map f)/\nD (_d.nX<|l.map f):=λf g=>by have e:l.map f≠[]:=λz=>a.1.1<|Ec.mp z;obtain _:=eY.mp<|Q5 _ e;grind[Q6,ad3]
 have c:=m _ λp b=>(a.2 p b).1;have d:=m _ λp b=>(a.2 p b).2
 ⟨c.1,d.1,c.2,d.2⟩
inductive Q8 K A:List Rp->bE->bE->Prop
 |mk {r:Ra} {l:List Pt} (h:fN g):Q8 K A [dB A r,bU K A l] g (_h.qk g r.x r.y r.pitch l)
def ad8:Dz base 4 83 "strike_within" Q8:=by
 refine Ie ["grid","raster","skeleton","cells","i","j"] λq j H b I t k N=>?_;cases t with|@mk b r l h=>?_
 have u:mX r:=(k _<|.head _).wit.1;have f:=ad7<|k _<|.tail _<|.head _;have Q:=u.p1;let a:=ik b r.x r.y r.pitch (_d.dS l) 1;let g:Sd->Bool:=λe=>_d.lj l e.1;refine⟨[Y<|.aC iK,Y<|.aC<|dB A r,Y<|.aC<|bU K A l,Y<|.aC<|lst<|a.map λc=>ip K (c.1,c.2),am,am],QH 3 au (jT U) (wB Q1 (kg aw aE (zk M aM) aG)<|.mk h f ⟨ap,ap⟩) Q3
  (Dx (λ_=>[Y<|.aC iK,Y<|.aC<|dB A r,Y<|.aC<|bU K A l,Y<|.aC<|lst<|a.map λc=>ip K (c.1,c.2),am,am]) (λn=>iT g b<|a.take n) (cK aV) U U (λn d v=>?_) ?_)⟩
 .refine aL (cH v) λc i z=>?_;subst z;refine aL ((λn c i=>Q2 g b a (_h.BW aU) (λc=>_h.BV) (n:=n) (c:=c) i) n c i) λe C o=>?_;refine aL (pj C) λE p s=>?_;refine QJ 4 5 au au (DG (QD (Γ':=[Y<|.aC iK,Y<|.aC<|dB A r,Y<|.aC<|bU K A l,Y<|.aC<|lst<|a.map λc=>ip K (c.1,c.2),Y<|.aC<|int c.1,Y<|.aC<|int c.2]) (dk:=iT g b<|a.take<|n+1) (q:=g e)
   (b_<|aO GZ<|bF aM<|gO M<|bW (d:=side K A e) (bW (ds:=(iT g b<|a.take n).map λr=>lst<|r.map<|dC K A) aw dU<|b8 U<|by rw[cT,p];rfl) bZ<|b8 U<|by rw[cT,s];rfl) (λf=>?_) (λf=>⟨U,?_⟩) qN))
  .simp[o,aH f];exact QF (m:=c.1) (n:=c.2) (dQ<|dQ<|dQ<|dQ<|dQ<|dQ sS) (λG _ r j=>bW (ds:=G.map .ref) aw dU<|b8 U<|cT▸j▸U) bZ ⟨E,p,(dH.mp s).1⟩ qN
  .rw[o,aD<|by rw[f];simp]
 .rw[aI,ij];exact qN
end
open _h (bE Sd g_ ik cellAt lS iT ej n8 qk jB)
section
variable{P:bO}{w:bN}{K:aJ}{mg:aq->aR aB}{base:bf}{A:Ad}[Z:Zc P w K mg A]
def ad9 g i j:(lS g i j).map jQ=g.map jQ:=by unfold lS;apply iO;grind-order
def Q9(e:h.map jQ=g.map jQ)(k:fN g):fN h:=by
 have a:∀g:bE,(g.headD []).length=(g.map jQ).headD 0:=λg=>by cases g<;>rfl
 have b:h.length=g.length:=by have:=bJ jQ e;grind
 refine⟨by rw[b];exact k.rows,by rw[a,e,<-a];exact k.cols,λr f=>?_⟩;have:r.length∈h.map jQ:=eY.mpr ap;rw[e]at this;obtain⟨q,c,d⟩:=eY.mp this;rw[<-d,k.len q c,a,a,e]
def Ih bad:∀cs g,(iT bad g cs).map jQ=g.map jQ
 |[],g=>rfl
 |c::cs,g=>by apply(Ih bad cs _).trans;grind[ad9]
def Ii(k:fN g):fN (n8 g x y p f gap):=Q9 (Ih _ _ _) k
def Q_(k:fN g):fN (qk g x y p l):=Q9 (Ih _ _ _) k
def DH{α:Type}{f:bE->α->bE}(h:∀g x,fN g->fN (f g x)):∀(l:O α)g,fN g->fN (l.foldl f g):=by
 intro a g k
 induction a generalizing g k with
 |nil=>exact k
 |cons x l b=>exact b _<|h g x k
def Rb{os:O Ob}(k:fN g):fN (jB x y p gap os g):=by grind[jB,DH,Q_,Ii]
inductive Rc K A:List Rp->bE->bE->Prop
 |mk {r:Ra} {u:Gr} (h:fN g):Rc K A [dB A r,fR K A u] g (jB r.x r.y r.pitch u.gap u.os g)
def Ij:Dz base 5 84 "strike_all" Rc:=by
 refine Ie ["grid","raster","ground","obstacle","barrier"] λq l N c Q v z T=>?_;cases v with|@mk c r u h=>?_
 have i:=(z _<|.tail _<|.head _).wit;let e:bE->Ob->bE:=λh o=>qk ((edges o.pts).foldl (λh f=>n8 h r.x r.y r.pitch f<|u.gap+o.r) h) r.x r.y r.pitch o.pts;have C:∀n,fN ((u.os.take n).foldl e c):=λn=>DH (λg o h=>Q_<|DH (λg f h=>Ii h) _ _ h) _ _ h;refine⟨[Y<|.aC iK,Y<|.aC<|dB A r,Y<|.aC<|fR K A u,am,am],Dx (λ_=>[Y<|.aC iK,Y<|.aC<|dB A r,Y<|.aC<|fR K A u,am,am]) (λn=>(u.os.take n).foldl e c) (cK<|aaN M aM) U U (λn d j=>?_) ?_⟩
 .refine aL (cH j) λo p k=>?_;subst k;have akF:o.r<=1000000000:=((i.2.ins (f:="obstacles") (d:=lst<|u.os.map<|dP K A) U).lst _<|eY.mpr ⟨o,eD p,U⟩).wit.1;have E:uG (u.gap+o.r):=⟨by have:=i.1.g1;lia,by have:=i.1.g2;lia⟩
  let a:bE->Sd->bE:=λh f=>n8 h r.x r.y r.pitch f<|u.gap+o.r;let b:=(u.os.take n).foldl e c;have G:(u.os.take<|n+1).foldl e c=qk ((edges o.pts).foldl a b) r.x r.y r.pitch o.pts:=by rw[take_snoc p,rD];rfl
  have s:∀m,fN (((edges o.pts).take m).foldl a b):=λm=>DH (λg f h=>Ii h) _ _<|C n;refine QI 3 au<|DG<|Dx (Γ':=[Y<|.aC iK,Y<|.aC<|dB A r,Y<|.aC<|fR K A u,Y<|.aC<|dP K A o,am]) (λ_=>[Y<|.aC iK,Y<|.aC<|dB A r,Y<|.aC<|fR K A u,Y<|.aC<|dP K A o,am]) (λm=>((edges o.pts).take m).foldl a b) (cK<|zj M<|GN M aV) U U (λm d j=>?_) ?_
  .refine aL (cH j) λf H k=>?_;subst k;have I:((edges o.pts).take<|m+1).foldl a b=n8 (((edges o.pts).take m).foldl a b) r.x r.y r.pitch f (u.gap+o.r):=by
    rw[take_snoc H,rD];rfl
   show Gg _ A 0 _ (((edges o.pts).take m).foldl a b) _ _ _ _ (((edges o.pts).take<|m+1).foldl a b);rw[I];exact QI 4 au<|DG<|QK ad6 (l.mono au) (dQ<|dQ<|dQ<|dQ<|dQ sS) (bM aE bZ<|cY (aaO M aM)<|Oj M aV) (.mk (s m) E) qN
  .rw[aI,G];show Sg _ A 0 _ ((je _ _).foldl a b) _ _ _;have t:=s (edges o.pts).length;rw[ij]at t⊢;exact QK ad8 (l.mono au) (dQ<|dQ<|dQ<|dQ<|wZ sS) (bF aE<|GN M aV) (.mk t) qN
 .rw[aI,ij];exact qN
end
open _h (bE Sd cellAt oa)
section
variable{P:bO}{w:bN}{K:aJ}{mg:aq->aR aB}{base:bf}{A:Ad}[Z:Zc P w K mg A]
def ad_{l:O Pt}{p:Pt}:Gy base 4 85 "spot_on" [bU K A l,pt K p] (dC K A<|if _d.dY p l=0 then am else Y (p,p)):=by
 refine gy ["outline","point"] λq a b c=>bI<|h_ (bi<|fL (aO uF<|bF aE aw)<|bX M.ux) (λh=>Ev.eq kd ?_)<|λh=>Ev.eq (gv zr (bF aE aE) .mk) ?_
 .rw[aH<|cM h];rfl
 .rw[aD<|cX h];rfl
def zQ{g:bE}{i j:Int}:Gy base 1 90 "lies_at" [jn K A g,int i,int j] (bl<|oa g i j):=by
 refine gy ["grid","i","j"] λq f k l=>?_;refine bB (pw (p:=decide<|0<=j/\j<g.length) (Ev.eq (qA eT Cq aG aM<|cO M.len aw) ?_) (q:=decide (0<=i/\i<((g.getD j.toNat []).length:Nat))&&(cellAt g i.toNat j.toNat).isSome)<|λh=>?_) U
 .rw[aI,aiZ]
 have m:=cM h;have b:j.toNat<g.length:=bG;have a:g[j.toNat]?=Y g[j.toNat]:=dq b;have c:g.getD j.toNat []=g[j.toNat]:=jt▸a▸U;rw[c];refine pw (p:=decide<|0<=i/\i<(g[j.toNat].length:Nat)) (Ev.eq (qA eT Cq aG aE<|cO M.len (ds:=g[j.toNat].map<|dC K A)<|bW (ds:=g.map λr=>lst<|r.map<|dC K A) aw aM<|b8 (n:=j.toNat) ap<|by rw[cT,a];rfl) ?_)<|λh=>?_
 .rw[aI,aiZ]
 have o:=cM h;have d:g[j.toNat][i.toNat]?=Y (cellAt g i.toNat j.toNat):=by unfold cellAt;rw[a,gB,dq bG];rfl
 exact pv<|dF<|ur (bW (bW (ds:=g.map λr=>lst<|r.map<|dC K A) aw aM<|b8 (n:=j.toNat) ap<|by rw[cT,a];rfl) aE<|b8 (n:=i.toNat) ap<|by rw[cT,d];rfl) λG x e=>DF e
def set_same{α:Type}{l:O α}{x:α}(h:l[j]?=x):l.set j x=l:=by apply iO;grind-order
def DI{X:Cx}{e f:O bY}j(i:a[j]?=Y (Y<|.own ds))(g:Tv X (rel a) c b)(k:b=L->Sv X a e (.nx<|a.set j<|Y<|.own<|ds++[d]))(hr:Sv X (a.set j<|Y<|.own<|ds++if b=L then[d]else[]) f o):Sv X a (kK c e [] ao::f) o:=by
 refine lx g (λh=>?_) (λh=>?_) hr
 .lia
 simp_all[set_same,cG]
def uR b(x:Rp):(if b=L then[x]else[]).length<=1:=bh
def ad'{r u:bE}{c:cV}:Gy base 2 91 "next_cells" [ki K A (r,u),ip K (c.1,c.2)] (lst<|(_h.B4 r u c).map dz):=by
 refine gy ["steps","cell","i","j","cells"] λq a d e=>?_;refine bz 2 (gN aE aG U)<|bz 3 (gN aE aG U)<|jl 4 (iY eW) ?_;refine DI 4 U (b_<|aO zQ<|bM (Oo M aw) aM aV) (λ_=>i3 4 U (sR (c:=((c.1:Int)+1,(c.2:Int))) (cY aM aG) aV) (jJ<|by show 0<=_;omega) cG) ?_;refine DI 4 U (b_<|aO zQ<|bM (Op M aw) aM aV) (λ_=>i3 4 U (sR (c:=((c.1:Int),(c.2:Int)+1)) aM<|cY aV aG) (jJ (by rw[cC];have:=uR (oa r c.1 c.2)<|dz ((c.1:Int)+1,(c.2:Int));show 0+_<=_;exact cS (A_ (uR _ _) _) bw)) cG) ?_;refine DI 4 U (b_<|aO zQ<|bM (Oo M aw) (cZ aM aG) aV) (λ_=>i3 4 U (sR (c:=((c.1:Int)-1,(c.2:Int))) (cZ aM aG) aV) (jJ<|by rw[cC,cC];exact cS (U3 (A_ (uR _ _) _)<|uR _ _) bw) cG) ?_;refine DI 4 U (b_<|aO zQ<|bM (Op M aw) aM<|cZ aV aG) (λ_=>i3 4 U (sR (c:=((c.1:Int),(c.2:Int)-1)) aM<|cZ aV aG) (jJ<|by rw[cC,cC,cC];exact cS (U3 (U3 (A_ (uR _ _) _)<|uR _ _)<|uR _ _) bw) cG) ?_;refine jk 4 U<|bB bZ ?_;have m:∀(b:Bool)(q:Int×Int),(if b=L then[q]else[]).map dz=if b=L then[dz q]else[]:=λb q=>by cases b<;>rfl
 unfold _h.B4;rw[cN,cN,cN,m,m,m,m];rfl
def Re{X:Cx}{g:bV}{e:aT}{op:T0}{k:Cf}{a b c:Int}{x:aq}{t p:bn}{m:O bY}{o:Out}i(z:FS X op k)(C:∀H Q,Q (.int c) H->k (.int a) (.int b) H Q)(E:g[i]?=Y (Y<|.aC<|int a))(I:Ev X (bj g) e (int b))(N:Sv X (g.set i<|Y<|.aC<|int c) m o)(hi:Lc X i x<|>ah)
 :Sv X g (.AugAssign (aK x p) op e t::m) o:=λT H0 σ G H D y s f=>by
 refine aL (s.aC i _ E) λv h1 h=>?_;have h:v=.int a:=h;subst h;refine wS.cons (Xp (i:=i) hi.d hi.n hi.l pE z hi.f) ⟨.int a,h1,I σ G H _ s.bj s.sub s.wf λu G1 H1 q w1 j=>?_⟩;have j:u=.int b:=j;subst j;exact C _ _<|N T H0 _ G1 H1 D (y.trans q) ((s.grow q w1).set (d:=int c) U) f
def aea(m:Bool):∀(l:O Bool)(s:Int×Int),_h.gJ (l++[m]) s=(if m=L then((_h.gJ l s).1+(_h.gJ l s).2,(_h.gJ l s).2*2)else((_h.gJ l s).1,(_h.gJ l s).2*2)):=by
 intro a s
 induction a generalizing s with
 |nil=>exact U
 |cons x l b=>exact b _
def Rf{l:O Bool}:Gy base 1 94 "row_sum" [lst<|l.map bl] (int (_h.gJ l (0,1)).1):=by
 refine gy ["members","total","weight","member"] λq i j k=>?_;let F:Nat->Int×Int:=λn=>_h.gJ (l.take n) (0,1);refine bz 1 aG (bz 2 aG<|lz (λn=>[Y<|.aC<|lst<|l.map bl,Y<|.aC<|int (F n).1,Y<|.aC<|int (F n).2,am]) (cK aw) U (λn d b=>?_)<|bB aE<|by rw[aI];show int (_h.gJ (je _ _) _).1=_;rw[ij]);refine aL (cH b) λm f g=>?_;subst g;have a:F (n+1)=if m=L then((F n).1+(F n).2,(F n).2*2)else((F n).1,(F n).2*2):=by show _h.gJ (.take _ _) _=_;rw[take_snoc f,aea]
 refine gX 3<|lx (Γ':=[Y<|.aC<|lst<|l.map bl,Y<|.aC<|int (F<|n+1).1,Y<|.aC<|int (F n).2,Y<|.aC<|bl m]) (q:=m) (b_ aV) (λh=>?_) (λh=>?_)<|Re (c:=(F<|n+1).2) 2 XS (λH Q q=>tV _ _ U U (aW ⟨au,au⟩) (by have e:(F<|n+1).2=(F n).2*2:=(by rw[a];split<;>rfl);show Q (V.int<|(F n).2*2) H;rw[<-e];exact q)) U aG<|fe cG
 .rw[a,aH h];exact Re 1 Xr (λH Q q=>cn _ _ U U q) U aM cG
 .rw[a,aD<|by rw[h];simp];exact cG
end
open _h (bE Sd pi lp)
section
variable{P:bO}{w:bN}{K:aJ}{mg:aq->aR aB}{base:bf}{A:Ad}[Z:Zc P w K mg A]
def Rg(h:(dC K A o).r G x):decide (x=.bH)=o.isNone:=by have:=DF h;simp_all
inductive Rh K A:List Rp->List Rp->Prop
 |mk (a:l.length<=24):Rh K A [lst (l.map (dC K A)),lst (m.map (dC K A))] ((lp l m).map (dC K A))
def Ri:zp base 4 88 "joined" Rh:=by
 refine C3 ["spots","others","bars","spot","other"] λq j k d c t u=>?_;cases c with|@mk l m v=>?_
 have y:(l.zip m).length<=24:=by rw[vd];lia
 let F:Nat->O (aR Sd):=λn=>((l.zip m).take n).map λz=>pi z.1 z.2;refine jl 2 (iY eW)<|lz (λn=>[Y<|.aC<|lst<|l.map<|dC K A,Y<|.aC<|lst<|m.map<|dC K A,Y<|.own<|(F n).map<|dC K A,am,am]) (Iv.eq (CN (K:=K) M.zip aw aE) (es:=(l.zip m).map λz=>tup K [dC K A z.1,dC K A z.2])<|US▸c9▸U) U (λn d f=>?_) ?_
 .obtain⟨⟨s,o⟩,g,rfl⟩:=cH f;have i:F (n+1)=F n++[pi s o]:=by show jV _ (je _ _)=_;rw[take_snoc g,cN];rfl
  have C:(F n).length<=24:=by show(jV _<|je _ _).length<=_;rw[aI,jr];lia
  refine ly 3 4<|i3 2 (ds:=(F n).map<|dC K A) (d:=dC K A<|pi s o) U (h_ (p:=s.isNone||o.isNone) (Tw.tv (fK (bi (gc aV λG x=>Rg))<|λh=>iX<|bi<|gc bZ λG x=>Rg)) (λh=>?_)<|λh=>?_) (jJ<|by rw[aI];lia)<|fe cG ⟨aP U,aP U,aP (by show Y (Sl.own _)=Y (Sl.own _);rw[i,cN];rfl),aW U,aW U,trivial⟩
  .cases s<;>cases o<;>first|exact kd|cases h
  .cases s with
   |none=>cases h
   |some a=>
    cases o with
    |none=>cases h
    |some b=>exact gv zr (bF (gO M (e:=a) aV)<|gO M (e:=b) bZ) .mk
 .have e:(F ((l.zip m).map λz=>tup K [dC K A z.1,dC K A z.2]).length).map (dC K A)=(lp l m).map (dC K A):=by
   rw[aI];show jV _ (jV _<|je _ _)=_;rw[ij];rfl
  exact Nm 2<|by show Y (Y<|Sl.own<|(F _).map<|dC K A)=_;rw[e]
def between{i n:Nat}(c:1<=p)(hi:i<n)(d:-1000000000<=x)(e:x+p*((n:Int)-1)<=1000000000):-1000000000<=x+p*i/\x+p*i<=1000000000:=by
 have a:0<=p*i:=nH ap au;have b:p*i<=p*(n-1):=lI ap ap
 lia
abbrev sT(r:Ra)(i j:Nat):Pt:=⟨r.x+r.pitch*i,r.y+r.pitch*j⟩
def aeb{r:Ra}(h:mX r){i j:Nat}(hi:i<r.cols)(a:j<r.rows):dh (sT r i j):=
 ⟨between h.p1 hi h.in1.1.1 h.NA.1.2,between h.p1 a h.in1.2.1 h.NA.2.2⟩
abbrev zR(r:Ra)(l:O Pt)(j:Nat):O (aR Sd):=(c8 r.cols).map λ(i:Nat)=>if _d.dY (sT r i j) l=0 then am else Y (sT r i j,sT r i j)
inductive Rj K A:List Rp->List Rp->Prop
 |mk {r:Ra} {l:List Pt} {j:Nat} (a:j<r.rows):Rj K A [dB A r,bU K A l,int j] ((zR r l j).map (dC K A))
def aec:zp base 5 86 "spot_row" Rj:=by
 refine C3 ["raster","outline","j","y","i"] λq m n d b c o=>?_;cases b with|@mk r l j e=>?_
 have h:mX r:=(c _<|.head _).wit.1;have p:=h.c2;have t:=h.p1;have u:=h.p2;refine bz 3 (cY (Om M aw)<|fJ aM (zl M aw)<|aW ⟨ap,ap⟩) (Nl<|eA.fw<|d6 (l:=c8 r.cols) (g:=λ(i:Nat)=>dC K A<|if _d.dY (sT r i j) l=0 then am else Y (sT r i j,sT r i j)) (own:=[("i",4)]) (CM M.range (On M aw) ap ap) (dD U) (λi a=>aY _ (eu 4)<|λs x C y z=>?_) (by unfold zR;rw[c9];rfl));have a:=tz.mp a;refine aO ad_<|bF aE<|Ev.as (d':=pt K<|sT r i j) (kP<|bF (cY (Ol M aw)<|fJ bZ (zl M aw)<|aW ⟨ap,ap⟩) aV) λG v q=>⟨aeb h a e,?_⟩;have f:(i:Int)*r.pitch=r.pitch*i:=Es ..;have k:(j:Int)*r.pitch=r.pitch*j:=Es ..;rw[f,k]at q;exact q
end
open _h (bE Sd jB)
section
variable{P:bO}{w:bN}{K:aJ}{mg:aq->aR aB}{base:bf}{A:Ad}[Z:Zc P w K mg A]
abbrev qO(r:Ra)(l:O Pt):bE:=(c8 r.rows).map<|zR r l
def Ik{r:Ra}(h:mX r)l:fN (qO r l):=by
 have a:∀j,(zR r l j).length=r.cols:=λj=>by rw[zR,aI,mG]
 have b:((qO r l).headD []).length=r.cols:=by
  unfold qO;have:=h.r1;cases e:r.rows with
  |zero=>lia
  |succ n=>rw[Ux,eQ];exact a 0
 refine⟨by rw[qO,aI,mG];exact h.r2,b▸h.c2,λd c=>?_⟩;rw[b];obtain⟨j,_,rfl⟩:=eY.mp c;exact a j
inductive Rk K A:List Rp->Rp->Prop
 |mk {r:Ra} {u:Gr}:Rk K A [dB A r,fR K A u] (jn K A (jB r.x r.y r.pitch u.gap u.os (qO r u.outline)))
def Rl:Gz base 6 87 "free_spots" Rk:=by
 refine gz ["raster","ground","j","grid"] λq i v d k l x=>?_;cases k with|@mk r u=>?_
 have h:mX r:=(l _<|.head _).wit.1;have y:=h.r2;refine QN (gr:=qO r u.outline) (A:=A) 3 (own:=[("j",2)]) (CM M.range (CW M aw) ap ap) (dD U) (by rw[qO,aI,aI];rfl) (λn d z m c=>?_) ?_
 .refine aL (cH m) λj o p=>?_;subst p;unfold qO at c;obtain⟨t,f,rfl⟩:=cH c;have e:j=t:=by
   have a:=dH.mp o;have b:=dH.mp f;obtain⟨_,a⟩:=a;obtain⟨_,b⟩:=b;rw[aii]at a b
   lia
  subst e;exact aY _ (eu 2)<|λs E C G H=>wB aec (bM aw (aaM M aE) aM)<|.mk<|tz.mp<|eD f
 .have g:fT [Y<|.aC<|dB A r,Y<|.aC<|fR K A u,am,Y<|.aC iK]:=dQ<|dQ<|wZ<|dQ sS;exact adJ Ij (i.mono au) g (bF aw aE) (.mk<|Ik h _)<|QM (bI aV) g
abbrev zS(r:Ra)(u:Gr):bE:=jB r.x r.y r.pitch u.gap u.os<|qO r u.outline
def aed{r:Ra}{u:Gr}:Gy base 7 95 "free_rows" [dB A r,fR K A u] (nums ((r.rows:Int)::(zS r u).map λa=>(_h.gJ (a.map xY) (0,1)).1)):=by
 refine gy ["raster","ground","rows","spots","spot"] λq j b k=>?_;have h:mX r:=(b _<|.head _).wit.1;have m:(zS r u).length<=24:=(Rb<|Ik h _).rows;let F:Nat->O Int:=λn=>(r.rows:Int)::((zS r u).take n).map λa=>(_h.gJ (a.map xY) (0,1)).1;refine jl 2 (iY<|aS<|CW M aw)<|lz (λn=>[Y<|.aC<|dB A r,Y<|.aC<|fR K A u,Y<|.own<|(F n).map int,am,am]) (ds:=(zS r u).map λa=>lst<|a.map<|dC K A) (cK<|iu Rl (bF aw aE) .mk) U (λn d c=>?_)<|jk 2 U<|bB aM ?_
 .refine aL (cH c) λa e f=>?_;subst f;have i:F (n+1)=F n++[(_h.gJ (a.map xY) (0,1)).1]:=by
   show _::jV _ (je _ _)=_;rw[take_snoc e,cN];rfl
  have p:(F n).length<=25:=by show(_::jV _ (je _ _)).length<=_;rw[c_,aI,jr];lia
  refine gX 3<|i3 2 (ds:=(F n).map int) (d:=int (_h.gJ (a.map xY) (0,1)).1) U (aO (Rf (l:=a.map xY))<|aS<|bu.ev<|eA.fw<|d6 (l:=a) (g:=λo=>bl o.isSome) (own:=[("spot",4)]) (cK aV) (dD U) (λo _=>aY _ (eu 4)<|λs t C v y=>dF<|ur bZ λG x=>DF)<|c9▸U) (jJ<|by rw[aI];lia)<|fe cG ⟨aP U,aP U,aP (by show Y (Sl.own _)=Y (.own _);rw[i,cN];rfl),aW U,aP U,trivial⟩
 .rw[aI];show lst (.map int (_::.map _ (.take _ _)))=_;rw[ij];rfl
end
open _h (bE Sd jB kL kM lp)
section
variable{P:bO}{w:bN}{K:aJ}{mg:aq->aR aB}{base:bf}{A:Ad}[Z:Zc P w K mg A]
def Rm(l:O α):eX l am (Y (-1))=l.dropLast:=by rw[eX,HT.yP,Ei];have h:=HT.YA (-1) l.length l.length;grind-order
def Ro(l:O α):eX l (Y 1) am=l.drop 1:=by grind[eX,HT.yP,HT.ui,jR]
def Rq l m:(lp l m).length=min l.length m.length:=by simp[lp]
def Rr(b:g.length<=24)(d:n<=24)(h:∀r∈g,r.length=n):fN g:=by
 cases g with
 |nil=>exact⟨b,dI _,λr c=>bh⟩
 |cons a g=>
  have:=h a<|ig ..;exact⟨b,bG,λr c=>(h r c).trans this.symm⟩
def aee(h:fN s):fN (kL s):=by refine Rr (n:=(s.headD []).length-1) (by rw[kL,aI];exact h.rows) (by have:=h.cols;omega) λr a=>?_;obtain⟨b,c,rfl⟩:=eY.mp a;rw[Rq,TN,jR,h.len b c];lia
def aef{s:bE}(h:fN s):fN (kM s):=by refine Rr (n:=(s.headD []).length) (by have:=h.rows;(simp[kM];lia)) h.cols λr a=>?_;obtain⟨⟨p,q⟩,b,rfl⟩:=eY.mp a;obtain⟨c,d⟩:=xx b;rw[Rq,h.len p<|(ai0 s).subset c,h.len q<|ahf d];lia
abbrev gK(r:Ra)(u:Gr)(s:bE):bE:=jB r.x r.y r.pitch u.gap u.os s
inductive Rs K A:List Rp->Rp->Prop
 |mk {r:Ra} {u:Gr} (h:fN s):Rs K A [jn K A s,dB A r,fR K A u] (ki K A (gK r u (kL s),gK r u (kM s)))
def aeg:Gz base 6 89 "free_steps" Rs:=by
 refine gz ["spots","raster","ground","row","rightward","above","upward"] λq c x d l y E=>?_;cases l with|@mk s r u h=>?_
 have j:∀r∈s,r.length<=24:=λr c=>by rw[h.len r c];exact h.cols
 refine QN (gr:=kL s) (A:=A) 4 (own:=[("row",3)]) (cK (ds:=s.map λr=>lst<|r.map<|dC K A) aw) (dD U) (by unfold kL;rw[aI,aI]) (λn d m e f=>?_) ?_
 .obtain⟨q,a,rfl⟩:=cH e;obtain⟨o,b,rfl⟩:=cH f;rw[a]at b;obtain rfl:=bL b;have k:=j q<|eD a;exact⟨_,eu 3,λs p C t v=>wB Ri (bF (Ev.eq (bu.ev<|fk (ds:=q.map<|dC K A) aV .none_<|.dW<|sf aG)<|bJ lst<|(wn _ _ _ _).trans<|bJ _<|Rm q)<|Ev.eq (bu.ev<|fk (ds:=q.map<|dC K A) aV (.dW aG) .none_)<|bJ lst<|(wn _ _ _ _).trans<|bJ _<|Ro q)<|.mk<|by rw[TN];omega⟩
 .refine adM (hr:=kM s) 6 bw (own:=[("row",3),("above",5)]) (Iv.eq (CN (K:=K) M.zip (Ev.eq (bu.ev<|fk (ds:=s.map λr=>lst<|r.map<|dC K A) aw .none_<|.dW<|sf aG)<|bJ lst<|(wn _ _ _ _).trans<|bJ _<|Rm s)<|Ev.eq (bu.ev<|fk (ds:=s.map λr=>lst<|r.map<|dC K A) aw (.dW aG) .none_)<|bJ lst<|(wn _ _ _ _).trans<|bJ _<|Ro s) (es:=(s.dropLast.zip<|s.drop 1).map λz=>tup K [lst<|z.1.map<|dC K A,lst<|z.2.map<|dC K A])<|by rw[US,c9];rfl) (dD U) (by unfold kM;rw[aI,aI]) (λn d m e f=>?_) ?_
  .obtain⟨q,a,rfl⟩:=cH e;obtain⟨o,b,rfl⟩:=cH f;rw[a]at b;obtain rfl:=bL b;have k:=j q.1<|(ai0 s).subset (xx<|eD a).1;exact⟨_,wm 3 5,λs p C t v=>wB Ri (bF aV dU)<|.mk k⟩
  .have i:fT [Y<|.aC<|jn K A s,Y<|.aC<|dB A r,Y<|.aC<|fR K A u,am,Y<|.aC iK,am,Y<|.aC iK]:=dQ<|dQ<|dQ<|wZ<|dQ<|wZ<|dQ sS;refine QO Ij (c.mono bw) i (bF aE aM) (.mk<|aee h)<|sQ.swap<|QO Ij (c.mono bw) i (bF aE aM) (.mk<|aef h)<|adK (QM (bI<|gv acj (bF bZ<|cJ 6 U)<|.mk (g:=(gK r u<|kL s,gK r u<|kM s))) ?_) i;exact dQ<|dQ<|dQ<|wZ<|dQ<|wZ<|dQ sS
end
open _h (bE Sd jB kL kM n9 n_ ci ll jA mK assoc gH qj)
open Vbpcad (Cell)
section
variable{P:bO}{w:bN}{K:aJ}{mg:aq->aR aB}{base:bf}{A:Ad}[Z:Zc P w K mg A]
abbrev fB(l:O (cV×Nat)):DL:=l.map λx=>(ck<|ci x.1,.int x.2)
def aeh:ck (ci c)=ck (ci d)↔c=d:=by(simp only[ck,ci];grind)
def zT c:∀l:O (cV×Nat),gt (fB l) (ck<|ci c)=((l.find? λx=>decide<|x.1=c).map (·.2)).map λn=>.int n
 |[]=>rfl
 |x::l=>by
  by_cases h:x.1=c
  .simp_all[fB,Cy]
  .rw[show fB _=_::fB l from U,Cz<|λz=>h<|aeh.mp z,Bd ap];exact zT c l
def Rt d:∀l:O (cV×Nat),(l.find? λx=>decide<|x.1=d).isSome=(l.map (·.1)).contains d:=bh
def aei{c:cV}{n:Nat}:∀{l:O (cV×Nat)},(l.map (·.1)).Nodup->(c,n)∈l->l.find? (λx=>decide<|x.1=c)=(c,n):=by
 intro b a h
 induction b with
 |nil=>grind
 |cons x l d=>
  rw[eQ,tE]at a;obtain rfl|h:=cU.mp h
  .simp
  .rw[Bd _]
   .exact d a.2 h
   grind
abbrev fh(done:O (O cV))(now acc:O cV):O (cV×Nat):=assoc 0 (done++[now])++acc.map λc=>(c,done.length+1)
def Il(done:O (O cV))(now acc:O cV):(fh done now acc).map (·.1)=(done++[now]).flatten++acc:=by simp[fh,_h.FD,Tr]
def aej done now acc:fh done now acc=fh (done++[now]) acc []:=by
 unfold fh;rw[_h.BR 0 _ [acc],ES,eG];congr 1;show _=acc.map _++[]
 simp
def aek(h:c∈now):(c,done.length)∈fh done now acc:=by rw[fh,_h.BR];exact Jk _<|jS _<|Jk _ bG
def ael done now acc d:fh done now (acc++[d])=fh done now acc++[(d,done.length+1)]:=by simp[fh]
inductive Ru K A:List Rp->Rp->Prop
 |mk (a:_d.jz b) (d:0<g.pitch) (e:0<g.m) (f:g.cols<=24) (h:g.rows<=24) (i:gH g c) (j:Vbpcad.free b g c=L):Ru K A [ki K A (n9 b g,n_ b g),dz (ci c)] (lB (fB (assoc 0 (kW b g c))))
def aem:Gz base 3 92 "step_counts" Ru:=by
 refine gz ["steps","first","counts","newest","following","cell","other"] λq hr ds d hR u nd=>?_;cases hR with|@mk b g c hb hp hm h1 h2 hc hf=>?_
 have s:=p9 (A_ (show 1<=64 by decide) _) (hr.mono<|dI _).units;refine adY 2 (q:=ci c) (n:=0) s aE aG λd=>DD (λo h=>bz 3 (cz<|cB (d:=dz<|ci c) aE eW) h) ?_;let S:O (O cV)×O cV->bV:=λa=>[Y<|.aC<|ki K A (n9 b g,n_ b g),Y<|.aC<|dz<|ci c,Y<|.aC<|Rp.ref d,Y<|.aC<|lst<|a.2.map λc=>dz<|ci c,am,am,am]
 refine adV (S:=S) (kvs:=λa=>fB<|fh a.1 a.2 []) (a0:=([],[c])) (t:=λa=>decide<|0<(a.2.length:Int)) (mY:=λa=>(a.1++[a.2],jA b g (a.1++[a.2]).flatten a.2)) (ok:=λa=>qj b g c a.1 a.2) (mu:=λa=>2*(g.cols*g.rows-(a.1++[a.2]).flatten.length)+if a.2=[]then 0 else 1) U U (.start hc hf) (λa _=>Tv.eq (bi<|iq (cO M.len aV) aG)<|by rw[aI]) ?_ ?_ ?_
 .rintro⟨done,f⟩ B-
  dsimp only at B⊢;have akH:∀(l:O cV),(((done++[f]).flatten++l.foldl (mK (done++[f]).flatten) [])).Nodup:=λl=>(_h.FE _ l []<|by rw[eG];exact B.nd).1;have T:∀d∈f,gH g d:=λd y=>B.yB d (by simp[y]);let N:Nat->O cV:=λn=>((f.take n).flatMap<|ll b g).foldl (mK (done++[f]).flatten) [];refine DD (λo h=>jl 4 (iY eW) h)<|QU (λn=>[Y<|.aC<|ki K A (n9 b g,n_ b g),Y<|.aC<|dz<|ci c,Y<|.aC<|Rp.ref d,Y<|.aC<|lst<|f.map λc=>dz<|ci c,Y<|.own<|(N n).map λc=>dz<|ci c,am,am]) (λn=>fB<|fh done f<|N n) (cK (ds:=f.map λc=>dz<|ci c) aV) U U (λn t C=>?_) ?_
  .obtain⟨j,akF,rfl⟩:=cH C;have E:=eD akF;let I:Nat->O cV:=λm=>((ll b g j).take m).foldl (mK (done++[f]).flatten)<|N n;have G:∀m,I m=((f.take n).flatMap (ll b g)++(ll b g j).take m).foldl (mK (done++[f]).flatten) []:=λm=>(rD ..).symm;have u:∀m,((done++[f]).flatten++I m).Nodup:=λm=>by rw[G];exact akH _
   have akI:∀m,∀d∈(done++[f]).flatten++I m,gH g d:=λm d y=>by
    rcases fE.mp y with h|h
    .exact B.yB d h
    .rw[G]at h;rcases(_h.FE _ _ []<|by rw[eG];exact B.nd).2 d h with h|h
     .simp at h
     .have nn:∀{x:cV},x∈f->d∈ll b g x->gH g d:=λH h=>_h.Lf (T _ H) (q_.mp h).1;rcases fE.mp h with h|h
      .obtain⟨x,H,h⟩:=vc.mp h;exact nn (Jp H) h
      .exact nn E<|Jp h
   have akG:∀m,((done++[f]).flatten++I m).length<=24*24:=λm=>cS (_h.FF (u m)<|akI m)<|ag4 h1 h2;refine QT 5<|QU (λm=>[Y<|.aC<|ki K A (n9 b g,n_ b g),Y<|.aC<|dz<|ci c,Y<|.aC<|Rp.ref d,Y<|.aC<|lst<|f.map λc=>dz<|ci c,Y<|.own<|(I m).map λc=>dz<|ci c,Y<|.aC<|dz<|ci j,am]) (λm=>fB<|fh done f<|I m) (ds:=(ll b g j).map λc=>dz<|ci c) (Iv.eq (cK<|aO (ad' (c:=j))<|bF aw<|Ev.ip dU)<|by rw[_h.WK hb hp hm<|T _ E,c9];rfl) U U (λm t C=>?_) ?_
   .obtain⟨i,akJ,rfl⟩:=cH C;have Q:I (m+1)=if((done++[f]).flatten++I m).contains i=L then I m else I m++[i]:=by
     show((ll b g j).take<|m+1).foldl _ _=_;rw[take_snoc akJ,rD];rfl
    have hv:gt (fB<|fh done f<|I m) (ck<|ci i)=am\/∃v,gt (fB<|fh done f<|I m) (ck<|ci i)=Y v:=by cases gt (fB<|fh done f<|I m) (ck<|ci i)<;>simp
    have k:(gt (fB<|fh done f<|I m)<|ck<|ci i).isSome=((done++[f]).flatten++I m).contains i:=by rw[zT,vp,vp,Rt,Il]
    have akK:(fh done f<|I m).length<=24*24:=by have:=akG m;rw[<-Il,aI]at this;exact this
    have akL:(I m).length<=24*24:=by have:=akG m;rw[cC]at this;omega
    refine QT 6<|adT 2 U (bi<|adR s (cJ 6 U) aM) (λh=>?_) (λh=>⟨?_,?_⟩) (DC DB) (Γ':=[Y<|.aC<|ki K A (n9 b g,n_ b g),Y<|.aC<|dz<|ci c,Y<|.aC<|Rp.ref d,Y<|.aC<|lst<|f.map λc=>dz<|ci c,Y<|.own<|(I<|m+1).map λc=>dz<|ci c,Y<|.aC<|dz<|ci j,Y<|.aC<|dz<|ci i]) (kv':=fB<|fh done f<|I<|m+1)
    .rw[k,my]at h;rw[Q,aD<|by rw[h];decide];have p:gt (fB<|fh done f<|I m) (ck<|ci i)=am:=by
      rw[h]at k;cases e:gt (fB<|fh done f<|I m) (ck<|ci i)with
      |none=>rfl
      |some v=>rw[e]at k;cases k
     have ep:putK (fB<|fh done f<|I m) (ck<|ci i) (.int ((done.length:Nat)+1:Int))=fB (fh done f<|I m++[i]):=by rw[Zo _ p,ael];unfold fB;rw[cN];rfl
     have eg:gt (fB<|fh done f<|I m) (ck<|ci j)=Y (.int (done.length:Nat)):=by rw[zT,aei (by rw[Il];exact u m)<|aek E];rfl
     refine adU 2 (n:=(done.length:Nat)+1) s U (cY (QQ s aM dU eg<|by exactλ_ _=>U) aG) (cJ 6 U) (jJ<|by unfold fB;rw[aI];omega) ?_;rw[ep];exact DD (λo h=>i3 4 (ds:=(I m).map λc=>dz<|ci c) (d:=dz<|ci i) U (cJ 6 U) (jJ<|by rw[aI];omega) h)<|DC DB ⟨aP U,aP U,aP U,aP U,aP (by show Y (Sl.own _)=Y (Sl.own _);rw[cN];rfl),aP U,aP U,trivial⟩
    .rw[k,jU]at h;rw[Q,aH h];rfl
    .rw[k,jU]at h;rw[Q,aH h]
   .have e:I ((ll b g j).map λc=>dz<|ci c).length=N (n+1):=by
     rw[G,aI,ij];show _=((f.take<|n+1).flatMap _).foldl _ _;rw[take_snoc akF,J8];simp
    rw[show fB (fh done f<|I ((ll b g j).map λc=>dz<|ci c).length)=fB (fh done f<|N<|n+1) by rw[e]];refine DC DB ⟨aP U,aP U,aP U,aP U,aP ?_,aW U,aP U,trivial⟩;show Y (Sl.own<|(N<|n+1).map _)=Y (Sl.own<|(I _).map _);rw[e]
  .have e:N (f.map λc=>dz<|ci c).length=jA b g (done++[f]).flatten f:=by
    show((f.take _).flatMap _).foldl _ _=_;rw[aI,ij];rfl
   rw[show fB (fh done f<|N (f.map λc=>dz<|ci c).length)=fB (fh (done++[f]) (jA b g (done++[f]).flatten f) []) by rw[e,aej]];refine DD (λo h=>jk 4 U<|bz 3 bZ h)<|DC DB ⟨aP U,aP U,aP U,aP ?_,aW U,aP U,aP U,trivial⟩;show Y (Sl.aC<|lst<|jV _ _)=Y (Sl.aC<|lst<|(N _).map _);rw[e]
 .rintro⟨done,f⟩ B h;have p:f≠[]:=λz=>by subst z;simp at h
  obtain⟨q1,q2⟩:=B.next p;refine⟨q1,?_⟩;show _<_+if f=[]then 0 else 1;rw[aD p];exact q2
 .rintro⟨done,f⟩ B h;have p:f=[]:=by
   cases f with
   |nil=>rfl
   |cons x l=>simp at h
  subst p;have e:fh done [] []=assoc 0 (kW b g c):=by rw[B.end_];unfold fh;rw[_h.BR,ES,eG];exact eG _
  show i8 _ d _ (fB<|fh done [] []) _ _;rw[e];exact adW 2 U
end
open _h (bE Sd jB kL kM n9 n_ ci assoc gH iE lm f8 cellAt oa)
open Vbpcad (Cell free)
section
variable{P:bO}{w:bN}{K:aJ}{mg:aq->aR aB}{base:bf}{A:Ad}[Z:Zc P w K mg A]
structure RG b(g:iN):Prop where
 b:_d.jz b
 p:0<g.pitch
 m:0<g.m
 c:g.cols<=24
 r:g.rows<=24
abbrev oO(g:iN):Ra:=⟨g.x,g.y,g.pitch,g.cols,g.rows⟩
abbrev uS(b:bC)(g:iN):Gr:=⟨b.outline,lm b g,f8 g⟩
section
variable{b:bC}{g:iN}
def Rv(h:RG b g)(a:gH g c):(cellAt (iE b g) c.1 c.2).isSome=free b g c:=by
 rw[_h.yF h.b h.p h.m];by_cases e:free b g c=L
 .rewrite [aH ⟨a,e⟩,e];rfl
 simp_all
def aen(h:RG b g):(iE b g).map (λl=>l.map xY)=(c8 g.rows).map λj=>(c8 g.cols).map λi=>free b g (i,j):=by
 obtain⟨n,a⟩:=_h.FK<|_h.FJ (b:=b) h.p h.m;refine iO λj=>?_;rw[cT,cT];by_cases d:j<g.rows
 .have e:(iE b g)[j]?=((iE b g)[j]'ap):=dq ap;have a:=a _<|A8 (ap:j<(iE b g).length);rw[EO d,e];refine bJ Y<|iO λi=>?_;rw[cT,cT];by_cases f:i<g.cols
  .have k:((iE b g)[j]'ap)[i]?=Y (((iE b g)[j]'ap)[i]'ap):=dq ap;rw[EO f,k];apply bJ Y;have:=Rv h (c:=(i,j)) ⟨f,d⟩;rwa[_h.pj e,k]at this
  .rw[tG ap,tG<|by rw[mG];lia];rfl
 .rw[tG ap,tG<|by rw[mG];lia];rfl
def Rw g p:(vz g p).map tK=(c8 g.rows).map λj=>(_h.gJ ((c8 g.cols).map λi=>p (i,j)) (0,1)).1:=by rw[vz,c9];exact List.map_congr_left λj _=>_h.Wu g p j
def DJ g p:(vz g p).length=g.rows:=by simp[vz]
def aeo(h:RG b g):(((oO g).rows:Int)::(zS (oO g)<|uS b g).map λa=>(_h.gJ (a.map xY) (0,1)).1)=((ET b g).length:Int)::(ET b g).map .ofNat:=by rw[ET,Rw,DJ];have:=bJ (jV λl=>(_h.gJ l (0,1)).1)<|aen h;rw[c9,c9]at this;exact bJ _ this
def aep(h:RG b g)(a:gH g c):oa (iE b g) c.1 c.2=free b g c:=by simp_all[_h.Lp,Rv]
end
def Rx{b:bC}{g:iN}{c:cV}(h:RG b g)(a:gH g c):Gy base 7 93 "counts_from" [dB A<|oO g,fR K A<|uS b g,dz<|ci c] (lB<|fB<|assoc 0<|kW b g c):=by
 refine gy ["raster","ground","first","spots"] λq j f k=>?_;have i:mX (oO g):=(f _<|.head _).wit.1;refine bz 3 (d:=jn K A<|iE b g) (iu Rl (bF aw aE) .mk)<|dg (dE (p:=free b g c)<|Tv.eq (b_<|aO zQ<|bM aV (gN (Ev.ip aM) aG U)<|gN (Ev.ip aM) aG U)<|aep h a) (λq=>?_)<|λq=>?_
 .have q:free b g c=aA:=by cases e:free b g c<;>lia
  apply bB adS;rw[kW,aD<|by rw[q];simp];rfl
 .have q:free b g c=L:=by cases e:free b g c<;>lia
  exact bI<|iu aem (bF (iu aeg (bM aV aw aE)<|.mk<|Rb<|Ik i _) aM)<|.mk h.b h.p h.m h.c h.r a q
def aeq b g c d:(gt (fB<|assoc 0<|kW b g c)<|ck<|ci d).isSome=(kW b g c).flatten.contains d:=by simp[zT,Rt,_h.FD]
def aer{b:bC}{g:iN}{c:cV}(h:RG b g)(a:gH g c):Gy base 8 96 "reached_rows" [dB A<|oO g,fR K A<|uS b g,dz<|ci c] (nums (((EU b g c).length:Int)::(EU b g c).map tK)):=by
 refine gy ["raster","ground","first","counts","rows","j","i"] λq e t u=>?_;have v:=h.c;have x:=h.r;have f:=p9 (A_ (show 1<=64 by simp) _) (e.mono<|dI _).units;let F:Nat->O Int:=λn=>(g.rows:Int)::((c8 g.rows).take n).map λj=>(_h.gJ ((c8 g.cols).map λi=>(kW b g c).flatten.contains (i,j)) (0,1)).1;refine bz 3 (aO (Rx h a)<|bM aw aE aM)<|jl 4 (iY<|aS<|CW M aw)<|lz (λn=>[Y<|.aC<|dB A<|oO g,Y<|.aC<|fR K A<|uS b g,Y<|.aC<|dz<|ci c,Y<|.aC<|lB<|fB<|assoc 0<|kW b g c,Y<|.own<|(F n).map int,am,am]) (ds:=(c8 g.rows).map λ(j:Nat)=>int j) (CM (n:=(g.rows:Int)) M.range (CW M (g:=oO g) aw) ap ap) U (λn d k=>?_)<|jk 4 U<|bB bZ ?_
 .refine aL (cH k) λj m o=>?_;subst o;have p:F (n+1)=F n++[(_h.gJ ((c8 g.cols).map λi=>(kW b g c).flatten.contains (i,j)) (0,1)).1]:=by
   show _::jV _ (je _ _)=_;rw[take_snoc m,cN];rfl
  have y:(F n).length<=25:=by show(_::jV _ (je _ _)).length<=_;rw[c_,aI,jr,mG];lia
  refine gX 5<|i3 4 (ds:=(F n).map int) (d:=int (_h.gJ ((c8 g.cols).map λi=>(kW b g c).flatten.contains (i,j)) (0,1)).1) U (aO (Rf (l:=(c8 g.cols).map λi=>(kW b g c).flatten.contains (i,j)))<|aS<|bu.ev<|eA.fw<|d6 (l:=c8 g.cols) (g:=λi=>bl<|(kW b g c).flatten.contains (i,j)) (own:=[("i",6)]) (CM (n:=(g.cols:Int)) M.range (On M (g:=oO g) aw) ap ap) (dD U) (λi _=>aY _ (eu 6)<|λs z C E G=>Ev.eq (dF<|QP f (sR (c:=ci (i,j)) (cJ 6 U) dU) aV)<|bJ bl<|aeq ..)<|by rw[c9];rfl) (jJ<|by rw[aI];lia)<|fe cG ⟨aP U,aP U,aP U,aP U,aP (by show Y (Sl.own _)=Y (Sl.own _);rw[p,cN];rfl),aW U,aP U,trivial⟩
 .rw[aI];show lst (jV int (_::jV _ (je _ _)))=_;rw[ij];unfold EU;dsimp only;rw[Rw,DJ];rfl
abbrev DK(b:bC)(g:iN)(c d:cV):O Int:=match Ka b g c d with
 |some n=>[1,n]
 |none=>[0,0]
def aes b g c d:gt (fB<|assoc 0<|kW b g c) (ck<|ci d)=(Ka b g c d).map λn=>.int n:=by rw[zT,_h.Le];rfl
def aet{b:bC}{g:iN}{c d:cV}(h:RG b g)(i:gH g c):Gy base 8 97 "shortest_way" [dB A<|oO g,fR K A<|uS b g,dz<|ci c,dz<|ci d] (nums<|DK b g c d):=by
 refine gy ["raster","ground","first","last","counts"] λq j k l=>?_;have f:=p9 (A_ (show 1<=64 by simp) _) (j.mono<|dI _).units;have a:=aes b g c d;refine bz 4 (aO (Rx h i)<|bM aw aE aM)<|bI<|h_ (bi<|QP f aV bZ) (λq=>?_)<|λq=>?_
 .rw[a,vp]at q;unfold DK;cases e:Ka b g c d with
  |none=>rw[e]at q;cases q
  |some n=>exact cz<|bF aG<|QQ (n:=n) f bZ aV (a▸e▸U)<|λ_ _=>U
 .rw[a,vp]at q;unfold DK;cases e:Ka b g c d with
  |some n=>rw[e]at q;cases q
  |none=>exact cz<|bF aG aG
end
open _h (ci gH lm f8)
open Vbpcad (Cell within)
section
variable{P:bO}{w:bN}{K:aJ}{mg:aq->aR aB}{base:bf}{A:Ad}[Z:Zc P w K mg A]
def aeu(l:O α)(k:Nat):eX l (Y k) am=l.drop k:=by simp[eX,HT.yP,HT.ui,JI]
structure Rn where
 k:Int
 lo:Int
 hi:Int
 r:Int
 m:Int
 x:Int
 y:Int
 p:Int
 c:Int
 w:Int
abbrev Rn.l(n:Rn)(C:O Int):O Int:=n.k::n.lo::n.hi::n.r::n.m::n.x::n.y::n.p::n.c::n.w::C
abbrev Rn.g(n:Rn):iN:=⟨n.k.toNat,n.lo.toNat,n.hi.toNat,n.r.toNat,n.m.toNat,n.x,n.y,n.p.toNat,n.c.toNat,n.w.toNat⟩
abbrev fC(n c:Int):Int:=rf (decide (0<=n)&&decide (n<c)) (-10)
abbrev ml(b:bC)(n:Rn)(cs:O (Int×Int)):Int:=nr<|[oF b n.k n.lo n.hi n.r 2,rf (within 1 n.m 1000000000) (-6),m_ n.x n.y n.p n.c n.w]++cs.flatMap λq=>[fC q.1 n.c,fC q.2 n.w]
def Im{b:bC}{n:Rn}{cs:O (Int×Int)}(h:cs.length<=2):Gy base 4 174 "cells_refusal" [ba K A b,nums<|n.l<|fA cs] (int<|ml b n cs):=by
 refine gy ["board","numbers","refusals","i","j"] λq E G H=>?_;have f:∀{X:Cx}{g:En}{e:aT}{p q:bn}{t:Nat}{v:Int}(k:Nat),Ev X g e (nums<|n.l<|fA cs)->(n.l<|fA cs)[k]?=Y v->Ev X g (cR e (dX (.int (k:Int)) t p) q) (int v):=λk e j=>bW e aG (b8 (n:=k) U<|by rw[cT,j];rfl);let F:Nat->O Int:=λi=>[oF b n.k n.lo n.hi n.r 2,rf (within 1 n.m 1000000000) (-6),m_ n.x n.y n.p n.c n.w]++(cs.take i).flatMap λq=>[fC q.1 n.c,fC q.2 n.w]
 have o:∀i,(F i).length<=7:=λi=>by
  have:∀l:O (Int×Int),(l.flatMap λq=>[fC q.1 n.c,fC q.2 n.w]).length=2*l.length:=λl=>by induction l with
   |nil=>rfl
   |cons a l s=>rw[ER,cC,s];show 2+2*l.length=2*(l.length+1);omega
  show([_,_,_]++A9 _ _).length<=7;rw[cC,this,jr];show 3+_<=7;omega
 refine jl 2 (iY (ds:=[_,_,_])<|bM (aO He<|bM aw aE<|bX M.NC) (aO O_<|aS<|f 4 aE U)<|aO ab_<|si (f 5 aE U) (f 6 aE U) (f 7 aE U) (f 8 aE U)<|f 9 aE U) ?_;refine lz (λi=>[Y<|.aC<|ba K A b,Y<|.aC<|nums<|n.l<|fA cs,Y<|.own<|(F i).map int,am,am]) (ds:=cs.map<|ip K) (cK<|aO (wH aU)<|aS<|Ev.eq (d':=nums<|fA cs) (bu.ev<|fk (ds:=(n.l<|fA cs).map int) aE (.dW aG) .none_)<|bJ lst<|aeu _ 10) U (λi d u=>?_)<|jk 2 U<|bB (aO (wF (l:=F _))<|aS aM) ?_
 .obtain⟨q,z,rfl⟩:=cH u;have C:F (i+1)=F i++[fC q.1 n.c]++[fC q.2 n.w]:=by
   show _++A9 _ (je _ _)=_;rw[take_snoc z,J8,<-vf,vf<|F i];rfl
  have I:=o i;exact ly 3 4<|i3 2 (ds:=(F i).map int) (d:=int<|fC q.1 n.c) U (aO wK<|bF aV<|f 8 aE U) (jJ<|by rw[aI];omega)<|i3 2 (ds:=(F i).map int++[int<|fC q.1 n.c]) (d:=int<|fC q.2 n.w) U (aO wK<|bF bZ<|f 9 aE U) (jJ<|by rw[cC,aI];show _+1<=_;omega)<|fe cG ⟨aP U,aP U,aP (by show Y (Sl.own _)=Y (Sl.own _);rw[C,cN,cN];rfl),aW U,aW U,trivial⟩
 .rw[aI];show int (nr<|_++A9 _ (je _ _))=_;rw[ij];rfl
structure mn(b:bC)(n:Rn):Prop where
 k:0<=n.k/\n.k<=2
 l:1<=n.lo/\n.lo<=n.hi/\n.hi<=b.layers
 r:0<=n.r/\n.r<=1000000000
 m:1<=n.m/\n.m<=1000000000
 p:1<=n.p/\n.p<=1000000000
 c:1<=n.c/\n.c<=24
 w:1<=n.w/\n.w<=24
 i1:dh ⟨n.x,n.y⟩
 i2:dh ⟨n.x+(n.c-1)*n.p,n.y+(n.w-1)*n.p⟩
def zU(l:mW b)(h:¬ml b n cs<0):mn b n/\∀q∈cs,(0<=q.1/\q.1<n.c)/\(0<=q.2/\q.2<n.w):=by
 have k:=jK h;have e:=k (rf (within 1 n.m 1000000000) (-6)) au;have a:=k (m_ n.x n.y n.p n.c n.w) au;refine eR (HC l au<|k (oF b n.k n.lo n.hi n.r 2) au) λo s t=>?_;rw[uM au]at e;simp[within]at e
 delta m_ at a
 split at a
 .exact absurd au a
 .next f=>
  split at a
  .exact absurd au a
  .next j=>
   simp[within]at f j;have d:=C9 a;simp[within]at d;refine⟨⟨o,s,t,e,j,f.1,f.2,⟨d.1,d.2.1⟩,⟨d.2.2.1,d.2.2.2⟩⟩,λq u=>?_⟩;have g:=k (fC q.1 n.c)<|jS _<|vc.mpr ⟨q,u,au⟩;have i:=k (fC q.2 n.w) bh;rw[fC,uM au]at g i;simp at g i;exact⟨g,i⟩
section
variable{b:bC}{n:Rn}
def mn.ra(h:mn b n):mX (oO n.g):=by obtain⟨I,hl,hr,hm,hp,hc,hw,C,i2⟩:=h;refine⟨by show 1<=(n.p.toNat:Int);lia,by show(n.p.toNat:Int)<=_;lia,by show 1<=n.c.toNat;grind,by show n.c.toNat<=_;simp_all,by show 1<=n.w.toNat;grind,by show n.w.toNat<=_;simp_all,C,?_⟩;show dh ⟨n.x+n.p.toNat*(n.c.toNat-1),n.y+n.p.toNat*(n.w.toNat-1)⟩;grind
def mn.rg(h:mn b n)(C:_d.jz b):RG b n.g:=
 let⟨I,hl,hr,hm,hp,hc,hw,i1,i2⟩:=h
 ⟨C,by show 0<n.p.toNat;omega,by show 0<n.m.toNat;omega,by show n.c.toNat<=_;omega,by show n.w.toNat<=_;omega⟩
def mn.gap(h:mn b n):f8 n.g=n.r+n.m:=by have:=h.r;have:=h.m;show n.r.toNat+(n.m.toNat:Int)=_;lia
def mn.cell(C:(0<=q.1/\q.1<n.c)/\(0<=q.2/\q.2<n.w)):gH n.g (q.1.toNat,q.2.toNat)/\ci (q.1.toNat,q.2.toNat)=q:=
 ⟨⟨by show q.1.toNat<n.c.toNat;lia,by show q.2.toNat<n.w.toNat;lia⟩,Prod.ext (by show(q.1.toNat:Int)=_;lia)<|by show(q.2.toNat:Int)=_;lia⟩
end
def Io{b:bC}{n:Rn}{d:O Int}(h:mn b n):Gy base 3 175 "raster_of" [nums<|n.l d] (dB A<|oO n.g):=by refine gy ["numbers"] λq j m o=>?_;have a:∀{X:Cx}{f:En}{e:aT}{p q:bn}{t:Nat}{v i:Int}(k:Nat),Ev X f e (nums<|n.l d)->(n.l d)[k]?=v->v=i->Ev X f (cR e (dX (.int k) t p) q) (int i):=λk e s q=>q▸bW e aG (b8 U bG);have u:=h.p;have x:=h.c;have y:=h.w;exact bI<|gv ach (si (a 5 aw U U) (a 6 aw U U) (a 7 aw U<|show n.p=n.p.toNat by lia) (a 8 aw U<|show n.c=n.c.toNat by lia)<|a 9 aw U<|show n.w=n.w.toNat by lia)<|.mk h.ra
def Ip{b:bC}{n:Rn}{c:O Int}(h:mn b n):Gy base 9 176 "ground_of" [ba K A b,nums<|n.l c] (fR K A<|uS b n.g):=by refine gy ["board","numbers","obstacles"] λq s i u=>?_;have a:∀{X:Cx}{d:En}{e:aT}{p q:bn}{t:Nat}{v f:Int}(k:Nat),Ev X d e (nums<|n.l c)->(n.l c)[k]?=Y v->v=f->Ev X d (cR e (dX (.int k) t p) q) (int f):=λk e j q=>q▸bW e aG (b8 U<|by rw[cT,j];rfl);have x:=h.k;have y:=h.l;have z:=h.r;have C:=h.m;have o:=h.gap;refine bz 2 (aO PF<|kg aw (a 0 aE U<|show n.k=n.k.toNat by lia) (a 1 aE U<|show n.lo=n.lo.toNat by lia)<|a 2 aE U<|show n.hi=n.hi.toNat by lia) ?_;exact bI<|gv aci (bM (i4 M aw) aM<|Ev.eq (d':=int<|f8 n.g) (cY (a 3 aE U U)<|a 4 aE U U)<|o▸U)<|.mk (g:=uS b n.g) ⟨(fg<|i _<|.head _).out,by show 1<=f8 n.g;lia,by show f8 n.g<=_;lia⟩
inductive DM K A:List Rp->Rp->Prop
 |mk {d':Rp}:DM K A [ba K A b,nums (n.l []),d'] (nums (if ml b n []<0 then[ml b n []]else((ET b n.g).length)::(ET b n.g).map .ofNat))
def aev:Gz base 10 177 "call_raster" DM:=by
 refine gz ["board","numbers","row","refusal"] λq e f d c a g=>?_;cases c with|@mk b n i=>?_
 refine bz 3 (aO (Im (cs:=[]) au)<|bF aw aE)<|dg (bi<|e8 aV aG) (λh=>bB (cz<|aS aV)<|(aH<|cM h)▸U)<|λh=>?_;have h:=cX h;obtain⟨ok,_⟩:=zU (fg<|a _<|.head _) h;rw[aD h,<-aeo (ok.rg<|uJ<|a _<|.head _)];exact bI<|aO aed<|bF (aO (Io ok)<|aS aE)<|aO (Ip ok)<|bF aw aE
inductive DN K A:List Rp->Rp->Prop
 |mk {d':Rp}:DN K A [ba K A b,nums (n.l [i,j]),d'] (nums (if ml b n [(i,j)]<0 then[ml b n [(i,j)]]else((EU b n.g (i.toNat,j.toNat)).length)::(EU b n.g (i.toNat,j.toNat)).map .ofNat))
def aew:Gz base 10 178 "call_reach" DN:=by
 refine gz ["board","numbers","row","refusal"] λq k l d c a m=>?_;cases c with|@mk b n i j o=>?_
 refine bz 3 (aO (Im (cs:=[(i,j)])<|jT U)<|bF aw aE)<|dg (bi<|e8 aV aG) (λh=>bB (cz<|aS aV)<|(aH<|cM h)▸U)<|λh=>?_;have h:=cX h;obtain⟨ok,e⟩:=zU (fg<|a _<|.head _) h;obtain⟨f,g⟩:=mn.cell<|e (i,j) au;exact(aD h)▸bI (aO (aer (ok.rg<|uJ<|a _<|.head _) f)<|bM (aO (Io ok)<|aS aE) (aO (Ip ok)<|bF aw aE)<|Ev.eq (sR (bW aE aG<|b8 U U)<|bW aE aG<|b8 U U)<|bJ dz g.symm)
inductive DO K A:List Rp->Rp->Prop
 |mk {d':Rp}:DO K A [ba K A b,nums (n.l [i,j,a,c]),d'] (nums (if ml b n [(i,j),(a,c)]<0 then[ml b n [(i,j),(a,c)]]else DK b n.g (i.toNat,j.toNat) (a.toNat,c.toNat)))
def aex:Gz base 10 179 "call_way" DO:=by
 refine gz ["board","numbers","row","refusal","first"] λq p s d k f t=>?_;cases k with|@mk b n i j a e u=>?_
 refine bz 3 (aO (Im (cs:=[(i,j),(a,e)])<|jT U)<|bF aw aE)<|dg (bi<|e8 aV aG) (λh=>bB (cz<|aS aV)<|(aH<|cM h)▸U)<|λh=>?_;have h:=cX h;obtain⟨ok,g⟩:=zU (fg<|f _<|.head _) h;obtain⟨l,m⟩:=mn.cell<|g (i,j) au;obtain⟨v,o⟩:=mn.cell<|g (a,e) au;exact(aD h)▸bz 4 (Ev.eq (sR (c:=(i,j)) (bW aE aG<|b8 (n:=10) (x:=int i) U U)<|bW aE aG<|b8 (n:=11) (x:=int j) U U)<|bJ dz m.symm) (bI<|aO (aet (ok.rg<|uJ<|f _<|.head _) l)<|kg (aO (Io ok)<|aS aE) (aO (Ip ok)<|bF aw aE) bZ<|Ev.eq (sR (c:=(a,e)) (bW aE aG<|b8 (n:=12) (x:=int a) U U)<|bW aE aG<|b8 (n:=13) (x:=int e) U U)<|bJ dz o.symm)
def Ry{n:Int}:Gy base 1 181 "is_asking" [int n] (bl (oC.lookup n).isSome):=by refine gy ["number"] λq c d e=>?_;refine de D.oC λad f a b g _=>?_;exact bB (dF<|zm b aw<|or (v:=.ref ad) a U<|λ_=>U) bh
inductive RA K A:aq->List Rp->Rp->Prop
 |print (h:Hw K A ds d):RA K A "call_print" ds d
 |size (h:Hx K A ds d):RA K A "call_size" ds d
 |area (h:Hy K A ds d):RA K A "call_area" ds d
 |point (h:Hz K A ds d):RA K A "call_point" ds d
 |Rz (h:Df K A ds d):RA K A "call_between" ds d
 |may (h:HE K A ds d):RA K A "call_may" ds d
 |all (h:HF K A ds d):RA K A "call_all" ds d
 |room (h:HG K A ds d):RA K A "call_room" ds d
 |RB (h:HH K A ds d):RA K A "call_keepout" ds d
 |RD (h:HI K A ds d):RA K A "call_cutout" ds d
 |raster (h:DM K A ds d):RA K A "call_raster" ds d
 |reach (h:DN K A ds d):RA K A "call_reach" ds d
 |way (h:DO K A ds d):RA K A "call_way" ds d
inductive zV K A:List Rp->Rp->Prop
 |mk (e:oC.lookup n=Y nm) (h:RA K A nm [a,b,c] d):zV K A [a,int n,b,c] d
def aey:Gz base 13 182 "asked" zV:=by
 refine gz ["board","number","numbers","row","call"] λq e p d i s t=>?_;cases i with|@mk n nm a b c d j h=>?_
 obtain⟨ad,u,k,l,_,m⟩:=D.oC;obtain⟨g,o,f⟩:=m n nm j;refine bz 4 (C1 (d:=ref g) (v:=.ref g) l (or (v:=.ref ad) k U<|λ_=>U) aE o U (λ_=>U)<|by exactλ_ _=>U) ?_;cases h with
 |print h=>exact bI<|l6 4 U acX f (e.mono bw) (bM aw aM aV) h
 |size h=>exact bI<|l6 4 U acY f (e.mono bw) (bM aw aM aV) h
 |area h=>exact bI<|l6 4 U acZ f (e.mono bw) (bM aw aM aV) h
 |point h=>exact bI<|l6 4 U ac0 f (e.mono bw) (bM aw aM aV) h
 |Rz h=>exact bI<|l6 4 U ac1 f (e.mono bw) (bM aw aM aV) h
 |may h=>exact bI<|l6 4 U ac2 f (e.mono bw) (bM aw aM aV) h
 |all h=>exact bI<|l6 4 U ac3 f (e.mono bw) (bM aw aM aV) h
 |room h=>exact bI<|l6 4 U ac4 f (e.mono bw) (bM aw aM aV) h
 |RB h=>exact bI<|l6 4 U ac5 f (e.mono bw) (bM aw aM aV) h
 |RD h=>exact bI<|l6 4 U ac6 f (e.mono bw) (bM aw aM aV) h
 |raster h=>exact bI<|l6 4 U aev f (e.mono bw) (bM aw aM aV) h
 |reach h=>exact bI<|l6 4 U aew f (e.mono bw) (bM aw aM aV) h
 |way h=>exact bI<|l6 4 U aex f (e.mono bw) (bM aw aM aV) h
end
open Vbpcad (Reading)
structure Da where
 x:az
 dx:az
 t:az
 c:az
 k:az
abbrev Da.L(a:Da):O az:=[a.x,a.t,a.c,a.k]
@[reducible]def DS:=eM×Int
abbrev DP(a:Da)(ov:V)(n:Int):O (aq×V):=[("thicknesses",.ref a.t),("outline",ov),("cuts",.ref a.c),("keeps",.ref a.k),("wrong_line",.int n)]
abbrev qP(K:aJ)(A:Ad)(o:aR (O Pt)):Rp:=opt<|o.map<|bU K A
abbrev mo(K:aJ)(A:Ad)(s:DS):Rp:=ins A.gw [("thicknesses",nums<|s.1.stack.map .ofNat),("outline",qP K A s.1.outline),("cuts",lst<|s.1.cuts.map<|bU K A),("keeps",lst<|s.1.keeps.map<|keep K A),("wrong_line",int s.2)]
structure fU K A(G H:Hp)(a:Da)(s:DS):Prop where
 g:∀b∈a.L,G b=am
 nd:a.L.Nodup
 x:∃ov,H a.x=Y (.ins A.gw a.dx<|DP a ov s.2)/\(qP K A s.1.outline).r G ov
 t:∃vs,H a.t=Y (.lst vs)/\bv G vs ((s.1.stack.map .ofNat).map int)
 c:∃vs,H a.c=Y (.lst vs)/\bv G vs (s.1.cuts.map<|bU K A)
 k:∃vs,H a.k=Y (.lst vs)/\bv G vs (s.1.keeps.map<|keep K A)
section
variable{K:aJ}{A:Ad}{G H G' H' G0 H0:Hp}{a:Da}{s:DS}
def fU.keep(d:fU K A G H a s)(g:aX G G')(h:∀b∈a.L,H' b=H b)(n:∀b∈a.L,G' b=am):fU K A G' H' a s:=by obtain⟨_,C,⟨ov,I,x2⟩,⟨ts,t1,t2⟩,⟨cs,c1,c2⟩,⟨ks,k1,k2⟩⟩:=d;have m:∀{b:az}{o:HO},b∈a.L->H b=Y o->H' b=Y o:=λhb e=>bG;exact⟨n,C,⟨ov,m (by simp[Da.L]) I,(qP K A _).mono g x2⟩,⟨ts,m (by simp[Da.L]) t1,t2.mono g⟩,⟨cs,m (by simp[Da.L]) c1,c2.mono g⟩,⟨ks,m (by simp[Da.L]) k1,k2.mono g⟩⟩
def fU.ne(d:fU K A G H a s):∀b∈a.L,H b≠am:=λb C=>by
 obtain⟨_,I,_,_,_,_⟩:=d;simp[Da.L]at C
 lia
def fU.grow(d:fU K A G H a s)(e:Ext G H G' H'):fU K A G' H' a s:=
 d.keep e.g (λb C=>by obtain⟨o,q⟩:=lw<|d.ne b C;rw[q,e.h _ _ q]) λb C=>e.f b (d.ne b C)<|d.g b C
abbrev oP(G H:Hp)(c:O az):Hp:=λb=>if b∈c then H b else G b
abbrev uT(H:Hp)(c:O az):Hp:=λb=>if b∈c then am else H b
def Iq(n:∀b∈c,G b=am):aX G (oP G H c):=λb o e=>by grind[oP]
def RE(S:aX G H):aX (oP G H c) H:=λb o e=>by
 delta oP at e
 split at e
 .lia
 .exact S _ _ e
def fU.is(d:fU K A G H a s)(g:aX G I)(h:∀b∈a.L,I b=H b):(mo K A s).r I (.ref a.x):=by
 obtain⟨_,nd,⟨ov,x1,x2⟩,⟨ts,t1,t2⟩,⟨cs,c1,c2⟩,⟨ks,k1,k2⟩⟩:=d;have m:∀{b:az}{o:HO},b∈a.L->H b=o->I b=o:=λhb e=>(h _ hb)▸e;refine vG a.x a.dx _ U (m (by simp[Da.L]) x1)<|λf q C=>?_;have C:=lookup_mem C;simp at C;obtain⟨rfl,rfl⟩|⟨rfl,rfl⟩|⟨rfl,rfl⟩|⟨rfl,rfl⟩|⟨rfl,rfl⟩:=C
 .exact⟨_,U,a.t,ts,U,m (by simp[Da.L]) t1,t2.mono g⟩
 .exact aY _ U<|(qP K A _).mono g x2
 .exact⟨_,U,a.c,cs,U,m (by simp[Da.L]) c1,c2.mono g⟩
 .exact⟨_,U,a.k,ks,U,m (by simp[Da.L]) k1,k2.mono g⟩
 .exact aY _ U U
def Ext.RF(x:Ext G0 H0 I H1)(n:∀b∈akF,H0 b=am)(y:Ext I (uT H1 akF) G2 H2):Ext G0 H0 G2 H2:=by
 have k:∀b,H0 b≠am->uT H1 akF b=H1 b:=λb C=>by grind[uT]
 refine⟨x.g.trans y.g,y.s,λb o e=>?_,λb C hg=>?_⟩
 .exact y.h _ _<|(k b ap)▸x.h _ _ e
 .refine y.f b ?_<|x.f b C hg;rw[k b C];let⟨o,e⟩:=lw C;rw[x.h _ _ e];simp
end
abbrev Sf(X:Cx)(A:Ad)(a:Da)(d:bV)(s:DS)(e:O bY)(P:Ends->Hp->Hp->Prop):Prop:=∀c H0 σ G H D,Ext c H0 G H->br H0 σ G H d->(∀b∈a.L,H0 b=am)->fU X.K A G H a s->P D c H0->wS X e D σ H
abbrev PR(K:aJ)(A:Ad)(a:Da)(s:DS)(d:Rp):Ends->Hp->Hp->Prop:=λD b H0=>∀v G H,Ext b H0 G H->Wf H->fU K A G H a s->d.r G v->D.rt v H
abbrev PX(K:aJ)(A:Ad)(a:Da)(b:bV)(s:DS):Ends->Hp->Hp->Prop:=λD c H0=>∀σ G H,Ext c H0 G H->br H0 σ G H b->fU K A G H a s->D.nx σ H
abbrev uU(s:DS)(o:aR eM):DS:=(o.getD s.1,s.2)
abbrev qQ(X:Cx)(A:Ad)(a:Da)(f:bV)(s:DS)(e:aT)(o:aR eM):Prop:=∀g H0 σ G H Q,Ext g H0 G H->br H0 σ G H f->(∀b∈a.L,H0 b=am)->fU X.K A G H a s->
 (∀d c,Ext g H0 d c->br H0 σ d c f->fU X.K A d c a (uU s o)->Q (.bl o.isSome) c)->wE X e σ H Q
abbrev w6(K:aJ)(A:Ad)(a:bV)(i:Nat)(s:DS):En:=(_b.rel a).set i<|mo K A s
abbrev RH(K:aJ)(A:Ad)(R:O Rp->DS->aR eM->Prop):Sp:=λvs H Q _=>∃G a us ds s o,vs=.ref a.x::us/\aX G H/\Wf H/\bv G us ds/\fU K A G H a s/\R ds s o/\
 ∀c b,Ext G (uT H a.L) c b->Wf b->fU K A c b a (uU s o)->Q (.bl o.isSome) b
structure DQ P w K A mg base k x ps R:Prop where
 ex:∃f a,mg x=Y (.ref f)/\k8 K (.ref f)=L/\Binds K a ps []/\fH P w K mg base iH k f a ps (RH K A R)
section
variable{X:Cx}{A:Ad}{a:Da}{i:Nat}{J oN:bV}{s s':DS}{fj a8 bD:O bY}{P:Ends->Hp->Hp->Prop}{c e e2:aT}{es:O aT}{ds:O Rp}{d:Rp}{ao p p1 p2:bn}{x y:aq}{o:aR eM}{k:Nat}{ps:O aq}{R:O Rp->DS->aR eM->Prop}
def qR(I:fT J)(h:∀o,Sv X oN a8 o->Sv X J fj o)(hr:Sf X A a oN s a8 P):Sf X A a J s fj P:=λE m u G H D x t n r f=>by
 refine h (.CL (λD E m=>∀u G H,Ext E m G H->br m u G H oN->wS X a8 D u H) λy k u G H z=>k u G H<|y.back z) (λE m u G H D x s k=>k u G H x s) G (oP m H a.L) u G H D
  ⟨aX.refl _,x.s,λb o e=>?_,λb l T=>T⟩ ⟨t.len,t.sub,t.wf,t.aC,λi ds C=>absurd C<|I i ds,λi j ds es a C=>absurd C<|I i ds⟩ λakF N Q v w=>?_
 .unfold oP at e;split at e
  .exact e
  .exact x.h _ _ e
 .have k:∀{b:az},b∉a.L->oP m H a.L b=m b:=λl=>aD l;have kn:∀{b:az},oP m H a.L b=am->m b=am:=λ{b}l=>by
   grind
  have nl:∀{b:az},m b≠am->b∉a.L:=λl z=>l<|n _ z;have x2:Ext G m N Q:=⟨v.g,v.s,λb o e=>v.h _ _ bh,λb l=>v.f b<|(k<|nl l)▸l⟩
  refine hr E m akF N Q D (x.back x2) ⟨w.len,w.sub,w.wf,w.aC,λi ds C=>be (w.own i ds C) λb vs q1 q2 q=>bG,w.iZ⟩ n (r.keep v.g (λb l=>?_) λb l=>?_) f
  .let⟨o,q⟩:=lw<|r.ne b l;rw[q,v.h b o<|by simp_all[oP]]
  .exact v.f b (by rw[oP,aH l];exact r.ne b l)<|r.g b l
def DR(hi:J[i]?=Y (Y<|.aC<|.ref a.x))(t:br H0 σ G H J)(r:fU X.K A G H a s):eU σ H (w6 X.K A J i s):=by
 refine⟨by rw[w6,fX];exact t.rel.len,λj q b=>?_⟩;obtain⟨rfl,e⟩|⟨h,e⟩:=get_set b
 .obtain rfl:=bL e;refine aL (t.aC j _ hi) λv f g=>?_;exact aY v f<|g▸r.is t.sub λ_ _=>U
 .exact t.rel.at_ j q e
def i9 i(hi:J[i]?=Y (Y<|.aC<|.ref a.x))(m:Tv X (w6 X.K A J i s) c q)(u:q=L->Sf X A a J s bD (PR X.K A a s' d))(v:q=aA->Sf X A a J s a8 (PR X.K A a s' d)):Sf X A a J s (kK c bD [] ao::a8) (PR X.K A a s' d):=λg h b G H D x t n r f=>
 wS.cons (kN pT eP il) (m b H H _ (DR hi t r) (aX.refl _) t.wf λj w l=>by
  have y:=Ext.hp t.sub w;cases q with
  |true=>exact u U g h b G j _ (x.trans y) (t.grow y l) n (r.grow y) f
  |false=>exact v U g h b G j D (x.trans y) (t.grow y l) n (r.grow y) f)
def iA(b:Ev X (bj J) e d):Sf X A a J s (nU e ao::a8) (PR X.K A a s d):=λl m g G H D x t n r f=>
 wS.last (jC pE)<|b g G H _ t.bj t.sub t.wf λv h j y w=>f v h j (x.trans y) w<|r.grow y
def aez i(hi:J[i]?=Y (Y<|.aC<|.ref a.x))(b:Ev X (w6 X.K A J i s) e (bl q)):Sf X A a J s (nU e ao::a8) (PR X.K A a s<|bl q):=λl m g G H D x t n r f=>
 wS.last (jC pE)<|b g H H _ (DR hi t r) (aX.refl _) t.wf λv u j y w=>f v G j (x.trans<|.hp t.sub y.h) w<|r.grow<|.hp t.sub y.h
def sU(b:qQ X A a J s e o):Sf X A a J s (nU e ao::a8) (PR X.K A a (uU s o)<|bl o.isSome):=λg h j G H D x t n r f=>
 wS.last (jC pE)<|b g h j G H _ x t n r λl m y q u=>f _ l m y q.wf u U
def zW i(g:DQ X.prog X.w X.K A X.mg X.base k x ps R)(l:cj k X.A)(m:fT J)(hi:J[i]?=Y (Y<|.aC<|.ref a.x))(q:fc X (bj J) es ds)(u:R ds s o)(h:Gn X x<|>ae)
  (z:Nv X i y<|>aa)
  (C:Se X (aK y p2) es<|>_r)(E:Bt X ao es<|>_r):
  qQ X A a J s (b0 (aK x p) (aK y p2::es) [] ao) o:=λG0 H0 I G H Q N t n r f=>by
 refine de g.ex λfa fd T hk hb F=>?_;refine wE.by (mP F l h.g T hk hb .nil iW (eO (gu z) pA) h.d C E) λw=>?_;refine aL (t.aC i _ hi) λv h1 akF=>?_;subst akF;refine aY (.ref a.x) h1<|q I G H _ t.bj t.sub t.wf λvs G1 H1 b j r1=>?_;show RH X.K A R _ H1 _ _;rw[eG];exact⟨G1,a,vs,ds,s,o,U,b.s,j,r1,r.grow b,u,λG2 H2 e2 w2 g2 _=>f G2 H2 (Ext.RF (N.trans b) n e2) (br.plain (t.grow b j) m e2.g e2.s w2) g2⟩
def zX(i j){m:az}{z:aq}(hj:J[j]?=Y (Y<|.aC<|.ref m))(g:DQ X.prog X.w X.K A X.mg X.base k z ps R)(hz:X.mg z=Y (.ref m))(akG:cj k X.A)(no:fT J)(hi:J[i]?=Y (Y<|.aC<|.ref a.x))(akH:fc X (bj J) es ds)(hR:R ds s o)
  (akI:Nv X j x<|>aa)
  (hN:Nv X i y<|>aa)
  (he:Se X (aK y p2) es<|>_r)(akJ:Bt X ao es<|>_r):
  qQ X A a J s (b0 (aK x p) (aK y p2::es) [] ao) o:=λG0 H0 q G H Q x0 t n r f akF st I=>by
 refine de g.ex λakL fd hm hk hb F=>?_;rw[hz]at hm;cases hm;refine aL (t.aC j _ hj) λv h1 C=>?_;subst C;refine aL (t.aC i _ hi) λv h3 C=>?_;subst C;refine nN<|bo (gu akI akF st q H (λv b=>v=.ref m/\b=H) I ⟨_,h1,U,U⟩) λu s1 E=>de E λv N I1 T e1 e2=>?_;subst e1 e2;rw[T];refine xI I1.ok.mod.pp hk (bo (eO (gu hN) pA he ao akF s1 q N (λh b=>∃us G',h=.ref a.x::us/\Ext G N G' b/\Wf b/\bv G' us ds) I1 ⟨.ref a.x,h3,akH q G N _ t.bj t.sub t.wf λh G1 H2 e1 w1 T=>tV h G1 U e1 w1 T⟩) λus s2 E=>be E λh H2 I2 rv w_=>de w_ λakK G2 eq l w2 r2=>⟨I2.hW,?_⟩) he akJ;subst eq;apply v9 F akG hb .nil iW I2 rv;rw[eG];exact⟨G2,a,akK,ds,s,o,U,l.s,w2,r2,r.grow l,hR,λG3 H3 e3 w3=>f G3 H3 (Ext.RF (x0.trans l) n e3)<|br.plain (t.grow l w2) no e3.g e3.s w3⟩
def aeA i(hi:J[i]?=Y (Y<|.aC<|.ref a.x))(m:Ev X (w6 X.K A J i s) c (bl q))(u:q=L->qQ X A a J s e o)(b:q=aA->o=am):qQ X A a J s (g9 .And [c,e] ao) o:=λz C g G H Q x t n r f=>
 wE.by (LC pE<|LB pE) λw=>m g H H _ (DR hi t r) (aX.refl _) t.wf λv G1 j E l I=>aY q I (by
  have y:=Ext.hp t.sub E.h;cases q with
  |true=>exact u U z C g G j _ (x.trans y) (t.grow y l) n (r.grow y) λN T x' t' r' _=>f N T x' t' r'
  |false=>
   have b:=b U;subst b;exactλw'=>f G j (x.trans y) (t.grow y l)<|r.grow y)
def aeB(m:Ev X (bj J) c (bl q))(u:q=aA->qQ X A a J s e o)(b:q=L->o=Y s.1):qQ X A a J s (g9 .Or [c,e] ao) o:=λz C g G H Q x t n r f=>
 wE.by (LD pE<|LB pE) λw=>m g G H _ t.bj t.sub t.wf λv h j y l E=>aY q E (by
  cases q with
  |false=>exact u U z C g h j _ (x.trans y) (t.grow y l) n (r.grow y) λI N T t' r' _=>f I N T t' r'
  |true=>
   have b:=b U;subst b;exactλw'=>f h j (x.trans y) (t.grow y l)<|r.grow y)
end
section
variable{K:aJ}{A:Ad}{G H:Hp}{a:Da}{s:DS}{v ov:V}
def fU.len(d:fU K A G H a s):(a.x≠a.t/\a.x≠a.c/\a.x≠a.k)/\(a.t≠a.c/\a.t≠a.k)/\a.c≠a.k:=by have:=d.nd;simp_all[Da.L]
abbrev DT(K:aJ)(A:Ad)(a:Da)(s:DS)(b:az)(d:Rp)(s':DS):Prop:=∀G H v,fU K A G H a s->d.r G v->∃vs,H b=Y (.lst vs)/\vs.length<bK/\fU K A G (upd H b<|.lst<|vs++[v]) a s'
def aeC{n:Nat}(h:s.1.stack.length<=40):DT K A a s a.t (int (n:Nat)) ({s.1 with stack:=s.1.stack++[n]},s.2):=λG H v d r=>by
 obtain⟨⟨c,u,w⟩,⟨e,f⟩,x⟩:=d.len;obtain⟨g,i,⟨ov,y,j⟩,⟨k,l,b⟩,⟨m,z,o⟩,⟨p,C,q⟩⟩:=d;refine⟨k,l,?_,g,i,⟨ov,by rw[aQ c];omega,j⟩,⟨_,bQ,?_⟩,⟨m,by rw[aQ e.symm];lia,o⟩,⟨p,by rw[aQ f.symm];lia,q⟩⟩
 .rw[b.length,aI,aI];exact p9 h bw
 .rw[cN,cN];exact b.append ⟨r,trivial⟩
def aeD{l:O Pt}(h:s.1.cuts.length<=40):DT K A a s a.c (bU K A l) ({s.1 with cuts:=s.1.cuts++[l]},s.2):=λG H v d r=>by
 obtain⟨⟨u,e,w⟩,⟨f,x⟩,i⟩:=d.len;obtain⟨g,j,⟨ov,y,k⟩,⟨m,z,n⟩,⟨o,p,b⟩,⟨q,C,t⟩⟩:=d;refine⟨o,p,?_,g,j,⟨ov,by rw[aQ e];omega,k⟩,⟨m,by rw[aQ f];omega,n⟩,⟨_,bQ,?_⟩,⟨q,by rw[aQ i.symm];lia,t⟩⟩
 .rw[b.length,aI];exact p9 h bw
 .exact cN▸(b.append ⟨r,trivial⟩)
def aeE{l:eF}(h:s.1.keeps.length<=40):DT K A a s a.k (keep K A l) ({s.1 with keeps:=s.1.keeps++[l]},s.2):=λG H v d r=>by
 let⟨⟨u,w,c⟩,⟨x,e⟩,f⟩:=d.len;let⟨g,i,⟨ov,y,j⟩,⟨m,z,n⟩,⟨o,C,p⟩,⟨q,t,b⟩⟩:=d;refine⟨q,t,?_,g,i,⟨ov,by rw[aQ c];omega,j⟩,⟨m,by rw[aQ e];omega,n⟩,⟨o,by rw[aQ f];lia,p⟩,⟨_,bQ,?_⟩⟩
 .rw[b.length,aI];exact p9 h bw
 .exact cN▸(b.append ⟨r,trivial⟩)
abbrev Ir(K:aJ)(A:Ad)(a:Da)(s:DS)(f:aq)(d:Rp)(s':DS):Prop:=∀G H v ov,fU K A G H a s->(qP K A s.1.outline).r G ov->d.r G v->fU K A G (upd H a.x<|.ins A.gw a.dx<|kO f v<|DP a ov s.2) a s'
def aeF{o:aR (O Pt)}:Ir K A a s "outline" (qP K A o) ({s.1 with outline:=o},s.2):=λG H v ov d _ r=>by obtain⟨⟨b,c,e⟩,_⟩:=d.len;obtain⟨g,f,_,⟨h,n,i⟩,⟨j,p,k⟩,⟨l,q,m⟩⟩:=d;exact⟨g,f,⟨v,bQ,r⟩,⟨h,by rw[aQ b.symm];lia,i⟩,⟨j,by rw[aQ c.symm];lia,k⟩,⟨l,by rw[aQ e.symm];lia,m⟩⟩
def RI:Ir K A a s "wrong_line" (int n) (s.1,n):=λG H v ov d b r=>by obtain⟨⟨c,e,f⟩,_⟩:=d.len;obtain⟨g,h,_,⟨i,p,j⟩,⟨k,q,l⟩,⟨m,t,o⟩⟩:=d;rw[r];exact⟨g,h,⟨ov,bQ,b⟩,⟨i,by rw[aQ c.symm];lia,j⟩,⟨k,by rw[aQ e.symm];lia,l⟩,⟨m,by rw[aQ f.symm];lia,o⟩⟩
end
section
variable{X:Cx}{A:Ad}{a:Da}{J:bV}{s s':DS}{a8:O bY}{P:Ends->Hp->Hp->Prop}{e:aT}{d:Rp}{ao p q1 kx q:bn}{x f:aq}{b:az}
def Iu i(no:fT J)(hi:J[i]?=Y (Y<|.aC<|.ref a.x))(cl:iV X.K A.gw)(na:dv X.K A.gw f)(hl:∀ov n,(DP a ov n).lookup f=Y (.ref b))(l:b∈[a.t,a.c,a.k])(he:Ev X (bj J) e d)(ha:DT X.K A a s b d s')(hr:Sf X A a J s' a8 P)
  (hN:Nv X i x<|>aa)
  (akF:Ab X (aK x p) f<|>_r)(akG:Ab X (cD (aK x p) f q1) "append"<|>_r)
  (akH:Fe X q [e]<|>_r)
  (akI:(kx.endLine==q.line)=L<|>_r)(u:Se X e []<|>_r)(akJ:Sw X (b0 (cD (cD (aK x p) f q1) "append" kx) [e] [] q) am ao.line<|>_r):
  Sf X A a J s (.Expr (b0 (cD (cD (aK x p) f q1) "append" kx) [e] [] q) ao::a8) P:=λG0 H0 C G H D y t n r g=>by
 refine aL (t.aC i _ hi) λv h3 akK=>?_;subst akK;refine aL r.x λov x1 x2=>?_;have akL:∃m,H b=Y (.lst m):=by
  simp at l;obtain rfl|rfl|rfl:=l
  .exact⟨_,r.t.choose_spec.1⟩
  .exact⟨_,r.c.choose_spec.1⟩
  .exact⟨_,r.k.choose_spec.1⟩
 have hb:b∈a.L:=ja _ l;obtain⟨akM,akN⟩:=akL;refine wS.cons (rW (yS AY Uu aif MB (L0 (gu hN) akF) (eO pE hZ u) akG akH akI u U) akJ) ⟨.ref a.x,h3,a.x,A.gw,a.dx,_,.ref b,U,x1,cl,na,hl _ _,aP ⟨U,akM,bR.of akN⟩,he C G H _ t.bj t.sub t.wf λv E H' z w q=>?_⟩;have I:=r.grow z;have N:=t.grow z w;refine b7 (ha E H' v I q) λm b1 Q b3=>?_;have j:=y.trans z;have T:=I.g b hb;refine qg b m v U U b1 Q<|hr G0 H0 C E _ D ⟨j.g,λc o e=>by rw[aQ<|λq=>by rw[q,T]at e;cases e];exact j.s _ _ e,λc o e=>by rw[aQ<|by grind only];exact j.h _ _ e,j.f⟩ (br.plain N no (aX.refl _) (λc o e=>by rw[aQ<|λq=>by rw[q,T]at e;cases e];exact N.sub _ _ e) (w.new λxs z=>by injection z with z;subst z;exact cC▸Q)) n b3 g
def Iw(i:Nat)(E:fT J)(hi:J[i]?=Y (Y<|.aC<|.ref a.x))(cl:iV X.K A.gw)(I:dv X.K A.gw f)(N:Ev X (bj J) e d)(Q:Ir X.K A a s f d s')(hr:Sf X A a J s' a8 P)
  (T:Nv X i x<|>aa)
  (akF:Sw X e (Y<|cD (aK x p) f q) ao.line<|>_r):Sf X A a J s (iC [cD (aK x p) f q] e ao::a8) P:=λG0 H0 l G H D y t n r g=>
 wS.cons (uh (gu T) pE akF) (N l G H _ t.bj t.sub t.wf λv m H' z w q=>by
  have k:=r.grow z;have C:=t.grow z w;have j:=y.trans z;refine aL (t.aC i _ hi) λu h3 akG=>?_;subst akG;refine aL k.x λov x1 x2=>?_;have hx:a.x∈a.L:=by simp[Da.L]
  have gb:=k.g _ hx;refine⟨.ref a.x,h3,a.x,A.gw,a.dx,_,U,x1,cl,I,by show 5<1000;simp,hr G0 H0 l m _ D ⟨j.g,λc o e=>by rw[aQ ap];exact j.s _ _ e,λc o e=>by rw[aQ<|by grind only];exact j.h _ _ e,j.f⟩ (br.plain C E (aX.refl _) (λc o e=>by rw[aQ ap];exact C.sub _ _ e)<|w.new λxs z=>nomatch z) n (Q m H' v ov k x2 q) g⟩)
def RJ i(m:fT J)(hi:J[i]?=Y (Y<|.aC<|.ref a.x))(h:Sv X (J.set i<|Y<|.aC<|mo X.K A s) a8 o):Sf X A a J s a8 (λD c H0=>Fits D c H0 o):=λc H0 k G H D y t n r g=>by
 have v:Ext c H0 _ H:=⟨y.g.trans<|Iq r.g,RE t.sub,y.h,λb j w=>by
  delta oP
  exact(aD λz=>j<|n b z)▸(y.f b j w)⟩
 refine aL (t.aC i _ hi) λu E C=>?_;subst C;have l:=(br.plain t m (Iq r.g) (RE t.sub) t.wf).set (i:=i)<|r.is (Iq r.g) λb j=>aH j;have e:k.set i (Y<|.ref a.x)=k:=by apply iO;grind-order
 rw[e]at l;exact h c H0 k _ H D v l g
end
section
variable{P:bO}{w:bN}{K:aJ}{A:Ad}{mg:aq->aR aB}{base:bf}{k:Nat}{x:aq}{st:bY}{N ps:O aq}{R:O Rp->DS->aR eM->Prop}
def aeG(T:l0 K mg x st ps)(S:im N ps (fv st))(C:∀ds s o,R ds s o->ds.length+1=ps.length)
  (h:∀f c l m s H E,cj k (XD P w K mg base N x st f c l m s H E).A->∀ds t o,R ds t o->(∀d∈ds,bA d)->bA (mo K A t)->∀a,Sf (XD P w K mg base N x st f c l m s H E) A a (ent N (.ref a.x::ds)) t (gL st)<|PR K A a (uU t o)<|bl o.isSome):
  DQ P w K A mg base (k+1) x ps R:=by
 refine be T.ex λf I hm F n=>?_;refine⟨f,I,hm,F.kp,n,F.ok S (λvs H Q E p=>by refine Kn p λG a z ds t o e _ _ r _ u _=>?_;rw[e,c_,r.length];exact C ds t o u) λc l m s H vs Q E hr p=>?_⟩;refine Kn p λG a z ds t o e y W r g u q=>?_;subst e;have s0:br H _ G H (ent N (.ref a.x::ds)):=sv (vs:=.ref a.x::z) ⟨U,r⟩ y W;have x0:Ext G (uT H a.L) G H:=⟨aX.refl _,y,λb o e=>by simp_all[uT],λ_ _ h=>h⟩
 refine aY _ eP (h f c l m s H E hr ds t o u r.pB ⟨_,_,g.is y λ_ _=>U⟩ a G _ _ G H _ x0 ⟨s0.len,s0.sub,s0.wf,s0.aC,λi ds h=>absurd h<|d7 i ds,λi j ds es b h=>absurd h<|d7 i ds⟩ (λb n=>by rw[uT,aH n]) g λv G' H' e w' g' hv=>?_);exact hv▸q G' H' e w' g'
end
section
variable{P:bO}{w:bN}{K:aJ}{mg:aq->aR aB}{base:bf}{A:Ad}[Z:Zc P w K mg A]
@[reducible]def qT[Z:Zc P w K mg A](base:bf)(k i:Nat)(x:aq)(R:aJ->Ad->O Rp->DS->aR eM->Prop):Prop:=DQ P w K A mg base k x (dw i)<|R K A
def sV N(h:∀q:Q7,cj k (XQ P w K mg base N x (top i) q).A->∀ds t o,R K A ds t o->(∀d∈ds,bA d)->bA (mo K A t)->∀a,N.Nodup->Sf (XQ P w K mg base N x (top i) q) A a (ent N (.ref a.x::ds)) t (gL<|top i) (PR K A a (uU t o)<|bl o.isSome))
  (S:im N (dw i) (fv<|top i)<|>alD)
  (b:(∀ds s o,R K A ds s o->ds.length+1=(dw i).length)<|>alO)(e:nameAt i=x<|>_r)(hi:i∈kl<|>alE):qT base (k+1) i x R:=
 aeG (Zc.at i x e hi) S b λf c a o s H E g ds t j l m n p=>h ⟨f,c,a,o,s,H,E⟩ g ds t j l m n p S.nd
end
abbrev aeH(C:az):Sp:=λvs H Q _=>∃x d,vs=[.ref x]/\H x=Y (.ins C d [])/\∀t c k a,H t=am->H c=am->H k=am->(⟨x,d,t,c,k⟩:Da).L.Nodup->a x=Y (.ins C d<|DP ⟨x,d,t,c,k⟩ .bH 0)->a t=Y (.lst [])->a c=Y (.lst [])->a k=Y (.lst [])->(∀b,b∉(⟨x,d,t,c,k⟩:Da).L->a b=H b)->Q .bH a
abbrev RK(P:bO)(w:bN)(K:aJ)(a:aq->aR aB)(c:bf)(A:Ad):Prop:=∃f b,a "Draft"=Y (.ref A.gw)/\Mk K A.gw f/\Binds K b ["self"] []/\fH P w K a c iH 1 f b ["self"] (aeH A.gw)
section
variable{P:bO}{w:bN}{K:aJ}{mg:aq->aR aB}{base:bf}{A:Ad}[Z:Zc P w K mg A]
def aeI:im ["self"] ["self"] (fv Oq):=⟨U,U,U,au,U,bw,bw⟩
def aeJ:RK P w K mg base A:=by
 obtain⟨f,y,C,G,F,d⟩:=Z.abZ.ex;refine⟨f,y,C,G,d,F.ok aeI (λN H Q E n=>fF n λx h e _=>e▸U) λakF A' akG s H N Q E hr n=>be n λx h e o q=>⟨_,eP,?_⟩⟩;subst e;refine wS.cons (uh (rR (i:=0) U (aP U) cq bw) (yO hZ) U) ⟨dI _,λt p=>⟨.ref x,U,x,A.gw,h,[],U,?_,M.kj,M.GJ,au,?_⟩⟩
 .exact(aQ<|f9 o p)▸o
 have j:x≠t:=f9 o p;refine wS.cons (uh (rR (i:=0) U (aP U) cq bw) yK U) ⟨.ref x,U,x,A.gw,h,_,U,bQ,M.kj,M.GK,by show 1<1000;simp,wS.cons (uh (rR (i:=0) U (aP U) cq bw) (yO hZ) U) ⟨dI _,λc g=>⟨.ref x,U,x,A.gw,h,[("thicknesses",.ref t),("outline",.bH)],U,?_,M.kj,M.GL,by show 2<1000;simp,?_⟩⟩⟩
 .rw[aQ<|λz=>by rw[<-z,bQ]at g;cases g];exact bQ
 have l:c≠x:=λz=>by rw[z,bQ]at g;cases g
 rw[aQ l,aQ l]at g;have u:c≠t:=λz=>by rw[z,bQ]at g;cases g
 rw[aQ u]at g;refine wS.cons (uh (rR (i:=0) U (aP U) cq bw) (yO hZ) U) ⟨dI _,λk a=>⟨.ref x,U,x,A.gw,h,[("thicknesses",.ref t),("outline",.bH),("cuts",.ref c)],U,?_,M.kj,M.GM,by show 3<1000;simp,?_⟩⟩
 .rw[aQ<|λz=>by rw[<-z,bQ]at a;cases a];exact bQ
 have m:k≠x:=λz=>by rw[z,bQ]at a;cases a
 rw[aQ m]at a;have ck:k≠c:=λz=>by rw[z,bQ]at a;cases a
 rw[aQ ck,aQ m,aQ m]at a;have v:k≠t:=λz=>by rw[z,bQ]at a;cases a
 rw[aQ v]at a;refine wS.cons (uh (rR (i:=0) U (aP U) cq bw) rT U) ⟨.ref x,U,x,A.gw,h,_,U,bQ,M.kj,M.CV,by show 4<1000;simp,λT s' I=>il T s' _ _ _ I<|q t c k _ p g a ?_ bQ ?_ ?_ ?_ λb d=>?_⟩
 .simp only[Da.L,tE,cU,jw,jx,Aq,not_false_eq_true,UB,and_true];exact⟨⟨j,l.symm,m.symm⟩,⟨u.symm,v.symm⟩,ck.symm⟩
 .rw[aQ j.symm,aQ j.symm,aQ v.symm,aQ j.symm,aQ u.symm,aQ j.symm,aQ j.symm];exact bQ
 .rw[aQ l,aQ l,aQ ck.symm,aQ l];exact bQ
 .rw[aQ m,aQ m];exact bQ
 .simp only[Da.L,cU,jw,jx,Aq]at d;rw[aQ d.1,aQ d.1,aQ d.2.2.2,aQ d.1,aQ d.2.2.1,aQ d.1,aQ d.1,aQ d.2.1]
end
section
variable{X:Cx}{A:Ad}{J:bV}{a8:O bY}{o:Out}{ao p p1 p2:bn}{x:aq}
def aeK(i:Nat)(m:RK X.prog X.w X.K X.mg X.base A)(akG:cj 2 X.A)(no:fT J)(hr:∀a,Sf X A a (J.set i<|Y<|.aC<|.ref a.x) (⟨[],am,[],[]⟩,0) a8<|λD C H0=>Fits D C H0 o)(hi:Lc X i x<|>ah)
  (hg:Gl X "Draft"<|>_r)(akH:Sw X (b0 (aK "Draft" p1) [] [] p2) (Y<|aK x p) ao.line<|>_r):Sv X J (iC [aK x p] (b0 (aK "Draft" p1) [] [] p2) ao::a8) o:=λC H0 σ G H D y s f=>by
 refine de m λfa fd hm hk g F=>?_;refine wS.cons (lU (i:=i) hi.d hi.n hi.l (Yp hk F akG hg hm g .nil iW cq) akH hi.f) λx j I akI N=>?_;refine cn x j U bQ<|λt c k u Q T akF nd h1 h2 h3 h4 h5=>⟨U,?_⟩;have q:∀{b:az},upd (upd H j<|.own x) x (.ins A.gw j []) b=am->H b=am/\b≠j:=λ{b}g=>by
  have z1:b≠x:=λz=>by rw[z,bQ]at g;cases g
  rw[aQ z1]at g;have z2:b≠j:=λz=>by rw[z,bQ]at g;cases g
  rw[aQ z2]at g;exact⟨g,z2⟩
 have E:∀b∈(⟨x,j,t,c,k⟩:Da).L,H b=am:=λb g=>by
  simp only[Da.L,cU,jw,jx]at g;rcases g with rfl|rfl|rfl|rfl
  .exact I
  .exact(q Q).1
  .exact(q T).1
  .exact(q akF).1
 have hd:j∉(⟨x,j,t,c,k⟩:Da).L:=λg=>by
  simp only[Da.L,cU,jw,jx]at g;rcases g with z|z|z|z
  .exact N z
  .exact(q Q).2 z.symm
  .exact(q T).2 z.symm
  .exact(q akF).2 z.symm
 have sm:aX H u:=λb o e=>by rw[h5 b (λz=>by rw[E b z]at e;cases e),aQ<|f9 e I,aQ<|f9 e akI];exact e
 have w':Wf u:=λb xs e=>by
  by_cases g:b∈(⟨x,j,t,c,k⟩:Da).L
  .simp only[Da.L,cU,jw,jx]at g;obtain rfl|rfl|rfl|rfl:=g
   .rw[h1]at e;cases e
   .rw[h2]at e;cases e;exact dI _
   .rw[h3]at e;cases e;exact dI _
   .rw[h4]at e;cases e;exact dI _
  .rw[h5 b g]at e;by_cases z:b=j
   .subst z;rw[aQ N,bQ]at e;cases e
   .rw[aQ (λz=>g<|by rw[z];simp[Da.L]),aQ z]at e;exact s.wf _ _ e
 have y1:Ext G H G u:=Ext.hp s.sub sm;exact hr ⟨x,j,t,c,k⟩ C H0 _ G u D (y.trans y1) ((s.grow y1 w').set (v:=.ref x) U) (λb g=>y.h.free<|E b g) ⟨λb g=>s.sub.free<|E b g,nd,⟨.bH,h1,U⟩,⟨[],h2,trivial⟩,⟨[],h3,trivial⟩,⟨[],h4,trivial⟩⟩ f
end
end _c
namespace _b
open PySem PySem.Spec _a
open PyProof.Rows hiding St
open Rp
section
variable{prog:bO}{w:bN}{A:eJ}{E:aB->bp->Prop}{s:bp}{j t:az}{n:Nat}{us:Array aB}
def aeL(c:s.heap.IsTupleIter j t n)(d:s.heap.IsTuple t us)(e:us[n]?=Y u)(q:∀h',h'.IsTupleIter j t (n+1)->AF j s.heap h'->Q u {s with heap:=h'}):aZ (bg prog w) A (EL<|.ref j) Q E s:=by refine b7 (id c) λk b f a=>?_;refine b7 d λl g _ h=>?_;obtain⟨m,i⟩:=h;refine a9<|JW c.typeIs Kb<|JY Kb c.typeIs ai1 ?_<|ai2 _;show aZ _ _ (A3 _ 0>>=_) _ _ s;refine a9<|rB b a U<|a9<|rB b a U<|a9<|o_ g i ?_;simp[e];refine a9<|ai3 b a au<|cF ⟨u,U,cF<|q _ ⟨_,xL _ b<|Obj.isFreed_of_fields<|ai4 a _,(Obj.cls_mapFields ..).trans f,?_⟩<|ai5 ..⟩;rw[ai4 a];simp[jc]
def RL(d:A.handled=am)(a:s.heap.IsTupleIter j t n)(f:s.heap.IsTuple t us)(g:us[n]?=am)(q:∀h' e,Heap.ExtBut j s.heap h'->(∃o,h'.get? e=Y o/\o.cls=.type "StopIteration")->E (.ref e) {s with heap:=h'}):aZ (bg prog w) A (EL<|.ref j) Q E s:=by
 refine b7 (id a) λl b p c=>?_;refine b7 f λu h _ i=>?_;obtain⟨m,k⟩:=i;refine a9<|JW a.typeIs Kb<|JY Kb a.typeIs ai1 ?_<|ai2 _;show aZ _ _ (A3 (.ref j) 0>>=_) _ _ s;refine a9<|rB b c U<|a9<|rB b c U<|a9<|o_ h k ?_;simp[g];refine a9<|UL<|a9<|ai3 b c au ?_;apply a9;refine a9 (JP (a9<|UM U<|JP (a9<|wpAny_handled ?_)<|by size_fits)<|by size_fits);first|rw[d]|delta d
 exact a9<|cF<|wpAny_throw<|q _ _ (((ai5 ..).extBut.push _).push _) ⟨_,fW _ U,U⟩
def DU{h h':bf}(x:h.IsTupleIter j t n)(k:∀o,h.get? j=Y o->h'.get? j=o):h'.IsTupleIter j t n:=aL x λo e r=>aY o (k o e) r
def Ix{h h':bf}(x:h.IsTuple t us)(k:∀o,h.get? t=Y o->h'.get? t=o):h'.IsTuple t us:=aL x λo e r=>aY o (k o e) r
def aeM(d:A.handled=am)(f:t≠j):Draws prog w A j [j,t] us.size (λi v=>us[i]?=v) (λi h=>h.IsTupleIter j t i/\h.IsTuple t us) where
 live:=λi h st=>aL st.1 λo e _=>⟨o,e⟩
 frame:=λi h c st k=>⟨DU st.1 λo=>k j au o,Ix st.2 λo=>k t au o⟩
 item:=λi s Q E g st q=>aeL st.1 st.2 (u:=us[i]) au λc a b=>q _ c s.toks au ⟨a,Ix st.2 λo=>(b.2 t f).trans⟩ b
 done:=λs Q E st=>RL d st.1 st.2 au
def aeN(a:A.handled=am)(b:us[n]?=am):Draws prog w A j [j,t] n (λ_ _=>True) (λi h=>i=n/\h.IsTupleIter j t n/\h.IsTuple t us) where
 live:=λi h st=>aL st.2.1 λo e _=>⟨o,e⟩
 frame:=λi h d st k=>⟨st.1,DU st.2.1 λo=>k j au o,Ix st.2.2 λo=>k t au o⟩
 item:=λi s Q E c st q=>absurd st.1 (fO c)
 done:=λs Q E st=>RL a st.2.1 st.2.2 b
end
set_option maxHeartbeats 1000000 in
def aeO (t:az) (us:Array aB) (n:Nat) (lB:aR az) (e:Array (aR aB)):
  Meets (Builtin.«enumerate.__new__» ⟨[.type "enumerate",.ref t],[]⟩) (λ_ R s=>s.heap.get? t=Y ⟨.type "tuple",lB,.seq us n,e⟩/\
   R (.ok<|.ret<|.ref (s.heap.push {cls:=.type "tuple_iterator",data:=.fields #[.ref t,.int 0 0]}).objs.size) {s with heap:=(s.heap.push {cls:=.type "tuple_iterator",data:=.fields #[.ref t,.int 0 0]}).push {cls:=.type "enumerate",data:=.fields #[.none,.bool aA,.ref s⁻¹,jc 0,.none,.none]}}):=
 .of_wp λprog w A R s h=>by
  obtain⟨f,g,d,i,os⟩:=s;obtain⟨a,h⟩:=h;have j:=sub_enumerate;have b:Heap.IsTuple (Shared.heap ⟨f,g,d,i,os⟩) t us:=⟨_,a,U,n,U⟩
  wp_walk using EJ a
  refine wpAny_stack_any λst=>cF ?_;split
  .rename_i c _ _ _ _ _;cases(c==pZ "enumerate")<;>wp_walk using EJ a,T9 b<;>exact⟨_,U,h⟩
  .wp_walk using EJ a,T9 b;exact⟨_,U,h⟩
def aeP{s:bp}(e:s.heap.IsTuple t us)
  (h:∀h',IsEnum h' (s⁻¹+1) s⁻¹ 0 .none->h'.IsTupleIter s⁻¹ t 0->(∀b o,s.heap.get? b=Y o->h'.get? b=o)->Q (.ref<|s⁻¹+1) {s with heap:=h'}):aZ (bg prog w) A (ju (.type "enumerate") [.ref t]) Q E s:=by
 obtain⟨⟨c,lB,l,f⟩,g,i,n,j⟩:=e;cases(i);cases(j);refine callType_new F.called_enumerate cq (F.typeCall_enumerate_1 _) (F.newCall_enumerate_1 _) (λk=>F.args_object_init_2 k _) F.entry_enumerate_new (aeO t us n lB f) ⟨g,?_⟩;have d:(s.heap.push {cls:=.type "tuple_iterator",data:=.fields #[.ref t,.int 0 0]}).objs.size=s⁻¹+1:=mE ..;rw[d];have a:=fW (s.heap.push {cls:=.type "tuple_iterator",data:=.fields #[.ref t,.int 0 0]}) (o:={cls:=.type "enumerate",data:=.fields #[.none,.bool aA,.ref s⁻¹,jc 0,.none,.none]}) U;rw[d]at a;exact⟨⟨_,a,U⟩,h _ a ⟨_,dO _<|fW _ U,U,U⟩ λb o x=>dO _<|dO _ x⟩
abbrev RM(K:aJ)(a:az):It:=
 ⟨λi H=>∃(b:O V)(x:V),cx K H a b/\b[i]?=x,λi H v c=>∃T x,v=.ref T/\H T=am/\c=upd H T (.tup [.int i,x])/\∀b,cx K H a b->b[i]?=x,λi H=>∃b,cx K H a b/\b.length<=i⟩
def aeQ{P:bO}{w:bN}{K:aJ}{akI:O aT}{kk:Nat}{akJ:bn}(a e it)(hn:a≠it)(c:e∉[it,a]):
  Turn P w K (jW akI kk akJ) (RM K a) [e,it] e (λi h=>(∃g,IsEnum h e it ((i:Nat)) g)/\h.IsTupleIter it a i) where
 mem:=au
 obj:=λi h⟨⟨g,c⟩,o,t,j,hd⟩b d=>by
  obtain z|z:=(show b=e\/b=it by simpa using d)
  .exact z▸⟨_,c,λv q=>nomatch q⟩
  .exact z▸⟨o,t,λv q=>by rw[hd]at q;simp at q⟩
 keep:=λi h y st k=>let⟨⟨g,c⟩,hi⟩:=st;⟨⟨g,k e au _ c⟩,DU hi λo=>k it au o⟩
 item:=by
  intro X C hw G j i aF s σ H E I hf st N;subst C hw G;let⟨⟨g,l⟩,m⟩:=st;let⟨xs,x,n,T⟩:=N;let⟨f,rv,p,hz⟩:=I.tuple n;let⟨u,hu,ru⟩:=rv.get T;have akF:e≠it:=λz=>c (by simp[z]);have akG:=cA l;have akK:it<s⁻¹:=
                      aL m λ_ q _=>
                      cA q
  have akL:i<f.toArray.size:=by have:=(dH.mp hu).1;simpa using this
  refine wpAny_pyNext_enum_itemD (aeM (A:=X.A.in1) (us:=f.toArray) (show X.A.in1.handled=am from I.ok.hd j) hn) l ⟨m,p⟩ akL akF c λv y tk hv t akM akN akR hk=>?_
  have hv:=by
   have e1:f.toArray[i]?=v:=hv;have e2:f.toArray[i]?=u:=by simpa using hu
   rw[e1]at e2;exact bL e2
  subst hv;refine aY _ U<|ah6 (s:={s with heap:=y,toks:=tk+1}) t λakH akO sb=>?_;have akP:f_ X.prog X.w (upd H s⁻¹<|.tup [.int i,x]) akH s⁻¹ (.tup [.int i,x]):=⟨by show 2<=bK;decide,[.int i tk,v],.cons ⟨_,U⟩<|.cons ru .nil,⟨_,(sb.2 _<|AH akG).trans akN,U,_,U⟩⟩
  have I1:Inv X aF σ (upd H s⁻¹<|.tup [.int i,x]) {s with heap:=akH,toks:=tk+1}:=I.CB (ch:=[e,it]) (λb ob d q=>(sb.2 b<|λz=>d<|by simp[z]).trans<|hk b ob (λz=>d<|by simp[z]) (λz=>d<|by simp[z]) q) hf (cg _) akP;refine jf (.ref s⁻¹) _ I1 U ⟨_,x,U,I.bS.fresh<|cg _,U,λys hy=>(I.Cc hy n)▸T⟩ ⟨⟨v,(show((i+1:Nat))=i+1 by lia)▸akO⟩,DU akM.1 λo=>(sb.2 it<|gk akF).trans⟩<|λb d=>?_
  have akQ:b<s⁻¹:=by
   obtain z|z:=(show b=e\/b=it by simpa using d)
   .exact z▸akG
   .exact z▸akK
  rw[aQ<|fO akQ];exact(hf b d).1
 done:=by
  intro X C hw G j i aF s σ H E I hf st N;subst C hw G;let⟨⟨g,l⟩,m⟩:=st;obtain⟨xs,n,T⟩:=N;let⟨f,rv,p,hz⟩:=I.tuple n;refine Bn (hf it au) λf0 f1 f2 f3 f4 f5=>?_;have hl:f.toArray[i]?=am:=by have:=rv.length;simp;simp_all
  exact wpAny_pyNext_enum_endD (aeN (A:=X.A.in1) (us:=f.toArray) (show X.A.in1.handled=am from I.ok.hd j) hl) l ⟨U,m,p⟩ λy eb=>⟨U,I.turned (t':=s.toks) (eb) f0 f1 f3 f4 f5⟩
 self:=λA i s Q E st h=>let⟨⟨_,c⟩,_⟩:=st;JT c h
section
variable{X:Cx}{J:En}{e:aT}{ds:O Rp}{p ao:bn}
def aeR(m:Gl X "enumerate")(n:X.mg "enumerate"=am)(t:PA X [e] u)(v:d9 [e] X.env=[(aA,eval e X.env)]<|>_r):
  PI X (jW elts kk akF) (b0 (aK "enumerate" p) [e] [] ao) (λσ H R=>u σ H λvs d=>∃a g,vs=[.ref a]/\cx X.K d a g/\R (RM X.K a) d):=by
 refineλi s σ H R I h=>rp<|lr I m n ah7<|p5 (bo (t ao i s σ H _ I h) λus c w=>be w λvs d f x y=>be y λa g A C q=>?_) v U;subst A;cases x with
 |cons r E=>
  cases E;rw[r];refine b7 (f.tuple C) λakG rv G hz=>?_;have j:=G;have k:a<c⁻¹:=
                      aL j λo N _=>
                      cA N
  have h2:c⁻¹+1≠a:=λq=>kX _<|ah2 (ahE _)<|q▸k;refine aeP j λQ T akH hk=>JT T ?_;have I2:Inv X i σ d {c with heap:=Q}:=f.kept hk;refine rH (c⁻¹+1) ([c⁻¹+1,c⁻¹]) _ _ d U I2 (aeQ a _ c⁻¹ (fO k) bG) bh (λb hb=>?_) q
  have l:c⁻¹<=b:=by
   obtain z|z:=(show b=c⁻¹+1\/b=c⁻¹ by simpa using hb)
   .exact z▸p8 _ _
   .exact z▸cg _
  exact f.og l<|f.bS.fresh l
def RN{K:aJ}{t:O aT}{u:Nat}{z:bn}(A:X.mg "enumerate"=am)(h:Ev X J e (tup X.K ds))(hl:ds.length<=bK<|>ai)(C:Gl X "enumerate"<|>_r)(l:d9 [e] X.env=[(aA,eval e X.env)]<|>_r):
  Iv X J (jW t u z) (b0 (aK "enumerate" p) [e] [] ao) (ds.mapIdx λi d=>tup K [int i,d]):=λI G H R E S W k=>
 wI.by (aeR C A (eO pE hZ l) l) λw=>h I G H _ E S W λv N Q m w1 z_=>be z_ λa b q1 c f=>cn a b ap (m.s.tup c) (λw'=>k _ N Q m w1 bG
  ⟨λi d H h s=>by
   rw[rd]at h;cases q:ds[i]? with
   |none=>rw[q]at h;contradiction
   |some n=>exact aL (f.get q) λv g _=>gq b v (s.tup c) g,λi d H x H' h s akF=>by
   refine de akF λT y q o qx qy=>?_;rw[rd]at h;cases j:ds[i]? with
   |none=>rw[j]at h;simp at h
   |some n=>
    rw[j]at h;simp at h;subst h;refine aL (f.get j) λv g hr=>?_;have:=qy b<|s.tup c;rw[g]at this;obtain rfl:=bL this;subst q qx;exact⟨_,.new s o,λw=>w.tup,T,_,U,cx.of bQ,U,n.mono (gM<|kc s o) hr,trivial⟩,λi H h s=>aY b (s.tup c)<|by rw[nK]at h;exact f.length▸h⟩)
end
end _b
namespace _c
open PySem PySem.Spec _a _b
open PyProof.Rows hiding St
open _b.Rp
open Vbpcaa (Pt turnOf inRange edges)
open Vbpcad (Keep)
open _d (Bx cr dS Ob)
open _h (bE Sd)
open Vbpcad (within)
open _e (ft bs dM)
section
variable{P:bO}{w:bN}{K:aJ}{mg:aq->aR aB}{base:bf}{A:Ad}[Z:Zc P w K mg A]
section
variable{X:Cx}{J:En}{o:aT}{ao:bn}{s:DS}
section
variable(M:Mc X.K mg A)
include M
def DV(h:Ev X J o (mo X.K A s))(a:Ab X o "thicknesses"<|>_r):Ev X J (cD o "thicknesses" ao) (nums<|s.1.stack.map .ofNat):=eV h M.kj M.GJ U a
def qU(h:Ev X J o (mo X.K A s))(a:Ab X o "outline"<|>_r):Ev X J (cD o "outline" ao) (qP X.K A s.1.outline):=eV h M.kj M.GK U a
def Iy(h:Ev X J o (mo X.K A s))(a:Ab X o "cuts"<|>_r):Ev X J (cD o "cuts" ao) (lst<|s.1.cuts.map<|bU X.K A):=eV h M.kj M.GL U a
def RO(h:Ev X J o (mo X.K A s))(a:Ab X o "keeps"<|>_r):Ev X J (cD o "keeps" ao) (lst<|s.1.keeps.map<|keep X.K A):=eV h M.kj M.GM U a
def Iz(h:Ev X J o (mo X.K A s))(a:Ab X o "wrong_line"<|>_r):Ev X J (cD o "wrong_line" ao) (int s.2):=eV h M.kj M.CV U a
end
end
def IA(h:∃a,x=.ref a):decide (x=V.bH)=aA:=ap
def RQ{α:Type}{f:α->Rp}(b:∀a G x,(f a).r G x->decide (x=.bH)=aA){o:aR α}(h:(opt<|o.map f).r G x):decide (x=.bH)=o.isNone:=by
 cases o with
 |none=>exact dm h
 |some a=>exact b a G x h
def RR l G x(h:(bU K A l).r G x):decide (x=.bH)=aA:=IA (let⟨_,a,_,_,e,_⟩:=h;⟨a,e⟩)
def uV(h:(lst ds).r G x):decide (x=.bH)=aA:=IA<|fF h λa _ e _=>⟨a,e⟩
def RS i G x(h:(int i).r G x):decide (x=.bH)=aA:=by cases h<;>lia
def IB{s:DS}:Gy base 1 209 "ends_with_copper" [mo K A s] (bl<|decide<|s.1.stack.length%2=1):=by refine gy ["draft"] λq a b c=>bB (dF<|fL (y_ (cO M.len<|DV M aw) aG au) aG) ?_;rw[aI,aI];congr 1;rw[jO];lia
abbrev lC(l:O Int):aR (O Pt):=if ko l=L then am else if(l.all λv=>within (-1000000000) v 1000000000)=L then(iB l)else am
def RT{l:O Int}:Gy base 2 210 "points_of" [nums l] (opt<|(lC l).map<|pts K):=by
 refine gy ["numbers","number"] λq e f i=>?_;refine dg (Tv.eq (q:=ko l) (Tw.tv<|fK (bi<|fL (y_ (cO M.len aw) aG au) aG)<|λh=>(iX<|dE<|b_<|aO O5<|aS<|uo (cO M.len aw) aG ⟨au,au⟩))<|by unfold ko;rw[Hc]) (λh=>bB kd<|by rw[lC,aH h];rfl)<|λh=>?_;have b:lC l=if(l.all λv=>within (-1000000000) v 1000000000)=L then Y (iB l)else am:=by rw[lC,aD<|by rw[h];simp]
 refine dg (dE<|Tv.eq (b_<|CP M.all (bs:=l.map λv=>within (-1000000000) v 1000000000)<|bu.ev<|eA.fw<|d6 (l:=l) (g:=λv=>bl<|within (-1000000000) v 1000000000) (own:=[("number",1)]) (cK aw) (dD U) (λv _=>aY _ (eu 1)<|λs j C k n=>(aO sG<|aS aE))<|by rw[c9];rfl)<|C6 _ _) (λa=>bB kd<|by rw[b,aD<|by simpa using a];rfl) (λa=>?_);have a:(l.all λv=>within (-1000000000) v 1000000000)=L:=by simpa using a
 refine b7 (wJ h) λm c o d=>?_;subst c;rw[b,aH a,pH];exact bI<|Ev.as (aO (wH d)<|aS aw) λ_ _=>zx<|Hb a
def RU(h:lC l=Y m):m≠[]/\m.length<=32:=by grind-order [lC,wJ,pH]
abbrev pN(ws:O (O Int)):aR (O Pt):=(gf ws).bind lC
abbrev oQ(ws:O (O Int)):aR (O Pt):=(pN ws).bind λl=>if pb l=L then(cP l)else am
def RV{ws:O (O Int)}(h:∀w∈ws,w≠[]):Gy base 10 211 "polygon_of_words" [lst<|ws.map nums] (qP K A<|oQ ws):=by
 refine gy ["words","numbers","points"] λq c f g=>bz 1 (aO (Hr h)<|aS aw)<|bz 2 (d:=opt<|(pN ws).map<|pts K) ?_ ?_
 .unfold pN;cases e:gf ws with
  |none=>exact h_ (p:=L) (bi<|gc aE λG x a=>dm a) (λ_=>kd)<|λz=>nomatch z
  |some l=>exact h_ (p:=aA) (bi<|gc (da:=nums l) aE λG x=>uV) (λz=>nomatch z)<|λ_=>aO RT<|cB (d:=nums l) aE eW
 .unfold oQ;cases e:pN ws with
  |none=>exact bI<|h_ (p:=L) (bi<|gc aM λG x a=>dm a) (λ_=>kd)<|λz=>nomatch z
  |some l=>
   have b:l≠[]/\l.length<=32:=by
    unfold pN at e;cases q:gf ws with
    |none=>rw[q]at e;cases e
    |some ns=>rw[q]at e;exact RU e
   refine bI<|h_ (p:=aA) (bi<|gc (da:=pts K l) aM λG x=>uV) (λz=>nomatch z)<|λ_=>Ev.eq (aO (acg b.1 b.2)<|cB (d:=pts K l) aM eW) ?_;show opt _=opt (.map _<|if _ then _ else _);split<;>rfl
abbrev kT(w:O Int):aR Nat:=(["track","via","part","all"]:O aq).findIdx? λx=>decide<|w=codes x
def aeS{l:O Int}:Gy base 2 217 "kind_of" [nums l] (opt<|(kT l).map λn=>int (n:Nat)):=by
 refine gy ["word","kind","name"] λq h u v=>?_;have c:=(h.mono<|dI _).units;let z:O aq:=["track","via","part","all"]
 have f:∀x∈z,x.cps.toList.length<=bK:=by
  intro x b;have:x.cps.toList.length<=5:=by simp only[z,cU,jw,jx]at b;rcases b with rfl|rfl|rfl|rfl<;>decide
  exact cS this bw
 have get:∀{n:Nat}{d:Rp},((z.map str).mapIdx λi d=>tup K [int i,d])[n]?=Y d->∃x∈z,z[n]?=Y x/\d=tup K [int n,str x]:=λ{n d}a=>by
  rw[rd,cT]at a;cases e:z[n]? with
  |none=>rw[e]at a;cases a
  |some x=>rw[e]at a;obtain rfl:=bL a;exact fQ x (eD e) U U
 cases e:kT l with
 |none=>
  refine lz (λ_=>[Y<|.aC<|nums l,am,am]) (RN (ds:=z.map str) (K:=K) M.enumerate<|sE D.GQ λG=>⟨U,U,U,U,trivial⟩) U (λn d a=>?_)<|bI kd;obtain⟨x,b,_,rfl⟩:=get a;exact ly 1 2<|iI (Tv.eq (bi<|oA (x:=l) (y:=codes x) sD.list c aw<|iu uL (aS aM)<|.mk<|f x b)<|ai6.mp e x b)<|fe cG
 |some n=>
  refine aL (ai7.mp e) λg j k=>?_;have m:z[n]?=Y z[n]:=dq g;refine Z_ n (dn:=tup K [int n,str z[n]]) (by rw[rd,cT,m];rfl) (λ_=>[Y<|.aC<|nums l,am,am]) (RN (ds:=z.map str) (K:=K) M.enumerate<|sE D.GQ λG=>⟨U,U,U,U,trivial⟩) U (λi d o a=>?_) ?_
  .refine b7 (get a) λx b p s=>?_;subst s;have t:decide (l=codes x)=aA:=by have:=k i o;rw[xp]at this;rw[<-this,<-(dH.mp p).2]
   exact ly 1 2<|iI (Tv.eq (bi<|oA (x:=l) (y:=codes x) sD.list c aw<|iu uL (aS aM)<|.mk<|f x b) t)<|fe cG
  .exact ly 1 2<|kh (Tv.eq (bi<|oA (x:=l) (y:=codes z[n]) sD.list c aw<|iu uL (aS aM)<|.mk<|f _<|A8 g) j)<|bI aE
end
open Vbpcaa (Pt normal)
open Vbpcad (within Reading boardLine coords points)
open VbpcText (text number integer Bytes)
abbrev gY(ws:O (O Int)):Prop:=∀w∈ws,w≠[]/\dM w
def gY.tail(h:gY (w::ws)):gY ws:=λx C=>h x bh
def gY.head(h:gY (w::ws)):ft w=Az (bs w):=_e.Wm (h w<|ig ..).2 (h w<|ig ..).1
def DW lo z hi:(lo<=z/\z<=hi)↔within lo z hi=L:=by simp[within]
def zY lo hi b:nQ lo hi b=(Az b).bind λz=>if within lo z hi=L then Y z else am:=by
 unfold nQ;congr 1;funext z;by_cases h:within lo z hi=L
 .rw[aH h,aH<|(DW ..).mpr h]
 simp[DW]
def uW w ws:gf (w::ws)=(ft w).bind λa=>(gf ws).map λl=>a::l:=by
 unfold gf;rw[UZ];cases ft w with
 |none=>rfl
 |some a=>cases List.mapM ft ws<;>rfl
def aeT(lo hi:Int):∀{ws:O (O Int)},gY ws->(ws.map bs).mapM (nQ lo hi)=(gf ws).bind λl=>if(l.all λv=>within lo v hi)=L then Y l else am:=by
 intro b h
 induction b with
 |nil=>exact U
 |cons w ws c=>
  rw[eQ,UZ,c h.tail,uW,zY,<-h.head];cases ft w with
  |none=>rfl
  |some a=>
   simp only[gB,Option.bind_eq_bind];cases gf ws with
   |none=>cases within lo a hi<;>rfl
   |some l=>
    grind
def IC:∀{l:O Int},l.length%2=1->A7 l=am
 |[],h=>by simp_all
 |[_],_=>rfl
 |a::b::l,h=>by rw[A7,IC bh];rfl
def RW{ws:O (O Int)}(h:gY ws):pN ws=(qd<|ws.map bs).bind λl=>if decide (1<=l.length/\l.length<=32)=L then Y l else am:=by
 unfold pN qd;rw[show(pX:Int)=1000000000 from U,aeT _ _ h];cases gf ws with
 |none=>rfl
 |some l=>
  simp only[gB];unfold lC;cases b:(l.all λv=>within (-1000000000) v 1000000000)with
  |false=>cases ko l<;>rfl
  |true=>
   simp only[xw,gB];cases a:ko l with
   |false=>
    grind-order [wJ,zw,pH,gB,aI,decide_eq_true]
   |true=>
    rw[aH U];unfold ko within at a;simp only[tu,fr,my,UY,tM]at a;grind[IC,C8,zw,gB,aI,decide_eq_false,C7]
def RX{ws:O (O Int)}(h:gY ws):oQ ws=(qd<|ws.map bs).bind λl=>if pb l=L then Y (cP l)else am:=by
 unfold oQ;rw[RW h];cases qd (ws.map bs)with
 |none=>rfl
 |some l=>
  simp only[gB];by_cases q:1<=l.length/\l.length<=32
  .grind
  .rw[kF q,aD (show¬pb l=L fromλz=>q (by
    unfold pb at z
    (simp_all[Be];lia)))];rfl
structure jL(s:eM):Prop where
 gK:s.stack.length<=16
 ow:∀t∈s.stack,t<=10000000
 out:∀o,s.outline=Y o->3<=o.length/\s.stack.length%2=1
 cuts:s.cuts.length<=8
 cut:∀c∈s.cuts,3<=c.length
 keeps:s.keeps.length<=32
 lay:∀k∈s.keeps,s.outline.isSome=L/\k.hi<=(s.stack.length+1)/2
def RY s w:eh s [cQ "copper",w]=if s.outline.isNone=L/\s.stack.length%2=0/\s.stack.length<2*Vbpcad.LAYERS then(nQ 1 Bf w).map λt=>{s with stack:=s.stack++[t.toNat]}else am:=by unfold eh;rfl
def RZ s(h:c.length≠1):eh s (cQ "copper"::c)=am:=by
 obtain _|⟨a,_|⟨b,r⟩⟩:=c
 .rfl
 .exact absurd U h
 .rfl
def R0 s w:eh s [cQ "core",w]=if s.outline.isNone=L/\s.stack.length%2=1 then(nQ 1 Bf w).map λt=>{s with stack:=s.stack++[t.toNat]}else am:=U
def R1 s(h:c.length≠1):eh s (cQ "core"::c)=am:=by
 obtain _|⟨a,_|⟨b,r⟩⟩:=c
 .rfl
 .exact absurd U h
 .rfl
def R3 s r:eh s (cQ "outline"::r)=if s.outline.isNone=L/\s.stack.length%2=1 then(qd r).bind λl=>if pb l=L then Y {s with outline:=Y<|cP l}else am else am:=U
def R4(h:s.outline=am)r:eh s (cQ "cut"::r)=am:=by unfold eh;dsimp only;rw[aD bw,aD bw,aD bw,aH U,h]
def R5(h:s.outline=Y o)r:eh s (cQ "cut"::r)=(qd r).bind λl=>if pb l=L/\s.cuts.length<qe/\lN o s.cuts l=L then Y {s with cuts:=s.cuts++[cP l]}else am:=by
 unfold eh;dsimp only;rw[aD bw,aD bw,aD bw]
 lia
def nE(h:s.outline=am\/a.length<4):eh s (cQ "keep"::a)=am:=by unfold eh;dsimp only;rw[aD bw,aD bw,aD bw,aD bw];grind
def ID(h:s.outline=Y o)w a b c ws:eh s (cQ "keep"::w::a::b::c::ws)=
  ((nQ 1 (((s.stack.length+1)/2:Nat):Int) a).bind λlo=>(nQ lo (((s.stack.length+1)/2:Nat):Int) b).bind λhi=>(nQ 0 pX c).bind λm=>(qd ws).bind λl=>
     if tO.contains w=L/\l.length<=Be/\k_ l=L/\s.keeps.length<EV then
      Y {s with keeps:=s.keeps++[⟨(tO.takeWhile λx=>decide<|x≠w).length,lo.toNat,hi.toNat,⟨m.toNat,cP l⟩⟩]}
     else am):=by
 unfold eh;dsimp only;rw[aD bw,aD bw,aD bw,aD bw];simp_all
open Vbpcad (within Reading boardLine coords)
section
variable{P:bO}{w:bN}{K:aJ}{mg:aq->aR aB}{base:bf}{A:Ad}[Z:Zc P w K mg A]
abbrev sW(s:eM)(ws:O (O Int)):aR eM:=match gf ws with
 |some [n]=>if within 1 n 10000000=L then Y {s with stack:=s.stack++[n.toNat]}else am
 |_=>am
inductive R6(K:aJ)(A:Ad):List Rp->DS->Option eM->Prop
 |mk (h:gY ws) (a:s.1.stack.length<=40):R6 K A [lst (ws.map nums)] s (sW s.1 ws)
def no1:fT [Y<|.aC d]:=dQ sS
def no2:fT [Y<|.aC d,Y<|.aC d']:=dQ no1
def R7:fT [Y<|.aC d,Y<|.aC d',Y<|.aC a]:=dQ no2
def R8:qT base 3 212 "read_thickness" R6:=by
 refine sV ["draft","words","numbers"] λq v y st o f C E a H=>?_;cases f with|@mk ws s h g=>?_
 refine qR d7 (λo k=>bz 2 (aO (Hr λw i=>(h w i).1)<|aS aE) k) ?_;unfold sW
 match e:gf ws with
 |none=>exact i9 0 U (q:=L) (Tw.tv<|fK (p:=L) (q:=aA) (bi<|gc aM λG x b=>dm b)<|λz=>nomatch z) (λ_=>iA df)<|λz=>nomatch z
 |some []=>exact i9 0 U (q:=L) (Tw.tv<|fK (p:=aA) (q:=L) (bi<|gc (da:=nums []) aM λG x b=>uV b)<|λ_=>fK (p:=L) (q:=aA) (bi<|qw (cO M.len (ds:=[]) aM) aG)<|λz=>nomatch z) (λ_=>iA df)<|λz=>nomatch z
 |some (m::n::l)=>exact i9 0 U (q:=L) (Tw.tv<|fK (p:=aA) (q:=L) (bi<|gc (da:=nums (m::n::l)) aM λG x b=>uV b)<|λ_=>fK (p:=L) (q:=aA) (Tv.eq (bi<|qw (cO M.len (ds:=(m::n::l).map int) aM) aG)<|by simp[aI,c_,c_,my,tM];lia)<|λz=>nomatch z) (λ_=>iA df)<|λz=>nomatch z
 |some [n]=>
  have c:∀{X:Cx}{d:En}{p q j:bn}{t:Nat},Ev X d (aK "numbers" p) (nums [n])->Ev X d (cR (aK "numbers" p) (dX (.int 0) t q) j) (int n):=λe=>bW e aG<|b8 U U;refine i9 0 U (q:=!within 1 n 10000000) (Tw.tv<|fK (p:=aA) (q:=!within 1 n 10000000) (bi<|gc (da:=nums [n]) aM λG x b=>uV b)<|λ_=>fK (p:=aA) (bi<|qw (cO M.len (ds:=[int n]) aM) aG)<|λ_=>iX<|dE<|b_<|aO ab3<|aS<|c aM) (λq=>?_)<|λq=>?_
  .dsimp only;rw[aD<|by simpa using q];exact iA df
  .have q:within 1 n 10000000=L:=by simpa using q
   dsimp only;rw[aH q];have u:int n=int (n.toNat:Nat):=by unfold within at q;simp only[c6,fr]at q;congr 1;lia
   exact Iu 0 R7 U M.kj M.GJ (λ_ _=>U) au (Ev.eq (c aM) u) (aeC g)<|iA df
def R9{ws:O (O Int)}s(h:ws.length≠1):sW s ws=am:=by
 unfold sW
 have:∀{l:O Int},gf ws=l->l.length=ws.length:=λ{l}e=>by
  clear h
  induction ws generalizing l with
  |nil=>obtain rfl:=bL e;rfl
  |cons w ws b=>
   rw[uW]at e;cases q:ft w with
   |none=>grind
   |some a=>
    rw[q,gB]at e;cases c:gf ws<;>grind-ring
 grind
def R_ s{w:O Int}(h:gY [w]):sW s [w]=(nQ 1 Bf<|bs w).map λt=>{s with stack:=s.stack++[t.toNat]}:=by
 rw[sW,uW,zY,<-h.head];cases ft w with
 |none=>rfl
 |some n=>
  show(if _ then _ else _)=U4 _ _;grind[Bf]
inductive R'(K:aJ)(A:Ad):List Rp->DS->Option eM->Prop
 |mk (h:gY ws) (a:jL s.1):R' K A [lst (ws.map nums)] s (eh s.1 (cQ "copper"::ws.map bs))
def aeW(h:gY ws):eh s (cQ "copper"::ws.map bs)=if s.outline.isNone=L/\s.stack.length%2=0/\s.stack.length<16 then sW s ws else am:=by
 by_cases a:ws.length=1
 .obtain⟨w,rfl⟩:=Kc.mp a;exact(R_ s h)▸RY s _
 simp_all[R9,RZ]
def aeX(h:gY ws):eh s (cQ "core"::ws.map bs)=if s.outline.isNone=L/\s.stack.length%2=1 then sW s ws else am:=by
 by_cases a:ws.length=1
 .obtain⟨w,rfl⟩:=Kc.mp a;simp_all[R_,R0]
 simp_all[R9,R1]
def qV(h:(qP K A o).r G x):decide (x=.bH)=o.isNone:=RQ RR h
def aeY:qT base 4 213 "read_copper" R':=by
 refine sV ["draft","words"] λq b i st o c j k a l=>?_;cases c with|@mk ws st h d=>?_
 rw[aeW h];refine i9 0 U (q:=!st.1.outline.isNone||decide (st.1.stack.length%2=1)) (Tw.tv (fK (bi (ur (qU M aw) λG x e=>by rw[qV e]))<|λ_=>iX<|b_<|aO IB<|aS aw)) (λq=>?_)<|λq=>?_
 .rw[aD]
  .exact iA df
  .rintro⟨f,m,_⟩;rw[f]at q;simp at q
   lia
 .simp only[pV,jU,tM]at q;refine sU<|aeA 0 U (q:=decide<|st.1.stack.length<16) (Ev.eq (dF<|e8 (aO wD<|aS<|DV M aw)<|bX M.aay) ?_) (λz=>?_)<|λz=>?_
  .congr 1;rw[aI,jO];lia
  .rw[aH ⟨q.1,ap,cM z⟩];exact zW 0 R8 (b.mono bw) d7 U (aS aE)<|.mk h (by have:=d.gK;omega)
  .rw[aD];rintro⟨_,_,g⟩;exact cX z g
inductive Sa(K:aJ)(A:Ad):List Rp->DS->Option eM->Prop
 |mk (h:gY ws) (a:jL s.1):Sa K A [lst (ws.map nums)] s (eh s.1 (cQ "core"::ws.map bs))
def aeZ:qT base 4 214 "read_core" Sa:=by
 refine sV ["draft","words"] λq b g st o c i j a k=>?_;cases c with|@mk ws st h d=>?_
 rw[aeX h];refine i9 0 U (q:=!st.1.outline.isNone||!decide (st.1.stack.length%2=1)) (Tw.tv (fK (bi (ur (qU M aw) λG x e=>by rw[qV e]))<|λ_=>iX<|dE<|b_<|aO IB<|aS aw)) (λq=>?_)<|λq=>?_
 .rw[aD]
  .exact iA df
  .rintro⟨f,l⟩;rw[f]at q;simp at q
   lia
 .simp only[pV,jU,fr]at q;exact(aH q)▸(sU<|zW 0 R8 (b.mono au) d7 U (aS aE)<|.mk h (by have:=d.gK;grind))
inductive Sb(K:aJ)(A:Ad):List Rp->DS->Option eM->Prop
 |mk (h:gY ws) (a:jL s.1):Sb K A [lst (ws.map nums)] s (eh s.1 (cQ "outline"::ws.map bs))
def ae0(h:gY ws):eh s (cQ "outline"::ws.map bs)=if s.outline.isNone=L/\s.stack.length%2=1 then(oQ ws).map λl=>{s with outline:=l}else am:=by rw[R3,RX h];cases qd (ws.map bs)<;>simp_all
def ae1:qT base 11 215 "read_outline" Sb:=by
 refine sV ["draft","words"] λq j k st o c m p a s=>?_;cases c with|@mk ws st h t=>?_
 rw[ae0 h];refine i9 0 U (q:=!st.1.outline.isNone||!decide (st.1.stack.length%2=1)) (Tw.tv (fK (bi (ur (qU M aw) λG x b=>by rw[qV b]))<|λ_=>iX<|dE<|b_<|aO IB<|aS aw)) (λq=>?_)<|λq=>?_
 .rw[aD]
  .exact iA df
  .rintro⟨d,u⟩;rw[d]at q;simp at q
   lia
 .simp only[pV,jU,fr]at q;rw[aH q];have e:st.1.outline=am:=EW.mp q.1;have f:uU st ((oQ ws).map λl=>{st.1 with outline:=Y l})=({st.1 with outline:=oQ ws},st.2):=by
   obtain⟨⟨v,g,y,z⟩,n⟩:=st;cases(show g=am from e);cases oQ ws<;>rfl
  rw[f,vp];refine Iw 0 d7 U M.kj M.GK (aO (RV λw i=>(h w i).1)<|aS aE) aeF<|aez 0 U<|dF<|ur (qU M aw) λG x b=>?_;rw[qV b];cases oQ ws<;>rfl
end
open Vbpcaa (Pt normal edges)
def Sc(a:l≠[])(b:d≠[]):_d.jZ (cP l) d 1=decide (_d.cw 1<|jP l d):=by have e:=_d.BM a;rw[show(1:Int)=((1:Nat))from U,_d.BJ (_d.yp e a) b au,jO,_d.K0 au e (_d.EP.refl d) a b]
def Sh(f:l≠[])(g:3<=o.length)(h:∀c∈cs,3<=c.length):qH (cP l) o cs=lN o cs l:=by unfold qH lN Vbpcaa.insideBy;rw[_d.yu g f,Kd,AU,U5];refine bJ _<|congr (bJ and<|List.all_congr U λe=>(Sc f au).trans _d.Kq.symm) ?_;rw[fV,dR,dR];exact forall_congr' λd=>forall_congr' λi=>by rw[Sc f λz=>by have:=h d i;rw[z]at this;cases this];exact _d.K7 (a:=⟨0,l⟩) (b:=⟨0,d⟩) (c:=1)▸agY
def IE:∀{v w:O Int},dM v->dM w->(bs v=bs w↔v=w)
 |[],[],_,_=>by simp
 |[],_::_,_,_=>by simp
 |_::_,[],_,_=>by simp
 |a::v,b::w,c,hw=>by have:=IE (v:=v) (w:=w) (λz h=>c z<|ja _ h) λz h=>hw z<|ja _ h;show(_e.B a::bs v=_e.B b::bs w)↔_;rw[UV,UV,this,_e.Wd (c a<|ig ..)<|hw b<|ig ..]
def Si{w:O Int}(h:dM w):(tO.contains (bs w)=(kT w).isSome)/\∀n,kT w=Y n->(tO.takeWhile λx=>decide<|x≠bs w).length=n/\n<=3:=by
 have k:∀(s:String)(v:O Int),bs v=cQ s->dM v->(bs w=cQ s↔w=v):=λs v e i=>by rw[<-e];exact IE h i
 have b:∀v:O Int,(v.all λz=>within 0 z 255)=L->dM v:=λv i z u=>by have:=dR.mp i z u;unfold within at this;simpa using this
 have j:=k "track" (codes "track") cq<|b _ bw;have l:=k "via" (codes "via") cq<|b _ bw;have m:=k "part" (codes "part") cq<|b _ bw;have o:=k "all" (codes "all") cq<|b _ bw;unfold kT;have y:tO=[cQ "track",cQ "via",cQ "part",cQ "all"]:=U;rw[y];by_cases c:w=codes "track"
 .rw[vA,aH<|dm c];have:=j.mpr c;refine⟨by rw[this];rfl,λn a=>by obtain rfl:=bL a;rw[xZ,aD<|by simp[this]];simp⟩
 .have p:bs w≠cQ "track":=λz=>c<|j.mp z;rw[vA,aD (by simpa using c),xZ,aH<|by simpa using p.symm];by_cases d:w=codes "via"
  .rw[vA,aH<|dm d];have:=l.mpr d;refine⟨by rw[this];rfl,λn a=>by obtain rfl:=bL a;rw[xZ,aD<|by simp[this]];decide⟩
  .have q:bs w≠cQ "via":=λz=>d<|l.mp z;rw[vA,aD (by simpa using d),xZ,aH<|by simpa using q.symm];by_cases f:w=codes "part"
   .rw[vA,aH<|dm f];have:=m.mpr f;refine⟨by rw[this];rfl,λn a=>by obtain rfl:=bL a;rw[xZ,aD<|by simp[this]];decide⟩
   .have t:bs w≠cQ "part":=λz=>f<|m.mp z;rw[vA,aD (by simpa using f),xZ,aH<|by simpa using t.symm];by_cases g:w=codes "all"
    .rw[vA,aH<|dm g];have:=o.mpr g;refine⟨by rw[this];rfl,λn a=>by obtain rfl:=bL a;rw[xZ,aD<|by simp[this]];decide⟩
    .have A:bs w≠cQ "all":=λz=>g<|o.mp z;rw[vA,aD<|by simpa using g];refine⟨?_,λn a=>by cases a⟩;rw[Ke,Ke,Ke,Ke,EX p,EX q,EX t,EX A];rfl
open Vbpcad (Reading)
abbrev zZ(P:Ends->Hp->Hp->Prop):Prop:=∀D a b H0,D.rt=a.rt->P D b H0->P a b H0
def IF{K:aJ}:zZ (PR K A a s d):=λD b c f e h v G H x w r q=>by rw[<-e];exact h v G H x w r q
def Sj:zZ (λD a H0=>Fits D a H0<|.rt d):=λD b a H0 e h v G H x w q=>by rw[<-e];exact h v G H x w q
abbrev IG(X:Cx)(A:Ad)(a:Da)(e:bV)(s:DS)(f:aT)(d:Rp)(g:O bY)(P:Ends->Hp->Hp->Prop):Prop:=∀c H0 σ G H D v,Ext c H0 G H->br H0 σ G H e->(∀b∈a.L,H0 b=am)->fU X.K A G H a s->d.r G v->P D c H0->wG X f v σ H λh i=>wS X g D h i
section
variable{X:Cx}{A:Ad}{a:Da}{J Γ':bV}{s:DS}{a8 bD:O bY}{P:Ends->Hp->Hp->Prop}{c:aT}{ao p p1 p2:bn}{x y:aq}{d d1 d2:Rp}{ds:O Rp}{tg iter:aT}{u:eM}
def z6{K:aJ}{m:Nat}{o:bn}(k j)(h:Sf X A a ((J.set k<|Y<|.aC d1).set j<|Y<|.aC d2) s bD P)(q:X.calm=L<|>_r)(hi:Lc X k x<|>ah)(g:Lc X j y<|>ah)
 (z:X.K=K<|>_r)
  (C:((gE [aK x p,aK y p2] X.env).map (·.2)=k6 (aK x p) X.env::(gE [aK y p2] X.env).map (·.2))<|>_r)(E:((gE [aK y p2] X.env).map (·.2)=k6 (aK y p2) X.env::(gE [] X.env).map (·.2))<|>_r)
  (I:(gE [aK x p,aK y p2] X.env).length=2<|>_r)(N:(gE [aK x p,aK y p2] X.env).findIdx? (·.1)=am<|>_r):
  IG X A a J s (jW [aK x p,aK y p2] m o) (tup K [d1,d2]) bD P:=λQ T σ G H D v e t n r z_ f=>be z_ λb vs q1 q2 q3=>by
 subst z;refine be (all2 q3) λu w akF r1 r2=>?_;subst akF;apply wG.by<|Ch (n:=2) q (rX (mO (i:=k) hi.d hi.n hi.l hi.f) (rX (mO (i:=j) hi.d g.n g.l g.f) Cg E) C) I N;exact⟨b,[u,w],q1,t.sub.tup q2,U,u,[w],U,w,[],U,U,h Q T _ G H D e ((t.set r1).set r2) n r f⟩
def IH n(hn:n<=ds.length)(z:Nat->DS)(hi:Iv X (bj J) tg iter ds)(h0:z 0=s)(hP:zZ P)(hb:∀i d,i<n->ds[i]?=Y d->IG X A a J (z i) tg d bD (PX X.K A a J<|z<|i+1))
  (akH:(n=ds.length/\Sf X A a J (z n) a8 P)\/∃dn,ds[n]?=Y dn/\IG X A a J (z n) tg dn bD P)(hc:X.calm=L<|>_r)(hp:p0 (bg X.prog X.w) X.A X.env X.xe<|>aj)(hs:Fi X iter<|>ag):Sf X A a J s (yf tg iter bD [] ao::a8) P:=λN o σ G H D x t m r f=>by
 refine wS.cons (Cm hp hc pI pG eP hs)<|hi σ G H _ t.bj t.sub t.wf λakL G1 H1 e1 w1 hl Q=>⟨λi k T e=>i<=n/\k=ds.length-i/\∃C,Ext N o C e/\aX G1 C/\br o T C e J/\fU X.K A C e a (z i),⟨_,dI _,U,G1,x.trans e1,aX.refl _,t.grow e1 w1,h0▸r.grow e1⟩,?_⟩;rintro i k T e ⟨akJ,rfl,C,x',E,j,r'⟩;by_cases akF:i<n
 .have I:ds[i]?=Y ds[i]:=dq<|gQ akF hn;refine aW ⟨(Q.mono E).go i _ e I j.sub,λakG l=>∃b,Ext N o b l/\aX G1 b/\br o akG b l J/\fU X.K A b l a (z<|i+1),λakG l z_=>mH z_ λb y=>⟨ds.length-(i+1),bh,ap,U,b,y⟩,λv l hy=>?_⟩;refine b7 ((Q.mono E).yl i _ e v l I j.sub hy) λb q w2 r2=>?_;have x2:=x'.trans q;exact hb i _ akF I b o T b l _ v x2.base (j.grow q<|w2 j.wf) m (r'.grow q) r2 λakK G3 H3 e3 s3 r3=>tU G3 (x2.back e3) ((E.trans q.g).trans e3.g) s3 r3
 .have akI:i=n:=ap;subst akI;obtain⟨he,hr⟩|⟨dn,I,hg⟩:=akH
  .exact aP ⟨Q.st i e ap<|E.trans j.sub,hr N o T C e D x' j m r' f⟩
  .refine aW ⟨(Q.mono E).go i _ e I j.sub,λ_ _=>False,λ_ _ h=>h.elim,λv l hy=>?_⟩;refine b7 ((Q.mono E).yl i _ e v l I j.sub hy) λb q w2 r2=>?_;exact hg N o T b l _ v (x'.trans q) (j.grow q<|w2 j.wf) m (r'.grow q) r2<|hP D _ N o U f
def ae2:Sf X A a J s [] (PX X.K A a J s):=λg h b G H D x t m r f e st I=>il e st b H D I<|f b G H x t r
def II{Δ:bV}(f:Fg J Δ<|>alK):Sf X A a J s [] (PX X.K A a Δ s):=λg h b G H D x t m r k e st I=>il e st b H D I<|k b G H x (t.forget f) r
def ae3(h:zZ P)(i:Tv X (bj J) c L)(j:Sf X A a J s bD P):Sf X A a J s (kK c bD [] ao::a8) P:=λb e g G H D x t n r f=>
 wS.cons (kN pT eP il) (i g G H _ t.bj t.sub t.wf λk l m=>
  have y:=Ext.hp t.sub l
  j b e g G k _ (x.trans y) (t.grow y m) n (r.grow y) (h D _ b e U f))
def Sk(e:Tv X (bj J) c aA)(g:Sf X A a J s a8 P):Sf X A a J s (kK c bD [] ao::a8) P:=λh i b G H D x t n r f=>
 wS.cons (kN pT eP il) (e b G H _ t.bj t.sub t.wf λj k l=>
  have y:=Ext.hp t.sub k
  g h i b G j D (x.trans y) (t.grow y l) n (r.grow y) f)
def ae4 i(hi:J[i]?=Y (Y<|.aC<|Rp.ref a.x))(l:Tv X (w6 X.K A J i s) c q)(m:q=L->Sf X A a J s bD (PX X.K A a J s'))(b:q=aA->s'=s)(hr:Sf X A a J s' a8 P):Sf X A a J s (kK c bD [] ao::a8) P:=λe g h G H D x t n r f=>
 wS.cons (kN pT eP il) (l h H H _ (DR hi t r) (aX.refl _) t.wf λj o k=>by
  have y:=Ext.hp t.sub o;cases q with
  |true=>exact m U e g h G j _ (x.trans y) (t.grow y k) n (r.grow y) λv w z C E I=>hr e g v w z D C E n I f
  |false=>
   have b:=b U;subst b;exact hr e g h G j D (x.trans y) (t.grow y k) n (r.grow y) f)
def ae5(h:qQ X A a J s c (Y u))(i:Sf X A a J (u,s.2) a8 P)(j:(∀whole,isTrue c X.env whole=(do let v<-whole;xB c.pos;kG [v]<|Ju v))<|>ag):Sf X A a J s (kK (vC .Not c p1) bD [] ao::a8) P:=λb e g G H D x t n r f=>
 wS.cons (kN (FP<|FO pE j) eP il)<|h b e g G H _ x t n r λk l m o q=>aY L U<|i b e g k l D m o n q f
def ae6(h:zZ P)(i:qQ X A a J s c am)(j:Sf X A a J s bD P)(k:(∀whole,isTrue c X.env whole=(do let v<-whole;xB c.pos;kG [v]<|Ju v))<|>ag):Sf X A a J s (kK (vC .Not c p1) bD [] ao::a8) P:=λb e g G H D x t n r f=>
 wS.cons (kN (FP<|FO pE k) eP il)<|i b e g G H _ x t n r λl m o q w=>aY aA U<|j b e g l m _ o q n w<|h D _ b e U f
end
open Vbpcaa (normal)
section
variable{P:bO}{w:bN}{K:aJ}{mg:aq->aR aB}{base:bf}{A:Ad}[Z:Zc P w K mg A]
def z7(h:pb l=L):l≠[]/\3<=l.length/\l.length<=32:=by simp[pb]at h;exact⟨λz=>bG,h.1.1,h.1.2⟩
def Sm{s:eM}{o:O Pt}{ws:O (O Int)}(h:gY ws)(d:jL s)(e:s.outline=o):eh s (cQ "cut"::ws.map bs)=if 8<=s.cuts.length then am else(oQ ws).bind λc=>if qH c o s.cuts=L then Y {s with cuts:=s.cuts++[c]}else am:=by
 rw[R5 e,RX h];cases qd (ws.map bs)with
 |none=>split<;>rfl
 |some l=>
  simp only[gB];by_cases f:8<=s.cuts.length
  .rw[aH f,aD]
   (simp[qe];lia)
  .rw[aD f];by_cases a:pb l=L
   .rw[aH a,gB,Sh (z7 a).1 (d.out o e).1 d.cut];by_cases b:lN o s.cuts l=L
    .rw[aH b,aH ⟨a,(by show _<8;simp_all),b⟩]
    .rw[aD b,aD λz=>b z.2.2]
   .rw[aD a,aD λz=>a z.1];rfl
inductive Sn(K:aJ)(A:Ad):List Rp->DS->Option eM->Prop
 |mk (h:gY ws) (a:jL s.1):Sn K A [lst (ws.map nums)] s (eh s.1 (cQ "cut"::ws.map bs))
def ae7:qT base 11 216 "read_cut" Sn:=by
 refine sV ["draft","words","cut"] λq l m st o i n s a t=>?_;cases i with|@mk ws st h g=>?_
 refine i9 0 U (q:=st.1.outline.isNone||decide (8<=(st.1.cuts.length:Int))) (Tw.tv (fK (bi (gc (qU M aw) λG x f=>qV f))<|λ_=>iX<|Tv.eq (bi<|lX (cO M.len<|Iy M aw)<|bX M.NI)<|by rw[aI])) (λq=>?_)<|λq=>?_
 .have e:eh st.1 (cQ "cut"::ws.map bs)=am:=by
   cases b:st.1.outline with
   |none=>exact R4 b _
   |some o=>
    rw[Sm h g b,aH];rw[b]at q;have:decide (8<=(st.1.cuts.length:Int))=L:=by simpa using q
    have:=cM this
    lia
  rw[e];exact iA df
 .rw[pV,tM]at q
  obtain⟨o,b⟩:∃o,st.1.outline=Y o:=by
   cases b:st.1.outline with
   |none=>rw[b]at q;cases q.1
   |some o=>exact⟨o,U⟩
  rw[Sm h g b,aD ap];refine qR d7 (λo k=>bz 2 (aO (RV λw j=>(h w j).1)<|aS aE) k) ?_;cases u:oQ ws with
  |none=>exact i9 0 U (q:=L) (Tw.tv<|fK (p:=L) (q:=aA) (bi<|gc aM λG x f=>qV (o:=am) f)<|λz=>nomatch z) (λ_=>iA df)<|λz=>nomatch z
  |some c=>
   rw[gB];refine i9 0 U (q:=!qH c o st.1.cuts) (Tw.tv<|fK (p:=aA) (q:=!qH c o st.1.cuts) (bi<|gc aM λG x f=>qV (o:=Y c) f)<|λ_=>iX<|dE<|b_<|aO (Ps g.cuts)<|cB (d:=bU K A c) aM<|cB (d:=bU K A o) (Ev.eq (qU M aw)<|by rw[b];rfl)<|aS<|Iy M aw) (λz=>?_)<|λz=>?_
   .rw[aD<|by simpa using z];exact iA df
   .rw[aH<|by simpa using z];exact Iu 0 R7 U M.kj M.GL (λ_ _=>U) au (d:=bU K A c) aM (aeD (by have:=g.cuts;lia))<|iA df
abbrev wk(s:eM)(k:Nat)(lo hi r:Int)(m:O Pt):eM:={s with keeps:=s.keeps++[⟨k,lo.toNat,hi.toNat,⟨r.toNat,cP m⟩⟩]}
abbrev IJ(s:eM)(w:O Int)(ns:aR (O Int)):aR eM:=(kT w).bind λk=>ns.bind λl=>
 if(m9 (l.getD 0 0) (l.getD 1 0) (((s.stack.length+1)/2:Nat))&&within 0 (l.getD 2 0) 1000000000)=L then(lC<|l.drop 3).bind λm=>if k_ m=L then(wk s k (l.getD 0 0) (l.getD 1 0) (l.getD 2 0) m)else am else am
def ae8{s:eM}{o:O Pt}{w a b c:O Int}{ws:O (O Int)}(h:gY (w::a::b::c::ws))(v:s.outline=o)(C:s.keeps.length<32):eh s (cQ "keep"::(w::a::b::c::ws).map bs)=IJ s w (gf (a::b::c::ws)):=by
 rw[eQ,eQ,eQ,eQ,ID v,zY 1,zY 0,<-h.tail.head,<-h.tail.tail.tail.head];simp only[zY];rw[<-h.tail.tail.head];obtain⟨q,E⟩:=Si (h w<|ig ..).2;simp only[IJ,uW,uW,uW];have G:∀(k:aR Nat)(lo j m:Int),kT w=k->(lo<=j)->0<=m->((qd<|ws.map bs).bind λl=>if tO.contains (bs w)=L/\l.length<=Be/\k_ l=L/\s.keeps.length<EV then Y (wk s (tO.takeWhile λx=>decide<|x≠bs w).length lo j m l)else am)
   =k.bind λk=>(pN ws).bind λg=>if k_ g=L then(wk s k lo j m g)else am:=by
  intro k lo j m t _ _;rw[RW h.tail.tail.tail.tail];cases qd (ws.map bs)with
  |none=>cases k<;>rfl
  |some l=>
   simp only[gB];cases k with
   |none=>rw[t]at q;rw[aD<|by rw[q];simp];rfl
   |some k=>
    rw[gB,(E k t).1];by_cases e:1<=l.length/\l.length<=32
    .rw[dm e,aH U,gB];by_cases n:k_ l=L
     .rewrite [aH n,aH ⟨q▸t▸U,e.2,n,C⟩];rfl
     .rw[aD n,aD λz=>n z.2.2.1]
    .rw[kF e,aD (show¬(aA=L) by simp) (α:=aR<|O Pt),aD];rfl;rintro⟨_,u,H,_⟩;have u:l.length<=32:=u;cases l with
     |nil=>cases H
     |cons p l=>exact e ⟨au,u⟩
 cases T:ft a with
 |none=>cases kT w<;>rfl
 |some x=>
  cases eb:ft b with
  |none=>simp only[gB];cases kT w<;>(split<;>rfl)
  |some y=>
   cases ec:ft c with
   |none=>
    simp only[gB];by_cases d:within 1 x (((s.stack.length+1)/2:Nat):Int)=L
    .rw[aH d,gB];cases kT w<;>(split<;>rfl)
    .rw[aD d];cases kT w<;>rfl
   |some z=>
    simp only[gB];have e:∀(l:O Int),(m9 x y (((s.stack.length+1)/2:Nat))&&within 0 z 1000000000)=(within 1 x (((s.stack.length+1)/2:Nat))&&(within x y (((s.stack.length+1)/2:Nat))&&within 0 z 1000000000)):=λl=>by unfold m9 within;by_cases I:1<=x<;>by_cases N:x<=y<;>by_cases Q:y<=(((s.stack.length+1)/2:Nat))<;>simp[I,N,Q]<;>omega
    have fin:(kT w).bind (λk=>(U4 (λl=>x::l)<|U4 (λl=>y::l)<|.map (λl=>z::l)<|gf ws).bind λl=>
      if(m9 (l.getD 0 0) (l.getD 1 0) (((s.stack.length+1)/2:Nat))&&within 0 (l.getD 2 0) 1000000000)=L then(lC<|l.drop 3).bind λm=>if k_ m=L then Y (wk s k (l.getD 0 0) (l.getD 1 0) (l.getD 2 0) m)else am else am)
      =if(within 1 x (((s.stack.length+1)/2:Nat))&&(within x y (((s.stack.length+1)/2:Nat))&&within 0 z 1000000000))=L then(kT w).bind λk=>(pN ws).bind λg=>if k_ g=L then(wk s k x y z g)else am else am:=by
     unfold pN;cases kT w with
     |none=>split<;>rfl
     |some k=>
      cases gf ws with
      |none=>split<;>rfl
      |some l=>
       simp only[gB,Ep];rw[<-e l];rfl
    rw[show pX=1000000000 from U];by_cases d:within 1 x (((s.stack.length+1)/2:Nat))=L
    .rw[aH d,gB];by_cases f:within x y (((s.stack.length+1)/2:Nat))=L
     .rw[aH f,gB];by_cases i:within 0 z 1000000000=L
      .rw[aH i,gB];rw[d,f,i]at fin;exact(G _ x y z U (((DW ..).mpr f).1)<|((DW ..).mpr i).1).trans fin.symm
      .rw[aD i];rw[d,f,gj.mpr i]at fin;exact fin.symm
     .rw[aD f];rw[d,gj.mpr f]at fin;exact fin.symm
    .rw[aD d];rw[gj.mpr d]at fin;exact fin.symm
def So:∀{ws:O (O Int)}{l:O Int},gf ws=l->l.length=ws.length
 |[],_,e=>by obtain rfl:=bL e;rfl
 |w::ws,l,e=>by
  rw[uW]at e;cases q:ft w with
  |none=>grind
  |some a=>
   rw[q]at e;cases b:gf ws with
   |none=>grind
   |some m=>rw[b]at e;obtain rfl:=bL e;rw[c_,c_,So b]
def ae9{s:eM}{r:O kC}(h:32<=s.keeps.length):eh s (cQ "keep"::r)=am:=by
 have k:¬s.keeps.length<EV:=by show¬_<32;simp_all
 cases d:s.outline with
 |none=>exact nE<|aP d
 |some o=>
  match r with
  |[]=>exact nE au
  |[_]=>exact nE au
  |[_,_]=>exact nE au
  |[_,_,_]=>exact nE au
  |w::a::b::c::ws=>
   simp_all[ID]
inductive Sq(K:aJ)(A:Ad):List Rp->DS->Option eM->Prop
 |mk (h:gY ws) (a:jL s.1):Sq K A [lst (ws.map nums)] s (eh s.1 (cQ "keep"::ws.map bs))
def cW(h:fT a):fT (a.set i<|Y<|.aC d):=λk b e=>by
 obtain _|⟨_,z⟩:=get_set e
 .lia
 .exact h k b z
def ae_:qT base 9 218 "read_keep" Sq:=by
 refine sV ["draft","words","kind","numbers","points","skeleton"] λq hr ds st o T hI hD a nd=>?_;cases T with|@mk g st h I=>?_
 refine i9 0 U (q:=st.1.outline.isNone||(decide (32<=(st.1.keeps.length:Int))||decide ((g.length:Int)<4))) (Tw.tv (fK (bi (gc (qU M aw) λG x f=>qV f))<|λ_=>fK (Tv.eq (bi<|lX (cO M.len<|RO M aw)<|bX M.NJ)<|by rw[aI])<|λ_=>iX<|Tv.eq (bi<|e8 (cO M.len aE) aG)<|by rw[aI])) (λq=>?_)<|λq=>?_
 .have e:eh st.1 (cQ "keep"::g.map bs)=am:=by
   simp only[tu,fr]at q;rcases q with q|q|q
   .exact nE<|aP<|EW.mp q
   .exact ae9 aU
   .exact nE<|aW<|by rw[aI];omega
  rw[e];exact iA df
 .simp only[pV,tM]at q;obtain⟨N,q2,q3⟩:=q
  obtain⟨o,H⟩:∃o,st.1.outline=Y o:=by
   cases H:st.1.outline with
   |none=>rw[H]at N;cases N
   |some o=>exact⟨o,U⟩
  obtain⟨w,s,u,C,g,rfl⟩:∃w a b c r,g=w::a::b::c::r:=by
   match g,q3 with
   |[],q=>simp at q
   |[_],q=>simp at q
   |[_,_],q=>simp at q
   |[_,_,_],q=>simp at q
   |w::a::b::c::r,_=>exact⟨w,a,b,c,r,U⟩
  rw[ae8 h H aU];refine qR d7 (λo k=>bz 2 (aO aeS<|aS<|bW aE aG<|b8 (n:=0) (x:=nums w) U U) k) ?_;refine qR (cW d7) (λo k=>bz 3 (d:=opt<|(gf (s::u::C::g)).map nums) (aO (Hr (l:=s::u::C::g) λx f=>(h.tail x f).1)<|aS<|Ev.eq (bu.ev<|fk (ds:=(w::s::u::C::g).map nums) aE (.dW aG) .none_)<|bJ lst<|jG _ 1) k) ?_;unfold IJ;cases ek:kT w with
  |none=>exact i9 0 U (q:=L) (Tw.tv<|fK (p:=L) (q:=aA) (bi<|gc aM λG x f=>dm f)<|λz=>nomatch z) (λ_=>iA df)<|λz=>nomatch z
  |some k=>
   rw[gB];cases en:gf (s::u::C::g)with
   |none=>exact i9 0 U (q:=L) (Tw.tv<|fK (p:=aA) (q:=L) (bi<|gc aM λG x f=>RS (k:Nat) G x f)<|λ_=>iX<|bi<|gc aV λG x f=>dm f) (λ_=>iA df)<|λz=>nomatch z
   |some l=>
    obtain⟨x,y,z,l,rfl⟩:∃x y z r,l=x::y::z::r:=by
     have hl:=So en
     match l,hl with
     |[],q=>simp at q
     |[_],q=>simp at q
     |[_,_],q=>simp at q
     |x::y::z::r,_=>exact⟨x,y,z,r,U⟩
    rw[gB];have akF:=(Si (h w<|ig ..).2).2 k ek;have j:∀{X:Cx}{Q:En}{e:aT}{p q:bn}{t:Nat}{v:Int}(i:Nat),Ev X Q e (nums (x::y::z::l))->(x::y::z::l)[i]?=Y v->Ev X Q (cR e (dX (.int (i:Int)) t p) q) (int v):=λi e hv=>bW e aG (b8 (n:=i) U<|by rw[cT,hv];rfl);refine i9 0 U (q:=aA) (Tw.tv<|fK (p:=aA) (q:=aA) (bi<|gc aM λG x f=>RS (k:Nat) G x f)<|λ_=>iX<|bi<|gc (da:=nums (x::y::z::l)) aV λG x f=>uV f) (λz=>nomatch z)<|λ_=>?_;refine i9 0 U (q:=!m9 x y (((st.1.stack.length+1)/2:Nat):Int)||!within 0 z 1000000000) (Tw.tv (fK (dE (b_ (aO O7 (bM (j 0 aV U) (j 1 aV U) (Ev.eq (aO wD (aS (DV M aw))) (by congr 1;rw[aI];omega)))))) (λ_=>iX<|dE<|b_<|aO O4<|aS<|j 2 aV U))) (λq=>?_)<|λq=>?_
    .rw[aD]
     .exact iA df
     .intro t;rw[c6]at t;obtain⟨t1,t2⟩:=t;rw[show m9 x y (((st.1.stack.length+1)/2:Nat):Int)=L from t1,show within 0 z 1000000000=L from t2]at q;cases q
    .rw[pV,jU,jU]at q;rw[aH<|by rw[c6];exact q];refine qR (cW<|cW d7) (λo k=>bz 4 (d:=opt<|(lC l).map<|pts K) (aO (RT (l:=l))<|aS<|Ev.eq (bu.ev<|fk (ds:=(x::y::z::l).map int) aV (.dW aG) .none_)<|bJ lst<|jG _ 3) k) ?_;show Sf _ A a _ _ _ (PR K A a (uU st<|(lC l).bind _)<|bl ((lC l).bind _).isSome);cases ep:lC l with
     |none=>
      refine qR (cW<|cW<|cW d7) (λo k=>bz 5 (d:=bH) (h_ (p:=L) (bi<|gc bZ λG x f=>dm f) (λ_=>kd)<|λz=>nomatch z) k) ?_;exact i9 0 U (q:=L) (bi<|gc dU λG x f=>dm f) (λ_=>iA df)<|λz=>nomatch z
     |some m=>
      obtain⟨m1,m2⟩:=RU ep;refine qR (cW<|cW<|cW d7) (λo k=>bz 5 (d:=opt<|if k_ m=L then Y (bU K A<|cP m)else am) (h_ (p:=aA) (bi<|gc (da:=pts K m) bZ λG x f=>uV f) (λz=>nomatch z)<|λ_=>aO (Pg m1 m2)<|cB (d:=pts K m) bZ eW) k) ?_;rw[gB];by_cases E:k_ m=L
      .rw[aH E,aH E];have ql:(1<=x/\x<=y/\y<=(((st.1.stack.length+1)/2:Nat):Int))/\(0<=z/\z<=1000000000):=by have:=q;unfold m9 within at this;simpa using this
       have akG:=I.gK;have e1:int x=int (x.toNat:Nat):=by congr 1;omega
       have e2:int y=int (y.toNat:Nat):=by congr 1;omega
       have e3:int z=int (z.toNat:Nat):=by congr 1;omega
       refine i9 0 U (q:=aA) (bi<|gc (da:=bU K A<|cP m) dU λG x f=>RR _ G x f) (λz=>nomatch z)<|λ_=>?_;exact Iu 0 (cW<|cW<|cW<|cW d7) U M.kj M.GM (λ_ _=>U) au (gv zB (cB (d:=int (k:Nat)) aM<|cB (Ev.eq (j 0 aV U) e1)<|cB (Ev.eq (j 1 aV U) e2)<|cB (Ev.eq (j 2 aV U) e3)<|cB (d:=bU K A<|cP m) dU eW)<|.mk (k:=⟨k,x.toNat,y.toNat,⟨z.toNat,cP m⟩⟩) ⟨akF.2,by show 1<=x.toNat;omega,by show x.toNat<=y.toNat;omega,by show y.toNat<=8;omega,by show z.toNat<=_;omega⟩) (aeE (by have:=I.keeps;omega))<|iA df
      .rw[aD E,aD E];exact i9 0 U (q:=L) (bi<|gc dU λG x f=>dm f) (λ_=>iA df)<|λz=>nomatch z
end
open VbpcText (text number integer Bytes passed readLines)
open _e (bs dM)
def IK{lo hi t:Int}{b:kC}(h:nQ lo hi b=Y t):lo<=t/\t<=hi:=by
 delta nQ at h
 cases e:Az b<;>grind-order
def ae'(Q:jL s):∀{ws:O kC},eh s ws=Y s'->jL s'
 |[],h=>by cases h
 |k::r,h=>by
  obtain⟨st,j,A,v,n,y,p⟩:=Q;by_cases C:k=cQ "copper"
  .subst C;by_cases u:r.length=1
   .obtain⟨w,rfl⟩:=Kc.mp u;rw[RY]at h;obtain⟨q,h⟩:=Bg.mp h;have q3:s.stack.length<16:=q.2.2;cases e:nQ 1 Bf w with
    |none=>rw[e]at h;cases h
    |some t=>
     rw[e]at h;cases h;have d:=EW.mp q.1;have T:t<=10000000:=(IK e).2;refine⟨by show(s.stack++[_]).length<=16;rw[cC];show _+1<=16;grind,λx g=>?_,λo z=>(by rw[z]at d;cases d),v,n,y,λk f=>(by have:=(p k f).1;rw[d]at this;cases this)⟩;obtain g|g:=fE.mp g
     .exact j x g
     .rw[e_]at g;lia
   .rw[RZ s u]at h;cases h
  .by_cases E:k=cQ "core"
   .subst E;by_cases u:r.length=1
    .obtain⟨w,rfl⟩:=Kc.mp u;rw[R0]at h;obtain⟨q,h⟩:=Bg.mp h;cases e:nQ 1 Bf w with
     |none=>rw[e]at h;cases h
     |some t=>
      rw[e]at h;cases h;have d:=EW.mp q.1;have T:t<=10000000:=(IK e).2;refine⟨by show(s.stack++[_]).length<=16;rw[cC];show _+1<=16;have:=q.2;lia,λx g=>?_,λo z=>(by rw[z]at d;cases d),v,n,y,λk f=>(by have:=(p k f).1;rw[d]at this;cases this)⟩;obtain g|g:=fE.mp g
      .exact j x g
      .rw[e_]at g;lia
    .rw[R1 s u]at h;cases h
   .by_cases G:k=cQ "outline"
    .subst G;rw[R3]at h;obtain⟨q,h⟩:=Bg.mp h;obtain⟨l,e,h⟩:=Bh.mp h;obtain⟨H,h⟩:=Bg.mp h;cases h;exact⟨st,j,λo z=>(by cases z;rw[uI (z7 H).1];exact⟨(z7 H).2.1,q.2⟩),v,n,y,λk f=>(by have:=(p k f).1;rw[EW.mp q.1]at this;cases this)⟩
    .by_cases I:k=cQ "cut"
     .subst I;cases d:s.outline with
      |none=>rw[R4 d]at h;cases h
      |some o=>
       rw[R5 d]at h;obtain⟨l,e,h⟩:=Bh.mp h;obtain⟨q,h⟩:=Bg.mp h;cases h;have q2:s.cuts.length<8:=q.2.1;refine⟨st,j,A,by show(s.cuts++[_]).length<=8;rw[cC];show _+1<=8;lia,λc i=>?_,y,p⟩;obtain i|i:=fE.mp i
       .exact n c i
       .rw[e_]at i;rw[i,uI (z7 q.1).1];exact(z7 q.1).2.1
     .by_cases N:k=cQ "keep"
      .subst N;cases d:s.outline with
       |none=>rw[nE<|aP d]at h;cases h
       |some o=>
        match r,h with
        |[],h=>rw[nE<|aW au]at h;cases h
        |[_],h=>rw[nE<|aW au]at h;cases h
        |[_,_],h=>rw[nE<|aW au]at h;cases h
        |[_,_,_],h=>rw[nE<|aW au]at h;cases h
        |w::a::b::c::ws,h=>
         rw[ID d]at h;obtain⟨lo,e1,h⟩:=Bh.mp h;obtain⟨hi,e2,h⟩:=Bh.mp h;obtain⟨m,e3,h⟩:=Bh.mp h;obtain⟨l,e4,h⟩:=Bh.mp h;obtain⟨q,h⟩:=Bg.mp h;obtain rfl:=bL h;have q4:s.keeps.length<32:=q.2.2.2;have hh:=(IK e2).2;refine⟨st,j,A,v,n,by show(s.keeps++[_]).length<=32;rw[cC];show _+1<=32;lia,λk f=>?_⟩;obtain f|f:=fE.mp f
         .exact p k f
         .rw[e_]at f;rw[f];exact⟨by show s.outline.isSome=L;rw[d];rfl,by show hi.toNat<=(s.stack.length+1)/2;simp_all⟩
      .dsimp only[eh]at h;rw[aD C,aD E,aD G,aD I,aD N]at h;contradiction
abbrev iL(s:eM)(l:O Int):aR eM:=match EY (bs l)with
 |none=>am
 |some ws=>if passed ws=L then s else eh s ws
def afa(a:jL s)(h:iL s l=Y u):jL u:=by
 delta iL at h
 cases e:EY (bs l)with
 |none=>lia
 |some ws=>
  grind[ae']
abbrev c7:eM->O (O Int)->Nat×eM
 |s,[]=>(0,s)
 |s,l::r=>match iL s l with
  |none=>(0,s)
  |some u=>((c7 u r).1+1,(c7 u r).2)
abbrev lD:eM->O (O Int)->Nat->eM
 |s,_,0=>s
 |s,[],_+1=>s
 |s,l::r,i+1=>match iL s l with
  |none=>s
  |some u=>lD u r i
def Sr s ls:lD s ls 0=s:=by cases ls<;>rfl
def goN(h:iL s l=am)r:c7 s (l::r)=(0,s):=by rw[c7,h]
def goS(h:iL s l=Y u)r:c7 s (l::r)=((c7 u r).1+1,(c7 u r).2):=by rw[c7,h]
def Ss:∀b s,jL s->(c7 s b).1<=b.length/\(c7 s b).2=lD s b (c7 s b).1/\(∀i,i<=(c7 s b).1->jL (lD s b i))/\(∀i l,i<(c7 s b).1->b[i]?=Y l->iL (lD s b i) l=(lD s b<|i+1))/\
  ∀l,b[(c7 s b).1]?=Y l->iL (c7 s b).2 l=am:=by
 intro j s d
 induction j generalizing s d with
 |nil=>exact⟨cg _,U,λi c=>by cases i with|zero=>exact d|succ i=>exact d,λi l c=>by simp[c7]at c,λl h=>by simp at h⟩
 |cons l r k=>
  cases e:iL s l with
  |none=>
   have g:c7 s (l::r)=(0,s):=by rw[c7,e]
   exact g▸(⟨dI _,U,λi c=>by cases‹_›;exact d,λi l c=>absurd c<|Nat.not_lt_zero _,λf h=>by obtain rfl:=bL h;exact e⟩)
  |some u=>
   have g:c7 s (l::r)=((c7 u r).1+1,(c7 u r).2):=by rw[c7,e]
   have a:∀i,lD s (l::r) (i+1)=lD u r i:=λi=>by rw[lD,e]
   refine vD (k u<|afa d e) λm p n q o=>?_;rw[g];refine⟨UI m,by rwa[a],λi c=>?_,λi f c t=>?_,λf=>o f⟩
   .cases i with
    |zero=>exact d
    |succ i=>rw[a];exact n i<|Nat.le_of_succ_le_succ c
   .cases i<;>simp_all[Sr]
def Su:∀a s k,U6 eh k s (a.map bs)=if(c7 s a).1<a.length then .error (k+(c7 s a).1)else .ok (c7 s a).2
 |[],s,k=>rfl
 |l::r,s,k=>by
  have fin:∀u,iL s l=Y u->U6 eh (k+1) u _=if(c7 s (l::r)).1<(l::r).length then .error (k+(c7 s _).1)else .ok (c7 s _).2:=λu c=>by
   rw[goS c,Su r u _];by_cases d:(c7 u r).1<r.length
   .rw[aH d,aH bG];congr 1;lia
   .rw[aD d,aD bG]
  have f:iL s l=am->.error k=if(c7 s (l::r)).1<(l::r).length then(.error (k+(c7 s _).1):Except Nat eM)else .ok (c7 s _).2:=λc=>by rw[goN c];rfl
  rw[eQ,U6];cases e:EY _ with
  |none=>exact f<|by rw[iL,e]
  |some ws=>
   dsimp only;by_cases b:passed ws=L
   .exact(aH b)▸fin s (by delta iL;exact e▸aH b)
   .rw[aD b];cases g:eh s ws with
    |none=>exact f<|by delta iL;exact e▸(aD b).trans g
    |some u=>exact fin u<|by delta iL;exact e▸(aD b).trans g
abbrev s0:eM:=⟨[],am,[],[]⟩
def Sx:jL s0:=⟨dI _,λt h=>(by cases h),λo h=>(by cases h),dI _,λt h=>(by cases h),dI _,λt h=>(by cases h)⟩
abbrev pP(t:O Int):eM×Int:=if(c7 s0<|_e.dN t).1<(_e.dN t).length then((c7 s0<|_e.dN t).2,((c7 s0<|_e.dN t).1:Int)+1)else((c7 s0<|_e.dN t).2,if(c7 s0<|_e.dN t).2.outline.isNone=L then((_e.dN t).length:Int)+1 else 0)
def afc(h:dM t):jL (pP t).1/\(match Bi (bs t)with
  |.error n=>(pP t).2=n/\0<n
  |.ok b=>(pP t).2=0/\(pP t).1.outline=b.outline/\b=⟨(pP t).1.stack,b.outline,(pP t).1.cuts,(pP t).1.keeps⟩):=by
 refine vD (Ss (_e.dN t) s0 Sx) λf c d _ _=>?_;rw[Bi,aky,<-_e.Wj h,show(⟨[],am,[],[]⟩)=s0 from U,Su]
 delta pP
 by_cases a:(c7 s0<|_e.dN t).1<(_e.dN t).length
 .grind
 .rw[aD a,aD a];refine⟨c▸d _ (cg _),?_⟩;dsimp only
  delta Vbpcad.boardLast
  cases e:(c7 s0 _).2.outline with
  |none=>exact au
  |some o=>exact au
open VbpcText (text number integer Bytes passed)
open _e (ft bs dM dN n0)
section
variable{P:bO}{w:bN}{K:aJ}{mg:aq->aR aB}{base:bf}{A:Ad}[Z:Zc P w K mg A]
inductive Sy(K:aJ)(A:Ad):List Rp->DS->Option eM->Prop
 |mk (h:gY (v::ws)) (a:jL s.1):Sy K A [lst ((v::ws).map nums)] s (eh s.1 ((v::ws).map bs))
def afd:qT base 12 220 "read_words" Sy:=by
 refine sV ["draft","words","name","reader"] λq g ds st o hR hI hD a nd=>?_;cases hR with|@mk v ws st h j=>?_
 have p:=(g.mono<|dI _).units;obtain⟨ad,E,H,I,N,Q,T,f2,f3,f4,f5,akF,hT,h1,h2,h3,h4,h5,m1,m2,m3,m4,m5⟩:=D.abM;let akH:O (aq×az):=[("copper",T),("core",f2),("outline",f3),("cut",f4),("keep",f5)]
 have s:∀x∈akH,x.1.cps.toList.length<=bK:=by
  intro x f;have:x.1.cps.toList.length<=7:=by simp only[akH,cU,jw,jx]at f;rcases f with rfl|rfl|rfl|rfl|rfl<;>exact jT U
  exact cS this bw
 have al:∀G,bv G [.ref E,.ref H,.ref I,.ref N,.ref Q] (akH.map λq=>tup K [str q.1,ref q.2]):=λG=>⟨⟨E,_,U,h1 G,U,U,trivial⟩,⟨H,_,U,h2 G,U,U,trivial⟩,⟨I,_,U,h3 G,U,U,trivial⟩,⟨N,_,U,h4 G,U,U,trivial⟩,⟨Q,_,U,h5 G,U,U,trivial⟩,trivial⟩
 have t:=(h v<|ig ..).2;have b:∀v:O Int,(v.all λz=>within 0 z 255)=L->dM v:=λv t z hz=>by have:=dR.mp t z hz;unfold within at this;simpa using this
 have k:∀{l:O Int}{x:String},bs l=cQ x->(l.all λz=>within 0 z 255)=L->(v=l↔bs v=cQ x):=λ{l x}e hl=>by rw[<-e];exact(IE t<|b l hl).symm
 have k1:v=codes "copper"↔bs v=cQ "copper":=k cq bw;have k2:v=codes "core"↔bs v=cQ "core":=k cq bw;have k3:v=codes "outline"↔bs v=cQ "outline":=k cq bw;have k4:v=codes "cut"↔bs v=cQ "cut":=k cq bw;have k5:v=codes "keep"↔bs v=cQ "keep":=k cq bw;rw[show(v::ws).map bs=bs v::ws.map bs from U];cases e:akH.findIdx? (λq=>decide<|v=codes q.1)with
 |none=>
  have c:=ai6.mp e
  have e0:eh st.1 (bs v::ws.map bs)=am:=by
   have n1:=cX (c ("copper",T)<|by simp[akH]);have n2:=cX (c ("core",f2)<|by simp[akH]);have n3:=cX (c ("outline",f3)<|by simp[akH]);have n4:=cX (c ("cut",f4)<|by simp[akH]);have n5:=cX (c ("keep",f5)<|by simp[akH])
   delta eh
   dsimp only;rw[aD<|λz=>n1<|k1.mpr z,aD<|λz=>n2<|k2.mpr z,aD<|λz=>n3<|k3.mpr z,aD<|λz=>n4<|k4.mpr z,aD<|λz=>n5<|k5.mpr z]
  rw[e0];refine IH 5 (cg _) (λ_=>st) (Nn (K:=K) (ds:=akH.map λq=>tup K [str q.1,ref q.2])<|sE ⟨ad,akF,hT⟩ al) U IF (λi d _ u=>?_)<|aP ⟨U,iA df⟩;refine aL (cH u) λx f akG=>?_;subst akG;have m:=eD f;exact z6 2 3<|Sk (Tv.eq (bi<|oA (x:=v) (y:=codes x.1) sD.list p (bW aE aG<|b8 (n:=0) (x:=nums v) U U)<|iu uL (aS aM)<|.mk<|s x m)<|c x m)<|II
 |some n=>
  obtain⟨C,c,hm⟩:=ai7.mp e;have hL:akH[n]?=Y akH[n]:=dq C;refine IH n (by rw[aI];lia) (λ_=>st) (Nn (K:=K) (ds:=akH.map λq=>tup K [str q.1,ref q.2])<|sE ⟨ad,akF,hT⟩ al) U IF (λi d hi u=>?_)<|aW ⟨_,by rw[cT,hL];rfl,z6 2 3<|ae3 IF (Tv.eq (bi<|oA (x:=v) (y:=codes akH[n].1) sD.list p (bW aE aG<|b8 (n:=0) (x:=nums v) U U)<|iu uL (aS aM)<|.mk<|s _<|A8 C) c) ?_⟩
  .obtain⟨x,f,rfl⟩:=cH u;have m:=eD f;have hf:decide (v=codes x.1)=aA:=by have:=hm i hi;rw[xp]at this;rw[<-this,<-(dH.mp f).2]
   exact z6 2 3<|Sk (Tv.eq (bi<|oA (x:=v) (y:=codes x.1) sD.list p (bW aE aG<|b8 (n:=0) (x:=nums v) U U)<|iu uL (aS aM)<|.mk<|s x m) hf)<|II
  .match n,C,c with
   |0,_,c=>
    rw[k1.mp<|cM c];exact sU<|zX 0 3 U aeY m1 (g.mono bw) (cW<|cW d7) U (aS<|Ev.eq (bu.ev<|fk (ds:=(v::ws).map nums) aE (.dW aG) .none_)<|bJ lst<|jG _ 1)<|.mk h.tail j
   |1,_,c=>
    rw[k2.mp<|cM c];exact sU<|zX 0 3 U aeZ m2 (g.mono bw) (cW<|cW d7) U (aS<|Ev.eq (bu.ev<|fk (ds:=(v::ws).map nums) aE (.dW aG) .none_)<|bJ lst<|jG _ 1)<|.mk h.tail j
   |2,_,c=>
    rw[k3.mp<|cM c];exact sU<|zX 0 3 U ae1 m3 (g.mono bw) (cW<|cW d7) U (aS<|Ev.eq (bu.ev<|fk (ds:=(v::ws).map nums) aE (.dW aG) .none_)<|bJ lst<|jG _ 1)<|.mk h.tail j
   |3,_,c=>
    rw[k4.mp<|cM c];exact sU<|zX 0 3 U ae7 m4 (g.mono bw) (cW<|cW d7) U (aS<|Ev.eq (bu.ev<|fk (ds:=(v::ws).map nums) aE (.dW aG) .none_)<|bJ lst<|jG _ 1)<|.mk h.tail j
   |4,_,c=>
    rw[k5.mp<|cM c];exact sU<|zX 0 3 U ae_ m5 (g.mono bw) (cW<|cW d7) U (aS<|Ev.eq (bu.ev<|fk (ds:=(v::ws).map nums) aE (.dW aG) .none_)<|bJ lst<|jG _ 1)<|.mk h.tail j
def afe(h:gY ws):Hq ws=passed (ws.map bs):=by
 match ws,h with
 |[],_=>rfl
 |[]::_,h=>rfl
 |(z::w)::ws,h=>
  have:=(h _<|ig ..).2 z<|ig ..;show decide _=(Y _==Y 35)
  have e:=_e.vS this 35 au;grind
def Sz(h:dM l):gY (n0 l):=λw a=>_e.BQ l [] [] _ (λz b _=>h z b) au au w a
def aff(h:dM l)(q:_e.vU l=L):iL s l=am:=by simp_all[_e.Lb,iL,EY,aD]
def afg(h:dM l)(q:_e.vU l=aA):iL s l=if Hq (n0 l)=L then Y s else eh s ((n0 l).map bs):=by simp_all[_e.Lb,iL,EY,_e.Wl,afe,Sz]
inductive SA(K:aJ)(A:Ad):List Rp->DS->Option eM->Prop
 |mk (h:dM l) (a:l.length<=40000) (b:jL s.1):SA K A [nums l] s (iL s.1 l)
def SB:qT base 13 221 "read_line" SA:=by
 refine sV ["draft","line","words"] λq c j st o e m n a p=>?_;cases e with|@mk l s h f g=>?_
 refine i9 0 U (b_<|aO acO<|cB (d:=nums l) aE eW) (λq=>?_)<|λq=>?_
 .exact(aff h q)▸iA df
 .rw[afg h q];have wk:=Sz h;refine qR d7 (λo k=>bz 2 (aO (acP f)<|aS aE) k)<|sU<|aeB (aO (acQ λw i=>(wk w i).1)<|aS aM) (λz=>?_)<|λz=>aH z;rw[aD<|by rw[z];simp];cases b:n0 l with
  |nil=>rw[b]at z;cases z
  |cons v ws=>
   rw[b]at wk;exact zW 0 afd (c.mono au) (cW d7) U (aS aM)<|.mk wk g
def IL:∀(t:O Int)(c:O (O Int))(d:O Int)(m:Nat),(∀l∈c,l.length<=m)->d.length+t.length<=m->∀l∈_e.fin (t.foldl _e.gG (c,d)),l.length<=m
 |[],c,d,m,e,f,l,a=>by grind-ring [_e.fin,e_]
 |b::t,c,d,m,e,f,l,a=>by
  rw[kU]at a;rw[c_]at f
  delta _e.gG at a
  dsimp only at a;split at a
  .refine IL t _ _ m (λx g=>?_) bh l a;grind
  .exact IL t _ _ m e (by(simp;lia)) l a
def afh:∀l∈dN t,l.length<=t.length:=IL t [] [] _ au au
def afi{t:O Int}(h:dM t)(j:t.length<=40000):Gy base 14 222 "read_text" [nums t] (mo K A<|pP t):=by
 refine gy ["text","draft","lines","i","line"] λq m T nd=>?_;have p:=_e.Wk h;have s:=@afh t;refine vD (Ss (dN t) s0 Sx) λE v y H I=>?_;refine aeK 1 aeJ (m.mono au) d7 λa=>qR (cW d7) (λo k=>bz 2 (aO (acN j)<|aS aw) k) ?_;have get:∀{n:Nat}{d:Rp},(((dN t).map nums).mapIdx λi d=>tup K [int (i:Nat),d])[n]?=Y d->∃l,(dN t)[n]?=Y l/\d=tup K [int (n:Nat),nums l]:=λ{n d}b=>by
  rw[rd,cT]at b;cases e:(dN t)[n]? with
  |none=>rw[e]at b;cases b
  |some x=>rw[e]at b;simp at b;subst b;exact aY x U U
 delta pP
 refine IH (c7 s0<|dN t).1 (by rw[nK,aI];exact E) (λi=>(lD s0 (dN t) i,0)) (uu (K:=K) (ds:=(dN t).map nums) M.enumerate aM) (by rw[Sr];rfl) Sj (λi d z b=>?_) ?_
 .refine aL (get b) λl c N=>?_;subst N;have f:=eD c;exact z6 3 4<|ae5 (u:=lD s0 (dN t)<|i+1) (zW 1 SB (m.mono au) (cW<|cW<|cW<|cW d7) U (cB (d:=nums l) bZ eW)<|H i l z c▸.mk (p l f) (cS (s l f) j) (y i<|AE z))<|II
 .by_cases g:(c7 s0<|dN t).1<(dN t).length
  .rw[aH g];have c:=dq g;have f:=A8 g;refine aW ⟨tup K [int ((c7 s0<|dN t).1:Nat),nums (dN t)[(c7 s0<|dN t).1]],by rw[rd,cT,c];rfl,?_⟩;have C:=I _ c;rw[v]at C⊢;exact z6 3 4<|ae6 Sj (zW 1 SB (m.mono au) (cW<|cW<|cW<|cW d7) U (cB (d:=nums _) bZ eW)<|C▸.mk (p _ f) (cS (s _ f) j) (y _<|cg _))<|Iw 1 (cW<|cW<|cW<|cW d7) U M.kj M.CV (cY aV aG) RI<|RJ 1 (cW<|cW<|cW<|cW d7) U<|bI aE
  .rw[aD g];refine aP ⟨by rw[nK,aI];lia,?_⟩;rw[v];refine ae4 1 U (s':=(lD s0 (dN t) (c7 s0<|dN t).1,if(lD s0 (dN t) (c7 s0<|dN t).1).outline.isNone=L then((dN t).length:Int)+1 else 0)) (bi<|gc (qU M aE) λG x Q=>qV Q) (λq=>?_) (λq=>?_) (RJ 1 (cW<|cW d7) U<|bI aE)
   .rw[aH q];exact Iw 1 (cW<|cW d7) U M.kj M.CV (Ev.eq (cY (cO M.len aM) aG)<|by rw[aI]) RI ae2
   .rw[aD<|by rw[show(lD s0 (dN t) (c7 s0<|dN t).1).outline.isNone=aA from q];simp]
def afj{s:DS}{o:O Pt}(c:s.1.outline=Y o)(a:jL s.1):Gy base 3 223 "board_of" [mo K A s] (ba K A ⟨s.1.stack,o,s.1.cuts,s.1.keeps⟩):=by refine gy ["draft"] λq h i j=>?_;obtain⟨e,f⟩:=a.out o c;have l:=a.gK;exact bI<|gv uK (cB (DV M aw)<|cB (d:=bU K A o) (Ev.eq (qU M aw)<|by rw[c];rfl)<|bF (Iy M aw)<|RO M aw)<|.mk (b:=⟨s.1.stack,o,s.1.cuts,s.1.keeps⟩) ⟨ap,f,a.ow,e,a.cuts,a.cut,a.keeps,λk g=>(a.lay k g).2⟩
end
open Vbpcad (Board)
@[reducible]def Bs:=O<|aR bC
abbrev cE(K:aJ)(A:Ad)(o:aR bC):Rp:=opt<|o.map<|ba K A
structure iM K A t(G H:Hp)p(bs:Bs):Prop where
 g:G p=am
 h:∃vs,H p=Y (.lst vs)/\bv G vs (bs.map<|cE K A)
 ts:TS t G H
abbrev nF(t:Ts)(p:az):O az:=[p,t.a,t.b,t.c]
abbrev lE(H:Hp)(a:O az):Hp:=λb=>if b∈a then am else H b
section
variable{K:aJ}{A:Ad}{t:Ts}{G H G' H' G0 H0 G1 H1 G2 H2:Hp}{p:az}{bs:Bs}{J:bV}{σ:St}
def iM.grow(r:iM K A t G H p bs)(e:Ext G H G' H'):iM K A t G' H' p bs:=
 aL r.h λC I h2=>
 ⟨e.f p ap r.g,⟨C,e.h _ _ I,h2.mono e.g⟩,r.ts.ext e⟩
abbrev mq(σ:St)(J:bV)(p:az):Prop:=∀(i:Nat)ds,J[i]?=Y (Y<|.own ds)->σ[i]?≠Y (Y<|.ref p)
abbrev z8(σ:St)(J:bV)(b:az):Prop:=∃(i:Nat)(ds:O Rp),J[i]?=Y (Y<|.own ds)/\σ[i]?=Y (Y<|.ref b)
open Classical in
abbrev qW (σ:St) (J:bV) (H:Hp):Hp:=λb=>if z8 σ J b then am else H b
def w8(h:¬z8 σ J b):qW σ J H b=H b:=aD h
def afk:aX (qW σ J H) H:=λb o e=>by grind[z8,qW,w8]
def br.afl(s:br H0 σ G H J)(h:H b=Y o)(n:∀C,o≠.lst C):¬z8 σ J b:=λI=>fF I λi ds h1 h2=>by obtain _:=s.own i ds h1;simp_all
def Tb.cut(x:Tb G H P ao q)(h:∀b o,H b=Y o->(∀C,o≠.lst C)->H' b=o):Tb G H' P ao q:=by
 obtain⟨z,I|⟨c,c1,c2,c3,c4⟩⟩:=x
 .exact⟨z,aP<|h _ _ I λC e=>by cases e⟩
 .exact⟨z,aW ⟨c,c1,c2,h _ _ c3 (λC e=>by cases e),h _ _ c4<|λC e=>by cases e⟩⟩
def TS.cut(x:TS t G H)(h:∀b o,H b=Y o->(∀C,o≠.lst C)->H' b=o):TS t G H':=⟨x.m.cut h,x.s.cut h,x.t.cut h⟩
def iM.noOwn(r:iM K A t G H p bs)(s:br H0 σ G H J)(n:mq σ J p):iM K A t G (qW σ J H) p bs:=
 aL r.h λvs I C=>
 ⟨r.g,⟨vs,by rewrite [w8 λz_=>fF z_ λi ds I C=>n i ds I C];lia,C⟩,r.ts.cut λb o e ne=>by grind[w8,br.afl]⟩
def br.noOwn(s:br H0 σ G H J):br (qW σ J H) σ G H J:=
 ⟨s.len,s.sub,s.wf,s.aC,λi C h=>be (s.own i C h) λa vs I _ q3=>cn a vs I (aH ⟨i,C,h,I⟩) q3,s.iZ⟩
def Ext.noOwn(s:br H0 σ G H J)(x:Ext G0 H0 G H)(y:Ext G (qW σ J H) G1 H1):Ext G0 H0 G1 H1:=by
 have k:∀b,H0 b≠am->qW σ J H b=H b:=λb C=>w8 λI=>fF I λi ds h1 h2=>by
  obtain _:=s.own i ds h1
  lia
 refine⟨x.g.trans y.g,y.s,λb o e=>y.h _ _ ?_,λb C hg=>y.f b ?_<|x.f b C hg⟩
 .exact(k b ap)▸x.h _ _ e
 .let⟨o,e⟩:=lw C;rw[k b C,x.h _ _ e];simp
def br.back(s:br H0 σ G H J)(x:Ext G0 H0 G H)(C:br (qW σ J H) akF G1 H1 akG):br H0 akF G1 H1 akG:=
 ⟨C.len,C.sub,C.wf,C.aC,λi ds h=>by
  refine be (C.own i ds h) λa vs q1 I q3=>?_;refine cn a vs q1 ?_ q3;by_cases ha:z8 σ J a
  .let⟨j,es,h1,h2⟩:=ha;let⟨b,us,w1,w2,_⟩:=s.own j es h1
   lia
  .rw[w8 ha]at I;exact x.h.free I,C.iZ⟩
def mq.of(r:iM K A t G H p bs)(n:mq σ J p)(s1:br (qW σ J H) akF G1 H1 akG):mq akF akG p:=λi C h I=>by
 refine be (s1.own i C h) λa vs q1 q2 _=>?_;rw[I]at q1;cases q1;let _:=r.h;rw[w8 λz_=>fF z_ λi C h1 I=>n i C h1 I]at q2
 lia
def Ext.DX(x:Ext G0 H0 G1 H1)(n:∀b∈akF,H0 b=am)(y:Ext G1 (lE H1 akF) G2 H2):Ext G0 H0 G2 H2:=by
 have k:∀b,H0 b≠am->lE H1 akF b=H1 b:=λb C=>by unfold lE;grind
 refine⟨x.g.trans y.g,y.s,λb o e=>?_,λb C I=>?_⟩
 .exact y.h _ _<|(k b ap)▸x.h _ _ e
 .refine y.f b ?_<|x.f b C I;rw[k b C];let⟨o,e⟩:=lw C;rw[x.h _ _ e];simp
def br.DX(s:br H0 σ G H J)(n:mq σ J p)(r:iM K A t G H p bs)(e:Ext G (lE H<|nF t p) G' H')(w:Wf H'):br H0 σ G' H' J:=by
 refine⟨s.len,e.s,w,λi d h=>aL (s.aC i d h) λv a b=>aY v a<|d.mono e.g b,λi ds h=>?_,s.iZ⟩;refine jX (s.own i ds h) λa vs q1 q2 q3 q4 q5=>?_;have ha:a∉nF t p:=λz=>by
  simp[nF]at z;have nl:∀{P:az}{C:Array aB},H P=Y (nu P C)->a≠P:=λhP z=>by rw[z,hP]at q4;cases q4
  obtain z|z|z|z:=z
  .exact n i ds h<|z▸q1
  .refine fF r.ts.m.tab λC _ I _=>?_;exact nl I z
  .refine fF r.ts.s.tab λC _ I _=>?_;exact nl I z
  .let _:=r.ts.t.tab;grind only
 have hc:lE H (nF t p) a=Y (.lst vs):=by simp_all[lE]
 exact jf a vs q1 q2 (e.f a ap q3) (e.h _ _ hc)<|q5.mono e.g
end
abbrev Sp(X:Cx)(A:Ad)(t:Ts)(p:az)(a:bV)(bs:Bs)(d:O bY)(P:Ends->Hp->Hp->Prop):Prop:=∀c H0 σ G H D,Ext c H0 G H->br H0 σ G H a->(∀b∈nF t p,H0 b=am)->mq σ a p->iM X.K A t G H p bs->P D c H0->wS X d D σ H
abbrev QR(K:aJ)(A:Ad)(t:Ts)(p:az)(bs:Bs)(d:Rp):Ends->Hp->Hp->Prop:=λD a H0=>∀v G H,Ext a H0 G H->Wf H->iM K A t G H p bs->d.r G v->D.rt v H
abbrev QX(K:aJ)(A:Ad)(t:Ts)(p:az)(a:bV)(bs:Bs):Ends->Hp->Hp->Prop:=λD b H0=>∀σ G H,Ext b H0 G H->br H0 σ G H a->mq σ a p->iM K A t G H p bs->D.nx σ H
abbrev DY(K:aJ)(A:Ad)(a:bV)(i:Nat)(bs:Bs):En:=(_b.rel a).set i<|lst<|bs.map<|cE K A
section
variable{X:Cx}{A:Ad}{t:Ts}{p:az}{i:Nat}{J oN:bV}{bs kr:Bs}{fj a8 bD:O bY}{P:Ends->Hp->Hp->Prop}{c e ei:aT}{d:Rp}{ao p1 p2 p3:bn}{x y:aq}
def ku(h:∀o,Sv X oN a8 o->Sv X J fj o)(hr:Sp X A t p oN bs a8 P):Sp X A t p J bs fj P:=λj g a G H D x s m n r f=>h (.CL (λD j g=>∀a G H,Ext j g G H->br g a G H oN->wS X a8 D a H) λy k a G H z=>k a G H<|y.back z) (λj g a G H D x s k=>k a G H x s) G _ a G H D
  ⟨aX.refl _,x.s,afk,λb E u=>u⟩ (br.noOwn s) λv w C l q=>hr j g v w C D (Ext.noOwn s x l) (br.back s x q) m (mq.of r n q) ((r.noOwn s n).grow l) f
def afm:Sp X A t p J bs [] (QX X.K A t p J bs):=λg h a G H D x s m n r f b st I=>il b st a H D I<|f a G H x s n r
def oR(a:Ev X (bj J) e d):Sp X A t p J bs (nU e ao::a8) (QR X.K A t p bs d):=λj k b G H D x s m n r f=>
 wS.last (jC pE)<|a b G H _ s.bj s.sub s.wf λv g h y w=>f v g h (x.trans y) w<|r.grow y
def z9(b:Tv X (bj J) c L)(g:Sp X A t p J bs bD (QR X.K A t p kr d)):Sp X A t p J bs (kK c bD [] ao::a8) (QR X.K A t p kr d):=λh j a G H D x s m n r f=>
 wS.cons (kN pT eP il) (b a G H _ s.bj s.sub s.wf λk l o=>
  have y:=Ext.hp s.sub l
  g h j a G k _ (x.trans y) (s.grow y o) m n (r.grow y) f)
def sX(b:Tv X (bj J) c aA)(g:Sp X A t p J bs a8 P):Sp X A t p J bs (kK c bD [] ao::a8) P:=λh j a G H D x s m n r f=>
 wS.cons (kN pT eP il) (b a G H _ s.bj s.sub s.wf λk l o=>
  have y:=Ext.hp s.sub l
  g h j a G k D (x.trans y) (s.grow y o) m n (r.grow y) f)
def Aa(a:Tv X (bj J) c q)(b:q=L->Sp X A t p J bs bD (QR X.K A t p kr d))(f:q=aA->Sp X A t p J bs a8 (QR X.K A t p kr d)):Sp X A t p J bs (kK c bD [] ao::a8) (QR X.K A t p kr d):=by
 cases q with
 |true=>exact z9 a<|b U
 |false=>exact sX a<|f U
def SC(hi:J[i]?=Y (Y<|.aC<|.ref p))(s:br H0 σ G H J)(r:iM X.K A t G H p bs):eU σ H (DY X.K A J i bs):=by
 refine⟨by rw[DY,fX];exact s.rel.len,λj q a=>?_⟩;obtain⟨rfl,e⟩|⟨m,e⟩:=get_set a
 .obtain rfl:=bL e;refine aL (s.aC j _ hi) λv b f=>?_;refine aL r.h λg k l=>?_;exact⟨v,b,p,g,f,k,l.mono s.sub⟩
 .exact s.rel.at_ j q e
def Ac i j(hi:J[i]?=Y (Y<|.aC<|.ref p))(u:Ev X (DY X.K A J i bs) e (int n))(hr:Sp X A t p (J.set j<|Y<|.aC<|int n) bs a8 P)(b:Lc X j x<|>ah)(C:Sw X e (Y<|aK x p1) ao.line<|>_r)
 :Sp X A t p J bs (iC [aK x p1] e ao::a8) P:=λE I N G H D y s m k r f=>
 wS.cons (lU b.d b.n b.l pE C b.f) (u N H H _ (SC hi s r) (aX.refl _) s.wf λv G' Q z w q=>by
  subst q;have g:=Ext.hp s.sub z.h;refine hr E I _ G Q D (y.trans g) ((s.grow g w).set (i:=j) (d:=int n) U) m (λa T h1 o=>?_) (r.grow g) f;obtain _|⟨akF,e⟩:=get_set h1
  .lia
  .rw[xA ap]at o;exact k a T e o)
def afn i(hi:J[i]?=Y (Y<|.aC<|.ref p))(N:bu X (DY X.K A J i bs) e (ns.map int)):Sp X A t p J bs (nU e ao::a8) (QR X.K A t p bs<|nums ns):=λG0 H0 Q G H D y s m k r f=>
 wS.last (jC pE) (N Q H H _ (SC hi s r) (aX.refl _) s.wf λa j T u z w n g h q=>by
  have l:∀{j:O V}{ns:O Int},bv T j (ns.map int)->bv (upd G a<|.lst j) j (ns.map int):=by intro j ns q;refine bv.of_get q.length λi v d l hd=>?_;refine aL (cH hd) λm hm akF=>?_;subst akF;refine aL (q.get' l) λd' C r'=>?_;rw[cT,hm]at C;obtain rfl:=bL C;exact r'
  have ga:=s.sub.free n
  have E:Ext G H (upd G a<|.lst j) u:=⟨gM ga,λb o e=>by
   by_cases I:b=a
   .grind[bQ]
   .rw[aQ I]at e;exact z.h _ _<|s.sub _ _ e,z.h,λb I hg=>by grind[aQ]⟩
  exact f _ _ u (y.trans E) w (r.grow E) ⟨a,j,U,bQ,l q⟩)
def afo i(hi:J[i]?=Y (Y<|.aC<|.ref p))(k:bs[n]?=Y (Y b))(l:Ev X (bj J) ei (int (n:Nat)))(s:br H0 σ G H J)(r:iM X.K A t G H p bs)(m:∀v f a,Ext G H f a->Wf a->(ba X.K A b).r f v->Q v a)
  (o:Nv X i x<|>aa)(q:v_ ei<|>alH):wE X (cR (aK x p1) ei p2) σ H Q:=by
 refine aL r.h λz C E=>?_;refine aL (E.get (i:=n) (d:=ba X.K A b)<|cT▸k▸U) λv I N=>?_;refine aL (s.aC i _ hi) λu T akF=>?_;subst akF;refine wE.by (Cs F8 (gu o) pE q) λw=>aY (.ref p) T<|l σ G H _ s.bj s.sub s.wf λy f a j w1 q1=>?_;subst q1;exact Bp p z n v U U (bR.of<|j.h _ _ C) (F6 I)<|λw'=>m v f a j w1<|(ba X.K A b).mono j.g N
end
def mq.set(k:mq σ I p):mq (σ.set j<|Y v) (I.set j<|Y<|.aC d) p:=λa ds h1 C=>by
 obtain _|⟨akF,e⟩:=get_set h1
 .lia
 .rw[xA ap]at C;exact k a ds e C
abbrev w9(X:Cx)(A:Ad)(t:Ts)(p:az)(c:bV)(bs:Bs)(e:aT)(d:Rp):Prop:=∀H0 σ G H Q,br H0 σ G H c->iM X.K A t G H p bs->(∀v b a,Ext G H b a->Wf a->d.r b v->Q v a)->wE X e σ H Q
abbrev Ae(X:Cx)(A:Ad)(t:Ts)(p:az)(c:bV)(bs:Bs)(es:O aT)(ds:O Rp):Prop:=∀H0 σ G H Q,br H0 σ G H c->iM X.K A t G H p bs->(∀vs b a,Ext G H b a->Wf a->bv b vs ds->Q vs a)->wA X es σ H Q
section
variable{X:Cx}{A:Ad}{t:Ts}{p:az}{i j k n:Nat}{J:bV}{bs kr:Bs}{a8:O bY}{P:Ends->Hp->Hp->Prop}{e ei ex:aT}{es:O aT}{d:Rp}{ds:O Rp}{ao p1 p2 p3:bn}{x y z:aq}{b:bC}{ps:O aq}{R:O Rp->Rp->Prop}
def SD(h:Ev X (bj J) e d):w9 X A t p J bs e d:=λc a G H Q s r=>h a G H Q s.bj s.sub s.wf
def IM(i:Nat)(hi:J[i]?=Y (Y<|.aC<|Rp.ref p))(a:bs[n]?=Y (Y b))(c:Ev X (bj J) ei (int n))(f:Nv X i x<|>aa)(g:v_ ei<|>alH):w9 X A t p J bs (cR (aK x p1) ei p2) (ba X.K A b):=λh l G H Q s r q=>afo i hi a c s r q f g
def SE(h:fc X (bj J) es ds):Ae X A t p J bs es ds:=λc a G H Q s r=>h a G H Q s.bj s.sub s.wf
def SF(l:w9 X A t p J bs e d)(hr:Ae X A t p J bs es ds)(m:Se X e es<|>_r):Ae X A t p J bs (e::es) (d::ds):=λc f G H Q s r q=>
 wA.by (eO pE pA m) λw=>l c f G H _ s r λv o u a C E=>hr c f o u _ (s.grow a C) (r.grow a) λvs I N h T r2 _=>q _ I N (a.trans h) T ⟨d.mono h.g E,r2⟩
def afp(g:Good X.prog X.w X.K X.mg X.base k x ps R)(hr:cj k X.A)(h:Ae X A t p J bs (e::es) ds)(l:R ds d)(a:Gn X x<|>ae)
  (m:Se X e es<|>_r)(o:Bt X ao es<|>_r):w9 X A t p J bs (b0 (aK x p1) (e::es) [] ao) d:=λu C G H Q s r q=>by
 refine de g.ex λf fd E I N F=>?_;refine wE.by (mP F hr a.g E I N .nil iW pA a.d m o) λw=>h u C G H _ s r λvs T H1 c w1 r1=>?_;rw[eG];exact qg T ds d c.s w1 r1 l<|λv G2 H2 e2 w2 r2 _=>q v G2 H2 (c.trans e2) w2 r2
def afq(a:w9 X A t p J bs e d):Sp X A t p J bs (nU e ao::a8) (QR X.K A t p bs d):=λo c g G H D x s m n r f=>
 wS.last (jC pE)<|a c g G H _ s r λv h l y w=>f v h l (x.trans y) w<|r.grow y
def IN(i:Nat)(hi:J[i]?=Y (Y<|.aC<|.ref p))(hv:w9 X A t p J bs e (ba X.K A b))(hx:Ev X (bj J) ei (int (n:Nat)))(hn:n<bs.length)(hr:Sp X A t p J (bs.set n<|Y b) a8 P)
  (hN:Nv X i x<|>aa)
  (hs:T5 [cR (aK x p1) ei p2] e ao.line X.env=pure aA<|>_r)(hw:T6 [cR (aK x p1) ei p2] e X.env=pure am<|>_r)
  (h1:(gE [cR (aK x p1) ei p2] X.env).map (·.2)=[k6 (cR (aK x p1) ei p2) X.env]<|>_r)
  (ha:(∀v,k6 (cR (aK x p1) ei p2) X.env v=(do
   let ov<-kG [v] (eval (aK x p1) X.env);let I<-kG [v,ov] (eval ei X.env)
   xB p2
   kG [v,ov,I] (Ey ov I v)
   T4 [v,ov,I] []))<|>ag):Sp X A t p J bs (iC [cR (aK x p1) ei p2] e ao::a8) P:=λG0 H0 N G H D y s m k r f=>by
 apply wS.cons<|LJ pE (LI (gu hN) pE set_list ha) hs hw h1;refine hv H0 N G H _ s r λv G1 H1 Q w1 q1=>?_;have w:=s.grow Q w1;refine aL (w.aC i _ hi) λu h2 T=>?_;subst T;refine aY (.ref p) h2<|hx N G1 H1 _ w.bj w.sub w1 λu G2 H2 C w2 q2=>?_;subst q2;have l:=w.grow C w2;have E:=(r.grow Q).grow C;have y2:=(y.trans Q).trans C;refine aL E.h λvs h4 h5=>?_;have hl:vs.length=bs.length:=by rw[h5.length,aI]
 refine Bp p vs n n U U h4 ?_ ?_
 .rw[om,aH<|aiW _,aH ap];rfl
 .have hp:p∈nF t p:=ig ..;have sub:aX G2 (upd H2 p<|.lst<|vs.set n v):=λc o e=>by rw[aQ<|λz=>by rw[z,E.g]at e;simp at e];exact l.sub _ _ e
  refine hr G0 H0 N G2 _ D ⟨y2.g,sub,λc o e=>by rw[aQ<|λz=>by rw[z,m p hp]at e;simp at e];exact y2.h _ _ e,y2.f⟩ ⟨l.len,sub,?_,l.aC,λj ds h=>?_,l.iZ⟩ m k ⟨E.g,⟨_,bQ,?_⟩,E.ts.cut λc o e ne=>by rw[aQ<|by grind only];exact e⟩ f
  .exact w2.new λxs z=>by injection z with z;subst z;rw[fX];exact w2 _ _ h4
  .refine jX (l.own j ds h) λa us z1 z2 z3 z4 z5=>?_;exact jf a us z1 z2 z3 (by rwa[aQ λz=>k j ds h<|by rwa[<-z]]) z5
  .refine bv.of_get (by rw[fX,aI,fX,hl]) λc v' d' akG akH=>?_;refine aL (cH akH) λo q T=>?_;subst T;obtain⟨rfl,rfl⟩|⟨hc,akI⟩:=get_set akG
   .rw[AC,aH U,aH hn]at q;simp at q;subst q;exact(ba X.K A b).mono C.g q1
   .rw[xA<|λz=>hc z.symm]at q;refine aL (h5.get' akI) λd2 akF z=>?_;rw[cT,q]at akF;simp at akF;exact akF▸z
def afr j(g:GoodC X.prog X.w X.K X.mg X.base k z ps t R)(akF:cj k X.A)(ha:Ae X A t p J bs (e::es) ds)(hR:R ds d)(hr:Sp X A t p (J.set j<|Y<|.aC d) bs a8 P)(I:Lc X j x<|>ah)(akG:Sw X (b0 (aK z p2) (e::es) [] p3) (Y<|aK x p1) ao.line<|>_r)
 (N:Gn X z<|>ae)(he:Se X e es<|>_r)(akH:Bt X p3 es<|>_r):Sp X A t p J bs (iC [aK x p1] (b0 (aK z p2) (e::es) [] p3) ao::a8) P:=λG0 H0 σ G H D y s m q r f=>by
 refine de g.ex λfa fd hm hk u F=>?_;refine wS.cons (lU I.d I.n I.l (mP F akF N.g hm hk u .nil iW pA N.d he akH) akG I.f)<|ha H0 σ G H _ s r λvs G1 H1 Q w1 r1=>?_;rw[eG];have T:=s.grow Q w1;have E:=r.grow Q;refine E9 G1 ds d Q.s w1 r1 hR E.ts<|λv G2 H2 C w2 t2 r2=>?_;have y1:=y.trans Q;refine aL E.h λus h1 h2=>?_;have nt:∀{b:az}{xs:O V},H1 b=Y (.lst xs)->b≠t.a/\b≠t.b/\b≠t.c:=λu=>
  fF E.ts.m.tab λ_ _ k1 _=>
  fF E.ts.s.tab λ_ _ k2 _=>
  fF E.ts.t.tab λ_ _ k3 _=>
  ⟨λz=>(by rw[z,k1]at u;cases u),λz=>(by rw[z,k2]at u;cases u),λz=>(by rw[z,k3]at u;cases u)⟩
 let⟨n1,n2,n3⟩:=nt h1;refine hr G0 H0 _ G2 H2 D ⟨y1.g.trans C.g,C.s,λb o u=>?_,λb u N=>?_⟩ (br.set ⟨T.len,C.s,w2,λi d h=>aL (T.aC i d h) λv a b=>aY v a<|d.mono C.g b,λi ds h=>?_,T.iZ⟩ r2) m q.set ⟨C.f p ap E.g,⟨us,C.h _ _ h1 n1 n2 n3,h2.mono C.g⟩,t2⟩ f
 .refine C.h b o (y1.h _ _ u) (λz=>?_) (λz=>?_)<|λz=>?_
  .rw[z,m t.a<|by simp[nF]]at u;contradiction
  .rw[z,m t.b<|by simp[nF]]at u;simp at u
  .rw[z,m t.c<|by simp[nF]]at u;contradiction
 .let⟨o,ho⟩:=lw u;exact C.f b ((y1.h _ _ ho)▸λz=>nomatch z)<|y1.f b u N
 .refine jX (T.own i ds h) λa us z1 z2 z3 z4 z5=>?_;let⟨n1,n2,n3⟩:=nt z4;exact jf a us z1 z2 (C.f a ap z3) (C.h _ _ z4 n1 n2 n3)<|z5.mono C.g
end
abbrev SH(K:aJ)(A:Ad)(t:Ts)(R:O Rp->Bs->Bs->Rp->Prop):_a.Sp:=λvs H Q _=>∃G p us ds bs c d,vs=.ref p::us/\aX G H/\Wf H/\bv G us ds/\iM K A t G H p bs/\R ds bs c d/\
 ∀v b a,Ext G (lE H<|nF t p) b a->Wf a->iM K A t b a p c->d.r b v->Q v a
structure qX P w K A t mg base k x ps R:Prop where
 ex:∃f a,mg x=Y (.ref f)/\k8 K (.ref f)=L/\Binds K a ps []/\fH P w K mg base iH k f a ps (SH K A t R)
section
variable{X:Cx}{A:Ad}{t:Ts}{p:az}{k:Nat}{J:bV}{bs kr:Bs}{a8:O bY}{P:Ends->Hp->Hp->Prop}{es:O aT}{d:Rp}{ds:O Rp}{ao p1 p2 p3 p4:bn}{x y z:aq}{ps:O aq}{R:O Rp->Bs->Bs->Rp->Prop}
def afs(i j)(g:qX X.prog X.w X.K A t X.mg X.base k z ps R)(E:cj k X.A)(hi:J[i]?=Y (Y<|.aC<|Rp.ref p))(I:fc X (bj J) es ds)(N:R ds bs kr d)(hr:Sp X A t p (J.set j<|Y<|.aC d) kr a8 P)(a:Lc X j x<|>ah)
  (Q:Nv X i y<|>aa)
  (T:Sw X (b0 (aK z p2) (aK y p4::es) [] p3) (Y<|aK x p1) ao.line<|>_r)(c:Gn X z<|>ae)
  (he:Se X (aK y p4) es<|>_r)(akF:Bt X p3 es<|>_r):Sp X A t p J bs (iC [aK x p1] (b0 (aK z p2) (aK y p4::es) [] p3) ao::a8) P:=λG0 H0 σ G H D y0 s m q r f=>by
 refine de g.ex λfa fd hm hk hb F=>?_;refine aL (s.aC i _ hi) λu h3 akG=>?_;subst akG;refine wS.cons (lU a.d a.n a.l (mP F E c.g hm hk hb .nil iW (eO (gu Q) pA) c.d he akF) T a.f) ⟨.ref p,h3,I σ G H _ s.bj s.sub s.wf λe G1 H1 b h r1=>?_⟩;show SH X.K A t R ((.ref p::e)++[]) H1 _ _;rw[eG];have o:=r.grow b;exact⟨G1,p,e,ds,bs,kr,d,U,b.s,h,r1,o,N,λv G2 H2 C w2 g2 rv=>hr G0 H0 _ G2 H2 D (Ext.DX (y0.trans b) m C) ((br.DX (s.grow b h) q o C w2).set rv) m q.set g2 f⟩
def IP(i j){b:az}(hj:J[j]?=Y (Y<|.aC<|.ref b))(g:qX X.prog X.w X.K A t X.mg X.base k z ps R)(hz:X.mg z=Y (.ref b))(akF:cj k X.A)(hi:J[i]?=Y (Y<|.aC<|.ref p))(akG:fc X (bj J) es ds)(hR:R ds bs kr d)
  (akH:Nv X j x<|>aa)
  (hN:Nv X i y<|>aa)
  (E:Se X (aK y p4) es<|>_r)(akI:Bt X p3 es<|>_r):Sp X A t p J bs (nU (Y<|b0 (aK x p2) (aK y p4::es) [] p3) ao::a8) (QR X.K A t p kr d):=λG0 H0 c G H D x0 s m q r f=>by
 refine wS.last (jC pE) λN st I=>?_;refine de g.ex λakK fd e hk hb F=>?_;rw[hz]at e;simp at e;subst e;refine aL (s.aC j _ hj) λv h1 h=>?_;subst h;refine aL (s.aC i _ hi) λv h3 h=>?_;subst h;refine nN<|bo (gu akH N st c H (λv a=>v=.ref b/\a=H) I ⟨_,h1,U,U⟩) λu s1 z_=>de z_ λv l Q T e1 e2=>?_;subst e1 e2;subst T;refine xI Q.ok.mod.pp hk (bo (eO (gu hN) pA E p3 N s1 c l (λn a=>∃o G',n=.ref p::o/\Ext G l G' a/\Wf a/\bv G' o ds) Q ⟨.ref p,h3,akG c G l _ s.bj s.sub s.wf λn G1 H2 e1 w1 T=>(by grind only)⟩) λo s2⟨n,H2,I2,rv,akJ,G2,eq,C,w2,r2⟩=>⟨I2.hW,?_⟩) E akI;subst eq;apply v9 F akF hb .nil iW I2 rv;rw[eG];exact⟨G2,p,akJ,ds,bs,kr,d,U,C.s,w2,r2,r.grow C,hR,λv G3 H3 e3 w3 g3=>f v G3 H3 (Ext.DX (x0.trans C) m e3) w3 g3⟩
end
section
variable{P:bO}{w:bN}{K:aJ}{A:Ad}{t:Ts}{mg:aq->aR aB}{base:bf}{k:Nat}{x:aq}{st:bY}{N ps:O aq}{R:O Rp->Bs->Bs->Rp->Prop}
def afu(T:l0 K mg x st ps)(S:im N ps (fv st))(I:∀ds b b' d,R ds b b' d->ds.length+1=ps.length)
  (h:∀f c l m s H E,cj k (XD P w K mg base N x st f c l m s H E).A->∀ds bs a d,R ds bs a d->(∀d∈ds,bA d)->∀p,_c.Sp (XD P w K mg base N x st f c l m s H E) A t p (ent N (Rp.ref p::ds)) bs (gL st)<|QR K A t p a d):
  qX P w K A t mg base (k+1) x ps R:=by
 refine be T.ex λf fd hm F n=>?_;refine⟨f,fd,hm,F.kp,n,F.ok S (λvs H Q E u=>by obtain⟨G,p,z,ds,bs,a,d,e,_,_,r,_,y,_⟩:=u;rw[e,c_,r.length];exact I ds bs a d y) λc l m s H vs Q E hr u=>?_⟩;obtain⟨G,p,z,ds,bs,a,d,e,C,W,r,g,y,q⟩:=u;subst e;have s0:br H _ G H (ent N (.ref p::ds)):=sv (vs:=.ref p::z) ⟨U,r⟩ C W;have x0:Ext G (lE H<|nF t p) G H:=⟨aX.refl _,C,λb o e=>by simp_all[lE],λ_ _ h=>h⟩
 exact aY _ eP<|h f c l m s H E hr ds bs a d y r.pB p G _ _ G H _ x0 ⟨s0.len,s0.sub,s0.wf,s0.aC,λi ds h=>absurd h<|d7 i ds,λi j ds es b h=>absurd h<|d7 i ds⟩ (λb n=>by delta lE;rw[aH n]) (λi ds h=>absurd h<|d7 i ds) g λv G' H' e w' g' hv=>q v G' H' e w' g' hv
end
section
variable{P:bO}{w:bN}{K:aJ}{mg:aq->aR aB}{base:bf}{A:Ad}[Z:Zc P w K mg A]
def DZ{R:aJ->Ad->O Rp->Bs->Bs->Rp->Prop}N(h:∀q,cj k (XQ P w K mg base N x (top i) q).A->∀ds bs g d,R K A ds bs g d->(∀d∈ds,bA d)->∀p,N.Nodup->_c.Sp (XQ P w K mg base N x (top i) q) A t p (ent N (.ref p::ds)) bs (gL<|top i) (QR K A t p g d))
  (S:im N (dw i) (fv<|top i)<|>alD)
  (j:(∀ds b e d,R K A ds b e d->ds.length+1=(dw i).length)<|>alR)(l:nameAt i=x<|>_r)(hi:i∈kl<|>alE):qX P w K A t mg base (k+1) x (dw i) (R K A):=
 afu (Zc.at i x l hi) S j λf c a o s H E m ds b e d n u p=>h ⟨f,c,a,o,s,H,E⟩ m ds b e d n u p S.nd
def afv b G x(h:(ba K A b).r G x):decide (x=V.bH)=aA:=IA (let⟨_,a,_,_,e,_⟩:=h;⟨a,e⟩)
abbrev gZ(v:Int):Bool:=decide (v=0)||decide (v=1)
abbrev gi(bs:Bs)(l:O Int):Int:=if(l.all gZ)=L then(if(l.any λv=>(bs.getD v.toNat am).isNone)=L then-2 else 0)else-1
def Af{b:Bs}{l:O Int}(h:b.length=2):Gy base 2 150 "places_refusal" [lst<|b.map<|cE K A,nums l] (int<|gi b l):=by
 refine gy ["places","asked","place"] λq k m o=>?_;refine dg (dE<|Tv.eq (b_<|CP M.all<|bu.ev<|eA.fw<|d6 (g:=λv=>bl<|gZ v) (own:=[("place",2)]) (cK aE) (dD U) (λv _=>aY _ (eu 2)<|λs d C f i=>(iu G_ (aS aM) .mk))<|by rw[c9];rfl)<|C6 _ _) (λq=>bB (bX M.GG)<|by rw[gi,aD<|by simpa using q]) (λq=>?_);have q:l.all gZ=L:=by simpa using q
 have e:gi b l=if(l.any λv=>(b.getD v.toNat am).isNone)=L then-2 else 0:=by rw[gi,aH q]
 refine dg (Tv.eq (b_<|zg M.any<|bu.ev<|eA.fw<|d6 (l:=l) (g:=λv=>bl (b.getD v.toNat am).isNone) (own:=[("place",2)]) (cK aE) (dD U) (λv a=>aY _ (eu 2)<|λs d C f i=>?_)<|by rw[c9];rfl)<|O9 _ _) (λz=>bB (bX M.aaE)<|by rw[e,aH z]) (λz=>bB aG<|by rw[e,aD<|by rw[z];simp]);have a:=dR.mp q v a;unfold gZ at a;simp at a;have c:v.toNat<b.length:=ap;exact dF<|gc (bW aw aM<|b8 (n:=v.toNat) ap<|by rw[cT,dq c];rfl) λG x j=>by rw[RQ afv j,jt,dq c];rfl
abbrev sY(b:Bs)(n:Int)(a:O Int):Bs×O Int:=if gZ n=L then(if 40000<a.length then(b,[-13])else match Bi (bs a)with
 |.error k=>(b,[-100-k])
 |.ok x=>(b.set n.toNat<|Y x,[0]))else(b,[-1])
inductive IQ(K:aJ)(A:Ad):List Rp->Bs->Bs->Rp->Prop
 |mk {n:Int} {a:List Int} (h:b.length=2) (c:dM a):IQ K A [nums [n],nums a] b (sY b n a).1 (nums (sY b n a).2)
@[reducible]def SI(t:Ts)(P:bO)(w:bN)(K:aJ)(mg:aq->aR aB)(base:bf)(A:Ad):Prop:=qX P w K A t mg base 15 "call_load" (dw 225)<|IQ K A
def afw{t:Ts}:SI t P w K mg base A:=by
 refine DZ ["places","numbers","row","draft"] λq C E f G d m H p I=>?_;cases m with|@mk f n row h g=>?_
 have i:∀{X:Cx}{j:En}{p q s:bn}{t:Nat},Ev X j (aK "numbers" p) (nums [n])->Ev X j (cR (aK "numbers" p) (dX (.int 0) t q) s) (int n):=λe=>bW e aG<|b8 U U;unfold sY;refine Aa (q:=!gZ n) (dE<|b_<|iu G_ (aS<|i aE) .mk) (λq=>?_)<|λq=>?_
 .rw[aD<|by simpa using q];exact oR (d:=nums [-1])<|cz<|aS<|bX M.GG
 .have q:gZ n=L:=by simpa using q
  rw[aH q];refine Aa (q:=decide<|40000<(row.length:Int)) (Tv.eq (bi<|iq (cO M.len aM)<|bX M.aaz)<|by rw[aI]) (λz=>?_)<|λz=>?_
  .rw[aH (by have:=cM z;omega)];exact oR (d:=nums [-13])<|cz<|aS<|bX M.aaK
  .have z:=cX z;rw[aD aU];refine ku (λo k=>bz 3 (aO (afi g aU)<|aS aM) k) ?_;obtain⟨ok,a⟩:=afc g;cases e:Bi (bs row)with
   |error k=>
    rw[e]at a;obtain⟨c,l⟩:=a;refine z9 (Tv.eq (bi<|iq (Iz M aV) aG)<|by rw[c,fr];omega)<|oR (d:=nums [-100-(k:Nat)])<|cz<|aS<|Ev.eq (cZ (bX M.aaL)<|Iz M aV)<|by rw[c]
   |ok x=>
    rw[e]at a;obtain⟨c,l,u⟩:=a;have v:(n.toNat:Int)=n:=by unfold gZ at q;simp only[tu,fr]at q;omega
    have y:n.toNat<f.length:=by unfold gZ at q;simp only[tu,fr]at q;omega
    refine sX (Tv.eq (bi<|iq (Iz M aV) aG)<|by rw[c];decide)<|IN 0 U (n:=n.toNat) (b:=x) (SD<|Ev.eq (aO (afj l ok)<|aS aV)<|by rw[<-u];rfl) (Ev.eq (i aE)<|by rw[v]) y<|oR (d:=nums [0])<|cz<|aS aG
abbrev sZ(b:Bs)(n m:Int):Bs×O Int:=if gZ n=L then(if gi b [m]<0 then(b,[gi b [m]])else(b.set n.toNat<|b.getD m.toNat am,[0]))else(b,[-1])
def IR(h:¬gi b l<0)(d:b.length=2):∀v∈l,v.toNat<b.length/\v.toNat=v/\∃x,b[v.toNat]?=Y (Y x):=λv a=>by
 unfold gi at h;split at h
 .next q=>
  split at h
  .exact absurd au h
  .next z=>
   have q:=dR.mp q v a;unfold gZ at q;simp at q;have c:v.toNat<b.length:=ap;refine⟨c,ap,?_⟩;cases e:b[v.toNat]? with
   |none=>have:=(List.getElem?_eq_none_iff.mp e);lia
   |some o=>
    cases o with
    |some x=>exact au
    |none=>
     refine absurd (Jh.mpr ⟨v,a,?_⟩) z;rw[jt,e];rfl
 .exact absurd au h
inductive IS(K:aJ)(A:Ad):List Rp->Bs->Bs->Rp->Prop
 |mk {n m:Int} {d:Rp} (h:b.length=2):IS K A [nums [n,m],d] b (sZ b n m).1 (nums (sZ b n m).2)
@[reducible]def SJ(t:Ts)(P:bO)(w:bN)(K:aJ)(mg:aq->aR aB)(base:bf)(A:Ad):Prop:=qX P w K A t mg base 3 "call_copy" (dw 226)<|IS K A
def afx{t:Ts}:SJ t P w K mg base A:=by
 refine DZ ["places","numbers","row","refusal"] λq u v c y d k C p E=>?_;cases k with|@mk c n m G h=>?_
 have g:∀{X:Cx}{a:En}{p q f:bn}{t:Nat},Ev X a (aK "numbers" p) (nums [n,m])->Ev X a (cR (aK "numbers" p) (dX (.int 0) t q) f) (int n):=λe=>bW e aG<|b8 U U;have i:∀{X:Cx}{a:En}{p q f:bn}{t:Nat},Ev X a (aK "numbers" p) (nums [n,m])->Ev X a (cR (aK "numbers" p) (dX (.int 1) t q) f) (int m):=λe=>bW e aG<|b8 (n:=1) U U;unfold sZ;refine Aa (q:=!gZ n) (dE<|b_<|iu G_ (aS<|g aE) .mk) (λq=>?_)<|λq=>?_
 .rw[aD<|by simpa using q];exact oR (d:=nums [-1])<|cz<|aS<|bX M.GG
 .have q:gZ n=L:=by simpa using q
  rw[aH q];refine Ac 0 3 U (aO (Af h)<|cB (d:=lst<|c.map<|cE K A) aw<|cB (d:=nums [m]) (cz<|aS<|i aE) eW)<|Aa (bi<|e8 aV aG) (λz=>?_)<|λz=>?_
  .rw[aH<|cM z];exact oR (d:=nums [_])<|cz<|aS aV
  .have z:=cX z;rw[aD z];obtain⟨H,l,x,j⟩:=IR z h m au;have o:(n.toNat:Int)=n:=by unfold gZ at q;simp only[tu,fr]at q;lia
   have s:n.toNat<c.length:=by unfold gZ at q;simp only[tu,fr]at q;lia
   rw[jt,j,vx];exact IN 0 U (n:=n.toNat) (b:=x) (IM 0 U (n:=m.toNat) j<|Ev.eq (i aE)<|by rw[l]) (Ev.eq (g aE)<|by rw[o]) s<|oR (d:=nums [0])<|cz<|aS aG
abbrev Ag(b:Bs)(n m:Int):O Int:=if gi b [n,m]<0 then[gi b [n,m]]else[if b.getD n.toNat am=b.getD m.toNat am then 1 else 0]
inductive IT(K:aJ)(A:Ad):List Rp->Bs->Bs->Rp->Prop
 |mk {n m:Int} {d:Rp} (h:b.length=2):IT K A [nums [n,m],d] b b (nums (Ag b n m))
@[reducible]def SK(t:Ts)(P:bO)(w:bN)(K:aJ)(mg:aq->aR aB)(base:bf)(A:Ad):Prop:=qX P w K A t mg base 3 "call_same" (dw 227)<|IT K A
def afy{t:Ts}:SK t P w K mg base A:=by
 refine DZ ["places","numbers","row","refusal"] λq u v b C d i E p G=>?_;cases i with|@mk b n m H h=>?_
 have j:∀{X:Cx}{a:En}{p q c:bn}{t:Nat},Ev X a (aK "numbers" p) (nums [n,m])->Ev X a (cR (aK "numbers" p) (dX (.int 0) t q) c) (int n):=λe=>bW e aG<|b8 U U;have k:∀{X:Cx}{a:En}{p q c:bn}{t:Nat},Ev X a (aK "numbers" p) (nums [n,m])->Ev X a (cR (aK "numbers" p) (dX (.int 1) t q) c) (int m):=λe=>bW e aG<|b8 (n:=1) U U;unfold Ag;refine Ac 0 3 U (aO (Af h)<|cB (d:=lst<|b.map<|cE K A) aw<|cB (d:=nums [n,m]) aE eW)<|Aa (bi<|e8 aV aG) (λz=>?_)<|λz=>?_
 .rw[aH<|cM z];exact oR (d:=nums [_])<|cz<|aS aV
 .have z:=cX z;rw[aD z];refine eR (IR z h n au) λI l o=>?_;obtain⟨x,f⟩:=o;obtain⟨N,s,y,g⟩:=IR z h m au;rw[jt,f,jt,g,vx,vx];refine afn 0 U<|iY (ds:=[int _])<|aS<|h_ (p:=decide<|x=y) (b_<|aO acu<|cB (d:=ba K A x) (bW (ds:=b.map<|cE K A) aw (Ev.eq (j aE)<|by rw[l])<|b8 (n:=n.toNat) U<|by rw[cT,f];rfl)<|cB (d:=ba K A y) (bW (ds:=b.map<|cE K A) aw (Ev.eq (k aE)<|by rw[s])<|b8 (n:=m.toNat) U<|by rw[cT,g];rfl) eW) (λq=>Ev.eq aG ?_)<|λq=>Ev.eq aG ?_
  .rw[aH<|bJ Y<|cM q]
  .rw[aD<|λe=>cX q<|bL e]
inductive RP K A:aq->List Rp->Bs->Bs->Rp->Prop
 |load (h:IQ K A ds b a d):RP K A "call_load" ds b a d
 |copy (h:IS K A ds b a d):RP K A "call_copy" ds b a d
 |same (h:IT K A ds b a d):RP K A "call_same" ds b a d
inductive s_ K A:List Rp->Bs->Bs->Rp->Prop
 |place {bs e:Bs} (c:pF.lookup n=Y nm) (h:RP K A nm [a,b] bs e d):s_ K A [int n,a,b] bs e d
 |bad {bs:Bs} (c:pF.lookup n=am) (f:bs.length=2) (h:gi bs [p]<0):s_ K A [int n,nums (p::l),b] bs bs (nums [gi bs [p]])
 |ask {k:Nat} {l:List Int} {b d:Rp} {bs:Bs} {x:bC} (c:pF.lookup n=am) (f:bs.length=2) (g:bs[k]?=Y (Y x)) (i:(oC.lookup n).isSome=L) (h:zV K A [ba K A x,int n,nums l,b] d):s_ K A [int n,nums (k::l),b] bs bs d
 |chg {k:Nat} {l:List Int} {b:Rp} {bs:Bs} {x y:bC} (c:pF.lookup n=am) (f:bs.length=2) (g:bs[k]?=Y (Y x)) (i:(oC.lookup n).isSome=aA) (h:Du K A [ba K A x,int n,nums l,b] (oJ K A (m,y))):s_ K A [int n,nums ((k:Int)::l),b] bs (bs.set k (Y y)) (nums [m])
def xa{bs:Bs}{k:Nat}(a:bs.length=2)(b:bs[k]?=Y (Y x)):gi bs [k]=0:=by grind-order [gZ,gi]
@[reducible]def afz(t:Ts)(P:bO)(w:bN)(K:aJ)(mg:aq->aR aB)(base:bf)(A:Ad):Prop:=qX P w K A t mg base 16 "answer_of" (dw 231)<|s_ K A
def afA{t:Ts}(H:QA t P w K mg base A)(I:SI t P w K mg base A)(N:SJ t P w K mg base A)(Q:SK t P w K mg base A):afz t P w K mg base A:=by
 refine DZ ["places","number","numbers","row","call","place","refusal","outcome"] λq i ds f akI d T hI p nd=>?_;obtain⟨ad,ff,j,s,u,akF⟩:=D.pF;cases T with
 |@place n nm a b _ _ _ c h=>
  obtain⟨G,akG,z⟩:=akF n nm c;refine z9 (Tv.eq (bi<|zm s aE<|or (v:=.ref ad) j U<|λ_=>U)<|by rw[u,c];rfl) (ku (λo k=>bz 4 (C1 (d:=ref G) (v:=.ref G) s (or (v:=.ref ad) j U<|λ_=>U) aE akG U (λ_=>U)<|by exactλ_ _=>U) k) ?_);cases h with
  |load h=>exact IP 0 4 U I z (i.mono bw) U (bF aM aV) h
  |copy h=>exact IP 0 4 U N z (i.mono bw) U (bF aM aV) h
  |same h=>exact IP 0 4 U Q z (i.mono bw) U (bF aM aV) h
 |@bad n q l b f c e h=>
  refine sX (Tv.eq (bi<|zm s aE<|or (v:=.ref ad) j U<|λ_=>U)<|by rw[u,c];rfl)<|ku (λo k=>bz 5 (bW aM aG<|b8 (n:=0) (x:=int q) U U) k) ?_;exact Ac 0 6 U (aO (Af e)<|cB (d:=lst<|f.map<|cE K A) aw<|cB (d:=nums [q]) (cz<|aS dU) eW)<|z9 (Tv.eq (bi<|e8 (cJ 6 U) aG)<|dm h)<|oR (d:=nums [_])<|cz<|aS<|cJ 6 U
 |@ask n k l b _ f x c e g C h=>
  refine sX (Tv.eq (bi<|zm s aE<|or (v:=.ref ad) j U<|λ_=>U)<|by rw[u,c];rfl)<|ku (λo E=>bz 5 (bW aM aG<|b8 (n:=0) (x:=int (k:Int)) U U) E) ?_;refine Ac 0 6 U (aO (Af e)<|cB (d:=lst<|f.map<|cE K A) aw<|cB (d:=nums [(k:Int)]) (cz<|aS dU) eW) (sX (Tv.eq (bi<|e8 (cJ 6 U) aG)<|by rw[xa e g];decide)<|z9 (Tv.eq (b_<|aO Ry<|aS aE) C) ?_);exact afq<|afp aey (i.mono bw) (SF (IM 0 U g dU)<|SE<|cB aE<|cB (d:=nums l) (Ev.eq (bu.ev<|fk (ds:=((k:Int)::l).map int) aM (.dW aG) .none_)<|bJ lst<|jG _ 1)<|aS aV) h
 |@chg n m k l b f x y c e g C h=>
  have akH:=(dH.mp g).1;refine sX (Tv.eq (bi<|zm s aE<|or (v:=.ref ad) j U<|λ_=>U)<|by rw[u,c];rfl)<|ku (λo E=>bz 5 (bW aM aG<|b8 (n:=0) (x:=int (k:Int)) U U) E) ?_;refine Ac 0 6 U (aO (Af e)<|cB (d:=lst<|f.map<|cE K A) aw<|cB (d:=nums [(k:Int)]) (cz<|aS dU) eW) (sX (Tv.eq (bi<|e8 (cJ 6 U) aG)<|by rw[xa e g];decide)<|sX (Tv.eq (b_<|aO Ry<|aS aE) C) ?_);refine afr 7 H (i.mono bw) (SF (IM 0 U g dU)<|SE<|cB aE<|cB (d:=nums l) (Ev.eq (bu.ev<|fk (ds:=((k:Int)::l).map int) aM (.dW aG) .none_)<|bJ lst<|jG _ 1)<|aS aV) h ?_;exact IN 0 U (n:=k) (b:=y) (SD<|gN (K:=K) (ds:=[int m,ba K A y]) (cJ 7 U) aG U) dU akH<|oR (d:=nums [m])<|cz<|aS<|gN (K:=K) (ds:=[int m,ba K A y]) (cJ 7 U) aG U
end
section
variable{X:Cx}{A:Ad}{t:Ts}{p:az}{J Δ:bV}{bs kr:Bs}{fj a8 bD:O bY}{P:Ends->Hp->Hp->Prop}{c:aT}{ao:bn}
def afB(h:_c.Sp X A t p J bs fj (QX X.K A t p Δ kr)){d:bV}(f:Fg Δ d<|>alK):_c.Sp X A t p J bs fj (QX X.K A t p d kr):=λu v w G H D x s m n r k=>h u v w G H D x s m n r λy C E e j I N=>k y C E e (j.forget f) (λi g l=>by
 intro o;refine be ((j.forget f).own i g l) λa vs q q2 _=>?_;rw[o]at q;cases q
 have Q:∀{Δ d:bV},Fg Δ d->∀(i:Nat)g,d[i]?=Y (Y<|.own g)->Δ[i]?=Y (Y<|.own g):=by
  intro Δ
  induction Δ with
  |nil=>intro d f i g h;cases d with
   |nil=>simp at h
   |cons _ _=>exact f.elim
  |cons a Δ T=>intro d f i g h;cases d with
   |nil=>exact f.elim
   |cons b d=>
    cases i with
    |zero=>
     obtain z|z:=f.1
     .rw[ai8]at h⊢;rw[<-h,z]
     .rw[ai8,z]at h;cases h
    |succ i=>exact T f.2 i g h
 exact I i g (Q f i g l) o) N
def afC{α:Type}(S:α->bV)(d:α->Bs)a0(T:α->Bool)(ok:α->Prop)(mu:α->Nat)(I:S a0=J)(k0:d a0=bs)(hk:ok a0)(hc:∀a,ok a->Tv X (_b.rel<|S a) c (T a))(hb:∀a,ok a->T a=L->(∀o∈d a,bA<|cE X.K A o)->∃b,ok b/\mu b<mu a/\_c.Sp X A t p (S a) (d a) bD (QX X.K A t p (S b)<|d b))
  (hr:∀a,ok a->T a=aA->_c.Sp X A t p (S a) (d a) a8 P)(hp:p0 (bg X.prog X.w) X.A X.env X.xe<|>aj):_c.Sp X A t p J bs (.While c bD [] ao::a8) P:=λl e σ G H D x s m n r f=>by
 refine wS.cons (FV hp pT eP) ⟨λm g i=>∃a,ok a/\m=mu a/\∃j,Ext l e j i/\br e g j i (S a)/\mq g (S a) p/\iM X.K A t j i p (d a),⟨_,a0,hk,U,G,x,I▸s,I▸n,k0▸r⟩,?_⟩;rintro m' g i ⟨a,v,rfl,j,x',q,N,r'⟩;refine hc a v g i i _ q.rel (aX.refl _) q.wf λQ e1 w1=>?_;have y:=Ext.hp q.sub e1;have x1:=x'.trans y;have s1:=q.grow y w1;have C:=r'.grow y;cases z:T a with
 |true=>
  rw[aH U];refine aL C.h λvs _ rv=>?_;refine b7 (hb a v z λo ho=>rv.pB _<|nJ ho) λb h1 h2 h3=>?_;exact⟨λE u=>∃k,Ext l e k u/\br e E k u (S b)/\mq E (S b) p/\iM X.K A t k u p (d b),λE u z_=>mH z_ λk y1=>⟨mu b,h2,b,h1,U,k,y1⟩,h3 l e g j Q _ x1 s1 m N C λakF G3 H3 e3 s3 n3 r3=>tU G3 e3 s3 n3 r3⟩
 |false=>
  exact(aD gR)▸(hr a v z l e g j Q D x1 s1 m N C f)
end
section
variable{P:bO}{w:bN}{K:aJ}{mg:aq->aR aB}{base:bf}{A:Ad}[Z:Zc P w K mg A]
def SL(b:O α)a c(h:a+c<=b.length):eX b (Y a) (Y ((a+c:Nat):Int))=(b.drop a).take c:=by
 delta eX
 rw[HT.ui,HT.ui,ai9 h,ai9 ap,Nat.add_sub_cancel_left]
abbrev fz(K:aJ)(l:O Int):Rp:=⟨λG v=>∃a,v=.ref a/\bR K G a (l.map V.int),λe⟨a,b,c⟩=>⟨a,b,e.seq c⟩⟩
section
variable{X:Cx}{J:En}{e a b:aT}{l:O Int}{i n:Int}{p ao p2:bn}
def afD(d:X.mg "len"=am)(f:Ev X J e (fz X.K l))(g:Gn X "len"<|>ae)(c:Se X e []<|>_r):Ev X J (b0 (aK "len" p) [e] [] ao) (int l.length):=
 pz Mu d aie (aS f c) (λj G H Q r S W k=>by obtain⟨v,rfl,l,rfl,h⟩:=all1 r;exact cn l _ U (aP<|S.seq h)<|k _ G H (.refl S) W<|by rw[aI];rfl) g bw c U
def SM(d:Ev X J a (fz X.K l))(f:Ev X J b (int i))(h:iG l i=Y n)(g:v_ b<|>alH):Ev X J (cR a b ao) (int n):=
 wj (Cs F8 pE pE g) d f λx y G H Q j m S W k=>aL j λc o s=>Bp c _ i _ o m (S.seq s) (by
  delta iG at h⊢
  cases q:om l.length i<;>simp_all) (k _ G H (.refl S) W U)
def all_ints:∀l:O Int,bv G (l.map V.int) (l.map int):=by grind[all_ints]
def SN{lo hi:aR aT}(u:Ev X J e (fz X.K l))(y:sr X J lo ol)(z:sr X J hi f):bu X J (cR e (.Slice lo hi am p2) ao) ((eX l ol f).map int):=λo G H Q E S W k=>
 wE.by (Mo Mr pE pO pO) λw=>u o G H _ E S W λv C I j N T=>y o C I _ (E.mono j.g) j.s N λG2 H2 m w2=>z o G2 H2 _ (E.mono (j.trans m).g) m.s w2 λG3 H3 d w3=>
  aL ((fz X.K l).mono (m.trans d).g T) λc q1 q2=>
  have x:=(j.trans m).trans d
  ⟨c,_,q1,d.s.seq q2,λq t w'=>k q _ G3 _ (x.trans<|uv d.s t) w' (x.h.free t) (kc d.s t) bQ<|(show yQ _ ol f=(eX l ol f).map V.int from wn V.int l ol f)▸(all_ints _)⟩
end
abbrev jq:O Int:=[0,11,12,13,14,17]
inductive pQ(l:List Int)i:Int->List Int->List Int->Nat->Prop
 |plain (a:l[i]?=Y n) (b:mZ.lookup n=Y c) (d:i+1+c<=l.length) (hr:jq.contains n=aA):pQ l i n ((l.drop (i+1)).take c) [] (i+1+c)
 |row {c r:Nat} (a:l[i]?=Y n) (b:mZ.lookup n=Y c) (e:l[i+1+c]?=Y (r:Int)) (d:i+1+c+1+r<=l.length) (hr:jq.contains n=L):pQ l i n ((l.drop (i+1)).take c) ((l.drop (i+1+c+1)).take r) (i+1+c+1+r)
abbrev Run(K:aJ)(A:Ad)(l:O Int)(g:Nat->Bs->O Int->Nat->Prop):Prop:=(∀b c m,g l.length b c m->c=[])/\∀i b c m,i<l.length->g i b c m->(∀o∈b,bA<|cE K A o)->
 ∃n ns d j a e f m',pQ l i n ns d j/\s_ K A [int n,nums ns,nums d] b e (nums a)/\c=((a.length:Int)::a)++f/\a.length+1+m'<=m/\g j e f m'
def pQ.lt{ns C:O Int}(h:pQ l i n ns C j):i<j/\j<=l.length:=by cases h<;>lia
def pQ.inv{ns row:O Int}(h:pQ l i n ns row j):∃c,l[i]?=Y n/\mZ.lookup n=Y c/\i+1+c<=l.length/\ns=(l.drop<|i+1).take c/\(jq.contains n=aA->row=[]/\j=i+1+c)/\(jq.contains n=L->∃r:Nat,l[i+1+c]?=Y (r:Int)/\i+1+c+1+r<=l.length/\row=(l.drop<|i+1+c+1).take r/\j=i+1+c+1+r):=by
 cases h with
 |plain I hc C hr=>exact⟨_,I,hc,C,U,λ_=>⟨U,U⟩,λe=>nomatch hr.symm.trans e⟩
 |row I hc hk C hr=>exact⟨_,I,hc,cS (cS (Ui _)<|p8 ..) C,U,λe=>(nomatch hr.symm.trans e),λ_=>⟨_,hk,C,U,U⟩⟩
def SO{ns:O Int}:bv G xs (ns.map int)->xs=ns.map V.int:=CK λ_ _ h=>h
def afE n:ul (.int n) [.int 0,.int 11,.int 12,.int 13,.int 14,.int 17]=jq.contains n:=by
 show(jq.any λy=>y==n)=_
 delta jq
 simp[eq_comm]
 lia
abbrev SQ(t:Ts)(K:aJ)(A:Ad):_a.Sp:=λvs H Q _=>∃(G:Hp)(l c:O Int)(d:Nat->Bs->O Int->Nat->Prop)(m:Nat),aX G H/\Wf H/\bv G vs [fz K l]/\TS t G H/\d 0 [am,am] c m/\m<=bK/\Run K A l d/\∀v b a,aX b a->Wf a->TS t b a->(nums c).r b v->Q v a
abbrev SR(t:Ts)(P:bO)(w:bN)(K:aJ)(mg:aq->aR aB)(base:bf)(A:Ad)(k:Nat):Prop:=∃(f:az)(a:k7),mg "answers"=Y (.ref f)/\k8 K (.ref f)=L/\Binds K a ["calls"] []/\fH P w K mg base iH k f a ["calls"] (SQ t K A)
def SS:im ["calls","places","result","at","number","behind","numbers","row","begin","answer"] ["calls"] (fv CY):=⟨U,U,U,bw,U,bw,bw⟩
@[reducible]def ΓA(K:aJ)(A:Ad)(l:O Int)(p:az)(a:O Int)(i:Nat):bV:=[Y<|.aC<|fz K l,Y<|.aC<|Rp.ref p,Y<|.own<|a.map int,Y<|.aC<|int i,am,am,am,am,am,am]
def afG{t:Ts}{k:Nat}(akI:qX P w K A t mg base k "answer_of" (dw 231) (s_ K A)):SR t P w K mg base A (k+1):=by
 obtain⟨f,fd,hm,F,u⟩:=(Zc.at 232 "answers" U eN:l0 K mg "answers" CY ["calls"]).ex;refine⟨f,fd,hm,F.kp,u,F.ok SS (λvs H Q E z=>by obtain⟨G,l,akF,_,_,_,_,r,_⟩:=z;rw[r.length];rfl) λakJ A' akK s H vs Q E hr z=>?_⟩;obtain⟨G,l,akF,akX,m0,S',W,r,ts,g,hz,rn,q⟩:=z;refine⟨_,eP,?_⟩;have nd:=SS.nd;have s0:br H _ G H (ent ["calls","places","result","at","number","behind","numbers","row","begin","answer"] [fz K l]):=sv r S' W;refine wS.cons (lU (i:=1) nd U (aP U) (yO<|eO yK<|eO yK hZ) U<|aP U) ⟨by show 2<=bK;decide,λp N=>?_⟩;obtain⟨t1,t2,t3⟩:=ts.fresh N;have gp:G p=am:=S'.free N;have T:Ext G H G (upd H p<|.lst [.bH,.bH]):=Ext.hp S'<|gM N;have w1:Wf (upd H p<|.lst [.bH,.bH]):=W.new λxs z=>by cases z;show 2<=bK;decide
 have akH:=ts.ext T;have s1:=(s0.grow T w1).set (i:=1) (d:=Rp.ref p) (v:=.ref p) U;have x0:Ext G (lE H [t.a,t.b,t.c]) G (upd H p<|.lst [.bH,.bH]):=⟨aX.refl _,T.s,λb o e=>by
  unfold lE at e;split at e
  .cases e
  .exact T.h _ _ e,λ_ _ h=>h⟩
 have pl:iM K A t G (upd H p<|.lst [.bH,.bH]) p [am,am]:=⟨gp,⟨_,bQ,U,U,trivial⟩,akH⟩
 suffices h:_c.Sp (XD P w K mg base ["calls","places","result","at","number","behind","numbers","row","begin","answer"] "answers" CY f akJ A' akK s H E) A t p ((ent ["calls","places","result","at","number","behind","numbers","row","begin","answer"] [fz K l]).set 1 (Y<|.aC<|Rp.ref p)) [am,am] ((gL CY).drop 1) (λD G0 H0=>∀v G H,Ext G0 H0 G H->Wf H->TS t G H->(nums akF).r G v->D.rt v H)from
  h G (lE H [t.a,t.b,t.c]) _ G _ _ x0 ⟨s1.len,s1.sub,s1.wf,s1.aC,λi ds h=>absurd h<|cW d7 i ds,λi j ds es b h=>absurd h<|cW d7 i ds⟩ (λb u=>by
   simp only[nF,cU,jw,jx]at u;unfold lE;rcases u with rfl|rfl|rfl|rfl
   .split
    .rfl
    .exact N
   .rw[aH au]
   .rw[aH au]
   .rw[aH au]) (λi ds h=>absurd h<|cW d7 i ds) pl (λv G' H' x w y rv=>q v G' H' x.s w y rv)
 clear pl x0 s1 akH w1 T gp t1 t2 t3 N;refine ku (λo k=>jl 2 (iY eW) k)<|ku (λo k=>bz 3 (d:=int ((0:Nat):Int)) aG k) ?_;refine afC (α:=(Nat×Bs)×(O Int×(O Int×Nat))) (λa=>ΓA K A l p a.2.1 a.1.1) (λa=>a.1.2) (a0:=((0,[am,am]),([],(akF,m0)))) (λa=>decide<|(a.1.1:Int)<(l.length:Int)) (λa=>akX a.1.1 a.1.2 a.2.2.1 a.2.2.2/\a.2.1++a.2.2.1=akF/\a.1.1<=l.length/\a.2.1.length+a.2.2.2<=bK) (λa=>l.length-a.1.1) U U ⟨g,U,dI _,(by show 0+m0<=_;omega)⟩ (λa _=>bi<|e8 aV<|afD M.len aw) ?_ ?_
 .rintro⟨⟨i,b⟩,⟨nG,o,m⟩⟩ ⟨hg,I,hi,hm⟩ C u;have C:(i:Int)<(l.length:Int):=cM C;dsimp only at hg I hi C hm u⊢;obtain⟨n,ns,akL,j,a,b',akM,m',h,hR,eo,akV,akN⟩:=rn.2 i b o m aU hg u
  .subst eo;have hj:=h.lt;refine⟨((j,b'),(nG++((a.length:Int)::a),akM,m')),⟨akN,by rw[<-I,vf],hj.2,(by show(nG++_).length+m'<=_;rw[cC,c_];omega)⟩,by show l.length-j<l.length-i;omega,?_⟩;have akW:nG.length+(1+a.length)<=bK:=aU;obtain⟨akO,nf,akP,NK,_,akQ⟩:=D.mZ;obtain⟨c,hn,hc,akR,rfl,akS,akT⟩:=h.inv;obtain⟨tt,hf⟩:=akQ n c hc;refine ku (λo k=>bz 4 (SM aw aV<|b8 (n:=i) U hn) k) ?_;refine ku (λo k=>bz 5 (d:=int ((i+1+c:Nat):Int)) (Ev.eq (cY (cY aV aG)<|C1 (d:=int (c:Nat)) (v:=.int (c:Nat)) NK (or (v:=.ref akO) akP U<|λ_=>U) bZ hf ⟨tt,U⟩ (λ_=>U)<|by exactλ_ _=>U)<|by congr 1) k) ?_;refine ku (λo k=>bz 6 (d:=nums<|(l.drop<|i+1).take c) (Ev.eq (bu.ev<|SN aw (.dW<|cY aV aG)<|.dW dU)<|bJ nums<|SL l (i+1) c akR) k) ?_;refine ku (λo k=>bz 7 (d:=nums []) (cz eW) k) ?_;refine ku (λo k=>lx (q:=jq.contains n) (Γ':=[Y<|.aC<|fz K l,Y<|.aC<|Rp.ref p,Y<|.own<|nG.map int,Y<|.aC<|int (i:Nat),Y<|.aC<|int n,Y<|.aC<|int (j:Nat),Y<|.aC<|nums<|(l.drop<|i+1).take c,Y<|.aC<|nums akL,am,am]) (bi (aa7 bZ (sE (ds:=jq.map int) D.abL λG=>⟨U,U,U,U,U,U,trivial⟩) λG x xs hx akG=>by
    have hx:x=.int n:=hx;have akG:=SO (ns:=jq) akG;subst hx akG;exact⟨U,U,afE n⟩)) (λz=>?_) (λz=>?_) k) ?_
   .obtain⟨r,hk,akU,e1,e2⟩:=akT z;refine bz 8 (d:=int ((i+1+c+1:Nat):Int)) (Ev.eq (cY dU aG)<|by congr 1) ?_;refine bz 5 (d:=int ((i+1+c+1+r:Nat):Int)) (Ev.eq (cY (cJ 8 U)<|SM aw dU<|b8 (n:=i+1+c) U hk)<|by congr 1) ?_;refine bz 7 (d:=nums<|(l.drop<|i+1+c+1).take r) (Ev.eq (bu.ev<|SN aw (.dW<|cJ 8 U)<|.dW dU)<|bJ nums<|SL l (i+1+c+1) r akU) ?_;rw[e1,e2];exact fe cG
   .obtain⟨e1,e2⟩:=akS z;rw[e1,e2];exact cG
   refine afs 1 9 akI hr U (bM bZ (cJ 6 U)<|cJ 7 U) hR ?_;refine ku (λo k=>i3 2 (ds:=nG.map int) (d:=int (a.length:Int)) U (Ev.eq (cO M.len (ds:=a.map int)<|cJ 9 U)<|by rw[aI]) (by rw[aI];omega) k) ?_;refine ku (λo k=>zd 2 (ds:=nG.map int++[int (a.length:Int)]) (es:=a.map int) U (cJ 9 U) (by rw[cC,aI,aI];show _+1+_<=_;omega) k) ?_;refine ku (λo k=>bz 3 dU k)<|afB afm ⟨aP U,aP U,aP ?_,aP U,aW U,aW U,aW U,aW U,aW U,aW U,trivial⟩;show Y (Sl.own _)=Y (Sl.own _);rw[cN,eQ,vf];rfl
 .rintro⟨⟨i,b⟩,⟨nG,o,m⟩⟩ ⟨hg,I,hi,hm⟩ C;have C:¬(i:Int)<(l.length:Int):=cX C;dsimp only at hg I hi C⊢;obtain rfl:i=l.length:=aU;rw[rn.1 _ _ _ hg,eG]at I;subst I;exact ku (λo k=>jk 2 U k) λG0 H0 σ G H D x s m n r f=>oR (d:=nums _) aM G0 H0 σ G H D x s m n r λv G H x w r rv=>f v G H x w r.ts rv
end
open Vbpcad (Board within place step)
def afH{p:Int}{n k:Nat}(h:tP p=Y (n,k)):mZ.lookup p=Y n/\((k=0/\jq.contains p=aA)\/(k=1/\jq.contains p=L)):=by
 have e:∀m:Fin 23,∀q∈tP (m.val:Int),mZ.lookup (m.val:Int)=Y q.1/\((q.2=0/\jq.contains (m.val:Int)=aA)\/(q.2=1/\jq.contains (m.val:Int)=L)):=eN;by_cases c:0<=p/\p<23
 .have:=e ⟨p.toNat,ap⟩;rw[show((p.toNat:Nat):Int)=p by lia]at this;exact this _ h
 .unfold tP at h
  repeat rw[aD ap]at h
  cases h
def afI{l:O Int}{i:Nat}{c:O (O Int)}{t:O Int}(h:U7 tP (l.drop i)=Y (c,t)):∃n ns g j,pQ l i n ns g j/\t=l.drop j/\((jq.contains n=aA/\c=[n::ns]/\g=[])\/(jq.contains n=L/\c=[n::ns,g])):=by
 cases e:l.drop i with
 |nil=>rw[e]at h;cases h
 |cons p r=>
  have o:l[i]?=Y p:=by rw[<-ai_,e];rfl
  have f:r=l.drop (i+1):=by rw[<-ai',e];rfl
  have C:r.length=l.length-(i+1):=by rw[f,jR]
  have E:i<l.length:=(dH.mp o).1;rw[e,U7]at h;cases u:tP p with
  |none=>rw[u]at h;cases h
  |some q=>
   obtain⟨n,k⟩:=q;rw[u]at h;dsimp only at h;obtain⟨w,b⟩:=afH u;split at h
   .cases h
   .next G=>
    have y:r.drop n=l.drop (i+1+n):=by rw[f,aja]
    rcases b with⟨rfl,b⟩|⟨rfl,b⟩
    .rw[U8]at h;cases h;refine Km p _ ([]) _ (.plain o w aU b) y<|aP ⟨b,by rw[f],U⟩
    .rw[U8]at h;cases a:ajb (r.drop n)with
     |none=>rw[a]at h;cases h
     |some q=>
      obtain⟨x,s⟩:=q;rw[a]at h;dsimp only at h;rw[U8]at h;cases h;cases d:r.drop n with
      |nil=>rw[d]at a;cases a
      |cons m z=>
       rw[d,ajb]at a;split at a
       .next hm=>
        cases a;rw[y]at d;have A:l[i+1+n]?=Y m:=by rw[<-ai_,d];rfl
        have v:z=l.drop (i+1+n+1):=by rw[<-ai',d];rfl
        have H:z.length=l.length-(i+1+n+1):=by rw[v,jR]
        have I:=(dH.mp A).1;refine Km p _ _ _ (.row (r:=m.toNat) o w (by rw[A,aiY hm.1]) aU b) ?_<|aW ⟨b,?_⟩
        .rw[v,aja]
        .rw[f,v]
       .cases a
section
variable{K:aJ}{A:Ad}{bs:Bs}{p n:Int}{l:O Int}{d:Rp}
abbrev Ans(K:aJ)(A:Ad)(bs:Bs)(n:Int)(ns:O Int)(d:Rp)(r:Bj×O Int)(c:Nat):Prop:=s_ K A [int n,nums ns,d] bs r.1.boards (nums r.2)/\r.2.length<=c/\r.1.boards.length=2
def D0 p:within 0 p 1=gZ p:=by(simp[within,gZ];lia)
def Ah(c:bs.length=2)(p:Int):(gi bs [p]=-1/\∀f,place ⟨bs⟩ p f=(⟨bs⟩,[-1]))\/(gi bs [p]=-2/\∀f,place ⟨bs⟩ p f=(⟨bs⟩,[-2]))\/∃(k:Nat)(x:bC),p=k/\bs[k]?=Y (Y x)/\∀f,place ⟨bs⟩ p f=f x:=by
 unfold place gi Vbpcad.boardAt;rw[D0,kE,Bk,Bl,xM,List.any_nil,TH];cases hp:gZ p with
 |false=>exact aP ⟨U,λf=>aH U⟩
 |true=>
  have g:p=0\/p=1:=by unfold gZ at hp;simpa using hp
  have a:p.toNat<bs.length:=ap;have b:0<=p:=ap;rw[aH U,aH b,jt,dq a];cases e:bs[p.toNat]with
  |none=>simp
  |some x=>grind-order
def xb(f:pF.lookup n=am)(m:(oC.lookup n).isSome=L)(a:bs.length=2)(q:∀o∈bs,bA<|cE K A o){g:bC->O Int}{c:Nat}(i:1<=c)(h:∀x,bA (ba K A x)->zV K A [ba K A x,int n,nums l,d] (nums<|g x)/\(g x).length<=c):Ans K A bs n (p::l) d (place ⟨bs⟩ p λx=>(⟨bs⟩,g x)) c:=by
 rcases Ah a p with⟨e,b⟩|⟨e,b⟩|⟨k,x,rfl,j,b⟩
 .rw[b];exact⟨e▸.bad f a (by rw[e];simp),i,a⟩
 .rw[b];exact⟨e▸.bad f a bG,i,a⟩
 .rw[b];obtain⟨s,t⟩:=h x<|q _<|eD j;exact⟨.ask f a j m s,t,a⟩
end
abbrev Ai(l:O (Bool×Int))(r:O Int):O Int:=match l.find? λx=>!x.1 with
 |some x=>[x.2]
 |none=>r
def afJ s(l:O (Bool×Int))(r:O Int):Bm s l (λ_=>(s,r))=(s,Ai l r):=by grind only[Bm,Ai]
open Vbpcaa (Pt inRange normal)
open Vbpcad (Board within goodTold goodMargin goodPts goodGrid goodCell ptsOf)
abbrev mx(a b:Int):Int:=if a<0/\(b=0\/b<a)then a else b
def xf a l:nr (a::l)=mx a (nr l):=U
def IU(c:b<=0):mx a b<=0:=by(simp[mx];lia)
def oE:∀l:O Int,nr l<=0
 |[]=>lJ _
 |a::l=>by exact IU<|oE l
def xg:mx 0 b=b:=aD λh=>Int.lt_irrefl _ h.1
def xh(h:a<=0):mx a 0=a:=by
 by_cases k:a<0
 .exact aH ⟨k,aP U⟩
 .exact(aD λx=>k x.1).trans<|Ap (u9.1 k) h
def uX(h:a<0)(k:b<0):mx a b=max a b:=by
 by_cases l:b<a
 .exact(aH ⟨h,aW l⟩).trans (ajc<|Tq l).symm
 .exact(aD λx=>x.2.elim (Int.ne_of_lt k) l).trans (ajd<|u9.1 l).symm
def xi(c:a<=0)(d:b<=0):(a=0->mx a b=b)/\(b=0->mx a b=a)/\(a<0->b<0->a<=mx a b/\b<=mx a b/\(mx a b=a\/mx a b=b)):=⟨λh=>by rw[h,xg],λh=>by rw[h,xh c],λh k=>by rw[uX h k];exact⟨Th ..,Ti ..,(xo b a).imp ajc ajd⟩⟩
def uY(e:a<=0)(d:b<=0)(f:c<=0):mx (mx a b) c=mx a (mx b c):=by
 by_cases p:a=0
 .rw[p,xg,xg]
 by_cases q:b=0
 .rw[q,xg,xh e]
 by_cases r:c=0
 .rw[r,xh d,xh<|IU d]
 have p:=EZ.2 ⟨e,p⟩;have q:=EZ.2 ⟨d,q⟩;have r:=EZ.2 ⟨f,r⟩;rw[uX p q,uX q r,uX (aje.2 ⟨p,q⟩) r,uX p<|aje.2 ⟨q,r⟩,Int.max_assoc]
def afK(c:a<=0)(d:b<=0):mx a b=mx b a:=by
 by_cases p:a=0
 .rw[p,xg,xh d]
 by_cases q:b=0
 .rw[q,xg,xh c]
 have p:=EZ.2 ⟨c,p⟩;have q:=EZ.2 ⟨d,q⟩;rw[uX p q,uX q p,Tf]
def SU:∀a b,(∀x∈a,x<=0)->nr (a++b)=mx (nr a) (nr b)
 |[],b,_=>by rfl
 |x::a,b,h=>by rw[UJ,xf,xf,SU a b λy c=>h y bh,uY bG (oE _)<|oE _]
def D1(c:b<=0):nr [a,b]=mx a b:=by rw[xf];congr 1;show mx b 0=b;unfold mx;lia
@[reducible]def Cd:=O<|Bool×Int
abbrev NR(l:Cd):Int:=nr<|l.map λc=>rf c.1 c.2
def lF(l:Cd):NR l<=0:=oE _
abbrev neg(l:Cd):Prop:=(l.map (·.2)).all (λc=>decide<|c<0)=L
def mr(h:c<0):rf b c<=0:=by grind-order [rf]
def afL(h:neg l):∀x∈l.map λc=>rf c.1 c.2,x<=0:=λx a=>by obtain⟨c,b,rfl⟩:=eY.mp a;exact mr<|cM<|dR.mp h c.2<|nJ b
def lG(h:neg a):NR (a++b)=mx (NR a) (NR b):=by unfold NR;rw[cN];exact SU _ _<|afL h
abbrev qY:O Int->Bool
 |[]=>L
 |a::l=>decide (a<0)&&(l.all (λb=>decide<|b<=a)&&qY l)
def xj:∀{l:Cd},qY (l.map (·.2))=L->NR l=match l.find? λx=>!x.1 with
  |some x=>x.2
  |none=>0
 |[],_=>rfl
 |(b,c)::l,h=>by
  rw[eQ,qY,c6,c6]at h;obtain⟨a,f,g⟩:=h;have a:c<0:=cM a;have d:=xj g;show mx (rf b c) (NR l)=_;cases b with
  |true=>
   rw[Bd au,<-d];show mx 0 (NR l)=_;unfold mx;rw[aD ap]
  |false=>
   rw[List.find?_cons_of_pos cq];show mx c (NR l)=c;have a:c<0:=by first|exact a|exact cM a
   have k:=xi (Tq a)<|lF l
   have z:NR l=0\/NR l<=c:=by
    rw[d];cases e:l.find? λx=>!x.1 with
    |none=>exact aP U
    |some x=>exact aW<|cM<|dR.mp f x.2<|nJ<|J_ e
   have:=lF l;grind
def SV{l:Cd}(h:qY (l.map (·.2))=L)(r:O Int):(if NR l<0 then[NR l]else r)=Ai l r:=by
 have:=xj h;unfold Ai;cases e:l.find? λx=>!x.1 with
 |none=>
  lia
 |some x=>
  rw[e]at this;have this:NR l=x.2:=this;have b:=J_ e
  have neg:∀{m:Cd},qY (m.map (·.2))=L->∀y∈m,y.2<0:=by
   intro m
   induction m with
   |nil=>simp
   |cons a m c=>
    simp_all[eQ,qY,c6]
  rw[this,aH<|neg h x b]
def afM lo hi c:m9 lo hi c=(within 1 lo hi&&within lo hi c):=by
 unfold m9 within
 lia
def D2 b k lo hi r last:oF b k lo hi r last=NR (tQ b last ⟨k,lo,hi,r⟩):=by unfold oF zy;rw[afM];rfl
def SW(l:O Int):ko l=!((A7 l).isSome&&(!l.isEmpty&&decide (l.length<=2*Be))):=by
 have b:2*Be=64:=U;by_cases c:l.length%2=1
 .grind[IC,ko,decide_eq_true]
 .obtain⟨m,rfl⟩:=C8 l ap;rw[zw];unfold ko within;rw[C7,kF au,Bool.false_or,show(Y<|m.map km).isSome=L from U,mC,b];congr 1;cases m with
  |nil=>rfl
  |cons a m=>
   rw[show(fA (a::m)).isEmpty=aA from U,dm (by(simp;lia)),mC,Bool.not_false,mC,jO]
   lia
def IV p:nR p=(within (-1000000000) p.x 1000000000&&within (-1000000000) p.y 1000000000):=by(simp only[nR,within,pX];lia)
def D3:∀m:O (Int×Int),((fA m).all λv=>within (-1000000000) v 1000000000)=(m.map km).all nR
 |[]=>rfl
 |a::m=>by rw[show fA _=a.1::a.2::fA m from U,kE,kE,D3 m,eQ,kE,IV,U5];rfl
def uZ(l:O Int):iw l=NR (lf l):=by
 rw[xj cq];unfold iw lf;rw[SW];cases h:((A7 l).isSome&&(!l.isEmpty&&decide (l.length<=2*Be)))with
 |false=>rfl
 |true=>
  have a:ko l=aA:=by rw[SW,h];rfl
  refine b7 (wJ a) λm b _ _=>?_;subst b;rw[aD au,Bd au,lA,D3,pH];cases c:(m.map km).all nR with
  |false=>rfl
  |true=>
   rw[aD bw,Bd au];cases k_ (m.map km)<;>rfl
def SX b k lo hi r last row:wR b k lo hi r last row=NR (tQ b last ⟨k,lo,hi,r⟩++lf row):=by unfold wR;rw[D1 (by rw[uZ];exact oE _),D2,uZ,lG cq]
def SY b k lo hi r m row:sL b k lo hi r m row=NR (tQ b 2 ⟨k,lo,hi,r⟩++pd m::lf row):=by unfold sL;have h:rf (within 1 m 1000000000) (-6)<=0:=mr au;rw[D1 h,SX,lG cq,lG cq,show pd m::lf row=[pd m]++lf row from U,lG cq,show NR [pd m]=rf _ (-6)from ?_,uY (lF _) (lF _) h,afK h<|lF _];exact(xi h<|lJ 0).2.1 U
open Vbpcaa (Pt)
open Vbpcad (Board Keep)
open VbpcText (text decimal Bytes lineOf)
open _g (Enc)
abbrev i_:O aq->O kC->Prop
 |[],[]=>True
 |w::ws,b::bs=>Enc w b/\i_ ws bs
 |_,_=>False
def i_.get:∀{ws:O aq}{bs:O kC},i_ ws bs->ws.length=bs.length/\∀(i:Nat)w b,ws[i]?=Y w->bs[i]?=Y b->Enc w b
 |[],[],_=>⟨U,λi w b h=>au⟩
 |w::ws,b::bs,h=>by
  obtain⟨h1,h2⟩:=h.2.get;refine⟨bG,λi x y C I=>?_⟩;cases i with
  |zero=>obtain rfl:=bL C;obtain rfl:=bL I;exact h.1
  |succ i=>exact h2 i x y C I
 |[],_::_,h=>h.elim
 |_::_,[],h=>h.elim
def i_.app:∀{ws us:O aq}{bs cs:O kC},i_ ws bs->i_ us cs->i_ (ws++us) (bs++cs)
 |[],_,[],_,_,k=>k
 |_::_,_,_::_,_,h,k=>⟨h.1,i_.app h.2 k⟩
 |[],_,_::_,_,h,_=>h.elim
 |_::_,_,[],_,h,_=>h.elim
def i_.map{α:Type}{f:α->aq}{g:α->kC}:∀{l:O α},(∀x∈l,Enc (f x)<|g x)->i_ (l.map f) (l.map g):=by
 intro C h
 induction C with
 |nil=>exact trivial
 |cons x l I=>exact⟨h x<|ig ..,I λy hy=>h y<|ja _ hy⟩
def D4:∀{l:O Pt},(∀p∈l,dh p)->i_ (qJ l) (ya l)
 |[],_=>trivial
 |p::l,h=>by have:=h p<|ig ..;unfold dh at this;exact⟨_g.uD aU,_g.uD aU,D4 λq a=>h q<|ja _ a⟩
def D5{bs:O kC}(h:i_ ws bs):Enc (oG ws) (qb bs):=by unfold oG;rw[TL.join_eq];exact _g.abO h.get.1 h.get.2
def SZ:∀l i,ajf i l=((d_ i l).map λx=>qb [cQ<|if x.1%2=0 then "copper"else "core",nP x.2]).flatten
 |[],_=>rfl
 |t::l,i=>by rw[ajf,SZ l _];rfl
def afN{K:aJ}{A:Ad}{b:bC}(a:bA (ba K A b)):Enc (oH b) (E3 b):=by
 have f:=fg a;have e:E3 b=(((d_ 0 b.stack).map λx=>qb [cQ<|if x.1%2=0 then "copper"else "core",nP x.2])++[qb (cQ "outline"::ya b.outline)]++(b.cuts.map λc=>qb (cQ "cut"::ya c))++(b.keeps.map λk=>qb (cQ "keep"::tO.getD k.kind []::nP k.lo::nP k.hi::nP k.shape.r::ya k.shape.pts))).flatten:=by unfold E3;rw[U9,U9,U9,SZ,ajg,ajg,List.flatten_singleton]
 have h:i_ ((kS b).map oG) (((d_ 0 b.stack).map λx=>qb [cQ<|if x.1%2=0 then "copper"else "core",nP x.2])++[qb (cQ "outline"::ya b.outline)]++(b.cuts.map λc=>qb (cQ "cut"::ya c))++(b.keeps.map λk=>qb (cQ "keep"::tO.getD k.kind []::nP k.lo::nP k.hi::nP k.shape.r::ya k.shape.pts))):=by
  unfold kS;rw[cN,cN,cN,c9,c9,c9];refine i_.app (i_.app (i_.app (i_.map λx g=>?_) ⟨?_,trivial⟩)<|i_.map λc i=>?_)<|i_.map λk j=>?_
  .have:=f.ow x.2<|Ht g;refine D5 ⟨?_,_g.uD ap,trivial⟩;split<;>rfl
  .exact D5 ⟨U,D4 (eB<|qF a).2⟩
  .exact D5 ⟨U,D4 (eB<|pJ a c i).2⟩
  .have d:=pK a k j;have ok:=sJ d;have l:=ok.top;have m:=ok.hi;have n:=ok.r;refine D5 ⟨U,?_,_g.uD ap,_g.uD ap,_g.uD ap,D4 (eB<|qG d).2⟩;have o:=ok.kind;have:k.kind=0\/k.kind=1\/k.kind=2\/k.kind=3:=ap;rcases this with z|z|z|z<;>rw[z]<;>rfl
 unfold oH;rw[TL.join_eq,e];exact _g.OK h.get.1 h.get.2
def afO{K:aJ}(a:bA (ba K A b)):codes (oH b)=(E3 b).map λc=>(c.toNat:Int):=by unfold codes;rw[afN a,c9];rfl
open Vbpcad (Board Keep Thing thingOf ptsOf may' reasons)
open _d (Ob nZ)
def IW(f:Int->Bool):∀(n:Nat)(e t:Int),(t-e).toNat<=n->e<t->(e=0\/f e=L)->f t=aA->(iz f e t=0\/f (iz f e t)=L)/\f (iz f e t+1)=aA
 |0,e,t,a,h,_,_=>by lia
 |n+1,e,t,a,h,b,c=>by
  rw[iz];split
  .split
   .next q=>exact IW f n _ t ap ap (aW q) c
   .next q=>exact IW f n e _ ap ap b<|gj.mpr q
  grind-order
def S1{t:eF}(c:t.shape.pts≠[]):∀(l pre:O Ob)(m:Int),(∀o∈pre++l,o.pts≠[])->0<=m->nZ (λk=>pre.all λo=>fo t (k:Nat) o) m.toNat->nZ (λk=>(pre++l).all λo=>fo t (k:Nat) o) (l.foldl (l_ t) m).toNat
 |[],pre,m,_,_,h=>by rw[eG];exact h
 |o::l,pre,m,b,h0,h=>by
  have e:pre++o::l=(pre++[o])++l:=by rw[vf];rfl
  rw[e]at b⊢;have j:=h.le;have d:(m.toNat:Int)=m:=ap;have n:=PM (t:=t) (m:=m) (o:=o) ⟨h0,ap⟩;refine S1 c l (pre++[o]) _ b n.1 ?_;have all:∀k:Nat,(pre++[o]).all (λo=>fo t (k:Nat) o)=(pre.all (λo=>fo t (k:Nat) o)&&fo t (k:Nat) o):=λk=>by simp[Kd,kE,Bk,Bl]
  unfold l_;split
  .next q=>
   have u:=Dc (λx=>fo t x o) _ 0 m (cg _) q.1;obtain⟨p,s⟩:=IW (λx=>fo t x o) _ 0 m (cg _) q.1 (aP U) q.2;refine⟨ap,?_,aW ?_⟩
   .by_cases f:iz (λx=>fo t x o) 0 m=0
    .exact aP ap
    .have g:(((iz (λx=>fo t x o) 0 m).toNat:Nat):Int)=iz (λx=>fo t x o) 0 m:=ap;refine aW ?_;rw[all,c6,g];refine⟨dR.mpr λx i=>?_,p.resolve_left f⟩;have a:pre.all (λo=>fo t (m.toNat:Nat) o)=L:=h.at_.resolve_left ap;have:=_d.K9 (m:=m.toNat) (m':=(iz (λx=>fo t x o) 0 m).toNat) c (b x<|by simp[i]) ap ap<|dR.mp a x i;rw[<-g];exact this
   .rw[all,UY];right;rw[show(((iz (λx=>fo t x o) 0 m).toNat+1:Nat):Int)=iz (λx=>fo t x o) 0 m+1 by lia];exact s
  .next q=>
   refine⟨j,?_,?_⟩
   .by_cases f:m=0
    .exact aP ap
    .refine aW ?_;rw[all,c6,d];have a:=h.at_.resolve_left ap;rw[d]at a;refine⟨a,?_⟩;cases e:fo t m o with
     |true=>rfl
     |false=>exact absurd ⟨ap,e⟩ q
   .rcases h.up with z|z
    .exact aP z
    .exact aW<|by rw[all,z];rfl
section
variable{K:aJ}{A:Ad}{b:bC}{k lo hi r:Int}{row:O Int}
def D6(h:oI k lo hi r row):iB row≠[]:=by refine b7 h.pts λm a c _=>?_;subst a;rw[pH];exact wQ c
def IX(a:bA (ba K A b))(h:oI k lo hi r row)(c:1<=m):l9 b (dG k lo hi r row) m=Ji b (qf ⟨k,lo,hi,r⟩ row) m.toNat:=by
 rw[_d.Fy (uJ a) (D6 h) ap];unfold l9 dG qf
 lia
def IY(a:bA (ba K A b))(h:oI k lo hi r row)(c:0<m):xu b (qf ⟨k,lo,hi,r⟩ row) m=(_d.jy (dG k lo hi r row).shape.pts b.outline&&(_d.obs b (dG k lo hi r row).kind (dG k lo hi r row).lo (dG k lo hi r row).hi).all (λo=>fo (dG k lo hi r row) m o)):=
 _d.yx (uJ a) (D6 h) c
def afP(c:bA (ba K A b))(h:oI k lo hi r row):kR b (dG k lo hi r row)=(Ej b (qf ⟨k,lo,hi,r⟩ row):Nat):=by
 have d:(dG k lo hi r row).shape.pts≠[]:=Pe<|D6 h;have e:=_d.t7 (uJ c) (kind:=(dG k lo hi r row).kind) (lo:=(dG k lo hi r row).lo) (hi:=(dG k lo hi r row).hi);have s:=PP b<|dG k lo hi r row
 have n:nZ (xu b<|qf ⟨k,lo,hi,r⟩ row) (kR b<|dG k lo hi r row).toNat:=by
  unfold kR;cases f:_d.jy (dG k lo hi r row).shape.pts b.outline with
  |false=>
   rw[aD au];exact⟨au,aP U,aW<|by rw[IY c h au,f];rfl⟩
  |true=>
   rw[aH U];have g:=S1 d (_d.obs b (dG k lo hi r row).kind (dG k lo hi r row).lo (dG k lo hi r row).hi) [] 1000000000 e au ⟨au,aW U,aP U⟩;have i:∀m:Nat,0<m->xu b (qf ⟨k,lo,hi,r⟩ row) m=([]++_d.obs b (dG k lo hi r row).kind (dG k lo hi r row).lo (dG k lo hi r row).hi).all λo=>fo (dG k lo hi r row) (m:Nat) o:=λm a=>by rw[IY c h a,f];rfl
   refine⟨g.le,?_,?_⟩
   .by_cases j:((_d.obs b (dG k lo hi r row).kind (dG k lo hi r row).lo (dG k lo hi r row).hi).foldl (l_<|dG k lo hi r row) 1000000000).toNat=0
    .exact aP j
    .exact aW<|by rw[i _ bG];exact g.at_.resolve_left j
   .rcases g.up with z|z
    .exact aP z
    .exact aW<|by rw[i _ ap];exact z
 have:=nZ.unique (λm t p q a=>by rw[IY c h ap,c6]at a⊢;exact⟨a.1,dR.mpr λo l=>_d.K9 d (e o l) p q<|dR.mp a.2 o l⟩) n (_d.V8 b<|qf ⟨k,lo,hi,r⟩ row)
 lia
end
open Vbpcad (Board within thingOf ptsOf reasons step goodTold goodMargin goodPts goodGrid goodCell pair)
section
variable{K:aJ}{A:Ad}{bs:Bs}{p:Int}{d:Rp}
def afQ(a:bs.length=2)(b:∀o∈bs,bA<|cE K A o):Ans K A bs 1 [p] d (step ⟨bs⟩<|.print p) 310101:=
 xb U U a b au λx c=>by
  have e:=afO c;have f:(E3 x).length=(codes<|oH x).length:=bh;refine⟨.mk U<|.print ?_,?_⟩
  .rw[<-e,f];exact .mk
  grind[text_len,P7]
def afR(a:bs.length=2)(b:∀o∈bs,bA<|cE K A o):Ans K A bs 4 [p] d (step ⟨bs⟩<|.size p) 1001:=
 xb U U a b au λx c=>⟨.mk U<|.size .mk,by show 5<=1001;simp⟩
def afS(a:bs.length=2)(b:∀o∈bs,bA<|cE K A o):Ans K A bs 5 [p] d (step ⟨bs⟩<|.area p) 1001:=
 xb U U a b au λx c=>⟨.mk U<|.area .mk,au⟩
def tf{n:Int}{l:O Int}(a:pF.lookup n=am)(b:(oC.lookup n).isSome=L)(c:bs.length=2)(f:∀o∈bs,bA<|cE K A o){cd:bC->Cd}{g g':bC->O Int}{rC:bC->Int}(i:∀x,qY ((cd x).map (·.2))=L)(j:∀x,rC x=NR (cd x))
  (h:∀x,bA (ba K A x)->zV K A [ba K A x,int n,nums l,d] (nums<|if rC x<0 then[rC x]else g x)/\(¬rC x<0->g x=g' x)/\(¬rC x<0->(g' x).length<=1001)):Ans K A bs n (p::l) d (Kf ⟨bs⟩ p λx=>Bm ⟨bs⟩ (cd x) λ_=>(⟨bs⟩,g' x)) 1001:=by
 have e:(λx=>Bm ⟨bs⟩ (cd x) λ_=>(_,g' x))=λx=>_:=funext λx=>afJ ..;rw[e];refine xb a b c f au λx k=>?_;grind[SV]
def afT(a:bs.length=2)(b:∀o∈bs,bA<|cE K A o):Ans K A bs 9 [p,x,y] d (step ⟨bs⟩<|.point p x y) 1001:=
 tf U U a b (λ_=>U) (λ_=>by unfold lA;rw[show[x,y]=fA [(x,y)]from U,D3,show(([_]:O _).map km).all nR=nR ⟨x,y⟩ by simp[eQ,ES,kE,Bk,Bl];rfl];cases nR _<;>rfl) λz c=>⟨.mk U<|.point .mk,λ_=>U,λ_=>by show 2<=1001;simp⟩
def afU(a:bs.length=2)(b:∀o∈bs,bA<|cE K A o):Ans K A bs 10 [p,i,j] d (step ⟨bs⟩<|.between p i j) 1001:=
 tf U U a b (rC:=λx=>if uH x i j=aA then-3 else 0) (λ_=>U) (λx=>by
  rw[xj U]
  (simp[uH];lia)) λx c=>⟨.mk U (.Rz (by
   have:=@Df.mk K A x i j d
   lia)),λ_=>U,λ_=>au⟩
def afV{k lo hi r:Int}(a:bA (ba K A b))(h:oI k lo hi r row)(c:0<m):(Ji b (qf ⟨k,lo,hi,r⟩ row) m).length<=101:=by rw[_d.Fy (uJ a) (D6 h) c];grind[_d.t8,PL]
def afW{k lo hi r m:Int}(b:bs.length=2)(c:∀o∈bs,bA<|cE K A o):Ans K A bs 11 [p,k,lo,hi,r,m] (nums row) (step ⟨bs⟩<|.may p ⟨k,lo,hi,r⟩ m row) 1001:=
 tf U U b c (λ_=>U) (λx=>SY x k lo hi r m row) λx a=>⟨.mk U<|.may .mk,λz=>by refine eR (zG (fg a) z) λe f _=>?_;rw[IX a e f];rfl,λ_=>by show 2<=1001;simp⟩
def afX{k lo hi r m:Int}(b:bs.length=2)(c:∀o∈bs,bA<|cE K A o):Ans K A bs 12 [p,k,lo,hi,r,m] (nums row) (step ⟨bs⟩<|.all p ⟨k,lo,hi,r⟩ m row) 1001:=
 tf U U b c (λ_=>U) (λx=>SY x k lo hi r m row) λx a=>⟨.mk U<|.all .mk,λz=>by
  refine eR (zG (fg a) z) λe f _=>?_
  rw[IX a e f],λz=>by
  obtain _:=zG (fg a) z;grind[afV,Hm]⟩
def afY{k lo hi r:Int}{a:O Int}(f:bs.length=2)(g:∀o∈bs,bA<|cE K A o):Ans K A bs 13 [p,k,lo,hi,r] (nums a) (step ⟨bs⟩<|.room p ⟨k,lo,hi,r⟩ a) 1001:=
 tf U U f g (λ_=>U) (λx=>SX x k lo hi r 2 a) λx b=>⟨.mk U<|.room .mk,λz=>by
  have c:=Dg (fg b) au (jK z _<|.head _)<|jK z (iw a) au;have e:=afP b c;rw[e,IX b c ap];show _::jd (if((Ej x (qf ⟨k,lo,hi,r⟩ a):Nat):Int)=1000000000 then _ else _)=_::jd (if Ej x (qf ⟨k,lo,hi,r⟩ a)=1000000000 then _ else _);by_cases q:Ej x (qf ⟨k,lo,hi,r⟩ a)=1000000000
  .rw[aH q,aH ap]
  .rw[aD q,aD ap];congr 2,λ_=>by show 3<=1001;simp⟩
def S4:∀l:O Pt,(kJ l).length=2*l.length:=zz
def afZ{i:Int}(a:bs.length=2)(b:∀o∈bs,bA<|cE K A o):Ans K A bs 16 [p,i] d (step ⟨bs⟩<|.keepAt p i) 1001:=by
 have e:(λx:bC=>match fY x.keeps i with|none=>((⟨bs⟩:Bj),[(-10:Int)])|some k=>(⟨bs⟩,pc [k.kind,k.lo,k.hi,k.shape.r]++kJ k.shape.pts))=λx=>(⟨bs⟩,match fY x.keeps i with|none=>[(-10:Int)]|some k=>pc [k.kind,k.lo,k.hi,k.shape.r]++kJ k.shape.pts):=funext λx=>by cases fY x.keeps i<;>rfl
 refine(bJ (λf=>Ans K A bs 16 [p,i] d (Kf ⟨bs⟩ p f) 1001) e).mpr<|xb U U a b au λx c=>⟨.mk U<|.RB .mk,?_⟩;cases e:fY x.keeps i with
 |none=>simp
 |some k=>
  have g:k∈x.keeps:=by grind[fY,eD]
  have:=(eB<|qG<|pK c k g).1.2;rw[cC,S4];show 4+_<=_
  lia
def af0{i:Int}(a:bs.length=2)(b:∀o∈bs,bA<|cE K A o):Ans K A bs 19 [p,i] d (step ⟨bs⟩<|.cutAt p i) 1001:=by
 have e:(λx:bC=>match fY x.cuts i with|none=>((⟨bs⟩:Bj),[(-10:Int)])|some c=>(⟨bs⟩,((c.length:Nat):Int)::kJ c))=λx=>(⟨bs⟩,match fY x.cuts i with|none=>[(-10:Int)]|some c=>((c.length:Nat):Int)::kJ c):=funext λx=>by cases fY x.cuts i<;>rfl
 refine(bJ (λf=>Ans K A bs 19 [p,i] d (Kf ⟨bs⟩ p f) 1001) e).mpr<|xb U U a b au λx g=>⟨.mk U<|.RD .mk,?_⟩;cases e:fY x.cuts i with
 |none=>simp
 |some c=>
  have h:c∈x.cuts:=by unfold fY at e;grind[eD]
  have:=(eB<|pJ g c h).1.2;rw[c_,S4]
  lia
end
open Vbpcad (Board within step goodTold goodMargin goodGrid goodCell)
section
variable{K:aJ}{A:Ad}{bs:Bs}{p:Int}{d:Rp}
def S5(x y q c r:Int):m_ x y q c r=NR (tR ⟨x,y,q,c,r⟩):=by
 rw[xj cq];unfold m_ tR;rw[show((Vbpcad.SIDE:Nat):Int)=24 from U,show(pX:Int)=1000000000 from U];dsimp only;cases a:(within 1 c 24&&within 1 r 24)with
 |false=>
  rw[aH<|by rw[<-U1,a];rfl];rfl
 |true=>
  rw[aD (by rw[<-U1,a];simp),Bd au];cases b:within 1 q 1000000000 with
  |false=>rfl
  |true=>
   rw[aD au,mC];unfold lA;rw[show[x,y,x+(c-1)*q,y+(r-1)*q]=fA [(x,y),(x+(c-1)*q,y+(r-1)*q)]from U,D3,eQ,eQ,ES,kE,kE,Bk,Bl,Es q<|c-1,Es q<|r-1];show rf (nR ⟨x,y⟩&&nR ⟨x+(c-1)*q,y+(r-1)*q⟩) (-8)=_;cases(nR ⟨x,y⟩&&nR ⟨x+(c-1)*q,y+(r-1)*q⟩)<;>rfl
def cell_eq(n:Rn)(i j:Int):mx (fC i n.c) (fC j n.w)=NR [yb ⟨n.x,n.y,n.p,n.c,n.w⟩ i j]:=by unfold fC yb within;have a:decide (i<=n.c-1)=decide (i<n.c):=ap;have b:decide (j<=n.w-1)=decide (j<n.w):=ap;rw[a,b];cases(decide (0<=i)&&decide (i<n.c))<;>cases(decide (0<=j)&&decide (j<n.w))<;>rfl
def IZ(b:bC)(n:Rn):∀cs:O (Int×Int),ml b n cs=NR (tQ b 2 ⟨n.k,n.lo,n.hi,n.r⟩++pd n.m::tR ⟨n.x,n.y,n.p,n.c,n.w⟩++cs.map λq=>yb ⟨n.x,n.y,n.p,n.c,n.w⟩ q.1 q.2):=by
 intro cs
 have f:nr (cs.flatMap λq=>[fC q.1 n.c,fC q.2 n.w])=NR (cs.map λq=>yb ⟨n.x,n.y,n.p,n.c,n.w⟩ q.1 q.2):=by
  induction cs with
  |nil=>rfl
  |cons q cs g=>
   rw[ER,eQ,show([fC q.1 n.c,fC q.2 n.w]++cs.flatMap λq=>[fC q.1 n.c,fC q.2 n.w])=fC q.1 n.c::fC q.2 n.w::cs.flatMap λq=>[fC q.1 n.c,fC q.2 n.w]from U,xf,xf,g,<-uY (a:=fC q.1 n.c) (b:=fC q.2 n.w) (mr au) (mr au) (lF _),cell_eq];show mx (NR [_]) (NR _)=NR ([_]++_);rw[lG cq]
 have h:neg (tQ b 2 ⟨n.k,n.lo,n.hi,n.r⟩++pd n.m::tR ⟨n.x,n.y,n.p,n.c,n.w⟩):=U;have i:NR [pd n.m]=rf (within 1 n.m 1000000000) (-6):=(xi (a:=rf (within 1 n.m 1000000000) (-6)) (mr au)<|lJ 0).2.1 U;unfold ml;rw[lG h,<-f,lG cq,show pd n.m::tR ⟨n.x,n.y,n.p,n.c,n.w⟩=[pd n.m]++tR ⟨n.x,n.y,n.p,n.c,n.w⟩from U,lG cq,<-D2,i,<-S5];have j:oF b n.k n.lo n.hi n.r 2<=0:=oE _;have l:rf (within 1 n.m 1000000000) (-6)<=0:=mr au;have e:m_ n.x n.y n.p n.c n.w<=0:=by rw[S5];exact lF _
 show mx _ (mx _<|mx _<|nr _)=_;rw[uY j (IU e)<|oE _,uY l e<|oE _];rfl
def af1{k lo hi r m x y q c w:Int}(a:bs.length=2)(e:∀o∈bs,bA<|cE K A o):Ans K A bs 20 [p,k,lo,hi,r,m,x,y,q,c,w] d (step ⟨bs⟩<|.raster p ⟨k,lo,hi,r⟩ m ⟨x,y,q,c,w⟩) 1001:=by
 have:=tf (K:=K) (A:=A) (bs:=bs) (p:=p) (d:=d) (n:=20) (l:=[k,lo,hi,r,m,x,y,q,c,w]) U U a e (cd:=λb=>tQ b 2 ⟨k,lo,hi,r⟩++pd m::tR ⟨x,y,q,c,w⟩) (rC:=λb=>ml b ⟨k,lo,hi,r,m,x,y,q,c,w⟩ []) (g':=λb=>_::pc _) (λ_=>U) (λb=>by rw[IZ,ES,eG]) (λb f=>⟨.mk U<|.raster<|@DM.mk K A b ⟨k,lo,hi,r,m,x,y,q,c,w⟩ d,λ_=>U,λz=>by
  have ok:=(zU (fg f) z).1;show(((vz _ _).length:Int)::pc (vz _ _)).length<=_;unfold pc;rw[c_,aI,DJ];show w.toNat+1<=1001;have:w<=24:=ok.w.2
  lia⟩)
 exact this
def af2{k lo hi r m x y q c w i j:Int}(a:bs.length=2)(e:∀o∈bs,bA<|cE K A o):Ans K A bs 21 [p,k,lo,hi,r,m,x,y,q,c,w,i,j] d (step ⟨bs⟩<|.reach p ⟨k,lo,hi,r⟩ m ⟨x,y,q,c,w⟩ i j) 1001:=
 tf (K:=K) (A:=A) (bs:=bs) (p:=p) (d:=d) (n:=21) (l:=[k,lo,hi,r,m,x,y,q,c,w,i,j]) U U a e (cd:=λb=>tQ b 2 ⟨k,lo,hi,r⟩++pd m::tR ⟨x,y,q,c,w⟩++[yb ⟨x,y,q,c,w⟩ i j]) (rC:=λb=>ml b ⟨k,lo,hi,r,m,x,y,q,c,w⟩ [(i,j)]) (g':=λb=>_::pc _) (λ_=>U) (λb=>IZ ..) (λb f=>⟨.mk U<|.reach<|@DN.mk K A b ⟨k,lo,hi,r,m,x,y,q,c,w⟩ i j d,λ_=>U,λz=>by
  have ok:=(zU (fg f) z).1;show(((vz _ _).length:Int)::pc (vz _ _)).length<=_;unfold pc;rw[c_,aI,DJ];show w.toNat+1<=1001;have:w<=24:=ok.w.2
  lia⟩)
def af3{k lo hi r m x y q c w i j a e:Int}(f:bs.length=2)(g:∀o∈bs,bA<|cE K A o):Ans K A bs 22 [p,k,lo,hi,r,m,x,y,q,c,w,i,j,a,e] d (step ⟨bs⟩<|.way p ⟨k,lo,hi,r⟩ m ⟨x,y,q,c,w⟩ i j a e) 1001:=by refine tf (K:=K) (A:=A) (bs:=bs) (p:=p) (d:=d) (n:=22) (l:=[k,lo,hi,r,m,x,y,q,c,w,i,j,a,e]) U U f g (cd:=λb=>tQ b 2 ⟨k,lo,hi,r⟩++pd m::tR ⟨x,y,q,c,w⟩++[yb ⟨x,y,q,c,w⟩ i j,yb ⟨x,y,q,c,w⟩ a e]) (rC:=λb=>ml b ⟨k,lo,hi,r,m,x,y,q,c,w⟩ [(i,j),(a,e)]) (λ_=>U) (λb=>IZ ..)<|λb h=>⟨.mk U<|.way<|@DO.mk K A b ⟨k,lo,hi,r,m,x,y,q,c,w⟩ i j a e d,λ_=>U,λz=>?_⟩;grind-ring
end
open Vbpcad (Board within step goodTold goodPts ptsOf put)
section
variable{K:aJ}{A:Ad}{bs:Bs}{p n:Int}{d:Rp}{l:O Int}
def u5(c:pF.lookup n=am)(g:(oC.lookup n).isSome=aA)(a:bs.length=2)(i:∀o∈bs,bA<|cE K A o){F:bC->Bj×O Int}(h:∀x,bA (ba K A x)->bs[p.toNat]?=Y (Y x)->∃m y,Du K A [ba K A x,int n,nums l,d] (oJ K A (m,y))/\F x=(put ⟨bs⟩ p y,[m])):Ans K A bs n (p::l) d (Kf ⟨bs⟩ p F) 1001:=by
 rcases Ah a p with⟨e,b⟩|⟨e,b⟩|⟨k,x,rfl,f,b⟩
 .rw[b];exact⟨e▸.bad c a (by rw[e];simp),by show 1<=1001;simp,a⟩
 .rw[b];exact⟨e▸.bad c a (by rw[e];simp),au,a⟩
 .refine fF (h x (i _<|eD f) f) λm y j q=>?_;rw[b,q];exact⟨.chg c a f g j,au,by show(bs.set _ _).length=2;rw[fX];exact a⟩
def xl(h:bs[p.toNat]?=Y (Y x)):put ⟨bs⟩ p x=⟨bs⟩:=by simp_all[put,set_same]
def Aj{l:O Pt}(b:l≠[])f q:(cP<|l.map f).all q=l.all λp=>q (f p):=by
 have e:=_d.BM (l:=l.map f) bG;rw[fV,dR,dR];constructor
 .exactλh p a=>h _<|(e.mem _).mpr<|nJ a
 .intro h p a;obtain _:=eY.mp<|(e.mem p).mp a;grind
def S6{b:bC}(e:bA (ba K A b))(f:Pt->Pt):(b.move f).fits=(nk b).all λl=>l.all λp=>nR (f p):=by
 unfold U_ Board.move Vbpcad.moveShape nk;dsimp only;rw[Aj (eB<|qF e).1.1,AU,AU];simp[Kd,Kd,kE,Bk,Bl,AU,U5];congr 2
 .rw[fV,dR,dR];constructor<;>intro h c a
  .have:=h c a;rw[Kg,Aj (eB<|pJ e c a).1.1]at this;exact this
  .have:=h c a;rw[Kg,Aj (eB<|pJ e c a).1.1];exact this
 .rw[fV,dR,dR];constructor<;>intro h c a
  .have:=h c a;rw[Kg,Aj (eB<|qG<|pK e c a).1.1]at this;exact this
  .have:=h c a;rw[Kg,Aj (eB<|qG<|pK e c a).1.1];exact this
def af4{p:Pt}(h:dh p):nR p=L:=by refine eR h λ_ c d=>?_;simp_all[IV,within]
def S7(a:bA (ba K A b))(h:∀p,dh p->dh (f p)):(b.move f).fits=L:=by grind[S6,af4,HW]
def S8:ajh 0=mi:=by grind[ajh,mi]
def af5{n:Nat}(h:n<4):Vbpcaa.turned ⟨0,0⟩ n=nA n:=funext λp=>by
 match n,h with
 |0,_=>show p=⟨1*p.x-0*p.y,0*p.x+1*p.y⟩;simp
 |1,_=>show(⟨0-(p.y-0),0+(p.x-0)⟩:Pt)=⟨0*p.x-1*p.y,1*p.x+0*p.y⟩;simp
 |2,_=>show(⟨0-((0+(p.x-0))-0),0+((0-(p.y-0))-0)⟩:Pt)=⟨-1*p.x-0*p.y,0*p.x+-1*p.y⟩;simp
 |3,_=>show(⟨0-((0+((0-(p.y-0))-0))-0),0+((0-((0+(p.x-0))-0))-0)⟩:Pt)=⟨0*p.x- -1*p.y,-1*p.x+0*p.y⟩;simp
def af6 b:b.mirrored=pM b:=by unfold aji pM;rw[S8];rfl
def af7(a:bs.length=2)(b:∀o∈bs,bA<|cE K A o):Ans K A bs 6 [p] d (step ⟨bs⟩<|.mirror p) 1001:=
 u5 U U a b λx c e=>gq 0 (pM x) (.mk U<|.mirror .mk) (by
  unfold U';rw[aH,af6];have:=S7 c (f:=mi) λp h=>⟨⟨by have:=h.1;show-1000000000<=-p.x;lia,by have:=h.1;show-p.x<=1000000000;lia⟩,h.2⟩
  unfold aji U_;rw[S8];unfold U_ at this;dsimp only;rw[AU];exact this)
def af8{a b:Int}(c:bs.length=2)(f:∀o∈bs,bA<|cE K A o):Ans K A bs 7 [p,a,b] d (step ⟨bs⟩<|.shift p a b) 1001:=
 u5 U U c f λx g h=>gq ((zO x a b).1) ((zO x a b).2) (.mk U<|.shift .mk) (by
  have e:(x.move<|Vbpcaa.shifted ⟨a,b⟩).fits=qK x a b:=by rw[S6 g];unfold qK sM;congr 1;funext l;congr 1;funext p;exact IV _
  unfold U' zO;rw[e];cases qK x a b with
  |true=>rfl
  |false=>exact(bJ (λs=>(s,[(-8:Int)]))<|xl h).symm)
def af9{k:Int}(e:bs.length=2)(f:∀o∈bs,bA<|cE K A o):Ans K A bs 8 [p,k] d (step ⟨bs⟩<|.turn p k) 1001:=
 u5 U U e f λx g i=>gq 0 (i6 (nA (k%4).toNat) x) (.mk U<|.turn .mk) (by have c:(k%4).toNat<4:=ap;unfold U';rw[af5 c,aH];rfl;refine S7 g λp h=>?_;obtain⟨⟨j,m⟩,q,s⟩:=h;unfold nA;rcases HX c with⟨a,b⟩|⟨a,b⟩|⟨a,b⟩|⟨a,b⟩<;>rw[a,b]<;>exact⟨⟨bG,bh⟩,bG,bh⟩)
end
open Vbpcad (Board within step goodTold goodPts ptsOf put place)
section
variable{K:aJ}{A:Ad}{bs:Bs}{p n:Int}{d:Rp}{l:O Int}
def S9{s:Bj}{l:Cd}(h:qY (l.map (·.2))=L)(f:Unit->Bj×O Int):Bm s l f=if NR l<0 then(s,[NR l])else f ():=by have e:=SV h [];grind only[Bm,Ai]
def S_{l:Cd}{c:Int}(h:qY (l.map (·.2))=L)(a:c<=0)(b:(l.map (·.2)).all (λz=>decide<|c<=z)=L):c<=NR l:=by
 rw[xj h];cases q:l.find? λx=>!x.1 with
 |none=>exact a
 |some x=>exact cM<|dR.mp b x.2<|nJ<|J_ q
def Ta q:nh (!q)=rf q (-11):=by cases q<;>rfl
def D7(h:c<0):NR [(b,c)]=rf b c:=(xi (mr h)<|lJ 0).2.1 U
def af_ b k lo hi r row:zH b k lo hi r row=NR (tQ b 3 ⟨k,lo,hi,r⟩++lf row++[(decide<|b.keeps.length<EV,-11)]):=by
 have e:decide (32<=(b.keeps.length:Int))=!decide (b.keeps.length<EV):=by rw[<-decide_not,jO];show _↔¬_<32;omega
 delta zH
 rw[e,Ta,lG cq,lG cq,D7 au,<-D2,<-uZ,xf,D1<|mr au,uY (by rw[D2];exact lF _) (by rw[uZ];exact lF _)<|mr au]
def af'{k lo hi r:Int}(a:bs.length=2)(b:∀o∈bs,bA<|cE K A o):Ans K A bs 14 [p,k,lo,hi,r] (nums row) (step ⟨bs⟩<|.keep p ⟨k,lo,hi,r⟩ row) 1001:=
 u5 U U a b λx e c=>gq ((wU x k lo hi r row).1) ((wU x k lo hi r row).2) (.mk U<|.keep .mk) (by
  rw[S9 U,<-af_]
  delta wU
  split
  .rw[xl c]
  .rfl)
def aga(a:bs.length=2)(b:∀o∈bs,bA<|cE K A o):Ans K A bs 15 [p,i] d (step ⟨bs⟩<|.unkeep p i) 1001:=
 u5 U U a b λx e c=>gq ((zI x i).1) ((zI x i).2) (.mk U<|.unkeep .mk) (by
  delta zI
  cases fY x.keeps i with
  |none=>exact(bJ (λs=>(s,[_]))<|xl c).symm
  |some _=>rfl)
def agb(a:bs.length=2)(b:∀o∈bs,bA<|cE K A o):Ans K A bs 18 [p,i] d (step ⟨bs⟩<|.uncut p i) 1001:=
 u5 U U a b λx e c=>gq ((zJ x i).1) ((zJ x i).2) (.mk U<|.uncut .mk) (by
  delta zJ
  cases fY x.cuts i with
  |none=>exact(bJ (λs=>(s,[_]))<|xl c).symm
  |some _=>rfl)
def agc(h:y=0\/y<=x):mx x y=if x<0 then x else y:=by
 by_cases k:x<0
 .rw[aH k];by_cases l:y=0\/y<x
  .exact aH ⟨k,l⟩
  .exact(aD λz=>l z.2).trans<|Ap (h.elim (λz=>(l<|aP z).elim) id)<|u9.1 λz=>l<|aW z
 .exact(aD λz=>k z.1).trans (aD k).symm
def D8(b:bC)(a:O Int):ma b a=NR (lf a++[(decide<|6<=a.length,-9),(decide<|b.cuts.length<qe,-11)]):=by
 have e:decide (8<=(b.cuts.length:Int))=!decide (b.cuts.length<qe):=by
  rw[<-decide_not,jO];show _↔¬_<8
  lia
 have c:decide (6<=(a.length:Int))=decide (6<=a.length):=by rw[jO];lia
 have f:sI a=mx (NR<|lf a) (rf (decide<|6<=a.length) (-9)):=by
  delta sI
  rw[uZ,c];have g:-9<=NR (lf a):=S_ cq au cq;have:∀b,rf b (-9)=0\/rf b (-9)<=NR (lf a):=by
   intro b;cases b with
   |false=>exact aW g
   |true=>exact aP U
  exact(agc<|this _).symm
 delta ma
 rw[e,Ta,D1<|mr au,f,show lf a++[(decide<|6<=a.length,-9),(decide<|b.cuts.length<qe,-11)]=lf a++([(decide<|6<=a.length,-9)]++[(decide<|b.cuts.length<qe,-11)])from U,lG cq,lG cq,D7 au,D7 au,uY (lF _) (mr au)<|mr au]
def agd{a:O Int}(i:bs.length=2)(j:∀o∈bs,bA<|cE K A o):Ans K A bs 17 [p] (nums a) (step ⟨bs⟩<|.cut p a) 1001:=
 u5 U U i j λx g h=>gq ((wV x a).1) ((wV x a).2) (.mk U<|.cut .mk) (by
  rw[S9 cq];have e:NR (lf a++[(decide<|6<=a.length,-9),(decide<|x.cuts.length<qe,-11),(lN x.outline x.cuts<|iB a,-12)])=mx (ma x a) (rf (lN x.outline x.cuts<|iB a) (-12)):=by rw[D8,show lf a++[(decide<|6<=a.length,-9),(decide<|x.cuts.length<qe,-11),(lN x.outline x.cuts<|iB a,-12)]=(lf a++[(decide<|6<=a.length,-9),(decide<|x.cuts.length<qe,-11)])++[(lN x.outline x.cuts<|iB a,-12)] by rw[vf];rfl,lG cq,D7 au]
  rw[e];have q:ma x a<=0:=by rw[D8];exact lF _
  have k:=xi q (mr (b:=lN x.outline x.cuts<|iB a) (c:=-12) au)
  delta wV
  by_cases z:ma x a<0
  .have E:-11<=ma x a:=by
    rw[D8];exact S_ cq au cq
   have G:rf (lN x.outline x.cuts<|iB a) (-12)=0\/rf (lN x.outline x.cuts<|iB a) (-12)=-12:=by delta rf;split;exact aP U;exact aW U
   have f:mx (ma x a) (rf (lN x.outline x.cuts<|iB a) (-12))=ma x a:=ap;rw[f,aH z,aH z,xl h]
  .have t:ma x a=0:=ap;have f:mx (ma x a) (rf (lN x.outline x.cuts<|iB a) (-12))=rf (lN x.outline x.cuts<|iB a) (-12):=k.1 t;have u:¬iw a<0:=by have v:=z;rw[D8,lG cq,<-uZ]at v;have H:=xi (show iw a<=0 by rw[uZ];exact lF _)<|lF [(decide<|6<=a.length,-9),(decide<|x.cuts.length<qe,-11)];have:=lF [(decide<|6<=a.length,-9),(decide<|x.cuts.length<qe,-11)];omega
   refine b7 (HD u) λm w y _=>?_;subst w;have C:iB (fA m)≠[]:=by rw[pH];exact wQ y
   rw[f,aD z,Sh C (fg g).out (fg g).cut];cases lN x.outline x.cuts (iB<|fA m)with
   |true=>rfl
   |false=>exact(bJ (λs=>(s,[(-12:Int)]))<|xl h).symm)
def age{a:O Int}(b:bs.length=2)(hr:_e.dM a):Ans K A bs 0 [p] (nums a) (step ⟨bs⟩<|.load p<|Kh a) 1001:=by
 have e:step ⟨bs⟩ (.load p<|Kh a)=(⟨(sY bs p a).1⟩,(sY bs p a).2):=by
  show(if within 0 p 1=aA then _ else if ajj<(Kh a).length then _ else _)=_
  delta sY
  rw[D0,show(Kh a).length=a.length from aI ..,show ajj=40000 from U];cases gZ p with
  |false=>rfl
  |true=>
   rw[aD au,aH U];split
   .rfl
   .show(match Bi (_e.bs a)with|.error n=>_|.ok x=>_)=_;cases Bi (_e.bs a)<;>rfl
 rw[e];refine⟨.place U<|.load<|.mk b hr,?_,?_⟩
 . (rw[sY];grind-etaStruct)
 (simp only[sY,fX];grind-etaStruct)
def agf{c:Int}(b:bs.length=2):Ans K A bs 2 [p,c] d (step ⟨bs⟩<|.copy p c) 1001:=by
 have e:step ⟨bs⟩ (.copy p c)=(⟨(sZ bs p c).1⟩,(sZ bs p c).2):=by
  show(if within 0 p 1=aA then _ else place ⟨bs⟩ c _)=_
  delta sZ
  rw[D0];cases gZ p with
  |false=>rfl
  |true=>
   rw[aD au,aH U];rcases Ah b c with⟨e,a⟩|⟨e,a⟩|⟨k,x,rfl,f,a⟩
   .rw[a,e];rfl
   .rw[a,e];rfl
   .rw[a,xa b f,aD au,rh,jt,f];rfl
 rw[e];refine⟨.place U<|.copy<|.mk b,?_,?_⟩
 .grind[sZ]
 grind[sZ,fX]
def agg(b:bs.length=2)a c:gi bs [a,c]=if gi bs [a]=-1\/gi bs [c]=-1 then-1 else if gi bs [c]=-2\/gi bs [a]=-2 then-2 else 0:=by
 delta gi
 (simp;lia+splitImp)
def agh{c:Int}(b:bs.length=2):Ans K A bs 3 [p,c] d (step ⟨bs⟩<|.same p c) 1001:=by
 have e:step ⟨bs⟩ (.same p c)=(⟨bs⟩,Ag bs p c):=by
  show(if within 0 p 1=aA then _ else place ⟨bs⟩ c λy=>place ⟨bs⟩ p λx=>_)=_
  delta Ag
  have a:=agg b p c;rw[D0];have o:=Ah b p;cases hi:gZ p with
  |false=>
   rw[aH<|aP<|by delta gi;rw[kE,hi];rfl]at a;rw[a];rfl
  |true=>
   rw[aD au]
   have h:gi bs [p]≠-1:=by
    delta gi
    rw[kE,hi,Bk,Bl,aH U];split<;>simp
   rcases Ah b c with⟨e,f⟩|⟨e,f⟩|⟨k,y,rfl,i,f⟩
   .rw[aH<|aW e]at a;rw[f,a];rfl
   .rw[aD (by rw[e];rintro(z|z);exact h z;exact absurd z au),aH (aP e)]at a;rw[f,a];rfl
   .rw[f];rcases o with⟨e,g⟩|⟨e,g⟩|⟨j,x,rfl,m,g⟩
    .exact absurd e h
    .rw[aD (by rintro(z|z);exact h z;rw[xa b i]at z;exact absurd z au),aH (aW e)]at a;rw[g,a];rfl
    .rw[xa b i,xa b m,aD au,aD au]at a;rw[g,a,aD (show¬(0:Int)<0 by simp),rh,rh,jt,jt,m,i,vx,vx];by_cases z:x=y
     .rw[aH z,aH<|bJ Y z]
     .rw[aD z,aD λq=>z<|bL q]
 rw[e];refine⟨.place U<|.same<|.mk b,?_,b⟩
 delta Ag
 split<;>(show 1<=1001;simp)
end
abbrev D9(c:O (O Int)):Bool:=([1]:O Int).contains<|(c.headD []).headD 0
abbrev fq(c:O (O Int)):Nat:=if D9 c=L then 310101 else 1001
def Tc:∀{l:O (Int×Nat)},l.lookup n=Y c->(n,c)∈l
 |[],h=>by grind
 |(a,k)::l,h=>by
  rw[p7]at h;by_cases e:n=a
  .simp_all
  .rw[EX e]at h;exact ja _<|Tc h
section
variable{K:aJ}{A:Ad}{b:Bs}{row ns:O Int}{n:Int}{k:Nat}{c:O (O Int)}
def o0(a:b.length=2)(f:∀o∈b,bA<|cE K A o)(d:Va (cI [[0,x0],row])=L):Ans K A b 0 [x0] (nums row) (gl ⟨b⟩<|cI [[0,x0],row]) (fq<|cI [[0,x0],row]):=by
 have e:_e.dM row:=λz g=>by have h:(akz x0&&_)=L:=d;grind-order [akA]
 exact age a e
def o1(a:b.length=2)(d:∀o∈b,bA<|cE K A o):Ans K A b 1 [x0] (nums []) (gl ⟨b⟩<|cI [[1,x0]]) (fq<|cI [[1,x0]]):=by exact afQ a d
def o2(d:b.length=2)(e:∀o∈b,bA<|cE K A o):Ans K A b 2 [x0,a] (nums []) (gl ⟨b⟩<|cI [[2,x0,a]]) (fq<|cI [[2,x0,a]]):=by exact agf d
def o3(d:b.length=2)(e:∀o∈b,bA<|cE K A o):Ans K A b 3 [x0,a] (nums []) (gl ⟨b⟩<|cI [[3,x0,a]]) (fq<|cI [[3,x0,a]]):=by exact agh d
def o4(a:b.length=2)(d:∀o∈b,bA<|cE K A o):Ans K A b 4 [x0] (nums []) (gl ⟨b⟩<|cI [[4,x0]]) (fq<|cI [[4,x0]]):=by exact afR a d
def o5(a:b.length=2)(d:∀o∈b,bA<|cE K A o):Ans K A b 5 [x0] (nums []) (gl ⟨b⟩<|cI [[5,x0]]) (fq<|cI [[5,x0]]):=by exact afS a d
def o6(a:b.length=2)(d:∀o∈b,bA<|cE K A o):Ans K A b 6 [x0] (nums []) (gl ⟨b⟩<|cI [[6,x0]]) (fq<|cI [[6,x0]]):=by exact af7 a d
def o7(e:b.length=2)(f:∀o∈b,bA<|cE K A o):Ans K A b 7 [x0,a,d] (nums []) (gl ⟨b⟩<|cI [[7,x0,a,d]]) (fq<|cI [[7,x0,a,d]]):=by exact af8 e f
def o8(d:b.length=2)(e:∀o∈b,bA<|cE K A o):Ans K A b 8 [x0,a] (nums []) (gl ⟨b⟩<|cI [[8,x0,a]]) (fq<|cI [[8,x0,a]]):=by exact af9 d e
def o9(e:b.length=2)(f:∀o∈b,bA<|cE K A o):Ans K A b 9 [x0,a,d] (nums []) (gl ⟨b⟩<|cI [[9,x0,a,d]]) (fq<|cI [[9,x0,a,d]]):=by exact afT e f
def o10{a d e:Int}(f:b.length=2)(g:∀o∈b,bA<|cE K A o):Ans K A b 10 [a,d,e] (nums []) (gl ⟨b⟩<|cI [[10,a,d,e]]) (fq<|cI [[10,a,d,e]]):=by exact afU f g
def o11{a d e f g h:Int}(i:b.length=2)(j:∀o∈b,bA<|cE K A o):Ans K A b 11 [a,d,e,f,g,h] (nums row) (gl ⟨b⟩<|cI [[11,a,d,e,f,g,h],row]) (fq<|cI [[11,a,d,e,f,g,h],row]):=by exact afW i j
def o12(h:b.length=2)(i:∀o∈b,bA<|cE K A o):Ans K A b 12 [x0,a,d,e,f,g] (nums row) (gl ⟨b⟩<|cI [[12,x0,a,d,e,f,g],row]) (fq<|cI [[12,x0,a,d,e,f,g],row]):=by exact afX h i
def o13{a d e f g:Int}(h:b.length=2)(i:∀o∈b,bA<|cE K A o):Ans K A b 13 [a,d,e,f,g] (nums row) (gl ⟨b⟩<|cI [[13,a,d,e,f,g],row]) (fq<|cI [[13,a,d,e,f,g],row]):=by exact afY h i
def o14{a d e f g:Int}(h:b.length=2)(i:∀o∈b,bA<|cE K A o):Ans K A b 14 [a,d,e,f,g] (nums row) (gl ⟨b⟩<|cI [[14,a,d,e,f,g],row]) (fq<|cI [[14,a,d,e,f,g],row]):=by exact af' h i
def o15{a d:Int}(e:b.length=2)(f:∀o∈b,bA<|cE K A o):Ans K A b 15 [a,d] (nums []) (gl ⟨b⟩<|cI [[15,a,d]]) (fq<|cI [[15,a,d]]):=by exact aga e f
def o16{a d:Int}(e:b.length=2)(f:∀o∈b,bA<|cE K A o):Ans K A b 16 [a,d] (nums []) (gl ⟨b⟩<|cI [[16,a,d]]) (fq<|cI [[16,a,d]]):=by show Ans K A b 16 [a,d] (nums []) (Ki ⟨b⟩<|.keepAt a d) 1001;exact afZ e f
def o17{a:Int}(d:b.length=2)(e:∀o∈b,bA<|cE K A o):Ans K A b 17 [a] (nums row) (gl ⟨b⟩<|cI [[17,a],row]) (fq<|cI [[17,a],row]):=by show Ans K A b 17 [a] (nums row) (Ki ⟨b⟩<|.cut a row) 1001;exact agd d e
def o18{a d:Int}(e:b.length=2)(f:∀o∈b,bA<|cE K A o):Ans K A b 18 [a,d] (nums []) (gl ⟨b⟩<|cI [[18,a,d]]) (fq<|cI [[18,a,d]]):=by show Ans K A b 18 [a,d] (nums []) (Ki ⟨b⟩<|.uncut a d) 1001;exact agb e f
def o19{a d:Int}(e:b.length=2)(f:∀o∈b,bA<|cE K A o):Ans K A b 19 [a,d] (nums []) (gl ⟨b⟩<|cI [[19,a,d]]) (fq<|cI [[19,a,d]]):=by show Ans K A b 19 [a,d] (nums []) (Ki ⟨b⟩<|.cutAt a d) 1001;exact af0 e f
def o20(p:b.length=2)(q:∀o∈b,bA<|cE K A o):Ans K A b 20 [x0,a,d,e,f,g,h,i,j,l,m] (nums []) (gl ⟨b⟩<|cI [[20,x0,a,d,e,f,g,h,i,j,l,m]]) (fq<|cI [[20,x0,a,d,e,f,g,h,i,j,l,m]]):=by exact af1 p q
def o21(s:b.length=2)(t:∀o∈b,bA<|cE K A o):Ans K A b 21 [x0,a,d,e,f,g,h,i,j,l,m,p,q] (nums []) (gl ⟨b⟩<|cI [[21,x0,a,d,e,f,g,h,i,j,l,m,p,q]]) (fq<|cI [[21,x0,a,d,e,f,g,h,i,j,l,m,p,q]]):=by exact af2 s t
def o22(u:b.length=2)(v:∀o∈b,bA<|cE K A o):Ans K A b 22 [x0,a,d,e,f,g,h,i,j,l,m,p,q,s,t] (nums []) (gl ⟨b⟩<|cI [[22,x0,a,d,e,f,g,h,i,j,l,m,p,q,s,t]]) (fq<|cI [[22,x0,a,d,e,f,g,h,i,j,l,m,p,q,s,t]]):=by exact af3 u v
def g6{l:O Int}{m:Nat}(h:l.length=m):l=(c8 m).map λi=>l.getD i 0:=List.ext_getElem (by simp[h]) λi a b=>by simp;grind
def agv(a:b.length=2)(d:∀o∈b,bA<|cE K A o)(i:mZ.lookup n=Y k)(e:ns.length=k)(f:(jq.contains n=aA/\c=[n::ns]/\row=[])\/(jq.contains n=L/\c=[n::ns,row]))(h:Va (cI c)=L):Ans K A b n ns (nums row) (gl ⟨b⟩<|cI c) (fq<|cI c):=by
 have g:=Tc i;unfold mZ at g;simp only[cU,jw,jx,vy]at g;rcases g with⟨rfl,rfl⟩|⟨rfl,rfl⟩|⟨rfl,rfl⟩|⟨rfl,rfl⟩|⟨rfl,rfl⟩|⟨rfl,rfl⟩|⟨rfl,rfl⟩|⟨rfl,rfl⟩|⟨rfl,rfl⟩|⟨rfl,rfl⟩|⟨rfl,rfl⟩|⟨rfl,rfl⟩|⟨rfl,rfl⟩|⟨rfl,rfl⟩|⟨rfl,rfl⟩|⟨rfl,rfl⟩|⟨rfl,rfl⟩|⟨rfl,rfl⟩|⟨rfl,rfl⟩|⟨rfl,rfl⟩|⟨rfl,rfl⟩|⟨rfl,rfl⟩|⟨rfl,rfl⟩
 .obtain⟨q,_⟩|⟨_,rfl⟩:=f
  .cases q
  .rw[g6 e]at h⊢;exact o0 a d h
 .obtain⟨_,rfl,rfl⟩|⟨q,_⟩:=f
  .rw[g6 e];exact o1 a d
  .cases q
 .obtain⟨_,rfl,rfl⟩|⟨q,_⟩:=f
  .rw[g6 e];exact o2 a d
  .cases q
 .obtain⟨_,rfl,rfl⟩|⟨q,_⟩:=f
  .rw[g6 e];exact o3 a d
  .cases q
 .obtain⟨_,rfl,rfl⟩|⟨q,_⟩:=f
  .rw[g6 e];exact o4 a d
  .cases q
 .obtain⟨_,rfl,rfl⟩|⟨q,_⟩:=f
  .rw[g6 e];exact o5 a d
  .cases q
 .obtain⟨_,rfl,rfl⟩|⟨q,_⟩:=f
  .rw[g6 e];exact o6 a d
  .cases q
 .obtain⟨_,rfl,rfl⟩|⟨q,_⟩:=f
  .rw[g6 e];exact o7 a d
  .cases q
 .obtain⟨_,rfl,rfl⟩|⟨q,_⟩:=f
  .rw[g6 e];exact o8 a d
  .cases q
 .obtain⟨_,rfl,rfl⟩|⟨q,_⟩:=f
  .rw[g6 e];exact o9 a d
  .cases q
 .obtain⟨_,rfl,rfl⟩|⟨q,_⟩:=f
  .rw[g6 e];exact o10 a d
  .cases q
 .obtain⟨q,_⟩|⟨_,rfl⟩:=f
  .cases q
  .rw[g6 e];exact o11 a d
 .obtain⟨q,_⟩|⟨_,rfl⟩:=f
  .cases q
  .rw[g6 e];exact o12 a d
 .obtain⟨q,_⟩|⟨_,rfl⟩:=f
  .cases q
  .rw[g6 e];exact o13 a d
 .obtain⟨q,_⟩|⟨_,rfl⟩:=f
  .cases q
  .rw[g6 e];exact o14 a d
 .obtain⟨_,rfl,rfl⟩|⟨q,_⟩:=f
  .rw[g6 e];exact o15 a d
  .cases q
 .obtain⟨_,rfl,rfl⟩|⟨q,_⟩:=f
  .rw[g6 e];exact o16 a d
  .cases q
 .obtain⟨q,_⟩|⟨_,rfl⟩:=f
  .cases q
  .rw[g6 e];exact o17 a d
 .obtain⟨_,rfl,rfl⟩|⟨q,_⟩:=f
  .rw[g6 e];exact o18 a d
  .cases q
 .obtain⟨_,rfl,rfl⟩|⟨q,_⟩:=f
  .rw[g6 e];exact o19 a d
  .cases q
 .obtain⟨_,rfl,rfl⟩|⟨q,_⟩:=f
  .rw[g6 e];exact o20 a d
  .cases q
 .obtain⟨_,rfl,rfl⟩|⟨q,_⟩:=f
  .rw[g6 e];exact o21 a d
  .cases q
 .obtain⟨_,rfl,rfl⟩|⟨q,_⟩:=f
  .rw[g6 e];exact o22 a d
  .cases q
end
def pQ.len{ns C:O Int}(h:pQ l i n ns C j):∃k,mZ.lookup n=Y k/\ns.length=k:=by refine yh h.inv λc _ I h2 akF _=>?_;subst akF;exact aY c I<|by rw[jr,jR];lia
abbrev cost(cs:O (O<|O Int)):Nat:=(cs.map λc=>fq c+1).sum
abbrev JJ(l:O Int)(i:Nat)(b:Bs)(a:O Int)(m:Nat):Prop:=∃(f:Nat)(cs:O (O<|O Int)),Kj tP f (l.drop i)=Y cs/\b.length=2/\(cs.map cI).all Va=L/\a=PyFlat.told (PyFlat.played gl ⟨b⟩<|cs.map cI)/\m=cost (cs.map cI)
def agw{K:aJ}{A:Ad}(l:O Int):Run K A l (JJ l):=by
 refine⟨λb w m g=>jX g λf x a _ _ s _=>?_,λi b w m hi g y=>jX g λf x a z h C E=>?_⟩
 .rw[J7]at a;cases f with
  |zero=>obtain rfl:=bL a;rw[s];rfl
  |succ f=>obtain rfl:=bL a;rw[s];rfl
 .cases e:l.drop i with
  |nil=>have:=bJ jQ e;rw[jR]at this;simp at this;grind
  |cons p r=>
   rw[e]at a;cases f with
   |zero=>cases a
   |succ f=>
    rw[Kj]at a;cases d:U7 tP (p::r)with
    |none=>rw[d]at a;cases a
    |some q=>
     obtain⟨c,t⟩:=q;rw[d]at a;dsimp only at a;cases o:Kj tP f t with
     |none=>rw[o]at a;cases a
     |some u=>
      rw[o]at a;obtain rfl:=bL a;rw[<-e]at d;refine E_ (afI d) λn G H j v I N=>?_;subst I;rw[eQ,kE,c6]at h;obtain⟨k,Q,T⟩:=v.len;refine eR (agv z y Q T N h.1) λa1 a2 a3=>?_;refine⟨n,G,H,j,(gl ⟨b⟩<|cI c).2,(gl ⟨b⟩<|cI c).1.boards,_,cost<|u.map cI,v,a1,?_,?_,f,u,o,a3,h.2,U,U⟩
      .rw[C];rfl
      .rw[E];show _<=((fq _+1)::jV _ _).sum;rw[Jf];exact ajk (ajk a2 1) _
def Td:∀cs:O (O<|O Int),cost cs<=310102*(cs.filter D9).length+1002*cs.length
 |[]=>cg _
 |c::cs=>by
  have a:=Td cs;show((fq c+1)::jV _ cs).sum<=_;simp[Jf,c_];have a:(cs.map λc=>fq c+1).sum<=_:=a;cases e:D9 c with
  |true=>rw[List.filter_cons_of_pos e,c_,show fq c=310101 from aH e];lia
  |false=>rw[List.filter_cons_of_neg ap,show fq c=1001 from aD ap];lia
def agx{K:aJ}{A:Ad}{l:O Int}(h:Vb l=L):∃m,JJ l 0 [am,am] (Vc l) m/\m<=bK/\Run K A l (JJ l):=by
 unfold Vb ajl at h;unfold Vc ajl;cases e:Kj tP l.length l with
 |none=>rw[e]at h;cases h
 |some cs=>
  rw[e]at h;dsimp only at h⊢;rw[c6]at h;obtain⟨d,a⟩:=h;unfold akB at a;rw[c6,c6,c6,fr,fr,fr]at a;obtain⟨c,_,f,b⟩:=a;refine fQ _ ⟨l.length,cs,e,U,c,U,U⟩ ?_<|agw l;have:=Td<|cs.map cI;have b:((cs.map cI).filter D9).length<=25:=b;rw[Uh]
  lia
open PySem PySem.Spec PyProof.Rows _a _b
open PySem.W (WData Codec OpenSpec Well WellAll ReadsW ReadsAllW)
abbrev mw(t:Ts)(G:Hp):Hp:=λb=>if b∈[t.a,t.b,t.c]then Y (nu b #[])else G b
abbrev I_(K:aJ)(h:bf)(a:az):Prop:=h.get? a=Y (tN #[])/\isCodeTable h a/\K.lookup a=am
abbrev D_(t:Ts)(H:Hp):Prop:=∀b∈[t.a,t.b,t.c],∃ps,H b=Y (nu b ps)
def TS.ends{t:Ts}(x:TS t G H):D_ t H:=λb C=>by
 have f:∀{P akF q},Tb G H P akF q->∃I,H P=Y _:=λy=>fF y.tab λI _ h _=>⟨I,h⟩
 simp at C;rcases C with rfl|rfl|rfl
 .exact f x.m
 .exact f x.s
 .exact f x.t
def agy{P:bO}{w:bN}{K:aJ}{j mb:aq->aR aB}{k:Nat}{fa:az}{ps:O aq}{sp:_a.Sp}{g:bp}{l:O aB}{ds:O gU}{R:aia}{cl:aq->aR az}{d0:gU}{t:Ts}
  (C:K.In g.heap)(akK:g.heap.Ns eZ j)(f:g.heap.Ns Jt mb)(akQ:∀x:aq,x≠"__name__"->mb x=rm x)(akR:g.heap.NoLimit)(hg:g.gens=#[])(akS:∀b∈[t.a,t.b,t.c],g.heap.BuiltinsAt j b)
  (akF:vt w.params g.heap l ds)(akL:mT ds=L)(akT:∀d∈ds,d.weight<=1048576)(hr:cj k E4)(p:∀b∈[t.a,t.b,t.c],I_ K g.heap b)
  (F:∀E:bf,K.In E->E.Ns eZ j->(∀b∈[t.a,t.b,t.c],E.BuiltinsAt j b)->∃fd,Binds K fd ps []/\fH P w K j E iH k fa fd ps sp)(akU:ds.length=ps.length)
  (akV:∀G(xs:O V),y8 G->(∀b∈[t.a,t.b,t.c],G b=am)->mS K G xs ds->sp xs (mw t G) (λv H'=>Dw K H' v d0/\D_ t H') λ_ _ _=>False):
  oX (bg P w) E4 (.call (.ref fa) ⟨l,[]⟩) (λr s'=>∃u as,r=.ok (.ret u)/\ReadsW R cl s'.heap u d0 as/\OldK g.heap s'.heap/\s'.os=g.os/\xz s'.gens) g:=by
 refine aL (CD ds l akF akL akT) λA ho ar=>?_;have hO:y8 (jE K g.heap A):=ZW ar;have hS:=CI C ar ds l akF akL ho;have hV:=wg ho;have I:=λb u(q:jE K g.heap A b=Y u)=>Nb ar q
 have akG:∀{b:az}{o:b9},g.heap.get? b=Y o->(∀i n,o.data≠.seq i n)->jE K g.heap A b=am:=λ{b o}e d=>by
  cases q:jE K g.heap A b with
  |none=>rfl
  |some u=>obtain⟨_,i,_,_,⟨s,_⟩|⟨s,_⟩⟩:=I b u q<;>(rw[s]at e;obtain rfl:=bL e;exact absurd U<|d _ _)
 generalize jE K g.heap A=G at hO hS I akG;have gT:=λb f=>akG (p b f).1 λ_ _ z=>by cases z
 have hq:=akV G _ hO gT hS;have tT:∀{b},b∈[t.a,t.b,t.c]->mw t G b=Y (nu b #[]):=λh=>aH h;have N:∀{b},b∉[t.a,t.b,t.c]->mw t G b=G b:=λh=>aD h
 have akH:dZ P w (mw t G) g.heap:=λb u q=>by
  by_cases f:b∈[t.a,t.b,t.c]
  .rw[tT f]at q;obtain rfl:=bL q;exact Qi (p b f).1
  .rw[N f]at q;obtain⟨_,i,Q,y,⟨e,rfl⟩|⟨e,rfl⟩⟩:=I b u q
   .exact⟨e,by rwa[aI],i,_,wg y,e⟩
   .exact⟨e,by rwa[aI],i,wg y,_,e,U,_,U⟩
 have hK:∀b u,mw t G b=Y u->K.lookup b=am:=λb u q=>by
  by_cases f:b∈[t.a,t.b,t.c]
  .exact(p b f).2.2
  .rw[N f]at q;exact(I b u q).1
 have akI:∀{b:az}{o:b9},g.heap.get? b=Y o->(∀i n,o.data≠.seq i n)->(∀i,o.data≠.fields i)->mw t G b=am:=λ{b o}e d d2=>
  have f:=λf=>by rw[(p b f).1]at e;obtain rfl:=bL e;exact d2 _ U
  (N f)▸(akG e d)
 have akM:∀b u,mw t G b=Y u->b∉[t.a,t.b,t.c]->∃o v,mw t G b=Y (.iF o v):=λb u q f=>by
  rw[N f]at q⊢;rcases hO b with z|z
  .rw[z]at q;cases q
  .exact z
 generalize mw t G=H at hq akH hK akI akM;have base_of:∀{b:az}{o:b9},g.heap.get? b=Y o->H b=am->(qo g.heap H).get? b=Y o:=λe n=>WW e n;have T:∀{b:az}{m:aq->aR aB},g.heap.Ns b m->(qo g.heap H).Ns b m:=λ{b m}⟨o,es,ep,e,d,r⟩=>vG o es ep (base_of e<|akI e (λ_ _ z=>by rw[d]at z;cases z) λ_ z=>by rw[d]at z;cases z) d r
 have akN:=λb o e=>base_of (C b o e) (by
  cases q:H b with
  |none=>rfl
  |some u=>
   rw[hK b u q]at e;cases e)
 have hM:Mod K j (qo g.heap H):=⟨akN,T akK,⟨mb,T f,akQ⟩,aL akR λmc Q y=>aY mc (T Q) y⟩
 have akW:∀b∈[t.a,t.b,t.c],(qo g.heap H).BuiltinsAt j b:=λb f=>
  Vg (akS b f) λbm o Q y h3 h4 h5 h6 h7 h8=>
  ⟨bm,o,Q,y,h3,h4,base_of h5 (akI h5 (λ_ _ z=>by rw[h8]at z;cases z) λ_ z=>by rw[h8]at z;cases z),h6,h7,h8⟩
 have e0:oj P w K j (qo g.heap H) E4 [] g H:=⟨U,hM,λb o e=>WX e,JQ<|WV _ _,trivial,λb f=>absurd (show b∈([]:O az)from f) au,akH,.of_eq hg⟩
 have hl:=(CC akF)▸akU;refine aL (F _ akN (T akK) akW) λfd akX hF=>?_;have akO:=akX g l C (by rwa[eG]);rw[eG]at akO;refine AM (hF.run E4 [] g H ⟨l,[]⟩ l (l.map toV) _ _ hr e0 akO hV hq) λr s' x=>?_;cases r with
 |error e=>exact(x).elim
 |ok fl=>
  cases fl with
  |next=>exact kZ x
  |brk=>exact kZ x
  |cont=>exact kZ x
  |ret u=>
   refine Vf x λv H' os akY un akJ r' q en=>?_
   have kept:=λb o f e=>by
    cases q2:H b with
    |none=>exact un.keep b o e q2 (λz=>absurd (show b∈([]:O az)from z) au) au
    |some u2=>
     refine Bo (akM b u2 q2 f) λob u3 z=>?_;have z2:=un.rP b ob _ z;let⟨e1,_⟩:=akH b _ z;let⟨s,_⟩:=akJ b _ z2;rw[e]at e1;obtain rfl:=bL e1;exact s
   have akP:∀b∈[t.a,t.b,t.c],∃ps,s'.heap.get? b=Y (tN ps):=λb f=>
    mH (en b f) λps h=>
    ⟨ps,(akJ b _ h).1⟩
   have akZ:=λb o e=>kept b o (λf=>by rw[(p b f).2.2]at e;cases e) (C b o e);obtain⟨as,ak0⟩:=Dw.reads (R:=R) (cl:=cl) akJ akZ d0 v u q r';refine jf u as U ak0 ⟨λb o e=>?_,λb o e=>?_⟩ os akY
   .by_cases f:b∈[t.a,t.b,t.c]
    .let⟨ps,hP⟩:=akP b f;have s:=(p b f).1;rw[e]at s;obtain rfl:=bL s;exact aW<|aP ⟨(p b f).2.1,U,#[],ps,U,Array.empty_append▸hP⟩
    .exact aP<|kept b o f e
   .by_cases f:b∈[t.a,t.b,t.c]
    .exact mH (akP b f) λps hP=>⟨_,hP⟩
    .exact⟨o,kept b o f e⟩
def ajv{r:OpenSpec}{k:Nat}{q:bO}{p:O aq}{s:(aq->aR aB)->bf->Prop}{x:bN->bf->Prop}{d:DefRec}{K:vq->aJ}{ps:O aq}{sp:aJ->_a.Sp}{t:Ts}
  (N:r.wellSaid=L)(akN:d.params.defaults=[])(akO:r.args.length=ps.length)(hr:cj k E4)
  (Q:∀w h,x w h->(K w.params).In h)
  (F:∀w akF(e m:aq->aR aB)i h,ajm q p [] s w akF e m h->(K w.params).In h->h.Ns eZ e->e d.name=Y (.ref i)->
   (∀b∈[t.a,t.b,t.c],I_ (K w.params) h b/\h.BuiltinsAt e b)/\
    ∀j:bf,(K w.params).In j->j.Ns eZ e->(∀b∈[t.a,t.b,t.c],j.BuiltinsAt e b)->∃y,Binds (K w.params) y ps []/\fH r.prog w (K w.params) e j iH k i y ps (sp<|K w.params))
  (akG:∀K G(l:O V)(a:UD r.args),y8 G->(∀b∈[t.a,t.b,t.c],G b=am)->Codec.withinAll r.args a=L->ajn r.args r.asked a=L->mS K G l (EI r.args a)->
   sp K l (mw t G) (λv A=>Dw K A v (r.ret.enc<|ajn r.args r.f a)/\D_ t A) λ_ _ _=>False):
  PySem.W.WalkOS q p s x r d [] (λf vs=>ju f vs):=by
 intro w hU akP e m G akT i o pm cd doc dV kV ho hd akQ hD akH hg args vals as akI akJ akR akK akS;refine aL (PySem.W.os_pre_some akI) λa e1 e2=>?_;obtain⟨e3,C⟩:=Codec.encAll_of_decAll r.args args a e1;subst e3;have E:=Q w _ akT;obtain⟨I,hF⟩:=F w hU e m i _ G E G.T.g akH;refine PySem.W.enter_call (AM (agy (R:=[]) (cl:=classAt hU.heap) E G.T.g G.T.b G.T.builtins G.T.nolimit hg (λb n=>(I b n).2) akK (M5 _ _) (Z0 akJ) hr (λb n=>(I b n).1) hF (by rw[Nc];omega)
  λH l hO hG hS=>akG _ H l a hO hG C e2 hS) λr' s' hq=>?_)
 refine jX hq λu akL akM h1 h2 h3 h4=>?_;subst akM;exact⟨aP ⟨u,_,akL,U,λ_=>U,h1,(akC N C _ _).mpr U,λz=>nO ‹_›⟩,h2,h3,h4⟩
def tabs_ok{K:aJ}(G:ajm q loose [] y w A mg C h)(b:K.In h)(hr:((akD q).find?<|λe=>e.name==x).isSome=L)(f:PySem.W.tabIn K x=Y (c,P))(i:K.lookup P=am):I_ K h P/\h.BuiltinsAt mg P:=by
 obtain⟨d,j⟩:=TJ.mp hr;obtain⟨k,a⟩:=PySem.W.tab_of G.T b j f;refine⟨⟨a,(k.tab a).isCodeTable,i⟩,?_⟩;refine E7 G.T.bmain λl m n p s t u v=>?_;refine vF G.T.g λo E H I N _=>?_;refine Vh l m n p (λz=>?_) (λz=>?_) s t u v
 .lia
 lia
def chain{P:bO}{w:bN}{K:aJ}{d:aq->aR aB}{A:Ad}[Z:Zc P w K d A]{t:Ts}{g h i:az}(e:zN t)(j:sO K d "mirrored" (top 190) ["board"] g t.a)(_a:sO K d "shifted" (top 191) ["board","dx","dy"] h t.b)(l:sO K d "turned" (top 192) ["board","quarters"] i t.c)
  (f:bf)(m:f.BuiltinsAt d t.a)(n:f.BuiltinsAt d t.b)(o:f.BuiltinsAt d t.c):∃k,k<=40/\SR t P w K d f A k:=
 ⟨_,au,afG<|afA (adC e (adw e<|ado j m) (adA e<|adp _a n)<|adB e<|ads l o) afw afx afy⟩
open PySem.W (WData Codec)
def agz{K:aJ}{G:Hp}{H:Hp}{l:O Int}{v:V}(S:aX G H)(h:(nums l).r G v):Dw K H v (.list<|l.map EH):=by refine be h λc e b a d=>?_;subst b;rw[SO (ns:=l) d]at a;exact .lst (bR.of<|S _ _ a)<|M2 _
def ajw{t:Ts}{A:Ad}(K:aJ)(G:Hp)(i:O V)(l:O Int)(j:y8 G)(d:∀b∈[t.a,t.b,t.c],G b=am)(k:Vb l=L)(n:mS K G i [.list<|l.map EH]):
  SQ t K A i (mw t G) (λv g=>Dw K g v (.list<|(Vc l).map EH)/\D_ t g) λ_ _ _=>False:=by
 cases n with
 |cons p q=>
  cases q;cases p with
  |lst s w=>
   have e:=M3 l _ w;subst e;refine b7 (agx (K:=K) (A:=A) k) λm x y C=>?_;have at_:∀{b},b∈[t.a,t.b,t.c]->mw t G b=Y (nu b #[]):=λh=>aH h;refine Vo G l _ _ m (λb o e=>?_) (λb I e=>?_) ⟨⟨_,U,s⟩,trivial⟩ ⟨⟨d _ au,aP<|at_ au⟩,⟨d _ au,aP<|at_ au⟩,⟨d _ au,aP<|at_ au⟩⟩ x y C<|λv N g S W E H=>⟨agz S H,E.ends⟩
   .exact(aD λf=>by rw[d b f]at e;cases e).trans e
   .by_cases f:b∈[t.a,t.b,t.c]
    .rw[at_ f]at e;cases e
    .rw[mw,aD f]at e;rcases j b with z|⟨o,u,z⟩<;>(rw[z]at e;cases e)
inductive oS{a:Type}(R:a->aB->Prop):List (Int×a)->List vB->Prop
 |nil:oS R [] []
 |cons {k:Int} {b:a} {t:Tok} {v:aB} {d:List (Int×a)} {es:List vB} (c:R b v) (r:oS R d es):oS R ((k,b)::d) (⟨Et k,.int k t,v⟩::es)
def oS.keys:∀{I:O (Int×β)}{es:O vB},oS R I es->∀e∈es,∃k,(rj P w).is k e.key=L/\e.hash=(rj P w).hash k
 |_,_,.nil,e,h=>nomatch h
 |_,_,.cons C r,e,h=>by
  rcases cU.mp h with rfl|h
  .simp[rj,oU]
  .exact r.keys e h
def oS.look{I:Type}{R:I->aB->Prop}:∀{akF:O (Int×I)}{es:O vB},oS R akF es->∀k:Int,match akF.lookup k with
  |some b=>∃v,(es.find? λe=>oU k e.key).map (·.val)=Y v/\R b v
  |none=>(es.find? λe=>oU k e.key).map (·.val)=am
 |_,_,.nil,k=>rfl
 |_,_,.cons (k:=C) hv r,k=>by
  rw[p7,Eo];by_cases hk:k=C
  .simp_all[UF,oU]
  .rw[show(k==C)=aA from JA.mpr hk,show oU k (.int C _)=aA by(simp[oU];lia)];exact r.look k
def Te{b:Type}{R:b->aB->Prop}{P:bO}{w:bN}{K:aJ}{h:bf}{c:aq->aR aB}{x:aq}{f:az}{es:Array vB}{d:Nat}{m:O (Int×b)}(X:K.In h)(G:h.Ns eZ c)
  (a:nT K eZ x=Y (Y<|.ref f))(l:K.lookup f=Y ⟨.type "dict",am,.dict es d,#[]⟩)(s:(f==lK)=aA)(r:oS R m es.toList):
  ∃(a:az)(g:Int->aR aB),c x=Y (.ref a)/\KD P w K a g/\(∀k,(g k).isSome=(m.lookup k).isSome)/\∀k n,m.lookup k=Y n->∃v,g k=Y v/\R n v:=by
 have e:∀k,Jz (rj P w).is es k=(es.toList.find? λe=>oU k e.key).map (·.val):=λk=>by unfold Jz;rw[<-ahB];rfl
 refine tV f (λk=>(es.toList.find? λe=>oU k e.key).map (·.val)) (yc X G a) ⟨s,_,es,d,l,⟨U,U,U⟩,U,λe i=>r.keys e<|Array.mem_toList_iff.mpr i,e⟩ (λk=>?_)<|λk n j=>?_
 .have:=r.look k;grind
 .have:=r.look k;simp_all only
def agA{P:bO}{K:aJ}(X:K.In h)(G:h.Ns eZ mg)
  (a:nT K eZ x=Y (Y<|.ref f))(l:K.lookup f=Y ⟨.type "dict",am,.dict es j,#[]⟩)(s:(f==lK)=aA)(r:oS (λn v=>∃t,v=.int (n:Nat) t) m es.toList):
  ∃(a:az)(g:Int->aR aB),mg x=Y (.ref a)/\KD P w K a g/\(∀k,(g k).isSome=(m.lookup k).isSome)/\∀k n,m.lookup k=Y n->∃t,g k=Y (.int n t):=
 de (Te X G a l s r) λa g b c d e=>
 ⟨a,g,b,c,d,λk n i=>let _:=e k n i;(by grind only)⟩
def agB{K:aJ}(X:K.In h)(G:h.Ns eZ mg)
  (a:nT K eZ x=Y (Y<|.ref f))(l:K.lookup f=Y ⟨.type "dict",am,.dict es o,#[]⟩)(s:(f==lK)=aA)(r:oS (λn v=>∃b,v=.ref b/\mg n=Y (.ref b)) y es.toList):zn P w K mg x y:=
 de (Te X G a l s r) λa g c d e i=>
 ⟨a,g,c,d,e,λk n j=>aL (i k n j) λv p m=>aL m λt q u=>bG⟩
open PySem PySem.Spec PySem.W _a _b
abbrev tj(K:aJ)(x:aq):aB:=((nT K eZ x).bind id).getD .none
abbrev adr:aB->az
 |.ref a=>a
 |_=>0
abbrev xm:aB->Tok
 |.int _ t=>t
 |.str _ t=>t
 |_=>default
abbrev d8(K:aJ)(a:az):b9:=(K.lookup a).getD default
abbrev xn(o:b9):k7:=match o.data with
 |.func f=>f
 |_=>default
abbrev u7(o:b9):Array aB:=match o.data with
 |.seq i _=>i
 |_=>#[]
abbrev tm(o:b9):Array vB:=match o.data with
 |.dict i _=>i
 |_=>#[]
abbrev Ak(o:b9):Nat:=match o.data with
 |.seq _ n=>n
 |.dict _ n=>n
 |_=>0
abbrev pR(x q:aq)(st:bY)(g:k7):k7:=vh x q (um st) (gL st) (fv st) .none g.kwdefaults g.doc g.pyModule g.annotations g.code g.closureTuple
abbrev Al(K:aJ)(f:az)(q:aq):aR b9×Bool×Bool:=(K.lookup f,AQ K (xn<|d8 K f).code q,k8 K<|.ref f)
abbrev Am(K:aJ)(f:az)(x q:aq)(st:bY):aR b9×Bool×Bool:=(Y ⟨(d8 K f).cls,(d8 K f).dict,.func<|pR x q st<|xn<|d8 K f,(d8 K f).slots⟩,L,L)
abbrev An(x q:aq)(st:bY)(ps:O aq):Prop:=∀(g:k7)(us:O aB),us.length=ps.length->tH (pR x q st g) ⟨us,[]⟩=pure (ps.zip us)
section
variable{K:aJ}{h:bf}{mg:aq->aR aB}{x q:aq}{st:bY}{ps:O aq}{f C:az}
def fun2(e:Al K f q=Am K f x q st):we K x q st f (pR x q st<|xn<|d8 K f):=
 ZP (bJ yd e) (bJ (λy=>y.2.1) e)<|bJ (λy=>y.2.2) e
def agC(X:K.In h)(G:h.Ns eZ mg)(b:An x x st ps)(e:(nT K eZ x,Al K f x)=(Y<|Y<|.ref f,Am K f x x st)):l0 K mg x st ps:=
 ⟨f,_,yc X G<|bJ yd e,fun2<|bJ Prod.snd e,.all<|b _⟩
def ajx(X:K.In h)(G:h.Ns eZ mg)(b:An "__init__" q st ps)(e:(nT K eZ x,xD K (.ref C) "__init__",Uf K C,ahG K<|.ref f,k8 K<|.ref C,Al K f q)=(Y<|Y<|.ref C,Y<|Y<|.ref f,L,L,L,Am K f "__init__" q st)):mV K mg x q C st ps:=
 ⟨f,_,yc X G<|bJ yd e,⟨bJ (λy=>y.2.2.1) e,bJ (λy=>y.2.1) e,bJ (λy=>y.2.2.2.1) e,bJ (λy=>y.2.2.2.2.1) e⟩,fun2<|bJ (λy=>y.2.2.2.2.2) e,.all<|b _⟩
def ajy{c0 P:az}(X:K.In h)(G:h.Ns eZ mg)(b:An x x st ps)(d:(xn<|d8 K f).code=.ref c0)(e:(nT K eZ x,U2 K c0 P,Al K f x)=(Y<|Y<|.ref f,L,Am K f x x st)):sO K mg x st ps c0 P:=by have l:K.lookup f=Y ⟨(d8 K f).cls,(d8 K f).dict,.func<|pR x x st<|xn<|d8 K f,(d8 K f).slots⟩:=bJ (λy=>y.2.2.1) e;have c:AQ K _ x=L:=bJ (λy=>y.2.2.2.1) e;have a:=b<|xn<|d8 K f;unfold pR at a l;rw[d]at l c a;exact⟨f,_,_,_,_,_,_,_,_,yc X G<|bJ yd e,l,c,bJ (λy=>y.2.2.2.2) e,.all a,bJ (λy=>y.2.1) e⟩
def MD{i:Int}(X:K.In h)(G:h.Ns eZ mg)(e:nT K eZ x=Y (Y<|.int i<|xm<|tj K x)):∃t,mg x=Y (.int i t):=⟨_,yc X G e⟩
def vals2:∀{a:O V}{vs:O aB},vs.map yM=a.map Y->Vals a vs
 |[],[],_=>.nil
 |[],_::_,h=>by cases h
 |_::_,[],h=>by cases h
 |x::a,v::vs,h=>by have b:yM v=Y x:=(Vd h).1;refine .cons ?_<|vals2 (Vd h).2;cases v<;>cases b<;>first|rfl|exact⟨_,U⟩
def agD{b:O V}{a:az}(e:(K.lookup a,ajo (u7<|d8 K a).size bK,(u7<|d8 K a).toList.map yM)=(Y ⟨.type "tuple",(d8 K a).dict,.seq (u7<|d8 K a)<|Ak<|d8 K a,(d8 K a).slots⟩,L,b.map Y))(G:Hp):cx K G a b:=
 .inr ⟨_,u7<|d8 K a,Ak<|d8 K a,bJ yd e,U,U,jT<|bJ (λy=>y.2.1) e,vals2<|bJ (λy=>y.2.2) e⟩
def ajz{b:O V}{a:az}(X:K.In h)(G:h.Ns eZ mg)(c:nT K eZ x=Y (Y<|.ref a))(e:(K.lookup a,ajo (u7<|d8 K a).size bK,(u7<|d8 K a).toList.map yM)=(Y ⟨.type "tuple",(d8 K a).dict,.seq (u7<|d8 K a)<|Ak<|d8 K a,(d8 K a).slots⟩,L,b.map Y)):∃a,mg x=Y (.ref a)/\∀G,cx K G a b:=
 ⟨a,yc X G c,agD e⟩
end
def Ja{c:Type}{R:c->aB->Prop}(v:c->vB->aB):∀{l:O (Int×c)}{es:O vB},(∀p∈l,∀e,R p.2<|v p.2 e)->l.length=es.length->es=((l.zip es).map λp=>⟨Et p.1.1,.int p.1.1<|xm p.2.key,v p.1.2 p.2⟩)->oS R l es
 |[],[],_,_,_=>.nil
 |[],_::_,_,h,_=>by cases h
 |_::_,[],_,h,_=>by cases h
 |(k,b)::l,a::es,d,f,e=>by obtain⟨g,i⟩:=Vd e;rw[g];exact .cons (d _ (.head _) a)<|Ja v (λp j=>d p<|.tail _ j) (akE f) i
def nc2{P:bO}{w:bN}{K:aJ}{h:bf}{b:aq->aR aB}{x:aq}{f:az}{c:O (Int×Nat)}(X:K.In h)(G:h.Ns eZ b)
  (e:(nT K eZ x,K.lookup f,f==lK,c.length,(tm<|d8 K f).toList)=(Y<|Y<|.ref f,Y ⟨.type "dict",am,.dict (tm<|d8 K f)<|Ak<|d8 K f,#[]⟩,aA,(tm<|d8 K f).toList.length,(c.zip (tm<|d8 K f).toList).map λp=>⟨Et p.1.1,.int p.1.1<|xm p.2.key,.int (p.1.2:Nat)<|xm p.2.val⟩)):
  ∃(a:az)(g:Int->aR aB),b x=Y (.ref a)/\KD P w K a g/\(∀k,(g k).isSome=(c.lookup k).isSome)/\∀k n,c.lookup k=Y n->∃t,g k=Y (.int (n:Nat) t):=
 agA X G (bJ yd e) (bJ (λy=>y.2.1) e) (bJ (λy=>y.2.2.1) e)<|Ja (λn e=>.int (n:Nat)<|xm e.val) (λ_ _ _=>⟨_,U⟩) (bJ (λy=>y.2.2.2.1) e)<|bJ (λy=>y.2.2.2.2) e
def kf2{P:bO}{w:bN}{K:aJ}{h:bf}{a:aq->aR aB}{x:aq}{f:az}{d:O (Int×aq)}(X:K.In h)(G:h.Ns eZ a)
  (e:(nT K eZ x,K.lookup f,f==lK,d.length,(tm<|d8 K f).toList,d.map λp=>nT K eZ p.2)=(Y<|Y<|.ref f,Y ⟨.type "dict",am,.dict (tm<|d8 K f)<|Ak<|d8 K f,#[]⟩,aA,(tm<|d8 K f).toList.length,(d.zip (tm<|d8 K f).toList).map<|λp=>⟨Et p.1.1,.int p.1.1<|xm p.2.key,tj K p.1.2⟩,d.map λp=>Y<|Y<|.ref<|adr<|tj K p.2)):zn P w K a x d:=
 agB X G (bJ yd e) (bJ (λy=>y.2.1) e) (bJ (λy=>y.2.2.1) e) (Ja (λn _=>tj K n) (λp c _=>by
  have b:=ye.mp (bJ (λy=>y.2.2.2.2.2) e) p c;refine⟨_,?_,yc X G b⟩
  conv=>lhs;unfold tj;rw[b]
  rfl) (bJ (λy=>y.2.2.2.1) e)<|bJ (λy=>y.2.2.2.2.1) e)
def T2{K:aJ}{h:bf}{a:aq->aR aB}(X:K.In h)(G:h.Ns eZ a)(b:∀i∈kl,An (nameAt i) (nameAt i) (top i)<|dw i)
  (e:(kl.map λi=>(nT K eZ<|nameAt i,Al K (adr<|tj K<|nameAt i)<|nameAt i))=kl.map λi=>(Y<|Y<|.ref<|adr<|tj K<|nameAt i,Am K (adr<|tj K<|nameAt i) (nameAt i) (nameAt i)<|top i)):
  ∀i∈kl,l0 K a (nameAt i) (top i) (dw i):=λi c=>agC X G (b i c)<|ye.mp e i c
abbrev ar(n:Nat):O Nat:=kl.filter λi=>(dw i).length==n
def ar1:((ar 1).map λi g a=>tH (pR (nameAt i) (nameAt i) (top i) g) ⟨[a],[]⟩)=(ar 1).map λi g a=>pure ((dw i).zip [a]):=by kernel_rfl
def ar2:((ar 2).map λi g a b=>tH (pR (nameAt i) (nameAt i) (top i) g) ⟨[a,b],[]⟩)=(ar 2).map λi g a b=>pure ((dw i).zip [a,b]):=by kernel_rfl
def ar3:((ar 3).map λi g a b c=>tH (pR (nameAt i) (nameAt i) (top i) g) ⟨[a,b,c],[]⟩)=(ar 3).map λi g a b c=>pure ((dw i).zip [a,b,c]):=by kernel_rfl
def ar4:((ar 4).map λi g a b c d=>tH (pR (nameAt i) (nameAt i) (top i) g) ⟨[a,b,c,d],[]⟩)=(ar 4).map λi g a b c d=>pure ((dw i).zip [a,b,c,d]):=by kernel_rfl
def ar5:((ar 5).map λi g a b c d e=>tH (pR (nameAt i) (nameAt i) (top i) g) ⟨[a,b,c,d,e],[]⟩)=(ar 5).map λi g a b c d e=>pure ((dw i).zip [a,b,c,d,e]):=by kernel_rfl
def arL:(kl.all λi=>decide (1<=(dw i).length)&&decide ((dw i).length<=5))=L:=eN
def bT:∀i∈kl,An (nameAt i) (nameAt i) (top i) (dw i):=λi j g k l=>by
 have f:i∈ar k.length:=q_.mpr ⟨j,by simp[l]⟩;have h:=dR.mp arL i j;rw[<-l,UE,fr,fr]at h
 match k,f,h with
 |[a],f,_=>exact iQ (iQ (ye.mp ar1 i f) g) a
 |[a,b],f,_=>exact iQ (iQ (iQ (ye.mp ar2 i f) g) a) b
 |[a,b,c],f,_=>exact iQ (iQ (iQ (iQ (ye.mp ar3 i f) g) a) b) c
 |[a,b,c,d],f,_=>exact iQ (iQ (iQ (iQ (iQ (ye.mp ar4 i f) g) a) b) c) d
 |[a,b,c,d,e],f,_=>exact iQ (iQ (iQ (iQ (iQ (iQ (ye.mp ar5 i f) g) a) b) c) d) e
 |[],_,h=>exact absurd h.1 au
 |_::_::_::_::_::_::_,_,h=>simp only[c_]at h;lia
end _c
open PySem PySem.W PyProof.Rows
open _a _b _c
namespace _c
abbrev A0:Ad:=⟨31,52,227,248,657,424,445,466,1093⟩
abbrev T0:Ts:=⟨976,981,988⟩
section
variable {w:World} {mg:Str → Option Value} {h:Heap} (KX:(Hd.K w.params).In h) (G:h.Ns mainGlobals mg)
include KX G
theorem t_is : ∀ i ∈ kl,l0 (Hd.K w.params) mg (nameAt i) (top i) (dw i):=T2 KX G bT (by kernel_rfl)
theorem m_is:Mc (Hd.K w.params) mg A0:=by
  constructor <;> first
    | exact mg_none_of KX G (by kernel_rfl)
    | exact MD KX G (by kernel_rfl)
    | (refine ⟨?_, ?_, ?_, ?_⟩ <;> kernel_rfl)
    | (show findIn _ _ _ = _; kernel_rfl)
theorem d_is {P:Program}: Md P w (Hd.K w.params) mg:=by
  refine ⟨ajz (a:=adr (tj (Hd.K w.params) "KIND_NAMES")) KX G (by kernel_rfl) (by kernel_rfl),ajz (a:=adr (tj (Hd.K w.params) "COSINES")) KX G (by kernel_rfl) (by kernel_rfl),ajz (a:=adr (tj (Hd.K w.params) "SINES")) KX G (by kernel_rfl) (by kernel_rfl),ajz (a:=adr (tj (Hd.K w.params) "ROW_CALLS")) KX G (by kernel_rfl) (by kernel_rfl), ?_,nc2 (f:=adr (tj (Hd.K w.params) "NUMBER_COUNTS")) KX G (by kernel_rfl),kf2 (f:=adr (tj (Hd.K w.params) "PLACE_CALLS")) KX G (by kernel_rfl),kf2 (f:=adr (tj (Hd.K w.params) "ASKING_CALLS")) KX G (by kernel_rfl),kf2 (f:=adr (tj (Hd.K w.params) "CHANGING_CALLS")) KX G (by kernel_rfl)⟩
  let g:=fun x:Str => adr (tj (Hd.K w.params) x)
  let t:=fun i => adr ((u7 (d8 (Hd.K w.params) (g "READERS"))).toList.getD i .none)
  exact ⟨g "READERS",t 0,t 1,t 2,t 3,t 4,g "read_copper",g "read_core",g "read_outline",g "read_cut",g "read_keep",mg_of KX G (by kernel_rfl),agD (by kernel_rfl),agD (by kernel_rfl),agD (by kernel_rfl),agD (by kernel_rfl),agD (by kernel_rfl),agD (by kernel_rfl),mg_of KX G (by kernel_rfl),mg_of KX G (by kernel_rfl),mg_of KX G (by kernel_rfl),mg_of KX G (by kernel_rfl),mg_of KX G (by kernel_rfl)⟩
end
section
variable {w:World} {mg:Str → Option Value} {h:Heap} (KX:(Hd.K w.params).In h) (G:h.Ns mainGlobals mg)
include KX G
theorem z_is {P:Program}: Zc P w (Hd.K w.params) mg A0:=by
  have c : ∀ {x q:Str} {C f:Addr} {st:Stmt} {ps:List Str},An "__init__" q st ps → (nsIn (Hd.K w.params) mainGlobals x,findIn (Hd.K w.params) (.ref C) "__init__",makesIn (Hd.K w.params) C,isFn (Hd.K w.params) (.ref f),keepIn (Hd.K w.params) (.ref C),Al (Hd.K w.params) f q)=(some (some (.ref C)),some (some (.ref f)),true,true,true,Am (Hd.K w.params) f "__init__" q st) → mV (Hd.K w.params) mg x q C st ps:=fun b e => ajx KX G b e
  let i:=fun C:Addr => adr (((findIn (Hd.K w.params) (.ref C) "__init__").bind id).getD .none)
  refine ⟨m_is KX G,d_is KX G,t_is KX G,c (f:=i 31) ?_ (by kernel_rfl),c (f:=i 52) ?_ (by kernel_rfl),c (f:=i 227) ?_ (by kernel_rfl),c (f:=i 248) ?_ (by kernel_rfl),c (f:=i 657) ?_ (by kernel_rfl),c (f:=i 424) ?_ (by kernel_rfl),c (f:=i 445) ?_ (by kernel_rfl),c (f:=i 466) ?_ (by kernel_rfl),c (f:=i 1093) ?_ (by kernel_rfl)⟩ <;> exact fun g us hl => match us,hl with
    | [_],hl | [_, _],hl | [_, _, _],hl | [_, _, _, _],hl | [_, _, _, _, _],hl | [_, _, _, _, _, _],hl => by first | rfl | (simp at hl)
    | [],hl => by simp at hl
    | _ :: _ :: _ :: _ :: _ :: _ :: _ :: _,hl => by simp at hl
end
theorem walk_fin:WalkOS Hd.q0 Hd.lo (fun _ _ => True) (fun w h => (Hd.K w.params).In h) Hd.rr Hd.dd [] (fun f vs => PySem.call f vs):=by
  refine _c.ajv (K:=Hd.K) (k := 40) (t:=T0) (ps := ["calls"]) (sp:=fun K => _c.SQ T0 K A0) Hd.wS (by kernel_rfl) rfl ⟨rfl,by decide,by decide⟩ (fun w h Y => Y) ?F ?S
  case F =>
    intro w s0 mg mb fa h G KX Gn hmg
    refine ⟨List.forall_mem_cons.mpr ⟨_c.tabs_ok (x := "mirrored") (c := 978) G KX (by kernel_rfl) (by kernel_rfl) (by kernel_rfl),List.forall_mem_cons.mpr ⟨_c.tabs_ok (x := "shifted") (c := 985) G KX (by kernel_rfl) (by kernel_rfl) (by kernel_rfl),List.forall_mem_cons.mpr ⟨_c.tabs_ok (x := "turned") (c := 992) G KX (by kernel_rfl) (by kernel_rfl) (by kernel_rfl),fun _ h => nomatch h⟩⟩⟩,fun base KB GB hB => ?_⟩
    have Z:Zc PySem.Challenge.rw_copperboard_s01_answers.prog w (Hd.K w.params) mg A0:=z_is KX Gn
    let g:=fun x:Str => adr (tj (Hd.K w.params) x)
    obtain ⟨k,hk,f,fd,hm, _,hb,F⟩ := _c.chain (t:=T0) ⟨by decide,by decide,by decide⟩ (ajy (f:=g "mirrored") (c0 := 978) KX Gn (fun g us hl => match us,hl with | [_], _ => rfl) (by kernel_rfl) (by kernel_rfl)) (ajy (f:=g "shifted") (c0 := 985) KX Gn (fun g us hl => match us,hl with | [_, _, _], _ => rfl) (by kernel_rfl) (by kernel_rfl)) (ajy (f:=g "turned") (c0 := 992) KX Gn (fun g us hl => match us,hl with | [_, _], _ => rfl) (by kernel_rfl) (by kernel_rfl)) base (hB _ (by simp)) (hB _ (by simp)) (hB _ (by simp))
    rw [show Hd.dd.name = "answers" by kernel_rfl,hm] at hmg
    cases hmg
    exact ⟨fd,hb,F.mono hk⟩
  case S =>
    intro K G xs a hO hG hwi hask hx
    exact _c.ajw K G xs a.1 hO hG hask hx
end _c
theorem PySem.Challenge.cw_copperboard_s01_answers_holds : PySem.Challenge.rw_copperboard_s01_answers.Holds :=
  Hd.top_fin _c.walk_fin

import PyProof.Rows.All
import Wide.All
import OpenK.AllK
import Wide.FinOn
import Lean
import PyProof.EqAt
import PyProof.EqKinds
import PyProof.TupleCall
import PyProof.EnumMake
import PyProof.ZipIter
import PyProof.ExcClass2
import PyProof.ExcInit
import PyProof.ExcBaseAll.ValueError
import PyProof.FString2
import PyProof.ExcArgsOwn
import PyProof.InstStoreFacts
import ObjForm.Fk.InstStore
import ObjForm.Fk.InstLoad
import PyProof.StationsW
import PyProof.RulesAs
import PyProof.NsDelKeeps
import OpenK.KMore
import PyProof.IsiBase
import OpenK.KNot
import PyProof.Rows.RuleN_isinstance
import PyProof.NeData
import PyProof.P3In
import PyProof.StrWalks
import PyProof.ConsumeWalk
import PyProof.SliceStr2
import PyProof.MeetsStr
import KE.KItem
import KE.KUnpack
import KE.KRevSl
import PyProof.Rows.SetFrom
import PyProof.SetRoads
import PyProof.Rows.Range3
import PyProof.CallType
import PyProof.Rows.CallKwBuiltin
import PyProof.Rows.MinMaxN
import PyProof.SumWalkG
import PyProof.Rows.SeqMore
import PyProof.Rows.SortWalk
import PyProof.Rows.SumAny
import PyProof.Rows.SeqMore2
import KE.KSortTup
import PyProof.Rows.SortShellK
import PyProof.ReprRoads
import PyProof.ReprBulk
import PyProof.CallFns
import PyProof.NeKinds
import PyProof.Rows.StrJoinMade
import PyProof.StrCalls
import KE.KIntText
import PyProof.ReprDict
import PyProof.DictIter
import PyProof.Rows.DictUnroll
import PyProof.MeetsStr2
import PyProof.Rows.StrNews
import PyProof.StrLawsChain
import PyProof.Rows.StrItems
import PyProof.SeqRoads2
import PySem.Challenge.RW_wishdeal_k72_dealings_carried
set_option compiler.extract_closed false
set_option Elab.async false
set_option linter.all false
set_option maxRecDepth 100000
set_option maxHeartbeats 4000000
open Option renaming some→O,none→AV
open Bool renaming true→AW,false→AX
theorem AU.{u}{α:Sort u}{a:α}:a=a:=rfl
abbrev A0:=List Int
abbrev A7:=Option Int
abbrev A9:=Option Bool
abbrev qa:=List Nat
theorem Qa:type_of% @of_decide_eq_true:=@of_decide_eq_true
theorem Qn:type_of% @if_pos:=@if_pos
theorem Qx:type_of% @decide_eq_true:=@decide_eq_true
theorem QC:type_of% @decide_eq_false:=@decide_eq_false
theorem QD:type_of% @if_neg:=@if_neg
theorem Q3:type_of% @decide_eq_true_eq:=@decide_eq_true_eq
theorem Jy:type_of% @of_decide_eq_false:=@of_decide_eq_false
theorem JU:type_of% @if_false:=@if_false
theorem JX:type_of% @congrArg:=@congrArg
open PySem renaming wpAny_bind→Qb,wpAny_pure→Qf,wpAny_loadPart_at→Qg,wpAny_mono→Qy,wpAny_isSubtype_exc→Qz,wpAny_truthy_bool→Q0,wpAny_field→Q2,wpAny_standAt→Q4,wpAny_setField→Q6,mem_of_lookup→Q8,wpAny_holding→Jh,wpAny_Call_Name_kw→Ji,wpAny_execs_nil→Jv,codeAny_mono→Jx,sizeLine_eq→JB,Value→JZ,Shared→J0,Program→J4,Addr→J5,FuncData→J6,Expr→J7,sizeLine→J8,wpAny→J9,starEach→Ua,compareOp→Ub,assignEach→Uq,foldedSetIterable→Ur
open List renaming length_map→Qd,getElem?_eq_getElem→Qi,length_append→Qk,getElem?_set_ne→Ql,mem_cons_of_mem→Qo,mem_cons_self→Qp,getElem?_eq_some_iff→Qr,getElem?_append_left→Qs,getElem?_map→Qt,getElem?_append_right→Qu,map_cons→Qw,mem_map→QA,getElem?_replicate→QB,length_singleton→QF,flatten_cons→QH,getElem?_set_self→QJ,length_cons→QK,size_toArray→QL,mem_cons→QM,map_append→QN,mem_append_right→QP,lookup_cons→QQ,all_eq_true→QR,length_nil→QS,eraseIdx_eq_take_drop_succ→QT,length_replicate→QU,contains_cons→QW,mem_singleton→QX,length_set→QY,mem_of_getElem?→QZ,append_nil→Q1,replicate_succ→Q9,map_map→Ja,mem_append→Jd,length_range→Jg,mem_range→Jj,nil_append→Jk,pairwise_cons→Jm,append_assoc→Jr,getElem?_eq_none→Jw,length_drop→JC,mem_append_left→JG,filter_eq_self→JI,length_take→JJ,getElem?_cons_succ→JK,getElem_mem→JO,all_cons→JQ,mem_flatten→JV,range→Uc,replicate→Ud,Pairwise→Uo
open PySem.Heap renaming get?_push_of_some→Qe,lt_size→Qh,get?_update_other→Qj,get?_push_size→QE,get?_update_self→QI,size_push→JA
open Bool renaming and_eq_true→Qm,false_eq_true→Jl,or_true→JN,true_and→JW
open Nat renaming le_refl→Qq,le_trans→Qv,lt_of_lt_of_le→QG,ne_of_lt→QO,le_of_not_lt→Q5,le_succ→Jo,ne_of_gt→Jq,lt_irrefl→Jz,le_of_lt→JT
open Array renaming getD_eq_getD_getElem?→Q7,getElem?_eq_some_iff→Jc,getElem?_setIfInBounds_ne→Ju,getElem?_eq_getElem→JE,length_toList→JP
open Option.some renaming inj→Jb
open PySem.Obj renaming data_mapFields→Je,isFreed_of_fields→Jf
open PySem.W.Fast renaming te1987589406359920131→Jn
open PyProof.Rows renaming callWith_type1→Jp
open Int renaming toNat_natCast→Js,le_refl→JH,emod_lt_of_pos→JM,emod_nonneg→JS,not_lt→JY
open PySem.W renaming kia_one→Jt,callWith_K→JL
open Option renaming getD_some→JD
open Prod.mk renaming inj→JF
open Array.Perm renaming refl→JR
open PySem.PyData renaming list→Ue,bool→Uf,str→Ug,strOk→Uh,canLayAll0→Ui,depth→Uj,eqv→Uk,shown→Up
open PySem.PassesOwn renaming never→Ul
open PySem.Str renaming ofString→Um
abbrev AZ:=List JZ
abbrev A1:=Option JZ
abbrev A3:=List J7
abbrev A5:=List J5
abbrev A8:=Option J5
abbrev L3:=List (List A0)
abbrev LO:=List A7
abbrev LP:=List (Int×Int)
open PySem.W (Frag)
open PySem.PyData (int)
open List (replicate)
namespace DL
open PySem PySem.Spec PySem.W PyProof.Rows
def topRunT(tb:String->Option Builtin)(p:J4)(w:World)(m:Nat)(ann:A1):Nat->SharedT->Thread->Option SharedT
 |0,_,_=>AV
 |n+1,s,t=>match through t,stepOk m ann t with
  |true,_=>O s
  |false,AX=>AV
  |false,AW=>match stepT (denote tb) p w s t with
   |some x=>topRunT tb p w m ann n x.1 x.2
   |none=>AV
theorem Mw{tb:String->Option Builtin}{p:J4}{w:World}{m:Nat}{ann:A1}:∀{n:Nat}{s s':SharedT}{t:Thread},topRunT tb p w m ann n s t=O s'->topRun tb p w m ann n s.abs t=O s'.abs
 |0,_,_,_,h=>by cases h
 |n+1,s,s',t,h=>by
  rw[topRunT]at h;rw[topRun];cases ht:through t with
  |true=>rw[ht]at h;cases h;rfl
  |false=>
   rw[ht]at h;cases hk:stepOk m ann t with
   |false=>rw[hk]at h;cases h
   |true=>
    rw[hk]at h;dsimp only at h⊢;cases hs:stepT (denote tb) p w s t with
    |none=>rw[hs]at h;cases h
    |some x=>rw[hs]at h;rw[stepT_spec hs];exact Mw h
def btOf(l:List Obj):BT:=(l.foldl (λ(x:BT×Nat) o=>(x.1.ins x.2 o,x.2+1)) (.nil,0)).1
noncomputable def T0 (w:World) (os:OsState):SharedT:=⟨btOf (boot_heap w.params).objs.toList,11,(boot_heap w.params).life,#[],boot_drawn,boot_toks,os⟩
theorem CI(w:World)(os:OsState):(T0 w os).abs=⟨boot_heap w.params,#[],boot_drawn,boot_toks,os⟩:=by kernel_rfl
theorem BO(w:World):((boot_heap w.params).isNs mainGlobals&&(#[]:Array GenState).size==0,(boot_heap w.params).objs.size,(boot_heap w.params).nsMap mainGlobals "__annotations__")=(AW,11,O (.ref 6)):=by kernel_rfl
noncomputable abbrev L4 (p q:J4) (loose:List Str) (Xt:J0->Bool) (w:World) (t:SharedT):=
 ((staticsOk (importedModules p.main.body) (boot_heap w.params) t.abs.heap&&namesBound p t.abs.heap&&gensDone t.abs&&laidKept (boot_heap w.params) t.abs.heap),openSeen q loose (importedModules p.main.body) Xt AW t.abs)
abbrev VB0:AZ:=[.type "ValueError", .type "Exception", .type "BaseException", .type "object"]
def SQ:List Str:=["__setattr__", "__getattribute__", "__getattr__", "__class__", "part", "number", "row"]
def Wh(nm:Str):Str:=nm ++ "." ++ "__init__"
def xB(h:Heap)(nm:Str)(own:Bool):Bool:=match h.nsMap mainGlobals nm with
 |some (.ref C)=>(match h.get? C with
  |some ⟨.type t,_,.cls cd,sl⟩=>(t == "type")&&(cd.name==nm)&&cd.hasDict && !cd.hasDel&&(match sl.toList with | [_,_,_,_,k4,_]=>decide (k4=O (.builtin "ValueError.__new__"))|_=>AX)&&h.isNs cd.ns&&(SQ.all λx=>(h.nsMap cd.ns x).isNone)&&(own || (h.nsMap cd.ns "__init__").isNone) &&
   (if nm = "DealError" then decide (cd.mro=.ref C::VB0)else match h.nsMap mainGlobals "DealError" with|some (.ref D)=>decide (cd.mro=.ref C::.ref D::VB0)|_=>AX)
  |_=>AX)
 |_=>AX
def xSh(h:Heap)(nm:Str):Option (Bool×FnShape):=match h.nsMap mainGlobals nm with
 |some (.ref C)=>(match h.get? C with
  |some ⟨_,_,.cls cd,_⟩=>(match h.fnAt cd.ns "__init__", h.shapeAt cd.ns "__init__" with|some (_,o,_),O sh=>O (decide (o.cls=.type "function"),sh)|_,_=>AV)
  |_=>AV)
 |_=>AV
def ZQ(st:Stmt):Stmt:=match st with
 |.ClassDef _ _ _ (m::_) _ _ _ _ _ _ _=>m
 |_=>.Pass ⟨0,0,0,0⟩
def Pi(s:Stmt):Arguments:=match s with
 |.FunctionDef _ a _ _ _ _ _ _ _ _=>a
 |_=>default
def Ph(s:Stmt):List Stmt:=match s with
 |.FunctionDef _ _ b _ _ _ _ _ _ _=>b
 |_=>[]
def Pj(s:Stmt):Scope:=match s with
 |.FunctionDef _ _ _ _ _ _ sc _ _ _=>sc
 |_=>{kind:=.function,names:=[],isGenerator:=AX,isCoroutine:=AX}
def WR(nm:Str)(st:Stmt):FnShape:=⟨"__init__", Wh nm,Pi st,.stmts (Ph st),Pj st,mainGlobals,[],.none,.none,AV,.none,builtinsNs,AW⟩
abbrev XL0:=List (Str×Option Nat)
def xSeen(l:XL0)(s:J0):Bool×List (Bool×Option (Bool×FnShape)):=(s.heap.isNs cStatics&&(s.heap.nsMap cStatics "thirdparty.any").isNone,l.map λc=>(xB s.heap c.1 c.2.isSome,if c.2.isSome then xSh s.heap c.1 else AV))
def xGood(p:J4)(l:XL0):Bool×List (Bool×Option (Bool×FnShape)):=(AW,l.map λc=>(AW,c.2.map λi=>(AW,WR c.1 (ZQ (p.main.body.getD i (.Pass ⟨0,0,0,0⟩))))))
theorem CH{α:Type}{Yf:J0->α}{Ya:World->α}{p q:J4}{loose:List Str}{Xt:J0->Bool}{N M:Nat}(e:opening p=plainProg p.main.scope.names)(hN:Nat.ble 600 N=AW)(f:∀s,fenceModules? p s=O s)(le:Nat.ble M N=AW)
  (run:∀(w:World)(os:OsState),(topRunT treeTable p w 11 (O (.ref 6)) M (T0 w os) (topStub p)).map (λt=>(L4 p q loose Xt w t,Yf t.abs))=O ((AW,openGood q loose),Ya w)):LeftO p q loose Xt Yf Ya N:=λw=>by
 obtain⟨⟨h,gs,d,k,os⟩,e0,e'⟩:=Option.map_eq_some_iff.mp (boot_open e hN f w);have e':(h,gs,d,k)=(boot_heap w.params,#[],boot_drawn,boot_toks):=e';obtain⟨rfl,rfl,rfl,rfl⟩:h=boot_heap w.params/\gs=#[]/\d=boot_drawn/\k=boot_toks:=by simpa only[Prod.mk.injEq]using e'
 obtain⟨t,ht,l⟩:=Option.map_eq_some_iff.mp (run w os);have hr:=Mw ht;rw[CI]at hr;have r:=topRun_mono (N-M) _ _ _ _ hr;rw[show M+(N-M)=N by have:=Nat.le_of_ble_eq_true le;lia]at r;obtain⟨l0,l3⟩:=JF l;obtain⟨l1,l2⟩:=JF l0;have z:=BO w;obtain⟨z1,z2,z3⟩:_/\_/\_:=by simpa only[Prod.mk.injEq]using z
 have tf:topFrom treeTable p w N ⟨boot_heap w.params,#[],boot_drawn,boot_toks,os⟩=O t.abs:=by
  unfold topFrom;dsimp only;rw[z1,z2,z3,r]
  show(match staticsOk (importedModules p.main.body) (boot_heap w.params) t.abs.heap&&namesBound p t.abs.heap&&gensDone t.abs&&laidKept (boot_heap w.params) t.abs.heap with|true=>O t.abs|false=>AV)=_
  rw[l1]
 unfold openEnds;rw[e0]
 show(topFrom treeTable p w N _).map _=_
 rw[tf];exact JX O (Prod.ext l2 l3)
def YQ(e:DictEntry):Int×Option Str×A7:=(e.hash,match e.key with | .str x _=>O x|_=>AV,match e.val with | .int i _=>O i|_=>AV)
def Vq(nm:Str)(h:Heap):Option (Bool×List (Int×Option Str×A7)):=match h.nsMap mainGlobals nm with
 |some (.ref a)=>(match h.get? a with
  |some ⟨.type t,AV,.dict es _,sl⟩=>O ((t == "dict")&&(sl.size==0)&&(a != sysModules)&&h.isNs mainGlobals,es.toList.map YQ)
  |_=>AV)
 |_=>AV
def Vp(w:World)(D:List (Str×Int)):Option (Bool×List (Int×Option Str×A7)):=O (AW,D.map λp=>(hashStr w p.1,O p.1,O p.2))
end DL
open PySem in
lay_quick PySem.Challenge.pw_wishdeal_k72_dealings_carried DL.topRunT PySem.W.openGood PySem.W.staticsOk PySem.W.namesBound PySem.W.laidKept PySem.W.xlAt DL.xSeen DL.xGood
namespace W
open PySem PySem.Spec DL
noncomputable abbrev p0:J4:=PySem.Challenge.pw_wishdeal_k72_dealings_carried
noncomputable def Z3:qa:=[1,2,3,4,6,7,9,10,11,12,13,14,15,16,17,18,20,21,22,23,24,26,27,28,29,30,31,32,33,34,35,36,37,38,39,40]
noncomputable def ixL:qa:=[6,7,13,14,15,16,17,18,21,22,23,24,26,27,28,29,30,31,32,33,34,35,36,37,38,39,40]
noncomputable abbrev q0:J4:=PySem.W.view p0 Z3
noncomputable def clsL:XL0:=[("DealError", O 1),("NoWishes", O 2),("NoAim", O 3),("NoChange", AV)]
theorem Fb:∀(w:World)(os:OsState),(PySem.W.Fast.tw10708255244068714335 PySem.W.Fast.tw14364793385576792824 PySem.W.Fast.tw13829913097979612202 (w.withFollow "special-get-raises" true) 11 (O (.ref 6)) 1996 (T0 (w.withFollow "special-get-raises" true) os) (PySem.W.topStub PySem.W.Fast.tw13829913097979612202)).map (λt=>(((PySem.W.Fast.tw13471830651028734593 (PySem.W.Fast.tw5923862056798008813 (Program.main PySem.W.Fast.tw13829913097979612202).body) (PySem.W.boot_heap (w.withFollow "special-get-raises" true).params) t.abs.heap&&PySem.W.Fast.tw4683006035507612052 PySem.W.Fast.tw13829913097979612202 t.abs.heap&&PySem.W.gensDone t.abs&&PySem.W.Fast.tw16898566250750103049 (PySem.W.boot_heap (w.withFollow "special-get-raises" true).params) t.abs.heap),PySem.W.Fast.tw4187177175401517315 (PySem.W.view PySem.W.Fast.tw13829913097979612202 Z3) ["SIZES"] (PySem.W.Fast.tw5923862056798008813 (Program.main PySem.W.Fast.tw13829913097979612202).body) (λs=>PySem.W.Fast.tw4757257242682413121 (PySem.W.view PySem.W.Fast.tw13829913097979612202 Z3) [] s&&PySem.W.recOk [] s) AW t.abs),(PySem.W.Fast.tw11121216462471823999 clsL t.abs,Vq "SIZES" t.abs.heap)))=O ((AW,PySem.W.Fast.tw3486900944545009338 (PySem.W.view PySem.W.Fast.tw13829913097979612202 Z3) ["SIZES"]),(PySem.W.Fast.tw18030470931243306169 PySem.W.Fast.tw13829913097979612202 clsL,Vp (w.withFollow "special-get-raises" true) [("list", 3),("copies", 3),("come", 2),("go", 2),("thing", 2)])):=by intro w os;kernel_rfl
theorem Fa:∀(w:World)(os:OsState),(PySem.W.Fast.tw10708255244068714335 PySem.W.Fast.tw14364793385576792824 PySem.W.Fast.tw13829913097979612202 (w.withFollow "special-get-raises" false) 11 (O (.ref 6)) 1996 (T0 (w.withFollow "special-get-raises" false) os) (PySem.W.topStub PySem.W.Fast.tw13829913097979612202)).map (λt=>(((PySem.W.Fast.tw13471830651028734593 (PySem.W.Fast.tw5923862056798008813 (Program.main PySem.W.Fast.tw13829913097979612202).body) (PySem.W.boot_heap (w.withFollow "special-get-raises" false).params) t.abs.heap&&PySem.W.Fast.tw4683006035507612052 PySem.W.Fast.tw13829913097979612202 t.abs.heap&&PySem.W.gensDone t.abs&&PySem.W.Fast.tw16898566250750103049 (PySem.W.boot_heap (w.withFollow "special-get-raises" false).params) t.abs.heap),PySem.W.Fast.tw4187177175401517315 (PySem.W.view PySem.W.Fast.tw13829913097979612202 Z3) ["SIZES"] (PySem.W.Fast.tw5923862056798008813 (Program.main PySem.W.Fast.tw13829913097979612202).body) (λs=>PySem.W.Fast.tw4757257242682413121 (PySem.W.view PySem.W.Fast.tw13829913097979612202 Z3) [] s&&PySem.W.recOk [] s) AW t.abs),(PySem.W.Fast.tw11121216462471823999 clsL t.abs,Vq "SIZES" t.abs.heap)))=O ((AW,PySem.W.Fast.tw3486900944545009338 (PySem.W.view PySem.W.Fast.tw13829913097979612202 Z3) ["SIZES"]),(PySem.W.Fast.tw18030470931243306169 PySem.W.Fast.tw13829913097979612202 clsL,Vp (w.withFollow "special-get-raises" false) [("list", 3),("copies", 3),("come", 2),("go", 2),("thing", 2)])):=by intro w os;kernel_rfl
theorem L1:PySem.W.LeftO p0 q0 ["SIZES"] (λs=>PySem.W.xlAt q0 [] s&&PySem.W.recOk [] s) (λs=>(xSeen clsL s,Vq "SIZES" s.heap)) (λw=>(xGood p0 clsL,Vp w [("list", 3),("copies", 3),("come", 2),("go", 2),("thing", 2)])) 3892:=by
 refine CH (M:=1996) (by kernel_rfl) AU (λs=>by kernel_rfl) AU λw os=>?_
 cases e:w.params.followText "special-get-raises" with
 |true=>
  have hw:w.withFollow "special-get-raises" true=w:=by rw[←e,PySem.World.withFollow_self]
  have h:=Fb w os;rw[←PySem.W.Fast.te10708255244068714335,←PySem.W.Fast.te14364793385576792824,←PySem.W.Fast.te4187177175401517315,←PySem.W.Fast.te5923862056798008813,←PySem.W.Fast.te13471830651028734593,←PySem.W.Fast.te4683006035507612052,←PySem.W.Fast.te16898566250750103049,←PySem.W.Fast.te4757257242682413121,←PySem.W.Fast.te3486900944545009338,←PySem.W.Fast.te11121216462471823999,←PySem.W.Fast.te18030470931243306169,←PySem.W.Fast.te13829913097979612202,hw]at h;exact h
 |false=>
  have hw:w.withFollow "special-get-raises" false=w:=by rw[←e,PySem.World.withFollow_self]
  have h:=Fa w os;rw[←PySem.W.Fast.te10708255244068714335,←PySem.W.Fast.te14364793385576792824,←PySem.W.Fast.te4187177175401517315,←PySem.W.Fast.te5923862056798008813,←PySem.W.Fast.te13471830651028734593,←PySem.W.Fast.te4683006035507612052,←PySem.W.Fast.te16898566250750103049,←PySem.W.Fast.te4757257242682413121,←PySem.W.Fast.te3486900944545009338,←PySem.W.Fast.te11121216462471823999,←PySem.W.Fast.te18030470931243306169,←PySem.W.Fast.te13829913097979612202,hw]at h;exact h
end W
namespace L2
open PySem PySem.Spec PyProof.Rows
abbrev Key:=Sum Int Str
abbrev qb:=List Key
noncomputable def Wr:Key->JZ->Bool
 |.inl k,v=>Value.isInt k v
 |.inr x,v=>Value.isStrOf x v
noncomputable def keyH(w:World):Key->Int
 |.inl k=>hashInt k
 |.inr x=>hashStr w x
theorem Xe:∀{k:Key}{v:JZ},Wr k v=AW->(∃i t,k=Sum.inl i/\v=Value.int i t)∨(∃x t,k=Sum.inr x/\v=Value.str x t)
 |.inl i,v,h=>by obtain⟨t,e⟩:=Value.isInt_shape (k:=i) (v:=v) h;exact .inl ⟨i,t,rfl,e⟩
 |.inr x,v,h=>by obtain⟨t,e⟩:=Value.isStrOf_shape (x:=x) (v:=v) h;exact .inr ⟨x,t,rfl,e⟩
theorem BN(i:Int)(t:Tok):Wr (.inl i) (.int i t)=AW:=by simp[Wr,Value.isInt]
theorem BM(x:Str)(t:Tok):Wr (.inr x) (.str x t)=AW:=by simp[Wr,Value.isStrOf]
theorem GZ(a b:Int):decide ((Sum.inl a:Key)=Sum.inl b)=(a==b):=by
 by_cases e:a=b
 .subst e;simp
 .have h:¬(Sum.inl a:Key)=Sum.inl b:=λq=>e (Sum.inl.inj q)
  rw[QC h];exact(beq_eq_false_iff_ne.mpr e).symm
theorem GY(a b:Str):decide ((Sum.inr a:Key)=Sum.inr b)=decide (a=b):=by
 by_cases e:a=b
 .subst e;simp
 .have h:¬(Sum.inr a:Key)=Sum.inr b:=λq=>e (Sum.inr.inj q)
  rw[QC h,QC e]
theorem GX(a:Int)(b:Str):decide ((Sum.inl a:Key)=Sum.inr b)=AX:=QC (λq=>nomatch q)
theorem FF(a:Str)(b:Int):decide ((Sum.inr a:Key)=Sum.inl b)=AX:=QC (λq=>nomatch q)
noncomputable def Z7(prog:J4)(w:World):PySem.KeyKind prog w Key where
 is:=Wr
 hash:=keyH w
 inj:=λv a b ha hb=>by
  rcases Xe ha with ⟨i,t,rfl,rfl⟩|⟨x,t,rfl,rfl⟩
  .rcases Xe hb with ⟨j,u,rfl,e⟩|⟨y,u,rfl,e⟩
   .injection e with e1 _;rw[e1]
   .exact nomatch e
  .rcases Xe hb with ⟨j,u,rfl,e⟩|⟨y,u,rfl,e⟩
   .exact nomatch e
   .injection e with e1 _;rw[e1]
 byValue:=λk v h=>by rcases Xe h with ⟨i,t,rfl,rfl⟩|⟨x,t,rfl,rfl⟩<;>rfl
 pyHash:=λhv h=>by
  rcases Xe hv with ⟨i,t,rfl,rfl⟩|⟨x,t,rfl,rfl⟩
  .exact wpAny_pyHash_int h
  .exact wpAny_pyHash_str h
 eqBool:=λhu hv h=>by
  rcases Xe hu with ⟨i,t,rfl,rfl⟩|⟨x,t,rfl,rfl⟩
  .rcases Xe hv with ⟨j,u,rfl,rfl⟩|⟨y,u,rfl,rfl⟩
   .rw[GZ]at h;exact wpAny_eqBool_int h
   .rw[GX]at h;exact SeqAt.EqAt.int_str i t y u _ _ _ _ h
  .rcases Xe hv with ⟨j,u,rfl,rfl⟩|⟨y,u,rfl,rfl⟩
   .rw[FF]at h;exact SeqAt.EqAt.str_int x t j u _ _ _ _ h
   .rw[GY]at h;exact wpAny_eqBool_str h
 «strs»:=λk x t v h=>by
  rcases Xe h with ⟨i,u,rfl,e⟩|⟨y,u,rfl,e⟩
  .exact nomatch e
  .injection e with e1 _
   subst e1;cases v<;>rfl
theorem Ag(prog:J4)(w:World)(i:Int)(t:Tok):(Z7 prog w).is (.inl i) (.int i t)=AW:=BN i t
theorem RJ(prog:J4)(w:World)(x:Str)(t:Tok):(Z7 prog w).is (.inr x) (.str x t)=AW:=BM x t
inductive V where
 |non|bl (b:Bool)|int (i:Int)|str (x:Str)|byt (b:Array UInt8)|flt (b:UInt64)|ref (a:J5)|ty (n:String)
 deriving DecidableEq
noncomputable def RelV:V->JZ->Prop
 |.non,u=>u=Value.none
 |.bl b,u=>u=Value.bool b
 |.int i,u=>∃t,u=Value.int i t
 |.str x,u=>∃t,u=Value.str x t
 |.byt b,u=>∃t,u=Value.bytes b t
 |.flt b,u=>∃t,u=Value.float b t
 |.ref a,u=>u=Value.ref a
 |.ty n,u=>u=Value.type n
noncomputable abbrev Vals:List V->AZ->Prop:=Paired RelV
theorem Vals.length{xs:List V}{us:AZ}(r:Vals xs us):xs.length=us.length:=Paired.length r
theorem Vals.get:∀{xs:List V}{us:AZ}{i:Nat}{x:V},Vals xs us->xs[i]?=O x->∃u,us[i]?=O u/\RelV x u
 |_,_,_,_,.nil,e=>by simp at e
 |_,_,0,_,.cons r _,e=>by simp at e;subst e;exact⟨_,rfl,r⟩
 |_,_,i+1,x,.cons _ t,e=>by obtain⟨u,h1,h2⟩:=Vals.get (i:=i) (x:=x) t (by simpa using e);exact⟨u,by simpa using h1,h2⟩
theorem Vals.set{x:V}{u:JZ}(r:RelV x u):∀{xs:List V}{us:AZ}(i:Nat),Vals xs us->Vals (xs.set i x) (us.set i u)
 |_,_,_,.nil=>.nil
 |_,_,0,.cons _ t=>.cons r t
 |_,_,i+1,.cons q t=>.cons q (Vals.set r i t)
theorem Vals.append:∀{xs ys:List V}{us ws:AZ},Vals xs us->Vals ys ws->Vals (xs++ys) (us++ws)
 |_,_,_,_,.nil,s=>s
 |_,_,_,_,.cons r t,s=>.cons r (Vals.append t s)
theorem Vals.take:∀{xs:List V}{us:AZ}(n:Nat),Vals xs us->Vals (xs.take n) (us.take n)
 |_,_,0,_=>.nil
 |_,_,_+1,.nil=>.nil
 |_,_,n+1,.cons r t=>.cons r (Vals.take n t)
theorem Vals.drop:∀{xs:List V}{us:AZ}(n:Nat),Vals xs us->Vals (xs.drop n) (us.drop n)
 |_,_,0,r=>r
 |_,_,_+1,.nil=>.nil
 |_,_,n+1,.cons _ t=>Vals.drop n t
noncomputable def RelO:Option V->A1->Prop
 |some v,O u=>RelV v u
 |none,AV=>True
 |_,_=>False
noncomputable def KV{κ:Type}:List (κ×V)->List (κ×JZ)->Prop:=Paired λ(p:κ×V) (q:κ×JZ)=>p.1=q.1/\RelV p.2 q.2
noncomputable def kV:Key->V
 |.inl i=>.int i
 |.inr x=>.str x
inductive HO where
  |lst (xs:List V)
  |tup (xs:List V)
  |dK (kvs:List (Key×V))|dT (kvs:List (qb×V))
  |set (S:Int->Bool) (n:Nat)
  |ins (C dx:J5) (fs:List (Str×V))
  |own (x:J5)
  |xd (fs:List (Str×V))
  |met (f x:J5)
  |rng (lo hi:Int)
  |frz (o:Obj) (u:HO)
  |tbl (ps:Array JZ)
  |ext (φ:Heap->Prop)
abbrev Hp:=J5->Option HO
noncomputable def upd(H:Hp)(a:J5)(o:HO):Hp:=λb=>if b=a then O o else H b
theorem U8{H:Hp}{a:J5}{o:HO}:upd H a o a=O o:=by unfold upd;rw[Qn AU]
theorem UZ{H:Hp}{a b:J5}{o:HO}(h:b≠a):upd H a o b=H b:=by unfold upd;rw[QD h]
theorem Oy{H:Hp}{a:J5}{o u:HO}:upd (upd H a o) a u=upd H a u:=by funext b;unfold upd;split<;>rfl
theorem Z9{H:Hp}{a b:J5}{o:HO}(h:H a=O o)(h':H b=AV):a≠b:=by intro e;subst e;rw[h]at h';cases h'
section
variable(P:J4)(w:World)
noncomputable def KY(H:Hp)(h:Heap)(a:J5):HO->Prop
 |.lst xs=>xs.length<=J8/\∃(its:AZ)(n:Nat),Vals xs its/\h.get? a=O {cls:=.type "list", data:=.seq its.toArray n}
 |.tup xs=>xs.length<=J8/\∃its:AZ,Vals xs its/\IsTup h a its.toArray
 |.dK kvs=>kvs.length<=J8/\(a==sysModules)=AX/\∃vs,KV kvs vs/\h.DictOf (Z7 P w) a vs
 |.dT kvs=>kvs.length<=J8/\(a==sysModules)=AX/\∃xs:List (qb×J5×JZ),
   Paired (λ(p:qb×V) (q:qb×J5×JZ)=>p.1=q.1/\H q.2.1=O (.tup (p.1.map kV))/\RelV p.2 q.2.2) kvs xs /\
   ∃o es ep,h.get? a=O o/\o.ExactDict/\o.data=.dict es ep/\es.toList=xs.map (entryOfKey (tupleKind (Z7 P w)))/\(xs.map (·.1)).Nodup
 |.set S n=>h.SetOf (intKind P w) a S n
 |.ins C dx fs=>H dx=O (.own a)/\fs.length<=1000/\dx≠a/\h.get? a=O (PySem.W.instObj C dx) /\
   ∃mA,h.Ns1 dx mA/\(∀f,RelO (fs.lookup f) (mA f))/\PySem.Within mA (fs.map (·.1))
 |.own _=>∃o,h.get? a=O o
 |.xd fs=>∃mA,h.Ns1 a mA/\∀f,RelO (fs.lookup f) (mA f)
 |.rng lo hi=>∃t u v,h.get? a=O {cls:=.type "range", data:=.fields #[.int lo t,.int hi u,.int 1 v]}
 |.frz o u=>h.get? a=O o/\KY H h a u
 |.tbl ps=>h.get? a=O {cls:=.none,data:=.fields ps}
 |.met f x=>h.get? a=O (PySem.W.methodObj (.ref f) (.ref x))
 |.ext φ=>φ h/\(∃o,h.get? a=O o)/\∀h1 h2:Heap,φ h1->(∀o,h1.get? a=O o->h2.get? a=O o)->φ h2
def HOk(H:Hp)(h:Heap):Prop:=∀a o,H a=O o->KY P w H h a o
end
section
variable{P:J4}{w:World}{H H':Hp}{h h':Heap}{a:J5}{o:HO}
theorem KY.lt(x:KY P w H h a o):a<h.objs.size:=by
 cases o with
 |lst xs=>obtain⟨_,_,_,_,e⟩:=x;exact Qh e
 |tup xs=>obtain⟨_,_,_,p⟩:=x;exact p.lt
 |dK kvs=>obtain⟨_,_,_,_,o,_,_,e,_⟩:=x;exact Qh e
 |dT kvs=>obtain⟨_,_,_,_,o,_,_,e,_⟩:=x;exact Qh e
 |set S n=>obtain⟨o,_,_,_,e,_⟩:=x;exact Qh e
 |ins C dx fs=>obtain⟨_,_,_,e,_⟩:=x;exact Qh e
 |own y=>obtain⟨_,e⟩:=x;exact Qh e
 |xd fs=>obtain⟨_,⟨_,_,_,e,_⟩,_⟩:=x;exact Qh e
 |rng lo hi=>obtain⟨_,_,_,e⟩:=x;exact Qh e
 |frz ob u=>obtain⟨e,_⟩:=x;exact Qh e
 |tbl ps=>exact Qh (show h.get? a=O _ from x)
 |met f y=>exact Qh (show h.get? a=O _ from x)
 |ext φ=>obtain⟨_,⟨_,e⟩,_⟩:=x;exact Qh e
theorem Paired.mapP{α β:Type}{F G:α->β->Prop}:∀{l₁:List α}{l₂:List β},Paired F l₁ l₂->(∀a b,F a b->G a b)->Paired G l₁ l₂
 |_,_,.nil,_=>.nil
 |_,_,.cons r t,f=>.cons (f _ _ r) (Paired.mapP t f)
theorem KY.stay(x:KY P w H h a o)(k:∀b u,(b=a∨H b=O (.own a))->h.get? b=O u->h'.get? b=O u)
  (ho:∀b,H b=O (.own a)->H' b=O (.own a)) (ht:∀b xs,H b=O (.tup xs)->H' b=O (.tup xs)):KY P w H' h' a o:=by
 induction o with
 |lst xs=>obtain⟨z,its,n,r,e⟩:=x;exact⟨z,its,n,r,k _ _ (.inl AU) e⟩
 |tup xs=>obtain⟨z,its,r,ob,e,c⟩:=x;exact⟨z,its,r,ob,k _ _ (.inl AU) e,c⟩
 |dK kvs=>obtain⟨z,y,vs,r,ob,es,ep,e,c⟩:=x;exact⟨z,y,vs,r,ob,es,ep,k _ _ (.inl AU) e,c⟩
 |dT kvs=>obtain⟨z,y,xs,r,ob,es,ep,e,c⟩:=x;exact⟨z,y,xs,Paired.mapP r λp q z=>⟨z.1,ht _ _ z.2.1,z.2.2⟩,ob,es,ep,k _ _ (.inl AU) e,c⟩
 |set S n=>obtain⟨ob,es,ep,t,e,c⟩:=x;exact⟨ob,es,ep,t,k _ _ (.inl AU) e,c⟩
 |ins C dx fs=>obtain⟨d,z,ne,e,mA,⟨od,es,ep,e2,c⟩,r⟩:=x;exact⟨ho _ d,z,ne,k _ _ (.inl AU) e,mA,⟨od,es,ep,k _ _ (.inr d) e2,c⟩,r⟩
 |own y=>obtain⟨ob,e⟩:=x;exact⟨ob,k _ _ (.inl AU) e⟩
 |xd fs=>obtain⟨mA,⟨od,es,ep,e,c⟩,r⟩:=x;exact⟨mA,⟨od,es,ep,k _ _ (.inl AU) e,c⟩,r⟩
 |rng lo hi=>obtain⟨t,u,v,e⟩:=x;exact⟨t,u,v,k _ _ (.inl AU) e⟩
 |frz ob u ih=>obtain⟨e,q⟩:=x;exact⟨k _ _ (.inl AU) e,ih q⟩
 |tbl ps=>have e:h.get? a=O {cls:=.none,data:=.fields ps}:=x;show h'.get? a=O {cls:=.none,data:=.fields ps};exact k a _ (.inl AU) e
 |met f y=>have e:h.get? a=O (PySem.W.methodObj (.ref f) (.ref y)):=x;show h'.get? a=O (PySem.W.methodObj (.ref f) (.ref y));exact k a _ (.inl AU) e
 |ext φ=>obtain⟨p,⟨o,e⟩,st⟩:=x;exact⟨st _ _ p λo q=>k _ _ (.inl AU) q,⟨o,k _ _ (.inl AU) e⟩,st⟩
theorem HOk.lt(x:HOk P w H h)(e:H a=O o):a<h.objs.size:=(x a o e).lt
theorem HOk.fresh(x:HOk P w H h)(e:h.objs.size<=a):H a=AV:=by
 cases q:H a with
 |none=>rfl
 |some u=>exact absurd (QG (x.lt q) e) (Jz _)
theorem HOk.kept(x:HOk P w H h)(k:∀b u,h.get? b=O u->h'.get? b=O u):HOk P w H h':=λa o e=>
 (x a o e).stay (λb u _ q=>k b u q) (λ_ q=>q) λ_ _ q=>q
theorem HOk.laid(x:HOk P w H h)(k:∀b u,h.get? b=O u->h'.get? b=O u)(hp:h.objs.size<=a)(new:KY P w (upd H a o) h' a o):HOk P w (upd H a o) h':=λb u e=>by
 have hn:=x.fresh hp;by_cases hb:b=a
 .subst hb;rw[U8]at e;cases e;exact new
 .rw[UZ hb]at e
  exact(x b u e).stay (λc v _ q=>k c v q) (λc q=>by rw[UZ (Z9 q hn)];exact q) λc xs q=>by rw[UZ (Z9 q hn)];exact q
end
def Rd(H:Hp)(a:J5)(u:HO):Prop:=H a=O u ∨ ∃o,H a=O (.frz o u)
theorem Rd.ok{P:J4}{w:World}{H:Hp}{h:Heap}{a:J5}{u:HO}(r:Rd H a u)(x:HOk P w H h):KY P w H h a u:=by
 rcases r with r|⟨o,r⟩
 .exact x a u r
 .obtain⟨_,q⟩:=x a _ r
  exact q
noncomputable def Mut:Option HO->Prop
 |some (.lst _)=>True
 |some (.dK _)=>True
 |some (.dT _)=>True
 |some (.set _ _)=>True
 |some (.ins _ _ _)=>True
 |some (.ext _)=>True
 |_=>False
section
variable{P:J4}{w:World}{H:Hp}{h h':Heap}{x e:J5}{o':HO}
theorem HOk.write(ok:HOk P w H h)(mu:Mut (H x))(he:e=x∨H e=O (.own x))(k:∀b u,b≠e->h.get? b=O u->h'.get? b=O u)(jr:∃u,h'.get? e=O u)
  (new:KY P w (upd H x o') h' x o'):HOk P w (upd H x o') h':=λb u q=>by
 have nown:∀c y,H c=O (.own y)->c≠x:=λc y r z=>by subst z;rw[r]at mu;exact mu
 have ntup:∀c xs,H c=O (.tup xs)->c≠x:=λc xs r z=>by subst z;rw[r]at mu;exact mu
 by_cases hb:b=x
 .subst hb;rw[U8]at q;cases q;exact new
 .rw[UZ hb]at q
  by_cases qA:b=e
  .have q':H b=O (.own x):=by
    rcases he with z|z
    .exact absurd (qA.trans z) hb
    .rw[qA];exact z
   rw[q]at q';cases q';obtain⟨v,hv⟩:=jr;exact⟨v,by rw[qA];exact hv⟩
  .refine(ok b u q).stay (λc v hc r=>k c v ?_ r) (λc r=>by rw[UZ (nown c b r)];exact r) λc xs r=>by rw[UZ (ntup c xs r)];exact r
   rcases hc with rfl|hc
   .exact qA
   .rintro rfl
    rcases he with z|z
    .exact nown c b hc z
    .rw[hc]at z;cases z;exact hb AU
end
structure Un(fs ex:A5)(H H':Hp)(h h':Heap):Prop where
 keep:∀b o,h.get? b=O o->H b=AV->b∉fs->b∉ex->h'.get? b=O o
 slot:∀b o,h.get? b=O o->H b=AV->b∈fs->b∉ex->∃sl,h'.get? b=O {o with slots:=sl}
 free:∀b o,h.get? b=O o->H b=AV->b∉ex->H' b=AV
 there:∀b o,h.get? b=O o->b∉ex->∃o',h'.get? b=O o'
 tups:∀b xs,H b=O (.tup xs)->H' b=O (.tup xs)
 frzs:∀b o u,H b=O (.frz o u)->H' b=O (.frz o u)
 tbls:∀b ps,H b=O (.tbl ps)->∃more,H' b=O (.tbl (ps++more))
section
variable{fs fs' ex ex':A5}{H H1 H2:Hp}{h h1 h2 h':Heap}{a x e:J5}{o:HO}
theorem Un.any(u:Un fs ex H H1 h h1){b:J5}{ob:Obj}(q:h.get? b=O ob)(n:H b=AV)(hx:b∉ex):∃sl,h1.get? b=O {ob with slots:=sl}:=by
 by_cases hb:b∈fs
 .exact u.slot b ob q n hb hx
 .exact⟨ob.slots,u.keep b ob q n hb hx⟩
theorem Un.kept(k:∀b u,h.get? b=O u->h'.get? b=O u):Un fs ex H H h h':=
 ⟨λb ob q _ _ _=>k b ob q,λb ob q _ _ _=>⟨ob.slots,k b ob q⟩,λ_ _ _ n _=>n,λb ob q _=>⟨ob,k b ob q⟩,λ_ _ q=>q,λ_ _ _ q=>q,λ_ ps q=>⟨#[],by rw[q];simp⟩⟩
theorem Un.refl:Un fs ex H H h h:=Un.kept λ_ _ q=>q
theorem Un.laid(k:∀b u,h.get? b=O u->h'.get? b=O u)(hp:h.objs.size<=a)(hn:H a=AV):Un fs ex H (upd H a o) h h' where
 keep:=λb u q _ _ _=>k b u q
 slot:=λb u q _ _ _=>⟨u.slots,k b u q⟩
 free:=λb u q n _=>by rw[UZ (QO (QG (Qh q) hp))];exact n
 there:=λb u q _=>⟨u,k b u q⟩
 tups:=λb xs q=>by rw[UZ (Z9 q hn)];exact q
 frzs:=λb u xs q=>by rw[UZ (Z9 q hn)];exact q
 tbls:=λb ps q=>⟨#[],by rw[UZ (Z9 q hn),q];simp⟩
theorem Un.write(mu:Mut (H x))(he:e=x∨H e=O (.own x))(k:∀b u,b≠e->h.get? b=O u->h'.get? b=O u)(jr:∃u,h'.get? e=O u):Un fs ex H (upd H x o) h h':=by
 have hx:∀b,H b=AV->b≠x:=λb n z=>by subst z;rw[n]at mu;exact mu
 have hb:∀b,H b=AV->b≠e:=λb n z=>by
  subst z;rcases he with r|r
  .exact hx b n r
  .rw[n]at r;cases r
 have hm:∀b u,H b=O u->¬Mut (O u)->b≠x:=λb u q nm z=>by subst z;rw[q]at mu;exact nm mu
 refine⟨λb u q n _ _=>k b u (hb b n) q,λb u q n _ _=>⟨u.slots,k b u (hb b n) q⟩,λb u q n _=>by rw[UZ (hx b n)];exact n,λb u q _=>?_,
  λb xs q=>by rw[UZ (hm b _ q λz=>z)];exact q,λb u xs q=>by rw[UZ (hm b _ q λz=>z)];exact q,λb ps q=>⟨#[],by rw[UZ (hm b _ q λz=>z),q];simp⟩⟩
 by_cases qA:b=e
 .subst qA;exact jr
 .exact⟨u,k b u qA q⟩
end
noncomputable def trk(h:Heap)(H:Hp):A5:=(Uc h.objs.size).filter λa=>(H a).isSome
noncomputable def Zr(h:Heap)(H:Hp):Heap:=PySem.W.hideAll h (trk h H)
theorem BL(h:Heap)(H:Hp):(Zr h H).objs.size=h.objs.size:=PySem.W.hideAll_size _ _
theorem CG{h:Heap}{H:Hp}{b:J5}{o:Obj}(e:h.get? b=O o)(n:H b=AV):(Zr h H).get? b=O o:=
 PySem.W.hideAll_get _ e λhm=>by have q:(H b).isSome=AW:=(List.mem_filter.mp hm).2;rw[n]at q;simp at q
theorem Db{h:Heap}{H:Hp}{b:J5}{o:Obj}(e:(Zr h H).get? b=O o):h.get? b=O o/\H b=AV:=by
 have e':h.get? b=O o:=PySem.W.of_hideAll (trk h H) e;refine⟨e',?_⟩;cases q:H b with
 |none=>rfl
 |some x=>have hm:b∈trk h H:=List.mem_filter.mpr ⟨List.mem_range.mpr (Heap.lt_size e'),by simp[q]⟩;have z:(Zr h H).get? b=AV:=PySem.W.hideAll_none (trk h H) hm;rw[z]at e;cases e
structure Mod(K:Frag)(mg:Str->A1)(base:Heap):Prop where
 kin:K.In base
 glob:base.Ns mainGlobals mg
 blt:∃mb,base.Ns builtinsNs mb/\∀x:Str,x ≠ "__name__" -> mb x=bootBuiltins x
 nolimit:base.NoLimit
structure Cx where
 prog:J4
 w:World
 K:Frag
 mg:Str->A1
 base:Heap
 A:Around
 N:List Str
 s₀:J0
 H₀:Hp
 env:Env
 outer:List Env
 stack:List Env
 ex:A5
 fn:Str->Bool
 calm:Bool
 pn:List (J5×Obj)
 xe:JZ->J0->Prop
noncomputable def frs(l:List Env):A5:=l.filterMap (·.frame)
noncomputable abbrev Cx.fs(X:Cx):A5:=frs X.outer
def Vis(sc:Scope)(x:Str):Prop:=sc.names.lookup x=O .local∨sc.names.lookup x=O .cell∨sc.names.lookup x=O .free
def Loc(sc:Scope)(x:Str):Prop:=sc.names.lookup x=O .local∨sc.names.lookup x=O .cell
def Look(env:Env)(h:Heap)(m:Str->A1)(x:Str)(u:JZ):Prop:=
 (env.kindOf x=O .local/\m x=O u)∨((env.kindOf x=O .cell∨env.kindOf x=O .free)/\∃c,env.cells.lookup x=O c/\h.IsCell c (O u))
structure Cx.Ok(X:Cx):Prop where
 mod:Mod X.K X.mg X.base
 kind:X.env.scope.kind=.function
 glob:X.env.globals=mainGlobals
 blt:X.env.builtins=builtinsNs
 above:X.s₀.heap.objs.size<=X.env.locals
 inj:∀x y c,X.env.cells.lookup x=O c->X.env.cells.lookup y=O c->x=y
 has:∀x,(X.env.kindOf x=O .cell∨X.env.kindOf x=O .free)->∃c,X.env.cells.lookup x=O c
 cab:∀x c,X.fn x=AW->X.env.cells.lookup x=O c->X.s₀.heap.objs.size<=c
 hd:X.calm=AW->X.A.handled=AV
 frames:X.A.frames=O X.stack
 stk:X.stack=X.outer∨(X.stack=X.env::X.outer/\X.env.frame=O X.env.locals)
 exf:∀b∈X.ex,b≠X.env.locals/\∀x c,X.env.cells.lookup x=O c->c≠b
 bs:∀b o,X.base.get? b=O o->X.s₀.heap.get? b=O o/\X.H₀ b=AV
 bsz:X.base.objs.size<=X.s₀.heap.objs.size
 noex:∀b o,X.base.get? b=O o->b∉X.ex
 exfs:∀b∈X.ex,b∉X.fs
 funs:X.s₀.heap.FunFrames X.base X.outer
 frf:∀b∈X.fs,X.H₀ b=AV
structure Inv(X:Cx)(pins:List (J5×Obj))(σ:List (Option V))(H:Hp)(s:J0):Prop where
 ok:X.Ok
 os:s.os=X.s₀.os
 bare:AllBare s.gens
 base:Un X.fs X.ex X.H₀ H X.s₀.heap s.heap
 loc:∃m,s.heap.Ns X.env.locals m/\∀(i:Nat)(x:Str)(v:V),X.N[i]?=O x->σ[i]?=O (O v)->Vis X.env.scope x->∃u,RelV v u/\Look X.env s.heap m x u
 cell:∀x c,X.env.cells.lookup x=O c->∃v,s.heap.IsCell c v
 free:H X.env.locals=AV
 freeC:∀x c,X.env.cells.lookup x=O c->H c=AV
 pin:∀p∈X.pn++pins,s.heap.get? p.1=O p.2/\H p.1=AV/\p.1≠X.env.locals/\p.1∉X.fs/\∀v,p.2.data≠.cell v
 hok:HOk X.prog X.w H s.heap
 len:σ.length=X.N.length
section
variable{X:Cx}{pins:List (J5×Obj)}{σ:List (Option V)}{H H':Hp}{s:J0}{h':Heap}
theorem Cx.Ok.nofr(ok:X.Ok){b:J5}{o:Obj}(e:X.base.get? b=O o):b∉X.fs:=λhb=>by have:=(ok.funs.mem hb).1;rw[e]at this;cases this
theorem Inv.bs(I:Inv X pins σ H s):∀b o,X.base.get? b=O o->s.heap.get? b=O o/\H b=AV:=λb o e=>
 ⟨I.base.keep b o (I.ok.bs b o e).1 (I.ok.bs b o e).2 (I.ok.nofr e) (I.ok.noex b o e),I.base.free b o (I.ok.bs b o e).1 (I.ok.bs b o e).2 (I.ok.noex b o e)⟩
theorem Inv.bk(I:Inv X pins σ H s):∀b o,X.base.get? b=O o->s.heap.get? b=O o:=λb o e=>(I.bs b o e).1
theorem Inv.mod(I:Inv X pins σ H s):Mod X.K X.mg X.base:=I.ok.mod
theorem Inv.kIn(I:Inv X pins σ H s):X.K.In s.heap:=I.ok.mod.kin.keeps I.bk
theorem Inv.fr(I:Inv X pins σ H s):∃m,Fr X.base X.env.locals s.heap m:=
 let ⟨m,hn,_⟩:=I.loc
 ⟨m,hn,I.bk,Qv I.ok.bsz I.ok.above⟩
theorem Inv.lt(I:Inv X pins σ H s):X.env.locals<s.heap.objs.size:=let ⟨_,hn,_⟩:=I.loc;hn.lt
theorem Inv.sz(I:Inv X pins σ H s):X.s₀.heap.objs.size<=s.heap.objs.size:=Qv I.ok.above (JT I.lt)
theorem Inv.nofs(I:Inv X pins σ H s){a:J5}(h:s.heap.objs.size<=a):a∉X.fs:=λhb=>by obtain⟨_,o,ho,_⟩:=I.ok.funs.mem hb;exact absurd (QG (Qh ho) (Qv I.sz h)) (Jz _)
theorem Inv.cne(I:Inv X pins σ H s):∀x c,X.env.cells.lookup x=O c->c≠X.env.locals:=λx c e z=>by obtain⟨v,o,ho,hd⟩:=I.cell x c e;obtain⟨m,⟨o',es,ep,ho',hd',_⟩,_⟩:=I.loc;rw[z,ho']at ho;cases ho;rw[hd']at hd;cases hd
theorem Inv.funs(I:Inv X pins σ H s):s.heap.FunFrames X.base X.outer:=by
 have all:∀(l:List Env),(∀b∈frs l,b∈X.fs)->X.s₀.heap.FunFrames X.base l->s.heap.FunFrames X.base l:=by
  intro l;induction l with
  |nil=>intro _ _;trivial
  |cons env r ih=>
   intro hs hl;obtain⟨hk,⟨L,o,hf,hn,ho,hd⟩,hr⟩:=hl;have hL:L∈X.fs:=hs L (by unfold frs;rw[List.filterMap_cons,hf];exact Qp);obtain⟨sl,e⟩:=I.base.slot L o ho (I.ok.frf L hL) hL λz=>I.ok.exfs L z hL
   exact⟨hk,⟨L,_,hf,hn,e,hd⟩,ih (λb hb=>hs b (by unfold frs;rw[List.filterMap_cons,hf];exact Qo _ hb)) hr⟩
 exact all X.outer (λ_ hb=>hb) I.ok.funs
theorem Inv.stack(I:Inv X pins σ H s):s.heap.FunFrames X.base X.stack:=by
 rcases I.ok.stk with e|⟨e,hf⟩
 .rw[e];exact I.funs
 .rw[e]
  obtain⟨m,hn,_⟩:=I.loc;refine .cons (by rw[I.ok.kind];decide) hf hn ?_ I.funs;exact Heap.get?_none_of_le (Qv I.ok.bsz I.ok.above)
theorem Inv.stkSub(I:Inv X pins σ H s):∀b∈frs X.stack,b∈X.env.locals::X.fs:=λb hb=>by
 rcases I.ok.stk with e|⟨e,hf⟩
 .rw[e]at hb;exact Qo _ hb
 .rw[e]at hb
  unfold frs at hb;rw[List.filterMap_cons,hf]at hb;exact hb
theorem Inv.stkFree(I:Inv X pins σ H s):∀b∈frs X.stack,H b=AV:=λb hb=>by
 rcases QM.mp (I.stkSub b hb)with e|hb
 .rw[e];exact I.free
 .obtain⟨_,o,ho,_⟩:=I.ok.funs.mem hb
  exact I.base.free b o ho (I.ok.frf b hb) λz=>I.ok.exfs b z hb
theorem Inv.step{g':Array GenState}{t':Nat}{d':Drawn}{ch:A5}(I:Inv X pins σ H s)
  (hch:∀b∈ch,(b∈X.ex∨X.s₀.heap.objs.size<=b)/\b≠X.env.locals/\(∀x c,X.env.cells.lookup x=O c->c≠b)/\∀p∈X.pn++pins,p.1≠b)
  (keep:∀b o,b≠X.env.locals->b∉X.fs->b∉ch->s.heap.get? b=O o->H b=AV->h'.get? b=O o)
  (slot:∀b o,b≠X.env.locals->b∈X.fs->b∉ch->s.heap.get? b=O o->H b=AV->∃sl,h'.get? b=O {o with slots:=sl}) (free:∀b o,b∉ch->s.heap.get? b=O o->H b=AV->H' b=AV)
  (there:∀b o,b∉ch->s.heap.get? b=O o->∃o',h'.get? b=O o')
  (tups:∀b xs,H b=O (.tup xs)->H' b=O (.tup xs)) (frzs:∀b o u,H b=O (.frz o u)->H' b=O (.frz o u)) (tbls:∀b ps,H b=O (.tbl ps)->∃more,H' b=O (.tbl (ps++more)))
  (ns:∀m,s.heap.Ns X.env.locals m->h'.Ns X.env.locals m) (hok:HOk X.prog X.w H' h') (hg:AllBare g') :
  Inv X pins σ H' {s with heap:=h',gens:=g',drawn:=d',toks:=t'}:=by
 have neL:∀b o,X.s₀.heap.get? b=O o->b≠X.env.locals:=λb o e=>QO (QG (Qh e) I.ok.above)
 have neC:∀b o,X.s₀.heap.get? b=O o->b∉X.ex->b∉ch:=λb o e hx hb=>by
  rcases(hch b hb).1 with z|z
  .exact hx z
  .exact absurd (QG (Qh e) z) (Jz _)
 have cellK:∀x c,X.env.cells.lookup x=O c->∀v,s.heap.IsCell c v->h'.IsCell c v:=λx c e v ⟨o,ho,hd⟩=>by
  have nch:c∉ch:=λz=>(hch c z).2.2.1 x c e AU
  by_cases hc:c∈X.fs
  .obtain⟨sl,q⟩:=slot c o (I.cne x c e) hc nch ho (I.freeC x c e)
   exact⟨_,q,hd⟩
  .exact⟨o,keep c o (I.cne x c e) hc nch ho (I.freeC x c e),hd⟩
 refine⟨I.ok,I.os,hg,⟨λb o e n hb hx=>?_,λb o e n hb hx=>?_,λb o e n hx=>?_,λb o e hx=>?_,λb xs e=>tups b xs (I.base.tups b xs e),λb o xs e=>frzs b o xs (I.base.frzs b o xs e),λb ps e=>?_⟩,?_,λx c e=>?_,?_,λx c e=>?_,λp hp=>?_,hok,I.len⟩
 .exact keep b o (neL b o e) hb (neC b o e hx) (I.base.keep b o e n hb hx) (I.base.free b o e n hx)
 .obtain⟨sl,e1⟩:=I.base.slot b o e n hb hx
  obtain⟨qz,e2⟩:=slot b _ (neL b o e) hb (neC b o e hx) e1 (I.base.free b o e n hx);exact⟨qz,e2⟩
 .obtain⟨o',e1⟩:=I.base.there b o e hx
  exact free b o' (neC b o e hx) e1 (I.base.free b o e n hx)
 .obtain⟨o',e1⟩:=I.base.there b o e hx
  exact there b o' (neC b o e hx) e1
 .obtain⟨m1,e1⟩:=I.base.tbls b ps e
  obtain⟨m2,e2⟩:=tbls b _ e1;exact⟨m1++m2,by rw[e2,Array.append_assoc]⟩
 .obtain⟨m,hn,hl⟩:=I.loc
  refine⟨m,ns m hn,λi x v e1 e2 e3=>?_⟩;obtain⟨u,r,l⟩:=hl i x v e1 e2 e3;refine⟨u,r,?_⟩;rcases l with l|⟨k,c,e,z⟩
  .exact .inl l
  .exact .inr ⟨k,c,e,cellK x c e _ z⟩
 .obtain⟨v,z⟩:=I.cell x c e
  exact⟨v,cellK x c e v z⟩
 .obtain⟨m,⟨o,_,_,ho,_⟩,_⟩:=I.loc
  exact free _ o (λz=>(hch _ z).2.1 AU) ho I.free
 .obtain⟨v,o,ho,hd⟩:=I.cell x c e
  exact free c o (λz=>(hch c z).2.2.1 x c e AU) ho (I.freeC x c e)
 .obtain⟨e,n,ne,nf,d⟩:=I.pin p hp
  have nch:p.1∉ch:=λz=>(hch p.1 z).2.2.2 p hp AU
  exact⟨keep p.1 p.2 ne nf nch e n,free p.1 p.2 nch e n,ne,nf,d⟩
theorem Inv.un{t':Nat}(I:Inv X pins σ H s)(u:Un X.fs [] H H' s.heap h')(hok:HOk X.prog X.w H' h'):Inv X pins σ H' {s with heap:=h',toks:=t'}:=by obtain⟨m,⟨o,es,ep,ho,r⟩,_⟩:=id I.loc;obtain⟨sl,hL⟩:=u.any ho I.free (by simp);exact I.step (g':=s.gens) (d':=s.drawn) (ch:=[]) (λ_ z=>nomatch z) (λb o _ hb _ e n=>u.keep b o e n hb (by simp)) (λb o _ hb _ e n=>u.slot b o e n hb (by simp)) (λb o _ e n=>u.free b o e n (by simp)) (λb o _ e=>u.there b o e (by simp)) u.tups u.frzs u.tbls (λm' hm=>by obtain⟨o',es',ep',ho',r'⟩:=hm;rw[ho]at ho';cases ho';exact⟨_,es',ep',hL,r'⟩) hok I.bare
theorem Inv.call{g':Array GenState}{t':Nat}{d':Drawn}{ch:A5}(I:Inv X pins σ H s)(u:Un (frs X.stack) ch H H' s.heap h')(hok:HOk X.prog X.w H' h')(hg:AllBare g')
  (hch:∀b∈ch,(b∈X.ex∨X.s₀.heap.objs.size<=b)/\b≠X.env.locals/\(∀x c,X.env.cells.lookup x=O c->c≠b)/\∀p∈X.pn++pins,p.1≠b) :
  Inv X pins σ H' {s with heap:=h',gens:=g',drawn:=d',toks:=t'}:=by
 obtain⟨m,⟨o,es,ep,ho,r⟩,_⟩:=id I.loc;obtain⟨sl,hL⟩:=u.any ho I.free λz=>(hch _ z).2.1 AU
 exact I.step (ch:=ch) hch (λb o hL hb hc e n=>u.keep b o e n (λz=>(QM.mp (I.stkSub b z)).elim hL hb) hc) (λb o _ _ hc e n=>u.any e n hc) (λb o hc e n=>u.free b o e n hc) (λb o hc e=>u.there b o e hc) u.tups u.frzs u.tbls (λm' hm=>by obtain⟨o',es',ep',ho',r'⟩:=hm;rw[ho]at ho';cases ho';exact⟨_,es',ep',hL,r'⟩) hok hg
theorem Inv.turned{t':Nat}{it:J5}(I:Inv X pins σ H s)(k:∀b o,b≠it->s.heap.get? b=O o->h'.get? b=O o)(hn:H it=AV)(hL:it≠X.env.locals)
  (h1:it∈X.ex∨X.s₀.heap.objs.size<=it) (h2:∀x c,X.env.cells.lookup x=O c->c≠it) (h3:∀p∈X.pn++pins,p.1≠it):Inv X pins σ H {s with heap:=h',toks:=t'}:=by
 have nit:∀b u,H b=O u->b≠it:=λb u e z=>by rw[z,hn]at e;cases e
 refine I.step (g':=s.gens) (d':=s.drawn) (ch:=[it]) (λb hb=>?_) (λb o _ _ hc e _=>k b o (λz=>hc (by simp[z])) e) (λb o _ _ hc e _=>⟨o.slots,k b o (λz=>hc (by simp[z])) e⟩) (λ_ _ _ _ n=>n)
  (λb o hc e=>⟨o,k b o (λz=>hc (by simp[z])) e⟩) (λ_ _ e=>e) (λ_ _ _ e=>e) (λb ps e=>⟨#[],by rw[e];simp⟩) (λm hm=>?_) (λb u e=>?_) I.bare
 .have e:b=it:=by simpa using hb
  subst e;exact⟨h1,hL,h2,h3⟩
 .obtain⟨o,es,ep,ho,r⟩:=hm
  exact⟨o,es,ep,k _ o (Ne.symm hL) ho,r⟩
 .refine(I.hok b u e).stay (λc v hc q=>k c v ?_ q) (λ_ q=>q) λ_ _ q=>q
  rcases hc with z|z
  .rw[z];exact nit b u e
  .exact nit c _ z
theorem Inv.tok(I:Inv X pins σ H s)(t:Nat):Inv X pins σ H {s with toks:=t}:=I.un (h':=s.heap) (t':=t) Un.refl I.hok
theorem Inv.kept{t':Nat}(I:Inv X pins σ H s)(k:∀b u,s.heap.get? b=O u->h'.get? b=O u):Inv X pins σ H {s with heap:=h',toks:=t'}:=I.un (Un.kept k) (I.hok.kept k)
theorem Inv.laid{a:J5}{o:HO}{t':Nat}(I:Inv X pins σ H s)(k:∀b u,s.heap.get? b=O u->h'.get? b=O u)(hp:s.heap.objs.size<=a)(new:KY X.prog X.w (upd H a o) h' a o) :
  Inv X pins σ (upd H a o) {s with heap:=h',toks:=t'}:=I.un (Un.laid k hp (I.hok.fresh hp)) (I.hok.laid k hp new)
theorem Inv.write{x e:J5}{o:HO}{t':Nat}(I:Inv X pins σ H s)(mu:Mut (H x))(he:e=x∨H e=O (.own x))(k:∀b u,b≠e->s.heap.get? b=O u->h'.get? b=O u)(jr:∃u,h'.get? e=O u)
  (new:KY X.prog X.w (upd H x o) h' x o):Inv X pins σ (upd H x o) {s with heap:=h',toks:=t'}:=I.un (Un.write mu he k jr) (I.hok.write mu he k jr new)
theorem Inv.pins_of{pins':List (J5×Obj)}(I:Inv X pins σ H s)(h:∀p∈pins',s.heap.get? p.1=O p.2/\H p.1=AV/\p.1≠X.env.locals/\p.1∉X.fs/\∀v,p.2.data≠.cell v):Inv X pins' σ H s:=
 ⟨I.ok,I.os,I.bare,I.base,I.loc,I.cell,I.free,I.freeC,λp hp=>(Jd.mp hp).elim (λz=>I.pin p (JG _ z)) (h p),I.hok,I.len⟩
theorem OQ{N:List Str}(hN:N.Nodup){i j:Nat}{x:Str}(a:N[i]?=O x)(b:N[j]?=O x):i=j:=by obtain⟨h1,e1⟩:=Qr.mp a;obtain⟨h2,e2⟩:=Qr.mp b;exact(List.getElem_inj hN).mp (e1.trans e2.symm)
theorem Nt{M:Model}{A:Around}{E:JZ->J0->Prop}{i:Nat}{x:Str}{v:V}{u:JZ}{Q:Unit->J0->Prop}(I:Inv X pins σ H s)(hN:X.N.Nodup)(hi:X.N[i]?=O x)(hx:Loc X.env.scope x)(r:RelV v u)
  (h:∀s',Inv X pins (σ.set i (O v)) H s'->(∃a,Heap.SameBut a s.heap s'.heap/\(a=X.env.locals∨X.env.cells.lookup x=O a))->Q () s') (hf:X.fn x=AW∨X.env.scope.names.lookup x=O .local:=by first|exact .inl rfl|exact .inr rfl|assumption):J9 M A (storeName X.env x u) Q E s:=by
 obtain⟨m,hn,hl⟩:=id I.loc;have hcls:(X.env.scope.kind==.class || (X.env.scope.kind==.module&&X.env.locals != X.env.globals))=AX:=by rw[I.ok.kind];rfl
 have hiσ:i<σ.length:=by rw[I.len];exact(Qr.mp hi).1
 have cne:=I.cne
 have tracked:∀{a:J5}{h':Heap},(∃o,s.heap.get? a=O o/\H a=AV)->Heap.SameBut a s.heap h'->HOk X.prog X.w H h':=λ{a h'} ha hs b ob e=>by
  obtain⟨_,_,hfree⟩:=ha;refine(I.hok b ob e).stay (λc w' hc q=>(hs.2 c ?_).trans q) (λ_ q=>q) λ_ _ q=>q
  rintro rfl;rcases hc with rfl|hc
  .rw[hfree]at e;cases e
  .rw[hfree]at hc;cases hc
 rcases hx with hk|hk
 .refine wpAny_storeName_local hk hn (λh' hn' hs=>?_) hcls
  obtain⟨oL,_,_,jx,_⟩:=id hn;refine h _ ⟨I.ok,I.os,I.bare,⟨λb o e n hb hx=>?_,λb o e n hb hx=>?_,I.base.free,λb o e hx=>?_,I.base.tups,I.base.frzs,I.base.tbls⟩,⟨_,hn',λj y v' e1 e2 e3=>?_⟩,λy c e=>?_,I.free,I.freeC,λp hp=>?_,tracked ⟨oL,jx,I.free⟩ hs,by simpa using I.len⟩ ⟨_,hs,.inl AU⟩
  .exact(hs.2 b (QO (QG (Qh e) I.ok.above))).trans (I.base.keep b o e n hb hx)
  .obtain⟨sl,e1⟩:=I.base.slot b o e n hb hx
   exact⟨sl,(hs.2 b (QO (QG (Qh e) I.ok.above))).trans e1⟩
  .obtain⟨o',e1⟩:=I.base.there b o e hx
   exact⟨o',(hs.2 b (QO (QG (Qh e) I.ok.above))).trans e1⟩
  .by_cases hj:j=i
   .subst hj
    rw[hi]at e1;cases e1;rw[QJ hiσ]at e2;cases e2;exact⟨u,r,.inl ⟨hk,by simp⟩⟩
   .rw[Ql (Ne.symm hj)]at e2
    obtain⟨u',r',q⟩:=hl j y v' e1 e2 e3;refine⟨u',r',?_⟩;rcases q with ⟨k,e⟩|⟨k,c,e,z⟩
    .refine .inl ⟨k,?_⟩
     have:y≠x:=λe=>hj (OQ hN e1 (e ▸ hi))
     simp[this,e]
    .exact .inr ⟨k,c,e,z.sameBut hs (cne y c e)⟩
  .obtain⟨w',z⟩:=I.cell y c e
   exact⟨w',z.sameBut hs (cne y c e)⟩
  .obtain⟨e,n,ne,nf,d⟩:=I.pin p hp
   exact⟨(hs.2 p.1 ne).trans e,n,ne,nf,d⟩
 .have hfn:X.fn x=AW:=by
   rcases hf with z|z
   .exact z
   .rw[z]at hk;cases hk
  obtain⟨c,hc⟩:=I.ok.has x (.inl hk);obtain⟨w',z⟩:=I.cell x c hc;refine wpAny_storeName_cell I.ok.kind hk hc z (λh' hc' hs=>?_);obtain⟨oc,hoc,hocd⟩:=id z;refine h {s with heap:=h'} ⟨I.ok,I.os,I.bare,⟨λb o e n hb hx=>?_,λb o e n hb hx=>?_,I.base.free,λb o e hx=>?_,I.base.tups,I.base.frzs,I.base.tbls⟩,⟨m,hn.sameBut hs (Ne.symm (cne x c hc)),λj y v' e1 e2 e3=>?_⟩,λy c' e=>?_,I.free,I.freeC,λp hp=>?_,tracked ⟨oc,hoc,I.freeC x c hc⟩ hs,by simpa using I.len⟩ ⟨c,hs,.inr hc⟩
  .exact(hs.2 b (QO (QG (Qh e) (I.ok.cab x c hfn hc)))).trans (I.base.keep b o e n hb hx)
  .obtain⟨sl,e1⟩:=I.base.slot b o e n hb hx
   exact⟨sl,(hs.2 b (QO (QG (Qh e) (I.ok.cab x c hfn hc)))).trans e1⟩
  .obtain⟨o',e1⟩:=I.base.there b o e hx
   exact⟨o',(hs.2 b (QO (QG (Qh e) (I.ok.cab x c hfn hc)))).trans e1⟩
  .by_cases hj:j=i
   .subst hj
    rw[hi]at e1;cases e1;rw[QJ hiσ]at e2;cases e2;exact⟨u,r,.inr ⟨.inl hk,c,hc,hc'⟩⟩
   .rw[Ql (Ne.symm hj)]at e2
    obtain⟨u',r',q⟩:=hl j y v' e1 e2 e3;refine⟨u',r',?_⟩;rcases q with q|⟨k,c',e,z'⟩
    .exact .inl q
    .refine .inr ⟨k,c',e,z'.sameBut hs ?_⟩
     rintro rfl;exact hj (OQ hN e1 (I.ok.inj _ _ _ e hc ▸ hi))
  .by_cases hcc:c'=c
   .subst hcc;exact⟨_,hc'⟩
   .obtain⟨w2,z2⟩:=I.cell y c' e
    exact⟨w2,z2.sameBut hs hcc⟩
  .obtain⟨e,n,ne,nf,d⟩:=I.pin p hp
   refine⟨(hs.2 p.1 ?_).trans e,n,ne,nf,d⟩;intro q;rw[q,hoc]at e;have q':oc=p.2:=Jb e;exact d w' (by rw[←q'];exact hocd)
theorem Sc{M:Model}{A:Around}{E:JZ->J0->Prop}{i:Nat}{x:Str}{v:V}{u:JZ}{Q:Unit->J0->Prop}(I:Inv X pins σ H s)(hN:X.N.Nodup)(hi:X.N[i]?=O x)(hx:Loc X.env.scope x)(r:RelV v u)
  (h:∀s',Inv X pins (σ.set i (O v)) H s'->Q () s') (hf:X.fn x=AW∨X.env.scope.names.lookup x=O .local:=by first|exact .inl rfl|exact .inr rfl|assumption):J9 M A (storeName X.env x u) Q E s:=
 Nt I hN hi hx r (λs' I' _=>h s' I') hf
theorem Inv.call'{s':J0}{ch:A5}(I:Inv X pins σ H s)(ho:s'.os=s.os)(u:Un (frs X.stack) ch H H' s.heap s'.heap)(hok:HOk X.prog X.w H' s'.heap)(hg:AllBare s'.gens)
  (hch:∀b∈ch,(b∈X.ex∨X.s₀.heap.objs.size<=b)/\b≠X.env.locals/\(∀x c,X.env.cells.lookup x=O c->c≠b)/\∀p∈X.pn++pins,p.1≠b):Inv X pins σ H' s':=by
 obtain⟨h',g',d',t',o'⟩:=s';have e:o'=s.os:=ho;subst e;exact I.call (g':=g') (t':=t') (d':=d') u hok hg hch
end
abbrev XK:=JZ->A8->Hp->Prop
abbrev St:=List (Option V)
abbrev VK:=V->Hp->Prop
abbrev TE:=St->Hp->VK->Prop
abbrev TT:=St->Hp->(Bool->Hp->Prop)->Prop
abbrev TA:=St->Hp->(List V->Hp->Prop)->Prop
structure Ends where
 nx:St->Hp->Prop
 rt:VK
 bk:St->Hp->Prop:=λ_ _=>False
 ct:St->Hp->Prop:=λ_ _=>False
abbrev TS:=Ends->St->Hp->Prop
def EP(X:Cx)(pins:List (J5×Obj))(σ:St)(Q:VK)(u:JZ)(s':J0):Prop:=∃v H',Inv X pins σ H' s'/\RelV v u/\Q v H'
def TP(X:Cx)(pins:List (J5×Obj))(σ:St)(Q:Bool->Hp->Prop)(b:Bool)(s':J0):Prop:=∃H',Inv X pins σ H' s'/\Q b H'
def AP(X:Cx)(pins:List (J5×Obj))(σ:St)(Q:List V->Hp->Prop)(us:AZ)(s':J0):Prop:=∃vs H',Inv X pins σ H' s'/\Vals vs us/\Q vs H'
def SP(X:Cx)(pins:List (J5×Obj))(D:Ends)(f:Flow)(s':J0):Prop:=
 match f with
 |.next=>∃σ' H',Inv X pins σ' H' s'/\D.nx σ' H'
 |.brk=>∃σ' H',Inv X pins σ' H' s'/\D.bk σ' H'
 |.cont=>∃σ' H',Inv X pins σ' H' s'/\D.ct σ' H'
 |.ret u=>∃v σ' H',Inv X pins σ' H' s'/\RelV v u/\D.rt v H'
def PE(X:Cx)(e:J7)(t:TE):Prop:=
 ∀(pins:List (J5×Obj))(s:J0)(σ:St)(H:Hp)(Q:VK),Inv X pins σ H s->t σ H Q->J9 (model X.prog X.w) X.A (eval e X.env) (EP X pins σ Q) X.xe s
def PT(X:Cx)(e:J7)(t:TT):Prop:=
 ∀(pins:List (J5×Obj))(s:J0)(σ:St)(H:Hp)(Q:Bool->Hp->Prop),Inv X pins σ H s->t σ H Q->J9 (model X.prog X.w) X.A (isTrue e X.env (eval e X.env)) (TP X pins σ Q) X.xe s
def PW(X:Cx)(e:J7)(t:TT):Prop:=
 ∀(whole:Sem JZ)(pins:List (J5×Obj))(s:J0)(σ:St)(H:Hp)(Q:Bool->Hp->Prop),Inv X pins σ H s->t σ H Q->J9 (model X.prog X.w) X.A (isTrue e X.env whole) (TP X pins σ Q) X.xe s
theorem PW.pt{X:Cx}{e:J7}{t:TT}(h:PW X e t):PT X e t:=h _
def PA(X:Cx)(es:A3)(t:TA):Prop:=
 ∀(pos:Pos)(pins:List (J5×Obj))(s:J0)(σ:St)(H:Hp)(Q:List V->Hp->Prop),Inv X pins σ H s->t σ H Q->J9 (model X.prog X.w) X.A (spliced (backTo pos (Ua es X.env))) (AP X pins σ Q) X.xe s
def PS(X:Cx)(st:Stmt)(t:TS):Prop:=
 ∀(pins:List (J5×Obj))(s:J0)(σ:St)(H:Hp)(D:Ends),Inv X pins σ H s->t D σ H->J9 (model X.prog X.w) X.A (exec st X.env) (SP X pins D) X.xe s
def PSs(X:Cx)(st:List Stmt)(t:TS):Prop:=
 ∀(pins:List (J5×Obj))(s:J0)(σ:St)(H:Hp)(D:Ends),Inv X pins σ H s->t D σ H->J9 (model X.prog X.w) X.A (execs st X.env) (SP X pins D) X.xe s
theorem thn{α:Type}{t:Sem α}{Q Q':α->J0->Prop}{M:Model}{A:Around}{E:JZ->J0->Prop}{s:J0}(h:J9 M A t Q E s)(hQ:∀a s,Q a s->Q' a s):J9 M A t Q' E s:=Qy h hQ λ_ _ x=>x
section
variable{X:Cx}
noncomputable def Kc(i:Nat):TE:=λσ H Q=>∃v,σ[i]?=O (O v)/\Q v H
noncomputable def tC(v:V):TE:=λ_ H Q=>Q v H
theorem PL{i:Nat}{x:Str}{pos:Pos}(hN:X.N[i]?=O x)(hv:Vis X.env.scope x)(hd:(x==("__debug__" : Str))=AX:=by decide)(hcd:(x==("__classdict__" : Str))=AX:=by decide):PE X (.Name x pos) (Kc i):=by
 intro pins s σ H Q I h;obtain⟨v,e,h⟩:=h;obtain⟨m,hn,hl⟩:=I.loc;obtain⟨u,r,l⟩:=hl i x v hN e hv;have fin:EP X pins σ Q u s:=⟨v,H,I,r,h⟩;rcases l with ⟨hk,hm⟩|⟨hk,c,hc,hcell⟩
 .exact wpAny_Name (wpAny_loadName_local I.ok.kind hk hn hm fin) hd
 .rcases hk with hk|hk
  .exact wpAny_Name (wpAny_loadName_cell I.ok.kind hk hc hcell fin) hd
  .exact wpAny_Name (wpAny_loadName_free I.ok.kind hk hc hcell fin hcd) hd
theorem FE{i j pos}:PE X (.Constant (.int i) j pos) (tC (.int i)):=λ_ _ _ H _ I h=>wpAny_Constant_int ⟨.int i,H,I.tok _,⟨_,rfl⟩,h⟩
theorem L0{b j pos}:PE X (.Constant (.bool b) j pos) (tC (.bl b)):=λ_ _ _ H _ I h=>Constant_bool ⟨.bl b,H,I,rfl,h⟩
theorem FD{j pos}:PE X (.Constant .none j pos) (tC .non):=λ_ _ _ H _ I h=>Constant_none ⟨.non,H,I,rfl,h⟩
theorem TM{x j pos}:PE X (.Constant (.str x) j pos) (tC (.str x)):=λ_ _ _ H _ I h=>Calls.Constant_str ⟨.str x,H,I.tok _,⟨_,rfl⟩,h⟩
def Gl(X:Cx)(x:Str):Prop:=X.env.kindOf x=O .globalImplicit
theorem Xc{E:JZ->J0->Prop}{pins:List (J5×Obj)}{s:J0}{σ:St}{H:Hp}{x:Str}{u:JZ}{pos:Pos}{Q:JZ->J0->Prop}(I:Inv X pins σ H s)(hg:Gl X x)(hm:X.mg x=O u)(h:Q u s)
  (hd:(x==("__debug__" : Str))=AX:=by decide):J9 (model X.prog X.w) X.A (eval (.Name x pos) X.env) Q E s:=
 Calls.Name_function_global I.ok.kind hg (Calls.loadGlobal_global (by rw[I.ok.glob];exact I.mod.glob.keeps I.bk) hm h) hd
theorem Wk{E:JZ->J0->Prop}{pins:List (J5×Obj)}{s:J0}{σ:St}{H:Hp}{x:Str}{u:JZ}{pos:Pos}{Q:JZ->J0->Prop}(I:Inv X pins σ H s)(hg:Gl X x)(hm:X.mg x=AV)(hv:bootBuiltins x=O u)(h:Q u s)
  (hn:x ≠ "__name__" :=by decide) (hd:(x==("__debug__" : Str))=AX:=by decide):J9 (model X.prog X.w) X.A (eval (.Name x pos) X.env) Q E s:=by
 obtain⟨mb,h1,h2⟩:=I.mod.blt;exact Calls.Name_function_global I.ok.kind hg (Calls.loadGlobal_builtin (by rw[I.ok.glob];exact I.mod.glob.keeps I.bk) hm (by rw[I.ok.blt];exact h1.keeps I.bk) ((h2 x hn).trans hv) h) hd
theorem T2{x:Str}{v:V}{u:JZ}{pos:Pos}(hg:Gl X x)(hm:X.mg x=O u)(r:RelV v u)(hd:(x==("__debug__" : Str))=AX:=by decide):PE X (.Name x pos) (tC v):=
 λ_ _ _ H _ I h=>Xc I hg hm ⟨v,H,I,r,h⟩ hd
theorem Da{x:Str}{v:V}{u:JZ}{pos:Pos}(hg:Gl X x)(hm:X.mg x=AV)(hv:bootBuiltins x=O u)(r:RelV v u)(hn:x ≠ "__name__" :=by decide)(hd:(x==("__debug__" : Str))=AX:=by decide):PE X (.Name x pos) (tC v):=
 λ_ _ _ H _ I h=>Wk I hg hm hv ⟨v,H,I,r,h⟩ hn hd
variable{a b:J7}{ta tb:TE}{pos:Pos}
def PC(X:Cx)(op:CmpOp)(a b:J7)(t:TE):Prop:=
 ∀(pins:List (J5×Obj))(s:J0)(σ:St)(H:Hp)(Q:VK),Inv X pins σ H s->t σ H Q ->
  J9 (model X.prog X.w) X.A (eval a X.env) (λv s₁=>J9 (model X.prog X.w) X.A (eval b X.env) (λu s₂=>J9 (model X.prog X.w) X.A (Ub op v u) (EP X pins σ Q) X.xe s₂) X.xe s₁) X.xe s
theorem OP(b:J7){op:CmpOp}(h:op≠.In)(h2:op≠.NotIn):behindInMarks op b=AX:=by
 have e1:(op==CmpOp.In)=AX:=by cases op<;>first|rfl|exact absurd AU h
 have e2:(op==CmpOp.NotIn)=AX:=by cases op<;>first|rfl|exact absurd AU h2
 cases b<;>simp[behindInMarks,e1,e2]
noncomputable def tIsN(ta:TE):TE:=λσ H Q=>ta σ H λx H1=>Q (.bl (decide (x=.non))) H1
noncomputable def LZ(ta:TE):TE:=λσ H Q=>ta σ H λx H1=>Q (.bl (!decide (x=.non))) H1
theorem RelV.none_iff{x:V}{v:JZ}(r:RelV x v):(v==Value.none)=decide (x=.non):=by
 cases x with
 |non=>cases r;rfl
 |bl _=>cases r;rfl
 |int _=>obtain⟨t,rfl⟩:=r;rfl
 |str _=>obtain⟨t,rfl⟩:=r;rfl
 |byt _=>obtain⟨t,rfl⟩:=r;rfl
 |flt _=>obtain⟨t,rfl⟩:=r;rfl
 |ref _=>cases r;rfl
 |ty _=>cases r;rfl
theorem FC{j pos'}(ha:PE X a ta):PC X .Is a (.Constant .none j pos') (tIsN ta):=by intro pins s σ H Q I h;refine thn (ha pins s σ H _ I h) λv s1 ⟨x,H1,I1,r1,q1⟩=>?_;exact Constant_none (is_none_gen ⟨.bl _,H1,I1,by rw[r1.none_iff];rfl,q1⟩)
theorem E9{j pos'}(ha:PE X a ta):PC X .IsNot a (.Constant .none j pos') (LZ ta):=by intro pins s σ H Q I h;refine thn (ha pins s σ H _ I h) λv s1 ⟨x,H1,I1,r1,q1⟩=>?_;exact Constant_none (isnot_none_gen ⟨.bl _,H1,I1,by rw[r1.none_iff];rfl,q1⟩)
noncomputable def tB(t:TE):TT:=λσ H Q=>t σ H λx H1=>∃c,x=.bl c/\Q c H1
theorem FA{op:CmpOp}{t:TE}(h:PC X op a b t)(h1:behindInMarks op b=AX:=by first|exact OP _ (by decide) (by decide)|rfl):PE X (.Compare a [op] [b] pos) t:=λpins s σ H Q I hw=>wpAny_Compare1 (h pins s σ H Q I hw) h1
theorem Fz{op:CmpOp}{t:TE}(h:PC X op a b t)(h1:behindInMarks op b=AX:=by first|exact OP _ (by decide) (by decide)|rfl):PT X (.Compare a [op] [b] pos) (tB t):=by intro pins s σ H Q I hw;refine wpAny_isTrue_Compare1 (thn (h pins s σ H _ I hw) λv s1 h1=>thn h1 λu s2 h2=>thn h2 λc s3 ⟨x,H1,I1,r1,q1⟩=>?_) h1;obtain⟨d,rfl,q⟩:=q1;cases r1;exact Q0 ⟨H1,I1,q⟩
theorem Fy{e:J7}{t:TE}(h:PE X e t)(he:∀whole,isTrue e X.env whole=(do let v ←whole;standAt e.pos;holding [v] (truthy v)):=by intro _;rfl):PT X e (tB t):=by intro pins s σ H Q I hw;refine isTrue_plain (thn (h pins s σ H _ I hw) λv s1 ⟨x,H1,I1,r1,q1⟩=>?_) (he _);obtain⟨d,rfl,q⟩:=q1;cases r1;exact Q0 ⟨H1,I1,q⟩
variable{tA tB':TT}{rest:A3}
noncomputable def tAnd(t u:TT):TT:=λσ H Q=>t σ H λc H1=>if c=AW then u σ H1 Q else Q AX H1
noncomputable def tOr(t u:TT):TT:=λσ H Q=>t σ H λc H1=>if c=AW then Q AW H1 else u σ H1 Q
noncomputable def tNot(t:TT):TT:=λσ H Q=>t σ H λc H1=>Q (!c) H1
theorem Dj(ha:PT X a tA):PW X (.BoolOp .And [a] pos) tA:=by
 intro wh pins s σ H Q I h;refine isTrue_and (thn (ha pins s σ H Q I h) λc s1 e=>?_);cases c with
 |true=>exact isTrue_and_nil e
 |false=>exact e
theorem Fx(ha:PT X a tA):PW X (.BoolOp .Or [a] pos) tA:=by
 intro wh pins s σ H Q I h;refine isTrue_or (thn (ha pins s σ H Q I h) λc s1 e=>?_);cases c with
 |false=>exact isTrue_or_nil e
 |true=>exact e
theorem Fw(ha:PT X a tA)(hb:PW X (.BoolOp .And (b::rest) pos) tB'):PW X (.BoolOp .And (a::b::rest) pos) (tAnd tA tB'):=by
 intro wh pins s σ H Q I h;refine isTrue_and (thn (ha pins s σ H _ I h) λc s1 ⟨H1,I1,q1⟩=>?_);cases c with
 |true=>exact hb wh pins s1 σ H1 Q I1 q1
 |false=>exact⟨H1,I1,q1⟩
theorem LY(ha:PT X a tA)(hb:PW X (.BoolOp .Or (b::rest) pos) tB'):PW X (.BoolOp .Or (a::b::rest) pos) (tOr tA tB'):=by
 intro wh pins s σ H Q I h;refine isTrue_or (thn (ha pins s σ H _ I h) λc s1 ⟨H1,I1,q1⟩=>?_);cases c with
 |true=>exact⟨H1,I1,q1⟩
 |false=>exact hb wh pins s1 σ H1 Q I1 q1
theorem Fv(ha:PT X a tA):PT X (.UnaryOp .Not a pos) (tNot tA):=by intro pins s σ H Q I h;exact isTrue_not (ha pins s σ H (λc H1=>Q (!c) H1) I h)
noncomputable def LX(ta tb:TE):TE:=λσ H Q=>ta σ H λx H1=>∃c,x=.bl c/\if c=AW then tb σ H1 Q else Q (.bl AX) H1
noncomputable def tOrV(ta tb:TE):TE:=λσ H Q=>ta σ H λx H1=>∃c,x=.bl c/\if c=AW then Q (.bl AW) H1 else tb σ H1 Q
noncomputable def LW(ta:TE):TE:=λσ H Q=>ta σ H λx H1=>∃c,x=.bl c/\Q (.bl (!c)) H1
theorem HS{op}{t:TE}(h:PE X a t):PE X (.BoolOp op [a] pos) t:=λpins s σ H Q I hw=>BoolOp_one (h pins s σ H Q I hw)
theorem HR(ha:PE X a ta)(hb:PE X (.BoolOp .And (b::rest) pos) tb):PE X (.BoolOp .And (a::b::rest) pos) (LX ta tb):=by
 intro pins s σ H Q I h;refine BoolOp_and (thn (ha pins s σ H _ I h) λv s1 ⟨x,H1,I1,r1,q1⟩=>?_);obtain⟨c,rfl,q1⟩:=q1;cases r1;refine Q0 ?_;cases c with
 |true=>exact hb pins s1 σ H1 Q I1 q1
 |false=>exact⟨.bl AX,H1,I1,rfl,q1⟩
theorem LV(ha:PE X a ta)(hb:PE X (.BoolOp .Or (b::rest) pos) tb):PE X (.BoolOp .Or (a::b::rest) pos) (tOrV ta tb):=by
 intro pins s σ H Q I h;refine BoolOp_or (thn (ha pins s σ H _ I h) λv s1 ⟨x,H1,I1,r1,q1⟩=>?_);obtain⟨c,rfl,q1⟩:=q1;cases r1;refine Q0 ?_;cases c with
 |false=>exact hb pins s1 σ H1 Q I1 q1
 |true=>exact⟨.bl AW,H1,I1,rfl,q1⟩
theorem HQ(ha:PE X a ta):PE X (.UnaryOp .Not a pos) (LW ta):=by intro pins s σ H Q I h;refine UnaryOp_ (thn (ha pins s σ H _ I h) λv s1 ⟨x,H1,I1,r1,q1⟩=>?_);obtain⟨c,rfl,q1⟩:=q1;cases r1;exact not_of (Q0 ⟨.bl (!c),H1,I1,rfl,q1⟩)
end
def SqL(K:Frag)(H:Hp)(a:J5)(xs:List V):Prop:=
 Rd H a (.lst xs) ∨
  ∃(o:Obj)(its:Array JZ)(n:Nat),K.lookup a=O o/\o.cls=.type "list" /\ o.dict=AV/\o.data=.seq its n/\its.size<=J8/\Vals xs its.toList
def SqT(K:Frag)(H:Hp)(a:J5)(xs:List V):Prop:=
 Rd H a (.tup xs) ∨
  ∃(o:Obj)(its:Array JZ)(n:Nat),K.lookup a=O o/\o.cls=.type "tuple" /\ o.data=.seq its n/\its.size<=J8/\Vals xs its.toList
noncomputable def absV:JZ->Option V
 |.none=>O .non
 |.bool b=>O (.bl b)
 |.int i _=>O (.int i)
 |.str x _=>O (.str x)
 |.bytes b _=>O (.byt b)
 |.float b _=>O (.flt b)
 |.ref a=>O (.ref a)
 |.type n=>O (.ty n)
 |_=>AV
theorem RelV.abs{x:V}{u:JZ}(r:RelV x u):absV u=O x:=by
 cases x with
 |non=>cases r;rfl
 |bl _=>cases r;rfl
 |int _=>obtain⟨t,rfl⟩:=r;rfl
 |str _=>obtain⟨t,rfl⟩:=r;rfl
 |byt _=>obtain⟨t,rfl⟩:=r;rfl
 |flt _=>obtain⟨t,rfl⟩:=r;rfl
 |ref _=>cases r;rfl
 |ty _=>cases r;rfl
theorem RelV.inj{x y:V}{u:JZ}(r:RelV x u)(q:RelV y u):x=y:=Jb (r.abs.symm.trans q.abs)
theorem Vals.inj:∀{xs ys:List V}{us:AZ},Vals xs us->Vals ys us->xs=ys
 |_,_,_,.nil,.nil=>rfl
 |_,_,_,.cons r t,.cons r' t'=>by rw[r.inj r',Vals.inj t t']
section
variable{X:Cx}{pins:List (J5×Obj)}{σ:St}{H:Hp}{s:J0}{a:J5}{xs ys:List V}
theorem SqL.of{K:Frag}(h:H a=O (.lst xs)):SqL K H a xs:=.inl (.inl h)
theorem SqT.of{K:Frag}(h:H a=O (.tup xs)):SqT K H a xs:=.inl (.inl h)
theorem Inv.list(I:Inv X pins σ H s)(h:SqL X.K H a xs):∃its:AZ,Vals xs its/\PlainL s.heap a its.toArray/\xs.length<=J8:=by
 rcases h with h|⟨o,its,n,hk,hc,hd,hs,hz,r⟩
 .obtain⟨z,its,n,r,e⟩:=h.ok I.hok
  exact⟨its,r,⟨_,n,e,rfl,rfl,rfl⟩,z⟩
 .refine⟨its.toList,r,⟨o,n,I.kIn a o hk,hc,hd,by simpa using hs⟩,?_⟩
  have e:=r.length;simp only[JP]at e;omega
theorem Inv.tuple(I:Inv X pins σ H s)(h:SqT X.K H a xs):∃its:AZ,Vals xs its/\IsTup s.heap a its.toArray/\xs.length<=J8:=by
 rcases h with h|⟨o,its,n,hk,hc,hs,hz,r⟩
 .obtain⟨z,its,r,p⟩:=h.ok I.hok
  exact⟨its,r,p,z⟩
 .refine⟨its.toList,r,⟨o,I.kIn a o hk,hc,n,by simpa using hs⟩,?_⟩
  have e:=r.length;simp only[JP]at e;omega
theorem Inv.list_inj(I:Inv X pins σ H s)(h:SqL X.K H a xs)(h':SqL X.K H a ys):xs=ys:=by
 obtain⟨its,r,⟨o,n,e,_,_,d⟩,_⟩:=I.list h;obtain⟨its',r',⟨o',n',e',_,_,d'⟩,_⟩:=I.list h';rw[e]at e';cases e';rw[d]at d';injection d' with d1 _
 have:its=its':=by simpa using congrArg Array.toList d1
 subst this;exact r.inj r'
theorem Inv.tuple_inj(I:Inv X pins σ H s)(h:SqT X.K H a xs)(h':SqT X.K H a ys):xs=ys:=by
 obtain⟨its,r,⟨o,e,_,n,d⟩,_⟩:=I.tuple h;obtain⟨its',r',⟨o',e',_,n',d'⟩,_⟩:=I.tuple h';rw[e]at e';cases e';rw[d]at d';injection d' with d1 _
 have:its=its':=by simpa using congrArg Array.toList d1
 subst this;exact r.inj r'
end
noncomputable abbrev Cx.wish(X:Cx)(E:JZ->J0->Prop):Cx:={X with xe:=E}
noncomputable abbrev Cx.nox(X:Cx):Cx:=X.wish λ_ _=>False
theorem Cx.Ok.wish{X:Cx}(ok:X.Ok)(E:JZ->J0->Prop):(X.wish E).Ok:=
 ⟨ok.mod,ok.kind,ok.glob,ok.blt,ok.above,ok.inj,ok.has,ok.cab,ok.hd,ok.frames,ok.stk,ok.exf,ok.bs,ok.bsz,ok.noex,ok.exfs,ok.funs,ok.frf⟩
theorem Cx.Ok.unwish{X:Cx}{E:JZ->J0->Prop}(ok:(X.wish E).Ok):X.Ok:=
 ⟨ok.mod,ok.kind,ok.glob,ok.blt,ok.above,ok.inj,ok.has,ok.cab,ok.hd,ok.frames,ok.stk,ok.exf,ok.bs,ok.bsz,ok.noex,ok.exfs,ok.funs,ok.frf⟩
section
variable{X:Cx}{pins:List (J5×Obj)}{σ:St}{H:Hp}{s:J0}{E:JZ->J0->Prop}
theorem Inv.wish(I:Inv X pins σ H s)(E:JZ->J0->Prop):Inv (X.wish E) pins σ H s:=⟨I.ok.wish E,I.os,I.bare,I.base,I.loc,I.cell,I.free,I.freeC,I.pin,I.hok,I.len⟩
theorem Inv.unwish(I:Inv (X.wish E) pins σ H s):Inv X pins σ H s:=⟨I.ok.unwish,I.os,I.bare,I.base,I.loc,I.cell,I.free,I.freeC,I.pin,I.hok,I.len⟩
theorem SP.unwish{D:Ends}{f:Flow}{s':J0}(h:SP (X.wish E) pins D f s'):SP X pins D f s':=by
 cases f with
 |next=>obtain⟨σ',H',I,q⟩:=h;exact⟨σ',H',I.unwish,q⟩
 |brk=>obtain⟨σ',H',I,q⟩:=h;exact⟨σ',H',I.unwish,q⟩
 |cont=>obtain⟨σ',H',I,q⟩:=h;exact⟨σ',H',I.unwish,q⟩
 |ret u=>obtain⟨v,σ',H',I,r,q⟩:=h;exact⟨v,σ',H',I.unwish,r,q⟩
theorem PSs.nox{st:List Stmt}{t:TS}(h:PSs X.nox st t):PSs X st t:=λpins s σ H D I hw=>
 Qy (h pins s σ H D (I.wish _) hw) (λ_ _ q=>q.unwish) λ_ _ z=>False.elim z
end
section
variable{X:Cx}{st:Stmt}{rest:List Stmt}{t u:TS}{e:J7}{te:TE}{pos:Pos}
noncomputable def Hw:TS:=λD σ H=>D.nx σ H
noncomputable def WO(t u:TS):TS:=λD σ H=>t {D with nx:=u D} σ H
theorem Di:PSs X [] Hw:=λ_ _ σ H _ I h=>Jv ⟨σ,H,I,h⟩
theorem Sb(h1:PS X st t)(h2:PSs X rest u):PSs X (st::rest) (WO t u):=by
 intro pins s σ H D I h;refine wpAny_execs_cons (thn (h1 pins s σ H {D with nx:=u D} I h) λf s1 q=>?_);cases f with
 |next=>obtain⟨σ',H',I',q⟩:=q;exact h2 pins s1 σ' H' D I' q
 |ret v=>exact q
 |brk=>exact q
 |cont=>exact q
theorem Tc(h1:PS X st t):PSs X [st] t:=by
 intro pins s σ H D I h;refine wpAny_execs_cons (thn (h1 pins s σ H D I h) λf s1 q=>?_);cases f with
 |next=>exact Jv q
 |ret v=>exact q
 |brk=>exact q
 |cont=>exact q
theorem Inv.quiet{pins:List (J5×Obj)}{σ:St}{H:Hp}{s:J0}(I:Inv X pins σ H s):interactive X.env=AX:=by simp[interactive,I.ok.kind]
noncomputable def TH(te:TE):TS:=λD σ H=>te σ H λ_ H1=>D.nx σ H1
theorem Vv(he:PE X e te)(hs:swapsWith e AV pos.line X.env=pure AX:=by rfl):PS X (.Expr e pos) (TH te):=by intro pins s σ H D I h;exact wpAny_Expr_any (thn (he pins s σ H _ I h) λv s1 ⟨x,H1,I1,r1,q1⟩=>⟨σ,H1,I1,q1⟩) I.quiet hs
noncomputable def tRet(te:TE):TS:=λD σ H=>te σ H D.rt
theorem SO(he:PE X e te):PS X (.Return (O e) pos) (tRet te):=by intro pins s σ H D I h;exact wpAny_Return_some (thn (he pins s σ H _ I h) λv s1 ⟨x,H1,I1,r1,q1⟩=>⟨x,σ,H1,I1,r1,q1⟩)
noncomputable def tIfS(c:TT)(t u:TS):TS:=λD σ H=>c σ H λb H1=>if b=AW then t D σ H1 else u D σ H1
theorem Hv{c:J7}{a b:List Stmt}{tc:TT}(hc:PT X c tc)(ha:PSs X a t)(hb:PSs X b u):PS X (.If c a b pos) (tIfS tc t u):=by
 intro pins s σ H D I h;refine wpAny_If (thn (hc pins s σ H _ I h) λd s1 ⟨H1,I1,q1⟩=>?_);cases d with
 |true=>exact ha pins s1 σ H1 D I1 q1
 |false=>exact hb pins s1 σ H1 D I1 q1
end
abbrev TG:=V->St->Hp->(St->Hp->Prop)->Prop
abbrev TGs:=List V->St->Hp->(St->Hp->Prop)->Prop
def PG(X:Cx)(target:J7)(t:TG):Prop:=
 ∀(pins:List (J5×Obj))(s:J0)(σ:St)(H:Hp)(v:V)(u:JZ)(Q:St->Hp->Prop),Inv X pins σ H s->RelV v u->t v σ H Q ->
  J9 (model X.prog X.w) X.A (assign target X.env u) (λ_ s'=>∃σ' H',Inv X pins σ' H' s'/\Q σ' H') X.xe s
def PGs(X:Cx)(ts:A3)(t:TGs):Prop:=
 ∀(pins:List (J5×Obj))(s:J0)(σ:St)(H:Hp)(vs:List V)(us:AZ)(Q:St->Hp->Prop),Inv X pins σ H s->Vals vs us->t vs σ H Q ->
  J9 (model X.prog X.w) X.A (assignInOrder ((Uq ts X.env).map (·.2)) us) (λ_ s'=>∃σ' H',Inv X pins σ' H' s'/\Q σ' H') X.xe s
section
variable{X:Cx}{pos:Pos}
noncomputable def SG(i:Nat):TG:=λv σ H Q=>Q (σ.set i (O v)) H
theorem Ox{i:Nat}{x:Str}(hN:X.N.Nodup)(hi:X.N[i]?=O x)(hx:Loc X.env.scope x)(hf:X.fn x=AW∨X.env.scope.names.lookup x=O .local:=by first|exact .inl rfl|exact .inr rfl|assumption):PG X (.Name x pos) (SG i):=by intro pins s σ H v u Q I r h;exact wpAny_assign_Name (Sc I hN hi hx r (λs' I'=>⟨_,H,I',h⟩) hf)
noncomputable def gNil:TGs:=λvs σ H Q=>vs=[]/\Q σ H
noncomputable def Hu(t:TG)(u:TGs):TGs:=λvs σ H Q=>∃v r,vs=v::r/\t v σ H λσ' H'=>u r σ' H' Q
theorem Dh:PGs X [] gNil:=by intro pins s σ H vs us Q I r h;obtain⟨e,h⟩:=h;subst e;cases r;exact assignInOrder_nil ⟨σ,H,I,h⟩
theorem DD{e:J7}{es:A3}{t:TG}{u:TGs}(h1:PG X e t)(h2:PGs X es u)
  (hs:(Uq (e::es) X.env).map (·.2)=assign e X.env::(Uq es X.env).map (·.2):=by rfl):PGs X (e::es) (Hu t u):=by
 intro pins s σ H vs us Q I r h;obtain⟨v,vr,e1,h⟩:=h;subst e1;cases r with
 |cons r rr=>rw[hs];refine assignInOrder_cons (thn (h1 pins s σ H _ _ _ I r h) λ_ s1 ⟨σ1,H1,I1,q1⟩=>?_);exact h2 pins s1 σ1 H1 _ _ Q I1 rr q1
noncomputable def gTup(K:Frag)(n:Nat)(t:TGs):TG:=λv σ H Q=>∃a xs,v=.ref a/\SqT K H a xs/\xs.length=n/\t xs σ H Q
theorem HP{es:A3}{k:Nat}{t:TGs}{n:Nat}(hc:X.calm=AW)(h:PGs X es t)
  (hn:(Uq es X.env).length=n:=by rfl) (hst:(Uq es X.env).findIdx? (·.1)=AV:=by rfl):PG X (.Tuple es k pos) (gTup X.K n t):=by
 intro pins s σ H v u Q I r hw;obtain⟨a,xs,e1,hq,hl,hw⟩:=hw;subst e1;cases r;obtain⟨its,rv,ht,hz⟩:=I.tuple hq;refine assign_Tuple_tuple (I.ok.hd hc) ht (by simp[hn,←hl,rv.length]) hst λh' hx=>?_
 have I1:Inv X pins σ H {s with heap:=h'}:=I.kept (t':=s.toks) λb o e=>hx b o (QO (Qh e)) e;exact h pins _ σ H xs _ Q I1 (by simpa using rv) hw
noncomputable def tAsg(te:TE)(g:TG):TS:=λD σ H=>te σ H λx H1=>g x σ H1 D.nx
theorem HN{tg e:J7}{te:TE}{g:TG}(he:PE X e te)(hg:PG X tg g)(hs:swapsWithSole [tg] e pos.line X.env=pure AX:=by rfl)(hw:swappedStores [tg] e X.env=pure AV:=by rfl)
  (h1:(Uq [tg] X.env).map (·.2)=[assign tg X.env]:=by rfl):PS X (.Assign [tg] e pos) (tAsg te g):=by
 intro pins s σ H D I h;refine wpAny_Assign_stores (thn (he pins s σ H _ I h) λv s1 ⟨x,H1,I1,r1,q1⟩=>?_) hs hw;rw[h1];exact thn (hg pins s1 σ H1 x v _ I1 r1 q1) λ_ s2 q=>q
theorem SN{i:Nat}{x:Str}{e:J7}{te:TE}{pos':Pos}(hN:X.N.Nodup)(hi:X.N[i]?=O x)(hx:Loc X.env.scope x)(he:PE X e te)(hs:swapsWith e (O (.Name x pos')) pos.line X.env=pure AX:=by rfl)(hf:X.fn x=AW∨X.env.scope.names.lookup x=O .local:=by first|exact .inl rfl|exact .inr rfl|assumption) :
  PS X (.Assign [.Name x pos'] e pos) (tAsg te (SG i)):=by
 intro pins s σ H D I h;refine wpAny_Assign_Name (thn (he pins s σ H _ I h) λv s1 ⟨y,H1,I1,r1,q1⟩=>?_) hs;exact Sc I1 hN hi hx r1 (λs2 I2=>⟨_,H1,I2,q1⟩) hf
end
structure It where
 go:Nat->Hp->Prop
 yld:Nat->Hp->V->Hp->Prop
 stop:Nat->Hp->Prop
def KJ(X:Cx)(pins:List (J5×Obj))(H:Hp)(b:J5):Prop:=
 H b=AV/\b≠X.env.locals/\b∉X.fs/\(b∈X.ex∨X.s₀.heap.objs.size<=b)/\(∀x c,X.env.cells.lookup x=O c->c≠b)/\∀p∈X.pn++pins,p.1≠b
theorem Inv.fpOk{X:Cx}{pins:List (J5×Obj)}{σ:St}{H H':Hp}{s:J0}{b:J5}(I:Inv X pins σ H s)(hb:s.heap.objs.size<=b)(hn:H' b=AV):KJ X pins H' b:=by
 refine⟨hn,Jq (QG I.lt hb),I.nofs hb,.inr (Qv I.sz hb),λx c e z=>?_,λp hp z=>?_⟩
 .obtain⟨v,q⟩:=I.cell x c e
  exact absurd (QG q.lt (by rw[z];exact hb)) (Jz _)
 .exact absurd (QG (Qh (I.pin p hp).1) (by rw[z];exact hb)) (Jz _)
structure Turn(P:J4)(w:World)(K:Frag)(tg:J7)(J:It)(fp:A5)(it:J5)(tn:Nat->Heap->Prop):Prop where
 mem:it∈fp
 obj:∀i h,tn i h->∀b∈fp,∃o,h.get? b=O o/\∀v,o.data≠.cell v
 keep:∀i h h',tn i h->(∀b∈fp,∀o,h.get? b=O o->h'.get? b=O o)->tn i h'
 item:∀(X:Cx),X.prog=P->X.w=w->X.K=K->X.calm=AW->∀(i:Nat)(pins:List (J5×Obj))(s:J0)(σ:St)(H:Hp)(E:JZ->J0->Prop),Inv X pins σ H s->(∀b∈fp,KJ X pins H b)->tn i s.heap->J.go i H ->
  J9 (model P w) X.A (pyNext (.ref it)) (λr s1=>∃u,r=O u /\
   J9 (model P w) X.A (letOwnedTupleGo tg (.ref it) u) (λ_ s2=>∃x H',Inv X pins σ H' s2/\RelV x u/\J.yld i H x H'/\tn (i+1) s2.heap/\∀b∈fp,H' b=AV) E s1) E s
 done:∀(X:Cx),X.prog=P->X.w=w->X.K=K->X.calm=AW->∀(i:Nat)(pins:List (J5×Obj))(s:J0)(σ:St)(H:Hp)(E:JZ->J0->Prop),Inv X pins σ H s->(∀b∈fp,KJ X pins H b)->tn i s.heap->J.stop i H ->
  J9 (model P w) X.A (pyNext (.ref it)) (λr s1=>r=AV/\Inv X pins σ H s1) E s
 self:∀(A:Around)(i:Nat)(s:J0)(Q:JZ->J0->Prop)(E:JZ->J0->Prop),tn i s.heap->Q (.ref it) s->J9 (model P w) A (pyIter (.ref it)) Q E s
abbrev TI:=St->Hp->(It->Hp->Prop)->Prop
def PIE(X:Cx)(pins:List (J5×Obj))(σ:St)(tg:J7)(R:It->Hp->Prop)(itv:JZ)(s2:J0):Prop:=
 ∃(it:J5)(fp:A5)(tn:Nat->Heap->Prop)(J:It)(H':Hp),itv=.ref it/\Inv X pins σ H' s2/\Turn X.prog X.w X.K tg J fp it tn/\tn 0 s2.heap/\(∀b∈fp,KJ X pins H' b)/\R J H'
def PI(X:Cx)(tg iter:J7)(wi:TI):Prop:=
 ∀(pins:List (J5×Obj))(s:J0)(σ:St)(H:Hp)(R:It->Hp->Prop),Inv X pins σ H s->wi σ H R ->
  J9 (model X.prog X.w) X.A (eval iter X.env) (λv s1=>J9 (model X.prog X.w) X.A (pyIter v) (PIE X pins σ tg R) X.xe s1) X.xe s
theorem VU{M:Model}{A:Around}{E:JZ->J0->Prop}{s:J0}{tg:J7}{it:J5}{u:JZ}{o:Obj}{n:String}{vs:Array JZ}{Q:Unit->J0->Prop}(ho:s.heap.get? it=O o)(hc:o.cls=.type n)(hd:o.data=.fields vs)
  (hn:["enumerate", "zip", "dict_itemiterator", "dict_reverseitemiterator", "odict_iterator", "itertools.zip_longest", "itertools.pairwise"].contains n=AX) (hQ:Q () s):J9 M A (letOwnedTupleGo tg (.ref it) u) Q E s:=by
 unfold letOwnedTupleGo
 cases tg<;>first
  |exact Qf hQ
  |(cases u<;>first
    |exact Qf hQ
    |(
      refine Qb (wpAny_load ho ?_);rw[hc,hd];show J9 M A (if(["enumerate", "zip", "dict_itemiterator", "dict_reverseitemiterator", "odict_iterator", "itertools.zip_longest", "itertools.pairwise"].contains n&&vs[0]?==O (rawInt _))=AW then _ else _) Q E s;rw[QD (by intro h;rw[hn,Bool.false_and]at h;cases h)];exact Qf hQ))
noncomputable def Itl(K:Frag)(a:J5):It:=
 ⟨λi H=>∃xs x,SqL K H a xs/\xs[i]?=O x,λi H x H'=>H'=H/\∀xs,SqL K H a xs->xs[i]?=O x,λi H=>∃xs,SqL K H a xs/\xs.length<=i⟩
noncomputable def Itt(K:Frag)(a:J5):It:=
 ⟨λi H=>∃xs x,SqT K H a xs/\xs[i]?=O x,λi H x H'=>H'=H/\∀xs,SqT K H a xs->xs[i]?=O x,λi H=>∃xs,SqT K H a xs/\xs.length<=i⟩
noncomputable def Itr(lo:Int)(n:Nat):It:=⟨λi _=>i<n,λi H x H'=>H'=H/\x=.int (lo+i),λi _=>n<=i⟩
theorem BK{P:J4}{w:World}{K:Frag}{tg:J7}(a it:J5):Turn P w K tg (Itl K a) [it] it (λi h=>h.IsListIter it a i) where
 mem:=by simp
 obj:=λi h st b hb=>by
  have e:b=it:=by simpa using hb
  subst e;obtain⟨o,e,c,d⟩:=st;exact⟨o,e,λv z=>by rw[d]at z;cases z⟩
 keep:=λi h h' st k=>st.at λo e=>k it (by simp) o e
 item:=by
  intro X hP hw hK hc i pins s σ H E I hf st hg;subst hP hw hK;obtain⟨xs,x,hq,hx⟩:=hg;obtain⟨its,rv,p,hz⟩:=I.list hq;obtain⟨u,hu,ru⟩:=rv.get hx;obtain⟨f0,f1,f2,f3,f4,f5⟩:=hf it (by simp);refine wpAny_pyNext_list_item st p.isList (x:=u) (by simpa using hu) λh' st' sb=>?_
  have I1:Inv X pins σ H {s with heap:=h'}:=I.turned (t':=s.toks) (λb o hb e=>(sb.2 b hb).trans e) f0 f1 f3 f4 f5;obtain⟨o,e,c,d⟩:=id st';exact⟨u,rfl,VU (s:={s with heap:=h'}) e c d (by decide) ⟨x,H,I1,ru,⟨rfl,λys hy=>by rw[I.list_inj hy hq];exact hx⟩,st',λb hb=>(hf b hb).1⟩⟩
 done:=by intro X hP hw hK hc i pins s σ H E I hf st hg;subst hP hw hK;obtain⟨xs,hq,hx⟩:=hg;obtain⟨its,rv,p,hz⟩:=I.list hq;obtain⟨f0,f1,f2,f3,f4,f5⟩:=hf it (by simp);have hl:=rv.length;exact wpAny_pyNext_list_end (I.ok.hd hc) st p.isList (by simp;omega) λh' eb=>⟨rfl,I.turned (t':=s.toks) (λb o hb e=>eb b o hb e) f0 f1 f3 f4 f5⟩
 self:=λ_ _ _ _ _ st h=>wpAny_pyIter_listiter st h
theorem Ae{P:J4}{w:World}{K:Frag}{tg:J7}(a it:J5):Turn P w K tg (Itt K a) [it] it (λi h=>h.IsTupleIter it a i) where
 mem:=by simp
 obj:=λi h st b hb=>by
  have e:b=it:=by simpa using hb
  subst e;obtain⟨o,e,c,d⟩:=st;exact⟨o,e,λv z=>by rw[d]at z;cases z⟩
 keep:=λi h h' st k=>st.at λo e=>k it (by simp) o e
 item:=by
  intro X hP hw hK hc i pins s σ H E I hf st hg;subst hP hw hK;obtain⟨xs,x,hq,hx⟩:=hg;obtain⟨its,rv,p,hz⟩:=I.tuple hq;obtain⟨u,hu,ru⟩:=rv.get hx;obtain⟨f0,f1,f2,f3,f4,f5⟩:=hf it (by simp);refine wpAny_pyNext_tuple_item st (show s.heap.IsTuple a its.toArray from p) (x:=u) (by simpa using hu) λh' st' sb=>?_
  have I1:Inv X pins σ H {s with heap:=h'}:=I.turned (t':=s.toks) (λb o hb e=>(sb.2 b hb).trans e) f0 f1 f3 f4 f5;obtain⟨o,e,c,d⟩:=id st';exact⟨u,rfl,VU (s:={s with heap:=h'}) e c d (by decide) ⟨x,H,I1,ru,⟨rfl,λys hy=>by rw[I.tuple_inj hy hq];exact hx⟩,st',λb hb=>(hf b hb).1⟩⟩
 done:=by intro X hP hw hK hc i pins s σ H E I hf st hg;subst hP hw hK;obtain⟨xs,hq,hx⟩:=hg;obtain⟨its,rv,p,hz⟩:=I.tuple hq;obtain⟨f0,f1,f2,f3,f4,f5⟩:=hf it (by simp);have hl:=rv.length;exact wpAny_pyNext_tuple_end (I.ok.hd hc) st (show s.heap.IsTuple a its.toArray from p) (by simp;omega) λh' eb=>⟨rfl,I.turned (t':=s.toks) (λb o hb e=>eb b o hb e) f0 f1 f3 f4 f5⟩
 self:=λ_ _ _ _ _ st h=>wpAny_pyIter_tupleiter st h
theorem Ad{P:J4}{w:World}{K:Frag}{tg:J7}(it:J5)(lo:Int)(n:Nat):Turn P w K tg (Itr lo n) [it] it (λi h=>IsRangeIter h it (lo+(i:Nat)*1) ((n:Int)-(i:Nat)) 1) where
 mem:=by simp
 obj:=λi h st b hb=>by
  have e:b=it:=by simpa using hb
  subst e;exact⟨_,st,λv z=>by have z':Data.fields _=Data.cell v:=z;cases z'⟩
 keep:=λi h h' st k=>k it (by simp) _ st
 item:=by
  intro X hP hw hK hc i pins s σ H E I hf st hg;subst hP hw hK;obtain⟨f0,f1,f2,f3,f4,f5⟩:=hf it (by simp);have W:=Walks.range (prog:=X.prog) (w:=X.w) (I.ok.hd hc) it lo 1 n;refine W.item i s _ _ hg st λv h' tk hv st' kk=>?_
  obtain⟨t,rfl⟩:=hv;have I1:Inv X pins σ H {s with heap:=h',toks:=tk}:=I.turned (λb o hb e=>kk b o (by simpa using hb) e) f0 f1 f3 f4 f5;refine⟨_,rfl,VU (s:={s with heap:=h',toks:=tk}) (n:= "range_iterator") st' AU AU (by decide) ⟨.int (lo+i),H,I1,⟨t,?_⟩,⟨rfl,rfl⟩,st',λb hb=>(hf b hb).1⟩⟩;rw[Int.mul_one]
 done:=by intro X hP hw hK hc i pins s σ H E I hf st hg;subst hP hw hK;obtain⟨f0,f1,f2,f3,f4,f5⟩:=hf it (by simp);exact wpAny_pyNext_range_end (I.ok.hd hc) st (by have:n<=i:=hg;omega) λh' eb=>⟨rfl,I.turned (t':=s.toks) (λb o hb e=>eb b o hb e) f0 f1 f3 f4 f5⟩
 self:=λ_ _ _ _ _ st h=>wpAny_pyIter_rangeiter st h
section
variable{X:Cx}{tg:J7}
theorem OO{pins:List (J5×Obj)}{σ:St}{H:Hp}{s:J0}{R:It->Hp->Prop}{E:JZ->J0->Prop}{lo hi:Int}{t u v:Tok}{tk:Nat}(I:Inv X pins σ H s)(h1 : -(2 ^ 62)<=lo)(h2:lo<2 ^ 62)(h3 : -(2 ^ 62)<=hi)(h4:hi<2 ^ 62)
  (q:R (Itr lo (hi-lo).toNat) H):J9 (model X.prog X.w) X.A (pyIter (.ref s.heap.objs.size)) (PIE X pins σ tg R) E {s with heap:=s.heap.push {cls:=.type "range", data:=.fields #[.int lo t,.int hi u,.int 1 v]},toks:=tk}:=by
 refine wpAny_pyIter_range (IsRange.new ..) (small_one h1 h2 h3 h4) ?_;have I1:Inv X pins σ H {s with heap:=s.heap.push {cls:=.type "range", data:=.fields #[.int lo t,.int hi u,.int 1 v]},toks:=tk}:=I.kept λb o e=>Qe _ e
 refine⟨(s.heap.push {cls:=.type "range", data:=.fields #[.int lo t,.int hi u,.int 1 v]}).objs.size,[(s.heap.push {cls:=.type "range", data:=.fields #[.int lo t,.int hi u,.int 1 v]}).objs.size],_,_,H,rfl,
  I1.kept (t':=tk) λb o e=>Qe _ e,Ad _ lo (hi-lo).toNat,?_,λb hb=>?_,q⟩
 .have e1:lo+((0:Nat):Int)*1=lo:=by simp
  have e2:(((hi-lo).toNat:Nat):Int)-((0:Nat):Int)=Builtin.Range.rangeSize lo hi 1:=by rw[rangeSize_one];split<;>omega
  show IsRangeIter _ _ (lo+((0:Nat):Int)*1) ((((hi-lo).toNat:Nat):Int)-((0:Nat):Int)) 1;rw[e1,e2];exact QE _ AU
 .have e:b=(s.heap.push {cls:=.type "range", data:=.fields #[.int lo t,.int hi u,.int 1 v]}).objs.size:=by simpa using hb
  subst e;exact I1.fpOk (Qq _) (I1.hok.fresh (Qq _))
noncomputable def Ht(ta:TA):TI:=λσ H R=>ta σ H λvs H1=>∃j:Int,vs=[.int j] /\ -(2 ^ 62)<=j/\j<2 ^ 62/\R (Itr 0 j.toNat) H1
noncomputable def Hs(ta:TA):TI:=λσ H R=>ta σ H λvs H1=>∃i j:Int,vs=[.int i,.int j]/\(-(2 ^ 62)<=i/\i<2 ^ 62 /\ -(2 ^ 62)<=j/\j<2 ^ 62)/\R (Itr i (j-i).toNat) H1
theorem BJ{a:J7}{ta:TA}{p pos:Pos}(hg:Gl X "range")(hm:X.mg "range" = AV)(ha:PA X [a] ta)(hs:Ua [a] X.env=[(AX,eval a X.env)]:=by rfl):PI X tg (.Call (.Name "range" p) [a] [] pos) (Ht ta):=by
 intro pins s σ H R I h;refine Call_ (Wk I hg hm boot_range (Jp (thn (ha pos pins s σ H _ I h) λus s1 ⟨vs,H1,I1,r1,q1⟩=>?_) hs AU));obtain⟨j,e,q1,q2,q⟩:=q1;subst e;cases r1 with
 |cons r rr=>cases rr;obtain⟨t,rfl⟩:=r;exact call_range_1 (OO I1 (by omega) (by omega) q1 q2 (by simpa using q))
theorem BI{a b:J7}{ta:TA}{p pos:Pos}(hg:Gl X "range")(hm:X.mg "range" = AV)(ha:PA X [a,b] ta)(hs:Ua [a,b] X.env=[(AX,eval a X.env),(AX,eval b X.env)]:=by rfl)(hs2:Ua [b] X.env=[(AX,eval b X.env)]:=by rfl) :
  PI X tg (.Call (.Name "range" p) [a,b] [] pos) (Hs ta):=by
 intro pins s σ H R I h;refine Call_ (Wk I hg hm boot_range (Jp (thn (ha pos pins s σ H _ I h) λus s1 ⟨vs,H1,I1,r1,q1⟩=>?_) (by rw[hs,hs2]) (by rw[hs2];rfl)));obtain⟨i,j,e,⟨q1,q2,q3,q4⟩,q⟩:=q1;subst e;cases r1 with
 |cons r rr=>
  cases rr with
  |cons r' rr=>cases rr;obtain⟨t,rfl⟩:=r;obtain⟨t',rfl⟩:=r';exact call_range_2 (OO I1 q1 q2 q3 q4 q)
noncomputable def tFor(wi:TI)(g:TG)(tb:TS):TS:=λD σ H=>wi σ H λJ H1=>∃W:Nat->Nat->St->Hp->Prop,(∃m,W 0 m σ H1)/\∀i m σ H,W i m σ H ->
 (J.stop i H/\D.nx σ H)∨(J.go i H/\∃N:St->Hp->Prop,(∀σ' H',N σ' H'->∃m',m'<m/\W (i+1) m' σ' H')/\∀x H',J.yld i H x H'->g x σ H' λσ2 H2=>tb {D with nx:=N,ct:=N,bk:=D.nx} σ2 H2)
noncomputable def VW(fp:A5)(h:Heap):List (J5×Obj):=fp.filterMap λb=>(h.get? b).map λo=>(b,o)
theorem Sm{fp:A5}{h:Heap}{b:J5}{o:Obj}(hb:b∈fp)(e:h.get? b=O o):(b,o)∈VW fp h:=List.mem_filterMap.mpr ⟨b,hb,by rw[e];rfl⟩
theorem BH{fp:A5}{h:Heap}{p:J5×Obj}(hp:p∈VW fp h):p.1∈fp/\h.get? p.1=O p.2:=by
 obtain⟨b,hb,e⟩:=List.mem_filterMap.mp hp;cases q:h.get? b with
 |none=>rw[q]at e;cases e
 |some o=>rw[q]at e;have e':(b,o)=p:=Jb e;subst e';exact⟨hb,q⟩
theorem Inv.pinned{pins:List (J5×Obj)}{σ:St}{H:Hp}{s:J0}{fp:A5}(I:Inv X pins σ H s)(hf:∀b∈fp,KJ X pins H b)(ho:∀b∈fp,∃o,s.heap.get? b=O o/\∀v,o.data≠.cell v):Inv X (pins++VW fp s.heap) σ H s:=
 I.pins_of λp hp=>(Jd.mp hp).elim (λz=>I.pin p (QP _ z)) λz=>by obtain⟨hb,e⟩:=BH z;obtain⟨f0,f1,f2,_⟩:=hf p.1 hb;obtain⟨o,e',d⟩:=ho p.1 hb;rw[e]at e';cases e';exact⟨e,f0,f1,f2,d⟩
theorem Inv.unpinned{pins pl:List (J5×Obj)}{σ:St}{H:Hp}{s:J0}(I:Inv X (pins++pl) σ H s):Inv X pins σ H s:=I.pins_of λp hp=>I.pin p (QP _ (JG _ hp))
theorem HM{iter:J7}{body:List Stmt}{wi:TI}{g:TG}{tb:TS}{pos:Pos}(hp:PassesOwn (model X.prog X.w) X.A X.env X.xe)(hc:X.calm=AW)(hi:PI X tg iter wi)(hg:PG X tg g)(hb:PSs X body tb)
  (hs:∀x,Ur iter X.env x=pure x:=by intro _;rfl):PS X (.For tg iter body [] pos) (tFor wi g tb):=by
 intro pins s σ H D I h;refine wpAny_For (thn (hi pins s σ H _ I h) λv s1 h1=>thn h1 λitv s2 h2=>?_) hs;obtain⟨it,fp,tn,J,H2,e,I2,T,st2,f2,W,⟨m0,w0⟩,turn⟩:=h2;subst e;have stat:∀{H':Hp},(∀b∈fp,H' b=AV)->∀b∈fp,KJ X pins H' b:=λhn b hb=>⟨hn b hb,(f2 b hb).2⟩;refine codeAny_forLoop_any (λn s'=>∃i σ' H',Inv X pins σ' H' s'/\tn i s'.heap/\(∀b∈fp,H' b=AV)/\W i n σ' H') ?_ m0 ⟨0,σ,H2,I2,st2,λb hb=>(f2 b hb).1,w0⟩;rintro n s3 ⟨i,σ3,H3,I3,st3,fr3,w3⟩;rcases turn i n σ3 H3 w3 with ⟨stop,qn⟩|⟨go,N,hN,step⟩
 .refine wpAny_passesOwn hp (thn (T.done X AU AU AU hc i pins s3 σ3 H3 X.xe I3 (stat fr3) st3 stop) λr s4 ⟨hr,I4⟩=>?_)
  subst hr;exact Jv ⟨σ3,H3,I4,qn⟩
 .refine wpAny_passesOwn hp (thn (T.item X AU AU AU hc i pins s3 σ3 H3 X.xe I3 (stat fr3) st3 go) λr s4 ⟨u,hr,h4⟩=>?_)
  subst hr;refine wpAny_passesOwn hp (thn h4 λ_ s5 ⟨x,H5,I5,r5,y5,jc,fr5⟩=>?_);have I5':=I5.pinned (stat fr5) (T.obj _ _ jc);refine wpAny_passesOwn hp (thn (hg _ s5 σ3 H5 x u _ I5' r5 (step x H5 y5)) λ_ s6 ⟨σ6,H6,I6,q6⟩=>?_);refine wpAny_passesOwn hp (thn (hb _ s6 σ6 H6 _ I6 q6) λf s7 q7=>?_);have again:∀{σ7:St}{H7:Hp},Inv X (pins++VW fp s5.heap) σ7 H7 s7->N σ7 H7->∃m,m<n/\∃i σ' H',Inv X pins σ' H' s7/\tn i s7.heap/\(∀b∈fp,H' b=AV)/\W i m σ' H':=λ{σ7 H7} I7 n7=>by obtain⟨m',hm,w7⟩:=hN σ7 H7 n7;refine⟨m',hm,i+1,σ7,H7,I7.unpinned,T.keep _ _ _ jc λb hb o e=>(I7.pin (b,o) (QP _ (QP _ (Sm hb e)))).1,λb hb=>?_,w7⟩;obtain⟨o,e,d⟩:=T.obj _ _ jc b hb;exact(I7.pin (b,o) (QP _ (QP _ (Sm hb e)))).2.1
  cases f with
  |next=>obtain⟨σ7,H7,I7,n7⟩:=q7;exact again I7 n7
  |cont=>obtain⟨σ7,H7,I7,n7⟩:=q7;exact again I7 n7
  |brk=>obtain⟨σ7,H7,I7,q7⟩:=q7;exact⟨σ7,H7,I7.unpinned,q7⟩
  |ret v=>obtain⟨x7,σ7,H7,I7,r7,q7⟩:=q7;exact⟨x7,σ7,H7,I7.unpinned,r7,q7⟩
end
abbrev R2:=V->V->Hp->VK->Prop
def OpR(X:Cx)(f:JZ->JZ->Sem JZ)(r:R2):Prop:=
 ∀(pins:List (J5×Obj))(s:J0)(σ:St)(H:Hp)(x y:V)(v u:JZ)(Q:VK),Inv X pins σ H s->RelV x v->RelV y u->r x y H Q ->
  J9 (model X.prog X.w) X.A (f v u) (EP X pins σ Q) X.xe s
def UnR(X:Cx)(f:JZ->Sem JZ)(r:V->Hp->VK->Prop):Prop:=
 ∀(pins:List (J5×Obj))(s:J0)(σ:St)(H:Hp)(x:V)(v:JZ)(Q:VK),Inv X pins σ H s->RelV x v->r x H Q ->
  J9 (model X.prog X.w) X.A (f v) (EP X pins σ Q) X.xe s
def Zx(X:Cx)(f:JZ)(r:List V->Hp->VK->Prop):Prop:=
 ∀(pins:List (J5×Obj))(s:J0)(σ:St)(H:Hp)(xs:List V)(us:AZ)(Q:VK),Inv X pins σ H s->Vals xs us->r xs H Q ->
  J9 (model X.prog X.w) X.A (call f us) (EP X pins σ Q) X.xe s
noncomputable def tOp(r:R2)(ta tb:TE):TE:=λσ H Q=>ta σ H λx H1=>tb σ H1 λy H2=>r x y H2 Q
noncomputable def tUn(r:V->Hp->VK->Prop)(ta:TE):TE:=λσ H Q=>ta σ H λx H1=>r x H1 Q
noncomputable def rI(C:Int->Int->Prop)(g:Int->Int->V):R2:=λx y H Q=>∃i j,x=.int i/\y=.int j/\C i j/\Q (g i j) H
noncomputable def rI0(g:Int->Int->V):R2:=λx y H Q=>∃i j,x=.int i/\y=.int j/\Q (g i j) H
noncomputable def rU(g:Int->V):V->Hp->VK->Prop:=λx H Q=>∃i,x=.int i/\Q (g i) H
section
variable{X:Cx}{a b c:J7}{ta tb tc:TE}{pos:Pos}
theorem Vg(ha:PE X a ta)(hb:PE X b tb){pins:List (J5×Obj)}{s:J0}{σ:St}{H:Hp}{R:V->V->Hp->Prop}(I:Inv X pins σ H s)
  (h:ta σ H λx H1=>tb σ H1 λy H2=>R x y H2) {Q:JZ->J0->Prop} {f:JZ->JZ->Sem JZ}
  (hf:∀v u s2 x y H2,Inv X pins σ H2 s2->RelV x v->RelV y u->R x y H2->J9 (model X.prog X.w) X.A (f v u) Q X.xe s2) :
  J9 (model X.prog X.w) X.A (eval a X.env) (λv s₁=>J9 (model X.prog X.w) X.A (eval b X.env) (λu s₂=>J9 (model X.prog X.w) X.A (f v u) Q X.xe s₂) X.xe s₁) X.xe s:=by
 refine thn (ha pins s σ H _ I h) λv s1 ⟨x,H1,I1,r1,q1⟩=>?_;refine thn (hb pins s1 σ H1 _ I1 q1) λu s2 ⟨y,H2,I2,r2,q2⟩=>?_;exact hf v u s2 x y H2 I2 r1 r2 q2
theorem R8{op:Operator}{r:R2}(ho:OpR X (binaryOp op) r)(ha:PE X a ta)(hb:PE X b tb):PE X (.BinOp a op b pos) (tOp r ta tb):=by intro pins s σ H Q I h;exact wpAny_BinOp (Vg ha hb I h λv u s2 x y H2 I2 rx ry q=>ho pins s2 σ H2 x y v u Q I2 rx ry q)
theorem Hr{op:UnaryOp}{r:V->Hp->VK->Prop}(ho:UnR X (unaryOp op) r)(ha:PE X a ta):PE X (.UnaryOp op a pos) (tUn r ta):=by intro pins s σ H Q I h;exact UnaryOp_ (thn (ha pins s σ H _ I h) λv s1 ⟨x,H1,I1,r1,q1⟩=>ho pins s1 σ H1 x v Q I1 r1 q1)
theorem opI{f:JZ->JZ->Sem JZ}{C:Int->Int->Prop}{g:Int->Int->Int}
  (rule:∀(i j:Int)(t u:Tok)(s:J0)(Q:JZ->J0->Prop)(E:JZ->J0->Prop),C i j->Q (.int (g i j) s.toks) {s with toks:=s.toks+1}->J9 (model X.prog X.w) X.A (f (.int i t) (.int j u)) Q E s) :
  OpR X f (rI C λi j=>.int (g i j)):=by
 intro pins s σ H x y v u Q I rx ry h;obtain⟨i,j,rfl,rfl,hc,q⟩:=h;obtain⟨t,rfl⟩:=rx;obtain⟨t',rfl⟩:=ry;exact rule i j t t' s _ _ hc ⟨.int (g i j),H,I.tok _,⟨_,rfl⟩,q⟩
theorem opI0{f:JZ->JZ->Sem JZ}{g:Int->Int->Int}
  (rule:∀(i j:Int)(t u:Tok)(s:J0)(Q:JZ->J0->Prop)(E:JZ->J0->Prop),Q (.int (g i j) s.toks) {s with toks:=s.toks+1}->J9 (model X.prog X.w) X.A (f (.int i t) (.int j u)) Q E s) :
  OpR X f (rI0 λi j=>.int (g i j)):=by
 intro pins s σ H x y v u Q I rx ry h;obtain⟨i,j,rfl,rfl,q⟩:=h;obtain⟨t,rfl⟩:=rx;obtain⟨t',rfl⟩:=ry;exact rule i j t t' s _ _ ⟨.int (g i j),H,I.tok _,⟨_,rfl⟩,q⟩
theorem Xz{f:JZ->JZ->Sem JZ}{g:Int->Int->Bool}
  (rule:∀(i j:Int)(t u:Tok)(s:J0)(Q:JZ->J0->Prop)(E:JZ->J0->Prop),Q (.bool (g i j)) s->J9 (model X.prog X.w) X.A (f (.int i t) (.int j u)) Q E s) :
  OpR X f (rI0 λi j=>.bl (g i j)):=by
 intro pins s σ H x y v u Q I rx ry h;obtain⟨i,j,rfl,rfl,q⟩:=h;obtain⟨t,rfl⟩:=rx;obtain⟨t',rfl⟩:=ry;exact rule i j t t' s _ _ ⟨.bl (g i j),H,I,rfl,q⟩
def CPow(i j:Int):Prop:=0<=j/\j<=1000000/\i.natAbs<2 ^ 64
def CMul(i j:Int):Prop:=(-(2 ^ 64)<i/\i<2 ^ 64)∨(-(2 ^ 64)<j/\j<2 ^ 64)
theorem CMul.ok{i j:Int}(h:CMul i j):IntMulOk i j:=by
 rcases h with ⟨h1,h2⟩|⟨h1,h2⟩
 .exact .of_left (intBits_le_64 h1 h2)
 .exact .of_right (intBits_le_64 h1 h2)
theorem HL:OpR X (binaryOp .Add) (rI0 λi j=>.int (i+j)):=opI0 λ_ _ _ _ _ _ _ q=>add_int q
theorem HK:OpR X (binaryOp .Sub) (rI0 λi j=>.int (i-j)):=opI0 λ_ _ _ _ _ _ _ q=>sub_int q
theorem HJ:OpR X (binaryOp .Mult) (rI CMul λi j=>.int (i*j)):=opI λ_ _ _ _ _ _ _ hc q=>mul_int q hc.ok
theorem HI:OpR X (binaryOp .Mod) (rI (λ_ j=>0<j) λi j=>.int (i % j)):=opI λi j _ _ _ _ _ hc q=>by have h1:(0:Int)<j:=hc;exact mod_int' (by omega) (by rw[Int.fmod_eq_emod_of_nonneg i (by omega)];exact q)
theorem HH:OpR X (binaryOp .Pow) (rI CPow λi j=>.int (i ^ j.toNat)):=opI λ_ _ _ _ _ _ _ hc q=>pow_int_small hc.1 hc.2.1 hc.2.2 q
theorem unI{f:JZ->Sem JZ}{g:Int->Int}
  (rule:∀(i:Int)(t:Tok)(s:J0)(Q:JZ->J0->Prop)(E:JZ->J0->Prop),Q (.int (g i) s.toks) {s with toks:=s.toks+1}->J9 (model X.prog X.w) X.A (f (.int i t)) Q E s) :
  UnR X f (rU λi=>.int (g i)):=by
 intro pins s σ H x v Q I rx h;obtain⟨i,rfl,q⟩:=h;obtain⟨t,rfl⟩:=rx;exact rule i t s _ _ ⟨.int (g i),H,I.tok _,⟨_,rfl⟩,q⟩
theorem HG:UnR X (unaryOp .USub) (rU λi=>.int (-i)):=unI λ_ _ _ _ _ q=>neg_int q
end
section
variable{X:Cx}{a b c:J7}{ta tb tc:TE}{pos:Pos}
theorem HF{pins:List (J5×Obj)}{σ:St}{H:Hp}{s:J0}{Q:VK}{k k':Bool}(I:Inv X pins σ H s)(q:Q (.bl k) H)(e:k=k'):EP X pins σ Q (.bool k') s:=by subst e;exact⟨.bl k,H,I,rfl,q⟩
theorem Hq:OpR X (Ub .Lt) (rI0 λi j=>.bl (decide (i<j))):=Xz λ_ _ _ _ _ _ _ q=>lt_int q
theorem Hn:OpR X (Ub .LtE) (rI0 λi j=>.bl (decide (i<=j))):=Xz λ_ _ _ _ _ _ _ q=>le_int q
theorem Hm:OpR X (Ub .Gt) (rI0 λi j=>.bl (decide (j<i))):=Xz λ_ _ _ _ _ _ _ q=>gt_int q
theorem Hl:OpR X (Ub .GtE) (rI0 λi j=>.bl (decide (j<=i))):=Xz λ_ _ _ _ _ _ _ q=>ge_int q
theorem BG:OpR X (Ub .In) (λx y H Q=>∃i j,x=.str i/\y=.str j/\Q (.bl (!(Builtin.Str.occurrences j i 0 j.length 1).isEmpty)) H):=by intro pins s σ H x y v u Q I rx ry h;obtain⟨i,j,rfl,rfl,q⟩:=h;obtain⟨t,rfl⟩:=rx;obtain⟨t',rfl⟩:=ry;exact in_str (HF I q AU)
theorem OpR.or{f:JZ->JZ->Sem JZ}{r r':R2}(h:OpR X f r)(h':OpR X f r'):OpR X f (λx y H Q=>r x y H Q∨r' x y H Q):=by
 intro pins s σ H x y v u Q I rx ry q;rcases q with q|q
 .exact h pins s σ H x y v u Q I rx ry q
 .exact h' pins s σ H x y v u Q I rx ry q
theorem HE(b:J7){op:CmpOp}(h:op≠.In:=by decide)(h2:op≠.NotIn:=by decide):behindInMarks op b=AX:=by
 have e1:(op==CmpOp.In)=AX:=by cases op<;>first|rfl|exact absurd AU h
 have e2:(op==CmpOp.NotIn)=AX:=by cases op<;>first|rfl|exact absurd AU h2
 cases b<;>simp[behindInMarks,e1,e2]
theorem Ow{op:CmpOp}{r:R2}(ho:OpR X (Ub op) r)(ha:PE X a ta)(hb:PE X b tb)(hm:behindInMarks op b=AX):PE X (.Compare a [op] [b] pos) (tOp r ta tb):=by intro pins s σ H Q I h;exact wpAny_Compare1 (Vg ha hb I h λv u s2 x y H2 I2 rx ry q=>ho pins s2 σ H2 x y v u Q I2 rx ry q) hm
noncomputable def R7(t:TE):TT:=λσ H Q=>t σ H λx H'=>∃k,x=.bl k/\Q k H'
theorem OB{op:CmpOp}{r:R2}(ho:OpR X (Ub op) r)(ha:PE X a ta)(hb:PE X b tb)(hm:behindInMarks op b=AX):PT X (.Compare a [op] [b] pos) (R7 (tOp r ta tb)):=by
 intro pins s σ H Q I h
 refine wpAny_isTrue_Compare1 (thn (ha pins s σ H _ I h) λv s1 ⟨x,H1,I1,r1,q1⟩=>thn (hb pins s1 σ H1 _ I1 q1) λu s2 ⟨y,H2,I2,r2,q2⟩=>
  thn (ho pins s2 σ H2 x y v u _ I2 r1 r2 q2) λc s3 ⟨z,H3,I3,r3,k,e,q3⟩=>?_) hm
 subst e;cases r3;exact Q0 ⟨H3,I3,q3⟩
noncomputable def PK(r r':R2)(ta tb tc:TE):TE:=λσ H Q=>ta σ H λx H1=>tb σ H1 λy H2=>r x y H2 λz H3=>∃k,z=.bl k /\
 (if k=AW then tc σ H3 λw' H4=>r' y w' H4 Q else Q (.bl AX) H3)
theorem DC{op op':CmpOp}{r r':R2}(ho:OpR X (Ub op) r)(ho':OpR X (Ub op') r')(ha:PE X a ta)(hb:PE X b tb)(hc:PE X c tc)
  (hm:lastMarks [op,op'] [b,c]=AX:=by with_unfolding_all rfl):PE X (.Compare a [op,op'] [b,c] pos) (PK r r' ta tb tc):=by
 intro pins s σ H Q I h
 refine Compare_chain (thn (ha pins s σ H _ I h) λv s1 ⟨x,H1,I1,r1,q1⟩=>chain_link (thn (hb pins s1 σ H1 _ I1 q1) λu s2 ⟨y,H2,I2,r2,q2⟩=>
  thn (ho pins s2 σ H2 x y v u _ I2 r1 r2 q2) λd s3 ⟨z,H3,I3,r3,k,e,q3⟩=>?_)) hm
 subst e;cases r3;refine Q0 ?_;cases k with
 |false=>exact ite_ff ⟨.bl AX,H3,I3,rfl,q3⟩
 |true=>exact ite_tt (chain_last (thn (hc pins s3 σ H3 _ I3 q3) λw' s4 ⟨z',H4,I4,r4,q4⟩=>ho' pins s4 σ H4 y z' u w' Q I4 r2 r4 q4))
theorem DB{op op':CmpOp}{r r':R2}(ho:OpR X (Ub op) r)(ho':OpR X (Ub op') r')(ha:PE X a ta)(hb:PE X b tb)(hc:PE X c tc)
  (hm:lastMarks [op,op'] [b,c]=AX:=by with_unfolding_all rfl):PT X (.Compare a [op,op'] [b,c] pos) (R7 (PK r r' ta tb tc)):=by
 intro pins s σ H Q I h
 refine isTrue_chain (thn (ha pins s σ H _ I h) λv s1 ⟨x,H1,I1,r1,q1⟩=>test_link (thn (hb pins s1 σ H1 _ I1 q1) λu s2 ⟨y,H2,I2,r2,q2⟩=>
  thn (ho pins s2 σ H2 x y v u _ I2 r1 r2 q2) λd s3 ⟨z,H3,I3,r3,k,e,q3⟩=>?_)) hm
 subst e;cases r3;refine Q0 ?_;cases k with
 |false=>obtain⟨k',e',q'⟩:=q3;cases e';exact ite_ff ⟨H3,I3,q'⟩
 |true=>refine ite_tt (test_last (thn (hc pins s3 σ H3 _ I3 q3) λw' s4 ⟨z',H4,I4,r4,q4⟩=>thn (ho' pins s4 σ H4 y z' u w' _ I4 r2 r4 q4) λd' s5 ⟨z2,H5,I5,r5,k2,e2,q5⟩=>?_));subst e2;cases r5;exact Q0 ⟨H5,I5,q5⟩
theorem TL:(J8:Nat)<2 ^ 63:=by rw[JB];decide
theorem Ac:OpR X (binaryOp .Add) (λx y H Q=>∃i j,x=.str i/\y=.str j/\i.length+j.length<=J8/\Q (.str (i++j)) H):=by intro pins s σ H x y v u Q I rx ry h;obtain⟨i,j,rfl,rfl,hz,q⟩:=h;obtain⟨t,rfl⟩:=rx;obtain⟨t',rfl⟩:=ry;exact add_str (λt' tk=>⟨.str (i++j),H,I.tok _,⟨_,rfl⟩,q⟩) hz
theorem Tu{x:V}{us:AZ}(r:Vals [x] us):∃u,us=[u]/\RelV x u:=by
 cases r with
 |cons r1 r2=>cases r2;exact⟨_,rfl,r1⟩
theorem Vo{x y:V}{us:AZ}(r:Vals [x,y] us):∃u w',us=[u,w']/\RelV x u/\RelV y w':=by
 cases r with
 |cons r1 r2=>
  cases r2 with
  |cons r3 r4=>cases r4;exact⟨_,_,rfl,r1,r3⟩
theorem B6(hc:X.calm=AW):Zx X (.builtin "max") (λxs H Q=>∃i j,xs=[.int i,.int j]/\Q (.int (if j > i then j else i)) H):=by
 intro pins s σ H xs us Q I r h;obtain⟨i,j,rfl,q⟩:=h;obtain⟨u,w',rfl,⟨t,rfl⟩,⟨t',rfl⟩⟩:=Vo r;refine max_two_ints (I.ok.hd hc) λh' tk k=>⟨_,H,I.kept k,?_,q⟩
 by_cases hj:j > i
 .rw[Qn hj,Qn hj];exact⟨_,rfl⟩
 .rw[QD hj,QD hj];exact⟨_,rfl⟩
theorem B5(hc:X.calm=AW):Zx X (.builtin "min") (λxs H Q=>∃i j,xs=[.int i,.int j]/\Q (.int (if j<i then j else i)) H):=by
 intro pins s σ H xs us Q I r h;obtain⟨i,j,rfl,q⟩:=h;obtain⟨u,w',rfl,⟨t,rfl⟩,⟨t',rfl⟩⟩:=Vo r;refine min_two_ints (I.ok.hd hc) λh' tk k=>⟨_,H,I.kept k,?_,q⟩
 by_cases hj:j<i
 .rw[Qn hj,Qn hj];exact⟨_,rfl⟩
 .rw[QD hj,QD hj];exact⟨_,rfl⟩
theorem B4:Zx X (.type "int") (λxs H Q=>(∃i,xs=[.int i]/\Q (.int i) H) ∨ ∃k,xs=[.bl k]/\Q (.int (if k then 1 else 0)) H):=by
 intro pins s σ H xs us Q I r h;rcases h with ⟨i,rfl,q⟩|⟨k,rfl,q⟩
 .obtain⟨u,rfl,t,rfl⟩:=Tu r
  exact call_int_int ⟨.int i,H,I,⟨_,rfl⟩,q⟩
 .obtain⟨u,rfl,r1⟩:=Tu r
  cases r1;exact call_int_bool ⟨.int (if k then 1 else 0),H,I.tok _,⟨_,rfl⟩,q⟩
def LenV(K:Frag)(x:V)(H:Hp)(n:Nat):Prop:=
 match x with
 |.str y=>y.length<=J8/\n=y.length
 |.byt y=>y.size<=J8/\n=y.size
 |.ref p=>(∃xs,SqL K H p xs/\n=xs.length) ∨ ∃xs,SqT K H p xs/\n=xs.length
 |_=>False
theorem ON:Zx X (.builtin "len") (λxs H Q=>∃x n,xs=[x]/\LenV X.K x H n/\Q (.int n) H):=by
 intro pins s σ H xs us Q I r h;obtain⟨x,n,rfl,e,q⟩:=h;obtain⟨u,rfl,rx⟩:=Tu r;have hl:=TL;have hs:J8=16777216:=JB;cases x with
 |str y=>obtain⟨t,rfl⟩:=rx;obtain⟨hy,e'⟩:y.length<=J8/\n=y.length:=e;subst e';exact len_str (by omega) ⟨.int _,H,I.tok _,⟨_,rfl⟩,q⟩
 |byt y=>obtain⟨t,rfl⟩:=rx;obtain⟨hy,e'⟩:y.size<=J8/\n=y.size:=e;subst e';exact PySem.W.len_bytes (by omega) ⟨.int _,H,I.tok _,⟨_,rfl⟩,q⟩
 |ref p=>
  cases rx;have e':(∃xs,SqL X.K H p xs/\n=xs.length) ∨ ∃xs,SqT X.K H p xs/\n=xs.length:=e;rcases e' with ⟨xs,hx,e'⟩|⟨xs,hx,e'⟩
  .subst e'
   obtain⟨its,r',pl,hz⟩:=I.list hx;have hlen:=r'.length;exact Calls.call_len_list pl.isList (by simp only[QL];omega) ⟨.int xs.length,H,I.tok _,⟨_,by simp only[QL];rw[hlen]⟩,q⟩
  .subst e'
   obtain⟨its,r',pl,hz⟩:=I.tuple hx;have hlen:=r'.length;exact len_tuple pl (by simp only[QL];omega) ⟨.int xs.length,H,I.tok _,⟨_,by simp only[QL];rw[hlen]⟩,q⟩
 |_=>exact(show False from e).elim
end
noncomputable def KO(f:Str)(v:V):List (Str×V)->List (Str×V)
 |[]=>[(f,v)]
 |(g,x)::r=>if g=f then(g,v)::r else(g,x)::KO f v r
theorem RR(f g:Str)(v:V):∀fs:List (Str×V),(KO f v fs).lookup g=if g=f then O v else fs.lookup g
 |[]=>by
  show List.lookup g [(f,v)]=_;by_cases h:g=f
  .have hb:(g==f)=AW:=beq_iff_eq.mpr h
   simp only[List.lookup,hb,Qn h]
  .have hb:(g==f)=AX:=beq_eq_false_iff_ne.mpr h
   simp only[List.lookup,hb,QD h]
 |(k,x)::r=>by
  have ih:=RR f g v r;rw[show KO f v ((k,x)::r)=(if k=f then(k,v)::r else(k,x)::KO f v r)from rfl];by_cases hk:k=f
  .rw[Qn hk]
   by_cases h:g=k
   .have hb:(g==k)=AW:=beq_iff_eq.mpr h
    simp only[List.lookup,hb,Qn (h.trans hk)]
   .have hb:(g==k)=AX:=beq_eq_false_iff_ne.mpr h
    simp only[List.lookup,hb,QD (λe:g=f=>h (e.trans hk.symm))]
  .rw[QD hk]
   by_cases h:g=k
   .have hb:(g==k)=AW:=beq_iff_eq.mpr h
    simp only[List.lookup,hb,QD (λe:g=f=>hk (h.symm.trans e))]
   .have hb:(g==k)=AX:=beq_eq_false_iff_ne.mpr h
    simp only[List.lookup,hb];exact ih
theorem RG(f:Str)(v:V):∀fs:List (Str×V),f∈(KO f v fs).map (·.1)/\∀g,g∈fs.map (·.1)->g∈(KO f v fs).map (·.1)
 |[]=>⟨by simp[KO],λg h=>by simp at h⟩
 |(k,x)::r=>by
  obtain⟨i1,i2⟩:=RG f v r;rw[show KO f v ((k,x)::r)=(if k=f then(k,v)::r else(k,x)::KO f v r)from rfl];by_cases hk:k=f
  .rw[Qn hk]
   subst hk;exact⟨by simp,λg h=>by simpa using h⟩
  .rw[QD hk]
   refine⟨?_,λg h=>?_⟩
   .rw[Qw]
    exact Qo _ i1
   .rw[Qw]at h⊢
    rcases QM.mp h with e|e
    .exact List.mem_cons.mpr (.inl e)
    .exact Qo _ (i2 g e)
structure Room(k:Nat)(A:Around):Prop where
 hd:A.handled=AV
 dp:A.depth+3*k+5<recursionLimit
 un:A.units+16*k+200<cLine
 gd:A.guards=O []
theorem Room.mono{j k:Nat}{A:Around}(r:Room k A)(h:j<=k):Room j A:=⟨r.hd,by have:=r.dp;omega,by have:=r.un;omega,r.gd⟩
theorem Room.deeper{k:Nat}{A:Around}(r:Room (k+1) A)(env:Env):Room k (A.deeper env):=
 ⟨r.hd,by have:=r.dp;show A.depth+1+3*k+5<_;omega,by have:=r.un;show A.units+3+16*k+200<_;omega,r.gd⟩
theorem Mk{A:Around}{C:J5}{us:AZ}{kw:List (Str×JZ)}:(A.under (.builtin "type.__call__" ⟨.ref C::us,kw⟩)).depth=A.depth+1:=by
 first|rfl|simp[Around.under,Code.weight,Code.isCreation,Code.isGuard,Code.isCaller,Code.frames,Code.isFrame,guardIds]
theorem Mj{A:Around}{C:J5}{us:AZ}{kw:List (Str×JZ)}:(A.under (.builtin "type.__call__" ⟨.ref C::us,kw⟩)).units=A.units+1:=by
 first|rfl|simp[Around.under,Code.cUnits,Code.frames,Code.isFrame]
theorem Room.make{k:Nat}{A:Around}(r:Room (k+1) A)(C:J5)(us:AZ)(kw:List (Str×JZ)):Room k (A.under (.builtin "type.__call__" ⟨.ref C::us,kw⟩)):=
 ⟨r.hd,by have:=r.dp;rw[Mk];omega,by have:=r.un;rw[Mj];omega,(by first|exact r.gd|(simp[Around.under,guardIds];exact r.gd))⟩
theorem Room.depth{k:Nat}{A:Around}(r:Room k A):A.depth<recursionLimit:=by have:=r.dp;omega
theorem Room.units{k:Nat}{A:Around}(r:Room k A):A.units+64<cLine:=by have:=r.un;omega
noncomputable def Xy:TA:=λ_ H Q=>Q [] H
noncomputable def Wq(ta:TE)(tr:TA):TA:=λσ H Q=>ta σ H λx H1=>tr σ H1 λxs H2=>Q (x::xs) H2
section
variable{X:Cx}{e:J7}{es:A3}{te:TE}{t:TA}{pos:Pos}
theorem Z8:PA X [] Xy:=λ_ _ _ _ H Q I h=>Calls.spliced_nil ⟨[],H,I,.nil,h⟩
theorem Za(ha:PE X e te)(hr:PA X es t)(hs:Ua (e::es) X.env=(AX,eval e X.env)::Ua es X.env:=by rfl):PA X (e::es) (Wq te t):=by intro pos pins s σ H Q I h;rw[hs];show J9 _ _ (spliced ((AX,eval e X.env)::backTo pos (Ua es X.env))) _ _ s;refine Calls.spliced_cons (thn (ha pins s σ H _ I h) λu s1 ⟨x,H1,I1,r1,q1⟩=>?_);exact thn (hr pos pins s1 σ H1 _ I1 q1) λus s2 ⟨xs,H2,I2,r2,q2⟩=>⟨x::xs,H2,I2,.cons r1 r2,q2⟩
noncomputable def tTup(t:TA):TE:=λσ H Q=>t σ H λxs H1=>xs.length<=J8/\∀p,H1 p=AV->Q (.ref p) (upd H1 p (.tup xs))
noncomputable def tLst(t:TA):TE:=λσ H Q=>t σ H λxs H1=>xs.length<=J8/\∀p,H1 p=AV->Q (.ref p) (upd H1 p (.lst xs))
theorem PJ{x1}(h:PA X es t):PE X (.Tuple es x1 pos) (tTup t):=by intro pins s σ H Q I hq;refine wpAny_Tuple_spliced (thn (h pos pins s σ H _ I hq) λus s1 ⟨xs,H1,I1,r,z,q⟩=>⟨by rw[←r.length];exact z,?_⟩);have hf:H1 s1.heap.objs.size=AV:=I1.hok.fresh (Qq _);refine⟨.ref s1.heap.objs.size,upd H1 s1.heap.objs.size (.tup xs),I1.laid (t':=s1.toks) (λb u e=>Qe _ e) (Qq _) ?_,rfl,q _ hf⟩;exact⟨z,us,r,⟨_,QE _ AU,rfl,_,rfl⟩⟩
theorem PH(h:PA X es t):PE X (.List es pos) (tLst t):=by intro pins s σ H Q I hq;refine wpAny_List_spliced (thn (h pos pins s σ H _ I hq) λus s1 ⟨xs,H1,I1,r,z,q⟩=>⟨by rw[←r.length];exact z,?_⟩);have hf:H1 s1.heap.objs.size=AV:=I1.hok.fresh (Qq _);refine⟨.ref s1.heap.objs.size,upd H1 s1.heap.objs.size (.lst xs),I1.laid (t':=s1.toks) (λb u e=>Qe _ e) (Qq _) ?_,rfl,q _ hf⟩;exact⟨z,us,0,r,QE _ AU⟩
end
abbrev Sp:=List V->Hp->VK->XK->Prop
abbrev CXT:=List Env->Hp->J0->XK->JZ->J0->Prop
structure Env0(P:J4)(w:World)(K:Frag)(mg:Str->A1)(base:Heap)(A:Around)(outer:List Env)(s:J0)(H:Hp):Prop where
 frames:A.frames=O outer
 mod:Mod K mg base
 bs:∀b o,base.get? b=O o->s.heap.get? b=O o/\H b=AV
 bsz:base.objs.size<=s.heap.objs.size
 funs:s.heap.FunFrames base outer
 frf:∀b∈frs outer,H b=AV
 hok:HOk P w H s.heap
 bare:AllBare s.gens
def CE(outer:List Env)(P:J4)(w:World)(H:Hp)(s:J0)(Q:VK)(u:JZ)(s':J0):Prop:=
 ∃v H',s'.os=s.os/\AllBare s'.gens/\Un (frs outer) [] H H' s.heap s'.heap/\HOk P w H' s'.heap/\RelV v u/\Q v H'
def CR(CX:CXT)(outer:List Env)(P:J4)(w:World)(H:Hp)(s:J0)(Q:VK)(E:XK)(r:Result)(s':J0):Prop:=
 match r with
 |.ok (.ret u)=>CE outer P w H s Q u s'
 |.ok _=>False
 |.error e=>CX outer H s E e s'
structure FnOk(P:J4)(w:World)(K:Frag)(mg:Str->A1)(base:Heap)(CX:CXT)(k:Nat)(f:J5)(fd:J6)(ps:List Str)(sp:Sp):Prop where
 len:∀vs H Q E,sp vs H Q E->vs.length=ps.length
 run:∀(A:Around)(outer:List Env)(s:J0)(H:Hp)(args:Args)(us:AZ)(vs:List V)(Q:VK)(E:XK),Room k A->Env0 P w K mg base A outer s H->BindsTo s fd args (ps.zip us)->Vals vs us->sp vs H Q E ->
  codeAny (model P w) A (.call (.ref f) args) (CR CX outer P w H s Q E) s
theorem Env0.make{P:J4}{w:World}{K:Frag}{mg:Str->A1}{base:Heap}{A:Around}{outer:List Env}{s:J0}{H:Hp}(e:Env0 P w K mg base A outer s H)(C:J5)(us:AZ)(kw:List (Str×JZ)) :
  Env0 P w K mg base (A.under (.builtin "type.__call__" ⟨.ref C::us,kw⟩)) outer s H:=⟨by first|exact e.frames|(simpa[Around.under,Code.envs,Code.isFrame,pushEnvs]using e.frames),e.mod,e.bs,e.bsz,e.funs,e.frf,e.hok,e.bare⟩
section
variable{X:Cx}{pins:List (J5×Obj)}{σ:St}{H:Hp}{s s':J0}
theorem Inv.env0(I:Inv X pins σ H s):Env0 X.prog X.w X.K X.mg X.base X.A X.stack s H:=
 ⟨I.ok.frames,I.ok.mod,I.bs,Qv I.ok.bsz I.sz,I.stack,I.stkFree,I.hok,I.bare⟩
theorem Inv.after{Q:VK}{u:JZ}(I:Inv X pins σ H s)(h:CE X.stack X.prog X.w H s Q u s'):EP X pins σ Q u s':=by obtain⟨v,H',os,bare,un,hok,r,q⟩:=h;obtain⟨hh,g,d,t,os'⟩:=s';obtain rfl:os'=s.os:=os;exact⟨v,H',I.call (h':=hh) (g':=g) (d':=d) (t':=t) (ch:=[]) un hok bare (λb z=>absurd z (by simp)),r,q⟩
end
noncomputable def SE(sp:Sp)(dvs:List V)(E:XK)(t:TA):TE:=λσ H Q=>t σ H λvs H1=>sp (vs++dvs) H1 Q E
def Zi(K:Frag)(fd:J6)(ps:List Str)(ds:AZ):Prop:=
 ∀(s:J0)(us:AZ),K.In s.heap->(us++ds).length=ps.length->BindsTo s fd ⟨us,[]⟩ (ps.zip (us++ds))
theorem Zi.all{K:Frag}{fd:J6}{ps:List Str}(h:∀us:AZ,us.length=ps.length->bindArgs fd ⟨us,[]⟩=pure (ps.zip us)):Zi K fd ps []:=λs us _ hl=>by rw[Q1]at hl⊢;exact .of_eq (h us hl)
def SR(CX:CXT)(X:Cx)(E:XK):Prop:=∀(pins:List (J5×Obj))(σ:St)(H:Hp)(s:J0)(e:JZ)(s':J0),Inv X pins σ H s->CX X.stack H s E e s'->X.xe e s'
section
variable{X:Cx}{CX:CXT}{k:Nat}{f C:J5}{fd:J6}{ps:List Str}{sp:Sp}{dvs:List V}{ds:AZ}{E:XK}{x m:Str}{p pos apos:Pos}{e o:J7}{es:A3}{ta:TE}{t:TA}
theorem PF{pins:List (J5×Obj)}{σ:St}{H:Hp}{s:J0}{Q:VK}{us:AZ}{vs:List V}(F:FnOk X.prog X.w X.K X.mg X.base CX k f fd ps sp)(hr:Room k X.A)(hb:Zi X.K fd ps ds)(hd:Vals dvs ds)(hx:SR CX X E)
  (I:Inv X pins σ H s) (r:Vals vs us) (h:sp (vs++dvs) H Q E):J9 (model X.prog X.w) X.A (call (.ref f) us) (EP X pins σ Q) X.xe s:=by
 have r2:Vals (vs++dvs) (us++ds):=r.append hd;have hl:(us++ds).length=ps.length:=by rw[←r2.length];exact F.len _ _ _ _ h
 refine wpAny_call (Jx (F.run X.A X.stack s H ⟨us,[]⟩ (us++ds) (vs++dvs) Q E hr I.env0 (hb s us I.kIn hl) r2 h) λr s' hq=>?_);cases r with
 |error e=>exact hx pins σ H s e s' I hq
 |ok fl=>
  cases fl with
  |ret u=>exact I.after hq
  |next=>exact False.elim hq
  |brk=>exact False.elim hq
  |cont=>exact False.elim hq
theorem OA(F:FnOk X.prog X.w X.K X.mg X.base CX k f fd ps sp)(hr:Room k X.A)(hg:Gl X x)(hm:X.mg x=O (.ref f))(hk:PySem.W.keepIn X.K (.ref f)=AW)(hb:Zi X.K fd ps ds)(hd:Vals dvs ds)(hx:SR CX X E)
  (ha:PA X (e::es) t) (hdb:(x==("__debug__" : Str))=AX:=by decide) (he:Ua (e::es) X.env=(AX,eval e X.env)::Ua es X.env:=by rfl) (hpl:(backTo pos (Ua es X.env)).any (·.1)=AX:=by rfl) :
  PE X (.Call (.Name x p) (e::es) [] pos) (SE sp dvs E t):=by
 intro pins s σ H Q I h;refine Ji (Xc I hg hm ?_ hdb);refine JL (h₀:=X.base) I.ok.mod.kin hk (thn (ha pos pins s σ H _ I h) λus s1 ⟨vs,H1,I1,r,q⟩=>⟨I1.kIn,?_⟩) he hpl;exact PF F hr hb hd hx I1 r q
end
structure Xr(N P:List Str)(sc:Scope):Prop where
 kind:sc.kind=.function
 co:sc.isCoroutine=AX
 gen:sc.isGenerator=AX
 nd:N.Nodup
 pre:N.take P.length=P
 par:∀x∈P,sc.names.lookup x=O .local∨sc.names.lookup x=O .cell
 nofree:∀y∈sc.names,y.2≠.free
theorem NK{kindOf:Str->Option NameKind}{x:Str}:∀{binds:List (Str×JZ)}{m:Str->A1},(∀v,(x,v)∉binds)->bindL kindOf binds m x=m x
 |[],_,_=>rfl
 |(n,v)::r,m,h=>by
  unfold bindL;rw[NK λw hw=>h w (Qo _ hw)];split
  .have:x≠n:=by rintro rfl;exact h v Qp
   simp[this]
  .rfl
theorem NJ{kindOf:Str->Option NameKind}{x:Str}:∀{binds:List (Str×JZ)}{m:Str->A1},(∀v,(x,v)∉binds)->bindC kindOf binds m x=m x
 |[],_,_=>rfl
 |(n,v)::r,m,h=>by
  unfold bindC;rw[NJ λw hw=>h w (Qo _ hw)];split
  .rfl
  .have:x≠n:=by rintro rfl;exact h v Qp
   simp[this]
theorem NI{kindOf:Str->Option NameKind}{x:Str}{v:JZ}:∀{P:List Str}{vs:AZ}{i:Nat}{m:Str->A1},P.Nodup->P[i]?=O x->vs[i]?=O v->kindOf x=O .local ->
  bindL kindOf (P.zip vs) m x=O v
 |[],_,_,_,_,h,_,_=>by simp at h
 |_::_,[],_,_,_,_,h,_=>by simp at h
 |p::P,w::vs,0,m,nd,h1,h2,hk=>by simp at h1 h2;subst h1;subst h2;show bindL kindOf ((p,w)::P.zip vs) m p=_;unfold bindL;rw[NK λv hv=>(List.nodup_cons.mp nd).1 (List.of_mem_zip hv).1,Qn hk];simp
 |p::P,w::vs,i+1,m,nd,h1,h2,hk=>by show bindL kindOf ((p,w)::P.zip vs) m x=_;unfold bindL;exact NI (i:=i) (List.nodup_cons.mp nd).2 (by simpa using h1) (by simpa using h2) hk
theorem NH{kindOf:Str->Option NameKind}{x:Str}{v:JZ}:∀{P:List Str}{vs:AZ}{i:Nat}{m:Str->A1},P.Nodup->P[i]?=O x->vs[i]?=O v->kindOf x≠O .local ->
  bindC kindOf (P.zip vs) m x=O v
 |[],_,_,_,_,h,_,_=>by simp at h
 |_::_,[],_,_,_,_,h,_=>by simp at h
 |p::P,w::vs,0,m,nd,h1,h2,hk=>by simp at h1 h2;subst h1;subst h2;show bindC kindOf ((p,w)::P.zip vs) m p=_;unfold bindC;rw[NJ λv hv=>(List.nodup_cons.mp nd).1 (List.of_mem_zip hv).1,QD hk];simp
 |p::P,w::vs,i+1,m,nd,h1,h2,hk=>by show bindC kindOf ((p,w)::P.zip vs) m x=_;unfold bindC;exact NH (i:=i) (List.nodup_cons.mp nd).2 (by simpa using h1) (by simpa using h2) hk
noncomputable def Z2(N:List Str)(vs:List V):St:=vs.map O++Ud (N.length-vs.length) AV
noncomputable def Kv(CX:CXT)(P:J4)(w:World)(K:Frag)(mg:Str->A1)(base:Heap)(N:List Str)(qual:Str)(scope:Scope)(f:J5)(cd:JZ)(A:Around)(outer:List Env)(s:J0)(H:Hp)(E:XK):Cx where
 prog:=P
 w:=w
 K:=K
 mg:=mg
 base:=base
 A:=A.deeper (envOfC qual scope s.heap.objs.size f cd)
 N:=N
 s₀:=s
 H₀:=H
 env:=envOfC qual scope s.heap.objs.size f cd
 outer:=outer
 stack:=envOfC qual scope s.heap.objs.size f cd::outer
 ex:=[]
 calm:=AW
 fn:=λ_=>AW
 pn:=[]
 xe:=λe s'=>J9 (model P w) (A.deeper (envOfC qual scope s.heap.objs.size f cd)) (leaving (envOfC qual scope s.heap.objs.size f cd) e) (λ_ s''=>CX outer H s E e s'') (λe' s''=>CX outer H s E e' s'') s'
theorem Rv{sc:Scope}{n:Nat}{x:Str}(h:sc.names.lookup x=O .cell):∃c,(cellsFrom n sc.names []).lookup x=O c:=by have q:=PySem.W.cellsFrom_some sc.names n [] (.inl h);exact Option.isSome_iff_exists.mp q
theorem NG{CX:CXT}{P:J4}{w:World}{K:Frag}{mg:Str->A1}{base:Heap}{N ps:List Str}{qual:Str}{scope:Scope}{f:J5}{cd:JZ}{A:Around}{outer:List Env}{s s1:J0}{H:Hp}{E:XK}{us:AZ}{vs:List V}
  (S:Xr N ps scope) (hd:A.handled=AV) (e0:Env0 P w K mg base A outer s H) (hl:vs.length=ps.length) (r:Vals vs us)
  (x:InCallC s s.heap.objs.size (bindL (envOfC qual scope s.heap.objs.size f cd).kindOf (ps.zip us) λ_=>AV) (cellsFrom (s.heap.objs.size+1) scope.names []) (bindC (envOfC qual scope s.heap.objs.size f cd).kindOf (ps.zip us) λ_=>AV) s1) :
  Inv (Kv CX P w K mg base N qual scope f cd A outer s H E) [] (Z2 N vs) H s1:=by
 have hpl:ps.length<=N.length:=by have:=JX List.length S.pre;rw[JJ]at this;omega
 obtain⟨h1,tk,rfl,hk⟩:=x.done;have noA:∀b:J5,b∉(Kv CX P w K mg base N qual scope f cd A outer s H E).ex:=λb z=>absurd (show b∈([]:A5)from z) (by simp)
 refine⟨⟨e0.mod,S.kind,rfl,rfl,Qq _,λy z c h1 h2=>?_,λy hy=>?_,λy c _ h=>?_,λ_=>hd,Around.frames_deeper e0.frames,.inr ⟨rfl,rfl⟩,λb z=>absurd z (noA b),e0.bs,e0.bsz,λb _ _=>noA b,λb z=>absurd z (noA b),e0.funs,e0.frf⟩,
  rfl,e0.bare,Un.kept hk,⟨_,x.toInCall.ns,λi y v h1 h2 h3=>?_⟩,λy c h=>⟨_,x.cell y c h⟩,e0.hok.fresh (Nat.le_refl _),λy c h=>?_,λp hp=>absurd (show p∈([]:List (J5×Obj))from hp) (by simp),e0.hok.kept hk,?_⟩
 .exact name_of_addr x.apart (Q8 h1) (Q8 h2)
 .have hy:scope.names.lookup y=O .cell∨scope.names.lookup y=O .free:=hy
  rcases hy with hy|hy
  .exact Rv hy
  .exact absurd AU (S.nofree _ (Q8 hy))
 .exact JT (x.above y c (Q8 h))
 .have hi:i<vs.length:=by
   unfold Z2 at h2;by_cases hi:i<vs.length
   .exact hi
   .rw[List.getElem?_append_right (by simpa using hi)]at h2
    rw[QB]at h2;split at h2<;>cases h2
  have ha:vs[i]?=O v:=by
   unfold Z2 at h2;rw[List.getElem?_append_left (by simpa using hi),List.getElem?_map]at h2;cases e:vs[i]? with
   |none=>rw[e]at h2;cases h2
   |some a=>rw[e]at h2;cases h2;rfl
  obtain⟨u,hu,rv⟩:=r.get ha;have hp:ps[i]?=O y:=by rw[←S.pre,List.getElem?_take_of_lt (by omega)];exact h1
  have ndP:ps.Nodup:=by rw[←S.pre];exact S.nd.sublist (List.take_sublist _ _)
  refine⟨u,rv,?_⟩;rcases S.par y (QZ hp)with k|k
  .exact .inl ⟨k,NI ndP hp hu k⟩
  .obtain⟨c,e⟩:=Rv (n:=s.heap.objs.size+1) k
   refine .inr ⟨.inl k,c,e,?_⟩;have q:=x.cell y c e;rw[NH ndP hp hu (by show scope.names.lookup y≠_;rw[k];decide)]at q;exact q
 .exact e0.hok.fresh (JT (x.above y c (Q8 h)))
 .unfold Z2
  show _=N.length;rw[Qk,Qd,QU];omega
theorem R6{CX:CXT}{P:J4}{w:World}{K:Frag}{mg:Str->A1}{base:Heap}{k:Nat}{f:J5}{name qual:Str}{params:Arguments}{body:List Stmt}{scope:Scope}{dV kV doc pm cdv ct oc:JZ}{an od:A8}
  {osl:Array A1} {N ps:List Str} {sp:Sp} (lk:K.lookup f=O ⟨oc,od,.func (PySem.W.fnOf name qual params body scope dV kV doc pm an cdv ct),osl⟩) (hcd:PySem.W.codeIn K cdv qual=AW) (S:Xr N ps scope)
  (len:∀vs H Q E,sp vs H Q E->vs.length=ps.length)
  (hbody:∀(A:Around)(outer:List Env)(s:J0)(H:Hp)(vs:List V)(Q:VK)(E:XK),Room k (A.deeper (envOfC qual scope s.heap.objs.size f cdv))->sp vs H Q E ->
   ∃t,PSs (Kv CX P w K mg base N qual scope f cdv A outer s H E) body t/\t {nx:=λ_ H'=>Q .non H',rt:=Q} (Z2 N vs) H) :
  FnOk P w K mg base CX (k+1) f (PySem.W.fnOf name qual params body scope dV kV doc pm an cdv ct) ps sp:=by
 refine⟨len,λA outer s H args us vs Q E hr e0 hb r qB=>?_⟩;have hl:=len _ _ _ _ qB;have KX:K.In s.heap:=e0.mod.kin.keeps λb o e=>(e0.bs b o e).1;have lim:s.heap.NoLimit:=e0.mod.nolimit.keeps λb o e=>(e0.bs b o e).1
 have hkind:∀y∈ps.zip us,scope.names.lookup y.1=O .local∨(scope.names.lookup y.1=O .cell/\((cellsFrom (s.heap.objs.size+1) scope.names []).lookup y.1).isSome=AW):=λ⟨n,v⟩ hy=>by
  rcases S.par n (List.of_mem_zip hy).1 with q|q
  .exact .inl q
  .exact .inr ⟨q,PySem.W.cellsFrom_some _ _ _ (.inl q)⟩
 refine codeAny_call_function hr.depth (KX _ _ lk) AU S.co S.gen AU (PySem.W.codeRec_of KX hcd) (hb _ _ _ _ ?_);refine wpAny_newFunctionEnv_cells S.kind hkind λenv he s1 x=>?_;subst he
 refine⟨lim.keeps x.toInCall.keep,codeAny_func ?_⟩;obtain⟨t,ht,hq⟩:=hbody A outer s H vs Q E (hr.deeper _) qB;have I:Inv (Kv CX P w K mg base N qual scope f cdv A outer s H E) [] (Z2 N vs) H s1:=NG S hr.hd e0 hl r x;refine Qy (ht [] s1 (Z2 N vs) H _ I hq) (λfl s' hs=>?_) λe s' hs=>hs
 have fin:∀{σ':St}{H':Hp}{v:V}{u:JZ},Inv (Kv CX P w K mg base N qual scope f cdv A outer s H E) [] σ' H' s'->RelV v u->Q v H'->CE outer P w H s Q u s':=
  λ{σ' H' v u} J rv q=>⟨v,H',J.os,J.bare,J.base,J.hok,rv,q⟩
 cases fl with
 |ret u=>obtain⟨v,σ',H',J,rv,q⟩:=hs;exact fin J rv q
 |next=>obtain⟨σ',H',J,q⟩:=hs;exact fin (v:=V.non) (u:=Value.none) J AU q
 |brk=>obtain⟨_,_,_,q⟩:=hs;exact False.elim q
 |cont=>obtain⟨_,_,_,q⟩:=hs;exact False.elim q
section
variable{X:Cx}{x:Str}{p pos:Pos}{e:J7}{es:A3}{t:TA}{id T:String}{r:List V->Hp->VK->Prop}
noncomputable def tCB(r:List V->Hp->VK->Prop)(t:TA):TE:=λσ H Q=>t σ H λvs H1=>r vs H1 Q
theorem VD(hc:Zx X (.builtin id) r)(hg:Gl X x)(hm:X.mg x=AV)(hv:bootBuiltins x=O (.builtin id))(ha:PA X (e::es) t)(hn:x ≠ "__name__" :=by decide)(hdb:(x==("__debug__" : Str))=AX:=by decide)
  (he:Ua (e::es) X.env=(AX,eval e X.env)::Ua es X.env:=by rfl) (hpl:(backTo pos (Ua es X.env)).any (·.1)=AX:=by rfl):PE X (.Call (.Name x p) (e::es) [] pos) (tCB r t):=by
 intro pins s σ H Q I h;refine Ji (Wk I hg hm hv ?_ hn hdb);exact PyProof.Rows.callWith_builtin1 (thn (ha pos pins s σ H _ I h) λus s1 ⟨vs,H1,I1,r1,q1⟩=>hc pins s1 σ H1 vs us Q I1 r1 q1) he hpl
theorem T8(hc:Zx X (.type T) r)(hg:Gl X x)(hm:X.mg x=AV)(hv:bootBuiltins x=O (.type T))(ha:PA X (e::es) t)(hn:x ≠ "__name__" :=by decide)(hdb:(x==("__debug__" : Str))=AX:=by decide)
  (he:Ua (e::es) X.env=(AX,eval e X.env)::Ua es X.env:=by rfl) (hpl:(backTo pos (Ua es X.env)).any (·.1)=AX:=by rfl):PE X (.Call (.Name x p) (e::es) [] pos) (tCB r t):=by
 intro pins s σ H Q I h;refine Ji (Wk I hg hm hv ?_ hn hdb);exact Jp (thn (ha pos pins s σ H _ I h) λus s1 ⟨vs,H1,I1,r1,q1⟩=>hc pins s1 σ H1 vs us Q I1 r1 q1) he hpl
end
end L2
namespace HT
open PySem PyProof.Rows
section
variable{prog:J4}{w:World}{A:Around}{E:JZ->J0->Prop}{s:J0}
noncomputable def sIx(n d:Nat):A7->Nat
 |none=>d
 |some v=>if v<0 then(v+(n:Int)).toNat else min v.toNat n
end
end HT
namespace L2
open PySem PySem.Spec PyProof.Rows
abbrev TO:=St->Hp->(A7->Hp->Prop)->Prop
def PO(X:Cx)(e:Option J7)(t:TO):Prop:=
 ∀(pins:List (J5×Obj))(s:J0)(σ:St)(H:Hp)(Q:A7->Hp->Prop),Inv X pins σ H s->t σ H Q ->
  J9 (model X.prog X.w) X.A (evalPart e X.env) (λu s'=>∃o H',Inv X pins σ H' s'/\IsPart u o/\Q o H') X.xe s
noncomputable def Dg:TO:=λ_ H Q=>Q AV H
noncomputable def Lc(t:TE):TO:=λσ H Q=>t σ H λx H1=>∃i,x=.int i/\Q (O i) H1
section
variable{X:Cx}{e:J7}{te:TE}{lo hi:Option J7}{tl th:TO}{pos p2:Pos}
theorem Df:PO X AV Dg:=by intro pins s σ H Q I h;rw[evalPart_none];exact Qf ⟨AV,H,I,.none,h⟩
theorem De(h:PE X e te):PO X (O e) (Lc te):=by
 intro pins s σ H Q I hw;rw[evalPart_some];refine thn (h pins s σ H _ I hw) λu s1 ⟨x,H1,I1,r1,q1⟩=>?_
 obtain⟨i,rfl,q⟩:=q1;obtain⟨t,rfl⟩:=r1;exact⟨O i,H1,I1,.int i t,q⟩
def SlR(X:Cx)(r:V->A7->A7->Hp->VK->Prop):Prop:=
 ∀(pins:List (J5×Obj))(s:J0)(σ:St)(H:Hp)(x:V)(v vl vu:JZ)(lo hi:A7)(sl:J5)(Q:VK),Inv X pins σ H s->RelV x v->s.heap.IsSliceOf sl vl vu .none->IsPart vl lo->IsPart vu hi->r x lo hi H Q ->
  ∃T id,typeLookup (.type T) "__getitem__" = pure (O (.builtin id))/\s.TypeIs v T/\J9 (model X.prog X.w) X.A (getItem v (.ref sl)) (EP X pins σ Q) X.xe s
theorem SlR.or{r r':V->A7->A7->Hp->VK->Prop}(h:SlR X r)(h':SlR X r'):SlR X (λx lo hi H Q=>r x lo hi H Q∨r' x lo hi H Q):=by
 intro pins s σ H x v vl vu lo hi sl Q I rx hs pl pu q;rcases q with q|q
 .exact h pins s σ H x v vl vu lo hi sl Q I rx hs pl pu q
 .exact h' pins s σ H x v vl vu lo hi sl Q I rx hs pl pu q
noncomputable def tSl(r:V->A7->A7->Hp->VK->Prop)(te:TE)(tl th:TO):TE:=λσ H Q=>te σ H λx H1=>tl σ H1 λl H2=>th σ H2 λu H3=>r x l u H3 Q
theorem DA{r:V->A7->A7->Hp->VK->Prop}(hr:SlR X r)(he:PE X e te)(hl:PO X lo tl)(hu:PO X hi th):PE X (.Subscript e (.Slice lo hi AV p2) pos) (tSl r te tl th):=by
 intro pins s σ H Q I h;refine Subscript_ (thn (he pins s σ H _ I h) λv s1 ⟨x,H1,I1,r1,q1⟩=>?_);refine wpAny_Slice (thn (hl pins s1 σ H1 _ I1 q1) λvl s2 ⟨l,H2,I2,pl,q2⟩=>thn (hu pins s2 σ H2 _ I2 q2) λvu s3 ⟨u,H3,I3,pu,q3⟩=>?_);rw[evalPart_none];refine Qf ?_;have I4:Inv X pins σ H3 {s3 with heap:=s3.heap.push {cls:=.type "slice", data:=.fields #[vl,vu,.none]}}:=I3.kept (t':=s3.toks) λb ob q=>Qe _ q
 obtain⟨T,id,hT,ht,hg⟩:=hr pins {s3 with heap:=s3.heap.push {cls:=.type "slice", data:=.fields #[vl,vu,.none]}} σ H3 x v vl vu l u s3.heap.objs.size Q I4 r1 (Heap.IsSliceOf.new ..) pl pu q3;show J9 (model X.prog X.w) X.A (subscriptTail e (.Slice lo hi AV p2) v (.ref s3.heap.objs.size)) (EP X pins σ Q) X.xe {s3 with heap:=s3.heap.push {cls:=.type "slice", data:=.fields #[vl,vu,.none]}};exact tail_any (ops:=[.ref s3.heap.objs.size,v]) ht hT hg (by with_unfolding_all rfl)
noncomputable def Yr(xs:List V)(lo hi:A7):List V:=(xs.drop (HT.sIx xs.length 0 lo)).take (HT.sIx xs.length xs.length hi-HT.sIx xs.length 0 lo)
theorem Af(xs:List V)(lo hi:A7):(Yr xs lo hi).length<=xs.length:=by unfold Yr;rw[JJ,JC];omega
end
noncomputable def ixN(n:Nat)(i:Int):Option Nat:=if 0<=i then(if i<n then O i.toNat else AV)else if -(n:Int)<=i then O (i+n).toNat else AV
noncomputable def atI{α:Type}(xs:List α)(i:Int):Option α:=(ixN xs.length i).bind λj=>xs[j]?
theorem Oz{n:Nat}{i:Int}{j:Nat}(h:ixN n i=O j):seqIndex? i n=O j/\j<n /\ -(n:Int)<=i/\i<n:=by
 unfold ixN at h;by_cases h0:0<=i
 .rw[Qn h0]at h
  by_cases h1:i<n
  .rw[Qn h1]at h
   have e:i.toNat=j:=Jb h;exact⟨by rw[seqIndex_of h0 h1,e],by omega,by omega,h1⟩
  .rw[QD h1]at h;cases h
 .rw[QD h0]at h
  by_cases h1 : -(n:Int)<=i
  .rw[Qn h1]at h
   have e:(i+n).toNat=j:=Jb h;exact⟨by rw[seqIndex_neg (by omega) h1,e],by omega,h1,by omega⟩
  .rw[QD h1]at h;cases h
theorem SZ{α:Type}{xs:List α}{i:Int}{v:α}(h:atI xs i=O v):∃j,seqIndex? i xs.length=O j/\xs[j]?=O v/\j<xs.length /\ -(xs.length:Int)<=i/\i<xs.length:=by
 unfold atI at h;cases e:ixN xs.length i with
 |none=>rw[e]at h;cases h
 |some j=>rw[e]at h;obtain⟨h1,h2,h3,h4⟩:=Oz e;exact⟨j,h1,h,h2,h3,h4⟩
theorem Z6{α:Type}{xs:List α}{j:Nat}{v:α}(h:xs[j]?=O v):atI xs (j:Int)=O v:=by
 have hj:j<xs.length:=(Qr.mp h).1;have e:ixN xs.length (j:Int)=O j:=by unfold ixN;rw[if_pos (by omega),if_pos (by omega)];simp
 unfold atI;rw[e];exact h
def SY(b:J7):Prop:=∀o i,subscripted b AX o i=operate [o,i] (getItem o i)
def IxR(X:Cx)(r:R2):Prop:=
 ∀(value slice:J7)(pins:List (J5×Obj))(s:J0)(σ:St)(H:Hp)(x y:V)(v u:JZ)(Q:VK),Inv X pins σ H s->RelV x v->RelV y u->r x y H Q ->
  subscripted slice AX v u=operate [v,u] (getItem v u)->J9 (model X.prog X.w) X.A (subscriptTail value slice v u) (EP X pins σ Q) X.xe s
def MtR(X:Cx)(id:String)(r:V->List V->Hp->VK->Prop):Prop:=
 ∀(pins:List (J5×Obj))(s:J0)(σ:St)(H:Hp)(x:V)(xs:List V)(v:JZ)(us:AZ)(Q:VK),Inv X pins σ H s->RelV x v->Vals xs us->r x xs H Q ->
  J9 (model X.prog X.w) X.A (call (.builtin id) (v::us)) (EP X pins σ Q) X.xe s
section
variable{X:Cx}{a b:J7}{ta tb:TE}{pos:Pos}
theorem IxR.or{r r':R2}(h:IxR X r)(h':IxR X r'):IxR X (λx y H Q=>r x y H Q∨r' x y H Q):=by
 intro value slice pins s σ H x y v u Q I rx ry q hs;rcases q with q|q
 .exact h value slice pins s σ H x y v u Q I rx ry q hs
 .exact h' value slice pins s σ H x y v u Q I rx ry q hs
theorem R5{r:R2}(hr:IxR X r)(ha:PE X a ta)(hb:PE X b tb)(hs:SY b):PE X (.Subscript a b pos) (tOp r ta tb):=by intro pins s σ H Q I h;exact Subscript_ (Vg ha hb I h λv u s2 x y H2 I2 rx ry q=>hr a b pins s2 σ H2 x y v u Q I2 rx ry q (hs _ _))
noncomputable def rIxL(K:Frag):R2:=λx y H Q=>∃p xs i v,x=.ref p/\y=.int i/\SqL K H p xs/\atI xs i=O v/\Q v H
noncomputable def rIxT(K:Frag):R2:=λx y H Q=>∃p xs i v,x=.ref p/\y=.int i/\SqT K H p xs/\atI xs i=O v/\Q v H
noncomputable def rIxS:R2:=λx y H Q=>∃z i c,x=.str z/\y=.int i/\z.length<=J8/\atI z.cps.toList i=O c/\Q (.str ⟨#[c]⟩) H
theorem Dd:IxR X (rIxL X.K):=by
 intro value slice pins s σ H x y v u Q I rx ry h hs;obtain⟨p,xs,i,z,rfl,rfl,hq,he,q⟩:=h;cases rx;obtain⟨t,rfl⟩:=ry;obtain⟨its,r,pl,hz⟩:=I.list hq;obtain⟨j,h1,h2,h3,h4,h5⟩:=SZ he;obtain⟨w,ew,jd⟩:=r.get h2;have hl:=r.length;have hn:=TL;have fin:EP X pins σ Q w s:=⟨z,H,I,jd,q⟩
 by_cases h0:0<=i
 .have hj:i.toNat=j:=by
   rw[seqIndex_of h0 h5]at h1;exact Jb h1
  exact item_listR pl.isList h0 (by omega) (by rw[hj];simpa using ew) fin hs
 .have hj:(i+(its.toArray.size:Int)).toNat=j:=by
   rw[seqIndex_neg (by omega) h4]at h1;rw[QL,←hl];exact Jb h1
  exact subscriptTail_builtinR (x:=w) pl.isList.typeIs slot_list_getitem.lookup
   (wpAny_getItem_list_neg (Q:=λr s'=>r=w/\EP X pins σ Q r s') pl.isList (by omega) (by rw[List.size_toArray]<;>omega) (by omega) (by rw[hj];simpa using ew) ⟨rfl,fin⟩) hs
theorem HD:IxR X (rIxT X.K):=by
 intro value slice pins s σ H x y v u Q I rx ry h hs;obtain⟨p,xs,i,z,rfl,rfl,hq,he,q⟩:=h;cases rx;obtain⟨t,rfl⟩:=ry;obtain⟨its,r,pl,hz⟩:=I.tuple hq;obtain⟨j,h1,h2,h3,h4,h5⟩:=SZ he;obtain⟨w,ew,jd⟩:=r.get h2;have hl:=r.length;have hn:=TL;have fin:EP X pins σ Q w s:=⟨z,H,I,jd,q⟩
 exact subscriptTail_builtinR (x:=w) pl.typeIs slot_tuple_getitem.lookup
  (getItem_tuple (j:=j) (Q:=λr s'=>r=w/\EP X pins σ Q r s') pl (by omega) (by omega) (by rw[List.size_toArray,←hl];exact h1) (by simpa using ew) ⟨rfl,fin⟩) hs
theorem HC:IxR X rIxS:=by
 intro value slice pins s σ H x y v u Q I rx ry h hs;obtain⟨z,i,c,rfl,rfl,hz,he,q⟩:=h;obtain⟨t,rfl⟩:=rx;obtain⟨t',rfl⟩:=ry;obtain⟨j,h1,h2,h3,h4,h5⟩:=SZ he;have hl:z.cps.toList.length=z.length:=by simp[Str.length]
 rw[hl]at h1 h4 h5;have hn:=TL;exact tail_any (typeIs_str s z t) slot_str_getitem.lookup (getItem_str (c:=c) (by have e1:decide (i < -(2 ^ 63:Int))=AX:=QC (by omega);have e2:decide (i ≥ 2 ^ 63)=AX:=QC (by omega);rw[e1,e2,Bool.or_false]) (by rw[h1];simpa using h2) ⟨.str ⟨#[c]⟩,H,I.tok _,⟨_,rfl⟩,q⟩) hs
noncomputable def rIx(K:Frag):R2:=λx y H Q=>rIxL K x y H Q∨rIxT K x y H Q∨rIxS x y H Q
theorem PD:IxR X (rIx X.K):=Dd.or (HD.or HC)
theorem AH(lo hi:A7)(n:Nat):(sliceBounds lo hi AV n).1=((HT.sIx n 0 lo:Nat):Int)/\(sliceBounds lo hi AV n).2.1=((HT.sIx n n hi:Nat):Int)/\(sliceBounds lo hi AV n).2.2=1:=by
 refine⟨?_,?_,rfl⟩
 .cases lo with
  |none=>simp[sliceBounds,HT.sIx]
  |some i=>
   simp only[sliceBounds,HT.sIx,Option.getD_none,show(1:Int) > 0 by decide,if_true];by_cases h:i<0
   .simp only[h,if_true]<;>omega
   .simp only[h,JU]<;>omega
 .cases hi with
  |none=>simp[sliceBounds,HT.sIx]
  |some i=>
   simp only[sliceBounds,HT.sIx,Option.getD_none,show(1:Int) > 0 by decide,if_true];by_cases h:i<0
   .simp only[h,if_true]<;>omega
   .simp only[h,JU]<;>omega
theorem AO(its:AZ)(lo hi:A7):slicePick its.toArray lo hi AV=((its.drop (HT.sIx its.length 0 lo)).take (HT.sIx its.length its.length hi-HT.sIx its.length 0 lo)).toArray:=by obtain⟨h1,h2,h3⟩:=AH lo hi its.toArray.size;unfold slicePick;rw[h1,h2,h3];simp only[sliceRange_one,pick_run,QL]<;>rfl
noncomputable def rSlL(K:Frag):V->A7->A7->Hp->VK->Prop:=λx lo hi H Q=>∃a xs,x=.ref a/\SqL K H a xs/\∀p,H p=AV->Q (.ref p) (upd H p (.lst (Yr xs lo hi)))
theorem Dc:SlR X (rSlL X.K):=by intro pins s σ H x v vl vu lo hi sl Q I rx hs pl pu h;obtain⟨a,xs,rfl,hx,q⟩:=h;cases rx;obtain⟨its,r,ht,hz⟩:=I.list hx;have hlen:=r.length;refine⟨"list", _,slot_list_getitem.lookup,ht.isList.typeIs,?_⟩;refine wpAny_getItem_list_slice ht.isList hs pl pu .none (by simp) ?_ (by rw[List.size_toArray]<;>omega);rw[AO,←hlen];refine⟨.ref s.heap.objs.size,_,I.laid (t':=s.toks) (o:=.lst (Yr xs lo hi)) (λb ob q=>Qe _ q) (Qq _) ?_,rfl,q _ (I.hok.fresh (Qq _))⟩;exact⟨Qv (Af xs lo hi) hz,_,0,(r.drop (HT.sIx xs.length 0 lo)).take (HT.sIx xs.length xs.length hi-HT.sIx xs.length 0 lo),QE _ AU⟩
theorem Mv:Zx X (.type "list") (λxs H Q=>∃p ys,xs=[.ref p]/\(SqL X.K H p ys∨SqT X.K H p ys)/\∀l,H l=AV->Q (.ref l) (upd H l (.lst ys))):=by
 intro pins s σ H xs us Q I r h;obtain⟨p,ys,rfl,hq,q⟩:=h;obtain⟨u,rfl,rx⟩:=Tu r;cases rx
 have fin:∀(its:AZ),Vals ys its->ys.length<=J8->∀(h':Heap)(c':Nat),(∀b o',s.heap.get? b=O o'->h'.get? b=O o') ->
   h'.get? s.heap.objs.size=O {cls:=.type "list", dict:=AV,data:=.seq its.toArray c',slots:=#[]}->EP X pins σ Q (.ref s.heap.objs.size) {s with heap:=h'}:=λits r' hz h' c' kp e=>
  ⟨.ref s.heap.objs.size,_,I.laid (t':=s.toks) kp (Qq _) (show KY X.prog X.w _ h' _ (.lst ys)from⟨hz,its,c',r',e⟩),rfl,q _ (I.hok.fresh (Qq _))⟩
 rcases hq with hq|hq
 .obtain⟨its,r',pl,hz⟩:=I.list hq
  have hlen:=r'.length;obtain⟨o,ho,hc,n,hd⟩:=pl.isList;exact call_list_seq p (.inl AU) ho hc hd (λh' c' kp e=>fin its r' hz h' c' kp e) (by simp only[QL]<;>omega)
 .obtain⟨its,r',pl,hz⟩:=I.tuple hq
  have hlen:=r'.length;obtain⟨o,ho,hc,n,hd⟩:=pl;exact call_list_seq p (.inr AU) ho hc hd (λh' c' kp e=>fin its r' hz h' c' kp e) (by simp only[QL]<;>omega)
def tyV(K:Frag)(T:String)(x:V)(H:Hp):Prop:=match x with
 |.str _=>T = "str"
 |.int _=>T = "int"
 |.ref p=>(T = "list" /\ ∃xs,SqL K H p xs)∨(T = "tuple" /\ ∃o,K.lookup p=O o/\o.cls=.type "tuple" /\ o.dict=AV) ∨
   (T = "dict" /\ ((∃kvs,H p=O (.dK kvs)) ∨ ∃kvs,H p=O (.dT kvs)))∨(T = "set" /\ ∃S n,H p=O (.set S n))
 |_=>False
theorem HB{pins:List (J5×Obj)}{σ:St}{H:Hp}{s:J0}{T:String}{x:V}{v:JZ}(I:Inv X pins σ H s)(r:RelV x v)(ty:tyV X.K T x H) :
  s.TypeIs v T/\∀a,v=.ref a->∃ob,s.heap.get? a=O ob/\ob.dict=AV:=by
 cases x with
 |str z=>obtain⟨t,rfl⟩:=r;cases (show T = "str" from ty);exact⟨typeIs_str s z t,λ_ e=>nomatch e⟩
 |int i=>obtain⟨t,rfl⟩:=r;cases (show T = "int" from ty);exact⟨typeIs_int s i t,λ_ e=>nomatch e⟩
 |ref p=>
  cases r;rcases ty with ⟨rfl,xs,hq⟩|⟨rfl,o,hk,hc,hd⟩|⟨rfl,hk⟩|⟨rfl,S,n,hk⟩
  .obtain⟨its,_,pl,_⟩:=I.list hq
   refine⟨pl.isList.typeIs,λa e=>?_⟩;cases e;obtain⟨o,n,e,c,hd,_⟩:=pl;exact⟨o,e,hd⟩
  .refine⟨⟨o,I.kIn p o hk,hc⟩,λa e=>?_⟩
   cases e;exact⟨o,I.kIn _ o hk,hd⟩
  .have z:∃o,s.heap.get? p=O o/\o.ExactDict:=by
    rcases hk with ⟨kvs,hk⟩|⟨kvs,hk⟩
    .obtain⟨_,_,_,_,o,_,_,e,ex,_⟩:=I.hok p _ hk
     exact⟨o,e,ex⟩
    .obtain⟨_,_,_,_,o,_,_,e,ex,_⟩:=I.hok p _ hk
     exact⟨o,e,ex⟩
   obtain⟨o,e,ex⟩:=z;refine⟨⟨o,e,ex.1⟩,λa e2=>?_⟩;cases e2;exact⟨o,e,ex.2.1⟩
  .obtain⟨o,_,_,_,e,ex,_⟩:=I.hok p _ hk
   refine⟨⟨o,e,ex.1⟩,λa e2=>?_⟩;cases e2;exact⟨o,e,ex.2.1⟩
 |_=>exact False.elim ty
noncomputable def tBM(K:Frag)(T:String)(r:V->List V->Hp->VK->Prop)(to:TE)(t:TA):TE:=λσ H Q=>to σ H λx H1=>tyV K T x H1/\t σ H1 λxs H2=>r x xs H2 Q
variable{o e:J7}{es:A3}{to:TE}{t:TA}{name:Str}{apos cpos:Pos}{T id:String}{r:V->List V->Hp->VK->Prop}
theorem R4(pa:PlainAttrs T)(slot:Slot T name id)(hty:typeOf (.builtin id)=pure (.type "method_descriptor"))(hm:MtR X id r)(ho:PE X o to)(ha:PA X (e::es) t)
  (hbase:attributeBase o name X.env (eval o X.env)=eval o X.env:=by rfl)
  (hfew:((backTo cpos (Ua (e::es) X.env)).all (λx=>!x.1)&&(backToKw cpos (keywordEach [] X.env)).all (λx=>x.1.isSome)
   && decide ((e::es).length+([]:List Keyword).length+(if([]:List Keyword).isEmpty then 0 else 1)<30))=AW:=by rfl)
  (hline:(apos.endLine==cpos.line)=AW:=by rfl) (hs:Ua (e::es) X.env=(AX,eval e X.env)::Ua es X.env:=by rfl) (hplain:(backTo cpos (Ua es X.env)).any (·.1)=AX:=by rfl) :
  PE X (.Call (.Attribute o name apos) (e::es) [] cpos) (tBM X.K T r to t):=by
 intro pins s σ H Q I h;refine wpAny_Call_method_late hbase hfew hline AU (thn (ho pins s σ H _ I h) λv s1 ⟨x,H1,I1,r1,ty,q1⟩=>?_);obtain⟨h1,h2⟩:=HB I1 r1 ty;refine⟨T,id,pa,slot,hty,h1,h2,?_⟩;have hA:=ha cpos pins s1 σ H1 _ I1 q1;rw[hs]at hA⊢;refine Calls.callWith_builtin (by show(AX || (backTo cpos (Ua es X.env)).any (·.1))=AX;rw[hplain]<;>rfl) (Calls.evalArgs_plain ?_);exact thn hA λus s2 ⟨vs,H2,I2,r2,q2⟩=>hm pins s2 σ H2 x vs v us Q I2 r1 r2 q2
end
def MtM(X:Cx)(id:String)(r:V->List V->Hp->VK->Prop):Prop:=
 ∀(pins:List (J5×Obj))(s:J0)(σ:St)(H:Hp)(x:V)(xs:List V)(v:JZ)(us:AZ)(Q:VK),Inv X pins σ H s->RelV x v->Vals xs us->r x xs H Q ->
  J9 (model X.prog X.w) X.A (call (.builtin id) (v::us)) (EP X pins σ Q) X.xe s
theorem Vals.one:∀{x:V}{us:AZ},Vals [x] us->∃u,us=[u]/\RelV x u
 |_,_,.cons r .nil=>⟨_,rfl,r⟩
theorem Vals.two:∀{x y:V}{us:AZ},Vals [x,y] us->∃u v,us=[u,v]/\RelV x u/\RelV y v
 |_,_,_,.cons r (.cons q .nil)=>⟨_,_,rfl,r,q⟩
theorem Vals.eraseIdx:∀{xs:List V}{us:AZ}(i:Nat),Vals xs us->Vals (xs.eraseIdx i) (us.eraseIdx i)
 |_,_,_,.nil=>.nil
 |_,_,0,.cons _ t=>t
 |_,_,i+1,.cons r t=>.cons r (Vals.eraseIdx i t)
theorem Vals.reverse{xs:List V}{us:AZ}(h:Vals xs us):Vals xs.reverse us.reverse:=by
 induction h with
 |nil=>exact .nil
 |cons r t ih=>rw[List.reverse_cons,List.reverse_cons];exact Vals.append ih (.cons r .nil)
theorem Vals.rep{xs:List V}{us:AZ}(h:Vals xs us):∀k:Nat,Vals (Ud k xs).flatten (Ud k us).flatten
 |0=>.nil
 |k+1=>by rw[Q9,Q9,QH,QH];exact Vals.append h (Vals.rep h k)
theorem NF{α:Type}:∀(l:List α)(i:Nat),(l.eraseIdx i).length<=l.length
 |[],_=>Qq _
 |_::_,0=>Jo _
 |_::r,i+1=>Nat.succ_le_succ (NF r i)
theorem NE(its:AZ):∀(k:Nat)(acc:AZ),
  List.foldl (λx1 x2=>x1++x2) acc.toArray (Ud k its.toArray)=(acc++(Ud k its).flatten).toArray
 |0,acc=>by simp
 |k+1,acc=>by
  have e:acc.toArray++its.toArray=(acc++its).toArray:=by simp
  have e2:(acc++its)++(Ud k its).flatten=acc++(Ud (k+1) its).flatten:=by rw[Q9,QH,Jr]
  rw[←e2,←NE its k (acc++its),←e,Q9,List.foldl_cons]
section
variable{X:Cx}{pins:List (J5×Obj)}{σ:St}{H:Hp}{s:J0}{l b:J5}{xs ys zs:List V}
theorem Inv.lset{its its':AZ}{n:Nat}{f:Array JZ->Array JZ}{t':Nat}(I:Inv X pins σ H s)(hH:H l=O (.lst xs))
  (e:s.heap.get? l=O {cls:=.type "list", data:=.seq its.toArray n}) (hf:f its.toArray=its'.toArray) (hv:Vals ys its') (hz:ys.length<=J8) :
  Inv X pins σ (upd H l (.lst ys)) {s with heap:=s.heap.update l (Obj.mapSeq f),toks:=t'}:=by
 have q:=PySem.IsL.update e f;rw[hf]at q;refine I.write (x:=l) (e:=l) (by rw[hH];exact trivial) (.inl AU) (λb' u hb hu=>(Qj s.heap (Obj.mapSeq f) (Ne.symm hb)).trans hu) ⟨_,q⟩ ?_;exact⟨hz,its',_,hv,q⟩
theorem Inv.lnew{its:AZ}{t':Nat}(I:Inv X pins σ H s)(hv:Vals ys its)(hz:ys.length<=J8) :
  Inv X pins σ (upd H s.heap.objs.size (.lst ys)) {s with heap:=s.heap.push {cls:=.type "list", data:=.seq its.toArray},toks:=t'}:=
 I.laid (λ_ _ q=>Qe _ q) (Qq _) ⟨hz,its,0,hv,QE _ AU⟩
theorem Inv.fresh(I:Inv X pins σ H s):H s.heap.objs.size=AV:=I.hok.fresh (Qq _)
theorem Inv.lstM(I:Inv X pins σ H s)(hH:H l=O (.lst xs)):xs.length<=J8/\∃(its:AZ)(n:Nat),Vals xs its/\xs.length=its.length/\s.heap.get? l=O {cls:=.type "list", data:=.seq its.toArray n}:=by obtain⟨z,its,n,r,e⟩:=I.hok l _ hH;exact⟨z,its,n,r,r.length,e⟩
theorem Dz{n:Nat}(h:n<=J8):Builtin.List.listTooLong n=AX:=by unfold Builtin.List.listTooLong;exact QC (by omega)
end
section
variable{X:Cx}
noncomputable def F5:V->List V->Hp->VK->Prop:=λx vs H Q=>∃l xs y,x=.ref l/\vs=[y]/\H l=O (.lst xs)/\xs.length<J8/\Q .non (upd H l (.lst (xs++[y])))
theorem NC:MtM X "list.append" F5:=by intro pins s σ H x vs v us Q I rx rv h;obtain⟨l,xs,y,rfl,rfl,hH,hz,q⟩:=h;cases rx;obtain⟨u,rfl,ru⟩:=rv.one;obtain⟨z,its,n,r,hl,e⟩:=I.lstM hH;refine call_meets F.slot_list_append ⟨_,e,rfl⟩ F.entry_list_append (F.args_list_append_2 _ _) (PySem.list_append l its.toArray n u (by rw[QL];omega)) ⟨e,?_⟩;refine⟨.non,_,I.lset (its':=its++[u]) hH e (by simp) (r.append (.cons ru .nil)) ?_,rfl,q⟩;rw[Qk,QF];omega
noncomputable def HA:V->List V->Hp->VK->Prop:=λx vs H Q=>∃l xs i k y,x=.ref l/\vs=[.int i]/\H l=O (.lst xs) /\ -(2 ^ 63)<=i/\i<2 ^ 63/\seqIndex? i xs.length=O k/\xs[k]?=O y/\Q y (upd H l (.lst (xs.eraseIdx k)))
theorem Dy:MtM X "list.pop" HA:=by
 intro pins s σ H x vs v us Q I rx rv h;obtain⟨l,xs,i,k,y,rfl,rfl,hH,h1,h2,hk,hy,q⟩:=h;cases rx;obtain⟨u,rfl,ru⟩:=rv.one;obtain⟨t,rfl⟩:=ru;obtain⟨z,its,n,r,hl,e⟩:=I.lstM hH;obtain⟨w,hw,jd⟩:=r.get hy
 refine call_meets F.slot_list_pop ⟨_,e,rfl⟩ F.entry_list_pop (F.args_list_pop_2 _ _)
  (MeetsSeq.list_pop_at l its.toArray n i t k w (fitsIndex_both h1 h2) (by rw[QL,←hl];exact hk) (by rw[←Array.getElem?_toList];exact hw) (by rw[QL];omega)) ⟨e,?_⟩
 refine⟨y,_,I.lset (its':=its.eraseIdx k) hH e ?_ (r.eraseIdx k) ?_,jd,q⟩
 .show its.toArray.eraseIdxIfInBounds k=(its.eraseIdx k).toArray
  rw[List.eraseIdxIfInBounds_toArray]
 .have:=NF xs k
  omega
theorem F4{α:Type}(xs:List α)(k:Nat):(Ud k xs).flatten.length=k*xs.length:=by
 induction k with
 |zero=>simp
 |succ k ih=>rw[Q9,QH,Qk,ih,Nat.succ_mul,Nat.add_comm]
end
section
variable{prog:J4}{w:World}{A:Around}{E:JZ->J0->Prop}{s:J0}
set_option maxRecDepth 100000 in
end
end L2
namespace Att
open PySem PySem.W PySem.Calls PyProof.Rows
theorem AT{P:Params}{h:Heap}:∀(ns:A0)(vs:AZ),WellAll P h vs (ns.map WData.int)->IntsAre vs ns:=by
 intro ns;induction ns with
 |nil=>intro vs w;rw[List.map_nil]at w;cases w;exact .nil
 |cons n ns ih=>
  intro vs w;rw[Qw]at w;cases w with
  |cons a b=>cases a;exact .cons _ _ (ih _ b)
theorem B3{l:OpenLaw}{n:Nat}(hn:l.most=O n){P:Params}{h:Heap}{args:List WData}{vals:AZ}
  (hpre:l.row.toRowW.claim.pre args=AW) (jq:WellAll P h vals args) :
  ∃a vs ns,vals=[Value.ref a]/\args=[WData.list (ns.map WData.int)]/\h.get? a=O {cls:=.type "list", data:=.seq vs.toArray}/\IntsAre vs ns/\ns.length<=n:=by
 have hsh:WShape.hasAll [] args [.list .int]=AW:=(pre_splitW hpre).1;have hc:l.pre.holds [] {args:=args}=AW:=(pre_splitW hpre).2;obtain⟨d,r,rfl,h1,h2⟩:=hasAllW_cons hsh;obtain rfl:=hasAllW_nil h2;obtain⟨xs,rfl,h3⟩:=hasW_list h1;obtain⟨ns,rfl⟩:=items_int h3
 have hlen:ns.length<=n:=by
  unfold OpenLaw.pre at hc;have h4:(WTm.not (.lt (.lit (.int (n:Int))) (.len (.arg 0)))).holds [] {args:=[.list (ns.map .int)]}=AW:=by have h4:=(holds_andW hc).1;rw[hn]at h4;exact h4
  have h5:=condW_of h4 (w_not (w_lt w_lit (w_len_list (w_arg AU))));rw[Qd]at h5;refine Q5 λq=>?_;have q':(n:Int)<((ns.length:Nat):Int):=by omega
  first
   |(rw[Qx q']at h5;exact absurd h5 (by decide))
   |(simp at h5;omega)
 cases jq with
 |cons w1 w2=>
  cases w2;cases w1 with
  |list ho hall=>exact⟨_,_,ns,rfl,rfl,ho,AT ns _ hall,hlen⟩
theorem B2(l:OpenLaw)(args:List WData):l.row.toRowW.claim.post args (.bool AW) args=AW:=
 postW_of (r:=l.row.toRowW) (X:=(AW==AW))
  (show WShape.has [] (.bool AW) .bool=AW by first|rfl|decide|simp[WShape.has,WShape.arms,WShape.armsAll])
  (show(WTm.eq .res (.lit (.bool AW))).value [] {args:=args,res:=O (.bool AW),after:=args}=O (.bool (AW==AW))from w_eq_bool (w_res AU) w_lit) AU
theorem attach_call{l:OpenLaw}{n:Nat}{q:J4}{loose:List Str}{XP:(Str->A1)->Heap->Prop}{YP:World->Heap->Prop}{d:DefRec}
  (hn:l.most=O n) (hdf:d.params.defaults=[])
  (call:∀(w:World)(s₀ s₁:J0)(mg mb:Str->A1)(fa:J5)(o:Obj)(pm cd doc:JZ)(a:J5)(vs:AZ)(ns:A0),
   Ground q loose [] XP w s₀ mg mb s₁.heap->YP w s₁.heap ->
   s₁.heap.get? fa=O o->o.data=.func (docDef d.name d.params d.body d.scope pm cd doc)->s₁.heap.CodeRec cd d.name->mg d.name=O (.ref fa) ->
   s₁.heap.get? a=O {cls:=.type "list", data:=.seq vs.toArray}->IntsAre vs ns->ns.length<=n->s₁.gens=#[] ->
   codeAny (model l.prog w) callerA (.call (.ref fa) ⟨[.ref a],[]⟩) (λr s'=>r=.ok (.ret (.bool AW))/\OldK s₁.heap s'.heap/\s'.os=s₁.os/\AllBare s'.gens) s₁) :
  WalkO q loose XP YP l.row.toRowW d [] (λf vs=>PySem.call f vs):=by
 intro w s₀ s₁ mg mb G Y fa o pm cd doc dV kV ho hd hcd hD hmg hg args vals as hpre hlay hrd jq hlo;obtain rfl:dV=.none:=Dflts.none hD hdf;obtain rfl:kV=.none:=Dflts.noKw hD;obtain⟨a,vs,ns,rfl,rfl,hobj,hints,hlen⟩:=B3 hn hpre jq;refine enter_call (Jx (call w s₀ s₁ mg mb fa o pm cd doc a vs ns G Y ho (fd_plain hd) hcd hmg hobj hints hlen hg) λr s' hq=>?_);obtain⟨rfl,h2,h3,h4⟩:=hq;exact⟨.inl ⟨.bool AW,.bool AW,[],rfl,λ_=>rfl,.bool AW,B2 l _,λ_=>⟨List.Pairwise.nil,λ_ hm=>(nomatch hm)⟩⟩,h2,h3,h4⟩
end Att
namespace L2
open PySem PySem.Spec PyProof.Rows
theorem VG:∀{vs:AZ}{ns:A0},IntsAre vs ns->Vals (ns.map V.int) vs
 |_,_,.nil=>.nil
 |_,_,.cons n t h=>.cons ⟨t,rfl⟩ (VG h)
def Only(H:Hp):Prop:=∀b,H b=AV ∨ ∃o xs,H b=O (.frz o (.lst xs))
theorem Dx{P:J4}{w:World}{K:Frag}{mg mb:Str->A1}{CX:CXT}{k:Nat}{fa a:J5}{fd:J6}{x:Str}{sp:Sp}{s₁:J0}{vs:AZ}{ns:A0}
  (KX:K.In s₁.heap) (hns:s₁.heap.Ns mainGlobals mg) (hb:s₁.heap.Ns builtinsNs mb) (hbb:∀x:Str,x ≠ "__name__" -> mb x=bootBuiltins x) (hlim:s₁.heap.NoLimit) (hg:s₁.gens=#[])
  (ha:s₁.heap.get? a=O {cls:=.type "list", data:=.seq vs.toArray}) (hi:IntsAre vs ns) (hl:ns.length<=J8) (hr:Room k callerA)
  (F:∀base:Heap,K.In base->base.Ns mainGlobals mg->FnOk P w K mg base CX k fa fd [x] sp) (hbind:∀(s:J0)(u:JZ),BindsTo s fd ⟨[u],[]⟩ [(x,u)])
  (qB:∀H:Hp,Only H->SqL K H a (ns.map V.int)->sp [.ref a] H (λv _=>v=.bl AW) λ_ _ _=>False)
  (hCX:∀H e s',CX [] H s₁ (λ_ _ _=>False) e s'->False) :
  codeAny (model P w) callerA (.call (.ref fa) ⟨[.ref a],[]⟩) (λr s'=>r=.ok (.ret (.bool AW))/\OldK s₁.heap s'.heap/\s'.os=s₁.os/\AllBare s'.gens) s₁:=by
 have rv:=VG hi;have lenV:=hi.length
 have core:∀H:Hp,Only H->SqL K H a (ns.map V.int)->HOk P w H s₁.heap->(∀b,H b≠AV->b=a)->(H a≠AV->K.lookup a=AV) ->
   codeAny (model P w) callerA (.call (.ref fa) ⟨[.ref a],[]⟩) (λr s'=>r=.ok (.ret (.bool AW))/\OldK s₁.heap s'.heap/\s'.os=s₁.os/\AllBare s'.gens) s₁:=by
  intro H hO hS hok hA hK;have base_of:∀{b:J5}{o:Obj},s₁.heap.get? b=O o->H b=AV->(Zr s₁.heap H).get? b=O o:=λe n=>CG e n
  have noA:∀{b:J5}{o:Obj}{es:Array DictEntry}{ep:Nat},s₁.heap.get? b=O o->o.data=.dict es ep->H b=AV:=λ{b o es ep} e d=>by
   cases q:H b with
   |none=>rfl
   |some u=>have e':b=a:=hA b (by rw[q];simp);subst e';rw[ha]at e;cases e;have d':Data.seq vs.toArray _=Data.dict es ep:=d;cases d'
  have nsK:∀{b:J5}{m:Str->A1},s₁.heap.Ns b m->(Zr s₁.heap H).Ns b m:=λ{b m} ⟨o,es,ep,e,d,r⟩=>⟨o,es,ep,base_of e (noA e d),d,r⟩
  have hKb:K.In (Zr s₁.heap H):=λb o e=>base_of (KX b o e) (by
   cases q:H b with
   |none=>rfl
   |some u=>have e':b=a:=hA b (by rw[q];simp);subst e';rw[hK (by rw[q];simp)]at e;cases e)
  have hM:Mod K mg (Zr s₁.heap H):=⟨hKb,nsK hns,⟨mb,nsK hb,hbb⟩,let ⟨mc,h1,h2⟩:=hlim;⟨mc,nsK h1,h2⟩⟩
  have e0:Env0 P w K mg (Zr s₁.heap H) callerA [] s₁ H:=⟨rfl,hM,λb o e=>Db e,Nat.le_of_eq (BL _ _),trivial,λb hb=>absurd (show b∈([]:A5)from hb) (by simp),hok,.of_eq hg⟩
  refine Jx ((F _ hKb (nsK hns)).run callerA [] s₁ H ⟨[.ref a],[]⟩ [.ref a] [.ref a] _ _ hr e0 (hbind s₁ (.ref a)) (.cons AU .nil) (qB H hO hS)) λr s' h=>?_
  cases r with
  |error e=>exact(hCX H e s' h).elim
  |ok fl=>
   cases fl with
   |next=>exact False.elim h
   |brk=>exact False.elim h
   |cont=>exact False.elim h
   |ret u=>
    obtain⟨v,H',os,bare,un,hok',r',q⟩:=h;have q':v=.bl AW:=q;subst q';obtain rfl:u=Value.bool AW:=r';refine⟨rfl,OldK.of_keep λb o e=>?_,os,bare⟩;cases q:H b with
    |none=>exact un.keep b o e q (by intro z;exact absurd (show b∈([]:A5)from z) (by simp)) (by simp)
    |some u=>
     rcases hO b with z|⟨ob,xs,z⟩
     .rw[q]at z;cases z
     .have z2:=un.frzs b ob _ z
      obtain⟨e1,_⟩:=hok b _ z;obtain⟨e2,_⟩:=hok' b _ z2;rw[e]at e1;cases e1;exact e2
 cases hk:K.lookup a with
 |some o=>have e:=KX a o hk;rw[ha]at e;cases e;refine core (λ_=>AV) (λ_=>.inl AU) (.inr ⟨_,vs.toArray,_,hk,rfl,rfl,rfl,by rw[List.size_toArray,lenV];exact hl,by simpa using rv⟩) (λb u z=>by have z':(none:Option HO)=O u:=z;cases z') (λb z=>absurd AU z) λz=>absurd AU z
 |none=>
  refine core (λb=>if b=a then O (.frz {cls:=.type "list", data:=.seq vs.toArray} (.lst (ns.map V.int)))else AV) (λb=>?_) (.inl (.inr ⟨{cls:=.type "list", data:=.seq vs.toArray},Qn AU⟩)) (λb u z=>?_) (λb z=>?_) λ_=>hk
  .by_cases hb:b=a
   .exact .inr ⟨_,_,Qn hb⟩
   .exact .inl (QD hb)
  .by_cases hb:b=a
   .have z':=(Qn hb).symm.trans z
    cases z';subst hb;exact⟨ha,by rw[Qd];exact hl,vs,_,rv,ha⟩
   .have z':=(QD hb).symm.trans z
    cases z'
  .by_cases hb:b=a
   .exact hb
   .exact absurd (QD hb) z
noncomputable def YI(s:Stmt):Arguments:=match s with
 |.FunctionDef _ a _ _ _ _ _ _ _ _=>a
 |_=>{posonlyargs:=[],args:=[],vararg:=AV,kwonlyargs:=[],kw_defaults:=[],kwarg:=AV,defaults:=[]}
noncomputable def K9(s:Stmt):List Stmt:=match s with
 |.FunctionDef _ _ b _ _ _ _ _ _ _=>b
 |_=>[]
noncomputable def Ki(s:Stmt):Scope:=match s with
 |.FunctionDef _ _ _ _ _ _ sc _ _ _=>sc
 |_=>{kind:=.function,names:=[],isGenerator:=AX,isCoroutine:=AX}
noncomputable abbrev CX0:CXT:=λ_ _ _ _ _ _=>False
noncomputable abbrev E0:XK:=λ_ _ _=>False
theorem SB{X:Cx}:SR CX0 X E0:=λ_ _ _ _ _ _ _ h=>h.elim
structure Fun(K:Frag)(x qual:Str)(st:Stmt)(f:J5)(fd:J6):Prop where
 ex:∃(oc:JZ)(od:A8)(kV doc pm:JZ)(an:A8)(cdv ct:JZ)(osl:Array A1),
  fd=PySem.W.fnOf x qual (YI st) (K9 st) (Ki st) .none kV doc pm an cdv ct/\K.lookup f=O ⟨oc,od,.func fd,osl⟩/\PySem.W.codeIn K cdv qual=AW
 kp:PySem.W.keepIn K (.ref f)=AW
section
variable{P:J4}{w:World}{K:Frag}{mg:Str->A1}{base:Heap}
theorem Fun.ok{x qual:Str}{st:Stmt}{f:J5}{fd:J6}{N ps:List Str}{k:Nat}{sp:Sp}(F:Fun K x qual st f fd)(S:Xr N ps (Ki st))(len:∀vs H Q E,sp vs H Q E->vs.length=ps.length)
  (hbody:∀(cdv:JZ)(A:Around)(outer:List Env)(s:J0)(H:Hp)(vs:List V)(Q:VK)(E:XK),Room k (A.deeper (envOfC qual (Ki st) s.heap.objs.size f cdv))->sp vs H Q E ->
   ∃t,PSs (Kv CX0 P w K mg base N qual (Ki st) f cdv A outer s H E).nox (K9 st) t/\t {nx:=λ_ H'=>Q .non H',rt:=Q} (Z2 N vs) H):FnOk P w K mg base CX0 (k+1) f fd ps sp:=by
 obtain⟨oc,od,kV,doc,pm,an,cdv,ct,osl,rfl,lk,hcd⟩:=F.ex;refine R6 lk hcd S len λA outer s H vs Q E hr qB=>?_
 obtain⟨t,h,q⟩:=hbody cdv A outer s H vs Q E hr qB;exact⟨t,h.nox,q⟩
theorem Fun.binds{x qual:Str}{st:Stmt}{f:J5}{fd:J6}{ps:List Str}(F:Fun K x qual st f fd)
  (h:∀(kV doc pm:JZ)(an:A8)(cdv ct:JZ)(us:AZ),us.length=ps.length->bindArgs (PySem.W.fnOf x qual (YI st) (K9 st) (Ki st) .none kV doc pm an cdv ct) ⟨us,[]⟩=pure (ps.zip us)):Zi K fd ps []:=by
 obtain⟨oc,od,kV,doc,pm,an,cdv,ct,osl,rfl,lk,hcd⟩:=F.ex;exact .all (h kV doc pm an cdv ct)
end
def Same(H H':Hp):Prop:=∀b o,H b=O o->H' b=O o
theorem Same.refl(H:Hp):Same H H:=λ_ _ h=>h
theorem Same.trans{H H1 H2:Hp}(a:Same H H1)(b:Same H1 H2):Same H H2:=λc o h=>b c o (a c o h)
theorem Same.free{H H':Hp}(e:Same H H'){l:J5}(h:H' l=Option.none):H l=Option.none:=by
 cases q:H l with
 |none=>rfl
 |some o=>rw[e l o q]at h;cases h
theorem Same.seq{K:Frag}{H H':Hp}{a:J5}{xs:List V}(e:Same H H')(h:SqL K H a xs):SqL K H' a xs:=by
 rcases h with (h|⟨o,h⟩)|h
 .exact .inl (.inl (e _ _ h))
 .exact .inl (.inr ⟨o,e _ _ h⟩)
 .exact .inr h
section
variable{X:Cx}{pins:List (J5×Obj)}{σ:St}{H:Hp}{s:J0}{h':Heap}
theorem Inv.turnedNew{t':Nat}{fp:A5}{p:J5}{o:HO}(I:Inv X pins σ H s)(hf:∀b∈fp,KJ X pins H b)
  (k:∀b o,b∉fp->s.heap.get? b=O o->h'.get? b=O o) (hp:s.heap.objs.size<=p) (new:KY X.prog X.w (upd H p o) h' p o) :
  Inv X pins σ (upd H p o) {s with heap:=h',toks:=t'}:=by
 have hn:H p=AV:=I.hok.fresh hp;have trk:∀b u,H b=O u->b∉fp:=λb u e z=>by rw[(hf b z).1]at e;cases e
 refine I.step (g':=s.gens) (d':=s.drawn) (ch:=fp) (λb hb=>?_) (λb o _ _ hc e _=>k b o hc e) (λb o _ _ hc e _=>⟨o.slots,k b o hc e⟩)
  (λb o _ e n=>by rw[UZ (QO (QG (Qh e) hp))];exact n) (λb o hc e=>⟨o,k b o hc e⟩)
  (λb xs e=>by rw[UZ (Z9 e hn)];exact e) (λb ob u e=>by rw[UZ (Z9 e hn)];exact e) (λb ps e=>⟨#[],by rw[UZ (Z9 e hn),e];simp⟩)
  (λm hm=>?_) (λb u e=>?_) I.bare
 .obtain⟨_,f1,_,f3,f4,f5⟩:=hf b hb
  exact⟨f3,f1,f4,f5⟩
 .obtain⟨ob,es,ep,ho,r⟩:=hm
  exact⟨ob,es,ep,k _ ob (λz=>(hf _ z).2.1 AU) ho,r⟩
 .by_cases hb:b=p
  .subst hb;rw[U8]at e;cases e;exact new
  .rw[UZ hb]at e
   refine(I.hok b u e).stay (λc v hc q=>k c v ?_ q) (λc q=>by rw[UZ (Z9 q hn)];exact q) λc xs q=>by rw[UZ (Z9 q hn)];exact q
   rcases hc with z|z
   .rw[z];exact trk b u e
   .exact trk c _ z
theorem Inv.turnedL{t':Nat}{fp:A5}(I:Inv X pins σ H s)(hf:∀b∈fp,KJ X pins H b)
  (k:∀b o,b∉fp->s.heap.get? b=O o->h'.get? b=O o):Inv X pins σ H {s with heap:=h',toks:=t'}:=by
 have trk:∀b u,H b=O u->b∉fp:=λb u e z=>by rw[(hf b z).1]at e;cases e
 refine I.step (g':=s.gens) (d':=s.drawn) (ch:=fp) (λb hb=>?_) (λb o _ _ hc e _=>k b o hc e) (λb o _ _ hc e _=>⟨o.slots,k b o hc e⟩)
  (λ_ _ _ _ n=>n) (λb o hc e=>⟨o,k b o hc e⟩) (λ_ _ e=>e) (λ_ _ _ e=>e) (λb ps e=>⟨#[],by rw[e];simp⟩) (λm hm=>?_) (λb u e=>?_) I.bare
 .obtain⟨_,f1,_,f3,f4,f5⟩:=hf b hb
  exact⟨f3,f1,f4,f5⟩
 .obtain⟨ob,es,ep,ho,r⟩:=hm
  exact⟨ob,es,ep,k _ ob (λz=>(hf _ z).2.1 AU) ho,r⟩
 .refine(I.hok b u e).stay (λc v hc q=>k c v ?_ q) (λc q=>q) λc xs q=>q
  rcases hc with z|z
  .rw[z];exact trk b u e
  .exact trk c _ z
end
noncomputable def Ite(K:Frag)(a:J5):It:=
 ⟨λi H=>∃xs x,SqL K H a xs/\xs[i]?=O x,
  λi H v H'=>∃p x,H p=AV/\v=.ref p/\(∀xs,SqL K H a xs->xs[i]?=O x)/\H'=upd H p (.tup [.int i,x]),
  λi H=>∃xs,SqL K H a xs/\xs.length<=i⟩
theorem B0{P:J4}{w:World}{K:Frag}{elts:A3}{x1}{tp:Pos}(a e it:J5)(hne:e≠it) :
  Turn P w K (.Tuple elts x1 tp) (Ite K a) [e,it] e (λi h=>(∃old,IsEnum h e it i old)/\h.IsListIter it a i) where
 mem:=by simp
 obj:=λi h st b hb=>by
  obtain⟨⟨old,he⟩,o,ho,c,d⟩:=st;have hb':b=e∨b=it:=by simpa using hb
  rcases hb' with rfl|rfl
  .exact⟨_,he,λv z=>by have z':Data.fields _=Data.cell v:=z;cases z'⟩
  .exact⟨o,ho,λv z=>by rw[d]at z;cases z⟩
 keep:=λi h h' st k=>by obtain⟨⟨old,he⟩,hi⟩:=st;exact⟨⟨old,k e (by simp) _ he⟩,hi.at λo q=>k it (by simp) o q⟩
 item:=by
  intro X hP hw hK hc i pins s σ H E I hf st hg;subst hP hw hK;obtain⟨⟨old,he⟩,hi⟩:=st;obtain⟨xs,x,hq,hx⟩:=hg;obtain⟨its,rv,p,hz⟩:=I.list hq;obtain⟨u,hu,ru⟩:=rv.get hx;refine wpAny_pyNext_enum_item he hi p.isList (x:=u) (by simpa using hu) hne λh1 out hi1 ht hsz kk=>?_
  refine⟨_,rfl,wpAny_letOwnedTupleGo_enum out λh2 ji hs2=>?_⟩;have hel:e<s.heap.objs.size:=Qh he;have je:Heap.SameBut e h1 h2:=hs2;have ht2:h2.get? s.heap.objs.size=O {cls:=.type "tuple", data:=.seq #[.int i s.toks,u]}:=(je.2 _ (Jq hel)).trans ht
  have kk2:∀b o,b∉[e,it]->s.heap.get? b=O o->h2.get? b=O o:=λb o hb q=>by
   have qA:b≠e:=λz=>hb (by simp[z])
   have hbi:b≠it:=λz=>hb (by simp[z])
   exact(je.2 b qA).trans (kk b o qA hbi q)
  have hn:H s.heap.objs.size=AV:=I.hok.fresh (Qq _)
  have I2:Inv X pins σ (upd H s.heap.objs.size (.tup [.int i,x])) {s with heap:=h2,toks:=s.toks+1}:=
   I.turnedNew (fp:=[e,it]) hf kk2 (Qq _) ⟨by show 2<=J8;decide,[.int i s.toks,u],.cons ⟨_,rfl⟩ (.cons ru .nil),⟨_,ht2,rfl,_,rfl⟩⟩
  refine⟨.ref s.heap.objs.size,_,I2,rfl,⟨_,x,hn,rfl,λys hy=>by rw[I.list_inj hy hq];exact hx,rfl⟩,⟨⟨u,?_⟩,?_⟩,λb hb=>?_⟩
  .have:=ji
   simpa using this
  .have hi2:h2.IsListIter it a (i+1):=hi1.at λo q=>(je.2 it (Ne.symm hne)).trans q
   exact hi2
  .have fr:=(hf b hb)
   have hlt:b<s.heap.objs.size:=by
    have hb':b=e∨b=it:=by simpa using hb
    rcases hb' with rfl|rfl
    .exact hel
    .obtain⟨o,ho,_⟩:=hi;exact Qh ho
   rw[UZ (QO hlt)];exact fr.1
 done:=by intro X hP hw hK hc i pins s σ H E I hf st hg;subst hP hw hK;obtain⟨⟨old,he⟩,hi⟩:=st;obtain⟨xs,hq,hx⟩:=hg;obtain⟨its,rv,p,hz⟩:=I.list hq;have hl:=rv.length;exact wpAny_pyNext_enum_end (I.ok.hd hc) he hi p.isList (by simp;omega) λh' eb=>⟨rfl,I.turnedL (t':=s.toks) hf λb o hb q=>eb b o (λz=>hb (by simp[z])) q⟩
 self:=λ_ _ _ _ _ st h=>by obtain⟨⟨old,he⟩,_⟩:=st;exact wpAny_pyIter_enum he h
section
variable{X:Cx}
noncomputable def Lb(K:Frag)(ta:TA):TI:=λσ H R=>ta σ H λvs H1=>∃a xs,vs=[.ref a]/\SqL K H1 a xs/\R (Ite K a) H1
theorem F3{a:J7}{ta:TA}{p pos:Pos}{elts:A3}{x1}{tp:Pos}(hg:Gl X "enumerate")(hm:X.mg "enumerate" = AV)(ha:PA X [a] ta)
  (hs:Ua [a] X.env=[(AX,eval a X.env)]:=by rfl):PI X (.Tuple elts x1 tp) (.Call (.Name "enumerate" p) [a] [] pos) (Lb X.K ta):=by
 intro pins s σ H R I h;refine Call_ (Wk I hg hm boot_enumerate (Jp (thn (ha pos pins s σ H _ I h) λus s1 ⟨vs,H1,I1,r1,q1⟩=>?_) hs AU));obtain⟨l,xs,e,hq,q⟩:=q1;subst e;cases r1 with
 |cons r rr=>
  cases rr;cases (show _=Value.ref l from r);obtain⟨its,rv,pl,hz⟩:=I1.list hq;refine call_enumerate_list pl.isList λh' he hi hsz kk=>?_;have I2:Inv X pins σ H1 {s1 with heap:=h'}:=I1.kept (t':=s1.toks) kk;refine wpAny_pyIter_enum he ?_
  refine⟨s1.heap.objs.size+1,[s1.heap.objs.size+1,s1.heap.objs.size],_,_,H1,rfl,I2,B0 l _ _ (Nat.succ_ne_self _),⟨⟨_,he⟩,hi⟩,λb hb=>?_,q⟩;have hb':b=s1.heap.objs.size+1∨b=s1.heap.objs.size:=by simpa using hb
  rcases hb' with rfl|rfl
  .exact I1.fpOk (Jo _) (I1.hok.fresh (Jo _))
  .exact I1.fpOk (Qq _) (I1.hok.fresh (Qq _))
end
section
variable{κ:Type}[DecidableEq κ]
noncomputable def ZR(kvs:List (κ×V))(k:κ):Option V:=(kvs.find? λkv=>decide (kv.1=k)).map (·.2)
theorem OM{p:κ×V}{r:List (κ×V)}{k:κ}(e:p.1=k):ZR (p::r) k=O p.2:=by simp[ZR,List.find?_cons,e]
theorem OL{p:κ×V}{r:List (κ×V)}{k:κ}(e:¬p.1=k):ZR (p::r) k=ZR r k:=by simp[ZR,List.find?_cons,e]
theorem RelO.getD{o:Option V}{u:A1}{d:V}{d':JZ}(r:RelO o u)(rd:RelV d d'):RelV (o.getD d) (u.getD d'):=by
 cases o with
 |none=>cases u with
  |none=>exact rd
  |some _=>exact(show False from r).elim
 |some _=>cases u with
  |none=>exact(show False from r).elim
  |some _=>exact r
theorem KV.val{kvs:List (κ×V)}{vs:List (κ×JZ)}(r:KV kvs vs)(k:κ):RelO (ZR kvs k) (valueAt vs k):=by
 unfold KV at r;induction r with
 |nil=>exact True.intro
 |@cons p q ps qs h t ih=>
  obtain⟨h1,h2⟩:=h;by_cases e:p.1=k
  .have e':q.1=k:=h1.symm.trans e
   have b:valueAt (q::qs) k=O q.2:=by simp[valueAt,List.find?_cons,e']
   rw[OM e,b];exact h2
  .have e':¬q.1=k:=λz=>e (h1.trans z)
   have b:valueAt (q::qs) k=valueAt qs k:=by simp[valueAt,List.find?_cons,e']
   rw[OL e,b];exact ih
theorem KV.keys{kvs:List (κ×V)}{vs:List (κ×JZ)}(r:KV kvs vs):kvs.map (·.1)=vs.map (·.1):=by
 unfold KV at r;induction r with
 |nil=>rfl
 |cons h t ih=>rw[Qw,Qw,ih,h.1]
end
theorem La{P:J4}{w:World}{k:Key}{u:JZ}(r:RelV (kV k) u):(Z7 P w).is k u=AW:=by
 cases k with
 |inl i=>obtain⟨t,e⟩:=(show ∃t,u=Value.int i t from r);subst e;exact Ag P w i t
 |inr x=>obtain⟨t,e⟩:=(show ∃t,u=Value.str x t from r);subst e;exact RJ P w x t
end L2
namespace L2
open PySem PySem.Spec
def Tail(bmB bm:AZ):Prop:=∀(X:String)(b:Bool),bmB.contains (.type X)=b->bm.contains (.type X)=b
theorem Tail.base{bmB:AZ}:Tail bmB bmB:=λ_ _ h=>h
theorem Tail.own{bmB bm:AZ}{D:J5}(T:Tail bmB bm):Tail bmB (.ref D::bm):=λX b h=>by rw[QW,T X b h];rfl
section
variable{prog:J4}{w:World}{A:Around}{E:JZ->J0->Prop}{h:Heap}{g:Array GenState}{d:Drawn}{t:Nat}{os:OsState}{R:Result->J0->Prop}
variable{nm q:Str}{C N:J5}{bs bm bmB:AZ}{hdct:Bool}{sn:List Str}{sub:AZ}{ab:Bool}{col:A9}{dd:A8}{k0 k1 k2 k3 k5:A1}{B newId initId:String}
theorem Ab{M:Model}(F:ExcBaseFacts B newId initId bmB)(T:Tail bmB bm){rest:AZ}{Q:Unit->J0->Prop}(hC:h.get? C=O (excClassObj nm q C N bs bm hdct sn sub ab col dd k0 k1 k2 k3 k5 newId))
  (hq:Q () ⟨h,g,d,t,os⟩):J9 M A (checkBuiltinCall newId ⟨.ref C::rest,[]⟩) Q E ⟨h,g,d,t,os⟩:=by
 have jH:(Value.ref C::bm).contains (.type B)=AW:=by rw[QW,T _ _ F.hasB,JN]
 have hstar:=F.noStar;simp only[checkBuiltinCall,F.newKind,F.newSplit,F.newRow]
 repeat (first|refine Qg hC ?_|(refine Qz hC ?_;rw[jH])|refine wpAny_staticBase_exc hC ?_|refine wpAny_madeBy_exc hC ?_|simp only[bne_self_eq_false,Jl,JU] | wp_step)
 exact hq
theorem Dw(F:ExcBaseFacts B newId initId bmB)(T:Tail bmB bm){rest:AZ}(hC:h.get? C=O (excClassObj nm q C N bs bm hdct sn sub ab col dd k0 k1 k2 k3 k5 newId))
  (hq:R (.ok (.ret (.ref (h.objs.size+1)))) ⟨(h.push {cls:=.type "tuple", data:=.seq rest.toArray}).push
   {cls:=.ref C,data:=.fields #[.ref h.objs.size,.none,.none,.none,.bool AX,.none]},g,d,t,os⟩) (hrest:rest.length<=J8) :
  codeAny (model prog w) A (.builtin newId ⟨.ref C::rest,[]⟩) R ⟨h,g,d,t,os⟩:=by
 have hends:=F.ends;have qx:(Value.ref C::bm).contains (.type B)=AW:=by rw[QW,T _ _ F.hasB,JN]
 have hcA:(Value.ref C::bm).contains (.type "AttributeError")=AX:=by rw[QW,T _ _ F.noAttr];rfl
 have hcN:(Value.ref C::bm).contains (.type "NameError")=AX:=by rw[QW,T _ _ F.noName];rfl
 refine codeAny_builtinAt F.entry ?_;unfold Builtin.«BaseException.__new__»;refine wpAt_bind ?_;show wpAt _ _ _ (stack >>= _) _ _ _;refine wpAt_bind (wpAt_stack λp below=>wpAt_of_wpAny ?_)
 wp_walk
 refine wpAt_of_wpAny ?_;rw[F.owner]
 repeat (first|with_reducible refine wpAny_madeHere_exc F.canon hC ?_|with_reducible refine Qg hC ?_|(with_reducible refine Qz hC ?_;first|rw[qx] | rw[hcA] | rw[hcN])|wp_step)
 show R _ _;rw[JA];exact hq
def PB(M:Model)(C fI:J5)(h:Heap):Prop:=∀(A:Around)(E:JZ->J0->Prop)(Q:A1->J0->Prop)(h':Heap)(g:Array GenState)(d:Drawn)(t:Nat)(os:OsState),
 (∀b o,h.get? b=O o->h'.get? b=O o)->Q (O (.ref fI)) ⟨h',g,d,t,os⟩->J9 M A (typeLookup (.ref C) "__init__") Q E ⟨h',g,d,t,os⟩
theorem Aa(F:ExcBaseFacts B newId initId bmB)(T:Tail bmB bm){rest:AZ}{fI:J5}{oI:Obj}{Q:Fin->J0->Prop}
  (hC:h.get? C=O (excClassObj nm q C N bs bm hdct sn sub ab col dd k0 k1 k2 k3 k5 newId)) (hi:PB (model prog w) C fI h)
  (hfI:h.get? fI=O oI) (hfc:oI.cls=.type "function")
  (hq:∀h' e,Heap.MadeExcOf h h' e (.ref C) rest->h.objs.size<=e ->
   J9 (model prog w) A (call (.ref fI) (.ref e::rest)) (λr s'=>r=.none/\Q (.done (.ret (.ref e))) s') E ⟨h',g,d,t,os⟩) (hrest:rest.length<=J8) :
  J9 (model prog w) A (Builtin.«type.__call__» ⟨.ref C::rest,[]⟩) Q E ⟨h,g,d,t,os⟩:=by
 repeat (first|with_reducible refine Qg hC ?_|with_reducible refine wpAny_madeBy_exc hC ?_|wp_step)
 refine codeAny_call_builtin_code (Code.quiet_builtin _ F.quiet) (Ab F T hC ?_);refine Dw F T hC ?_ hrest;show J9 _ _ _ _ _ _
 have hC₁:=Qe {cls:=.ref C,data:=.fields #[.ref h.objs.size,.none,.none,.none,.bool AX,.none]}
  (Qe {cls:=.type "tuple", data:=.seq rest.toArray} hC)
 have hfI₁:=Qe {cls:=.ref C,data:=.fields #[.ref h.objs.size,.none,.none,.none,.bool AX,.none]}
  (Qe {cls:=.type "tuple", data:=.seq rest.toArray} hfI)
 have hget:((h.push {cls:=.type "tuple", data:=.seq rest.toArray}).push
   {cls:=.ref C,data:=.fields #[.ref h.objs.size,.none,.none,.none,.bool AX,.none]}).get? (h.objs.size+1)=O
   {cls:=.ref C,data:=.fields #[.ref h.objs.size,.none,.none,.none,.bool AX,.none]}:=by heap_get
 have hcC:(Value.ref C::bm).contains (.ref C)=AW:=by simp
 unfold isInstance
 repeat (first|with_reducible refine Qg hget ?_|(with_reducible refine Qz hC₁ ?_;rw[hcC])|wp_step)
 show J9 _ _ (typeLookup (.ref C) _) _ _ _;refine hi _ _ _ _ _ _ _ _ (λb o hb=>Qe _ (Qe _ hb)) ?_;refine Jh (Qb ?_);unfold bindSpecial;refine Qb (wpAny_typeOf (T:= "function") ⟨_,hfI₁,hfc⟩ ?_);rw[Qn (by decide)];refine Qf (Qb (Qy (hq _ (h.objs.size+1) ⟨λb o hb=>Qe _ (Qe _ hb),Heap.get?_none_of_le (Jo _),h.objs.size,hget,Heap.get?_none_of_le (Qq _),?_⟩ (Jo _)) (λr s' hr=>?_) λ_ _ x=>x))
 .exact Qe _ (Heap.get?_push_at AU AU)
 .obtain⟨rfl,hQ⟩:=hr
  wp_walk
  exact hQ
theorem NB(F:ExcBaseFacts B newId initId bmB)(T:Tail bmB bm){rest:AZ}{fI:J5}{oI:Obj}{Q:JZ->J0->Prop}
  (hC:h.get? C=O (excClassObj nm q C N bs bm hdct sn sub ab col dd k0 k1 k2 k3 k5 newId)) (hi:PB (model prog w) C fI h)
  (hfI:h.get? fI=O oI) (hfc:oI.cls=.type "function")
  (hq:∀h' e,Heap.MadeExcOf h h' e (.ref C) rest->h.objs.size<=e ->
   J9 (model prog w) (A.under (.builtin "type.__call__" ⟨.ref C::rest,[]⟩)) (call (.ref fI) (.ref e::rest)) (λr s'=>r=.none/\Q (.ref e) s') E ⟨h',g,d,t,os⟩) (hrest:rest.length<=J8) :
  J9 (model prog w) A (call (.ref C) rest) Q E ⟨h,g,d,t,os⟩:=by
 have f1:=tc_lookup;have f2:=tc_bind (.ref C);have hT:(⟨h,g,d,t,os⟩:J0).TypeIs (.ref C) "type" :=⟨_,hC,rfl⟩
 refine wpAny_call (codeAny_of_tree ?_);show J9 _ _ (callAny (.ref C) _) _ _ _
 repeat (any_goals (first|assumption|with_reducible refine Qg hC ?_|wp_step))
 refine⟨rfl,?_⟩;refine codeAny_call_builtin_at (Code.quiet_builtin _ (by decide +kernel)) entry_typeCall (wpAny_check_type_call_sub hC (Aa (hrest:=hrest) F T hC hi hfI hfc λh' e hm hz=>?_));exact hq h' e hm hz
end
def Kp(M:Model)(C:J5)(name:Str)(r:A1)(h:Heap):Prop:=∀(A:Around)(E:JZ->J0->Prop)(Q:A1->J0->Prop)(h':Heap)(g:Array GenState)(d:Drawn)(t:Nat)(os:OsState),
 (∀b o,h.get? b=O o->h'.get? b=O o)->Q r ⟨h',g,d,t,os⟩->J9 M A (typeLookup (.ref C) name) Q E ⟨h',g,d,t,os⟩
theorem Kp.keeps{M:Model}{C:J5}{name:Str}{r:A1}{h h':Heap}(x:Kp M C name r h)(k:∀b o,h.get? b=O o->h'.get? b=O o):Kp M C name r h':=
 λA E Q h2 g d t os k2 q=>x A E Q h2 g d t os (λb o e=>k2 b o (k b o e)) q
theorem Kp.at{M:Model}{A:Around}{E:JZ->J0->Prop}{Q:A1->J0->Prop}{C:J5}{name:Str}{r:A1}{h:Heap}{g:Array GenState}{d:Drawn}{t:Nat}{os:OsState}(x:Kp M C name r h)(q:Q r ⟨h,g,d,t,os⟩):J9 M A (typeLookup (.ref C) name) Q E ⟨h,g,d,t,os⟩:=
 x A E Q h g d t os (λ_ _ e=>e) q
section
variable{prog:J4}{w:World}{A:Around}{E:JZ->J0->Prop}{h:Heap}{g:Array GenState}{d:Drawn}{t:Nat}{os:OsState}{R:Result->J0->Prop}
variable{nm q:Str}{C N x:J5}{bs bm bmB:AZ}{hdct:Bool}{sn:List Str}{sub:AZ}{ab:Bool}{col:A9}{dd:A8}{k0 k1 k2 k3 k5:A1}{B newId sa owner:String}{mN mA:Str->A1}{name:Str}{v:JZ}
def ZN(M:Model)(l:AZ)(name:Str)(r:A1)(h:Heap):Prop:=∀(A:Around)(E:JZ->J0->Prop)(Q:A1->J0->Prop)(h':Heap)(g:Array GenState)(d:Drawn)(t:Nat)(os:OsState),
 (∀b o,h.get? b=O o->h'.get? b=O o)->Q r ⟨h',g,d,t,os⟩->J9 M A (lookupAlong l name) Q E ⟨h',g,d,t,os⟩
theorem ZN.base{M:Model}{y:A1}(hm:mroOf (.type B)=pure bm)(hB:typeLookup (.type B) name=pure y):ZN M bm name y h:=λA E Q h' g d t os k q=>by rw[typeLookup_eq,hm]at hB;have hrest:lookupAlong bm name=pure y:=hB;rw[hrest];exact Qf q
theorem ZN.hit{M:Model}{D:J5}{c0:JZ}{qp:A8}{cd:ClassData}{sl:Array A1}(hD:h.get? D=O {cls:=c0,dict:=qp,data:=.cls cd,slots:=sl})(hn:h.Ns cd.ns mN)(hi:mN name=O v):ZN M (.ref D::bm) name (O v) h:=λA E Q h' g d t os k q=>by rw[lookupAlong_cons];refine Qb (wpAny_classOwn_cls (k _ _ hD) (hn.keeps k) ?_);rw[hi];exact Qf q
theorem ZN.miss{M:Model}{D:J5}{r:A1}{c0:JZ}{qp:A8}{cd:ClassData}{sl:Array A1}(hD:h.get? D=O {cls:=c0,dict:=qp,data:=.cls cd,slots:=sl})(hn:h.Ns cd.ns mN)(hi:mN name=AV)(f:ZN M bm name r h):ZN M (.ref D::bm) name r h:=λA E Q h' g d t os k q=>by rw[lookupAlong_cons];refine Qb (wpAny_classOwn_cls (k _ _ hD) (hn.keeps k) ?_);rw[hi];exact f A E Q h' g d t os k q
theorem Kp.of{M:Model}{r:A1}(hC:h.get? C=O (excClassObj nm q C N bs bm hdct sn sub ab col dd k0 k1 k2 k3 k5 newId))(f:ZN M (.ref C::bm) name r h):Kp M C name r h:=λA E Q h' g d t os k q=>by rw[typeLookup_eq];exact Qb (wpAny_mroOf_exc (k _ _ hC) (f A E Q h' g d t os k q))
theorem CY{M:Model}{o:Obj}{nameV:JZ}{Q:Unit->J0->Prop}(SF:StoreFacts B bmB sa owner)(T:Tail bmB bm)
  (hC:h.get? C=O (excClassObj nm q C N bs bm hdct sn sub ab col dd k0 k1 k2 k3 k5 newId)) (hx:h.get? x=O o) (hc:o.cls=.ref C) (hq:Q () ⟨h,g,d,t,os⟩) :
  J9 M A (checkBuiltinCall sa ⟨[.ref x,nameV,v],[]⟩) Q E ⟨h,g,d,t,os⟩:=by
 have qx:(Value.ref C::bm).contains (.type owner)=AW:=by rw[QW,T _ _ SF.hasOwner,JN]
 have ha:=SF.args (.ref x) nameV v;simp only[checkBuiltinCall,SF.kind,SF.split];refine Qb ?_
 .unfold isInstance
  repeat (first|(with_reducible refine Qg hx ?_;rw[hc])|(with_reducible refine Qz hC ?_;rw[qx])|wp_step)
  cases hsig:Manifest.signature? sa with
  |none=>exact Qf hq
  |some sig=>simp only[argsOk,hsig]at ha;have h2:Bind.checkArgs sa sig ⟨[.ref x,nameV,v],[]⟩=pure ():=ha;show J9 M A (Bind.checkArgs sa sig ⟨[.ref x,nameV,v],[]⟩) Q E _;rw[h2];exact Qf hq
theorem AG{tk:Tok}{Q:PySem.Fin->J0->Prop}{ns:List Str}(hpass:refuseLoop (.ref x) "__setattr__" bm=pure ())
  (hC:h.get? C=O (excClassObj nm q C N bs bm AW sn sub ab col dd k0 k1 k2 k3 k5 newId)) (hf:Kp (model prog w) C name AV h) (I:h.InstFk x C mA)
  (hq:∀h' tk',h'.InstFk x C (λy=>if y=name then O v else mA y) ->
   (∀b o,b≠x->(∀o₀ dx,h.get? x=O o₀->o₀.dict=O dx->b≠dx)->h.get? b=O o->h'.get? b=O o) ->
   (∀o₀,h.get? x=O o₀->∃o₁,h'.get? x=O o₁/\o₁.cls=o₀.cls/\o₁.data=o₀.data/\o₁.slots=o₀.slots/\∀dx,o₀.dict=O dx->o₁.dict=O dx)->(∀o₀ o₁ dx,h.get? x=O o₀->o₀.dict=AV->h'.get? x=O o₁->o₁.dict=O dx->h.objs.size<=dx)->Q (.done (.ret .none)) ⟨h',g,d,tk',os⟩) (hw:PySem.Within mA ns) (hsz:ns.length<=1000) :
  J9 (model prog w) A (Builtin.«object.__setattr__» ⟨[.ref x,.str name tk,v],[]⟩) Q E ⟨h,g,d,t,os⟩:=by
 obtain⟨o,hx,hc,hnc,hd⟩:=I;have hs2:ns.length<=J8:=by rw[JB];omega
 unfold Builtin.«object.__setattr__»
 repeat (first|rw[refuse_eq] | (rw[refuseLoop_ref,hpass])|(with_reducible refine Qg hx ?_;rw[hc])|with_reducible refine wpAny_mroOf_exc hC ?_|with_reducible refine hf.at ?_|wp_step)
 rcases hd with ⟨hdn,hmA⟩|⟨dx,qO,hne,hns,hed⟩
 ·
  rw[hdn,if_neg (by simp[typeHasDict])];split
  .rename_i hcd
   cases hcd
  split
  .rename_i c hcd
   exact absurd hcd (hnc c)
  .have hx₁:(h.push {cls:=.type "dict", data:=.dict #[]}).get? x=O o:=Qe _ hx
   have hxs:x≠h.objs.size:=QO (Qh hx);refine Qb (wpAny_alloc' ?_);refine Qb (wpAny_update' hx₁ ?_);refine Qf ?_
   have hgd:((h.push {cls:=.type "dict", data:=.dict #[]}).update x λo=>{cls:=o.cls,dict:=O h.objs.size,data:=o.data,slots:=o.slots}).get? h.objs.size
     = O {cls:=.type "dict", data:=.dict #[]}:=
    (Heap.get?_update_ne _ _ _ _ hxs.symm).trans (Heap.get?_push_at AU AU)
   have hnd:((h.push {cls:=.type "dict", data:=.dict #[]}).update x λo=>{cls:=o.cls,dict:=O h.objs.size,data:=o.data,slots:=o.slots}).Ns h.objs.size (λ_=>AV):=
    ⟨_,#[],_,hgd,rfl,λe he=>absurd he (by simp),λ_=>rfl⟩
   show J9 _ _ (Builtin.ObjectAttr.storeInDict h.objs.size (.str name tk) name v) _ _ _;unfold Builtin.ObjectAttr.storeInDict Builtin.ObjectAttr.newKeyGuard;refine Qb (Qf (Qb (wpAny_nsSet1EFk (Heap.Ns1.of_empty hnd) λh' hn' hs qv=>?_)));obtain⟨oD,esD,epD,hoD,hdD,hcD⟩:=hn'.count (PySem.Within.cons name v PySem.Within.nil);refine Qb (wpAny_lookBehind hoD (by rw[hdD];exact pastItsLine_dict (Qv hcD (by rw[QK,QS,JB];omega))) ?_)
   wp_walk
   have hx':h'.get? x=O {cls:=o.cls,dict:=O h.objs.size,data:=o.data,slots:=o.slots}:=?_
   refine hq h' _ ⟨{cls:=o.cls,dict:=O h.objs.size,data:=o.data,slots:=o.slots},hx',hc,hnc,.inr ⟨h.objs.size,rfl,hxs.symm,?_,(let ⟨od',e',c',d'⟩:=qv _ hgd;⟨od',e',c',d'⟩)⟩⟩ (λb ob hbx _ hb=>?_)
    (λo₀ h₀=>by obtain rfl:o=o₀:=Jb (hx.symm.trans h₀);exact⟨_,hx',rfl,rfl,rfl,λdx e=>by rw[hdn]at e;cases e⟩)
    (λo₀ o₁ dx _ _ e1 e2=>by rw[hx']at e1;cases e1;cases e2;exact Qq _)
   .obtain⟨o',es,ep,e1,e2,e3,eu,e4⟩:=hn'
    exact⟨o',es,ep,e1,e2,e3,eu,λy=>by rw[e4 y];by_cases hy:y=name<;>simp[hy,hmA]⟩
   .exact(hs.2 b (QO (Qh hb))).trans ((Heap.get?_update_ne _ _ _ _ hbx).trans (Qe _ hb))
   .refine(hs.2 x hxs).trans (QI _ hx₁ ?_)
    have hfr:=(Heap.get?_some_iff.mp hx).2;obtain⟨oc,od,odt,osl⟩:=o;cases odt<;>first|rfl|exact hfr
 ·
  rw[qO];refine Qf ?_;show J9 _ _ (Builtin.ObjectAttr.storeInDict dx (.str name tk) name v) _ _ _;unfold Builtin.ObjectAttr.storeInDict Builtin.ObjectAttr.newKeyGuard;refine Qb (Qf (Qb (wpAny_nsSet1EFk hns λh' hn' hs qv=>?_)));obtain⟨oD,esD,epD,hoD,hdD,hcD⟩:=hn'.count (PySem.Within.cons name v hw);refine Qb (wpAny_lookBehind hoD (by rw[hdD];exact pastItsLine_dict (Qv hcD (by rw[QK,JB];omega))) ?_)
  wp_walk
  refine hq h' _ ⟨o,(hs.2 x hne.symm).trans hx,hc,hnc,.inr ⟨dx,qO,hne,hn',(let ⟨od,e,c,dd⟩:=hed;let ⟨od',e',c',d'⟩:=qv od e;⟨od',e',c'.trans c,d'.trans dd⟩)⟩⟩ (λb ob _ hbd hb=>?_)
   (λo₀ h₀=>⟨o₀,(hs.2 x hne.symm).trans h₀,rfl,rfl,rfl,λ_ e=>e⟩)
   (λo₀ o₁ dx' e0 e1 _ _=>by rw[hx]at e0;cases e0;rw[qO]at e1;cases e1)
  exact(hs.2 b (hbd o dx hx qO)).trans hb
theorem Mx{Q:Unit->J0->Prop}{ns:List Str}(SF:StoreFacts B bmB sa owner)(T:Tail bmB bm)(hpass:refuseLoop (.ref x) "__setattr__" bm=pure ())
  (hC:h.get? C=O (excClassObj nm q C N bs bm AW sn sub ab col dd k0 k1 k2 k3 k5 newId)) (hfs:Kp (model prog w) C "__setattr__" (O (.builtin sa)) h) (hf:Kp (model prog w) C name AV h) (I:h.InstFk x C mA)
  (hq:∀h' tk',h'.InstFk x C (λy=>if y=name then O v else mA y) ->
   (∀b o,b≠x->(∀o₀ dx,h.get? x=O o₀->o₀.dict=O dx->b≠dx)->h.get? b=O o->h'.get? b=O o) ->
   (∀o₀,h.get? x=O o₀->∃o₁,h'.get? x=O o₁/\o₁.cls=o₀.cls/\o₁.data=o₀.data/\o₁.slots=o₀.slots/\∀dx,o₀.dict=O dx->o₁.dict=O dx)->(∀o₀ o₁ dx,h.get? x=O o₀->o₀.dict=AV->h'.get? x=O o₁->o₁.dict=O dx->h.objs.size<=dx)->Q () ⟨h',g,d,tk',os⟩) (hw:PySem.Within mA ns) (hsz:ns.length<=1000) :
  J9 (model prog w) A (setAttr (.ref x) name v) Q E ⟨h,g,d,t,os⟩:=by
 obtain⟨o,hx,hc,_⟩:=id I;have f3:=SF.slot.bind (.ref x);unfold setAttr callSpecial? specialOf
 repeat (any_goals (first|assumption|(with_reducible refine Qg hx ?_;rw[hc])|with_reducible refine hfs.at ?_|wp_step))
 refine codeAny_call_builtin SF.slot.plain SF.entry (CY SF T hC hx hc (AG hpass hC hf I (λh' tk' I' hk hsame hnew=>?_) hw hsz))
 repeat (any_goals (first|assumption|wp_step))
 exact hq h' tk' I' hk hsame hnew
theorem CW{M:Model}{o:Obj}{nameV:JZ}{Q:Unit->J0->Prop}(T:Tail bmB bm)(hb:bmB.contains (.type "BaseException")=AW)(hC:h.get? C=O (excClassObj nm q C N bs bm hdct sn sub ab col dd k0 k1 k2 k3 k5 newId))
  (hx:h.get? x=O o) (hc:o.cls=.ref C) (hq:Q () ⟨h,g,d,t,os⟩):J9 M A (checkBuiltinCall "BaseException.__getattribute__" ⟨[.ref x,nameV],[]⟩) Q E ⟨h,g,d,t,os⟩:=by
 have hk:builtinKind "BaseException.__getattribute__" = O .slot:=by decide +kernel
 have hsplit:splitId "BaseException.__getattribute__" = O ("BaseException", "__getattribute__"):=by decide +kernel
 have qx:(Value.ref C::bm).contains (.type "BaseException")=AW:=by rw[QW,T _ _ hb];rfl
 have ha:=PySem.F.args_bexc_ga (.ref x) nameV;simp only[checkBuiltinCall,hk,hsplit];refine Qb ?_
 .unfold isInstance
  repeat (first|(with_reducible refine Qg hx ?_;rw[hc])|(with_reducible refine Qz hC ?_;rw[qx])|wp_step)
  exact hq
end
theorem YT{o:Obj}{vs:Array JZ}(f:Array JZ->Array JZ)(h:o.data=.fields vs):Obj.mapFields f o = {o with data:=.fields (f vs)}:=by obtain⟨c,d,dt,sl⟩:=o;cases h;rfl
def Tb(h:Heap)(e:J5)(vs:Array JZ)(fl:JZ):Prop:=∃T oT ts,vs[1]?=O (.ref T)/\T≠e/\h.get? T=O oT/\oT.data=.fields ts/\ts[3]?=O fl
def Fly(c:Bool)(h:Heap)(e:J5):Prop:=∃oe vs,h.get? e=O oe/\oe.data=.fields vs/\(vs[1]?=O .none∨Tb h e vs .none)/\(c=AW->vs[2]?=O .none)
theorem Fly.weak{c c1:Bool}{h:Heap}{e:J5}(x:Fly c1 h e)(hcc:c=AW->c1=AW):Fly c h e:=let ⟨oe,vs,a,b,d,z⟩:=x;⟨oe,vs,a,b,d,λq=>z (hcc q)⟩
structure Wj(fs:A5)(e:J5)(h h':Heap):Prop where
 keep:∀b o,b≠e->b∉fs->h.get? b=O o->h'.get? b=O o
 slot:∀b o,b≠e->h.get? b=O o->∃sl,h'.get? b=O {o with slots:=sl}
 own:∀oe,h.get? e=O oe->∃vs,h'.get? e=O {oe with data:=.fields vs}
section
variable{M:Model}{A:Around}{E:JZ->J0->Prop}{s:J0}{base:Heap}{env:Env}{outer:List Env}{L e:J5}{c:Bool}
theorem newEntry{oe:Obj}{vs:Array JZ}{head:JZ}{hadNext:Bool}{Q:Unit->J0->Prop}(hfr:A.frames=O (env::outer))(hl:s.heap.FunFrames base (env::outer))(hf:env.frame=O L)
  (he:s.heap.get? e=O oe) (hd:oe.data=.fields vs) (hsz:1<vs.size) (hc2:c=AW->vs[2]?=O .none)
  (h:∀h',Wj (frs (env::outer)) e s.heap h'->Fly c h' e->Q () {s with heap:=h'}) :
  J9 M A (do let a ←frameOf env;let pl ←entryPlaceOf L hadNext;let b ←EntryCells.newEntry head a .none (rawInt L) .none pl;setField (.ref e) 1 b) (λ_ s'=>J9 M A (setFlight (.ref e) AV) Q E s') E s:=by
 have jh:e∉(env::outer).filterMap (·.frame):=λhm=>by obtain⟨_,o,ho,hnf⟩:=hl.mem hm;rw[he]at ho;injection ho with ho;subst ho;exact hnf vs hd
 refine Qb (wpAny_frameOf_fun hfr hl hf λh₁ hs₁=>?_);refine Qb (wpAny_entryPlaceOf λpl hpl=>?_);unfold EntryCells.newEntry newFields;refine Qb (wpAny_newObj_type ?_ (hpl.sizeOk5 _ _ _ _ _));have he₁:h₁.get? e=O oe:=(hs₁.2.1 e jh).trans he;have he₂:=Qe (h:=h₁) {cls:=.type "traceback", dict:=AV,data:=.fields ([head,.ref L,.none,rawInt L,.none]++(if pl.isEmpty then Ud 6 Value.none else pl)).toArray} he₁;refine Q6 he₂ hd hsz ?_;have qy:h₁.objs.size≠e:=Jq (Qh he₁);have hd₃:=Je hd (·.setIfInBounds 1 (Value.ref h₁.objs.size));have he₃:=QI (Obj.mapFields (·.setIfInBounds 1 (Value.ref h₁.objs.size))) he₂ (Jf hd₃)
 have hT₃:=(Qj (h₁.push {cls:=.type "traceback", dict:=AV,data:=.fields ([head,.ref L,.none,rawInt L,.none]++(if pl.isEmpty then Ud 6 Value.none else pl)).toArray})
  (Obj.mapFields (·.setIfInBounds 1 (Value.ref h₁.objs.size))) (Ne.symm qy)).trans (QE h₁ AU)
 unfold setFlight;refine wpAny_bind (wpAny_field he₃ hd₃ (x:=.ref h₁.objs.size) (by simp[hsz]) ?_);rw[if_pos (show(Value.ref h₁.objs.size != Value.none)=AW from by simp)];refine Q6 hT₃ AU (by simp only[QL,Qk,QK,QS]<;>lia) (h _ ?_ ?_)
 .have keep:∀b o,b≠e->h₁.get? b=O o ->
    (((h₁.push {cls:=.type "traceback", dict:=AV,data:=.fields ([head,.ref L,.none,rawInt L,.none]++(if pl.isEmpty then Ud 6 Value.none else pl)).toArray}).update e (Obj.mapFields (·.setIfInBounds 1 (Value.ref h₁.objs.size)))).update h₁.objs.size
     (Obj.mapFields (·.setIfInBounds 3 ((none:A8).elim Value.none λf=>rawInt f)))).get? b=O o:=λb o qA hb=>by
   have qT:h₁.objs.size≠b:=Jq (Qh hb);rw[Qj _ _ qT,Qj _ _ (Ne.symm qA)];exact Qe _ hb
  refine⟨λb o hb hf hg=>keep b o hb ((hs₁.2.1 b hf).trans hg),λb o hb hg=>?_,λjp z=>?_⟩
  .obtain⟨sl,hs⟩:=hs₁.2.2 b o hg
   exact⟨sl,keep b _ hb hs⟩
  .rw[he]at z;cases z
   exact⟨_,by rw[Qj _ _ qy,he₃,YT _ hd]⟩
 .refine⟨_,_,?_,hd₃,.inr ⟨h₁.objs.size,_,_,by simp[hsz],qy,Heap.get?_update_self _ hT₃ (Obj.isFreed_of_fields (Obj.data_mapFields rfl _)),Obj.data_mapFields rfl _,by first|(simp;done)|(rcases hpl with rfl|⟨_,_,_,_,_,_,_,rfl⟩<;>simp)⟩,?_⟩
  .rw[Qj _ _ qy];exact he₃
  .intro z;rw[Ju (by decide)];exact hc2 z
theorem XF{Q:Unit->J0->Prop}(hfr:A.frames=O (env::outer))(hl:s.heap.FunFrames base (env::outer))(hf:env.frame=O L)(x:Fly c s.heap e)
  (h:∀h',Wj (frs (env::outer)) e s.heap h'->Fly c h' e->Q () {s with heap:=h'}):J9 M A (noteFrame (.ref e) env) (λ_ s'=>J9 M A (setFlight (.ref e) AV) Q E s') E s:=by
 obtain⟨oe,vs,he,hd,h1,h2⟩:=x;unfold noteFrame;simp only[hf];rcases h1 with h1|⟨T,oT,ts,h1,qy,hT,qw,h3⟩
 .refine Qb (Q2 he hd h1 ?_)
  rw[QD (by decide)];exact newEntry hfr hl hf he hd (Jc.mp h1).1 h2 h
 .refine Qb (Q2 he hd h1 ?_)
  rw[if_pos (show(Value.ref T != Value.none)=AW from by simp)];refine Qb (Q2 hT qw h3 ?_);rw[if_neg (show ¬((Value.none==rawInt L)=AW)from by simp[rawInt])];obtain⟨q8,hv3⟩:=Jc.mp h3;refine Qb (Q6 hT qw q8 ?_)
  have same:∀b o,s.heap.get? b=O o->(s.heap.update T (Obj.mapFields (·.setIfInBounds 3 Value.none))).get? b=O o:=λb o hb=>by
   by_cases qT:b=T
   .subst qT
    rw[hT]at hb;cases hb;rw[QI _ hT (Jf (Je qw _)),YT _ qw]
    have:ts.setIfInBounds 3 Value.none=ts:=by
     apply Array.ext_getElem?;intro i;rw[Array.getElem?_setIfInBounds];split
     .rename_i z
      subst z;exact h3.symm
     .rfl
    rw[this,←qw]
   .rw[Qj _ _ (Ne.symm qT)];exact hb
  exact newEntry hfr (hl.of_keeps λb o hb hnf=>⟨o,same b o hb,rfl⟩) hf (same e oe he) hd (Jc.mp h1).1 h2
   λh' p t=>h h' ⟨λb o a c g=>p.keep b o a c (same b o g),λb o a g=>p.slot b o a (same b o g),λjp z=>p.own jp (same e jp z)⟩ t
theorem Hz{Q:Unit->J0->Prop}(hfr:A.frames=O (env::outer))(hl:s.heap.FunFrames base (env::outer))(hf:env.frame=O L)(x:Fly c s.heap e)
  (h:∀h',Wj (frs (env::outer)) e s.heap h'->Fly c h' e->Q () {s with heap:=h'}):J9 M A (leaving env (.ref e)) Q E s:=by
 unfold leaving;exact Qb (XF hfr hl hf x h)
end
end L2
namespace L2
open PySem PySem.Spec PyProof.Rows PySem.Calls PyProof.V
noncomputable def XO(fr:Bool)(e C:J5)(dd:A8):Heap->Prop:=λh=>∃vs sl,h.get? e=O {cls:=.ref C,dict:=dd,data:=.fields vs,slots:=sl}/\(fr=AW->vs[1]?=O .none/\(∃t0,vs[0]?=O (.ref t0))/\vs[2]?=O .none/\4<vs.size)
theorem XO.ok{P:J4}{w:World}{H:Hp}{h:Heap}{fr:Bool}{e C:J5}{dd:A8}(x:XO fr e C dd h):KY P w H h e (.ext (XO fr e C dd)):=
 ⟨x,let ⟨_,_,q,_⟩:=x;⟨_,q⟩,λh1 h2 ⟨vs,sl,q,z⟩ k=>⟨vs,sl,k _ q,z⟩⟩
theorem XO.fly{c:Bool}{h:Heap}{e C:J5}{dd:A8}(x:XO AW e C dd h):Fly c h e:=let ⟨vs,_,q,z⟩:=x;⟨_,vs,q,rfl,.inl (z AU).1,λ_=>(z AU).2.2.1⟩
theorem XO.old{h:Heap}{fr:Bool}{e C:J5}{dd:A8}(x:XO fr e C dd h):XO AX e C dd h:=let ⟨vs,sl,q,_⟩:=x;⟨vs,sl,q,λz=>nomatch z⟩
noncomputable def K8(c:Bool)(P:J4)(w:World):CXT:=λouter H s E v s'=>∃e C dd H',v=.ref e/\s'.os=s.os/\AllBare s'.gens/\Un (frs outer) [] H H' s.heap s'.heap/\HOk P w H' s'.heap/\H' e=O (.ext (XO AX e C dd))/\Fly c s'.heap e/\E (.ref e) AV H'
abbrev CX1:=K8 AW
section
variable{X:Cx}{pins:List (J5×Obj)}{σ:St}{H:Hp}{s:J0}{e C:J5}{dd:A8}{h':Heap}
theorem Inv.passed(I:Inv X pins σ H s)(hx:H e=O (.ext (XO AX e C dd)))(p:Wj (frs X.stack) e s.heap h'):Inv X pins σ H {s with heap:=h'}:=by
 have ne:∀b,H b=AV->b≠e:=λb n z=>by rw[z,hx]at n;cases n
 refine I.call (g':=s.gens) (t':=s.toks) (d':=s.drawn) (ch:=[]) ⟨λb o g n f _=>p.keep b o (ne b n) f g,λb o g n _ _=>p.slot b o (ne b n) g,λb o _ n _=>n,λb o g _=>?_,λ_ _ z=>z,λ_ _ _ z=>z,λb ps z=>⟨#[],by rw[z];simp⟩⟩ (λa o q=>?_) I.bare λb z=>absurd z (by simp)
 .by_cases hb:b=e
  .subst hb
   obtain⟨vs,z⟩:=p.own o g;exact⟨_,z⟩
  .obtain⟨sl,z⟩:=p.slot b o hb g
   exact⟨_,z⟩
 .by_cases ha:a=e
  .subst ha
   rw[hx]at q;cases q;obtain⟨⟨vs,sl,g,_⟩,_,_⟩:=I.hok a _ hx;obtain⟨vs',z⟩:=p.own _ g;exact XO.ok ⟨vs',sl,z,λz=>nomatch z⟩
  .refine(I.hok a o q).stay (λb u hb g=>p.keep b u ?_ (λz=>?_) g) (λ_ z=>z) λ_ _ z=>z
   .rcases hb with rfl|hb
    .exact ha
    .rintro rfl;rw[hx]at hb;cases hb
   .have n:=I.stkFree b z
    rcases hb with rfl|hb
    .rw[q]at n;cases n
    .rw[hb]at n;cases n
def ZL(c:Bool)(X:Cx)(KX:V->St->Hp->Prop):Prop:=∀(pins:List (J5×Obj))(σ:St)(H:Hp)(s:J0)(e C:J5)(dd:A8),Inv X pins σ H s->H e=O (.ext (XO AX e C dd))->Fly c s.heap e->KX (.ref e) σ H->X.xe (.ref e) s
theorem Dv{c:Bool}{P:J4}{w:World}{K:Frag}{mg:Str->A1}{base:Heap}{N:List Str}{qual:Str}{scope:Scope}{f:J5}{cd:JZ}{A:Around}{outer:List Env}{s₀:J0}{H₀:Hp}{E:XK} :
  ZL c (Kv (K8 c P w) P w K mg base N qual scope f cd A outer s₀ H₀ E) λv _ H=>∃e,v=.ref e/\E (.ref e) AV H:=by
 intro pins σ H s e C dd I hx fl ⟨e',ee,hE⟩;cases ee;refine Hz (L:=s₀.heap.objs.size) I.ok.frames I.stack AU fl λh' p fl'=>?_;have I':=I.passed hx p
 exact⟨e,C,dd,H,rfl,I'.os,I'.bare,I'.base,I'.hok,hx,fl',hE⟩
theorem ZL.pass{c c1:Bool}{KX:V->St->Hp->Prop}{E:XK}{v:JZ}{s':J0}(hw:ZL c X KX)(hcc:c=AW->c1=AW)(I:Inv X pins σ H s)(h:K8 c1 X.prog X.w X.stack H s E v s')(hk:∀e H,E (.ref e) AV H->KX (.ref e) σ H):X.xe v s':=by obtain⟨e,C,dd,H',rfl,os,bare,un,hok,hx,fl,hE⟩:=h;obtain⟨hh,g,d,t,os'⟩:=s';obtain rfl:os'=s.os:=os;exact hw pins σ H' _ e C dd (I.call (h':=hh) (g':=g) (d':=d) (t':=t) (ch:=[]) un hok bare (λb z=>absurd z (by simp))) hx (fl.weak hcc) (hk e H' hE)
end
noncomputable abbrev VB:AZ:=[.type "ValueError", .type "Exception", .type "BaseException", .type "object"]
structure XCls(M:Model)(base:Heap)(C:J5)(bm:AZ)(fI:J5):Prop where
 obj:∃nm q N bs sn sub ab col dd k0 k1 k2 k3 k5,base.get? C=O (excClassObj nm q C N bs bm AW sn sub ab col dd k0 k1 k2 k3 k5 "ValueError.__new__")
 tail:Tail VB bm
 init:Kp M C "__init__" (O (.ref fI)) base
 fn:∃o,base.get? fI=O o/\o.cls=.type "function"
 sa:Kp M C "__setattr__" (O (.builtin "object.__setattr__")) base
 ga:Kp M C "__getattribute__" (O (.builtin "BaseException.__getattribute__")) base
 gh:Kp M C "__getattr__" none base
 cl:Kp M C "__class__" (O (.builtin "object.__class__")) base
 pass:∀v,refuseLoop v "__setattr__" bm=pure ()
section
variable{X:Cx}{k:Nat}{f C:J5}{fd:J6}{ps:List Str}{sp:Sp}{x:Str}{p pos cpos:Pos}{e:J7}{es:A3}{t:TA}{bm:AZ}
theorem CV{pins:List (J5×Obj)}{σ:St}{H:Hp}{s:J0}{Q:VK}{us:AZ}{vs:List V}(M:XCls (model X.prog X.w) X.base C bm f)(F:FnOk X.prog X.w X.K X.mg X.base CX0 k f fd ps sp)(hr:Room (k+1) X.A)(hb:Zi X.K fd ps [])
  (I:Inv X pins σ H s) (r:Vals vs us) (hl:us.length<=J8)
  (h:∀a,H a=AV->sp (.ref a::vs) (upd H a (.ext (XO AW a C AV))) (λv H2=>v=.non/\Q (.ref a) H2) E0) :
  J9 (model X.prog X.w) X.A (call (.ref C) us) (EP X pins σ Q) X.xe s:=by
 obtain⟨nm,q,N,bs,sn,sub,ab,col,dd,k0,k1,k2,k3,k5,hC⟩:=M.obj;obtain⟨oI,hfI,hfc⟩:=M.fn;obtain⟨hp,g,d,tk,os⟩:=s;refine NB PySem.F.excBase_ValueError M.tail (I.bk _ _ hC) (fI:=f) (M.init.keeps I.bk) (I.bk _ _ hfI) hfc (λh' a made hz=>?_) hl;obtain⟨t',he,htn,ht⟩:=made.there;have I2:Inv X pins σ (upd H a (.ext (XO AW a C AV))) ⟨h',g,d,tk,os⟩:=I.laid (t':=tk) made.keeps hz (XO.ok ⟨_,_,he,λ_=>⟨rfl,⟨_,rfl⟩,rfl,by simp⟩⟩);have hq:=h a (I.hok.fresh hz);have r2:Vals (V.ref a::vs) (Value.ref a::us):=.cons AU r;have hl2:(Value.ref a::us++[]).length=ps.length:=by have e:=r2.length;rw[F.len _ _ _ _ hq]at e;rw[Q1];exact e.symm
 refine wpAny_call (Jx (F.run _ X.stack _ _ ⟨Value.ref a::us,[]⟩ (Value.ref a::us) _ _ E0 (hr.make C us []) (I2.env0.make C us []) (by have:=hb _ (Value.ref a::us) I2.kIn hl2;rwa[Q1]at this) r2 hq) λr s' qH=>?_);cases r with
 |error e=>exact qH.elim
 |ok fl=>
  cases fl with
  |ret u=>obtain⟨v,H',I3,rv,ev,q3⟩:=I2.after qH;subst ev;exact⟨rv,⟨V.ref a,H',I3,rfl,q3⟩⟩
  |next=>exact False.elim qH
  |brk=>exact False.elim qH
  |cont=>exact False.elim qH
noncomputable def tMkX(C:J5)(sp:Sp)(t:TA):TE:=λσ H Q=>t σ H λvs H1=>vs.length<=J8/\∀a,H1 a=AV->sp (.ref a::vs) (upd H1 a (.ext (XO AW a C AV))) (λv H2=>v=.non/\Q (.ref a) H2) E0
theorem Du(M:XCls (model X.prog X.w) X.base C bm f)(F:FnOk X.prog X.w X.K X.mg X.base CX0 k f fd ps sp)(hr:Room (k+1) X.A)(hg:Gl X x)(hm:X.mg x=O (.ref C))(hk:PySem.W.keepIn X.K (.ref C)=AW)(hb:Zi X.K fd ps [])
  (ha:PA X (e::es) t) (hdb:(x==("__debug__" : Str))=AX:=by decide) (he:Ua (e::es) X.env=(AX,eval e X.env)::Ua es X.env:=by rfl) (hpl:(backTo pos (Ua es X.env)).any (·.1)=AX:=by rfl) :
  PE X (.Call (.Name x p) (e::es) [] pos) (tMkX C sp t):=by
 intro pins s σ H Q I h;refine Ji (Xc I hg hm ?_ hdb);refine JL (h₀:=X.base) I.ok.mod.kin hk (thn (ha pos pins s σ H _ I h) λus s1 ⟨vs,H1,I1,r,hl,q⟩=>⟨I1.kIn,?_⟩) he hpl;exact CV M F hr hb I1 r (by show us.length<=J8;rw[←r.length];exact hl) q
noncomputable def Hy(KC:J5->Prop)(te:TE)(KX:V->St->Hp->Prop):TS:=λ_ σ H=>te σ H λv H2=>∃a C dd,v=.ref a/\KC C/\H2 a=O (.ext (XO AW a C dd))/\KX (.ref a) σ (upd H2 a (.ext (XO AX a C dd)))
theorem CU{M:Model}{A:Around}{E:JZ->J0->Prop}{env:Env}{s:J0}{Q:Flow->J0->Prop}{y:Sem JZ}
  (hh:A.handled=AV) (h:J9 M A y (λv s₁=>∃a C dd vs sl nm q N bs bm hdct sn sub ab col qp k0 k1 k2 k3 k5 newId,v=.ref a/\bm.contains (.type "BaseException")=AW/\s₁.heap.get? C=O (excClassObj nm q C N bs bm hdct sn sub ab col qp k0 k1 k2 k3 k5 newId) /\
   s₁.heap.get? a=O {cls:=.ref C,dict:=dd,data:=.fields vs,slots:=sl}/\vs[1]?=O .none/\E (.ref a) s₁) E s) :
  J9 M A (raiseStmt env (O y) AV) Q E s:=by
 unfold raiseStmt;refine Qb (Qy h (λv s₁ h₁=>?_) λ_ _ x=>x);obtain⟨a,C,dd,vs,sl,nm,q,N,bs,bm,hdct,sn,sub,ab,col,qp,k0,k1,k2,k3,k5,newId,rfl,hbase,hC,he,h1,hE⟩:=h₁;have qx:(Value.ref C::bm).contains (.type "BaseException")=AW:=by rw[QW,hbase,JN]
 obtain⟨hp,g,d,tk,os⟩:=s₁
 repeat (first|with_reducible refine Q2 he AU h1 ?_|with_reducible refine Qg he ?_|with_reducible refine Qg hC ?_|(with_reducible refine Qz hC ?_;rw[qx])|wp_step)
 exact wpAny_raiseNew_none hh hE
theorem Inv.aged{pins:List (J5×Obj)}{σ:St}{H:Hp}{s:J0}{a C:J5}{dd:A8}(I:Inv X pins σ H s)(hx:H a=O (.ext (XO AW a C dd))):Inv X pins σ (upd H a (.ext (XO AX a C dd))) s:=by obtain⟨x,_,_⟩:=I.hok a _ hx;have:=I.write (x:=a) (e:=a) (o:=.ext (XO AX a C dd)) (t':=s.toks) (h':=s.heap) (by rw[hx];trivial) (.inl AU) (λ_ _ _ q=>q) (let ⟨_,_,q,_⟩:=x;⟨_,q⟩) (XO.ok x.old);exact this
theorem Dt{c:Bool}{KC:J5->Prop}{te:TE}{KX:V->St->Hp->Prop}{exc:J7}(hc:X.calm=AW)(hcls:∀C,KC C->∃bm fI,XCls (model X.prog X.w) X.base C bm fI)(hw:ZL c X KX)(ht:PE X exc te):PS X (.Raise (O exc) AV pos) (Hy KC te KX):=by intro pins s σ H D I h;rw[arm_exec_Raise];refine Qb (Q4 ?_);show J9 _ _ (raiseStmt X.env (O (do let v ←eval exc X.env;standAt pos;pure v)) AV) _ _ _;refine CU (I.ok.hd hc) (Qb (thn (ht pins s σ H _ I h) λu s1 ⟨v,H2,I2,rv,a,C,dd,ev,kc,hx,kx⟩=>Qb (Q4 (Qf ?_))));subst ev;obtain rfl:u=Value.ref a:=rv;obtain⟨bm,fI,M⟩:=hcls C kc;obtain⟨nm,q,N,bs,sn,sub,ab,col,qp,k0,k1,k2,k3,k5,hC⟩:=M.obj;obtain⟨⟨vs,sl,g,z⟩,_,_⟩:=I2.hok a _ hx;exact⟨a,C,dd,vs,sl,nm,q,N,bs,bm,AW,sn,sub,ab,col,qp,k0,k1,k2,k3,k5,_,rfl,M.tail _ _ AU,I2.bk _ _ hC,g,(z AU).1,hw pins σ _ s1 a C dd (I2.aged hx) U8 (XO.fly ⟨vs,sl,g,z⟩) kx⟩
end
section
variable{M:Model}{A:Around}{E:JZ->J0->Prop}{h:Heap}{g:Array GenState}{d:Drawn}{t:Nat}{os:OsState}
variable{nm q qF q':Str}{C N D N' a:J5}{bs bm bs' bm':AZ}{hdct qK:Bool}{sn sn':List Str}{sub sub':AZ}{ab qP:Bool}{col col':A9}{dd qp:A8}{k0 k1 k2 k3 k5 j0 j1 j2 j3 j5:A1}{newId newId':String}
theorem Ru{o:Obj}{b:Bool}{Q:Bool->J0->Prop}(hC:h.get? C=O (excClassObj nm q C N bs bm hdct sn sub ab col dd k0 k1 k2 k3 k5 newId))(hD:h.get? D=O (excClassObj qF q' D N' bs' bm' qK sn' sub' qP col' qp j0 j1 j2 j3 j5 newId'))
  (hbase:bm'.contains (.type "BaseException")=AW) (ha:h.get? a=O o) (hc:o.cls=.ref C) (hb:(Value.ref C::bm).contains (.ref D)=b) (hq:Q b ⟨h,g,d,t,os⟩):J9 M A (excMatches (.ref a) (.ref D)) Q E ⟨h,g,d,t,os⟩:=by
 have qx:(Value.ref D::bm').contains (.type "BaseException")=AW:=by rw[QW,hbase,JN]
 have f1:=tc_notTuple;have f2:=tc_sub;have hT:(⟨h,g,d,t,os⟩:J0).TypeIs (.ref D) "type" :=⟨_,hD,rfl⟩
 unfold excMatches
 repeat (any_goals (first|assumption|(with_reducible refine Qg ha ?_;rw[hc])|with_reducible refine Qg hD ?_|with_reducible refine Qg hC ?_|(with_reducible refine Qz hD ?_;rw[qx])|(with_reducible refine Qz hC ?_;rw[hb])|wp_step))
 cases b<;>(wp_walk;exact hq)
end
noncomputable def Hx(sp:Sp)(KX:V->St->Hp->Prop)(t:TA):TE:=λσ H Q=>t σ H λvs H1=>sp vs H1 Q λv _ H'=>∀a,v=.ref a->KX (.ref a) σ H'
section
variable{X:Cx}{k:Nat}{f:J5}{fd:J6}{ps:List Str}{sp:Sp}{x n:Str}{p pos np hpos:Pos}{e:J7}{es:A3}{t:TA}{KX:V->St->Hp->Prop}
theorem Dr{c c1:Bool}(F:FnOk X.prog X.w X.K X.mg X.base (K8 c1 X.prog X.w) k f fd ps sp)(hr:Room k X.A)(hg:Gl X x)(hm:X.mg x=O (.ref f))(hk:PySem.W.keepIn X.K (.ref f)=AW)(hb:Zi X.K fd ps [])(hw:ZL c X KX)
  (ha:PA X (e::es) t) (hcc:c=AW->c1=AW:=by decide) (hdb:(x==("__debug__" : Str))=AX:=by decide) (he:Ua (e::es) X.env=(AX,eval e X.env)::Ua es X.env:=by rfl) (hpl:(backTo pos (Ua es X.env)).any (·.1)=AX:=by rfl) :
  PE X (.Call (.Name x p) (e::es) [] pos) (Hx sp KX t):=by
 intro pins s σ H Q I h;refine Ji (Xc I hg hm ?_ hdb);refine JL (h₀:=X.base) I.ok.mod.kin hk (thn (ha pos pins s σ H _ I h) λus s1 ⟨vs,H1,I1,r,q⟩=>⟨I1.kIn,?_⟩) he hpl;have hl:(us++[]).length=ps.length:=by rw[Q1,←r.length];exact F.len _ _ _ _ q
 refine wpAny_call (Jx (F.run X.A X.stack s1 H1 ⟨us,[]⟩ us vs Q _ hr I1.env0 (by have:=hb s1 us I1.kIn hl;rwa[Q1]at this) r q) λr s' hq=>?_);cases r with
 |error e=>exact hw.pass hcc (E:=λv _ H'=>∀a,v=.ref a->KX (.ref a) σ H') I1 hq λa H' z=>z a AU
 |ok fl=>
  cases fl with
  |ret u=>exact I1.after hq
  |next=>exact False.elim hq
  |brk=>exact False.elim hq
  |cont=>exact False.elim hq
noncomputable abbrev Cx.suite(X:Cx)(a:J5):Cx:={X with A:=X.A.mark (O (.ref a)),calm:=AX,xe:=λ_ _=>False}
theorem Cx.Ok.suite(ok:X.Ok)(a:J5):(X.suite a).Ok:=
 ⟨ok.mod,ok.kind,ok.glob,ok.blt,ok.above,ok.inj,ok.has,ok.cab,λz=>(nomatch z),ok.frames,ok.stk,ok.exf,ok.bs,ok.bsz,ok.noex,ok.exfs,ok.funs,ok.frf⟩
theorem Inv.suite{pins:List (J5×Obj)}{σ:St}{H:Hp}{s:J0}(I:Inv X pins σ H s)(a:J5):Inv (X.suite a) pins σ H s:=⟨I.ok.suite a,I.os,I.bare,I.base,I.loc,I.cell,I.free,I.freeC,I.pin,I.hok,I.len⟩
theorem Inv.unsuite{pins:List (J5×Obj)}{σ σ':St}{H H':Hp}{s s':J0}{a:J5}(I0:Inv X pins σ H s)(I:Inv (X.suite a) pins σ' H' s'):Inv X pins σ' H' s':=⟨I0.ok,I.os,I.bare,I.base,I.loc,I.cell,I.free,I.freeC,I.pin,I.hok,I.len⟩
theorem T7{pins:List (J5×Obj)}{σ:St}{H:Hp}{s:J0}{i:Nat}{Q:Unit->J0->Prop}{E:JZ->J0->Prop}{A:Around}(I:Inv X pins σ H s)(hN:X.N.Nodup)(hi:X.N[i]?=O n)(hl:X.env.kindOf n=O .local)
  (h:∀s',Inv X pins (σ.set i AV) H s'->Q () s'):J9 (model X.prog X.w) A (do bindName X.env n .none;unbindBehindTheSuite X.env n pos) Q E s:=by
 have hcls:(X.env.scope.kind==.class || (X.env.scope.kind==.module&&X.env.locals != X.env.globals))=AX:=by rw[I.ok.kind];rfl
 refine Qb (wpAny_bindName (Sc (v:=.non) (u:=.none) I hN hi (.inl hl) AU (λs1 I1=>?_) (.inr hl)));unfold unbindBehindTheSuite;refine wpAny_onRaise ?_;unfold unbindName;refine Qb (wpAny_point (Qb ?_));unfold deleteName;simp only[hl,hcls];rw[QD (by decide)];obtain⟨m,hn,hlk⟩:=id I1.loc;have hiσ:i<σ.length:=by rw[I.len];exact(Qr.mp hi).1
 refine Qb (wpAny_nsDel_keeps hn λh' v hn' hs=>?_)
 have hsome:(m n).isSome=AW:=by
  obtain⟨u,_,l⟩:=hlk i n .non hi (by rw[QJ hiσ]) (.inl hl);rcases l with ⟨_,l⟩|⟨k,_⟩
  .rw[l];rfl
  .rcases k with k|k
   .rw[hl]at k;cases k
   .rw[hl]at k;cases k
 rw[hsome];simp only[if_true,Bool.not_true,Jl,JU];refine Qf (wpAny_point (h _ ?_));obtain⟨oL,_,_,jx,_⟩:=id hn;have neL:∀b o,X.s₀.heap.get? b=O o->b≠X.env.locals:=λb o e=>QO (QG (Qh e) I.ok.above)
 refine⟨I1.ok,I1.os,I1.bare,⟨λb o e n hb hx=>(hs.2 b (neL b o e)).trans (I1.base.keep b o e n hb hx),λb o e n hb hx=>?_,I1.base.free,λb o e hx=>?_,I1.base.tups,I1.base.frzs,I1.base.tbls⟩,⟨_,hn',λj y v' e1 e2 e3=>?_⟩,λy c e=>?_,I1.free,I1.freeC,λp hp=>?_,λb ob e=>?_,?_⟩
 .obtain⟨sl,e1⟩:=I1.base.slot b o e n hb hx
  exact⟨sl,(hs.2 b (neL b o e)).trans e1⟩
 .obtain⟨o',e1⟩:=I1.base.there b o e hx
  exact⟨o',(hs.2 b (neL b o e)).trans e1⟩
 .have hj:j≠i:=by
   rintro rfl;rw[QJ hiσ]at e2;cases e2
  rw[Ql (Ne.symm hj)]at e2;obtain⟨u',r',q⟩:=hlk j y v' e1 (by rw[Ql (Ne.symm hj)];exact e2) e3;have hy:y≠n:=by rintro rfl;obtain⟨h1,h2⟩:=Qr.mp e1;obtain⟨h3,h4⟩:=Qr.mp hi;exact hj ((List.getElem_inj hN).mp (h2.trans h4.symm))
  refine⟨u',r',?_⟩;rcases q with ⟨q1,q2⟩|⟨k,c,e,z⟩
  .exact .inl ⟨q1,(QD hy).trans q2⟩
  .obtain⟨o,ho,hd⟩:=z
   exact .inr ⟨k,c,e,o,(hs.2 c (I1.cne y c e)).trans ho,hd⟩
 .obtain⟨v',o,ho,hd⟩:=I1.cell y c e
  exact⟨v',o,(hs.2 c (I1.cne y c e)).trans ho,hd⟩
 .obtain⟨a,b,c,d⟩:=I1.pin p hp
  exact⟨(hs.2 _ c).trans a,b,c,d⟩
 .refine(I1.hok b ob e).stay (λc w' hc q=>(hs.2 c ?_).trans q) (λ_ q=>q) λ_ _ q=>q
  rintro rfl;rcases hc with rfl|hc
  .rw[I1.free]at e;cases e
  .rw[I1.free]at hc;cases hc
 .rw[QY];exact I.len
theorem RF{c:Bool}{M:Model}{A:Around}{E:JZ->J0->Prop}{s:J0}{a:J5}{Q:Unit->J0->Prop}(fl:Fly c s.heap a)(h:∀h',(∀b o,s.heap.get? b=O o->h'.get? b=O o)->Q () {s with heap:=h'}):J9 M A (setFlight (.ref a) AV) Q E s:=by
 obtain⟨oe,vs,he,hd,h1,_⟩:=fl;unfold setFlight;rcases h1 with h1|⟨T,oT,ts,h1,qy,hT,qw,h3⟩
 .refine Qb (Q2 he hd h1 ?_)
  rw[QD (by decide)];exact Qf (h s.heap λ_ _ q=>q)
 .obtain⟨q8,hv3⟩:=Jc.mp h3
  refine Qb (Q2 he hd h1 ?_);rw[if_pos (show(Value.ref T != Value.none)=AW from by simp)];refine Q6 hT qw q8 (h _ λb o hb=>?_);by_cases qT:b=T
  .subst qT
   rw[hT]at hb;cases hb;rw[QI _ hT (Jf (Je qw _)),YT _ qw];have:ts.setIfInBounds 3 Value.none=ts:=Array.setIfInBounds_same _ _ _ h3;show O {oT with data:=.fields (ts.setIfInBounds 3 Value.none)}=_;rw[this,←qw]
  .rw[Qj _ _ (Ne.symm qT)];exact hb
noncomputable def WQ(KC:J5->AZ->Prop)(D:J5)(i:Nat)(ts:TS)(Dn:Ends):V->St->Hp->Prop:=λv σ H=>∃a C dd bm,v=.ref a/\KC C bm/\H a=O (.ext (XO AX a C dd))/\(Value.ref C::bm).contains (.ref D)=AW /\
 ts {nx:=λσ' H'=>Dn.nx (σ'.set i AV) H',rt:=Dn.rt,bk:=λσ' H'=>Dn.bk (σ'.set i AV) H',ct:=λσ' H'=>Dn.ct (σ'.set i AV) H'} (σ.set i (O (.ref a))) H
noncomputable def tTry(KC:J5->AZ->Prop)(D:J5)(i:Nat)(tb:(V->St->Hp->Prop)->TS)(ts:TS):TS:=λDn σ H=>tb (WQ KC D i ts Dn) Dn σ H
noncomputable abbrev Cx.tried(X:Cx)(W:JZ->J0->Prop)(pins:List (J5×Obj)):Cx:={X with xe:=W,pn:=X.pn++pins}
theorem Inv.tried{pins:List (J5×Obj)}{σ:St}{H:Hp}{s:J0}(I:Inv X pins σ H s)(W:JZ->J0->Prop):Inv (X.tried W pins) [] σ H s:=
 ⟨⟨I.ok.mod,I.ok.kind,I.ok.glob,I.ok.blt,I.ok.above,I.ok.inj,I.ok.has,I.ok.cab,I.ok.hd,I.ok.frames,I.ok.stk,I.ok.exf,I.ok.bs,I.ok.bsz,I.ok.noex,I.ok.exfs,I.ok.funs,I.ok.frf⟩,I.os,I.bare,I.base,I.loc,I.cell,I.free,I.freeC,λp hp=>I.pin p (by simpa using hp),I.hok,I.len⟩
theorem Inv.untried{pins pins':List (J5×Obj)}{σ σ':St}{H H':Hp}{s s':J0}{W:JZ->J0->Prop}(I0:Inv X pins σ H s)(I:Inv (X.tried W pins) pins' σ' H' s'):Inv X pins σ' H' s':=
 ⟨I0.ok,I.os,I.bare,I.base,I.loc,I.cell,I.free,I.freeC,λp hp=>I.pin p (JG _ hp),I.hok,I.len⟩
theorem Gq{KC:J5->AZ->Prop}{D fD:J5}{bmD:AZ}{i:Nat}{tb:(V->St->Hp->Prop)->TS}{ts:TS}{body suite:List Stmt}{b₀:Stmt}{st:List Env}(qf:X.stack=X.env::st)(hfr:X.env.frame=O X.env.locals)
  (hcls:∀C bm,KC C bm->∃fI,XCls (model X.prog X.w) X.base C bm fI) (hD:XCls (model X.prog X.w) X.base D bmD fD) (hg:Gl X x) (hm:X.mg x=O (.ref D)) (hN:X.N.Nodup) (hi:X.N[i]?=O n) (hl:X.env.kindOf n=O .local)
  (hb:∀(KX:V->St->Hp->Prop)(W:JZ->J0->Prop)(pn:List (J5×Obj)),ZL AX (X.tried W pn) KX->PSs (X.tried W pn) body (tb KX)) (hs:∀a,PSs (X.suite a) (b₀::suite) ts) (hdb:(x==("__debug__" : Str))=AX:=by decide) :
  PS X (.Try body [.ExceptHandler (O (.Name x np)) (O n) (b₀::suite) hpos] [] [] pos) (tTry KC D i tb ts):=by
 intro pins s σ H Dn I h;refine wpAny_Try_except ?_
 let W:JZ->J0->Prop:=λv s1=>∃a σ1 H1,v=.ref a/\Inv X pins σ1 H1 s1/\Fly AX s1.heap a/\WQ KC D i ts Dn (.ref a) σ1 H1
 have hw:ZL AX (X.tried W pins) (WQ KC D i ts Dn):=λpins' σ1 H1 s1 a C dd I1 hx fl hk=>⟨a,σ1,H1,rfl,I.untried I1,fl,hk⟩;refine Qy (hb _ W pins hw [] s σ H Dn (I.tried W) h) (λf s1 h1=>?_) λv s1 h1=>?_
 .cases f with
  |next=>obtain⟨σ',H',I',q⟩:=h1;exact Jv ⟨σ',H',I.untried I',q⟩
  |brk=>obtain⟨σ',H',I',q⟩:=h1;exact⟨σ',H',I.untried I',q⟩
  |cont=>obtain⟨σ',H',I',q⟩:=h1;exact⟨σ',H',I.untried I',q⟩
  |ret u=>obtain⟨v,σ',H',I',r,q⟩:=h1;exact⟨v,σ',H',I.untried I',r,q⟩
 .obtain⟨a,σ1,H1,rfl,I1,fl,a',C,dd,bm,ea,kc,hx,jz,q⟩:=h1
  cases ea;obtain⟨fI,XC⟩:=hcls C bm kc;have hk:=I1.ok.frames;rw[qf]at hk;have hS:=I1.stack;rw[qf]at hS;refine XF hk hS hfr fl λh2 p2 ja=>?_;rw[←qf]at p2;have I2:=I1.passed hx p2;refine wpAny_handleBy_cons (codeAny_handlers_test ?_) (by intro q;cases q)
  refine Xc (I2.suite a) hg hm ?_ hdb;obtain⟨nm,qn,N,bs,sn,sub,ab,col,qN,k0,k1,k2,k3,k5,hC⟩:=XC.obj;obtain⟨qF,qn',N',bs',sn',sub',qP,col',dd2,j0,j1,j2,j3,j5,qu⟩:=hD.obj;obtain⟨⟨vs,sl,ga,_⟩,_,_⟩:=I2.hok a _ hx;refine Ru (I2.bk _ _ hC) (I2.bk _ _ qu) (hD.tail _ _ AU) ga AU jz ?_;refine codeAny_handlers_suite_as (RF ja λh3 k3=>?_);have I3:=I2.kept (t':=s1.toks) k3;refine Sc (v:=.ref a) I3 hN hi (.inl hl) AU (λs4 I4=>?_) (.inr hl);refine Qy (hs a pins s4 _ H1 _ (I4.suite a) q) (λf s5 h5=>?_) λ_ _ z=>z.elim
  cases f with
  |next=>obtain⟨σ',H',I',q'⟩:=h5;exact T7 (I3.unsuite I') hN hi hl λs6 I6=>⟨_,H',I6,q'⟩
  |brk=>obtain⟨σ',H',I',q'⟩:=h5;exact T7 (I3.unsuite I') hN hi hl λs6 I6=>⟨_,H',I6,q'⟩
  |cont=>obtain⟨σ',H',I',q'⟩:=h5;exact T7 (I3.unsuite I') hN hi hl λs6 I6=>⟨_,H',I6,q'⟩
  |ret u=>obtain⟨v,σ',H',I',r,q'⟩:=h5;exact T7 (I3.unsuite I') hN hi hl λs6 I6=>⟨v,_,H',I6,r,q'⟩
noncomputable def SA(KC:J5->AZ->Prop)(D:J5)(ts:TS)(Dn:Ends):V->St->Hp->Prop:=λv σ H=>∃a C dd bm,v=.ref a/\KC C bm/\H a=O (.ext (XO AX a C dd))/\(Value.ref C::bm).contains (.ref D)=AW/\ts Dn σ H
noncomputable def M9(KC:J5->AZ->Prop)(D:J5)(tb:(V->St->Hp->Prop)->TS)(ts:TS):TS:=λDn σ H=>tb (SA KC D ts Dn) Dn σ H
theorem F2{KC:J5->AZ->Prop}{D fD:J5}{bmD:AZ}{tb:(V->St->Hp->Prop)->TS}{ts:TS}{body suite:List Stmt}{b₀:Stmt}{st:List Env}(qf:X.stack=X.env::st)(hfr:X.env.frame=O X.env.locals)
  (hcls:∀C bm,KC C bm->∃fI,XCls (model X.prog X.w) X.base C bm fI) (hD:XCls (model X.prog X.w) X.base D bmD fD) (hg:Gl X x) (hm:X.mg x=O (.ref D))
  (hb:∀(KX:V->St->Hp->Prop)(W:JZ->J0->Prop)(pn:List (J5×Obj)),ZL AX (X.tried W pn) KX->PSs (X.tried W pn) body (tb KX)) (hs:∀a,PSs (X.suite a) (b₀::suite) ts) (hdb:(x==("__debug__" : Str))=AX:=by decide) :
  PS X (.Try body [.ExceptHandler (O (.Name x np)) AV (b₀::suite) hpos] [] [] pos) (M9 KC D tb ts):=by
 intro pins s σ H Dn I h;refine wpAny_Try_except ?_
 let W:JZ->J0->Prop:=λv s1=>∃a σ1 H1,v=.ref a/\Inv X pins σ1 H1 s1/\Fly AX s1.heap a/\SA KC D ts Dn (.ref a) σ1 H1
 have hw:ZL AX (X.tried W pins) (SA KC D ts Dn):=λpins' σ1 H1 s1 a C dd I1 hx fl hk=>⟨a,σ1,H1,rfl,I.untried I1,fl,hk⟩;refine Qy (hb _ W pins hw [] s σ H Dn (I.tried W) h) (λf s1 h1=>?_) λv s1 h1=>?_
 .cases f with
  |next=>obtain⟨σ',H',I',q⟩:=h1;exact Jv ⟨σ',H',I.untried I',q⟩
  |brk=>obtain⟨σ',H',I',q⟩:=h1;exact⟨σ',H',I.untried I',q⟩
  |cont=>obtain⟨σ',H',I',q⟩:=h1;exact⟨σ',H',I.untried I',q⟩
  |ret u=>obtain⟨v,σ',H',I',r,q⟩:=h1;exact⟨v,σ',H',I.untried I',r,q⟩
 .obtain⟨a,σ1,H1,rfl,I1,fl,a',C,dd,bm,ea,kc,hx,jz,q⟩:=h1
  cases ea;obtain⟨fI,XC⟩:=hcls C bm kc;have hk:=I1.ok.frames;rw[qf]at hk;have hS:=I1.stack;rw[qf]at hS;refine XF hk hS hfr fl λh2 p2 ja=>?_;rw[←qf]at p2;have I2:=I1.passed hx p2;refine wpAny_handleBy_cons (codeAny_handlers_test ?_) (by intro q;cases q)
  refine Xc (I2.suite a) hg hm ?_ hdb;obtain⟨nm,qn,N,bs,sn,sub,ab,col,qN,k0,k1,k2,k3,k5,hC⟩:=XC.obj;obtain⟨qF,qn',N',bs',sn',sub',qP,col',dd2,j0,j1,j2,j3,j5,qu⟩:=hD.obj;obtain⟨⟨vs,sl,ga,_⟩,_,_⟩:=I2.hok a _ hx;refine Ru (I2.bk _ _ hC) (I2.bk _ _ qu) (hD.tail _ _ AU) ga AU jz ?_;refine codeAny_handlers_suite (RF ja λh3 k3=>?_);have I3:=I2.kept (t':=s1.toks) k3;refine Qy (hs a pins _ _ H1 _ (I3.suite a) q) (λf s5 h5=>?_) λ_ _ z=>z.elim
  cases f with
  |next=>obtain⟨σ',H',I',q'⟩:=h5;exact⟨σ',H',I3.unsuite I',q'⟩
  |brk=>obtain⟨σ',H',I',q'⟩:=h5;exact⟨σ',H',I3.unsuite I',q'⟩
  |cont=>obtain⟨σ',H',I',q'⟩:=h5;exact⟨σ',H',I3.unsuite I',q'⟩
  |ret u=>obtain⟨v,σ',H',I',r,q'⟩:=h5;exact⟨v,σ',H',I3.unsuite I',r,q'⟩
end
section
variable{prog:J4}{w:World}{A:Around}{E:JZ->J0->Prop}{h:Heap}{g:Array GenState}{d:Drawn}{t:Nat}{os:OsState}
variable{nm q:Str}{C N a:J5}{bs bm bmB:AZ}{hdct:Bool}{sn:List Str}{sub:AZ}{ab:Bool}{col:A9}{dd:A8}{k0 k1 k2 k3 k5:A1}{B newId initId nid:String}
theorem Ar(F:ExcBaseFacts B nid initId bmB)(T:Tail bmB bm){M:Model}{oe:Obj}{rest:AZ}{Q:Unit->J0->Prop}
  (hC:h.get? C=O (excClassObj nm q C N bs bm hdct sn sub ab col dd k0 k1 k2 k3 k5 newId)) (he:h.get? a=O oe) (hcls:oe.cls=.ref C) (hq:Q () ⟨h,g,d,t,os⟩) :
  J9 M A (checkBuiltinCall initId ⟨.ref a::rest,[]⟩) Q E ⟨h,g,d,t,os⟩:=by
 have qx:(Value.ref C::bm).contains (.type B)=AW:=by rw[QW,T _ _ F.hasB,JN]
 have hshort:=F.noStar;simp only[checkBuiltinCall,F.initKind,F.initSplit,F.initRow]
 repeat (first|(with_reducible refine Qg he ?_;rw[hcls])|with_reducible refine Qg hC ?_|(with_reducible refine Qz hC ?_;rw[qx])|wp_step)
 refine wpAny_onRaise ?_
 rw[show ∀(x1 x2:String)(n:Nat),Bind.check ⟨.positional, "*", B,.self,[⟨"args", .varPos,AX⟩]⟩ x1 x2 n (List.map (λx=>x.fst) ({pos:=Value.ref a::rest}:Args).kw)=pure ()from
  λ_ _ n=>check_star_args _ _ _ _ _ _]
 exact Qf hq
theorem B9(F:ExcBaseFacts B nid initId bmB)(T:Tail bmB bm){oe:Obj}{vs:Array JZ}{u:JZ}{Q:JZ->J0->Prop}
  (hC:h.get? C=O (excClassObj nm q C N bs bm hdct sn sub ab col dd k0 k1 k2 k3 k5 newId)) (he:h.get? a=O oe) (hcls:oe.cls=.ref C) (hd:oe.data=.fields vs) {t0:J5} (h0:vs[0]?=O (.ref t0))
  (hq:∀h',(∀b o,b≠a->h.get? b=O o->h'.get? b=O o)->(∃y,h'.get? a=O {oe with data:=.fields (vs.setIfInBounds 0 (.ref y))})->Q .none ⟨h',g,d,t,os⟩) :
  J9 (model prog w) A (call (.builtin initId) [.ref a,u]) Q E ⟨h,g,d,t,os⟩:=by
 refine wpAny_call (codeAny_call_builtin F.init.plain F.initEntry (Ar F T hC he hcls ?_));have he₂:(h.push {cls:=.type "tuple", data:=.seq #[u]}).get? a=O oe:=Qe _ he;have hz:0<vs.size:=(Jc.mp h0).1
 repeat (first|with_reducible refine Q2 he₂ hd h0 ?_|with_reducible refine Q6 he₂ hd hz ?_|wp_step)
 have he₃:=QI (Obj.mapFields (·.setIfInBounds 0 (Value.ref h.objs.size))) he₂ (Jf (Je hd _));refine hq _ (λb o hb g=>?_) ⟨_,by rw[he₃,YT _ hd]⟩;rw[Qj _ _ (Ne.symm hb)];exact Qe _ g
end
theorem F1:PySem.W.handedIn (.builtin "ValueError.__init__")=AW:=by decide +kernel
theorem Gp{h:Heap}:PySem.W.Frag.In [] h:=λa o z=>by cases z
theorem FZ:typeOf (.type "ValueError")=pure (.type "type"):=by kernel_rfl
theorem FY:Manifest.isStub "ValueError" = AX:=by decide +kernel
theorem FX:PySem.W.findCls [] (.type "ValueError") (.type "type") "__init__" = O (.val (.builtin "ValueError.__init__")):=by kernel_rfl
section
variable{X:Cx}{k:Nat}{f D:J5}{fd:J6}{ps:List Str}{sp:Sp}{x:Str}{p pos apos:Pos}{e:J7}{es:A3}{t:TA}
noncomputable def SK(KC:J5->AZ->Prop)(t:TA):TE:=λσ H Q=>t σ H λvs H1=>∃a C dd bm u,vs=[.ref a,u]/\KC C bm/\H1 a=O (.ext (XO AW a C dd))/\Q .non H1
theorem OK{KC:J5->AZ->Prop}{pl:Sem Bool}(hcls:∀C bm,KC C bm->∃fI,XCls (model X.prog X.w) X.base C bm fI)(hg:Gl X "ValueError")(hm:X.mg "ValueError" = AV)(ha:PA X (e::es) t)
  (hst:Ua (e::es) X.env=(AX,eval e X.env)::Ua es X.env:=by rfl) (hpl:(backTo pos (Ua es X.env)).any (·.1)=AX:=by rfl)
  (ht:eval (.Call (.Attribute (.Name "ValueError" p) "__init__" apos) (e::es) [] pos) X.env=(do
   let ov ←eval (.Name "ValueError" p) X.env
   standAt apos.atName
   let (f,first) ←holding [ov] (getMethod ov "__init__" pl)
   callWith pos f first (backTo pos (Ua (e::es) X.env)) (backToKw pos (keywordEach [] X.env))):=by rfl) :
  PE X (.Call (.Attribute (.Name "ValueError" p) "__init__" apos) (e::es) [] pos) (SK KC t):=by
 intro pins s σ H Q I h;have hB:bootBuiltins "ValueError" = O (.type "ValueError"):=by decide +kernel
 refine PySem.W.methodCall_KW (pl:=pl) (Wk I hg hm hB ?_) ht;obtain⟨m,Fm⟩:=I.fr;refine PySem.W.method_type (K:=[]) (v:=.builtin "ValueError.__init__") Fm Gp FZ FY FX F1 ?_;refine PyProof.Rows.callWith_builtin1 (thn (ha pos pins _ σ H _ (I.tok _) h) λus s1 ⟨vs,H1,I1,r1,a,C,dd,bm,u,ev,kc,hx,q⟩=>?_) hst hpl;subst ev;cases r1 with
 |cons ra r1=>
 cases r1 with
 |cons ru r1=>
 cases r1;have ra':_=Value.ref a:=ra;subst ra';obtain⟨fI,XC⟩:=hcls C bm kc;obtain⟨nm,qn,N,bs,sn,sub,ab,col,qN,k0,k1,k2,k3,k5,hC⟩:=XC.obj;obtain⟨⟨vs,sl,ga,z⟩,_,_⟩:=I1.hok a _ hx;obtain⟨z1,⟨t0,z0⟩,z2⟩:=z AU;obtain⟨hp,g,d,tk,os⟩:=s1;refine B9 PySem.F.excBase_ValueError XC.tail (I1.bk _ _ hC) ga AU AU z0 λh' k ⟨y,hy⟩=>?_;have hw:=I1.write (x:=a) (e:=a) (o:=.ext (XO AW a C dd)) (t':=tk) (h':=h') (by rw[hx];trivial) (.inl AU) k ⟨_,hy⟩ (XO.ok ⟨_,sl,hy,λ_=>⟨by rw[Array.getElem?_setIfInBounds_ne (by decide)];exact z1,⟨y,by simp[(Array.getElem?_eq_some_iff.mp z0).1]⟩,by rw[Array.getElem?_setIfInBounds_ne (by decide)];exact z2.1,by rw[Array.size_setIfInBounds];exact z2.2⟩⟩)
 have e:upd H1 a (.ext (XO AW a C dd))=H1:=by
  funext b;by_cases hb:b=a
  .subst hb;rw[U8,hx]
  .rw[UZ hb]
 rw[e]at hw;exact⟨.non,H1,hw,rfl,q⟩
end
structure Tt(K:Frag)(D:J5)(m:Str)(f:J5):Prop where
 ga:PySem.W.specialIn K (.ref D) "__getattribute__" = O (O (.builtin "type.__getattribute__"))
 rd:PySem.W.readsIn K D (.type "type")=AW
 fd:PySem.W.findCls K (.ref D) (.type "type") m=O (.val (.ref f))
 kp:PySem.W.keepIn K (.ref f)=AW
section
variable{X:Cx}{k:Nat}{f D:J5}{fd:J6}{ps:List Str}{sp:Sp}{x m:Str}{p pos apos:Pos}{e:J7}{es:A3}{t:TA}
theorem Dq{pl:Sem Bool}(M:Tt X.K D m f)(F:FnOk X.prog X.w X.K X.mg X.base CX0 k f fd ps sp)(hr:Room k X.A)(hb:Zi X.K fd ps [])(hg:Gl X x)(hm:X.mg x=O (.ref D))(ha:PA X (e::es) t)
  (hdb:(x==("__debug__" : Str))=AX:=by decide) (hst:Ua (e::es) X.env=(AX,eval e X.env)::Ua es X.env:=by rfl) (hpl:(backTo pos (Ua es X.env)).any (·.1)=AX:=by rfl)
  (ht:eval (.Call (.Attribute (.Name x p) m apos) (e::es) [] pos) X.env=(do
   let ov ←eval (.Name x p) X.env
   standAt apos.atName
   let (f,first) ←holding [ov] (getMethod ov m pl)
   callWith pos f first (backTo pos (Ua (e::es) X.env)) (backToKw pos (keywordEach [] X.env))):=by rfl) :
  PE X (.Call (.Attribute (.Name x p) m apos) (e::es) [] pos) (SE sp [] E0 t):=by
 intro pins s σ H Q I h;refine PySem.W.methodCall_KW (pl:=pl) (Xc I hg hm ?_ hdb) ht;refine PySem.W.method_cls I.kIn M.ga (PySem.W.cls_value I.kIn M.rd M.fd AU ?_);refine JL (h₀:=X.base) I.ok.mod.kin M.kp (thn (ha pos pins _ σ H _ (I.tok _) h) λus s1 ⟨vs,H1,I1,r,q⟩=>⟨I1.kIn,?_⟩) hst hpl;exact PF F hr hb .nil SB I1 r q
end
noncomputable def XD(dx:J5)(fs:List (Str×V)):Heap->Prop:=λh=>∃mA,h.Ns1 dx mA/\h.ExactDictFk dx/\(∀f,RelO (fs.lookup f) (mA f))/\PySem.Within mA (fs.map (·.1))
theorem XD.ok{P:J4}{w:World}{H:Hp}{h:Heap}{dx:J5}{fs:List (Str×V)}(x:XD dx fs h):KY P w H h dx (.ext (XD dx fs)):=
 ⟨x,let ⟨_,⟨o,_,_,q,_⟩,_⟩:=x;⟨o,q⟩,λh1 h2 ⟨mA,⟨o,es,ep,q,c⟩,⟨od,q2,c2⟩,r⟩ k=>⟨mA,⟨o,es,ep,k _ q,c⟩,⟨od,k _ q2,c2⟩,r⟩⟩
theorem XO.inst{h:Heap}{a C:J5}{vs:Array JZ}{sl:Array A1}(g:h.get? a=O {cls:=.ref C,dict:=AV,data:=.fields vs,slots:=sl}):h.InstFk a C λ_=>AV:=
 ⟨_,g,rfl,λ_ z=>(by cases z),.inl ⟨rfl,λ_=>rfl⟩⟩
section
variable{X:Cx}{pins:List (J5×Obj)}{σ:St}{H:Hp}{s:J0}{a C dx:J5}{h':Heap}{t':Nat}
theorem Inv.xdict{fs:List (Str×V)}(I:Inv X pins σ H s)(hx:H a=O (.ext (XO AW a C AV)))(k:∀b o,b≠a->s.heap.get? b=O o->h'.get? b=O o)(hz:s.heap.objs.size<=dx)(h1:XO AW a C (O dx) h')(h2:XD dx fs h') :
  Inv X pins σ (upd (upd H a (.ext (XO AW a C (O dx)))) dx (.ext (XD dx fs))) {s with heap:=h',toks:=t'}:=by
 have hn:H dx=AV:=I.hok.fresh hz;have hne:dx≠a:=λz=>by rw[z,hx]at hn;cases hn
 have ne:∀b,H b=AV->b≠a:=λb n z=>by rw[z,hx]at n;cases n
 have nd:∀b o,s.heap.get? b=O o->b≠dx:=λb o g z=>by subst z;exact absurd (Qh g) (Nat.not_lt.mpr hz)
 have oth:∀b,b≠a->b≠dx->upd (upd H a (.ext (XO AW a C (O dx)))) dx (.ext (XD dx fs)) b=H b:=λb h1 h2=>by rw[UZ h2,UZ h1]
 have trk:∀b u,H b=O u->b≠dx:=λb u q z=>by rw[z,hn]at q;cases q
 have nota:∀b(u:HO),H b=O u->(∀φ,u≠.ext φ)->b≠a:=λb u q n z=>by rw[z,hx]at q;cases q;exact n _ AU
 refine I.un (t':=t') ⟨λb o g n _ _=>k b o (ne b n) g,λb o g n _ _=>⟨o.slots,k b o (ne b n) g⟩,λb o g n _=>(oth b (ne b n) (nd b o g)).trans n,λb o g _=>?_,λb xs q=>?_,λb o u q=>?_,λb ps q=>⟨#[],?_⟩⟩ λb u q=>?_
 .by_cases hb:b=a
  .subst hb;obtain⟨_,_,z,_⟩:=h1;exact⟨_,z⟩
  .exact⟨o,k b o hb g⟩
 .exact(oth b (nota b _ q λ_ z=>by cases z) (trk b _ q)).trans q
 .exact(oth b (nota b _ q λ_ z=>by cases z) (trk b _ q)).trans q
 .rw[oth b (nota b _ q λ_ z=>by cases z) (trk b _ q),q];simp
 .by_cases hb:b=dx
  .subst hb;rw[U8]at q;cases q;exact XD.ok h2
  .rw[UZ hb]at q
   by_cases jk:b=a
   .subst jk;rw[U8]at q;cases q;exact XO.ok h1
   .rw[UZ jk]at q
    refine(I.hok b u q).stay (λc v hc g=>k c v ?_ g) (λc r=>(oth c (nota c _ r λ_ z=>by cases z) (trk c _ r)).trans r) λc xs r=>(oth c (nota c _ r λ_ z=>by cases z) (trk c _ r)).trans r
    rcases hc with rfl|hc
    .exact jk
    .exact nota c _ hc λ_ z=>by cases z
end
noncomputable def Sz(KC:J5->AZ->Prop)(ta tv:TE)(f:Str):TS:=λD σ H=>tv σ H λy H1=>ta σ H1 λx H2=>∃a C bm,x=.ref a/\KC C bm /\
 ((H2 a=O (.ext (XO AW a C AV))/\∀dx,H2 dx=AV->dx≠a->D.nx σ (upd (upd H2 a (.ext (XO AW a C (O dx)))) dx (.ext (XD dx [(f,y)])))) ∨
  ∃dx fs,dx≠a/\H2 a=O (.ext (XO AW a C (O dx)))/\H2 dx=O (.ext (XD dx fs))/\fs.length<900/\D.nx σ (upd H2 dx (.ext (XD dx (KO f y fs)))))
section
variable{X:Cx}{o value:J7}{f:Str}{pos pos':Pos}{ta tv:TE}{KC:J5->AZ->Prop}
theorem Ol(hcls:∀C bm,KC C bm->∃fI,XCls (model X.prog X.w) X.base C bm fI)(hf:∀C bm,KC C bm->Kp (model X.prog X.w) C f AV X.base)(ha:PE X o ta)(hv:PE X value tv)
  (hs:swapsWith value (O (.Attribute o f pos')) pos.line X.env=pure AX):PS X (.Assign [.Attribute o f pos'] value pos) (Sz KC ta tv f):=by
 intro pins s σ H D I h;refine plainObj_wpAny_Assign_Attribute (thn (hv pins s σ H _ I h) λu s1 ⟨y,H1,I1,ry,q⟩=>thn (ha pins s1 σ H1 _ I1 q) λov s2 ⟨x,H2,I2,rx,a,C,bm,ex,kc,q2⟩=>?_) hs;subst ex;obtain rfl:ov=Value.ref a:=rx;obtain⟨fI,XC⟩:=hcls C bm kc;obtain⟨nm,qn,N,bs,sn,sub,ab,col,qN,k0,k1,k2,k3,k5,hC⟩:=XC.obj;obtain⟨hp,g,d,tk,os⟩:=s2;rcases q2 with ⟨hx,q2⟩|⟨dx,fs,hne,hx,qO,hl,q2⟩
 .obtain⟨⟨vs,sl,ga,z⟩,_,_⟩:=I2.hok a _ hx
  refine Mx (ns:=[]) PySem.F.store_ValueError XC.tail (XC.pass _) (I2.bk _ _ hC) (XC.sa.keeps I2.bk) ((hf C bm kc).keeps I2.bk) (XO.inst ga) (λh' tk' i' hk hsame hnew=>?_) PySem.Within.nil (by decide);obtain⟨o1,g1,c1,d1,jv,_⟩:=hsame _ ga;obtain⟨o2,g2,_,_,dd⟩:=i';rw[g1]at g2;cases g2;rcases dd with ⟨_,dn⟩|⟨dx,qO,hne,hns,hex⟩
  .have:=dn f;simp at this
  .have hz:=hnew _ _ dx ga AU g1 qO
   have o1e:o1 = {cls:=.ref C,dict:=O dx,data:=.fields vs,slots:=sl}:=by obtain⟨oc,od,odt,osl⟩:=o1;cases c1;cases d1;cases jv;cases qO;rfl
   have I3:=I2.xdict (t':=tk') (dx:=dx) (fs:=[(f,y)]) hx (λb ob hb gb=>hk b ob hb (λo₀ dx' e1 e2=>by rw[ga]at e1;cases e1;cases e2) gb) hz ⟨vs,sl,by rw[g1,o1e],z⟩
    ⟨_,hns,hex,λg=>?_,λg hg=>?_⟩
   .exact⟨σ,_,I3,q2 dx (I2.hok.fresh hz) hne⟩
   .show RelO ((KO f y []).lookup g) (if g=f then O u else AV)
    rw[RR];by_cases e:g=f
    .rw[Qn e,Qn e];exact ry
    .rw[QD e,QD e];trivial
   .show g∈[f]
    by_cases e:g=f
    .rw[e];simp
    .exact absurd (QD e) hg
 .obtain⟨⟨vs,sl,ga,z⟩,_,_⟩:=I2.hok a _ hx
  obtain⟨⟨mA,hns,hex,hr,hwi⟩,_,_⟩:=I2.hok dx _ qO;refine Mx (ns:=fs.map (·.1)) PySem.F.store_ValueError XC.tail (XC.pass _) (I2.bk _ _ hC) (XC.sa.keeps I2.bk) ((hf C bm kc).keeps I2.bk) ⟨_,ga,rfl,λ_ z=>(by cases z),.inr ⟨dx,rfl,hne,hns,hex⟩⟩ (λh' tk' i' hk hsame hnew=>?_) hwi (by rw[Qd];omega);obtain⟨o1,g1,c1,d1,jv,dk⟩:=hsame _ ga;have hd1:=dk dx AU;obtain⟨o2,g2,_,_,dd⟩:=i';rw[g1]at g2;cases g2;rcases dd with ⟨dn,_⟩|⟨dx2,jG,hne2,jy,hex2⟩
  .rw[hd1]at dn;cases dn
  .rw[hd1]at jG
   cases jG;have o1e:o1 = {cls:=.ref C,dict:=O dx,data:=.fields vs,slots:=sl}:=by obtain⟨oc,od,odt,osl⟩:=o1;cases c1;cases d1;cases jv;cases hd1;rfl
   have I3:=I2.write (x:=dx) (e:=dx) (o:=.ext (XD dx (KO f y fs))) (t':=tk') (h':=h') (by rw[qO];trivial) (.inl AU) (λb ob hb gb=>by
    by_cases hba:b=a
    .subst hba;rw[ga]at gb;cases gb;rw[g1,o1e]
    .exact hk b ob hba (λo₀ dx' e1 e2=>by rw[ga]at e1;cases e1;cases e2;exact hb) gb) (let ⟨o,_,_,q,_⟩:=jy;⟨o,q⟩) (XD.ok ⟨_,jy,hex2,λg=>?_,λg hg=>?_⟩)
   .exact⟨σ,_,I3,q2⟩
   .show RelO ((KO f y fs).lookup g) (if g=f then O u else mA g)
    rw[RR];by_cases e:g=f
    .rw[Qn e,Qn e];exact ry
    .rw[QD e,QD e];exact hr g
   .by_cases e:g=f
    .rw[e];exact(RG f y fs).1
    .refine(RG f y fs).2 g (hwi g λz=>hg ?_)
     show(if g=f then O u else mA g)=AV
     rw[QD e];exact z
end
inductive FmtV:V->Str->Prop
 |str (x:Str) (h:x.length<=J8):FmtV (.str x) x
 |int (i:Int) (h:i.natAbs.log2<1920):FmtV (.int i) (toString i:String)
 |non:FmtV .non "None"
noncomputable def WP(te:TE):TE:=λσ H Q=>te σ H λv H1=>∃y,FmtV v y/\Q (.str y) H1
noncomputable def Ts:List TE->Str->TE
 |[],acc=>λ_ H Q=>acc.length<=J8/\Q (.str acc) H
 |te::r,acc=>λσ H Q=>te σ H λv H1=>∃y,v=.str y/\(acc++y).length<=J8/\Ts r (acc++y) σ H1 Q
inductive PEs(X:Cx):A3->List TE->Prop
 |nil:PEs X [] []
 |cons {e:J7} {es:A3} {t:TE} {ts:List TE}:PE X e t->PEs X es ts->PEs X (e::es) (t::ts)
section
variable{X:Cx}{value:J7}{te:TE}{pos:Pos}
theorem Pz(h:PE X value te):PE X (.FormattedValue value (-1) AV pos) (WP te):=by
 intro pins s σ H Q I hq;refine wpAny_FormattedValue_plain (thn (h pins s σ H _ I hq) λu s1 ⟨v,H1,I1,rv,y,hy,q⟩=>?_);cases hy with
 |str x hx=>
  obtain⟨t,rfl⟩:=(show ∃t,u=Value.str y t from rv)
  exact wpAny_formatField_str ⟨.str y,H1,I1,⟨_,rfl⟩,q⟩ ⟨.str y,H1,I1.tok _,⟨_,rfl⟩,q⟩ hx
 |int i hi=>
  obtain⟨t,rfl⟩:=(show ∃t,u=Value.int i t from rv)
  exact wpAny_formatField_int hi ⟨.str _,H1,I1.tok _,⟨_,rfl⟩,q⟩
 |non=>obtain rfl:u=Value.none:=rv;exact wpAny_formatField_none ⟨.str _,H1,I1.tok _,⟨_,rfl⟩,q⟩
theorem OJ{E:JZ->J0->Prop}:∀{es:A3}{ts:List TE}{acc:Str}{pins:List (J5×Obj)}{s:J0}{σ:St}{H:Hp}{Q:VK},PEs X es ts->Inv X pins σ H s->Ts ts acc σ H Q ->
  Joins (model X.prog X.w) X.A X.xe (evalEach es X.env) acc (λout s1=>out.length<=J8/\EP X pins σ Q (.str out s1.toks) {s1 with toks:=s1.toks+1}) s
 |_,_,acc,pins,s,σ,H,Q,.nil,I,⟨hl,q⟩=>⟨hl,.str acc,H,I.tok _,⟨_,rfl⟩,q⟩
 |_,_,acc,pins,s,σ,H,Q,.cons h r,I,hq=>thn (h pins s σ H _ I hq) λu s1 ⟨v,H1,I1,rv,y,ev,hl,q⟩=>by
  subst ev;obtain⟨t,rfl⟩:=(show ∃t,u=Value.str y t from rv)
  exact⟨y,t,rfl,hl,OJ (E:=E) r I1 q⟩
theorem CT{v1 v2:J7}{rest:A3}{ts:List TE}(h:PEs X (v1::v2::rest) ts):PE X (.JoinedStr (v1::v2::rest) pos) (Ts ts Str.empty):=by intro pins s σ H Q I hq;exact wpAny_JoinedStr (OJ (E:=X.xe) h I hq)
end
end L2
namespace L2
open PySem PySem.Spec
section
variable{prog:J4}{w:World}{A:Around}{E:JZ->J0->Prop}{h:Heap}{g:Array GenState}{d:Drawn}{t:Nat}{os:OsState}{R:Result->J0->Prop}
variable{nm q:Str}{C N a:J5}{bs bm bmB:AZ}{hdct:Bool}{sn:List Str}{sub:AZ}{ab:Bool}{col:A9}{dd:A8}{k0 k1 k2 k3 k5:A1}{newId:String}{o:Obj}
theorem BF(T:Tail bmB bm)(ho:bmB.contains (.type "object")=AW)(hC:h.get? C=O (excClassObj nm q C N bs bm hdct sn sub ab col dd k0 k1 k2 k3 k5 newId))(hx:h.get? a=O o)(hc:o.cls=.ref C)(hq:R (.ok (.ret (.ref C))) ⟨h,g,d,t,os⟩) :
  codeAny (model prog w) A (.call (.builtin "getset_descriptor.__get__") ⟨[.builtin "object.__class__", .ref a,.ref C],[]⟩) R ⟨h,g,d,t,os⟩:=by
 have hT5:(⟨h,g,d,t,os⟩:J0).TypeIs (.builtin "object.__class__") "getset_descriptor" :=PySem.F.typeOf_object_class;have qx:(Value.ref C::bm).contains (.type (".".intercalate ("object.__class__".cutAt '.').dropLast))=AW:=by rw[PySem.F.owner_object_class,QW,T _ _ ho];rfl
 refine codeAny_call_builtin PySem.F.slot_gs_get.plain PySem.F.entry_gs_get (PySem.F.slot_gs_get.check _ _ _ _ _ _ _ _ hT5 (PySem.F.args_gs_get _ _ _) ?_)
 repeat (any_goals (first|assumption|(with_reducible refine Qg hx ?_;rw[hc])|(with_reducible refine Qz hC ?_;rw[qx])|wp_step))
 refine⟨Code.quiet_builtin _ (by decide +kernel),codeAny_builtin PySem.F.entry_object_class ?_⟩;unfold Builtin.«object.__class__»
 repeat (any_goals (first|assumption|(with_reducible refine Qg hx ?_;rw[hc])|wp_step))
theorem AF{tk:Tok}{Q:PySem.Fin->J0->Prop}(T:Tail bmB bm)(ho:bmB.contains (.type "object")=AW)(hC:h.get? C=O (excClassObj nm q C N bs bm hdct sn sub ab col dd k0 k1 k2 k3 k5 newId))(fc:Kp (model prog w) C "__class__" (O (.builtin "object.__class__")) h)(hx:h.get? a=O o)(hc:o.cls=.ref C)(hq:Q (.done (.ret (.ref C))) ⟨h,g,d,t,os⟩) :
  J9 (model prog w) A (Builtin.«object.__getattribute__» ⟨[.ref a,.str "__class__" tk],[]⟩) Q E ⟨h,g,d,t,os⟩:=by
 have hT5:(⟨h,g,d,t,os⟩:J0).TypeIs (.builtin "object.__class__") "getset_descriptor" :=PySem.F.typeOf_object_class;have f5:=PySem.F.typeOf_object_class;have f6:=PySem.F.slot_gs_get.lookup;have f7:=PySem.F.slot_gs_set.lookup
 repeat (any_goals (first|assumption|(with_reducible refine Qg hx ?_;rw[hc])|with_reducible refine fc.at ?_|wp_step))
 refine BF T ho hC hx hc ?_
 repeat (any_goals (first|assumption|wp_step))
theorem RQ{Q:A1->J0->Prop}(FB:ExcAttrFacts "ValueError")(T:Tail VB bm)(hC:h.get? C=O (excClassObj nm q C N bs bm hdct sn sub ab col dd k0 k1 k2 k3 k5 newId))(fc:Kp (model prog w) C "__class__" (O (.builtin "object.__class__")) h)
  (fg:Kp (model prog w) C "__getattribute__" (O (.builtin "BaseException.__getattribute__")) h) (fa:Kp (model prog w) C "__getattr__" none h) (hx:h.get? a=O o) (hc:o.cls=.ref C) (hq:Q (O (.ref C)) ⟨h,g,d,t+1,os⟩) :
  J9 (model prog w) A (getAttr? (.ref a) "__class__") Q E ⟨h,g,d,t,os⟩:=by
 have f3:=FB.ga.bind (.ref a);have hx0:(AX&&onTheHeap (Value.builtin "BaseException.__getattribute__"))=AX:=rfl;have hx2:(Value.builtin "BaseException.__getattribute__" == Value.builtin "object.__getattribute__")=AX:=by decide +kernel
 have hx1:(onTheHeap (Value.ref C)&&Value.builtin "BaseException.__getattribute__" == Value.builtin "object.__getattribute__")=AX:=by rw[hx2];rfl
 unfold getAttr? getAttrBy?;refine Qb (wpAny_mkText (Qb (wpAny_attempt ?_)))
 repeat (any_goals (first|assumption|(with_reducible refine Qg hx ?_;rw[hc])|with_reducible refine fg.at ?_|with_reducible refine fa.at ?_|wp_step))
 refine codeAny_call_builtin FB.ga.plain PySem.F.entry_bexc_ga (CW T AU hC hx hc (AF T AU hC fc hx hc ?_))
 repeat (any_goals (first|assumption|wp_step))
end
end L2
namespace L2
open PySem PySem.Spec PyProof.Rows
section
variable{prog:J4}{w:World}{A:Around}{E:JZ->J0->Prop}{h:Heap}{g:Array GenState}{d:Drawn}{t:Nat}{os:OsState}
variable{nm q qF q':Str}{C N D N' a:J5}{bs bm bs' bm':AZ}{hdct qK:Bool}{sn sn':List Str}{sub sub':AZ}{ab qP:Bool}{col col':A9}{dd qp:A8}{k0 k1 k2 k3 k5 j0 j1 j2 j3 j5:A1}{newId newId':String}{o:Obj}{b:Bool}
theorem FW{Q:JZ->J0->Prop}(T:Tail VB bm)(hC:h.get? C=O (excClassObj nm q C N bs bm hdct sn sub ab col dd k0 k1 k2 k3 k5 newId))(hD:h.get? D=O (excClassObj qF q' D N' bs' bm' qK sn' sub' qP col' qp j0 j1 j2 j3 j5 newId'))
  (fc:Kp (model prog w) C "__class__" (O (.builtin "object.__class__")) h) (fg:Kp (model prog w) C "__getattribute__" (O (.builtin "BaseException.__getattribute__")) h) (fa:Kp (model prog w) C "__getattr__" none h)
  (hx:h.get? a=O o) (hc:o.cls=.ref C) (hb:(Value.ref C::bm).contains (.ref D)=b) (hq:∀tk,Q (.bool b) ⟨h,g,d,tk,os⟩):J9 (model prog w) A (call (.builtin "isinstance") [.ref a,.ref D]) Q E ⟨h,g,d,t,os⟩:=by
 have hT:(⟨h,g,d,t,os⟩:J0).TypeIs (.ref D) "type" :=⟨_,hD,rfl⟩
 have f2:=tc_sub;refine call_isinstance_of ?_ (λz=>nomatch z);unfold Builtin.«isinstance.nested»;refine Qb ?_;unfold typeOf;refine Qb (Qg hx (Qf ?_));rw[hc];by_cases e:C=D
 .subst e
  have hb1:b=AW:=by rw[←hb];simp
  subst hb1;rw[if_pos (by simp)];exact Qb (wpAny_rule (Qf (hq t)))
 .rw[if_neg (by simp[e])]
  refine Qb (Qb (Qg hD (Qf ?_)));rw[Qn (show(Value.type "type" == Value.type "type")=AW by decide)]
  k_delta "plainIsInstance"
  unfold isType isInstance
  repeat (first|(with_reducible refine Qg hx ?_;rw[hc])|with_reducible refine Qg hD ?_|with_reducible refine Qg hC ?_|(with_reducible refine Qz hC ?_;rw[hb])|wp_step)
  cases b with
  |true=>wp_walk;exact hq t
  |false=>
   rw[QD (by decide)];refine Qb (RQ PySem.F.excAttr_ValueError T hC fc fg fa hx hc ?_)
   repeat (first|with_reducible refine Qg hC ?_|(with_reducible refine Qz hC ?_;rw[hb])|wp_step)
   exact hq _
theorem Go{Q:JZ->J0->Prop}{X:String}(T:Tail VB bm)(hC:h.get? C=O (excClassObj nm q C N bs bm hdct sn sub ab col dd k0 k1 k2 k3 k5 newId))(hX:typeOf (.type X)=pure (.type "type"))
  (fc:Kp (model prog w) C "__class__" (O (.builtin "object.__class__")) h) (fg:Kp (model prog w) C "__getattribute__" (O (.builtin "BaseException.__getattribute__")) h) (fa:Kp (model prog w) C "__getattr__" none h)
  (hx:h.get? a=O o) (hc:o.cls=.ref C) (hb:(Value.ref C::bm).contains (.type X)=b) (hq:∀tk,Q (.bool b) ⟨h,g,d,tk,os⟩):J9 (model prog w) A (call (.builtin "isinstance") [.ref a,.type X]) Q E ⟨h,g,d,t,os⟩:=by
 refine call_isinstance_of ?_ (λz=>nomatch z);unfold Builtin.«isinstance.nested»;refine Qb ?_;have ty:∀{M:Model}{A:Around}{Q:JZ->J0->Prop}{E:JZ->J0->Prop},Q (.ref C) ⟨h,g,d,t,os⟩->J9 M A (typeOf (.ref a)) Q E ⟨h,g,d,t,os⟩:=λq=>by unfold typeOf;refine Qb (Qg hx (Qf ?_));rw[hc];exact q
 refine ty ?_;rw[if_neg (by simp)];refine Qb (wpAny_of_eq hX ?_);rw[Qn (show(Value.type "type" == Value.type "type")=AW by decide)]
 k_delta "plainIsInstance"
 unfold isType isInstance
 repeat (first|(with_reducible refine Qg hx ?_;rw[hc])|with_reducible refine Qg hC ?_|(with_reducible refine Qz hC ?_;rw[hb])|wp_step)
 cases b with
 |true=>wp_walk;exact hq t
 |false=>
  rw[QD (by decide)];refine Qb (RQ PySem.F.excAttr_ValueError T hC fc fg fa hx hc ?_)
  repeat (first|with_reducible refine Qg hC ?_|(with_reducible refine Qz hC ?_;rw[hb])|wp_step)
  exact hq _
end
noncomputable def rIsX(KC:J5->AZ->Prop):List V->Hp->VK->Prop:=λxs H Q=>∃a C dd bm fr c b,xs=[.ref a,c]/\KC C bm/\H a=O (.ext (XO fr a C dd)) /\
 ((∃D bm',c=.ref D/\KC D bm'/\(Value.ref C::bm).contains (.ref D)=b) ∨ ∃T,c=.ty T/\typeOf (.type T)=pure (.type "type")/\(Value.ref C::bm).contains (.type T)=b)/\Q (.bl b) H
theorem OI{X:Cx}{KC:J5->AZ->Prop}(hcls:∀C bm,KC C bm->∃fI,XCls (model X.prog X.w) X.base C bm fI):Zx X (.builtin "isinstance") (rIsX KC):=by
 rintro pins s σ H xs us Q I r ⟨a,C,dd,bm,fr,c,b,rfl,kc,hx,hD,q⟩;cases r with
 |cons ra r=>
 cases r with
 |cons rc r=>
 cases r;have ra':_=Value.ref a:=ra;subst ra';obtain⟨fI,XC⟩:=hcls C bm kc;obtain⟨nm,qn,N,bs,sn,sub,ab,col,qN,k0,k1,k2,k3,k5,hC⟩:=XC.obj;obtain⟨⟨vs,sl,ga,_⟩,_,_⟩:=I.hok a _ hx;obtain⟨hp,g,d,tk,os⟩:=s;rcases hD with ⟨D,bm',rfl,kd,hb⟩|⟨T,rfl,hT,hb⟩
 .have rc':_=Value.ref D:=rc
  subst rc';obtain⟨fI',XD'⟩:=hcls D bm' kd;obtain⟨qF,qn',N',bs',sn',sub',qP,col',dd2,j0,j1,j2,j3,j5,qu⟩:=XD'.obj;exact FW XC.tail (I.bk _ _ hC) (I.bk _ _ qu) (XC.cl.keeps I.bk) (XC.ga.keeps I.bk) (XC.gh.keeps I.bk) ga AU hb λtk'=>⟨.bl b,H,I.tok tk',rfl,q⟩
 .have rc':_=Value.type T:=rc
  subst rc';exact Go XC.tail (I.bk _ _ hC) hT (XC.cl.keeps I.bk) (XC.ga.keeps I.bk) (XC.gh.keeps I.bk) ga AU hb λtk'=>⟨.bl b,H,I.tok tk',rfl,q⟩
theorem CS{CX:CXT}{P:J4}{w:World}{K:Frag}{mg:Str->A1}{base:Heap}{N:List Str}{qual:Str}{scope:Scope}{f:J5}{cd:JZ}{A:Around}{outer:List Env}{s:J0}{H:Hp}{E:XK} :
  PassesOwn (model P w) (Kv CX P w K mg base N qual scope f cd A outer s H E).A (Kv CX P w K mg base N qual scope f cd A outer s H E).env (Kv CX P w K mg base N qual scope f cd A outer s H E).xe:=
 PassesOwn.leaving (Q₁:=λe s''=>CX outer H s E e s'')
noncomputable def Wn(KC:J5->AZ->Prop):Sp:=λvs H Q _=>∃a C dd bm x,vs=[.ref a,.str x]/\KC C bm/\H a=O (.ext (XO AW a C dd))/\Q .non H
noncomputable def S7(KC:J5->AZ->Prop)(fs:List Str):Sp:=λvs H Q _=>∃a C bm us,vs=.ref a::us/\us.length=fs.length/\KC C bm/\H a=O (.ext (XO AW a C AV))/\(∀u∈us,∃y,FmtV u y/\y.length<=4000) /\
 ∀dx,H dx=AV->dx≠a->Q .non (upd (upd H a (.ext (XO AW a C (O dx)))) dx (.ext (XD dx (fs.zip us))))
noncomputable def K2(nm:Str):List Str:=if nm = "NoWishes" then ["part", "number"]else if nm = "NoAim" then ["part"]else if nm = "NoText" then ["row"]else []
noncomputable def Tr(K:Frag)(nm:Str):A8:=match PySem.W.nsIn K mainGlobals nm with|some (O (.ref C))=>O C|_=>AV
def NmAt(K:Frag)(nm:Str)(C:J5):Prop:=∃o cd,K.lookup C=O o/\o.data=.cls cd/\cd.name=nm
structure ClsK(K:Frag)(nm:Str)(C:J5)(bm:AZ):Prop where
 ad:Tr K nm=O C
 nmd:NmAt K nm C
 up:nm = "DealError" /\ bm=VB∨nm ≠ "DealError" /\ ∃D,Tr K "DealError" = O D/\bm=.ref D::VB/\NmAt K "DealError" D
 cls:∀(M:Model)(h:Heap),K.In h->∃fI,XCls M h C bm fI
 fld:∀(M:Model)(h:Heap),K.In h->∀f∈(["part", "number", "row"]:List Str),Kp M C f AV h
noncomputable def KC(K:Frag):J5->AZ->Prop:=λC bm=>∃nm,ClsK K nm C bm
section
variable{K:Frag}{nm x:Str}{C D:J5}{bm bm':AZ}
theorem NmAt.ne(c:NmAt K nm C)(d:NmAt K x D)(h:x≠nm):C≠D:=λe=>by subst e;obtain⟨o,cd,h1,h2,h3⟩:=c;obtain⟨o',cd',g1,g2,g3⟩:=d;rw[h1]at g1;cases g1;rw[h2]at g2;cases g2;exact h (g3.symm.trans h3)
theorem ClsK.has(c:ClsK K nm C bm)(d:ClsK K x D bm'):(Value.ref C::bm).contains (.ref D)=(decide (x=nm) || decide (x = "DealError")):=by
 by_cases e:x=nm
 .subst e
  have:=c.ad.symm.trans d.ad;cases this;simp
 .have ne:=c.nmd.ne d.nmd e
  rw[QC e,Bool.false_or];have h0:(Value.ref D==Value.ref C)=AX:=by simp[Ne.symm ne]
  rw[QW,h0,Bool.false_or];by_cases e2:x = "DealError"
  .subst e2
   rcases c.up with ⟨z,_⟩|⟨_,D',g,rfl,_⟩
   .exact absurd z.symm e
   .have:=g.symm.trans d.ad
    cases this;simp
  .rw[QC e2]
   rcases c.up with ⟨_,rfl⟩|⟨_,D',g,rfl,n⟩
   .rfl
   .have ne2:=n.ne d.nmd e2
    have h1:(Value.ref D==Value.ref D')=AX:=by simp[Ne.symm ne2]
    rw[QW,h1,Bool.false_or];rfl
theorem ClsK.ty(c:ClsK K nm C bm)(T:String):(Value.ref C::bm).contains (.type T)=VB.contains (.type T):=by
 rcases c.up with ⟨_,rfl⟩|⟨_,D',g,rfl,n⟩
 .rfl
 .rfl
end
section
variable{X:Cx}{e:J7}{st:Stmt}{sts:List Stmt}{t:TE}{ts:TS}
theorem PE.kin(h:X.K.In X.base->PE X e t):PE X e t:=λpins s σ H Q I q=>h I.ok.mod.kin pins s σ H Q I q
theorem PS.kin(h:X.K.In X.base->PS X st ts):PS X st ts:=λpins s σ H Q I q=>h I.ok.mod.kin pins s σ H Q I q
theorem PSs.kin(h:X.K.In X.base->PSs X sts ts):PSs X sts ts:=λpins s σ H Q I q=>h I.ok.mod.kin pins s σ H Q I q
theorem Xi(k:X.K.In X.base):∀C bm,KC X.K C bm->∃fI,XCls (model X.prog X.w) X.base C bm fI:=λ_ _ ⟨_,c⟩=>c.cls _ _ k
end
def Pe(nm:Str)(us:List V):Prop:=(K2 nm=[]/\∃x,us=[.str x])∨(K2 nm≠[]/\us.length=(K2 nm).length/\∀u∈us,∃y,FmtV u y/\y.length<=4000)
def Pd(nm:Str)(C a:J5)(us:List V)(H:Hp)(dd:A8)(H':Hp):Prop:=
 (K2 nm=[]/\dd=AV/\H'=H)∨(K2 nm≠[]/\us.length=(K2 nm).length/\∃dx,dd=O dx/\H dx=AV/\dx≠a/\H'=upd (upd H a (.ext (XO AW a C (O dx)))) dx (.ext (XD dx ((K2 nm).zip us))))
def TK(K:Frag)(nm:Str)(C:J5)(sp:Sp):Prop:=∀a us H Q,H a=O (.ext (XO AW a C AV))->Pe nm us->(∀dd H',Pd nm C a us H dd H'->Q .non H')->sp (.ref a::us) H Q E0
def MkX(P:J4)(w:World)(K:Frag)(mg:Str->A1)(base:Heap)(nm:Str)(k:Nat):Prop:=
 ∃C bm f fd ps sp,mg nm=O (.ref C)/\PySem.W.keepIn K (.ref C)=AW/\ClsK K nm C bm/\(∀(M:Model)(h:Heap),K.In h->XCls M h C bm f)/\FnOk P w K mg base CX0 k f fd ps sp/\Zi K fd ps []/\TK K nm C sp
theorem OH{K:Frag}{nm:Str}{C:J5}{bm:AZ}(c:ClsK K nm C bm)(hf:K2 nm=[]):TK K nm C (Wn (KC K)):=λa us H Q h ar q=>by
 rcases ar with ⟨_,x,rfl⟩|⟨z,_⟩
 .exact⟨a,C,AV,bm,x,rfl,⟨nm,c⟩,h,q AV H (.inl ⟨hf,rfl,rfl⟩)⟩
 .exact absurd hf z
theorem Dp{K:Frag}{nm:Str}{C:J5}{bm:AZ}(c:ClsK K nm C bm)(hf:K2 nm≠[]):TK K nm C (S7 (KC K) (K2 nm)):=λa us H Q h ar q=>by
 rcases ar with ⟨z,_⟩|⟨_,hl,hu⟩
 .exact absurd z hf
 .exact⟨a,C,bm,us,rfl,hl,⟨nm,c⟩,h,hu,λdx hd hne=>q (O dx) _ (.inr ⟨hf,hl,dx,rfl,hd,hne,rfl⟩)⟩
end L2
namespace DL
open PySem PySem.Spec L2
open PyProof.Rows hiding St
abbrev D:=PyData
abbrev AY:=List D
abbrev A4:=Option D
abbrev XW:=V->St->Hp->Prop
noncomputable abbrev KX0:XW:=λ_ _ _=>False
def XFs(G:Hp)(dd:A8)(fs:List Str)(vs:List V):Prop:=match dd with
 |none=>fs=[]/\vs=[]
 |some dx=>fs.length=vs.length/\G dx=O (.ext (XD dx (fs.zip vs)))
theorem XFs.mono{G G1:Hp}{dd:A8}{fs:List Str}{vs:List V}(e:Same G G1)(h:XFs G dd fs vs):XFs G1 dd fs vs:=by
 cases dd with
 |none=>exact h
 |some dx=>exact⟨h.1,e _ _ h.2⟩
noncomputable def kD:Key->D
 |.inl i=>.int i
 |.inr x=>.str x
noncomputable def tkD(k:qb):D:=.tuple (k.map kD)
noncomputable def pdD(ks:List qb)(ds:AY):List (D×D):=(.bool AW,.none)::(ks.map tkD).zip ds
mutual
inductive Rep(K:Frag)(G:Hp):V->D->Prop where
 |non:Rep K G .non .none
 |bl (b:Bool):Rep K G (.bl b) (.bool b)
 |int (i:Int):Rep K G (.int i) (.int i)
 |str (x:Str):Rep K G (.str x) (.str x)
 |lst {a:J5} {vs:List V} {ds:AY} (h:SqL K G a vs) (r:Reps K G vs ds):Rep K G (.ref a) (.list ds)
 |tup {a:J5} {vs:List V} {ds:AY} (h:SqT K G a vs) (r:Reps K G vs ds):Rep K G (.ref a) (.tuple ds)
 |dic {a:J5} (h:G a=O (.dK [])):Rep K G (.ref a) (.dict [])
 |exc {a C:J5} {dd:A8} {bm:AZ} {nm:Str} {vs:List V} {ds:AY} (c:ClsK K nm C bm) (h:G a=O (.ext (XO AX a C dd))) (hd:XFs G dd (K2 nm) vs) (r:Reps K G vs ds):Rep K G (.ref a) (.dict [(.none,.tuple [.str nm,.list ds])])
 |dct {a:J5} {ks:qb} {vs:List V} {ds:AY} {kvs:List (D×D)} (e:kvs=(ks.map kD).zip ds) (hne:ks≠[]) (hl:ks.length=ds.length) (h:G a=O (.dK (ks.zip vs))) (r:Reps K G vs ds):Rep K G (.ref a) (.dict kvs)
 |dtt {a:J5} {o:Obj} {ks:List qb} {vs:List V} {ds:AY} {kvs:List (D×D)} (e:kvs=pdD ks ds) (hl:ks.length=ds.length) (h:G a=O (.frz o (.dT (ks.zip vs)))) (r:Reps K G vs ds):Rep K G (.ref a) (.dict kvs)
inductive Reps(K:Frag)(G:Hp):List V->AY->Prop where
 |nil:Reps K G [] []
 |cons {v:V} {d:D} {vs:List V} {ds:AY} (h:Rep K G v d) (t:Reps K G vs ds):Reps K G (v::vs) (d::ds)
end
variable{K:Frag}{B G0 G G1 G2 H H1 H2:Hp}
theorem ZJ{a:J5}{xs:List V}(e:Same G G1)(h:SqT K G a xs):SqT K G1 a xs:=by
 rcases h with (h|⟨o,h⟩)|h
 .exact .inl (.inl (e _ _ h))
 .exact .inl (.inr ⟨o,e _ _ h⟩)
 .exact .inr h
theorem Rep.mono(e:Same G G1){v:V}{d:D}(r:Rep K G v d):Rep K G1 v d:=Rep.rec (motive_1:=λv d _=>Rep K G1 v d) (motive_2:=λvs ds _=>Reps K G1 vs ds) .non .bl .int .str (λh _ r=>.lst (e.seq h) r) (λh _ r=>.tup (ZJ e h) r) (λh=>.dic (e _ _ h)) (λc h hd _ r=>.exc c (e _ _ h) (hd.mono e) r) (λz n l h _ r=>.dct z n l (e _ _ h) r) (λz l h _ r=>.dtt z l (e _ _ h) r) .nil (λ_ _=>.cons) r
theorem Reps.mono(e:Same G G1){vs:List V}{ds:AY}(r:Reps K G vs ds):Reps K G1 vs ds:=Reps.rec (motive_1:=λv d _=>Rep K G1 v d) (motive_2:=λvs ds _=>Reps K G1 vs ds) .non .bl .int .str (λh _ r=>.lst (e.seq h) r) (λh _ r=>.tup (ZJ e h) r) (λh=>.dic (e _ _ h)) (λc h hd _ r=>.exc c (e _ _ h) (hd.mono e) r) (λz n l h _ r=>.dct z n l (e _ _ h) r) (λz l h _ r=>.dtt z l (e _ _ h) r) .nil (λ_ _=>.cons) r
theorem CQ{ks:qb}{ds:AY}{d:D}{r:List (D×D)}(e:(.none,d)::r=(ks.map kD).zip ds):False:=by
 cases ks with
 |nil=>cases e
 |cons k ks=>
  cases ds with
  |nil=>cases e
  |cons d ds=>
   rw[Qw,List.zip_cons_cons]at e;injection e with e1 _;injection e1 with e2 _
   cases k<;>cases e2
section
variable{v:V}{vs ws:List V}{ds es:AY}
theorem Rep.bl_inv{b:Bool}(h:Rep K G v (.bool b)):v=.bl b:=by cases h;rfl
theorem Rep.int_inv{i:Int}(h:Rep K G v (.int i)):v=.int i:=by cases h;rfl
theorem Rep.str_inv{x:Str}(h:Rep K G v (.str x)):v=.str x:=by cases h;rfl
theorem Rep.lst_inv(h:Rep K G v (.list ds)):∃a vs,v=.ref a/\SqL K G a vs/\Reps K G vs ds:=by
 cases h with
 |lst h r=>exact⟨_,_,rfl,h,r⟩
theorem Rep.tup_inv(h:Rep K G v (.tuple ds)):∃a vs,v=.ref a/\SqT K G a vs/\Reps K G vs ds:=by
 cases h with
 |tup h r=>exact⟨_,_,rfl,h,r⟩
theorem Rep.exc_inv{d:D}(h:Rep K G v (.dict [(.none,d)])):∃a C dd bm nm vs ds,v=.ref a/\d=.tuple [.str nm,.list ds]/\ClsK K nm C bm/\G a=O (.ext (XO AX a C dd))/\XFs G dd (K2 nm) vs/\Reps K G vs ds:=by
 cases h with
 |exc c h hd r=>exact⟨_,_,_,_,_,_,_,rfl,rfl,c,h,hd,r⟩
 |dct e _ _ _ _=>exact(CQ e).elim
 |dtt e _ _ _=>exact nomatch (JF (List.cons.inj e).1).1
theorem Reps.length:∀{vs:List V}{ds:AY},Reps K G vs ds->vs.length=ds.length
 |_,_,.nil=>rfl
 |_,_,.cons _ t=>by rw[QK,QK,Reps.length t]
theorem Reps.get:∀{vs:List V}{ds:AY}{i:Nat}{d:D},Reps K G vs ds->ds[i]?=O d->∃v,vs[i]?=O v/\Rep K G v d
 |_,_,_,_,.nil,e=>by simp at e
 |_,_,0,_,.cons h _,e=>by simp at e;subst e;exact⟨_,rfl,h⟩
 |_,_,i+1,d,.cons _ t,e=>by obtain⟨u,h1,h2⟩:=Reps.get (i:=i) (d:=d) t (by simpa using e);exact⟨u,by simpa using h1,h2⟩
theorem Reps.append:∀{vs ws:List V}{ds es:AY},Reps K G vs ds->Reps K G ws es->Reps K G (vs++ws) (ds++es)
 |_,_,_,_,.nil,s=>s
 |_,_,_,_,.cons r t,s=>.cons r (Reps.append t s)
theorem Reps.take:∀{vs:List V}{ds:AY}(n:Nat),Reps K G vs ds->Reps K G (vs.take n) (ds.take n)
 |_,_,0,_=>by rw[List.take_zero,List.take_zero];exact .nil
 |_,_,_+1,.nil=>.nil
 |_,_,n+1,.cons r t=>.cons r (Reps.take n t)
theorem Reps.drop:∀{vs:List V}{ds:AY}(n:Nat),Reps K G vs ds->Reps K G (vs.drop n) (ds.drop n)
 |_,_,0,r=>r
 |_,_,_+1,.nil=>.nil
 |_,_,n+1,.cons _ t=>Reps.drop n t
theorem Reps.reverse:∀{vs:List V}{ds:AY},Reps K G vs ds->Reps K G vs.reverse ds.reverse
 |_,_,.nil=>.nil
 |_,_,.cons r t=>by rw[List.reverse_cons,List.reverse_cons];exact Reps.append (Reps.reverse t) (.cons r .nil)
theorem Reps.set{v:V}{d:D}(r:Rep K G v d):∀{vs:List V}{ds:AY}(i:Nat),Reps K G vs ds->Reps K G (vs.set i v) (ds.set i d)
 |_,_,_,.nil=>.nil
 |_,_,0,.cons _ t=>.cons r t
 |_,_,i+1,.cons q t=>.cons q (Reps.set r i t)
theorem Reps.ints:∀(ns:A0),Reps K G (ns.map V.int) (ns.map int)
 |[]=>.nil
 |n::ns=>.cons (.int n) (Reps.ints ns)
end
inductive MO where
 |l (vs:List V)|k (kvs:List (Key×V))|t (kvs:List (qb×V))|s (S:Int->Bool) (n:Nat)
noncomputable def MO.ho:MO->HO
 |.l vs=>.lst vs
 |.k kvs=>.dK kvs
 |.t kvs=>.dT kvs
 |.s S n=>.set S n
structure Ext(G H G' H':Hp):Prop where
 h:Same H H'
 g:Same G G'
 gh:Same G' H'
 np:∀a(u:MO),H a=O u.ho->G a=AV->G' a=AV
theorem Ext.refl(e:Same G H):Ext G H G H:=⟨.refl _,.refl _,e,λ_ _ _ q=>q⟩
theorem Ext.trans{G' H' G'' H'':Hp}(a:Ext G H G' H')(b:Ext G' H' G'' H''):Ext G H G'' H'':=
 ⟨a.h.trans b.h,a.g.trans b.g,b.gh,λx o e q=>b.np x o (a.h x _ e) (a.np x o e q)⟩
theorem KT{p:J5}{o:HO}(h:H p=AV):Same H (upd H p o):=λb u e=>by rw[UZ (Z9 e h)];exact e
theorem Ext.new{p:J5}{o:HO}(e:Same G H)(h:H p=AV):Ext G H (upd G p o) (upd H p o):=by
 have hg:G p=AV:=e.free h;refine⟨KT h,KT hg,λb u q=>?_,λa u q n=>?_⟩
 .by_cases z:b=p
  .subst z;rw[U8]at q⊢;exact q
  .rw[UZ z]at q⊢;exact e b u q
 .rw[UZ (Z9 q h)];exact n
theorem Ext.hid{p:J5}{o:HO}(e:Same G H)(h:H p=AV):Ext G H G (upd H p o):=
 ⟨KT h,.refl _,e.trans (KT h),λ_ _ _ n=>n⟩
inductive Pat where
 |leaf|lst (p:Pat)|tup (ps:List Pat)|dic
mutual
inductive RepO(K:Frag)(G H:Hp):Pat->V->D->A5->Prop where
 |leaf {v:V} {d:D} (r:Rep K G v d):RepO K G H .leaf v d []
 |lst {p:Pat} {a:J5} {vs:List V} {ds:AY} {fp:A5} (h:H a=O (.lst vs)) (r:RepOl K G H p vs ds fp):RepO K G H (.lst p) (.ref a) (.list ds) (a::fp)
 |tup {ps:List Pat} {a:J5} {vs:List V} {ds:AY} {fp:A5} (h:H a=O (.tup vs)) (r:RepOs K G H ps vs ds fp):RepO K G H (.tup ps) (.ref a) (.tuple ds) fp
 |dic {a:J5} {ks:qb} {vs:List V} {ds:AY} {kvs:List (D×D)} (e:kvs=(ks.map kD).zip ds) (hl:ks.length=ds.length) (h:H a=O (.dK (ks.zip vs))) (r:Reps K G vs ds):RepO K G H .dic (.ref a) (.dict kvs) [a]
inductive RepOl(K:Frag)(G H:Hp):Pat->List V->AY->A5->Prop where
 |nil {p:Pat}:RepOl K G H p [] [] []
 |cons {p:Pat} {v:V} {d:D} {vs:List V} {ds:AY} {f1 f2:A5} (h:RepO K G H p v d f1) (t:RepOl K G H p vs ds f2):RepOl K G H p (v::vs) (d::ds) (f1++f2)
inductive RepOs(K:Frag)(G H:Hp):List Pat->List V->AY->A5->Prop where
 |nil:RepOs K G H [] [] [] []
 |cons {p:Pat} {ps:List Pat} {v:V} {d:D} {vs:List V} {ds:AY} {f1 f2:A5} (h:RepO K G H p v d f1) (t:RepOs K G H ps vs ds f2):RepOs K G H (p::ps) (v::vs) (d::ds) (f1++f2)
end
def YC(K:Frag)(G H:Hp)(M1:Pat->V->D->A5->Prop)(M2:Pat->List V->AY->A5->Prop)(M3:List Pat->List V->AY->A5->Prop):Prop:=
 (∀{p v d fp},RepO K G H p v d fp->M1 p v d fp)/\(∀{p vs ds fp},RepOl K G H p vs ds fp->M2 p vs ds fp)/\∀{ps vs ds fp},RepOs K G H ps vs ds fp->M3 ps vs ds fp
theorem RepO.ind3{M1:Pat->V->D->A5->Prop}{M2:Pat->List V->AY->A5->Prop}{M3:List Pat->List V->AY->A5->Prop}
  (c1:∀{v d},Rep K G v d->M1 .leaf v d []) (c2:∀{p a vs ds fp},H a=O (.lst vs)->M2 p vs ds fp->M1 (.lst p) (.ref a) (.list ds) (a::fp)) (c3:∀{ps a vs ds fp},H a=O (.tup vs)->M3 ps vs ds fp->M1 (.tup ps) (.ref a) (.tuple ds) fp)
  (c4:∀{a:J5}{ks:qb}{vs:List V}{ds:AY}{kvs:List (D×D)},kvs=(ks.map kD).zip ds->ks.length=ds.length->H a=O (.dK (ks.zip vs))->Reps K G vs ds->M1 .dic (.ref a) (.dict kvs) [a])
  (c5:∀{p},M2 p [] [] []) (c6:∀{p v d vs ds f1 f2},M1 p v d f1->M2 p vs ds f2->M2 p (v::vs) (d::ds) (f1++f2)) (c7:M3 [] [] [] []) (c8:∀{p ps v d vs ds f1 f2},M1 p v d f1->M3 ps vs ds f2->M3 (p::ps) (v::vs) (d::ds) (f1++f2)) :
  YC K G H M1 M2 M3:=
 ⟨λh=>RepO.rec (motive_1:=λp v d fp _=>M1 p v d fp) (motive_2:=λp v d fp _=>M2 p v d fp) (motive_3:=λp v d fp _=>M3 p v d fp) c1 (λh _=>c2 h) (λh _=>c3 h) c4 c5 (λ_ _=>c6) c7 (λ_ _=>c8) h,
  λh=>RepOl.rec (motive_1:=λp v d fp _=>M1 p v d fp) (motive_2:=λp v d fp _=>M2 p v d fp) (motive_3:=λp v d fp _=>M3 p v d fp) c1 (λh _=>c2 h) (λh _=>c3 h) c4 c5 (λ_ _=>c6) c7 (λ_ _=>c8) h,
  λh=>RepOs.rec (motive_1:=λp v d fp _=>M1 p v d fp) (motive_2:=λp v d fp _=>M2 p v d fp) (motive_3:=λp v d fp _=>M3 p v d fp) c1 (λh _=>c2 h) (λh _=>c3 h) c4 c5 (λ_ _=>c6) c7 (λ_ _=>c8) h⟩
theorem RepO.mono3(sg:Same G G1)(sh:Same H H1):YC K G H (RepO K G1 H1) (RepOl K G1 H1) (RepOs K G1 H1):=
 RepO.ind3 (λr=>.leaf (r.mono sg)) (λh r=>.lst (sh _ _ h) r) (λh r=>.tup (sh _ _ h) r) (λe hl h r=>.dic e hl (sh _ _ h) (r.mono sg)) .nil .cons .nil .cons
theorem RepO.mono(sg:Same G G1)(sh:Same H H1){p:Pat}{v:V}{d:D}{fp:A5}(r:RepO K G H p v d fp):RepO K G1 H1 p v d fp:=(RepO.mono3 sg sh).1 r
theorem RepO.upd3{a:J5}{o:HO}(nt:∀vs,H a≠O (.tup vs)):YC K G H (λp v d fp=>a∉fp->RepO K G (upd H a o) p v d fp) (λp v d fp=>a∉fp->RepOl K G (upd H a o) p v d fp) (λp v d fp=>a∉fp->RepOs K G (upd H a o) p v d fp):=
 RepO.ind3
 (λr _=>.leaf r) (λh r n=>.lst (by rw[UZ (λz=>n (by rw[z];exact Qp))];exact h) (r λz=>n (Qo _ z))) (λh r n=>.tup (by rw[UZ (λz=>by subst z;exact nt _ h)];exact h) (r n))
 (λe hl h r n=>.dic e hl (by rw[UZ (λz=>n (by rw[z];exact Qp))];exact h) r) (λ_=>.nil) (λh t n=>.cons (h λz=>n (JG _ z)) (t λz=>n (QP _ z))) (λ_=>.nil) (λh t n=>.cons (h λz=>n (JG _ z)) (t λz=>n (QP _ z)))
theorem RepO.upd{a:J5}{o:HO}(nt:∀vs,H a≠O (.tup vs)){p:Pat}{v:V}{d:D}{fp:A5}(r:RepO K G H p v d fp)(n:a∉fp):RepO K G (upd H a o) p v d fp:=(RepO.upd3 nt).1 r n
theorem RepO.rep3(gh:Same G H):YC K G H (λ_ v d _=>Rep K H v d) (λ_ v d _=>Reps K H v d) (λ_ v d _=>Reps K H v d):=
 RepO.ind3 (λr=>r.mono gh) (λh r=>.lst (SqL.of h) r) (λh r=>.tup (SqT.of h) r)
 (λ{a ks vs ds kvs} e hl h r=>by
  cases ks with
  |nil=>subst e;exact .dic h
  |cons k ks=>exact .dct e (λz=>by cases z) hl h (r.mono gh)) .nil .cons .nil .cons
theorem RepO.rep(gh:Same G H){p:Pat}{v:V}{d:D}{fp:A5}(r:RepO K G H p v d fp):Rep K H v d:=(RepO.rep3 gh).1 r
theorem RepO.isl3:YC K G H (λ_ _ _ fp=>∀a∈fp,∃u:MO,H a=O u.ho) (λ_ _ _ fp=>∀a∈fp,∃u:MO,H a=O u.ho) (λ_ _ _ fp=>∀a∈fp,∃u:MO,H a=O u.ho):=
 RepO.ind3 (λ_ a m=>by cases m)
 (λh r b m=>(QM.mp m).elim (λe=>⟨.l _,e ▸ h⟩) (r b)) (λ_ r=>r) (λ_ _ h _ b m=>⟨.k _,QX.mp m ▸ h⟩) (λa m=>by cases m) (λh t b m=>(Jd.mp m).elim (h b) (t b)) (λa m=>by cases m) (λh t b m=>(Jd.mp m).elim (h b) (t b))
theorem RepO.isl{p:Pat}{v:V}{d:D}{fp:A5}(r:RepO K G H p v d fp):∀a∈fp,∃u:MO,H a=O u.ho:=RepO.isl3.1 r
theorem RepO.uniq3(sh:Same H H1):YC K G H (λp v _ fp=>∀d' fp',RepO K G1 H1 p v d' fp'->fp=fp') (λp v _ fp=>∀d' fp',RepOl K G1 H1 p v d' fp'->fp=fp') (λp v _ fp=>∀d' fp',RepOs K G1 H1 p v d' fp'->fp=fp'):=
 RepO.ind3
 (λ_ d' fp' h=>by cases h;rfl)
 (λh r d' fp' h'=>by
  cases h' with
  |lst h2 r2=>have e:=sh _ _ h;rw[h2]at e;cases e;rw[r _ _ r2])
 (λh r d' fp' h'=>by
  cases h' with
  |tup h2 r2=>have e:=sh _ _ h;rw[h2]at e;cases e;exact r _ _ r2)
 (λ_ _ _ _ d' fp' h=>by cases h;rfl) (λd' fp' h=>by cases h;rfl)
 (λh t d' fp' h'=>by
  cases h' with
  |cons h2 t2=>rw[h _ _ h2,t _ _ t2])
 (λd' fp' h=>by cases h;rfl)
 (λh t d' fp' h'=>by
  cases h' with
  |cons h2 t2=>rw[h _ _ h2,t _ _ t2])
theorem RepO.uniq(sh:Same H H1){p:Pat}{v:V}{d d':D}{fp fp':A5}(r:RepO K G H p v d fp)(r':RepO K G1 H1 p v d' fp'):fp=fp':=(RepO.uniq3 sh).1 r _ _ r'
inductive Sl where
 |pub (d:D)|own (ds:AY)|deep (p:Pat) (d:D)
abbrev Ut:=List (Option Sl)
abbrev A6:=Option Ut
def DpOk(K:Frag)(B G H:Hp)(σ:St)(ρ:Ut):Prop:=∃ω:J5->Nat,
 (∀(i:Nat) p d,ρ[i]?=O (O (.deep p d))->∃v fp,σ[i]?=O (O v)/\RepO K G H p v d fp/\fp.Nodup/\∀a∈fp,B a=AV/\G a=AV/\ω a=i) /\
 (∀(i:Nat) ds a,ρ[i]?=O (O (.own ds))->σ[i]?=O (O (.ref a))->ω a=i)
theorem DpOk.of{σ:St}{ρ:Ut}(h1:∀(i:Nat) p d,ρ[i]?=O (O (.deep p d))->False)(h2:∀(i:Nat) ds,ρ[i]?=O (O (.own ds))->False):DpOk K B G H σ ρ:=
 ⟨λ_=>0,λi p d q=>(h1 i p d q).elim,λi ds a q=>(h2 i ds q).elim⟩
theorem DpOk.map{B1:Hp}{σ σ1:St}{ρ ρ1:Ut}(k:DpOk K B G H σ ρ)
  (h1:∀(i:Nat) p d,ρ1[i]?=O (O (.deep p d))->ρ[i]?=O (O (.deep p d))/\σ1[i]?=σ[i]?)
  (h2:∀(i:Nat) ds,ρ1[i]?=O (O (.own ds))->∃es,ρ[i]?=O (O (.own es))/\σ1[i]?=σ[i]?)
  (h3:∀(i:Nat) p d v fp,ρ[i]?=O (O (.deep p d))->σ[i]?=O (O v)->RepO K G H p v d fp->(∀a∈fp,B a=AV/\G a=AV)->(∀(j:Nat) ds a,ρ[j]?=O (O (.own ds))->σ[j]?=O (O (.ref a))->a∉fp)->RepO K G1 H1 p v d fp/\∀a∈fp,B1 a=AV/\G1 a=AV):DpOk K B1 G1 H1 σ1 ρ1:=by
 obtain⟨ω,k1,k2⟩:=k;refine⟨ω,λi p d q=>?_,λi ds a q s=>?_⟩
 .obtain⟨q1,e1⟩:=h1 i p d q
  obtain⟨v,fp,s,r,n,w⟩:=k1 i p d q1;obtain⟨r1,w1⟩:=h3 i p d v fp q1 s r (λa m=>⟨(w a m).1,(w a m).2.1⟩) λj ds a qj sj m=>by have z1:=k2 j ds a qj sj;have z2:=(w a m).2.2;rw[z1]at z2;subst z2;rw[q1]at qj;cases qj
  exact⟨v,fp,by rw[e1];exact s,r1,n,λa m=>⟨(w1 a m).1,(w1 a m).2,(w a m).2.2⟩⟩
 .obtain⟨es,q1,e1⟩:=h2 i ds q
  rw[e1]at s;exact k2 i es a q1 s
structure EOk(K:Frag)(B G0 G H:Hp)(σ:St)(ρ:Ut):Prop where
 bh:Same B H
 gh:Same G H
 g0:Same G0 G
 np:∀a(u:MO),B a=O u.ho->G0 a=AV->G a=AV
 len:ρ.length=σ.length
 pub:∀(i:Nat) d,ρ[i]?=O (O (.pub d))->∃v,σ[i]?=O (O v)/\Rep K G v d
 own:∀(i:Nat) ds,ρ[i]?=O (O (.own ds))->∃a vs,σ[i]?=O (O (.ref a))/\B a=AV/\G a=AV/\H a=O (.lst vs)/\Reps K G vs ds
 sep:∀(i j:Nat) a ds es,ρ[i]?=O (O (.own ds))->ρ[j]?=O (O (.own es))->σ[i]?=O (O (.ref a))->σ[j]?=O (O (.ref a))->i=j
 dp:DpOk K B G H σ ρ
theorem EOk.ext{G' H':Hp}{σ:St}{ρ:Ut}(k:EOk K B G0 G H σ ρ)(e:Ext G H G' H'):EOk K B G0 G' H' σ ρ where
 bh:=k.bh.trans e.h
 gh:=e.gh
 g0:=k.g0.trans e.g
 np:=λa o q n=>e.np a o (k.bh a _ q) (k.np a o q n)
 len:=k.len
 pub:=λi d q=>let ⟨v,h1,h2⟩:=k.pub i d q;⟨v,h1,h2.mono e.g⟩
 own:=λi ds q=>let ⟨a,vs,h1,h2,h3,h4,h5⟩:=k.own i ds q;⟨a,vs,h1,h2,e.np a (.l _) h4 h3,e.h a _ h4,h5.mono e.g⟩
 sep:=k.sep
 dp:=k.dp.map (λ_ _ _ q=>⟨q,rfl⟩) (λ_ ds q=>⟨ds,q,rfl⟩) λi p d v fp q s r w n=>⟨r.mono e.g e.h,λa m=>let ⟨_,hl⟩:=r.isl a m;⟨(w a m).1,e.np a _ hl (w a m).2⟩⟩
theorem EOk.publish{σ:St}{ρ:Ut}{i:Nat}{ds:AY}(k:EOk K B G0 G H σ ρ)(h:ρ[i]?=O (O (.own ds))) :
  ∃a G',σ[i]?=O (O (.ref a))/\Same G G'/\Rep K G' (.ref a) (.list ds)/\EOk K B G0 G' H σ (ρ.set i (O (.pub (.list ds)))):=by
 obtain⟨a,vs,h1,h2,h3,h4,h5⟩:=k.own i ds h;have sg:Same G (upd G a (.lst vs)):=KT h3;have hr:Rep K (upd G a (.lst vs)) (.ref a) (.list ds):=.lst (SqL.of U8) (h5.mono sg);refine⟨a,upd G a (.lst vs),h1,sg,hr,⟨k.bh,λb u q=>?_,k.g0.trans sg,λb o q n=>?_,by rw[QY];exact k.len,λj d q=>?_,λj es q=>?_,λj l c es fs q1 q2 s1 s2=>?_,?_⟩⟩
 .by_cases z:b=a
  .subst z;rw[U8]at q;cases q;exact h4
  .rw[UZ z]at q;exact k.gh b u q
 .have z:b≠a:=λz=>by subst z;rw[h2]at q;cases q
  rw[UZ z];exact k.np b o q n
 .by_cases z:i=j
  .subst z
   have hl:i<ρ.length:=(Qr.mp h).1;rw[QJ hl]at q;cases q;exact⟨.ref a,h1,hr⟩
  .rw[Ql z]at q
   obtain⟨v,g1,g2⟩:=k.pub j d q;exact⟨v,g1,g2.mono sg⟩
 .by_cases z:i=j
  .subst z
   have hl:i<ρ.length:=(Qr.mp h).1;rw[QJ hl]at q;cases q
  .rw[Ql z]at q
   obtain⟨b,ws,g1,g2,g3,g4,g5⟩:=k.own j es q;have zb:b≠a:=λe=>z (k.sep i j a ds es h q h1 (by rw[←e];exact g1))
   exact⟨b,ws,g1,g2,by rw[UZ zb];exact g3,g4,g5.mono sg⟩
 .have nz:∀{m:Nat}{ts:AY},(ρ.set i (O (Sl.pub (.list ds))))[m]?=O (O (.own ts))->ρ[m]?=O (O (.own ts)):=λ{m ts} q=>by
   by_cases z:i=m
   .subst z
    have hl:i<ρ.length:=(Qr.mp h).1;rw[QJ hl]at q;cases q
   .rw[Ql z]at q;exact q
  exact k.sep j l c es fs (nz q1) (nz q2) s1 s2
 .have hl:i<ρ.length:=(Qr.mp h).1
  have nz:∀{m:Nat}{s:Sl},(ρ.set i (O (Sl.pub (.list ds))))[m]?=O (O s)->(∃d,s=.pub d)∨ρ[m]?=O (O s):=λ{m s} q=>by
   by_cases z:i=m
   .subst z
    rw[QJ hl]at q;cases q;exact .inl ⟨_,rfl⟩
   .rw[Ql z]at q;exact .inr q
  refine k.dp.map (λm p d q=>?_) (λm es q=>?_) λm p d v fp q s r w n=>⟨r.mono sg (.refl _),λb mb=>⟨(w b mb).1,?_⟩⟩
  .rcases nz q with ⟨_,e⟩|q
   .cases e
   .exact⟨q,rfl⟩
  .rcases nz q with ⟨_,e⟩|q
   .cases e
   .exact⟨es,q,rfl⟩
  .rw[UZ (λz=>by subst z;exact n i ds b h h1 mb)];exact(w b mb).2
inductive Res(α:Type) where
 |ok (a:α) (ρ:Ut)|bad
noncomputable abbrev M(α:Type):=Ut->Res α
noncomputable def Uu{α:Type}(a:α):M α:=λρ=>.ok a ρ
noncomputable def UG{α:Type}(o:Option α):M α:=λρ=>match o with|some a=>.ok a ρ|none=>.bad
noncomputable def UH{α β:Type}(f:M α)(k:α->M β):M β:=λρ=>match f ρ with | .ok a ρ'=>k a ρ' | .bad=>.bad
section
variable(K:Frag)(B G0:Hp)
def aft{α γ:Type}(R:Hp->γ->α->Prop)(r:Res α)(G:Hp)(σ:St)(Q:γ->Hp->Prop):Prop:=
 match r with
 |.ok d ρ'=>∀v G' H',EOk K B G0 G' H' σ ρ'->Same G G'->R G' v d->Q v H'
 |.bad=>False
noncomputable def tM{α γ:Type}(R:Hp->γ->α->Prop)(f:M α):St->Hp->(γ->Hp->Prop)->Prop:=λσ H Q=>
 ∃G ρ,EOk K B G0 G H σ ρ/\aft K B G0 R (f ρ) G σ Q
noncomputable abbrev tD(f:M D):TE:=tM K B G0 (Rep K) f
noncomputable abbrev tDs(f:M AY):TA:=tM K B G0 (Reps K) f
noncomputable abbrev tBo(f:M Bool):TT:=tM K B G0 (λ_ b c=>b=c) f
noncomputable abbrev tOi(f:M A7):TO:=tM K B G0 (λ_ b c=>b=c) f
end
section
variable{K:Frag}{B G0:Hp}{α β γ δ ε:Type}{R:Hp->γ->α->Prop}{S:Hp->δ->β->Prop}{T:Hp->ε->α->Prop}{σ:St}{H:Hp}
theorem aft.mono{r:Res α}{G G':Hp}{Q:γ->Hp->Prop}(e:Same G G')(h:aft K B G0 R r G σ Q):aft K B G0 R r G' σ Q:=by
 cases r with
 |ok d ρ=>exact λv G2 H2 k s q=>h v G2 H2 k (e.trans s) q
 |bad=>exact h
theorem aft.done{d:α}{ρ:Ut}{G G' H H':Hp}{v:γ}{Q:γ->Hp->Prop}(h:aft K B G0 R (.ok d ρ) G σ Q)(k:EOk K B G0 G H σ ρ)(e:Ext G H G' H')(r:R G' v d):Q v H':=
 h v G' H' (k.ext e) e.g r
theorem aft.now{d:α}{ρ:Ut}{G H:Hp}{v:γ}{Q:γ->Hp->Prop}(h:aft K B G0 R (.ok d ρ) G σ Q)(k:EOk K B G0 G H σ ρ)(r:R G v d):Q v H:=
 h v G H k (.refl _) r
theorem aft.opt{o:Option α}{ρ:Ut}{G:Hp}{Q:γ->Hp->Prop}(h:aft K B G0 R (UG o ρ) G σ Q):∃d,o=O d/\aft K B G0 R (.ok d ρ) G σ Q:=by
 cases o with
 |none=>exact h.elim
 |some d=>exact⟨d,rfl,h⟩
theorem tM.bind{f:M α}{k:α->M β}{Q:δ->Hp->Prop}(h:tM K B G0 S (UH f k) σ H Q) :
  tM K B G0 R f σ H (λv H1=>∃G ρ d,EOk K B G0 G H1 σ ρ/\R G v d/\aft K B G0 S (k d ρ) G σ Q):=by
 obtain⟨G,ρ,e,a⟩:=h;refine⟨G,ρ,e,?_⟩;unfold UH at a;cases q:f ρ with
 |bad=>rw[q]at a;exact a.elim
 |ok d ρ1=>rw[q]at a;exact λv G' H' e' s r=>⟨G',ρ1,d,e',r,aft.mono s a⟩
theorem tM.bind2{α' γ':Type}{R':Hp->γ'->α'->Prop}{f:M α}{g:α->M α'}{k:α->α'->M β}{Q:δ->Hp->Prop}(mo:∀G G' v d,Same G G'->R G v d->R G' v d)
  (h:tM K B G0 S (UH f λx=>UH (g x) λy=>k x y) σ H Q) :
  tM K B G0 R f σ H (λv H1=>∃x,tM K B G0 R' (g x) σ H1 λu H2=>∃G ρ y,EOk K B G0 G H2 σ ρ/\R G v x/\R' G u y/\aft K B G0 S (k x y ρ) G σ Q):=by
 obtain⟨G,ρ,e,a⟩:=tM.bind (R:=R) h;refine⟨G,ρ,e,?_⟩;cases q:f ρ with
 |bad=>rw[q]at a;exact a.elim
 |ok d ρ1=>
  rw[q]at a;intro v G' H' e' s r;obtain⟨G2,ρ2,d2,e2,r2,a2⟩:=a v G' H' e' s r;refine⟨d2,G2,ρ2,e2,?_⟩;unfold UH at a2;cases q2:g d2 ρ2 with
  |bad=>rw[q2]at a2;exact a2.elim
  |ok d3 ρ3=>rw[q2]at a2;exact λu G3 H3 e3 s3 r3=>⟨G3,ρ3,d3,e3,mo _ _ _ _ s3 r2,r3,aft.mono s3 a2⟩
end
theorem Oj{K:Frag}(G G':Hp)(v:V)(d:D)(e:Same G G')(r:Rep K G v d):Rep K G' v d:=r.mono e
theorem tM.two{K:Frag}{B G0:Hp}{β δ:Type}{S:Hp->δ->β->Prop}{σ:St}{H:Hp}{f g:M D}{k:D->D->M β}{Q:δ->Hp->Prop}{P:V->V->Hp->Prop}
  (h:tM K B G0 S (UH f λx=>UH g λy=>k x y) σ H Q)
  (i:∀v u H2 G ρ x y,EOk K B G0 G H2 σ ρ->Rep K G v x->Rep K G u y->aft K B G0 S (k x y ρ) G σ Q->P v u H2) :
  tD K B G0 f σ H (λv H1=>tD K B G0 g σ H1 λu H2=>P v u H2):=by
 obtain⟨G,ρ,e,a⟩:=tM.bind2 (R:=Rep K) (R':=Rep K) Oj h;refine⟨G,ρ,e,?_⟩;cases q:f ρ with
 |bad=>rw[q]at a;exact a.elim
 |ok d ρ1=>
  rw[q]at a;intro v G' H' e' s r;obtain⟨x,G2,ρ2,e2,a2⟩:=a v G' H' e' s r;refine⟨G2,ρ2,e2,?_⟩;cases q2:g ρ2 with
  |bad=>rw[q2]at a2;exact a2.elim
  |ok d3 ρ3=>rw[q2]at a2;intro u G3 H3 e3 s3 r3;obtain⟨G4,ρ4,y,e4,r4,r5,a5⟩:=a2 u G3 H3 e3 s3 r3;exact i v u H3 G4 ρ4 x y e4 r4 r5 a5
theorem tM.one{K:Frag}{B G0:Hp}{α β γ δ:Type}{R:Hp->γ->α->Prop}{S:Hp->δ->β->Prop}{σ:St}{H:Hp}{f:M α}{k:α->M β}{Q:δ->Hp->Prop}{P:γ->Hp->Prop}
  (h:tM K B G0 S (UH f k) σ H Q) (i:∀v H2 G ρ x,EOk K B G0 G H2 σ ρ->R G v x->aft K B G0 S (k x ρ) G σ Q->P v H2):tM K B G0 R f σ H P:=by
 obtain⟨G,ρ,e,a⟩:=tM.bind (R:=R) h;refine⟨G,ρ,e,?_⟩;cases q:f ρ with
 |bad=>rw[q]at a;exact a.elim
 |ok d ρ1=>rw[q]at a;intro v G' H' e' s r;obtain⟨G2,ρ2,d2,e2,r2,a2⟩:=a v G' H' e' s r;exact i v H' G2 ρ2 d2 e2 r2 a2
section
variable{X:Cx}{B G0:Hp}{e a b:J7}{pos:Pos}
theorem UV{t t':TE}(h:PE X e t)(i:∀σ H Q,t' σ H Q->t σ H Q):PE X e t':=λpins s σ H Q I q=>h pins s σ H Q I (i σ H Q q)
theorem ZS{t t':TT}(h:PT X e t)(i:∀σ H Q,t' σ H Q->t σ H Q):PT X e t':=λpins s σ H Q I q=>h pins s σ H Q I (i σ H Q q)
theorem paof{es:A3}{t t':TA}(h:PA X es t)(i:∀σ H Q,t' σ H Q->t σ H Q):PA X es t':=λps pins s σ H Q I q=>h ps pins s σ H Q I (i σ H Q q)
theorem poof{eo:Option J7}{t t':TO}(h:PO X eo t)(i:∀σ H Q,t' σ H Q->t σ H Q):PO X eo t':=λpins s σ H Q I q=>h pins s σ H Q I (i σ H Q q)
theorem Kt{st:Stmt}{t t':TS}(h:PS X st t)(i:∀D σ H,t' D σ H->t D σ H):PS X st t':=λpins s σ H D I q=>h pins s σ H D I (i D σ H q)
theorem Tq{st:List Stmt}{t t':TS}(h:PSs X st t)(i:∀D σ H,t' D σ H->t D σ H):PSs X st t':=λpins s σ H D I q=>h pins s σ H D I (i D σ H q)
noncomputable def Us(i:Nat):M D:=λρ=>match ρ[i]? with
 |some (O (.pub d))=>.ok d ρ
 |some (O (.own ds))=>.ok (.list ds) (ρ.set i (O (.pub (.list ds))))
 |_=>.bad
theorem Py{i:Nat}(h:PE X e (Kc i)):PE X e (tD X.K B G0 (Us i)):=UV h λσ H Q ⟨G,ρ,k,a⟩=>by
 unfold Us at a;cases q:ρ[i]? with
 |none=>rw[q]at a;exact a.elim
 |some o=>
  cases o with
  |none=>rw[q]at a;exact a.elim
  |some sl=>
   cases sl with
   |deep _ _=>rw[q]at a;exact a.elim
   |pub d=>rw[q]at a;obtain⟨v,h1,h2⟩:=k.pub i d q;exact⟨v,h1,a.now k h2⟩
   |own ds=>rw[q]at a;obtain⟨ad,G',h1,h2,h3,h4⟩:=k.publish q;exact⟨.ref ad,h1,a (.ref ad) G' H h4 h2 h3⟩
theorem TJ{v:V}{d:D}(h:PE X e (tC v))(r:∀G,Rep X.K G v d):PE X e (tD X.K B G0 (Uu d)):=UV h λσ H Q ⟨G,ρ,k,a⟩=>a.now k (r G)
theorem Gn{i:Int}{j}:PE X (.Constant (.int i) j pos) (tD X.K B G0 (Uu (.int i))):=TJ FE λ_=>.int i
theorem FV{i:Bool}{j}:PE X (.Constant (.bool i) j pos) (tD X.K B G0 (Uu (.bool i))):=TJ L0 λ_=>.bl i
theorem FT{j}:PE X (.Constant .none j pos) (tD X.K B G0 (Uu .none)):=TJ FD λ_=>.non
theorem Gm{x:Str}{j}:PE X (.Constant (.str x) j pos) (tD X.K B G0 (Uu (.str x))):=TJ TM λ_=>.str x
noncomputable def UB{β:Type}(op:D->D->Option β)(f g:M D):M β:=UH f λx=>UH g λy=>UG (op x y)
def OpD(X:Cx)(f:JZ->JZ->Sem JZ)(op:D->D->A4):Prop:=
 ∃r:R2,OpR X f r/\∀v u G H x y d Q,Same G H->Rep X.K G v x->Rep X.K G u y->op x y=O d->(∀w G' H',Ext G H G' H'->Rep X.K G' w d->Q w H')->r v u H Q
theorem WD{op:Operator}{p:D->D->A4}{f g:M D}(o:OpD X (binaryOp op) p)(ha:PE X a (tD X.K B G0 f))(hb:PE X b (tD X.K B G0 g)):PE X (.BinOp a op b pos) (tD X.K B G0 (UB p f g)):=by
 obtain⟨r,h,i⟩:=o;refine UV (R8 h ha hb) λσ H Q q=>?_;refine tM.two q λv u H2 G ρ x y k rx ry a=>?_
 obtain⟨d,e,a⟩:=a.opt;exact i v u G H2 x y d Q k.gh rx ry e λw G' H' ex rw=>a.done k ex rw
theorem OpD.or{f:JZ->JZ->Sem JZ}{p q:D->D->A4}(h:OpD X f p)(h':OpD X f q):OpD X f (λx y=>(p x y).orElse λ_=>q x y):=by
 obtain⟨r,h1,i1⟩:=h;obtain⟨r',h2,i2⟩:=h';refine⟨_,h1.or h2,λv u G H x y d Q s rx ry e k=>?_⟩;dsimp only at e;cases z:p x y with
 |some d'=>rw[z]at e;have e':d'=d:=Jb e;subst e';exact .inl (i1 v u G H x y d' Q s rx ry z k)
 |none=>rw[z]at e;exact .inr (i2 v u G H x y d Q s rx ry e k)
noncomputable def oII(g:Int->Int->A4):D->D->A4
 |.int i,.int j=>g i j
 |_,_=>AV
theorem Oi{g:Int->Int->A4}{x y d:D}(e:oII g x y=O d):∃i j,x=.int i/\y=.int j/\g i j=O d:=by
 unfold oII at e;split at e
 .exact⟨_,_,rfl,rfl,e⟩
 .cases e
theorem OpD.int{f:JZ->JZ->Sem JZ}{C:Int->Int->Prop}{g:Int->Int->V}{p:Int->Int->A4}(h:OpR X f (rI C g))(i:∀i j d,p i j=O d->C i j/\∀G,Rep X.K G (g i j) d):OpD X f (oII p):=by refine⟨_,h,λv u G H x y d Q s rx ry e k=>?_⟩;obtain⟨a,b,rfl,rfl,e⟩:=Oi e;obtain⟨c,r⟩:=i a b d e;exact⟨a,b,rx.int_inv,ry.int_inv,c,k _ G H (.refl s) (r G)⟩
theorem OpD.int0{f:JZ->JZ->Sem JZ}{g:Int->Int->V}{p:Int->Int->D}(h:OpR X f (rI0 g))(i:∀i j G,Rep X.K G (g i j) (p i j)):OpD X f (oII λi j=>O (p i j)):=by refine⟨_,h,λv u G H x y d Q s rx ry e k=>?_⟩;obtain⟨a,b,rfl,rfl,e⟩:=Oi e;cases e;exact⟨a,b,rx.int_inv,ry.int_inv,k _ G H (.refl s) (i a b G)⟩
end
section
variable{X:Cx}{B G0:Hp}{e a b c:J7}{pos:Pos}
theorem Gk:OpD X (binaryOp .Add) (oII λi j=>O (.int (i+j))):=.int0 HL λ_ _ _=>.int _
theorem Gj:OpD X (binaryOp .Sub) (oII λi j=>O (.int (i-j))):=.int0 HK λ_ _ _=>.int _
noncomputable def YW(i j:Int):A4:=if(-(2 ^ 64)<i/\i<2 ^ 64)∨(-(2 ^ 64)<j/\j<2 ^ 64)then O (.int (i*j))else AV
theorem FS:OpD X (binaryOp .Mult) (oII YW):=.int HJ λi j d h=>by
 unfold YW at h;split at h
 .rename_i c
  cases h;exact⟨c,λ_=>.int _⟩
 .cases h
noncomputable def XT(i j:Int):A4:=if 0<j then O (.int (i % j))else AV
theorem Gi:OpD X (binaryOp .Mod) (oII XT):=.int HI λi j d h=>by
 unfold XT at h;split at h
 .rename_i c
  cases h;exact⟨c,λ_=>.int _⟩
 .cases h
theorem Do:OpR X (binaryOp .FloorDiv) (rI (λi j=>0<j/\j<2 ^ 200) λi j=>.int (i / j)):=opI λi j _ _ _ _ _ hc q=>by
 have h1:(0:Int)<j:=hc.1;have h2:j<2 ^ 200:=hc.2;refine floordiv_int (by lia) (by rw[Int.fdiv_eq_ediv_of_nonneg i (by lia)];exact q) (.inl (PyProof.noPylong_of_log2 ?_));have h0:j.natAbs≠0:=by lia
 have:j.natAbs.log2<200:=(Nat.log2_lt h0).mpr (by lia)
 lia
noncomputable def XU(i j:Int):A4:=if 0<j/\j<2 ^ 200 then O (.int (i / j))else AV
theorem Gh:OpD X (binaryOp .FloorDiv) (oII XU):=.int Do λi j d h=>by
 unfold XU at h;split at h
 .rename_i c
  cases h;exact⟨c,λ_=>.int _⟩
 .cases h
noncomputable def XQ(i j:Int):A4:=if 0<=j/\j<=1000000/\i.natAbs<2 ^ 64 then O (.int (i ^ j.toNat))else AV
theorem Gg:OpD X (binaryOp .Pow) (oII XQ):=.int HH λi j d h=>by
 unfold XQ at h;split at h
 .rename_i c
  cases h;exact⟨c,λ_=>.int _⟩
 .cases h
theorem lim:(1000000:Nat)<=J8:=by decide
noncomputable def Tp:D->D->A4
 |.str x,.str y=>if x.length+y.length<=1000000 then O (.str (x++y))else AV
 |_,_=>AV
theorem FR:OpD X (binaryOp .Add) Tp:=by
 refine⟨_,Ac,λv u G H x y d Q s rx ry e k=>?_⟩;unfold Tp at e;split at e
 .split at e
  .rename_i c
   cases e;exact⟨_,_,rx.str_inv,ry.str_inv,Qv c lim,k _ G H (.refl s) (.str _)⟩
  .cases e
 .cases e
noncomputable def M8(K:Frag):R2:=λx y H Q=>∃l b xs zs,x=.ref l/\y=.ref b/\SqL K H l xs/\SqL K H b zs/\xs.length+zs.length<=J8/\∀p,H p=AV->Q (.ref p) (upd H p (.lst (xs++zs)))
theorem Oh:OpR X (binaryOp .Add) (M8 X.K):=by
 intro pins s σ H x y v u Q I rx ry h;obtain⟨l,b,xs,zs,rfl,rfl,hH,hB,hz,q⟩:=h;cases rx;cases ry;obtain⟨its,r,⟨⟨c1,d1,t1,s1⟩,n1,e1,jL,jK,jJ⟩,z1⟩:=I.list hH;obtain⟨its2,r2,⟨⟨c2,d2,t2,s2⟩,n2,e2,ec2,ed2,et2⟩,z2⟩:=I.list hB;simp only at jL jK jJ ec2 ed2 et2;subst jL jK jJ ec2 ed2 et2;have hl:=r.length;have hl2:=r2.length;refine concat_meets ⟨_,e1,rfl⟩ ⟨_,e2,rfl⟩ noFill_list_add seq_list_add PySem.F.slot_list_add PySem.F.entry_list_add (PySem.F.args_list_add_2 _ _) (list_addW l b its.toArray its2.toArray n1 n2 AV AV s1 s2 (by rw[QL,QL];lia)) ⟨e1,e2,?_⟩;have ea:its.toArray++its2.toArray=(its++its2).toArray:=by simp
 rw[ea];exact⟨.ref _,_,I.lnew (t':=s.toks) (r.append r2) (by rw[Qk];lia),rfl,q _ I.fresh⟩
theorem M7(a:Int)(t:Tok)(l:J5)(items:Array JZ)(n:Nat)(sl:Array A1) :
  Meets (Builtin.«int.__rmul__» ⟨[.int a t,.ref l],[]⟩) (λ_ R s=>s.heap.get? l=O {cls:=.type "list", dict:=AV,data:=.seq items n,slots:=sl}/\R (.ok (.ret Value.notImplemented)) s):=
 .of_wp λprog w A R s h=>by obtain⟨hp,g,d,tk,os⟩:=s;obtain⟨hl,h⟩:=h;wp_walk;exact⟨_,rfl,h⟩
theorem mulW(l:J5)(items:Array JZ)(n:Nat)(x:Int)(u:Tok)(sl:Array A1)(hc0:¬(!Builtin.List.listFitsIndex x)=AW)(hc1:¬items.size*x.toNat > (2 ^ 63-1) / 8)(hc2:¬Builtin.List.listTooLong (items.size*x.toNat)=AW) :
  Meets (Builtin.«list.__mul__» ⟨[.ref l,.int x u],[]⟩) (λ_ R s=>s.heap.get? l=O {cls:=.type "list", dict:=AV,data:=.seq items n,slots:=sl}/\R (.ok (.ret (Value.ref s.heap.objs.size))) {s with heap:=s.heap.push {cls:=Value.type "list", data:=Data.seq (List.foldl (λx1 x2=>x1++x2) #[] (Ud (if items.isEmpty=AW then 0 else x.toNat) items))},toks:=s.toks}):=
 .of_wp λprog w A R s h=>by
  obtain⟨hp,g,d,tk,os⟩:=s;obtain⟨hl,h⟩:=h;have hsz:=AutoListH.joined_fits hc2
  wp_walk;refine wpAny_ite_false (QC (Nat.not_lt.mpr hsz)) ?_;wp_walk;exact⟨_,rfl,h⟩
noncomputable def M6(K:Frag):R2:=λx y H Q=>∃l k xs,x=.ref l/\y=.int k/\SqL K H l xs /\ -(2 ^ 63)<=k/\k<2 ^ 63/\xs.length*k.toNat<=J8 /\
 ∀p,H p=AV->Q (.ref p) (upd H p (.lst (Ud k.toNat xs).flatten))
theorem FQ:OpR X (binaryOp .Mult) (M6 X.K):=by
 intro pins s σ H x y v u Q I rx ry h;obtain⟨l,k,xs,rfl,rfl,hH,h1,h2,hz,q⟩:=h;cases rx;obtain⟨t,rfl⟩:=ry;obtain⟨its,r,⟨⟨c1,d1,t1,sl⟩,n,e,jL,jK,jJ⟩,z⟩:=I.list hH;simp only at jL jK jJ;subst jL jK jJ;have hl:=r.length;have hlen:its.toArray.size*k.toNat<=J8:=by rw[QL,←hl];exact hz
 have hcap:¬its.toArray.size*k.toNat > (2 ^ 63-1) / 8:=by
  have:(J8:Nat)<=(2 ^ 63-1) / 8:=by decide
  lia
 have hfit:¬(!Builtin.List.listFitsIndex k)=AW:=by rw[fitsIndex_both h1 h2];exact Bool.false_ne_true
 have jC:¬Builtin.List.listTooLong (its.toArray.size*k.toNat)=AW:=by rw[Dz hlen];exact Bool.false_ne_true
 have hnew:List.foldl (λx1 x2=>x1++x2) #[] (Ud (if its.toArray.isEmpty=AW then 0 else k.toNat) its.toArray)=(Ud k.toNat its).flatten.toArray:=by
  have f0:∀m:Nat,List.foldl (λx1 x2=>x1++x2) #[] (Ud m its.toArray)=(Ud m its).flatten.toArray:=λm=>by have:=NE its m [];rw[Jk]at this;exact this
  rw[f0];cases its with
  |nil=>simp
  |cons a r'=>rw[if_neg (by simp)]
 refine wpAny_binaryOp_repeat_ref (T:= "list") (U:= "int") (by decide) ⟨_,e,rfl⟩ (λs'=>typeIs_int s' k t) noFill_list_mul F.fills_int_mul F.slot_int_rmul repeat_list F.slot_int_index.lookup
  (call_meets F.slot_int_rmul (typeIs_int s k t) F.entry_int_rmul (F.args_int_rmul_2 _ _) (M7 k t l its.toArray n sl)
   ⟨e,rfl,⟨_,e,rfl⟩,call_meets F.slot_list_mul ⟨_,e,rfl⟩ F.entry_list_mul (F.args_list_mul_2 _ _) (mulW l its.toArray n k t sl hfit hcap jC) ⟨e,?_⟩⟩)
 rw[hnew];exact⟨.ref _,_,I.lnew (t':=s.toks) (r.rep k.toNat) (by rw[F4,Nat.mul_comm];exact hz),rfl,q _ I.fresh⟩
noncomputable def To:D->D->A4
 |.list x,.list y=>if x.length+y.length<=1000000 then O (.list (x++y))else AV
 |_,_=>AV
theorem FP:OpD X (binaryOp .Add) To:=by
 refine⟨_,Oh,λv u G H x y d Q s rx ry e k=>?_⟩;unfold To at e;split at e
 .split at e
  .rename_i c
   cases e;obtain⟨l,vs,rfl,h1,r1⟩:=rx.lst_inv;obtain⟨b,ws,rfl,h2,r2⟩:=ry.lst_inv;refine⟨l,b,vs,ws,rfl,rfl,s.seq h1,s.seq h2,by rw[r1.length,r2.length];exact Qv c lim,λp hp=>k _ _ _ (Ext.new s hp) ?_⟩;exact .lst (SqL.of U8) ((r1.append r2).mono (KT (s.free hp)))
  .cases e
 .cases e
theorem Reps.rep{K:Frag}{G:Hp}{vs:List V}{ds:AY}(r:Reps K G vs ds):∀n:Nat,Reps K G (Ud n vs).flatten (Ud n ds).flatten
 |0=>.nil
 |n+1=>by rw[Q9,Q9,QH,QH];exact r.append (r.rep n)
noncomputable def Tn:D->D->A4
 |.list x,.int k=>if -1000000<=k/\k<=1000000/\x.length*k.toNat<=1000000 then O (.list (Ud k.toNat x).flatten)else AV
 |_,_=>AV
theorem FO:OpD X (binaryOp .Mult) Tn:=by
 refine⟨_,FQ,λv u G H x y d Q s rx ry e k=>?_⟩;unfold Tn at e;split at e
 .split at e
  .rename_i c
   cases e;obtain⟨l,vs,rfl,h1,r1⟩:=rx.lst_inv;refine⟨l,_,vs,rfl,ry.int_inv,s.seq h1,by lia,by lia,by rw[r1.length];exact Qv c.2.2 lim,λp hp=>k _ _ _ (Ext.new s hp) ?_⟩;exact .lst (SqL.of U8) ((r1.rep _).mono (KT (s.free hp)))
  .cases e
 .cases e
noncomputable def UJ:D->D->A4
 |.int i,.int j=>O (.int (i+j))
 |.str x,.str y=>if x.length+y.length<=1000000 then O (.str (x++y))else AV
 |.list x,.list y=>if x.length+y.length<=1000000 then O (.list (x++y))else AV
 |_,_=>AV
noncomputable def XA:D->D->A4
 |.int i,.int j=>O (.int (i-j))
 |_,_=>AV
noncomputable def U9:D->D->A4
 |.int i,.int j=>YW i j
 |.list x,.int k=>if -1000000<=k/\k<=1000000/\x.length*k.toNat<=1000000 then O (.list (Ud k.toNat x).flatten)else AV
 |_,_=>AV
noncomputable def KD:D->D->A4
 |.int i,.int j=>XT i j
 |_,_=>AV
noncomputable def Yn:D->D->A4
 |.int i,.int j=>XU i j
 |_,_=>AV
noncomputable def YS:D->D->A4
 |.int i,.int j=>XQ i j
 |_,_=>AV
theorem OpD.congr{f:JZ->JZ->Sem JZ}{p q:D->D->A4}(h:OpD X f p)(e:∀x y,q x y=p x y):OpD X f q:=by
 have:q=p:=by funext x y;exact e x y
 rw[this];exact h
theorem Pc:OpD X (binaryOp .Add) UJ:=(Gk.or (FR.or FP)).congr λx y=>by cases x<;>cases y<;>first|rfl|(simp only[UJ,oII,Tp,To,Option.orElse];done)|(simp only[UJ,oII,Tp,To,Option.orElse];split<;>rfl)
theorem M5:OpD X (binaryOp .Sub) XA:=Gj.congr λx y=>by cases x<;>cases y<;>rfl
theorem Pb:OpD X (binaryOp .Mult) U9:=(FS.or FO).congr λx y=>by cases x<;>cases y<;>first|rfl|(simp only[U9,oII,Tn,Option.orElse];done)|(simp only[U9,oII,Tn,Option.orElse];split<;>first|rfl|assumption)
theorem M4:OpD X (binaryOp .Mod) KD:=Gi.congr λx y=>by cases x<;>cases y<;>rfl
theorem M0:OpD X (binaryOp .FloorDiv) Yn:=Gh.congr λx y=>by cases x<;>cases y<;>rfl
theorem MZ:OpD X (binaryOp .Pow) YS:=Gg.congr λx y=>by cases x<;>cases y<;>rfl
end
section
variable{X:Cx}{B G0:Hp}{e a b c:J7}{pos:Pos}
def OpB(X:Cx)(f:JZ->JZ->Sem JZ)(op:D->D->A9):Prop:=
 ∃r:R2,OpR X f r/\∀v u G H x y d Q,Same G H->Rep X.K G v x->Rep X.K G u y->op x y=O d->Q (.bl d) H->r v u H Q
theorem OpB.or{f:JZ->JZ->Sem JZ}{p q:D->D->A9}(h:OpB X f p)(h':OpB X f q):OpB X f (λx y=>(p x y).orElse λ_=>q x y):=by
 obtain⟨r,h1,i1⟩:=h;obtain⟨r',h2,i2⟩:=h';refine⟨_,h1.or h2,λv u G H x y d Q s rx ry e k=>?_⟩;dsimp only at e;cases z:p x y with
 |some d'=>rw[z]at e;have e':d'=d:=Jb e;subst e';exact .inl (i1 v u G H x y d' Q s rx ry z k)
 |none=>rw[z]at e;exact .inr (i2 v u G H x y d Q s rx ry e k)
theorem OpB.congr{f:JZ->JZ->Sem JZ}{p q:D->D->A9}(h:OpB X f p)(e:∀x y,q x y=p x y):OpB X f q:=by
 have:q=p:=by funext x y;exact e x y
 rw[this];exact h
theorem FN{op:CmpOp}{p:D->D->A9}{f g:M D}(o:OpB X (Ub op) p)(ha:PE X a (tD X.K B G0 f))(hb:PE X b (tD X.K B G0 g))(hm:behindInMarks op b=AX) :
  PT X (.Compare a [op] [b] pos) (tBo X.K B G0 (UB p f g)):=by
 obtain⟨r,h,i⟩:=o;refine ZS (OB h ha hb hm) λσ H Q q=>?_;refine tM.two q λv u H2 G ρ x y k rx ry a=>?_
 obtain⟨d,e,a⟩:=a.opt;exact i v u G H2 x y d _ k.gh rx ry e ⟨d,rfl,a.now k AU⟩
noncomputable def UE{α β:Type}(h:α->β)(f:M α):M β:=UH f λx=>Uu (h x)
theorem tM.map{K:Frag}{α β γ δ:Type}{R:Hp->γ->α->Prop}{S:Hp->δ->β->Prop}{σ:St}{H:Hp}{h:α->β}{f:M α}{Q:δ->Hp->Prop}(j:γ->δ)(q:tM K B G0 S (UE h f) σ H Q)
  (i:∀G v x,R G v x->S G (j v) (h x)):tM K B G0 R f σ H (λv H'=>Q (j v) H'):=
 tM.one (R:=R) (f:=f) q λv H2 G ρ x k r a=>aft.now (show aft K B G0 S (.ok (h x) ρ) G σ Q from a) k (i G v x r)
theorem tBo.val{K:Frag}{σ:St}{H:Hp}{f:M Bool}{Q:VK}(q:tD K B G0 (UE Uf f) σ H Q):tBo K B G0 f σ H (λb H'=>Q (.bl b) H'):=
 tM.map (R:=λ_ b c=>b=c) V.bl q λG v x e=>by rw[e];exact .bl x
theorem FM{op:CmpOp}{p:D->D->A9}{f g:M D}(o:OpB X (Ub op) p)(ha:PE X a (tD X.K B G0 f))(hb:PE X b (tD X.K B G0 g))(hm:behindInMarks op b=AX) :
  PE X (.Compare a [op] [b] pos) (tD X.K B G0 (UE Uf (UB p f g))):=by
 obtain⟨r,h,i⟩:=o;refine UV (Ow h ha hb hm) λσ H Q q=>?_;refine tM.two (tBo.val q) λv u H2 G ρ x y k rx ry a=>?_
 obtain⟨d,e,a⟩:=a.opt;exact i v u G H2 x y d _ k.gh rx ry e (a.now k AU)
noncomputable def Xn(p q:D->D->A9)(f g h:M D):M Bool:=UH f λx=>UH g λy=>UH (UG (p x y)) λt=>if t=AW then UH h λz=>UG (q y z)else Uu AX
theorem CP{op op':CmpOp}{p q:D->D->A9}{f g h:M D}(o:OpB X (Ub op) p)(o':OpB X (Ub op') q)(ha:PE X a (tD X.K B G0 f))(hb:PE X b (tD X.K B G0 g))(hc:PE X c (tD X.K B G0 h))
  (hm:lastMarks [op,op'] [b,c]=AX:=by with_unfolding_all rfl):PT X (.Compare a [op,op'] [b,c] pos) (tBo X.K B G0 (Xn p q f g h)):=by
 obtain⟨r,h1,i⟩:=o;obtain⟨r',h2,i'⟩:=o';refine ZS (DB h1 h2 ha hb hc hm) λσ H Q w=>?_;refine tM.two w λv u H2 G ρ x y k rx ry a=>?_
 cases z:p x y with
 |none=>rw[z]at a;exact a.elim
 |some t=>
  rw[z]at a;refine i v u G H2 x y t _ k.gh rx ry z ⟨t,rfl,?_⟩;cases t with
  |false=>rw[QD Bool.false_ne_true];exact⟨AX,rfl,aft.now a k AU⟩
  |true=>
   rw[Qn AU];refine⟨G,ρ,k,?_⟩;have a4:aft X.K B G0 (λ_ (b:Bool) c=>b=c) ((UH h λz=>UG (q y z)) ρ) G σ Q:=a;unfold UH at a4;cases z2:h ρ with
   |bad=>rw[z2]at a4;exact a4.elim
   |ok d ρ1=>rw[z2]at a4;intro w G5 H5 k5 s5 r5;obtain⟨t2,e2,a6⟩:=a4.opt;exact i' u w G5 H5 y d t2 _ k5.gh (ry.mono s5) r5 e2 ⟨t2,rfl,a6 t2 G5 H5 k5 s5 AU⟩
theorem CO{op op':CmpOp}{p q:D->D->A9}{f g h:M D}(o:OpB X (Ub op) p)(o':OpB X (Ub op') q)(ha:PE X a (tD X.K B G0 f))(hb:PE X b (tD X.K B G0 g))(hc:PE X c (tD X.K B G0 h))
  (hm:lastMarks [op,op'] [b,c]=AX:=by with_unfolding_all rfl):PE X (.Compare a [op,op'] [b,c] pos) (tD X.K B G0 (UE Uf (Xn p q f g h))):=by
 obtain⟨r,h1,i⟩:=o;obtain⟨r',h2,i'⟩:=o';refine UV (DC h1 h2 ha hb hc hm) λσ H Q w=>?_;refine tM.two (tBo.val w) λv u H2 G ρ x y k rx ry a=>?_
 cases z:p x y with
 |none=>rw[z]at a;exact a.elim
 |some t=>
  rw[z]at a;refine i v u G H2 x y t _ k.gh rx ry z ⟨t,rfl,?_⟩;cases t with
  |false=>rw[QD Bool.false_ne_true];exact aft.now (v:=AX) a k AU
  |true=>
   rw[Qn AU];refine⟨G,ρ,k,?_⟩;have a4:aft X.K B G0 (λ_ (b:Bool) c=>b=c) ((UH h λz=>UG (q y z)) ρ) G σ (λb H'=>Q (.bl b) H'):=a;unfold UH at a4;cases z2:h ρ with
   |bad=>rw[z2]at a4;exact a4.elim
   |ok d ρ1=>rw[z2]at a4;intro w G5 H5 k5 s5 r5;obtain⟨t2,e2,a6⟩:=a4.opt;exact i' u w G5 H5 y d t2 _ k5.gh (ry.mono s5) r5 e2 (a6 t2 G5 H5 k5 s5 AU)
noncomputable def oIB(g:Int->Int->Bool):D->D->A9
 |.int i,.int j=>O (g i j)
 |_,_=>AV
theorem OpB.int{f:JZ->JZ->Sem JZ}{g:Int->Int->Bool}(h:OpR X f (rI0 λi j=>.bl (g i j))):OpB X f (oIB g):=by
 refine⟨_,h,λv u G H x y d Q s rx ry e k=>?_⟩;unfold oIB at e;split at e
 .cases e
  exact⟨_,_,rx.int_inv,ry.int_inv,k⟩
 .cases e
theorem B_lt:OpB X (Ub .Lt) (oIB λi j=>decide (i<j)):=.int Hq
theorem B_le:OpB X (Ub .LtE) (oIB λi j=>decide (i<=j)):=.int Hn
theorem B_gt:OpB X (Ub .Gt) (oIB λi j=>decide (j<i)):=.int Hm
theorem B_ge:OpB X (Ub .GtE) (oIB λi j=>decide (j<=i)):=.int Hl
mutual
theorem Xx{pins:List (J5×Obj)}{s:J0}{σ:St}{G H:Hp}(I:Inv X pins σ H s)(sg:Same G H):∀{v:V}{d:D}{u:JZ},Rep X.K G v d->RelV v u->d.canLay0=AW->∃as,Reads s.heap u d as
 |_,_,_,.non,r,_=>by cases r;exact⟨_,.none⟩
 |_,_,_,.bl b,r,_=>by cases r;exact⟨_,.bool b⟩
 |_,_,_,.int i,r,_=>by obtain⟨t,rfl⟩:=r;exact⟨_,.int i t⟩
 |_,_,_,.str x,r,_=>by obtain⟨t,rfl⟩:=r;exact⟨_,.str x t⟩
 |_,_,_,.lst h q,r,c=>by cases r;obtain⟨its,rv,⟨o,n,e,hc,_,hd⟩,hz⟩:=I.list (sg.seq h);obtain⟨as,ra⟩:=readsAll_of I sg q rv (show Ui _=AW by simpa[PyData.canLay0]using c);exact⟨_,.list e hc hd (by simpa using ra)⟩
 |_,_,_,.tup h q,r,c=>by cases r;obtain⟨its,rv,p,hz⟩:=I.tuple (ZJ sg h);obtain⟨o,e,hc,n,hd⟩:=p;obtain⟨as,ra⟩:=readsAll_of I sg q rv (show Ui _=AW by simpa[PyData.canLay0]using c);exact⟨_,.tuple e hc hd (by simpa using ra)⟩
 |_,_,_,.dic h,r,c=>by simp[PyData.canLay0]at c
 |_,_,_,.exc _ _ _ _,r,c=>by simp[PyData.canLay0]at c
 |_,_,_,.dct _ _ _ _ _,r,c=>by simp[PyData.canLay0]at c
 |_,_,_,.dtt _ _ _ _,r,c=>by simp[PyData.canLay0]at c
theorem readsAll_of{pins:List (J5×Obj)}{s:J0}{σ:St}{G H:Hp}(I:Inv X pins σ H s)(sg:Same G H):∀{vs:List V}{ds:AY}{us:AZ},Reps X.K G vs ds->Vals vs us->Ui ds=AW->∃as,ReadsAll s.heap us ds as
 |_,_,_,.nil,r,_=>by cases r;exact⟨_,.nil⟩
 |_,_,_,.cons h t,r,c=>by
  cases r with
  |cons r1 r2=>have c':=c;rw[Ui,Qm]at c';obtain⟨as,ra⟩:=Xx I sg h r1 c'.1;obtain⟨bs,rb⟩:=readsAll_of I sg t r2 c'.2;exact⟨_,.cons ra rb⟩
end
noncomputable def oEq(x y:D):A9:=if x.canLay0=AW/\y.canLay0=AW/\x.depth<=60 then O (Uk x y)else AV
noncomputable def oNe(x y:D):A9:=if x.canLay0=AW/\y.canLay0=AW/\x.depth<=60 then O (!Uk x y)else AV
theorem B_eq(hu:X.A.units+64<cLine):OpB X (Ub .Eq) oEq:=by
 refine⟨λv u H Q=>∃G x y d,Same G H/\Rep X.K G v x/\Rep X.K G u y/\oEq x y=O d/\Q (.bl d) H,?_,λv u G H x y d Q s rx ry e k=>⟨G,x,y,d,s,rx,ry,e,k⟩⟩;intro pins s σ H x y v u Q I rx ry ⟨G,dx,dy,d,sg,px,py,e,q⟩;unfold oEq at e;split at e
 .rename_i c
  cases e;obtain⟨as,ra⟩:=Xx I sg px rx c.1;obtain⟨bs,rb⟩:=Xx I sg py ry c.2.1;exact SeqAt.compareEq_reads ra rb c.1 c.2.1 (by have:=c.2.2;lia) ⟨.bl _,H,I,rfl,q⟩
 .cases e
theorem B_ne(hu:X.A.units+64<cLine):OpB X (Ub .NotEq) oNe:=by
 refine⟨λv u H Q=>∃G x y d,Same G H/\Rep X.K G v x/\Rep X.K G u y/\oNe x y=O d/\Q (.bl d) H,?_,λv u G H x y d Q s rx ry e k=>⟨G,x,y,d,s,rx,ry,e,k⟩⟩;intro pins s σ H x y v u Q I rx ry ⟨G,dx,dy,d,sg,px,py,e,q⟩;unfold oNe at e;split at e
 .rename_i c
  cases e;obtain⟨as,ra⟩:=Xx I sg px rx c.1;obtain⟨bs,rb⟩:=Xx I sg py ry c.2.1;exact SeqAt.compareNe_reads ra rb c.1 c.2.1 (by have:=c.2.2;lia) ⟨.bl _,H,I,rfl,q⟩
 .cases e
noncomputable def isNon:D->Bool
 |.none=>AW
 |_=>AX
theorem Rep.isNon{K:Frag}{G:Hp}{v:V}{d:D}(r:Rep K G v d):DL.isNon d=decide (v=.non):=by cases r<;>simp[DL.isNon]
end
section
variable{X:Cx}{B G0:Hp}{e a b c:J7}{pos:Pos}{es rest:A3}
theorem tM.nx{K:Frag}{α β γ δ:Type}{R:Hp->γ->α->Prop}{S:Hp->δ->β->Prop}{σ:St}{G H:Hp}{ρ:Ut}{f:M α}{g:α->M β}{Q:δ->Hp->Prop}{P:γ->Hp->Prop}
  (k:EOk K B G0 G H σ ρ) (a:aft K B G0 S (UH f g ρ) G σ Q) (i:∀v H' G' ρ' x,EOk K B G0 G' H' σ ρ'->Same G G'->R G' v x->aft K B G0 S (g x ρ') G' σ Q->P v H'):tM K B G0 R f σ H P:=by
 refine⟨G,ρ,k,?_⟩;unfold UH at a;cases q:f ρ with
 |bad=>rw[q]at a;exact a.elim
 |ok d ρ1=>rw[q]at a;exact λv G' H' e s r=>i v H' G' ρ1 d e s r (aft.mono s a)
noncomputable def Zq(f g:M Bool):M Bool:=UH f λt=>if t=AW then g else Uu AX
noncomputable def mOr(f g:M Bool):M Bool:=UH f λt=>if t=AW then Uu AW else g
noncomputable def U3(f:M Bool):M Bool:=UE (λt=>!t) f
theorem FL{K:Frag}{f g:M Bool}{σ:St}{H:Hp}{Q:Bool->Hp->Prop}(q:tBo K B G0 (Zq f g) σ H Q):tAnd (tBo K B G0 f) (tBo K B G0 g) σ H Q:=
 tM.one (R:=λ_ b c=>b=c) q λv H2 G ρ x k r a=>by
  have r:v=x:=r;subst r;cases v with
  |true=>exact⟨G,ρ,k,a⟩
  |false=>exact aft.now (v:=AX) a k AU
theorem Ge{K:Frag}{f g:M Bool}{σ:St}{H:Hp}{Q:Bool->Hp->Prop}(q:tBo K B G0 (mOr f g) σ H Q):tOr (tBo K B G0 f) (tBo K B G0 g) σ H Q:=
 tM.one (R:=λ_ b c=>b=c) q λv H2 G ρ x k r a=>by
  have r:v=x:=r;subst r;cases v with
  |false=>exact⟨G,ρ,k,a⟩
  |true=>exact aft.now (v:=AW) a k AU
theorem pwof{t t':TT}(h:PW X e t)(i:∀σ H Q,t' σ H Q->t σ H Q):PW X e t':=λwh pins s σ H Q I q=>h wh pins s σ H Q I (i σ H Q q)
theorem Dm{f:M Bool}(ha:PT X a (tBo X.K B G0 f)):PW X (.BoolOp .And [a] pos) (tBo X.K B G0 f):=Dj ha
theorem FJ{f:M Bool}(ha:PT X a (tBo X.K B G0 f)):PW X (.BoolOp .Or [a] pos) (tBo X.K B G0 f):=Fx ha
theorem FI{f g:M Bool}(ha:PT X a (tBo X.K B G0 f))(hb:PW X (.BoolOp .And (b::rest) pos) (tBo X.K B G0 g)):PW X (.BoolOp .And (a::b::rest) pos) (tBo X.K B G0 (Zq f g)):=pwof (Fw ha hb) λ_ _ _ q=>FL q
theorem Gd{f g:M Bool}(ha:PT X a (tBo X.K B G0 f))(hb:PW X (.BoolOp .Or (b::rest) pos) (tBo X.K B G0 g)):PW X (.BoolOp .Or (a::b::rest) pos) (tBo X.K B G0 (mOr f g)):=pwof (LY ha hb) λ_ _ _ q=>Ge q
theorem FH{f:M Bool}(ha:PT X a (tBo X.K B G0 f)):PT X (.UnaryOp .Not a pos) (tBo X.K B G0 (U3 f)):=ZS (Fv ha) λσ H Q q=>tM.map (R:=λ_ b c=>b=c) (λt=>!t) q λ_ v x e=>by rw[e]
noncomputable def KM(f:M D):M Bool:=UH f λx=>match x with | .bool t=>Uu t|_=>λ_=>.bad
theorem FG{f:M D}(h:PE X e (tD X.K B G0 f))(he:∀whole,isTrue e X.env whole=(do let v ←whole;standAt e.pos;holding [v] (truthy v)):=by intro _;rfl):PT X e (tBo X.K B G0 (KM f)):=
 ZS (Fy h he) λσ H Q q=>tM.one (R:=Rep X.K) q λv H2 G ρ x k r a=>by
  cases x with
  |bool t=>exact⟨t,r.bl_inv,aft.now (v:=t) a k AU⟩
  |_=>exact a.elim
noncomputable def Yb(f g:M D):M D:=UH f λx=>match x with | .bool AW=>g | .bool AX=>Uu (.bool AX)|_=>λ_=>.bad
noncomputable def YU(f g:M D):M D:=UH f λx=>match x with | .bool AW=>Uu (.bool AW) | .bool AX=>g|_=>λ_=>.bad
noncomputable def Vn(f:M D):M D:=UH f λx=>match x with | .bool t=>Uu (.bool (!t))|_=>λ_=>.bad
theorem Ev{f g:M D}(ha:PE X a (tD X.K B G0 f))(hb:PE X (.BoolOp .And (b::rest) pos) (tD X.K B G0 g)):PE X (.BoolOp .And (a::b::rest) pos) (tD X.K B G0 (Yb f g)):=
 UV (HR ha hb) λσ H Q q=>tM.one (R:=Rep X.K) q λv H2 G ρ x k r a=>by
  cases x with
  |bool t=>
   refine⟨t,r.bl_inv,?_⟩;cases t with
   |true=>exact⟨G,ρ,k,a⟩
   |false=>exact aft.now a k (.bl AX)
  |_=>exact a.elim
theorem Gc{f g:M D}(ha:PE X a (tD X.K B G0 f))(hb:PE X (.BoolOp .Or (b::rest) pos) (tD X.K B G0 g)):PE X (.BoolOp .Or (a::b::rest) pos) (tD X.K B G0 (YU f g)):=
 UV (LV ha hb) λσ H Q q=>tM.one (R:=Rep X.K) q λv H2 G ρ x k r a=>by
  cases x with
  |bool t=>
   refine⟨t,r.bl_inv,?_⟩;cases t with
   |false=>exact⟨G,ρ,k,a⟩
   |true=>exact aft.now a k (.bl AW)
  |_=>exact a.elim
theorem Eu{op}{f:M D}(h:PE X a (tD X.K B G0 f)):PE X (.BoolOp op [a] pos) (tD X.K B G0 f):=HS h
theorem Et{f:M D}(ha:PE X a (tD X.K B G0 f)):PE X (.UnaryOp .Not a pos) (tD X.K B G0 (Vn f)):=
 UV (HQ ha) λσ H Q q=>tM.one (R:=Rep X.K) q λv H2 G ρ x k r a=>by
  cases x with
  |bool t=>exact⟨t,r.bl_inv,aft.now a k (.bl _)⟩
  |_=>exact a.elim
theorem Dl{f:M D}{j p2}(ha:PE X a (tD X.K B G0 f)):PT X (.Compare a [.IsNot] [.Constant .none j p2] pos) (tBo X.K B G0 (UE (λd=>!isNon d) f)):=
 ZS (Fz (E9 ha)) λσ H Q q=>tM.one (R:=Rep X.K) q λv H2 G ρ x k r a=>⟨_,rfl,aft.now a k (by dsimp only;rw[r.isNon])⟩
theorem Es{f:M D}{j p2}(ha:PE X a (tD X.K B G0 f)):PE X (.Compare a [.Is] [.Constant .none j p2] pos) (tD X.K B G0 (UE (λd=>.bool (isNon d)) f)):=
 UV (FA (FC ha)) λσ H Q q=>tM.one (R:=Rep X.K) q λv H2 G ρ x k r a=>aft.now a k (by dsimp only;rw[r.isNon];exact .bl _)
noncomputable def Uv:M AY:=Uu []
noncomputable def Uw(f:M D)(g:M AY):M AY:=UH f λx=>UH g λxs=>Uu (x::xs)
theorem Er:PA X [] (tDs X.K B G0 Uv):=paof Z8 λσ H Q ⟨G,ρ,k,a⟩=>aft.now a k .nil
theorem tM.twoA{K:Frag}{σ:St}{H:Hp}{f:M D}{g:M AY}{β δ:Type}{S:Hp->δ->β->Prop}{k:D->AY->M β}{Q:δ->Hp->Prop}{P:V->List V->Hp->Prop}
  (h:tM K B G0 S (UH f λx=>UH g λy=>k x y) σ H Q)
  (i:∀v u H2 G ρ x y,EOk K B G0 G H2 σ ρ->Rep K G v x->Reps K G u y->aft K B G0 S (k x y ρ) G σ Q->P v u H2) :
  tD K B G0 f σ H (λv H1=>tDs K B G0 g σ H1 λu H2=>P v u H2):=by
 obtain⟨G,ρ,e,a⟩:=tM.bind2 (R:=Rep K) (R':=Reps K) Oj h;refine⟨G,ρ,e,?_⟩;cases q:f ρ with
 |bad=>rw[q]at a;exact a.elim
 |ok d ρ1=>
  rw[q]at a;intro v G' H' e' s r;obtain⟨x,G2,ρ2,e2,a2⟩:=a v G' H' e' s r;refine⟨G2,ρ2,e2,?_⟩;cases q2:g ρ2 with
  |bad=>rw[q2]at a2;exact a2.elim
  |ok d3 ρ3=>rw[q2]at a2;intro u G3 H3 e3 s3 r3;obtain⟨G4,ρ4,y,e4,r4,r5,a5⟩:=a2 u G3 H3 e3 s3 r3;exact i v u H3 G4 ρ4 x y e4 r4 r5 a5
theorem OG{f:M D}{g:M AY}(ha:PE X e (tD X.K B G0 f))(hr:PA X es (tDs X.K B G0 g))(hs:Ua (e::es) X.env=(AX,eval e X.env)::Ua es X.env:=by rfl) :
  PA X (e::es) (tDs X.K B G0 (Uw f g)):=paof (Za ha hr hs) λσ H Q q=>tM.twoA q λv u H2 G ρ x y k r1 r2 a=>aft.now a k (.cons r1 r2)
noncomputable def Ka(f:M AY):M D:=UH f λxs=>if xs.length<=1000000 then Uu (.tuple xs)else λ_=>.bad
noncomputable def U2(f:M AY):M D:=UH f λxs=>if xs.length<=1000000 then Uu (.list xs)else λ_=>.bad
theorem Og{x1}{f:M AY}(h:PA X es (tDs X.K B G0 f)):PE X (.Tuple es x1 pos) (tD X.K B G0 (Ka f)):=
 UV (PJ h) λσ H Q q=>tM.one (R:=Reps X.K) q λv H2 G ρ x k r a=>by
  split at a
  .rename_i c
   refine⟨by rw[r.length];exact Qv c lim,λp hp=>?_⟩;exact aft.done a k (Ext.new k.gh hp) (.tup (SqT.of U8) (r.mono (KT (k.gh.free hp))))
  .exact a.elim
theorem Of{f:M AY}(h:PA X es (tDs X.K B G0 f)):PE X (.List es pos) (tD X.K B G0 (U2 f)):=
 UV (PH h) λσ H Q q=>tM.one (R:=Reps X.K) q λv H2 G ρ x k r a=>by
  split at a
  .rename_i c
   refine⟨by rw[r.length];exact Qv c lim,λp hp=>?_⟩;exact aft.done a k (Ext.new k.gh hp) (.lst (SqL.of U8) (r.mono (KT (k.gh.free hp))))
  .exact a.elim
noncomputable def oIx:D->D->A4
 |.list xs,.int i=>atI xs i
 |.tuple xs,.int i=>atI xs i
 |.str z,.int i=>if z.length<=1000000 then(atI z.cps.toList i).map λc=>.str ⟨#[c]⟩else AV
 |_,_=>AV
theorem Reps.atI{K:Frag}{G:Hp}{vs:List V}{ds:AY}{i:Int}{d:D}(r:Reps K G vs ds)(h:L2.atI ds i=O d):∃v,L2.atI vs i=O v/\Rep K G v d:=by
 unfold L2.atI at h⊢;rw[r.length];cases z:ixN ds.length i with
 |none=>rw[z]at h;cases h
 |some j=>rw[z]at h;exact r.get (i:=j) h
theorem Px{K:Frag}{v u:V}{G H:Hp}{x y d:D}{Q:VK}(s:Same G H)(rx:Rep K G v x)(ry:Rep K G u y)(e:oIx x y=O d)(k:∀w,Rep K G w d->Q w H):rIx K v u H Q:=by
 unfold oIx at e;split at e
 .obtain⟨l,vs,rfl,h1,r1⟩:=rx.lst_inv
  obtain⟨w,e1,r2⟩:=r1.atI e;exact .inl ⟨l,vs,_,w,rfl,ry.int_inv,s.seq h1,e1,k w r2⟩
 .obtain⟨l,vs,rfl,h1,r1⟩:=rx.tup_inv
  obtain⟨w,e1,r2⟩:=r1.atI e;exact .inr (.inl ⟨l,vs,_,w,rfl,ry.int_inv,ZJ s h1,e1,k w r2⟩)
 .split at e
  .rename_i z i hz
   cases q:L2.atI z.cps.toList i with
   |none=>rw[q]at e;cases e
   |some ch=>rw[q]at e;cases e;exact .inr (.inr ⟨z,i,ch,rx.str_inv,ry.int_inv,Qv hz lim,q,k _ (.str _)⟩)
  .cases e
 .cases e
theorem Ga{f g:M D}(ha:PE X a (tD X.K B G0 f))(hb:PE X b (tD X.K B G0 g))(hs:SY b):PE X (.Subscript a b pos) (tD X.K B G0 (UB oIx f g)):=
 UV (R5 PD ha hb hs) λσ H Q q=>tM.two q λv u H2 G ρ x y k rx ry a=>by obtain⟨d,e,a⟩:=a.opt;exact Px k.gh rx ry e λw r=>a.now k r
noncomputable def UC(i:Nat)(g:M D):M D:=λρ=>match ρ[i]? with
 |some (O (.pub d))=>(UH g λy=>UG (oIx d y)) ρ
 |some (O (.own _))=>(UH g λy=>λρ'=>match ρ'[i]? with|some (O (.own ds))=>UG (oIx (.list ds) y) ρ'|_=>.bad) ρ
 |_=>.bad
theorem Ep{i:Nat}{g:M D}(ha:PE X a (Kc i))(hb:PE X b (tD X.K B G0 g))(hs:SY b):PE X (.Subscript a b pos) (tD X.K B G0 (UC i g)):=
 UV (R5 PD ha hb hs) λσ H Q ⟨G,ρ,k,a⟩=>by
  unfold UC at a;cases q:ρ[i]? with
  |none=>rw[q]at a;exact a.elim
  |some o=>
   cases o with
   |none=>rw[q]at a;exact a.elim
   |some sl=>
    cases sl with
    |deep _ _=>rw[q]at a;exact a.elim
    |pub d=>
     rw[q]at a;obtain⟨v,h1,h2⟩:=k.pub i d q;refine⟨v,h1,G,ρ,k,?_⟩;dsimp only[UH]at a;cases z:g ρ with
     |bad=>rw[z]at a;exact a.elim
     |ok y ρ1=>rw[z]at a;intro u G' H' k' s' r';obtain⟨d',e',a'⟩:=aft.opt a;exact Px k'.gh (h2.mono s') r' e' λw r=>a' w G' H' k' s' r
    |own ds=>
     rw[q]at a;obtain⟨ad,vs,h1,h2,h3,h4,h5⟩:=k.own i ds q;refine⟨.ref ad,h1,G,ρ,k,?_⟩;dsimp only[UH]at a;cases z:g ρ with
     |bad=>rw[z]at a;exact a.elim
     |ok y ρ1=>
      rw[z]at a;dsimp only at a;intro u G' H' k' s' r';cases z2:ρ1[i]? with
      |none=>rw[z2]at a;exact a.elim
      |some o2=>
       cases o2 with
       |none=>rw[z2]at a;exact a.elim
       |some sl2=>
        cases sl2 with
        |deep _ _=>rw[z2]at a;exact a.elim
        |pub d2=>rw[z2]at a;exact a.elim
        |own es2=>
         rw[z2]at a;obtain⟨d',e',a'⟩:=aft.opt a;obtain⟨ad',vs',g1,g2,g3,g4,g5⟩:=k'.own i es2 z2;rw[h1]at g1;cases g1;unfold oIx at e';cases y with
         |int j=>obtain⟨w,e1,r2⟩:=g5.atI e';exact .inl ⟨ad,vs',j,w,rfl,r'.int_inv,SqL.of g4,e1,a' w G' H' k' s' r2⟩
         |_=>cases e'
noncomputable def cutD(xs:AY)(lo hi:A7):AY:=(xs.drop (HT.sIx xs.length 0 lo)).take (HT.sIx xs.length xs.length hi-HT.sIx xs.length 0 lo)
theorem Reps.cut{K:Frag}{G:Hp}{vs:List V}{ds:AY}(r:Reps K G vs ds)(lo hi:A7):Reps K G (Yr vs lo hi) (cutD ds lo hi):=by unfold Yr cutD;rw[r.length];exact(r.drop _).take _
noncomputable def Zw:D->Option A7
 |.int i=>O (O i)
 |_=>AV
theorem Dk:PO X AV (tOi X.K B G0 (Uu AV)):=poof Df λσ H Q ⟨G,ρ,k,a⟩=>aft.now a k AU
theorem DZ{f:M D}(h:PE X e (tD X.K B G0 f)):PO X (O e) (tOi X.K B G0 (UH f λx=>UG (Zw x))):=poof (De h) λσ H Q q=>tM.one (R:=Rep X.K) q λv H2 G ρ x k r a=>by
 cases x with
 |int i=>exact⟨i,r.int_inv,aft.now (v:=O i) a k AU⟩
 |_=>exact a.elim
end
noncomputable def ZT:List (D×D)->Bool
 |(.none,_)::_=>AW
 |_=>AX
noncomputable def Yj:D->String
 |.none=> "NoneType"
 |.bool _=> "bool"
 |.int _=> "int"
 |.str _=> "str"
 |.list _=> "list"
 |.tuple _=> "tuple"
 |.dict kvs=>if ZT kvs=AW then "" else "dict"
noncomputable def U4(d:D)(c:String):Bool:=Yj d==c || (Yj d == "bool" && c == "int")
noncomputable def WC:D->Bool
 |.dict kvs=>ZT kvs
 |_=>AX
theorem nty{kvs:List (D×D)}{c:String}(h:(("dict" == c) || ("" == c))=AX):U4 (.dict kvs) c=AX:=by
 obtain⟨h1,h2⟩:=Bool.or_eq_false_iff.mp h
 show((if ZT kvs=AW then "" else "dict")==c || ((if ZT kvs=AW then "" else "dict") == "bool" && c == "int"))=AX
 cases ZT kvs with
 |true=>rw[Qn AU,h2];rfl
 |false=>rw[QD (by decide),h1];rfl
theorem Pw{ks:qb}{ds:AY}:Yj (.dict ((ks.map kD).zip ds)) = "dict" /\ WC (.dict ((ks.map kD).zip ds))=AX:=by
 cases ks with
 |nil=>exact⟨rfl,rfl⟩
 |cons k ks=>
  cases ds with
  |nil=>exact⟨rfl,rfl⟩
  |cons d ds=>cases k<;>exact⟨rfl,rfl⟩
theorem Eo(K:Frag)(d:D)(c:String)(nx:WC d=AX)(hc:c = "int" ∨ c = "bool" ∨ c = "str" ∨ c = "list" ∨ c = "tuple" ∨ c = "dict"):PySem.W.kitOne K (.type (Yj d)) (.type c)=O (U4 d c):=by
 cases d with
 |dict kvs=>
  have e:Yj (.dict kvs) = "dict" :=by
   have nx:ZT kvs=AX:=nx
   show(if ZT kvs=AW then "" else "dict")=_
   rw[nx];rfl
  unfold U4;rw[e];rcases hc with rfl|rfl|rfl|rfl|rfl|rfl<;>rfl
 |_=>rcases hc with rfl|rfl|rfl|rfl|rfl|rfl<;>rfl
section
variable{X:Cx}{B G0:Hp}{e a b c:J7}{pos:Pos}{es rest:A3}
def ZI(X:Cx)(f:JZ)(p:AY->A4):Prop:=
 ∃r,Zx X f r/\∀vs G H ds d Q,Same G H->Reps X.K G vs ds->p ds=O d->(∀w G' H',Ext G H G' H'->Rep X.K G' w d->Q w H')->r vs H Q
noncomputable def KS(p:AY->A4)(f:M AY):M D:=UH f λxs=>UG (p xs)
theorem WM{x:Str}{p2:Pos}{id:String}{p:AY->A4}{f:M AY}(hc:ZI X (.builtin id) p)(hg:Gl X x)(hm:X.mg x=AV)(hv:bootBuiltins x=O (.builtin id))(ha:PA X (e::es) (tDs X.K B G0 f))(hn:x ≠ "__name__" :=by decide)(hdb:(x==("__debug__" : Str))=AX:=by decide)
  (he:Ua (e::es) X.env=(AX,eval e X.env)::Ua es X.env:=by rfl) (hpl:(backTo pos (Ua es X.env)).any (·.1)=AX:=by rfl):PE X (.Call (.Name x p2) (e::es) [] pos) (tD X.K B G0 (KS p f)):=by
 obtain⟨r,h,i⟩:=hc;refine UV (VD h hg hm hv ha hn hdb he hpl) λσ H Q q=>tM.one (R:=Reps X.K) q λv H2 G ρ x k rr a=>?_
 obtain⟨d,e,a⟩:=a.opt;exact i v G H2 x d Q k.gh rr e λw G' H' ex rw=>a.done k ex rw
theorem BE{x:Str}{p2:Pos}{T:String}{p:AY->A4}{f:M AY}(hc:ZI X (.type T) p)(hg:Gl X x)(hm:X.mg x=AV)(hv:bootBuiltins x=O (.type T))(ha:PA X (e::es) (tDs X.K B G0 f))(hn:x ≠ "__name__" :=by decide)(hdb:(x==("__debug__" : Str))=AX:=by decide)
  (he:Ua (e::es) X.env=(AX,eval e X.env)::Ua es X.env:=by rfl) (hpl:(backTo pos (Ua es X.env)).any (·.1)=AX:=by rfl):PE X (.Call (.Name x p2) (e::es) [] pos) (tD X.K B G0 (KS p f)):=by
 obtain⟨r,h,i⟩:=hc;refine UV (T8 h hg hm hv ha hn hdb he hpl) λσ H Q q=>tM.one (R:=Reps X.K) q λv H2 G ρ x k rr a=>?_
 obtain⟨d,e,a⟩:=a.opt;exact i v G H2 x d Q k.gh rr e λw G' H' ex rw=>a.done k ex rw
theorem Reps.nil_inv{K:Frag}{G:Hp}{vs:List V}(r:Reps K G vs []):vs=[]:=by cases r;rfl
theorem Reps.one_inv{K:Frag}{G:Hp}{vs:List V}{d:D}(r:Reps K G vs [d]):∃v,vs=[v]/\Rep K G v d:=by
 cases r with
 |cons h t=>cases t;exact⟨_,rfl,h⟩
theorem Reps.two_inv{K:Frag}{G:Hp}{vs:List V}{d d':D}(r:Reps K G vs [d,d']):∃v v',vs=[v,v']/\Rep K G v d/\Rep K G v' d':=by
 cases r with
 |cons h t=>obtain⟨v',rfl,r'⟩:=t.one_inv;exact⟨_,v',rfl,h,r'⟩
noncomputable def Ke:AY->A4
 |[.list xs]=>O (.int xs.length)
 |[.tuple xs]=>O (.int xs.length)
 |[.str z]=>if z.length<=1000000 then O (.int z.length)else AV
 |_=>AV
theorem Pa:ZI X (.builtin "len") Ke:=by
 refine⟨_,ON,λvs G H ds d Q s r e k=>?_⟩;unfold Ke at e;split at e
 .cases e
  obtain⟨v,rfl,q⟩:=r.one_inv;obtain⟨l,ws,rfl,h1,r1⟩:=q.lst_inv;exact⟨.ref l,ws.length,rfl,.inl ⟨ws,s.seq h1,rfl⟩,by rw[r1.length];exact k _ G H (.refl s) (.int _)⟩
 .cases e
  obtain⟨v,rfl,q⟩:=r.one_inv;obtain⟨l,ws,rfl,h1,r1⟩:=q.tup_inv;exact⟨.ref l,ws.length,rfl,.inr ⟨ws,ZJ s h1,rfl⟩,by rw[r1.length];exact k _ G H (.refl s) (.int _)⟩
 .split at e
  .rename_i z hz
   cases e;obtain⟨v,rfl,q⟩:=r.one_inv;exact⟨.str z,z.length,by rw[q.str_inv],⟨Qv hz lim,rfl⟩,k _ G H (.refl s) (.int _)⟩
  .cases e
 .cases e
noncomputable def VP:AY->A4
 |[.int i,.int j]=>O (.int (if j > i then j else i))
 |_=>AV
theorem HZ(hc:X.calm=AW):ZI X (.builtin "max") VP:=by
 refine⟨_,B6 hc,λvs G H ds d Q s r e k=>?_⟩;unfold VP at e;split at e
 .cases e
  obtain⟨v,v',rfl,r1,r2⟩:=r.two_inv;exact⟨_,_,by rw[r1.int_inv,r2.int_inv],k _ G H (.refl s) (.int _)⟩
 .cases e
noncomputable def TB:AY->A4
 |[.int i,.int j]=>O (.int (if j<i then j else i))
 |_=>AV
theorem HY(hc:X.calm=AW):ZI X (.builtin "min") TB:=by
 refine⟨_,B5 hc,λvs G H ds d Q s r e k=>?_⟩;unfold TB at e;split at e
 .cases e
  obtain⟨v,v',rfl,r1,r2⟩:=r.two_inv;exact⟨_,_,by rw[r1.int_inv,r2.int_inv],k _ G H (.refl s) (.int _)⟩
 .cases e
noncomputable def Kn(i:Nat):M D:=λρ=>match ρ[i]? with
 |some (O (.pub d))=>UG (Ke [d]) ρ
 |some (O (.own ds))=>.ok (.int ds.length) ρ
 |_=>.bad
theorem DY{i:Nat}{p2:Pos}(hg:Gl X "len")(hm:X.mg "len" = AV)(ha:PE X e (Kc i))(he:Ua [e] X.env=[(AX,eval e X.env)]:=by rfl):PE X (.Call (.Name "len" p2) [e] [] pos) (tD X.K B G0 (Kn i)):=by
 refine UV (VD ON hg hm PySem.boot_len (Za ha Z8 (by rw[he];rfl)) (by decide) (by decide) (by rw[he];rfl) AU) λσ H Q ⟨G,ρ,k,a⟩=>?_
 unfold Kn at a;cases q:ρ[i]? with
 |none=>rw[q]at a;exact a.elim
 |some o=>
  cases o with
  |none=>rw[q]at a;exact a.elim
  |some sl=>
   cases sl with
   |deep _ _=>rw[q]at a;exact a.elim
   |pub d=>
    rw[q]at a;obtain⟨v,h1,h2⟩:=k.pub i d q;refine⟨v,h1,?_⟩;obtain⟨d',e',a'⟩:=aft.opt a;obtain⟨r,hr,ir⟩:=@Pa X;show ∃x n,[v]=[x]/\LenV X.K x H n/\Q (.int n) H;unfold Ke at e';split at e'
    .rename_i xs he'
     injection he' with jF ji;subst jF;cases e'
     obtain⟨l,ws,rfl,g1,r1⟩:=h2.lst_inv;exact⟨.ref l,ws.length,rfl,.inl ⟨ws,k.gh.seq g1,rfl⟩,by rw[r1.length];exact a'.now k (.int _)⟩
    .rename_i xs he'
     injection he' with jF ji;subst jF;cases e'
     obtain⟨l,ws,rfl,g1,r1⟩:=h2.tup_inv;exact⟨.ref l,ws.length,rfl,.inr ⟨ws,ZJ k.gh g1,rfl⟩,by rw[r1.length];exact a'.now k (.int _)⟩
    .rename_i z he'
     injection he' with jF ji;subst jF
     split at e'
     .rename_i hz
      cases e';exact⟨.str z,z.length,by rw[h2.str_inv],⟨Qv hz lim,rfl⟩,a'.now k (.int _)⟩
     .cases e'
    .cases e'
   |own ds=>rw[q]at a;obtain⟨ad,vs,h1,g2,g3,h4,h5⟩:=k.own i ds q;exact⟨.ref ad,h1,.ref ad,vs.length,rfl,.inl ⟨vs,SqL.of h4,rfl⟩,by rw[h5.length];exact aft.now a k (.int _)⟩
theorem En{pins:List (J5×Obj)}{s:J0}{σ:St}{G H:Hp}{v:V}{u:JZ}{d:D}{cv:JZ}{t:Bool}{A:Around}{E:JZ->J0->Prop}{Q:JZ->J0->Prop}(I:Inv X pins σ H s)(sg:Same G H)(r:Rep X.K G v d)(rv:RelV v u)(nx:WC d=AX)
  (ek:PySem.W.kitOne X.K (.type (Yj d)) cv=O t) (h:∀tk,Q (.bool t) {s with toks:=tk}):J9 (model X.prog X.w) A (call (.builtin "isinstance") [u,cv]) Q E s:=by
 cases r with
 |non=>cases rv;exact Jt PySem.W.kitx_none I.kIn True.intro ek (λz=>nomatch z) h
 |bl y=>cases rv;exact Jt PySem.W.kitx_bool I.kIn True.intro ek (λz=>nomatch z) h
 |int i=>obtain⟨t',rfl⟩:=rv;exact Jt PySem.W.kitx_int I.kIn True.intro ek (λz=>nomatch z) h
 |str y=>obtain⟨t',rfl⟩:=rv;exact Jt PySem.W.kitx_str I.kIn True.intro ek (λz=>nomatch z) h
 |lst hl _=>cases rv;obtain⟨its,r,⟨o,n,e,hc,_,hd⟩,hz⟩:=I.list (sg.seq hl);exact Jt PySem.W.kitx_list I.kIn ⟨o,e,hc⟩ ek (λz=>nomatch z) h
 |tup hl _=>cases rv;obtain⟨its,r,p,hz⟩:=I.tuple (ZJ sg hl);obtain⟨o,e,hc,_⟩:=p;exact Jt PySem.W.kitx_tuple I.kIn ⟨o,e,hc⟩ ek (λz=>nomatch z) h
 |@dic ad hd=>
  cases rv;obtain⟨_,_,vs,_,p⟩:=(show KY X.prog X.w H s.heap ad (.dK [])from I.hok ad _ (sg _ _ hd))
  obtain⟨o,es,ep,h1,h2,_⟩:=p;exact Jt PySem.W.kitx_dict I.kIn ⟨o,h1,h2.1⟩ ek (λz=>nomatch z) h
 |exc _ _ _ _=>cases nx
 |@dct ad ks vs ds kvs e0 _ _ hd _=>
  cases rv;subst e0;rw[Pw.1]at ek;obtain⟨_,_,vs,_,p⟩:=(show KY X.prog X.w H s.heap ad (.dK (ks.zip _))from I.hok ad _ (sg _ _ hd))
  obtain⟨o,es,ep,h1,h2,_⟩:=p;exact Jt PySem.W.kitx_dict I.kIn ⟨o,h1,h2.1⟩ ek (λz=>nomatch z) h
 |@dtt ad ob ks vs ds kvs e0 _ hd _=>
  cases rv;subst e0;obtain⟨_,_,_,xs,_,o,es,ep,h1,h2,_⟩:=(show KY X.prog X.w H s.heap ad (.frz ob (.dT (ks.zip _)))from I.hok ad _ (sg _ _ hd))
  exact Jt PySem.W.kitx_dict I.kIn ⟨o,h1,h2.1⟩ ek (λz=>nomatch z) h
theorem Em(c:String)(hc:c = "int" ∨ c = "bool" ∨ c = "str" ∨ c = "list" ∨ c = "tuple" ∨ c = "dict"):typeOf (.type c)=pure (.type "type"):=by rcases hc with rfl|rfl|rfl|rfl|rfl|rfl<;>kernel_rfl
theorem DX:Zx X (.builtin "isinstance") (λxs H Q=>∃v c G d,xs=[v,.ty c]/\Same G H/\Rep X.K G v d/\(c = "int" ∨ c = "bool" ∨ c = "str" ∨ c = "list" ∨ c = "tuple" ∨ c = "dict")/\Q (.bl (U4 d c)) H):=by
 intro pins s σ H xs us Q I r h;obtain⟨v,c,G,d,rfl,sg,rp,hc,q⟩:=h;obtain⟨u,w',rfl,r1,r2⟩:=Vo r;cases (show w'=Value.type c from r2);by_cases nx:WC d=AW
 .cases rp with
  |@exc a C dd bm nm vs ds ck hx hd rr=>
   refine OI (Xi I.ok.mod.kin) pins s σ H [.ref a,.ty c] [u,.type c] Q I r ⟨a,C,dd,bm,AX,.ty c,AX,rfl,⟨nm,ck⟩,sg _ _ hx,.inr ⟨c,rfl,Em c hc,?_⟩,?_⟩
   .rw[ck.ty];rcases hc with rfl|rfl|rfl|rfl|rfl|rfl<;>rfl
   .have e:U4 (.dict [(.none,.tuple [.str nm,.list ds])]) c=AX:=by rcases hc with rfl|rfl|rfl|rfl|rfl|rfl<;>rfl
    rw[e]at q;exact q
  |dct e _ _ _ _=>subst e;rw[Pw.2]at nx;cases nx
  |dtt e _ _ _=>subst e;cases nx
  |_=>cases nx
 .have nx:WC d=AX:=by simpa using nx
  exact En I sg rp r1 nx (Eo X.K d c nx hc) λtk=>⟨.bl _,H,I.tok tk,rfl,q⟩
theorem RV:bootBuiltins "isinstance" = O (.builtin "isinstance"):=by decide +kernel
theorem Tl{f:M D}{p2 p3:Pos}{c:String}(hc:c = "int" ∨ c = "bool" ∨ c = "str" ∨ c = "list" ∨ c = "tuple" ∨ c = "dict")(hg:Gl X "isinstance")(hm:X.mg "isinstance" = AV)(qS:Gl X (Um c))(hm2:X.mg (Um c)=AV)
  (hv2:bootBuiltins (Um c)=O (.type c)) (ha:PE X e (tD X.K B G0 f)) (hn2:(Um c) ≠ "__name__") (hd2:((Um c)==("__debug__" : Str))=AX)
  (hs:Ua [e,.Name (Um c) p3] X.env=(AX,eval e X.env)::Ua [.Name (Um c) p3] X.env:=by rfl)
  (hs2:Ua [.Name (Um c) p3] X.env=[(AX,eval (.Name (Um c) p3) X.env)]:=by rfl) :
  PE X (.Call (.Name "isinstance" p2) [e,.Name (Um c) p3] [] pos) (tD X.K B G0 (UE (λd=>.bool (U4 d c)) f)):=by
 refine UV (VD DX hg hm RV (Za ha (Za (Da (v:=.ty c) qS hm2 hv2 AU hn2 hd2) Z8 (by rw[hs2];rfl)) hs) (by decide) (by decide) hs (by rw[hs2];rfl)) λσ H Q q=>?_
 refine tM.one (R:=Rep X.K) q λv H2 G ρ x k r a=>?_
 exact⟨v,c,G,x,rfl,k.gh,r,hc,aft.now a k (.bl _)⟩
end
noncomputable def spD(K:Frag)(n:Nat)(F:AY->A4):Sp:=λvs H Q _=>∃G ds d,vs.length=n/\Same G H/\Reps K G vs ds/\F ds=O d/\∀v G' H',Ext G H G' H'->Rep K G' v d->Q v H'
section
variable{K:Frag}{B G0 G H:Hp}{σ:St}{ρ:Ut}
theorem EOk.exit(k:EOk K B G0 G H σ ρ):Ext G0 B G H:=⟨k.bh,k.g0,k.gh,k.np⟩
theorem ZC{α:Type}{l:List α}{i:Nat}{x y:α}(h:(l.set i x)[i]?=O y):y=x:=by
 by_cases hl:i<l.length
 .rw[QJ hl]at h;cases h;rfl
 .rw[Jw (by rw[QY];lia)]at h;cases h
theorem DpOk.setOther{i:Nat}{x:Option V}{y:Option Sl}(k:DpOk K B G H σ ρ)(hy:∀s,y=O s->∃d,s=.pub d):DpOk K B G H (σ.set i x) (ρ.set i y):=by
 have nz:∀{m:Nat}{s:Sl},(ρ.set i y)[m]?=O (O s)->(∃d,s=.pub d)∨(ρ[m]?=O (O s)/\(σ.set i x)[m]?=σ[m]?):=λ{m s} q=>by
  by_cases z:i=m
  .subst z
   exact .inl (hy s (ZC q).symm)
  .rw[Ql z]at q⊢;exact .inr ⟨q,rfl⟩
 refine k.map (λm p d q=>?_) (λm es q=>?_) λm p d v fp q s r w n=>⟨r,w⟩
 .rcases nz q with ⟨_,e⟩|q
  .cases e
  .exact q
 .rcases nz q with ⟨_,e⟩|q
  .cases e
  .exact⟨es,q⟩
theorem EOk.setPub{i:Nat}{v:V}{d:D}(k:EOk K B G0 G H σ ρ)(r:Rep K G v d)(hi:i<ρ.length):EOk K B G0 G H (σ.set i (O v)) (ρ.set i (O (.pub d))) where
 bh:=k.bh
 gh:=k.gh
 g0:=k.g0
 np:=k.np
 len:=by rw[QY,QY];exact k.len
 pub:=λj d' q=>by
  by_cases z:i=j
  .subst z
   have:=ZC q;cases this;exact⟨v,QJ (by rw[←k.len];exact hi),r⟩
  .rw[Ql z]at q⊢
   exact k.pub j d' q
 own:=λj ds q=>by
  by_cases z:i=j
  .subst z
   have:=ZC q;cases this
  .rw[Ql z]at q⊢
   exact k.own j ds q
 sep:=λj l c es fs q1 q2 s1 s2=>by
  have z1:i≠j:=λz=>by subst z;have:=ZC q1;cases this
  have z2:i≠l:=λz=>by subst z;have:=ZC q2;cases this
  rw[Ql z1]at q1 s1;rw[Ql z2]at q2 s2;exact k.sep j l c es fs q1 q2 s1 s2
 dp:=k.dp.setOther (λs e=>by cases e;exact⟨_,rfl⟩)
structure NewL(K:Frag)(B G H:Hp)(σ:St)(ρ:Ut)(a:J5)(vs:List V)(ds:AY):Prop where
 b:B a=AV
 g:G a=AV
 h:H a=O (.lst vs)
 r:Reps K G vs ds
 f:∀(j:Nat) es,ρ[j]?=O (O (.own es))->σ[j]?≠O (O (.ref a))
 dp:∀(j:Nat) p d v fp,ρ[j]?=O (O (.deep p d))->σ[j]?=O (O v)->RepO K G H p v d fp->a∉fp
theorem EOk.freshD{H':Hp}{a:J5}(k:EOk K B G0 G H σ ρ)(e:Same H H')(ha:H a=AV){G':Hp}{j:Nat}{p:Pat}{d:D}{v:V}{fp:A5}(q:ρ[j]?=O (O (.deep p d)))(s:σ[j]?=O (O v))(r:RepO K G' H' p v d fp):a∉fp:=λm=>by obtain⟨ω,k1,k2⟩:=k.dp;obtain⟨v',fp',s',r',n,w⟩:=k1 j p d q;rw[s]at s';cases s';have u:=r'.uniq e r;subst u;obtain⟨ws,hl⟩:=r'.isl a m;rw[ha]at hl;cases hl
theorem EOk.setOwn{i:Nat}{a:J5}{vs:List V}{ds:AY}(k:EOk K B G0 G H σ ρ)(n:NewL K B G H σ ρ a vs ds)(hi:i<ρ.length):EOk K B G0 G H (σ.set i (O (.ref a))) (ρ.set i (O (.own ds))) where
 bh:=k.bh
 gh:=k.gh
 g0:=k.g0
 np:=k.np
 len:=by rw[QY,QY];exact k.len
 pub:=λj d' q=>by
  by_cases z:i=j
  .subst z
   have:=ZC q;cases this
  .rw[Ql z]at q⊢
   exact k.pub j d' q
 own:=λj es q=>by
  by_cases z:i=j
  .subst z
   have:=ZC q;cases this;exact⟨a,vs,QJ (by rw[←k.len];exact hi),n.b,n.g,n.h,n.r⟩
  .rw[Ql z]at q⊢
   exact k.own j es q
 sep:=λj l c es fs q1 q2 s1 s2=>by
  have hs:i<σ.length:=by rw[←k.len];exact hi
  by_cases z1:i=j
  .subst z1
   rw[QJ hs]at s1;cases s1;by_cases z2:i=l
   .exact z2
   .rw[Ql z2]at q2 s2
    exact absurd s2 (n.f l fs q2)
  .by_cases z2:i=l
   .subst z2
    rw[QJ hs]at s2;cases s2;rw[Ql z1]at q1 s1;exact absurd s1 (n.f j es q1)
   .rw[Ql z1]at q1 s1
    rw[Ql z2]at q2 s2;exact k.sep j l c es fs q1 q2 s1 s2
 dp:=by
  obtain⟨ω,k1,k2⟩:=k.dp;have hs:i<σ.length:=by rw[←k.len];exact hi
  refine⟨λb=>if b=a then i else ω b,λj p d q=>?_,λj es b q s=>?_⟩
  .by_cases z:i=j
   .subst z;have:=ZC q;cases this
   .rw[Ql z]at q⊢
    obtain⟨v,fp,s,r,nn,w⟩:=k1 j p d q;refine⟨v,fp,s,r,nn,λb m=>⟨(w b m).1,(w b m).2.1,?_⟩⟩;dsimp only;rw[QD (λz=>n.dp j p d v fp q s r (by rw[←z];exact m))];exact(w b m).2.2
  .by_cases z:i=j
   .subst z
    rw[QJ hs]at s;cases s;dsimp only;rw[Qn AU]
   .rw[Ql z]at q s
    dsimp only;rw[QD (λe=>n.f j es q (by rw[←e];exact s))];exact k2 j es b q s
theorem EOk.change{i:Nat}{a:J5}{vs:List V}{ds es:AY}(k:EOk K B G0 G H σ ρ)(q:ρ[i]?=O (O (.own ds)))(ha:σ[i]?=O (O (.ref a)))(r:Reps K G vs es) :
  EOk K B G0 G (upd H a (.lst vs)) σ (ρ.set i (O (.own es))):=by
 obtain⟨a',ws,h1,h2,h3,h4,h5⟩:=k.own i ds q;rw[ha]at h1;cases h1;have hi:i<ρ.length:=(Qr.mp q).1;refine⟨λb o e=>?_,λb o e=>?_,k.g0,k.np,by rw[QY];exact k.len,λj d' e=>?_,λj fs e=>?_,λj l c fs gs q1 q2 s1 s2=>?_,?_⟩
 .rw[UZ (Z9 e h2)];exact k.bh b o e
 .rw[UZ (Z9 e h3)];exact k.gh b o e
 .by_cases z:i=j
  .subst z
   have:=ZC e;cases this
  .rw[Ql z]at e
   exact k.pub j d' e
 .by_cases z:i=j
  .subst z
   have:=ZC e;cases this;exact⟨a,vs,ha,h2,h3,U8,r⟩
  .rw[Ql z]at e
   obtain⟨c,us,g1,g2,g3,g4,g5⟩:=k.own j fs e;have zc:c≠a:=λw=>z (k.sep i j a ds fs q e ha (by rw[←w];exact g1))
   exact⟨c,us,g1,g2,g3,by rw[UZ zc];exact g4,g5⟩
 .have f:∀{m:Nat}{ts:AY},(ρ.set i (O (Sl.own es)))[m]?=O (O (.own ts))->∃ts',ρ[m]?=O (O (.own ts')):=λ{m ts} e=>by
   by_cases z:i=m
   .subst z;exact⟨ds,q⟩
   .rw[Ql z]at e;exact⟨ts,e⟩
  obtain⟨f1,w1⟩:=f q1;obtain⟨f2,w2⟩:=f q2;exact k.sep j l c f1 f2 w1 w2 s1 s2
 .refine k.dp.map (λj p d e=>?_) (λj fs e=>?_) λj p d v fp qj s rj w n=>⟨rj.upd (λ_ z=>by rw[h4]at z;cases z) (n i ds a q ha),w⟩
  .by_cases z:i=j
   .subst z;have:=ZC e;cases this
   .rw[Ql z]at e;exact⟨e,rfl⟩
  .by_cases z:i=j
   .subst z;exact⟨ds,q,rfl⟩
   .rw[Ql z]at e;exact⟨fs,e,rfl⟩
end
inductive Out where
 |nx (ρ:Ut)|rt (d:D)|bk (ρ:Ut)|ct (ρ:Ut)|ex (ρ:Ut) (d:D)|ro (ds:AY)|bad
abbrev SM:=Ut->Out
section
variable(K:Frag)(B G0:Hp)(KX:XW)
def aftS(o:Out)(G1:Hp)(Dn:Ends):Prop:=
 match o with
 |.nx ρ=>∀σ G H,EOk K B G0 G H σ ρ->Same G1 G->Dn.nx σ H
 |.bk ρ=>∀σ G H,EOk K B G0 G H σ ρ->Same G1 G->Dn.bk σ H
 |.ct ρ=>∀σ G H,EOk K B G0 G H σ ρ->Same G1 G->Dn.ct σ H
 |.rt d=>∀v G H,Ext G0 B G H->Rep K G v d->Dn.rt v H
 |.ro ds=>∀a vs G H,Ext G0 B G H->B a=AV->G a=AV->H a=O (.lst vs)->Reps K G vs ds->Dn.rt (.ref a) H
 |.ex ρ d=>∀v σ G H,EOk K B G0 G H σ ρ->Same G1 G->Rep K G v d->KX v σ H
 |.bad=>False
noncomputable def tS(g:SM):TS:=λDn σ H=>∃G ρ,EOk K B G0 G H σ ρ/\aftS K B G0 KX (g ρ) G Dn
noncomputable def sB{α:Type}(f:M α)(g:α->SM):SM:=λρ=>match f ρ with | .ok a ρ'=>g a ρ' | .bad=>.bad
end
section
variable{X:Cx}{B G0:Hp}{KX:XW}{e a b c:J7}{pos:Pos}{es rest:A3}{st:Stmt}{sts sts2:List Stmt}
theorem aftS.mono{K:Frag}{o:Out}{G G':Hp}{Dn:Ends}(e:Same G G')(h:aftS K B G0 KX o G Dn):aftS K B G0 KX o G' Dn:=by
 cases o with
 |nx ρ=>exact λσ G2 H2 k s=>h σ G2 H2 k (e.trans s)
 |bk ρ=>exact λσ G2 H2 k s=>h σ G2 H2 k (e.trans s)
 |ct ρ=>exact λσ G2 H2 k s=>h σ G2 H2 k (e.trans s)
 |rt d=>exact h
 |ro ds=>exact h
 |ex ρ d=>exact λv σ G2 H2 k s r=>h v σ G2 H2 k (e.trans s) r
 |bad=>exact h
theorem tS.bnd{K:Frag}{α γ:Type}{R:Hp->γ->α->Prop}{f:M α}{g:α->SM}{Dn:Ends}{σ:St}{H:Hp}{P:γ->Hp->Prop}(q:tS K B G0 KX (sB f g) Dn σ H)
  (i:∀v H' G' ρ' x,EOk K B G0 G' H' σ ρ'->R G' v x->aftS K B G0 KX (g x ρ') G' Dn->P v H'):tM K B G0 R f σ H P:=by
 obtain⟨G,ρ,k,a⟩:=q;refine⟨G,ρ,k,?_⟩;unfold sB at a;cases z:f ρ with
 |bad=>rw[z]at a;exact a.elim
 |ok d ρ1=>rw[z]at a;exact λv G' H' e s r=>i v H' G' ρ1 d e r (aftS.mono s a)
noncomputable def sNx:SM:=λρ=>.nx ρ
noncomputable def Ux(g h:SM):SM:=λρ=>match g ρ with | .nx ρ'=>h ρ'|o=>o
theorem HX:PSs X [] (tS X.K B G0 KX sNx):=Tq Di λD σ H ⟨G,ρ,k,a⟩=>a σ G H k (.refl _)
theorem Oe{g h:SM}(h1:PS X st (tS X.K B G0 KX g))(h2:PSs X sts (tS X.K B G0 KX h)):PSs X (st::sts) (tS X.K B G0 KX (Ux g h)):=Tq (Sb h1 h2) λD σ H ⟨G,ρ,k,a⟩=>by
 refine⟨G,ρ,k,?_⟩;unfold Ux at a;cases z:g ρ with
 |nx ρ1=>rw[z]at a;exact λσ' G' H' k' s'=>⟨G',ρ1,k',aftS.mono s' a⟩
 |rt d=>rw[z]at a;exact a
 |ro ds=>rw[z]at a;exact a
 |bk ρ1=>rw[z]at a;exact a
 |ct ρ1=>rw[z]at a;exact a
 |ex ρ1 d=>rw[z]at a;exact a
 |bad=>rw[z]at a;exact a.elim
theorem HW{g:SM}(h1:PS X st (tS X.K B G0 KX g)):PSs X [st] (tS X.K B G0 KX g):=Tc h1
noncomputable def Y9:SM:=λ_=>.bad
theorem DW:PS X st (tS X.K B G0 KX Y9):=λ_ _ _ _ _ _ ⟨_,_,_,a⟩=>a.elim
noncomputable def UF(f:M D):SM:=sB f λd _=>.rt d
theorem HV{f:M D}(h:PE X e (tD X.K B G0 f)):PS X (.Return (O e) pos) (tS X.K B G0 KX (UF f)):=Kt (SO h) λD σ H q=>tS.bnd (R:=Rep X.K) q λv H' G' ρ' x k r a=>a v G' H' k.exit r
noncomputable def YN(f:M D):SM:=sB f λ_ ρ=>.nx ρ
theorem El{f:M D}(h:PE X e (tD X.K B G0 f))(hs:swapsWith e AV pos.line X.env=pure AX:=by rfl):PS X (.Expr e pos) (tS X.K B G0 KX (YN f)):=Kt (Vv h hs) λD σ H q=>tS.bnd (R:=Rep X.K) q λv H' G' ρ' x k r a=>a σ G' H' k (.refl _)
noncomputable def sIf(f:M Bool)(g h:SM):SM:=sB f λt=>if t=AW then g else h
theorem MY{f:M Bool}{g h:SM}(hc:PT X c (tBo X.K B G0 f))(ha:PSs X sts (tS X.K B G0 KX g))(hb:PSs X sts2 (tS X.K B G0 KX h)):PS X (.If c sts sts2 pos) (tS X.K B G0 KX (sIf f g h)):=
 Kt (Hv hc ha hb) λD σ H q=>tS.bnd (R:=λ_ b c=>b=c) q λv H' G' ρ' x k r a=>by
  have r:v=x:=r;subst r;cases v with
  |true=>exact⟨G',ρ',k,a⟩
  |false=>exact⟨G',ρ',k,a⟩
noncomputable def tG(K:Frag)(B G0:Hp)(s:D->Ut->A6):TG:=λv σ H Q=>∃G ρ d ρ',EOk K B G0 G H σ ρ/\Rep K G v d/\s d ρ=O ρ'/\∀σ' G' H',EOk K B G0 G' H' σ' ρ'->Same G G'->Q σ' H'
noncomputable def tGs(K:Frag)(B G0:Hp)(s:AY->Ut->A6):TGs:=λv σ H Q=>∃G ρ d ρ',EOk K B G0 G H σ ρ/\Reps K G v d/\s d ρ=O ρ'/\∀σ' G' H',EOk K B G0 G' H' σ' ρ'->Same G G'->Q σ' H'
theorem pgof{t t':TG}(h:PG X e t)(i:∀v σ H Q,t' v σ H Q->t v σ H Q):PG X e t':=λpins s σ H v u Q I r q=>h pins s σ H v u Q I r (i v σ H Q q)
theorem R9{t t':TGs}(h:PGs X es t)(i:∀v σ H Q,t' v σ H Q->t v σ H Q):PGs X es t':=λpins s σ H v u Q I r q=>h pins s σ H v u Q I r (i v σ H Q q)
noncomputable def gN(i:Nat):D->Ut->A6:=λd ρ=>if i<ρ.length then O (ρ.set i (O (.pub d)))else AV
theorem Od{i:Nat}(h:PG X e (SG i)):PG X e (tG X.K B G0 (gN i)):=pgof h λv σ H Q ⟨G,ρ,d,ρ',k,r,e,q⟩=>by
 unfold gN at e;split at e
 .rename_i hi
  cases e;exact q _ G H (k.setPub r hi) (.refl _)
 .cases e
noncomputable def gN0:AY->Ut->A6:=λd ρ=>match d with | []=>O ρ|_=>AV
noncomputable def gNC(s:D->Ut->A6)(t:AY->Ut->A6):AY->Ut->A6:=λds ρ=>match ds with|d::r=>(s d ρ).bind (t r) | []=>AV
theorem HU:PGs X [] (tGs X.K B G0 gN0):=R9 Dh λv σ H Q ⟨G,ρ,d,ρ',k,r,e,q⟩=>by
 cases r with
 |nil=>cases e;exact⟨rfl,q σ G H k (.refl _)⟩
 |cons _ _=>cases e
theorem Ek{s:D->Ut->A6}{t:AY->Ut->A6}(h1:PG X e (tG X.K B G0 s))(h2:PGs X es (tGs X.K B G0 t))
  (hs:(Uq (e::es) X.env).map (·.2)=assign e X.env::(Uq es X.env).map (·.2):=by rfl):PGs X (e::es) (tGs X.K B G0 (gNC s t)):=R9 (DD h1 h2 hs) λv σ H Q ⟨G,ρ,d,ρ',k,r,e,q⟩=>by
 cases r with
 |nil=>cases e
 |@cons w dw ws dws rw rt=>
  unfold gNC at e;dsimp only at e;cases z:s dw ρ with
  |none=>rw[z]at e;cases e
  |some ρ1=>rw[z]at e;refine⟨w,ws,rfl,G,ρ,dw,ρ1,k,rw,z,λσ' G' H' k' s'=>?_⟩;exact⟨G',ρ1,dws,ρ',k',rt.mono s',e,λσ2 G2 H2 k2 s2=>q σ2 G2 H2 k2 (s'.trans s2)⟩
noncomputable def gT(n:Nat)(t:AY->Ut->A6):D->Ut->A6:=λd ρ=>match d with | .tuple ds=>if ds.length=n then t ds ρ else AV|_=>AV
theorem Gz{k1:Nat}{t:AY->Ut->A6}{n:Nat}(hc:X.calm=AW)(h:PGs X es (tGs X.K B G0 t))
  (hn:(Uq es X.env).length=n:=by rfl) (hst:(Uq es X.env).findIdx? (·.1)=AV:=by rfl):PG X (.Tuple es k1 pos) (tG X.K B G0 (gT n t)):=pgof (HP hc h hn hst) λv σ H Q ⟨G,ρ,d,ρ',k,r,e,q⟩=>by
 unfold gT at e;split at e
 .split at e
  .rename_i hl
   obtain⟨ad,vs,rfl,h1,r1⟩:=r.tup_inv;exact⟨ad,vs,rfl,ZJ k.gh h1,by rw[r1.length];exact hl,G,ρ,_,ρ',k,r1,e,q⟩
  .cases e
 .cases e
noncomputable def KW(f:M D)(s:D->Ut->A6):SM:=sB f λd ρ=>match s d ρ with|some ρ'=>.nx ρ'|none=>.bad
theorem Gy{tg:J7}{f:M D}{s:D->Ut->A6}(he:PE X e (tD X.K B G0 f))(hg:PG X tg (tG X.K B G0 s))(hs:swapsWithSole [tg] e pos.line X.env=pure AX:=by rfl)(hw:swappedStores [tg] e X.env=pure AV:=by rfl)
  (h1:(Uq [tg] X.env).map (·.2)=[assign tg X.env]:=by rfl):PS X (.Assign [tg] e pos) (tS X.K B G0 KX (KW f s)):=
 Kt (HN he hg hs hw h1) λD σ H q=>tS.bnd (R:=Rep X.K) q λv H' G' ρ' x k r a=>by
  cases z:s x ρ' with
  |none=>rw[z]at a;exact a.elim
  |some ρ2=>rw[z]at a;exact⟨G',ρ',x,ρ2,k,r,z,λσ2 G2 H2 k2 s2=>a σ2 G2 H2 k2 s2⟩
noncomputable def UU(i:Nat)(f:M D):SM:=KW f (gN i)
theorem Gx{i:Nat}{x:Str}{f:M D}{p2:Pos}(hN:X.N.Nodup)(hi:X.N[i]?=O x)(hx:Loc X.env.scope x)(he:PE X e (tD X.K B G0 f))(hs:swapsWith e (O (.Name x p2)) pos.line X.env=pure AX:=by rfl)
  (hf:X.fn x=AW∨X.env.scope.names.lookup x=O .local:=by first|exact .inl rfl|exact .inr rfl|assumption):PS X (.Assign [.Name x p2] e pos) (tS X.K B G0 KX (UU i f)):=
 Kt (SN hN hi hx he hs hf) λD σ H q=>tS.bnd (R:=Rep X.K) q λv H' G' ρ' x k r a=>by
  unfold gN at a;split at a
  .rename_i ρ2 hz
   split at hz
   .rename_i hi2
    cases hz;exact a _ G' H' (k.setPub r hi2) (.refl _)
   .cases hz
  .exact a.elim
noncomputable def tL(K:Frag)(B G0:Hp)(f:M AY):TE:=λσ H Q=>∃G ρ,EOk K B G0 G H σ ρ/\match f ρ with
 |.ok ds ρ'=>∀a vs G' H',EOk K B G0 G' H' σ ρ'->Same G G'->NewL K B G' H' σ ρ' a vs ds->Q (.ref a) H'
 |.bad=>False
noncomputable def Kw(i:Nat)(f:M AY):SM:=sB f λds ρ=>if i<ρ.length then .nx (ρ.set i (O (.own ds)))else .bad
theorem Ej{i:Nat}{x:Str}{f:M AY}{p2:Pos}(hN:X.N.Nodup)(hi:X.N[i]?=O x)(hx:Loc X.env.scope x)(he:PE X e (tL X.K B G0 f))(hs:swapsWith e (O (.Name x p2)) pos.line X.env=pure AX:=by rfl)
  (hf:X.fn x=AW∨X.env.scope.names.lookup x=O .local:=by first|exact .inl rfl|exact .inr rfl|assumption):PS X (.Assign [.Name x p2] e pos) (tS X.K B G0 KX (Kw i f)):=
 Kt (SN hN hi hx he hs hf) λD σ H ⟨G,ρ,k,a⟩=>by
  refine⟨G,ρ,k,?_⟩;unfold Kw sB at a;cases z:f ρ with
  |bad=>rw[z]at a;exact a.elim
  |ok ds ρ1=>
   rw[z]at a;intro ad vs G' H' k' s' n;dsimp only at a;split at a
   .rename_i hl
    exact a _ G' H' (k'.setOwn n hl) s'
   .exact a.elim
theorem NewL.of{K:Frag}{G H:Hp}{σ:St}{ρ:Ut}{p:J5}{vs:List V}{ds:AY}(k:EOk K B G0 G H σ ρ)(hp:H p=AV)(r:Reps K G vs ds):NewL K B G (upd H p (.lst vs)) σ ρ p vs ds where
 b:=k.bh.free hp
 g:=k.gh.free hp
 h:=U8
 r:=r
 f:=λj es q z=>by obtain⟨a,ws,h1,h2,h3,h4,h5⟩:=k.own j es q;rw[z]at h1;cases h1;rw[hp]at h4;cases h4
 dp:=λj pt d v fp q s rr=>k.freshD (KT hp) hp q s rr
theorem Oc{f:M AY}(h:PA X es (tDs X.K B G0 f)):PE X (.List es pos) (tL X.K B G0 (UH f λxs=>if xs.length<=1000000 then Uu xs else λ_=>.bad)):=
 UV (PH h) λσ H Q ⟨G,ρ,k,a⟩=>by
  refine⟨G,ρ,k,?_⟩;unfold UH at a;cases z:f ρ with
  |bad=>rw[z]at a;exact a.elim
  |ok ds ρ1=>
   rw[z]at a;dsimp only at a;intro v G' H' k' s' r;by_cases c:ds.length<=1000000
   .rw[Qn c]at a
    refine⟨by rw[r.length];exact Qv c lim,λp hp=>?_⟩;exact a p v G' _ (k'.ext (Ext.hid k'.gh hp)) s' (NewL.of k' hp r)
   .rw[QD c]at a;exact a.elim
noncomputable def KB(i:Nat)(f:M D):SM:=λρ0=>match ρ0[i]? with
 |some (O (.own _))=>sB f (λd ρ=>match ρ[i]? with
  |some (O (.own ds))=>if ds.length<1000000 then .nx (ρ.set i (O (.own (ds++[d]))))else .bad
  |_=>.bad) ρ0
 |_=>.bad
theorem Gw{i:Nat}{f:M D}{o:J7}{apos cpos:Pos}(ho:PE X o (Kc i))(he:PE X e (tD X.K B G0 f))
  (hbase:attributeBase o "append" X.env (eval o X.env)=eval o X.env:=by rfl)
  (hfew:((backTo cpos (Ua [e] X.env)).all (λx=>!x.1)&&(backToKw cpos (keywordEach [] X.env)).all (λx=>x.1.isSome)
   && decide ([e].length+([]:List Keyword).length+(if([]:List Keyword).isEmpty then 0 else 1)<30))=AW:=by rfl)
  (hline:(apos.endLine==cpos.line)=AW:=by rfl) (hs:Ua [e] X.env=[(AX,eval e X.env)]:=by rfl)
  (hsw:swapsWith (.Call (.Attribute o "append" apos) [e] [] cpos) AV pos.line X.env=pure AX:=by rfl) :
  PS X (.Expr (.Call (.Attribute o "append" apos) [e] [] cpos) pos) (tS X.K B G0 KX (KB i f)):=
 Kt (Vv (R4 PySem.F.plainAttrs_list PySem.F.slot_list_append PySem.F.type_list_append NC ho (Za he Z8 (by rw[hs];rfl)) hbase hfew hline (by rw[hs];rfl) AU) hsw) λD σ H ⟨G,ρ,k,a⟩=>by
  unfold KB at a;cases q0:ρ[i]? with
  |none=>rw[q0]at a;exact a.elim
  |some o0=>
   cases o0 with
   |none=>rw[q0]at a;exact a.elim
   |some sl0=>
    cases sl0 with
    |deep _ _=>rw[q0]at a;exact a.elim
    |pub d=>rw[q0]at a;exact a.elim
    |own qM=>
     rw[q0]at a;obtain⟨ad,vs0,h1,h2,h3,h4,h5⟩:=k.own i qM q0;refine⟨.ref ad,h1,.inl ⟨rfl,_,SqL.of h4⟩,G,ρ,k,?_⟩;unfold sB at a;cases z:f ρ with
     |bad=>rw[z]at a;exact a.elim
     |ok d ρ1=>
      rw[z]at a;dsimp only at a;intro v G' H' k' s' r';cases q:ρ1[i]? with
      |none=>rw[q]at a;exact a.elim
      |some o=>
       cases o with
       |none=>rw[q]at a;exact a.elim
       |some sl=>
        cases sl with
        |deep _ _=>rw[q]at a;exact a.elim
        |pub d=>rw[q]at a;exact a.elim
        |own ds=>
         rw[q]at a;dsimp only at a;split at a
         .rename_i hl
          obtain⟨ad',vs,g1,g2,g3,g4,g5⟩:=k'.own i ds q;rw[h1]at g1;cases g1;refine⟨ad,vs,v,rfl,rfl,g4,by rw[g5.length];exact QG hl lim,?_⟩;exact a σ G' _ (k'.change q h1 (g5.append (.cons r' .nil))) s'
         .exact a.elim
end
structure YM(K:Frag)(J:It)(ds:AY)(G1:Hp):Prop where
 go:∀i G H,Same G1 G->Same G H->i<ds.length->J.go i H
 stop:∀i G H,Same G1 G->Same G H->ds.length<=i->J.stop i H
 yld:∀i G H x H' d,Same G1 G->Same G H->ds[i]?=O d->J.yld i H x H'->∃G',Ext G H G' H'/\Rep K G' x d
noncomputable def iD(K:Frag)(B G0:Hp)(f:M AY):TI:=λσ H R=>∃G ρ,EOk K B G0 G H σ ρ/\match f ρ with
 |.ok ds ρ'=>∀J G' H',EOk K B G0 G' H' σ ρ'->Same G G'->YM K J ds G'->R J H'
 |.bad=>False
section
variable{X:Cx}{B G0:Hp}{KX:XW}{e a b c tg:J7}{pos:Pos}{es rest:A3}{st:Stmt}{sts sts2:List Stmt}
theorem YR{t t':TI}(h:PI X tg e t)(i:∀σ H R,t' σ H R->t σ H R):PI X tg e t':=λpins s σ H R I q=>h pins s σ H R I (i σ H R q)
theorem tM.toI{K:Frag}{α γ:Type}{R0:Hp->γ->α->Prop}{f:M α}{g:α->M AY}{σ:St}{H:Hp}{R:It->Hp->Prop}{P:γ->Hp->Prop}(q:iD K B G0 (UH f g) σ H R)
  (i:∀v H' G' ρ' x,EOk K B G0 G' H' σ ρ'->R0 G' v x->(match g x ρ' with
   |.ok ds ρ2=>∀J G2 H2,EOk K B G0 G2 H2 σ ρ2->Same G' G2->YM K J ds G2->R J H2
   |.bad=>False)->P v H'):tM K B G0 R0 f σ H P:=by
 obtain⟨G,ρ,k,a⟩:=q;refine⟨G,ρ,k,?_⟩;unfold UH at a;cases z:f ρ with
 |bad=>rw[z]at a;exact a.elim
 |ok d ρ1=>
  rw[z]at a;intro v G' H' e s r;refine i v H' G' ρ1 d e r ?_;dsimp only at a;cases z2:g d ρ1 with
  |bad=>rw[z2]at a;exact a.elim
  |ok ds ρ2=>rw[z2]at a;exact λJ G2 H2 k2 s2 it=>a J G2 H2 k2 (s.trans s2) it
theorem BD{K:Frag}{G1:Hp}{ad:J5}{vs:List V}{ds:AY}(h:SqL K G1 ad vs)(r:Reps K G1 vs ds):YM K (Itl K ad) ds G1 where
 go:=λi G H s1 s2 hi=>by
  have hi':i<vs.length:=by rw[r.length];exact hi
  exact⟨vs,vs[i],(s1.trans s2).seq h,Qi hi'⟩
 stop:=λi G H s1 s2 hi=>⟨vs,(s1.trans s2).seq h,by rw[r.length];exact hi⟩
 yld:=λi G H x H' d s1 s2 e y=>by obtain⟨rfl,y⟩:=y;obtain⟨v,e1,r1⟩:=r.get e;have:=y vs ((s1.trans s2).seq h);rw[e1]at this;cases this;exact⟨G,.refl s2,r1.mono s1⟩
noncomputable def K0(lo hi:Int):AY:=(Uc (hi-lo).toNat).map λ(k:Nat)=>.int (lo+k)
theorem WN(lo hi:Int):(K0 lo hi).length=(hi-lo).toNat:=by unfold K0;rw[Qd,Jg]
theorem N0{K:Frag}{G1:Hp}(lo hi:Int):YM K (Itr lo (hi-lo).toNat) (K0 lo hi) G1 where
 go:=λi G H s1 s2 h=>by rw[WN]at h;exact h
 stop:=λi G H s1 s2 h=>by rw[WN]at h;exact h
 yld:=λi G H x H' d s1 s2 e y=>by
  obtain⟨rfl,rfl⟩:=y;unfold K0 at e;rw[Qt]at e;have hi:i<(Uc (hi-lo).toNat).length:=by refine Nat.lt_of_not_le λz=>?_;rw[Jw z]at e;cases e
  rw[Qi hi,List.getElem_range]at e;cases e;exact⟨G,.refl s2,.int _⟩
noncomputable def Vm:AY->Option AY
 |[.int j]=>if j<=1000000 /\ -1000000<=j then O (K0 0 j)else AV
 |_=>AV
noncomputable def Vl:AY->Option AY
 |[.int i,.int j]=>if j<=1000000 /\ -1000000<=j/\i<=1000000 /\ -1000000<=i then O (K0 i j)else AV
 |_=>AV
noncomputable def Wi(f:M AY):M AY:=UH f λx=>UG (Vm x)
noncomputable def VO(f:M AY):M AY:=UH f λx=>UG (Vl x)
theorem CN{f:M AY}{p2:Pos}(hg:Gl X "range")(hm:X.mg "range" = AV)(ha:PA X [a] (tDs X.K B G0 f))(hs:Ua [a] X.env=[(AX,eval a X.env)]:=by rfl) :
  PI X tg (.Call (.Name "range" p2) [a] [] pos) (iD X.K B G0 (Wi f)):=YR (BJ hg hm ha hs) λσ H R q=>tM.toI (R0:=Reps X.K) q λv H' G' ρ' x k r a=>by
 cases z:Vm x with
 |none=>rw[z]at a;exact a.elim
 |some ds=>
  rw[z]at a;unfold Vm at z;split at z
  .split at z
   .rename_i j c
    cases z;obtain⟨w,rfl,r'⟩:=r.one_inv;refine⟨j,by rw[r'.int_inv],by lia,by lia,?_⟩;have it:=N0 (K:=X.K) (G1:=G') 0 j;rw[Int.sub_zero]at it;exact a _ G' H' k (.refl _) it
   .cases z
  .cases z
theorem CM{f:M AY}{p2:Pos}(hg:Gl X "range")(hm:X.mg "range" = AV)(ha:PA X [a,b] (tDs X.K B G0 f))(hs:Ua [a,b] X.env=[(AX,eval a X.env),(AX,eval b X.env)]:=by rfl)(hs2:Ua [b] X.env=[(AX,eval b X.env)]:=by rfl) :
  PI X tg (.Call (.Name "range" p2) [a,b] [] pos) (iD X.K B G0 (VO f)):=YR (BI hg hm ha hs hs2) λσ H R q=>tM.toI (R0:=Reps X.K) q λv H' G' ρ' x k r a=>by
 cases z:Vl x with
 |none=>rw[z]at a;exact a.elim
 |some ds=>
  rw[z]at a;unfold Vl at z;split at z
  .split at z
   .rename_i i j c
    cases z;obtain⟨w,w',rfl,r1,r2⟩:=r.two_inv;refine⟨i,j,by rw[r1.int_inv,r2.int_inv],⟨by lia,by lia,by lia,by lia⟩,?_⟩;exact a _ G' H' k (.refl _) (N0 i j)
   .cases z
  .cases z
noncomputable def Z1(n:Nat):AY->AY
 |[]=>[]
 |d::r=>.tuple [.int n,d]::Z1 (n+1) r
theorem RL:∀(n:Nat)(ds:AY),(Z1 n ds).length=ds.length
 |_,[]=>rfl
 |n,d::r=>by rw[Z1,QK,QK,RL]
theorem NA:∀(n:Nat)(ds:AY)(i:Nat),(Z1 n ds)[i]?=ds[i]?.map λd=>.tuple [.int ((n+i:Nat):Int),d]
 |_,[],i=>by simp[Z1]
 |n,d::r,0=>by simp[Z1]
 |n,d::r,i+1=>by
  rw[Z1,JK,JK,NA (n+1) r i];have:n+1+i=n+(i+1):=by lia
  rw[this]
theorem BC{K:Frag}{G1:Hp}{ad:J5}{vs:List V}{ds:AY}(h:SqL K G1 ad vs)(r:Reps K G1 vs ds):YM K (Ite K ad) (Z1 0 ds) G1 where
 go:=λi G H s1 s2 hi=>by
  rw[RL]at hi;have hi':i<vs.length:=by rw[r.length];exact hi
  exact⟨vs,vs[i],(s1.trans s2).seq h,Qi hi'⟩
 stop:=λi G H s1 s2 hi=>by rw[RL]at hi;exact⟨vs,(s1.trans s2).seq h,by rw[r.length];exact hi⟩
 yld:=λi G H x H' d s1 s2 e y=>by
  obtain⟨p,v,hp,rfl,y,rfl⟩:=y;rw[NA]at e;cases z:ds[i]? with
  |none=>rw[z]at e;cases e
  |some d0=>rw[z]at e;cases e;obtain⟨w,e1,r1⟩:=r.get z;have:=y vs ((s1.trans s2).seq h);rw[e1]at this;cases this;refine⟨upd G p (.tup [.int i,v]),Ext.new s2 hp,.tup (SqT.of U8) (.cons ?_ (.cons ((r1.mono s1).mono (KT (s2.free hp))) .nil))⟩;rw[Nat.zero_add];exact .int _
noncomputable def VN:AY->Option AY
 |[.list ds]=>O (Z1 0 ds)
 |_=>AV
noncomputable def WB(f:M AY):M AY:=UH f λx=>UG (VN x)
theorem Ei{f:M AY}{p2:Pos}{elts:A3}{x1}{tp:Pos}(hg:Gl X "enumerate")(hm:X.mg "enumerate" = AV)(ha:PA X [a] (tDs X.K B G0 f))(hs:Ua [a] X.env=[(AX,eval a X.env)]:=by rfl) :
  PI X (.Tuple elts x1 tp) (.Call (.Name "enumerate" p2) [a] [] pos) (iD X.K B G0 (WB f)):=YR (F3 hg hm ha hs) λσ H R q=>tM.toI (R0:=Reps X.K) q λv H' G' ρ' x k r a=>by
 cases z:VN x with
 |none=>rw[z]at a;exact a.elim
 |some ds=>
  rw[z]at a;unfold VN at z;split at z
  .cases z
   obtain⟨w,rfl,r'⟩:=r.one_inv;obtain⟨ad,vs,rfl,h1,r1⟩:=r'.lst_inv;exact⟨ad,vs,rfl,k.gh.seq h1,a _ G' H' k (.refl _) (BC h1 r1)⟩
  .cases z
noncomputable def Y2(s:D->Ut->A6)(g:SM):AY->SM
 |[],ρ=>.nx ρ
 |d::r,ρ=>match s d ρ with
  |none=>.bad
  |some ρ1=>match g ρ1 with
   |.nx ρ2=>Y2 s g r ρ2
   |.ct ρ2=>Y2 s g r ρ2
   |.bk ρ2=>.nx ρ2
   |.rt d=>.rt d
   |.ro ds=>.ro ds
   |.ex ρ2 d=>.ex ρ2 d
   |.bad=>.bad
noncomputable def Ks(f:M AY)(s:D->Ut->A6)(g:SM):SM:=sB f λds=>Y2 s g ds
theorem Gv{iter:J7}{body:List Stmt}{f:M AY}{s:D->Ut->A6}{g:SM}(hp:PassesOwn (model X.prog X.w) X.A X.env X.xe)(hc:X.calm=AW)(hi:PI X tg iter (iD X.K B G0 f))(hg:PG X tg (tG X.K B G0 s))(hb:PSs X body (tS X.K B G0 KX g))
  (hs:∀x,Ur iter X.env x=pure x:=by intro _;rfl):PS X (.For tg iter body [] pos) (tS X.K B G0 KX (Ks f s g)):=
 Kt (HM hp hc hi hg hb hs) λDn σ H ⟨G,ρ,k,a⟩=>by
  refine⟨G,ρ,k,?_⟩;unfold Ks sB at a;cases z:f ρ with
  |bad=>rw[z]at a;exact a.elim
  |ok ds ρ1=>
   rw[z]at a;dsimp only at a⊢;intro J G1 H1 k1 s1 it;refine⟨λi m σ' H'=>m=ds.length-i/\∃G' ρ',EOk X.K B G0 G' H' σ' ρ'/\Same G1 G'/\aftS X.K B G0 KX (Y2 s g (ds.drop i) ρ') G' Dn,⟨ds.length,by lia,G1,ρ1,k1,.refl _,by rw[List.drop_zero];exact aftS.mono s1 a⟩,?_⟩;rintro i m σ' H' ⟨rfl,G',ρ',k',s',a'⟩;by_cases hi:i<ds.length
   .right
    refine⟨it.go i G' H' s' k'.gh hi,λσ2 H2=>∃G2 ρ2,EOk X.K B G0 G2 H2 σ2 ρ2/\Same G1 G2/\aftS X.K B G0 KX (Y2 s g (ds.drop (i+1)) ρ2) G2 Dn,λσ2 H2 h2=>⟨ds.length-(i+1),by lia,rfl,h2⟩,λx H2 y=>?_⟩;obtain⟨G2,ex,rx⟩:=it.yld i G' H' x H2 ds[i] s' k'.gh (Qi hi) y;rw[List.drop_eq_getElem_cons hi,Y2]at a';cases z2:s ds[i] ρ' with
    |none=>rw[z2]at a';exact a'.elim
    |some ρ2=>
     rw[z2]at a';dsimp only at a';refine⟨G2,ρ',ds[i],ρ2,k'.ext ex,rx,z2,λσ3 G3 H3 k3 s3=>⟨G3,ρ2,k3,?_⟩⟩;have s13:Same G1 G3:=(s'.trans ex.g).trans s3;cases z3:g ρ2 with
     |nx ρ3=>rw[z3]at a';exact λσ4 G4 H4 k4 s4=>⟨G4,ρ3,k4,s13.trans s4,aftS.mono ((ex.g.trans s3).trans s4) a'⟩
     |ct ρ3=>rw[z3]at a';exact λσ4 G4 H4 k4 s4=>⟨G4,ρ3,k4,s13.trans s4,aftS.mono ((ex.g.trans s3).trans s4) a'⟩
     |bk ρ3=>rw[z3]at a';exact λσ4 G4 H4 k4 s4=>a' σ4 G4 H4 k4 ((ex.g.trans s3).trans s4)
     |rt d=>rw[z3]at a';exact a'
     |ro ds=>rw[z3]at a';exact a'
     |ex ρ3 d=>rw[z3]at a';exact λv σ4 G4 H4 k4 s4 r4=>a' v σ4 G4 H4 k4 ((ex.g.trans s3).trans s4) r4
     |bad=>rw[z3]at a';exact a'.elim
   .left
    rw[List.drop_eq_nil_of_le (by lia)]at a';exact⟨it.stop i G' H' s' k'.gh (by lia),a' σ' G' H' k' (.refl _)⟩
theorem DV{k:Nat}{f:J5}{fd:J6}{ps:List Str}{F:AY->A4}{g:M AY}{x:Str}{p2:Pos}{n:Nat}(FK:FnOk X.prog X.w X.K X.mg X.base CX0 k f fd ps (spD X.K n F))(hr:Room k X.A)(hg:Gl X x)(hm:X.mg x=O (.ref f))(hk:PySem.W.keepIn X.K (.ref f)=AW)
  (hb:Zi X.K fd ps []) (ha:PA X (e::es) (tDs X.K B G0 g)) (hn:(e::es).length=n) (hdb:(x==("__debug__" : Str))=AX:=by decide) (he:Ua (e::es) X.env=(AX,eval e X.env)::Ua es X.env:=by rfl) (hpl:(backTo pos (Ua es X.env)).any (·.1)=AX:=by rfl) :
  PE X (.Call (.Name x p2) (e::es) [] pos) (tD X.K B G0 (UH g λxs=>if xs.length=n then UG (F xs)else λ_=>.bad)):=
 UV (OA FK hr hg hm hk hb .nil SB ha hdb he hpl) λσ H Q q=>tM.one (R:=Reps X.K) q λv H2 G ρ ds k r a=>by
  split at a
  .rename_i hl
   obtain⟨d,e,a⟩:=a.opt;exact⟨G,ds,d,by rw[Q1,r.length];exact hl,k.gh,by rw[Q1];exact r,e,λw G' H' ex rw=>a.done k ex rw⟩
  .exact a.elim
end
noncomputable def KU(N:List Str)(ds:AY):Ut:=(ds.map λd=>O (Sl.pub d))++Ud (N.length-ds.length) AV
theorem Rt{K:Frag}{N:List Str}{G H:Hp}{vs:List V}{ds:AY}(s:Same G H)(r:Reps K G vs ds):EOk K H G G H (L2.Z2 N vs) (KU N ds) where
 bh:=.refl _
 gh:=s
 g0:=.refl _
 np:=λ_ _ _ n=>n
 len:=by unfold L2.Z2 KU;rw[Qk,Qk,Qd,Qd,QU,QU,r.length]
 pub:=λi d q=>by
  unfold KU at q;unfold L2.Z2;by_cases hi:i<ds.length
  .rw[Qs (by rw[Qd];exact hi),Qt]at q
   cases z:ds[i]? with
   |none=>rw[z]at q;cases q
   |some d'=>rw[z]at q;cases q;obtain⟨v,e1,r1⟩:=r.get z;refine⟨v,?_,r1⟩;rw[Qs (by rw[Qd,r.length];exact hi),Qt,e1];rfl
  .rw[Qu (by rw[Qd];lia),QB]at q
   split at q<;>cases q
 own:=λi es q=>by
  unfold KU at q;by_cases hi:i<ds.length
  .rw[Qs (by rw[Qd];exact hi),Qt]at q
   cases z:ds[i]? with
   |none=>rw[z]at q;cases q
   |some d'=>rw[z]at q;cases q
  .rw[Qu (by rw[Qd];lia),QB]at q
   split at q<;>cases q
 sep:=λi j a es fs q _ _ _=>by
  unfold KU at q;by_cases hi:i<ds.length
  .rw[Qs (by rw[Qd];exact hi),Qt]at q
   cases z:ds[i]? with
   |none=>rw[z]at q;cases q
   |some d'=>rw[z]at q;cases q
  .rw[Qu (by rw[Qd];lia),QB]at q
   split at q<;>cases q
 dp:=by
  have key:∀{i:Nat}{s:Sl},(KU N ds)[i]?=O (O s)->∃d,s=.pub d:=λ{i s} q=>by
   unfold KU at q;by_cases hi:i<ds.length
   .rw[Qs (by rw[Qd];exact hi),Qt]at q
    cases z:ds[i]? with
    |none=>rw[z]at q;cases q
    |some d'=>rw[z]at q;cases q;exact⟨_,rfl⟩
   .rw[Qu (by rw[Qd];lia),QB]at q
    split at q<;>cases q
  exact .of (λi p d q=>by obtain⟨_,e⟩:=key q;cases e) λi ds q=>by obtain⟨_,e⟩:=key q;cases e
noncomputable def UY(N:List Str)(g:SM)(ds:AY):A4:=match g (KU N ds)with
 |.rt d=>O d
 |.nx _=>O .none
 |_=>AV
theorem okD{P:J4}{w:World}{K:Frag}{mg:Str->A1}{base:Heap}{x qual:Str}{st:Stmt}{f:J5}{fd:J6}{N ps:List Str}{k n:Nat}{g:SM}(F:Fun K x qual st f fd)(S:Xr N ps (Ki st))(hn:ps.length=n)
  (der:∀(cdv:JZ)(A:Around)(outer:List Env)(s:J0)(H:Hp)(E:XK)(B G0:Hp),Room k (A.deeper (envOfC qual (Ki st) s.heap.objs.size f cdv)) ->
   PSs (Kv CX0 P w K mg base N qual (Ki st) f cdv A outer s H E).nox (K9 st) (tS K B G0 KX0 g)):FnOk P w K mg base CX0 (k+1) f fd ps (spD K n (UY N g)):=by
 refine F.ok S (λvs H Q E h=>?_) (λcdv A outer s H vs Q E hr h=>?_)
 .obtain⟨_,_,_,hl,_⟩:=h
  rw[hl,hn]
 .obtain⟨G,ds,d,hl,sg,r,hF,q⟩:=h
  refine⟨_,der cdv A outer s H E H G hr,G,KU N ds,Rt sg r,?_⟩;unfold UY at hF;cases z:g (KU N ds)with
  |rt d'=>rw[z]at hF;cases hF;exact λv G' H' ex rr=>q v G' H' ex rr
  |nx ρ=>rw[z]at hF;cases hF;exact λσ' G' H' k' _=>q .non G' H' k'.exit .non
  |ro ds=>rw[z]at hF;cases hF
  |bk ρ=>rw[z]at hF;cases hF
  |ct ρ=>rw[z]at hF;cases hF
  |ex ρ d=>rw[z]at hF;cases hF
  |bad=>rw[z]at hF;cases hF
section
variable{X:Cx}{B G0:Hp}{e a b c tg:J7}{pos:Pos}{es rest:A3}
noncomputable def oNeg:D->A4
 |.int i=>O (.int (-i))
 |_=>AV
noncomputable def Zf(f:M D):M D:=UH f λx=>UG (oNeg x)
theorem Eh{f:M D}(h:PE X a (tD X.K B G0 f)):PE X (.UnaryOp .USub a pos) (tD X.K B G0 (Zf f)):=
 UV (Hr HG h) λσ H Q q=>tM.one (R:=Rep X.K) q λv H2 G ρ x k r a=>by
  cases x with
  |int i=>exact⟨i,r.int_inv,aft.now a k (.int _)⟩
  |_=>exact a.elim
end
def Def(P:J4)(w:World)(K:Frag)(mg:Str->A1)(base:Heap)(x:Str)(k n:Nat)(F:AY->A4):Prop:=
 ∃(f:J5)(fd:J6)(ps:List Str),mg x=O (.ref f)/\PySem.W.keepIn K (.ref f)=AW/\Zi K fd ps []/\FnOk P w K mg base CX0 k f fd ps (spD K n F)
noncomputable def UK(n:Nat)(F:AY->A4)(g:M AY):M D:=UH g λxs=>if xs.length=n then UG (F xs)else λ_=>.bad
section
variable{X:Cx}{B G0:Hp}{e:J7}{pos:Pos}{es:A3}
theorem Eg{k n:Nat}{F:AY->A4}{g:M AY}{x:Str}{p2:Pos}(d:Def X.prog X.w X.K X.mg X.base x k n F)(hr:Room k X.A)(hg:Gl X x)(ha:PA X (e::es) (tDs X.K B G0 g))(hn:(e::es).length=n:=by rfl)
  (hdb:(x==("__debug__" : Str))=AX:=by decide) (he:Ua (e::es) X.env=(AX,eval e X.env)::Ua es X.env:=by rfl) (hpl:(backTo pos (Ua es X.env)).any (·.1)=AX:=by rfl) :
  PE X (.Call (.Name x p2) (e::es) [] pos) (tD X.K B G0 (UK n F g)):=by
 obtain⟨f,fd,ps,h1,h2,h3,h4⟩:=d;exact DV h4 hr hg h1 h2 h3 ha hn hdb he hpl
end
theorem Def.mk{P:J4}{w:World}{K:Frag}{mg:Str->A1}{base:Heap}{x:Str}{k n:Nat}{F:AY->A4}{st:Stmt}{f:J5}{fd:J6}{ps:List Str}(hm:mg x=O (.ref f))(FU:Fun K x x st f fd)(hb:Zi K fd ps [])(ok:FnOk P w K mg base CX0 k f fd ps (spD K n F)) :
  Def P w K mg base x k n F:=⟨f,fd,ps,hm,FU.kp,hb,ok⟩
theorem Gu{K:Frag}{H:Hp}{a:J5}{ns:A0}{F:AY->A4}{E:XK}(hS:SqL K H a (ns.map V.int))(h:F [.list (ns.map int)]=O (.bool AW)):spD K 1 F [.ref a] H (λv _=>v=.bl AW) E:=
 ⟨H,[.list (ns.map int)],.bool AW,rfl,.refl _,.cons (.lst hS (Reps.ints ns)) .nil,h,λ_ _ _ _ r=>r.bl_inv⟩
end DL
namespace L2
open PySem PySem.Spec PyProof.Rows
theorem mem_of_lookup{x:Str}{k:NameKind}:∀{l:List (Str×NameKind)},l.lookup x=O k->(x,k)∈l
 |[],h=>by cases h
 |(y,j)::r,h=>by
  rw[QQ]at h;split at h
  .rename_i e
   cases h;have:x=y:=by simpa using e
   rw[this];exact Qp
  .exact Qo _ (mem_of_lookup h)
theorem RE{env:Env}:∀(l:List (Str×NameKind))(acc:List (Str×J5)),(∀y∈l,y.2=.free->∃c,env.cells.lookup y.1=O c) ->
  ∃cl,(forIn l acc (λx r=>if(x.2==NameKind.free)=AW then(do let a ←cellOf env x.1;pure (ForInStep.yield ((x.1,a)::r)))else pure (ForInStep.yield r)):Sem (List (Str×J5)))=pure cl /\
   (∀x c,cl.lookup x=O c->acc.lookup x=O c∨env.cells.lookup x=O c)/\(∀y∈l,y.2=.free->∃c,cl.lookup y.1=O c)/\(∀x c,acc.lookup x=O c->∃c',cl.lookup x=O c')
 |[],acc,_=>⟨acc,rfl,λ_ _ h=>.inl h,λ_ h=>absurd h (by simp),λx c h=>⟨c,h⟩⟩
 |(n,k)::r,acc,h=>by
  by_cases hk:k=.free
  .subst hk
   obtain⟨c,hc⟩:=h (n,.free) Qp AU;obtain⟨cl,e,p1,p2,p3⟩:=RE r ((n,c)::acc) λy hy=>h y (Qo _ hy)
   have hco:cellOf env n=pure c:=by unfold cellOf;rw[hc]
   have key:∀x c',((n,c)::acc).lookup x=O c'->acc.lookup x=O c'∨env.cells.lookup x=O c':=λx c' q=>by
    rw[QQ]at q;split at q
    .rename_i e1
     cases q;have:x=n:=by simpa using e1
     subst this;exact .inr hc
    .exact .inl q
   have own:((n,c)::acc).lookup n=O c:=by rw[List.lookup_cons];simp
   refine⟨cl,?_,λx c' q=>?_,λy hy hf=>?_,λx c' q=>?_⟩
   .rw[List.forIn_cons]
    have:(if(((n,NameKind.free):Str×NameKind).2==NameKind.free)=AW then(do let a ←cellOf env n;pure (ForInStep.yield ((n,a)::acc)))else pure (ForInStep.yield acc):Sem _)=pure (ForInStep.yield ((n,c)::acc)):=by rw[Qn (show((n,NameKind.free).snd==NameKind.free)=AW from rfl),hco];rfl
    refine Eq.trans ?_ e;dsimp only at this⊢;rw[this];rfl
   .rcases p1 x c' q with z|z
    .exact key x c' z
    .exact .inr z
   .rcases QM.mp hy with z|z
    .subst z
     exact p3 n c own
    .exact p2 y z hf
   .by_cases hx:x=n
    .subst hx;exact p3 x c own
    .refine p3 x c' ?_
     have hb:(x==n)=AX:=by simpa using hx
     rw[QQ,hb];exact q
  .obtain⟨cl,e,p1,p2,p3⟩:=RE r acc λy hy=>h y (Qo _ hy)
   refine⟨cl,?_,p1,λy hy hf=>?_,p3⟩
   .rw[List.forIn_cons]
    have hb:(k==NameKind.free)=AX:=by cases k<;>first|rfl|exact absurd AU hk
    refine Eq.trans ?_ e;dsimp only;rw[hb,QD (by decide)];rfl
   .rcases QM.mp hy with z|z
    .subst z;exact absurd hf hk
    .exact p2 y z hf
theorem BB{scope:Scope}{env:Env}(h:∀y∈scope.names,y.2=.free->∃c,env.cells.lookup y.1=O c) :
  ∃cl,closureFor scope env=pure cl/\(∀x c,cl.lookup x=O c->env.cells.lookup x=O c)/\∀y∈scope.names,y.2=.free->∃c,cl.lookup y.1=O c:=by
 obtain⟨cl,e,p1,p2,_⟩:=RE scope.names [] h;refine⟨cl,?_,λx c q=>(p1 x c q).elim (λz=>by cases z) id,p2⟩;have e2:((forIn scope.names [] (λx r=>if(x.2==NameKind.free)=AW then(do let a ←cellOf env x.1;pure (ForInStep.yield ((x.1,a)::r)))else pure (ForInStep.yield r)):Sem (List (Str×J5))) >>= λs=>pure s)=pure cl:=by rw[e];rfl
 exact e2
theorem NZ{env:Env}{x:Str}{k:NameKind}:∀{names:List (Str×NameKind)},(names.map λ(n,k)=>if(k==NameKind.free&&env.scope.kind==.function&&env.kindOf n==O .cell)then(n,NameKind.cell)else(n,k)).lookup x=O k ->
  names.lookup x=O k∨(names.lookup x=O .free/\k=.cell)
 |[],h=>by cases h
 |(n,j)::r,h=>by
  have ih:=@NZ env x k r;have h:List.lookup x ((if(j==NameKind.free&&env.scope.kind==.function&&env.kindOf n==O .cell)=AW then(n,NameKind.cell)else(n,j))::_)=O k:=h;cases hx:x==n with
  |true=>
   by_cases hc:(j==NameKind.free&&env.scope.kind==.function&&env.kindOf n==O .cell)=AW
   .rw[Qn hc]at h
    simp only[QQ,hx]at h⊢;cases h;simp only[Qm]at hc;have:j=.free:=by have:=hc.1.1;cases j<;>first|rfl|cases this
    subst this;exact .inr ⟨rfl,rfl⟩
   .rw[QD hc]at h
    simp only[QQ,hx]at h⊢;exact .inl h
  |false=>
   by_cases hc:(j==NameKind.free&&env.scope.kind==.function&&env.kindOf n==O .cell)=AW
   .rw[Qn hc]at h
    simp only[QQ,hx]at h⊢;exact ih h
   .rw[QD hc]at h
    simp only[QQ,hx]at h⊢;exact ih h
theorem RK{env:Env}{x:Str}:∀{names:List (Str×NameKind)},names.lookup x=O .free ->
  (names.map λ(n,k)=>if(k==NameKind.free&&env.scope.kind==.function&&env.kindOf n==O .cell)then(n,NameKind.cell)else(n,k)).lookup x=O .free ∨
  (names.map λ(n,k)=>if(k==NameKind.free&&env.scope.kind==.function&&env.kindOf n==O .cell)then(n,NameKind.cell)else(n,k)).lookup x=O .cell
 |[],h=>by cases h
 |(n,j)::r,h=>by
  have ih:=@RK env x r;show List.lookup x ((if(j==NameKind.free&&env.scope.kind==.function&&env.kindOf n==O .cell)=AW then(n,NameKind.cell)else(n,j))::_)=_∨List.lookup x ((if(j==NameKind.free&&env.scope.kind==.function&&env.kindOf n==O .cell)=AW then(n,NameKind.cell)else(n,j))::_)=_;cases hx:x==n with
  |true=>
   simp only[QQ,hx]at h;cases h;by_cases hc:(NameKind.free==NameKind.free&&env.scope.kind==.function&&env.kindOf n==O .cell)=AW
   .rw[if_pos hc];simp[List.lookup_cons,hx]
   .rw[if_neg hc];simp[List.lookup_cons,hx]
  |false=>
   simp only[QQ,hx]at h;by_cases hc:(j==NameKind.free&&env.scope.kind==.function&&env.kindOf n==O .cell)=AW
   .rw[Qn hc];simp only[QQ,hx];exact ih h
   .rw[QD hc];simp only[QQ,hx];exact ih h
theorem Wp{env:Env}{x:Str}{k:NameKind}(hk:k≠.free):∀{names:List (Str×NameKind)},names.lookup x=O k ->
  (names.map λ(n,k)=>if(k==NameKind.free&&env.scope.kind==.function&&env.kindOf n==O .cell)then(n,NameKind.cell)else(n,k)).lookup x=O k
 |[],h=>by cases h
 |(n,j)::r,h=>by
  have ih:=@Wp env x k hk r;show List.lookup x ((if(j==NameKind.free&&env.scope.kind==.function&&env.kindOf n==O .cell)=AW then(n,NameKind.cell)else(n,j))::_)=_;cases hx:x==n with
  |true=>
   simp only[QQ,hx]at h;cases h;have:(k==NameKind.free)=AX:=by cases k<;>first|rfl|exact absurd AU hk
   rw[if_neg (by rw[this];simp)];simp[List.lookup_cons,hx]
  |false=>
   simp only[QQ,hx]at h;by_cases hc:(j==NameKind.free&&env.scope.kind==.function&&env.kindOf n==O .cell)=AW
   .rw[Qn hc];simp only[QQ,hx];exact ih h
   .rw[QD hc];simp only[QQ,hx];exact ih h
structure ClOk(env:Env)(scope:Scope)(cl:List (Str×J5))(L:J5)(h':Heap):Prop where
 old:∀x c,cl.lookup x=O c->env.cells.lookup x=O c∨(L<c/\h'.IsCell c AV)
 fre:∀x,scope.names.lookup x=O .free->∃c,cl.lookup x=O c/\env.cells.lookup x=O c
 cel:∀x,scope.names.lookup x=O .cell->∃c,cl.lookup x=O c/\L<c
 inj:∀x y c,cl.lookup x=O c->cl.lookup y=O c->L<c->x=y
theorem Tg:∀(names:List (Str×NameKind))(n:Nat)(acc:List (Str×J5)),cellsFrom n names acc=cellsFrom n names []++acc
 |[],_,_=>rfl
 |(x,k)::r,n,acc=>by
  unfold cellsFrom;split
  .rw[Tg r (n+1) ((x,n)::acc),Tg r (n+1) [(x,n)],Jr];rfl
  .exact Tg r n acc
theorem RI:∀(names:List (Str×NameKind))(n:Nat)(x:Str)(c:J5),(x,c)∈cellsFrom n names []->(x,NameKind.cell)∈names
 |[],_,_,_,h=>by cases h
 |(y,k)::r,n,x,c,h=>by
  unfold cellsFrom at h;split at h
  .rename_i hk
   rw[Tg]at h;rcases Jd.mp h with h|h
   .exact Qo _ (RI r _ x c h)
   .cases QX.mp h
    have:k=.cell:=by simpa using hk
    rw[this];exact Qp
  .exact Qo _ (RI r _ x c h)
theorem Gs{M:Model}{A:Around}{E:JZ->J0->Prop}{scope:Scope}{env:Env}{jt:List (Str×J5)}{s:J0}{Q:Env->J0->Prop}(js:∀x c,jt.lookup x=O c->env.cells.lookup x=O c)(cl2:∀y∈scope.names,y.2=.free->∃c,jt.lookup y.1=O c)(hn:∀y∈scope.names,scope.names.lookup y.1=O y.2)
  (hlt:∀x c,env.cells.lookup x=O c->c<s.heap.objs.size)
  (h:∀h' cl,h'.Ns s.heap.objs.size (λ_=>AV)->(∀b o,s.heap.get? b=O o->h'.get? b=O o)->ClOk env scope cl s.heap.objs.size h'->Q (newEnv scope s.heap.objs.size env.globals cl env.qual AV .none (O env) builtinsNs) {s with heap:=h'}) :
  J9 M A (newFunctionEnv scope env.globals jt [] env.qual AV .none (O env)) Q E s:=by
 simp only[newFunctionEnv,Option.isSome_some,if_true];refine Qb (wpAny_alloc ?_);refine wpAny_bind (wpAny_layCells _ (λname kind cells=>by cases hkc:kind==NameKind.cell<;>simp[hkc]) _ _ _ _ ?_);have ok:=cellsFrom_ok scope.names (s.heap.push {cls:=.type "dict", data:=.dict #[]}) (s.heap.objs.size+1) [] ⟨λ_ _ hm=>(nomatch hm),List.Pairwise.nil⟩ (by rw[JA];exact Qq _);rw[JA]at ok;rw[show({s with heap:=s.heap.push {cls:=.type "dict", data:=.dict #[]}}:J0).heap.objs.size=s.heap.objs.size+1 from JA ..];rw[List.forIn_nil];refine Qb (Qf (Qf (h _ _ ((Heap.Ns.new s.heap (.type "dict")).keeps (pushCells_keeps _ _)) (λb o e=>pushCells_keeps _ _ b o (Qe _ e)) ?_)));have look:∀x,(cellsFrom (s.heap.objs.size+1) scope.names jt).lookup x=((cellsFrom (s.heap.objs.size+1) scope.names []).lookup x).or (jt.lookup x):=λx=>by rw[Tg,List.lookup_append]
 have own:∀x c,(cellsFrom (s.heap.objs.size+1) scope.names []).lookup x=O c->scope.names.lookup x=O .cell:=λx c e=>hn _ (RI _ _ _ _ (Q8 e))
 refine⟨λx c e=>?_,λx e=>?_,λx e=>?_,λx y c e1 e2 hc=>?_⟩
 .rw[look]at e
  cases z:(cellsFrom (s.heap.objs.size+1) scope.names []).lookup x with
  |none=>rw[z]at e;exact .inl (js x c e)
  |some c'=>rw[z]at e;cases e;obtain⟨h1,h2⟩:=ok.empty x c (Q8 z);exact .inr ⟨h2,h1⟩
 .obtain⟨c,hc⟩:=cl2 (x,.free) (mem_of_lookup e) AU
  refine⟨c,?_,js x c hc⟩;rw[look];cases z:(cellsFrom (s.heap.objs.size+1) scope.names []).lookup x with
  |none=>exact hc
  |some c'=>have:=own x c' z;rw[e]at this;cases this
 .obtain⟨c,hc⟩:=Rv (n:=s.heap.objs.size+1) e
  refine⟨c,by rw[look,hc];rfl,(ok.empty x c (Q8 hc)).2⟩
 .rw[look]at e1 e2
  cases z1:(cellsFrom (s.heap.objs.size+1) scope.names []).lookup x with
  |none=>rw[z1]at e1;exact absurd (hlt x c (js x c e1)) (Nat.lt_asymm hc)
  |some c1=>
  cases z2:(cellsFrom (s.heap.objs.size+1) scope.names []).lookup y with
  |none=>rw[z2]at e2;exact absurd (hlt y c (js y c e2)) (Nat.lt_asymm hc)
  |some c2=>rw[z1]at e1;rw[z2]at e2;cases e1;cases e2;exact name_of_addr ok.apart (Q8 z1) (Q8 z2)
noncomputable def Cx.blk(X:Cx)(N':List Str)(scope:Scope)(cl:List (Str×J5))(C:J5)(s₀:J0)(H₀:Hp)(ex:A5):Cx:=
 {X with N:=N',s₀:=s₀,H₀:=H₀,env:=compEnvC scope cl C X.env,outer:=X.stack,ex:=ex,fn:=λx=>scope.names.lookup x==O .cell,xe:=λ_ _=>False}
section
variable{X:Cx}{N':List Str}{scope:Scope}{cl:List (Str×J5)}{C:J5}{s₀:J0}{H₀:Hp}{ex:A5}{x:Str}
noncomputable def visK:Option NameKind->Bool
 |some .local=>AW|some .free=>AW|some .cell=>AW|_=>AX
theorem Ef(h:visK (scope.names.lookup x)=AW):Vis (X.blk N' scope cl C s₀ H₀ ex).env.scope x:=by
 cases z:scope.names.lookup x with
 |none=>rw[z]at h;cases h
 |some y=>
  rw[z]at h;cases y with
  | «local»=>exact .inl (Wp (by decide) z)
  |cell=>exact .inr (.inl (Wp (by decide) z))
  |free=>
   rcases RK (env:=X.env) z with z|z
   .exact .inr (.inr z)
   .exact .inr (.inl z)
  |_=>cases h
noncomputable def locK:Option NameKind->Bool
 |some .local=>AW|some .cell=>AW|_=>AX
theorem Ob(h:locK (scope.names.lookup x)=AW):Loc (X.blk N' scope cl C s₀ H₀ ex).env.scope x/\((X.blk N' scope cl C s₀ H₀ ex).fn x=AW∨(X.blk N' scope cl C s₀ H₀ ex).env.scope.names.lookup x=O .local):=by
 cases z:scope.names.lookup x with
 |none=>rw[z]at h;cases h
 |some y=>
  rw[z]at h;cases y with
  | «local»=>exact⟨.inl (Wp (by decide) z),.inr (Wp (by decide) z)⟩
  |cell=>exact⟨.inr (Wp (by decide) z),.inl (by show(scope.names.lookup x==O .cell)=AW;rw[z];rfl)⟩
  |_=>cases h
theorem Gr(h:scope.names.lookup x=O .globalImplicit):Gl (X.blk N' scope cl C s₀ H₀ ex) x:=Wp (by decide) h
end
noncomputable def Ta(names:List (Str×NameKind))(N N2:List Str)(k:Nat):Bool:=
 N2.length==N.length+k&&(Uc N2.length).all λi=>match N2[i]? with
  |none=>AW
  |some x=>match names.lookup x with
   |some .free=>N[i]?==O x
   |some .local=>decide (N.length<=i)&&decide (i<N.length+k)
   |some .cell=>decide (N.length<=i)&&decide (i<N.length+k)
   |_=>AW
theorem AE{names:List (Str×NameKind)}{N N2:List Str}{k:Nat}(h:Ta names N N2 k=AW) :
  N2.length=N.length+k/\∀(i:Nat) x,N2[i]?=O x->(names.lookup x=O .free->N[i]?=O x)/\(names.lookup x=O .local∨names.lookup x=O .cell->N.length<=i/\i<N.length+k):=by
 unfold Ta at h;simp only[Qm,beq_iff_eq,QR,Jj]at h;refine⟨h.1,λi x e=>?_⟩;have hi:=(Qr.mp e).1;have:=h.2 i hi;rw[e]at this;refine⟨λq=>?_,λq=>?_⟩
 .simp only[q]at this
  simpa using this
 .rcases q with q|q<;>(simp only[q]at this;simpa using this)
theorem Inv.enter{X:Cx}{pins:List (J5×Obj)}{σ:St}{H:Hp}{s3:J0}(I:Inv X pins σ H s3){scope:Scope}{cl:List (Str×J5)}{N2:List Str}{k:Nat}{h':Heap}{fp:A5}{t':Nat}{m0:Str->A1}
  (hb:Ta scope.names X.N N2 k=AW) (hkind:scope.kind=.function)
  (hfree:∀y∈scope.names,y.2=.free->X.env.scope.names.lookup y.1=O .cell∨X.env.scope.names.lookup y.1=O .free)
  (hc:ClOk X.env scope cl s3.heap.objs.size h')
  (hn:h'.Ns s3.heap.objs.size m0) (hk:∀b o,s3.heap.get? b=O o->h'.get? b=O o) (hf:∀b∈fp,KJ X pins H b) (hfo:∀b∈fp,∃o,s3.heap.get? b=O o) :
  Inv (X.blk N2 scope cl s3.heap.objs.size s3 H fp) pins (σ++Ud k AV) H {s3 with heap:=h',toks:=t'}:=by
 obtain⟨hl,hN⟩:=AE hb;have lt:∀b o,s3.heap.get? b=O o->b≠s3.heap.objs.size:=λb o e=>QO (Qh e);have ofl:∀x,scope.names.lookup x=O .free->(x,NameKind.free)∈scope.names:=λx h=>mem_of_lookup h;have kinv:∀x kk,(X.blk N2 scope cl s3.heap.objs.size s3 H fp).env.scope.names.lookup x=O kk->scope.names.lookup x=O kk∨(scope.names.lookup x=O .free/\kk=.cell):=λx kk h=>NZ (env:=X.env) h
 have isfc:∀x,(X.blk N2 scope cl s3.heap.objs.size s3 H fp).env.scope.names.lookup x=O .cell∨(X.blk N2 scope cl s3.heap.objs.size s3 H fp).env.scope.names.lookup x=O .free->scope.names.lookup x=O .free∨scope.names.lookup x=O .cell:=λx h=>by
  rcases h with h|h
  .rcases kinv x _ h with z|z
   .exact .inr z
   .exact .inl z.1
  .rcases kinv x _ h with z|z
   .exact .inl z
   .exact .inl z.1
 have lto:∀x c,X.env.cells.lookup x=O c->c<s3.heap.objs.size:=λx c e=>let ⟨_,q⟩:=I.cell x c e;q.lt
 have ok:(X.blk N2 scope cl s3.heap.objs.size s3 H fp).Ok:=
  {
   mod:=I.ok.mod
   kind:=hkind
   glob:=I.ok.glob
   blt:=I.ok.blt
   above:=Qq _
   inj:=λx y c a b=>by
    rcases hc.old x c a with q|⟨q,_⟩
    .rcases hc.old y c b with q'|⟨q',_⟩
     .exact I.ok.inj x y c q q'
     .exact absurd (lto x c q) (Nat.lt_asymm q')
    .exact hc.inj x y c a b q
   has:=λx h=>by
    rcases isfc x h with z|z
    .exact let ⟨c,e,_⟩:=hc.fre x z;⟨c,e⟩
    .exact let ⟨c,e,_⟩:=hc.cel x z;⟨c,e⟩
   cab:=λx c h e=>by
    have z:scope.names.lookup x=O .cell:=by have h:(scope.names.lookup x==O .cell)=AW:=h;simpa using h
    obtain⟨c',e',l⟩:=hc.cel x z;have e:cl.lookup x=O c:=e;rw[e]at e';cases e';exact JT l
   hd:=I.ok.hd
   frames:=I.ok.frames
   stk:=.inl AU
   exf:=λb hb=>⟨let ⟨o,e⟩:=hfo b hb;lt b o e,λx c e=>by
    rcases hc.old x c e with q|⟨q,_⟩
    .exact(hf b hb).2.2.2.2.1 x c q
    .obtain⟨o,e'⟩:=hfo b hb
     exact Jq (Nat.lt_trans (Qh e') q)⟩
   bs:=I.bs
   bsz:=Qv I.ok.bsz I.sz
   noex:=λb o e hb=>by
    rcases(hf b hb).2.2.2.1 with z|z
    .exact I.ok.noex b o e z
    .exact absurd (QG (Qh e) (Qv I.ok.bsz z)) (Jz _)
   exfs:=λb hb hx=>by
    rcases QM.mp (I.stkSub b hx)with z|z
    .exact(hf b hb).2.1 z
    .exact(hf b hb).2.2.1 z
   funs:=I.stack
   frf:=I.stkFree}
 refine⟨ok,rfl,I.bare,Un.kept hk,⟨m0,hn,λi x v e1 e2 e3=>?_⟩,λx c e=>?_,I.hok.fresh (Qq _),λx c e=>(hc.old x c e).elim (I.freeC x c) λq=>I.hok.fresh (JT q.1),λp hp=>?_,I.hok.kept hk,?_⟩
 .have nl:¬(scope.names.lookup x=O .local∨scope.names.lookup x=O .cell):=λz=>by
   obtain⟨g1,g2⟩:=(hN i x e1).2 z;rw[←I.len]at g1 g2;rw[Qu g1,QB]at e2;split at e2<;>cases e2
  have fr:scope.names.lookup x=O .free:=by
   rcases e3 with z|z
   .rcases kinv x _ z with q|q
    .exact absurd (.inl q) nl
    .cases q.2
   .rcases isfc x z with q|q
    .exact q
    .exact absurd (.inr q) nl
  have eN:=(hN i x e1).1 fr;have hi:i<σ.length:=by rw[I.len];exact(Qr.mp eN).1
  rw[Qs hi]at e2;obtain⟨m,hm,hlk⟩:=I.loc;have hkd:=hfree _ (ofl x fr) AU;obtain⟨u,r,l⟩:=hlk i x v eN e2 (.inr hkd);refine⟨u,r,.inr ⟨?_,?_⟩⟩
  .rcases e3 with z|z|z
   .rcases kinv x _ z with q|q
    .exact absurd (.inl q) nl
    .cases q.2
   .exact .inl z
   .exact .inr z
  .rcases l with l|⟨_,c,ec,z⟩
   .have:X.env.scope.names.lookup x=O .local:=l.1
    rcases hkd with q|q<;>(dsimp only at q;rw[this]at q;cases q)
   .obtain⟨c',ec',this⟩:=hc.fre x fr
    rw[ec]at this;cases this;obtain⟨o,ho,hd⟩:=z;exact⟨c,ec',o,hk c o ho,hd⟩
 .rcases hc.old x c e with q|⟨_,q⟩
  .obtain⟨v,o,ho,hd⟩:=I.cell x c q
   exact⟨v,o,hk c o ho,hd⟩
  .exact⟨_,q⟩
 .obtain⟨e,n,ne,nf,d⟩:=I.pin p hp
  refine⟨hk _ _ e,n,lt _ _ e,λz=>?_,d⟩;rcases QM.mp (I.stkSub _ z)with q|q
  .exact ne q
  .exact nf q
 .rw[Qk,QU,I.len]
  exact hl.symm
noncomputable abbrev nox:JZ->J0->Prop:=λ_ _=>False
def V9(prog:J4)(w:World)(A:Around)(tg:J7)(ifs:A3)(env:Env)(it:JZ)(code:Code)(W:(J0->Prop)->J0->Prop):Prop:=
 ∀(R:Result->J0->Prop)(I:Nat->J0->Prop)(n:Nat)(s:J0),I n s ->
  (∀n s,I n s->J9 (model prog w) A (pyNext it) (λr s₁=>match r with
   |none=>R (.ok .next) s₁
   |some v=>J9 (model prog w) A (letOwnedTupleGo tg it v) (λ_ s₁'=>J9 (model prog w) A (assign tg env v) (λ_ s₂=>
     J9 (model prog w) A (forIn ifs AW λc r=>if r=AW then do let ok ←isTrue c env (eval c env);pure (ForInStep.yield ok)else pure (ForInStep.yield r)) (λok s₃=>
      if ok=AW then W (λs₅=>∃m,m<n/\I m s₅) s₃ else ∃m,m<n/\I m s₃) nox s₂) nox s₁') nox s₁) nox s)->codeAny (model prog w) A code R s
section
variable{prog:J4}{w:World}{A:Around}{elt tg i:J7}{ifs:A3}{gens:List Comprehension}{scope:Scope}{pos:Pos}{it acc:JZ}{env:Env}{j:Nat}
theorem CL(hg:gens[j]?=O ⟨tg,i,ifs,0⟩)(hn:gens[j+1]?=AV):V9 prog w A tg ifs env it (.compLoop (.ListComp elt gens scope pos) j it acc env)
  (λQ s=>J9 (model prog w) A (eval elt env) (λx s₄=>J9 (model prog w) A (call (.builtin "list.append") [acc,x]) (λ_ s₅=>Q s₅) nox s₄) nox s):=by
 intro R I n s h turn;refine codeAny_loop AU I (λn s hI=>?_) n h;show J9 _ A ((compTurn (.ListComp elt gens scope pos) j it acc env).onRaise (λx=>do noteFrame x env;theTreesLotGoes x)) _ _ s;refine wpAny_noted ?_;unfold compTurn;dsimp only;simp only[hg,hn];refine Qb (Q4 (Qb (Qy (turn n s hI) (λr s₁ h₁=>?_) λ_ _ h'=>h'.elim)));cases r with
 |none=>exact Qf h₁
 |some v=>
  refine Qb (Qy h₁ (λ_ s₁' h₁'=>?_) λ_ _ h'=>h'.elim);refine Qb (Qy h₁' (λ_ s₂ h₂=>Qb (Qy h₂ (λok s₃ h₃=>?_) λ_ _ h'=>h'.elim)) λ_ _ h'=>h'.elim);cases ok with
  |false=>exact Qf ⟨rfl,h₃⟩
  |true=>exact Qb (Qb (Qy h₃ (λx s₄ h₄=>Qb (Qy h₄ (λ_ s₅ h₅=>Qf (Qf ⟨rfl,h₅⟩)) λ_ _ h'=>h'.elim)) λ_ _ h'=>h'.elim))
theorem Bj{qD i1:J7}{ifs1:A3}(hg:gens[j]?=O ⟨tg,i,ifs,0⟩)(hn:gens[j+1]?=O ⟨qD,i1,ifs1,0⟩)(hs:∀x,Ur i1 env x=pure x):V9 prog w A tg ifs env it (.compLoop (.ListComp elt gens scope pos) j it acc env)
  (λQ s=>J9 (model prog w) A (eval i1 env) (λx s₄=>J9 (model prog w) A (pyIter x) (λqr s₅=>codeAny (model prog w) A (.compStart (.ListComp elt gens scope pos) (j+1) qr acc env)
   (λr s₆=>match r with | .ok _=>Q s₆ | .error _=>False) s₅) nox s₄) nox s):=by
 intro R I n s h turn;refine codeAny_loop AU I (λn s hI=>?_) n h;show J9 _ A ((compTurn (.ListComp elt gens scope pos) j it acc env).onRaise (λx=>do noteFrame x env;theTreesLotGoes x)) _ _ s;refine wpAny_noted ?_;unfold compTurn;dsimp only;simp only[hg,hn];refine Qb (Q4 (Qb (Qy (turn n s hI) (λr s₁ h₁=>?_) λ_ _ h'=>h'.elim)));cases r with
 |none=>exact Qf h₁
 |some v=>
  refine Qb (Qy h₁ (λ_ s₁' h₁'=>?_) λ_ _ h'=>h'.elim);refine Qb (Qy h₁' (λ_ s₂ h₂=>Qb (Qy h₂ (λok s₃ h₃=>?_) λ_ _ h'=>h'.elim)) λ_ _ h'=>h'.elim);cases ok with
  |false=>exact Qf ⟨rfl,h₃⟩
  |true=>
   refine Qb (Qy h₃ (λx s₄ h₄=>Qb (Q4 (Qb (wpAny_of_eq (hs x) (Qb (Jh (Qy h₄ (λqr s₅ h₅=>?_) λ_ _ h'=>h'.elim))))))) λ_ _ h'=>h'.elim);refine Qb (wpAny_runOwn (Jx h₅ λr s₆ h₆=>?_));cases r with
   |ok f=>exact Qf ⟨rfl,h₆⟩
   |error x=>exact h₆.elim
theorem AD{R:Result->J0->Prop}{s:J0}(hg:gens[j]?=O ⟨tg,i,ifs,0⟩)
  (h0:codeAny (model prog w) A (.compLoop (.ListComp elt gens scope pos) j it acc env) R s)
  (h:J9 (model prog w) A (pyIter it) (λit' s'=>codeAny (model prog w) A (.compLoop (.ListComp elt gens scope pos) j it' acc env) R s') nox s) :
  codeAny (model prog w) A (.compStart (.ListComp elt gens scope pos) j it acc env) R s:=by
 refine codeAny_of_tree ?_;show J9 _ _ ((compStart (.ListComp elt gens scope pos) j it acc env).onRaise (λx=>do noteFrame x env;standAt theWindowsPlace)) _ _ s;refine wpAny_notedAt ?_;unfold compStart;have hc:(clausesOf (.ListComp elt gens scope pos))[j]?=O ⟨tg,i,ifs,0⟩:=hg;simp only[hc];show J9 _ _ (ask >>= _) _ _ s;refine Qb (wpAny_askSetting (wpAny_ite ?_));split
 .first
   |exact Qb (Qf (Qf (And.intro rfl h0)))
   |exact Qf (And.intro rfl h0)
 .first
   |exact Qb (wpAny_rule (Qb (Q4 (Qb (Qy h (λit' s' h'=>Qf (And.intro rfl h')) λ_ _ x=>x.elim)))))
   |(refine Qb (wpAny_rule ?_);show J9 _ _ (standAt _ >>= _) _ _ s;exact Qb (Q4 (Qb (Qy h (λit' s' h'=>Qf (And.intro rfl h')) λ_ _ x=>x.elim))))
end
end L2
namespace DL
open PySem PySem.Spec L2
open PyProof.Rows hiding St
noncomputable def Ko:Option Sl->Option Sl
 |some (.own _)=>AV
 |some (.deep _ _)=>AV
 |x=>x
noncomputable def U7(ρ:Ut):Ut:=ρ.map Ko
theorem Bi{ρ:Ut}{i:Nat}{d:D}(h:(U7 ρ)[i]?=O (O (.pub d))):ρ[i]?=O (O (.pub d)):=by
 unfold U7 at h;rw[Qt]at h;cases e:ρ[i]? with
 |none=>rw[e]at h;cases h
 |some o=>
  rw[e]at h;cases o with
  |none=>cases h
  |some sl=>cases sl with
   |pub d'=>cases h;rfl
   |own ds=>cases h
   |deep p d'=>cases h
theorem Xu{ρ:Ut}{i:Nat}{ds:AY}(h:(U7 ρ)[i]?=O (O (.own ds))):False:=by
 unfold U7 at h;rw[Qt]at h;cases e:ρ[i]? with
 |none=>rw[e]at h;cases h
 |some o=>
  rw[e]at h;cases o with
  |none=>cases h
  |some sl=>cases sl with
   |pub d'=>cases h
   |own ds=>cases h
   |deep p d'=>cases h
theorem RD{ρ:Ut}{i:Nat}{p:Pat}{d:D}(h:(U7 ρ)[i]?=O (O (.deep p d))):False:=by
 unfold U7 at h;rw[Qt]at h;cases e:ρ[i]? with
 |none=>rw[e]at h;cases h
 |some o=>
  rw[e]at h;cases o with
  |none=>cases h
  |some sl=>cases sl<;>cases h
noncomputable def KG(s:D->Ut->A6)(t:M Bool)(g:M D):AY->Ut->AY->Option AY
 |[],_,es=>O es
 |d::r,ρ,es=>match s d ρ with
  |none=>AV
  |some ρ1=>match t ρ1 with
   |.bad=>AV
   |.ok b ρ2=>if b=AW then(match g ρ2 with
     |.bad=>AV
     |.ok e ρ3=>if es.length<1000000 then KG s t g r (U7 ρ3) (es++[e])else AV)
    else KG s t g r (U7 ρ2) es
noncomputable def Zv(f:M AY)(k:Nat)(s:D->Ut->A6)(t:M Bool)(g:M D):M AY:=λρ=>match f ρ with
 |.bad=>.bad
 |.ok ds ρ1=>match KG s t g ds (U7 ρ1++Ud k AV) []with
  |none=>.bad
  |some es=>.ok es ρ1
def ZV(X:Cx)(ifs:A3)(t:TT):Prop:=
 ∀(pins:List (J5×Obj))(s:J0)(σ:St)(H:Hp)(Q:Bool->Hp->Prop),Inv X pins σ H s->t σ H Q ->
  J9 (model X.prog X.w) X.A (forIn ifs AW λc r=>if r=AW then do let ok ←isTrue c X.env (eval c X.env);pure (ForInStep.yield ok)else pure (ForInStep.yield r)) (TP X pins σ Q) X.xe s
section
variable{X:Cx}{B G0:Hp}
theorem Ee:ZV X [] (tBo X.K B G0 (Uu AW)):=λpins s σ H Q I ⟨G,ρ,k,a⟩=>wpAny_tests_nil ⟨H,I,a AW G H k (.refl _) AU⟩
theorem Ed{c:J7}{t:M Bool}(h:PT X c (tBo X.K B G0 t)):ZV X [c] (tBo X.K B G0 t):=λpins s σ H Q I q=>wpAny_tests_one (h pins s σ H Q I q)
theorem EOk.rebase{K:Frag}{G H:Hp}{σ:St}{ρ:Ut}(k:EOk K B G0 G H σ ρ):EOk K H G G H σ (U7 ρ) where
 bh:=.refl _
 gh:=k.gh
 g0:=.refl _
 np:=λ_ _ _ n=>n
 len:=by unfold U7;rw[Qd];exact k.len
 pub:=λi d q=>k.pub i d (Bi q)
 own:=λi ds q=>(Xu q).elim
 sep:=λi j a ds es q=>(Xu q).elim
 dp:=.of (λ_ _ _ q=>RD q) λ_ _ q=>Xu q
theorem EOk.more{K:Frag}{G H:Hp}{σ:St}{ρ:Ut}(k:EOk K H G G H σ (U7 ρ))(n:Nat):EOk K H G G H (σ++Ud n AV) (U7 ρ++Ud n AV) where
 bh:=.refl _
 gh:=k.gh
 g0:=.refl _
 np:=λ_ _ _ n=>n
 len:=by rw[Qk,Qk,k.len,QU,QU]
 pub:=λi d q=>by
  by_cases hi:i<(U7 ρ).length
  .rw[Qs hi]at q
   rw[Qs (by rw[←k.len];exact hi)];exact k.pub i d q
  .rw[Qu (Q5 hi),QB]at q
   split at q<;>cases q
 own:=λi ds q=>by
  by_cases hi:i<(U7 ρ).length
  .rw[Qs hi]at q
   exact(Xu q).elim
  .rw[Qu (Q5 hi),QB]at q
   split at q<;>cases q
 sep:=λi j a ds es q=>by
  by_cases hi:i<(U7 ρ).length
  .rw[Qs hi]at q
   exact(Xu q).elim
  .rw[Qu (Q5 hi),QB]at q
   split at q<;>cases q
 dp:=by
  refine .of (λi p d q=>?_) λi ds q=>?_
  .by_cases hi:i<(U7 ρ).length
   .rw[Qs hi]at q;exact RD q
   .rw[Qu (Q5 hi),QB]at q;split at q<;>cases q
  .by_cases hi:i<(U7 ρ).length
   .rw[Qs hi]at q;exact Xu q
   .rw[Qu (Q5 hi),QB]at q;split at q<;>cases q
theorem EOk.beside{K:Frag}{G H:Hp}{σ:St}{ρ:Ut}{a:J5}{o:HO}(k:EOk K B G0 G H σ ρ)(hg:G a=AV):EOk K (upd H a o) G G (upd H a o) σ (U7 ρ) where
 bh:=.refl _
 gh:=λb u e=>by rw[UZ (λz=>by subst z;rw[hg]at e;cases e)];exact k.gh b u e
 g0:=.refl _
 np:=λ_ _ _ n=>n
 len:=k.rebase.len
 pub:=k.rebase.pub
 own:=λi ds q=>(Xu q).elim
 sep:=λi j a ds es q=>(Xu q).elim
 dp:=.of (λ_ _ _ q=>RD q) λ_ _ q=>Xu q
theorem lim1:1000000<=J8:=lim
noncomputable def SD:Option Sl->Option Sl
 |some (.own ds)=>O (.pub (.list ds))
 |some (.deep _ d)=>O (.pub d)
 |x=>x
noncomputable def KP(ρ:Ut):Ut:=ρ.map SD
theorem Nz{ρ:Ut}{i:Nat}{d:D}(h:(KP ρ)[i]?=O (O (.pub d))):ρ[i]?=O (O (.pub d))∨(∃ds,d=.list ds/\ρ[i]?=O (O (.own ds))) ∨ ∃p,ρ[i]?=O (O (.deep p d)):=by
 unfold KP at h;rw[Qt]at h;cases e:ρ[i]? with
 |none=>rw[e]at h;cases h
 |some o=>
  rw[e]at h;cases o with
  |none=>cases h
  |some sl=>cases sl with
   |pub d'=>cases h;exact .inl AU
   |own ds=>cases h;exact .inr (.inl ⟨ds,rfl,rfl⟩)
   |deep p d'=>cases h;exact .inr (.inr ⟨p,rfl⟩)
theorem VF{ρ:Ut}{i:Nat}{ds:AY}(h:(KP ρ)[i]?=O (O (.own ds))):False:=by
 unfold KP at h;rw[Qt]at h;cases e:ρ[i]? with
 |none=>rw[e]at h;cases h
 |some o=>
  rw[e]at h;cases o with
  |none=>cases h
  |some sl=>cases sl with
   |pub d'=>cases h
   |own ds=>cases h
   |deep p d'=>cases h
theorem Mi{ρ:Ut}{i:Nat}{p:Pat}{d:D}(h:(KP ρ)[i]?=O (O (.deep p d))):False:=by
 unfold KP at h;rw[Qt]at h;cases e:ρ[i]? with
 |none=>rw[e]at h;cases h
 |some o=>
  rw[e]at h;cases o with
  |none=>cases h
  |some sl=>cases sl<;>cases h
noncomputable def flat:D->Bool
 |.none=>AW | .bool _=>AW | .int _=>AW | .str _=>AW|_=>AX
theorem Rep.flat{K:Frag}{G G':Hp}{v:V}{d:D}(r:Rep K G v d)(h:DL.flat d=AW):Rep K G' v d:=by
 cases r with
 |non=>exact .non
 |bl b=>exact .bl b
 |int i=>exact .int i
 |str x=>exact .str x
 |lst _ _=>cases h
 |tup _ _=>cases h
 |dic _=>cases h
 |exc _ _ _ _=>cases h
 |dct _ _ _ _ _=>cases h
 |dtt _ _ _ _=>cases h
theorem Reps.flat{K:Frag}{G G':Hp}:∀{vs:List V}{ds:AY},Reps K G vs ds->ds.all DL.flat=AW->Reps K G' vs ds
 |_,_,.nil,_=>.nil
 |_,_,.cons r t,h=>by rw[JQ,Qm]at h;exact .cons (r.flat h.1) (Reps.flat t h.2)
theorem EOk.lend{K:Frag}{B G0 G H:Hp}{σ:St}{ρ:Ut}{D:J5}{o:HO}(k:EOk K B G0 G H σ ρ)(hD:H D=AV)(n:Nat):EOk K (upd H D o) H H (upd H D o) (σ++Ud n AV) (KP ρ++Ud n AV) where
 bh:=.refl _
 gh:=KT hD
 g0:=.refl _
 np:=λ_ _ _ n=>n
 len:=by unfold KP;rw[Qk,Qk,Qd,k.len,QU,QU]
 pub:=λi d q=>by
  have hl:(KP ρ).length=ρ.length:=by unfold KP;rw[Qd]
  by_cases hi:i<(KP ρ).length
  .rw[Qs hi]at q
   rw[Qs (by rw[←k.len,←hl];exact hi)];rcases Nz q with e|⟨ds,rfl,e⟩|⟨p,e⟩
   .obtain⟨v,h1,h2⟩:=k.pub i d e
    exact⟨v,h1,h2.mono k.gh⟩
   .obtain⟨a,vs,h1,h2,h3,h4,h5⟩:=k.own i ds e
    exact⟨.ref a,h1,.lst (SqL.of h4) (h5.mono k.gh)⟩
   .obtain⟨ω,k1,k2⟩:=k.dp
    obtain⟨v,fp,s,r,_⟩:=k1 i p d e;exact⟨v,s,r.rep k.gh⟩
  .rw[Qu (Q5 hi),QB]at q
   split at q<;>cases q
 own:=λi ds q=>by
  by_cases hi:i<(KP ρ).length
  .rw[Qs hi]at q
   exact(VF q).elim
  .rw[Qu (Q5 hi),QB]at q
   split at q<;>cases q
 sep:=λi j a ds es q=>by
  by_cases hi:i<(KP ρ).length
  .rw[Qs hi]at q
   exact(VF q).elim
  .rw[Qu (Q5 hi),QB]at q
   split at q<;>cases q
 dp:=by
  refine .of (λi p d q=>?_) λi ds q=>?_
  .by_cases hi:i<(KP ρ).length
   .rw[Qs hi]at q;exact Mi q
   .rw[Qu (Q5 hi),QB]at q;split at q<;>cases q
  .by_cases hi:i<(KP ρ).length
   .rw[Qs hi]at q;exact VF q
   .rw[Qu (Q5 hi),QB]at q;split at q<;>cases q
noncomputable def VZ(f:M AY)(k:Nat)(s:D->Ut->A6)(t:M Bool)(g:M D):M AY:=λρ=>match f ρ with
 |.bad=>.bad
 |.ok ds ρ1=>match KG s t g ds (KP ρ1++Ud k AV) []with
  |none=>.bad
  |some es=>if es.all flat=AW then .ok es ρ1 else .bad
end
noncomputable def Xm(s:D->Ut->A6)(t:M Bool)(g:M D):AY->Ut->AY->Option (AY×Ut)
 |[],ρ,es=>O (es,ρ)
 |d::r,ρ,es=>match s d ρ with
  |none=>AV
  |some ρ1=>match t ρ1 with
   |.bad=>AV
   |.ok b ρ2=>if b=AW then(match g ρ2 with
     |.bad=>AV
     |.ok e ρ3=>if es.length<1000000 then Xm s t g r (U7 ρ3) (es++[e])else AV)
    else Xm s t g r (U7 ρ2) es
noncomputable def YH(s0:D->Ut->A6)(t0:M Bool)(f1:M AY)(s1:D->Ut->A6)(t1:M Bool)(g:M D):AY->Ut->AY->Option AY
 |[],_,es=>O es
 |d::r,ρ,es=>match s0 d ρ with
  |none=>AV
  |some ρ1=>match t0 ρ1 with
   |.bad=>AV
   |.ok b ρ2=>if b=AW then(match f1 ρ2 with
     |.bad=>AV
     |.ok ds ρ3=>match Xm s1 t1 g ds (U7 ρ3) es with
      |none=>AV
      |some (es',ρ4)=>YH s0 t0 f1 s1 t1 g r ρ4 es')
    else YH s0 t0 f1 s1 t1 g r (U7 ρ2) es
noncomputable def WG(f:M AY)(k:Nat)(s:D->Ut->A6)(t:M Bool)(f1:M AY)(jv:D->Ut->A6)(t1':M Bool)(g:M D):M AY:=λρ=>match f ρ with
 |.bad=>.bad
 |.ok ds ρ1=>match YH s t f1 jv t1' g ds (U7 ρ1++Ud k AV) []with
  |none=>.bad
  |some es=>.ok es ρ1
abbrev RdB:=Ut->AY->Option (AY×Ut)
noncomputable def rL(g:M D):RdB:=λρ es=>match g ρ with
 |.bad=>AV
 |.ok e ρ3=>if es.length<1000000 then O (es++[e],U7 ρ3)else AV
noncomputable def cT(s:D->Ut->A6)(t:M Bool)(rd:RdB):AY->Ut->AY->Option (AY×Ut)
 |[],ρ,es=>O (es,ρ)
 |d::r,ρ,es=>match s d ρ with
  |none=>AV
  |some ρ1=>match t ρ1 with
   |.bad=>AV
   |.ok b ρ2=>if b=AW then(match rd ρ2 es with
     |none=>AV
     |some (es',ρ')=>cT s t rd r ρ' es')
    else cT s t rd r (U7 ρ2) es
noncomputable def rN(f:M AY)(s:D->Ut->A6)(t:M Bool)(rd:RdB):RdB:=λρ es=>match f ρ with
 |.bad=>AV
 |.ok ds ρ3=>cT s t rd ds (U7 ρ3) es
structure Left(Y:Cx)(D':J5)(pins:List (J5×Obj))(H G:Hp)(es':AY)(ρ':Ut)(σ':St)(H' G':Hp)(vs':List V)(s':J0):Prop where
 inv:Inv Y pins σ' H' s'
 eok:EOk Y.K H' G' G' H' σ' ρ'
 hh:∀a o,a≠D'->H a=O o->H' a=O o
 gg:Same G G'
 np:∀a(u:MO),a≠D'->H a=O u.ho->G a=AV->G' a=AV
 hd:H' D'=O (.lst vs')
 gd:G' D'=AV
 rp:Reps Y.K G' vs' es'
def VT(Y:Cx)(D':J5)(W:(J0->Prop)->J0->Prop)(rd:RdB):Prop:=
 ∀(pins:List (J5×Obj))(sh:J0)(σ:St)(B1 G1 H G:Hp)(ρ ρ':Ut)(vs:List V)(es es':AY)(Q:J0->Prop),
  Inv Y pins σ H sh->EOk Y.K B1 G1 G H σ ρ->B1 D'=O (.lst vs)->G1 D'=AV->Reps Y.K G1 vs es->rd ρ es=O (es',ρ') ->
  (∀σ' H' G' vs' s',Left Y D' pins B1 G1 es' ρ' σ' H' G' vs' s'->Q s')->W Q sh
section
variable{Y:Cx}{D':J5}
theorem Bh{elt:J7}{g:M D}(hx:Y.xe=nox)(he:∀B1 G1,PE Y elt (tD Y.K B1 G1 g)) :
  VT Y D' (λQ s=>J9 (model Y.prog Y.w) Y.A (eval elt Y.env) (λx s₄=>J9 (model Y.prog Y.w) Y.A (call (.builtin "list.append") [.ref D',x]) (λ_ s₅=>Q s₅) nox s₄) nox s) (rL g):=by
 intro pins sh σ B1 G1 H G ρ ρ' vs es es' Q I k hD gD r z fin;unfold rL at z;cases zg:g ρ with
 |bad=>rw[zg]at z;cases z
 |ok e ρ4=>
 rw[zg]at z;dsimp only at z;split at z
 .rename_i hle
  cases z;have h:=he B1 G1 pins sh σ H (λv H8=>∃G8,EOk Y.K B1 G1 G8 H8 σ ρ4/\Rep Y.K G8 v e) I ⟨G,ρ,k,by unfold aft;rw[zg];exact λv G8 H8 k8 _ q=>⟨G8,k8,q⟩⟩;rw[hx]at h;refine thn h λev s8 ⟨v,H8,I8,rv,G8,k8,r8⟩=>?_;have h2:=NC pins s8 σ H8 (.ref D') [v] (.ref D') [ev] (λ_ H9=>H9=upd H8 D' (.lst (vs++[v]))) I8 AU (.cons rv .nil) ⟨D',vs,v,rfl,rfl,k8.bh _ _ hD,by have:=lim1;rw[r.length];lia,rfl⟩
  rw[hx]at h2;refine thn h2 λ_ s9 ⟨_,H9,I9,_,e9⟩=>?_;subst e9;have g8:=k8.np _ (.l _) hD gD;exact fin σ _ G8 _ s9 ⟨I9,k8.beside g8,λa o z q=>by rw[UZ z];exact k8.bh a o q,k8.g0,λa o _ q w=>k8.np a o q w,U8,g8,(r.mono k8.g0).append (.cons r8 .nil)⟩
 .cases z
theorem OF{tg:J7}{ifs:A3}{code:Code}{W:(J0->Prop)->J0->Prop}{s:D->Ut->A6}{t:M Bool}{rd:RdB}{it:J5}(hx:Y.xe=nox)(hc:Y.calm=AW)(rule:V9 Y.prog Y.w Y.A tg ifs Y.env (.ref it) code W)
  (hg:∀B1 G1,PG Y tg (tG Y.K B1 G1 s)) (ht:∀B1 G1,ZV Y ifs (tBo Y.K B1 G1 t)) (hb:VT Y D' W rd)
  {pins:List (J5×Obj)} {sh:J0} {σ:St} {H G:Hp} {ρ ρF:Ut} {fp:A5} {tn:Nat->Heap->Prop} {J:It} {ds es esF:AY} {vs:List V} {R:Result->J0->Prop}
  (I:Inv Y pins σ H sh) (T:Turn Y.prog Y.w Y.K tg J fp it tn) (st:tn 0 sh.heap) (hf:∀b∈fp,KJ Y pins H b)
  (k:EOk Y.K H G G H σ ρ) (its:YM Y.K J ds G) (hD:H D'=O (.lst vs)) (gD:G D'=AV) (r:Reps Y.K G vs es) (zl:cT s t rd ds ρ es=O (esF,ρF))
  (jg:∀σ' H' G' vs' s',Left Y D' pins H G esF ρF σ' H' G' vs' s'->R (.ok .next) s'):codeAny (model Y.prog Y.w) Y.A code R sh:=by
 have stat:∀{H':Hp},(∀b∈fp,H' b=AV)->∀b∈fp,KJ Y pins H' b:=λhn b hb=>⟨hn b hb,(hf b hb).2⟩
 refine rule R (λn s'=>∃i σ' H' G' ρ' vs' es',n=ds.length-i/\tn i s'.heap/\(∀b∈fp,H' b=AV)/\Left Y D' pins H G es' ρ' σ' H' G' vs' s'/\cT s t rd (ds.drop i) ρ' es'=O (esF,ρF)) ds.length sh
  ⟨0,σ,H,G,ρ,vs,es,rfl,st,λb hb=>(hf b hb).1,⟨I,k,λ_ _ _ q=>q,.refl _,λ_ _ _ _ n=>n,hD,gD,r⟩,by rw[List.drop_zero];exact zl⟩ ?_
 rintro n s' ⟨i,σ',H',G',ρ',vs',es',rfl,tn',fr',⟨I',k',ju,jo,np',qu,gD',r'⟩,zc⟩;by_cases hlt:i<ds.length
 .rw[List.drop_eq_getElem_cons hlt,cT]at zc
  cases zs:s ds[i] ρ' with
  |none=>rw[zs]at zc;cases zc
  |some ρ2=>
  rw[zs]at zc;dsimp only at zc;cases zt:t ρ2 with
  |bad=>rw[zt]at zc;cases zc
  |ok b ρ3=>
  rw[zt]at zc;dsimp only at zc;refine thn (T.item Y AU AU AU hc i pins s' σ' H' nox I' (stat fr') tn' (its.go i G' H' jo k'.gh hlt)) λrr s4 ⟨u,hr,h4⟩=>?_;subst hr;refine thn h4 λ_ s5 ⟨x,H5,I5,r5,y5,jc,fr5⟩=>?_
  obtain⟨G5,e5,rx⟩:=its.yld i G' H' x H5 ds[i] jo k'.gh (Qi hlt) y5;have h6:=hg H' G' _ s5 σ' H5 x u (λσ6 H6=>∃G6,EOk Y.K H' G' G6 H6 σ6 ρ2) (I5.pinned (stat fr5) (T.obj _ _ jc)) r5 ⟨G5,ρ',ds[i],ρ2,k'.ext e5,rx,zs,λσ6 G6 H6 k6 _=>⟨G6,k6⟩⟩;rw[hx]at h6;refine thn h6 λ_ s6 ⟨σ6,H6,I6,G6,k6⟩=>?_;have h7:=ht H' G' _ s6 σ6 H6 (λc H7=>c=b/\∃G7,EOk Y.K H' G' G7 H7 σ6 ρ3) I6 ⟨G6,ρ2,k6,by unfold aft;rw[zt];exact λc G7 H7 k7 _ q=>⟨q,G7,k7⟩⟩
  rw[hx]at h7;refine thn h7 λok s7 ⟨H7,I7,hb7,G7,k7⟩=>?_;subst hb7
  have again:∀{H9:Hp}{σ9:St}{s9:J0},Inv Y (pins++VW fp s5.heap) σ9 H9 s9->Inv Y pins σ9 H9 s9/\tn (i+1) s9.heap/\∀b∈fp,H9 b=AV:=λ{H9 σ9 s9} I9=>by refine⟨I9.unpinned,T.keep _ _ _ jc λb hb o e=>(I9.pin (b,o) (QP _ (QP _ (Sm hb e)))).1,λb hb=>?_⟩;obtain⟨o,e,d⟩:=T.obj _ _ jc b hb;exact(I9.pin (b,o) (QP _ (QP _ (Sm hb e)))).2.1
  have lt:ds.length-(i+1)<ds.length-i:=Nat.sub_lt_sub_left hlt (Nat.lt_succ_self i);cases ok with
  |false=>rw[QD (by decide)]at zc⊢;obtain⟨J1,J2,J3⟩:=again I7;exact⟨_,lt,i+1,σ6,H7,G7,U7 ρ3,vs',es',rfl,J2,J3,⟨J1,k7.rebase,λa o z q=>k7.bh a o (ju a o z q),jo.trans k7.g0,λa o z q w=>k7.np a o (ju a _ z q) (np' a o z q w),k7.bh _ _ qu,k7.np _ (.l _) qu gD',r'.mono k7.g0⟩,zc⟩
  |true=>
   rw[Qn AU]at zc⊢;cases ze:rd ρ3 es' with
   |none=>rw[ze]at zc;cases zc
   |some pr=>
   obtain⟨es1,ρ5⟩:=pr;rw[ze]at zc;refine hb _ s7 σ6 H' G' H7 G7 ρ3 ρ5 vs' es' es1 _ I7 k7 qu gD' r' ze λσ9 H9 G9 vs9 s9 L=>?_
   obtain⟨J1,J2,J3⟩:=again L.inv;exact⟨_,lt,i+1,σ9,H9,G9,ρ5,vs9,es1,rfl,J2,J3,⟨J1,L.eok,λa o z q=>L.hh a o z (ju a o z q),jo.trans L.gg,λa o z q w=>L.np a o z (ju a _ z q) (np' a o z q w),L.hd,L.gd,L.rp⟩,zc⟩
 .rw[List.drop_eq_nil_of_le (Q5 hlt),cT]at zc
  cases zc;refine thn (T.done Y AU AU AU hc i pins s' σ' H' nox I' (stat fr') tn' (its.stop i G' H' jo k'.gh (Q5 hlt))) λrr s4 ⟨hr,I6⟩=>?_
  subst hr;exact jg σ' H' G' vs' s4 ⟨I6,k',ju,jo,np',qu,gD',r'⟩
theorem Bg{elt qD i1:J7}{ifs1:A3}{gens:List Comprehension}{scope:Scope}{pos:Pos}{j:Nat}{W:JZ->(J0->Prop)->J0->Prop}{f:M AY}{s:D->Ut->A6}{t:M Bool}{rd:RdB}(hx:Y.xe=nox)(hc:Y.calm=AW)
  (hn:gens[j+1]?=O ⟨qD,i1,ifs1,0⟩) (rule:∀qr,V9 Y.prog Y.w Y.A qD ifs1 Y.env qr (.compLoop (.ListComp elt gens scope pos) (j+1) qr (.ref D') Y.env) (W qr))
  (hi:∀B1 G1,PI Y qD i1 (iD Y.K B1 G1 f)) (hg:∀B1 G1,PG Y qD (tG Y.K B1 G1 s)) (ht:∀B1 G1,ZV Y ifs1 (tBo Y.K B1 G1 t)) (hb:∀qr,VT Y D' (W qr) rd) :
  VT Y D' (λQ s=>J9 (model Y.prog Y.w) Y.A (eval i1 Y.env) (λx s₄=>J9 (model Y.prog Y.w) Y.A (pyIter x) (λqr s₅=>codeAny (model Y.prog Y.w) Y.A (.compStart (.ListComp elt gens scope pos) (j+1) qr (.ref D') Y.env)
   (λr s₆=>match r with | .ok _=>Q s₆ | .error _=>False) s₅) nox s₄) nox s) (rN f s t rd):=by
 intro pins sh σ B1 G1 H G ρ ρ' vs es es' Q I k hD gD r z fin;unfold rN at z;cases zf:f ρ with
 |bad=>rw[zf]at z;cases z
 |ok ds ρ3=>
 rw[zf]at z;have h:=hi B1 G1 pins sh σ H (λJ1 H8=>∃G8,EOk Y.K B1 G1 G8 H8 σ ρ3/\YM Y.K J1 ds G8) I ⟨G,ρ,k,by rw[zf];exact λJ1 G8 H8 k8 _ q=>⟨G8,k8,q⟩⟩;rw[hx]at h;refine thn h λxv s8 h8=>thn h8 λitv s9 h9=>?_
 obtain⟨qr,fp1,tn1,J1,H9,rfl,I9,T1,st9,f9,G9,k9,its9⟩:=h9
 have loop:codeAny (model Y.prog Y.w) Y.A (.compLoop (.ListComp elt gens scope pos) (j+1) (.ref qr) (.ref D') Y.env) (λr s₆=>match r with | .ok _=>Q s₆ | .error _=>False) s9:=
  OF hx hc (rule (.ref qr)) hg ht (hb _) I9 T1 st9 f9 k9.rebase its9 (k9.bh _ _ hD) (k9.np _ (.l _) hD gD) (r.mono k9.g0) z λσ' H' G' vs' s' L=>
   fin σ' H' G' vs' s' ⟨L.inv,L.eok,λa o z q=>L.hh a o z (k9.bh a o q),k9.g0.trans L.gg,λa o z q w=>L.np a o z (k9.bh a _ q) (k9.np a o q w),L.hd,L.gd,L.rp⟩
 exact AD hn loop (T1.self Y.A 0 _ _ _ st9 loop)
end
def VS(Y:Cx)(e:J7)(j:Nat)(tg:J7)(ifs:A3)(rd:RdB):Prop:=
 ∀(D':J5)(it:JZ),∃W,V9 Y.prog Y.w Y.A tg ifs Y.env it (.compLoop e j it (.ref D') Y.env) W/\VT Y D' W rd
section
variable{Y:Cx}{elt tg i:J7}{ifs:A3}{gens:List Comprehension}{scope:Scope}{pos:Pos}{j:Nat}
theorem Bf{g:M D}(hx:Y.xe=nox)(hg:gens[j]?=O ⟨tg,i,ifs,0⟩)(hn:gens[j+1]?=AV)(he:∀B1 G1,PE Y elt (tD Y.K B1 G1 g)):VS Y (.ListComp elt gens scope pos) j tg ifs (rL g):=
 λ_ _=>⟨_,CL hg hn,Bh hx he⟩
theorem Be{qD i1:J7}{ifs1:A3}{f:M AY}{s:D->Ut->A6}{t:M Bool}{rd:RdB}(hx:Y.xe=nox)(hc:Y.calm=AW)(hg:gens[j]?=O ⟨tg,i,ifs,0⟩)(hn:gens[j+1]?=O ⟨qD,i1,ifs1,0⟩)(hs:∀x,Ur i1 Y.env x=pure x)
  (hi:∀B1 G1,PI Y qD i1 (iD Y.K B1 G1 f)) (hgt:∀B1 G1,PG Y qD (tG Y.K B1 G1 s)) (ht:∀B1 G1,ZV Y ifs1 (tBo Y.K B1 G1 t)) (hb:VS Y (.ListComp elt gens scope pos) (j+1) qD ifs1 rd):VS Y (.ListComp elt gens scope pos) j tg ifs (rN f s t rd):=
 λD' _=>⟨_,Bj hg hn hs,Bg hx hc hn (λqr=>(Classical.choose_spec (hb D' qr)).1) hi hgt ht (λqr=>(Classical.choose_spec (hb D' qr)).2)⟩
end
noncomputable def ZE(l:Bool)(ρ:Ut):Ut:=match l with|true=>KP ρ|false=>U7 ρ
theorem entry{K:Frag}{B G0 G1 H2:Hp}{σ:St}{ρ1:Ut}{D:J5}(l:Bool)(k1:EOk K B G0 G1 H2 σ ρ1)(hfr:H2 D=AV)(n:Nat) :
  ∃Gb,EOk K (upd H2 D (.lst [])) Gb Gb (upd H2 D (.lst [])) (σ++Ud n AV) (ZE l ρ1++Ud n AV)/\Same G1 Gb/\Gb D=AV /\
   ∀(G' H':Hp) vs es,(l=AW->es.all flat=AW)->Same Gb G'->Same H2 H'->Same G' H'->(∀a(u:MO),H2 a=O u.ho->Gb a=AV->G' a=AV)->G' D=AV->Reps K G' vs es->∃Gf,Ext G1 H2 Gf H'/\Gf D=AV/\Reps K Gf vs es:=by
 have gD:G1 D=AV:=k1.gh.free hfr;cases l with
 |false=>exact⟨G1,(k1.beside gD).more n,.refl _,gD,λG' H' vs es _ g h gh np d r=>⟨G',⟨h,g,gh,np⟩,d,r⟩⟩
 |true=>exact⟨H2,k1.lend hfr n,k1.gh,hfr,λG' H' vs es fl _ h _ _ _ r=>⟨G1,⟨h,.refl _,k1.gh.trans h,λ_ _ _ n=>n⟩,gD,r.flat (fl AU)⟩⟩
noncomputable def dCG(l:Bool)(f:M AY)(k:Nat)(s:D->Ut->A6)(t:M Bool)(rd:RdB):M AY:=λρ=>match f ρ with
 |.bad=>.bad
 |.ok ds ρ1=>match cT s t rd ds (ZE l ρ1++Ud k AV) []with
  |none=>.bad
  |some (es,_)=>if l=AW->es.all flat=AW then .ok es ρ1 else .bad
theorem Oo{l:Bool}{f:M AY}{k:Nat}{s:D->Ut->A6}{t:M Bool}{rd:RdB}{ρ ρ':Ut}{es:AY}(h:dCG l f k s t rd ρ=.ok es ρ'):∃ds ρF,f ρ=.ok ds ρ'/\cT s t rd ds (ZE l ρ'++Ud k AV) []=O (es,ρF)/\(l=AW->es.all flat=AW):=by
 unfold dCG at h;cases zf:f ρ with
 |bad=>rw[zf]at h;cases h
 |ok ds ρ1=>
 rw[zf]at h;dsimp only at h;cases zl:cT s t rd ds (ZE l ρ1++Ud k AV) []with
 |none=>rw[zl]at h;cases h
 |some pr=>
 obtain⟨esF,ρF⟩:=pr;rw[zl]at h;dsimp only at h;split at h
 .rename_i hf
  cases h;exact⟨ds,ρF,rfl,zl,hf⟩
 .cases h
section
variable{X:Cx}{B G0:Hp}{KX:XW}
def Zg(X:Cx)(N2:List Str)(scope:Scope)(e tg:J7)(ifs:A3)(s:D->Ut->A6)(t:M Bool)(rd:RdB):Prop:=
 ∀(cl:List (Str×J5))(C:J5)(s₀:J0)(H₀:Hp)(ex:A5),(∀B' G',PG (X.blk N2 scope cl C s₀ H₀ ex) tg (tG X.K B' G' s))/\(∀B' G',ZV (X.blk N2 scope cl C s₀ H₀ ex) ifs (tBo X.K B' G' t))/\VS (X.blk N2 scope cl C s₀ H₀ ex) e 0 tg ifs rd
structure VR(SC scope:Scope)(N1 N2:List Str)(k:Nat):Prop where
 b:Ta scope.names N1 N2 k=AW
 kind:scope.kind=.function
 names:∀y∈scope.names,scope.names.lookup y.1=O y.2
 free:∀y∈scope.names,y.2=.free->SC.names.lookup y.1=O .cell∨SC.names.lookup y.1=O .free
theorem OE{l:Bool}{tg elt iter:J7}{ifs:A3}{gs:List Comprehension}{scope:Scope}{pos pos':Pos}{N2:List Str}{k:Nat}{f:M AY}{s:D->Ut->A6}{t:M Bool}{rd:RdB}{use:Option (JZ->Sem Unit)}{Qc:JZ->J0->Prop}(hc:X.calm=AW)
  (hi:PI X tg iter (iD X.K B G0 f)) (qh:Zg X N2 scope (.ListComp elt (⟨tg,iter,ifs,0⟩::gs) scope pos) tg ifs s t rd) (hb:VR X.env.scope scope X.N N2 k) (hs:∀x,Ur iter X.env x=pure x)
  {pins:List (J5×Obj)} {s0:J0} {σ:St} {G H:Hp} {ρ ρ1 ρF:Ut} {ds esF:AY} (I:Inv X pins σ H s0) (k0:EOk X.K B G0 G H σ ρ) (zf:f ρ=.ok ds ρ1) (zl:cT s t rd ds (ZE l ρ1++Ud k AV) []=O (esF,ρF)) (hfl:l=AW->esF.all flat=AW)
  (jg:∀(C D:J5)(vs:List V)(G' H':Hp)(s4:J0)(m:Str->A1),Inv X pins σ H' s4->s4.heap.Ns C m->H' C=AV->C≠X.env.locals->X.s₀.heap.objs.size<=C->(∀x c,X.env.cells.lookup x=O c->c≠C)->(∀p∈X.pn++pins,p.1≠C) ->
   EOk X.K B G0 G' H' σ ρ1->Same G G'->NewL X.K B G' H' σ ρ1 D vs esF->compPost (model X.prog X.w) X.A X.xe use Qc (.ref D) C (.ok .next) s4) :
  J9 (model X.prog X.w) X.A (comprehension (.ListComp elt (⟨tg,iter,ifs,0⟩::gs) scope pos) scope X.env pos' (newList []) AX (eval iter X.env) use) Qc X.xe s0:=by
 obtain⟨jt,hcl,js,cl2⟩:=BB (scope:=scope) (env:=X.env) λy hy hf=>I.ok.has y.1 (hb.free y hy hf)
 refine wpAny_comprehension_free (use:=use) AU hs hcl hb.kind (λy hy hl=>(hb.names y hy).trans (by rw[hl])) (thn (hi pins s0 σ H (λJ H1=>∃G1,EOk X.K B G0 G1 H1 σ ρ1/\Same G G1/\YM X.K J ds G1) I ⟨G,ρ,k0,by rw[zf];exact λJ G1 H1 k1 s1 it=>⟨G1,k1,s1,it⟩⟩) λv s1 h1=>thn h1 λitv s2 h2=>?_);obtain⟨it,fp,tn,J,H2,rfl,I2,T,st2,f2,G1,k1,sg1,its⟩:=h2;refine wpAny_newObj_type (Gs js cl2 hb.names (λx c e=>let ⟨_,q⟩:=I2.cell x c e;QG q.lt (by first|exact Qq _|(rw[JA];exact Jo _))) λh₁ cl hns₁ kept hco=>?_);dsimp only at hns₁ kept hco⊢;have hfr:H2 s2.heap.objs.size=AV:=I2.hok.fresh (Qq _)
 have I3:Inv X pins σ (upd H2 s2.heap.objs.size (.lst [])) {s2 with heap:=s2.heap.push {cls:=.type "list", dict:=AV,data:=.seq ([]:AZ).toArray}}:=
  I2.laid (t':=s2.toks) (λb u e=>Qe _ e) (Qq _) ⟨Nat.zero_le _,[],0,.nil,QE _ AU⟩
 generalize hP:s2.heap.push {cls:=.type "list", dict:=AV,data:=.seq ([]:AZ).toArray}=P at I3 hns₁ kept hco⊢;have old:∀b o,s2.heap.get? b=O o->P.get? b=O o:=λb o e=>hP ▸ Qe _ e;have fpo:∀b∈fp,∃o,s2.heap.get? b=O o:=λb hb=>let ⟨o,e,_⟩:=T.obj _ _ st2 b hb;⟨o,e⟩
 have fpD:∀b∈fp,b≠s2.heap.objs.size:=λb hb=>let ⟨o,e⟩:=fpo b hb;QO (Qh e)
 have f3:∀b∈fp,KJ X pins (upd H2 s2.heap.objs.size (.lst [])) b:=λb hb=>⟨by rw[UZ (fpD b hb)];exact(f2 b hb).1,(f2 b hb).2⟩
 have I4:=I3.enter (scope:=scope) (cl:=cl) (N2:=N2) (k:=k) (fp:=fp) (t':=s2.toks) hb.b hb.kind hb.free hco hns₁ kept f3 (λb hb=>let ⟨o,e⟩:=fpo b hb;⟨o,old b o e⟩);dsimp only at I4;obtain⟨Gb,kb,sgb,gbD,ex⟩:=entry l k1 hfr k;have sH:Same H2 (upd H2 s2.heap.objs.size (.lst [])):=KT hfr;have hD3:upd H2 s2.heap.objs.size (.lst []) s2.heap.objs.size=O (.lst []):=U8;generalize upd H2 s2.heap.objs.size (.lst [])=H3 at I3 I4 f3 kb sH hD3;generalize s2.heap.objs.size=D at *;have tn0:tn 0 h₁:=T.keep 0 _ _ st2 λb hb o e=>kept b o (old b o e)
 have stat:∀b∈fp,KJ (X.blk N2 scope cl P.objs.size {s2 with heap:=P} H3 fp) pins H3 b:=λb hb=>by
  obtain⟨z0,z1,z2,z3,z4,z5⟩:=f3 b hb;obtain⟨o,e⟩:=fpo b hb;refine⟨z0,QO (Qh (old b o e)),λz=>?_,.inl hb,λx c q=>(hco.old x c q).elim (z4 x c) λw=>Jq (Nat.lt_trans (Qh (old b o e)) w.1),z5⟩;rcases QM.mp (I3.stkSub b z)with q|q
  .exact z1 q
  .exact z2 q
 have neD:∀a o,H2 a=O o->a≠D:=λa o q z=>by subst z;rw[hfr]at q;cases q
 obtain⟨hg,ht,hcl'⟩:=qh cl P.objs.size {s2 with heap:=P} H3 fp;obtain⟨W,rule,body⟩:=hcl' D (.ref it)
 have loop:=OF (Y:=X.blk N2 scope cl P.objs.size {s2 with heap:=P} H3 fp) (D':=D) (R:=compPost (model X.prog X.w) X.A X.xe use Qc (.ref D) P.objs.size) AU hc rule hg ht body I4 T tn0 stat kb
  ⟨λi G H s1 s2 hi=>its.go i G H (sgb.trans s1) s2 hi,λi G H s1 s2 hi=>its.stop i G H (sgb.trans s1) s2 hi,λi G H x H' d s1 s2 e y=>its.yld i G H x H' d (sgb.trans s1) s2 e y⟩ hD3 gbD .nil zl λσ' H' G' vs' s4 L=>by
   obtain⟨m,hm,_⟩:=id L.inv.loc;have I7:Inv X pins σ H' s4:=I3.call' (ch:=fp) L.inv.os L.inv.base L.inv.hok L.inv.bare λb hb=>⟨(f3 b hb).2.2.2.1,(f3 b hb).2.1,(f3 b hb).2.2.2.2.1,(f3 b hb).2.2.2.2.2⟩
   obtain⟨Gf,eF,dF,rF⟩:=ex G' H' vs' esF hfl L.gg (λa o q=>L.hh a o (neD a o q) (sH a o q)) L.eok.gh (λa o q z=>L.np a o (neD a _ q) (sH a _ q) z) L.gd L.rp
   refine jg P.objs.size D vs' Gf H' s4 m I7 hm L.inv.free (Jq I3.lt) I3.sz (λx c e z=>by obtain⟨_,q⟩:=I3.cell x c e;exact absurd q.lt (by rw[z];exact Jz _)) (λp hp z=>by have:=Qh (I3.pin p hp).1;exact absurd this (by rw[z];exact Jz _))
    (k1.ext eF) (sg1.trans eF.g) ⟨k1.bh.free hfr,dF,L.hd,rF,λj es' q z=>?_,λj pt d v fp q s r=>k1.freshD eF.h hfr q s r⟩
   obtain⟨a',ws,h1',h2',h3',h4',h5'⟩:=k1.own j es' q;rw[z]at h1';cases h1';rw[hfr]at h4';cases h4'
 exact codeAny_compStart_list loop (T.self X.A 0 _ _ _ tn0 loop)
theorem Pg{l:Bool}{tg elt iter:J7}{ifs:A3}{gs:List Comprehension}{scope:Scope}{pos:Pos}{N2:List Str}{k:Nat}{f:M AY}{s:D->Ut->A6}{t:M Bool}{rd:RdB}(hc:X.calm=AW)
  (hi:PI X tg iter (iD X.K B G0 f)) (qh:Zg X N2 scope (.ListComp elt (⟨tg,iter,ifs,0⟩::gs) scope pos) tg ifs s t rd) (hb:VR X.env.scope scope X.N N2 k) (hs:∀x,Ur iter X.env x=pure x:=by intro _;rfl) :
  PE X (.ListComp elt (⟨tg,iter,ifs,0⟩::gs) scope pos) (tL X.K B G0 (dCG l f k s t rd)):=by
 intro pins s0 σ H Q I ⟨G,ρ,k0,a⟩;cases z:dCG l f k s t rd ρ with
 |bad=>rw[z]at a;exact a.elim
 |ok es ρ1=>
 rw[z]at a;obtain⟨ds,ρF,zf,zl,hfl⟩:=Oo z;rw[eval_ListComp];refine OE hc hi qh hb hs I k0 zf zl hfl λC D vs G' H' s4 m I7 hm hC hL hz hcl hp k' s' n=>?_
 exact⟨m,hm,λh' sb=>⟨.ref D,H',I7.turned (t':=s4.toks) (it:=C) (λb o hb e=>(sb.2 b hb).trans e) hC hL (.inr hz) hcl hp,rfl,a D vs G' H' k' s' n⟩⟩
theorem sD_g{l:Bool}{y:Str}{j:Nat}{py:Pos}{spos:Pos}{tg elt iter:J7}{ifs:A3}{gs:List Comprehension}{scope:Scope}{pos:Pos}{N2:List Str}{k:Nat}{f:M AY}{s:D->Ut->A6}{t:M Bool}{rd:RdB}(hN:X.N.Nodup)(hj:X.N[j]?=O y)(hy:X.env.scope.names.lookup y=O .local)(hc:X.calm=AW)
  (hi:PI X tg iter (iD X.K B G0 f)) (qh:Zg X N2 scope (.ListComp elt (⟨tg,iter,ifs,0⟩::gs) scope pos) tg ifs s t rd) (hb:VR X.env.scope scope X.N N2 k) (hs:∀x,Ur iter X.env x=pure x:=by intro _;rfl)
  (hsw:swapsWith (.ListComp elt (⟨tg,iter,ifs,0⟩::gs) scope pos) (O (.Name y py)) spos.line X.env=pure AW:=by rfl) :
  PS X (.Assign [.Name y py] (.ListComp elt (⟨tg,iter,ifs,0⟩::gs) scope pos) spos) (tS X.K B G0 KX (Kw j (dCG l f k s t rd))):=by
 intro pins s0 σ H Dn I ⟨G,ρ,k0,a⟩;unfold Kw sB at a;cases z:dCG l f k s t rd ρ with
 |bad=>rw[z]at a;exact a.elim
 |ok es ρ1=>
 rw[z]at a;dsimp only at a;by_cases hl:j<ρ1.length
 .rw[Qn hl]at a
  obtain⟨ds,ρF,zf,zl,hfl⟩:=Oo z;rw[exec_Assign_Name_used _ _ _ _ hsw];refine Qb (Q4 (Qb ?_));show J9 _ X.A (do let _ ←comprehension (.ListComp elt (⟨tg,iter,ifs,0⟩::gs) scope pos) scope X.env _ (newList []) AX (eval iter X.env) (O (assign (.Name y py) X.env))) _ _ s0;refine Qb (Qy (OE (use:=O (assign (.Name y py) X.env)) (Qc:=λ_ s'=>SP X pins Dn .next s') hc hi qh hb hs I k0 zf zl hfl λC D vs G' H' s4 m I7 hm hC hL hz hcl hp k' s' n=>?_) (λ_ s' hq=>Qf (Qf hq)) λ_ _ e=>e);show J9 _ X.A (assign (.Name y py) X.env (.ref D)) _ _ s4;refine wpAny_assign_Name (Nt I7 hN hj (.inl hy) (v:=.ref D) AU (λs5 I8 ⟨ad,sb,hx⟩=>?_) (.inr hy))
  have hCa:C≠ad:=by
   rcases hx with e|e
   .rw[e];exact hL
   .exact Ne.symm (hcl y ad e)
  refine⟨m,hm.sameBut sb hCa,λh' sb'=>⟨_,H',I8.turned (t':=s5.toks) (it:=C) (λb o hb e=>(sb'.2 b hb).trans e) hC hL (.inr hz) hcl hp,?_⟩⟩;exact a _ G' H' (k'.setOwn n hl) s'
 .rw[QD hl]at a;exact a.elim
theorem Pf{K:Frag}{f f':M AY}(h:∀ρ es ρ',f ρ=.ok es ρ'->f' ρ=.ok es ρ'){σ:St}{H:Hp}{Q:VK}(q:tL K B G0 f σ H Q):tL K B G0 f' σ H Q:=by
 obtain⟨G,ρ,k,a⟩:=q;refine⟨G,ρ,k,?_⟩;cases z:f ρ with
 |bad=>rw[z]at a;exact a.elim
 |ok es ρ'=>rw[z]at a;rw[h ρ es ρ' z];exact a
theorem LU{K:Frag}{f f':M AY}{j:Nat}(h:∀ρ es ρ',f ρ=.ok es ρ'->f' ρ=.ok es ρ'){Dn:_}{σ:St}{H:Hp}(q:tS K B G0 KX (Kw j f) Dn σ H):tS K B G0 KX (Kw j f') Dn σ H:=by
 obtain⟨G,ρ,k,a⟩:=q;refine⟨G,ρ,k,?_⟩;unfold Kw sB at a⊢;cases z:f ρ with
 |bad=>rw[z]at a;exact a.elim
 |ok es ρ'=>rw[z]at a;rw[h ρ es ρ' z];exact a
end
theorem Sa{s:D->Ut->A6}{t:M Bool}{g:M D}:∀{ds:AY}{ρ:Ut}{es esF:AY},KG s t g ds ρ es=O esF->∃ρF,cT s t (rL g) ds ρ es=O (esF,ρF)
 |[],ρ,es,esF,h=>by rw[KG]at h;cases h;exact⟨ρ,rfl⟩
 |d::r,ρ,es,esF,h=>by
  rw[KG]at h;rw[cT];cases zs:s d ρ with
  |none=>rw[zs]at h;cases h
  |some ρ1=>
  rw[zs]at h;dsimp only at h⊢;cases zt:t ρ1 with
  |bad=>rw[zt]at h;cases h
  |ok b ρ2=>
  rw[zt]at h;dsimp only at h⊢;cases b with
  |false=>exact Sa (ds:=r) h
  |true=>
   rw[Qn AU]at h⊢;unfold rL;cases zg:g ρ2 with
   |bad=>rw[zg]at h;cases h
   |ok e ρ3=>
   rw[zg]at h;dsimp only at h⊢;split at h
   .rename_i hl
    rw[Qn hl];exact Sa (ds:=r) h
   .cases h
theorem Rs{s:D->Ut->A6}{t:M Bool}{g:M D}:∀{ds:AY}{ρ:Ut}{es:AY},Xm s t g ds ρ es=cT s t (rL g) ds ρ es
 |[],ρ,es=>rfl
 |d::r,ρ,es=>by
  rw[Xm,cT];cases s d ρ with
  |none=>rfl
  |some ρ1=>
  dsimp only;cases t ρ1 with
  |bad=>rfl
  |ok b ρ2=>
  dsimp only;cases b with
  |false=>exact Rs (ds:=r)
  |true=>
   rw[Qn AU,Qn AU];unfold rL;cases g ρ2 with
   |bad=>rfl
   |ok e ρ3=>
   dsimp only;split
   .exact Rs (ds:=r)
   .rfl
theorem Rr{s s1:D->Ut->A6}{t t1:M Bool}{f:M AY}{g:M D}:∀{ds:AY}{ρ:Ut}{es esF:AY},YH s t f s1 t1 g ds ρ es=O esF->∃ρF,cT s t (rN f s1 t1 (rL g)) ds ρ es=O (esF,ρF)
 |[],ρ,es,esF,h=>by rw[YH]at h;cases h;exact⟨ρ,rfl⟩
 |d::r,ρ,es,esF,h=>by
  rw[YH]at h;rw[cT];cases zs:s d ρ with
  |none=>rw[zs]at h;cases h
  |some ρ1=>
  rw[zs]at h;dsimp only at h⊢;cases zt:t ρ1 with
  |bad=>rw[zt]at h;cases h
  |ok b ρ2=>
  rw[zt]at h;dsimp only at h⊢;cases b with
  |false=>exact Rr (ds:=r) h
  |true=>
   rw[Qn AU]at h⊢;unfold rN;cases zg:f ρ2 with
   |bad=>rw[zg]at h;cases h
   |ok ds ρ3=>
   rw[zg]at h;dsimp only at h⊢;rw[←Rs];cases zl:Xm s1 t1 g ds (U7 ρ3) es with
   |none=>rw[zl]at h;cases h
   |some pr=>rw[zl]at h;exact Rr (ds:=r) h
theorem DU{f:M AY}{k:Nat}{s:D->Ut->A6}{t:M Bool}{g:M D}(ρ:Ut)(es:AY)(ρ':Ut)(h:Zv f k s t g ρ=.ok es ρ'):dCG AX f k s t (rL g) ρ=.ok es ρ':=by
 unfold Zv at h;unfold dCG;cases zf:f ρ with
 |bad=>rw[zf]at h;cases h
 |ok ds ρ1=>
 rw[zf]at h;dsimp only[ZE]at h⊢;cases zl:KG s t g ds (U7 ρ1++Ud k AV) []with
 |none=>rw[zl]at h;cases h
 |some esF=>
 rw[zl]at h;cases h;obtain⟨ρF,e⟩:=Sa zl;rw[e];exact Qn λz=>by cases z
theorem Bd{f:M AY}{k:Nat}{s:D->Ut->A6}{t:M Bool}{g:M D}(ρ:Ut)(es:AY)(ρ':Ut)(h:VZ f k s t g ρ=.ok es ρ'):dCG AW f k s t (rL g) ρ=.ok es ρ':=by
 unfold VZ at h;unfold dCG;cases zf:f ρ with
 |bad=>rw[zf]at h;cases h
 |ok ds ρ1=>
 rw[zf]at h;dsimp only[ZE]at h⊢;cases zl:KG s t g ds (KP ρ1++Ud k AV) []with
 |none=>rw[zl]at h;cases h
 |some esF=>
 rw[zl]at h;dsimp only at h;split at h
 .rename_i hf
  cases h;obtain⟨ρF,e⟩:=Sa zl;rw[e];exact Qn λ_=>hf
 .cases h
theorem Bc{f f1:M AY}{k:Nat}{s s1:D->Ut->A6}{t t1:M Bool}{g:M D}(ρ:Ut)(es:AY)(ρ':Ut)(h:WG f k s t f1 s1 t1 g ρ=.ok es ρ'):dCG AX f k s t (rN f1 s1 t1 (rL g)) ρ=.ok es ρ':=by
 unfold WG at h;unfold dCG;cases zf:f ρ with
 |bad=>rw[zf]at h;cases h
 |ok ds ρ1=>
 rw[zf]at h;dsimp only[ZE]at h⊢;cases zl:YH s t f1 s1 t1 g ds (U7 ρ1++Ud k AV) []with
 |none=>rw[zl]at h;cases h
 |some esF=>
 rw[zl]at h;cases h;obtain⟨ρF,e⟩:=Rr zl;rw[e];exact Qn λz=>by cases z
noncomputable def Xl(q:Option NameKind->Bool)(SC scope:Scope)(N1 N2:List Str)(k:Nat):Bool:=
 Ta scope.names N1 N2 k&&decide (scope.kind=.function)&&(scope.names.all λy=>decide (scope.names.lookup y.1=O y.2))&&scope.names.all λy=>match y.2 with
  |.free=>q (SC.names.lookup y.1)
  |_=>AW
noncomputable def WA:Option NameKind->Bool
 |some .cell=>AW|some .free=>AW|_=>AX
theorem Mh{q:Option NameKind->Bool}{SC SC' scope:Scope}{N1 N2:List Str}{k:Nat}(h:Xl q SC scope N1 N2 k=AW)(f:∀x,q (SC.names.lookup x)=AW->SC'.names.lookup x=O .cell∨SC'.names.lookup x=O .free):VR SC' scope N1 N2 k:=by unfold Xl at h;rw[Qm,Qm,Qm,QR,QR]at h;obtain⟨⟨⟨h1,h2⟩,h0⟩,h3⟩:=h;refine⟨h1,Qa h2,λy hy=>Qa (h0 y hy),λy hy e=>?_⟩;have:=h3 y hy;rw[e]at this;exact f _ this
theorem On{SC scope:Scope}{N1 N2:List Str}{k:Nat}(h:Xl WA SC scope N1 N2 k=AW):VR SC scope N1 N2 k:=Mh h λx e=>by
 cases z:SC.names.lookup x with
 |none=>rw[z]at e;cases e
 |some y=>rw[z]at e;cases y<;>first|exact .inl rfl|exact .inr rfl|cases e
section
variable{X:Cx}{B G0:Hp}{KX:XW}
theorem MX{l:Bool}{tg elt iter:J7}{ifs:A3}{gs:List Comprehension}{scope:Scope}{pos:Pos}{f:M AY}{s:D->Ut->A6}{t:M Bool}{rd:RdB}{F:M AY}(SC:Scope)(N1 N2:List Str)(k:Nat)(le:∀ρ es ρ',F ρ=.ok es ρ'->dCG l f k s t rd ρ=.ok es ρ')(hc:X.calm=AW)
  (hi:PI X tg iter (iD X.K B G0 f)) (qh:Zg X N2 scope (.ListComp elt (⟨tg,iter,ifs,0⟩::gs) scope pos) tg ifs s t rd) (h1:X.env.scope=SC) (h2:X.N=N1) (hb:Xl WA SC scope N1 N2 k=AW) (hs:∀x,Ur iter X.env x=pure x:=by intro _;rfl) :
  PE X (.ListComp elt (⟨tg,iter,ifs,0⟩::gs) scope pos) (tL X.K B G0 F):=
 UV (Pg hc hi qh (by rw[h1,h2];exact On hb) hs) λ_ _ _ q=>Pf le q
theorem sD_1{l:Bool}{y:Str}{j:Nat}{py:Pos}{spos:Pos}{tg elt iter:J7}{ifs:A3}{gs:List Comprehension}{scope:Scope}{pos:Pos}{f:M AY}{s:D->Ut->A6}{t:M Bool}{rd:RdB}{F:M AY}(SC:Scope)(N1 N2:List Str)(k:Nat)(le:∀ρ es ρ',F ρ=.ok es ρ'->dCG l f k s t rd ρ=.ok es ρ')(hN:X.N.Nodup)(hj:X.N[j]?=O y)(hy:X.env.scope.names.lookup y=O .local)(hc:X.calm=AW)
  (hi:PI X tg iter (iD X.K B G0 f)) (qh:Zg X N2 scope (.ListComp elt (⟨tg,iter,ifs,0⟩::gs) scope pos) tg ifs s t rd) (h1:X.env.scope=SC) (h2:X.N=N1) (hb:Xl WA SC scope N1 N2 k=AW) (hs:∀x,Ur iter X.env x=pure x:=by intro _;rfl)
  (hsw:swapsWith (.ListComp elt (⟨tg,iter,ifs,0⟩::gs) scope pos) (O (.Name y py)) spos.line X.env=pure AW:=by rfl) :
  PS X (.Assign [.Name y py] (.ListComp elt (⟨tg,iter,ifs,0⟩::gs) scope pos) spos) (tS X.K B G0 KX (Kw j F)):=
 Kt (sD_g hN hj hy hc hi qh (by rw[h1,h2];exact On hb) hs hsw) λ_ _ _ q=>LU le q
theorem LS{l:Bool}{scope0:Scope}{cl:List (Str×J5)}{C:J5}{s₀:J0}{H₀:Hp}{ex:A5}{N2:List Str}{tg elt iter:J7}{ifs:A3}{gs:List Comprehension}{scope:Scope}{pos:Pos}{f:M AY}{s:D->Ut->A6}{t:M Bool}{rd:RdB}{F:M AY}(N3:List Str)(k:Nat)(le:∀ρ es ρ',F ρ=.ok es ρ'->dCG l f k s t rd ρ=.ok es ρ')(hc:X.calm=AW)
  (hi:PI (X.blk N2 scope0 cl C s₀ H₀ ex) tg iter (iD X.K B G0 f)) (qh:Zg (X.blk N2 scope0 cl C s₀ H₀ ex) N3 scope (.ListComp elt (⟨tg,iter,ifs,0⟩::gs) scope pos) tg ifs s t rd) (hb:Xl WA scope0 scope N2 N3 k=AW) (hs:∀x,Ur iter (X.blk N2 scope0 cl C s₀ H₀ ex).env x=pure x:=by intro _;rfl) :
  PE (X.blk N2 scope0 cl C s₀ H₀ ex) (.ListComp elt (⟨tg,iter,ifs,0⟩::gs) scope pos) (tL X.K B G0 F):=by
 refine UV (Pg (X:=X.blk N2 scope0 cl C s₀ H₀ ex) hc hi qh (Mh hb λx e=>?_) hs) λ_ _ _ q=>Pf le q
 cases z:scope0.names.lookup x with
 |none=>rw[z]at e;cases e
 |some y=>
  rw[z]at e;cases y with
  |free=>exact(RK (env:=X.env) z).symm
  |cell=>exact .inl (Wp (by decide) z)
  |_=>cases e
end
section
variable{X:Cx}{B G0:Hp}{e a b c tg:J7}{pos:Pos}{es rest:A3}
theorem EOk.given{K:Frag}{G H:Hp}{σ:St}{ρ:Ut}{a:J5}{vs:List V}{ds:AY}(k:EOk K B G0 G H σ ρ)(n:NewL K B G H σ ρ a vs ds):EOk K B G0 (upd G a (.lst vs)) H σ ρ where
 bh:=k.bh
 gh:=λb u q=>by
  by_cases z:b=a
  .subst z;rw[U8]at q;cases q;exact n.h
  .rw[UZ z]at q;exact k.gh b u q
 g0:=k.g0.trans (KT n.g)
 np:=λb o q z=>by
  have zb:b≠a:=λz=>by subst z;rw[n.b]at q;cases q
  rw[UZ zb];exact k.np b o q z
 len:=k.len
 pub:=λi d q=>let ⟨v,h1,h2⟩:=k.pub i d q;⟨v,h1,h2.mono (KT n.g)⟩
 own:=λi ds q=>by
  obtain⟨b,ws,h1,h2,h3,h4,h5⟩:=k.own i ds q;have zb:b≠a:=λz=>by subst z;exact n.f i ds q h1
  exact⟨b,ws,h1,h2,by rw[UZ zb];exact h3,h4,h5.mono (KT n.g)⟩
 sep:=k.sep
 dp:=k.dp.map (λ_ _ _ q=>⟨q,rfl⟩) (λ_ ds q=>⟨ds,q,rfl⟩) λi p d v fp q s r w nn=>⟨r.mono (KT n.g) (.refl _),λb m=>⟨(w b m).1,by rw[UZ (λz=>n.dp i p d v fp q s r (by rw[←z];exact m))];exact(w b m).2⟩⟩
theorem Ec{f:M AY}(h:PE X e (tL X.K B G0 f)):PE X e (tD X.K B G0 (UE Ue f)):=
 UV h λσ H Q ⟨G,ρ,k,a⟩=>by
  refine⟨G,ρ,k,?_⟩;unfold UE UH at a;cases z:f ρ with
  |bad=>rw[z]at a;exact a.elim
  |ok ds ρ1=>rw[z]at a;intro ad vs G' H' k' s' n;exact a (.ref ad) _ H' (k'.given n) (s'.trans (KT n.g)) (.lst (SqL.of U8) (n.r.mono (KT n.g)))
theorem DT(hc:X.calm=AW):Zx X (.builtin "all") (λxs H Q=>∃l,∃bs:List Bool,xs=[.ref l]/\SqL X.K H l (bs.map V.bl)/\Q (.bl (bs.all id)) H):=by
 intro pins s σ H xs us Q I rx h;obtain⟨l,bs,rfl,hq,q⟩:=h;obtain⟨u,rfl,ru⟩:=rx.one;cases ru;obtain⟨its,rv,p,hz⟩:=I.list hq;have hl:=p.isList;have hlt:l<s.heap.objs.size:=by obtain⟨_,e,_⟩:=id hl;exact Qh e
 have key:∀(i:Nat) v,its.toArray[i]?=O v->∃t,bs[i]?=O t/\v=.bool t:=λi v e=>by
  have e:its[i]?=O v:=by simpa using e
  have hi:i<bs.length:=by
   have:=(Qr.mp e).1;have h2:=rv.length;rw[Qd]at h2
   lia
  obtain⟨u,e2,r2⟩:=rv.get (i:=i) (x:=.bl bs[i]) (by rw[Qt,Qi hi];rfl);rw[e]at e2;cases e2;exact⟨bs[i],Qi hi,r2⟩
 refine call_all_walk (wpAny_pyIter_list hl ?_)
 refine⟨s.heap.objs.size,[s.heap.objs.size,l],[s.heap.objs.size],its.toArray.size,_,_,λi=>(bs[i]?).getD AW,rfl,Walks.list (A:=X.A.in1) (I.ok.hd hc) _ l (QO hlt) its.toArray,
  ⟨⟨_,QE _ AU,rfl,rfl⟩,hl.push _⟩,λi v s' Q' E' hP hQ=>?_,λh' tk hk=>?_⟩
 .obtain⟨b,e,rfl⟩:=key i v hP
  simp only[e,JD]at hQ;exact Q0 hQ
 .have hn:its.toArray.size=bs.length:=by have:=rv.length;rw[List.length_map]at this;simp;lia
  have e:((Uc its.toArray.size).all λi=>(bs[i]?).getD AW)=bs.all id:=by
   rw[hn,Bool.eq_iff_iff,QR,QR];constructor
   .intro h b hb
    obtain⟨i,hi,e⟩:=List.getElem_of_mem hb;have:=h i (Jj.mpr hi);simp only[Qi hi,JD,e]at this;exact this
   .intro h i hi
    have hi':=Jj.mp hi;simp only[Qi hi',JD];exact h _ (JO hi')
  rw[e];exact⟨.bl (bs.all id),H,I.kept (t':=tk) λb x e=>hk b x (λhm=>by rw[QX.mp hm]at e;exact Jz _ (Qh e)) (Qe _ e),rfl,q⟩
noncomputable def Wm:AY->Option (List Bool)
 |[]=>O []
 |.bool b::r=>(Wm r).map (b :: ·)
 |_=>AV
theorem Mu{K:Frag}{G:Hp}:∀{vs:List V}{ds:AY}{bs:List Bool},Reps K G vs ds->Wm ds=O bs->vs=bs.map V.bl
 |_,_,bs,.nil,e=>by cases e;rfl
 |_,_,bs,.cons (d:=d) r t,e=>by
  cases d with
  |bool b=>
   unfold Wm at e;cases z:Wm _ with
   |none=>rw[z]at e;cases e
   |some cs=>rw[z]at e;cases e;rw[r.bl_inv,Mu t z];rfl
  |_=>cases e
noncomputable def K6:AY->A4
 |[.list ds]=>(Wm ds).map λbs=>.bool (bs.all id)
 |_=>AV
theorem MW(hc:X.calm=AW):ZI X (.builtin "all") K6:=by
 refine⟨_,DT hc,λvs G H ds d Q s r e k=>?_⟩;unfold K6 at e;split at e
 .rename_i ds
  cases z:Wm ds with
  |none=>rw[z]at e;cases e
  |some bs=>rw[z]at e;cases e;obtain⟨v,rfl,q⟩:=r.one_inv;obtain⟨l,ws,rfl,h1,r1⟩:=q.lst_inv;have hw:=Mu r1 z;subst hw;exact⟨l,bs,rfl,s.seq h1,k _ G H (.refl s) (.bl _)⟩
 .cases e
noncomputable def Its(x:Str):It:=⟨λi _=>i<x.cps.size,λi H v H'=>H'=H/\∃c,x.cps[i]?=O c/\v=.str ⟨#[c]⟩,λi _=>x.cps.size<=i⟩
theorem DS{P:J4}{w:World}{K:Frag}{tg:J7}(x:Str)(t:Tok)(it:J5):Turn P w K tg (Its x) [it] it (λi h=>h.IsStrIter it (strIterType x) x t i) where
 mem:=by simp
 obj:=λi h st b hb=>by
  have e:b=it:=by simpa using hb
  subst e;obtain⟨o,e,c,d⟩:=st;exact⟨o,e,λv z=>by rw[d]at z;cases z⟩
 keep:=λi h h' st k=>by obtain⟨o,e,c,d⟩:=st;exact⟨o,k it (by simp) o e,c,d⟩
 item:=by
  intro X hP hw hK hc i pins s σ H E I hf st hg;subst hP hw hK;obtain⟨f0,f1,f2,f3,f4,f5⟩:=hf it (by simp);have hx:x.cps[i]?=O x.cps[i]:=JE hg
  have fin:∀h' tk(T:String),strIterType x=T->h'.IsStrIter it T x t (i+1)->Heap.SameBut it s.heap h'->["enumerate", "zip", "dict_itemiterator", "dict_reverseitemiterator", "odict_iterator", "itertools.zip_longest", "itertools.pairwise"].contains T=AX ->
    ∃u,O (Value.str ⟨#[x.cps[i]]⟩ s.toks)=O u/\J9 (model X.prog X.w) X.A (letOwnedTupleGo tg (.ref it) u) (λ_ s2=>∃v H',Inv X pins σ H' s2/\RelV v u/\(Its x).yld i H v H'/\s2.heap.IsStrIter it (strIterType x) x t (i+1)/\∀b∈[it],H' b=AV) E {s with heap:=h',toks:=tk}:=by
   intro h' tk T eT st' sb hn;have I1:Inv X pins σ H {s with heap:=h',toks:=tk}:=I.turned (t':=tk) (λb o hb e=>(sb.2 b hb).trans e) f0 f1 f3 f4 f5;obtain⟨o,e,c,d⟩:=id st';refine⟨_,rfl,VU (s:={s with heap:=h',toks:=tk}) e c d hn ⟨.str ⟨#[x.cps[i]]⟩,H,I1,⟨_,rfl⟩,⟨rfl,_,hx,rfl⟩,by rw[eT];exact st',λb hb=>(hf b hb).1⟩⟩
  cases ha:x.cps.all (· < 128)with
  |true=>
   have eT:strIterType x = "str_ascii_iterator" :=by simp[strIterType,ha]
   rw[eT]at st;exact wpAny_pyNext_ascii_item st hx λh' st' sb=>fin h' _ _ eT st' sb (by decide)
  |false=>
   have eT:strIterType x = "str_iterator" :=by simp[strIterType,ha]
   rw[eT]at st;exact wpAny_pyNext_wide_item st hx λh' st' sb=>fin h' _ _ eT st' sb (by decide)
 done:=by
  intro X hP hw hK hc i pins s σ H E I hf st hg;subst hP hw hK;obtain⟨f0,f1,f2,f3,f4,f5⟩:=hf it (by simp);have hx:x.cps[i]?=AV:=Array.getElem?_eq_none hg;cases ha:x.cps.all (· < 128)with
  |true=>
   have eT:strIterType x = "str_ascii_iterator" :=by simp[strIterType,ha]
   rw[eT]at st;exact wpAny_pyNext_ascii_end (I.ok.hd hc) st hx λh' eb=>⟨rfl,I.turned (t':=s.toks) (λb o hb e=>eb b o hb e) f0 f1 f3 f4 f5⟩
  |false=>
   have eT:strIterType x = "str_iterator" :=by simp[strIterType,ha]
   rw[eT]at st;exact wpAny_pyNext_wide_end (I.ok.hd hc) st hx λh' eb=>⟨rfl,I.turned (t':=s.toks) (λb o hb e=>eb b o hb e) f0 f1 f3 f4 f5⟩
 self:=λA i s Q E st h=>by
  cases ha:x.cps.all (· < 128)with
  |true=>
   have eT:strIterType x = "str_ascii_iterator" :=by simp[strIterType,ha]
   rw[eT]at st;exact wpAny_pyIter_striter_ascii st h
  |false=>
   have eT:strIterType x = "str_iterator" :=by simp[strIterType,ha]
   rw[eT]at st;exact wpAny_pyIter_striter_wide st h
noncomputable def iAny(K:Frag)(tl:TE):TI:=λσ H R=>tl σ H λx H1=>(∃a,x=.ref a/\(∃xs,SqL K H1 a xs)/\R (Itl K a) H1)∨(∃a,x=.ref a/\(∃xs,SqT K H1 a xs)/\R (Itt K a) H1) ∨ ∃z,x=.str z/\R (Its z) H1
theorem LR{l:J7}{tl:TE}(hl:PE X l tl):PI X tg l (iAny X.K tl):=by
 intro pins s σ H R I h;refine thn (hl pins s σ H _ I h) λv s1 ⟨x,H1,I1,r1,q1⟩=>?_
 have fpOk:∀b∈[s1.heap.objs.size],KJ X pins H1 b:=λb hb=>by
  have e:b=s1.heap.objs.size:=by simpa using hb
  subst e;exact I1.fpOk (Qq _) (I1.hok.fresh (Qq _))
 rcases q1 with ⟨a,e,⟨xs,hq⟩,q⟩|⟨a,e,⟨xs,hq⟩,q⟩|⟨z,e,q⟩
 .subst e
  cases r1;obtain⟨its,rv,p,hz⟩:=I1.list hq;refine wpAny_pyIter_list p.isList ?_;exact⟨s1.heap.objs.size,[s1.heap.objs.size],_,_,H1,rfl,I1.kept (t':=s1.toks) λb o e=>Qe _ e,BK a _,⟨_,QE _ AU,rfl,rfl⟩,fpOk,q⟩
 .subst e
  cases r1;obtain⟨its,rv,p,hz⟩:=I1.tuple hq;refine wpAny_pyIter_tuple p ?_;exact⟨s1.heap.objs.size,[s1.heap.objs.size],_,_,H1,rfl,I1.kept (t':=s1.toks) λb o e=>Qe _ e,Ae a _,⟨_,QE _ AU,rfl,rfl⟩,fpOk,q⟩
 .subst e
  obtain⟨t,rfl⟩:=r1;refine wpAny_pyIter_strU ?_;exact⟨s1.heap.objs.size,[s1.heap.objs.size],_,_,H1,rfl,I1.kept (t':=s1.toks) λb o e=>Qe _ e,DS z t _,⟨_,QE _ AU,rfl,rfl⟩,fpOk,q⟩
noncomputable def VY(z:Str):AY:=z.cps.toList.map λc=>.str ⟨#[c]⟩
noncomputable def S6:D->Option AY
 |.list ds=>O ds
 |.tuple ds=>O ds
 |.str z=>O (VY z)
 |_=>AV
theorem Aq{K:Frag}{G1:Hp}{ad:J5}{vs:List V}{ds:AY}(h:SqT K G1 ad vs)(r:Reps K G1 vs ds):YM K (Itt K ad) ds G1 where
 go:=λi G H s1 s2 hi=>by
  have hi':i<vs.length:=by rw[r.length];exact hi
  exact⟨vs,vs[i],ZJ (s1.trans s2) h,Qi hi'⟩
 stop:=λi G H s1 s2 hi=>⟨vs,ZJ (s1.trans s2) h,by rw[r.length];exact hi⟩
 yld:=λi G H x H' d s1 s2 e y=>by obtain⟨rfl,y⟩:=y;obtain⟨v,e1,r1⟩:=r.get e;have:=y vs (ZJ (s1.trans s2) h);rw[e1]at this;cases this;exact⟨G,.refl s2,r1.mono s1⟩
theorem Bb{K:Frag}{G1:Hp}{z:Str}:YM K (Its z) (VY z) G1 where
 go:=λi G H s1 s2 hi=>by unfold VY at hi;simpa[Its]using hi
 stop:=λi G H s1 s2 hi=>by unfold VY at hi;simpa[Its]using hi
 yld:=λi G H x H' d s1 s2 e y=>by
  obtain⟨rfl,c,hc,rfl⟩:=y;unfold VY at e;rw[Qt]at e;have:z.cps.toList[i]?=O c:=by simpa using hc
  rw[this]at e;cases e;exact⟨G,.refl s2,.str _⟩
noncomputable def KH(f:M D):M AY:=UH f λx=>UG (S6 x)
theorem LQ{f:M D}(h:PE X e (tD X.K B G0 f)):PI X tg e (iD X.K B G0 (KH f)):=YR (LR h) λσ H R q=>tM.toI (R0:=Rep X.K) q λv H' G' ρ' x k r a=>by
 cases x with
 |list ds=>obtain⟨ad,vs,rfl,h1,r1⟩:=r.lst_inv;exact .inl ⟨ad,rfl,⟨vs,k.gh.seq h1⟩,a _ G' H' k (.refl _) (BD h1 r1)⟩
 |tuple ds=>obtain⟨ad,vs,rfl,h1,r1⟩:=r.tup_inv;exact .inr (.inl ⟨ad,rfl,⟨vs,ZJ k.gh h1⟩,a _ G' H' k (.refl _) (Aq h1 r1)⟩)
 |str z=>have:=r.str_inv;subst this;exact .inr (.inr ⟨z,rfl,a _ G' H' k (.refl _) Bb⟩)
 |_=>exact a.elim
noncomputable def inS(i j:Str):Bool:=!(Builtin.Str.occurrences j i 0 j.length 1).isEmpty
noncomputable def oInS:D->D->A9
 |.str i,.str j=>O (inS i j)
 |_,_=>AV
theorem MV:OpB X (Ub .In) oInS:=⟨_,BG,λv u G H x y d Q s rx ry e k=>by
 unfold oInS at e;split at e
 .cases e
  have:=rx.str_inv;subst this;have:=ry.str_inv;subst this;exact⟨_,_,rfl,rfl,k⟩
 .cases e⟩
theorem MU{x:Str}{i:Int}(hg:Gl X x)(hm:∃t,X.mg x=O (.int i t))(hd:(x==("__debug__" : Str))=AX:=by decide):PE X (.Name x pos) (tD X.K B G0 (Uu (.int i))):=by obtain⟨t,hm⟩:=hm;exact UV (T2 (v:=.int i) hg hm ⟨t,rfl⟩ hd) λσ H Q ⟨G,ρ,k,a⟩=>aft.now a k (.int _)
end
section
variable{X:Cx}{B G0:Hp}{KX:XW}{e o a b c tg i:J7}{pos p2:Pos}{es rest:A3}{te to ti:TE}
noncomputable def LN(te to ti:TE):TS:=λD σ H=>te σ H λv H1=>to σ H1 λx H2=>ti σ H2 λk H3=>∃l xs n,x=.ref l/\H3 l=O (.lst xs)/\k=.int n/\0<=n/\n<xs.length/\D.nx σ (upd H3 l (.lst (xs.set n.toNat v)))
theorem DR(he:PE X e te)(ho:PE X o to)(hi:PE X i ti)(hs:swapsWith e (O (.Subscript o i p2)) pos.line X.env=pure AX:=by rfl):PS X (.Assign [.Subscript o i p2] e pos) (LN te to ti):=by
 intro pins s σ H D I h;refine wpAny_Assign_Subscript (thn (he pins s σ H _ I h) λv s1 ⟨x,H1,I1,r1,q1⟩=>thn (ho pins s1 σ H1 _ I1 q1) λov s2 ⟨y,H2,I2,r2,q2⟩=>thn (hi pins s2 σ H2 _ I2 q2) λiv s3 ⟨k,H3,I3,r3,q3⟩=>?_) hs;obtain⟨l,xs,n,rfl,hl,rfl,h0,h1,q⟩:=q3;cases r2;obtain⟨t,rfl⟩:=r3;obtain⟨z,its,m,r,hlen,ee⟩:=I3.lstM hl
 refine PySem.W.ki_setAt (items:=its.toArray) (n:=m) ee h0 (by
                                  have:J8<2 ^ 63:=by decide
                                  lia) (by simp;lia) ?_
 refine⟨σ,_,I3.lset (t':=s3.toks) (its:=its) (its':=its.set n.toNat v) (f:=(·.setIfInBounds n.toNat v)) hl ee (by simp) (r.set r1 n.toNat) (by rw[List.length_set];exact z),q⟩
noncomputable def Vk(j:Nat)(g f:M D):SM:=sB f λd ρ1=>match ρ1[j]? with
 |some (O (.own _))=>sB g (λy ρ2=>match y with
  |.int k=>(match ρ2[j]? with
   |some (O (.own ds))=>if 0<=k/\k<ds.length then .nx (ρ2.set j (O (.own (ds.set k.toNat d))))else .bad
   |_=>.bad)
  |_=>.bad) ρ1
 |_=>.bad
theorem Eb{j:Nat}{f g:M D}(he:PE X e (tD X.K B G0 f))(ho:PE X o (Kc j))(hi:PE X i (tD X.K B G0 g))(hs:swapsWith e (O (.Subscript o i p2)) pos.line X.env=pure AX:=by rfl) :
  PS X (.Assign [.Subscript o i p2] e pos) (tS X.K B G0 KX (Vk j g f)):=
 Kt (DR he ho hi hs) λD σ H q=>tS.bnd (R:=Rep X.K) q λv H1 G1 ρ1 d k r a=>by
  cases q0:ρ1[j]? with
  |none=>rw[q0]at a;exact a.elim
  |some o0=>
   cases o0 with
   |none=>rw[q0]at a;exact a.elim
   |some sl0=>
    cases sl0 with
    |deep _ _=>rw[q0]at a;exact a.elim
    |pub d=>rw[q0]at a;exact a.elim
    |own qM=>
     rw[q0]at a;obtain⟨ad,vs0,h1,h2,h3,h4,h5⟩:=k.own j qM q0;refine⟨.ref ad,h1,G1,ρ1,k,?_⟩;dsimp only at a;unfold sB at a;cases z:g ρ1 with
     |bad=>rw[z]at a;exact a.elim
     |ok y ρ2=>
      rw[z]at a;dsimp only at a;intro kv G' H' k' s' r';cases y with
      |int n=>
       dsimp only at a;cases q:ρ2[j]? with
       |none=>rw[q]at a;exact a.elim
       |some oo=>
        cases oo with
        |none=>rw[q]at a;exact a.elim
        |some sl=>
         cases sl with
         |deep _ _=>rw[q]at a;exact a.elim
         |pub d=>rw[q]at a;exact a.elim
         |own ds=>
          rw[q]at a;dsimp only at a;split at a
          .rename_i hn
           obtain⟨ad',vs,g1,g2,g3,g4,g5⟩:=k'.own j ds q;rw[h1]at g1;cases g1;refine⟨ad,vs,n,rfl,g4,r'.int_inv,hn.1,by rw[g5.length];exact hn.2,?_⟩;exact a σ G' _ (k'.change q h1 (g5.set (r.mono s') n.toNat)) s'
          .exact a.elim
      |_=>exact a.elim
noncomputable def Ys(z:Str)(lo hi:A7):Str:=if(Builtin.Str.strSliceIndices lo hi 1 z.length).length=z.length then z else⟨((Builtin.Str.strSliceIndices lo hi 1 z.length).filterMap (z.cps[·]?)).toArray⟩
theorem LM:SlR X (λx lo hi H Q=>∃z,x=.str z/\(Ys z lo hi).length<=J8/\Q (.str (Ys z lo hi)) H):=by
 intro pins s σ H x v vl vu lo hi sl Q I rx hs pl pu h;obtain⟨z,rfl,hz,q⟩:=h;obtain⟨t,rfl⟩:=rx;refine⟨"str", _,F.slot_str_getitem.lookup,typeIs_str s z t,?_⟩
 obtain⟨l,el,e1⟩:∃l:Option (Int×Tok),vl=partValue l/\l.map (·.1)=lo:=by
  cases pl with
  |none=>exact⟨AV,rfl,rfl⟩
  |int k t'=>exact⟨O (k,t'),rfl,rfl⟩
 obtain⟨u,eu,e2⟩:∃u:Option (Int×Tok),vu=partValue u/\u.map (·.1)=hi:=by
  cases pu with
  |none=>exact⟨AV,rfl,rfl⟩
  |int k t'=>exact⟨O (k,t'),rfl,rfl⟩
 subst el eu;refine wpAny_getItem_str_slice (l:=l) (u:=u) (st:=AV) hs AU ?_;unfold sliceMade slicePicked;rw[e1,e2];unfold Ys at hz q;by_cases hw:(Builtin.Str.strSliceIndices lo hi 1 z.length).length=z.length
 .rw[Qn hw]at hz q
  rw[if_pos (by simp[hw])];exact⟨.str z,H,I,⟨t,rfl⟩,q⟩
 .rw[QD hw]at hz q
  rw[if_neg (by simp[hw])];exact⟨hz,.str _,H,I.tok _,⟨_,rfl⟩,q⟩
end
section
variable{X:Cx}{B G0:Hp}{KX:XW}{e o a b c tg i:J7}{pos p2:Pos}{es rest:A3}{te to ti:TE}
theorem pvb(i:Nat){x:Str}{pos:Pos}{N':List Str}{scope:Scope}{cl:List (Str×J5)}{C:J5}{s₀:J0}{H₀:Hp}{ex:A5}(hN:N'[i]?=O x:=by rfl)
  (h:visK (scope.names.lookup x)=AW:=by rfl) (hd:(x==("__debug__" : Str))=AX:=by decide) (hcd:(x==("__classdict__" : Str))=AX:=by decide) :
  PE (X.blk N' scope cl C s₀ H₀ ex) (.Name x pos) (Kc i):=PL hN (Ef h) hd hcd
noncomputable def Yk:D->A7->A7->A4
 |.list xs,lo,hi=>O (.list (DL.cutD xs lo hi))
 |.str z,lo,hi=>if(Ys z lo hi).length<=1000000 then O (.str (Ys z lo hi))else AV
 |_,_,_=>AV
noncomputable def KE(f:M D)(lo hi:M A7):M D:=UH f λx=>UH lo λl=>UH hi λh=>UG (Yk x l h)
theorem BA{lo hi:Option J7}{f:M D}{l h:M A7}(he:PE X e (tD X.K B G0 f))(hl:PO X lo (tOi X.K B G0 l))(hu:PO X hi (tOi X.K B G0 h)) :
  PE X (.Subscript e (.Slice lo hi AV p2) pos) (tD X.K B G0 (KE f l h)):=
 UV (DA (Dc.or LM) he hl hu) λσ H Q q=>by
  refine tM.one (R:=Rep X.K) q λv H2 G ρ x k r a=>?_;refine tM.nx (R:=λ_ b c=>b=c) k a λl' H3 G3 ρ3 xl k3 s3 r3 a3=>?_;refine tM.nx (R:=λ_ b c=>b=c) k3 a3 λh' H4 G4 ρ4 xh k4 s4 r4 a4=>?_;have r3:l'=xl:=r3;have r4:h'=xh:=r4;subst r3 r4;unfold UG Yk at a4
  cases x with
  |list xs=>obtain⟨ad,vs,rfl,h1,r1⟩:=((r.mono s3).mono s4).lst_inv;exact .inl ⟨ad,vs,rfl,k4.gh.seq h1,λp hp=>aft.done a4 k4 (Ext.new k4.gh hp) (.lst (SqL.of U8) ((r1.cut l' h').mono (KT (k4.gh.free hp))))⟩
  |str z=>
   dsimp only at a4;have:=r.str_inv;subst this;by_cases hc:(Ys z l' h').length<=1000000
   .rw[Qn hc]at a4
    exact .inr ⟨z,rfl,Qv hc lim,aft.now a4 k4 (.str _)⟩
   .rw[QD hc]at a4;exact a4.elim
  |_=>exact a4.elim
end
section
variable{X:Cx}{B G0:Hp}{e o a b c tg:J7}{pos p2:Pos}{es rest:A3}{te to ti:TE}
noncomputable def Km{β:Type}(p:D->D->Option β)(i:Nat)(g:M D):M β:=λρ=>match ρ[i]? with
 |some (O (.pub d))=>(UH g λy=>UG (p d y)) ρ
 |some (O (.own _))=>(UH g λy=>λρ'=>match ρ'[i]? with|some (O (.own ds))=>UG (p (.list ds) y) ρ'|_=>.bad) ρ
 |_=>.bad
theorem RZ{K:Frag}{σ:St}{H:Hp}{p:D->D->A9}{r:R2}{i:Nat}{g:M D}{Q:Bool->Hp->Prop}{QV:VK}(hq:∀t H3,Q t H3->QV (.bl t) H3)(hr:∀v u G H x y d Q,Same G H->Rep K G v x->Rep K G u y->p x y=O d->Q (.bl d) H->r v u H Q)
  (q:tBo K B G0 (Km p i g) σ H Q):Kc i σ H λx H1=>tD K B G0 g σ H1 λy H2=>r x y H2 QV:=by
 obtain⟨G,ρ,k,a⟩:=q;unfold Km at a;cases q:ρ[i]? with
 |none=>rw[q]at a;exact a.elim
 |some o=>
  cases o with
  |none=>rw[q]at a;exact a.elim
  |some sl=>
   cases sl with
   |deep _ _=>rw[q]at a;exact a.elim
   |pub d=>
    rw[q]at a;obtain⟨v,h1,h2⟩:=k.pub i d q;refine⟨v,h1,G,ρ,k,?_⟩;dsimp only[UH]at a;cases z:g ρ with
    |bad=>rw[z]at a;exact a.elim
    |ok y ρ1=>rw[z]at a;intro u G' H' k' s' r';obtain⟨d',e',a'⟩:=aft.opt a;exact hr v u G' H' d y d' _ k'.gh (h2.mono s') r' e' (hq _ _ (a' d' G' H' k' s' AU))
   |own ds=>
    rw[q]at a;obtain⟨ad,vs,h1,h2,h3,h4,h5⟩:=k.own i ds q;refine⟨.ref ad,h1,G,ρ,k,?_⟩;dsimp only[UH]at a;cases z:g ρ with
    |bad=>rw[z]at a;exact a.elim
    |ok y ρ1=>
     rw[z]at a;dsimp only at a;intro u G' H' k' s' r';cases q1:ρ1[i]? with
     |none=>rw[q1]at a;exact a.elim
     |some oo=>
      cases oo with
      |none=>rw[q1]at a;exact a.elim
      |some sl1=>
       cases sl1 with
       |deep _ _=>rw[q1]at a;exact a.elim
       |pub d1=>rw[q1]at a;exact a.elim
       |own ds1=>
        rw[q1]at a;dsimp only at a;obtain⟨ad',ws,g1,g2,g3,g4,g5⟩:=k'.own i ds1 q1;rw[h1]at g1;cases g1;obtain⟨d',e',a'⟩:=aft.opt a;have sg:Same G' (upd G' ad (.lst ws)):=KT g3
        have sh:Same (upd G' ad (.lst ws)) H':=λb o q=>by
         by_cases z:b=ad
         .subst z;rw[U8]at q;cases q;exact g4
         .rw[UZ z]at q;exact k'.gh b o q
        exact hr (.ref ad) u _ H' (.list ds1) y d' _ sh (.lst (SqL.of U8) (g5.mono sg)) (r'.mono sg) e' (hq _ _ (a' d' G' H' k' s' AU))
theorem Ea{op:CmpOp}{p:D->D->A9}{i:Nat}{g:M D}(o:OpB X (Ub op) p)(ha:PE X a (Kc i))(hb:PE X b (tD X.K B G0 g))(hm:behindInMarks op b=AX) :
  PT X (.Compare a [op] [b] pos) (tBo X.K B G0 (Km p i g)):=by
 obtain⟨r,h,j⟩:=o;exact ZS (OB h ha hb hm) λσ H Q q=>RZ (λt H3 z=>⟨t,rfl,z⟩) j q
theorem F9{op:CmpOp}{p:D->D->A9}{i:Nat}{g:M D}(o:OpB X (Ub op) p)(ha:PE X a (Kc i))(hb:PE X b (tD X.K B G0 g))(hm:behindInMarks op b=AX) :
  PE X (.Compare a [op] [b] pos) (tD X.K B G0 (UE Uf (Km p i g))):=by
 obtain⟨r,h,j⟩:=o;exact UV (Ow h ha hb hm) λσ H Q q=>RZ (λt H3 z=>z) j (tBo.val q)
end
end DL
namespace L2
open PySem PySem.Spec PyProof.Rows
end L2
namespace DL
open PySem PySem.Spec L2
open PyProof.Rows hiding St
section
variable{X:Cx}{B G0:Hp}{e o a b c tg:J7}{pos p2 p3:Pos}{es rest:A3}{te to ti:TE}
noncomputable def oIn:D->D->A9
 |.str i,.str j=>O (inS i j)
 |x,.list xs=>if x.canLay0=AW/\Ui xs=AW/\x.depth<=60 then O (xs.any λy=>Uk y x)else AV
 |x,.tuple xs=>if x.canLay0=AW/\Ui xs=AW/\x.depth<=60 then O (xs.any λy=>Uk y x)else AV
 |_,_=>AV
noncomputable def WS(x y:D):A9:=match y with
 |.list xs=>if x.canLay0=AW/\Ui xs=AW/\x.depth<=60 then O (xs.any λy=>Uk y x)else AV
 |.tuple xs=>if x.canLay0=AW/\Ui xs=AW/\x.depth<=60 then O (xs.any λy=>Uk y x)else AV
 |_=>AV
theorem MT(hu:X.A.units+64<cLine):OpB X (Ub .In) WS:=by
 refine⟨λv u H Q=>∃G x y d,Same G H/\Rep X.K G v x/\Rep X.K G u y/\WS x y=O d/\Q (.bl d) H,?_,λv u G H x y d Q s rx ry e k=>⟨G,x,y,d,s,rx,ry,e,k⟩⟩;intro pins s σ H x y v u Q I rx ry ⟨G,dx,dy,d,sg,px,py,e,q⟩;unfold WS at e;split at e
 .split at e
  .rename_i c
   cases e;obtain⟨as,ra⟩:=Xx I sg px rx c.1;obtain⟨bs,rb⟩:=Xx I sg py ry (show Ui _=AW from c.2.1);exact SeqAt.in_list_reads rb ra c.2.1 c.1 (by have:=c.2.2;lia) ⟨.bl _,H,I,rfl,q⟩
  .cases e
 .split at e
  .rename_i c
   cases e;obtain⟨as,ra⟩:=Xx I sg px rx c.1;obtain⟨bs,rb⟩:=Xx I sg py ry (show Ui _=AW from c.2.1);exact SeqAt.in_tuple_reads rb ra c.2.1 c.1 (by have:=c.2.2;lia) ⟨.bl _,H,I,rfl,q⟩
  .cases e
 .cases e
theorem B_in(hu:X.A.units+64<cLine):OpB X (Ub .In) oIn:=(MV.or (MT hu)).congr λx y=>by cases x<;>cases y<;>rfl
theorem Ba{tl th ts:TO}{lo hi:Option J7}{st:J7}(he:PE X e te)(hl:PO X lo tl)(hu:PO X hi th)(hst:PO X (O st) ts):PE X (.Subscript e (.Slice lo hi (O st) p2) pos)
  (λσ H Q=>te σ H λx H1=>tl σ H1 λl H2=>th σ H2 λu H3=>ts σ H3 λt H4=>∃a xs,x=.ref a/\SqL X.K H4 a xs/\l=AV/\u=AV/\t=O (-1)/\∀p,H4 p=AV->Q (.ref p) (upd H4 p (.lst xs.reverse))):=by
 intro pins s σ H Q I h;refine Subscript_ (thn (he pins s σ H _ I h) λv s1 ⟨x,H1,I1,r1,q1⟩=>?_);refine wpAny_Slice (thn (hl pins s1 σ H1 _ I1 q1) λvl s2 ⟨l,H2,I2,pl,q2⟩=>thn (hu pins s2 σ H2 _ I2 q2) λvu s3 ⟨u,H3,I3,pu,q3⟩=>thn (hst pins s3 σ H3 _ I3 q3) λvt s4 ⟨t,H4,I4,pt,q4⟩=>?_);obtain⟨a,xs,rfl,hx,rfl,rfl,rfl,q⟩:=q4;cases r1;have I5:Inv X pins σ H4 {s4 with heap:=s4.heap.push {cls:=.type "slice", data:=.fields #[vl,vu,vt]}}:=I4.kept (t':=s4.toks) λb ob q=>Qe _ q
 obtain⟨its,r,ht,hz⟩:=I5.list hx;have hlen:=r.length;have hg:J9 (model X.prog X.w) X.A (getItem (.ref a) (.ref s4.heap.objs.size)) (EP X pins σ Q) X.xe {s4 with heap:=s4.heap.push {cls:=.type "slice", data:=.fields #[vl,vu,vt]}}:=by refine wpAny_getItem_list_slice ht.isList (Heap.IsSliceOf.new ..) pl pu pt (by simp) ?_ (by rw[List.size_toArray]<;>lia);rw[PySem.W.krv_pick];refine⟨.ref _,_,I5.laid (t':=s4.toks) (o:=.lst xs.reverse) (λb ob q=>Qe _ q) (Qq _) ?_,rfl,q _ (I5.hok.fresh (Qq _))⟩;exact⟨by rw[List.length_reverse];exact hz,its.reverse,0,r.reverse,QE _ AU⟩
 show J9 (model X.prog X.w) X.A (subscriptTail e (.Slice lo hi (O st) p2) (.ref a) (.ref s4.heap.objs.size)) (EP X pins σ Q) X.xe {s4 with heap:=s4.heap.push {cls:=.type "slice", data:=.fields #[vl,vu,vt]}};exact tail_any (ops:=[.ref a,.ref s4.heap.objs.size]) ht.isList.typeIs slot_list_getitem.lookup hg (by with_unfolding_all rfl)
noncomputable def XB:D->A7->A7->A7->A4
 |.list xs,AV,AV,O i=>if i = -1 then O (.list xs.reverse)else AV
 |_,_,_,_=>AV
noncomputable def Yo(f:M D)(lo hi st:M A7):M D:=UH f λx=>UH lo λl=>UH hi λh=>UH st λt=>UG (XB x l h t)
theorem F8{lo hi:Option J7}{st:J7}{f:M D}{l h t:M A7}(he:PE X e (tD X.K B G0 f))(hl:PO X lo (tOi X.K B G0 l))(hu:PO X hi (tOi X.K B G0 h))(hst:PO X (O st) (tOi X.K B G0 t)) :
  PE X (.Subscript e (.Slice lo hi (O st) p2) pos) (tD X.K B G0 (Yo f l h t)):=
 UV (Ba he hl hu hst) λσ H Q q=>by
  refine tM.one (R:=Rep X.K) q λv H2 G ρ x k r a=>?_;refine tM.nx (R:=λ_ b c=>b=c) k a λl' H3 G3 ρ3 xl k3 s3 r3 a3=>?_;refine tM.nx (R:=λ_ b c=>b=c) k3 a3 λh' H4 G4 ρ4 xh k4 s4 r4 a4=>?_;refine tM.nx (R:=λ_ b c=>b=c) k4 a4 λt' H5 G5 ρ5 xt k5 s5 r5 a5=>?_;have r3:l'=xl:=r3;have r4:h'=xh:=r4;have r5:t'=xt:=r5;subst r3 r4 r5
  cases x with
  |list xs=>
   cases l' with
   |some _=>exact a5.elim
   |none=>
   cases h' with
   |some _=>exact a5.elim
   |none=>
   cases t' with
   |none=>exact a5.elim
   |some i=>
   obtain⟨ad,vs,rfl,h1,r1⟩:=(((r.mono s3).mono s4).mono s5).lst_inv;by_cases hi:i = -1
   .subst hi
    exact⟨ad,vs,rfl,k5.gh.seq h1,rfl,rfl,rfl,λp hp=>aft.done a5 k5 (Ext.new k5.gh hp) (.lst (SqL.of U8) (r1.reverse.mono (KT (k5.gh.free hp))))⟩
   .unfold UG XB at a5
    dsimp only at a5;rw[QD hi]at a5;exact a5.elim
  |_=>unfold UG XB at a5;exact a5.elim
noncomputable def Z0:AY->Option AY
 |[.list xs]=>O xs
 |[.tuple xs]=>O xs
 |_=>AV
theorem Ny{x l:AY}(h:Z0 x=O l):x=[.list l]∨x=[.tuple l]:=by
 unfold Z0 at h;split at h
 .cases h;exact .inl AU
 .cases h;exact .inr AU
 .cases h
theorem Mg:bootBuiltins "list" = O (.type "list"):=by decide +kernel
theorem DQ{f:M AY}(hg:Gl X "list")(hm:X.mg "list" = AV)(ha:PA X [a] (tDs X.K B G0 f))(he:Ua [a] X.env=(AX,eval a X.env)::Ua [] X.env:=by rfl) :
  PE X (.Call (.Name "list" p2) [a] [] pos) (tL X.K B G0 (UH f λxs=>UG (Z0 xs))):=
 UV (T8 Mv hg hm Mg ha (by decide) (by decide) he AU) λσ H Q ⟨G,ρ,k,q⟩=>by
  refine⟨G,ρ,k,?_⟩;unfold UH at q;cases z:f ρ with
  |bad=>rw[z]at q;exact q.elim
  |ok xs ρ1=>
   rw[z]at q;dsimp only[UG]at q;intro vs G' H' k' s' r;cases z2:Z0 xs with
   |none=>rw[z2]at q;exact q.elim
   |some l=>
    rw[z2]at q;rcases Ny z2 with rfl|rfl
    .obtain⟨v,rfl,q1⟩:=r.one_inv
     obtain⟨p,ws,rfl,h1,r1⟩:=q1.lst_inv;exact⟨p,ws,rfl,.inl (k'.gh.seq h1),λad hp=>q ad ws G' _ (k'.ext (Ext.hid k'.gh hp)) s' (NewL.of k' hp r1)⟩
    .obtain⟨v,rfl,q1⟩:=r.one_inv
     obtain⟨p,ws,rfl,h1,r1⟩:=q1.tup_inv;exact⟨p,ws,rfl,.inr (ZJ k'.gh h1),λad hp=>q ad ws G' _ (k'.ext (Ext.hid k'.gh hp)) s' (NewL.of k' hp r1)⟩
noncomputable def YG(i:Nat):M AY:=λρ=>match ρ[i]? with
 |some (O (.pub d))=>UG (Z0 [d]) ρ
 |some (O (.own ds))=>.ok ds ρ
 |_=>.bad
theorem C9{i:Nat}(hg:Gl X "list")(hm:X.mg "list" = AV)(ho:PE X a (Kc i))(he:Ua [a] X.env=(AX,eval a X.env)::Ua [] X.env:=by rfl) :
  PE X (.Call (.Name "list" p2) [a] [] pos) (tL X.K B G0 (YG i)):=
 UV (T8 Mv hg hm Mg (Za ho Z8 he) (by decide) (by decide) he AU) λσ H Q ⟨G,ρ,k,q⟩=>by
  unfold YG at q;cases z:ρ[i]? with
  |none=>rw[z]at q;exact q.elim
  |some oo=>
   cases oo with
   |none=>rw[z]at q;exact q.elim
   |some sl=>
    cases sl with
    |deep _ _=>rw[z]at q;exact q.elim
    |own ds=>rw[z]at q;dsimp only at q;obtain⟨ad,vs,h1,h2,h3,h4,h5⟩:=k.own i ds z;exact⟨.ref ad,h1,ad,vs,rfl,.inl (SqL.of h4),λl hp=>q l vs G _ (k.ext (Ext.hid k.gh hp)) (.refl _) (NewL.of k hp h5)⟩
    |pub d=>
     rw[z]at q;dsimp only[UG]at q;obtain⟨v,h1,h2⟩:=k.pub i d z;cases z2:Z0 [d]with
     |none=>rw[z2]at q;exact q.elim
     |some l=>
      rw[z2]at q;dsimp only at q;rcases Ny z2 with e|e
      .cases e
       obtain⟨p,ws,rfl,g1,r1⟩:=h2.lst_inv;exact⟨_,h1,p,ws,rfl,.inl (k.gh.seq g1),λad hp=>q ad ws G _ (k.ext (Ext.hid k.gh hp)) (.refl _) (NewL.of k hp r1)⟩
      .cases e
       obtain⟨p,ws,rfl,g1,r1⟩:=h2.tup_inv;exact⟨_,h1,p,ws,rfl,.inr (ZJ k.gh g1),λad hp=>q ad ws G _ (k.ext (Ext.hid k.gh hp)) (.refl _) (NewL.of k hp r1)⟩
noncomputable def VQ:AY->A4
 |[.int i]=>O (.int i)
 |[.bool b]=>O (.int (if b then 1 else 0))
 |_=>AV
theorem LK:ZI X (.type "int") VQ:=by
 refine⟨_,B4,λvs G H ds d Q s r e k=>?_⟩;unfold VQ at e;split at e
 .cases e
  obtain⟨v,rfl,q⟩:=r.one_inv;rw[q.int_inv];exact .inl ⟨_,rfl,k _ G H (.refl s) (.int _)⟩
 .cases e
  obtain⟨v,rfl,q⟩:=r.one_inv;rw[q.bl_inv];exact .inr ⟨_,rfl,k _ G H (.refl s) (.int _)⟩
 .cases e
end
section
variable{X:Cx}{B G0:Hp}{e o a b c tg:J7}{pos p2 p3 p4:Pos}{es rest:A3}{te to ti:TE}
theorem VG:∀{ns:A0}{us:AZ},Vals (ns.map V.int) us->PyProof.Rows.IntsAre us ns
 |[],_,.nil=>.nil
 |n::ns,_,.cons h t=>by obtain⟨tk,rfl⟩:=h;exact .cons n tk (VG t)
noncomputable def Y8(ns:A0):Nat:=(PyProof.Rows.firstMet (λi=>ns.getD i 0) ns.length).length
theorem C8(hc:X.calm=AW):Zx X (.type "set") (λxs H Q=>∃l,∃ns:A0,xs=[.ref l]/\SqL X.K H l (ns.map V.int)/\ns.length+1<4096/\∀S p,H p=AV->Q (.ref p) (upd H p (.set S (Y8 ns)))):=by
 intro pins s σ H xs us Q I rx h;obtain⟨l,ns,rfl,hq,hb,q⟩:=h;obtain⟨u,rfl,ru⟩:=rx.one;cases ru;obtain⟨its,rv,p,hz⟩:=I.list hq;have hi:=VG rv;have hn:its.toArray.size=ns.length:=by have:=rv.length;rw[List.length_map]at this;simp;lia
 refine call_set_list (I.ok.hd hc) p.isList (ns:=ns) (by simpa using hi) (by rw[hn];exact hb) λh' tk hS hk=>?_
 rw[hn]at hS;refine⟨.ref s.heap.objs.size,_,I.laid (t':=tk) (λb o e=>hk b o (Qh e) e) (Qq _) (show KY X.prog X.w _ h' _ (.set _ (Y8 ns))from hS),rfl,q _ _ (I.hok.fresh (Qq _))⟩
theorem C7:Zx X (.builtin "len") (λxs H Q=>∃p S n,xs=[.ref p]/\H p=O (.set S n)/\Q (.int n) H):=by
 intro pins s σ H xs us Q I rx h;obtain⟨p,S,n,rfl,hp,q⟩:=h;obtain⟨u,rfl,ru⟩:=rx.one;cases ru;obtain⟨o,es,ep,t,h1,h2,h3,h4,h5,h6,h7,h8⟩:=(show s.heap.SetOf (intKind X.prog X.w) p S n from I.hok p _ hp)
 have hsb:scanBound=4096:=rfl;refine call_len_set h1 h2 h3 h7 (by lia) ?_;rw[h8];exact⟨.int n,H,I.tok _,⟨_,rfl⟩,q⟩
noncomputable def YF:AY->Option A0
 |[]=>O []
 |.int i::r=>(YF r).map (i :: ·)
 |_=>AV
theorem RP{K:Frag}{G:Hp}:∀{vs:List V}{ds:AY}{ns:A0},Reps K G vs ds->YF ds=O ns->vs=ns.map V.int
 |_,_,ns,.nil,e=>by cases e;rfl
 |_,_,ns,.cons (d:=d) r t,e=>by
  cases d with
  |int b=>
   unfold YF at e;cases z:YF _ with
   |none=>rw[z]at e;cases e
   |some cs=>rw[z]at e;cases e;rw[r.int_inv,RP t z];rfl
  |_=>cases e
theorem RC(ns:A0):YF (ns.map int)=O ns:=by
 induction ns with
 |nil=>rfl
 |cons b r ih=>rw[Qw,YF,ih];rfl
noncomputable def Wl:AY->A4
 |[.list ds]=>(match YF ds with
  |some ns=>if ns.length+1<4096 then O (.int (Y8 ns))else AV
  |none=>AV)
 |_=>AV
theorem Ap{xs:AY}{d:D}(h:Wl xs=O d):∃ds ns,xs=[.list ds]/\YF ds=O ns/\ns.length+1<4096/\d=.int (Y8 ns):=by
 unfold Wl at h;split at h
 .rename_i ds
  cases z:YF ds with
  |none=>rw[z]at h;cases h
  |some ns=>
   rw[z]at h;dsimp only at h;split at h
   .rename_i c
    cases h;exact⟨ds,ns,rfl,z,c,rfl⟩
   .cases h
 .cases h
theorem C6:bootBuiltins "set" = O (.type "set"):=by decide +kernel
theorem Bz{f:M AY}(hc:X.calm=AW)(hg:Gl X "len")(hm:X.mg "len" = AV)(qS:Gl X "set")(hm2:X.mg "set" = AV)(ha:PA X [a] (tDs X.K B G0 f))(he:Ua [a] X.env=(AX,eval a X.env)::Ua [] X.env:=by rfl)
  (ji:Ua [.Call (.Name "set" p2) [a] [] p3] X.env=(AX,eval (.Call (.Name "set" p2) [a] [] p3) X.env)::Ua [] X.env:=by rfl) :
  PE X (.Call (.Name "len" p4) [.Call (.Name "set" p2) [a] [] p3] [] pos) (tD X.K B G0 (KS Wl f)):=
 UV (VD C7 hg hm boot_len (Za (T8 (C8 hc) qS hm2 C6 ha (by decide) (by decide) he AU) Z8 ji) (by decide) (by decide) ji AU) λσ H Q q=>tM.one (R:=Reps X.K) q λvs H2 G ρ x k r a=>by obtain⟨d,e,a⟩:=a.opt;obtain⟨ds,ns,rfl,z,c,rfl⟩:=Ap e;obtain⟨v,rfl,q1⟩:=r.one_inv;obtain⟨l,ws,rfl,h1,r1⟩:=q1.lst_inv;have:=RP r1 z;subst this;refine⟨l,ns,rfl,k.gh.seq h1,c,λS p hp=>⟨p,S,Y8 ns,rfl,U8,?_⟩⟩;exact aft.done a k (Ext.hid k.gh hp) (.int _)
end
end DL
namespace L2
open PySem PySem.Spec PyProof.Rows
noncomputable def YX(lo st:Int)(n:Nat):It:=⟨λi _=>i<n,λi H x H'=>H'=H/\x=.int (lo+i*st),λi _=>n<=i⟩
theorem Ao{P:J4}{w:World}{K:Frag}{tg:J7}(it:J5)(lo st:Int)(n:Nat):Turn P w K tg (YX lo st n) [it] it (λi h=>IsRangeIter h it (lo+(i:Nat)*st) ((n:Int)-(i:Nat)) st) where
 mem:=by simp
 obj:=λi h st b hb=>by
  have e:b=it:=by simpa using hb
  subst e;exact⟨_,st,λv z=>by have z':Data.fields _=Data.cell v:=z;cases z'⟩
 keep:=λi h h' st k=>k it (by simp) _ st
 item:=by
  intro X hP hw hK hc i pins s σ H E I hf sti hg;subst hP hw hK;obtain⟨f0,f1,f2,f3,f4,f5⟩:=hf it (by simp);have W:=Walks.range (prog:=X.prog) (w:=X.w) (I.ok.hd hc) it lo st n;refine W.item i s _ _ hg sti λv h' tk hv st' kk=>?_
  obtain⟨t,rfl⟩:=hv;have I1:Inv X pins σ H {s with heap:=h',toks:=tk}:=I.turned (λb o hb e=>kk b o (by simpa using hb) e) f0 f1 f3 f4 f5;exact⟨_,rfl,VU (s:={s with heap:=h',toks:=tk}) (n:= "range_iterator") st' AU AU (by decide) ⟨.int (lo+i*st),H,I1,⟨t,rfl⟩,⟨rfl,rfl⟩,st',λb hb=>(hf b hb).1⟩⟩
 done:=by intro X hP hw hK hc i pins s σ H E I hf sti hg;subst hP hw hK;obtain⟨f0,f1,f2,f3,f4,f5⟩:=hf it (by simp);exact wpAny_pyNext_range_end (I.ok.hd hc) sti (by have:n<=i:=hg;lia) λh' eb=>⟨rfl,I.turned (t':=s.toks) (λb o hb e=>eb b o hb e) f0 f1 f3 f4 f5⟩
 self:=λ_ _ _ _ _ st h=>wpAny_pyIter_rangeiter st h
section
variable{X:Cx}{tg:J7}
noncomputable def MS(ta:TA):TI:=λσ H R=>ta σ H λvs H1=>∃i j c:Int,vs=[.int i,.int j,.int c]/\0<c/\c<=1000000 /\ -1000000<=i/\i<=1000000 /\ -1000000<=j/\j<=1000000/\R (YX i c (Builtin.Range.rangeSize i j c).toNat) H1
theorem C5{a b c:J7}{ta:TA}{p pos:Pos}(hg:Gl X "range")(hm:X.mg "range" = AV)(ha:PA X [a,b,c] ta)(hs:Ua [a,b,c] X.env=(AX,eval a X.env)::Ua [b,c] X.env:=by rfl)(hs2:(backTo pos (Ua [b,c] X.env)).any (·.1)=AX:=by rfl) :
  PI X tg (.Call (.Name "range" p) [a,b,c] [] pos) (MS ta):=by
 intro pins s σ H R I h;refine Call_ (Wk I hg hm boot_range (Jp (thn (ha pos pins s σ H _ I h) λus s1 ⟨vs,H1,I1,r1,q1⟩=>?_) hs hs2));obtain⟨i,j,c,e,h1,h2,h3,h4,h5,h6,q⟩:=q1;subst e;cases r1 with
 |cons r rr=>
  cases rr with
  |cons r' rr=>
   cases rr with
   |cons r'' rr=>
    cases rr;obtain⟨t,rfl⟩:=r;obtain⟨t',rfl⟩:=r';obtain⟨t'',rfl⟩:=r'';refine call_range_3 (by lia) ?_ (.inl (PyProof.noPylong_small (by lia)))
    have hn0:0<=Builtin.Range.rangeSize i j c:=by
     unfold Builtin.Range.rangeSize;rw[Qn h1];split
     .have:=Int.ediv_nonneg (show 0<=j-i-1 by lia) (show 0<=c by lia);lia
     .lia
    have hn1:Builtin.Range.rangeSize i j c<=2000001:=by
     unfold Builtin.Range.rangeSize;rw[Qn h1];split
     .have:=Int.ediv_le_self c (show 0<=j-i-1 by lia);lia
     .lia
    refine wpAny_pyIter_range (IsRange.new ..) (by
     have fl:∀x:Int, -4000000<=x->x<=4000000->Builtin.Range.rangeFitsLong x=AW:=λx a b=>by unfold Builtin.Range.rangeFitsLong;simp;lia
     unfold Builtin.Range.small;rw[fl i (by lia) (by lia),fl j (by lia) (by lia),fl c (by lia) (by lia),fl _ (by lia) (by lia),Qn h1,fl _ (by lia) (by lia)];simp) ?_
    have I2:Inv X pins σ H1 {s1 with heap:=s1.heap.push {cls:=.type "range", data:=.fields #[.int i t,.int j t',.int c t'']},toks:=s1.toks}:=I1.kept λb o e=>Qe _ e
    refine⟨_,[(s1.heap.push {cls:=.type "range", data:=.fields #[.int i t,.int j t',.int c t'']}).objs.size],_,_,H1,rfl,
     I2.kept (t':=s1.toks) λb o e=>Qe _ e,Ao _ i c (Builtin.Range.rangeSize i j c).toNat,?_,λb hb=>?_,q⟩
    .show IsRangeIter _ _ (i+((0:Nat):Int)*c) ((((Builtin.Range.rangeSize i j c).toNat:Nat):Int)-((0:Nat):Int)) c
     have e1:i+((0:Nat):Int)*c=i:=by simp
     have e2:(((Builtin.Range.rangeSize i j c).toNat:Nat):Int)-((0:Nat):Int)=Builtin.Range.rangeSize i j c:=by lia
     rw[e1,e2];exact QE _ AU
    .have e:b=(s1.heap.push {cls:=.type "range", data:=.fields #[.int i t,.int j t',.int c t'']}).objs.size:=by simpa using hb
     subst e;exact I2.fpOk (Qq _) (I2.hok.fresh (Qq _))
end
end L2
namespace DL
open PySem PySem.Spec L2
open PyProof.Rows hiding St
section
variable{X:Cx}{B G0:Hp}{e a b c tg:J7}{pos:Pos}{es rest:A3}
noncomputable def YO(lo st:Int)(n:Nat):AY:=(Uc n).map λ(k:Nat)=>.int (lo+k*st)
theorem AC{K:Frag}{G1:Hp}{lo st:Int}{n:Nat}:YM K (YX lo st n) (YO lo st n) G1 where
 go:=λi G H s1 s2 h=>by unfold YO at h;simpa[YX]using h
 stop:=λi G H s1 s2 h=>by unfold YO at h;simpa[YX]using h
 yld:=λi G H x H' d s1 s2 e y=>by obtain⟨rfl,rfl⟩:=y;have hl:i<(YO lo st n).length:=(Qr.mp e).1;unfold YO at e hl;rw[Qd,Jg]at hl;rw[Qt,Qi (by rw[Jg];exact hl),List.getElem_range]at e;cases e;exact⟨G,.refl s2,.int _⟩
noncomputable def Wz:AY->Option AY
 |[.int i,.int j,.int c]=>if 0<c/\c<=1000000 /\ -1000000<=i/\i<=1000000 /\ -1000000<=j/\j<=1000000 then O (YO i c (Builtin.Range.rangeSize i j c).toNat)else AV
 |_=>AV
noncomputable def Tz(f:M AY):M AY:=UH f λx=>UG (Wz x)
theorem C4{x l:AY}(h:Wz x=O l):∃i j c:Int,x=[.int i,.int j,.int c]/\(0<c/\c<=1000000 /\ -1000000<=i/\i<=1000000 /\ -1000000<=j/\j<=1000000)/\l=YO i c (Builtin.Range.rangeSize i j c).toNat:=by
 unfold Wz at h;split at h
 .split at h
  .rename_i c
   cases h;exact⟨_,_,_,rfl,c,rfl⟩
  .cases h
 .cases h
theorem C3{f:M AY}{p2:Pos}(hg:Gl X "range")(hm:X.mg "range" = AV)(ha:PA X [a,b,c] (tDs X.K B G0 f))(hs:Ua [a,b,c] X.env=(AX,eval a X.env)::Ua [b,c] X.env:=by rfl)(hs2:(backTo pos (Ua [b,c] X.env)).any (·.1)=AX:=by rfl) :
  PI X tg (.Call (.Name "range" p2) [a,b,c] [] pos) (iD X.K B G0 (Tz f)):=YR (C5 hg hm ha hs hs2) λσ H R q=>tM.toI (R0:=Reps X.K) q λv H' G' ρ' x k r a=>by
 cases z:Wz x with
 |none=>rw[z]at a;exact a.elim
 |some l=>
  rw[z]at a;obtain⟨i,j,c,rfl,⟨h1,h2,h3,h4,h5,h6⟩,rfl⟩:=C4 z;cases r with
  |cons r1 rr=>
   cases rr with
   |cons r2 rr=>
    cases rr with
    |cons r3 rr=>cases rr;rw[r1.int_inv,r2.int_inv,r3.int_inv];exact⟨i,j,c,rfl,h1,h2,h3,h4,h5,h6,a _ G' H' k (.refl _) AC⟩
end
end DL
namespace L2
open PySem PySem.Spec PyProof.Rows
end L2
namespace DL
open PySem PySem.Spec L2
open PyProof.Rows hiding St
section
variable{prog:J4}{w:World}{A:Around}{R:Result->J0->Prop}{h0:Heap}{l I S:J5}{rs:List (J5×AZ)}
def Yw(h h':Heap):Prop:=∀b o,h.get? b=O o->h'.get? b=O o
def Ls1(h:Heap)(a:J5)(its:AZ)(sl:Array A1):Prop:=∃n,h.get? a=O {cls:=.type "list", dict:=AV,data:=.seq its.toArray n,slots:=sl}
def Ls(h:Heap)(a:J5)(its:AZ):Prop:=∃n sl,h.get? a=O {cls:=.type "list", dict:=AV,data:=.seq its.toArray n,slots:=sl}
theorem Ls.kept{h h':Heap}{a:J5}{its:AZ}(x:Ls h a its)(k:Yw h h'):Ls h' a its:=by obtain⟨n,sl,e⟩:=x;exact⟨n,sl,k _ _ e⟩
theorem By(hh:A.in1.handled=AV)(hI:h0.objs.size<=I)(hS:h0.objs.size<=S)(hIS:S≠I)(hl:h0.IsList l (rs.map λp=>Value.ref p.1).toArray)(hr:∀p∈rs,Ls h0 p.1 p.2) :
  ∀(k i:Nat)(s:J0)(t:J5)(acc:AZ)(c:Nat)(sl:Array A1),rs.length-i=k->i<=rs.length->Yw h0 s.heap->s.heap.IsListIter I l i ->
   s.heap.get? S=O {cls:=.type "list", dict:=AV,data:=.seq #[.ref t] c,slots:=#[]}->t≠S->t≠I->Ls1 s.heap t acc sl->acc.length+((rs.drop i).map (·.2)).flatten.length<=J8 ->
   (∀p h' tk qz,Yw h0 h'->Ls1 h' p (acc++((rs.drop i).map (·.2)).flatten) qz->(p=t/\i=rs.length/\qz=sl∨h0.objs.size<=p/\qz=#[])->R (.ok (.ret (.ref p))) {s with heap:=h',toks:=tk}) ->
   codeAny (model prog w) A (.builtin "sum.loop" ⟨[.ref I,.ref S,rawInt 2,rawInt 0],[]⟩) R s:=by
 intro k;induction k with
 |zero=>
  intro i s t acc c sl hk hi hK hit hSS htS htI ht hz hR;have hin:i=rs.length:=by lia
  subst hin;refine codeAny_builtin F.entry_sum_loop ?_;rw[Around.under_plainId F.plain_sum_loop _];show J9 _ A.in1 (seqItems? (.ref S) >>= _) _ _ s;refine Qb (wpAny_seqItems hSS AU ?_);show J9 _ A.in1 (tryCatch (pyNext (.ref I)) _ >>= _) _ _ s;have hl':s.heap.IsList l (rs.map λp=>Value.ref p.1).toArray:=by obtain⟨o,e,r⟩:=hl;exact⟨o,hK _ _ e,r⟩
  refine wpAny_bind (wpAny_tryCatch (wpAny_pyNext_list_end hh hit hl' (by simp) λh' ex=>?_));refine Qf (hR t h' s.toks sl (λb o e=>?_) ?_ (.inl ⟨rfl,rfl,rfl⟩))
  .exact ex b o (QO (QG (Qh e) hI)) (hK b o e)
  .obtain⟨n,e⟩:=ht
   rw[List.drop_length,List.map_nil,List.flatten_nil,Q1];exact⟨n,ex _ _ htI e⟩
 |succ k ih=>
  intro i s t acc c sl hk hi hK hit hSS htS htI ht hz hR;have hlt:i<rs.length:=by lia
  refine codeAny_builtin F.entry_sum_loop ?_;rw[Around.under_plainId F.plain_sum_loop _];show J9 _ A.in1 (seqItems? (.ref S) >>= _) _ _ s;refine Qb (wpAny_seqItems hSS AU ?_);show J9 _ A.in1 (tryCatch (pyNext (.ref I)) _ >>= _) _ _ s;have hl':s.heap.IsList l (rs.map λp=>Value.ref p.1).toArray:=by obtain⟨o,e,r⟩:=hl;exact⟨o,hK _ _ e,r⟩
  refine wpAny_bind (wpAny_tryCatch (wpAny_pyNext_list_item (x:=.ref (rs[i]'hlt).1) hit hl' (by simp[hlt]) λh' jE sb=>?_));show J9 _ A.in1 ((holding [Value.ref (rs[i]'hlt).1] (binaryOp .Add (.ref t) (.ref (rs[i]'hlt).1))).attempt >>= _) _ _ _;refine Qb (wpAny_attempt (Jh ?_));have hm:rs[i]'hlt∈rs:=JO hlt;have hd:rs.drop i=rs[i]'hlt::rs.drop (i+1):=List.drop_eq_getElem_cons hlt;have hK':Yw h0 h':=λb o e=>(sb.2 b (QO (QG (Qh e) hI))).trans (hK b o e)
  obtain⟨n1,e1⟩:=ht;have e1':=(sb.2 t htI).trans e1;obtain⟨n2,s2,e2⟩:=(hr _ hm).kept hK';have jI:=(sb.2 S hIS).trans hSS;rw[hd,Qw,QH,Qk]at hz;refine concat_meets ⟨_,e1',rfl⟩ ⟨_,e2,rfl⟩ noFill_list_add seq_list_add PySem.F.slot_list_add PySem.F.entry_list_add (PySem.F.args_list_add_2 _ _) (list_addW t _ acc.toArray _ n1 n2 AV AV sl s2 (by rw[QL,QL];lia)) ⟨e1',e2,?_⟩;have hlS:S<h'.objs.size:=Qh jI;have hlI:I<h'.objs.size:=by obtain⟨o,e,_⟩:=jE;exact Qh e
  have ea:acc.toArray++(rs[i]'hlt).2.toArray=(acc++(rs[i]'hlt).2).toArray:=by simp
  rw[ea];have hP:∀b o,h'.get? b=O o->(h'.push {cls:=Value.type "list", data:=Data.seq (acc++(rs[i]'hlt).2).toArray}).get? b=O o:=λb o e=>Qe _ e
  have hS1:=hP _ _ jI;have hNew:(h'.push {cls:=Value.type "list", data:=Data.seq (acc++(rs[i]'hlt).2).toArray}).get? h'.objs.size=O {cls:=Value.type "list", data:=Data.seq (acc++(rs[i]'hlt).2).toArray}:=QE _ AU;show J9 _ A.in1 (updateSeq S (λ_=>#[.ref h'.objs.size]) >>= _) _ _ _;refine Qb (wpAny_updateSeq hS1 AU ?_);have hS2:=QI (Obj.mapSeq λ_=>#[Value.ref h'.objs.size]) hS1 AU;refine Qb (wpAny_letGo ?_);refine Qb (wpAny_updateSeq hS2 AU (Qf ⟨plainId_quiet F.plain_sum_loop _,?_⟩));have oth:∀b o,b≠S->(h'.push {cls:=Value.type "list", data:=Data.seq (acc++(rs[i]'hlt).2).toArray}).get? b=O o->(((h'.push {cls:=Value.type "list", data:=Data.seq (acc++(rs[i]'hlt).2).toArray}).update S (Obj.mapSeq λx=>#[Value.ref h'.objs.size])).update S (Obj.mapSeq λx=>#[Value.ref h'.objs.size])).get? b=O o:=λb o hb e=>(Qj _ _ (Ne.symm hb)).trans ((Qj _ _ (Ne.symm hb)).trans e)
  refine ih (i+1) _ h'.objs.size (acc++(rs[i]'hlt).2) _ #[] (by lia) hlt ?_ ?_ (QI _ hS2 AU) (Jq hlS) (Jq hlI) ?_ (by rw[Qk];lia) λp h'' tk qz hk'' hp hq=>?_
  .exact λb o e=>oth b o (QO (QG (Qh e) hS)) (hP b o (hK' b o e))
  .obtain⟨o,e,r⟩:=jE
   exact⟨o,oth I o (Ne.symm hIS) (hP I o e),r⟩
  .exact⟨_,oth _ _ (Jq hlS) hNew⟩
  .refine hR p h'' tk qz hk'' ?_ (.inr ?_)
   .rw[hd,Qw,QH,←Jr];exact hp
   .rcases hq with ⟨rfl, -,e⟩|hq
    .exact⟨JT (Nat.lt_of_le_of_lt hS hlS),e⟩
    .exact hq
end
section
variable{prog:J4}{w:World}{A:Around}{E:JZ->J0->Prop}{s:J0}{l z:J5}{rs:List (J5×AZ)}
theorem C0(a b:JZ):argsOk "sum" ⟨[a,b],[]⟩:=by unfold argsOk;kernel_rfl
theorem Bx{Q:JZ->J0->Prop}(hh:A.handled=AV)(hl:s.heap.IsList l (rs.map λp=>Value.ref p.1).toArray)(hr:∀p∈rs,Ls s.heap p.1 p.2)(hz:Ls s.heap z [])(hb:(rs.map (·.2)).flatten.length<=J8)
  (h:∀p h' tk qz,Yw s.heap h'->Ls1 h' p (rs.map (·.2)).flatten qz->(p=z/\rs=[]∨s.heap.objs.size<=p/\qz=#[])->Q (.ref p) {s with heap:=h',toks:=tk}) :
  J9 (model prog w) A (call (.builtin "sum") [.ref l,.ref z]) Q E s:=by
 refine call_function_tree F.kind_sum F.plain_sum F.entry_sum (C0 _ _) ?_;unfold Builtin.«sum»;simp only[QK,QS];rw[QD (by decide)];refine Qb (wpAny_of_eq (show Builtin.Builtins.bindParams "sum" ["start"] 0 ⟨[.ref z],[]⟩=pure [O (.ref z)]from rfl) ?_);refine Qb (wpAny_pyIter_list hl ?_);refine Qb (Qf ?_);obtain⟨n,sl,ez⟩:=id hz;have ty:∀h:Heap,h.get? z=O {cls:=.type "list", dict:=AV,data:=.seq [].toArray n,slots:=sl}->({s with heap:=h}:J0).TypeIs (.ref z) "list" :=λh e=>⟨_,e,rfl⟩
 have ez':(s.heap.push {cls:=.type "list_iterator", data:=.fields #[.ref l,.int 0 0]}).get? z=_:=Qe _ ez;simp only[List.forIn_cons,List.forIn_nil];refine Qb (Qb (Qb (wpAny_isInstance (T:= "list") (b:=AX) (ty _ ez') F.sub_list_str ?_)));simp only[Jl,JU];refine Qf (Qb (Qb (wpAny_isInstance (T:= "list") (b:=AX) (ty _ ez') F.sub_list_bytes ?_)));simp only[Jl,JU];refine Qf (Qb (Qb (wpAny_isInstance (T:= "list") (b:=AX) (ty _ ez') F.sub_list_bytearray ?_)));simp only[Jl,JU];refine Qf (Qf ?_);refine Qb (wpAny_newObj_type ?_);have hzs:=Qh ez;have s1:(s.heap.push {cls:=.type "list_iterator", data:=.fields #[.ref l,.int 0 0]}).objs.size=s.heap.objs.size+1:=JA ..;have k2:Yw s.heap ((s.heap.push {cls:=.type "list_iterator", data:=.fields #[.ref l,.int 0 0]}).push {cls:=.type "list", data:=.seq #[.ref z]}):=λb o e=>Qe _ (Qe _ e)
 refine Qf ⟨plainId_quiet F.plain_sum_loop _,By (h0:=s.heap) (l:=l) (I:=s.heap.objs.size) (S:=(s.heap.push {cls:=.type "list_iterator", data:=.fields #[.ref l,.int 0 0]}).objs.size) (rs:=rs) hh (Qq _) (by rw[s1];exact Jo _) (by rw[s1];exact Nat.succ_ne_self _) hl hr rs.length 0 _ z [] 0 sl AU (Nat.zero_le _)
  k2 ⟨_,Heap.get?_push_of_some _ (Heap.get?_push_size _ AU),rfl,rfl⟩ (Heap.get?_push_size _ AU) (by rw[s1];exact Nat.ne_of_lt (Nat.lt_succ_of_lt hzs)) (Nat.ne_of_lt hzs) ⟨n,k2 _ _ ez⟩ (by simpa using hb) λp h' tk qz hk hp hq=>?_⟩
 exact h p h' tk qz hk (by simpa using hp) (hq.imp (λe=>⟨e.1,List.eq_nil_of_length_eq_zero e.2.1.symm⟩) id)
end
section
variable{X:Cx}{pins:List (J5×Obj)}{σ:St}{H:Hp}{s:J0}
theorem Om(I:Inv X pins σ H s):∀{rs:List (J5×List V)},(∀p∈rs,SqL X.K H p.1 p.2) ->
  ∃ts:List (J5×AZ),(ts.map λp=>Value.ref p.1)=(rs.map λp=>Value.ref p.1)/\(∀p∈ts,Ls s.heap p.1 p.2)/\Vals (rs.map (·.2)).flatten (ts.map (·.2)).flatten
 |[],_=>⟨[],rfl,(λ_ h=>by cases h),(show Vals [] []from Paired.nil)⟩
 |p::rs,h=>by
  obtain⟨ts,e,hl,hv⟩:=Om I λq hq=>h q (Qo _ hq)
  obtain⟨its,rv,⟨⟨c1,d1,t1,sl⟩,n,e1,ec,ed,et⟩,z⟩:=I.list (h p (Qp ..));simp only at ec ed et;subst ec ed et;refine⟨(p.1,its)::ts,by rw[Qw,Qw,e],λq hq=>?_,?_⟩
  .rcases QM.1 hq with rfl|hq
   .exact⟨n,sl,e1⟩
   .exact hl q hq
  .rw[Qw,Qw,QH,QH]
   exact rv.append hv
theorem Nx:∀{as:A5}{us:AZ},Vals (as.map V.ref) us->us=as.map Value.ref
 |[],_,.nil=>rfl
 |a::as,_,.cons h t=>by cases h;rw[Nx t];rfl
theorem CZ(hc:X.calm=AW):Zx X (.builtin "sum") (λxs H Q=>∃l z,∃rs:List (J5×List V),xs=[.ref l,.ref z]/\SqL X.K H l (rs.map λp=>V.ref p.1)/\(∀p∈rs,SqL X.K H p.1 p.2)/\SqL X.K H z []/\(rs.map (·.2)).flatten.length<=J8 /\
  (rs=[]->Q (.ref z) H)/\∀p,H p=AV->Q (.ref p) (upd H p (.lst (rs.map (·.2)).flatten))):=by
 intro pins s σ H xs us Q I rx h;obtain⟨l,z,rs,rfl,hq,hr,hz,hb,q0,q⟩:=h;obtain⟨u,u',rfl,ru,ru'⟩:=Vo rx;cases ru;cases ru';obtain⟨its,rv,pl, -⟩:=I.list hq;obtain⟨ts,e,hl,hv⟩:=Om I hr;have ei:its=ts.map λp=>Value.ref p.1:=by rw[e];have:=Nx (as:=rs.map (·.1)) (us:=its) (by rw[Ja];exact rv);rw[this,Ja];rfl
 subst ei;obtain⟨zi,rz,⟨⟨c1,d1,t1,sl⟩,n,e1,ec,ed,et⟩, -⟩:=I.list hz;cases rz;simp only at ec ed et;subst ec ed et;have hlen:=hv.length;refine Bx (I.ok.hd hc) pl.isList hl ⟨n,sl,e1⟩ (by lia) λp h' tk qz hk hp hq=>?_
 rcases hq with ⟨rfl,rfl⟩|⟨hp',rfl⟩
 .have hr0:rs=[]:=by
   cases rs with
   |nil=>rfl
   |cons a b=>cases e
  exact⟨.ref _,H,I.kept hk,rfl,q0 hr0⟩
 .obtain⟨m,ep⟩:=hp
  exact⟨.ref p,_,I.laid (t':=tk) hk hp' (show KY X.prog X.w _ h' _ (.lst _)from⟨hb,_,m,hv,ep⟩),rfl,q p (I.hok.fresh hp')⟩
noncomputable def Xk:AY->Option (List AY)
 |[]=>O []
 |.list xs::r=>(Xk r).map (xs :: ·)
 |_=>AV
theorem NY{K:Frag}{G:Hp}:∀{vs:List V}{ds:AY}{ls:List AY},Reps K G vs ds->Xk ds=O ls ->
  ∃rs:List (J5×List V),vs=(rs.map λp=>V.ref p.1)/\(∀p∈rs,SqL K G p.1 p.2)/\Reps K G (rs.map (·.2)).flatten ls.flatten/\rs.length=ls.length
 |_,_,ls,.nil,e=>by cases e;exact⟨[],rfl,(λ_ h=>by cases h),.nil,rfl⟩
 |_,_,ls,.cons (d:=d) r t,e=>by
  cases d with
  |list xs=>
   unfold Xk at e;cases z:Xk _ with
   |none=>rw[z]at e;cases e
   |some cs=>
    rw[z]at e;cases e;obtain⟨rs,rfl,h1,h2,h3⟩:=NY t z;obtain⟨a,ws,rfl,h,rr⟩:=r.lst_inv;refine⟨(a,ws)::rs,rfl,λp hp=>?_,?_,JX (· + 1) h3⟩
    .rcases QM.1 hp with rfl|hp
     .exact h
     .exact h1 p hp
    .rw[Qw,QH,QH]
     exact rr.append h2
  |_=>cases e
theorem Mf(ls:List AY):Xk (ls.map Ue)=O ls:=by
 induction ls with
 |nil=>rfl
 |cons b r ih=>rw[Qw,Xk,ih];rfl
noncomputable def YL:AY->A4
 |[.list ds,.list []]=>(match Xk ds with
  |some ls=>if ls.flatten.length<=1000000 then O (.list ls.flatten)else AV
  |none=>AV)
 |_=>AV
theorem Bm{xs:AY}{d:D}(h:YL xs=O d):∃ds ls,xs=[.list ds,.list []]/\Xk ds=O ls/\ls.flatten.length<=1000000/\d=.list ls.flatten:=by
 unfold YL at h;split at h
 .rename_i ds
  cases z:Xk ds with
  |none=>rw[z]at h;cases h
  |some ls=>
   rw[z]at h;dsimp only at h;split at h
   .rename_i c
    cases h;exact⟨ds,ls,rfl,z,c,rfl⟩
   .cases h
 .cases h
theorem DP{ls:List AY}(h:ls.flatten.length<=1000000):YL [.list (ls.map .list),.list []]=O (.list ls.flatten):=by unfold YL;simp only[Mf,Qn h]
theorem LJ(hc:X.calm=AW):ZI X (.builtin "sum") YL:=by
 refine⟨_,CZ hc,λvs G H ds d Q s r e k=>?_⟩;obtain⟨ds,ls,rfl,z,c,rfl⟩:=Bm e;obtain⟨v,v',rfl,q1,q2⟩:=r.two_inv;obtain⟨l,ws,rfl,h1,r1⟩:=q1.lst_inv;obtain⟨a,ws2,rfl,h2,r2⟩:=q2.lst_inv;have:=r2.nil_inv;subst this;obtain⟨rs,rfl,g1,g2,g3⟩:=NY r1 z;refine⟨l,a,rs,rfl,s.seq h1,λp hp=>s.seq (g1 p hp),s.seq h2,?_,λe0=>?_,λp hp=>?_⟩
 .rw[g2.length];exact Qv c lim
 .subst e0
  have:ls=[]:=List.eq_nil_of_length_eq_zero g3.symm;subst this;exact k _ G H (.refl s) (.lst h2 .nil)
 .exact k _ _ _ (.new s hp) (.lst (SqL.of U8) (g2.mono (KT (s.free hp))))
end
section
variable{X:Cx}
noncomputable def ZZ(ns:A0):A0:=ns.mergeSort λa b=>decide (a<=b)
theorem Tk(ns:A0):(ZZ ns).Perm ns:=List.mergeSort_perm ..
theorem Bl(ns:A0):(ZZ ns).Pairwise (· <= ·):=by have:=List.pairwise_mergeSort (le:=λa b:Int=>decide (a<=b)) (by intro a b c;simp;lia) (by intro a b;simp;lia) ns;exact this.imp (by simp)
theorem Ov:∀{a b:A0},a.Perm b->a.Pairwise (· <= ·)->b.Pairwise (· <= ·)->a=b
 |[],b,p,_,_=>by rw[List.nil_perm.1 p]
 |x::a,[],p,_,_=>by have:=p.length_eq;simp at this
 |x::a,y::b,p,ha,hb=>by
  have hx:y<=x:=by
   rcases QM.1 (p.mem_iff.1 (Qp ..))with e|e
   .exact Int.le_of_eq e.symm
   .exact(Jm.1 hb).1 x e
  have hy:x<=y:=by
   rcases QM.1 (p.mem_iff.2 (Qp ..))with e|e
   .exact Int.le_of_eq e.symm
   .exact(Jm.1 ha).1 y e
  have e:=Int.le_antisymm hy hx;subst e;rw[Ov (List.Perm.cons_inv p) (Jm.1 ha).2 (Jm.1 hb).2]
theorem Nw:∀{us:AZ}{ns:A0},PyProof.Rows.IntsAre us ns->Vals (ns.map V.int) us
 |_,_,.nil=>Paired.nil
 |_,_,.cons n t h=>Paired.cons ⟨t,rfl⟩ (Nw h)
theorem Bw:Zx X (.builtin "sorted") (λxs H Q=>∃l,∃ns:A0,xs=[.ref l]/\SqL X.K H l (ns.map V.int)/\ns.length<64/\∀p,H p=AV->Q (.ref p) (upd H p (.lst ((ZZ ns).map V.int)))):=by
 intro pins s σ H xs us Q I rx h;obtain⟨l,ns,rfl,hq,hb,q⟩:=h;obtain⟨u,rfl,ru⟩:=rx.one;cases ru;obtain⟨its,rv,p,hz⟩:=I.list hq;have hi:=VG rv;have hn:its.length=ns.length:=by have:=rv.length;rw[Qd]at this;lia
 refine sorted_ints p.isList hi (by lia) λout ns' a1 a2 a3=>?_
 obtain⟨e,he⟩:=sortedAll_at s.heap its out;have en:ns'=ZZ ns:=Ov (a2.trans (Tk ns).symm) a3 (Bl ns);subst en;refine⟨.ref (s.heap.objs.size+1),_,I.laid (t':=s.toks) (λb o=>sortedAll_old) (Jo _) (show KY X.prog X.w _ _ _ (.lst ((ZZ ns).map V.int))from⟨?_,out.toList,e,Nw a1,he⟩),rfl,q _ (I.hok.fresh (Jo _))⟩;rw[Qd,(Tk ns).length_eq];rw[Qd]at hz;exact hz
noncomputable def Vs:AY->A4
 |[.list ds]=>(match YF ds with
  |some ns=>if ns.length<64 then O (.list ((ZZ ns).map .int))else AV
  |none=>AV)
 |_=>AV
theorem Bv{xs:AY}{d:D}(h:Vs xs=O d):∃ds ns,xs=[.list ds]/\YF ds=O ns/\ns.length<64/\d=.list ((ZZ ns).map .int):=by
 unfold Vs at h;split at h
 .rename_i ds
  cases z:YF ds with
  |none=>rw[z]at h;cases h
  |some ns=>
   rw[z]at h;dsimp only at h;split at h
   .rename_i c
    cases h;exact⟨ds,ns,rfl,z,c,rfl⟩
   .cases h
 .cases h
theorem Nv{K:Frag}{G:Hp}:∀ns:A0,Reps K G (ns.map V.int) (ns.map int)
 |[]=>.nil
 |n::r=>.cons (.int n) (Nv r)
theorem F7:ZI X (.builtin "sorted") Vs:=by refine⟨_,Bw,λvs G H ds d Q s r e k=>?_⟩;obtain⟨ds,ns,rfl,z,c,rfl⟩:=Bv e;obtain⟨v,rfl,q1⟩:=r.one_inv;obtain⟨l,ws,rfl,h1,r1⟩:=q1.lst_inv;have:=RP r1 z;subst this;exact⟨l,ns,rfl,s.seq h1,c,λp hp=>k _ _ _ (.new s hp) (.lst (SqL.of U8) (Nv _))⟩
theorem Bk{ns:A0}(h:ns.length<64):Vs [.list (ns.map .int)]=O (.list ((ZZ ns).map .int)):=by unfold Vs;simp only[RC,Qn h]
end
@[simp] theorem mBind_ok{α β:Type}{f:M α}{k:α->M β}{ρ ρ':Ut}{x:α}(h:f ρ=.ok x ρ'):UH f k ρ=k x ρ':=by unfold UH;rw[h]
theorem Nu{s:D->Ut->A6}{g:SM}{P:Nat->Ut->Prop}{R:Out->Prop}:∀(ds:AY)(n:Nat)(ρ:Ut),P n ρ ->
  (∀i d ρ,ds[i]?=O d->P (n+i) ρ->∃ρ1,s d ρ=O ρ1/\((∃ρ2,(g ρ1=.nx ρ2∨g ρ1=.ct ρ2)/\P (n+i+1) ρ2)∨(∃x,g ρ1=.rt x/\R (.rt x))∨(∃ρ2,g ρ1=.bk ρ2/\R (.nx ρ2))∨(∃ρ2 x,g ρ1=.ex ρ2 x/\R (.ex ρ2 x)) ∨ ∃x,g ρ1=.ro x/\R (.ro x)))->(∀ρ,P (n+ds.length) ρ->R (.nx ρ))->R (Y2 s g ds ρ)
 |[],n,ρ,h,_,f=>f ρ h
 |d::r,n,ρ,h,st,f=>by
  obtain⟨ρ1,e1,e2⟩:=st 0 d ρ AU h;rw[Y2,e1];dsimp only;rcases e2 with ⟨ρ2,e2,h2⟩|⟨x,e2,h2⟩|⟨ρ2,e2,h2⟩|⟨ρ2,x,e2,h2⟩|⟨x,e2,h2⟩
  .have goal:=Nu (R:=R) r (n+1) ρ2 h2 (λi d' ρ3 q p=>by
    have e:n+1+i=n+(i+1):=by lia
    rw[e]at p⊢;exact st (i+1) d' ρ3 (by simpa using q) p) (λρ3 p=>f ρ3 (by
    have e:n+1+r.length=n+(d::r).length:=by rw[QK];lia
    rw[e]at p;exact p))
   rcases e2 with e2|e2<;>(rw[e2];exact goal)
  .rw[e2];exact h2
  .rw[e2];exact h2
  .rw[e2];exact h2
  .rw[e2];exact h2
theorem Tj{lo hi:Int}{i:Nat}{d:D}(h:(K0 lo hi)[i]?=O d):d=.int (lo+i)/\(i:Int)<hi-lo:=by have hl:i<(K0 lo hi).length:=(Qr.mp h).1;rw[WN]at hl;unfold K0 at h;rw[Qt,Qi (by rw[Jg];exact hl),List.getElem_range]at h;cases h;exact⟨rfl,by lia⟩
theorem LI{α:Type}{xs:List α}{i:Int}{v:α}(h0:0<=i)(h:xs[i.toNat]?=O v):atI xs i=O v:=by have:=Z6 (xs:=xs) (j:=i.toNat) h;rw[Int.toNat_of_nonneg h0]at this;exact this
section
variable{α β:Type}{ρ ρ1 ρ2 ρ3 ρ':Ut}{f g h:M D}
theorem Uy{a:α}:Uu a ρ=.ok a ρ:=rfl
theorem UD:Uv ρ=.ok [] ρ:=rfl
theorem KQ{o:Option α}{a:α}(h:o=O a):UG o ρ=.ok a ρ:=by subst h;rfl
theorem Kd{f:M α}{k:α->M β}{x:α}{r:Res β}(h:f ρ=.ok x ρ1)(h2:k x ρ1=r):UH f k ρ=r:=by unfold UH;rw[h];exact h2
theorem Kl{f:M α}{k:α->β}{x:α}(h:f ρ=.ok x ρ1):UE k f ρ=.ok (k x) ρ1:=by unfold UE UH;rw[h];rfl
theorem UA{i:Nat}{d:D}(h:ρ[i]?=O (O (.pub d))):Us i ρ=.ok d ρ:=by unfold Us;rw[h]
theorem Zk{i:Nat}{ds:AY}(h:ρ[i]?=O (O (.own ds)))(h2:ρ.set i (O (.pub (.list ds)))=ρ'):Us i ρ=.ok (.list ds) ρ':=by unfold Us;rw[h];subst h2;rfl
theorem UI{op:D->D->Option β}{x y:D}{r:β}(h1:f ρ=.ok x ρ1)(h2:g ρ1=.ok y ρ2)(h3:op x y=O r):UB op f g ρ=.ok r ρ2:=by unfold UB;exact Kd h1 (Kd h2 (KQ h3))
theorem Uz{g:M AY}{x:D}{xs:AY}(h1:f ρ=.ok x ρ1)(h2:g ρ1=.ok xs ρ2):Uw f g ρ=.ok (x::xs) ρ2:=by unfold Uw;exact Kd h1 (Kd h2 AU)
theorem ZP{g:M AY}{xs:AY}(h1:g ρ=.ok xs ρ1)(h2:xs.length<=1000000):Ka g ρ=.ok (.tuple xs) ρ1:=by unfold Ka;exact Kd h1 (by rw[Qn h2];rfl)
theorem Zy{g:M AY}{xs:AY}(h1:g ρ=.ok xs ρ1)(h2:xs.length<=1000000):U2 g ρ=.ok (.list xs) ρ1:=by unfold U2;exact Kd h1 (by rw[Qn h2];rfl)
theorem Vu{g:M AY}{xs:AY}(h1:g ρ=.ok xs ρ1)(h2:xs.length<=1000000):(UH g λxs=>if xs.length<=1000000 then Uu xs else λ_=>.bad) ρ=.ok xs ρ1:=
 Kd h1 (by rw[Qn h2];rfl)
theorem UL{i:Nat}{d y r:D}(h:ρ[i]?=O (O (.pub d)))(h1:g ρ=.ok y ρ1)(h2:oIx d y=O r):UC i g ρ=.ok r ρ1:=by unfold UC;rw[h];exact Kd h1 (KQ h2)
theorem LH{i:Nat}{ds es:AY}{y r:D}(h:ρ[i]?=O (O (.own ds)))(h1:g ρ=.ok y ρ1)(h3:ρ1[i]?=O (O (.own es)))(h2:oIx (.list es) y=O r):UC i g ρ=.ok r ρ1:=by unfold UC;rw[h];exact Kd h1 (by rw[h3];exact KQ h2)
theorem Zj{p:AY->A4}{g:M AY}{xs:AY}{r:D}(h1:g ρ=.ok xs ρ1)(h2:p xs=O r):KS p g ρ=.ok r ρ1:=by unfold KS;exact Kd h1 (KQ h2)
theorem Kb{n:Nat}{F:AY->A4}{g:M AY}{xs:AY}{r:D}(h1:g ρ=.ok xs ρ1)(h2:xs.length=n)(h3:F xs=O r):UK n F g ρ=.ok r ρ1:=by unfold UK;exact Kd h1 (by rw[Qn h2];exact KQ h3)
theorem VX{i:Int}(h1:f ρ=.ok (.int i) ρ1):Zf f ρ=.ok (.int (-i)) ρ1:=by unfold Zf;exact Kd h1 AU
theorem Kq{i:Nat}{d r:D}(h:ρ[i]?=O (O (.pub d)))(h2:Ke [d]=O r):Kn i ρ=.ok r ρ:=by unfold Kn;rw[h];exact KQ h2
theorem F6{i:Nat}{ds:AY}(h:ρ[i]?=O (O (.own ds))):Kn i ρ=.ok (.int ds.length) ρ:=by unfold Kn;rw[h]
theorem V6{g:M AY}{i:Int}{r:AY}(h1:g ρ=.ok [.int i] ρ1)(h2:Vm [.int i]=O r):Wi g ρ=.ok r ρ1:=by unfold Wi;exact Kd h1 (KQ h2)
theorem Ou{g:M AY}{i j:Int}{r:AY}(h1:g ρ=.ok [.int i,.int j] ρ1)(h2:Vl [.int i,.int j]=O r):VO g ρ=.ok r ρ1:=by unfold VO;exact Kd h1 (KQ h2)
theorem TZ{g:M AY}{xs r:AY}(h1:g ρ=.ok xs ρ1)(h2:VN xs=O r):WB g ρ=.ok r ρ1:=by unfold WB;exact Kd h1 (KQ h2)
theorem ZO{i:Int}(h1:f ρ=.ok (.int i) ρ1):(UH f λx=>UG (Zw x)) ρ=.ok (O i) ρ1:=Kd h1 AU
theorem Zh{f:M Bool}{t:Bool}(h1:f ρ=.ok t ρ1):U3 f ρ=.ok (!t) ρ1:=Kl h1
theorem ZB{t:Bool}(h1:f ρ=.ok (.bool t) ρ1):KM f ρ=.ok t ρ1:=by unfold KM;exact Kd h1 AU
theorem SL{f g:M Bool}{t u:Bool}(h1:f ρ=.ok t ρ)(h2:t=AW->g ρ=.ok u ρ):Zq f g ρ=.ok (t&&u) ρ:=by
 unfold Zq;refine Kd h1 ?_;cases t with
 |true=>rw[Qn AU];exact h2 AU
 |false=>rfl
theorem MR{f g:M Bool}{t u:Bool}(h1:f ρ=.ok t ρ)(h2:t=AX->g ρ=.ok u ρ):mOr f g ρ=.ok (t || u) ρ:=by
 unfold mOr;refine Kd h1 ?_;cases t with
 |false=>rw[QD (by decide)];exact h2 AU
 |true=>rfl
theorem Yh{t u:Bool}(h1:f ρ=.ok (.bool t) ρ)(h2:t=AW->g ρ=.ok (.bool u) ρ):Yb f g ρ=.ok (.bool (t&&u)) ρ:=by
 unfold Yb;refine Kd h1 ?_;cases t with
 |true=>exact h2 AU
 |false=>rfl
theorem Pv{t u:Bool}(h1:f ρ=.ok (.bool t) ρ)(h2:t=AX->g ρ=.ok (.bool u) ρ):YU f g ρ=.ok (.bool (t || u)) ρ:=by
 unfold YU;refine Kd h1 ?_;cases t with
 |false=>exact h2 AU
 |true=>rfl
theorem Ot{t:Bool}(h1:f ρ=.ok (.bool t) ρ1):Vn f ρ=.ok (.bool (!t)) ρ1:=by unfold Vn;exact Kd h1 AU
theorem VC{p q:D->D->A9}{x y z:D}{t u:Bool}(h1:f ρ=.ok x ρ)(h2:g ρ=.ok y ρ)(h3:p x y=O t)(h4:t=AW->h ρ=.ok z ρ)(h5:t=AW->q y z=O u):Xn p q f g h ρ=.ok (t&&u) ρ:=by
 unfold Xn;refine Kd h1 (Kd h2 (Kd (KQ h3) ?_));cases t with
 |true=>rw[Qn AU];exact Kd (h4 AU) (KQ (h5 AU))
 |false=>rfl
theorem K3{i j:Int}:UJ (.int i) (.int j)=O (.int (i+j)):=rfl
theorem Xw{x y:AY}(h:x.length+y.length<=1000000):UJ (.list x) (.list y)=O (.list (x++y)):=by unfold UJ;exact Qn h
theorem Os{i j:Int}:XA (.int i) (.int j)=O (.int (i-j)):=rfl
theorem T9{i j:Int}(h1 : -18446744073709551616<i)(h2:i<18446744073709551616):U9 (.int i) (.int j)=O (.int (i*j)):=by unfold U9 YW;exact Qn (.inl ⟨by lia,by lia⟩)
theorem Sh{i j:Int}(h1 : -18446744073709551616<j)(h2:j<18446744073709551616):U9 (.int i) (.int j)=O (.int (i*j)):=by unfold U9 YW;exact Qn (.inr ⟨by lia,by lia⟩)
theorem Me{x:AY}{k:Int}(h : -1000000<=k/\k<=1000000/\x.length*k.toNat<=1000000):U9 (.list x) (.int k)=O (.list (Ud k.toNat x).flatten):=by unfold U9;exact Qn h
theorem Xq{i j:Int}(h:0<j):KD (.int i) (.int j)=O (.int (i % j)):=by unfold KD XT;exact Qn h
theorem DO{i j:Int}(h:0<j)(h2:j<2 ^ 200):Yn (.int i) (.int j)=O (.int (i / j)):=by unfold Yn XU;exact Qn ⟨h,h2⟩
theorem Oq{i j:Int}(h:0<j)(h2:j<18446744073709551616):Yn (.int i) (.int j)=O (.int (i / j)):=DO h (Int.lt_trans h2 (by decide))
theorem EF{i j:Int}(h:0<=j/\j<=1000000/\i.natAbs<2 ^ 64):YS (.int i) (.int j)=O (.int (i ^ j.toNat)):=by unfold YS XQ;exact Qn h
theorem Y7{p:Int->Int->Bool}{i j:Int}:oIB p (.int i) (.int j)=O (p i j):=rfl
theorem Yg{i j:Int}:oEq (.int i) (.int j)=O (decide (i=j)):=by unfold oEq;rw[if_pos ⟨rfl,rfl,by simp[Uj]⟩];congr 1
theorem KZ{xs:AY}:Ke [.list xs]=O (.int xs.length):=rfl
theorem Rn{xs:AY}:Ke [.tuple xs]=O (.int xs.length):=rfl
theorem Op{i j:Int}:VP [.int i,.int j]=O (.int (if j > i then j else i)):=rfl
theorem EE{i j:Int}:TB [.int i,.int j]=O (.int (if j<i then j else i)):=rfl
theorem V8{j:Int}(h1:j<=1000000)(h2 : -1000000<=j):Vm [.int j]=O (K0 0 j):=by unfold Vm;exact Qn ⟨h1,h2⟩
theorem OD{i j:Int}(h1:j<=1000000)(h2 : -1000000<=j)(h3:i<=1000000)(h4 : -1000000<=i):Vl [.int i,.int j]=O (K0 i j):=by unfold Vl;exact Qn ⟨h1,h2,h3,h4⟩
theorem Sg{xs:AY}:VN [.list xs]=O (Z1 0 xs):=rfl
theorem Kf{i:Nat}{d:D}(h1:f ρ=.ok d ρ1)(h2:i<ρ1.length)(h3:ρ1.set i (O (.pub d))=ρ'):UU i f ρ=.nx ρ':=by unfold UU KW sB gN;rw[h1];dsimp only;rw[if_pos h2];subst h3;rfl
theorem Zn{i:Nat}{f:M AY}{ds:AY}(h1:f ρ=.ok ds ρ1)(h2:i<ρ1.length)(h3:ρ1.set i (O (.own ds))=ρ'):Kw i f ρ=.nx ρ':=by unfold Kw sB;rw[h1];dsimp only;rw[if_pos h2];subst h3;rfl
theorem YE{i:Nat}{d:D}{qM ds:AY}(h0:ρ[i]?=O (O (.own qM)))(h1:f ρ=.ok d ρ1)(h2:ρ1[i]?=O (O (.own ds)))(h3:ds.length<1000000)(h4:ρ1.set i (O (.own (ds++[d])))=ρ'):KB i f ρ=.nx ρ':=by unfold KB sB;rw[h0];dsimp only;rw[h1];dsimp only;rw[h2];dsimp only;rw[if_pos h3];subst h4;rfl
theorem WF{d:D}{s:D->Ut->A6}(h1:f ρ=.ok d ρ1)(h2:s d ρ1=O ρ'):KW f s ρ=.nx ρ':=by unfold KW sB;rw[h1];dsimp only;rw[h2]
theorem WL{d:D}(h1:f ρ=.ok d ρ1):YN f ρ=.nx ρ1:=by unfold YN sB;rw[h1]
theorem UN{i:Nat}{d:D}(h:i<ρ.length)(h2:ρ.set i (O (.pub d))=ρ'):gN i d ρ=O ρ':=by unfold gN;rw[Qn h,h2]
theorem K5:gN0 [] ρ=O ρ:=rfl
theorem Kg{s:D->Ut->A6}{t:AY->Ut->A6}{d:D}{r:AY}(h1:s d ρ=O ρ1)(h2:t r ρ1=O ρ'):gNC s t (d::r) ρ=O ρ':=by unfold gNC;dsimp only;rw[h1];exact h2
theorem K4{n:Nat}{t:AY->Ut->A6}{ds:AY}(h1:ds.length=n)(h2:t ds ρ=O ρ'):gT n t (.tuple ds) ρ=O ρ':=by unfold gT;dsimp only;rw[if_pos h1];exact h2
structure Ho(g:SM)(ρ:Ut)(Q:Out->Prop):Prop where
 out:Q (g ρ)
noncomputable def MQ(h:SM)(Q:Out->Prop):Out->Prop
 |.nx ρ'=>Ho h ρ' Q
 |o=>Q o
structure Wy(h:SM)(Q:Out->Prop)(o:Out):Prop where
 out:MQ h Q o
variable{Q:Out->Prop}{s t u:SM}
theorem UQ(h:Ho s ρ (Wy t Q)):Ho (Ux s t) ρ Q:=by
 have h:=h.out.out;constructor;unfold Ux;cases e:s ρ with
 |nx o=>rw[e]at h;exact h.out
 |_=>rw[e]at h;exact h
theorem UR(h1:s ρ=.nx ρ1)(h2:Ho t ρ1 Q):Ho (Ux s t) ρ Q:=by
 constructor;unfold Ux;rw[h1];exact h2.out
theorem Kk{o:Out}(h1:s ρ=o)(h2:Q o):Ho s ρ Q:=by constructor;rw[h1];exact h2
theorem U1(h:Q (.nx ρ)):Ho sNx ρ Q:=⟨h⟩
theorem UX{o:Ut}(h:Ho t o Q):Wy t Q (.nx o):=⟨h⟩
theorem KN{d:D}(h:Q (.rt d)):Wy t Q (.rt d):=⟨h⟩
theorem UM{f:M Bool}{b:Bool}(h1:f ρ=.ok b ρ1)(h2:b=AW->Ho s ρ1 Q)(h3:b=AX->Ho t ρ1 Q):Ho (sIf f s t) ρ Q:=by
 constructor;unfold sIf sB;rw[h1];dsimp only
 cases b with
 |true=>rw[Qn AU];exact(h2 AU).out
 |false=>rw[QD (by decide)];exact(h3 AU).out
theorem U5{d:D}(h1:f ρ=.ok d ρ1)(h2:Q (.rt d)):Ho (UF f) ρ Q:=by constructor;unfold UF sB;rw[h1];exact h2
theorem Vt{P:Out->Prop}(h:Ho s ρ P)(k:∀o,P o->Q o):Ho s ρ Q:=⟨k _ h.out⟩
noncomputable def MP(I:Ut->Prop)(Q:Out->Prop):Out->Prop
 |.nx ρ | .ct ρ=>I ρ
 |.bk ρ=>Q (.nx ρ)
 |.rt d=>Q (.rt d)
 |.ex ρ d=>Q (.ex ρ d)
 |.ro ds=>Q (.ro ds)
 |.bad=>False
structure Vj(I:Ut->Prop)(Q:Out->Prop)(o:Out):Prop where
 out:MP I Q o
theorem Z5{I:Ut->Prop}(h:I ρ):Vj I Q (.nx ρ):=⟨h⟩
theorem Yi{ρ:Ut}{d:D}(h:Q (.ex ρ d)):Wy t Q (.ex ρ d):=⟨h⟩
theorem Xj{f:M AY}{tg:D->Ut->A6}{ds:AY}(I:Nat->Ut->Prop)(h1:f ρ=.ok ds ρ1)(h0:I 0 ρ1)
  (hst:∀i d ρ,ds[i]?=O d->I i ρ->∃ρ2,tg d ρ=O ρ2/\Ho s ρ2 (Vj (I (i+1)) Q)) (hend:∀ρ,I ds.length ρ->Q (.nx ρ)):Ho (Ks f tg s) ρ Q:=by
 constructor;unfold Ks sB;rw[h1];dsimp only
 refine Nu (P:=I) (R:=Q) ds 0 ρ1 h0 (λi d ρ e p=>?_) (λρ p=>hend ρ (by rw[Nat.zero_add]at p;exact p));rw[Nat.zero_add]at p;obtain⟨ρ2,e2,q⟩:=hst i d ρ e p;refine⟨ρ2,e2,?_⟩;rw[Nat.zero_add];have q:=q.out.out;cases z:s ρ2 with
 |nx o=>rw[z]at q;exact .inl ⟨o,.inl AU,q⟩
 |ct o=>rw[z]at q;exact .inl ⟨o,.inr AU,q⟩
 |rt o=>rw[z]at q;exact .inr (.inl ⟨o,rfl,q⟩)
 |bk o=>rw[z]at q;exact .inr (.inr (.inl ⟨o,rfl,q⟩))
 |ex o x=>rw[z]at q;exact .inr (.inr (.inr (.inl ⟨o,x,rfl,q⟩)))
 |ro o=>rw[z]at q;exact .inr (.inr (.inr (.inr ⟨o,rfl,q⟩)))
 |bad=>rw[z]at q;exact q.elim
theorem Vr{N:List Str}{ds:AY}{P:D->Prop}(h0:KU N ds=ρ)(h:Ho s ρ λo=>∃d,o=.rt d/\P d):∃d,UY N s ds=O d/\P d:=by subst h0;obtain⟨d,e,p⟩:=h.out;refine⟨d,?_,p⟩;unfold UY;rw[e]
theorem K1{N:List Str}{ds:AY}{d:D}(h0:KU N ds=ρ)(h:Ho s ρ λo=>o=.rt d):UY N s ds=O d:=by obtain⟨d',e,p⟩:=Vr (P:=λx=>x=d) h0 (Vt h λo e=>⟨d,e,rfl⟩);rw[e,p]
end
section
variable{α β:Type}{ρ ρ1 ρ2 ρ3 ρ':Ut}{f g h:M D}
theorem YD{l u:M A7}{x r:D}{a b:A7}(h1:f ρ=.ok x ρ1)(h2:l ρ1=.ok a ρ2)(h3:u ρ2=.ok b ρ3)(h4:Yk x a b=O r):KE f l u ρ=.ok r ρ3:=by unfold KE;exact Kd h1 (Kd h2 (Kd h3 (KQ h4)))
theorem Y6{f g:M Bool}(h1:f ρ=.ok AW ρ1):mOr f g ρ=.ok AW ρ1:=by unfold mOr;exact Kd h1 AU
theorem ZK{f g:M Bool}{u:Bool}(h1:f ρ=.ok AX ρ1)(h2:g ρ1=.ok u ρ2):mOr f g ρ=.ok u ρ2:=by unfold mOr;exact Kd h1 (by rw[QD (by decide)];exact h2)
theorem PY{f g:M Bool}(h1:f ρ=.ok AX ρ1):Zq f g ρ=.ok AX ρ1:=by unfold Zq;exact Kd h1 AU
theorem Zl{c:String}{d:D}{t:Bool}(h:f ρ=.ok d ρ1)(ht:(!U4 d c)=t):U3 (KM (UE (λd=>.bool (U4 d c)) f)) ρ=.ok t ρ1:=by subst ht;exact Zh (ZB (Kl (k:=λd=>Uf (U4 d c)) h))
theorem ZM{x:D}{r:AY}(h1:f ρ=.ok x ρ1)(h2:S6 x=O r):KH f ρ=.ok r ρ1:=by unfold KH;exact Kd h1 (KQ h2)
theorem Ye{p:D->D->Option β}{i:Nat}{d y:D}{r:β}(h:ρ[i]?=O (O (.pub d)))(h1:g ρ=.ok y ρ1)(h2:p d y=O r):Km p i g ρ=.ok r ρ1:=by unfold Km;rw[h];exact Kd h1 (KQ h2)
theorem OC{p:D->D->Option β}{i:Nat}{ds es:AY}{y:D}{r:β}(h:ρ[i]?=O (O (.own ds)))(h1:g ρ=.ok y ρ1)(h3:ρ1[i]?=O (O (.own es)))(h2:p (.list es) y=O r):Km p i g ρ=.ok r ρ1:=by unfold Km;rw[h];exact Kd h1 (by rw[h3];exact KQ h2)
theorem Yd{f:M AY}{k:Nat}{s:D->Ut->A6}{t:M Bool}{ds es:AY}(h1:f ρ=.ok ds ρ1)(h2:KG s t g ds (U7 ρ1++Ud k AV) []=O es):Zv f k s t g ρ=.ok es ρ1:=by unfold Zv;rw[h1];dsimp only;rw[h2]
theorem Xs{s:D->Ut->A6}{t:M Bool}(p:D->Bool)(q:D->D)(I:Ut->Prop):∀(ds:AY)(ρ:Ut)(es:AY),(∀d∈ds,∀ρ,I ρ->∃ρ1,s d ρ=O ρ1/\t ρ1=.ok (p d) ρ1/\(p d=AW->g ρ1=.ok (q d) ρ1)/\I (U7 ρ1))->I ρ->es.length+ds.length<=1000000 ->
  KG s t g ds ρ es=O (es++(ds.filter p).map q)
 |[],ρ,es,_,_,_=>by rw[KG];simp
 |d::r,ρ,es,st,h0,hz=>by
  obtain⟨ρ1,e1,e2,e3,h1⟩:=st d Qp ρ h0;have ih:=λes' hz'=>Xs p q I r (U7 ρ1) es' (λd' hd=>st d' (Qo _ hd)) h1 hz';rw[QK]at hz;rw[KG,e1];dsimp only;rw[e2];dsimp only
  cases hp:p d with
  |true=>rw[Qn AU,e3 hp];dsimp only;rw[Qn (by lia),ih _ (by rw[Qk,QF];lia),List.filter_cons_of_pos hp,Qw,Jr];rfl
  |false=>rw[QD (by decide),ih _ (by lia),List.filter_cons_of_neg (by rw[hp];decide)]
theorem S5{j:Nat}{d:D}{k:Int}{qM ds:AY}(h1:f ρ=.ok d ρ1)(h0:ρ1[j]?=O (O (.own qM)))(h2:g ρ1=.ok (.int k) ρ2)(h3:ρ2[j]?=O (O (.own ds)))(h4:0<=k/\k<ds.length)(h5:ρ2.set j (O (.own (ds.set k.toNat d)))=ρ'):Vk j g f ρ=.nx ρ':=by unfold Vk sB;rw[h1];dsimp only;rw[h0];dsimp only;rw[h2];dsimp only;rw[h3];dsimp only;rw[if_pos h4];subst h5;rfl
theorem Rm{xs:AY}{a b:A7}:Yk (.list xs) a b=O (.list (DL.cutD xs a b)):=rfl
theorem TY{xs:AY}:S6 (.list xs)=O xs:=rfl
theorem An(bs:List Bool):Wm (bs.map Uf)=O bs:=by
 induction bs with
 |nil=>rfl
 |cons b r ih=>rw[Qw,Wm,ih];rfl
theorem S4{bs:List Bool}:K6 [.list (bs.map Uf)]=O (.bool (bs.all id)):=by unfold K6;dsimp only;rw[An];rfl
end
section
variable{α β:Type}{ρ ρ1 ρ2 ρ3 ρ4 ρ':Ut}{f g h:M D}{s:SM}
theorem Pu{l u t:M A7}{xs:AY}(h1:f ρ=.ok (.list xs) ρ1)(h2:l ρ1=.ok AV ρ2)(h3:u ρ2=.ok AV ρ3)(h4:t ρ3=.ok (O (-1)) ρ4):Yo f l u t ρ=.ok (.list xs.reverse) ρ4:=by unfold Yo;exact Kd h1 (Kd h2 (Kd h3 (Kd h4 (KQ (by unfold XB;exact Qn AU)))))
theorem WI{i:Nat}{d:D}{ds:AY}(h:ρ[i]?=O (O (.pub d)))(h2:Z0 [d]=O ds):YG i ρ=.ok ds ρ:=by unfold YG;rw[h];exact KQ h2
theorem SI{N:List Str}{ds:AY}(h0:KU N ds=ρ)(h:Ho s ρ λo=>∃ρ',o=.nx ρ'):UY N s ds=O .none:=by subst h0;obtain⟨ρ',e⟩:=h.out;unfold UY;rw[e]
theorem TX{i j:Int}:oNe (.int i) (.int j)=O (!decide (i=j)):=by unfold oNe;rw[if_pos ⟨rfl,rfl,by simp[Uj]⟩];congr 1
theorem DN{xs:A0}{j:Nat}{v:Int}:(xs.map int).set j (.int v)=(xs.set j v).map int:=by rw[List.map_set]
theorem DM{xs:A0}{a b:Int}(ha:0<=a)(hb:0<=b)(hl:b<=xs.length):DL.cutD (xs.map int) (O a) (O b)=((xs.drop a.toNat).take (b.toNat-a.toNat)).map int:=by
 unfold DL.cutD HT.sIx;dsimp only;rw[QD (by lia),QD (by lia),Qd,List.map_take,List.map_drop];have e2:min b.toNat xs.length=b.toNat:=by lia
 rw[e2];by_cases hab:a.toNat<=xs.length
 .have e1:min a.toNat xs.length=a.toNat:=by lia
  rw[e1]
 .have e3:b.toNat-a.toNat=0:=by lia
  have e4:b.toNat-min a.toNat xs.length=0:=by lia
  rw[e3,e4,List.take_zero,List.take_zero]
end
section
variable{X:Cx}{B G0:Hp}{KX:XW}{e o a b c tg i:J7}{pos p2:Pos}{es rest:A3}
noncomputable def Wx(ρ:Ut)(j:Nat):Option AY:=match ρ[j]? with
 |some (O (.own ds))=>O ds
 |_=>AV
theorem Rq{ρ:Ut}{j:Nat}{ds:AY}(h:Wx ρ j=O ds):ρ[j]?=O (O (.own ds)):=by
 unfold Wx at h;split at h
 .rename_i es e;cases h;exact e
 .cases h
end
end DL
namespace DL
open PySem PySem.Spec PySem.W PyProof.Rows
noncomputable def UO{α:Type}(lt:Nat->Nat->Bool):KasT α->α
 |.ret a=>a
 |.ask i j k=>UO lt (k (lt i j))
theorem VE{α β:Type}{lt:Nat->Nat->Bool}{f:α->KasT β}:∀t:KasT α,UO lt (t.bind f)=UO lt (f (UO lt t))
 |.ret _=>rfl
 |.ask i j k=>by show UO lt ((k (lt i j)).bind f)=_;rw[VE];rfl
section
variable{key:Nat->Int}{p:Array Nat}
noncomputable def KA(key:Nat->Int)(p:Array Nat)(i:Nat):Int:=key (p.getD i 0)
def srt(key:Nat->Int)(p:Array Nat)(m:Nat):Prop:=∀i j,i<=j->j<m->KA key p i<=KA key p j
def dsc(key:Nat->Int)(p:Array Nat)(m:Nat):Prop:=∀i j,i<=j->j<m->KA key p j<=KA key p i
noncomputable abbrev kl(key:Nat->Int)(i j:Nat):Bool:=decide (key i<key j)
theorem NP{k d i:Nat}(hk:k<p.size)(hd:d<=k):KA key (bubble p k d) i=if i=k-d then KA key p k else if k-d<i/\i<=k then KA key p (i-1)else KA key p i:=by
 unfold KA;simp only[Q7];rw[getElem?_bubble hk d hd]
 repeat' split
 all_goals rfl
theorem V3{i j k:Nat}(hj:j<=p.size):KA key (kas_rev p i j) k=if i<=k/\k<j then KA key p (i+j-1-k)else KA key p k:=by
 unfold KA kas_rev;simp only[Q7];rw[getElem?_mirror_all hj]
 split<;>rfl
theorem WH{i j:Nat}:(kas_rev p i j).size=p.size:=mirror_size _ _ _ _
theorem Xv{i j:Nat}:(kas_rev p i j).Perm p:=mirror_perm _ _ _ _
theorem Rl:∀(f n:Nat),1<=n->srt key p n->srt key p (UO (kl key) (kas_asc p f n))/\n<=UO (kl key) (kas_asc p f n)/\UO (kl key) (kas_asc p f n)<=n+f /\
  (UO (kl key) (kas_asc p f n)<n+f->KA key p (UO (kl key) (kas_asc p f n))<KA key p (UO (kl key) (kas_asc p f n)-1))
 |0,n,h1,hs=>⟨hs,Qq _,Qq _,λh=>absurd h (Jz _)⟩
 |f+1,n,h1,hs=>by
  unfold kas_asc UO;cases c:kl key (p.getD n 0) (p.getD (n-1) 0)with
  |true=>dsimp only;rw[Qn AU];exact⟨hs,Qq _,by show n<=n+(f+1);lia,λ_=>Qa c⟩
  |false=>
   dsimp only;rw[QD (by decide)];have hle:KA key p (n-1)<=KA key p n:=JY.mp (Jy c)
   obtain⟨a1,a2,a3,a4⟩:=Rl f (n+1) (by lia) (λi j hij hj=>by
    by_cases jf:j=n
    .subst jf
     by_cases hin:i=j
     .subst hin;exact JH _
     .exact Int.le_trans (hs i (j-1) (by lia) (by lia)) hle
    .exact hs i j hij (by lia))
   exact⟨a1,by lia,by lia,λh=>a4 (by lia)⟩
def eqs(key:Nat->Int)(p:Array Nat)(n q:Nat):Prop:=∀i,n-1-q<=i->i<n->KA key p i=KA key p (n-1)
theorem T6:∀(f:Nat)(p:Array Nat)(n q:Nat),1<=n->q+1<=n->n+f<=p.size->dsc key p n->eqs key p n q ->
  let r:=UO (kl key) (kas_desc f p n q)
  r.1.Perm p/\r.1.size=p.size/\dsc key r.1 r.2.1/\eqs key r.1 r.2.1 r.2.2/\r.2.2+1<=r.2.1/\n<=r.2.1/\r.2.1<=n+f
 |0,p,n,q,h1,hq,hz,hd,he=>⟨JR _,rfl,hd,he,hq,Qq _,Qq _⟩
 |f+1,p,n,q,h1,hq,hz,hd,he=>by
  intro r;have hr:r=UO (kl key) (kas_desc (f+1) p n q):=rfl;unfold kas_desc UO at hr;cases c:kl key (p.getD n 0) (p.getD (n-1) 0)with
  |true=>
   rw[c]at hr;(try dsimp only at hr);rw[if_pos AU]at hr;have hlt:KA key p n<KA key p (n-1):=Qa c
   have ext:∀p':Array Nat,(∀i,KA key p' i=KA key p i)->dsc key p' (n+1)/\eqs key p' (n+1) 0:=λp' hp=>⟨λi j hij hj=>by
     rw[hp,hp];by_cases jf:j=n
     .subst jf
      by_cases hin:i=j
      .subst hin;exact JH _
      .exact Int.le_trans (Int.le_of_lt hlt) (hd i (j-1) (by lia) (by lia))
     .exact hd i j hij (by lia),λi hi1 hi2=>by
     have:i=n:=by lia
     subst this;rfl⟩
   by_cases hq0:q > 0
   .rw[Qn hq0]at hr
    have same:∀i,KA key (kas_rev p (n-(q+1)) n) i=KA key p i:=λi=>by
     rw[V3 (by lia)];split
     .rw[he _ (by lia) (by lia),he i (by lia) (by lia)]
     .rfl
    obtain⟨d1,e1⟩:=ext _ same;obtain⟨a1,a2,a3,a4,a5,a6,a7⟩:=T6 f (kas_rev p (n-(q+1)) n) (n+1) 0 (by lia) (by lia) (by rw[WH];lia) d1 e1;rw[←hr]at a1 a2 a3 a4 a5 a6 a7;exact⟨a1.trans Xv,a2.trans WH,a3,a4,a5,by lia,by lia⟩
   .rw[QD hq0]at hr
    obtain⟨d1,e1⟩:=ext p λ_=>rfl
    obtain⟨a1,a2,a3,a4,a5,a6,a7⟩:=T6 f p (n+1) 0 (by lia) (by lia) (by lia) d1 e1;rw[←hr]at a1 a2 a3 a4 a5 a6 a7;exact⟨a1,a2,a3,a4,a5,by lia,by lia⟩
  |false=>
   rw[c]at hr;(try dsimp only at hr);rw[if_neg (by decide)]at hr;unfold UO at hr;have hle:KA key p (n-1)<=KA key p n:=JY.mp (Jy c);cases d:kl key (p.getD (n-1) 0) (p.getD n 0)with
   |true=>rw[d]at hr;(try dsimp only at hr);rw[if_pos AU]at hr;unfold UO at hr;rw[hr];exact⟨JR _,rfl,hd,he,hq,Qq _,by show n<=n+(f+1);lia⟩
   |false=>
    rw[d]at hr;(try dsimp only at hr);rw[if_neg (by decide)]at hr;have hge:KA key p n<=KA key p (n-1):=JY.mp (Jy d)
    obtain⟨a1,a2,a3,a4,a5,a6,a7⟩:=T6 f p (n+1) (q+1) (by lia) (by lia) (by lia) (λi j hij hj=>by
     by_cases jf:j=n
     .subst jf
      by_cases hin:i=j
      .subst hin;exact JH _
      .exact Int.le_trans hge (hd i (j-1) (by lia) (by lia))
     .exact hd i j hij (by lia)) (λi hi1 hi2=>by
     have e0:KA key p n=KA key p (n-1):=Int.le_antisymm hge hle;show KA key p i=KA key p (n+1-1);rw[Nat.add_sub_cancel,e0];by_cases hin:i=n
     .subst hin;exact e0
     .exact he i (by lia) (by lia))
    rw[←hr]at a1 a2 a3 a4 a5 a6 a7;exact⟨a1,a2,a3,a4,a5,by lia,by lia⟩
theorem Md{n nrem:Nat}(h1:1<=n)(hn:n<=nrem)(hz:nrem<=p.size)(hd:dsc key p n) :
  let r:=UO (kl key) (kas_tail3 n nrem p)
  r.2.Perm p/\r.2.size=p.size/\srt key r.2 r.1/\1<=r.1/\r.1<=nrem:=by
 intro r;have hr:r=UO (kl key) (kas_tail3 n nrem p):=rfl;unfold kas_tail3 at hr;rw[VE]at hr;have hs:srt key (kas_rev p 0 n) n:=λi j hij hj=>by rw[V3 (by lia),V3 (by lia),Qn (by lia),Qn (by lia)];exact hd _ _ (by lia) (by lia)
 obtain⟨a1,a2,a3,_⟩:=Rl (key:=key) (p:=kas_rev p 0 n) (nrem-n) n h1 hs;rw[hr];exact⟨Xv,WH,a1,by show 1<=UO _ _;lia,by show UO _ _<=_;lia⟩
theorem Mr{n nrem:Nat}(h1:1<=n)(hn:n+1<=nrem)(hz:nrem<=p.size)(hd:dsc key p (n+1)) :
  let r:=UO (kl key) (kas_descPart n nrem p)
  r.2.Perm p/\r.2.size=p.size/\srt key r.2 r.1/\1<=r.1/\r.1<=nrem:=by
 intro r;have hr:r=UO (kl key) (kas_descPart n nrem p):=rfl;unfold kas_descPart at hr;rw[VE]at hr
 obtain⟨a1,a2,a3,a4,a5,a6,a7⟩:=T6 (key:=key) (nrem-(n+1)) p (n+1) 0 (by lia) (by lia) (by lia) hd (λi hi1 hi2=>by
  have:i=n:=by lia
  subst this;rfl)
 generalize UO (kl key) (kas_desc (nrem-(n+1)) p (n+1) 0)=d at hr a1 a2 a3 a4 a5 a6 a7;obtain⟨p1,n1,q1⟩:=d;dsimp only at hr a1 a2 a3 a4 a5 a6 a7;by_cases hq:q1 > 0
 .rw[Qn hq]at hr
  have same:∀i,KA key (kas_rev p1 (n1-(q1+1)) n1) i=KA key p1 i:=λi=>by
   rw[V3 (by lia)];split
   .rw[a4 _ (by lia) (by lia),a4 i (by lia) (by lia)]
   .rfl
  obtain⟨b1,b2,b3,b4,b5⟩:=Md (key:=key) (p:=kas_rev p1 (n1-(q1+1)) n1) (n:=n1) (nrem:=nrem) (by lia) (by lia) (by rw[WH];lia) (λi j hij hj=>by rw[same,same];exact a3 i j hij hj);rw[hr];exact⟨(b1.trans Xv).trans a1,(b2.trans WH).trans a2,b3,b4,b5⟩
 .rw[QD hq]at hr
  obtain⟨b1,b2,b3,b4,b5⟩:=Md (key:=key) (p:=p1) (n:=n1) (nrem:=nrem) (by lia) (by lia) (by lia) a3;rw[hr];exact⟨b1.trans a1,b2.trans a2,b3,b4,b5⟩
theorem Bu{nrem:Nat}(h1:1<=nrem)(hz:nrem<=p.size) :
  let r:=UO (kl key) (kas_count nrem p)
  r.2.Perm p/\r.2.size=p.size/\srt key r.2 r.1/\1<=r.1/\r.1<=nrem:=by
 intro r;have hr:r=UO (kl key) (kas_count nrem p):=rfl;unfold kas_count at hr;rw[VE]at hr
 obtain⟨a1,a2,a3,a4⟩:=Rl (key:=key) (p:=p) (nrem-1) 1 (Qq _) (λi j hij hj=>by
  have:i=j:=by lia
  subst this;exact JH _)
 generalize UO (kl key) (kas_asc p (nrem-1) 1)=n at hr a1 a2 a3 a4;by_cases hn:(n==nrem)=AW
 .rw[Qn hn]at hr
  unfold UO at hr;rw[hr];exact⟨JR _,rfl,a1,a2,by show n<=nrem;lia⟩
 .rw[QD hn]at hr
  have hne:n≠nrem:=by simpa using hn
  have hlt:=a4 (by lia);by_cases hn1:n > 1
  .rw[Qn hn1]at hr
   unfold UO at hr;cases c:kl key (p.getD 0 0) (p.getD (n-1) 0)with
   |true=>rw[c]at hr;(try dsimp only at hr);rw[if_pos AU]at hr;unfold UO at hr;rw[hr];exact⟨JR _,rfl,a1,a2,by show n<=nrem;lia⟩
   |false=>
    rw[c]at hr;(try dsimp only at hr);rw[if_neg (by decide)]at hr;have hge:KA key p (n-1)<=KA key p 0:=JY.mp (Jy c);have all:∀i,i<n->KA key p i=KA key p 0:=λi hi=>Int.le_antisymm (Int.le_trans (a1 i (n-1) (by lia) (by lia)) hge) (a1 0 i (by lia) hi)
    have same:∀i,KA key (kas_rev p 0 n) i=KA key p i:=λi=>by
     rw[V3 (by lia)];split
     .rw[all _ (by lia),all i (by lia)]
     .rfl
    obtain⟨b1,b2,b3,b4,b5⟩:=Mr (key:=key) (p:=kas_rev p 0 n) (n:=n) (nrem:=nrem) a2 (by lia) (by rw[WH];exact hz) (λi j hij hj=>by
     rw[same,same];by_cases jf:j=n
     .subst jf
      by_cases hin:i=j
      .subst hin;exact JH _
      .rw[all i (by lia)]
       rw[all (j-1) (by lia)]at hlt;exact Int.le_of_lt hlt
     .rw[all i (by lia),all j (by lia)];exact JH _)
    rw[hr];exact⟨b1.trans Xv,b2.trans WH,b3,b4,b5⟩
  .rw[QD hn1]at hr
   have:n=1:=by lia
   subst this
   obtain⟨b1,b2,b3,b4,b5⟩:=Mr (key:=key) (p:=p) (n:=1) (nrem:=nrem) (Qq _) (by lia) hz (λi j hij hj=>by
    by_cases hij2:i=j
    .subst hij2;exact JH _
    .have h0:i=0:=by lia
     have h1:j=1:=by lia
     subst h0;subst h1;exact Int.le_of_lt hlt)
   rw[hr];exact⟨b1,b2,b3,b4,b5⟩
theorem RB{k:Nat}(hs:srt key p k):∀(f l r:Nat),l<=r->r<=k->r-l<=f->(∀i,i<l->KA key p i<=KA key p k)->(∀i,r<=i->i<k->KA key p k<KA key p i) ->
  let m:=UO (kl key) (kas_place p k f l r)
  m<=k/\(∀i,i<m->KA key p i<=KA key p k)/\(∀i,m<=i->i<k->KA key p k<KA key p i)
 |0,l,r,hlr,hrk,hf,h1,h2=>⟨by show l<=k;lia,h1,λi (hi:l<=i)=>h2 i (by lia)⟩
 |f+1,l,r,hlr,hrk,hf,h1,h2=>by
  intro m;have hm:m=UO (kl key) (kas_place p k (f+1) l r):=rfl;unfold kas_place at hm;by_cases hge:l ≥ r
  .rw[Qn hge]at hm
   unfold UO at hm;rw[hm];exact⟨by lia,h1,λi hi=>h2 i (by lia)⟩
  .rw[QD hge]at hm
   unfold UO at hm;cases c:kl key (p.getD k 0) (p.getD ((l+r) / 2) 0)with
   |true=>rw[c]at hm;(try dsimp only at hm);rw[if_pos AU]at hm;rw[hm];have hlt:KA key p k<KA key p ((l+r) / 2):=Qa c;exact RB hs f l ((l+r) / 2) (by lia) (by lia) (by lia) h1 λi hi hik=>Int.lt_of_lt_of_le hlt (hs _ _ hi hik)
   |false=>rw[c]at hm;(try dsimp only at hm);rw[if_neg (by decide)]at hm;rw[hm];have hle:KA key p ((l+r) / 2)<=KA key p k:=JY.mp (Jy c);exact RB hs f ((l+r) / 2+1) r (by lia) hrk (by lia) (λi hi=>Int.le_trans (hs i ((l+r) / 2) (by lia) (by lia)) hle) h2
theorem Nc:∀(f:Nat)(p:Array Nat)(k:Nat),k+f<=p.size->srt key p k->let r:=UO (kl key) (kas_bin f p k);r.Perm p/\r.size=p.size/\srt key r (k+f)
 |0,p,k,_,hs=>⟨JR _,rfl,hs⟩
 |f+1,p,k,hz,hs=>by
  intro r;have hr:r=UO (kl key) (kas_bin (f+1) p k):=rfl;unfold kas_bin at hr;rw[VE]at hr;obtain⟨a1,a2,a3⟩:=RB (key:=key) hs k 0 k (Nat.zero_le _) (Qq _) (by omega) (λi hi=>by omega) (λi h1 h2=>by omega);generalize UO (kl key) (kas_place p k k 0 k)=l at hr a1 a2 a3;have hk:k<p.size:=by omega
  obtain⟨b1,b2,b3⟩:=Nc f (bubble p k (k-l)) (k+1) (by rw[bubble_size];omega) (λi j hij hj=>by
   rw[NP hk (by omega),NP hk (by omega),show k-(k-l)=l by omega];by_cases hi:i=l
   .rw[Qn hi]
    by_cases jD:j=l
    .rw[Qn jD];exact JH _
    .rw[QD jD,Qn (by omega)]
     exact Int.le_of_lt (a3 (j-1) (by omega) (by omega))
   .rw[QD hi]
    by_cases hi2:l<i/\i<=k
    .rw[Qn hi2,QD (show ¬j=l by omega),Qn (by omega)]
     exact hs _ _ (by omega) (by omega)
    .rw[QD hi2]
     by_cases jD:j=l
     .rw[Qn jD];exact a2 i (by omega)
     .rw[QD jD]
      split
      .exact hs _ _ (by omega) (by omega)
      .exact hs _ _ (by omega) (by omega))
  rw[hr];exact⟨b1.trans (bubble_perm _ _ _),b2.trans (bubble_size _ _ _),by rw[show k+(f+1)=k+1+f by omega];exact b3⟩
theorem Cn{n:Nat}(h1:1<=n):let r:=UO (kl key) (kas_sort n);r.Perm (List.toArray (Uc n))/\r.size=n/\srt key r n:=by
 intro r;have hr:r=UO (kl key) (kas_sort n):=rfl;unfold kas_sort at hr;rw[VE]at hr;have hsz:(List.toArray (Uc n)).size=n:=by simp
 obtain⟨a1,a2,a3,a4,a5⟩:=Bu (key:=key) (p:=List.toArray (Uc n)) (nrem:=n) h1 (by rw[hsz];exact Qq _);generalize UO (kl key) (kas_count n (List.toArray (Uc n)))=d at hr a1 a2 a3 a4 a5;by_cases hlt:d.1<n
 .rw[Qn hlt]at hr
  have hmax:max d.1 1=d.1:=by lia
  rw[hmax]at hr;obtain⟨b1,b2,b3⟩:=Nc (key:=key) (n-d.1) d.2 d.1 (by lia) a3;rw[hr];exact⟨b1.trans a1,by lia,by rw[show d.1+(n-d.1)=n by lia]at b3;exact b3⟩
 .rw[QD hlt]at hr
  unfold UO at hr;rw[hr];exact⟨a1,by lia,by rw[show d.1=n by lia]at a3;exact a3⟩
noncomputable def Asks{α:Type}(N:Nat)(R:α->Prop):KasT α->Prop
 |.ret a=>R a
 |.ask i j k=>i<N/\j<N/\∀b,Asks N R (k b)
theorem Asks.bind{α β:Type}{N:Nat}{R:α->Prop}{S:β->Prop}{f:α->KasT β}(hf:∀a,R a->Asks N S (f a)):∀{t:KasT α},Asks N R t->Asks N S (t.bind f)
 |.ret a,h=>hf a h
 |.ask _ _ k,⟨h1,h2,h3⟩=>⟨h1,h2,λb=>Asks.bind hf (h3 b)⟩
theorem Nb{α:Type}{lt:Nat->Nat->Bool}{cmp:Nat->Nat->(Bool->J0->Prop)->J0->Prop}{s:J0}{N:Nat}{R:α->Prop}(hc:∀i j C,i<N->j<N->C (lt i j) s->cmp i j C s):∀(t:KasT α)(Q:α->J0->Prop),Asks N R t->Q (UO lt t) s->t.kasWp cmp Q s
 |.ret _,_,_,h=>h
 |.ask i j k,Q,⟨h1,h2,h3⟩,h=>hc i j _ h1 h2 (Nb hc (k (lt i j)) Q (h3 _) h)
def bnd(N:Nat)(p:Array Nat):Prop:=∀i,p.getD i 0<N
theorem VA{N:Nat}{p q:Array Nat}(hN:0<N)(h:bnd N p)(e:q.Perm p):bnd N q:=λi=>by
 rw[Q7];cases z:q[i]? with
 |none=>exact hN
 |some v=>have hm:v∈q:=Array.mem_of_getElem? z;have hm2:v∈p:=e.mem_iff.mp hm;obtain⟨j,hj,e2⟩:=Array.mem_iff_getElem.mp hm2;have:=h j;rw[Q7,JE hj,e2]at this;exact this
section
variable{N:Nat}(hN:0<N)
include hN
theorem Rk{p:Array Nat}(h:bnd N p):∀(f n:Nat),Asks N (λ_=>True) (kas_asc p f n)
 |0,_=>trivial
 |f+1,n=>⟨h _,h _,λb=>by
  cases b with
  |true=>(try dsimp only);rw[if_pos AU];trivial
  |false=>(try dsimp only);rw[if_neg (by decide)];exact Rk h f (n+1)⟩
theorem T5:∀(f:Nat)(p:Array Nat)(n q:Nat),bnd N p->Asks N (λr=>bnd N r.1) (kas_desc f p n q)
 |0,p,_,_,h=>h
 |f+1,p,n,q,h=>⟨h _,h _,λb=>by
  cases b with
  |true=>
   dsimp only;rw[Qn AU];split
   .exact T5 f _ _ _ (VA hN h Xv)
   .exact T5 f _ _ _ h
  |false=>
   dsimp only;rw[QD (by decide)];refine⟨h _,h _,λb=>?_⟩;cases b with
   |true=>(try dsimp only);rw[if_pos AU];exact h
   |false=>(try dsimp only);rw[if_neg (by decide)];exact T5 f _ _ _ h⟩
theorem Mc{p:Array Nat}{n nrem:Nat}(h:bnd N p):Asks N (λr=>bnd N r.2) (kas_tail3 n nrem p):=
 Asks.bind (N:=N) (R:=λ_=>True) (S:=λr:Nat×Array Nat=>bnd N r.2) (f:=λm=>.ret (m,kas_rev p 0 n)) (λ_ _=>VA (p:=p) (q:=kas_rev p 0 n) hN h Xv) (Rk hN (VA hN h Xv) _ _)
theorem Mq{p:Array Nat}{n nrem:Nat}(h:bnd N p):Asks N (λr=>bnd N r.2) (kas_descPart n nrem p):=
 Asks.bind (λr hr=>by
  split
  .exact Mc hN (VA hN hr Xv)
  .exact Mc hN hr) (T5 hN _ _ _ _ h)
theorem Bt{p:Array Nat}{nrem:Nat}(h:bnd N p):Asks N (λr=>bnd N r.2) (kas_count nrem p):=
 Asks.bind (R:=λ_=>True) (λn _=>by
  split
  .exact h
  .split
   .refine⟨h _,h _,λb=>?_⟩
    cases b with
    |true=>(try dsimp only);rw[if_pos AU];exact h
    |false=>(try dsimp only);rw[if_neg (by decide)];exact Mq hN (VA hN h Xv)
   .exact Mq hN h) (Rk hN h _ _)
theorem RA{p:Array Nat}(h:bnd N p)(k:Nat):∀(f l r:Nat),Asks N (λ_=>True) (kas_place p k f l r)
 |0,_,_=>trivial
 |f+1,l,r=>by
  unfold kas_place;split
  .trivial
  .refine⟨h _,h _,λb=>?_⟩
   cases b with
   |true=>(try dsimp only);rw[if_pos AU];exact RA h k f _ _
   |false=>(try dsimp only);rw[if_neg (by decide)];exact RA h k f _ _
theorem Na:∀(f:Nat)(p:Array Nat)(k:Nat),bnd N p->Asks N (λ_=>True) (kas_bin f p k)
 |0,_,_,_=>trivial
 |f+1,p,k,h=>Asks.bind (R:=λ_=>True) (λl _=>Na f _ _ (VA hN h (bubble_perm _ _ _))) (RA hN h k _ _ _)
end
theorem Cm{n:Nat}(hn:0<n):Asks n (λ_=>True) (kas_sort n):=by
 have hb:bnd n (List.toArray (Uc n)):=λi=>by
  rw[Q7];by_cases hi:i<n
  .simp[hi]
  .simp[hi,hn]
 refine Asks.bind (λr hr=>?_) (Bt hn hb);split
 .exact Na hn _ _ _ hr
 .trivial
end
noncomputable def U6(q:Int×Int):Int:=q.1*10000000+q.2
def okP(q:Int×Int):Prop:=-1000000<=q.2/\q.2<=1000000
theorem ED{x y:Int×Int}(hx:okP x)(hy:okP y):U6 x<U6 y ↔ (x.1<y.1∨x.1=y.1/\x.2<y.2):=by
 unfold U6 okP at *
 lia
theorem DK{x y:Int×Int}(hx:okP x)(hy:okP y)(h:U6 x=U6 y):x=y:=by
 unfold U6 okP at *;have h1:x.1=y.1:=by lia
 have h2:x.2=y.2:=by lia
 exact Prod.ext h1 h2
section
variable{prog:J4}{w:World}{A:Around}{E:JZ->J0->Prop}{s:J0}
def TU(h:Heap)(v:JZ)(q:Int×Int):Prop:=∃a t u o n,v=.ref a/\h.get? a=O o/\o.cls=.type "tuple" /\ o.data=.seq #[.int q.1 t,.int q.2 u] n
theorem EC{x y:JZ}{p q:Int×Int}{Q:Bool->J0->Prop}(hx:TU s.heap x p)(hy:TU s.heap y q)(h:Q (decide (p.1<q.1∨p.1=q.1/\p.2<q.2)) s):J9 (model prog w) A (keyLt' (tuples' AW) x y) Q E s:=by
 obtain⟨a,t,u,o,n,rfl,e1,c1,d1⟩:=hx;obtain⟨b,t',u',o',n',rfl,e2,c2,d2⟩:=hy;refine kat_lt e1 d1 e2 d2 ?_;show KatLex prog w A AW _ Q [(Value.int p.1 t,Value.int q.1 t'),(Value.int p.2 u,Value.int q.2 u')] 0 s;refine kat_cons (wpAny_eqBool_int ?_);by_cases h1:p.1=q.1
 .have e:(p.1==q.1)=AW:=by simpa using h1
  rw[e];refine kat_yes (kat_cons (wpAny_eqBool_int ?_));by_cases h2:p.2=q.2
  .have e:(p.2==q.2)=AW:=by simpa using h2
   rw[e];refine kat_yes (kat_nil ?_);have:decide (p.1<q.1∨p.1=q.1/\p.2<q.2)=AX:=QC (by lia);rw[this]at h;exact h
  .have e:(p.2==q.2)=AX:=by simpa using h2
   rw[e];refine kat_no (kat_one _ _ (PyProof.Rows.lt_int ?_))
   have:decide (p.1<q.1∨p.1=q.1/\p.2<q.2)=decide (p.2<q.2):=by
    by_cases z:p.2<q.2
    .rw[Qx z,Qx (.inr ⟨h1,z⟩)]
    .rw[QC z,QC (by lia)]
   rw[this]at h;exact h
 .have e:(p.1==q.1)=AX:=by simpa using h1
  rw[e];refine kat_no (oneLt_int ?_)
  have:decide (p.1<q.1∨p.1=q.1/\p.2<q.2)=decide (p.1<q.1):=by
   by_cases z:p.1<q.1
   .rw[Qx z,Qx (.inl z)]
   .rw[QC z,QC (by lia)]
  rw[this]at h;exact h
noncomputable def ZA(h:Heap):AZ->LP->Prop
 |[],[]=>True
 |v::vs,q::qs=>TU h v q/\ZA h vs qs
 |_,_=>False
theorem ZA.get{h:Heap}:∀{vs:AZ}{qs:LP},ZA h vs qs->vs.length=qs.length/\∀(i:Nat)(hi:i<vs.length),TU h (vs.getD i .none) (qs.getD i (0,0))
 |[],[],_=>⟨rfl,λi hi=>absurd hi (Nat.not_lt_zero _)⟩
 |v::vs,q::qs,⟨h1,h2⟩=>by
  obtain⟨e,f⟩:=ZA.get h2;refine⟨by simp[e],λi hi=>?_⟩;cases i with
  |zero=>exact h1
  |succ i=>exact f i (by simpa using hi)
theorem ZA.tups{h:Heap}:∀{vs:AZ}{qs:LP},ZA h vs qs->∃fs:AZ,KatTups h vs fs/\fs.length=vs.length/\∀v∈fs,∃i t,v=.int i t
 |[],[],_=>⟨[],trivial,rfl,λ_ h=>by cases h⟩
 |v::vs,q::qs,⟨hp,h2⟩=>by
  obtain⟨a,t,u,o,n,rfl,e1,c1,d1⟩:=hp;obtain⟨fs,f1,f2,f3⟩:=ZA.tups h2;refine⟨.int q.1 t::fs,.cons e1 c1 d1 AU f1,by simp[f2],λv hv=>?_⟩;rcases QM.mp hv with rfl|hv
  .exact⟨_,_,rfl⟩
  .exact f3 v hv
theorem ZA.mono{h h':Heap}(k:∀b o,h.get? b=O o->h'.get? b=O o):∀{vs:AZ}{qs:LP},ZA h vs qs->ZA h' vs qs
 |[],[],_=>trivial
 |v::vs,q::qs,⟨hp,h2⟩=>by obtain⟨a,t,u,o,n,rfl,e1,c1,d1⟩:=hp;exact⟨⟨a,t,u,o,n,rfl,k _ _ e1,c1,d1⟩,ZA.mono k h2⟩
def Tx(qs:LP)(π:qa):Prop:=π.Perm (Uc qs.length)/\(π.map λi=>qs.getD i (0,0)).Pairwise λx y=>U6 x<=U6 y
theorem AJ{a:J5}{vs:AZ}{qs:LP}{n:Nat}{P:Fin->J0->Prop}(ho:s.heap.get? a=O (seqObj "list" vs.toArray n))
  (hp:ZA ((s.heap.update a (Obj.mapSeq λ_=>#[]))) vs qs) (hq:∀q∈qs,okP q) (h64:vs.length<64)
  (h:∀π:qa,Tx qs π->P (.done (.ret .none)) {s with heap:=sortedHeap s.heap a vs (List.toArray (π.map λi=>vs.getD i .none))}) :
  J9 (model prog w) A (Builtin.«list.sort» ⟨[.ref a],[]⟩) P E s:=by
 obtain⟨hl,hget⟩:=hp.get;rw[list_sort_plain];have ha:a<s.heap.objs.size:=Qh ho;refine Qb (listItems_at ho AU ?_);refine Qb (listUpdate_at ho AU ?_);obtain⟨e1,ho1⟩:∃e1,(s.heap.update a (Obj.mapSeq λ_=>#[])).get? a=O (seqObj "list" #[] e1):=⟨_,get?_update_seq ho (λ_=>#[])⟩
 refine Qb (seqEpoch_at ho1 AU ?_);refine Qb (wpAny_newTuple ?_);refine Qb (wpAny_newList ?_);refine Jh ?_;have ho6:(((s.heap.update a (Obj.mapSeq λ_=>#[])).push (seqObj "tuple" vs.toArray 0)).push (seqObj "list" #[] 0)).get? a=O (seqObj "list" #[] e1):=by rw[Heap.get?_push_ne _ _ _ (by rw[size_push',Heap.size_update];exact QO (Nat.lt_succ_of_lt ha)),Heap.get?_push_ne _ _ _ (by rw[Heap.size_update];exact QO ha)];exact ho1
 have hp6:ZA (((s.heap.update a (Obj.mapSeq λ_=>#[])).push (seqObj "tuple" vs.toArray 0)).push (seqObj "list" #[] 0)) vs qs:=hp.mono λb o e=>Qe _ (Qe _ e)
 show J9 (model prog w) A _ P E {s with heap:=((s.heap.update a (Obj.mapSeq λ_=>#[])).push (seqObj "tuple" vs.toArray 0)).push (seqObj "list" #[] 0)};dsimp only;have hsz:vs.toArray.size=vs.length:=by simp
 by_cases h2:vs.toArray.size<2
 .rw[Qn h2,Qn h2]
  refine Qb (Qf ?_);rw[StateT.run_pure];refine Qb (Qf ?_);dsimp only;refine Qb (seqEpoch_at ho6 AU ?_);refine Qb (listUpdate_at ho6 AU ?_ (hsz2:=by rw[Array.size_map];show(pairsOf vs).size<=_;rw[pairsOf_size,JB];lia));simp only[bne_self_eq_false,Jl,JU]
  have hid:(arrOf (SortSt.mk' general' (vs.toArray.zip vs.toArray) #[] 7 AV)).map (·.2)=List.toArray ((Uc vs.length).map λi=>vs.getD i .none):=by
   show(vs.toArray.zip vs.toArray).map (·.2)=_
   apply Array.toList_inj.mp;apply List.ext_getElem?;intro i;simp only[Array.toList_map,Array.toList_zip,Qt,List.getElem?_zip_eq_some];by_cases hi:i<vs.length
   .simp[List.getElem?_zip_eq_some,hi,List.getElem?_range]
   .simp[hi]
  rw[hid];refine Qf (h (Uc vs.length) ⟨by rw[hl],?_⟩);rw[List.pairwise_map];rw[hsz]at h2
  rcases(show vs.length=0∨vs.length=1 by lia)with z|z<;>rw[z]
  .exact .nil
  .exact List.pairwise_singleton _ _
 .rw[QD h2,QD h2]
  rw[hsz]at h2;obtain⟨fs,f1,f2,f3⟩:=hp6.tups;refine Qb (kat_kind (T:=.type "int") f1 (by lia) (λv hv=>by obtain⟨i,t,rfl⟩:=f3 v hv;exact(show Looks _ _ (pure (Value.type "int")) _ from .now)) AU ?_)
  refine Qb (Qy (kat_run (ks:=vs) (G:=λp s'=>s' = {s with heap:=((s.heap.update a (Obj.mapSeq λ_=>#[])).push (seqObj "tuple" vs.toArray 0)).push (seqObj "list" #[] 0)}/\p=UO (kl λi=>U6 (qs.getD i (0,0))) (kas_sort vs.length))
   (Q:=λst' s'=>s' = {s with heap:=((s.heap.update a (Obj.mapSeq λ_=>#[])).push (seqObj "tuple" vs.toArray 0)).push (seqObj "list" #[] 0)}/\failedOf st'=AV/\arrOf st'=(UO (kl λi=>U6 (qs.getD i (0,0))) (kas_sort vs.length)).map (kas_item (vs.toArray.zip vs.toArray)))
   rfl (by lia) h64 (λp st' s' a1 a2 a3 a4=>⟨a4.1,a3,by rw[a2,a4.2]⟩) ?_) ?_ λ_ _ e=>e)
  .refine Nb (N:=vs.length) (R:=λ_=>True) (lt:=kl λi=>U6 (qs.getD i (0,0))) (λi j C hi hj hC=>?_) _ _ (Cm (by lia)) ⟨rfl,rfl⟩
   refine EC (ZA.get hp6 |>.2 i hi) (ZA.get hp6 |>.2 j hj) ?_;have oi:okP (qs.getD i (0,0)):=hq _ (by rw[List.getD_eq_getElem?_getD,Qi (by lia)];exact JO _);have oj:okP (qs.getD j (0,0)):=hq _ (by rw[List.getD_eq_getElem?_getD,Qi (by lia)];exact JO _);have e:decide ((qs.getD i (0,0)).1<(qs.getD j (0,0)).1∨(qs.getD i (0,0)).1=(qs.getD j (0,0)).1/\(qs.getD i (0,0)).2<(qs.getD j (0,0)).2)=kl (λi=>U6 (qs.getD i (0,0))) i j:=by unfold kl;exact decide_eq_decide.mpr (ED oi oj).symm
   rw[e];exact hC
  .rintro⟨⟨⟩,st'⟩ s' ⟨rfl,hf,har⟩
   dsimp only;obtain⟨b1,b2,b3⟩:=Cn (key:=λi=>U6 (qs.getD i (0,0))) (n:=vs.length) (by lia);generalize UO (kl λi=>U6 (qs.getD i (0,0))) (kas_sort vs.length)=p at har b1 b2 b3;have hout:=kat_snds (ks:=vs) (vs:=vs) AU har;have hsz2:((arrOf st').map (·.2)).size=vs.length:=by rw[hout,QL,Qd,JP,b2]
   refine Qb (seqEpoch_at ho6 AU ?_);refine Qb (listUpdate_at ho6 AU ?_ (hsz2:=by rw[hsz2,JB];lia));rw[hf];simp only[bne_self_eq_false,Jl,JU];rw[hout];refine Qf (h p.toList ⟨?_,?_⟩)
   .have:=Array.perm_iff_toList_perm.mp b1
    rw[←hl];exact this
   .rw[List.pairwise_map,List.pairwise_iff_getElem]
    intro i j hi hj hij;rw[JP,b2]at hi hj;have:=b3 i j (by lia) hj;unfold KA at this;rw[Q7,Q7,JE (by lia),JE (by lia)]at this;simpa using this
end
section
variable{prog:J4}{w:World}{A:Around}{E:JZ->J0->Prop}{s:J0}
theorem AI{l:J5}{vs:AZ}{qs:LP}{Q:JZ->J0->Prop}(hl:s.heap.IsList l vs.toArray)(hp:ZA s.heap vs qs)(hq:∀q∈qs,okP q)(h64:vs.length<64)
  (h:∀π:qa,Tx qs π->Q (.ref (s.heap.objs.size+1)) {s with heap:=sortedAll s.heap vs (List.toArray (π.map λi=>vs.getD i .none))}) :
  J9 (model prog w) A (call (.builtin "sorted") [.ref l]) Q E s:=by
 refine Calls.call_function_entry kind_sorted plain_sorted entry_sorted (args_sorted1 _) ?_;unfold Builtin.«sorted»;refine Qb (m:=checkCount "sorted" 1 1 _) (Qf ?_);refine Qb (collect_list hl ?_);refine Qb (wpAny_newList ?_);have hsz:((s.heap.push (seqObj "list" #[] 0)).update s.heap.objs.size (Obj.mapSeq (· ++ vs.toArray))).objs.size=s.heap.objs.size+1:=by rw[Heap.size_update,size_push']
 have jx:(((s.heap.push (seqObj "list" #[] 0)).update s.heap.objs.size (Obj.mapSeq (· ++ vs.toArray))).push (seqObj "list" vs.toArray 0)).get? (s.heap.objs.size+1)=O (seqObj "list" vs.toArray 0):=by rw[←hsz];exact QE _ AU
 show J9 _ _ _ _ _ {s with heap:=((s.heap.push (seqObj "list" #[] 0)).update s.heap.objs.size (Obj.mapSeq (· ++ vs.toArray))).push (seqObj "list" vs.toArray 0)};rw[hsz];refine Qb (Jh (wpAny_call_entry slot_list_sort ⟨_,jx,rfl⟩ entry_list_sort (AJ (qs:=qs) jx (hp.mono λb o e=>?_) hq h64 λπ a1=>⟨_,rfl,?_⟩) (args_list_sort _)))
 .have hlt:b<s.heap.objs.size:=Qh e
  dsimp only;have jA:(b:Nat)<s.heap.objs.size:=hlt;rw[Heap.get?_update_ne _ _ _ _ (QO (Nat.lt_succ_of_lt jA)),Heap.get?_push_ne _ _ _ (by rw[hsz];exact QO (Nat.lt_succ_of_lt jA)),Heap.get?_update_ne _ _ _ _ (QO hlt),Heap.get?_push_ne _ _ _ (QO hlt)];exact e
 .exact Qf ⟨_,rfl,h π a1⟩
end
end DL
namespace DL
open PySem PySem.Spec L2
open PyProof.Rows hiding St
section
variable{X:Cx}
theorem O9{pins:List (J5×Obj)}{s:J0}{σ:St}{H:Hp}(I:Inv X pins σ H s):∀{as:A5}{us:AZ}{qs:LP},Vals (as.map V.ref) us->as.length=qs.length->(∀(i:Nat) a q,as[i]?=O a->qs[i]?=O q->SqT X.K H a [.int q.1,.int q.2])->ZA s.heap us qs
 |[],_,[],.nil,_,_=>trivial
 |a::as,_,q::qs,.cons r t,hl,h=>by refine⟨?_,O9 I t (by simpa using hl) λi a q h1 h2=>h (i+1) a q (by simpa using h1) (by simpa using h2)⟩;cases r;obtain⟨its,rv,⟨o,e,c,n,d⟩,_⟩:=I.tuple (h 0 a q AU AU);obtain⟨u,v,rfl,r1,r2⟩:=rv.two;obtain⟨t1,rfl⟩:=r1;obtain⟨t2,rfl⟩:=r2;exact⟨a,t1,t2,o,n,rfl,e,c,by simpa using d⟩
theorem NO{as:A5}{us:AZ}(r:Vals (as.map V.ref) us):∀(π:qa),(∀i∈π,i<as.length)->Vals (π.map λi=>V.ref (as.getD i 0)) (π.map λi=>us.getD i .none)
 |[],_=>.nil
 |i::π,h=>by
  refine .cons ?_ (NO r π λj hj=>h j (Qo _ hj));have hi:=h i Qp;have e:(as.map V.ref)[i]?=O (.ref (as.getD i 0)):=by rw[List.getElem?_map,List.getElem?_eq_getElem hi];simp[List.getD,List.getElem?_eq_getElem hi]
  obtain⟨u,e2,ru⟩:=r.get e;simp only[List.getD,e2,JD];exact ru
theorem Bs:Zx X (.builtin "sorted") (λxs H Q=>∃l,∃as:A5,∃qs:LP,xs=[.ref l]/\SqL X.K H l (as.map V.ref)/\as.length=qs.length/\(∀(i:Nat) a q,as[i]?=O a->qs[i]?=O q->SqT X.K H a [.int q.1,.int q.2])/\(∀q∈qs,okP q)/\qs.length<64 /\
  ∀π p,Tx qs π->H p=AV->Q (.ref p) (upd H p (.lst (π.map λi=>V.ref (as.getD i 0))))):=by
 intro pins s σ H xs us Q I rx h;obtain⟨l,as,qs,rfl,hq,hl,ht,ho,hb,q⟩:=h;obtain⟨u,rfl,ru⟩:=rx.one;cases ru;obtain⟨its,rv,p,hz⟩:=I.list hq;have hn:its.length=qs.length:=by have:=rv.length;rw[Qd]at this;lia
 refine AI (qs:=qs) p.isList (O9 I rv hl ht) ho (by lia) λπ hπ=>?_
 obtain⟨e,he⟩:=sortedAll_at s.heap its (List.toArray (π.map λi=>its.getD i .none))
 have hπl:∀i∈π,i<as.length:=λi hi=>by
  have:=hπ.1.mem_iff.mp hi;rw[Jj]at this
  lia
 refine⟨.ref (s.heap.objs.size+1),_,I.laid (t':=s.toks) (λb o=>sortedAll_old) (Jo _) (show KY X.prog X.w _ _ _ (.lst (π.map λi=>V.ref (as.getD i 0)))from⟨?_,_,e,NO rv π hπl,he⟩),rfl,q π _ hπ (I.hok.fresh (Jo _))⟩;rw[Qd,hπ.1.length_eq,Jg];rw[Qd]at hz
 lia
noncomputable def TR:D->Option (Int×Int)
 |.tuple [.int a,.int b]=>O (a,b)
 |_=>AV
noncomputable def Vz:AY->Option LP
 |[]=>O []
 |d::r=>(TR d).bind λq=>(Vz r).map (q :: ·)
noncomputable def ZF(q:Int×Int):D:=.tuple [.int q.1,.int q.2]
theorem Ck{d:D}{q:Int×Int}(h:TR d=O q):d=ZF q:=by
 unfold TR at h;split at h
 .cases h;rfl
 .cases h
theorem NX:∀{ds:AY}{qs:LP},Vz ds=O qs->ds=qs.map ZF
 |[],qs,h=>by cases h;rfl
 |d::r,qs,h=>by
  unfold Vz at h;cases z:TR d with
  |none=>rw[z]at h;cases h
  |some q=>
   rw[z]at h;cases z2:Vz r with
   |none=>rw[z2]at h;cases h
   |some qs'=>rw[z2]at h;cases h;rw[Ck z,NX z2];rfl
noncomputable def VJ(qs:LP):LP:=qs.mergeSort λx y=>decide (U6 x<=U6 y)
theorem Br(qs:LP):(VJ qs).Perm qs:=List.mergeSort_perm ..
theorem Cj(qs:LP):(VJ qs).Pairwise λx y=>U6 x<=U6 y:=by have:=List.pairwise_mergeSort (le:=λx y:Int×Int=>decide (U6 x<=U6 y)) (by intro a b c;simp;lia) (by intro a b;simp;lia) qs;exact this.imp (by simp)
theorem O8:∀{a b:LP},(∀x∈a,okP x)->a.Perm b->a.Pairwise (λx y=>U6 x<=U6 y)->b.Pairwise (λx y=>U6 x<=U6 y)->a=b
 |[],b,_,p,_,_=>by rw[List.nil_perm.1 p]
 |x::a,[],_,p,_,_=>by have:=p.length_eq;simp at this
 |x::a,y::b,ok,p,ha,hb=>by
  have hx:U6 y<=U6 x:=by
   rcases QM.1 (p.mem_iff.1 (Qp ..))with e|e
   .rw[e];exact JH _
   .exact(Jm.1 hb).1 x e
  have hy:U6 x<=U6 y:=by
   rcases QM.1 (p.mem_iff.2 (Qp ..))with e|e
   .rw[e];exact JH _
   .exact(Jm.1 ha).1 y e
  have oky:okP y:=ok y (p.mem_iff.2 (Qp ..));have e:=DK (ok x (Qp ..)) oky (Int.le_antisymm hy hx);subst e;rw[O8 (λz hz=>ok z (Qo _ hz)) (List.Perm.cons_inv p) (Jm.1 ha).2 (Jm.1 hb).2]
theorem DJ{qs:LP}{π:qa}(ok:∀q∈qs,okP q)(h:Tx qs π):(π.map λi=>qs.getD i (0,0))=VJ qs:=by
 have hp:(π.map λi=>qs.getD i (0,0)).Perm qs:=by
  have h1:=h.1.map λi=>qs.getD i (0,0)
  have e:(Uc qs.length).map (λi=>qs.getD i (0,0))=qs:=by
   apply List.ext_getElem?;intro i;rw[Qt];by_cases hi:i<qs.length
   .rw[List.getElem?_range hi,List.getElem?_eq_getElem hi];simp[List.getD,List.getElem?_eq_getElem hi]
   .rw[Jw (by rw[Jg];lia),Jw (by lia)];rfl
  rw[e]at h1;exact h1
 exact O8 (λx hx=>ok x (hp.mem_iff.mp hx)) (hp.trans (Br qs).symm) h.2 (Cj qs)
noncomputable def okPB(q:Int×Int):Bool:=decide (-1000000<=q.2/\q.2<=1000000)
noncomputable def TQ:AY->A4
 |[.list ds]=>(match Vz ds with
  |some qs=>if qs.length<64/\qs.all okPB=AW then O (.list ((VJ qs).map ZF))else AV
  |none=>AV)
 |_=>AV
theorem Bq{xs:AY}{d:D}(h:TQ xs=O d):∃qs:LP,xs=[.list (qs.map ZF)]/\qs.length<64/\(∀q∈qs,okP q)/\d=.list ((VJ qs).map ZF):=by
 unfold TQ at h;split at h
 .rename_i ds
  cases z:Vz ds with
  |none=>rw[z]at h;cases h
  |some qs=>
   rw[z]at h;dsimp only at h;split at h
   .rename_i c
    cases h;exact⟨qs,by rw[NX z],c.1,λq hq=>(show -1000000<=q.2/\q.2<=1000000 from Qa (QR.mp c.2 q hq)),rfl⟩
   .cases h
 .cases h
theorem NN{K:Frag}{G:Hp}:∀{vs:List V}{qs:LP},Reps K G vs (qs.map ZF)->∃as:A5,vs=as.map V.ref/\as.length=qs.length/\∀(i:Nat) a q,as[i]?=O a->qs[i]?=O q->SqT K G a [.int q.1,.int q.2]
 |_,[],.nil=>⟨[],rfl,rfl,λi a q h=>by simp at h⟩
 |_,q::qs,.cons r t=>by
  obtain⟨as,rfl,hl,h⟩:=NN t;obtain⟨a,ws,rfl,h1,r1⟩:=r.tup_inv;cases r1 with
  |cons ra rb=>
   obtain⟨v,rfl,rb'⟩:=rb.one_inv;refine⟨a::as,rfl,by simp[hl],λi a' q' e1 e2=>?_⟩;cases i with
   |zero=>cases e1;cases e2;rw[ra.int_inv,rb'.int_inv]at h1;exact h1
   |succ i=>exact h i a' q' (by simpa using e1) (by simpa using e2)
theorem DI{K:Frag}{G:Hp}{a:J5}{q:Int×Int}(h:SqT K G a [.int q.1,.int q.2]):Rep K G (.ref a) (ZF q):=.tup h (.cons (.int _) (.cons (.int _) .nil))
theorem NM{K:Frag}{G:Hp}{as:A5}{qs:LP}(hl:as.length=qs.length)(h:∀(i:Nat) a q,as[i]?=O a->qs[i]?=O q->SqT K G a [.int q.1,.int q.2]):∀π:qa,(∀i∈π,i<qs.length)->Reps K G (π.map λi=>V.ref (as.getD i 0)) ((π.map λi=>qs.getD i (0,0)).map ZF)
 |[],_=>.nil
 |i::π,hb=>by
  refine .cons ?_ (NM hl h π λj hj=>hb j (Qo _ hj));have hi:=hb i Qp;refine DI (h i _ _ ?_ ?_)
  .rw[List.getElem?_eq_getElem (by lia)];simp[List.getD,List.getElem?_eq_getElem (show i<as.length by lia)]
  .rw[List.getElem?_eq_getElem hi];simp[List.getD,List.getElem?_eq_getElem hi]
theorem EB:ZI X (.builtin "sorted") TQ:=by refine⟨_,Bs,λvs G H ds d Q s r e k=>?_⟩;obtain⟨qs,rfl,h64,ok,rfl⟩:=Bq e;obtain⟨v,rfl,q1⟩:=r.one_inv;obtain⟨l,ws,rfl,h1,r1⟩:=q1.lst_inv;obtain⟨as,rfl,hl,ht⟩:=NN r1;refine⟨l,as,qs,rfl,s.seq h1,hl,λi a q e1 e2=>ZJ s (ht i a q e1 e2),ok,h64,λπ p hπ hp=>?_⟩;have hb:∀i∈π,i<qs.length:=λi hi=>Jj.mp (hπ.1.mem_iff.mp hi);have rr:=(NM hl ht π hb).mono (KT (s.free hp):Same G (upd G p (.lst (π.map λi=>V.ref (as.getD i 0)))));rw[DJ ok hπ]at rr;exact k _ _ _ (Ext.new s hp) (.lst (SqL.of U8) rr)
theorem ZI.or{f:JZ}{p q:AY->A4}(h1:ZI X f p)(h2:ZI X f q):ZI X f (λxs=>(p xs).orElse λ_=>q xs):=by
 obtain⟨r1,c1,k1⟩:=h1;obtain⟨r2,c2,k2⟩:=h2;refine⟨λxs H Q=>r1 xs H Q∨r2 xs H Q,λpins s σ H xs us Q I rx h=>?_,λvs G H ds d Q s r e k=>?_⟩
 .rcases h with h|h
  .exact c1 pins s σ H xs us Q I rx h
  .exact c2 pins s σ H xs us Q I rx h
 .dsimp only at e
  cases z:p ds with
  |some d'=>rw[z]at e;cases e;exact .inl (k1 vs G H ds _ Q s r z k)
  |none=>rw[z]at e;exact .inr (k2 vs G H ds _ Q s r e k)
noncomputable def Tw(xs:AY):A4:=(Vs xs).orElse λ_=>TQ xs
theorem LG:ZI X (.builtin "sorted") Tw:=F7.or EB
theorem Bp{ns:A0}(h:ns.length<64):Tw [.list (ns.map .int)]=O (.list ((ZZ ns).map .int)):=by unfold Tw;rw[Bk h];rfl
end
section
variable{X:Cx}
theorem Bo:bootBuiltins "repr" = O (.builtin "repr"):=by decide +kernel
end
noncomputable def V2(ρ:Ut)(j:Nat):A4:=match ρ[j]? with
 |some (O (.pub d))=>O d
 |some (O (.own ds))=>O (.list ds)
 |some (O (.deep _ d))=>O d
 |_=>AV
theorem EOk.tree{K:Frag}{B G0 G H:Hp}{σ:St}{ρ:Ut}{j:Nat}{d:D}(k:EOk K B G0 G H σ ρ)(h:V2 ρ j=O d):∃v,σ[j]?=O (O v)/\Rep K H v d:=by
 unfold V2 at h;split at h
 .rename_i d' e
  cases h;obtain⟨v,h1,h2⟩:=k.pub j _ e;exact⟨v,h1,h2.mono k.gh⟩
 .rename_i ds e
  cases h;obtain⟨a,vs,h1,h2,h3,h4,h5⟩:=k.own j ds e;exact⟨.ref a,h1,.lst (SqL.of h4) (h5.mono k.gh)⟩
 .rename_i p d' e
  cases h;obtain⟨ω,k1,k2⟩:=k.dp;obtain⟨v,fp,s,r,_⟩:=k1 j p _ e;exact⟨v,s,r.rep k.gh⟩
 .cases h
end DL
namespace HT
open PySem PyProof.Rows
end HT
namespace DL
open PySem PySem.Spec L2
open PyProof.Rows hiding St
end DL
namespace DL
open PySem
theorem lz0{P:AZ->Prop}{us:AZ}(hl:us.length=0)(h:P []):P us:=by
 cases us with
 |nil=>exact h
 |cons a r=>cases hl
theorem lzS{P:AZ->Prop}{us:AZ}{n:Nat}(hl:us.length=n+1)(h:∀a r,r.length=n->P (a::r)):P us:=by
 cases us with
 |nil=>cases hl
 |cons a r=>exact h a r (Nat.succ.inj hl)
theorem lz1{P:AZ->Prop}{us:AZ}(hl:us.length=1)(h:∀a,P [a]):P us:=lzS hl λa r e=>lz0 (P:=λr=>P (a::r)) e (h a)
theorem lz2{P:AZ->Prop}{us:AZ}(hl:us.length=2)(h:∀a b,P [a,b]):P us:=lzS hl λa r e=>lz1 (P:=λr=>P (a::r)) e (h a)
theorem lz3{P:AZ->Prop}{us:AZ}(hl:us.length=3)(h:∀a b c,P [a,b,c]):P us:=lzS hl λa r e=>lz2 (P:=λr=>P (a::r)) e (h a)
theorem lz4{P:AZ->Prop}{us:AZ}(hl:us.length=4)(h:∀a b c d,P [a,b,c,d]):P us:=lzS hl λa r e=>lz3 (P:=λr=>P (a::r)) e (h a)
theorem lz5{P:AZ->Prop}{us:AZ}(hl:us.length=5)(h:∀a b c d e,P [a,b,c,d,e]):P us:=lzS hl λa r e=>lz4 (P:=λr=>P (a::r)) e (h a)
theorem bz1{fd:J6}{ps:List Str}{us:AZ}(hl:us.length=1)(h:∀a,bindArgs fd {pos:=[a]}=pure (ps.zip [a])):bindArgs fd {pos:=us}=pure (ps.zip us):=lz1 (P:=λus=>bindArgs fd {pos:=us}=pure (ps.zip us)) hl h
theorem bz2{fd:J6}{ps:List Str}{us:AZ}(hl:us.length=2)(h:∀a b,bindArgs fd {pos:=[a,b]}=pure (ps.zip [a,b])):bindArgs fd {pos:=us}=pure (ps.zip us):=lz2 (P:=λus=>bindArgs fd {pos:=us}=pure (ps.zip us)) hl h
theorem bz3{fd:J6}{ps:List Str}{us:AZ}(hl:us.length=3)(h:∀a b c,bindArgs fd {pos:=[a,b,c]}=pure (ps.zip [a,b,c])):bindArgs fd {pos:=us}=pure (ps.zip us):=lz3 (P:=λus=>bindArgs fd {pos:=us}=pure (ps.zip us)) hl h
theorem bz5{fd:J6}{ps:List Str}{us:AZ}(hl:us.length=5)(h:∀a b c d e,bindArgs fd {pos:=[a,b,c,d,e]}=pure (ps.zip [a,b,c,d,e])):bindArgs fd {pos:=us}=pure (ps.zip us):=lz5 (P:=λus=>bindArgs fd {pos:=us}=pure (ps.zip us)) hl h
end DL
namespace DL
open PySem PySem.Spec L2
open PyProof.Rows hiding St
noncomputable def whole(h:Heap):Frag:=(Uc h.objs.size).filterMap λa=>(h.get? a).map λo=>(a,o)
theorem NL{g:J5->Option Obj}{x:J5}:∀l:A5,(l.filterMap λa=>(g a).map λo=>(a,o)).lookup x=if x∈l then g x else AV
 |[]=>rfl
 |y::l=>by
  have ih:=NL (g:=g) (x:=x) l;by_cases e:x=y
  .subst e
   rw[Qn Qp];cases z:g x with
   |none=>rw[List.filterMap_cons_none (by rw[z];rfl),ih,z];split<;>rfl
   |some o=>rw[List.filterMap_cons_some (by rw[z];rfl),QQ,beq_self_eq_true]
  .have m:(x∈y::l)=(x∈l):=by simp[List.mem_cons,e]
   have b:(x==y)=AX:=by simpa using e
   have ih':(if x∈y::l then g x else AV)=_:=(by simp only[m];exact ih.symm)
   rw[ih'];cases z:g y with
   |none=>rw[List.filterMap_cons_none (by rw[z];rfl)]
   |some o=>rw[List.filterMap_cons_some (by rw[z];rfl),QQ,b]
theorem Zm{h:Heap}{a:J5}:(whole h).lookup a=h.get? a:=by
 unfold whole;rw[NL];split
 .rfl
 .rename_i n
  cases z:h.get? a with
  |none=>rfl
  |some o=>exact absurd (Jj.mpr (Qh z)) n
theorem DH(h:Heap):(whole h).In h:=λa o e=>by rw[Zm]at e;exact e
noncomputable def MN(st:Stmt):Option DefRec:=match st with
 |.FunctionDef name a b _ _ _ sc _ _ pos=>O ⟨name,a,b,sc,pos⟩
 |_=>AV
noncomputable def V1(st:Stmt):Option Str:=match st with
 |.FunctionDef name _ _ _ _ _ _ _ _ _=>O name
 |_=>AV
noncomputable def MM(st:Stmt):Pos:=match st with
 |.FunctionDef _ _ _ _ _ _ _ _ _ pos=>pos
 |_=>⟨0,0,0,0⟩
noncomputable abbrev UT(p:J4)(i:Nat):Stmt:=p.main.body.getD i (.Pass ⟨0,0,0,0⟩)
noncomputable def WE(p:J4)(ix:qa):List DefRec:=ix.filterMap λi=>MN (UT p i)
section
variable{p q:J4}{loose:List Str}{mean:ExcName->A1}{mg mb:Str->A1}{h:Heap}{w:World}
theorem TN{ix:qa}(T:Top q loose mean mg mb h)(e:recsOf q=WE p ix)(i:Nat)(x:Str)(hi:ix.contains i=AW)(hn:V1 (UT p i)=O x):∃f fd,mg x=O (.ref f)/\Fun (whole h) x x (UT p i) f fd:=by
 cases hs:UT p i with
 |FunctionDef name a b _ _ _ sc _ _ pos=>
  rw[hs]at hn;cases hn;have hd:(⟨x,a,b,sc,pos⟩:DefRec)∈recsOf q:=by rw[e];exact List.mem_filterMap.mpr ⟨i,by simpa using hi,by rw[hs];rfl⟩
  obtain⟨f,⟨oc,od,dt,osl⟩,pm,cd,doc,h1,h2,h3,h4⟩:=T.fn _ hd;have h3:dt=_:=h3;subst h3;refine⟨f,_,h1,⟨⟨oc,od,.none,doc,pm,_,cd,_,osl,rfl,by rw[Zm];exact h2,?_⟩,?_⟩⟩
  .obtain⟨c,⟨_,_,dc,_⟩,vs,t,rfl,g1,g2,g3⟩:=h4
   have g2:dc=_:=g2;subst g2;unfold PySem.W.codeIn;dsimp only;rw[Zm,g1];dsimp only;have g4:vs.toList[1]?=O (.str x t):=by rw[Array.getElem?_toList];exact g3
   cases hv:vs.toList with
   |nil=>rw[hv]at g4;cases g4
   |cons v0 r=>
    rw[hv]at g4;cases r with
    |nil=>cases g4
    |cons v1 r=>cases g4;exact beq_self_eq_true _
  .unfold PySem.W.keepIn
   dsimp only;rw[Zm,h2]
 |_=>rw[hs]at hn;cases hn
theorem Ci{K:Frag}{x qual y:Str}{st:Stmt}{f:J5}{fd:J6}(F:Fun K x qual st f fd)
  (hb:∀(kV doc pm:JZ)(an:A8)(cdv ct v:JZ),bindArgs (PySem.W.fnOf x qual (YI st) (K9 st) (Ki st) .none kV doc pm an cdv ct) ⟨[v],[]⟩=pure [(y,v)]) (s:J0) (v:JZ):BindsTo s fd ⟨[v],[]⟩ [(y,v)]:=by
 obtain⟨oc,od,kV,doc,pm,an,cdv,ct,osl,rfl,lk,hcd⟩:=F.ex;exact .of_eq (hb kV doc pm an cdv ct v)
noncomputable def Tv(q:J4)(loose:List Str)(x:Str):Bool:=
 !startupNames.contains x && !loose.contains x && !((recsOf q).map (·.name)).contains x && !((litsOf q).map (·.1)).contains x && !((clssOf q loose).map (·.name)).contains x
theorem Zz(T:Top q loose mean mg mb h){xs:List Str}(e:xs.all (Tv q loose)=AW){x:Str}(hx:x∈xs):mg x=AV:=by have:=QR.mp e x hx;unfold Tv at this;simp only[Qm,Bool.not_eq_true',List.contains_eq_mem,decide_eq_false_iff_not]at this;exact T.free x this.1.1.1.1 this.1.1.1.2 this.1.1.2 this.1.2 this.2
theorem T4(T:Top q loose mean mg mb h){x:Str}{i:Int}(e:valOf q x=O (.int i)):∃t,mg x=O (.int i t):=by obtain⟨v,h1,h2⟩:=T.const x _ e;have:=h2 h;cases this;exact⟨_,h1⟩
end
noncomputable def scOk(sc:Scope)(N gl:List Str):Bool:=(N.all λx=>match sc.names.lookup x with|some .local=>AW|some .cell=>AW|_=>AX)&&gl.all λx=>match sc.names.lookup x with|some .globalImplicit=>AW|_=>AX
noncomputable def fnB(sc:Scope)(N gl:List Str):Bool:=decide (sc.kind=.function) && !sc.isCoroutine && !sc.isGenerator&&decide N.Nodup&&(sc.names.all λy=>match y.2 with | .free=>AX|_=>AW)&&scOk sc N gl
structure FnNm(sc:Scope)(N gl:List Str):Prop where
 kind:sc.kind=.function
 co:sc.isCoroutine=AX
 gen:sc.isGenerator=AX
 nd:N.Nodup
 nofree:∀y∈sc.names,y.2≠.free
 nm:∀x∈N,sc.names.lookup x=O .local∨sc.names.lookup x=O .cell
 gl:∀x∈gl,sc.names.lookup x=O .globalImplicit
theorem Kr{sc:Scope}{N gl:List Str}(H:fnB sc N gl=AW):FnNm sc N gl:=by
 unfold fnB scOk at H;simp only[Qm,Q3,Bool.not_eq_true',QR]at H;obtain⟨⟨⟨⟨⟨h1,h2⟩,h3⟩,h4⟩,h5⟩,h6,h7⟩:=H;refine⟨h1,h2,h3,h4,λy hy e=>?_,λx hx=>?_,λx hx=>?_⟩
 .have:=h5 y hy;rw[e]at this;cases this
 .have:=h6 x hx
  split at this
  .rename_i e;exact .inl e
  .rename_i e;exact .inr e
  .cases this
 .have:=h7 x hx
  split at this
  .rename_i e;exact e
  .cases this
section
variable{sc:Scope}{N gl:List Str}{x:Str}
theorem nq(H:FnNm sc N gl):N.Nodup:=H.nd
theorem fq(H:FnNm sc N gl)(n:Nat):Xr N (N.take n) sc:=⟨H.kind,H.co,H.gen,H.nd,by rw[JJ,List.take_eq_take_iff];lia,λx hx=>H.nm x (List.mem_of_mem_take hx),H.nofree⟩
theorem lq(H:FnNm sc N gl)(i:Nat)(h:N[i]?=O x:=by rfl):L2.Loc sc x:=H.nm x (QZ h)
theorem gq(H:FnNm sc N gl)(i:Nat)(h:gl[i]?=O x:=by rfl):sc.names.lookup x=O .globalImplicit:=H.gl x (QZ h)
theorem pq{X:Cx}{pos:Pos}(H:FnNm X.env.scope X.N gl)(i:Nat)(h:X.N[i]?=O x:=by rfl)(hd:(x==("__debug__" : Str))=AX:=by decide)(hc:(x==("__classdict__" : Str))=AX:=by decide):PE X (.Name x pos) (Kc i):=
 PL h ((H.nm x (QZ h)).elim .inl λz=>.inr (.inl z)) hd hc
end
theorem KR{q p:J4}{loose:List Str}{mean:ExcName->A1}{mg mb:Str->A1}{h:Heap}{ix:qa}(P:J4)(w:World)(base:Heap){ps:List Str}{k n:Nat}{F:AY->A4}(T:Top q loose mean mg mb h)(e:recsOf q=WE p ix)(i:Nat)(x:Str)(hi:ix.contains i=AW)(hn:V1 (UT p i)=O x)
  (ok:∀{f:J5}{fd:J6},Fun (whole h) x x (UT p i) f fd->FnOk P w (whole h) mg base CX0 k f fd ps (spD (whole h) n F))
  (hb:∀(kV doc pm:JZ)(an:A8)(cdv ct:JZ)(us:AZ),us.length=ps.length->bindArgs (PySem.W.fnOf x x (YI (UT p i)) (K9 (UT p i)) (Ki (UT p i)) .none kV doc pm an cdv ct) ⟨us,[]⟩=pure (ps.zip us)):Def P w (whole h) mg base x k n F:=by
 obtain⟨f,fd,m,FU⟩:=TN T e i x hi hn;exact Def.mk m FU (FU.binds hb) (ok FU)
section
variable{X:Cx}{B G0:Hp}{e:J7}{pos:Pos}{es:A3}
theorem pdf{k kk n:Nat}{F:AY->A4}{g:M AY}{x:Str}{p2:Pos}(d:Def X.prog X.w X.K X.mg X.base x k n F)(hr:Room kk X.A)(hg:Gl X x)(ha:PA X (e::es) (tDs X.K B G0 g))(hk:k<=kk:=by decide)(hn:(e::es).length=n:=by rfl)
  (hdb:(x==("__debug__" : Str))=AX:=by decide) (he:Ua (e::es) X.env=(AX,eval e X.env)::Ua es X.env:=by rfl) (hpl:(backTo pos (Ua es X.env)).any (·.1)=AX:=by rfl) :
  PE X (.Call (.Name x p2) (e::es) [] pos) (tD X.K B G0 (UK n F g)):=Eg d (hr.mono hk) hg ha hn hdb he hpl
end
theorem ML{q p:J4}{loose:List Str}{mean:ExcName->A1}{mg mb:Str->A1}{h:Heap}{ix:qa}{P:J4}{w:World}{k:Nat}{F:AY->A4}{y:Str}{fa:J5}(T:Top q loose mean mg mb h)(e:recsOf q=WE p ix)(i:Nat)(x:Str)(hi:ix.contains i=AW)(hn:V1 (UT p i)=O x)(hfa:mg x=O (.ref fa))
  (hb:∀(kV doc pm:JZ)(an:A8)(cdv ct v:JZ),bindArgs (PySem.W.fnOf x x (YI (UT p i)) (K9 (UT p i)) (Ki (UT p i)) .none kV doc pm an cdv ct) ⟨[v],[]⟩=pure [(y,v)])
  (ok:∀(base:Heap){f:J5}{fd:J6},Fun (whole h) x x (UT p i) f fd->FnOk P w (whole h) mg base CX0 k f fd [y] (spD (whole h) 1 F)) :
  ∃fd:J6,(∀(s:J0)(v:JZ),BindsTo s fd ⟨[v],[]⟩ [(y,v)])/\∀base:Heap,FnOk P w (whole h) mg base CX0 k fa fd [y] (spD (whole h) 1 F):=by
 obtain⟨f,fd,m,FU⟩:=TN T e i x hi hn;cases hfa.symm.trans m;exact⟨fd,Ci FU hb,λbase=>ok base FU⟩
noncomputable def Xh:D->Bool
 |.str x=>decide (x.length<=1000)
 |.int i=>decide (0<=i)&&decide (i<10 ^ 10)
 |.none=>AW
 |_=>AX
noncomputable def Xg(nm:Str)(ds:AY):Option AY:=match K2 nm with
 |[]=>(match ds with | [.str _]=>O [] | _=>AV)
 |f::fs=>if ds.length=(f::fs).length/\ds.all Xh=AW then O ds else AV
noncomputable abbrev exD(nm:Str)(ds:AY):D:=.dict [(.none,.tuple [.str nm,.list ds])]
section
variable{K:Frag}{G H H':Hp}{nm:Str}{C a:J5}{bm:AZ}{vs:List V}{ds fs:AY}{dd:A8}
theorem LF{v:V}{d:D}(r:Rep K G v d)(h:Xh d=AW):∃y,FmtV v y/\y.length<=4000:=by
 cases r with
 |non=>exact⟨_,.non,by decide⟩
 |bl b=>cases h
 |int i=>
  unfold Xh at h;simp only[Qm,Q3]at h;have h64:i.natAbs<2 ^ 64:=by have:=h.2;have:=h.1;lia
  refine⟨_,.int i ?_,Qv (toString_length_le h.1 (by decide:0<10) h.2) (by decide)⟩;by_cases z:i.natAbs=0
  .rw[z];decide
  .have:=(Nat.log2_lt z).mpr h64
   lia
 |str x=>unfold Xh at h;have h:=Qa h;exact⟨x,.str x (Qv h (by decide)),Qv h (by decide)⟩
 |lst _ _=>cases h
 |tup _ _=>cases h
 |dic _=>cases h
 |exc _ _ _ _=>cases h
 |dct _ _ _ _ _=>cases h
 |dtt _ _ _ _=>cases h
theorem PX:∀{vs:List V}{ds:AY},Reps K G vs ds->ds.all Xh=AW->∀u∈vs,∃y,FmtV u y/\y.length<=4000
 |_,_,.nil,_,u,hu=>by cases hu
 |_,_,.cons r t,h,u,hu=>by
  rw[JQ,Qm]at h;rcases QM.mp hu with rfl|hu
  .exact LF r h.1
  .exact PX t h.2 u hu
theorem DG(r:Reps K G vs ds)(e:Xg nm ds=O fs):Pe nm vs:=by
 unfold Xg at e;split at e
 .rename_i hf
  split at e
  .obtain⟨v,rfl,q⟩:=r.one_inv
   exact .inl ⟨hf,_,by rw[q.str_inv]⟩
  .cases e
 .rename_i f l hf
  split at e
  .rename_i c
   refine .inr ⟨by rw[hf];simp,by rw[r.length,hf];exact c.1,PX r c.2⟩
  .cases e
theorem EA(c:ClsK K nm C bm)(s:Same G H)(ha:H a=AV)(r:Reps K G vs ds)(e:Xg nm ds=O fs)(p:Pd nm C a vs (upd H a (.ext (XO AW a C AV))) dd H') :
  ∃G',Ext G H G' (upd H' a (.ext (XO AX a C dd)))/\Rep K G' (.ref a) (exD nm fs)/\H' a=O (.ext (XO AW a C dd)):=by
 unfold Xg at e;rcases p with ⟨hf,rfl,rfl⟩|⟨hf,hl,dx,rfl,hd,hne,rfl⟩
 .rw[hf]at e
  dsimp only at e;split at e
  .cases e
   refine⟨upd G a (.ext (XO AX a C AV)),?_,.exc (vs:=[]) c U8 ⟨hf,rfl⟩ .nil,U8⟩;rw[Oy];exact Ext.new s ha
  .cases e
 .split at e
  .rename_i hf';exact absurd hf' hf
  .rename_i f l hf'
   split at e
   .cases e
    have hd':H dx=AV:=by rw[UZ hne]at hd;exact hd
    have eH:upd (upd (upd (upd H a (.ext (XO AW a C AV))) a (.ext (XO AW a C (O dx)))) dx (.ext (XD dx ((K2 nm).zip vs)))) a (.ext (XO AX a C (O dx)))=upd (upd H a (.ext (XO AX a C (O dx)))) dx (.ext (XD dx ((K2 nm).zip vs))):=by
     funext b;by_cases h1:b=a
     .subst h1;rw[U8,UZ (Ne.symm hne),U8]
     .rw[UZ h1]
      by_cases h2:b=dx
      .subst h2;rw[U8,U8]
      .rw[UZ h2,UZ h1,UZ h1,UZ h2,UZ h1]
    have x1:Ext G H (upd G a (.ext (XO AX a C (O dx)))) (upd H a (.ext (XO AX a C (O dx)))):=Ext.new s ha;have hd2:upd H a (.ext (XO AX a C (O dx))) dx=AV:=by rw[UZ hne];exact hd'
    have x2:=x1.trans (Ext.new (o:=.ext (XD dx ((K2 nm).zip vs))) x1.gh hd2);exact⟨_,by rw[eH];exact x2,.exc (dd:=O dx) (vs:=vs) c (by rw[UZ (Ne.symm hne)];exact U8) ⟨hl.symm,U8⟩ (r.mono x2.g),by rw[UZ (Ne.symm hne)];exact U8⟩
   .cases e
end
noncomputable def Xb(nm:Str)(g:M AY):SM:=sB g λds ρ=>match Xg nm ds with|some fs=>.ex ρ (exD nm fs)|none=>.bad
section
variable{X:Cx}{B G0:Hp}{KX:XW}{e a b c:J7}{pos p2 cpos:Pos}{es:A3}{st:Stmt}{sts:List Stmt}{nm x:Str}{k kk n:Nat}
theorem DF{c:Bool}{g:M AY}(mk:MkX X.prog X.w X.K X.mg X.base nm k)(hr:Room kk X.A)(hc:X.calm=AW)(hw:ZL c X KX)(hg:Gl X nm)(ha:PA X (e::es) (tDs X.K B G0 g))(hk:k+1<=kk:=by decide)
  (hdb:(nm==("__debug__" : Str))=AX:=by decide) (he:Ua (e::es) X.env=(AX,eval e X.env)::Ua es X.env:=by rfl) (hpl:(backTo cpos (Ua es X.env)).any (·.1)=AX:=by rfl) :
  PS X (.Raise (O (.Call (.Name nm p2) (e::es) [] cpos)) AV pos) (tS X.K B G0 KX (Xb nm g)):=PS.kin λkin=>by
 obtain⟨C,bm,f,fd,ps,sp,hm,hkp,ck,xc,F,hb,qB⟩:=mk;refine Kt (Dt (KC:=λC'=>C'=C) hc (λC' z=>by subst z;exact⟨bm,f,xc _ _ kin⟩) hw (Du (xc _ _ kin) F (hr.mono hk) hg hm hkp hb ha hdb he hpl)) λDn σ H q=>?_
 refine tS.bnd (R:=Reps X.K) q λvs H1 G1 ρ1 ds k1 r a=>?_
 cases z:Xg nm ds with
 |none=>rw[z]at a;exact a.elim
 |some fs=>
  rw[z]at a;have ar:=DG r z;refine⟨?_,λad had=>qB ad vs _ _ U8 ar λdd H' p=>⟨rfl,?_⟩⟩
  .rcases ar with ⟨_,x,rfl⟩|⟨_,hl,_⟩
   .exact(show 1<=J8 by decide)
   .rw[hl]
    unfold K2;split
    .decide
    .split
     .decide
     .split<;>decide
  .obtain⟨G',ex,rp,hx⟩:=EA ck k1.gh had r z p
   exact⟨ad,C,dd,rfl,rfl,hx,a (.ref ad) σ G' _ (k1.ext ex) ex.g rp⟩
inductive XR where
 |val (d:D)|exc (d:D)
noncomputable def spX(K:Frag)(n:Nat)(F:AY->Option XR):Sp:=λvs H Q E=>∃G ds r,vs.length=n/\Same G H/\Reps K G vs ds/\F ds=O r/\match r with
 |.val d=>∀v G' H',Ext G H G' H'->Rep K G' v d->Q v H'
 |.exc d=>∀ad G' H',Ext G H G' H'->Rep K G' (.ref ad) d->E (.ref ad) AV H'
def VI(c:Bool)(P:J4)(w:World)(K:Frag)(mg:Str->A1)(base:Heap)(x:Str)(k n:Nat)(F:AY->Option XR):Prop:=
 ∃(f:J5)(fd:J6)(ps:List Str),mg x=O (.ref f)/\PySem.W.keepIn K (.ref f)=AW/\Zi K fd ps []/\FnOk P w K mg base (K8 c P w) k f fd ps (spX K n F)
abbrev Wd:=VI AW
def aftX(K:Frag)(B G0:Hp)(KX:XW)(r:Res XR)(G:Hp)(σ:St)(Q:VK):Prop:=match r with
 |.ok (.val d) ρ=>∀v G' H',EOk K B G0 G' H' σ ρ->Same G G'->Rep K G' v d->Q v H'
 |.ok (.exc d) ρ=>∀v G' H',EOk K B G0 G' H' σ ρ->Same G G'->Rep K G' v d->KX v σ H'
 |.bad=>False
noncomputable def tX(K:Frag)(B G0:Hp)(KX:XW)(f:M XR):TE:=λσ H Q=>∃G ρ,EOk K B G0 G H σ ρ/\aftX K B G0 KX (f ρ) G σ Q
noncomputable def YK(n:Nat)(F:AY->Option XR)(g:M AY):M XR:=UH g λxs=>if xs.length=n then UG (F xs)else λ_=>.bad
theorem DE{c c1:Bool}{F:AY->Option XR}{g:M AY}(d:VI c1 X.prog X.w X.K X.mg X.base x k n F)(hr:Room kk X.A)(hw:ZL c X KX)(hg:Gl X x)(ha:PA X (e::es) (tDs X.K B G0 g))(hk:k<=kk:=by decide)(hn:(e::es).length=n:=by rfl)(hcc:c=AW->c1=AW:=by decide)
  (hdb:(x==("__debug__" : Str))=AX:=by decide) (he:Ua (e::es) X.env=(AX,eval e X.env)::Ua es X.env:=by rfl) (hpl:(backTo pos (Ua es X.env)).any (·.1)=AX:=by rfl) :
  PE X (.Call (.Name x p2) (e::es) [] pos) (tX X.K B G0 KX (YK n F g)):=by
 obtain⟨f,fd,ps,h1,h2,h3,h4⟩:=d;refine UV (Dr h4 (hr.mono hk) hg h1 h2 h3 hw ha hcc hdb he hpl) λσ H Q ⟨G,ρ,k0,a⟩=>?_
 refine⟨G,ρ,k0,?_⟩;unfold YK UH at a;cases z:g ρ with
 |bad=>rw[z]at a;exact a.elim
 |ok xs ρ1=>
  rw[z]at a;dsimp only at a;intro vs G1 H1 k1 s1 r;by_cases hl:xs.length=n
  .rw[Qn hl]at a
   cases zF:F xs with
   |none=>rw[zF]at a;exact a.elim
   |some rr=>
    rw[zF]at a;refine⟨G1,xs,rr,by rw[r.length];exact hl,k1.gh,r,zF,?_⟩;cases rr with
    |val d=>exact λv G' H' ex rv=>a v G' H' (k1.ext ex) (s1.trans ex.g) rv
    |exc d=>intro ad' G' H' ex rv ad ev;cases ev;exact a _ G' H' (k1.ext ex) (s1.trans ex.g) rv
  .rw[QD hl]at a;exact a.elim
noncomputable def sX(f:M XR)(g:D->SM):SM:=λρ=>match f ρ with
 |.ok (.val d) ρ'=>g d ρ'
 |.ok (.exc d) ρ'=>.ex ρ' d
 |.bad=>.bad
theorem tS.bndX{K:Frag}{f:M XR}{g:D->SM}{Dn:Ends}{σ:St}{H:Hp}{P:V->Hp->Prop}(q:tS K B G0 KX (sX f g) Dn σ H)
  (i:∀v H' G' ρ' x,EOk K B G0 G' H' σ ρ'->Rep K G' v x->aftS K B G0 KX (g x ρ') G' Dn->P v H'):tX K B G0 KX f σ H P:=by
 obtain⟨G,ρ,k,a⟩:=q;refine⟨G,ρ,k,?_⟩;unfold sX at a;cases z:f ρ with
 |bad=>rw[z]at a;exact a.elim
 |ok r ρ1=>
  rw[z]at a;cases r with
  |val d=>exact λv G' H' e s r=>i v H' G' ρ1 d e r (aftS.mono s a)
  |exc d=>exact λv G' H' e s r=>a v σ G' H' e s r
theorem D9{f:M XR}(h:PE X e (tX X.K B G0 KX f))(hs:swapsWith e AV pos.line X.env=pure AX:=by rfl):PS X (.Expr e pos) (tS X.K B G0 KX (sX f λ_ ρ=>.nx ρ)):=Kt (Vv h hs) λD σ H q=>tS.bndX q λv H' G' ρ' x k r a=>a σ G' H' k (.refl _)
theorem Ez{i:Nat}{y:Str}{f:M XR}(hN:X.N.Nodup)(hi:X.N[i]?=O y)(hx:Loc X.env.scope y)(he:PE X e (tX X.K B G0 KX f))(hs:swapsWith e (O (.Name y p2)) pos.line X.env=pure AX:=by rfl)
  (hf:X.fn y=AW∨X.env.scope.names.lookup y=O .local:=by first|exact .inl rfl|exact .inr rfl|assumption):PS X (.Assign [.Name y p2] e pos) (tS X.K B G0 KX (sX f λd ρ=>match gN i d ρ with|some ρ'=>.nx ρ'|none=>.bad)):=
 Kt (SN hN hi hx he hs hf) λD σ H q=>tS.bndX q λv H' G' ρ' x k r a=>by
  unfold gN at a;split at a
  .rename_i ρ2 hz
   split at hz
   .rename_i hi2
    cases hz;exact a _ G' H' (k.setPub r hi2) (.refl _)
   .cases hz
  .exact a.elim
noncomputable def Zo(N:List Str)(g:SM)(ds:AY):Option XR:=match g (KU N ds)with
 |.rt d=>O (.val d)
 |.nx _=>O (.val .none)
 |.ex _ d=>if WC d=AW then O (.exc d)else AV
 |_=>AV
noncomputable abbrev kxE(E:XK):XW:=λv _ H=>∃e,v=.ref e/\E (.ref e) AV H
theorem okX{c:Bool}{P:J4}{w:World}{K:Frag}{mg:Str->A1}{base:Heap}{x qual:Str}{st:Stmt}{f:J5}{fd:J6}{N ps:List Str}{k n:Nat}{g:SM}(F:Fun K x qual st f fd)(S:Xr N ps (Ki st))(hn:ps.length=n)
  (der:∀(cdv:JZ)(A:Around)(outer:List Env)(s:J0)(H:Hp)(E:XK)(B G0:Hp),Room k (A.deeper (envOfC qual (Ki st) s.heap.objs.size f cdv)) ->
   PSs (Kv (K8 c P w) P w K mg base N qual (Ki st) f cdv A outer s H E) (K9 st) (tS K B G0 (kxE E) g)):FnOk P w K mg base (K8 c P w) (k+1) f fd ps (spX K n (Zo N g)):=by
 obtain⟨oc,od,kV,doc,pm,an,cdv,ct,osl,rfl,lk,hcd⟩:=F.ex;refine R6 lk hcd S (λvs H Q E h=>?_) λA outer s H vs Q E hr h=>?_
 .obtain⟨_,_,_,hl,_⟩:=h
  rw[hl,hn]
 .obtain⟨G,ds,r,hl,sg,rp,hF,q⟩:=h
  refine⟨_,der cdv A outer s H E H G hr,G,KU N ds,Rt sg rp,?_⟩;unfold Zo at hF;cases z:g (KU N ds)with
  |rt d'=>rw[z]at hF;cases hF;exact λv G' H' ex rr=>q v G' H' ex rr
  |nx ρ=>rw[z]at hF;cases hF;exact λσ' G' H' k' _=>q .non G' H' k'.exit .non
  |ex ρ d=>
   rw[z]at hF;dsimp only at hF;split at hF
   .rename_i hx
    cases hF;intro v σ' G' H' k' _ rv
    obtain⟨ad,rfl⟩:∃ad,v=.ref ad:=by
     cases rv with
     |exc _ _ _ _=>exact⟨_,rfl⟩
     |dct _ _ _ _ _=>exact⟨_,rfl⟩
     |dtt _ _ _ _=>exact⟨_,rfl⟩
     |_=>cases hx
    exact⟨ad,rfl,q ad G' H' k'.exit rv⟩
   .cases hF
  |ro ds=>rw[z]at hF;cases hF
  |bk ρ=>rw[z]at hF;cases hF
  |ct ρ=>rw[z]at hF;cases hF
  |bad=>rw[z]at hF;cases hF
end
section
variable{K:Frag}{B G0 G H:Hp}{σ:St}{ρ:Ut}
theorem EOk.unset{i:Nat}(k:EOk K B G0 G H σ ρ):EOk K B G0 G H (σ.set i AV) (ρ.set i AV) where
 bh:=k.bh
 gh:=k.gh
 g0:=k.g0
 np:=k.np
 len:=by rw[QY,QY];exact k.len
 pub:=λj d' q=>by
  by_cases z:i=j
  .subst z
   have:=ZC q;cases this
  .rw[Ql z]at q⊢
   exact k.pub j d' q
 own:=λj ds q=>by
  by_cases z:i=j
  .subst z
   have:=ZC q;cases this
  .rw[Ql z]at q⊢
   exact k.own j ds q
 sep:=λj l c es fs q1 q2 s1 s2=>by
  have z1:i≠j:=λz=>by subst z;have:=ZC q1;cases this
  have z2:i≠l:=λz=>by subst z;have:=ZC q2;cases this
  rw[Ql z1]at q1 s1;rw[Ql z2]at q2 s2;exact k.sep j l c es fs q1 q2 s1 s2
 dp:=k.dp.setOther (λs e=>by cases e)
end
def CK(K:Frag)(mg:Str->A1)(x:Str):Prop:=∃D bm,mg x=O (.ref D)/\ClsK K x D bm
noncomputable def Y5(x:Str):D->Bool
 |.dict [(.none,.tuple [.str nm,_])]=>decide (x=nm) || decide (x = "DealError")
 |_=>AX
noncomputable def Zc(i:Nat)(x:Str)(g h:SM):SM:=λρ=>match g ρ with
 |.ex ρ1 d=>if Y5 x d=AW/\i<ρ1.length then(match h (ρ1.set i (O (.pub d)))with
  |.nx ρ2=>.nx (ρ2.set i AV)
  |.bk ρ2=>.bk (ρ2.set i AV)
  |.ct ρ2=>.ct (ρ2.set i AV)
  |.rt d2=>.rt d2
  |_=>.bad)else .bad
 |o=>o
noncomputable def Ww(x:Str)(g h:SM):SM:=λρ=>match g ρ with
 |.ex ρ1 d=>if Y5 x d=AW then(match h ρ1 with
  |.nx ρ2=>.nx ρ2
  |.bk ρ2=>.bk ρ2
  |.ct ρ2=>.ct ρ2
  |.rt d2=>.rt d2
  |_=>.bad)else .bad
 |o=>o
section
variable{X:Cx}{B G0:Hp}{KX:XW}{e a b c:J7}{pos p2 cpos np hpos:Pos}{es:A3}{x n:Str}{k kk:Nat}
theorem Rp{K:Frag}{G:Hp}{v:V}{d:D}{D':J5}{bmD:AZ}(r:Rep K G v d)(h:Y5 x d=AW)(cD:ClsK K x D' bmD) :
  ∃a C dd bm,v=.ref a/\KC K C bm/\G a=O (.ext (XO AX a C dd))/\(Value.ref C::bm).contains (.ref D')=AW:=by
 unfold Y5 at h;split at h
 .obtain⟨a,C,dd,bm,qF,vs,ds,rfl,e0,c,hx,_,_⟩:=r.exc_inv
  cases e0;exact⟨a,C,dd,bm,rfl,⟨_,c⟩,hx,by rw[c.has cD];exact h⟩
 .cases h
theorem LD{i:Nat}{g h:SM}{body suite:List Stmt}{b₀:Stmt}{st:List Env}(cD:CK X.K X.mg x)(hg:Gl X x)(hN:X.N.Nodup)(hi:X.N[i]?=O n)(hl:X.env.kindOf n=O .local)
  (hb:∀(KX':XW)(W:JZ->J0->Prop)(pn:List (J5×Obj)),ZL AX (X.tried W pn) KX'->PSs (X.tried W pn) body (tS X.K B G0 KX' g)) (hs:∀a,PSs (X.suite a) (b₀::suite) (tS X.K B G0 KX0 h))
  (qf:X.stack=X.env::st:=by rfl) (hfr:X.env.frame=O X.env.locals:=by rfl) (hdb:(x==("__debug__" : Str))=AX:=by decide) :
  PS X (.Try body [.ExceptHandler (O (.Name x np)) (O n) (b₀::suite) hpos] [] [] pos) (tS X.K B G0 KX (Zc i x g h)):=PS.kin λkin=>by
 obtain⟨D',bmD,hm,ck⟩:=cD;obtain⟨fD,xD⟩:=ck.cls (model X.prog X.w) X.base kin;refine Kt (Gq (KC:=KC X.K) (tb:=λKX'=>tS X.K B G0 KX' g) (ts:=tS X.K B G0 KX0 h) qf hfr (Xi kin) xD hg hm hN hi hl hb hs hdb) λDn σ H ⟨G,ρ,k,a⟩=>?_
 refine⟨G,ρ,k,?_⟩;unfold Zc at a;cases z:g ρ with
 |nx ρ1=>rw[z]at a;exact a
 |rt d=>rw[z]at a;exact a
 |ro ds=>rw[z]at a;exact a
 |bk ρ1=>rw[z]at a;exact a
 |ct ρ1=>rw[z]at a;exact a
 |bad=>rw[z]at a;exact a.elim
 |ex ρ1 d=>
  rw[z]at a;dsimp only at a;intro v σ1 G1 H1 k1 s1 r;by_cases hc:Y5 x d=AW/\i<ρ1.length
  .rw[Qn hc]at a
   obtain⟨ad,C,dd,bm,rfl,kc,hx,hct⟩:=Rp r hc.1 ck;refine⟨ad,C,dd,bm,rfl,kc,k1.gh _ _ hx,hct,G1,_,k1.setPub r hc.2,?_⟩;cases z2:h (ρ1.set i (O (.pub d)))with
   |nx ρ2=>rw[z2]at a;exact λσ2 G2 H2 k2 s2=>a _ G2 H2 k2.unset (s1.trans s2)
   |bk ρ2=>rw[z2]at a;exact λσ2 G2 H2 k2 s2=>a _ G2 H2 k2.unset (s1.trans s2)
   |ct ρ2=>rw[z2]at a;exact λσ2 G2 H2 k2 s2=>a _ G2 H2 k2.unset (s1.trans s2)
   |rt d2=>rw[z2]at a;exact a
   |ex _ _=>rw[z2]at a;exact a.elim
   |ro _=>rw[z2]at a;exact a.elim
   |bad=>rw[z2]at a;exact a.elim
  .rw[QD hc]at a;exact a.elim
theorem Ey{g h:SM}{body suite:List Stmt}{b₀:Stmt}{st:List Env}(cD:CK X.K X.mg x)(hg:Gl X x)
  (hb:∀(KX':XW)(W:JZ->J0->Prop)(pn:List (J5×Obj)),ZL AX (X.tried W pn) KX'->PSs (X.tried W pn) body (tS X.K B G0 KX' g)) (hs:∀a,PSs (X.suite a) (b₀::suite) (tS X.K B G0 KX0 h))
  (qf:X.stack=X.env::st:=by rfl) (hfr:X.env.frame=O X.env.locals:=by rfl) (hdb:(x==("__debug__" : Str))=AX:=by decide) :
  PS X (.Try body [.ExceptHandler (O (.Name x np)) AV (b₀::suite) hpos] [] [] pos) (tS X.K B G0 KX (Ww x g h)):=PS.kin λkin=>by
 obtain⟨D',bmD,hm,ck⟩:=cD;obtain⟨fD,xD⟩:=ck.cls (model X.prog X.w) X.base kin;refine Kt (F2 (KC:=KC X.K) (tb:=λKX'=>tS X.K B G0 KX' g) (ts:=tS X.K B G0 KX0 h) qf hfr (Xi kin) xD hg hm hb hs hdb) λDn σ H ⟨G,ρ,k,a⟩=>?_
 refine⟨G,ρ,k,?_⟩;unfold Ww at a;cases z:g ρ with
 |nx ρ1=>rw[z]at a;exact a
 |rt d=>rw[z]at a;exact a
 |ro ds=>rw[z]at a;exact a
 |bk ρ1=>rw[z]at a;exact a
 |ct ρ1=>rw[z]at a;exact a
 |bad=>rw[z]at a;exact a.elim
 |ex ρ1 d=>
  rw[z]at a;dsimp only at a;intro v σ1 G1 H1 k1 s1 r;by_cases hc:Y5 x d=AW
  .rw[Qn hc]at a
   obtain⟨ad,C,dd,bm,rfl,kc,hx,hct⟩:=Rp r hc ck;refine⟨ad,C,dd,bm,rfl,kc,k1.gh _ _ hx,hct,G1,_,k1,?_⟩;cases z2:h ρ1 with
   |nx ρ2=>rw[z2]at a;exact λσ2 G2 H2 k2 s2=>a _ G2 H2 k2 (s1.trans s2)
   |bk ρ2=>rw[z2]at a;exact λσ2 G2 H2 k2 s2=>a _ G2 H2 k2 (s1.trans s2)
   |ct ρ2=>rw[z2]at a;exact λσ2 G2 H2 k2 s2=>a _ G2 H2 k2 (s1.trans s2)
   |rt d2=>rw[z2]at a;exact a
   |ex _ _=>rw[z2]at a;exact a.elim
   |ro _=>rw[z2]at a;exact a.elim
   |bad=>rw[z2]at a;exact a.elim
  .rw[QD hc]at a;exact a.elim
noncomputable def Ym(x:Str):D->A4
 |.dict [(.none,.tuple [.str nm,_])]=>O (.bool (decide (x=nm) || decide (x = "DealError")))
 |_=>AV
theorem Ex{f:M D}{p3:Pos}(cD:CK X.K X.mg x)(hg:Gl X "isinstance")(hm:X.mg "isinstance" = AV)(qS:Gl X x)(ha:PE X e (tD X.K B G0 f))(hdb:(x==("__debug__" : Str))=AX:=by decide)
  (hs:Ua [e,.Name x p3] X.env=(AX,eval e X.env)::Ua [.Name x p3] X.env:=by rfl)
  (hs2:Ua [.Name x p3] X.env=[(AX,eval (.Name x p3) X.env)]:=by rfl) :
  PE X (.Call (.Name "isinstance" p2) [e,.Name x p3] [] pos) (tD X.K B G0 (UH f λd=>UG (Ym x d))):=PE.kin λkin=>by
 obtain⟨D',bmD,hm2,ck⟩:=cD;refine UV (VD (OI (Xi kin)) hg hm RV (Za ha (Za (T2 (v:=.ref D') qS hm2 AU hdb) Z8 (by rw[hs2];rfl)) hs) (by decide) (by decide) hs (by rw[hs2];rfl)) λσ H Q q=>?_
 refine tM.one (R:=Rep X.K) q λv H2 G ρ d k r a=>?_
 obtain⟨d',e',a'⟩:=aft.opt a;unfold Ym at e';split at e'
 .obtain⟨ad,C,dd,bm,qF,vs,ds,rfl,e0,c,hx,_,_⟩:=r.exc_inv
  cases e0;cases e';exact⟨ad,C,dd,bm,AX,.ref D',_,rfl,⟨_,c⟩,k.gh _ _ hx,.inl ⟨D',bmD,rfl,⟨_,ck⟩,c.has ck⟩,a'.now k (.bl _)⟩
 .cases e'
end
def TF(o:J7)(name:Str)(apos:Pos)(args:A3)(pos:Pos):Prop:=∀env:Env,∃pl:Sem Bool,eval (.Call (.Attribute o name apos) args [] pos) env=(do
   let ov ←eval o env
   standAt apos.atName
   let (f,first) ←holding [ov] (getMethod ov name pl)
   callWith pos f first (backTo pos (Ua args env)) (backToKw pos (keywordEach [] env)))
section
variable{P:J4}{w:World}{K:Frag}{mg:Str->A1}{base:Heap}{st:Stmt}{f f0 D:J5}{fd fd0:J6}{q:Str}{p1 p2 p3 p4 p5 p6 p7 p8 p9 r1 r2 r3 r4 r5 r6 r7 r8 r9 q1 q2:Pos}{j1 j2:Nat}
theorem Ew(F:Fun K "__init__" q st f fd)(hn:FnNm (Ki st) ["self", "text"] ["ValueError"])(hm:mg "ValueError" = AV)
  (hb:K9 st=[.Expr (.Call (.Attribute (.Name "ValueError" p1) "__init__" p2) [.Name "self" p3,.Name "text" p4] [] p5) p6])
  (ht:TF (.Name "ValueError" p1) "__init__" p2 [.Name "self" p3,.Name "text" p4] p5) :
  FnOk P w K mg base CX0 1 f fd ["self", "text"] (Wn (KC K)):=by
 refine F.ok (fq hn 2) (λvs H Q E ⟨a,C,dd,bm,x,e,_⟩=>by rw[e];rfl) λcdv A outer s H vs Q E hr ⟨a,C,dd,bm,x,e,kc,hx,hq⟩=>?_
 subst e;rw[hb];obtain⟨pl,ht⟩:=ht (Kv CX0 P w K mg base ["self", "text"] q (Ki st) f cdv A outer s H E).nox.env;refine⟨TH (SK (KC K) (Wq (Kc 0) (Wq (Kc 1) Xy))),PSs.kin λkin=>Tc (Vv (OK (pl:=pl) (Xi kin) (gq hn 0) hm (Za (pq hn 0) (Za (pq hn 1) Z8)) (ht:=ht))),?_⟩;exact⟨_,rfl,_,rfl,a,C,dd,bm,_,rfl,kc,hx,hq⟩
theorem Z4(x y:Str):(x++y).length=x.length+y.length:=by
 show(x.cps++y.cps).size=x.cps.size+y.cps.size
 exact Array.size_append
theorem GW{t1 t2:Str}(M:Tt K D "__init__" f0)(F0:FnOk P w K mg base CX0 1 f0 fd0 ["self", "text"] (Wn (KC K)))(hb0:Zi K fd0 ["self", "text"] [])(hm:mg "DealError" = O (.ref D))
  (F:Fun K "__init__" q st f fd) (hn:FnNm (Ki st) ["self", "part", "number"] ["DealError"])
  (hb:K9 st=[.Expr (.Call (.Attribute (.Name "DealError" p1) "__init__" p2) [.Name "self" p3,.JoinedStr [.Constant (.str t1) j1 p4,.FormattedValue (.Name "part" p5) (-1) AV p6,.Constant (.str t2) j2 p7,.FormattedValue (.Name "number" p8) (-1) AV p9] r1] [] r2) r3,
   .Assign [.Attribute (.Name "self" r4) "part" r5] (.Name "part" r6) r7,.Assign [.Attribute (.Name "self" r8) "number" r9] (.Name "number" q1) q2])
  (ht:TF (.Name "DealError" p1) "__init__" p2 [.Name "self" p3,.JoinedStr [.Constant (.str t1) j1 p4,.FormattedValue (.Name "part" p5) (-1) AV p6,.Constant (.str t2) j2 p7,.FormattedValue (.Name "number" p8) (-1) AV p9] r1] r2)
  (hl1:t1.length<=1000) (hl2:t2.length<=1000) :
  FnOk P w K mg base CX0 2 f fd ["self", "part", "number"] (S7 (KC K) ["part", "number"]):=by
 refine F.ok (fq hn 3) (λvs H Q E ⟨a,C,bm,us,e,hl,_⟩=>by rw[e,QK,hl];rfl) λcdv A outer s H vs Q E hr ⟨a,C,bm,us,e,hl,kc,hx,hf,hq⟩=>?_
 subst e
 match us,hl with
 |[u1,u2],_=>
 rw[hb];obtain⟨pl,ht⟩:=ht (Kv CX0 P w K mg base ["self", "part", "number"] q (Ki st) f cdv A outer s H E).nox.env;obtain⟨y1,f1,g1⟩:=hf u1 (by simp);obtain⟨y2,f2,g2⟩:=hf u2 (by simp)
 refine⟨WO (TH (SE (Wn (KC K)) [] E0 (Wq (Kc 0) (Wq (Ts [tC (.str t1),WP (Kc 1),tC (.str t2),WP (Kc 2)] Str.empty) Xy)))) (WO (Sz (KC K) (Kc 0) (Kc 1) "part") (Sz (KC K) (Kc 0) (Kc 2) "number")),
  PSs.kin λkin=>Sb (Vv (Dq (pl:=pl) M F0 hr hb0 (gq hn 0) hm (Za (pq hn 0) (Za (CT (.cons TM (.cons (Pz (pq hn 1)) (.cons TM (.cons (Pz (pq hn 2)) .nil))))) Z8)) (ht:=ht)))
   (Sb (Ol (Xi kin) (λC bm ⟨nm,c⟩=>c.fld _ _ kin "part" (by decide)) (pq hn 0) (pq hn 1) AU) (Tc (Ol (Xi kin) (λC bm ⟨nm,c⟩=>c.fld _ _ kin "number" (by decide)) (pq hn 0) (pq hn 2) AU))),?_⟩
 have e0:(Str.empty:Str).length=0:=rfl;have lz:(10000:Nat)<=J8:=by decide
 refine⟨_,rfl,t1,rfl,by rw[Z4];lia,_,rfl,y1,f1,_,rfl,by rw[Z4,Z4];lia,t2,rfl,by rw[Z4,Z4,Z4];lia,_,rfl,y2,f2,_,rfl,by rw[Z4,Z4,Z4,Z4];lia,by rw[Z4,Z4,Z4,Z4];lia,?_⟩;refine⟨a,C,AV,bm,_,rfl,kc,hx,?_⟩;refine⟨_,rfl,_,rfl,a,C,bm,rfl,kc,.inl ⟨hx,λdx hd hne=>?_⟩⟩;refine⟨_,rfl,_,rfl,a,C,bm,rfl,kc,.inr ⟨dx,_,hne,by rw[UZ (Ne.symm hne)];exact U8,U8,(show 1<900 by decide),?_⟩⟩;rw[Oy];exact hq dx hd hne
end
structure XSt(h:Heap)(nm:Str)(own:Option Stmt)(C N:J5)(bm:AZ)(mN:Str->A1):Prop where
 ad:h.nsMap mainGlobals nm=O (.ref C)
 obj:∃q bs sn sub ab col dd k0 k1 k2 k3 k5,h.get? C=O (excClassObj nm q C N bs bm AW sn sub ab col dd k0 k1 k2 k3 k5 "ValueError.__new__")
 ns:h.Ns N mN
 quiet:∀x∈SQ,mN x=AV
 up:nm = "DealError" /\ bm=VB∨nm ≠ "DealError" /\ ∃D,h.nsMap mainGlobals "DealError" = O (.ref D)/\bm=.ref D::VB
 init:match own with
  |none=>mN "__init__" = AV
  |some st=>∃f o pm cd doc,mN "__init__" = O (.ref f)/\h.get? f=O o/\o.cls=.type "function" /\ o.data=.func (methDef "__init__" (Wh nm) (YI st) (K9 st) (Ki st) pm cd doc)/\h.CodeRec cd (Wh nm)
section
variable{h h':Heap}{nm:Str}{own:Option Stmt}{C N:J5}{bm:AZ}{mN:Str->A1}
theorem NW{a:J5}{x:Str}{v:JZ}(e:h.nsMap a x=O v)(k:∀b o,h.get? b=O o->h'.get? b=O o):h'.nsMap a x=O v:=by
 unfold Heap.nsMap at e⊢;cases z:h.get? a with
 |none=>rw[z]at e;cases e
 |some o=>rw[k _ _ z];rw[z]at e;exact e
theorem XSt.keeps(x:XSt h nm own C N bm mN)(k:∀b o,h.get? b=O o->h'.get? b=O o):XSt h' nm own C N bm mN where
 ad:=NW x.ad k
 obj:=let ⟨q,bs,sn,sub,ab,col,dd,k0,k1,k2,k3,k5,e⟩:=x.obj;⟨q,bs,sn,sub,ab,col,dd,k0,k1,k2,k3,k5,k _ _ e⟩
 ns:=x.ns.keeps k
 quiet:=x.quiet
 up:=x.up.imp id λ⟨a,D,b,c⟩=>⟨a,D,NW b k,c⟩
 init:=by
  have z:=x.init;cases own with
  |none=>exact z
  |some st=>obtain⟨f,o,pm,cd,doc,h1,h2,h3,h4,h5⟩:=z;exact⟨f,o,pm,cd,doc,h1,k _ _ h2,h3,h4,h5.keeps k⟩
theorem dA(st:Stmt):Pi st=YI st:=by cases st<;>rfl
theorem dB(st:Stmt):Ph st=K9 st:=by cases st<;>rfl
theorem dS(st:Stmt):Pj st=Ki st:=by cases st<;>rfl
structure XYP(p:J4)(l:XL0)(h:Heap):Prop where
 st:∃mc,h.Ns cStatics mc/\mc "thirdparty.any" = AV
 cl:∀c∈l,∃C N bm mN,XSt h c.1 (c.2.map λi=>ZQ (UT p i)) C N bm mN
theorem XYP.keeps{p:J4}{l:XL0}(x:XYP p l h)(k:∀b o,h.get? b=O o->h'.get? b=O o):XYP p l h':=
 ⟨let ⟨mc,a,b⟩:=x.st;⟨mc,a.keeps k,b⟩,λc hc=>let ⟨C,N,bm,mN,z⟩:=x.cl c hc;⟨C,N,bm,mN,z.keeps k⟩⟩
theorem LC{st:Stmt}{n:Bool}(b:xB h nm n=AW)(hown:own=AV->n=AX)(hs:∀st,own=O st->xSh h nm=O (AW,WR nm st)):∃C N bm mN,XSt h nm own C N bm mN:=by
 unfold xB at b;split at b
 .rename_i C hC
  split at b
  .rename_i t dd cd sl ho
   simp only[Qm,Bool.not_eq_true',beq_iff_eq,Bool.or_eq_true,QR,Option.isNone_iff_eq_none]at b;obtain⟨⟨⟨⟨⟨⟨⟨⟨b1,b2⟩,b3⟩,b4⟩,b5⟩,b6⟩,b7⟩,b8⟩,b9⟩:=b;obtain⟨cn,cb,cm,cns,cq,chd,csn,csub,cab,ccol,cdel⟩:=cd;simp only at b2 b3 b4 b6 b7 b8 b9;subst b1 b2 b3 b4;split at b5
   .rename_i k0 k1 k2 k3 k4 k5 hsl
    have b5:=Qa b5;subst b5;have hsl':sl=#[k0,k1,k2,k3,O (.builtin "ValueError.__new__"),k5]:=by rw[←Array.toList_inj,hsl]
    subst hsl'
    have key:∃bm,cm=.ref C::bm/\(cn = "DealError" /\ bm=VB∨cn ≠ "DealError" /\ ∃D,h.nsMap mainGlobals "DealError" = O (.ref D)/\bm=.ref D::VB):=by
     split at b9
     .rename_i e
      exact⟨VB,Qa b9,.inl ⟨e,rfl⟩⟩
     .rename_i e
      split at b9
      .rename_i D hD
       exact⟨.ref D::VB,Qa b9,.inr ⟨e,D,hD,rfl⟩⟩
      .cases b9
    obtain⟨bm,rfl,up⟩:=key;refine⟨C,cns,bm,h.nsMap cns,hC,⟨_,_,_,_,_,_,_,_,_,_,_,_,ho⟩,.of_isNs b6,b7,up,?_⟩;cases own with
    |none=>
     rcases b8 with b8|b8
     .rw[hown AU]at b8;cases b8
     .exact b8
    |some st=>
     have e:=hs st AU;unfold xSh at e;rw[hC]at e;dsimp only at e;rw[ho]at e;dsimp only at e;split at e
     .rename_i a o fd sh hf hsh
      simp only[Option.some.injEq,Prod.mk.injEq,Q3]at e;obtain⟨e1,rfl⟩:=e;obtain⟨g1,g2,g3⟩:=Heap.fnAt_spec hf;unfold Heap.shapeAt at hsh;rw[hf]at hsh;obtain⟨n,q,ps,b,sc,g,cl,df,kd,doc,pm,an,code,ct,bi⟩:=fd;simp only[Option.map_some,WR,dA,dB,dS,Option.some.injEq,FnShape.mk.injEq]at hsh;obtain⟨rfl,rfl,rfl,rfl,rfl,rfl,rfl,rfl,rfl,rfl,rfl,rfl,hc⟩:=hsh;exact⟨a,o,pm,code,doc,g1,g2,e1,g3,.of_ok hc⟩
     .cases e
   .cases b5
  .cases b
 .cases b
theorem LB{p:J4}{l:XL0}{s:J0}(e:xSeen l s=xGood p l):XYP p l s.heap:=by
 unfold xSeen xGood at e;obtain⟨e1,e2⟩:=JF e;obtain⟨e1,e3⟩:=Bool.and_eq_true_iff.mp e1;refine⟨⟨_,.of_isNs e1,Option.isNone_iff_eq_none.mp e3⟩,λc hc=>?_⟩;have q:=List.map_inj_left.mp e2 c hc;obtain⟨q1,q2⟩:=JF q;refine LC (st:=.Pass ⟨0,0,0,0⟩) q1 (λz=>?_) λst z=>?_
 .cases hz:c.2 with
  |none=>rfl
  |some i=>rw[hz]at z;cases z
 .cases hz:c.2 with
  |none=>rw[hz]at z;cases z
  |some i=>rw[hz]at z q2;cases z;exact q2
end
theorem Pt:mroOf (.type "ValueError")=pure VB:=by kernel_rfl
theorem MK:typeLookup (.type "ValueError") "__setattr__" = pure (O (.builtin "object.__setattr__")):=by kernel_rfl
theorem MJ:typeLookup (.type "ValueError") "__getattribute__" = pure (O (.builtin "BaseException.__getattribute__")):=by kernel_rfl
theorem Lr:typeLookup (.type "ValueError") "__getattr__" = pure AV:=by kernel_rfl
theorem Lq:typeLookup (.type "ValueError") "__class__" = pure (O (.builtin "object.__class__")):=by kernel_rfl
theorem GV:typeLookup (.type "ValueError") "part" = pure AV:=by kernel_rfl
theorem Ch:typeLookup (.type "ValueError") "number" = pure AV:=by kernel_rfl
theorem LA:typeLookup (.type "ValueError") "row" = pure AV:=by kernel_rfl
theorem PV(v:JZ):refuseLoop v "__setattr__" VB=pure ():=by kernel_rfl
section
variable{h h':Heap}{nm:Str}{own ownD:Option Stmt}{C N D ND:J5}{bm:AZ}{mN mD:Str->A1}{M:Model}
theorem XSt.along(x:XSt h nm own C N bm mN)(xD:XSt h "DealError" ownD D ND VB mD){y:Str}{r:A1}(hy:y∈SQ)(hB:typeLookup (.type "ValueError") y=pure r):Kp M C y r h:=by
 obtain⟨q,bs,sn,sub,ab,col,dd,k0,k1,k2,k3,k5,e⟩:=x.obj;obtain⟨q',bs',sn',sub',qP,col',qp,k0',k1',k2',k3',k5',e'⟩:=xD.obj;refine Kp.of e (ZN.miss e x.ns (x.quiet y hy) ?_);rcases x.up with ⟨_,rfl⟩|⟨_,D',qu,rfl⟩
 .exact ZN.base Pt hB
 .have:=qu.symm.trans xD.ad
  cases this;exact ZN.miss e' xD.ns (xD.quiet y hy) (ZN.base Pt hB)
theorem XSt.tail(x:XSt h nm own C N bm mN):Tail VB bm:=by
 rcases x.up with ⟨_,rfl⟩|⟨_,D',_,rfl⟩
 .exact Tail.base
 .exact Tail.own Tail.base
def TD(h:Heap)(own ownD:Option Stmt)(mN mD:Str->A1)(nm:Str)(f:J5):Prop:=match own with
 |some _=>mN "__init__" = O (.ref f)
 |none=>mD "__init__" = O (.ref f)
theorem XSt.xcls(x:XSt h nm own C N bm mN){std:Stmt}(xD:XSt h "DealError" (O std) D ND VB mD){f:J5}(hf:TD h own (O std) mN mD nm f):XCls M h C bm f:=by
 have hD:=xD.init;obtain⟨fD,oD,pmD,cdD,docD,g1,g2,g3,g4,g5⟩:=hD;obtain⟨q,bs,sn,sub,ab,col,dd,k0,k1,k2,k3,k5,e⟩:=id x.obj;obtain⟨q',bs',sn',sub',qP,col',qp,k0',k1',k2',k3',k5',e'⟩:=id xD.obj
 have fin:Kp M C "__init__" (O (.ref f)) h/\∃o,h.get? f=O o/\o.cls=.type "function" :=by
  have z:=x.init;unfold TD at hf;cases own with
  |some st=>obtain⟨f',o,pm,cd,doc,h1,h2,h3,h4,h5⟩:=z;have hf:mN "__init__" = O (.ref f):=hf;rw[h1]at hf;cases hf;exact⟨Kp.of e (ZN.hit e x.ns h1),o,h2,h3⟩
  |none=>
   have hf:mD "__init__" = O (.ref f):=hf;have z:mN "__init__" = AV:=z;rw[g1]at hf;cases hf;refine⟨Kp.of e (ZN.miss e x.ns z ?_),oD,g2,g3⟩;rcases x.up with ⟨hn,rfl⟩|⟨_,D',qu,rfl⟩
   .subst hn
    have:=x.ad.symm.trans xD.ad;cases this;rw[e]at e';cases e';have:=x.ns.eq_nsMap.trans xD.ns.eq_nsMap.symm;rw[this]at z;rw[g1]at z;cases z
   .have:=qu.symm.trans xD.ad
    cases this;exact ZN.hit e' xD.ns g1
 refine⟨⟨nm,q,N,bs,sn,sub,ab,col,dd,k0,k1,k2,k3,k5,e⟩,x.tail,fin.1,fin.2,x.along xD (by decide) MK,x.along xD (by decide) MJ,x.along xD (by decide) Lr,x.along xD (by decide) Lq,λv=>?_⟩;rcases x.up with ⟨_,rfl⟩|⟨_,D',_,rfl⟩
 .exact PV v
 .rw[refuseLoop_ref];exact PV v
theorem Xd(k:(whole h).In h'):∀b o,h.get? b=O o->h'.get? b=O o:=λb o e=>k b o (by rw[Zm];exact e)
theorem Rz{mA:Str->A1}{a:J5}(n:h.Ns a mA)(y:Str):PySem.W.nsIn (whole h) a y=O (mA y):=by
 obtain⟨⟨oc,od,dt,os⟩,es,ep,ho,hd,hk,hf⟩:=n;have hd:dt=_:=hd;subst hd;unfold PySem.W.nsIn;rw[Zm,ho];dsimp only;have:=hf y;unfold nsFind findBy at this;rw[←Array.find?_toList]at this;dsimp only at this;rw[←this];cases z:es.toList.find? (·.key.isStr y)with
 |some e=>rfl
 |none=>
  dsimp only;rw[QD]
  .rfl
  .rw[List.any_eq_true]
   rintro⟨e,he,hr⟩;obtain⟨n,t,hk⟩:=hk e (Array.mem_toList_iff.mp he);unfold DictEntry.refKey at hr;rw[hk]at hr;cases hr
theorem XSt.nmd(x:XSt h nm own C N bm mN):NmAt (whole h) nm C:=by obtain⟨q,bs,sn,sub,ab,col,dd,k0,k1,k2,k3,k5,e⟩:=x.obj;exact⟨_,_,by rw[Zm];exact e,rfl,rfl⟩
theorem NV{mg:Str->A1}(n:h.Ns mainGlobals mg)(e:h.nsMap mainGlobals nm=O (.ref C)):Tr (whole h) nm=O C:=by unfold Tr;rw[Rz n,n.eq_nsMap,e]
theorem XSt.clsK{mg:Str->A1}(n:h.Ns mainGlobals mg)(x:XSt h nm own C N bm mN){std:Stmt}(xD:XSt h "DealError" (O std) D ND VB mD){f:J5}(hf:TD h own (O std) mN mD nm f):ClsK (whole h) nm C bm where
 ad:=NV n x.ad
 nmd:=x.nmd
 up:=x.up.imp id λ⟨a,D',b,c⟩=>⟨a,D',NV n b,c,by have:=b.symm.trans xD.ad;cases this;exact xD.nmd⟩
 cls:=λM h' k=>⟨f,(x.keeps (Xd k)).xcls (xD.keeps (Xd k)) (by unfold TD at hf⊢;cases own<;>exact hf)⟩
 fld:=λM h' k y hy=>by
  have z:=x.keeps (Xd k);have zD:=xD.keeps (Xd k);simp only[QM,List.not_mem_nil,or_false]at hy;rcases hy with rfl|rfl|rfl
  .exact z.along zD (by decide) GV
  .exact z.along zD (by decide) Ch
  .exact z.along zD (by decide) LA
theorem XSt.keep(x:XSt h nm own C N bm mN):PySem.W.keepIn (whole h) (.ref C)=AW:=by obtain⟨q,bs,sn,sub,ab,col,dd,k0,k1,k2,k3,k5,e⟩:=x.obj;unfold PySem.W.keepIn;dsimp only;rw[Zm,e];dsimp only;unfold PySem.W.specialIn PySem.W.typeIn;dsimp only;rw[Zm,e];kernel_rfl
theorem XSt.fun{st:Stmt}(x:XSt h nm (O st) C N bm mN):∃f fd,mN "__init__" = O (.ref f)/\Fun (whole h) "__init__" (Wh nm) st f fd:=by
 obtain⟨f,⟨oc,od,dt,osl⟩,pm,cd,doc,h1,h2,h3,h4,h5⟩:=x.init;have h4:dt=_:=h4;subst h4;refine⟨f,_,h1,⟨⟨oc,od,.none,doc,pm,_,cd,_,osl,rfl,by rw[Zm];exact h2,?_⟩,?_⟩⟩
 .obtain⟨c,⟨_,_,dc,_⟩,vs,t,rfl,g1,g2,g3⟩:=h5
  have g2:dc=_:=g2;subst g2;unfold PySem.W.codeIn;dsimp only;rw[Zm,g1];dsimp only;have g4:vs.toList[1]?=O (.str (Wh nm) t):=by rw[Array.getElem?_toList];exact g3
  cases hv:vs.toList with
  |nil=>rw[hv]at g4;cases g4
  |cons v0 r=>
   rw[hv]at g4;cases r with
   |nil=>cases g4
   |cons v1 r=>cases g4;exact beq_self_eq_true _
 .unfold PySem.W.keepIn
  dsimp only;rw[Zm,h2]
theorem tf1{K:Frag}:PySem.W.findIn K (.type "type") "__init__" = O (O (.builtin "type.__init__")):=by kernel_rfl
theorem tf2{K:Frag}:PySem.W.specialIn K (.builtin "type.__init__") "__get__" = O (O (.builtin "wrapper_descriptor.__get__")):=by kernel_rfl
theorem tf3{K:Frag}:PySem.W.takesIn K (.builtin "type.__init__")=O AX:=by kernel_rfl
theorem tf4{K:Frag}:PySem.W.findIn K (.type "type") "__getattribute__" = O (O (.builtin "type.__getattribute__")):=by kernel_rfl
theorem tf5{K:Frag}:PySem.W.subIn K (.type "type") (.type "type")=O AW:=by kernel_rfl
theorem XSt.clsFn{st:Stmt}(x:XSt h "DealError" (O st) D ND VB mD)(hs:∃mc,h.Ns cStatics mc/\mc "thirdparty.any" = AV){f:J5}(hf:mD "__init__" = O (.ref f)):Tt (whole h) D "__init__" f:=by
 obtain⟨f',o,pm,cd,doc,h1,h2,h3,h4,h5⟩:=x.init;rw[h1]at hf;cases hf;obtain⟨q,bs,sn,sub,ab,col,dd,k0,k1,k2,k3,k5,e⟩:=x.obj;obtain⟨mc,hc1,hc2⟩:=hs;have tD:PySem.W.typeIn (whole h) (.ref D)=O (.type "type"):=by unfold PySem.W.typeIn;dsimp only;rw[Zm,e];rfl
 have tf:PySem.W.typeIn (whole h) (.ref f)=O (.type "function"):=by unfold PySem.W.typeIn;dsimp only;rw[Zm,h2];exact JX O h3
 refine⟨?_,?_,?_,?_⟩
 .unfold PySem.W.specialIn
  rw[tD];exact tf4 (K:=whole h)
 .unfold PySem.W.readsIn
  rw[Rz hc1,hc2,tD,tf4,tf5];rfl
 .unfold PySem.W.findCls
  rw[tf1];dsimp only[Option.bind_some];rw[tf2];dsimp only[Option.bind_some];rw[tf3];dsimp only[Option.bind_some];have hfi:PySem.W.findIn (whole h) (.ref D) "__init__" = O (O (.ref f)):=by unfold PySem.W.findIn;dsimp only;rw[Zm,e];dsimp only;unfold PySem.W.alongIn PySem.W.ownIn;dsimp only;rw[Zm,e];dsimp only;rw[Rz x.ns,h1]
  rw[hfi];dsimp only[Option.bind_some];rw[QD (show ¬Builtin.heldUnderItsOwnName "__init__" (.ref f)=AW from λz=>by cases z),tf];rfl
 .unfold PySem.W.keepIn
  dsimp only;rw[Zm,h2];obtain⟨oc,od,dt,osl⟩:=o;have h4:dt=_:=h4;subst h4;rfl
end
section
variable{h:Heap}{mg:Str->A1}{p:J4}{l:XL0}{i j:Nat}{c:Str×Option Nat}{p1 p2 p3 p4 p5 p6 p7 p8 p9 r1 r2 r3 r4 r5 r6 r7 r8 r9 q1 q2:Pos}{j1 j2:Nat}
structure Root(p:J4)(h:Heap)(mg:Str->A1)(i:Nat)(D f:J5)(fd:J6):Prop where
 at':mg "DealError" = O (.ref D)
 ex:∃ND mD,XSt h "DealError" (O (ZQ (UT p i))) D ND VB mD/\mD "__init__" = O (.ref f)
 cf:Tt (whole h) D "__init__" f
 bd:Zi (whole h) fd ["self", "text"] []
 ok:∀(P:J4)(w:World)(base:Heap),FnOk P w (whole h) mg base CX0 1 f fd ["self", "text"] (Wn (KC (whole h)))
theorem XSt.root{own:Option Stmt}{C N:J5}{bm:AZ}{mN:Str->A1}(x:XSt h "DealError" own C N bm mN):bm=VB:=by
 rcases x.up with ⟨_,rfl⟩|⟨z,_⟩
 .rfl
 .exact absurd AU z
theorem TC(n:h.Ns mainGlobals mg)(Y:XYP p l h){D f:J5}{fd:J6}(R:Root p h mg i D f fd)(hc:c∈l):CK (whole h) mg c.1:=by
 obtain⟨C,N,bm,mN,x⟩:=Y.cl _ hc;obtain⟨ND,mD,xD,hf⟩:=R.ex;cases hz:c.2 with
 |none=>rw[hz]at x;exact⟨C,bm,by rw[n.eq_nsMap];exact x.ad,XSt.clsK n x xD (f:=f) hf⟩
 |some k=>rw[hz]at x;obtain⟨f',o,pm,cd,doc,h1,h2⟩:=x.init;exact⟨C,bm,by rw[n.eq_nsMap];exact x.ad,XSt.clsK n x xD (f:=f') h1⟩
theorem Lz(n:h.Ns mainGlobals mg)(Y:XYP p l h){D f:J5}{fd:J6}(R:Root p h mg i D f fd){nm:Str}(hc:(nm,AV)∈l)(hf:K2 nm=[])(P:J4)(w:World)(base:Heap):MkX P w (whole h) mg base nm 1:=by obtain⟨C,N,bm,mN,x⟩:=Y.cl _ hc;obtain⟨ND,mD,xD,hi⟩:=R.ex;have ck:=XSt.clsK n x xD (f:=f) hi;exact⟨C,bm,f,fd,_,_,by rw[n.eq_nsMap];exact x.ad,x.keep,ck,λM h' k=>(x.keeps (Xd k)).xcls (xD.keeps (Xd k)) hi,R.ok P w base,R.bd,OH ck hf⟩
theorem Ly(n:h.Ns mainGlobals mg)(Y:XYP p l h){D f:J5}{fd:J6}(R:Root p h mg i D f fd){nm:Str}(hc:(nm,O j)∈l)(hf:K2 nm≠[]){ps:List Str}(P:J4)(w:World)(base:Heap)
  (hbz:∀(kV doc pm:JZ)(an:A8)(cdv ct:JZ)(us:AZ),us.length=ps.length->bindArgs (PySem.W.fnOf "__init__" (Wh nm) (YI (ZQ (UT p j))) (K9 (ZQ (UT p j))) (Ki (ZQ (UT p j))) .none kV doc pm an cdv ct) ⟨us,[]⟩=pure (ps.zip us))
  (ok:∀{f':J5}{fd':J6},Fun (whole h) "__init__" (Wh nm) (ZQ (UT p j)) f' fd'->FnOk P w (whole h) mg base CX0 2 f' fd' ps (S7 (KC (whole h)) (K2 nm))):MkX P w (whole h) mg base nm 2:=by
 obtain⟨C,N,bm,mN,x⟩:=Y.cl _ hc;obtain⟨ND,mD,xD,hi⟩:=R.ex;obtain⟨f',fd',hf',FU⟩:=XSt.fun (st:=ZQ (UT p j)) x;have ck:=XSt.clsK n x xD (f:=f') hf';exact⟨C,bm,f',fd',_,_,by rw[n.eq_nsMap];exact x.ad,x.keep,ck,λM h' k=>(x.keeps (Xd k)).xcls (xD.keeps (Xd k)) hf',ok FU,FU.binds hbz,Dp ck hf⟩
end
theorem V0{cc:Bool}{q p:J4}{loose:List Str}{mean:ExcName->A1}{mg mb:Str->A1}{h:Heap}{ix:qa}(P:J4)(w:World)(base:Heap){ps:List Str}{k n:Nat}{F:AY->Option XR}(T:Top q loose mean mg mb h)(e:recsOf q=WE p ix)(i:Nat)(x:Str)(hi:ix.contains i=AW)(hn:V1 (UT p i)=O x)
  (ok:∀{f:J5}{fd:J6},Fun (whole h) x x (UT p i) f fd->FnOk P w (whole h) mg base (K8 cc P w) k f fd ps (spX (whole h) n F))
  (hb:∀(kV doc pm:JZ)(an:A8)(cdv ct:JZ)(us:AZ),us.length=ps.length->bindArgs (PySem.W.fnOf x x (YI (UT p i)) (K9 (UT p i)) (Ki (UT p i)) .none kV doc pm an cdv ct) ⟨us,[]⟩=pure (ps.zip us)):VI cc P w (whole h) mg base x k n F:=by
 obtain⟨f,fd,m,FU⟩:=TN T e i x hi hn;exact⟨f,fd,ps,m,FU.kp,FU.binds hb,ok FU⟩
theorem Cf{l:PySem.W.OpenLaw}{n k:Nat}{q:J4}{loose:List Str}{XP:(Str->A1)->Heap->Prop}{YP:World->Heap->Prop}{d:DefRec}{F:AY->A4}{x:Str}
  (hn:l.most=O n) (hn2:n<=J8) (hdf:d.params.defaults=[]) (hr:Room k callerA)
  (hF:∀(w:World)(s₀:J0)(mg mb:Str->A1)(fa:J5)(h:Heap),PySem.W.Ground q loose [] XP w s₀ mg mb h->YP w h->mg d.name=O (.ref fa) ->
   ∃fd:J6,(∀(s:J0)(u:JZ),BindsTo s fd ⟨[u],[]⟩ [(x,u)])/\∀base:Heap,FnOk l.prog w (whole h) mg base CX0 k fa fd [x] (spD (whole h) 1 F))
  (hl:∀ns:A0,ns.length<=n->F [.list (ns.map int)]=O (.bool AW)) :
  PySem.W.WalkO q loose XP YP l.row.toRowW d [] (λf vs=>PySem.call f vs):=by
 refine Att.attach_call hn hdf λw s₀ s₁ mg mb fa o pm cd doc a vs ns G Y ho hd hcd hmg hobj hints hlen hg=>?_
 obtain⟨fd,hb,hF⟩:=hF w s₀ mg mb fa _ G Y hmg;exact Dx (DH _) G.T.g G.T.b G.T.builtins G.T.nolimit hg hobj hints (Qv hlen hn2) hr (λbase _ _=>hF base) hb (λH hO hS=>Gu hS (hl ns hlen)) λH e s' z=>z
section
variable{α β:Type}{ρ ρ1 ρ2 ρ3 ρ':Ut}{f:M D}{s t:SM}{Q:Out->Prop}{d:D}{ds fs:AY}{nm x:Str}{o:Out}
theorem Xa{g:M AY}(h1:g ρ=.ok ds ρ1)(h2:Xg nm ds=O fs):Xb nm g ρ=.ex ρ1 (exD nm fs):=by unfold Xb sB;rw[h1];dsimp only;rw[h2]
theorem Wv{f:M XR}{g:D->SM}(h1:f ρ=.ok (.val d) ρ1)(h2:g d ρ1=o):sX f g ρ=o:=by unfold sX;rw[h1];exact h2
theorem Vi{f:M XR}{g:D->SM}(h1:f ρ=.ok (.exc d) ρ1):sX f g ρ=.ex ρ1 d:=by unfold sX;rw[h1]
theorem Yc{n:Nat}{F:AY->Option XR}{g:M AY}{xs:AY}{r:XR}(h1:g ρ=.ok xs ρ1)(h2:xs.length=n)(h3:F xs=O r):YK n F g ρ=.ok r ρ1:=by unfold YK;exact Kd h1 (by rw[Qn h2];exact KQ h3)
theorem PU{i:Nat}(h1:s ρ=.nx ρ1):Zc i x s t ρ=.nx ρ1:=by unfold Zc;rw[h1]
theorem D8(h1:s ρ=.nx ρ1):Ww x s t ρ=.nx ρ1:=by unfold Ww;rw[h1]
theorem D7{c:String}{t:Bool}(h:f ρ=.ok d ρ1)(ht:U4 d c=t):UE (λd=>Uf (U4 d c)) f ρ=.ok (Uf t) ρ1:=by subst ht;exact Kl (k:=λd=>Uf (U4 d c)) h
theorem Ps{c:String}{kvs:List (D×D)}(h:f ρ=.ok (.dict kvs) ρ1)(hc:(("dict" == c) || ("" == c))=AX:=by decide):UE (λd=>Uf (U4 d c)) f ρ=.ok (Uf AX) ρ1:=D7 h (nty hc)
theorem V5{c:String}{kvs:List (D×D)}(h:f ρ=.ok (.dict kvs) ρ1)(hc:(("dict" == c) || ("" == c))=AX:=by decide):U3 (KM (UE (λd=>.bool (U4 d c)) f)) ρ=.ok AW ρ1:=Zl h (by rw[nty hc];rfl)
noncomputable def OutX(r:XR):Out->Prop
 |.rt d=>r=.val d
 |.nx _=>r=.val .none
 |.ex _ d=>r=.exc d/\WC d=AW
 |_=>False
theorem VH{N:List Str}{r:XR}(h0:KU N ds=ρ)(h:Ho s ρ (OutX r)):Zo N s ds=O r:=by
 subst h0;have h:=h.out;unfold Zo;cases z:s (KU N ds)with
 |rt d=>rw[z]at h;rw[show r=.val d from h]
 |nx ρ'=>rw[z]at h;rw[show r=.val .none from h]
 |ex ρ' d=>rw[z]at h;dsimp only;rw[if_pos h.2,h.1]
 |ro _=>rw[z]at h;exact h.elim
 |bk ρ'=>rw[z]at h;exact h.elim
 |ct ρ'=>rw[z]at h;exact h.elim
 |bad=>rw[z]at h;exact h.elim
noncomputable def fb(p:D->Bool):Nat->AY->Option Nat
 |_,[]=>AV
 |k,x::r=>if p x=AW then fb p (k+1) r else O k
noncomputable def Lp:Out->Prop
 |.rt _=>True
 |.ex _ _=>True
 |_=>False
structure fbQ(p:D->Bool)(xs:AY)(I:Ut->Prop)(Q:Out->Prop)(x:D)(j:Nat)(o:Out):Prop where
 out:(p x=AW/\∃ρ2,o=.nx ρ2/\I ρ2)∨(p x=AX/\Lp o/\(fb p 0 xs=O j->Q o))
theorem RY{p:D->Bool}{xs:AY}{I:Ut->Prop}{x:D}{j:Nat}(hp:p x=AW)(h:I ρ):fbQ p xs I Q x j (.nx ρ):=⟨.inl ⟨hp,ρ,rfl,h⟩⟩
theorem RX{p:D->Bool}{xs:AY}{I:Ut->Prop}{x:D}{j:Nat}(hp:p x=AX)(h:fb p 0 xs=O j->Q (.ex ρ d)):fbQ p xs I Q x j (.ex ρ d):=⟨.inr ⟨hp,trivial,h⟩⟩
theorem O7{f:M AY}{sg:D->Ut->A6}{xs:AY}(p:D->Bool)(I:Ut->Prop)(h1:f ρ=.ok (Z1 0 xs) ρ1)(h0:I ρ1)
  (hst:∀x∈xs,∀(j:Nat) ρ,j<xs.length->I ρ->∃ρ1,sg (.tuple [.int j,x]) ρ=O ρ1/\Ho s ρ1 (fbQ p xs I Q x j))
  (hend:fb p 0 xs=AV->∀ρ,I ρ->Q (.nx ρ)):Ho (Ks f sg s) ρ Q:=by
 constructor;unfold Ks sB;rw[h1];dsimp only
 have key:∀(ys:AY)(k:Nat)(ρ:Ut),I ρ->(∀x∈ys,x∈xs)->k+ys.length<=xs.length->fb p k ys=fb p 0 xs->Q (Y2 sg s (Z1 k ys) ρ):=by
  intro ys;induction ys with
  |nil=>intro k ρ hi _ _ he;exact hend he.symm ρ hi
  |cons x r ih=>
   intro k ρ hi hm hl he;rw[QK]at hl;obtain⟨ρ2,e2,a1⟩:=hst x (hm x Qp) k ρ (by lia) hi;rw[Z1,Y2,e2];dsimp only;rw[fb]at he;rcases a1.out.out with ⟨hp,ρ3,e3,i3⟩|⟨hp,b1,b2⟩
   .rw[hp,Qn AU]at he
    rw[e3];exact ih (k+1) ρ3 i3 (λy hy=>hm y (Qo _ hy)) (by lia) he
   .rw[hp,QD (by decide)]at he
    have b2:=b2 he.symm;cases z:s ρ2 with
    |rt d=>rw[z]at b2;exact b2
    |ex ρ' d=>rw[z]at b2;exact b2
    |nx ρ'=>rw[z]at b1;exact b1.elim
    |ro _=>rw[z]at b1;exact b1.elim
    |bk ρ'=>rw[z]at b1;exact b1.elim
    |ct ρ'=>rw[z]at b1;exact b1.elim
    |bad=>rw[z]at b1;exact b1.elim
 exact key xs 0 ρ1 h0 (λ_ h=>h) (by lia) AU
end
end DL
namespace L2
open PySem PySem.Spec PyProof.Rows
end L2
namespace DL
open PySem PySem.Spec L2
open PyProof.Rows hiding St
end DL
namespace DL
open PySem PySem.Spec L2 PySem.SeqAt PySem.AutoSeq1
open PyProof.Rows hiding St
section
variable{X:Cx}{pins:List (J5×Obj)}{s:J0}{σ:L2.St}{G H:Hp}{A:Around}
theorem PR(I:Inv X pins σ H s){a:J5}{kvs:List (Key×V)}(h:H a=O (.dK kvs)):(a==sysModules)=AX/\∃o es n vs,s.heap.get? a=O o/\o.cls=.type "dict" /\ o.data=.dict es n/\KV kvs vs/\Pairs (Z7 X.prog X.w) es.toList vs:=by
 obtain⟨_,h0,vs,kv,o,es,ep,e1,e2,e3,_,e5,_⟩:=(show kvs.length<=J8/\(a==sysModules)=AX/\∃vs,KV kvs vs/\s.heap.DictOf (Z7 X.prog X.w) a vs from I.hok a _ h)
 exact⟨h0,o,es,ep,vs,e1,e2.1,e3,kv,e5⟩
end
end DL
namespace DL
open PySem PySem.Spec L2
open PyProof.Rows hiding St
noncomputable def YV:D->Bool
 |.int _=>AW
 |.str _=>AW
 |_=>AX
mutual
noncomputable def Ku:D->Bool
 |.none | .bool _ | .int _=>AW
 |.str x=>Uh x
 |.list xs | .tuple xs=>YJ xs
 |.dict kvs=>layKv kvs
noncomputable def YJ:AY->Bool
 |[]=>AW
 |x::xs=>Ku x&&YJ xs
noncomputable def layKv:List (D×D)->Bool
 |[]=>AW
 |(k,v)::r=>YV k&&Ku v&&layKv r
end
theorem O6:∀{ks:qb}{ds:AY},ks.length=ds.length->layKv ((ks.map kD).zip ds)=AW->YJ ds=AW
 |[],[],_,_=>rfl
 |[],_::_,h,_=>by simp at h
 |_::_,[],h,_=>by simp at h
 |k::ks,d::ds,h,c=>by rw[Qw,List.zip_cons_cons,layKv,Qm,Qm]at c;rw[YJ,c.1.2,O6 (by simpa using h) c.2];rfl
theorem Mb{P:J4}{w:World}:∀{es:List DictEntry}{vs:List (Key×JZ)},Pairs (Z7 P w) es vs->es.map (·.val)=vs.map (·.2)
 |_,_,.nil=>rfl
 |_,_,.cons _ h t=>by rw[Qw,Qw,h,Mb t]
theorem Bn{P:J4}{w:World}{h:Heap}{es:List DictEntry}{vs:List (Key×JZ)}(p:Pairs (Z7 P w) es vs):ReadsAll h (es.map (·.key)) ((vs.map (·.1)).map kD) []:=by
 induction p with
 |nil=>exact .nil
 |@cons e kv es kvs hk _ t ih=>
  have hk:Wr kv.1 e.key=AW:=hk;rw[Qw,Qw,Qw];rcases Xe hk with ⟨i,t,e1,e2⟩|⟨x,t,e1,e2⟩
  .rw[e1,e2];exact .cons (as:=[]) (.int i t) ih
  .rw[e1,e2];exact .cons (as:=[]) (.str x t) ih
theorem O5:∀{ks:qb}{vs:List V}{ws:List (Key×JZ)},ks.length=vs.length->KV (ks.zip vs) ws->ws.map (·.1)=ks/\Vals vs (ws.map (·.2))
 |[],[],_,_,h=>by cases h;exact⟨rfl,.nil⟩
 |[],_::_,_,h,_=>by simp at h
 |_::_,[],_,h,_=>by simp at h
 |k::ks,v::vs,_,hl,h=>by
  rw[List.zip_cons_cons]at h;cases h with
  |cons a b=>obtain⟨e1,e2⟩:=O5 (by simpa using hl) b;exact⟨by rw[Qw,e1,←a.1],.cons a.2 e2⟩
def SmK(K:Frag):Prop:=∃o es n,K.lookup sysModules=O o/\o.data=.dict es n
theorem Lx{h:Heap}(x:h.NoSeer):SmK (whole h):=by obtain⟨mm,⟨o',es,ep,e',d,_⟩,_⟩:=x.mods;exact⟨o',es,ep,by rw[Zm];exact e',d⟩
section
variable{X:Cx}{pins:List (J5×Obj)}{s:J0}{σ:L2.St}{G H:Hp}
theorem O4(I:Inv X pins σ H s)(hK:SmK X.K):H sysModules=AV:=by obtain⟨o,es,n,e,_⟩:=hK;exact(I.bs _ _ (I.mod.kin _ _ e)).2
theorem GU(I:Inv X pins σ H s)(hK:SmK X.K){a:J5}{xs:List V}(h:SqL X.K H a xs):a≠sysModules:=by
 intro e;subst e;rcases h with h|⟨o,its,n,hk,_,_,hs,_⟩
 .rcases h with h|⟨o,h⟩
  .rw[O4 I hK]at h;cases h
  .rw[O4 I hK]at h;cases h
 .obtain⟨o',es,m,e,d⟩:=hK
  rw[hk]at e;cases e;rw[hs]at d;cases d
mutual
theorem PQ(I:Inv X pins σ H s)(sg:Same G H)(hK:SmK X.K):∀{v:V}{d:D}{u:JZ},Rep X.K G v d->RelV v u->Ku d=AW->∃as,Reads s.heap u d as/\sysModules∉as
 |_,_,_,.non,r,_=>by cases r;exact⟨_,.none,by simp⟩
 |_,_,_,.bl b,r,_=>by cases r;exact⟨_,.bool b,by simp⟩
 |_,_,_,.int i,r,_=>by obtain⟨t,rfl⟩:=r;exact⟨_,.int i t,by simp⟩
 |_,_,_,.str x,r,_=>by obtain⟨t,rfl⟩:=r;exact⟨_,.str x t,by simp⟩
 |_,_,_,.lst h q,r,c=>by cases r;obtain⟨its,rv,⟨o,n,e,hc,_,hd⟩,hz⟩:=I.list (sg.seq h);obtain⟨as,ra,hn⟩:=readsAll_z I sg hK q rv (show YJ _=AW by simpa[Ku]using c);refine⟨_,.list e hc hd (by simpa using ra),?_⟩;simp only[QM,not_or];exact⟨λz=>GU I hK (sg.seq h) z.symm,hn⟩
 |_,_,_,.tup h q,r,c=>by cases r;obtain⟨its,rv,p,hz⟩:=I.tuple (ZJ sg h);obtain⟨o,e,hc,n,hd⟩:=p;obtain⟨as,ra,hn⟩:=readsAll_z I sg hK q rv (show YJ _=AW by simpa[Ku]using c);exact⟨_,.tuple e hc hd (by simpa using ra),hn⟩
 |_,_,_,.dic h,r,c=>by
  cases r;obtain⟨p0,o,es,n,vs,e1,e2,e3,kv,ps⟩:=PR I (sg _ _ h);cases kv
  have z1:es.toList=[]:=by
   cases hz:es.toList with
   |nil=>rfl
   |cons c r=>rw[hz]at ps;cases ps
  refine⟨_,.dict (kvs:=[]) e1 e2 e3 (by rw[z1];exact .nil) (by rw[z1];exact .nil),?_⟩;simp only[Q1,QX];intro z;rw[←z]at p0;simp at p0
 |_,_,_,.exc _ _ _ _,r,c=>by simp[Ku,layKv,YV]at c
 |_,_,_,@Rep.dct _ _ ad ks vs ds kvs e hne hl h q,r,c=>by
  cases r;obtain⟨p0,o,es,n,ws,e1,e2,e3,kv,ps⟩:=PR I (sg _ _ h);obtain⟨k1,k2⟩:=O5 (by rw[hl,q.length]) kv;have cd:YJ ds=AW:=O6 hl (by rw[←e];simpa[Ku]using c);obtain⟨bs,rb,hn⟩:=readsAll_z I sg hK q k2 cd;have hkeys:=Bn (h:=s.heap) ps;rw[k1]at hkeys;have f1:kvs.map (·.1)=ks.map kD:=by rw[e];exact List.map_fst_zip (by rw[Qd];lia)
  have f2:kvs.map (·.2)=ds:=by rw[e];exact List.map_snd_zip (by rw[Qd];lia)
  refine⟨_,.dict (kvs:=kvs) e1 e2 e3 (by rw[f1];exact hkeys) (by rw[f2,Mb ps];exact rb),?_⟩;simp only[List.cons_append,Jk,QM,not_or];refine⟨?_,hn⟩;intro z;rw[←z]at p0;simp at p0
 |_,_,_,.dtt e _ _ _,r,c=>by subst e;simp[Ku,layKv,YV,pdD]at c
theorem readsAll_z(I:Inv X pins σ H s)(sg:Same G H)(hK:SmK X.K):∀{vs:List V}{ds:AY}{us:AZ},Reps X.K G vs ds->Vals vs us->YJ ds=AW->∃as,ReadsAll s.heap us ds as/\sysModules∉as
 |_,_,_,.nil,r,_=>by cases r;exact⟨_,.nil,by simp⟩
 |_,_,_,.cons h t,r,c=>by
  cases r with
  |cons r1 r2=>have c':=c;rw[YJ,Qm]at c';obtain⟨as,ra,n1⟩:=PQ I sg hK h r1 c'.1;obtain⟨bs,rb,n2⟩:=readsAll_z I sg hK t r2 c'.2;exact⟨_,.cons ra rb,by simp[n1,n2]⟩
end
end
section
variable{X:Cx}
noncomputable def Y4:AY->A4
 |[d]=>if Ku d=AW/\d.showable=AW/\d.depth<=50/\d.shown.length<=1000000 then O (.str d.shown)else AV
 |_=>AV
theorem BZ(hu:X.A.units+64<cLine)(hg:X.A.guards=O [])(hK:SmK X.K):Zx X (.builtin "repr") (λxs H Q=>∃G v d,xs=[v]/\Same G H/\Rep X.K G v d/\Ku d=AW/\d.showable=AW/\d.depth<=50/\d.shown.length<=1000000/\Q (.str d.shown) H):=by
 intro pins s σ H xs us Q I rx h;obtain⟨G,v,d,rfl,sg,r,c1,c2,c4,c5,q⟩:=h;obtain⟨u,rfl,ru⟩:=rx.one;obtain⟨as,ra,hn⟩:=PQ I sg hK r ru c1;have fin:∀h'(t:Tok) tk,(∀b o,s.heap.get? b=O o->h'.get? b=O o)->EP X pins σ Q (.str d.shown t) {s with heap:=h',toks:=tk}:=λh' t tk hk=>⟨.str d.shown,H,I.kept hk,⟨t,rfl⟩,q⟩
 cases r with
 |non=>cases ru;exact P.repr_of_none (fin s.heap _ _ λ_ _ e=>e)
 |bl b=>cases ru;exact P.repr_of_bool (fin s.heap _ _ λ_ _ e=>e)
 |int i=>obtain⟨t,rfl⟩:=ru;exact P.repr_of_int (by have:(int i).showable=AW:=c2;simpa[PyData.showable]using this) (fin s.heap _ _ λ_ _ e=>e)
 |str x=>obtain⟨t,rfl⟩:=ru;exact P.repr_of_str (fin s.heap _ _ λ_ _ e=>e) (Qv c5 lim)
 |lst h r=>cases ru;exact repr_of_reads' ra c2 (λ_=>hn) hg (by lia) (λ_ _ e=>e) (λh' t tk hk=>fin h' t tk hk) (Qv c5 lim)
 |tup h r=>cases ru;exact repr_of_reads' ra c2 (λ_=>hn) hg (by lia) (λ_ _ e=>e) (λh' t tk hk=>fin h' t tk hk) (Qv c5 lim)
 |dic h=>cases ru;exact repr_of_reads' ra c2 (λ_=>hn) hg (by lia) (λ_ _ e=>e) (λh' t tk hk=>fin h' t tk hk) (Qv c5 lim)
 |exc _ _ _ _=>simp[Ku,layKv,YV]at c1
 |dct _ _ _ _ _=>cases ru;exact repr_of_reads' ra c2 (λ_=>hn) hg (by lia) (λ_ _ e=>e) (λh' t tk hk=>fin h' t tk hk) (Qv c5 lim)
 |dtt e _ _ _=>subst e;simp[Ku,layKv,YV,pdD]at c1
theorem GT(hu:X.A.units+64<cLine)(hg:X.A.guards=O [])(hK:SmK X.K):ZI X (.builtin "repr") Y4:=by
 refine⟨_,BZ hu hg hK,λvs G H ds d Q s r e k=>?_⟩;unfold Y4 at e;split at e
 .split at e
  .rename_i x c
   cases e;obtain⟨v,rfl,q1⟩:=r.one_inv;exact⟨G,v,_,rfl,s,q1,c.1,c.2.1,c.2.2.1,c.2.2.2,k _ G H (.refl s) (.str _)⟩
  .cases e
 .cases e
theorem Ce{d:D}(c:Ku d=AW/\d.showable=AW/\d.depth<=50/\d.shown.length<=1000000):Y4 [d]=O (.str d.shown):=by unfold Y4;exact Qn c
noncomputable def Yl:D->D->A9
 |.str a,.str b=>O (!(a==b))
 |_,_=>AV
theorem Lo:OpB X (Ub .NotEq) Yl:=by
 refine⟨λv u H Q=>∃a b,v=.str a/\u=.str b/\Q (.bl (!(a==b))) H,?_,λv u G H x y d Q s rx ry e k=>?_⟩
 .intro pins s σ H x y v u Q I rx ry h
  obtain⟨a,b,rfl,rfl,q⟩:=h;obtain⟨t,rfl⟩:=rx;obtain⟨t2,rfl⟩:=ry;exact SeqAt.RcNeAt.str_str a t b t2 X.prog X.w X.xe _ ⟨.bl _,H,I,rfl,q⟩
 .unfold Yl at e
  split at e
  .cases e
   exact⟨_,_,rx.str_inv,ry.str_inv,k⟩
  .cases e
theorem D6{a:Str}:Yl (.str a) (.str a)=O AX:=by unfold Yl;simp
end
end DL
namespace L2
open PySem PySem.Spec PyProof.Rows
end L2
namespace DL
open PySem PySem.Spec L2
open PyProof.Rows hiding St
end DL
namespace L2
open PySem PySem.Spec PyProof.Rows
end L2
namespace DL
open PySem PySem.Spec L2
open PyProof.Rows hiding St
noncomputable def spO(K:Frag)(n:Nat)(F:AY->Option AY):Sp:=λvs H Q _=>∃G ds r,vs.length=n/\Same G H/\Reps K G vs ds/\F ds=O r/\∀a ws G' H',Ext G H G' H'->H a=AV->G' a=AV->H' a=O (.lst ws)->Reps K G' ws r->Q (.ref a) H'
noncomputable def tSO(K:Frag)(B G0:Hp)(g:SM)(f:M AY):TS:=λDn σ H=>∃G ρ,EOk K B G0 G H σ ρ/\match g ρ with
 |.nx ρ1=>(match f ρ1 with
  |.ok ds _=>∀a vs G' H',Ext G0 B G' H'->B a=AV->G' a=AV->H' a=O (.lst vs)->Reps K G' vs ds->Dn.rt (.ref a) H'
  |.bad=>False)
 |.ro ds=>∀a vs G' H',Ext G0 B G' H'->B a=AV->G' a=AV->H' a=O (.lst vs)->Reps K G' vs ds->Dn.rt (.ref a) H'
 |_=>False
section
variable{X:Cx}{B G0:Hp}{e:J7}{pos:Pos}{es:A3}{st:Stmt}{sts:List Stmt}
theorem Lw{f:M AY}(h:PE X e (tL X.K B G0 f)):PSs X [.Return (O e) pos] (tSO X.K B G0 sNx f):=Tq (Tc (SO h)) λD σ H ⟨G,ρ,k,a⟩=>by
 refine⟨G,ρ,k,?_⟩;dsimp only[sNx]at a;cases z:f ρ with
 |bad=>rw[z]at a;exact a.elim
 |ok ds ρ'=>rw[z]at a;exact λad vs G' H' k' s' n=>a ad vs G' H' k'.exit n.b n.g n.h n.r
noncomputable def Wu(f:M AY):SM:=λρ=>match f ρ with | .ok ds _=>.ro ds | .bad=>.bad
theorem GS{KX:XW}{f:M AY}(h:PE X e (tL X.K B G0 f)):PS X (.Return (O e) pos) (tS X.K B G0 KX (Wu f)):=Kt (SO h) λD σ H ⟨G,ρ,k,a⟩=>by
 refine⟨G,ρ,k,?_⟩;unfold Wu at a;cases z:f ρ with
 |bad=>rw[z]at a;exact a.elim
 |ok ds ρ'=>rw[z]at a;exact λad vs G' H' k' s' n=>a ad vs G' H' k'.exit n.b n.g n.h n.r
theorem GR{g h:SM}{f:M AY}(h1:PS X st (tS X.K B G0 KX0 g))(h2:PSs X sts (tSO X.K B G0 h f)):PSs X (st::sts) (tSO X.K B G0 (Ux g h) f):=Tq (Sb h1 h2) λD σ H ⟨G,ρ,k,a⟩=>by
 refine⟨G,ρ,k,?_⟩;unfold Ux at a;cases z:g ρ with
 |nx ρ1=>rw[z]at a;exact λσ' G' H' k' s'=>⟨G',ρ1,k',a⟩
 |rt d=>rw[z]at a;exact a.elim
 |ro ds=>rw[z]at a;exact a
 |bk ρ1=>rw[z]at a;exact a.elim
 |ct ρ1=>rw[z]at a;exact a.elim
 |ex ρ1 d=>rw[z]at a;exact a.elim
 |bad=>rw[z]at a;exact a.elim
noncomputable def Zd(N:List Str)(g:SM)(f:M AY)(ds:AY):Option AY:=match g (KU N ds)with
 |.nx ρ=>(match f ρ with
  |.ok r _=>O r
  |.bad=>AV)
 |.ro ds=>O ds
 |_=>AV
theorem okO{P:J4}{w:World}{K:Frag}{mg:Str->A1}{base:Heap}{x qual:Str}{st:Stmt}{f:J5}{fd:J6}{N ps:List Str}{k n:Nat}{g:SM}{q:M AY}(F:Fun K x qual st f fd)(S:Xr N ps (Ki st))(hn:ps.length=n)
  (der:∀(cdv:JZ)(A:Around)(outer:List Env)(s:J0)(H:Hp)(E:XK)(B G0:Hp),Room k (A.deeper (envOfC qual (Ki st) s.heap.objs.size f cdv)) ->
   PSs (Kv CX0 P w K mg base N qual (Ki st) f cdv A outer s H E).nox (K9 st) (tSO K B G0 g q)):FnOk P w K mg base CX0 (k+1) f fd ps (spO K n (Zd N g q)):=by
 refine F.ok S (λvs H Q E h=>?_) (λcdv A outer s H vs Q E hr h=>?_)
 .obtain⟨_,_,_,hl,_⟩:=h
  rw[hl,hn]
 .obtain⟨G,ds,d,hl,sg,r,hF,qq⟩:=h
  refine⟨_,der cdv A outer s H E H G hr,G,KU N ds,Rt sg r,?_⟩;unfold Zd at hF;cases z:g (KU N ds)with
  |nx ρ=>
   rw[z]at hF;dsimp only at hF⊢;cases z2:q ρ with
   |bad=>rw[z2]at hF;cases hF
   |ok d' ρ'=>rw[z2]at hF;cases hF;exact λa vs G' H' ex hb hg hh rr=>qq a vs G' H' ex hb hg hh rr
  |rt d'=>rw[z]at hF;cases hF
  |ro d'=>rw[z]at hF;cases hF;exact λa vs G' H' ex hb hg hh rr=>qq a vs G' H' ex hb hg hh rr
  |bk ρ=>rw[z]at hF;cases hF
  |ct ρ=>rw[z]at hF;cases hF
  |ex ρ d=>rw[z]at hF;cases hF
  |bad=>rw[z]at hF;cases hF
def We(P:J4)(w:World)(K:Frag)(mg:Str->A1)(base:Heap)(x:Str)(k n:Nat)(F:AY->Option AY):Prop:=
 ∃(f:J5)(fd:J6)(ps:List Str),mg x=O (.ref f)/\PySem.W.keepIn K (.ref f)=AW/\Zi K fd ps []/\FnOk P w K mg base CX0 k f fd ps (spO K n F)
noncomputable def Wg(n:Nat)(F:AY->Option AY)(g:M AY):M AY:=UH g λxs=>if xs.length=n then UG (F xs)else λ_=>.bad
theorem Cd{k kk n:Nat}{F:AY->Option AY}{g:M AY}{x:Str}{p2:Pos}(d:We X.prog X.w X.K X.mg X.base x k n F)(hr:Room kk X.A)(hg:Gl X x)(ha:PA X (e::es) (tDs X.K B G0 g))(hk:k<=kk:=by decide)(hn:(e::es).length=n:=by rfl)
  (hdb:(x==("__debug__" : Str))=AX:=by decide) (he:Ua (e::es) X.env=(AX,eval e X.env)::Ua es X.env:=by rfl) (hpl:(backTo pos (Ua es X.env)).any (·.1)=AX:=by rfl) :
  PE X (.Call (.Name x p2) (e::es) [] pos) (tL X.K B G0 (Wg n F g)):=by
 obtain⟨f,fd,ps,h1,h2,h3,h4⟩:=d;refine UV (OA h4 (hr.mono hk) hg h1 h2 h3 .nil SB ha hdb he hpl) λσ H Q ⟨G,ρ,kk0,a⟩=>?_
 refine⟨G,ρ,kk0,?_⟩;unfold Wg UH at a;cases z:g ρ with
 |bad=>rw[z]at a;exact a.elim
 |ok xs ρ1=>
  rw[z]at a;dsimp only at a⊢;intro vs G1 H1 k1 s1 r1;by_cases hl:xs.length=n
  .rw[Qn hl]at a
   unfold UG at a;cases zf:F xs with
   |none=>rw[zf]at a;exact a.elim
   |some r=>
    rw[zf]at a;dsimp only at a;refine⟨G1,xs,r,by rw[Q1,r1.length];exact hl,k1.gh,by rw[Q1];exact r1,zf,λad ws G' H' ex hh hg' hH rr=>?_⟩;refine a ad ws G' H' (k1.ext ex) (s1.trans ex.g) ⟨?_,hg',hH,rr,λj es q w=>?_,λj pt d v fp q s r=>k1.freshD ex.h hh q s r⟩
    .cases q:B ad with
     |none=>rfl
     |some u=>have:=k1.bh ad u q;rw[hh]at this;cases this
    .obtain⟨b,us,g1,g2,g3,g4,g5⟩:=k1.own j es q
     rw[g1]at w;cases w;rw[hh]at g4;cases g4
  .rw[QD hl]at a
   exact a.elim
end
theorem Pr{q p:J4}{loose:List Str}{mean:ExcName->A1}{mg mb:Str->A1}{h:Heap}{ix:qa}(P:J4)(w:World)(base:Heap){ps:List Str}{k n:Nat}{F:AY->Option AY}(T:PyProof.Rows.Top q loose mean mg mb h)(e:recsOf q=WE p ix)(i:Nat)(x:Str)(hi:ix.contains i=AW)(hn:V1 (UT p i)=O x)
  (ok:∀{f:J5}{fd:J6},Fun (whole h) x x (UT p i) f fd->FnOk P w (whole h) mg base CX0 k f fd ps (spO (whole h) n F))
  (hb:∀(kV doc pm:JZ)(an:A8)(cdv ct:JZ)(us:AZ),us.length=ps.length->bindArgs (PySem.W.fnOf x x (YI (UT p i)) (K9 (UT p i)) (Ki (UT p i)) .none kV doc pm an cdv ct) ⟨us,[]⟩=pure (ps.zip us)):We P w (whole h) mg base x k n F:=by
 obtain⟨f,fd,m,FU⟩:=TN T e i x hi hn;exact⟨f,fd,ps,m,FU.kp,FU.binds hb,ok FU⟩
theorem PP{n:Nat}{F:AY->Option AY}{g:M AY}{ρ ρ1:Ut}{xs r:AY}(h1:g ρ=.ok xs ρ1)(h2:xs.length=n)(h3:F xs=O r):Wg n F g ρ=.ok r ρ1:=by unfold Wg UH;rw[h1];dsimp only;rw[Qn h2,h3];rfl
theorem RW{N:List Str}{g:SM}{f:M AY}{ds r:AY}{ρ ρ1 ρ2:Ut}(h0:KU N ds=ρ)(h1:g ρ=.nx ρ1)(h2:f ρ1=.ok r ρ2):Zd N g f ds=O r:=by subst h0;unfold Zd;rw[h1];dsimp only;rw[h2]
theorem PN{f:M AY}{ρ ρ1:Ut}{ds:AY}{Q:Out->Prop}(h1:f ρ=.ok ds ρ1)(h2:Q (.ro ds)):Ho (Wu f) ρ Q:=by constructor;unfold Wu;rw[h1];exact h2
end DL
namespace L2
open PySem PySem.Spec PyProof.Rows
end L2
namespace DL
open PySem PySem.Spec L2
open PyProof.Rows hiding St
theorem EOk.lent{K:Frag}{B G0 G H:Hp}{σ:St}{ρ:Ut}(k:EOk K B G0 G H σ ρ):EOk K H H H H σ (KP ρ) where
 bh:=.refl _
 gh:=.refl _
 g0:=.refl _
 np:=λ_ _ e n=>by rw[n]at e;cases e
 len:=by unfold KP;rw[Qd];exact k.len
 pub:=λi d e=>by
  rcases Nz e with e2|⟨ds,rfl,e2⟩|⟨p,e2⟩
  .exact k.tree (by unfold V2;rw[e2])
  .exact k.tree (by unfold V2;rw[e2])
  .exact k.tree (by unfold V2;rw[e2])
 own:=λi ds e=>(VF e).elim
 sep:=λi j a ds es e=>(VF e).elim
 dp:=.of (λ_ _ _ q=>Mi q) λ_ _ q=>VF q
theorem EOk.back{K:Frag}{B G0 G H H':Hp}{σ:St}{ρ:Ut}(k:EOk K B G0 G H σ ρ)(e:Same H H'):EOk K B G0 G H' σ ρ:=k.ext ⟨e,.refl _,k.gh.trans e,λ_ _ _ n=>n⟩
noncomputable def Wt(f:M Bool):M Bool:=λρ=>match f (KP ρ)with
 |.ok b _=>.ok b ρ
 |.bad=>.bad
section
variable{X:Cx}{B G0:Hp}{KX:XW}{e a b c tg iter:J7}{pos:Pos}
theorem D5{f:M Bool}(h:∀B' G',PT X e (tBo X.K B' G' f)):PT X e (tBo X.K B G0 (Wt f)):=by
 have h':PT X e (λσ H Q=>∃B' G',tBo X.K B' G' f σ H Q):=λpins s σ H Q I ⟨B',G',q⟩=>h B' G' pins s σ H Q I q;refine ZS h' λσ H Q ⟨G,ρ,k,a⟩=>⟨H,H,H,KP ρ,k.lent,?_⟩;unfold Wt at a
 cases z:f (KP ρ)with
 |bad=>rw[z]at a;exact a.elim
 |ok t ρ'=>rw[z]at a;dsimp only at a⊢;exact λv G' H' k' s' r=>a v G H' (k.back k'.bh) (.refl _) r
end
theorem PM{f:M Bool}{ρ ρ':Ut}{b:Bool}(h:f (KP ρ)=.ok b ρ'):Wt f ρ=.ok b ρ:=by unfold Wt;rw[h]
end DL
namespace L2
open PySem PySem.Spec PyProof.Rows
end L2
namespace DL
open PySem PySem.Spec L2
open PyProof.Rows hiding St
end DL
namespace L2
open PySem PySem.Spec PyProof.Rows
end L2
namespace DL
open PySem PySem.Spec L2
open PyProof.Rows hiding St
section
variable{K:Frag}{B G0 G H:Hp}{σ:St}{ρ:Ut}
theorem EOk.forget{i:Nat}(k:EOk K B G0 G H σ ρ):EOk K B G0 G H σ (ρ.set i AV):=by
 have nz:∀{m:Nat}{s:Sl},(ρ.set i AV)[m]?=O (O s)->ρ[m]?=O (O s):=λ{m s} q=>by
  by_cases z:i=m
  .subst z;have:=ZC q;cases this
  .rw[Ql z]at q;exact q
 exact⟨k.bh,k.gh,k.g0,k.np,by rw[QY];exact k.len,λj d q=>k.pub j d (nz q),λj ds q=>k.own j ds (nz q),λj l c es fs q1 q2 s1 s2=>k.sep j l c es fs (nz q1) (nz q2) s1 s2,
  k.dp.map (λm p d q=>⟨nz q,rfl⟩) (λm es q=>⟨es,nz q,rfl⟩) λm p d v fp q s r w n=>⟨r,w⟩⟩
end
noncomputable def Zp(i:Nat):M AY:=λρ=>match ρ[i]? with
 |some (O (.own ds))=>.ok ds (ρ.set i AV)
 |_=>.bad
section
variable{X:Cx}{B G0:Hp}{e:J7}
theorem GQ{i:Nat}(h:PE X e (Kc i)):PE X e (tL X.K B G0 (Zp i)):=UV h λσ H Q ⟨G,ρ,k,q⟩=>by
 cases ho:ρ[i]? with
 |none=>unfold Zp at q;rw[ho]at q;exact q.elim
 |some oo=>
 cases oo with
 |none=>unfold Zp at q;rw[ho]at q;exact q.elim
 |some sl=>
 cases sl with
 |pub d=>unfold Zp at q;rw[ho]at q;exact q.elim
 |deep p d=>unfold Zp at q;rw[ho]at q;exact q.elim
 |own ds=>
 unfold Zp at q;rw[ho]at q;dsimp only at q;obtain⟨ad,vs,h1,h2,h3,h4,h5⟩:=k.own i ds ho;obtain⟨ω,k1,k2⟩:=id k.dp;have hw:=k2 i ds ad ho h1
 have nz:∀{m:Nat}{s:Sl},(ρ.set i AV)[m]?=O (O s)->ρ[m]?=O (O s)/\i≠m:=λ{m s} q=>by
  by_cases z:i=m
  .subst z;have:=ZC q;cases this
  .rw[Ql z]at q;exact⟨q,z⟩
 refine⟨.ref ad,h1,q ad vs G H k.forget (.refl _) ⟨h2,h3,h4,h5,λj es e w=>?_,λj p d v fp e w r m=>?_⟩⟩
 .obtain⟨e,z⟩:=nz e
  exact z (k.sep i j ad ds es ho e h1 w)
 .obtain⟨e,z⟩:=nz e
  obtain⟨v',fp',s',r',n',w'⟩:=k1 j p d e;rw[w]at s';cases s';have u:=r'.uniq (.refl _) r;subst u;exact z (hw.symm.trans (w' ad m).2.2)
theorem Lv{i:Nat}{ρ:Ut}{ds:AY}(h:ρ[i]?=O (O (.own ds))):Zp i ρ=.ok ds (ρ.set i AV):=by unfold Zp;rw[h]
end
noncomputable def XE(x y:D):Option AY:=match x,y with
 |.list x,.list y=>if x.length+y.length<=1000000 then O (x++y)else AV
 |_,_=>AV
noncomputable def Yq(f g:M D):M AY:=UH f λx=>UH g λy=>UG (XE x y)
section
variable{X:Cx}{B G0:Hp}{e o a b c:J7}{pos:Pos}{es:A3}
theorem GP{f g:M D}(ha:PE X a (tD X.K B G0 f))(hb:PE X b (tD X.K B G0 g)):PE X (.BinOp a .Add b pos) (tL X.K B G0 (Yq f g)):=
 UV (R8 Oh ha hb) λσ H Q ⟨G,ρ,k,q⟩=>by
  refine⟨G,ρ,k,?_⟩;unfold Yq UH at q;cases z:f ρ with
  |bad=>rw[z]at q;exact q.elim
  |ok x ρ1=>
   rw[z]at q;dsimp only at q;intro v G1 H1 k1 s1 r1;refine⟨G1,ρ1,k1,?_⟩;cases z2:g ρ1 with
   |bad=>rw[z2]at q;exact q.elim
   |ok y ρ2=>
    rw[z2]at q;dsimp only[UG]at q;intro u G2 H2 k2 s2 r2;cases x with
    |list xs=>
     cases y with
     |list ys=>
      by_cases c:xs.length+ys.length<=1000000
      .have e:XE (.list xs) (.list ys)=O (xs++ys):=Qn c
       rw[e]at q;obtain⟨l,vs,rfl,h1,w1⟩:=r1.lst_inv;obtain⟨m,us,rfl,h2,w2⟩:=r2.lst_inv;exact⟨l,m,vs,us,rfl,rfl,k2.gh.seq (s2.seq h1),k2.gh.seq h2,by rw[w1.length,w2.length];exact Qv c lim,λp hp=>q p _ G2 _ (k2.ext (Ext.hid k2.gh hp)) (s1.trans s2) (NewL.of k2 hp ((w1.mono s2).append w2))⟩
      .have e:XE (.list xs) (.list ys)=AV:=QD c
       rw[e]at q;exact q.elim
     |_=>exact q.elim
    |_=>exact q.elim
theorem Pq{f g:M D}{ρ ρ1 ρ2:Ut}{xs ys:AY}(h1:f ρ=.ok (.list xs) ρ1)(h2:g ρ1=.ok (.list ys) ρ2)(h:xs.length+ys.length<=1000000):Yq f g ρ=.ok (xs++ys) ρ2:=by have e:XE (.list xs) (.list ys)=O (xs++ys):=Qn h;unfold Yq;exact Kd h1 (Kd h2 (by rw[e];rfl))
end
end DL
namespace L2
open PySem PySem.Spec PyProof.Rows PySem.Calls PyProof.V
end L2
namespace DL
open PySem PySem.Spec L2
open PyProof.Rows hiding St
noncomputable def tgN:J7->List Str
 |.Name x _=>[x]
 |.Tuple [.Name x _] _ _=>[x]
 |.Tuple [.Name x _,.Name y _] _ _=>[x,y]
 |.Tuple [.Name x _,.Name y _,.Name z _] _ _=>[x,y,z]
 |.Tuple [.Name x _,.Name y _,.Name z _,.Name u _] _ _=>[x,y,z,u]
 |_=>[]
noncomputable def adN(vs:List Str):List Str->List Str
 |[]=>vs
 |x::r=>adN (if vs.elem x then vs else vs++[x]) r
noncomputable def WU(vs:List Str):List Comprehension->List Str
 |[]=>vs
 |⟨tg,_,_,_⟩::r=>WU (adN vs (tgN tg)) r
noncomputable def dotN(x:Str):Str:=("." : Str)++x
noncomputable def blN(N:List Str)(gs:List Comprehension):List Str:=N.map (λx=>if(WU [] gs).elem x then dotN x else x)++WU [] gs
noncomputable def glN(sc:Scope):List Str:=sc.names.filterMap λy=>match y.2 with | .globalImplicit=>O y.1|_=>AV
abbrev NmF(s:Stmt)(N:List Str):Prop:=FnNm (Ki s) N (glN (Ki s))
theorem mq{α:Type}{l:List α}{x:α}(n:Nat)(h:l[n]?=O x):x∈l:=QZ h
section
variable{sc:Scope}{N gl:List Str}{x:Str}
theorem gA(H:FnNm sc N gl)(h:gl.elem x=AW):sc.names.lookup x=O .globalImplicit:=H.gl x (by simpa using h)
end
section
variable{X:Cx}{B G0:Hp}{KX:XW}{e e1 e2 o a b c i:J7}{gl:List Str}{pos p2:Pos}{x:Str}{j:Nat}
theorem Ln(H:FnNm X.env.scope X.N gl)(hi:X.N[j]?=O x:=by rfl)(hf:X.fn x=AW∨X.env.scope.names.lookup x=O .local:=by first|exact .inl rfl|exact .inr rfl|assumption):PG X (.Name x pos) (tG X.K B G0 (gN j)):=Od (Ox H.nd hi (lq H j hi) hf)
theorem Lu{N':List Str}{scope:Scope}{cl:List (Str×J5)}{C:J5}{s₀:J0}{H₀:Hp}{ex:A5}(hN:N'.Nodup:=by decide +kernel)(hi:N'[j]?=O x:=by rfl)(hl:locK (scope.names.lookup x)=AW:=by rfl):PG (X.blk N' scope cl C s₀ H₀ ex) (.Name x pos) (tG X.K B G0 (gN j)):=Od (Ox hN hi (Ob hl).1 (Ob hl).2)
theorem aSet{f:M D}(H:FnNm X.env.scope X.N gl)(he:PE X e (tD X.K B G0 f))(hi:X.N[j]?=O x:=by rfl)(hs:swapsWith e (O (.Name x p2)) pos.line X.env=pure AX:=by rfl)
  (hf:X.fn x=AW∨X.env.scope.names.lookup x=O .local:=by first|exact .inl rfl|exact .inr rfl|assumption):PS X (.Assign [.Name x p2] e pos) (tS X.K B G0 KX (UU j f)):=Gx H.nd hi (lq H j hi) he hs hf
theorem R3{f:M AY}(H:FnNm X.env.scope X.N gl)(he:PE X e (tL X.K B G0 f))(hi:X.N[j]?=O x:=by rfl)(hs:swapsWith e (O (.Name x p2)) pos.line X.env=pure AX:=by rfl)
  (hf:X.fn x=AW∨X.env.scope.names.lookup x=O .local:=by first|exact .inl rfl|exact .inr rfl|assumption):PS X (.Assign [.Name x p2] e pos) (tS X.K B G0 KX (Kw j f)):=Ej H.nd hi (lq H j hi) he hs hf
theorem Lm{f:M XR}(H:FnNm X.env.scope X.N gl)(he:PE X e (tX X.K B G0 KX f))(hi:X.N[j]?=O x:=by rfl)(hs:swapsWith e (O (.Name x p2)) pos.line X.env=pure AX:=by rfl)
  (hf:X.fn x=AW∨X.env.scope.names.lookup x=O .local:=by first|exact .inl rfl|exact .inr rfl|assumption):PS X (.Assign [.Name x p2] e pos) (tS X.K B G0 KX (sX f λd ρ=>match gN j d ρ with|some ρ'=>.nx ρ'|none=>.bad)):=Ez H.nd hi (lq H j hi) he hs hf
theorem Ll{l:Bool}{tg elt iter:J7}{ifs:A3}{gs:List Comprehension}{scope:Scope}{f:M AY}{s:D->Ut->A6}{t:M Bool}{rd:RdB}{F:M AY}{k:Nat}{SC:Scope}{N1:List Str}(H:FnNm SC N1 gl)(le:∀ρ es ρ',F ρ=.ok es ρ'->dCG l f k s t rd ρ=.ok es ρ')(hc:X.calm=AW)
  (hi:PI X tg iter (iD X.K B G0 f)) (qh:Zg X (blN N1 (⟨tg,iter,ifs,0⟩::gs)) scope (.ListComp elt (⟨tg,iter,ifs,0⟩::gs) scope pos) tg ifs s t rd) (hb:Xl WA SC scope N1 (blN N1 (⟨tg,iter,ifs,0⟩::gs)) k=AW) (h1:X.env.scope=SC:=by rfl) (h2:X.N=N1:=by rfl) (hs:∀x,Ur iter X.env x=pure x:=by intro _;rfl) :
  PE X (.ListComp elt (⟨tg,iter,ifs,0⟩::gs) scope pos) (tL X.K B G0 F):=MX _ _ _ k le hc hi qh h1 h2 hb hs
theorem Lk{l:Bool}{y:Str}{py spos:Pos}{tg elt iter:J7}{ifs:A3}{gs:List Comprehension}{scope:Scope}{f:M AY}{s:D->Ut->A6}{t:M Bool}{rd:RdB}{F:M AY}{k:Nat}{SC:Scope}{N1:List Str}(H:FnNm SC N1 gl)(le:∀ρ es ρ',F ρ=.ok es ρ'->dCG l f k s t rd ρ=.ok es ρ')(hc:X.calm=AW)
  (hi:PI X tg iter (iD X.K B G0 f)) (qh:Zg X (blN N1 (⟨tg,iter,ifs,0⟩::gs)) scope (.ListComp elt (⟨tg,iter,ifs,0⟩::gs) scope pos) tg ifs s t rd) (hb:Xl WA SC scope N1 (blN N1 (⟨tg,iter,ifs,0⟩::gs)) k=AW) (hj:N1[j]?=O y:=by rfl) (hy:SC.names.lookup y=O .local:=by rfl) (h1:X.env.scope=SC:=by rfl) (h2:X.N=N1:=by rfl) (hs:∀x,Ur iter X.env x=pure x:=by intro _;rfl)
  (hsw:swapsWith (.ListComp elt (⟨tg,iter,ifs,0⟩::gs) scope pos) (O (.Name y py)) spos.line X.env=pure AW:=by rfl) :
  PS X (.Assign [.Name y py] (.ListComp elt (⟨tg,iter,ifs,0⟩::gs) scope pos) spos) (tS X.K B G0 KX (Kw j F)):=sD_1 _ _ _ k le (h2 ▸ H.nd) (h2 ▸ hj) (h1 ▸ hy) hc hi qh h1 h2 hb hs hsw
theorem Hk{l:Bool}{scope0:Scope}{cl:List (Str×J5)}{C:J5}{s₀:J0}{H₀:Hp}{ex:A5}{N2:List Str}{tg elt iter:J7}{ifs:A3}{gs:List Comprehension}{scope:Scope}{f:M AY}{s:D->Ut->A6}{t:M Bool}{rd:RdB}{F:M AY}{k:Nat}(le:∀ρ es ρ',F ρ=.ok es ρ'->dCG l f k s t rd ρ=.ok es ρ')(hc:X.calm=AW)
  (hi:PI (X.blk N2 scope0 cl C s₀ H₀ ex) tg iter (iD X.K B G0 f)) (qh:Zg (X.blk N2 scope0 cl C s₀ H₀ ex) (blN N2 (⟨tg,iter,ifs,0⟩::gs)) scope (.ListComp elt (⟨tg,iter,ifs,0⟩::gs) scope pos) tg ifs s t rd) (hb:Xl WA scope0 scope N2 (blN N2 (⟨tg,iter,ifs,0⟩::gs)) k=AW) (hs:∀x,Ur iter (X.blk N2 scope0 cl C s₀ H₀ ex).env x=pure x:=by intro _;rfl) :
  PE (X.blk N2 scope0 cl C s₀ H₀ ex) (.ListComp elt (⟨tg,iter,ifs,0⟩::gs) scope pos) (tL X.K B G0 F):=LS _ k le hc hi qh hb hs
end
end DL
namespace DL
open PySem PySem.Spec L2
open PyProof.Rows hiding St
open Builtin Builtin.Str
end DL
namespace DL
open PySem PySem.Spec L2
open PyProof.Rows hiding St
end DL
namespace DL
open PySem PySem.Spec L2
open PyProof.Rows hiding St
open PySem.SeqRoads2 PySem.SeqAt
end DL
namespace DL
open PySem PySem.Spec L2
open PyProof.Rows hiding St
end DL
namespace L2
open PySem PySem.Spec PyProof.Rows
end L2
namespace DL
open PySem PySem.Spec L2
open PyProof.Rows hiding St
end DL
namespace DL
open PySem PySem.Spec L2
open PyProof.Rows hiding St
open PySem.SeqRoads2 PySem.SeqAt
end DL
namespace DL
open PySem PySem.Spec L2
open PyProof.Rows hiding St
section
variable{X:Cx}{B G0:Hp}{KX:XW}{e e':J7}{es es':A3}{st st':Stmt}{sts jb:List Stmt}{pos p2:Pos}{x:Str}{j:Nat}{gl:List Str}
theorem D4{g h:SM}(q:st::sts=jb)(h1:PS X st (tS X.K B G0 KX g))(h2:PSs X sts (tS X.K B G0 KX h)):PSs X jb (tS X.K B G0 KX (Ux g h)):=q ▸ Oe h1 h2
theorem Hj{f:M AY}(q:Stmt.Assign [.Name x p2] e pos=st')(H:FnNm X.env.scope X.N gl)(he:PE X e (tL X.K B G0 f))(hi:X.N[j]?=O x:=by rfl)(hs:swapsWith e (O (.Name x p2)) pos.line X.env=pure AX:=by rfl)
  (hf:X.fn x=AW∨X.env.scope.names.lookup x=O .local:=by first|exact .inl rfl|exact .inr rfl|assumption):PS X st' (tS X.K B G0 KX (Kw j f)):=q ▸ R3 H he hi hs hf
theorem D3{f:M AY}(q:Expr.List es pos=e')(h:PA X es (tDs X.K B G0 f)):PE X e' (tL X.K B G0 (UH f λxs=>if xs.length<=1000000 then Uu xs else λ_=>.bad)):=q ▸ Oc h
theorem Cc{f:M D}{g:M AY}(q:e::es=es')(ha:PE X e (tD X.K B G0 f))(hr:PA X es (tDs X.K B G0 g))(hs:Ua (e::es) X.env=(AX,eval e X.env)::Ua es X.env:=by rfl):PA X es' (tDs X.K B G0 (Uw f g)):=q ▸ OG ha hr hs
end
section
variable{X:Cx}{B G0:Hp}{KX:XW}{a b e e':J7}{es es':A3}{st st':Stmt}{sts jb:List Stmt}{pos p2:Pos}{x:Str}{j:Nat}{gl:List Str}
theorem Lj{f:M D}(q:Stmt.Assign [.Name x p2] e pos=st')(H:FnNm X.env.scope X.N gl)(he:PE X e (tD X.K B G0 f))(hi:X.N[j]?=O x:=by rfl)(hs:swapsWith e (O (.Name x p2)) pos.line X.env=pure AX:=by rfl)
  (hf:X.fn x=AW∨X.env.scope.names.lookup x=O .local:=by first|exact .inl rfl|exact .inr rfl|assumption):PS X st' (tS X.K B G0 KX (UU j f)):=q ▸ aSet H he hi hs hf
theorem E8{f:M AY}(q:Expr.List es pos=e')(h:PA X es (tDs X.K B G0 f)):PE X e' (tD X.K B G0 (U2 f)):=q ▸ Of h
theorem E7{x1}{f:M AY}(q:Expr.Tuple es x1 pos=e')(h:PA X es (tDs X.K B G0 f)):PE X e' (tD X.K B G0 (Ka f)):=q ▸ Og h
theorem Pp{op:Operator}{p:D->D->A4}{f g:M D}(o:OpD X (binaryOp op) p)(q:Expr.BinOp a op b pos=e')(ha:PE X a (tD X.K B G0 f))(hb:PE X b (tD X.K B G0 g)):PE X e' (tD X.K B G0 (UB p f g)):=q ▸ WD o ha hb
end
section
variable{X:Cx}{B G0:Hp}{KX:XW}{e o:J7}{es:A3}{pos apos cpos p2:Pos}
theorem Reps.erase{K:Frag}{G:Hp}:∀{vs:List V}{ds:AY}(m:Nat),Reps K G vs ds->Reps K G (vs.eraseIdx m) (ds.eraseIdx m)
 |_,_,_,.nil=>.nil
 |_,_,0,.cons _ t=>t
 |_,_,m+1,.cons r t=>.cons r (Reps.erase m t)
noncomputable def Yp(j:Nat)(f:M D):M D:=λρ=>match Wx ρ j with
 |none=>.bad
 |some _=>match f ρ with
  |.bad=>.bad
  |.ok d ρ1=>match d,Wx ρ1 j with
   |.int i,O ds=>if ds.length<=1000000 then(match ixN ds.length i with
    |some m=>(match ds[m]? with
     |some y=>.ok y (ρ1.set j (O (.own (ds.eraseIdx m))))
     |none=>.bad)
    |none=>.bad)else .bad
   |_,_=>.bad
theorem GO{j:Nat}{f:M D}(ho:PE X o (Kc j))(he:PE X e (tD X.K B G0 f))
  (hbase:attributeBase o "pop" X.env (eval o X.env)=eval o X.env:=by rfl)
  (hfew:((backTo cpos (Ua [e] X.env)).all (λx=>!x.1)&&(backToKw cpos (keywordEach [] X.env)).all (λx=>x.1.isSome)
   && decide ([e].length+([]:List Keyword).length+(if([]:List Keyword).isEmpty then 0 else 1)<30))=AW:=by rfl)
  (hline:(apos.endLine==cpos.line)=AW:=by rfl) (hs:Ua [e] X.env=[(AX,eval e X.env)]:=by rfl) :
  PE X (.Call (.Attribute o "pop" apos) [e] [] cpos) (tD X.K B G0 (Yp j f)):=
 UV (R4 PySem.F.plainAttrs_list PySem.F.slot_list_pop PySem.F.type_list_pop Dy ho (Za he Z8 (by rw[hs];rfl)) hbase hfew hline (by rw[hs];rfl) AU) λσ H Q ⟨G,ρ,k,a⟩=>by
  unfold Yp at a;cases q0:Wx ρ j with
  |none=>rw[q0]at a;exact a.elim
  |some qM=>
  rw[q0]at a;dsimp only at a;obtain⟨ad,vs0,h1,h2,h3,h4,h5⟩:=k.own j qM (Rq q0);refine⟨.ref ad,h1,.inl ⟨rfl,_,SqL.of h4⟩,G,ρ,k,?_⟩;cases z:f ρ with
  |bad=>rw[z]at a;exact a.elim
  |ok d ρ1=>
  rw[z]at a;dsimp only at a;intro v G1 H1 k1 s1 r1;cases d with
  |int i=>
   cases q1:Wx ρ1 j with
   |none=>rw[q1]at a;exact a.elim
   |some ds=>
   rw[q1]at a;dsimp only at a;split at a
   .rename_i hl
    cases q2:ixN ds.length i with
    |none=>rw[q2]at a;exact a.elim
    |some m=>
    rw[q2]at a;dsimp only at a;cases q3:ds[m]? with
    |none=>rw[q3]at a;exact a.elim
    |some y=>
    rw[q3]at a;obtain⟨ad1,vs,g1,g2,g3,g4,g5⟩:=k1.own j ds (Rq q1);rw[h1]at g1;cases g1;obtain⟨w,hw,jd⟩:=g5.get q3;obtain⟨i1,i2,i3,i4⟩:=Oz q2;refine⟨ad,vs,i,m,w,rfl,by rw[r1.int_inv],g4,by lia,by lia,by rw[g5.length];exact i1,hw,?_⟩;exact a w G1 _ (k1.change (Rq q1) h1 (Reps.erase m g5)) s1 jd
   .exact a.elim
  |_=>exact a.elim
theorem Po{j:Nat}{f:M D}{ρ ρ1:Ut}{qM ds:AY}{m:Nat}{y:D}(h0:ρ[j]?=O (O (.own qM)))(h1:f ρ=.ok (.int (m:Nat)) ρ1)(h2:ρ1[j]?=O (O (.own ds)))(hl:ds.length<=1000000)(h3:ds[m]?=O y):Yp j f ρ=.ok y (ρ1.set j (O (.own (ds.eraseIdx m)))):=by have hm:=(Qr.mp h3).1;unfold Yp Wx;rw[h0];dsimp only;rw[h1];dsimp only;rw[h2];dsimp only;rw[Qn hl,show ixN ds.length (m:Int)=O m by unfold ixN;rw[Qn (by lia),Qn (by lia),Js]];dsimp only;rw[h3]
end
end DL
namespace L2
open PySem PySem.Spec PyProof.Rows PySem.Calls PyProof.V
def Vh(L:J5)(h0 h:Heap)(e:J5):Prop:=∃oe vs T oT ts,h.get? e=O oe/\oe.data=.fields vs/\vs[1]?=O (.ref T)/\T≠e/\h0.objs.size<=T/\h.get? T=O oT/\oT.data=.fields ts/\ts[3]?=O (rawInt L)
section
variable{M:Model}{A A2:Around}{E:JZ->J0->Prop}{s:J0}{base:Heap}{env:Env}{outer:List Env}{L e:J5}{c:Bool}
theorem Li{E2:JZ->J0->Prop}{oe:Obj}{vs:Array JZ}{Q:J0->Prop}(hfr:A.frames=O (env::outer))(hl:s.heap.FunFrames base (env::outer))(hf:env.frame=O L)
  (he:s.heap.get? e=O oe) (hd:oe.data=.fields vs) (h1:vs[1]?=O .none)
  (h:∀h',Wj (frs (env::outer)) e s.heap h'->Vh L s.heap h' e->Q {s with heap:=h'}) :
  J9 M A (noteFrame (.ref e) env) (λ_ s'=>J9 M A2 (do
  if(←field (.ref e) 1)==.none then unsupported "frame.own-activation:exception-without-traceback"
  setFlight (.ref e) env.frame) (λ_ s''=>Q s'') E2 s') E s:=by
 have hsz:1<vs.size:=(Jc.mp h1).1;have jh:e∉(env::outer).filterMap (·.frame):=λhm=>by obtain⟨_,o,ho,hnf⟩:=hl.mem hm;rw[he]at ho;injection ho with ho;subst ho;exact hnf vs hd
 unfold noteFrame;simp only[hf];refine Qb (Q2 he hd h1 ?_);rw[QD (by decide)];refine Qb (wpAny_frameOf_fun hfr hl hf λh₁ hs₁=>?_);refine Qb (wpAny_entryPlaceOf λpl hpl=>?_);unfold EntryCells.newEntry newFields;refine Qb (wpAny_newObj_type ?_ (hpl.sizeOk5 _ _ _ _ _));have he₁:h₁.get? e=O oe:=(hs₁.2.1 e jh).trans he;generalize hob:({cls:=.type "traceback", dict:=AV,data:=.fields ([Value.none,.ref L,.none,rawInt L,.none]++(if pl.isEmpty then Ud 6 Value.none else pl)).toArray}:Obj)=ob;have hobd:∃ts,ob.data=.fields ts/\3<ts.size:=⟨_,by rw[←hob],by simp only[QL,Qk,QK,QS]<;>lia⟩
 obtain⟨ts,hts,ht3⟩:=hobd;have he₂:=Qe (h:=h₁) ob he₁;refine Q6 he₂ hd hsz ?_;have qy:h₁.objs.size≠e:=Jq (Qh he₁);have hd₃:=Je hd (·.setIfInBounds 1 (Value.ref h₁.objs.size));have he₃:=QI (Obj.mapFields (·.setIfInBounds 1 (Value.ref h₁.objs.size))) he₂ (Jf hd₃);have hT₃:=(Qj (h₁.push ob) (Obj.mapFields (·.setIfInBounds 1 (Value.ref h₁.objs.size))) (Ne.symm qy)).trans (QE h₁ (by rw[←hob];rfl));refine wpAny_bind (wpAny_field he₃ hd₃ (x:=.ref h₁.objs.size) (by simp[hsz]) ?_);rw[if_neg (show ¬((Value.ref h₁.objs.size==Value.none)=AW)from by simp)];unfold setFlight;refine wpAny_bind (wpAny_field he₃ hd₃ (x:=.ref h₁.objs.size) (by simp[hsz]) ?_);rw[if_pos (show(Value.ref h₁.objs.size != Value.none)=AW from by simp)];have h0:s.heap.objs.size<=h₁.objs.size:=Nat.le_of_eq hs₁.1.symm;refine Q6 hT₃ hts ht3 (h _ ?_ ?_)
 .have keep:∀b o,b≠e->h₁.get? b=O o ->
    (((h₁.push ob).update e (Obj.mapFields (·.setIfInBounds 1 (Value.ref h₁.objs.size)))).update h₁.objs.size
     (Obj.mapFields (·.setIfInBounds 3 ((O L:A8).elim Value.none λf=>rawInt f)))).get? b=O o:=λb o qA hb=>by
   have qT:h₁.objs.size≠b:=Jq (Qh hb);rw[Qj _ _ qT,Qj _ _ (Ne.symm qA)];exact Qe _ hb
  refine⟨λb o hb hf hg=>keep b o hb ((hs₁.2.1 b hf).trans hg),λb o hb hg=>?_,λjp z=>?_⟩
  .obtain⟨sl,hs⟩:=hs₁.2.2 b o hg
   exact⟨sl,keep b _ hb hs⟩
  .rw[he]at z;cases z
   exact⟨_,by rw[Qj _ _ qy,he₃,YT _ hd]⟩
 .refine⟨_,_,h₁.objs.size,_,_,?_,hd₃,by simp[hsz],qy,h0,Heap.get?_update_self _ hT₃ (Obj.isFreed_of_fields (Obj.data_mapFields hts _)),Obj.data_mapFields hts _,?_⟩
  .rw[Qj _ _ qy];exact he₃
  .rw[Array.getElem?_setIfInBounds_self_of_lt ht3];rfl
theorem GN{h0:Heap}{Q:Unit->J0->Prop}(hf:env.frame=O L)(p:Wj (frs (env::outer)) e h0 s.heap)(x:Vh L h0 s.heap e)
  (h:∀h',Wj (frs (env::outer)) e h0 h'->Fly AX h' e->Q () {s with heap:=h'}):J9 M A (leaving env (.ref e)) Q E s:=by
 obtain⟨oe,vs,T,oT,ts,he,hd,h1,qy,h0T,hT,qw,h3⟩:=x;obtain⟨q8,hv3⟩:=Jc.mp h3;unfold leaving noteFrame;simp only[hf];refine Qb (Qb (Q2 he hd h1 ?_));rw[if_pos (show(Value.ref T != Value.none)=AW from by simp)];refine Qb (Q2 hT qw h3 ?_);rw[if_pos (show((rawInt L:JZ)==rawInt L)=AW from by simp)];refine Qf ?_;unfold setFlight;refine Qb (Q2 he hd h1 ?_);rw[if_pos (show(Value.ref T != Value.none)=AW from by simp)];have nT:∀b o,h0.get? b=O o->T≠b:=λb o g z=>by subst z;exact absurd (Qh g) (Nat.not_lt.mpr h0T)
 refine Q6 hT qw q8 (h _ ⟨λb o a f g=>?_,λb o a g=>?_,λjp g=>?_⟩ ⟨oe,vs,?_,hd,.inr ⟨T,_,_,h1,qy,QI _ hT (Jf (Je qw _)),Je qw _,?_⟩,λz=>nomatch z⟩)
 .rw[Qj _ _ (nT b o g)];exact p.keep b o a f g
 .obtain⟨sl,z⟩:=p.slot b o a g
  exact⟨sl,by rw[Qj _ _ (nT b o g)];exact z⟩
 .obtain⟨ws,z⟩:=p.own jp g
  exact⟨ws,by rw[Qj _ _ qy];exact z⟩
 .rw[Qj _ _ qy];exact he
 .rw[Array.getElem?_setIfInBounds_self_of_lt q8];rfl
end
theorem AB:entryFor table "proto.unchain" = O Builtin.«proto.unchain»:=entryFor_of_fast (by kernel_rfl)
section
variable{prog:J4}{w:World}{A:Around}{E:JZ->J0->Prop}{s:J0}{env:Env}
theorem E6{v:JZ}{b:J5}{ob:Obj}{wb:Array JZ}{Q:JZ->J0->Prop}(hb:s.heap.get? b=O ob)(hd:ob.data=.fields wb)(h2:wb[2]?=O .none)(h:Q .none s) :
  J9 (model prog w) A (runValue (.builtin "proto.unchain" ⟨[v,.ref b,.ref b,.bool AX],[]⟩)) Q E s:=by
 refine wpAny_runValue (codeAny_builtin AB ?_);unfold Builtin.«proto.unchain»;refine Qb (Q2 hb hd h2 ?_);rw[Qn (show((Value.none:JZ)==.none)=AW from rfl)];exact Qf h
theorem AA{α:Type}{a b:J5}{oa ob:Obj}{va wb:Array JZ}{Q:α->J0->Prop}(hh:A.handled=O (.ref b))(hne:a≠b)(ha:s.heap.get? a=O oa)(hda:oa.data=.fields va)(h2:2<va.size)(hb:s.heap.get? b=O ob)(hd:ob.data=.fields wb)(jk:wb[2]?=O .none)
  (h:E (.ref a) {s with heap:=s.heap.update a (Obj.mapFields (·.setIfInBounds 2 (.ref b)))}):J9 (model prog w) A (raiseNew (.ref a):Sem α) Q E s:=by
 unfold raiseNew;refine Qb (wpAny_handled ?_);rw[hh];dsimp only;rw[if_pos (show(Value.ref b != Value.ref a)=AW from by simp;exact Ne.symm hne)];refine Qb (Jh (E6 hb hd jk ?_));exact Qb (Q6 (x:=.ref b) ha hda h2 (wpAny_throw h))
theorem Am{env:Env}{s:J0}{Q:Flow->J0->Prop}{y y2:Sem JZ}{b:J5}(hc:∀(s:J0)(P:JZ->J0->Prop),P .none s->J9 (model prog w) A y2 P E s)
  (hh:A.handled=O (.ref b)) (h:J9 (model prog w) A y (λv s₁=>∃a C dd vs sl nm q N bs bm hdct sn sub ab col qp k0 k1 k2 k3 k5 newId ob wb,v=.ref a/\bm.contains (.type "BaseException")=AW/\s₁.heap.get? C=O (excClassObj nm q C N bs bm hdct sn sub ab col qp k0 k1 k2 k3 k5 newId) /\
   s₁.heap.get? a=O {cls:=.ref C,dict:=dd,data:=.fields vs,slots:=sl}/\vs[1]?=O .none/\4<vs.size/\a≠b/\C≠a/\s₁.heap.get? b=O ob/\ob.data=.fields wb/\wb[2]?=O .none /\
   ∀h',(∀d o,d≠a->s₁.heap.get? d=O o->h'.get? d=O o)->(∃us,h'.get? a=O {cls:=.ref C,dict:=dd,data:=.fields us,slots:=sl}/\us[1]?=O .none)->E (.ref a) {s₁ with heap:=h'}) E s) :
  J9 (model prog w) A (raiseStmt env (O y) (O y2)) Q E s:=by
 unfold raiseStmt;refine Qb (Qy h (λv s₁ h₁=>?_) λ_ _ x=>x);obtain⟨a,C,dd,vs,sl,nm,q,N,bs,bm,hdct,sn,sub,ab,col,qp,k0,k1,k2,k3,k5,newId,ob,wb,rfl,hbase,hC,he,h1,hsz,hab,hCa,hb,hdb,jk,hE⟩:=h₁;have qx:(Value.ref C::bm).contains (.type "BaseException")=AW:=by rw[QW,hbase,JN]
 obtain⟨hp,g,d,tk,os⟩:=s₁;refine Qb (Jh (hc _ _ (Qb (Qf ?_))));dsimp only;refine Qb (Jh ?_);unfold excFromValue isExcClass
 repeat (first|with_reducible refine Qg he ?_|with_reducible refine Qg hC ?_|(with_reducible refine Qz hC ?_;rw[qx])|wp_step)
 rw[Qn (show 3<vs.size by lia)];refine wpAny_update he ?_;have e1:(hp.update a (Obj.mapFields (·.setIfInBounds 3 Value.none))).get? a=O {cls:=.ref C,dict:=dd,data:=.fields (vs.setIfInBounds 3 .none),slots:=sl}:=QI _ he AU;have C1:=(Qj hp (Obj.mapFields (·.setIfInBounds 3 Value.none)) (Ne.symm hCa)).trans hC;refine Qb (Q6 e1 AU (by rw[Array.size_setIfInBounds];exact hsz) ?_);have e2:((hp.update a (Obj.mapFields (·.setIfInBounds 3 Value.none))).update a (Obj.mapFields (·.setIfInBounds 4 (Value.bool AW)))).get? a=O {cls:=.ref C,dict:=dd,data:=.fields ((vs.setIfInBounds 3 .none).setIfInBounds 4 (.bool AW)),slots:=sl}:=QI _ e1 AU;have C2:=(Qj (hp.update a (Obj.mapFields (·.setIfInBounds 3 Value.none))) (Obj.mapFields (·.setIfInBounds 4 (Value.bool AW))) (Ne.symm hCa)).trans C1;have b2:((hp.update a (Obj.mapFields (·.setIfInBounds 3 Value.none))).update a (Obj.mapFields (·.setIfInBounds 4 (Value.bool AW)))).get? b=O ob:=by rw[Qj _ _ hab,Qj _ _ hab];exact hb
 have f1:((vs.setIfInBounds 3 Value.none).setIfInBounds 4 (Value.bool AW))[1]?=O Value.none:=by rw[Ju (by decide),Ju (by decide)];exact h1
 have hs5:2<((vs.setIfInBounds 3 Value.none).setIfInBounds 4 (Value.bool AW)).size:=by rw[Array.size_setIfInBounds,Array.size_setIfInBounds];lia
 have oth:∀d o,d≠a->hp.get? d=O o->((hp.update a (Obj.mapFields (·.setIfInBounds 3 Value.none))).update a (Obj.mapFields (·.setIfInBounds 4 (Value.bool AW)))).get? d=O o:=λd o n g=>by rw[Qj _ _ (Ne.symm n),Qj _ _ (Ne.symm n)];exact g
 generalize ((hp.update a (Obj.mapFields (·.setIfInBounds 3 Value.none))).update a (Obj.mapFields (·.setIfInBounds 4 (Value.bool AW))))=h2 at e2 C2 b2 oth⊢;generalize ((vs.setIfInBounds 3 Value.none).setIfInBounds 4 (Value.bool AW))=v2 at e2 f1 hs5
 repeat (first|with_reducible refine Q2 e2 AU f1 ?_|with_reducible refine Qg e2 ?_|with_reducible refine Qg C2 ?_|wp_step)
 refine AA hh hab e2 AU hs5 b2 hdb jk (hE _ (λd o n g=>?_) ⟨_,QI _ e2 AU,?_⟩)
 .rw[Qj _ _ (Ne.symm n)];exact oth d o n g
 .rw[Ju (by decide)];exact f1
end
def SH(X:Cx)(KX:V->St->Hp->Prop):Prop:=∀(pins:List (J5×Obj))(σ:St)(H:Hp)(s:J0)(e C:J5)(dd:A8)(h':Heap),Inv X pins σ H s->H e=O (.ext (XO AX e C dd))->Wj (frs X.stack) e s.heap h'->Vh X.env.locals s.heap h' e->KX (.ref e) σ H->X.xe (.ref e) {s with heap:=h'}
theorem Cb{P:J4}{w:World}{K:Frag}{mg:Str->A1}{base:Heap}{N:List Str}{qual:Str}{scope:Scope}{f:J5}{cd:JZ}{A:Around}{outer:List Env}{s₀:J0}{H₀:Hp}{E:XK} :
  SH (Kv (K8 AX P w) P w K mg base N qual scope f cd A outer s₀ H₀ E) λv _ H=>∃e,v=.ref e/\E (.ref e) AV H:=by
 intro pins σ H s e C dd h' I hx p fl ⟨e',ee,hE⟩;cases ee;refine GN (h0:=s.heap) (outer:=outer) (s:={s with heap:=h'}) (L:=s₀.heap.objs.size) AU p fl λh2 p2 ja=>?_;have I':=I.passed hx p2
 exact⟨e,C,dd,H,rfl,I'.os,I'.bare,I'.base,I'.hok,hx,ja,hE⟩
noncomputable def XS(e C:J5)(dd:A8):Heap->Prop:=λh=>∃vs sl,h.get? e=O {cls:=.ref C,dict:=dd,data:=.fields vs,slots:=sl}/\vs[2]?=O .none
theorem XS.ok{P:J4}{w:World}{H:Hp}{h:Heap}{e C:J5}{dd:A8}(x:XS e C dd h):KY P w H h e (.ext (XS e C dd)):=
 ⟨x,let ⟨_,_,q,_⟩:=x;⟨_,q⟩,λh1 h2 ⟨vs,sl,q,z⟩ k=>⟨vs,sl,k _ q,z⟩⟩
section
variable{X:Cx}{x n:Str}{pos np hpos rpos cp:Pos}{cj:Nat}
noncomputable def Sw(KC:J5->AZ->Prop)(D C2:J5)(KX:V->St->Hp->Prop):V->St->Hp->Prop:=λv σ H=>∃a C dd bm,v=.ref a/\KC C bm/\H a=O (.ext (XO AX a C dd))/\(Value.ref C::bm).contains (.ref D)=AW /\
 ∀a2,H a2=AV->KX (.ref a2) σ (upd H a2 (.ext (XO AX a2 C2 AV)))
theorem GM{KC:J5->AZ->Prop}{D fD C2 f2:J5}{bmD jm:AZ}{tb:(V->St->Hp->Prop)->TS}{te:TE}{KX:V->St->Hp->Prop}{exc:J7}{body:List Stmt}{st:List Env}(qf:X.stack=X.env::st)(hfr:X.env.frame=O X.env.locals)
  (hcls:∀C bm,KC C bm->∃fI,XCls (model X.prog X.w) X.base C bm fI) (hD:XCls (model X.prog X.w) X.base D bmD fD) (hC2:XCls (model X.prog X.w) X.base C2 jm f2) (hg:Gl X x) (hm:X.mg x=O (.ref D))
  (hb:∀(KX:V->St->Hp->Prop)(W:JZ->J0->Prop)(pn:List (J5×Obj)),ZL AW (X.tried W pn) KX->PSs (X.tried W pn) body (tb KX)) (ht:∀a,PE (X.suite a) exc te)
  (hte:∀σ H(Q:VK),(∀a2,H a2=AV->Q (.ref a2) (upd H a2 (.ext (XO AW a2 C2 AV))))->te σ H Q) (hw:SH X KX) (hdb:(x==("__debug__" : Str))=AX:=by decide) :
  PS X (.Try body [.ExceptHandler (O (.Name x np)) AV [.Raise (O exc) (O (.Constant .none cj cp)) rpos] hpos] [] [] pos) (λDn σ H=>tb (Sw KC D C2 KX) Dn σ H):=by
 intro pins s σ H Dn I h;refine wpAny_Try_except ?_
 let W:JZ->J0->Prop:=λv s1=>∃a σ1 H1,v=.ref a/\Inv X pins σ1 H1 s1/\Fly AW s1.heap a/\Sw KC D C2 KX (.ref a) σ1 H1
 have hw':ZL AW (X.tried W pins) (Sw KC D C2 KX):=λpins' σ1 H1 s1 a C dd I1 hx fl hk=>⟨a,σ1,H1,rfl,I.untried I1,fl,hk⟩;refine Qy (hb _ W pins hw' [] s σ H Dn (I.tried W) h) (λf s1 h1=>?_) λv s1 h1=>?_
 .cases f with
  |next=>obtain⟨σ',H',I',q⟩:=h1;exact Jv ⟨σ',H',I.untried I',q⟩
  |brk=>obtain⟨σ',H',I',q⟩:=h1;exact⟨σ',H',I.untried I',q⟩
  |cont=>obtain⟨σ',H',I',q⟩:=h1;exact⟨σ',H',I.untried I',q⟩
  |ret u=>obtain⟨v,σ',H',I',r,q⟩:=h1;exact⟨v,σ',H',I.untried I',r,q⟩
 .obtain⟨a,σ1,H1,rfl,I1,fl,a',C,dd,bm,ea,kc,hx,jz,q⟩:=h1
  cases ea;obtain⟨fI,XC⟩:=hcls C bm kc;have hk:=I1.ok.frames;rw[qf]at hk;have hS:=I1.stack;rw[qf]at hS;refine XF hk hS hfr fl λh2 p2 ja=>?_;rw[←qf]at p2;have I2:=I1.passed hx p2;refine wpAny_handleBy_cons (codeAny_handlers_test ?_) (by intro q;cases q)
  refine Xc (I2.suite a) hg hm ?_ hdb;obtain⟨nm,qn,N,bs,sn,sub,ab,col,qN,k0,k1,k2,k3,k5,hC⟩:=XC.obj;obtain⟨qF,qn',N',bs',sn',sub',qP,col',dd2,j0,j1,j2,j3,j5,qu⟩:=hD.obj;obtain⟨nm3,qn3,N3,bs3,sn3,sub3,ab3,col3,dd3,l0,l1,l2,l3,l5,hC2'⟩:=hC2.obj;obtain⟨⟨vs,sl,ga,_⟩,_,_⟩:=I2.hok a _ hx;refine Ru (I2.bk _ _ hC) (I2.bk _ _ qu) (hD.tail _ _ AU) ga AU jz ?_;refine codeAny_handlers_suite (RF ja λh3 k3=>?_);have I3:=I2.kept (t':=s1.toks) k3;have g3:=k3 _ _ ga;obtain⟨oe,ve,he,hde,_,hz⟩:=ja;have hz:=hz AU;rw[ga]at he;cases he;cases hde;have I4:=I3.write (x:=a) (e:=a) (o:=.ext (XS a C dd)) (t':=s1.toks) (h':=h3) (by rw[hx];trivial) (.inl AU) (λ_ _ _ q=>q) ⟨_,g3⟩ (XS.ok ⟨_,_,g3,hz⟩);refine wpAny_execs_cons ?_;rw[arm_exec_Raise];refine Qb (Q4 ?_);show J9 _ _ (raiseStmt X.env (O (do let v ←eval exc X.env;standAt rpos;pure v)) (O (do let v ←constValue X.env .none;standAt rpos;pure v))) _ _ _;refine Am (b:=a) (λs P hp=>?_) AU (Qb (Qy (ht a pins _ σ1 _ (λv H'=>∃a2,upd H1 a (.ext (XS a C dd)) a2=AV/\v=.ref a2/\H'=upd (upd H1 a (.ext (XS a C dd))) a2 (.ext (XO AW a2 C2 AV))) (I4.suite a) (hte _ _ _ λa2 n2=>⟨a2,n2,rfl,rfl⟩)) (λu s5 h5=>Qb (Q4 (Qf ?_))) λ_ _ z=>z.elim))
  .exact Qb (Qf (Qb (Q4 (Qf hp))))
  .obtain⟨v,H5,I5',rv,a2,n2,rfl,rfl⟩:=h5
   obtain rfl:u=Value.ref a2:=rv;have I5:=I4.unsuite I5';have na:a2≠a:=λz=>by rw[z,U8]at n2;cases n2
   have nH:H1 a2=AV:=by rw[UZ na]at n2;exact n2
   obtain⟨⟨us,sl2,g5,z5⟩,_,_⟩:=I5.hok a2 _ U8;obtain⟨z1,_,_,z4⟩:=z5 AU;obtain⟨⟨ws,slw,gb,wz⟩,_,_⟩:=I5.hok a _ (by rw[UZ (Ne.symm na),U8]);have gC:=I5.bk _ _ hC2';refine⟨a2,C2,AV,us,sl2,nm3,qn3,N3,bs3,jm,AW,sn3,sub3,ab3,col3,dd3,l0,l1,l2,l3,l5,_,_,ws,rfl,hC2.tail _ _ AU,gC,g5,z1,z4,na,?_,gb,rfl,wz,λh' kk ⟨vs',g',z'⟩=>?_⟩
   .rintro rfl
    rw[gC]at g5;cases g5
   .have I6:=I5.write (x:=a2) (e:=a2) (o:=.ext (XO AX a2 C2 AV)) (t':=s5.toks) (h':=h') (by rw[U8];trivial) (.inl AU) kk ⟨_,g'⟩ (XO.ok ⟨_,_,g',λz=>nomatch z⟩)
    have gb':=kk a _ (Ne.symm na) gb;have I7:=I6.write (x:=a) (e:=a) (o:=.ext (XO AX a C dd)) (t':=s5.toks) (h':=h') (by rw[UZ (Ne.symm na),UZ (Ne.symm na),U8];trivial) (.inl AU) (λ_ _ _ q=>q) ⟨_,gb'⟩ (XO.ok ⟨_,_,gb',λz=>nomatch z⟩)
    have eH:upd (upd (upd (upd H1 a (.ext (XS a C dd))) a2 (.ext (XO AW a2 C2 AV))) a2 (.ext (XO AX a2 C2 AV))) a (.ext (XO AX a C dd))=upd H1 a2 (.ext (XO AX a2 C2 AV)):=by
     funext b;by_cases h1:b=a
     .subst h1;rw[U8,UZ (Ne.symm na),hx]
     .rw[UZ h1]
      by_cases h2:b=a2
      .subst h2;rw[U8,U8]
      .rw[UZ h2,UZ h2,UZ h1,UZ h2]
    rw[eH]at I7;have hk:=(I7.suite a).ok.frames;have hk:(X.A.mark (O (.ref a))).frames=O (X.env::st):=by rw[←qf];exact hk
    have hS:=I7.stack;rw[qf]at hS;refine Li (A2:=X.A) (Q:=λs''=>X.xe (.ref a2) s'') hk hS hfr g' AU z' λh4 p4 f4=>?_;rw[←qf]at p4;exact hw pins σ1 _ _ a2 C2 AV h4 I7 U8 p4 f4 (q a2 nH)
end
structure Xf(k:Nat)(A:Around):Prop where
 dp:A.depth+3*k+5<recursionLimit
 un:A.units+16*k+200<cLine
 gd:A.guards=O []
theorem Xf.depth{k:Nat}{A:Around}(r:Xf k A):A.depth<recursionLimit:=by have:=r.dp;omega
theorem Xf.make{k:Nat}{A:Around}(r:Xf (k+1) A)(C:J5)(us:AZ)(kw:List (Str×JZ)):Xf k (A.under (.builtin "type.__call__" ⟨.ref C::us,kw⟩)):=
 ⟨by have:=r.dp;rw[Mk];omega,by have:=r.un;rw[Mj];omega,(by first|exact r.gd|(simp[Around.under,guardIds];exact r.gd))⟩
theorem Room.markH{k:Nat}{A:Around}(r:Room k A)(h:A1):Xf k (A.mark h):=⟨r.dp,r.un,r.gd⟩
structure Ws(P:J4)(w:World)(K:Frag)(mg:Str->A1)(base:Heap)(k:Nat)(f:J5)(fd:J6)(ps:List Str)(sp:Sp):Prop where
 len:∀vs H Q E,sp vs H Q E->vs.length=ps.length
 run:∀(A:Around)(outer:List Env)(s:J0)(H:Hp)(args:Args)(us:AZ)(vs:List V)(Q:VK),Xf k A->Env0 P w K mg base A outer s H->BindsTo s fd args (ps.zip us)->Vals vs us->sp vs H Q E0 ->
  codeAny (model P w) A (.call (.ref f) args) (CR CX0 outer P w H s Q E0) s
noncomputable abbrev cxH(P:J4)(w:World)(K:Frag)(mg:Str->A1)(base:Heap)(N:List Str)(qual:Str)(scope:Scope)(f:J5)(cd:JZ)(A:Around)(outer:List Env)(s:J0)(H:Hp):Cx:=
 {Kv CX0 P w K mg base N qual scope f cd A outer s H E0 with calm:=AX,xe:=λ_ _=>False}
theorem BY{P:J4}{w:World}{K:Frag}{mg:Str->A1}{base:Heap}{N ps:List Str}{qual:Str}{scope:Scope}{f:J5}{cd:JZ}{A:Around}{outer:List Env}{s s1:J0}{H:Hp}{us:AZ}{vs:List V}
  (S:Xr N ps scope) (e0:Env0 P w K mg base A outer s H) (hl:vs.length=ps.length) (r:Vals vs us)
  (x:InCallC s s.heap.objs.size (bindL (envOfC qual scope s.heap.objs.size f cd).kindOf (ps.zip us) λ_=>AV) (cellsFrom (s.heap.objs.size+1) scope.names []) (bindC (envOfC qual scope s.heap.objs.size f cd).kindOf (ps.zip us) λ_=>AV) s1) :
  Inv (cxH P w K mg base N qual scope f cd A outer s H) [] (Z2 N vs) H s1:=by
 have I:=NG (CX:=CX0) (E:=E0) (A:={A with handled:=AV}) S AU ⟨e0.frames,e0.mod,e0.bs,e0.bsz,e0.funs,e0.frf,e0.hok,e0.bare⟩ hl r x;exact⟨⟨I.ok.mod,I.ok.kind,I.ok.glob,I.ok.blt,I.ok.above,I.ok.inj,I.ok.has,I.ok.cab,λz=>(nomatch z),Around.frames_deeper e0.frames,I.ok.stk,I.ok.exf,I.ok.bs,I.ok.bsz,I.ok.noex,I.ok.exfs,I.ok.funs,I.ok.frf⟩,I.os,I.bare,I.base,I.loc,I.cell,I.free,I.freeC,I.pin,I.hok,I.len⟩
theorem Hi{P:J4}{w:World}{K:Frag}{mg:Str->A1}{base:Heap}{k:Nat}{f:J5}{name qual:Str}{params:Arguments}{body:List Stmt}{scope:Scope}{dV kV doc pm cdv ct oc:JZ}{an od:A8}
  {osl:Array A1} {N ps:List Str} {sp:Sp} (lk:K.lookup f=O ⟨oc,od,.func (PySem.W.fnOf name qual params body scope dV kV doc pm an cdv ct),osl⟩) (hcd:PySem.W.codeIn K cdv qual=AW) (S:Xr N ps scope)
  (len:∀vs H Q E,sp vs H Q E->vs.length=ps.length)
  (hbody:∀(A:Around)(outer:List Env)(s:J0)(H:Hp)(vs:List V)(Q:VK),sp vs H Q E0 ->
   ∃t,PSs (cxH P w K mg base N qual scope f cdv A outer s H) body t/\t {nx:=λ_ H'=>Q .non H',rt:=Q} (Z2 N vs) H) :
  Ws P w K mg base k f (PySem.W.fnOf name qual params body scope dV kV doc pm an cdv ct) ps sp:=by
 refine⟨len,λA outer s H args us vs Q hr e0 hb r qB=>?_⟩;have hl:=len _ _ _ _ qB;have KX:K.In s.heap:=e0.mod.kin.keeps λb o e=>(e0.bs b o e).1;have lim:s.heap.NoLimit:=e0.mod.nolimit.keeps λb o e=>(e0.bs b o e).1
 have hkind:∀y∈ps.zip us,scope.names.lookup y.1=O .local∨(scope.names.lookup y.1=O .cell/\((cellsFrom (s.heap.objs.size+1) scope.names []).lookup y.1).isSome=AW):=λ⟨n,v⟩ hy=>by
  rcases S.par n (List.of_mem_zip hy).1 with q|q
  .exact .inl q
  .exact .inr ⟨q,PySem.W.cellsFrom_some _ _ _ (.inl q)⟩
 refine codeAny_call_function hr.depth (KX _ _ lk) AU S.co S.gen AU (PySem.W.codeRec_of KX hcd) (hb _ _ _ _ ?_);refine wpAny_newFunctionEnv_cells S.kind hkind λenv he s1 x=>?_;subst he
 refine⟨lim.keeps x.toInCall.keep,codeAny_func ?_⟩;obtain⟨t,ht,hq⟩:=hbody A outer s H vs Q qB;have I:=BY S e0 hl r x;refine Qy (ht [] s1 (Z2 N vs) H _ I hq) (λfl s' hs=>?_) λe s' hs=>hs.elim
 cases fl with
 |ret u=>obtain⟨v,σ',H',J,rv,q⟩:=hs;exact⟨v,H',J.os,J.bare,J.base,J.hok,rv,q⟩
 |next=>obtain⟨σ',H',J,q⟩:=hs;exact⟨V.non,H',J.os,J.bare,J.base,J.hok,rfl,q⟩
 |brk=>obtain⟨_,_,_,q⟩:=hs;exact False.elim q
 |cont=>obtain⟨_,_,_,q⟩:=hs;exact False.elim q
section
variable{X:Cx}{k:Nat}{f C:J5}{fd:J6}{ps:List Str}{sp:Sp}{x:Str}{p pos cpos:Pos}{e:J7}{es:A3}{t:TA}{bm:AZ}
theorem BX{pins:List (J5×Obj)}{σ:St}{H:Hp}{s:J0}{Q:VK}{us:AZ}{vs:List V}(M:XCls (model X.prog X.w) X.base C bm f)(F:Ws X.prog X.w X.K X.mg X.base k f fd ps sp)(hr:Xf (k+1) X.A)(hb:Zi X.K fd ps [])
  (I:Inv X pins σ H s) (r:Vals vs us) (hl:us.length<=J8)
  (h:∀a,H a=AV->sp (.ref a::vs) (upd H a (.ext (XO AW a C AV))) (λv H2=>v=.non/\Q (.ref a) H2) E0) :
  J9 (model X.prog X.w) X.A (call (.ref C) us) (EP X pins σ Q) X.xe s:=by
 obtain⟨nm,q,N,bs,sn,sub,ab,col,dd,k0,k1,k2,k3,k5,hC⟩:=M.obj;obtain⟨oI,hfI,hfc⟩:=M.fn;obtain⟨hp,g,d,tk,os⟩:=s;refine NB PySem.F.excBase_ValueError M.tail (I.bk _ _ hC) (fI:=f) (M.init.keeps I.bk) (I.bk _ _ hfI) hfc (λh' a made hz=>?_) hl;obtain⟨t',he,htn,ht⟩:=made.there;have I2:Inv X pins σ (upd H a (.ext (XO AW a C AV))) ⟨h',g,d,tk,os⟩:=I.laid (t':=tk) made.keeps hz (XO.ok ⟨_,_,he,λ_=>⟨rfl,⟨_,rfl⟩,rfl,by simp⟩⟩);have hq:=h a (I.hok.fresh hz);have r2:Vals (V.ref a::vs) (Value.ref a::us):=.cons AU r;have hl2:(Value.ref a::us++[]).length=ps.length:=by have e:=r2.length;rw[F.len _ _ _ _ hq]at e;rw[Q1];exact e.symm
 refine wpAny_call (Jx (F.run _ X.stack _ _ ⟨Value.ref a::us,[]⟩ (Value.ref a::us) _ _ (hr.make C us []) (I2.env0.make C us []) (by have:=hb _ (Value.ref a::us) I2.kIn hl2;rwa[Q1]at this) r2 hq) λr s' qH=>?_);cases r with
 |error e=>exact qH.elim
 |ok fl=>
  cases fl with
  |ret u=>obtain⟨v,H',I3,rv,ev,q3⟩:=I2.after qH;subst ev;exact⟨rv,⟨V.ref a,H',I3,rfl,q3⟩⟩
  |next=>exact False.elim qH
  |brk=>exact False.elim qH
  |cont=>exact False.elim qH
theorem Ca(M:XCls (model X.prog X.w) X.base C bm f)(F:Ws X.prog X.w X.K X.mg X.base k f fd ps sp)(hr:Xf (k+1) X.A)(hg:Gl X x)(hm:X.mg x=O (.ref C))(hk:PySem.W.keepIn X.K (.ref C)=AW)(hb:Zi X.K fd ps [])
  (ha:PA X (e::es) t) (hdb:(x==("__debug__" : Str))=AX:=by decide) (he:Ua (e::es) X.env=(AX,eval e X.env)::Ua es X.env:=by rfl) (hpl:(backTo pos (Ua es X.env)).any (·.1)=AX:=by rfl) :
  PE X (.Call (.Name x p) (e::es) [] pos) (tMkX C sp t):=by
 intro pins s σ H Q I h;refine Ji (Xc I hg hm ?_ hdb);refine JL (h₀:=X.base) I.ok.mod.kin hk (thn (ha pos pins s σ H _ I h) λus s1 ⟨vs,H1,I1,r,hl,q⟩=>⟨I1.kIn,?_⟩) he hpl;exact BX M F hr hb I1 r (by show us.length<=J8;rw[←r.length];exact hl) q
end
end L2
namespace DL
open PySem PySem.Spec L2
open PyProof.Rows hiding St
section
variable{P:J4}{w:World}{K:Frag}{mg:Str->A1}{base:Heap}{st:Stmt}{f f0 D:J5}{fd fd0:J6}{q:Str}{p1 p2 p3 p4 p5 p6:Pos}
theorem E5(F:Fun K "__init__" q st f fd)(hn:FnNm (Ki st) ["self", "text"] ["ValueError"])(hm:mg "ValueError" = AV)
  (hb:K9 st=[.Expr (.Call (.Attribute (.Name "ValueError" p1) "__init__" p2) [.Name "self" p3,.Name "text" p4] [] p5) p6])
  (ht:TF (.Name "ValueError" p1) "__init__" p2 [.Name "self" p3,.Name "text" p4] p5) :
  Ws P w K mg base 1 f fd ["self", "text"] (Wn (KC K)):=by
 obtain⟨oc,od,kV,doc,pm,an,cdv,ct,osl,rfl,lk,hcd⟩:=F.ex;refine Hi lk hcd (fq hn 2) (λvs H Q E ⟨a,C,dd,bm,x,e,_⟩=>by rw[e];rfl) λA outer s H vs Q ⟨a,C,dd,bm,x,e,kc,hx,hq⟩=>?_
 subst e;rw[hb];obtain⟨pl,ht⟩:=ht (cxH P w K mg base ["self", "text"] q (Ki st) f cdv A outer s H).env;refine⟨TH (SK (KC K) (Wq (Kc 0) (Wq (Kc 1) Xy))),PSs.kin λkin=>Tc (Vv (OK (pl:=pl) (Xi kin) (gq hn 0) hm (Za (pq hn 0) (Za (pq hn 1) Z8)) (ht:=ht))),?_⟩;exact⟨_,rfl,_,rfl,a,C,dd,bm,_,rfl,kc,hx,hq⟩
def MkH(P:J4)(w:World)(K:Frag)(mg:Str->A1)(base:Heap)(nm:Str):Prop:=
 ∃C bm f fd ps sp,mg nm=O (.ref C)/\PySem.W.keepIn K (.ref C)=AW/\ClsK K nm C bm/\(∀(M:Model)(h:Heap),K.In h->XCls M h C bm f)/\Ws P w K mg base 1 f fd ps sp/\Zi K fd ps []/\TK K nm C sp
end
section
variable{h:Heap}{mg:Str->A1}{p:J4}{l:XL0}{i:Nat}{p1 p2 p3 p4 p5 p6:Pos}
theorem E4(n:h.Ns mainGlobals mg)(Y:XYP p l h)(hD:(((("DealError" : Str),O i):Str×Option Nat)∈l))(hm:mg "ValueError" = AV)(hn:FnNm (Ki (ZQ (UT p i))) ["self", "text"] ["ValueError"])
  (hb:K9 (ZQ (UT p i))=[.Expr (.Call (.Attribute (.Name "ValueError" p1) "__init__" p2) [.Name "self" p3,.Name "text" p4] [] p5) p6])
  (ht:TF (.Name "ValueError" p1) "__init__" p2 [.Name "self" p3,.Name "text" p4] p5)
  (hbz:∀(kV doc pm:JZ)(an:A8)(cdv ct:JZ)(us:AZ),us.length=(["self", "text"]:List Str).length->bindArgs (PySem.W.fnOf "__init__" (Wh "DealError") (YI (ZQ (UT p i))) (K9 (ZQ (UT p i))) (Ki (ZQ (UT p i))) .none kV doc pm an cdv ct) ⟨us,[]⟩=pure ((["self", "text"]:List Str).zip us)) :
  ∃D f fd,Root p h mg i D f fd/\∀(P:J4)(w:World)(base:Heap),Ws P w (whole h) mg base 1 f fd ["self", "text"] (Wn (KC (whole h))):=by
 obtain⟨D,ND,bm,mD,x⟩:=Y.cl _ hD;have:=x.root;subst this;obtain⟨f,fd,hf,FU⟩:=XSt.fun (st:=ZQ (UT p i)) x;exact⟨D,f,fd,⟨by rw[n.eq_nsMap];exact x.ad,⟨ND,mD,x,hf⟩,XSt.clsFn (st:=ZQ (UT p i)) x Y.st hf,FU.binds hbz,λP w base=>Ew FU hn hm hb ht⟩,λP w base=>E5 FU hn hm hb ht⟩
theorem Hh(n:h.Ns mainGlobals mg)(Y:XYP p l h){D f:J5}{fd:J6}(R:Root p h mg i D f fd)(RH:∀(P:J4)(w:World)(base:Heap),Ws P w (whole h) mg base 1 f fd ["self", "text"] (Wn (KC (whole h)))){nm:Str}(hc:(nm,AV)∈l)(hf:K2 nm=[])(P:J4)(w:World)(base:Heap):MkH P w (whole h) mg base nm:=by obtain⟨C,N,bm,mN,x⟩:=Y.cl _ hc;obtain⟨ND,mD,xD,hi⟩:=R.ex;have ck:=XSt.clsK n x xD (f:=f) hi;exact⟨C,bm,f,fd,_,_,by rw[n.eq_nsMap];exact x.ad,x.keep,ck,λM h' k=>(x.keeps (Xd k)).xcls (xD.keeps (Xd k)) hi,RH P w base,R.bd,OH ck hf⟩
end
noncomputable def Wf(x nm:Str)(g:SM):SM:=λρ=>match g ρ with
 |.ex ρ1 d=>if Y5 x d=AW then .ex ρ1 (exD nm [])else .bad
 |o=>o
section
variable{X:Cx}{B G0:Hp}{KX:XW}{pos p2 p3 cpos np hpos rpos cp:Pos}{x nm tx:Str}{kk j cj:Nat}
theorem GL{g:SM}{body:List Stmt}{st:List Env}(cD:CK X.K X.mg x)(mk:MkH X.prog X.w X.K X.mg X.base nm)(hf:K2 nm=[])(hr:Room kk X.A)(hw:SH X KX)(hg:Gl X x)(qS:Gl X nm)
  (hb:∀(KX':XW)(W:JZ->J0->Prop)(pn:List (J5×Obj)),ZL AW (X.tried W pn) KX'->PSs (X.tried W pn) body (tS X.K B G0 KX' g)) (hk:2<=kk:=by decide)
  (qf:X.stack=X.env::st:=by rfl) (hfr:X.env.frame=O X.env.locals:=by rfl) (hdb:(x==("__debug__" : Str))=AX:=by decide) (jj:(nm==("__debug__" : Str))=AX:=by decide)
  (he:Ua [.Constant (.str tx) j p3] X.env=[(AX,eval (.Constant (.str tx) j p3) X.env)]:=by rfl) :
  PS X (.Try body [.ExceptHandler (O (.Name x np)) AV [.Raise (O (.Call (.Name nm p2) [.Constant (.str tx) j p3] [] cpos)) (O (.Constant .none cj cp)) rpos] hpos] [] [] pos) (tS X.K B G0 KX (Wf x nm g)):=PS.kin λkin=>by
 obtain⟨D',bmD,hm,ck⟩:=cD;obtain⟨fD,xD⟩:=ck.cls (model X.prog X.w) X.base kin;obtain⟨C,bm,f,fd,ps,sp,hm2,hkp,ck2,xc,F,hbd,qB⟩:=mk;refine Kt (GM (KC:=KC X.K) (tb:=λKX'=>tS X.K B G0 KX' g) (KX:=KX) qf hfr (Xi kin) xD (xc _ _ kin) hg hm hb (λa=>Ca (X:=X.suite a) (xc _ _ kin) F ((hr.mono hk).markH _) qS hm2 hkp hbd (Za TM Z8 (by rw[he];rfl)) jj (by rw[he];rfl) AU) (λσ H Q q=>?_) hw hdb) λDn σ H ⟨G,ρ,k,a⟩=>?_
 .refine⟨(show 1<=J8 by decide),λa2 n2=>qB a2 _ _ _ U8 (.inl ⟨hf,_,rfl⟩) λdd H' p=>⟨rfl,?_⟩⟩
  rcases p with ⟨_,rfl,rfl⟩|⟨z,_⟩
  .exact q a2 n2
  .exact absurd hf z
 .refine⟨G,ρ,k,?_⟩
  unfold Wf at a;cases z:g ρ with
  |nx ρ1=>rw[z]at a;exact a
  |rt d=>rw[z]at a;exact a
  |ro ds=>rw[z]at a;exact a
  |bk ρ1=>rw[z]at a;exact a
  |ct ρ1=>rw[z]at a;exact a
  |bad=>rw[z]at a;exact a.elim
  |ex ρ1 d=>
   rw[z]at a;dsimp only at a;intro v σ1 G1 H1 k1 s1 r;by_cases hc:Y5 x d=AW
   .rw[Qn hc]at a
    obtain⟨ad,C',dd,bm',rfl,kc,hx,hct⟩:=Rp r hc ck;refine⟨ad,C',dd,bm',rfl,kc,k1.gh _ _ hx,hct,λa2 n2=>?_⟩;have ex:Ext G1 H1 (upd G1 a2 (.ext (XO AX a2 C AV))) (upd H1 a2 (.ext (XO AX a2 C AV))):=Ext.new k1.gh n2;exact a (.ref a2) σ1 _ _ (k1.ext ex) (s1.trans ex.g) (.exc (vs:=[]) ck2 U8 ⟨hf,rfl⟩ .nil)
   .rw[QD hc]at a;exact a.elim
end
noncomputable def sOr(a b:SM):SM:=λρ=>match a ρ with
 |.bad=>b ρ
 |o=>o
theorem Lh{X:Cx}{B G0:Hp}{KX:XW}{st:Stmt}{a b:SM}(h1:PS X st (tS X.K B G0 KX a))(h2:PS X st (tS X.K B G0 KX b)):PS X st (tS X.K B G0 KX (sOr a b)):=by
 intro pins s σ H Dn I q;obtain⟨G,ρ,k,q⟩:=q;unfold sOr at q;cases z:a ρ with
 |bad=>rw[z]at q;exact h2 pins s σ H Dn I ⟨G,ρ,k,q⟩
 |_=>rw[z]at q;exact h1 pins s σ H Dn I ⟨G,ρ,k,by rw[z];exact q⟩
theorem Hg{a b:SM}{ρ:Ut}{o:Out}(h:a ρ=o)(hn:o≠.bad):sOr a b ρ=o:=by unfold sOr;rw[h];cases o<;>first|rfl|exact absurd AU hn
theorem Hf{a b:SM}{ρ:Ut}{o:Out}(h:a ρ=.bad)(h2:b ρ=o):sOr a b ρ=o:=by unfold sOr;rw[h];exact h2
end DL
namespace L2
open PySem PySem.Spec PyProof.Rows
structure XIs(C:J5)(bm:AZ)(a:J5)(h:Heap):Prop where
 tl:Tail VB bm
 cls:∃nm q N bs hdct sn sub ab col dd k0 k1 k2 k3 k5 newId,h.get? C=O (excClassObj nm q C N bs bm hdct sn sub ab col dd k0 k1 k2 k3 k5 newId)
 fc:∀M:Model,Kp M C "__class__" (O (.builtin "object.__class__")) h
 fg:∀M:Model,Kp M C "__getattribute__" (O (.builtin "BaseException.__getattribute__")) h
 fa:∀M:Model,Kp M C "__getattr__" none h
 ob:∃o,h.get? a=O o/\o.cls=.ref C
def Yv(D:J5)(h:Heap):Prop:=∃nm q N bs bm hdct sn sub ab col dd k0 k1 k2 k3 k5 newId,h.get? D=O (excClassObj nm q D N bs bm hdct sn sub ab col dd k0 k1 k2 k3 k5 newId)
theorem CF{C D a:J5}{bm:AZ}{b:Bool}(hb:(Value.ref C::bm).contains (.ref D)=b)(dep:Int)(tk:Tok) :
  Meets (Builtin.«isinstance.nested» ⟨[.ref a,.ref D,.int dep tk],[]⟩)
   (λ_ R s=>(XIs C bm a s.heap/\Yv D s.heap)/\∀tk',R (.ok (.ret (.bool b))) {s with toks:=tk'}):=by
 intro prog w A R s hs;obtain⟨h,g,d,t,os⟩:=s;obtain⟨⟨X,qF,qn',N',bs',bm',hd',sn',sub',qP,col',dd2,j0,j1,j2,j3,j5,ni',hD⟩,hq⟩:=hs;obtain⟨nm,qn,N,bs,hd1,sn,sub,ab,col,qN,k0,k1,k2,k3,k5,ni,hC⟩:=X.cls;obtain⟨o,hx,hc⟩:=X.ob;have hT:(⟨h,g,d,t,os⟩:J0).TypeIs (.ref D) "type" :=⟨_,hD,rfl⟩
 have f2:=tc_sub;unfold Builtin.«isinstance.nested»;refine Qb ?_;unfold typeOf;refine Qb (Qg hx (Qf ?_));rw[hc];by_cases e:C=D
 .subst e
  have hb1:b=AW:=by rw[←hb];simp
  subst hb1;rw[if_pos (by simp)];exact Qb (wpAny_rule (Qf (hq t)))
 .rw[if_neg (by simp[e])]
  refine Qb (Qb (Qg hD (Qf ?_)));rw[Qn (show(Value.type "type" == Value.type "type")=AW by decide)]
  k_delta "plainIsInstance"
  unfold isType isInstance
  repeat (first|(with_reducible refine Qg hx ?_;rw[hc])|with_reducible refine Qg hD ?_|with_reducible refine Qg hC ?_|(with_reducible refine Qz hC ?_;rw[hb])|wp_step)
  cases b with
  |true=>wp_walk;exact hq t
  |false=>
   rw[QD (by decide)];refine Qb (RQ PySem.F.excAttr_ValueError X.tl hC (X.fc _) (X.fg _) (X.fa _) hx hc ?_)
   repeat (first|with_reducible refine Qg hC ?_|(with_reducible refine Qz hC ?_;rw[hb])|wp_step)
   exact hq _
noncomputable def Yu:List Bool->Bool
 |[]=>AX
 |b::r=>b || Yu r
theorem Nr{prog:J4}{w:World}{A:Around}{E:JZ->J0->Prop}{C a:J5}{bm:AZ}{dep:Int}:∀(Ds:List (J5×Bool))(s:J0)(Q:Option Fin×Unit->J0->Prop),
  (∀p∈Ds,(Value.ref C::bm).contains (.ref p.1)=p.2/\Yv p.1 s.heap)->XIs C bm a s.heap->(∀tk,Q (if Yu (Ds.map (·.2))then O (.done (.ret (.bool AW)))else AV,()) {s with toks:=tk}) ->
  J9 (model prog w) A (forIn (Ds.map λp=>Value.ref p.1) ((none:Option Fin),()) λc _=>do
   if ←truthy (←call (.builtin "isinstance.nested") [.ref a,c,rawInt (dep+1)])then
    let r ←ret (.bool AW)
    pure (ForInStep.done (O r,()))
   else pure (ForInStep.yield (AV,()))) Q E s
 |[],s,Q,_,_,h=>Qf (h s.toks)
 |(D,b)::Ds,s,Q,e,X,h=>by
  obtain⟨e1,e2⟩:=e (D,b) Qp;rw[Qw,List.forIn_cons];refine Qb (Qb (call_function_meets F.kind_isinstance_nested F.plain_isinstance_nested F.entry_isinstance_nested (F.args_isinstance_nested_3 _ _ _) (CF e1 _ _) ⟨⟨X,e2⟩,λtk'=>?_⟩));cases b with
  |true=>show J9 _ _ (truthy (.bool AW) >>= _) _ _ _;refine Qb (m:=truthy (.bool AW)) (Qf ?_);exact Qb (Qf (Qf (Qf (h tk'))))
  |false=>show J9 _ _ (truthy (.bool AX) >>= _) _ _ _;refine Qb (m:=truthy (.bool AX)) (Qf ?_);exact Qf (Nr Ds _ Q (λp m=>e p (Qo _ m)) X λtk=>h tk)
theorem GK{C a tp:J5}{bm:AZ}{dd:A8}{n:Nat}{sl:Array A1}(Ds:List (J5×Bool))(tk:Tok) :
  Meets (Builtin.«isinstance.nested» ⟨[.ref a,.ref tp,.int 0 tk],[]⟩)
   (λ_ R s=>((∀p∈Ds,(Value.ref C::bm).contains (.ref p.1)=p.2/\Yv p.1 s.heap)/\XIs C bm a s.heap/\s.heap.get? tp=O ⟨.type "tuple", dd,.seq (Ds.map λp=>Value.ref p.1).toArray n,sl⟩)/\∀tk',R (.ok (.ret (.bool (Yu (Ds.map (·.2)))))) {s with toks:=tk'}):=by
 intro prog w A R s hs;obtain⟨h,g,d,tt,os⟩:=s;obtain⟨⟨hD,X,htp⟩,hq⟩:=hs;obtain⟨nm,qn,N,bs,hd1,sn,sub,ab,col,qN,k0,k1,k2,k3,k5,ni,hC⟩:=X.cls;obtain⟨o,hx,hc⟩:=X.ob;have hT2:(⟨h,g,d,tt,os⟩:J0).TypeIs (.ref tp) "tuple" :=⟨_,htp,rfl⟩
 have f1:=F.isi_sub_tuple;have hne:C≠tp:=λe=>by subst e;rw[htp]at hC;have:Value.type "tuple" = Value.type "type" :=JX Obj.cls (Jb hC);exact absurd this (by decide)
 unfold Builtin.«isinstance.nested»;refine Qb ?_;unfold typeOf;refine Qb (Qg hx (Qf ?_));rw[hc,if_neg (by simp[hne])];refine Qb (Qb (Qg htp (Qf ?_)));rw[QD (show ¬((Value.type "tuple" == Value.type "type")=AW)by decide)]
 repeat (any_goals (first|assumption|wp_step))
 refine wpAny_arrayLoop ?_;simp only[JD,List.toList_toArray];refine Nr (dep:=0) Ds _ _ hD X λtk'=>?_
 cases hb:Yu (Ds.map (·.2))with
 |true=>
  rw[hb]at hq;simp only[if_true]
  repeat (any_goals (first|assumption|wp_step))
  exact hq tk'
 |false=>
  rw[hb]at hq;simp only[Jl,JU]
  repeat (any_goals (first|assumption|wp_step))
  exact hq tk'
theorem E3{prog:J4}{w:World}{A:Around}{E:JZ->J0->Prop}{Q:JZ->J0->Prop}{s:J0}{C a tp:J5}{bm:AZ}{dd:A8}{n:Nat}{sl:Array A1}(Ds:List (J5×Bool))(hD:∀p∈Ds,(Value.ref C::bm).contains (.ref p.1)=p.2/\Yv p.1 s.heap)(X:XIs C bm a s.heap)
  (htp:s.heap.get? tp=O ⟨.type "tuple", dd,.seq (Ds.map λp=>Value.ref p.1).toArray n,sl⟩) (h:∀tk,Q (.bool (Yu (Ds.map (·.2)))) {s with toks:=tk}):J9 (model prog w) A (call (.builtin "isinstance") [.ref a,.ref tp]) Q E s:=
 call_isinstance (S:=λ_ R s=>((∀p∈Ds,(Value.ref C::bm).contains (.ref p.1)=p.2/\Yv p.1 s.heap)/\XIs C bm a s.heap/\s.heap.get? tp=O ⟨.type "tuple", dd,.seq (Ds.map λp=>Value.ref p.1).toArray n,sl⟩)/\∀tk',R (.ok (.ret (.bool (Yu (Ds.map (·.2)))))) {s with toks:=tk'})
  (λprog w A R s hs=>isinstance_outer (GK Ds _ prog w A R s hs) (λz=>nomatch z)) ⟨⟨hD,X,htp⟩,h⟩
end L2
namespace DL
open PySem PySem.Spec L2
open PyProof.Rows hiding St
section
variable{X:Cx}{B G0:Hp}{e:J7}{pos:Pos}
theorem CD(kin:X.K.In X.base):Zx X (.builtin "isinstance") (λxs H Q=>∃a C dd bm nm fr tp D1 D2 bm1 jm n1 n2,xs=[.ref a,.ref tp]/\ClsK X.K nm C bm/\ClsK X.K n1 D1 bm1/\ClsK X.K n2 D2 jm/\H a=O (.ext (XO fr a C dd))/\H tp=O (.tup [.ref D1,.ref D2]) /\
  Q (.bl ((Value.ref C::bm).contains (.ref D1) || (Value.ref C::bm).contains (.ref D2))) H):=by
 intro pins s σ H xs us Q I r h;obtain⟨a,C,dd,bm,nm,fr,tp,D1,D2,bm1,jm,n1,n2,rfl,c,c1,c2,hx,ht,q⟩:=h;obtain⟨u,w',rfl,r1,r2⟩:=Vo r;obtain rfl:u=Value.ref a:=r1;obtain rfl:w'=Value.ref tp:=r2;obtain⟨its,rv,⟨⟨cl,qp,da,sl⟩,e,hc,n,hd⟩,_⟩:=I.tuple (SqT.of ht);obtain⟨x,y,rfl,ra,rb⟩:=Vo rv;obtain rfl:x=Value.ref D1:=ra;obtain rfl:y=Value.ref D2:=rb;simp only at hc hd;subst hc hd;obtain⟨⟨vs,qz,ga,_⟩,_,_⟩:=I.hok a _ hx;have own:∀{n:Str}{D:J5}{b:AZ},ClsK X.K n D b->Yv D s.heap:=λk=>by obtain⟨fI,XC⟩:=k.cls (model X.prog X.w) X.base kin;obtain⟨nm,qn,N,bs,sn,sub,ab,col,qN,k0,k1,k2,k3,k5,hC⟩:=XC.obj;exact⟨nm,qn,N,bs,_,_,sn,sub,ab,col,qN,k0,k1,k2,k3,k5,_,I.bk _ _ hC⟩
 have is:XIs C bm a s.heap:=by obtain⟨fI,XC⟩:=c.cls (model X.prog X.w) X.base kin;obtain⟨nm,qn,N,bs,sn,sub,ab,col,qN,k0,k1,k2,k3,k5,hC⟩:=XC.obj;exact⟨XC.tail,⟨nm,qn,N,bs,_,sn,sub,ab,col,qN,k0,k1,k2,k3,k5,_,I.bk _ _ hC⟩,λM=>let ⟨_,XM⟩:=c.cls M X.base kin;XM.cl.keeps I.bk,λM=>let ⟨_,XM⟩:=c.cls M X.base kin;XM.ga.keeps I.bk,λM=>let ⟨_,XM⟩:=c.cls M X.base kin;XM.gh.keeps I.bk,_,ga,rfl⟩
 refine E3 (C:=C) (bm:=bm) [(D1,(Value.ref C::bm).contains (.ref D1)),(D2,(Value.ref C::bm).contains (.ref D2))] (λp m=>?_) is e λtk=>⟨.bl _,H,I.tok tk,?_,q⟩
 .simp only[QM,List.not_mem_nil,or_false]at m
  rcases m with rfl|rfl
  .exact⟨rfl,own c1⟩
  .exact⟨rfl,own c2⟩
 .show RelV (.bl _) (.bool (_ || (_ || AX)))
  rw[Bool.or_false];rfl
noncomputable def Sv(x y:Str)(d:D):A4:=match Ym x d,Ym y d with
 |some (.bool a),O (.bool b)=>O (.bool (a || b))
 |_,_=>AV
theorem E1{f:M D}{x y:Str}{p2 p3 p4 p5:Pos}{kt}(cD:CK X.K X.mg x)(cE:CK X.K X.mg y)(hg:Gl X "isinstance")(hm:X.mg "isinstance" = AV)(qS:Gl X x)(hg3:Gl X y)(ha:PE X e (tD X.K B G0 f))(hdb:(x==("__debug__" : Str))=AX:=by decide)(jj:(y==("__debug__" : Str))=AX:=by decide)
  (hs:Ua [e,.Tuple [.Name x p3,.Name y p4] kt p5] X.env=(AX,eval e X.env)::Ua [.Tuple [.Name x p3,.Name y p4] kt p5] X.env:=by rfl)
  (hs2:Ua [.Tuple [.Name x p3,.Name y p4] kt p5] X.env=[(AX,eval (.Tuple [.Name x p3,.Name y p4] kt p5) X.env)]:=by rfl)
  (q8:Ua [.Name x p3,.Name y p4] X.env=(AX,eval (.Name x p3) X.env)::Ua [.Name y p4] X.env:=by rfl) (hs4:Ua [.Name y p4] X.env=[(AX,eval (.Name y p4) X.env)]:=by rfl) :
  PE X (.Call (.Name "isinstance" p2) [e,.Tuple [.Name x p3,.Name y p4] kt p5] [] pos) (tD X.K B G0 (UH f λd=>UG (Sv x y d))):=PE.kin λkin=>by
 obtain⟨D1,bm1,hm1,ck1⟩:=cD;obtain⟨D2,jm,hm2,ck2⟩:=cE;have T:=PJ (x1:=kt) (pos:=p5) (Za (T2 (v:=.ref D1) (pos:=p3) qS hm1 AU hdb) (Za (T2 (v:=.ref D2) (pos:=p4) hg3 hm2 AU jj) Z8 (by rw[hs4];rfl)) q8);refine UV (VD (CD kin) hg hm RV (Za ha (Za T Z8 (by rw[hs2];rfl)) hs) (by decide) (by decide) hs (by rw[hs2];rfl)) λσ H Q q=>?_
 refine tM.one (R:=Rep X.K) q λv H2 G ρ d k r a=>?_
 obtain⟨d',e',a'⟩:=aft.opt a;unfold Sv at e';split at e'
 .rename_i t u h1 h2
  cases e';unfold Ym at h1;split at h1
  .obtain⟨ad,C,dd,bm,qF,vs,ds,rfl,e0,c,hx,_,_⟩:=r.exc_inv
   cases e0;cases h1;cases h2;refine⟨(show 2<=J8 by decide),λp hp=>?_⟩;refine⟨ad,C,dd,bm,_,AX,p,D1,D2,bm1,jm,x,y,rfl,c,ck1,ck2,(k.gh.trans (KT hp)) _ _ hx,U8,?_⟩;rw[c.has ck1,c.has ck2];exact aft.done (show aft X.K B G0 (Rep X.K) (.ok _ ρ) G σ Q from a') k (Ext.hid k.gh hp) (.bl _)
  .cases h1
 .cases e'
end
def TabP(w:World)(nm:Str)(D:List (Str×Int))(h:Heap):Prop:=h.Ns mainGlobals (h.nsMap mainGlobals)/\∃a o es ep,h.nsMap mainGlobals nm=O (.ref a)/\(a==sysModules)=AX/\h.get? a=O o/\o.ExactDict/\o.data=.dict es ep/\es.toList.map YQ=D.map λp=>(hashStr w p.1,O p.1,O p.2)
def XX(w:World)(K:Frag)(mg:Str->A1)(nm:Str)(D:List (Str×Int)):Prop:=∃a o es ep,mg nm=O (.ref a)/\(a==sysModules)=AX/\K.lookup a=O o/\o.ExactDict/\o.data=.dict es ep/\es.toList.map YQ=D.map λp=>(hashStr w p.1,O p.1,O p.2)
theorem He{w:World}{nm:Str}{D:List (Str×Int)}{h:Heap}(e:Vq nm h=Vp w D):TabP w nm D h:=by
 unfold Vq Vp at e;split at e
 case h_2=>cases e
 rename_i a ha;split at e
 case h_2=>cases e
 rename_i t es ep sl ho;obtain⟨e1,e2⟩:=JF (Jb e);simp only[Qm,beq_iff_eq,bne_iff_ne,ne_eq]at e1;obtain⟨⟨⟨rfl,h2⟩,h3⟩,h4⟩:=e1;exact⟨.of_isNs h4,a,_,es,ep,ha,by simpa using h3,ho,⟨rfl,rfl,Array.eq_empty_of_size_eq_zero h2⟩,rfl,e2⟩
theorem TabP.keeps{w:World}{nm:Str}{D:List (Str×Int)}{h h':Heap}(x:TabP w nm D h)(k:∀b o,h.get? b=O o->h'.get? b=O o):TabP w nm D h':=by obtain⟨n,a,o,es,ep,h1,h2,h3,h4,h5,h6⟩:=x;have e:=(n.keeps k).eq_nsMap;refine⟨e ▸ n.keeps k,a,o,es,ep,?_,h2,k _ _ h3,h4,h5,h6⟩;rw[←e];exact h1
theorem GJ{w:World}{nm:Str}{D:List (Str×Int)}{h:Heap}{mg:Str->A1}(n:h.Ns mainGlobals mg)(x:TabP w nm D h):XX w (whole h) mg nm D:=by obtain⟨_,a,o,es,ep,h1,h2,h3,h4,h5,h6⟩:=x;exact⟨a,o,es,ep,by rw[n.eq_nsMap];exact h1,h2,by rw[Zm];exact h3,h4,h5,h6⟩
noncomputable def ZD(D:List (Str×Int)):List (Key×V):=D.map λp=>(.inr p.1,.int p.2)
theorem O3{P:J4}{w:World}:∀{es:List DictEntry}{D:List (Str×Int)},es.map YQ=D.map (λp=>(hashStr w p.1,O p.1,O p.2))->∃vs,Pairs (Z7 P w) es vs/\KV (ZD D) vs/\∀e∈es,∃k,(Z7 P w).is k e.key=AW/\e.hash=(Z7 P w).hash k
 |[],[],_=>⟨[],.nil,.nil,λ_ m=>nomatch m⟩
 |[],_::_,h=>by cases h
 |_::_,[],h=>by cases h
 |e::es,p::D,h=>by
  rw[Qw,Qw]at h;obtain⟨h1,h2⟩:=List.cons.inj h;obtain⟨vs,g1,g2,g3⟩:=O3 (P:=P) h2;obtain⟨hh,key,val⟩:=e;obtain⟨x,i⟩:=p;unfold YQ at h1;obtain⟨h3,h4⟩:=JF h1;obtain⟨h5,h6⟩:=JF h4;dsimp only at h3 h5 h6
  have hk:∃t,key=.str x t:=by
   cases key with
   |str y t=>cases h5;exact⟨t,rfl⟩
   |_=>cases h5
  have hv:∃u,val=.int i u:=by
   cases val with
   |int y t=>cases h6;exact⟨t,rfl⟩
   |_=>cases h6
  obtain⟨t,rfl⟩:=hk;obtain⟨u,rfl⟩:=hv;refine⟨(.inr x,.int i u)::vs,.cons (RJ P w x t) AU g1,.cons ⟨rfl,u,rfl⟩ g2,λe m=>?_⟩;rcases QM.mp m with rfl|m
  .exact⟨.inr x,RJ P w x t,h3⟩
  .exact g3 e m
theorem GI{D:List (Str×Int)}{z:Str}:(ZR (ZD D) (.inr z)).getD .non=match D.lookup z with|some i=>.int i|none=>.non:=by
 induction D with
 |nil=>rfl
 |cons p D ih=>
  obtain⟨x,i⟩:=p;by_cases e:x=z
  .subst e
   have:(ZD ((x,i)::D))=(.inr x,.int i)::ZD D:=rfl;rw[this,OM AU,QQ,beq_self_eq_true];rfl
  .have:(ZD ((x,i)::D))=(.inr x,.int i)::ZD D:=rfl
   have b:(z==x)=AX:=by simpa using λq=>e q.symm
   rw[this,OL (λq=>e (Sum.inr.inj q)),ih,QQ,b]
noncomputable def VL(T:List (Str×Int))(g:M AY):M D:=UH g λks=>UG (match ks with | [.str z]=>O (match T.lookup z with|some i=>.int i|none=>.none)|_=>AV)
section
variable{X:Cx}{B G0:Hp}{e:J7}{es:A3}{apos cpos p2:Pos}
theorem GH{L:List (Str×Int)}{t:TA}{x:Str}(T:XX X.w X.K X.mg x L)(hND:(L.map (·.1)).Nodup)(hg:Gl X x)(ha:PA X (e::es) t)(hdb:(x==("__debug__" : Str))=AX)
  (hbase:attributeBase (.Name x p2) "get" X.env (eval (.Name x p2) X.env)=eval (.Name x p2) X.env)
  (hfew:((backTo cpos (Ua (e::es) X.env)).all (λx=>!x.1)&&(backToKw cpos (keywordEach [] X.env)).all (λx=>x.1.isSome)
   && decide ((e::es).length+([]:List Keyword).length+(if([]:List Keyword).isEmpty then 0 else 1)<30))=AW)
  (hline:(apos.endLine==cpos.line)=AW) (hs:Ua (e::es) X.env=(AX,eval e X.env)::Ua es X.env) (hplain:(backTo cpos (Ua es X.env)).any (·.1)=AX) :
  PE X (.Call (.Attribute (.Name x p2) "get" apos) (e::es) [] cpos) (λσ H Q=>t σ H λxs H2=>∃z,xs=[.str z]/\Q (match L.lookup z with|some i=>.int i|none=>.non) H2):=by
 intro pins s σ H Q I q;obtain⟨a,o,es',ep,hm,hsm,hk,hx,hd,hes⟩:=T;have at':∀{H1:Hp}{s1:J0}{p1:List (J5×Obj)}{σ1:St},Inv X p1 σ1 H1 s1->s1.heap.get? a=O o:=λI1=>I1.kIn a o hk;refine wpAny_Call_method_late hbase hfew hline AU (Xc I hg hm ?_ hdb)
 refine⟨"dict", "dict.get", F.plainAttrs_dict,F.slot_dict_get,F.type_dict_get,⟨o,at' I,hx.1⟩,λb e=>by cases e;exact⟨o,at' I,hx.2.1⟩,?_⟩;have hA:=ha cpos pins s σ H _ I q;rw[hs]at hA⊢;refine Calls.callWith_builtin (by show(AX || (backTo cpos (Ua es X.env)).any (·.1))=AX;rw[hplain]<;>rfl) (Calls.evalArgs_plain ?_);refine thn hA λus s2 ⟨vs,H2,I2,r2,z,e2,q2⟩=>?_;subst e2
 obtain⟨u,rfl,ru⟩:=r2.one;obtain⟨ws,g1,g2,g3⟩:=O3 (P:=X.prog) hes;have dd:s2.heap.DictOf (Z7 X.prog X.w) a ws:=⟨o,es',ep,at' I2,hx,hd,λe m=>g3 e (by simpa using m),g1,by have:ws.map (·.1)=(ZD L).map (·.1):=g2.keys.symm;rw[this];unfold ZD;rw[Ja];have:=List.Pairwise.map (S:=λa b:Key=>a≠b) (λx:Str=>(Sum.inr x:Key)) (λ_ _ h e=>h (Sum.inr.inj e)) hND;rw[Ja]at this;exact this⟩
 refine call_meetsIn PySem.F.slot_dict_get dd.typeIs PySem.F.entry_dict_get (PySem.F.args_dict_get_2 _ _) (meets_dict_get (Z7 X.prog X.w) a (La (k:=.inr z) ru) hsm) ⟨_,dd.mapOf,?_⟩;exact⟨_,H2,I2.tok _,GI ▸ (g2.val (.inr z)).getD (d:=.non) AU,q2⟩
theorem EY{L:List (Str×Int)}{g:M AY}{x:Str}(T:XX X.w X.K X.mg x L)(hND:(L.map (·.1)).Nodup)(hg:Gl X x)(ha:PA X (e::es) (tDs X.K B G0 g))(hdb:(x==("__debug__" : Str))=AX:=by decide)
  (hbase:attributeBase (.Name x p2) "get" X.env (eval (.Name x p2) X.env)=eval (.Name x p2) X.env:=by rfl)
  (hfew:((backTo cpos (Ua (e::es) X.env)).all (λx=>!x.1)&&(backToKw cpos (keywordEach [] X.env)).all (λx=>x.1.isSome)
   && decide ((e::es).length+([]:List Keyword).length+(if([]:List Keyword).isEmpty then 0 else 1)<30))=AW:=by rfl)
  (hline:(apos.endLine==cpos.line)=AW:=by rfl) (hs:Ua (e::es) X.env=(AX,eval e X.env)::Ua es X.env:=by rfl) (hplain:(backTo cpos (Ua es X.env)).any (·.1)=AX:=by rfl) :
  PE X (.Call (.Attribute (.Name x p2) "get" apos) (e::es) [] cpos) (tD X.K B G0 (VL L g)):=
 UV (GH T hND hg ha hdb hbase hfew hline hs hplain) λσ H Q q=>by
  refine tM.one (R:=Reps X.K) q λv H2 G ρ y k r a=>?_
  obtain⟨d,e,a'⟩:=a.opt;split at e
  .rename_i z
   cases e;obtain⟨u,rfl,ru⟩:=r.one_inv;have:=ru.str_inv;subst this;refine⟨z,rfl,a'.now k ?_⟩;cases L.lookup z with
   |none=>exact .non
   |some i=>exact .int i
  .cases e
end
theorem GF{L:List (Str×Int)}{g:M AY}{ρ ρ1:Ut}{z:Str}{r:D}(h:g ρ=.ok [.str z] ρ1)(h3:(match L.lookup z with|some i=>int i|none=>.none)=r):VL L g ρ=.ok r ρ1:=by unfold VL;exact Kd h (KQ (JX O h3))
end DL
namespace W
open PySem PySem.Spec L2 DL
open PyProof.Rows hiding St
noncomputable def top(i:Nat):Stmt:=PySem.Challenge.pw_wishdeal_k72_dealings_carried.main.body.getD i (.Pass ⟨0,0,0,0⟩)
abbrev GG(s:Stmt)(x:Str):Prop:=(Ki s).names.lookup x=O NameKind.globalImplicit
abbrev VV(s:Stmt)(x:Str):Prop:=L2.Vis (Ki s) x
abbrev LL(s:Stmt)(x:Str):Prop:=L2.Loc (Ki s) x
theorem vk{s:Stmt}{x:Str}(h:(Ki s).names.lookup x=O .local∨(Ki s).names.lookup x=O .cell∨(Ki s).names.lookup x=O .free):VV s x:=h
theorem lk{s:Stmt}{x:Str}(h:(Ki s).names.lookup x=O .local∨(Ki s).names.lookup x=O .cell):LL s x:=h
structure Txt(K:Frag)(mg:Str->A1):Prop where
 b_ValueError:mg "ValueError" = AV
 b_all:mg "all" = AV
 b_bool:mg "bool" = AV
 b_enumerate:mg "enumerate" = AV
 b_int:mg "int" = AV
 b_isinstance:mg "isinstance" = AV
 b_len:mg "len" = AV
 b_list:mg "list" = AV
 b_max:mg "max" = AV
 b_min:mg "min" = AV
 b_range:mg "range" = AV
 b_repr:mg "repr" = AV
 b_set:mg "set" = AV
 b_sorted:mg "sorted" = AV
 b_str:mg "str" = AV
 b_sum:mg "sum" = AV
 b_tuple:mg "tuple" = AV
 c_MOST_ASKERS:∃t,mg "MOST_ASKERS" = O (Value.int 7 t)
 c_MOST_COPIES:∃t,mg "MOST_COPIES" = O (Value.int 7 t)
 c_MOST_RANKS:∃t,mg "MOST_RANKS" = O (Value.int 5 t)
 c_MOST_THINGS:∃t,mg "MOST_THINGS" = O (Value.int 6 t)
 x_DealError:CK K mg "DealError"
 x_NoAim:CK K mg "NoAim"
 x_NoChange:CK K mg "NoChange"
 x_NoWishes:CK K mg "NoWishes"
 sm:SmK K
noncomputable abbrev S3:List (Str×Int):=[("list", 3),("copies", 3),("come", 2),("go", 2),("thing", 2)]
noncomputable abbrev Sau:Stmt:=top 34
noncomputable abbrev N_au:List Str:=["_law_wishes_here", "_law_change_here", "_law_copies", "_law_lists", "_law_word"]
theorem Hau:NmF Sau N_au:=Kr (by decide +kernel)
noncomputable def W1:SM:=
 Ux (KW (Us 0) (gT 2 (gNC (gN 2) (gNC (gN 3) (gN0)))))
 (Ux (UU 4 (UC 1 (Uu (.int 0))))
 (Ux (sIf (Km oEq 4 (Uu (.str "copies")))
 (UF (Yb (UE Uf (UB (oIB λi j=>decide (i<j)) (UC 1 (Uu (.int 1))) (Kn 2))) (UE Uf (UB (oIB λi j=>decide (i<j)) (UC 1 (Uu (.int 2))) (Uu (.int 8))))))
 (sNx))
 (Ux (sIf (Km oEq 4 (Uu (.str "go")))
 (UF (Yb (UE Uf (UB (oIB λi j=>decide (i<j)) (UC 1 (Uu (.int 1))) (Kn 3))) (UE Uf (UB (oIB λi j=>decide (j<i)) (Kn 3) (Uu (.int 1))))))
 (sNx))
 (Ux (sIf (Km oEq 4 (Uu (.str "thing")))
 (UF (Yb (UE Uf (UB (oIB λi j=>decide (i<j)) (Kn 2) (Uu (.int 6)))) (UE Uf (UB (oIB λi j=>decide (i<j)) (UC 1 (Uu (.int 1))) (Uu (.int 8))))))
 (sNx))
 (Ux (sIf (mOr (Zq (Km oEq 4 (Uu (.str "list"))) (UB (oIB λi j=>decide (j<=i)) (UC 1 (Uu (.int 1))) (Kn 3))) (Zq (Km oEq 4 (Uu (.str "come"))) (UB (oIB λi j=>decide (j<i)) (Kn 3) (Uu (.int 6)))))
 (UF (Uu (.bool AX)))
 (sNx))
 (UF (KS K6 (Uw (UE Ue (Zv (KH (KS YL (Uw (UC 1 (Zf (Uu (.int 1)))) (Uw (U2 (Uv)) (Uv))))) 1 (gN 5) (Uu AW) (UE Uf (Km (oIB λi j=>decide (i<j)) 5 (Kn 2))))) (Uv)))))))))
noncomputable def Yx:AY->A4:=UY N_au W1
noncomputable abbrev Sav:Stmt:=top 35
noncomputable abbrev N_av:List Str:=["_law_wishes_here", "_law_change_here", "_law_copies", "_law_lists", "_law_word"]
theorem Hav:NmF Sav N_av:=Kr (by decide +kernel)
noncomputable def W0:SM:=
 Ux (Kw 2 (UH (Uw (UC 0 (Uu (.int 0))) (Uv)) λxs=>UG (Z0 xs)))
 (Ux (Kw 3 (UH (Uw (UC 0 (Uu (.int 1))) (Uv)) λxs=>UG (Z0 xs)))
 (Ux (UU 4 (UC 1 (Uu (.int 0))))
 (Ux (sIf (Km oEq 4 (Uu (.str "list")))
 (Vk 3 (UC 1 (Uu (.int 1))) (UC 1 (Uu (.int 2))))
 (sNx))
 (Ux (sIf (Km oEq 4 (Uu (.str "copies")))
 (Vk 2 (UC 1 (Uu (.int 1))) (UC 1 (Uu (.int 2))))
 (sNx))
 (Ux (sIf (Km oEq 4 (Uu (.str "come")))
 (KB 3 (UC 1 (Uu (.int 1))))
 (sNx))
 (Ux (sIf (Km oEq 4 (Uu (.str "go")))
 (YN (Yp 3 (UC 1 (Uu (.int 1)))))
 (sNx))
 (Ux (sIf (Km oEq 4 (Uu (.str "thing")))
 (KB 2 (UC 1 (Uu (.int 1))))
 (sNx))
 (UF (Ka (Uw (Us 2) (Uw (Us 3) (Uv))))))))))))
noncomputable def X3:AY->A4:=UY N_av W0
noncomputable abbrev Sah:Stmt:=top 18
noncomputable abbrev N_ah:List Str:=["wishes", "copies", "lists"]
theorem Hah:NmF Sah N_ah:=Kr (by decide +kernel)
noncomputable def Va:SM:=
 Ux (KW (Us 0) (gT 2 (gNC (gN 1) (gNC (gN 2) (gN0)))))
 (UF (Ka (Uw (UE Ue (YG 1)) (Uw (UE Ue (Zv (KH (Us 2)) 1 (gN 3) (Uu AW) (UE Ue (Zv (KH (Us 3)) 1 (gN 4) (Uu AW) (UE Ue (YG 4)))))) (Uv)))))
noncomputable def YB:AY->A4:=UY N_ah Va
noncomputable abbrev Saj:Stmt:=top 22
noncomputable abbrev N_aj:List Str:=["wishes", "change", "copies", "lists", "word"]
theorem Haj:NmF Saj N_aj:=Kr (by decide +kernel)
noncomputable def W8:SM:=
 Ux (KW (Us 0) (gT 2 (gNC (gN 2) (gNC (gN 3) (gN0)))))
 (Ux (UU 4 (UC 1 (Uu (.int 0))))
 (Ux (sIf (Km oEq 4 (Uu (.str "list")))
 (UF (Ka (Uw (Us 2) (Uw (UB UJ (UB UJ (KE (Us 3) (Uu AV) (UH (UC 1 (Uu (.int 1))) λx=>UG (Zw x))) (U2 (Uw (UC 1 (Uu (.int 2))) (Uv)))) (KE (Us 3) (UH (UB UJ (UC 1 (Uu (.int 1))) (Uu (.int 1))) λx=>UG (Zw x)) (Uu AV))) (Uv)))))
 (sNx))
 (Ux (sIf (Km oEq 4 (Uu (.str "copies")))
 (UF (Ka (Uw (UB UJ (UB UJ (KE (Us 2) (Uu AV) (UH (UC 1 (Uu (.int 1))) λx=>UG (Zw x))) (U2 (Uw (UC 1 (Uu (.int 2))) (Uv)))) (KE (Us 2) (UH (UB UJ (UC 1 (Uu (.int 1))) (Uu (.int 1))) λx=>UG (Zw x)) (Uu AV))) (Uw (Us 3) (Uv)))))
 (sNx))
 (Ux (sIf (Km oEq 4 (Uu (.str "come")))
 (UF (Ka (Uw (Us 2) (Uw (UB UJ (Us 3) (U2 (Uw (UC 1 (Uu (.int 1))) (Uv)))) (Uv)))))
 (sNx))
 (Ux (sIf (Km oEq 4 (Uu (.str "go")))
 (UF (Ka (Uw (Us 2) (Uw (UB UJ (KE (Us 3) (Uu AV) (UH (UC 1 (Uu (.int 1))) λx=>UG (Zw x))) (KE (Us 3) (UH (UB UJ (UC 1 (Uu (.int 1))) (Uu (.int 1))) λx=>UG (Zw x)) (Uu AV))) (Uv)))))
 (sNx))
 (UF (Ka (Uw (UB UJ (Us 2) (U2 (Uw (UC 1 (Uu (.int 1))) (Uv)))) (Uw (Us 3) (Uv))))))))))
noncomputable def Yz:AY->A4:=UY N_aj W8
noncomputable abbrev Saa:Stmt:=top 6
noncomputable abbrev N_aa:List Str:=["thing"]
theorem Haa:NmF Saa N_aa:=Kr (by decide +kernel)
noncomputable def Ve:SM:=
 UF (Yb (UE (λd=>.bool (U4 d "int")) (Us 0)) (Vn (UE (λd=>.bool (U4 d "bool")) (Us 0))))
noncomputable def YZ:AY->A4:=UY N_aa Ve
noncomputable abbrev Sab:Stmt:=top 7
noncomputable abbrev N_ab:List Str:=["thing", "many"]
theorem Hab:NmF Sab N_ab:=Kr (by decide +kernel)
noncomputable def XN:SM:=
 UF (Yb (UK 1 YZ (Uw (Us 0) (Uv))) (UE Uf (Xn (oIB λi j=>decide (i<=j)) (oIB λi j=>decide (i<j)) (Uu (.int 0)) (Us 0) (Us 1))))
noncomputable def KL:AY->A4:=UY N_ab XN
noncomputable abbrev Sai:Stmt:=top 21
noncomputable abbrev N_ai:List Str:=["wishes", "thing", "copies", "lists"]
theorem Hai:NmF Sai N_ai:=Kr (by decide +kernel)
noncomputable def W9:SM:=
 Ux (sIf (mOr (U3 (KM (UE (λd=>.bool (U4 d "tuple")) (Us 1)))) (mOr (UB oEq (Kn 1) (Uu (.int 0))) (U3 (KM (UE (λd=>.bool (U4 d "str")) (UC 1 (Uu (.int 0))))))))
 (UF (Uu (.bool AX)))
 (sNx))
 (Ux (sIf (UB oNe (VL S3 (Uw (UC 1 (Uu (.int 0))) (Uv))) (Kn 1))
 (UF (Uu (.bool AX)))
 (sNx))
 (Ux (KW (Us 0) (gT 2 (gNC (gN 2) (gNC (gN 3) (gN0)))))
 (Ux (sIf (UB oIn (UC 1 (Uu (.int 0))) (Ka (Uw (Uu (.str "list")) (Uw (Uu (.str "go")) (Uv)))))
 (UF (UK 2 KL (Uw (UC 1 (Uu (.int 1))) (Uw (Kn 3) (Uv)))))
 (sNx))
 (Ux (sIf (UB oEq (UC 1 (Uu (.int 0))) (Uu (.str "copies")))
 (UF (UK 2 KL (Uw (UC 1 (Uu (.int 1))) (Uw (Kn 2) (Uv)))))
 (sNx))
 (UF (Uu (.bool AW)))))))
noncomputable def YA:AY->A4:=UY N_ai W9
noncomputable abbrev Sad:Stmt:=top 14
noncomputable abbrev N_ad:List Str:=["thing", "things"]
theorem Had:NmF Sad N_ad:=Kr (by decide +kernel)
noncomputable def XJ:SM:=
 Ux (sIf (mOr (U3 (KM (UE (λd=>.bool (U4 d "list")) (Us 0)))) (UB oEq (Kn 0) (Uu (.int 0))))
 (UF (Uu (.bool AX)))
 (sNx))
 (UF (KS K6 (Uw (UE Ue (Zv (KH (Us 0)) 1 (gN 2) (Uu AW) (UK 2 KL (Uw (Us 2) (Uw (Us 1) (Uv)))))) (Uv))))
noncomputable def ZX:AY->A4:=UY N_ad XJ
noncomputable abbrev Sae:Stmt:=top 15
noncomputable abbrev N_ae:List Str:=["thing", "things", "wished"]
theorem Hae:NmF Sae N_ae:=Kr (by decide +kernel)
noncomputable def XI:SM:=
 Ux (sIf (mOr (U3 (KM (UE (λd=>.bool (U4 d "list")) (Us 0)))) (UB (oIB λi j=>decide (j<i)) (Kn 0) (Uu (.int 5))))
 (UF (Uu (.bool AX)))
 (sNx))
 (Ux (sIf (U3 (KM (KS K6 (Uw (UE Ue (Zv (KH (Us 0)) 1 (gN 3) (Uu AW) (UK 2 ZX (Uw (Us 3) (Uw (Us 1) (Uv)))))) (Uv)))))
 (UF (Uu (.bool AX)))
 (sNx))
 (Ux (Kw 2 (WG (KH (Us 0)) 2 (gN 3) (Uu AW) (KH (Us 3)) (gN 4) (Uu AW) (Us 4)))
 (UF (UE Uf (UB oEq (KS Wl (Uw (Us 2) (Uv))) (Kn 2))))))
noncomputable def ZW:AY->A4:=UY N_ae XI
noncomputable abbrev Mz:Stmt:=top 16
noncomputable abbrev My:List Str:=["lists", "things", "asker", "ranks"]
theorem MI:NmF Mz My:=Kr (by decide +kernel)
noncomputable def MG:SM:=
 sIf (U3 (KM (UK 2 ZW (Uw (Us 3) (Uw (Us 1) (Uv))))))
 (Xb "NoWishes" (Uw (Uu (.str "lists")) (Uw (Us 2) (Uv))))
 (sNx)
noncomputable def RU:SM:=
 Ux (sIf (mOr (U3 (KM (UE (λd=>.bool (U4 d "list")) (Us 0)))) (U3 (Xn (oIB λi j=>decide (i<=j)) (oIB λi j=>decide (i<=j)) (Uu (.int 1)) (Kn 0) (Uu (.int 7)))))
 (Xb "NoWishes" (Uw (Uu (.str "lists")) (Uw (Uu .none) (Uv))))
 (sNx))
 (Ks (WB (Uw (Us 0) (Uv))) (gT 2 (gNC (gN 2) (gNC (gN 3) (gN0)))) MG)
noncomputable def Sn:AY->Option XR:=Zo My RU
noncomputable abbrev MD:Stmt:=top 13
noncomputable abbrev MC:List Str:=["copies", "number", "many"]
theorem MF:NmF MD MC:=Kr (by decide +kernel)
noncomputable def MH:SM:=
 sIf (U3 (KM (UK 2 KL (Uw (Us 2) (Uw (UB UJ (Uu (.int 7)) (Uu (.int 1))) (Uv))))))
 (Xb "NoWishes" (Uw (Uu (.str "copies")) (Uw (Us 1) (Uv))))
 (sNx)
noncomputable def RT:SM:=
 Ux (sIf (mOr (U3 (KM (UE (λd=>.bool (U4 d "list")) (Us 0)))) (U3 (Xn (oIB λi j=>decide (i<=j)) (oIB λi j=>decide (i<=j)) (Uu (.int 1)) (Kn 0) (Uu (.int 6)))))
 (Xb "NoWishes" (Uw (Uu (.str "copies")) (Uw (Uu .none) (Uv))))
 (sNx))
 (Ks (WB (Uw (Us 0) (Uv))) (gT 2 (gNC (gN 1) (gNC (gN 2) (gN0)))) MH)
noncomputable def So:AY->Option XR:=Zo MC RT
noncomputable abbrev MB:Stmt:=top 17
noncomputable abbrev MA:List Str:=["thing", "copies", "lists"]
theorem ME:NmF MB MA:=Kr (by decide +kernel)
noncomputable def RS:SM:=
 Ux (sIf (mOr (U3 (KM (UE (λd=>.bool (U4 d "tuple")) (Us 0)))) (UB oNe (Kn 0) (Uu (.int 2))))
 (Xb "NoWishes" (Uw (Uu (.str "wishes")) (Uw (Uu .none) (Uv))))
 (sNx))
 (Ux (KW (Us 0) (gT 2 (gNC (gN 1) (gNC (gN 2) (gN0)))))
 (Ux (sX (YK 1 So (Uw (Us 1) (Uv))) λ_ ρ=>.nx ρ)
 (sX (YK 2 Sn (Uw (Us 2) (Uw (Kn 1) (Uv)))) λ_ ρ=>.nx ρ)))
noncomputable def Wo:AY->Option XR:=Zo MA RS
noncomputable abbrev Ma:Stmt:=top 23
noncomputable abbrev N9:List Str:=["wishes", "change", "told"]
theorem NU:NmF Ma N9:=Kr (by decide +kernel)
noncomputable def Ry:SM:=
 Ux (sX (YK 1 Wo (Uw (Us 0) (Uv))) λ_ ρ=>.nx ρ)
 (Ux (sIf (U3 (KM (UK 2 YA (Uw (Us 0) (Uw (Us 1) (Uv))))))
 (Xb "NoChange" (Uw (Uu (.str "no change of the wishes")) (Uv)))
 (sNx))
 (Ux (UU 2 (UK 2 Yz (Uw (Us 0) (Uw (Us 1) (Uv)))))
 (Ux (Wf "NoWishes" "NoChange" (sX (YK 1 Wo (Uw (Us 2) (Uv))) λ_ ρ=>.nx ρ))
 (UF (UK 1 YB (Uw (Us 2) (Uv)))))))
noncomputable def Sk:AY->Option XR:=Zo N9 Ry
noncomputable abbrev N8:Stmt:=top 24
noncomputable abbrev N7:List Str:=["wishes", "change", "dealing"]
theorem NT:NmF N8 N7:=Kr (by decide +kernel)
noncomputable def Rx:SM:=
 Ux (sX (YK 2 Sk (Uw (Us 0) (Uw (Us 1) (Uv)))) λ_ ρ=>.nx ρ)
 (Ux (sIf (UB oEq (UC 1 (Uu (.int 0))) (Uu (.str "come")))
 (UF (UB UJ (Us 2) (U2 (Uw (Uu .none) (Uv)))))
 (sNx))
 (Ux (sIf (UB oEq (UC 1 (Uu (.int 0))) (Uu (.str "go")))
 (UF (UB UJ (KE (Us 2) (Uu AV) (UH (UC 1 (Uu (.int 1))) λx=>UG (Zw x))) (KE (Us 2) (UH (UB UJ (UC 1 (Uu (.int 1))) (Uu (.int 1))) λx=>UG (Zw x)) (Uu AV))))
 (sNx))
 (UF (UE Ue (YG 2)))))
noncomputable def Sj:AY->Option XR:=Zo N7 Rx
noncomputable abbrev Say:Stmt:=top 38
noncomputable abbrev N_ay:List Str:=["_law_wishes_here", "_law_change_here", "_law_dealing", "_law_found", "e"]
theorem Hay:NmF Say N_ay:=Kr (by decide +kernel)
noncomputable def WX:SM:=
 Ux (UU 3 (Uu .none))
 (Ux (Zc 4 "DealError" (sX (YK 3 Sj (Uw (Us 0) (Uw (Us 1) (Uw (Us 2) (Uv))))) λd ρ=>match gN 3 d ρ with|some ρ'=>.nx ρ'|none=>.bad) (UF (KS VQ (Uw (Yb (UH (Us 4) λd=>UG (Ym "NoChange" d)) (Vn (UH (Us 4) λd=>UG (Sv "NoAim" "NoWishes" d)))) (Uv)))))
 (UF (Us 3)))
noncomputable def YY:AY->A4:=UY N_ay WX
noncomputable abbrev Sar:Stmt:=top 31
noncomputable abbrev N_ar:List Str:=["_law_thing"]
theorem Har:NmF Sar N_ar:=Kr (by decide +kernel)
noncomputable def g_ar:SM:=
 UF (Yb (UE (λd=>.bool (U4 d "int")) (Us 0)) (Vn (UE (λd=>.bool (U4 d "bool")) (Us 0))))
noncomputable def Yy:AY->A4:=UY N_ar g_ar
noncomputable abbrev Saw:Stmt:=top 36
noncomputable abbrev N_aw:List Str:=["_law_change_here", "_law_dealing", "_law_found"]
theorem Haw:NmF Saw N_aw:=Kr (by decide +kernel)
noncomputable def WZ:SM:=
 Ux (Kw 2 (YG 1))
 (Ux (sIf (UB oEq (UC 0 (Uu (.int 0))) (Uu (.str "come")))
 (KB 2 (Uu .none))
 (sNx))
 (Ux (sIf (UB oEq (UC 0 (Uu (.int 0))) (Uu (.str "go")))
 (YN (Yp 2 (UC 0 (Uu (.int 1)))))
 (sNx))
 (UF (Us 2))))
noncomputable def X2:AY->A4:=UY N_aw WZ
noncomputable abbrev Sax:Stmt:=top 37
noncomputable abbrev N_ax:List Str:=["_law_wishes_here", "_law_lists", "_law_ranks_here"]
theorem Hax:NmF Sax N_ax:=Kr (by decide +kernel)
noncomputable def P7:SM:=
 KB 1 (UE Ue (Zv (KH (Us 2)) 1 (gN 3) (Uu AW) (UE Ue (YG 3))))
noncomputable def WY:SM:=
 Ux (Kw 1 (UH (Uv) λxs=>if xs.length<=1000000 then Uu xs else λ_=>.bad))
 (Ux (Ks (KH (UC 0 (Uu (.int 1)))) (gN 2) P7)
 (UF (Ka (Uw (UE Ue (UH (Uw (UC 0 (Uu (.int 0))) (Uv)) λxs=>UG (Z0 xs))) (Uw (Us 1) (Uv))))))
noncomputable def X1:AY->A4:=UY N_ax WY
noncomputable abbrev Saf:Stmt:=top 16
noncomputable abbrev N_af:List Str:=["lists", "things", "asker", "ranks"]
theorem Haf:NmF Saf N_af:=Kr (by decide +kernel)
noncomputable def P6:SM:=
 sIf (U3 (KM (UK 2 ZW (Uw (Us 3) (Uw (Us 1) (Uv))))))
 (Y9)
 (sNx)
noncomputable def Vc:SM:=
 Ux (sIf (mOr (U3 (KM (UE (λd=>.bool (U4 d "list")) (Us 0)))) (U3 (Xn (oIB λi j=>decide (i<=j)) (oIB λi j=>decide (i<=j)) (Uu (.int 1)) (Kn 0) (Uu (.int 7)))))
 (Y9)
 (sNx))
 (Ks (WB (Uw (Us 0) (Uv))) (gT 2 (gNC (gN 2) (gNC (gN 3) (gN0)))) P6)
noncomputable def Wb:AY->A4:=UY N_af Vc
noncomputable abbrev Sac:Stmt:=top 13
noncomputable abbrev N_ac:List Str:=["copies", "number", "many"]
theorem Hac:NmF Sac N_ac:=Kr (by decide +kernel)
noncomputable def P5:SM:=
 sIf (U3 (KM (UK 2 KL (Uw (Us 2) (Uw (UB UJ (Uu (.int 7)) (Uu (.int 1))) (Uv))))))
 (Y9)
 (sNx)
noncomputable def Vd:SM:=
 Ux (sIf (mOr (U3 (KM (UE (λd=>.bool (U4 d "list")) (Us 0)))) (U3 (Xn (oIB λi j=>decide (i<=j)) (oIB λi j=>decide (i<=j)) (Uu (.int 1)) (Kn 0) (Uu (.int 6)))))
 (Y9)
 (sNx))
 (Ks (WB (Uw (Us 0) (Uv))) (gT 2 (gNC (gN 1) (gNC (gN 2) (gN0)))) P5)
noncomputable def Wc:AY->A4:=UY N_ac Vd
noncomputable abbrev Sag:Stmt:=top 17
noncomputable abbrev N_ag:List Str:=["thing", "copies", "lists"]
theorem Hag:NmF Sag N_ag:=Kr (by decide +kernel)
noncomputable def Vb:SM:=
 Ux (sIf (mOr (U3 (KM (UE (λd=>.bool (U4 d "tuple")) (Us 0)))) (UB oNe (Kn 0) (Uu (.int 2))))
 (Y9)
 (sNx))
 (Ux (KW (Us 0) (gT 2 (gNC (gN 1) (gNC (gN 2) (gN0)))))
 (Ux (YN (UK 1 Wc (Uw (Us 1) (Uv))))
 (YN (UK 2 Wb (Uw (Us 2) (Uw (Kn 1) (Uv)))))))
noncomputable def Wa:AY->A4:=UY N_ag Vb
noncomputable abbrev Sak:Stmt:=top 23
noncomputable abbrev N_ak:List Str:=["wishes", "change", "told"]
theorem Hak:NmF Sak N_ak:=Kr (by decide +kernel)
noncomputable def XH:SM:=
 Ux (YN (UK 1 Wa (Uw (Us 0) (Uv))))
 (Ux (sIf (U3 (KM (UK 2 YA (Uw (Us 0) (Uw (Us 1) (Uv))))))
 (Y9)
 (sNx))
 (Ux (UU 2 (UK 2 Yz (Uw (Us 0) (Uw (Us 1) (Uv)))))
 (Ux (Ww "NoWishes" (sX (YK 1 Wo (Uw (Us 2) (Uv))) λ_ ρ=>.nx ρ) (Y9))
 (UF (UK 1 YB (Uw (Us 2) (Uv)))))))
noncomputable def X9:AY->A4:=UY N_ak XH
noncomputable abbrev N6:Stmt:=top 24
noncomputable abbrev N5:List Str:=["wishes", "change", "dealing"]
theorem NS:NmF N6 N5:=Kr (by decide +kernel)
noncomputable def Te:SM:=
 Ux (YN (UK 2 X9 (Uw (Us 0) (Uw (Us 1) (Uv)))))
 (Ux (sIf (UB oEq (UC 1 (Uu (.int 0))) (Uu (.str "come")))
 (Wu (Yq (Us 2) (U2 (Uw (Uu .none) (Uv)))))
 (sNx))
 (Ux (sIf (UB oEq (UC 1 (Uu (.int 0))) (Uu (.str "go")))
 (Wu (Yq (KE (Us 2) (Uu AV) (UH (UC 1 (Uu (.int 1))) λx=>UG (Zw x))) (KE (Us 2) (UH (UB UJ (UC 1 (Uu (.int 1))) (Uu (.int 1))) λx=>UG (Zw x)) (Uu AV))))
 (sNx))
 (sNx)))
noncomputable def BW:M AY:=
 YG 2
noncomputable def Td:AY->Option AY:=Zd N5 Te BW
noncomputable abbrev Mt:Stmt:=top 38
noncomputable abbrev Ms:List Str:=["_law_wishes_here", "_law_change_here", "_law_dealing", "_law_found", "e"]
theorem Mp:NmF Mt Ms:=Kr (by decide +kernel)
noncomputable def Ti:SM:=
 Ux (UU 3 (Uu .none))
 (Ux (Zc 4 "DealError" (Kw 3 (Wg 3 Td (Uw (Us 0) (Uw (Us 1) (Uw (Us 2) (Uv)))))) (Y9))
 (sNx))
noncomputable def Al:M AY:=
 Zp 3
noncomputable def Th:AY->Option AY:=Zd Ms Ti Al
noncomputable abbrev Saz:Stmt:=top 39
noncomputable abbrev N_az:List Str:=["_law_wishes_here", "_law_change_here", "_law_dealing", "_law_handed", "_law_given", "_law_kept", "_law_found", "_law_due"]
theorem Haz:NmF Saz N_az:=Kr (by decide +kernel)
noncomputable def WW:SM:=
 Ux (Kw 3 (YG 2))
 (Ux (UU 4 (UK 1 X1 (Uw (Us 0) (Uv))))
 (Ux (UU 5 (KS Y4 (Uw (Us 1) (Uv))))
 (Ux (sOr (Kw 6 (Wg 3 Th (Uw (Us 4) (Uw (Us 1) (Uw (Us 3) (Uv)))))) (UU 6 (UK 3 YY (Uw (Us 4) (Uw (Us 1) (Uw (Us 3) (Uv)))))))
 (Ux (sIf (mOr (Km oNe 4 (Us 0)) (UB Yl (KS Y4 (Uw (Us 1) (Uv))) (Us 5)))
 (UF (Uu (.bool AX)))
 (sNx))
 (Ux (sIf (U3 (KM (UK 2 Yx (Uw (Us 0) (Uw (Us 1) (Uv))))))
 (UF (Yb (UE Uf (Km oEq 6 (Uu (.int 1)))) (Yb (UK 1 Yy (Uw (Us 6) (Uv))) (UE Uf (Km oEq 3 (Us 2))))))
 (sNx))
 (Ux (UU 7 (UK 2 X2 (Uw (Us 1) (Uw (Us 2) (Uv)))))
 (Ux (sIf (Wt (mOr (U3 (KM (UE (λd=>.bool (U4 d "list")) (Us 6)))) (Km oNe 6 (Us 7))))
 (UF (Uu (.bool AX)))
 (sNx))
 (Ux (sIf (Wt (U3 (KM (KS K6 (Uw (UE Ue (Zv (KH (Us 6)) 1 (gN 8) (Uu AW) (YU (UE (λd=>.bool (isNon d)) (Us 8)) (UK 1 Yy (Uw (Us 8) (Uv)))))) (Uv))))))
 (UF (Uu (.bool AX)))
 (sNx))
 (Ux (KB 6 (Uu (.int 0)))
 (UF (Yb (UE Uf (Km oEq 3 (Us 2))) (UE Uf (UB oEq (UK 3 YY (Uw (Us 0) (Uw (Us 1) (Uw (Us 3) (Uv))))) (Us 7))))))))))))))
noncomputable def X0:AY->A4:=UY N_az WW
noncomputable abbrev Sam:Stmt:=top 26
noncomputable abbrev N_am:List Str:=["_law_script", "_law_k"]
theorem Ham:NmF Sam N_am:=Kr (by decide +kernel)
noncomputable def XG:SM:=
 Ux (sIf (Km (oIB λi j=>decide (i<j)) 1 (Kn 0))
 (UF (UC 0 (Us 1)))
 (sNx))
 (UF (Uu (.int 0)))
noncomputable def ZH:AY->A4:=UY N_am XG
noncomputable abbrev Sap:Stmt:=top 29
noncomputable abbrev N_ap:List Str:=["_law_wishes_here", "_law_asker"]
theorem Hap:NmF Sap N_ap:=Kr (by decide +kernel)
noncomputable def W5:SM:=
 UF (KS Tw (Uw (KS YL (Uw (UB oIx (UC 0 (Uu (.int 1))) (Us 1)) (Uw (U2 (Uv)) (Uv)))) (Uv)))
noncomputable def X7:AY->A4:=UY N_ap W5
noncomputable abbrev San:Stmt:=top 27
noncomputable abbrev N_an:List Str:=["_law_cell", "_law_salt", "_law_sizes", "_law_number", "_law_left", "_law_found", "_law_k", "_law_one"]
theorem Han:NmF San N_an:=Kr (by decide +kernel)
noncomputable def S2:SM:=
 sIf (Zq (Km (oIB λi j=>decide (j<=i)) 3 (UB YS (Uu (.int 10)) (Uu (.int 18)))) (Km (oIB λi j=>decide (j<i)) 4 (Uu (.int 0))))
 (Ux (KB 5 (UB KD (Us 4) (UC 2 (Us 6))))
 (UU 4 (UB Yn (Us 4) (UC 2 (Us 6)))))
 (Ux (UU 7 (UB KD (UB UJ (UB UJ (UB UJ (Us 3) (UB U9 (Uu (.int 7919)) (Us 1))) (UB U9 (UB U9 (Uu (.int 101)) (Us 6)) (Us 6))) (Us 6)) (Uu (.int 2147483647))))
 (Ux (UU 7 (UB KD (UB U9 (Us 7) (Uu (.int 48271))) (Uu (.int 2147483647))))
 (Ux (UU 7 (UB KD (UB U9 (UB KD (UB U9 (Us 7) (Us 7)) (Uu (.int 2147483629))) (Uu (.int 48271))) (Uu (.int 2147483647))))
 (KB 5 (UB KD (UB Yn (Us 7) (Uu (.int 16))) (UC 2 (Us 6)))))))
noncomputable def W7:SM:=
 Ux (UU 3 (KS VP (Uw (Us 0) (Uw (UB XA (Zf (Uu (.int 1))) (Us 0)) (Uv)))))
 (Ux (UU 4 (Us 3))
 (Ux (Kw 5 (UH (Uv) λxs=>if xs.length<=1000000 then Uu xs else λ_=>.bad))
 (Ux (Ks (Wi (Uw (Kn 2) (Uv))) (gN 6) S2)
 (UF (Us 5)))))
noncomputable def Zt:AY->A4:=UY N_an W7
noncomputable abbrev Saq:Stmt:=top 30
noncomputable abbrev N_aq:List Str:=["_law_wishes_here", "_law_cell", "_law_salt", "_law_left", "_law_digits", "_law_found", "_law_asker", "_law_some", "_law_thing"]
theorem Haq:NmF Saq N_aq:=Kr (by decide +kernel)
noncomputable def S1:SM:=
 Ux (UU 7 (UB UJ (UE Ue (VZ (KH (UK 2 X7 (Uw (Us 0) (Uw (Us 6) (Uv))))) 1 (gN 9) (UB (oIB λi j=>decide (j<i)) (UC 3 (Us 9)) (Uu (.int 0))) (Us 9))) (U2 (Uw (Uu .none) (Uv)))))
 (Ux (UU 8 (UC 7 (UB KD (UC 4 (Us 6)) (Kn 7))))
 (Ux (sIf (UE (λd=>!isNon d) (Us 8))
 (Vk 3 (Us 8) (UB XA (UC 3 (Us 8)) (Uu (.int 1))))
 (sNx))
 (KB 5 (Us 8))))
noncomputable def W4:SM:=
 Ux (Kw 3 (UH (Uw (UC 0 (Uu (.int 0))) (Uv)) λxs=>UG (Z0 xs)))
 (Ux (UU 4 (UK 3 Zt (Uw (Us 1) (Uw (Us 2) (Uw (UB U9 (U2 (Uw (Uu (.int 61)) (Uv))) (KS Ke (Uw (UC 0 (Uu (.int 1))) (Uv)))) (Uv))))))
 (Ux (Kw 5 (UH (Uv) λxs=>if xs.length<=1000000 then Uu xs else λ_=>.bad))
 (Ux (Ks (Wi (Uw (KS Ke (Uw (UC 0 (Uu (.int 1))) (Uv))) (Uv))) (gN 6) S1)
 (UF (Us 5)))))
noncomputable def X6:AY->A4:=UY N_aq W4
noncomputable abbrev Sas:Stmt:=top 32
noncomputable abbrev N_as:List Str:=["_law_places", "_law_things", "_law_ranks_here", "_law_rank", "_law_row"]
theorem Has:NmF Sas N_as:=Kr (by decide +kernel)
noncomputable def P4:SM:=
 Ux (Kw 4 (Zv (Wi (Uw (Us 1) (Uv))) 1 (gN 5) (UB oEq (UC 0 (Us 5)) (Us 3)) (Us 5)))
 (sIf (Km oNe 4 (U2 (Uv)))
 (KB 2 (Us 4))
 (sNx))
noncomputable def W3:SM:=
 Ux (Kw 2 (UH (Uv) λxs=>if xs.length<=1000000 then Uu xs else λ_=>.bad))
 (Ux (Ks (VO (Uw (Uu (.int 1)) (Uw (Uu (.int 6)) (Uv)))) (gN 3) P4)
 (UF (Us 2)))
noncomputable def X5:AY->A4:=UY N_as W3
noncomputable abbrev Sat:Stmt:=top 33
noncomputable abbrev N_at:List Str:=["_law_wishes_here", "_law_cell", "_law_salt", "_law_copies", "_law_lists", "_law_digits", "_law_asker", "_law_ranks_here"]
theorem Hat:NmF Sat N_at:=Kr (by decide +kernel)
noncomputable def W2:SM:=
 Ux (KW (Us 0) (gT 2 (gNC (gN 3) (gNC (gN 4) (gN0)))))
 (Ux (UU 5 (UK 3 Zt (Uw (Us 1) (Uw (Us 2) (Uw (UB UJ (UB UJ (U2 (Uw (Uu (.int 6)) (Uw (Uu (.int 8)) (Uw (Uu (.int 7)) (Uw (Uu (.int 10)) (Uw (Uu (.int 9)) (Uv))))))) (UB U9 (U2 (Uw (Uu (.int 6)) (Uv))) (Uu (.int 7)))) (U2 (Uw (Uu (.int 2)) (Uv)))) (Uv))))))
 (Ux (UU 6 (UB KD (UC 5 (Uu (.int 1))) (UB UJ (Kn 4) (Uu (.int 1)))))
 (Ux (UU 7 (UK 2 X5 (Uw (KE (Us 5) (UH (Uu (.int 5)) λx=>UG (Zw x)) (Uu AV)) (Uw (UB UJ (Kn 3) (KS VQ (Uw (UE Uf (UB oEq (UC 5 (Uu (.int 4))) (Uu (.int 0)))) (Uv)))) (Uv)))))
 (Ux (sIf (UB oEq (UC 5 (Uu (.int 12))) (Uu (.int 1)))
 (Kw 7 (Zv (KH (Us 7)) 1 (gN 8) (Uu AW) (Yo (Us 8) (Uu AV) (Uu AV) (UH (Zf (Uu (.int 1))) λx=>UG (Zw x)))))
 (sNx))
 (Ux (sIf (UB (oIB λi j=>decide (i<j)) (UC 5 (Uu (.int 0))) (Uu (.int 2)))
 (UF (Ka (Uw (Uu (.str "list")) (Uw (Us 6) (Uw (Us 7) (Uv))))))
 (sNx))
 (Ux (sIf (UB oEq (UC 5 (Uu (.int 0))) (Uu (.int 2)))
 (UF (Ka (Uw (Uu (.str "copies")) (Uw (UB KD (UC 5 (Uu (.int 2))) (UB UJ (Kn 3) (Uu (.int 1)))) (Uw (UC 5 (Uu (.int 3))) (Uv))))))
 (sNx))
 (Ux (sIf (UB oEq (UC 5 (Uu (.int 0))) (Uu (.int 3)))
 (UF (Ka (Uw (Uu (.str "come")) (Uw (Us 7) (Uv)))))
 (sNx))
 (Ux (sIf (UB oEq (UC 5 (Uu (.int 0))) (Uu (.int 4)))
 (UF (Ka (Uw (Uu (.str "go")) (Uw (Us 6) (Uv)))))
 (sNx))
 (UF (Ka (Uw (Uu (.str "thing")) (Uw (UC 5 (Uu (.int 3))) (Uv)))))))))))))
noncomputable def X4:AY->A4:=UY N_at W2
noncomputable abbrev Sao:Stmt:=top 28
noncomputable abbrev N_ao:List Str:=["_law_script", "_law_at", "_law_most_things", "_law_most_askers", "_law_most_ranks", "_law_sizes", "_law_digits", "_law_copies", "_law_lists", "_law_asker", "_law_cell", "_law_places", "_law_ranks_here", "_law_rank", "_law_row"]
theorem Hao:NmF Sao N_ao:=Kr (by decide +kernel)
noncomputable def S0:SM:=
 Ux (Kw 14 (Zv (Wi (Uw (Kn 7) (Uv))) 1 (gN 15) (UB oEq (UC 11 (Us 15)) (Us 13)) (Us 15)))
 (sIf (Km oNe 14 (U2 (Uv)))
 (KB 12 (UB oIx (U2 (Uw (Us 14) (Uw (Yo (Us 14) (Uu AV) (Uu AV) (UH (Zf (Uu (.int 1))) λx=>UG (Zw x))) (Uv)))) (UC 11 (Zf (Uu (.int 1))))))
 (sNx))
noncomputable def Rb:SM:=
 Ux (UU 10 (UK 2 ZH (Uw (Us 0) (Uw (UB UJ (UB UJ (Us 1) (Uu (.int 1))) (Us 9)) (Uv)))))
 (Ux (UU 5 (UB UJ (UB U9 (U2 (Uw (UB UJ (Us 4) (Uu (.int 1))) (Uv))) (Us 2)) (U2 (Uw (Uu (.int 2)) (Uv)))))
 (Ux (UU 11 (UK 3 Zt (Uw (Us 10) (Uw (UB UJ (UB UJ (UB U9 (Uu (.int 11)) (Us 1)) (UB U9 (Uu (.int 3)) (Us 9))) (Uu (.int 1))) (Uw (Us 5) (Uv))))))
 (Ux (Kw 12 (UH (Uv) λxs=>if xs.length<=1000000 then Uu xs else λ_=>.bad))
 (Ux (Ks (VO (Uw (Uu (.int 1)) (Uw (UB UJ (Us 4) (Uu (.int 1))) (Uv)))) (gN 13) S0)
 (KB 8 (Us 12))))))
noncomputable def W6:SM:=
 Ux (UU 5 (UB UJ (U2 (Uw (Us 2) (Uw (Us 3) (Uv)))) (UB U9 (U2 (Uw (Uu (.int 11)) (Uv))) (Us 2))))
 (Ux (UU 6 (UK 3 Zt (Uw (UK 2 ZH (Uw (Us 0) (Uw (Us 1) (Uv)))) (Uw (Us 1) (Uw (Us 5) (Uv))))))
 (Ux (Kw 7 (Zv (KH (KE (Us 6) (UH (Uu (.int 2)) λx=>UG (Zw x)) (UH (UB UJ (Uu (.int 3)) (UC 6 (Uu (.int 0)))) λx=>UG (Zw x)))) 1 (gN 15) (Uu AW) (UB oIx (U2 (Uw (Uu (.int 1)) (Uw (Uu (.int 1)) (Uw (Uu (.int 2)) (Uw (Uu (.int 0)) (Uw (Uu (.int 3)) (Uw (Uu (.int 7)) (Uw (Uu (.int 1)) (Uw (Uu (.int 4)) (Uw (Uu (.int 5)) (Uw (Uu (.int 6)) (Uw (Uu (.int 1)) (Uv))))))))))))) (Us 15))))
 (Ux (Kw 8 (UH (Uv) λxs=>if xs.length<=1000000 then Uu xs else λ_=>.bad))
 (Ux (Ks (Wi (Uw (UB UJ (Uu (.int 1)) (UC 6 (Uu (.int 1)))) (Uv))) (gN 9) Rb)
 (UF (Ka (Uw (Us 7) (Uw (Us 8) (Uv)))))))))
noncomputable def X8:AY->A4:=UY N_ao W6
noncomputable abbrev Sba:Stmt:=top 40
noncomputable abbrev N_ba:List Str:=["_law_script", "_law_wishes_here", "_law_at", "_law_change_here", "_law_dealing"]
theorem Hba:NmF Sba N_ba:=Kr (by decide +kernel)
noncomputable def P3:SM:=
 Ux (UU 3 (UK 3 X4 (Uw (Us 1) (Uw (UK 2 ZH (Uw (Us 0) (Uw (Us 2) (Uv)))) (Uw (Us 2) (Uv))))))
 (Ux (UU 4 (UK 3 X6 (Uw (Us 1) (Uw (UK 2 ZH (Uw (Us 0) (Uw (UB UJ (Us 2) (Uu (.int 1))) (Uv)))) (Uw (UB UJ (Us 2) (Uu (.int 1))) (Uv))))))
 (Ux (sIf (U3 (KM (UK 3 X0 (Uw (Us 1) (Uw (Us 3) (Uw (Us 4) (Uv)))))))
 (UF (Uu (.bool AX)))
 (sNx))
 (sIf (KM (UK 2 Yx (Uw (Us 1) (Uw (Us 3) (Uv)))))
 (UU 1 (UK 2 X3 (Uw (Us 1) (Uw (Us 3) (Uv)))))
 (sNx))))
noncomputable def WV:SM:=
 Ux (UU 1 (UK 5 X8 (Uw (Us 0) (Uw (Uu (.int 0)) (Uw (Uu (.int 6)) (Uw (Uu (.int 7)) (Uw (Uu (.int 5)) (Uv))))))))
 (Ux (Ks (Tz (Uw (Uu (.int 8)) (Uw (KS VP (Uw (Uu (.int 9)) (Uw (KS TB (Uw (Uu (.int 62)) (Uw (Kn 0) (Uv)))) (Uv)))) (Uw (Uu (.int 2)) (Uv))))) (gN 2) P3)
 (UF (Uu (.bool AW))))
noncomputable def XZ:AY->A4:=UY N_ba WV
set_option hygiene false in
local macro_rules | `(tactic| walk_at "g")=>`(tactic| first | exact gA nm rfl | exact Gr rfl)
set_option hygiene false in
local macro_rules | `(tactic| walk_at "v")=>`(tactic| first | exact pq nm _ | exact pvb _)
set_option hygiene false in
local macro_rules | `(tactic| walk_at "b")=>`(tactic| first | ((with_reducible show OpB _ (compareOp CmpOp.Eq) _);first | exact B_eq hu) | ((with_reducible show OpB _ (compareOp CmpOp.NotEq) _);first | exact B_ne hu | exact Lo) | ((with_reducible show OpB _ (compareOp CmpOp.Lt) _);first | exact B_lt) | ((with_reducible show OpB _ (compareOp CmpOp.LtE) _);first | exact B_le) | ((with_reducible show OpB _ (compareOp CmpOp.Gt) _);first | exact B_gt) | ((with_reducible show OpB _ (compareOp CmpOp.GtE) _);first | exact B_ge) | ((with_reducible show OpB _ (compareOp CmpOp.In) _);first | exact B_in hu))
set_option hygiene false in
local macro_rules | `(tactic| walk_at "m")=>`(tactic| first | exact HE _ | exact rfl)
set_option hygiene false in
local macro_rules | `(tactic| walk_at "k")=>`(tactic| first | exact DU | exact Bd | exact Bc)
set_option hygiene false in
local macro_rules | `(tactic| walk_at "w")=>`(tactic| first | exact PassesOwn.never | exact CS)
set_option hygiene false in
local macro_rules | `(tactic| walk_at "x")=>`(tactic| first | assumption | exact Dv)
set_option hygiene false in
local macro_rules | `(tactic| walk_at "c")=>`(tactic| first | exact T.c_MOST_ASKERS | exact T.c_MOST_COPIES | exact T.c_MOST_RANKS | exact T.c_MOST_THINGS)
set_option hygiene false in
local macro_rules | `(tactic| walk_at "ck")=>`(tactic| first | exact T.x_DealError | exact T.x_NoAim | exact T.x_NoChange | exact T.x_NoWishes)
set_option hygiene false in
local macro_rules | `(tactic| walk_at "e")=>`(tactic| first | ((with_reducible show PE _ (Expr.Name _ _) _);first | exact Py (pq nm _) | exact Py (pvb _) | exact MU (by walk_at "g") (by walk_at "c")) | ((with_reducible show PE _ (Expr.Constant _ _ _) _);first | exact Gn | exact FT | exact Gm | exact FV) | ((with_reducible show PE _ (Expr.Subscript _ _ _) _);first | refine Ep (by walk_at "v") ?_ (fun _ _=>rfl) | refine BA ?_ ?_ ?_ | refine F8 ?_ ?_ ?_ ?_ | refine Ga ?_ ?_ (fun _ _=>rfl)) | ((with_reducible show PE _ (Expr.BinOp _ Operator.Add _ _) _);first | refine WD Pc ?_ ?_) | ((with_reducible show PE _ (Expr.BinOp _ Operator.Sub _ _) _);first | refine WD M5 ?_ ?_) | ((with_reducible show PE _ (Expr.BinOp _ Operator.Mult _ _) _);first | refine WD Pb ?_ ?_) | ((with_reducible show PE _ (Expr.BinOp _ Operator.Mod _ _) _);first | refine WD M4 ?_ ?_) | ((with_reducible show PE _ (Expr.BinOp _ Operator.FloorDiv _ _) _);first | refine WD M0 ?_ ?_) | ((with_reducible show PE _ (Expr.BinOp _ Operator.Pow _ _) _);first | refine WD MZ ?_ ?_) | ((with_reducible show PE _ (Expr.Call (Expr.Name "len" _) _ _ _) _);first | refine DY (by walk_at "g") T.b_len (by walk_at "v") | refine WM Pa (by walk_at "g") T.b_len boot_len ?_ | refine Bz rfl (by walk_at "g") T.b_len (by walk_at "g") T.b_set ?_) | ((with_reducible show PE _ (Expr.Call (Expr.Name "max" _) _ _ _) _);first | refine WM (HZ rfl) (by walk_at "g") T.b_max boot_max ?_) | ((with_reducible show PE _ (Expr.Call (Expr.Name "min" _) _ _ _) _);first | refine WM (HY rfl) (by walk_at "g") T.b_min boot_min ?_) | ((with_reducible show PE _ (Expr.Call (Expr.Name "sorted" _) _ _ _) _);first | refine WM LG (by walk_at "g") T.b_sorted PyProof.Rows.boot_sorted ?_) | ((with_reducible show PE _ (Expr.Call (Expr.Name "sum" _) _ _ _) _);first | refine WM (LJ rfl) (by walk_at "g") T.b_sum PyProof.Rows.boot_sum ?_) | ((with_reducible show PE _ (Expr.Call (Expr.Name "all" _) _ _ _) _);first | refine WM (MW rfl) (by walk_at "g") T.b_all PyProof.Rows.boot_all ?_) | ((with_reducible show PE _ (Expr.Call (Expr.Name "repr" _) _ _ _) _);first | refine WM (GT hu hgd T.sm) (by walk_at "g") T.b_repr Bo ?_) | ((with_reducible show PE _ (Expr.Call (Expr.Name "int" _) _ _ _) _);first | refine BE LK (by walk_at "g") T.b_int PyProof.Rows.boot_int ?_) | ((with_reducible show PE _ (Expr.Call (Expr.Name "isinstance" _) [_,Expr.Name "int" _] _ _) _);first | refine Tl (c := "int") (by decide) (by walk_at "g") T.b_isinstance (by walk_at "g") T.b_int (by decide +kernel) ?_ (by decide) (by decide)) | ((with_reducible show PE _ (Expr.Call (Expr.Name "isinstance" _) [_,Expr.Name "list" _] _ _) _);first | refine Tl (c := "list") (by decide) (by walk_at "g") T.b_isinstance (by walk_at "g") T.b_list (by decide +kernel) ?_ (by decide) (by decide)) | ((with_reducible show PE _ (Expr.Call (Expr.Name "isinstance" _) [_,Expr.Name "tuple" _] _ _) _);first | refine Tl (c := "tuple") (by decide) (by walk_at "g") T.b_isinstance (by walk_at "g") T.b_tuple (by decide +kernel) ?_ (by decide) (by decide)) | ((with_reducible show PE _ (Expr.Call (Expr.Name "isinstance" _) [_,Expr.Name "bool" _] _ _) _);first | refine Tl (c := "bool") (by decide) (by walk_at "g") T.b_isinstance (by walk_at "g") T.b_bool (by decide +kernel) ?_ (by decide) (by decide)) | ((with_reducible show PE _ (Expr.Call (Expr.Name "isinstance" _) [_,Expr.Name "str" _] _ _) _);first | refine Tl (c := "str") (by decide) (by walk_at "g") T.b_isinstance (by walk_at "g") T.b_str (by decide +kernel) ?_ (by decide) (by decide)) | ((with_reducible show PE _ (Expr.Call (Expr.Name "isinstance" _) _ _ _) _);first | ((with_reducible show PE _ (Expr.Call (Expr.Name "isinstance" _) [_,Expr.Tuple _ _ _] _ _) _);refine E1 (by walk_at "ck") (by walk_at "ck") (by walk_at "g") T.b_isinstance (by walk_at "g") (by walk_at "g") ?_) | refine Ex (by walk_at "ck") (by walk_at "g") T.b_isinstance (by walk_at "g") ?_) | ((with_reducible show PE _ (Expr.Call (Expr.Name _ _) _ _ _) _);first | refine pdf (by assumption) hr (by walk_at "g") ?_) | ((with_reducible show PE _ (Expr.Call _ _ _ _) (tD _ _ _ (VL _ _)));first | refine EY (by assumption) (by decide) (by walk_at "g") ?_) | ((with_reducible show PE _ (Expr.Call _ _ _ _) _);first | refine GO (by walk_at "v") ?_) | refine Of ?_ | refine Og ?_ | ((with_reducible show PE _ (Expr.Compare _ _ _ _) _);first | refine Es ?_ | refine F9 (by walk_at "b") (by walk_at "v") ?_ (by walk_at "m") | refine FM (by walk_at "b") ?_ ?_ (by walk_at "m") | refine CO (by walk_at "b") (by walk_at "b") ?_ ?_ ?_) | refine Ec ?_ | refine Eh ?_ | refine Et ?_ | refine Ev ?_ ?_ | refine Gc ?_ ?_ | refine Eu ?_)
set_option hygiene false in
local macro_rules | `(tactic| walk_at "t")=>`(tactic| first | ((with_reducible show PT _ _ (tBo _ _ _ (Wt _)));refine D5 fun B' G'=>?_) | ((with_reducible show PT _ (Expr.Compare _ _ _ _) _);first | refine Dl ?_ | refine Ea (by walk_at "b") (by walk_at "v") ?_ (by walk_at "m") | refine FN (by walk_at "b") ?_ ?_ (by walk_at "m") | refine CP (by walk_at "b") (by walk_at "b") ?_ ?_ ?_) | ((with_reducible show PT _ (Expr.BoolOp _ _ _) _);refine PW.pt ?_) | refine FH ?_ | refine FG ?_)
set_option hygiene false in
local macro_rules | `(tactic| walk_at "l")=>`(tactic| first | refine Ll nm (by walk_at "k") rfl ?_ ?_ (by decide +kernel) | refine Hk (by walk_at "k") rfl ?_ ?_ (by decide +kernel) | refine C9 (by walk_at "g") T.b_list (by walk_at "v") | refine DQ (by walk_at "g") T.b_list ?_ | refine Oc ?_ | refine Cd (by assumption) hr (by walk_at "g") ?_ | refine GP ?_ ?_ | refine GQ (by walk_at "v"))
set_option hygiene false in
local macro_rules | `(tactic| walk_at "i")=>`(tactic| first | refine CN (by walk_at "g") T.b_range ?_ | refine CM (by walk_at "g") T.b_range ?_ | refine C3 (by walk_at "g") T.b_range ?_ | refine Ei (by walk_at "g") T.b_enumerate ?_ | refine LQ ?_)
set_option hygiene false in
local macro_rules | `(tactic| walk_at "s")=>`(tactic| first | ((with_reducible show PS _ _ (tS _ _ _ _ (sOr _ _)));refine Lh ?_ ?_) | ((with_reducible show PS _ (Stmt.Assign [Expr.Name _ _] _ _) _);first | refine aSet nm ?_ | refine Lk nm (by walk_at "k") rfl ?_ ?_ (by decide +kernel) | refine R3 nm ?_ | refine Lm nm ?_) | ((with_reducible show PS _ (Stmt.Assign _ _ _) _);first | refine Gy ?_ ?_ | refine Eb ?_ (by walk_at "v") ?_) | ((with_reducible show PS _ _ (tS _ _ _ _ (Wu _)));refine GS ?_) | refine MY ?_ ?_ ?_ | refine HV ?_ | refine Gv (by walk_at "w") rfl ?_ ?_ ?_ | ((with_reducible show PS _ (Stmt.Expr _ _) _);first | refine Gw (by walk_at "v") ?_ | refine D9 ?_ | refine El ?_) | exact DW | refine DF (by assumption) hr rfl (by walk_at "x") (by walk_at "g") ?_ | refine LD (by walk_at "ck") (by walk_at "g") (nq nm) rfl rfl (fun KX' W pn hw=>?_) (fun a=>?_) | ((with_reducible show PS _ _ (tS _ _ _ _ (Wf _ _ _)));refine GL (by walk_at "ck") (by assumption) rfl hr Cb (by walk_at "g") (by walk_at "g") (fun KX' W pn hw=>?_)) | refine Ey (by walk_at "ck") (by walk_at "g") (fun KX' W pn hw=>?_) (fun a=>?_))
set_option hygiene false in
local macro_rules | `(tactic| walk_at "d")=>`(tactic| (have hu:=hr.units;have hgd:=hr.gd;repeat' (first | ((with_reducible show PSs _ (K9 _) _);show PSs _ (_ :: _) _) | ((with_reducible show PSs _ (Stmt.Assign _ _ _ :: _ :: _) _);generalize hS:(_ :: _:List Stmt)=sts;refine D4 hS ?_ ?_) | ((with_reducible show PS _ (Stmt.Assign [Expr.Name _ _] (Expr.List _ _) _) (tS _ _ _ _ (Kw _ _)));generalize hS:Stmt.Assign _ _ _=st;refine Hj hS nm ?_) | ((with_reducible show PS _ (Stmt.Assign [Expr.Name _ _] (Expr.BinOp _ _ _ _) _) (tS _ _ _ _ (UU _ _)));generalize hS:Stmt.Assign _ _ _=st;refine Lj hS nm ?_) | ((with_reducible show PE _ (Expr.List _ _) _);generalize hS:Expr.List _ _=e;first | refine D3 hS ?_ | refine E8 hS ?_) | ((with_reducible show PE _ (Expr.Tuple _ _ _) _);generalize hS:Expr.Tuple _ _ _=e;refine E7 hS ?_) | ((with_reducible show PE _ (Expr.BinOp _ Operator.Add _ _) (tD _ _ _ _));generalize hS:Expr.BinOp _ _ _ _=e;refine Pp Pc hS ?_ ?_) | ((with_reducible show PE _ (Expr.BinOp _ Operator.Mult _ _) (tD _ _ _ _));generalize hS:Expr.BinOp _ _ _ _=e;refine Pp Pb hS ?_ ?_) | ((with_reducible show PA _ (_ :: _) (tDs _ _ _ _));generalize hS:(_ :: _:List Expr)=es;refine Cc hS ?_ ?_) | ((with_reducible show PE _ _ (tD _ _ _ _));first | walk_at "e") | ((with_reducible show PA _ _ (tDs _ _ _ _));first | refine OG ?_ ?_ | exact Er) | ((with_reducible show PSs _ _ (tS _ _ _ _ _));first | refine Oe ?_ ?_ | refine HW ?_ | exact HX | exact sD_nevers) | ((with_reducible show PS _ _ _);walk_at "s") | ((with_reducible show PT _ _ _);walk_at "t") | ((with_reducible show PW _ _ _);first | refine FI ?_ ?_ | refine Gd ?_ ?_ | refine Dm ?_ | refine FJ ?_) | ((with_reducible show PE _ _ (tL _ _ _ _));walk_at "l") | ((with_reducible show PI _ _ _ _);walk_at "i") | ((with_reducible show PG _ _ _);first | exact Ln nm | exact Lu | refine Gz rfl ?_) | ((with_reducible show PGs _ _ _);first | exact HU | refine Ek ?_ ?_) | ((with_reducible show PO _ _ _);first | exact Dk | refine DZ ?_) | ((with_reducible show Zg _ _ _ _ _ _ _ _ _);refine fun cl C s0 H0 ex=>⟨fun B' G'=>?_,fun B' G'=>?_,?_⟩) | ((with_reducible show ZV _ _ _);first | exact Ee | refine Ed ?_) | ((with_reducible show VS _ _ _ _ _ _);first | refine Bf rfl rfl rfl fun B' G'=>?_ | refine Be rfl rfl rfl rfl (fun _=>rfl) (fun B' G'=>?_) (fun B' G'=>?_) (fun B' G'=>?_) ?_) | ((with_reducible show PE _ _ (tX _ _ _ _ _));refine DE (by assumption) hr (by walk_at "x") (by walk_at "g") ?_) | ((with_reducible show PSs _ _ (tSO _ _ _ _ _));first | refine Lw ?_ | refine GR ?_ ?_))))
section
variable{P:J4}{w:World}{K:Frag}{mg:Str->A1}{base:Heap}{f:J5}{fd:J6}(T:Txt K mg)
include T
theorem Kau(F:Fun K "_law_good" "_law_good" Sau f fd):FnOk P w K mg base CX0 1 f fd ["_law_wishes_here", "_law_change_here"] (spD K 2 Yx):=
 okD (k:=0) (g:=W1) F (fq Hau 2) AU λcdv A outer s H E B G0 hr=>
 have nm:=Hau
 by walk_at "d"
theorem Kav(F:Fun K "_law_behind" "_law_behind" Sav f fd):FnOk P w K mg base CX0 1 f fd ["_law_wishes_here", "_law_change_here"] (spD K 2 X3):=
 okD (k:=0) (g:=W0) F (fq Hav 2) AU λcdv A outer s H E B G0 hr=>
 have nm:=Hav
 by walk_at "d"
theorem Kah(F:Fun K "copied_wishes" "copied_wishes" Sah f fd):FnOk P w K mg base CX0 1 f fd ["wishes"] (spD K 1 YB):=
 okD (k:=0) (g:=Va) F (fq Hah 1) AU λcdv A outer s H E B G0 hr=>
 have nm:=Hah
 by walk_at "d"
theorem Kaj(F:Fun K "behind_change" "behind_change" Saj f fd):FnOk P w K mg base CX0 1 f fd ["wishes", "change"] (spD K 2 Yz):=
 okD (k:=0) (g:=W8) F (fq Haj 2) AU λcdv A outer s H E B G0 hr=>
 have nm:=Haj
 by walk_at "d"
theorem Kaa(F:Fun K "is_whole" "is_whole" Saa f fd):FnOk P w K mg base CX0 1 f fd ["thing"] (spD K 1 YZ):=
 okD (k:=0) (g:=Ve) F (fq Haa 1) AU λcdv A outer s H E B G0 hr=>
 have nm:=Haa
 by walk_at "d"
theorem Kab(j7:Def P w K mg base "is_whole" 1 1 YZ)(F:Fun K "is_number_below" "is_number_below" Sab f fd):FnOk P w K mg base CX0 2 f fd ["thing", "many"] (spD K 2 KL):=
 okD (k:=1) (g:=XN) F (fq Hab 2) AU λcdv A outer s H E B G0 hr=>
 have nm:=Hab
 by walk_at "d"
theorem Kai(qt:Def P w K mg base "is_number_below" 2 2 KL)(t_SIZES:XX w K mg "SIZES" S3)(F:Fun K "has_change_form" "has_change_form" Sai f fd):FnOk P w K mg base CX0 3 f fd ["wishes", "thing"] (spD K 2 YA):=
 okD (k:=2) (g:=W9) F (fq Hai 2) AU λcdv A outer s H E B G0 hr=>
 have nm:=Hai
 by walk_at "d"
theorem Kad(qt:Def P w K mg base "is_number_below" 2 2 KL)(F:Fun K "is_rank" "is_rank" Sad f fd):FnOk P w K mg base CX0 3 f fd ["thing", "things"] (spD K 2 ZX):=
 okD (k:=2) (g:=XJ) F (fq Had 2) AU λcdv A outer s H E B G0 hr=>
 have nm:=Had
 by walk_at "d"
theorem Kae(j4:Def P w K mg base "is_rank" 3 2 ZX)(F:Fun K "is_asker_list" "is_asker_list" Sae f fd):FnOk P w K mg base CX0 4 f fd ["thing", "things"] (spD K 2 ZW):=
 okD (k:=3) (g:=XI) F (fq Hae 2) AU λcdv A outer s H E B G0 hr=>
 have nm:=Hae
 by walk_at "d"
theorem AS(qZ:Def P w K mg base "is_asker_list" 4 2 ZW)(qd:MkX P w K mg base "NoWishes" 2)(F:Fun K "look_at_lists" "look_at_lists" Mz f fd):FnOk P w K mg base (CX1 P w) 5 f fd ["lists", "things"] (spX K 2 Sn):=
 okX (k:=4) (g:=RU) F (fq MI 2) AU λcdv A outer s H E B G0 hr=>
 have nm:=MI
 by walk_at "d"
theorem AR(qt:Def P w K mg base "is_number_below" 2 2 KL)(qd:MkX P w K mg base "NoWishes" 2)(F:Fun K "look_at_copies" "look_at_copies" MD f fd):FnOk P w K mg base (CX1 P w) 4 f fd ["copies"] (spX K 1 So):=
 okX (k:=3) (g:=RT) F (fq MF 1) AU λcdv A outer s H E B G0 hr=>
 have nm:=MF
 by walk_at "d"
theorem AQ(qg:Wd P w K mg base "look_at_lists" 5 2 Sn)(qe:Wd P w K mg base "look_at_copies" 4 1 So)(qd:MkX P w K mg base "NoWishes" 2)(F:Fun K "look_at_wishes" "look_at_wishes" MB f fd):FnOk P w K mg base (CX1 P w) 6 f fd ["thing"] (spX K 1 Wo):=
 okX (k:=5) (g:=RS) F (fq ME 1) AU λcdv A outer s H E B G0 hr=>
 have nm:=ME
 by walk_at "d"
theorem Ax(qY:Def P w K mg base "copied_wishes" 1 1 YB)(qW:Def P w K mg base "behind_change" 1 2 Yz)(qX:Def P w K mg base "has_change_form" 3 2 YA)(qc:Wd P w K mg base "look_at_wishes" 6 1 Wo)(qk:MkX P w K mg base "NoChange" 1)(h_NoChange:MkH P w K mg base "NoChange")(F:Fun K "changed" "changed" Ma f fd):FnOk P w K mg base (K8 AX P w) 7 f fd ["wishes", "change"] (spX K 2 Sk):=
 okX (k:=6) (g:=Ry) F (fq NU 2) AU λcdv A outer s H E B G0 hr=>
 have nm:=NU
 by walk_at "d"
theorem Aw(ql:VI AX P w K mg base "changed" 7 2 Sk)(F:Fun K "carried" "carried" N8 f fd):FnOk P w K mg base (K8 AX P w) 8 f fd ["wishes", "change", "dealing"] (spX K 3 Sj):=
 okX (k:=7) (g:=Rx) F (fq NT 3) AU λcdv A outer s H E B G0 hr=>
 have nm:=NT
 by walk_at "d"
theorem Kay(qm:VI AX P w K mg base "carried" 8 3 Sj)(F:Fun K "_law_told" "_law_told" Say f fd):FnOk P w K mg base CX0 9 f fd ["_law_wishes_here", "_law_change_here", "_law_dealing"] (spD K 3 YY):=
 okD (k:=8) (g:=WX) F (fq Hay 3) AU λcdv A outer s H E B G0 hr=>
 have nm:=Hay
 by walk_at "d"
theorem Kar(F:Fun K "_law_is_whole" "_law_is_whole" Sar f fd):FnOk P w K mg base CX0 1 f fd ["_law_thing"] (spD K 1 Yy):=
 okD (k:=0) (g:=g_ar) F (fq Har 1) AU λcdv A outer s H E B G0 hr=>
 have nm:=Har
 by walk_at "d"
theorem Kaw(F:Fun K "_law_carried" "_law_carried" Saw f fd):FnOk P w K mg base CX0 1 f fd ["_law_change_here", "_law_dealing"] (spD K 2 X2):=
 okD (k:=0) (g:=WZ) F (fq Haw 2) AU λcdv A outer s H E B G0 hr=>
 have nm:=Haw
 by walk_at "d"
theorem Kax(F:Fun K "_law_copy" "_law_copy" Sax f fd):FnOk P w K mg base CX0 1 f fd ["_law_wishes_here"] (spD K 1 X1):=
 okD (k:=0) (g:=WY) F (fq Hax 1) AU λcdv A outer s H E B G0 hr=>
 have nm:=Hax
 by walk_at "d"
theorem Kaf(qZ:Def P w K mg base "is_asker_list" 4 2 ZW)(F:Fun K "look_at_lists" "look_at_lists" Saf f fd):FnOk P w K mg base CX0 5 f fd ["lists", "things"] (spD K 2 Wb):=
 okD (k:=4) (g:=Vc) F (fq Haf 2) AU λcdv A outer s H E B G0 hr=>
 have nm:=Haf
 by walk_at "d"
theorem Kac(qt:Def P w K mg base "is_number_below" 2 2 KL)(F:Fun K "look_at_copies" "look_at_copies" Sac f fd):FnOk P w K mg base CX0 3 f fd ["copies"] (spD K 1 Wc):=
 okD (k:=2) (g:=Vd) F (fq Hac 1) AU λcdv A outer s H E B G0 hr=>
 have nm:=Hac
 by walk_at "d"
theorem Kag(jZ:Def P w K mg base "look_at_lists" 5 2 Wb)(j6:Def P w K mg base "look_at_copies" 3 1 Wc)(F:Fun K "look_at_wishes" "look_at_wishes" Sag f fd):FnOk P w K mg base CX0 6 f fd ["thing"] (spD K 1 Wa):=
 okD (k:=5) (g:=Vb) F (fq Hag 1) AU λcdv A outer s H E B G0 hr=>
 have nm:=Hag
 by walk_at "d"
theorem Kak(qY:Def P w K mg base "copied_wishes" 1 1 YB)(qW:Def P w K mg base "behind_change" 1 2 Yz)(qX:Def P w K mg base "has_change_form" 3 2 YA)(jY:Def P w K mg base "look_at_wishes" 6 1 Wa)(qc:Wd P w K mg base "look_at_wishes" 6 1 Wo)(F:Fun K "changed" "changed" Sak f fd):FnOk P w K mg base CX0 7 f fd ["wishes", "change"] (spD K 2 X9):=
 okD (k:=6) (g:=XH) F (fq Hak 2) AU λcdv A outer s H E B G0 hr=>
 have nm:=Hak
 by walk_at "d"
theorem Av(jX:Def P w K mg base "changed" 7 2 X9)(F:Fun K "carried" "carried" N6 f fd):FnOk P w K mg base CX0 8 f fd ["wishes", "change", "dealing"] (spO K 3 Td):=
 okO (k:=7) (g:=Te) F (fq NS 3) AU λcdv A outer s H E B G0 hr=>
 have nm:=NS
 by walk_at "d"
theorem Az(qo:We P w K mg base "carried" 8 3 Td)(F:Fun K "_law_told" "_law_told" Mt f fd):FnOk P w K mg base CX0 9 f fd ["_law_wishes_here", "_law_change_here", "_law_dealing"] (spO K 3 Th):=
 okO (k:=8) (g:=Ti) F (fq Mp 3) AU λcdv A outer s H E B G0 hr=>
 have nm:=Mp
 by walk_at "d"
theorem Kaz(jN:Def P w K mg base "_law_told" 9 3 YY)(jT:Def P w K mg base "_law_is_whole" 1 1 Yy)(jP:Def P w K mg base "_law_carried" 1 2 X2)(qU:Def P w K mg base "_law_good" 1 2 Yx)(jO:Def P w K mg base "_law_copy" 1 1 X1)(qi:We P w K mg base "_law_told" 9 3 Th)(F:Fun K "_law_step" "_law_step" Saz f fd):FnOk P w K mg base CX0 10 f fd ["_law_wishes_here", "_law_change_here", "_law_dealing"] (spD K 3 X0):=
 okD (k:=9) (g:=WW) F (fq Haz 3) AU λcdv A outer s H E B G0 hr=>
 have nm:=Haz
 by walk_at "d"
theorem Kam(F:Fun K "_law_cell_at" "_law_cell_at" Sam f fd):FnOk P w K mg base CX0 1 f fd ["_law_script", "_law_k"] (spD K 2 ZH):=
 okD (k:=0) (g:=XG) F (fq Ham 2) AU λcdv A outer s H E B G0 hr=>
 have nm:=Ham
 by walk_at "d"
theorem Kap(F:Fun K "_law_wished" "_law_wished" Sap f fd):FnOk P w K mg base CX0 1 f fd ["_law_wishes_here", "_law_asker"] (spD K 2 X7):=
 okD (k:=0) (g:=W5) F (fq Hap 2) AU λcdv A outer s H E B G0 hr=>
 have nm:=Hap
 by walk_at "d"
theorem Kan(F:Fun K "_law_numbers" "_law_numbers" San f fd):FnOk P w K mg base CX0 1 f fd ["_law_cell", "_law_salt", "_law_sizes"] (spD K 3 Zt):=
 okD (k:=0) (g:=W7) F (fq Han 3) AU λcdv A outer s H E B G0 hr=>
 have nm:=Han
 by walk_at "d"
theorem Kaq(jV:Def P w K mg base "_law_wished" 1 2 X7)(qC:Def P w K mg base "_law_numbers" 1 3 Zt)(F:Fun K "_law_dealt" "_law_dealt" Saq f fd):FnOk P w K mg base CX0 2 f fd ["_law_wishes_here", "_law_cell", "_law_salt"] (spD K 3 X6):=
 okD (k:=1) (g:=W4) F (fq Haq 3) AU λcdv A outer s H E B G0 hr=>
 have nm:=Haq
 by walk_at "d"
theorem Kas(F:Fun K "_law_ranks" "_law_ranks" Sas f fd):FnOk P w K mg base CX0 1 f fd ["_law_places", "_law_things"] (spD K 2 X5):=
 okD (k:=0) (g:=W3) F (fq Has 2) AU λcdv A outer s H E B G0 hr=>
 have nm:=Has
 by walk_at "d"
theorem Kat(jS:Def P w K mg base "_law_ranks" 1 2 X5)(qC:Def P w K mg base "_law_numbers" 1 3 Zt)(F:Fun K "_law_change" "_law_change" Sat f fd):FnOk P w K mg base CX0 2 f fd ["_law_wishes_here", "_law_cell", "_law_salt"] (spD K 3 X4):=
 okD (k:=1) (g:=W2) F (fq Hat 3) AU λcdv A outer s H E B G0 hr=>
 have nm:=Hat
 by walk_at "d"
theorem Kao(qC:Def P w K mg base "_law_numbers" 1 3 Zt)(qV:Def P w K mg base "_law_cell_at" 1 2 ZH)(F:Fun K "_law_wishes" "_law_wishes" Sao f fd):FnOk P w K mg base CX0 2 f fd ["_law_script", "_law_at", "_law_most_things", "_law_most_askers", "_law_most_ranks"] (spD K 5 X8):=
 okD (k:=1) (g:=W6) F (fq Hao 5) AU λcdv A outer s H E B G0 hr=>
 have nm:=Hao
 by walk_at "d"
theorem Kba(qU:Def P w K mg base "_law_good" 1 2 Yx)(jQ:Def P w K mg base "_law_behind" 1 2 X3)(jM:Def P w K mg base "_law_step" 10 3 X0)(qV:Def P w K mg base "_law_cell_at" 1 2 ZH)(jU:Def P w K mg base "_law_dealt" 2 3 X6)(jR:Def P w K mg base "_law_change" 2 3 X4)(jW:Def P w K mg base "_law_wishes" 2 5 X8)(F:Fun K "law" "law" Sba f fd):FnOk P w K mg base CX0 11 f fd ["_law_script"] (spD K 1 XZ):=
 okD (k:=10) (g:=WV) F (fq Hba 1) AU λcdv A outer s H E B G0 hr=>
 have nm:=Hba
 by walk_at "d"
end
theorem Kx:recsOf q0=WE p0 ixL:=by show recsOf (PySem.W.view PySem.Challenge.pw_wishdeal_k72_dealings_carried Z3)=WE PySem.Challenge.pw_wishdeal_k72_dealings_carried ixL;rw[PySem.W.Fast.te3399658132070893891,PySem.W.Fast.te13829913097979612202];kernel_rfl
theorem Zu:(["ValueError", "all", "bool", "enumerate", "int", "isinstance", "len", "list", "max", "min", "range", "repr", "set", "sorted", "str", "sum", "tuple"]:List Str).all (Tv q0 (PySem.W.looseW q0 ["SIZES"]))=AW:=by show List.all _ (Tv (PySem.W.view PySem.Challenge.pw_wishdeal_k72_dealings_carried Z3) (PySem.W.looseW (PySem.W.view PySem.Challenge.pw_wishdeal_k72_dealings_carried Z3) ["SIZES"]))=AW;k_qdec
theorem AN:valOf q0 "MOST_ASKERS" = O (.int 7):=by show valOf (PySem.W.view PySem.Challenge.pw_wishdeal_k72_dealings_carried Z3) _=_;rw[Jn,PySem.W.Fast.te13829913097979612202];kernel_rfl
theorem AM:valOf q0 "MOST_COPIES" = O (.int 7):=by show valOf (PySem.W.view PySem.Challenge.pw_wishdeal_k72_dealings_carried Z3) _=_;rw[Jn,PySem.W.Fast.te13829913097979612202];kernel_rfl
theorem Ay:valOf q0 "MOST_RANKS" = O (.int 5):=by show valOf (PySem.W.view PySem.Challenge.pw_wishdeal_k72_dealings_carried Z3) _=_;rw[Jn,PySem.W.Fast.te13829913097979612202];kernel_rfl
theorem AL:valOf q0 "MOST_THINGS" = O (.int 6):=by show valOf (PySem.W.view PySem.Challenge.pw_wishdeal_k72_dealings_carried Z3) _=_;rw[Jn,PySem.W.Fast.te13829913097979612202];kernel_rfl
theorem Hd{l:PySem.W.OpenLaw}{w:World}{s0:J0}{mg mb:Str->A1}{fa:J5}{h:Heap}{XP:(Str->A1)->Heap->Prop}(G:PySem.W.Ground q0 ["SIZES"] [] XP w s0 mg mb h)(Y0:XYP p0 clsL h/\TabP w "SIZES" [("list", 3),("copies", 3),("come", 2),("go", 2),("thing", 2)] h)(hfa:mg "law" = O (.ref fa)) :
  ∃fd:J6,(∀(s:J0)(v:JZ),BindsTo s fd ⟨[v],[]⟩ [("_law_script", v)])/\∀base:Heap,FnOk l.prog w (whole h) mg base CX0 11 fa fd ["_law_script"] (spD (whole h) 1 XZ):=by
 have Y:=Y0.1;obtain⟨D0,f0,fd0,R,RH⟩:=E4 (i:=1) G.T.g Y (mq 0 AU) (Zz G.T Zu (mq 0 AU)) (Kr (by decide +kernel)) AU (λ_=>⟨_,rfl⟩) (λ_ _ _ _ _ _ us hl=>bz2 (us:=us) hl λ_ _=>rfl);have T:Txt (whole h) mg:=⟨Zz G.T Zu (mq 0 AU),Zz G.T Zu (mq 1 AU),Zz G.T Zu (mq 2 AU),Zz G.T Zu (mq 3 AU),Zz G.T Zu (mq 4 AU),Zz G.T Zu (mq 5 AU),Zz G.T Zu (mq 6 AU),Zz G.T Zu (mq 7 AU),Zz G.T Zu (mq 8 AU),Zz G.T Zu (mq 9 AU),Zz G.T Zu (mq 10 AU),Zz G.T Zu (mq 11 AU),Zz G.T Zu (mq 12 AU),Zz G.T Zu (mq 13 AU),Zz G.T Zu (mq 14 AU),Zz G.T Zu (mq 15 AU),Zz G.T Zu (mq 16 AU),T4 G.T AN,T4 G.T AM,T4 G.T Ay,T4 G.T AL,TC (c:=("DealError", O 1)) G.T.g Y R (mq 0 AU),TC (c:=("NoAim", O 3)) G.T.g Y R (mq 2 AU),TC (c:=("NoChange", AV)) G.T.g Y R (mq 3 AU),TC (c:=("NoWishes", O 2)) G.T.g Y R (mq 1 AU),Lx (G.T.seer (by decide +kernel))⟩
 refine ML G.T Kx 40 "law" rfl AU hfa (λ_ _ _ _ _ _ _=>rfl) λbase=>?_
 have qd:=Ly (nm:= "NoWishes") (j:=2) (ps:=["self", "part", "number"]) G.T.g Y R (mq 1 AU) (by decide) l.prog w base (λ_ _ _ _ _ _ us hl=>bz3 (us:=us) hl λ_ _ _=>rfl) (λFU=>GW R.cf (R.ok l.prog w base) R.bd R.at' FU (Kr (by decide +kernel)) AU (λ_=>⟨_,rfl⟩) (by decide) (by decide));have qk:=Lz (nm:= "NoChange") G.T.g Y R (mq 3 AU) AU l.prog w base;have h_NoChange:=Hh (nm:= "NoChange") G.T.g Y R RH (mq 3 AU) AU l.prog w base;have qU:=KR l.prog w base G.T Kx 34 "_law_good" rfl AU (λF=>Kau T  F) λ_ _ _ _ _ _ us hl=>bz2 (us:=us) hl λ_ _=>rfl
 have jQ:=KR l.prog w base G.T Kx 35 "_law_behind" rfl AU (λF=>Kav T  F) λ_ _ _ _ _ _ us hl=>bz2 (us:=us) hl λ_ _=>rfl
 have qY:=KR l.prog w base G.T Kx 18 "copied_wishes" rfl AU (λF=>Kah T  F) λ_ _ _ _ _ _ us hl=>bz1 (us:=us) hl λ_=>rfl
 have qW:=KR l.prog w base G.T Kx 22 "behind_change" rfl AU (λF=>Kaj T  F) λ_ _ _ _ _ _ us hl=>bz2 (us:=us) hl λ_ _=>rfl
 have j7:=KR l.prog w base G.T Kx 6 "is_whole" rfl AU (λF=>Kaa T  F) λ_ _ _ _ _ _ us hl=>bz1 (us:=us) hl λ_=>rfl
 have qt:=KR l.prog w base G.T Kx 7 "is_number_below" rfl AU (λF=>Kab T j7 F) λ_ _ _ _ _ _ us hl=>bz2 (us:=us) hl λ_ _=>rfl
 have qX:=KR l.prog w base G.T Kx 21 "has_change_form" rfl AU (λF=>Kai T qt (GJ G.T.g Y0.2) F) λ_ _ _ _ _ _ us hl=>bz2 (us:=us) hl λ_ _=>rfl
 have j4:=KR l.prog w base G.T Kx 14 "is_rank" rfl AU (λF=>Kad T qt F) λ_ _ _ _ _ _ us hl=>bz2 (us:=us) hl λ_ _=>rfl
 have qZ:=KR l.prog w base G.T Kx 15 "is_asker_list" rfl AU (λF=>Kae T j4 F) λ_ _ _ _ _ _ us hl=>bz2 (us:=us) hl λ_ _=>rfl
 have qg:=V0 l.prog w base G.T Kx 16 "look_at_lists" rfl AU (λF=>AS T qZ qd F) λ_ _ _ _ _ _ us hl=>bz2 (us:=us) hl λ_ _=>rfl
 have qe:=V0 l.prog w base G.T Kx 13 "look_at_copies" rfl AU (λF=>AR T qt qd F) λ_ _ _ _ _ _ us hl=>bz1 (us:=us) hl λ_=>rfl
 have qc:=V0 l.prog w base G.T Kx 17 "look_at_wishes" rfl AU (λF=>AQ T qg qe qd F) λ_ _ _ _ _ _ us hl=>bz1 (us:=us) hl λ_=>rfl
 have ql:=V0 l.prog w base G.T Kx 23 "changed" rfl AU (λF=>Ax T qY qW qX qc qk h_NoChange F) λ_ _ _ _ _ _ us hl=>bz2 (us:=us) hl λ_ _=>rfl
 have qm:=V0 l.prog w base G.T Kx 24 "carried" rfl AU (λF=>Aw T ql F) λ_ _ _ _ _ _ us hl=>bz3 (us:=us) hl λ_ _ _=>rfl
 have jN:=KR l.prog w base G.T Kx 38 "_law_told" rfl AU (λF=>Kay T qm F) λ_ _ _ _ _ _ us hl=>bz3 (us:=us) hl λ_ _ _=>rfl
 have jT:=KR l.prog w base G.T Kx 31 "_law_is_whole" rfl AU (λF=>Kar T  F) λ_ _ _ _ _ _ us hl=>bz1 (us:=us) hl λ_=>rfl
 have jP:=KR l.prog w base G.T Kx 36 "_law_carried" rfl AU (λF=>Kaw T  F) λ_ _ _ _ _ _ us hl=>bz2 (us:=us) hl λ_ _=>rfl
 have jO:=KR l.prog w base G.T Kx 37 "_law_copy" rfl AU (λF=>Kax T  F) λ_ _ _ _ _ _ us hl=>bz1 (us:=us) hl λ_=>rfl
 have jZ:=KR l.prog w base G.T Kx 16 "look_at_lists" rfl AU (λF=>Kaf T qZ F) λ_ _ _ _ _ _ us hl=>bz2 (us:=us) hl λ_ _=>rfl
 have j6:=KR l.prog w base G.T Kx 13 "look_at_copies" rfl AU (λF=>Kac T qt F) λ_ _ _ _ _ _ us hl=>bz1 (us:=us) hl λ_=>rfl
 have jY:=KR l.prog w base G.T Kx 17 "look_at_wishes" rfl AU (λF=>Kag T jZ j6 F) λ_ _ _ _ _ _ us hl=>bz1 (us:=us) hl λ_=>rfl
 have jX:=KR l.prog w base G.T Kx 23 "changed" rfl AU (λF=>Kak T qY qW qX jY qc F) λ_ _ _ _ _ _ us hl=>bz2 (us:=us) hl λ_ _=>rfl
 have qo:=Pr l.prog w base G.T Kx 24 "carried" rfl AU (λF=>Av T jX F) λ_ _ _ _ _ _ us hl=>bz3 (us:=us) hl λ_ _ _=>rfl
 have qi:=Pr l.prog w base G.T Kx 38 "_law_told" rfl AU (λF=>Az T qo F) λ_ _ _ _ _ _ us hl=>bz3 (us:=us) hl λ_ _ _=>rfl
 have jM:=KR l.prog w base G.T Kx 39 "_law_step" rfl AU (λF=>Kaz T jN jT jP qU jO qi F) λ_ _ _ _ _ _ us hl=>bz3 (us:=us) hl λ_ _ _=>rfl
 have qV:=KR l.prog w base G.T Kx 26 "_law_cell_at" rfl AU (λF=>Kam T  F) λ_ _ _ _ _ _ us hl=>bz2 (us:=us) hl λ_ _=>rfl
 have jV:=KR l.prog w base G.T Kx 29 "_law_wished" rfl AU (λF=>Kap T  F) λ_ _ _ _ _ _ us hl=>bz2 (us:=us) hl λ_ _=>rfl
 have qC:=KR l.prog w base G.T Kx 27 "_law_numbers" rfl AU (λF=>Kan T  F) λ_ _ _ _ _ _ us hl=>bz3 (us:=us) hl λ_ _ _=>rfl
 have jU:=KR l.prog w base G.T Kx 30 "_law_dealt" rfl AU (λF=>Kaq T jV qC F) λ_ _ _ _ _ _ us hl=>bz3 (us:=us) hl λ_ _ _=>rfl
 have jS:=KR l.prog w base G.T Kx 32 "_law_ranks" rfl AU (λF=>Kas T  F) λ_ _ _ _ _ _ us hl=>bz2 (us:=us) hl λ_ _=>rfl
 have jR:=KR l.prog w base G.T Kx 33 "_law_change" rfl AU (λF=>Kat T jS qC F) λ_ _ _ _ _ _ us hl=>bz3 (us:=us) hl λ_ _ _=>rfl
 have jW:=KR l.prog w base G.T Kx 28 "_law_wishes" rfl AU (λF=>Kao T qC qV F) λ_ _ _ _ _ _ us hl=>bz5 (us:=us) hl λ_ _ _ _ _=>rfl
 exact λ{_ _} F=>Kba T qU jQ jM qV jU jR jW F
noncomputable abbrev d_ba:DefRec:=⟨"law", YI Sba,K9 Sba,Ki Sba,MM Sba⟩
theorem walk{XP:(Str->A1)->Heap->Prop}(hlaw:∀ns:A0,ns.length<=63->XZ [.list (ns.map int)]=O (.bool AW)):PySem.W.WalkO q0 ["SIZES"] XP (λw h=>XYP p0 clsL h/\TabP w "SIZES" [("list", 3),("copies", 3),("come", 2),("go", 2),("thing", 2)] h) (PySem.Challenge.rw_wishdeal_k72_dealings_carried).row.toRowW d_ba [] (λf vs=>PySem.call f vs):=
 Cf (n:=63) (k:=11) (x:= "_law_script") AU (by decide) AU ⟨rfl,by decide,by decide,rfl⟩ (λ_ _ _ _ _ _ G Y hm=>Hd G Y hm) hlaw
theorem GE{g:M AY}{ρ ρ1:Ut}{xs r:AY}(h1:g ρ=.ok xs ρ1)(h2:Wz xs=O r):Tz g ρ=.ok r ρ1:=by unfold Tz;exact Kd h1 (KQ h2)
theorem R1{f:M D}{ρ ρ1:Ut}{d:D}{t:Bool}(h:f ρ=.ok d ρ1)(ht:(!isNon d)=t):UE (λd=>!isNon d) f ρ=.ok t ρ1:=by subst ht;exact Kl (k:=λd=>!isNon d) h
theorem N4{sizes found:A0}{z d:Int}(h:∀(j:Nat) d z,found[j]?=O d->sizes[j]?=O z->0<=d/\d<z)(hz:sizes[found.length]?=O z)(h0:0<=d/\d<z) :
  ∀(j:Nat) d' z',(found++[d])[j]?=O d'->sizes[j]?=O z'->0<=d'/\d'<z':=by
 intro j d' z' e1 e2;by_cases hj:j<found.length
 .rw[Qs hj]at e1
  exact h j d' z' e1 e2
 .by_cases hj2:j=found.length
  .subst hj2
   rw[hz]at e2;cases e2;rw[Qu (Qq _),Nat.sub_self,List.getElem?_cons_zero]at e1;cases e1;exact h0
  .rw[Jw (by rw[Qk,QF];lia)]at e1
   cases e1
noncomputable abbrev pb(d:D):Option Sl:=O (.pub d)
def inv(c s:Int)(sizes:A0)(n:Int)(i:Nat)(ρ:Ut):Prop:=∃left found x6 x7,ρ=[O (Sl.pub (.int c)),pb (.int s),pb (.list (sizes.map .int)),pb (.int n),pb (.int left),O (.own ((found:A0).map .int)),x6,x7] /\
 found.length=i/\∀(j:Nat) d z,found[j]?=O d->sizes[j]?=O z->0<=d/\d<z
theorem CC{c s n:Int}{sizes:A0}(hs:∀x∈sizes,0<x/\x<18446744073709551616)(hl:sizes.length<=1000){i:Nat}{d:D}{ρ:Ut}{Q:Out->Prop}(hi:(K0 0 sizes.length)[i]?=O d)(h:inv c s sizes n i ρ) :
  ∃ρ2,gN 6 d ρ=O ρ2/\Ho S2 ρ2 (Vj (inv c s sizes n (i+1)) Q):=by
 obtain⟨left,found,x6,x7,rfl,hf,hfd⟩:=h;obtain⟨rfl,hlt⟩:=Tj hi;obtain⟨z,hz⟩:∃z,sizes[i]?=O z:=⟨sizes[i]'(by lia),Qi _⟩
 obtain⟨z1,z2⟩:=hs z (QZ hz);have hix:oIx (.list (sizes.map int)) (.int (0+(i:Int)))=O (.int z):=by rw[Int.zero_add];exact Z6 (by rw[Qt,hz];rfl)
 generalize hk:(0:Int)+(i:Int)=k at hix⊢;have hk1:k<18446744073709551616:=by lia
 have hk2 : -18446744073709551616<k:=by lia
 have hlen:(found.map int).length<1000000:=by rw[Qd];lia
 have pw:YS (.int 10) (.int 18)=O (.int 1000000000000000000):=by rw[EF (by decide)];rfl
 refine⟨_,UN (Qa AU) AU,?_⟩;unfold S2;apply UM
 case h1=>exact SL (Ye AU (UI Uy Uy pw) AU) λ_=>Ye AU Uy AU
 case h2=>intro _;refine UR (YE AU (UI (UA AU) (UL AU (UA AU) hix) (Xq (by lia))) AU hlen AU) ?_;refine Kk (Kf (UI (UA AU) (UL AU (UA AU) hix) (Oq (by lia) (by lia))) (Qa AU) AU) (Z5 ?_);exact⟨_,found++[left % z],_,_,by rw[QN];rfl,by rw[Qk,hf];rfl,N4 hfd (by rw[hf];exact hz) ⟨JS _ (by lia),JM _ z1⟩⟩
 case h3=>intro _;refine UR (Kf (UI (UI (UI (UI (UA AU) (UI Uy (UA AU) (T9 (by decide) (by decide))) K3) (UI (UI Uy (UA AU) (T9 (by decide) (by decide))) (UA AU) (Sh hk2 hk1)) K3) (UA AU) K3) Uy (Xq (by decide))) (Qa AU) AU) ?_;refine UR (Kf (UI (UI (UA AU) Uy (Sh (by decide) (by decide))) Uy (Xq (by decide))) (Qa AU) AU) ?_;refine UR (Kf (UI (UI (UI (UI (UA AU) (UA AU) (Sh (by lia) (by lia))) Uy (Xq (by decide))) Uy (Sh (by decide) (by decide))) Uy (Xq (by decide))) (Qa AU) AU) ?_;refine Kk (YE AU (UI (UI (UA AU) Uy (Oq (by decide) (by decide))) (UL AU (UA AU) hix) (Xq (by lia))) AU hlen AU) (Z5 ?_);exact⟨_,found++[_ % z],_,_,by rw[QN];rfl,by rw[Qk,hf];rfl,N4 hfd (by rw[hf];exact hz) ⟨JS _ (by lia),JM _ z1⟩⟩
theorem Sr(c s:Int){sizes:A0}(hs:∀x∈sizes,0<x/\x<18446744073709551616)(hl:sizes.length<=1000) :
  ∃r,Zt [.int c,.int s,.list (sizes.map int)]=O r/\∃ds:A0,r=.list (ds.map .int)/\ds.length=sizes.length/\∀(j:Nat) d z,ds[j]?=O d->sizes[j]?=O z->0<=d/\d<z:=by
 refine Vr (ρ:=[pb (.int c),pb (.int s),pb (.list (sizes.map int)),AV,AV,AV,AV,AV]) AU ?_;unfold W7;refine UR (Kf (Zj (Uz (UA AU) (Uz (UI (VX Uy) (UA AU) Os) UD)) Op) (Qa AU) AU) ?_;refine UR (Kf (UA AU) (Qa AU) AU) ?_;refine UR (Zn (Vu UD (Qa AU)) (Qa AU) AU) ?_;apply UQ;apply Xj (ds:=K0 0 sizes.length) (inv c s sizes (if -1-c > c then -1-c else c))
 case h1=>exact V6 (Uz (Kq AU (by rw[KZ,Qd])) UD) (V8 (by lia) (by lia))
 case h0=>exact⟨_,[],AV,AV,rfl,rfl,λj d z e=>by cases e⟩
 case hst=>exact λi d ρ e h=>CC hs hl e h
 case hend=>rintro ρ ⟨left,found,x6,x7,rfl,hf,hfd⟩;rw[WN]at hf;exact UX (U5 (Zk rfl rfl) ⟨_,rfl,found,rfl,by lia,hfd⟩)
mutual
theorem Sf:∀(d:PyData),d.canLay0=AW->Uk d d=AW
 |.none,_=>rfl
 |.bool b,_=>by cases b<;>rfl
 |.int i,_=>by simp[Uk]
 |.str s,_=>by simp[Uk]
 |.list xs,h=>eqvAll_refl xs h
 |.tuple xs,h=>eqvAll_refl xs h
 |.dict _,h=>by cases h
theorem eqvAll_refl:∀(xs:List PyData),Ui xs=AW->PyData.eqvAll xs xs=AW
 |[],_=>rfl
 |x::r,h=>by
  have h:(PyData.canLay0 x&&Ui r)=AW:=h;rw[Qm]at h
  show(Uk x x&&PyData.eqvAll r r)=AW
  rw[Sf x h.1,eqvAll_refl r h.2];rfl
end
theorem Vx:∀{xs:AY},(∀x∈xs,PyData.canLay0 x=AW)->Ui xs=AW
 |[],_=>rfl
 |x::r,h=>by
  show(PyData.canLay0 x&&Ui r)=AW
  rw[h x Qp,Vx λy hy=>h y (Qo _ hy)];rfl
theorem Vw{n:Nat}:∀{xs:AY},(∀x∈xs,Uj x<=n)->PyData.depthAll xs<=n
 |[],_=>by simp[PyData.depthAll]
 |x::r,h=>by
  have h1:=h x Qp;have h2:=Vw (n:=n) λy hy=>h y (Qo _ hy);simp only[PyData.depthAll]
  lia
noncomputable def UW(r:A0):D:=.list (r.map int)
noncomputable def UP(rs:List A0):D:=.list (rs.map UW)
noncomputable def US(cs:A0)(ls:L3):D:=.tuple [.list (cs.map int),.list (ls.map UP)]
structure Kz(n:Nat)(rs:List A0):Prop where
 few:rs.length<=5
 some:∀r∈rs,r≠[]
 there:∀r∈rs,∀t∈r,0<=t/\t<n
 once:rs.flatten.Nodup
structure Good(cs:A0)(ls:L3):Prop where
 c1:1<=cs.length
 c6:cs.length<=6
 c7:∀c∈cs,0<=c/\c<8
 l1:1<=ls.length
 l7:ls.length<=7
 rk:∀rs∈ls,Kz cs.length rs
theorem Rj(r:A0):(UW r).canLay0=AW:=Vx λx hx=>by obtain⟨y,_,rfl⟩:=QA.mp hx;rfl
theorem CB(rs:List A0):(UP rs).canLay0=AW:=Vx λx hx=>by obtain⟨y,_,rfl⟩:=QA.mp hx;exact Rj y
theorem Ri(cs:A0)(ls:L3):(US cs ls).canLay0=AW:=Vx λx hx=>by
 have hx:x=.list (cs.map int)∨x=.list (ls.map UP):=by simpa using hx
 rcases hx with rfl|rfl
 .exact Rj cs
 .exact Vx λx hx=>by obtain⟨y,_,rfl⟩:=QA.mp hx;exact CB y
theorem GD(i:Int):(int i).depth<=1:=by simp[Uj]
theorem TW{n:Nat}{xs:AY}(h:PyData.depthAll xs<=n):(Ue xs).depth<=n+1:=by simp only[Uj];lia
theorem Rh(r:A0):(UW r).depth<=2:=TW (Vw λx hx=>by obtain⟨y,_,rfl⟩:=QA.mp hx;exact GD y)
theorem CA(rs:List A0):(UP rs).depth<=3:=TW (Vw λx hx=>by obtain⟨y,_,rfl⟩:=QA.mp hx;exact Rh y)
theorem EX(cs:A0)(ls:L3):(US cs ls).depth<=60:=by
 have h:PyData.depthAll [.list (cs.map int),.list (ls.map UP)]<=4:=Vw λx hx=>by
  have hx:x=.list (cs.map int)∨x=.list (ls.map UP):=by simpa using hx
  rcases hx with rfl|rfl
  .have:=Rh cs;unfold UW at this;omega
  .exact TW (Vw λx hx=>by obtain⟨y,_,rfl⟩:=QA.mp hx;exact CA y)
 unfold US;simp only[Uj]at h⊢;omega
theorem GC(cs:A0)(ls:L3):oNe (US cs ls) (US cs ls)=O AX:=by unfold oNe;rw[Qn ⟨Ri cs ls,Ri cs ls,EX cs ls⟩,Sf _ (Ri cs ls)];rfl
theorem Cz(i:Int):YZ [.int i]=O (.bool AW):=by refine K1 (ρ:=[pb (.int i)]) AU ?_;unfold Ve;exact U5 (Yh (Kl (UA AU)) (λ_=>Ot (Kl (UA AU)))) AU
theorem Nq{i m:Int}(h0:0<=i)(h1:i<m):KL [.int i,.int m]=O (.bool AW):=by
 refine K1 (ρ:=[pb (.int i),pb (.int m)]) AU ?_;unfold XN;have hb:(decide (0<=i)&&decide (i<m))=AW:=by simp[h0,h1]
 refine U5 (Yh (t:=AW) (u:=AW) (Kb (Uz (UA AU) UD) AU (Cz i)) (λ_=>?_)) AU;rw[←hb];exact Kl (VC Uy (UA AU) AU (λ_=>UA AU) (λ_=>rfl))
theorem Ro{α:Type}(l:List α):K6 [.list (l.map λ_=>.bool AW)]=O (.bool AW):=by
 have:(l.map λ_=>Uf AW)=(l.map λ_=>AW).map Uf:=by rw[Ja];rfl
 rw[this,S4]
 congr 2
 rw[List.all_map];induction l with
 |nil=>rfl
 |cons x r ih=>simpa using ih
theorem BV{r:A0}{n:Int}(hne:r≠[])(hl:r.length<=1000)(h:∀t∈r,0<=t/\t<n):ZX [UW r,.int n]=O (.bool AW):=by
 refine K1 (ρ:=[pb (UW r),pb (.int n)]) AU ?_;unfold XJ;apply UQ;have hlen:Ke [UW r]=O (.int r.length):=by unfold UW;rw[KZ,Qd]
 have hp:0<r.length:=List.length_pos_iff.mpr hne;apply UM
 case h1=>exact ZK (ρ1:=[pb (UW r),pb (.int n)]) (Zl (UA AU) AU) (UI (Kq AU hlen) Uy Yg)
 case h2=>
       intro hh;have:(r.length:Int)=0:=by simpa using hh
       lia
 case h3=>
  intro _;refine U1 (UX ?_)
  have hc:KG (gN 2) (Uu AW) (UK 2 KL (Uw (Us 2) (Uw (Us 1) (Uv)))) (r.map int) (U7 [pb (UW r),pb (.int n)]++Ud 1 AV) []=O (r.map λ_=>.bool AW):=by
   rw[Xs (λ_=>AW) (λ_=>.bool AW) (λρ=>∃x,ρ=[pb (UW r),pb (.int n),x])]
   .rw[JI.mpr (λ_ _=>rfl),Jk,Ja];rfl
   .rintro d hm ρ ⟨x,rfl⟩
    obtain⟨t,ht,rfl⟩:=QA.mp hm;exact⟨_,UN (Qa AU) AU,rfl,λ_=>Kb (Uz (UA AU) (Uz (UA AU) UD)) AU (Nq (h t ht).1 (h t ht).2),_,rfl⟩
   .exact⟨AV,rfl⟩
   .rw[Qd,QS];lia
  exact U5 (Zj (Uz (Kl (Yd (ZM (UA AU) AU) hc)) UD) (Ro r)) AU
theorem Np{a b c x3:Option Sl}(ha:Ko a=a)(hb:Ko b=b)(hc:Ko c=c)(hx:Ko x3=x3):∀(ds es:AY)(x4:Option Sl),es.length+ds.length<=1000000 ->
  ∃y,Xm (gN 4) (Uu AW) (Us 4) ds [a,b,c,x3,x4] es=O (es++ds,[a,b,c,x3,y])
 |[],es,x4,_=>⟨x4,by rw[Xm,Q1]⟩
 |d::r,es,x4,h=>by
  rw[QK]at h;obtain⟨y,e⟩:=Np ha hb hc hx r (es++[d]) (O (.pub d)) (by rw[Qk,QF];lia);refine⟨y,?_⟩;rw[Xm];have h1:gN 4 d [a,b,c,x3,x4]=O [a,b,c,x3,pb d]:=UN (Qa AU) AU;rw[h1];dsimp only[Uu];rw[Qn AU];have h2:Us 4 [a,b,c,x3,pb d]=.ok d [a,b,c,x3,pb d]:=UA AU;rw[h2];dsimp only;rw[Qn (by lia)];have h3:U7 [a,b,c,x3,pb d]=[a,b,c,x3,pb d]:=by unfold U7;simp only[Qw,List.map_nil,ha,hb,hc,hx];rfl
  rw[h3,e,Jr];rfl
theorem RO{a b:D}:∀(rs:List A0)(es:AY)(x3 x4:Option Sl),es.length+rs.flatten.length<=1000000 ->
  YH (gN 3) (Uu AW) (KH (Us 3)) (gN 4) (Uu AW) (Us 4) (rs.map UW) [pb a,pb b,AV,x3,x4] es=O (es++rs.flatten.map int)
 |[],es,_,_,_=>by rw[List.map_nil,YH];simp
 |r::rs,es,x3,x4,h=>by rw[QH,Qk]at h;rw[Qw,YH];have h1:gN 3 (UW r) [pb a,pb b,AV,x3,x4]=O [pb a,pb b,AV,pb (UW r),x4]:=UN (Qa AU) AU;rw[h1];dsimp only[Uu];rw[Qn AU];have h2:KH (Us 3) [pb a,pb b,AV,pb (UW r),x4]=.ok (r.map int) [pb a,pb b,AV,pb (UW r),x4]:=ZM (UA AU) AU;rw[h2];dsimp only;have h3:U7 [pb a,pb b,AV,pb (UW r),x4]=[pb a,pb b,AV,pb (UW r),Ko x4]:=rfl;rw[h3];obtain⟨y,e⟩:=Np (a:=O (.pub a)) (b:=O (.pub b)) (c:=AV) (x3:=O (.pub (UW r))) AU AU AU AU (r.map int) es (Ko x4) (by rw[Qd];lia);rw[e];dsimp only;have ih:=RO (a:=a) (b:=b) rs (es++r.map int) (O (.pub (UW r))) y (by rw[Qk,Qd];lia);refine Eq.trans ih ?_;rw[QH,QN,Jr]
theorem Mo{ns:A0}(h:ns.Nodup):Y8 ns=ns.length:=by
 unfold Y8
 have:∀i,i<=ns.length->(PyProof.Rows.firstMet (λi=>ns.getD i 0) i).length=i:=by
  intro i;induction i with
  |zero=>intro _;rfl
  |succ i ih=>
   intro hi;rw[PyProof.Rows.firstMet_succ]
   have hany:(PyProof.Rows.firstMet (λi=>ns.getD i 0) i).any (· == ns.getD i 0)=AX:=by
    rw[PyProof.Rows.firstMet_any,List.any_eq_false];intro x hx;obtain⟨j,hj,rfl⟩:=QA.mp hx;have hj:=Jj.mp hj;intro e;have e:ns.getD j 0=ns.getD i 0:=by simpa using e
    have l1:j<ns.length:=by lia
    have l2:i<ns.length:=by lia
    simp only[List.getD,Qi l1,Qi l2,JD]at e;exact absurd ((List.getElem_inj h).mp e) (by lia)
   unfold PyProof.Rows.step_dedup;rw[hany];rw[QD (by decide),Qk,ih (by lia)];rfl
 exact this ns.length (Qq _)
theorem Au{rs:List A0}{n:Nat}(g:Kz n rs)(hn:n<=6)(hf:rs.flatten.length<=1000):ZW [UP rs,.int n]=O (.bool AW):=by
 refine K1 (ρ:=[pb (UP rs),pb (.int n),AV]) AU ?_;unfold XI;have hlen:Ke [UP rs]=O (.int rs.length):=by unfold UP;rw[KZ,Qd]
 have h5:=g.few;have jw:∀r∈rs,r.length<=1000:=λr hr=>Qv (List.Sublist.length_le (List.sublist_flatten_of_mem hr)) hf;apply UQ;apply UM
 case h1=>exact ZK (ρ1:=[pb (UP rs),pb (.int n),AV]) (Zl (UA AU) AU) (UI (Kq AU hlen) Uy AU)
 case h2=>
       intro hh;have:(5:Int)<(rs.length:Int):=by simpa using hh
       lia
 case h3=>
  intro _;refine U1 (UX ?_)
  have hc:KG (gN 3) (Uu AW) (UK 2 ZX (Uw (Us 3) (Uw (Us 1) (Uv)))) (rs.map UW) (U7 [pb (UP rs),pb (.int n),AV]++Ud 1 AV) []=O (rs.map λ_=>.bool AW):=by
   rw[Xs (λ_=>AW) (λ_=>.bool AW) (λρ=>∃x,ρ=[pb (UP rs),pb (.int n),AV,x])]
   .rw[JI.mpr (λ_ _=>rfl),Jk,Ja];rfl
   .rintro d hm ρ ⟨x,rfl⟩
    obtain⟨r,hr,rfl⟩:=QA.mp hm;exact⟨_,UN (Qa AU) AU,rfl,λ_=>Kb (Uz (UA AU) (Uz (UA AU) UD)) AU (BV (g.some r hr) (jw r hr) (g.there r hr)),_,rfl⟩
   .exact⟨AV,rfl⟩
   .rw[Qd,QS];lia
  apply UQ;apply UM
  case h1=>exact Zh (ZB (Zj (Uz (Kl (Yd (ZM (UA AU) AU) hc)) UD) (Ro rs)))
  case h2=>intro hh;cases hh
  case h3=>
   intro _;refine U1 (UX ?_);have h2:WG (KH (Us 0)) 2 (gN 3) (Uu AW) (KH (Us 3)) (gN 4) (Uu AW) (Us 4) [pb (UP rs),pb (.int n),AV]=.ok (rs.flatten.map int) [pb (UP rs),pb (.int n),AV]:=by unfold WG;have e1:KH (Us 0) [pb (UP rs),pb (.int n),AV]=.ok (rs.map UW) [pb (UP rs),pb (.int n),AV]:=ZM (UA AU) AU;rw[e1];dsimp only;have e2:=RO (a:=UP rs) (b:=.int n) rs [] AV AV (by rw[QS];lia);have e3:YH (gN 3) (Uu AW) (KH (Us 3)) (gN 4) (Uu AW) (Us 4) (rs.map UW) (U7 [pb (UP rs),pb (.int n),AV]++Ud 2 AV) []=O ([]++rs.flatten.map int):=e2;rw[e3];rfl
   refine UR (Zn h2 (Qa AU) AU) ?_;have hls:Wl [.list (rs.flatten.map int)]=O (.int rs.flatten.length):=by unfold Wl;dsimp only;rw[RC];dsimp only;rw[Qn (by lia),Mo g.once]
   refine U5 (Kl (UI (Zj (Uz (Zk AU AU) UD) hls) (Kq AU KZ) Yg)) ?_;rw[Qd];simp
theorem Rg{d:D}:∀{xs:AY}{k i:Nat},(Z1 k xs)[i]?=O d->∃x,xs[i]?=O x/\d=.tuple [.int ((k+i:Nat):Int),x]
 |[],k,i,h=>by cases h
 |x::r,k,0,h=>by cases h;exact⟨x,rfl,rfl⟩
 |x::r,k,i+1,h=>by obtain⟨y,e,q⟩:=Rg (xs:=r) (k:=k+1) (i:=i) h;exact⟨y,e,by rw[q];congr 4;lia⟩
theorem Rf:∀(n:Nat)(l:A0),l.Nodup->(∀x∈l,0<=x/\x<n)->l.length<=n
 |0,[],_,_=>Qq _
 |0,x::r,_,h=>by have:=h x Qp;lia
 |n+1,l,hn,h=>by
  by_cases hm:(n:Int)∈l
  .have:=Rf n (l.erase (n:Int)) (hn.erase _) λx hx=>by
    have h1:=(List.Nodup.mem_erase_iff hn).mp hx;have h2:=h x h1.2;have h3:=h1.1
    lia
   rw[List.length_erase_of_mem hm]at this
   lia
  .have:=Rf n l hn λx hx=>by
    have h2:=h x hx;have h3:x≠(n:Int):=λe=>hm (e ▸ hx)
    lia
   lia
theorem Vy{n:Nat}{rs:List A0}(g:Kz n rs):rs.flatten.length<=n:=Rf n _ g.once λx hx=>by obtain⟨r,hr,hxr⟩:=JV.mp hx;exact g.there r hr x hxr
theorem Cy{cs:A0}(h1:1<=cs.length)(h6:cs.length<=6)(h:∀c∈cs,0<=c/\c<8):Wc [.list (cs.map int)]=O .none:=by
 refine SI (ρ:=[pb (.list (cs.map int)),AV,AV]) AU ?_;unfold Vd;have hlen:Ke [.list (cs.map int)]=O (.int cs.length):=by rw[KZ,Qd]
 apply UQ;apply UM
 case h1=>exact ZK (ρ1:=[pb (.list (cs.map int)),AV,AV]) (Zl (UA AU) AU) (Zh (VC Uy (Kq AU hlen) AU (λ_=>Uy) (λ_=>rfl)))
 case h2=>
  intro hh;have a1:(1:Int)<=(cs.length:Int):=by lia
  have a2:(cs.length:Int)<=6:=by lia
  simp[a1,a2]at hh
 case h3=>
  intro _;refine U1 (UX ?_);apply Xj (λ_ ρ=>∃x1 x2,ρ=[pb (.list (cs.map int)),x1,x2])
  case h1=>exact TZ (Uz (UA AU) UD) Sg
  case h0=>exact⟨_,_,rfl⟩
  case hst=>
   rintro i d ρ hi ⟨x1,x2,rfl⟩;obtain⟨x,hx,rfl⟩:=Rg hi;obtain⟨c,hc,rfl⟩:=QA.mp (QZ hx);refine⟨_,K4 AU (Kg (UN (Qa AU) AU) (Kg (UN (Qa AU) AU) K5)),?_⟩;unfold P5;apply UM
   case h1=>exact Zh (ZB (Kb (Uz (UA AU) (Uz (UI Uy Uy K3) UD)) AU (Nq (h c hc).1 (by have:=(h c hc).2;lia))))
   case h2=>intro hh;cases hh
   case h3=>exact λ_=>U1 (Z5 ⟨_,_,rfl⟩)
  case hend=>exact λρ ⟨x1,x2,e⟩=>⟨_,rfl⟩
theorem EW{ls:L3}{n:Nat}(hn:n<=6)(h1:1<=ls.length)(h7:ls.length<=7)(h:∀rs∈ls,Kz n rs):Wb [.list (ls.map UP),.int n]=O .none:=by
 refine SI (ρ:=[pb (.list (ls.map UP)),pb (.int n),AV,AV]) AU ?_;unfold Vc;have hlen:Ke [.list (ls.map UP)]=O (.int ls.length):=by rw[KZ,Qd]
 apply UQ;apply UM
 case h1=>exact ZK (ρ1:=[pb (.list (ls.map UP)),pb (.int n),AV,AV]) (Zl (UA AU) AU) (Zh (VC Uy (Kq AU hlen) AU (λ_=>Uy) (λ_=>rfl)))
 case h2=>
  intro hh;have a1:(1:Int)<=(ls.length:Int):=by lia
  have a2:(ls.length:Int)<=7:=by lia
  simp[a1,a2]at hh
 case h3=>
  intro _;refine U1 (UX ?_);apply Xj (λ_ ρ=>∃x2 x3,ρ=[pb (.list (ls.map UP)),pb (.int n),x2,x3])
  case h1=>exact TZ (Uz (UA AU) UD) Sg
  case h0=>exact⟨_,_,rfl⟩
  case hst=>
   rintro i d ρ hi ⟨x1,x2,rfl⟩;obtain⟨x,hx,rfl⟩:=Rg hi;obtain⟨rs,hrs,rfl⟩:=QA.mp (QZ hx);refine⟨_,K4 AU (Kg (UN (Qa AU) AU) (Kg (UN (Qa AU) AU) K5)),?_⟩;unfold P6;have hfl:=Vy (h rs hrs);apply UM
   case h1=>exact Zh (ZB (Kb (Uz (UA AU) (Uz (UA AU) UD)) AU (Au (h rs hrs) hn (by lia))))
   case h2=>intro hh;cases hh
   case h3=>exact λ_=>U1 (Z5 ⟨_,_,rfl⟩)
  case hend=>exact λρ ⟨x1,x2,e⟩=>⟨_,rfl⟩
theorem No{cs:A0}{ls:L3}(g:Good cs ls):Wa [US cs ls]=O .none:=by
 refine SI (ρ:=[pb (US cs ls),AV,AV]) AU ?_;unfold Vb;apply UQ;apply UM
 case h1=>exact ZK (ρ1:=[pb (US cs ls),AV,AV]) (Zl (UA AU) AU) (UI (Kq AU AU) Uy TX)
 case h2=>intro hh;cases hh
 case h3=>
  intro _;refine U1 (UX ?_);have hlen:Ke [.list (cs.map int)]=O (.int (cs.length:Nat)):=by rw[KZ,Qd]
  refine UR (WF (UA AU) (K4 AU (Kg (UN (Qa AU) AU) (Kg (UN (Qa AU) AU) K5)))) ?_;refine UR (WL (Kb (Uz (UA AU) UD) AU (Cy g.c1 g.c6 g.c7))) ?_;exact Kk (WL (Kb (Uz (UA AU) (Uz (Kq AU hlen) UD)) AU (EW g.c6 g.l1 g.l7 g.rk))) ⟨_,rfl⟩
theorem O2:∀(xs ys:A0),PyData.eqvAll (xs.map int) (ys.map int)=decide (xs=ys)
 |[],[]=>rfl
 |[],y::ys=>by simp[PyData.eqvAll]
 |x::xs,[]=>by simp[PyData.eqvAll]
 |x::xs,y::ys=>by
  have ih:=O2 xs ys
  show(Uk (.int x) (.int y)&&PyData.eqvAll (xs.map int) (ys.map int))=_
  rw[ih];have:Uk (.int x) (.int y)=decide (x=y):=rfl;rw[this,Bool.eq_iff_iff];simp
theorem Nn{xs:A0}:oNe (.list (xs.map int)) (.list [])=O (!decide (xs=[])):=by
 unfold oNe;have h1:(Ue (xs.map int)).canLay0=AW:=Rj xs;have h3:(Ue (xs.map int)).depth<=60:=by have:=Rh xs;unfold UW at this;lia
 rw[Qn ⟨h1,rfl,h3⟩]
 congr 2
 exact O2 xs []
theorem GB{xs:AY}{x:D}(h:xs.getLast?=O x):oIx (.list xs) (.int (-1))=O x:=by
 unfold oIx atI;have hl:xs≠[]:=by rintro rfl;cases h
 have hp:0<xs.length:=List.length_pos_iff.mpr hl;rw[List.getLast?_eq_getElem?]at h
 show(ixN xs.length (-1)).bind _=_
 unfold ixN;rw[QD (by decide),Qn (by lia)];have e2:(-1+(xs.length:Int)).toNat=xs.length-1:=by lia
 simp only[Option.bind_some];rw[e2];exact h
theorem TV{xs:A0}{k:Nat}(h:k<xs.length):oIx (.list (xs.map int)) (.int k)=O (.int (xs.getD k 0)):=by refine Z6 ?_;rw[Qt,Qi h];simp[List.getD,List.getElem?_eq_getElem h]
theorem Sq(ns:A0)(k:Nat)(hl:ns.length<=1000):∃v,ZH [.list (ns.map int),.int k]=O (.int v):=by
 have hlen:Ke [.list (ns.map int)]=O (.int ns.length):=by rw[KZ,Qd]
 by_cases h:k<ns.length
 .refine⟨ns.getD k 0,K1 (ρ:=[pb (.list (ns.map int)),pb (.int k)]) AU ?_⟩
  unfold XG;apply UQ;apply UM
  case h1=>exact Ye AU (Kq AU hlen) AU
  case h2=>exact λ_=>U5 (UL AU (UA AU) (TV h)) (KN AU)
  case h3=>
        intro hh;have:¬(k:Int)<(ns.length:Int):=by simpa using hh
        lia
 .refine⟨0,K1 (ρ:=[pb (.list (ns.map int)),pb (.int k)]) AU ?_⟩
  unfold XG;apply UQ;apply UM
  case h1=>exact Ye AU (Kq AU hlen) AU
  case h2=>
        intro hh;have:(k:Int)<(ns.length:Int):=by simpa using hh
        lia
  case h3=>exact λ_=>U1 (UX (U5 Uy AU))
noncomputable def tab:A0:=[1,1,2,0,3,7,1,4,5,6,1]
theorem Pn{z:Int}(h0:0<=z)(h1:z<11):oIx (.list (tab.map int)) (.int z)=O (.int (tab.getD z.toNat 0))/\0<=tab.getD z.toNat 0/\tab.getD z.toNat 0<8:=by
 have e:z=0∨z=1∨z=2∨z=3∨z=4∨z=5∨z=6∨z=7∨z=8∨z=9∨z=10:=by lia
 rcases e with rfl|rfl|rfl|rfl|rfl|rfl|rfl|rfl|rfl|rfl|rfl<;>exact⟨rfl,by decide,by decide⟩
structure Y3(n:Nat)(pl:A0)(j:Nat)(rs:List A0):Prop where
 few:rs.length<=j
 some:∀r∈rs,r≠[]
 there:∀r∈rs,∀t∈r,(0<=t/\t<n)/\pl.getD t.toNat 0<1+(j:Int)
 once:rs.flatten.Nodup
noncomputable def ZY(n:Nat)(pl:A0)(r:Int):A0:=((Uc n).filter λk=>decide (pl.getD k 0=r)).map λk:Nat=>(k:Int)
theorem NR(n:Nat)(pl:A0)(r:Int):(ZY n pl r).Nodup:=by unfold ZY;refine List.Pairwise.map _ (λa b h e=>h (by lia)) ((List.nodup_range).filter _)
theorem Nm{n:Nat}{pl:A0}{r t:Int}(h:t∈ZY n pl r):(0<=t/\t<n)/\pl.getD t.toNat 0=r:=by
 unfold ZY at h;obtain⟨k,hk,rfl⟩:=QA.mp h;have hk:=List.mem_filter.mp hk;have h1:=Jj.mp hk.1;have h2:pl.getD k 0=r:=by simpa using hk.2
 exact⟨⟨by lia,by lia⟩,by rw[Js];exact h2⟩
theorem Y3.add{n:Nat}{pl:A0}{j:Nat}{rs:List A0}{row:A0}(g:Y3 n pl j rs)(hne:row≠[])(hm:∀t∈row,t∈ZY n pl (1+(j:Int)))(hn:row.Nodup):Y3 n pl (j+1) (rs++[row]) where
 few:=by rw[Qk,QF];have:=g.few;lia
 some:=λr hr=>by
  rcases Jd.mp hr with z|z
  .exact g.some r z
  .rw[QX.mp z];exact hne
 there:=λr hr t ht=>by
  rcases Jd.mp hr with z|z
  .have:=g.there r z t ht;exact⟨this.1,by lia⟩
  .rw[QX.mp z]at ht
   have:=Nm (hm t ht);exact⟨this.1,by lia⟩
 once:=by
  rw[List.flatten_append,List.flatten_singleton];refine List.nodup_append.mpr ⟨g.once,hn,λa ha b hb e=>?_⟩;subst e;obtain⟨r,hr,har⟩:=JV.mp ha;have h1:=(g.there r hr a har).2;have h2:=(Nm (hm a hb)).2
  lia
theorem Y3.next{n:Nat}{pl:A0}{j:Nat}{rs:List A0}(g:Y3 n pl j rs):Y3 n pl (j+1) rs:=
 ⟨by have:=g.few;lia,g.some,λr hr t ht=>⟨(g.there r hr t ht).1,by have:=(g.there r hr t ht).2;lia⟩,g.once⟩
theorem Y3.good{n:Nat}{pl:A0}{rs:List A0}(g:Y3 n pl 5 rs):Kz n rs:=⟨g.few,g.some,λr hr t ht=>(g.there r hr t ht).1,g.once⟩
theorem BU{a c:Int}{n i:Nat}{d:D}(h:(YO a c n)[i]?=O d):d=.int (a+i*c):=by have hl:i<(YO a c n).length:=(Qr.mp h).1;unfold YO at h hl;rw[Qd,Jg]at hl;rw[Qt,Qi (by rw[Jg];exact hl),List.getElem_range]at h;cases h;rfl
theorem P2{x:D}{m:Nat}(h:m<=1000):U9 (.list [x]) (.int m)=O (.list (Ud m x)):=by
 rw[Me ⟨by lia,by lia,by rw[Js];show 1*m<=_;lia⟩,Js]
 congr 2
 induction m with
 |zero=>rfl
 |succ m ih=>rw[Q9,QH,ih (by lia)];rfl
noncomputable def szG(T A:Nat):A0:=(T:Int)::(A:Int)::Ud T 11
noncomputable def Zb(T R:Nat):A0:=Ud T ((R:Int)+1)++[2]
theorem P1{T A:Nat}:(szG T A).length=T+2:=by unfold szG;simp
theorem O1{T R:Nat}:(Zb T R).length=T+1:=by unfold Zb;simp
theorem Hc{T A:Nat}(h1:1<=T)(h2:T<=6)(h3:1<=A)(h4:A<=7):∀x∈szG T A,0<x/\x<18446744073709551616:=λx hx=>by unfold szG at hx;simp only[QM,List.mem_replicate]at hx;rcases hx with rfl|rfl|⟨_,rfl⟩<;>lia
theorem GA{T R:Nat}(h:R<=5):∀x∈Zb T R,0<x/\x<18446744073709551616:=λx hx=>by unfold Zb at hx;simp only[List.mem_append,QX,List.mem_replicate]at hx;rcases hx with ⟨_,rfl⟩|rfl<;>lia
theorem Cw{T R:Nat}:(Zb T R)[T]?=O 2:=by unfold Zb;simp
theorem Hb{T A k:Nat}(h:k<T):(szG T A)[2+k]?=O 11:=by unfold szG;rw[show 2+k=k+1+1 by lia,JK,JK,QB,Qn h]
def Su(T A R:Nat)(S dz sz:D)(at_ n:Nat)(cs pl:A0)(ls:L3)(x9 x10:Option Sl)(j:Nat)(ρ:Ut):Prop:=∃(rs:List A0)(jn qQ:Option Sl),
 ρ=[pb S,pb (.int at_),pb (.int (T:Nat)),pb (.int (A:Nat)),pb (.int (R:Nat)),pb sz,pb dz,O (.own (cs.map int)),O (.own (ls.map UP)),x9,x10,pb (.list (pl.map int)),O (.own (rs.map UW)),jn,qQ]/\Y3 n pl j rs
theorem BS{T A R:Nat}{S dz sz:D}{at_ n:Nat}{cs pl:A0}{ls:L3}{v9 v10:D}{j:Nat}{d:D}{ρ:Ut}{Q:Out->Prop}(hcs:cs.length=n)(hT:T<=6)(hR:R<=5)(hn:n<=T)(hpl:pl.length=T+1)(qJ:pl.getD T 0=0∨pl.getD T 0=1)
  (hj:(K0 1 ((R:Int)+1))[j]?=O d) (h:Su T A R S dz sz at_ n cs pl ls (O (.pub v9)) (O (.pub v10)) j ρ) :
  ∃ρ2,gN 13 d ρ=O ρ2/\Ho S0 ρ2 (Vj (Su T A R S dz sz at_ n cs pl ls (O (.pub v9)) (O (.pub v10)) (j+1)) Q):=by
 obtain⟨rs,jn,qQ,rfl,g⟩:=h;obtain⟨rfl,hlt⟩:=Tj hj;have hj5:j<R:=by lia
 refine⟨_,UN (Qa AU) AU,?_⟩;unfold S0
 have hrd:K0 0 ((n:Nat):Int)=(Uc n).map λk=>.int (k:Int):=by
  unfold K0;have:((n:Int)-0).toNat=n:=by lia
  rw[this];apply List.map_congr_left;intro k _;rw[Int.zero_add]
 have hc:KG (gN 15) (UB oEq (UC 11 (Us 15)) (Us 13)) (Us 15) (K0 0 ((n:Nat):Int)) (U7 [pb S,pb (.int at_),pb (.int (T:Nat)),pb (.int (A:Nat)),pb (.int (R:Nat)),pb sz,pb dz,O (.own (cs.map int)),O (.own (ls.map UP)),pb v9,pb v10,pb (.list (pl.map int)),O (.own (rs.map UW)),pb (.int (1+(j:Int))),qQ]++Ud 1 AV) []=O ((ZY n pl (1+(j:Int))).map int):=by
  rw[hrd,Xs (λd=>match d with | .int k=>decide (pl.getD k.toNat 0=1+(j:Int))|_=>AX) (λd=>d) (λρ=>∃x,ρ=[pb S,pb (.int at_),pb (.int (T:Nat)),pb (.int (A:Nat)),pb (.int (R:Nat)),pb sz,pb dz,AV,AV,pb v9,pb v10,pb (.list (pl.map int)),AV,pb (.int (1+(j:Int))),Ko qQ,x])]
  .rw[Jk,List.map_id',List.filter_map]
   unfold ZY;rw[Ja];rfl
  .rintro d hm ρ ⟨x,rfl⟩
   obtain⟨k,hk,rfl⟩:=QA.mp hm;have hk:=Jj.mp hk;refine⟨_,UN (Qa AU) AU,UI (UL AU (UA AU) (TV (by lia))) (UA AU) Yg,λ_=>UA AU,pb (.int k),?_⟩;unfold U7;cases qQ with
   |none=>rfl
   |some sl=>cases sl<;>rfl
  .exact⟨AV,rfl⟩
  .rw[Qd,Jg,QS];lia
 have hlen:(cs.map int).length=n:=by rw[Qd,hcs]
 refine UR (Zn (Yd (V6 (Uz (F6 AU) UD) (by rw[hlen];exact V8 (by lia) (by lia))) hc) (Qa AU) AU) ?_;generalize qR:ZY n pl (1+(j:Int))=row;apply UM
 case h1=>exact OC AU (Zy UD (by decide)) AU Nn
 case h2=>
  intro hh;have hne:row≠[]:=by simpa using hh
  have hlx:oIx (.list (pl.map int)) (.int (-1))=O (.int (pl.getD T 0)):=GB (by rw[List.getLast?_eq_getElem?,Qd,hpl,Qt,Nat.add_sub_cancel,Qi (show T<pl.length by lia)];simp[List.getD,List.getElem?_eq_getElem (show T<pl.length by lia)])
  obtain⟨qE,hix,qG⟩:∃qE:A0,oIx (.list [.list (row.map int),.list (row.map int).reverse]) (.int (pl.getD T 0))=O (UW qE)/\(qE=row∨qE=row.reverse):=by
   rcases qJ with e|e
   .rw[e];exact⟨row,rfl,.inl AU⟩
   .rw[e];exact⟨row.reverse,by show O (Ue (row.map int).reverse)=_;unfold UW;rw[List.map_reverse],.inr AU⟩
  have jw:(rs.map UW).length<1000000:=by rw[Qd];have:=g.few;lia
  refine Kk (YE AU (UI (Zy (Uz (Zk AU AU) (Uz (Pu (UA AU) Uy Uy (ZO (VX Uy))) UD)) (Qa AU)) (UL AU (VX Uy) hlx) hix) AU jw AU) ?_;refine Z5 ⟨rs++[qE],pb (.int (1+(j:Int))),pb (.list (row.map int)),by rw[QN];rfl,g.add ?_ ?_ ?_⟩
  .rcases qG with e|e<;>rw[e]
   .exact hne
   .exact λz=>hne (List.reverse_eq_nil_iff.mp z)
  .intro t ht
   rw[qR];rcases qG with e|e<;>rw[e]at ht
   .exact ht
   .exact List.mem_reverse.mp ht
  .have hnd:=NR n pl (1+(j:Int))
   rw[qR]at hnd;rcases qG with e|e<;>rw[e]
   .exact hnd
   .exact(List.reverse_perm row).nodup_iff.mpr hnd
 case h3=>exact λ_=>U1 (Z5 ⟨rs,_,_,rfl,g.next⟩)
def Ss(T A R:Nat)(S dz:D)(at_ n:Nat)(cs:A0)(i:Nat)(ρ:Ut):Prop:=∃(sz:D)(ls:L3)(x9 x10 x11 x12 jn qQ:Option Sl),
 ρ=[pb S,pb (.int at_),pb (.int (T:Nat)),pb (.int (A:Nat)),pb (.int (R:Nat)),pb sz,pb dz,O (.own (cs.map int)),O (.own (ls.map UP)),x9,x10,x11,x12,jn,qQ]/\ls.length=i/\∀rs∈ls,Kz n rs/\rs.length<=R
theorem At{T A R:Nat}{ns:A0}{dz:D}{at_ n:Nat}{cs:A0}{i:Nat}{m:Int}{d:D}{ρ:Ut}{Q:Out->Prop}(hns:ns.length<=1000)(hT:T<=6)(hR:R<=5)(hcs:cs.length=n)(hn:n<=T)(hm:m<=100)
  (hi:(K0 0 m)[i]?=O d) (h:Ss T A R (.list (ns.map int)) dz at_ n cs i ρ) :
  ∃ρ2,gN 9 d ρ=O ρ2/\Ho Rb ρ2 (Vj (Ss T A R (.list (ns.map int)) dz at_ n cs (i+1)) Q):=by
 obtain⟨sz,ls,x9,x10,x11,x12,jn,qQ,rfl,hl,hg⟩:=h;obtain⟨rfl,hlt⟩:=Tj hi;refine⟨_,UN (Qa AU) AU,?_⟩;unfold Rb;obtain⟨v,hv⟩:=Sq ns (at_+1+i) hns;have ev:((at_:Int)+1+(0+(i:Int)))=((at_+1+i:Nat):Int):=by lia
 rw[←ev]at hv;refine UR (Kf (Kb (Uz (UA AU) (Uz (UI (UI (UA AU) Uy K3) (UA AU) K3) UD)) AU hv) (Qa AU) AU) ?_;obtain⟨r,hF,pl,rfl,hpl,hpb⟩:=Sr v (11*(at_:Int)+3*(0+(i:Int))+1) (sizes:=Zb T R) (GA hR) (by rw[O1];lia);have hpl7:pl.length=T+1:=by rw[hpl,O1]
 have hmul:U9 (.list [.int ((R:Int)+1)]) (.int (T:Nat))=O (.list (Ud T (.int ((R:Int)+1)))):=P2 (by lia);have hadd:UJ (.list (Ud T (.int ((R:Int)+1)))) (.list [.int 2])=O (.list ((Zb T R).map int)):=by rw[Xw (by rw[QU];show T+1<=_;lia)];unfold Zb;rw[QN,List.map_replicate];rfl
 refine UR (Kf (UI (UI (Zy (Uz (UI (UA AU) Uy K3) UD) (Qa AU)) (UA AU) hmul) (Zy (Uz Uy UD) (Qa AU)) hadd) (Qa AU) AU) ?_;refine UR (Kf (Kb (Uz (UA AU) (Uz (UI (UI (UI Uy (UA AU) (T9 (by decide) (by decide))) (UI Uy (UA AU) (T9 (by decide) (by decide))) K3) Uy K3) (Uz (UA AU) UD))) AU hF) (Qa AU) AU) ?_;refine UR (Zn (Vu UD (Qa AU)) (Qa AU) AU) ?_
 have qJ:pl.getD T 0=0∨pl.getD T 0=1:=by
  have e:pl[T]?=O pl[T]:=Qi (by lia);have:=hpb T pl[T] 2 e Cw;have e2:pl.getD T 0=pl[T]:=by simp[List.getD,e]
  rw[e2];lia
 apply UQ;apply Xj (Su T A R (.list (ns.map int)) dz (.list ((Zb T R).map int)) at_ n cs pl ls (O (.pub (.int (0+(i:Int))))) (O (.pub (.int v))))
 case h1=>exact Ou (Uz Uy (Uz (UI (UA AU) Uy K3) UD)) (OD (by lia) (by lia) (by decide) (by decide))
 case h0=>exact⟨[],jn,qQ,rfl,⟨Qq _,λ_ h=>(by cases h),λ_ h=>(by cases h),List.nodup_nil⟩⟩
 case hst=>exact λj d ρ e h=>BS hcs hT hR hn hpl7 qJ e h
 case hend=>
  rintro ρ ⟨rs,y13,y14,rfl,g⟩;refine UX ?_;have hl5:(K0 1 ((R:Int)+1)).length=R:=by rw[WN];lia
  rw[hl5]at g;have hll:(ls.map UP).length<1000000:=by rw[Qd];lia
  refine Kk (YE AU (Zk AU AU) AU hll AU) ?_;refine Z5 ⟨_,ls++[rs],pb (.int (0+(i:Int))),pb (.int v),pb (.list (pl.map int)),pb (.list (rs.map UW)),y13,y14,by rw[QN];rfl,by rw[Qk,hl];rfl,λx hx=>?_⟩;rcases Jd.mp hx with z|z
  .exact hg x z
  .rw[QX.mp z];exact⟨⟨by have:=g.few;lia,g.some,λr hr t ht=>(g.there r hr t ht).1,g.once⟩,g.few⟩
theorem Ak(T A R:Nat){ns:A0}(hns:ns.length<=1000)(at_:Nat)(hT1:1<=T:=by decide)(hT:T<=6:=by decide)(hA1:1<=A:=by decide)(hA:A<=7:=by decide)(hR:R<=5:=by decide):∃r,X8 [.list (ns.map int),.int at_,.int (T:Nat),.int (A:Nat),.int (R:Nat)]=O r/\∃cs ls,r=US cs ls/\Good cs ls/\cs.length<=T/\ls.length<=A/\∀rs∈ls,rs.length<=R:=by
 obtain⟨v,hv⟩:=Sq ns at_ hns;obtain⟨r,hF,ds,rfl,hl,hd⟩:=Sr v at_ (sizes:=szG T A) (Hc hT1 hT hA1 hA) (by rw[P1];lia);have hl8:ds.length=T+2:=by rw[hl,P1]
 have at':∀(j:Nat)(k z:Int),k=j->(szG T A)[j]?=O z->∃d,oIx (.list (ds.map int)) (.int k)=O (.int d)/\ds[j]?=O d/\0<=d/\d<z:=λj k z hk hz=>by
  subst hk;have hj:j<ds.length:=by rw[hl];exact(Qr.mp hz).1
  have e:ds[j]?=O ds[j]:=Qi hj;obtain⟨p0,p1⟩:=hd j ds[j] z e hz;exact⟨ds[j],Z6 (by rw[Qt,e];rfl),e,p0,p1⟩
 obtain⟨d0,x0,e0,p0,q0⟩:=at' 0 0 T AU AU;obtain⟨d1,x1,e1,p1,q1⟩:=at' 1 1 A AU AU;have hmul:U9 (.list [.int 11]) (.int (T:Nat))=O (.list (Ud T (.int 11))):=P2 (by lia);have hadd:UJ (.list [.int (T:Nat),.int (A:Nat)]) (.list (Ud T (.int 11)))=O (.list ((szG T A).map int)):=by rw[Xw (by rw[QU];show 2+T<=_;lia)];unfold szG;rw[Qw,Qw,List.map_replicate];rfl
 obtain⟨n,hn⟩:∃n:Nat,1+d0=n:=⟨(1+d0).toNat,by lia⟩
 refine Vr (ρ:=[pb (.list (ns.map int)),pb (.int at_),pb (.int (T:Nat)),pb (.int (A:Nat)),pb (.int (R:Nat)),AV,AV,AV,AV,AV,AV,AV,AV,AV,AV]) AU ?_;unfold W6;refine UR (Kf (UI (Zy (Uz (UA AU) (Uz (UA AU) UD)) (Qa AU)) (UI (Zy (Uz Uy UD) (Qa AU)) (UA AU) hmul) hadd) (Qa AU) AU) ?_;refine UR (Kf (Kb (Uz (Kb (Uz (UA AU) (Uz (UA AU) UD)) AU hv) (Uz (UA AU) (Uz (UA AU) UD))) AU hF) (Qa AU) AU) ?_
 have hcut:DL.cutD (ds.map int) (O 2) (O (3+d0))=((ds.drop 2).take n).map int:=by
  rw[DM (by decide) (by lia) (by lia)];have:(3+d0).toNat-(2:Int).toNat=n:=by lia
  rw[this];rfl
 have q9:((ds.drop 2).take n).length=n:=by rw[JJ,JC,hl8];lia
 have each:∀z∈(ds.drop 2).take n,0<=z/\z<11:=λz hz=>by
  have hz:=List.mem_of_mem_take hz;obtain⟨k,hk,e⟩:=List.getElem_of_mem hz;rw[JC,hl8]at hk;rw[List.getElem_drop]at e;have e2:ds[2+k]?=O z:=by rw[←e];exact Qi _
  refine hd (2+k) z 11 e2 (Hb ?_)
  lia
 let cs:A0:=((ds.drop 2).take n).map λz=>tab.getD z.toNat 0
 have hcl:cs.length=n:=by show(List.map _ _).length=n;rw[Qd,q9]
 have hc:∀xs:List (Option Sl),U7 xs=xs->xs.length=15->KG (gN 15) (Uu AW) (UB oIx (U2 (Uw (Uu (.int 1)) (Uw (Uu (.int 1)) (Uw (Uu (.int 2)) (Uw (Uu (.int 0)) (Uw (Uu (.int 3)) (Uw (Uu (.int 7)) (Uw (Uu (.int 1)) (Uw (Uu (.int 4)) (Uw (Uu (.int 5)) (Uw (Uu (.int 6)) (Uw (Uu (.int 1)) (Uv))))))))))))) (Us 15)) (((ds.drop 2).take n).map int) (U7 xs++Ud 1 AV) []=O (cs.map int):=by
  intro xs hx hxl;rw[hx,Xs (λ_=>AW) (λd=>match d with | .int z=>.int (tab.getD z.toNat 0)|_=>.none) (λρ=>∃x,ρ=xs++[x])]
  .rw[JI.mpr (λ_ _=>rfl),Jk,Ja]
   show _=O ((((ds.drop 2).take n).map λz=>tab.getD z.toNat 0).map int);rw[Ja];rfl
  .rintro d hm ρ ⟨x,rfl⟩
   obtain⟨z,hz,rfl⟩:=QA.mp hm;have ht:=Pn (each z hz).1 (each z hz).2;have hset:(xs++[x]).set 15 (O (Sl.pub (.int z)))=xs++[pb (.int z)]:=by rw[List.set_append_right _ _ (by lia),hxl];rfl
   have hget:(xs++[O (Sl.pub (.int z))])[15]?=O (O (Sl.pub (.int z))):=by rw[Qu (by lia),hxl];rfl
   refine⟨_,UN (by rw[Qk,hxl];exact Qa AU) hset,rfl,λ_=>?_,pb (.int z),?_⟩
   .exact UI (Zy (Uz Uy (Uz Uy (Uz Uy (Uz Uy (Uz Uy (Uz Uy (Uz Uy (Uz Uy (Uz Uy (Uz Uy (Uz Uy UD))))))))))) (Qa AU)) (UA hget) ht.1
   .unfold U7 at hx⊢
    rw[QN,hx];rfl
  .exact⟨AV,rfl⟩
  .rw[Qd,q9,QS];lia
 refine UR (Zn (Yd (ZM (YD (UA AU) (ZO Uy) (ZO (UI Uy (UL AU Uy x0) K3)) (by rw[Rm,hcut])) TY) (hc _ AU AU)) (Qa AU) AU) ?_;refine UR (Zn (Vu UD (Qa AU)) (Qa AU) AU) ?_;apply UQ;apply Xj (Ss T A R (.list (ns.map int)) (.list (ds.map int)) at_ n cs)
 case h1=>exact V6 (Uz (UI Uy (UL AU Uy x1) K3) UD) (V8 (by lia) (by lia))
 case h0=>exact⟨_,[],_,_,_,_,_,_,rfl,rfl,λ_ h=>by cases h⟩
 case hst=>exact λi d ρ e h=>At hns hT hR hcl (by lia) (by lia) e h
 case hend=>rintro ρ ⟨sz,ls,y9,y10,y11,y12,y13,y14,rfl,hll,hg⟩;rw[WN]at hll;refine UX (U5 (ZP (Uz (Zk rfl rfl) (Uz (Zk rfl rfl) UD)) (Qa rfl)) ⟨_,rfl,cs,ls,rfl,⟨?_,by lia,by lia,λrs hrs=>(hg rs hrs).2⟩⟩);exact⟨by lia,by lia,λc hc=>by obtain⟨z,hz,rfl⟩:=QA.mp hc;exact(Pn (each z hz).1 (each z hz).2).2,by lia,by lia,λrs hrs=>by rw[hcl];exact(hg rs hrs).1⟩
noncomputable def U0:A7->D
 |none=>.none
 |some t=>.int t
noncomputable def Kj(ws:LO):D:=.list (ws.map U0)
structure Deal(cs:A0)(ls:L3)(ws:LO):Prop where
 len:ws.length=ls.length
 wish:∀(i:Nat) t rs,ws[i]?=O (O t)->ls[i]?=O rs->t∈rs.flatten
 cop:∀(k:Nat) c,cs[k]?=O c->((ws.count (O (k:Int)):Nat):Int)<=c
theorem O0(ws:LO):Ui (ws.map U0)=AW:=Vx λx hx=>by obtain⟨y,_,rfl⟩:=QA.mp hx;cases y<;>rfl
theorem EV{f:M AY}{k:Nat}{s:D->Ut->A6}{t:M Bool}{g:M D}{ρ ρ1:Ut}{ds es:AY}(h1:f ρ=.ok ds ρ1)(h2:KG s t g ds (KP ρ1++Ud k AV) []=O es)(h3:es.all flat=AW):VZ f k s t g ρ=.ok es ρ1:=by unfold VZ;rw[h1];dsimp only;rw[h2];dsimp only;rw[if_pos h3]
theorem Cv{cs:A0}{ls:L3}{rs:List A0}{i:Nat}(hi:ls[i]?=O rs)(hl:rs.flatten.length<64):X7 [US cs ls,.int i]=O (.list ((ZZ rs.flatten).map int)):=by
 refine K1 (ρ:=[pb (US cs ls),pb (.int i)]) AU ?_;unfold W5;have i1:oIx (US cs ls) (.int 1)=O (.list (ls.map UP)):=Z6 (j:=1) AU;have i2:oIx (.list (ls.map UP)) (.int i)=O (UP rs):=Z6 (by rw[Qt,hi];rfl)
 have hs:YL [UP rs,.list []]=O (.list (rs.flatten.map int)):=by
  have e:UP rs=.list ((rs.map λr=>r.map int).map Ue):=by unfold UP;rw[Ja];rfl
  have e2:(rs.map λr=>r.map int).flatten=rs.flatten.map int:=by rw[List.map_flatten]
  rw[e];unfold YL;dsimp only;rw[Mf];dsimp only;rw[e2,Qn (by rw[Qd];lia)]
 exact U5 (Zj (Uz (Zj (Uz (UI (UL AU Uy i1) (UA AU) i2) (Uz (Zy UD (Qa AU)) UD)) hs) UD) (Bp hl)) AU
structure WK(cs:A0)(ls:L3)(lf:A0)(ws:LO):Prop where
 wish:∀(i:Nat) t rs,ws[i]?=O (O t)->ls[i]?=O rs->t∈rs.flatten
 len:lf.length=cs.length
 cop:∀(k:Nat) c,cs[k]?=O c->lf[k]?=O (c-((ws.count (O (k:Int)):Nat):Int))/\0<=c-((ws.count (O (k:Int)):Nat):Int)
theorem Nl{ls:L3}{ws:LO}{o:A7}{rs:List A0}(h:∀(i:Nat) t rs,ws[i]?=O (O t)->ls[i]?=O rs->t∈rs.flatten)(hi:ls[ws.length]?=O rs)(ho:∀t,o=O t->t∈rs.flatten) :
  ∀(i:Nat) t rs,(ws++[o])[i]?=O (O t)->ls[i]?=O rs->t∈rs.flatten:=by
 intro j t rs' e1 e2;by_cases hj:j<ws.length
 .rw[Qs hj]at e1;exact h j t rs' e1 e2
 .by_cases hj2:j=ws.length
  .subst hj2
   rw[hi]at e2;cases e2;rw[Qu (Qq _),Nat.sub_self,List.getElem?_cons_zero]at e1;cases e1;exact ho t AU
  .rw[Jw (by rw[Qk,QF];lia)]at e1
   cases e1
theorem WK.none{cs:A0}{ls:L3}{lf:A0}{ws:LO}{rs:List A0}(d:WK cs ls lf ws)(hi:ls[ws.length]?=O rs):WK cs ls lf (ws++[Option.none]) where
 wish:=Nl d.wish hi λt e=>by cases e
 len:=d.len
 cop:=λk c e=>by rw[List.count_append];simpa using d.cop k c e
theorem WK.give{cs:A0}{ls:L3}{lf:A0}{ws:LO}{rs:List A0}{t v:Int}(d:WK cs ls lf ws)(hi:ls[ws.length]?=O rs)(ht:t∈rs.flatten)(h0:0<=t)(hv:lf[t.toNat]?=O v)(hp:0<v):WK cs ls (lf.set t.toNat (v-1)) (ws++[O t]) where
 wish:=Nl d.wish hi λt' e=>by cases e;exact ht
 len:=by rw[QY];exact d.len
 cop:=λk c e=>by
  obtain⟨h1,h2⟩:=d.cop k c e;rw[List.count_append];by_cases hk:t=(k:Int)
  .subst hk
   rw[Js]at hv⊢;rw[h1]at hv;cases hv;have hl:k<lf.length:=(Qr.mp h1).1;rw[QJ hl];simp only[List.count_singleton_self];refine⟨by congr 1;lia,by lia⟩
  .have hne:t.toNat≠k:=by lia
   rw[Ql hne];have:List.count (O (k:Int)) [O t]=0:=by rw[List.count_eq_zero];intro z;have:=QX.mp z;exact hk (Jb this).symm
   rw[this];exact⟨h1,h2⟩
theorem Ha{os:LO}{k:Nat}(h:k<os.length):oIx (.list (os.map U0)) (.int k)=O (U0 os[k]):=Z6 (by rw[Qt,Qi h];rfl)
theorem OZ{ws:LO}{o:A7}:(ws++[o]).map U0=ws.map U0++[U0 o]:=by rw[QN];rfl
def WT(cs:A0)(ls:L3)(c s:D)(dg:A0)(i:Nat)(ρ:Ut):Prop:=∃(lf:A0)(ws:LO)(x6 x7 x8:Option Sl),
 ρ=[pb (US cs ls),pb c,pb s,O (.own (lf.map int)),pb (.list (dg.map int)),O (.own (ws.map U0)),x6,x7,x8]/\ws.length=i/\WK cs ls lf ws
theorem BR{cs:A0}{ls:L3}{c s:D}{dg:A0}{i:Nat}{d:D}{ρ:Ut}{Q:Out->Prop}(g:Good cs ls)(hdl:dg.length=ls.length)(hd0:∀x∈dg,0<=x)(hi:(K0 0 ls.length)[i]?=O d)(h:WT cs ls c s dg i ρ) :
  ∃ρ2,gN 6 d ρ=O ρ2/\Ho S1 ρ2 (Vj (WT cs ls c s dg (i+1)) Q):=by
 obtain⟨lf,ws,x6,x7,x8,rfl,hw,dl⟩:=h;obtain⟨rfl,hlt⟩:=Tj hi;have hil:i<ls.length:=by omega
 have hls:ls[i]?=O ls[i]:=Qi hil;have gr:=g.rk _ (QZ hls);have hfl:=Vy gr;refine⟨_,UN (Qa AU) AU,?_⟩;unfold S1;rw[Int.zero_add];generalize hrs:ls[i]=rs at *;have hmem:∀t∈ZZ rs.flatten,t∈rs.flatten:=λt ht=>(Tk _).mem_iff.mp ht
 have hthere:∀t∈rs.flatten,0<=t/\t<lf.length:=λt ht=>by obtain⟨r,hr,htr⟩:=JV.mp ht;have:=gr.there r hr t htr;rw[dl.len];exact this
 let L:=(ZZ rs.flatten).filter λt=>decide (0<lf.getD t.toNat 0)
 have hc:KG (gN 9) (UB (oIB λi j=>decide (j<i)) (UC 3 (Us 9)) (Uu (.int 0))) (Us 9) ((ZZ rs.flatten).map int) (KP [pb (US cs ls),pb c,pb s,O (.own (lf.map int)),pb (.list (dg.map int)),O (.own (ws.map U0)),pb (.int (i:Int)),x7,x8]++Ud 1 AV) []=O (L.map int):=by
  rw[Xs (λd=>match d with | .int t=>decide (0<lf.getD t.toNat 0)|_=>AX) (λd=>d) (λρ=>∃x y7 y8,ρ=[pb (US cs ls),pb c,pb s,pb (.list (lf.map int)),pb (.list (dg.map int)),pb (.list (ws.map U0)),pb (.int (i:Int)),y7,y8,x])]
  .rw[Jk,List.map_id',List.filter_map]
   rfl
  .rintro d hm ρ ⟨x,y7,y8,rfl⟩
   obtain⟨t,ht,rfl⟩:=QA.mp hm;obtain⟨h0,h1⟩:=hthere t (hmem t ht);obtain⟨k,rfl⟩:∃k:Nat,t=k:=⟨t.toNat,by omega⟩
   refine⟨_,UN (Qa AU) AU,UI (UL AU (UA AU) (TV (by omega))) Uy AU,λ_=>UA AU,pb (.int k),Ko y7,Ko y8,rfl⟩
  .exact⟨AV,SD x7,SD x8,rfl⟩
  .rw[Qd,QS,(Tk _).length_eq];have:=g.c6;omega
 have hLl:L.length<=6:=by have:L.length<=(ZZ rs.flatten).length:=List.length_filter_le _ _;rw[(Tk _).length_eq]at this;have:=g.c6;omega
 have hadd:UJ (.list (L.map int)) (.list [.none])=O (.list ((L.map O++[AV]).map U0)):=by rw[Xw (by rw[Qd];show L.length+1<=_;omega),QN,Ja];rfl
 refine UR (Kf (UI (Kl (EV (ZM (Kb (Uz (UA AU) (Uz (UA AU) UD)) AU (Cv (cs:=cs) hls (by have:=g.c6;omega))) TY) hc (by rw[List.all_map,QR];exact λ_ _=>rfl))) (Zy (Uz Uy UD) (Qa AU)) hadd) (Qa AU) AU) ?_;have hol:(L.map O++[AV]:LO).length=L.length+1:=by rw[Qk,Qd];rfl
 have hlen:Ke [.list ((L.map O++[AV]:LO).map U0)]=O (.int ((L.length+1:Nat):Int)):=by rw[KZ,Qd,hol]
 have hdi:dg[i]?=O dg[i]:=Qi (by omega);have hx0:=hd0 _ (QZ hdi);have hix:oIx (.list (dg.map int)) (.int (i:Int))=O (.int dg[i]):=Z6 (by rw[Qt,hdi];rfl);have hm0:0<=dg[i] % ((L.length+1:Nat):Int):=JS _ (by omega);have hm1:dg[i] % ((L.length+1:Nat):Int)<((L.length+1:Nat):Int):=JM _ (by omega);obtain⟨k,hk⟩:∃k:Nat,dg[i] % ((L.length+1:Nat):Int)=k:=⟨(dg[i] % ((L.length+1:Nat):Int)).toNat,by omega⟩
 have hkl:k<(L.map O++[AV]:LO).length:=by rw[hol];omega
 have qI:=Ha (os:=L.map O++[AV]) hkl;rw[←hk]at qI;generalize ho:(L.map O++[AV]:LO)[k]=o at qI;refine UR (Kf (UL AU (UI (UL AU (UA AU) hix) (Kq AU hlen) (Xq (by omega))) qI) (Qa AU) AU) ?_;have jq:(ws.map U0).length<1000000:=by rw[Qd];have:=g.l7;omega
 have jB:ls[ws.length]?=O rs:=by rw[hw];exact hls
 cases o with
 |none=>
  apply UQ;apply UM
  case h1=>exact R1 (UA AU) AU
  case h2=>intro hh;cases hh
  case h3=>intro _;refine U1 (UX ?_);refine Kk (YE AU (UA AU) AU jq AU) ?_;exact Z5 ⟨lf,ws++[AV],_,_,_,by rw[OZ (ws:=ws)];rfl,by rw[Qk,hw];rfl,dl.none jB⟩
 |some t=>
  have htL:t∈L:=by
   have hm:O t∈(L.map O++[AV]:LO):=ho ▸ JO hkl;rcases Jd.mp hm with z|z
   .obtain⟨t',h1,h2⟩:=QA.mp z
    cases h2;exact h1
   .cases QX.mp z
  obtain⟨htm,htp⟩:=List.mem_filter.mp htL;have htf:=hmem t htm;obtain⟨h0,h1⟩:=hthere t htf;have hv:lf[t.toNat]?=O lf[t.toNat]:=Qi (by omega);have hvd:lf.getD t.toNat 0=lf[t.toNat]:=by simp[List.getD,hv]
  have hpos:0<lf[t.toNat]:=by rw[hvd]at htp;simpa using htp
  have hvx:oIx (.list (lf.map int)) (.int t)=O (.int lf[t.toNat]):=LI h0 (by rw[Qt,hv];rfl);apply UQ;apply UM
  case h1=>exact R1 (UA AU) AU
  case h2=>intro _;refine Kk (S5 (UI (LH AU (UA AU) AU hvx) Uy Os) AU (UA AU) AU ⟨h0,by rw[Qd];exact h1⟩ AU) ?_;refine UX ?_;refine Kk (YE AU (UA AU) AU jq AU) ?_;exact Z5 ⟨lf.set t.toNat (lf[t.toNat]-1),ws++[O t],_,_,_,by rw[OZ (ws:=ws),←DN];rfl,by rw[Qk,hw];rfl,dl.give jB htf h0 hv hpos⟩
  case h3=>intro hh;cases hh
theorem BQ{cs:A0}{ls:L3}(g:Good cs ls)(c s:Int):∃r,X6 [US cs ls,.int c,.int s]=O r/\∃ws,r=Kj ws/\Deal cs ls ws:=by
 refine Vr (ρ:=[pb (US cs ls),pb (.int c),pb (.int s),AV,AV,AV,AV,AV,AV]) AU ?_;unfold W4;have i0:oIx (US cs ls) (.int 0)=O (.list (cs.map int)):=Z6 (j:=0) AU;have i1:oIx (US cs ls) (.int 1)=O (.list (ls.map UP)):=Z6 (j:=1) AU;have hlen:Ke [.list (ls.map UP)]=O (.int ls.length):=by rw[KZ,Qd]
 refine UR (Zn (Kd (Uz (UL AU Uy i0) UD) (KQ (show Z0 [.list (cs.map int)]=O (cs.map int)from rfl))) (Qa AU) AU) ?_
 have hmul:U9 (.list [.int 61]) (.int ls.length)=O (.list ((Ud ls.length (61:Int)).map int)):=by
  rw[Me ⟨by omega,by have:=g.l7;omega,by show 1*_<=_;have:=g.l7;omega⟩]
  congr 2
  rw[Js];generalize ls.length=n;induction n with
  |zero=>rfl
  |succ n ih=>rw[Q9,QH,ih,Q9,Qw];rfl
 obtain⟨r,hF,dg,rfl,hdl,hdb⟩:=Sr c s (sizes:=Ud ls.length (61:Int)) (λx hx=>by rw[(List.mem_replicate.mp hx).2];decide) (by rw[QU];have:=g.l7;omega);rw[QU]at hdl;refine UR (Kf (Kb (Uz (UA AU) (Uz (UA AU) (Uz (UI (Zy (Uz Uy UD) (Qa AU)) (Zj (Uz (UL AU Uy i1) UD) hlen) hmul) UD))) AU hF) (Qa AU) AU) ?_;refine UR (Zn (Vu UD (Qa AU)) (Qa AU) AU) ?_;apply UQ;apply Xj (WT cs ls (.int c) (.int s) dg)
 case h1=>exact V6 (Uz (Zj (Uz (UL AU Uy i1) UD) hlen) UD) (V8 (by have:=g.l7;omega) (by omega))
 case h0=>exact⟨cs,[],_,_,_,rfl,rfl,⟨λ_ _ _ h=>(by cases h),rfl,λk c e=>by have:=g.c7 c (QZ e);simp only[List.count_nil];exact⟨by rw[e];congr 1;omega,by omega⟩⟩⟩
 case hst=>exact λi d ρ e h=>BR g hdl (λx hx=>by obtain⟨j,hj,e⟩:=List.mem_iff_getElem.mp hx;exact(hdb j x 61 (by rw[Qi hj,e]) (by rw[QB,Qn (by omega)])).1) e h
 case hend=>rintro ρ ⟨lf,ws,x6,x7,x8,rfl,hw,dl⟩;rw[WN]at hw;refine UX (U5 (Zk rfl rfl) ⟨_,rfl,ws,rfl,⟨by omega,dl.wish,λk c e=>by have:=(dl.cop k c e).2;omega⟩⟩)
theorem OY(ws:LO):(Kj ws).depth<=2:=TW (Vw λx hx=>by obtain⟨y,_,rfl⟩:=QA.mp hx;cases y<;>simp[U0,Uj])
theorem Fu(ws:LO):oNe (Kj ws) (Kj ws)=O AX:=by unfold oNe;have h:(Kj ws).canLay0=AW:=O0 ws;rw[Qn ⟨h,h,by have:=OY ws;omega⟩,Sf _ h];rfl
theorem Nk{s:D->Ut->A6}{t:M Bool}{g:M D}(I:Ut->Prop):∀(ds qs:AY)(ρ:Ut)(es:AY),qs.length=ds.length ->
  (∀(i:Nat) d e,ds[i]?=O d->qs[i]?=O e->∀ρ,I ρ->∃ρ1,s d ρ=O ρ1/\t ρ1=.ok AW ρ1/\g ρ1=.ok e ρ1/\I (U7 ρ1))->I ρ->es.length+ds.length<=1000000->KG s t g ds ρ es=O (es++qs)
 |[],[],ρ,es,_,_,_,_=>by rw[KG,Q1]
 |d::r,e::q,ρ,es,hl,st,h0,hz=>by obtain⟨ρ1,e1,e2,e3,h1⟩:=st 0 d e AU AU ρ h0;rw[QK]at hz;rw[KG,e1];dsimp only;rw[e2];dsimp only;rw[Qn AU,e3];dsimp only;rw[if_pos (by lia),Nk I r q (U7 ρ1) (es++[e]) (by simpa using hl) (λi d' e' x y=>st (i+1) d' e' (by simpa using x) (by simpa using y)) h1 (by rw[List.length_append,List.length_singleton];lia),List.append_assoc];rfl
section
variable{cs:A0}{ls:L3}{ws:LO}
theorem Lg:oIx (US cs ls) (.int 0)=O (.list (cs.map int)):=Z6 (j:=0) AU
theorem Lf:oIx (US cs ls) (.int 1)=O (.list (ls.map UP)):=Z6 (j:=1) AU
end
theorem Si{n:Nat}:∀{xs:AY},(∀x∈xs,PyData.bulk x<=n)->PyData.bulkAll xs<=xs.length*(n+1)
 |[],_=>by simp[PyData.bulkAll]
 |x::xs,h=>by have h1:=h x Qp;have h2:=Si (xs:=xs) λy hy=>h y (Qo _ hy);rw[PyData.bulkAll,QK,Nat.succ_mul];omega
section
variable{cs:A0}{ls:L3}
theorem Ft(g:Good cs ls):X1 [US cs ls]=O (US cs ls):=by
 refine K1 (ρ:=[pb (US cs ls),AV,AV]) AU ?_;unfold WY;have l7:=g.l7;refine UR (Zn (Vu UD (Qa AU)) (Qa AU) AU) ?_;apply UQ;apply Xj (λi ρ=>∃x2,ρ=[pb (US cs ls),O (.own ((ls.take i).map UP)),x2])
 case h1=>exact ZM (UL AU Uy Lf) TY
 case h0=>exact⟨_,rfl⟩
 case hst=>
  rintro i d ρ hi ⟨x2,rfl⟩;rw[Qt]at hi;cases hw:ls[i]? with
  |none=>rw[hw]at hi;cases hi
  |some rs=>
  rw[hw]at hi;cases hi;have hrs:rs.length<=5:=(g.rk rs (QZ hw)).few;refine⟨_,UN (Qa AU) AU,?_⟩;unfold P7
  have hc:∀x1:Option Sl,KG (gN 3) (Uu AW) (UE Ue (YG 3)) (rs.map UW) (U7 [pb (US cs ls),x1,pb (UP rs)]++Ud 1 AV) []=O (rs.map UW):=λx1=>by
   refine Nk (λρ=>∃a x,ρ=[pb (US cs ls),a,pb (UP rs),x]) _ _ _ _ AU ?_ ⟨_,AV,rfl⟩ (by rw[Qd,QS];omega);rintro j d e hd he ρ ⟨a,x,rfl⟩;rw[hd]at he;cases he;rw[Qt]at hd;cases hwj:rs[j]? with
   |none=>rw[hwj]at hd;cases hd
   |some r=>
   rw[hwj]at hd;cases hd;exact⟨_,UN (Qa AU) AU,rfl,Kl (WI AU (show Z0 [UW r]=O (r.map int)from rfl)),_,_,rfl⟩
  refine Kk (YE AU (Kl (Yd (ZM (UA AU) TY) (hc _))) AU (by rw[Qd,JJ];omega) AU) ?_;refine Z5 ⟨O (.pub (UP rs)),?_⟩;rw[List.take_succ,hw,QN];rfl
 case hend=>rintro ρ ⟨x2,rfl⟩;rw[Qd,List.take_length];exact UX (U5 (ZP (Uz (Kl (Kd (Uz (UL rfl Uy Lg) UD) (KQ (show Z0 [.list (cs.map int)]=O (cs.map int)from rfl)))) (Uz (Zk rfl rfl) UD)) (Qa rfl)) rfl)
end
noncomputable def whB:D->Bool
 |.int _=>AW
 |_=>AX
noncomputable def KI(n:Int):D->Bool
 |.int i=>decide (0<=i)&&decide (i<n)
 |_=>AX
noncomputable def rkB(n:Int):D->Bool
 |.list (x::xs)=>(x::xs).all (KI n)
 |_=>AX
noncomputable def whI:D->A7
 |.int i=>O i
 |_=>AV
noncomputable def itI:D->A0
 |.list xs=>xs.filterMap whI
 |_=>[]
noncomputable def flI(rs:AY):A0:=rs.flatMap itI
noncomputable def Zs(n:Int):D->Bool
 |.list rs=>decide (rs.length<=5)&&(rs.all (rkB n)&&decide (flI rs).Nodup)
 |_=>AX
theorem Tf(n:Int)(rs:AY):Zs n (.list rs)=(decide (rs.length<=5)&&(rs.all (rkB n)&&decide (flI rs).Nodup)):=rfl
theorem Nj(d:D):YZ [d]=O (.bool (whB d)):=by
 cases d with
 |dict kvs=>exact K1 (ρ:=[pb (.dict kvs)]) AU (U5 (Yh (t:=AX) (u:=AX) (Ps (UA AU)) λz=>by cases z) AU)
 |_=>rfl
theorem T3(d:D)(n:Int):KL [d,.int n]=O (.bool (KI n d)):=by
 refine K1 (ρ:=[pb d,pb (.int n)]) AU ?_;unfold XN;cases d with
 |int i=>exact U5 (Yh (t:=AW) (u:=decide (0<=i)&&decide (i<n)) (Kb (Uz (UA AU) UD) AU (Nj (.int i))) (λ_=>Kl (VC Uy (UA AU) AU (λ_=>UA AU) (λ_=>rfl)))) AU
 |_=>exact U5 (Yh (t:=AX) (u:=AX) (Kb (Uz (UA AU) UD) AU (Nj _)) (λz=>by cases z)) AU
theorem OX{n:Int}{d:D}(h:KI n d=AW):∃i,d=.int i/\0<=i/\i<n:=by
 cases d with
 |int i=>have h:(decide (0<=i)&&decide (i<n))=AW:=h;simp only[Qm,Q3]at h;exact⟨i,rfl,h⟩
 |_=>cases h
theorem Re{n:Int}:∀{xs:AY},xs.all (KI n)=AW->xs=(xs.filterMap whI).map int
 |[],_=>rfl
 |x::r,h=>by rw[JQ,Qm]at h;obtain⟨i,rfl,_⟩:=OX h.1;have ih:=Re h.2;show _=(i::r.filterMap whI).map int;rw[Qw,←ih]
theorem L9{n:Int}{d:D}(h:rkB n d=AW):d=.list ((itI d).map int):=by
 cases d with
 |list xs=>
  cases xs with
  |nil=>cases h
  |cons x r=>exact JX Ue (Re h)
 |_=>cases h
theorem Ni{q:D->Bool}(xs:AY):K6 [.list (xs.map λd=>.bool (q d))]=O (.bool (xs.all q)):=by
 have:(xs.map λd=>Uf (q d))=(xs.map q).map Uf:=by rw[Ja];rfl
 rw[this,S4]
 congr 2
 rw[List.all_map];rfl
theorem As{d:D}{n:Int}(hl:∀xs,d=.list xs->xs.length<=700):ZX [d,.int n]=O (.bool (rkB n d)):=by
 refine K1 (ρ:=[pb d,pb (.int n)]) AU ?_;unfold XJ;apply UQ;cases d with
 |list xs=>
  have hl:=hl xs AU;apply UM (b:=decide ((xs.length:Int)=0))
  case h1=>exact ZK (ρ1:=[pb (.list xs),pb (.int n)]) (Zl (UA AU) AU) (UI (Kq AU KZ) Uy Yg)
  case h2=>
   intro hh;have:(xs.length:Int)=0:=by simpa using hh
   have e:xs=[]:=List.eq_nil_of_length_eq_zero (by lia);subst e;exact U5 Uy (KN AU)
  case h3=>
   intro hh;have hne:¬(xs.length:Int)=0:=by simpa using hh
   refine U1 (UX ?_)
   have hc:KG (gN 2) (Uu AW) (UK 2 KL (Uw (Us 2) (Uw (Us 1) (Uv)))) xs (U7 [pb (.list xs),pb (.int n)]++Ud 1 AV) []=O (xs.map λd=>.bool (KI n d)):=by
    rw[Xs (λ_=>AW) (λd=>.bool (KI n d)) (λρ=>∃x,ρ=[pb (.list xs),pb (.int n),x])]
    .rw[JI.mpr (λ_ _=>rfl),Jk]
    .rintro d hm ρ ⟨x,rfl⟩
     exact⟨_,UN (Qa AU) AU,rfl,λ_=>Kb (Uz (UA AU) (Uz (UA AU) UD)) AU (T3 d n),_,rfl⟩
    .exact⟨AV,rfl⟩
    .rw[QS];lia
   refine U5 (Zj (Uz (Kl (Yd (ZM (UA AU) AU) hc)) UD) (Ni xs)) ?_;cases xs with
   |nil=>exact absurd AU hne
   |cons x r=>rfl
 |dict kvs=>exact UM (b:=AW) (Y6 (V5 (UA AU))) (λ_=>U5 Uy (KN AU)) (λz=>by cases z)
 |_=>exact UM (b:=AW) (Y6 (Zl (UA AU) AU)) (λ_=>U5 Uy (KN AU)) (λz=>by cases z)
theorem Cu{ns:A0}:∀i,(PyProof.Rows.firstMet (λi=>ns.getD i 0) i).length<=i:=by
 intro i;induction i with
 |zero=>exact Qq _
 |succ i ih=>
  rw[PyProof.Rows.firstMet_succ];unfold PyProof.Rows.step_dedup;split
  .lia
  .rw[Qk,QF];lia
theorem Aj{ns:A0}(h:Y8 ns=ns.length):ns.Nodup:=by
 unfold Y8 at h
 have key:∀i,i<=ns.length->(PyProof.Rows.firstMet (λi=>ns.getD i 0) i).length=i->(ns.take i).Nodup:=by
  intro i;induction i with
  |zero=>intro _ _;simp
  |succ i ih=>
   intro hi e;rw[PyProof.Rows.firstMet_succ]at e;unfold PyProof.Rows.step_dedup at e;cases hany:(PyProof.Rows.firstMet (λi=>ns.getD i 0) i).any (· == ns.getD i 0)with
   |true=>
    rw[hany,Qn AU]at e;have:=Cu (ns:=ns) i
    lia
   |false=>
    rw[hany,QD (by decide),Qk]at e;have e:(PyProof.Rows.firstMet (λi=>ns.getD i 0) i).length=i:=by simpa using e
    have ih:=ih (by lia) e;rw[List.take_succ_eq_append_getElem (by lia),List.nodup_append];refine⟨ih,by simp,λa ha b hb=>?_⟩;rw[QX]at hb;subst hb;rw[PyProof.Rows.firstMet_any,List.any_eq_false]at hany;obtain⟨j,hj,rfl⟩:=List.mem_take_iff_getElem.mp ha;have hj':j<i:=by have:=hj;lia
    have:=hany (ns.getD j 0) (QA.mpr ⟨j,Jj.mpr hj',rfl⟩);have l1:j<ns.length:=by lia
    have l2:i<ns.length:=by lia
    simp only[List.getD,Qi l1,Qi l2,JD,beq_iff_eq]at this;exact this
 have:=key ns.length (Qq _) h;rwa[List.take_length]at this
theorem Ct{ns:A0}(h:ns.length<=3500):∃u:Nat,Wl [.list (ns.map int)]=O (.int u)/\decide ((u:Int)=ns.length)=decide ns.Nodup:=by
 refine⟨Y8 ns,?_,?_⟩
 .unfold Wl
  dsimp only;rw[RC];dsimp only;rw[Qn (by lia)]
 .by_cases e:ns.Nodup
  .rw[Mo e,decide_eq_true e];simp
  .rw[QC e,QC]
   intro z;exact e (Aj (by lia))
def XY(d:D):Prop:=∀rs,d=.list rs->∀xs,.list xs∈rs->xs.length<=700
theorem RN{n:Int}:∀{rs:AY},rs.all (rkB n)=AW->(∀xs,.list xs∈rs->xs.length<=700)->∃ls:List A0,rs=ls.map UW/\flI rs=ls.flatten/\ls.flatten.length<=700*rs.length
 |[],_,_=>⟨[],rfl,rfl,by simp⟩
 |d::r,h,hs=>by
  rw[JQ,Qm]at h;obtain⟨ls,e1,e2,e3⟩:=RN h.2 λxs hx=>hs xs (Qo _ hx)
  have hd:=L9 h.1;have hl:=hs ((itI d).map int) (by rw[←hd];exact Qp);rw[Qd]at hl;refine⟨itI d::ls,?_,?_,?_⟩
  .rw[Qw,←e1]
   exact JX (· :: r) hd
  .show itI d++flI r=_
   rw[e2,QH]
  .rw[QH,Qk,QK];lia
theorem Ai{d:D}{n:Int}(hs:XY d):ZW [d,.int n]=O (.bool (Zs n d)):=by
 refine K1 (ρ:=[pb d,pb (.int n),AV]) AU ?_;unfold XI;apply UQ;cases d with
 |list rs=>
  have hs:=hs rs AU;apply UM (b:=decide ((5:Int)<rs.length))
  case h1=>exact ZK (ρ1:=[pb (.list rs),pb (.int n),AV]) (Zl (UA AU) AU) (UI (Kq AU KZ) Uy AU)
  case h2=>
   intro hh;have:(5:Int)<(rs.length:Int):=by simpa using hh
   refine U5 Uy (KN ?_);rw[Tf,QC (by lia:¬rs.length<=5)];rfl
  case h3=>
   intro hh;have h5:¬(5:Int)<(rs.length:Int):=by simpa using hh
   refine U1 (UX ?_)
   have hc:KG (gN 3) (Uu AW) (UK 2 ZX (Uw (Us 3) (Uw (Us 1) (Uv)))) rs (U7 [pb (.list rs),pb (.int n),AV]++Ud 1 AV) []=O (rs.map λd=>.bool (rkB n d)):=by
    rw[Xs (λ_=>AW) (λd=>.bool (rkB n d)) (λρ=>∃x,ρ=[pb (.list rs),pb (.int n),AV,x])]
    .rw[JI.mpr (λ_ _=>rfl),Jk]
    .rintro d hm ρ ⟨x,rfl⟩
     exact⟨_,UN (Qa AU) AU,rfl,λ_=>Kb (Uz (UA AU) (Uz (UA AU) UD)) AU (As (λxs e=>hs xs (by rw[←e];exact hm))),_,rfl⟩
    .exact⟨AV,rfl⟩
    .rw[QS];lia
   apply UQ;apply UM
   case h1=>exact Zh (ZB (Zj (Uz (Kl (Yd (ZM (UA AU) AU) hc)) UD) (Ni rs)))
   case h2=>
    intro hh;have e:rs.all (rkB n)=AX:=by simpa using hh
    refine U5 Uy (KN ?_);rw[Tf,e,Bool.false_and,Bool.and_false]
   case h3=>
    intro hh;have e:rs.all (rkB n)=AW:=by simpa using hh
    refine U1 (UX ?_);obtain⟨ls,e1,e2,e3⟩:=RN e hs;have hfl:ls.flatten.length<=3500:=by lia
    subst e1;have h2:WG (KH (Us 0)) 2 (gN 3) (Uu AW) (KH (Us 3)) (gN 4) (Uu AW) (Us 4) [pb (.list (ls.map UW)),pb (.int n),AV]=.ok (ls.flatten.map int) [pb (.list (ls.map UW)),pb (.int n),AV]:=by unfold WG;have e1:KH (Us 0) [pb (.list (ls.map UW)),pb (.int n),AV]=.ok (ls.map UW) [pb (.list (ls.map UW)),pb (.int n),AV]:=ZM (UA AU) AU;rw[e1];dsimp only;have e2:=RO (a:=.list (ls.map UW)) (b:=.int n) ls [] AV AV (by rw[QS];lia);have e3:YH (gN 3) (Uu AW) (KH (Us 3)) (gN 4) (Uu AW) (Us 4) (ls.map UW) (U7 [pb (.list (ls.map UW)),pb (.int n),AV]++Ud 2 AV) []=O ([]++ls.flatten.map int):=e2;rw[e3];rfl
    refine UR (Zn h2 (Qa AU) AU) ?_;obtain⟨u,hu1,hu2⟩:=Ct hfl;refine U5 (Kl (UI (Zj (Uz (Zk AU AU) UD) hu1) (Kq AU KZ) Yg)) ?_;rw[Qd,hu2];rw[Tf,Qx (by lia:(ls.map UW).length<=5),e,e2,JW,JW]
 |dict kvs=>exact UM (b:=AW) (Y6 (V5 (UA AU))) (λ_=>U5 Uy (KN AU)) (λz=>by cases z)
 |_=>exact UM (b:=AW) (Y6 (Zl (UA AU) AU)) (λ_=>U5 Uy (KN AU)) (λz=>by cases z)
noncomputable def K7:D->Option (Str×D)
 |.tuple [c,l]=>(match c with
  |.list cs=>if 1<=cs.length/\cs.length<=6 then(match fb (KI 8) 0 cs with
    |some k=>O ("copies", .int k)
    |none=>(match l with
     |.list ls=>if 1<=ls.length/\ls.length<=7 then(match fb (Zs cs.length) 0 ls with
       |some k=>O ("lists", .int k)
       |none=>AV)else O ("lists", .none)
     |_=>O ("lists", .none)))else O ("copies", .none)
  |_=>O ("copies", .none))
 |_=>O ("wishes", .none)
noncomputable def Vf(o:Option (Str×D)):XR:=match o with
 |none=>.val .none
 |some (p,n)=>.exc (exD "NoWishes" [.str p,n])
theorem Xp{p:Str}{n:D}(h1:p.length<=1000)(h2:Xh n=AW):Xg "NoWishes" [.str p,n]=O [.str p,n]:=by have e:K2 "NoWishes" = (["part", "number"]:List Str):=rfl;unfold Xg;rw[e];dsimp only;have h3:Xh (.str p)=AW:=Qx h1;rw[Qn ⟨rfl,by rw[JQ,JQ,h2,h3];rfl⟩]
theorem P0{j:Nat}(h:j<1000000):Xh (.int j)=AW:=by
 unfold Xh;simp only[Qm,Q3]
 constructor<;>lia
noncomputable def Ze(c:D):Option (Str×D):=match c with
 |.list cs=>if 1<=cs.length/\cs.length<=6 then(match fb (KI 8) 0 cs with
  |some k=>O ("copies", .int k)
  |none=>AV)else O ("copies", .none)
 |_=>O ("copies", .none)
noncomputable def ZG(n:Int)(l:D):Option (Str×D):=match l with
 |.list ls=>if 1<=ls.length/\ls.length<=7 then(match fb (Zs n) 0 ls with
  |some k=>O ("lists", .int k)
  |none=>AV)else O ("lists", .none)
 |_=>O ("lists", .none)
theorem Sd{m:Nat}{k:Int}:(!(decide ((1:Int)<=m)&&decide ((m:Int)<=k)))=decide (¬(1<=m/\(m:Int)<=k)):=by
 by_cases h:(1:Int)<=m<;>by_cases h2:(m:Int)<=k
 .rw[Qx h,Qx h2,QC (by lia)];rfl
 .rw[QC h2,Bool.and_false,Qx (by lia)];rfl
 .rw[QC h,Bool.false_and,Qx (by lia)];rfl
 .rw[QC h,Bool.false_and,Qx (by lia)];rfl
theorem Fs(d:D):So [d]=O (Vf (Ze d)):=by
 refine VH (ρ:=[pb d,AV,AV]) AU ?_;unfold RT;apply UQ;cases d with
 |list cs=>
  apply UM
  case h1=>exact ZK (ρ1:=[pb (.list cs),AV,AV]) (Zl (UA AU) AU) (Zh (VC Uy (Kq AU KZ) AU (λ_=>Uy) (λ_=>rfl)))
  case h2=>intro hh;rw[Sd]at hh;have hh:=Qa hh;refine Kk (Xa (Uz Uy (Uz Uy UD)) (Xp (by decide) AU)) (Yi ?_);unfold Ze;dsimp only;rw[QD (by lia)];exact⟨rfl,rfl⟩
  case h3=>
   intro hh;rw[Sd]at hh;have hh:=Jy hh;have hl:1<=cs.length/\cs.length<=6:=by lia
   have ed:Ze (.list cs)=(match fb (KI 8) 0 cs with
    |some k=>O ("copies", .int k)
    |none=>AV):=by unfold Ze;dsimp only;rw[if_pos hl]
   refine U1 (UX ?_);rw[ed];refine O7 (xs:=cs) (KI 8) (λρ=>∃x1 x2,ρ=[pb (.list cs),x1,x2]) (TZ (Uz (UA AU) UD) Sg) ⟨_,_,rfl⟩ ?_ ?_
   .rintro x hx j ρ hj ⟨x1,x2,rfl⟩
    refine⟨_,K4 AU (Kg (UN (Qa AU) AU) (Kg (UN (Qa AU) AU) K5)),?_⟩;unfold MH;refine UM (Zh (ZB (Kb (Uz (UA AU) (Uz (UI Uy Uy K3) UD)) AU (T3 x 8)))) (λz=>?_) λz=>?_
    .refine Kk (Xa (Uz Uy (Uz (UA AU) UD)) (Xp (by decide) (P0 (by lia)))) (RX (by simpa using z) λe=>?_)
     rw[e];exact⟨rfl,rfl⟩
    .exact U1 (RY (by simpa using z) ⟨_,_,rfl⟩)
   .intro e ρ _
    rw[e];rfl
 |dict kvs=>exact UM (b:=AW) (Y6 (V5 (UA AU))) (λ_=>Kk (Xa (Uz Uy (Uz Uy UD)) (Xp (by decide) AU)) (Yi ⟨rfl,rfl⟩)) (λz=>by cases z)
 |_=>exact UM (b:=AW) (Y6 (Zl (UA AU) AU)) (λ_=>Kk (Xa (Uz Uy (Uz Uy UD)) (Xp (by decide) AU)) (Yi ⟨rfl,rfl⟩)) (λz=>by cases z)
theorem L8{d:D}{n:Int}(hs:∀ls,d=.list ls->ls.length<=7->∀x∈ls,XY x):Sn [d,.int n]=O (Vf (ZG n d)):=by
 refine VH (ρ:=[pb d,pb (.int n),AV,AV]) AU ?_;unfold RU;apply UQ;cases d with
 |list cs=>
  apply UM
  case h1=>exact ZK (ρ1:=[pb (.list cs),pb (.int n),AV,AV]) (Zl (UA AU) AU) (Zh (VC Uy (Kq AU KZ) AU (λ_=>Uy) (λ_=>rfl)))
  case h2=>intro hh;rw[Sd]at hh;have hh:=Qa hh;refine Kk (Xa (Uz Uy (Uz Uy UD)) (Xp (by decide) AU)) (Yi ?_);unfold ZG;dsimp only;rw[QD (by lia)];exact⟨rfl,rfl⟩
  case h3=>
   intro hh;rw[Sd]at hh;have hh:=Jy hh;have hl:1<=cs.length/\cs.length<=7:=by lia
   have hs:=hs cs AU hl.2
   have ed:ZG n (.list cs)=(match fb (Zs n) 0 cs with
    |some k=>O ("lists", .int k)
    |none=>AV):=by unfold ZG;dsimp only;rw[if_pos hl]
   refine U1 (UX ?_);rw[ed];refine O7 (xs:=cs) (Zs n) (λρ=>∃x1 x2,ρ=[pb (.list cs),pb (.int n),x1,x2]) (TZ (Uz (UA AU) UD) Sg) ⟨_,_,rfl⟩ ?_ ?_
   .rintro x hx j ρ hj ⟨x1,x2,rfl⟩
    refine⟨_,K4 AU (Kg (UN (Qa AU) AU) (Kg (UN (Qa AU) AU) K5)),?_⟩;unfold MG;refine UM (Zh (ZB (Kb (Uz (UA AU) (Uz (UA AU) UD)) AU (Ai (n:=n) (hs x hx))))) (λz=>?_) λz=>?_
    .refine Kk (Xa (Uz Uy (Uz (UA AU) UD)) (Xp (by decide) (P0 (by lia)))) (RX (by simpa using z) λe=>?_)
     rw[e];exact⟨rfl,rfl⟩
    .exact U1 (RY (by simpa using z) ⟨_,_,rfl⟩)
   .intro e ρ _
    rw[e];rfl
 |dict kvs=>exact UM (b:=AW) (Y6 (V5 (UA AU))) (λ_=>Kk (Xa (Uz Uy (Uz Uy UD)) (Xp (by decide) AU)) (Yi ⟨rfl,rfl⟩)) (λz=>by cases z)
 |_=>exact UM (b:=AW) (Y6 (Zl (UA AU) AU)) (λ_=>Kk (Xa (Uz Uy (Uz Uy UD)) (Xp (by decide) AU)) (Yi ⟨rfl,rfl⟩)) (λz=>by cases z)
def XV(d:D):Prop:=∀c ls,d=.tuple [c,.list ls]->ls.length<=7->∀x∈ls,XY x
theorem Nh(c l:D):K7 (.tuple [c,l])=(match Ze c with
  |some x=>O x
  |none=>(match c with | .list cs=>ZG cs.length l|_=>AV)):=by
 unfold K7 Ze ZG;cases c with
 |list cs=>
  dsimp only;by_cases h:1<=cs.length/\cs.length<=6
  .rw[Qn h,Qn h]
   cases fb (KI 8) 0 cs with
   |some k=>rfl
   |none=>cases l<;>rfl
  .rw[QD h,QD h]
 |_=>rfl
theorem Ra{d:D}(hs:XV d):Wo [d]=O (Vf (K7 d)):=by
 refine VH (ρ:=[pb d,AV,AV]) AU ?_;unfold RS;apply UQ;have odd:∀{o:Out->Prop},Ho (Xb "NoWishes" (Uw (Uu (.str "wishes")) (Uw (Uu .none) (Uv)))) [O (.pub d),AV,AV] (λz=>z=.ex [O (.pub d),AV,AV] (exD "NoWishes" [.str "wishes", .none])):=Kk (Xa (Uz Uy (Uz Uy UD)) (Xp (by decide) AU)) AU;cases d with
 |tuple xs=>
  by_cases hl:xs.length=2
  .obtain⟨c,l,rfl⟩:∃c l,xs=[c,l]:=by
    match xs,hl with
    |[c,l],_=>exact⟨c,l,rfl⟩
   apply UM
   case h1=>exact ZK (ρ1:=[pb (.tuple [c,l]),AV,AV]) (Zl (UA AU) AU) (UI (Kq AU AU) Uy TX)
   case h2=>intro hh;cases hh
   case h3=>
    intro _;refine U1 (UX ?_);refine UR (WF (UA AU) (K4 AU (Kg (UN (Qa AU) AU) (Kg (UN (Qa AU) AU) K5)))) ?_;rw[Nh];have hc:=Fs c;cases z:Ze c with
    |some x=>obtain⟨p,n⟩:=x;rw[z]at hc;apply UQ;exact Kk (Vi (Yc (Uz (UA AU) UD) AU hc)) (Yi ⟨rfl,rfl⟩)
    |none=>
     rw[z]at hc
     obtain⟨cs,rfl⟩:∃cs,c=.list cs:=by
      unfold Ze at z;cases c with
      |list cs=>exact⟨cs,rfl⟩
      |_=>cases z
     refine UR (Wv (Yc (Uz (UA AU) UD) AU hc) AU) ?_;have hL:=L8 (d:=l) (n:=cs.length) (λls e=>hs (.list cs) ls (by rw[e]));dsimp only;cases z2:ZG cs.length l with
     |some x=>obtain⟨p,n⟩:=x;rw[z2]at hL;exact Kk (Vi (Yc (Uz (UA AU) (Uz (Kq AU KZ) UD)) AU hL)) ⟨rfl,rfl⟩
     |none=>rw[z2]at hL;exact Kk (Wv (Yc (Uz (UA AU) (Uz (Kq AU KZ) UD)) AU hL) AU) AU
  .have hd:K7 (.tuple xs)=O (("wishes" : Str),(.none:D)):=by
    unfold K7;split
    .rename_i h;cases h;exact absurd AU hl
    .rfl
   apply UM
   case h1=>exact ZK (ρ1:=[pb (.tuple xs),AV,AV]) (Zl (UA AU) AU) (UI (Kq AU Rn) Uy TX)
   case h2=>intro _;refine Vt (odd (o:=λ_=>True)) λo e=>?_;subst e;exact Yi (by rw[hd];exact⟨rfl,rfl⟩)
   case h3=>
    intro hh;have:(xs.length:Int)=2:=by simpa using hh
    lia
 |dict kvs=>exact UM (b:=AW) (Y6 (V5 (UA AU))) (λ_=>Vt (odd (o:=λ_=>True)) λo e=>by subst e;exact Yi ⟨rfl,rfl⟩) (λz=>by cases z)
 |_=>exact UM (b:=AW) (Y6 (Zl (UA AU) AU)) (λ_=>Vt (odd (o:=λ_=>True)) λo e=>by subst e;exact Yi ⟨rfl,rfl⟩) (λz=>by cases z)
theorem Mn(d:D):Yy [d]=O (.bool (whB d)):=by
 cases d with
 |dict kvs=>exact K1 (ρ:=[pb (.dict kvs)]) AU (U5 (Yh (t:=AX) (u:=AX) (Ps (UA AU)) λz=>by cases z) AU)
 |_=>rfl
mutual
noncomputable def wB(n:Nat):D->Bool
 |.list xs=>decide (xs.length<=n)&&wBs n xs
 |.tuple xs=>decide (xs.length<=n)&&wBs n xs
 |_=>AW
noncomputable def wBs(n:Nat):AY->Bool
 |[]=>AW
 |x::r=>wB n x&&wBs n r
end
theorem S9{n:Nat}:∀{xs:AY},wBs n xs=AW ↔ ∀x∈xs,wB n x=AW
 |[]=>by simp[wBs]
 |x::r=>by rw[wBs,Bool.and_eq_true,S9 (xs:=r)];simp
theorem WJ{n:Nat}{xs:AY}:wB n (.list xs)=AW ↔ xs.length<=n/\∀x∈xs,wB n x=AW:=by rw[wB,Qm,Q3,S9]
theorem Pm{n:Nat}{xs:AY}:wB n (.tuple xs)=AW ↔ xs.length<=n/\∀x∈xs,wB n x=AW:=by rw[wB,Qm,Q3,S9]
mutual
theorem S8{n m:Nat}(h:n<=m):∀(d:D),wB n d=AW->wB m d=AW
 |.list xs,e=>by rw[wB,Qm,Q3]at e⊢;exact⟨Qv e.1 h,wBs_mono h xs e.2⟩
 |.tuple xs,e=>by rw[wB,Qm,Q3]at e⊢;exact⟨Qv e.1 h,wBs_mono h xs e.2⟩
 |.none,_=>rfl
 |.bool _,_=>rfl
 |.int _,_=>rfl
 |.str _,_=>rfl
 |.dict _,_=>rfl
theorem wBs_mono{n m:Nat}(h:n<=m):∀(xs:AY),wBs n xs=AW->wBs m xs=AW
 |[],_=>rfl
 |x::r,e=>by rw[wBs,Qm]at e⊢;exact⟨S8 h x e.1,wBs_mono h r e.2⟩
end
theorem Fq{d:D}(h:wB 700 d=AW):XV d:=λc ls e _ x hx rs e2 xs hxs=>by subst e;have h1:=(Pm.mp h).2 (.list ls) (by simp);have h2:=(WJ.mp h1).2 x hx;subst e2;exact(WJ.mp ((WJ.mp h2).2 _ hxs)).1
theorem Cs{cs:A0}{ls:L3}(g:Good cs ls):wB 7 (.list (cs.map int))=AW/\wB 7 (.list (ls.map UP))=AW:=by
 constructor
 .refine WJ.mpr ⟨by rw[Qd];have:=g.c6;lia,λx hx=>?_⟩
  obtain⟨i,_,rfl⟩:=QA.mp hx;rfl
 .refine WJ.mpr ⟨by rw[Qd];exact g.l7,λx hx=>?_⟩
  obtain⟨rs,hrs,rfl⟩:=QA.mp hx;have gr:=g.rk rs hrs;refine WJ.mpr ⟨by rw[Qd];have:=gr.few;lia,λy hy=>?_⟩;obtain⟨r,hr,rfl⟩:=QA.mp hy;have h1:r.length<=rs.flatten.length:=List.Sublist.length_le (List.sublist_flatten_of_mem hr);have h2:=Vy gr;have:=g.c6;refine WJ.mpr ⟨by rw[Qd];lia,λz hz=>?_⟩;obtain⟨i,_,rfl⟩:=QA.mp hz;rfl
mutual
noncomputable def hZ:D->Bool
 |.none | .bool _=>AW
 |.int i=>decide (i.natAbs<10000000000000000000)
 |.str z=>Uh z&&decide (z.length<=20)
 |.list xs | .tuple xs=>hZs xs
 |.dict []=>AW
 |.dict (_::_)=>AX
noncomputable def hZs:AY->Bool
 |[]=>AW
 |x::xs=>hZ x&&hZs xs
end
theorem SX:∀{xs:AY},hZs xs=AW ↔ ∀x∈xs,hZ x=AW
 |[]=>by simp[hZs]
 |x::r=>by rw[hZs,Bool.and_eq_true,SX (xs:=r)];simp
def EZ(k:Nat)(d:D):Prop:=hZ d=AW/\d.depth<=k
theorem EZ.mono{k m:Nat}{d:D}(h:k<=m)(e:EZ k d):EZ m d:=⟨e.1,Qv e.2 h⟩
theorem RM{k:Nat}:∀{xs:AY},(∀x∈xs,x.depth<=k)->PyData.depthAll xs<=k
 |[],_=>by simp[PyData.depthAll]
 |x::r,h=>by have h1:=h x Qp;have h2:=RM (xs:=r) λy hy=>h y (Qo _ hy);simp only[PyData.depthAll];omega
theorem PZ{k:Nat}{xs:AY}(h:∀x∈xs,EZ k x):EZ (k+1) (.list xs):=by
 refine⟨SX.mpr λx hx=>(h x hx).1,?_⟩;have:=RM λx hx=>(h x hx).2
 simp only[Uj];omega
theorem L7{k:Nat}{xs:AY}(h:∀x∈xs,EZ k x):EZ (k+1) (.tuple xs):=by
 refine⟨SX.mpr λx hx=>(h x hx).1,?_⟩;have:=RM λx hx=>(h x hx).2
 simp only[Uj];omega
theorem Cr{i:Int}(h:i.natAbs<10000000000000000000):i.natAbs.log2<1920:=by
 by_cases z:i.natAbs=0
 .rw[z];decide
 .have:=(Nat.log2_lt z).mpr (show i.natAbs<2 ^ 64 by omega)
  omega
mutual
theorem Pl:∀{d:D},hZ d=AW->Ku d=AW/\d.showable=AW/\d.leavesShort 24=AW
 |.none,_=>⟨rfl,rfl,rfl⟩
 |.bool _,_=>⟨rfl,rfl,rfl⟩
 |.int i,h=>by
  have h:i.natAbs<10000000000000000000:=by simpa[hZ]using h
  refine⟨rfl,?_,?_⟩
  .simp only[PyData.showable,Q3]
   exact Cr h
  .simp only[PyData.leavesShort,Q3]
   show(Um (toString i)).length<=24
   rw[PySem.ofString_length];have:=PySem.int_text_length_le10 (a:=i) (k:=19) (by decide) h;omega
 |.str z,h=>by
  have h:Uh z=AW/\z.length<=20:=by simpa[hZ]using h
  refine⟨by simpa[Ku]using h.1,rfl,?_⟩;simp only[PyData.leavesShort,QR,Q3];intro c hc;have h1:=h.1;unfold Uh at h1;rw[←Array.all_toList,QR]at h1;have:=h1 c hc;simp only[Q3]at this;omega
 |.list xs,h=>by obtain⟨a,b,c⟩:=hZs_all (xs:=xs) (by simpa[hZ]using h);exact⟨by simpa[Ku]using a,by simpa[PyData.showable]using b,by simpa[PyData.leavesShort]using c⟩
 |.tuple xs,h=>by obtain⟨a,b,c⟩:=hZs_all (xs:=xs) (by simpa[hZ]using h);exact⟨by simpa[Ku]using a,by simpa[PyData.showable]using b,by simpa[PyData.leavesShort]using c⟩
 |.dict [],_=>⟨rfl,rfl,rfl⟩
 |.dict (_::_),h=>by simp[hZ]at h
theorem hZs_all:∀{xs:AY},hZs xs=AW->YJ xs=AW/\PyData.showableAll xs=AW/\PyData.leavesShortAll 24 xs=AW
 |[],_=>⟨rfl,rfl,rfl⟩
 |x::r,h=>by rw[hZs,Qm]at h;obtain⟨a,b,c⟩:=Pl h.1;obtain⟨a',b',c'⟩:=hZs_all h.2;exact⟨by rw[YJ,a,a'];rfl,by rw[PyData.showableAll,b,b'];rfl,by rw[PyData.leavesShortAll,c,c'];rfl⟩
end
theorem EU{d:D}{k:Nat}(h:EZ k d)(hk:k<=50)(hb:d.bulk<=30000):Y4 [d]=O (.str d.shown):=by obtain⟨a,b,c⟩:=Pl h.1;refine Ce ⟨a,b,Qv h.2 hk,?_⟩;have:=PyData.shown_le_bulk 24 (by decide) d c;omega
theorem SW{p:D->Bool}:∀{xs:AY}{k:Nat},(∀x∈xs,p x=AW)->fb p k xs=AV
 |[],_,_=>rfl
 |x::r,k,h=>by unfold fb;rw[Qn (h x Qp)];exact SW λy hy=>h y (Qo _ hy)
theorem Fp(rs:List A0):flI (rs.map UW)=rs.flatten:=by
 unfold flI;induction rs with
 |nil=>rfl
 |cons r t ih=>
  rw[Qw,List.flatMap_cons,ih,QH]
  congr 1
  show(r.map int).filterMap whI=r
  rw[List.filterMap_map];show r.filterMap (λi=>O i)=r;simp
theorem Cq{n:Nat}{rs:List A0}(g:Kz n rs):Zs n (UP rs)=AW:=by
 show Zs n (.list (rs.map UW))=AW;rw[Tf,Fp,Qx g.once,Qd,Qx g.few];simp only[JW,Bool.and_true,QR];intro x hx;obtain⟨r,hr,rfl⟩:=QA.mp hx;have hn:=g.some r hr;have ht:=g.there r hr;cases r with
 |nil=>exact absurd AU hn
 |cons i q=>
  show((int i::q.map int).all (KI n))=AW
  rw[QR];intro y hy;have hy:y∈(i::q).map int:=hy;obtain⟨z,hz,rfl⟩:=QA.mp hy;have:=ht z hz
  show(decide (0<=z)&&decide (z<(n:Int)))=AW
  rw[Qx this.1,Qx this.2];rfl
theorem Cp{cs:A0}{ls:L3}(g:Good cs ls):K7 (US cs ls)=AV:=by
 show K7 (.tuple [.list (cs.map int),.list (ls.map UP)])=AV;rw[Nh];have c1:=g.c1;have c6:=g.c6;have l1:=g.l1;have l7:=g.l7
 have e1:Ze (.list (cs.map int))=AV:=by
  unfold Ze;dsimp only;rw[Qn (by rw[Qd];lia),SW];intro x hx;obtain⟨i,hi,rfl⟩:=QA.mp hx;have:=g.c7 i hi
  show(decide (0<=i)&&decide (i<8))=AW
  rw[Qx this.1,Qx this.2];rfl
 rw[e1];dsimp only;unfold ZG;dsimp only;rw[Qn (by rw[Qd];lia),SW];intro x hx;obtain⟨rs,hrs,rfl⟩:=QA.mp hx;rw[Qd];exact Cq (g.rk rs hrs)
theorem Sy{cs:A0}{ls:L3}(g:Good cs ls):Wo [US cs ls]=O (.val .none):=by
 have wg:wB 448 (US cs ls)=AW:=by
  obtain⟨a1,a2⟩:=Cs g
  exact S8 (n:=7) (by decide) _ (Pm.mpr ⟨show 2<=7 by decide,λx hx=>by
   have hx:x=.list (cs.map int)∨x=.list (ls.map UP):=by simpa using hx
   rcases hx with rfl|rfl
   .exact a1
   .exact a2⟩)
 have hx:=Ra (Fq (S8 (m:=700) (by decide) _ wg));rw[Cp g]at hx;exact hx
theorem Fo{xs:AY}{a:Nat}:DL.cutD xs AV (O (a:Int))=xs.take a:=by
 unfold DL.cutD HT.sIx;dsimp only;rw[QD (by omega),List.drop_zero,Nat.sub_zero,Js];rcases Nat.le_total a xs.length with h|h
 .rw[Nat.min_eq_left h]
 .rw[Nat.min_eq_right h,List.take_length,List.take_of_length_le h]
theorem Co{xs:AY}{a:Nat}:DL.cutD xs (O (a:Int)) AV=xs.drop a:=by
 unfold DL.cutD HT.sIx;dsimp only;rw[QD (by omega),Js];rcases Nat.le_total a xs.length with h|h
 .rw[Nat.min_eq_left h,←JC,List.take_length]
 .rw[Nat.min_eq_right h,List.drop_length,List.drop_of_length_le h,Nat.sub_self];rfl
theorem Yt{α:Type}{s:D->Ut->A6}{f:M D}(e k:α->D)(I:Ut->Prop):∀(l:List α)(ρ:Ut)(es:AY),(∀x∈l,∀ρ,I ρ->∃ρ1,s (e x) ρ=O ρ1/\f ρ1=.ok (k x) ρ1/\I (U7 ρ1))->I ρ->es.length+l.length<=1000000 ->
  KG s (Uu AW) f (l.map e) ρ es=O (es++l.map k)
 |[],ρ,es,_,_,_=>by rw[List.map_nil,KG,List.map_nil,Q1]
 |x::l,ρ,es,st,h0,hz=>by rw[QK]at hz;obtain⟨ρ1,e1,e2,e3⟩:=st x Qp ρ h0;rw[Qw,KG,e1];dsimp only[Uu];rw[Qn AU,e2];dsimp only;rw[Qn (by omega),Qw];refine(Yt e k I l _ (es++[k x]) (λy hy=>st y (Qo _ hy)) e3 (by rw[Qk,QF];omega)).trans ?_;rw[Jr];rfl
section
variable{cs:A0}{ls:L3}{ts as:List Str}
theorem OW{n:Nat}{rs:List A0}{r:A0}(g:Kz n rs)(hr:r∈rs):r.length<=n:=Qv (List.Sublist.length_le (List.sublist_flatten_of_mem hr)) (Vy g)
end
theorem SJ{p:D->Bool}:∀{xs:AY}{k:Nat},fb p k xs=AV->∀x∈xs,p x=AW
 |[],_,_,x,hx=>by cases hx
 |y::r,k,h,x,hx=>by
  rw[fb]at h;by_cases hp:p y=AW
  .rw[Qn hp]at h
   rcases QM.mp hx with rfl|hx
   .exact hp
   .exact SJ h x hx
  .rw[QD hp]at h;cases h
theorem ET{n:Nat}{x:D}(hs:XY x)(h:Zs n x=AW):∃rs,x=UP rs/\Kz n rs:=by
 cases x with
 |list rs=>
  rw[Tf,Qm,Qm]at h;obtain⟨ls,e1,e2,_⟩:=RN h.2.1 (hs rs AU);subst e1;have hall:=QR.mp h.2.1;have hr:∀r∈ls,rkB n (UW r)=AW:=λr m=>hall _ (QA.mpr ⟨r,m,rfl⟩)
  refine⟨ls,rfl,⟨?_,λr m e=>?_,λr m t ht=>?_,?_⟩⟩
  .have:=Qa h.1
   rwa[Qd]at this
  .have:=hr r m
   rw[e]at this;cases this
  .have hq:=hr r m
   unfold UW at hq;cases r with
   |nil=>cases ht
   |cons a r'=>have hq:((a::r').map int).all (KI n)=AW:=hq;have:=QR.mp hq _ (QA.mpr ⟨t,ht,rfl⟩);have:(decide (0<=t)&&decide (t<(n:Int)))=AW:=this;rw[Qm]at this;exact⟨Qa this.1,Qa this.2⟩
  .rw[←e2];exact Qa h.2.2
 |_=>cases h
theorem OV{n:Nat}:∀{ls:AY},(∀x∈ls,∃rs,x=UP rs/\Kz n rs)->∃lss:L3,ls=lss.map UP/\∀rs∈lss,Kz n rs
 |[],_=>⟨[],rfl,λ_ h=>by cases h⟩
 |x::r,h=>by
  obtain⟨rs,e,g⟩:=h x Qp;obtain⟨lss,e2,g2⟩:=OV λy hy=>h y (Qo _ hy)
  refine⟨rs::lss,by rw[Qw,e,e2],λq hq=>?_⟩;rcases QM.mp hq with rfl|hq
  .exact g
  .exact g2 q hq
theorem Fn{d:D}(hs:XV d)(h:K7 d=AV):∃cs ls,d=US cs ls/\Good cs ls:=by
 unfold K7 at h;split at h
 .rename_i c l
  split at h
  .rename_i cs
   split at h
   .rename_i hc
    split at h
    .cases h
    .rename_i hf
     split at h
     .rename_i ls
      split at h
      .rename_i hl
       split at h
       .cases h
       .rename_i hg
        have hb:=SJ hf;have e:=Re (QR.mpr hb);obtain⟨lss,e2,g2⟩:=OV λx hx=>ET (hs _ _ AU hl.2 x hx) (SJ hg x hx)
        have len:(cs.filterMap whI).length=cs.length:=by rw[←Qd (f:=int),←e]
        refine⟨cs.filterMap whI,lss,?_,⟨by rw[len];exact hc.1,by rw[len];exact hc.2,λc qL=>?_,?_,?_,λrs hr=>by rw[len];exact g2 rs hr⟩⟩
        .unfold US
         rw[←e,←e2]
        .obtain⟨x,hx,hw⟩:=List.mem_filterMap.mp qL
         obtain⟨i,rfl,h0,h8⟩:=OX (hb x hx);cases hw;exact⟨h0,h8⟩
        .rw[e2,Qd]at hl;exact hl.1
        .rw[e2,Qd]at hl;exact hl.2
      .cases h
     .cases h
   .cases h
  .cases h
 .cases h
inductive Chg where
 |lst (a:Nat) (rs:List A0)
 |cop (t k:Nat)
 |com (rs:List A0)
 |go (a:Nat)
 |thg (k:Nat)
noncomputable def chD:Chg->D
 |.lst a rs=>.tuple [.str "list", .int a,UP rs]
 |.cop t k=>.tuple [.str "copies", .int t,.int k]
 |.com rs=>.tuple [.str "come", UP rs]
 |.go a=>.tuple [.str "go", .int a]
 |.thg k=>.tuple [.str "thing", .int k]
noncomputable def Ky(n m:Nat):Chg->Prop
 |.lst a rs=>a<=m/\Kz 7 rs
 |.cop t k=>t<=n/\k<10
 |.com rs=>Kz 7 rs
 |.go a=>a<=m
 |.thg k=>k<10
noncomputable def chW(cs:A0)(ls:L3):Chg->A0×L3
 |.lst a rs=>(cs,ls.set a rs)
 |.cop t k=>(cs.set t k,ls)
 |.com rs=>(cs,ls++[rs])
 |.go a=>(cs,ls.eraseIdx a)
 |.thg k=>(cs++[(k:Int)],ls)
noncomputable def under(n:Nat)(rs:List A0):Bool:=rs.flatten.all λt=>decide (t<(n:Int))
noncomputable def Kh(n m:Nat):Chg->Bool
 |.lst a rs=>decide (a<m)&&under n rs
 |.cop t k=>decide (t<n)&&decide (k<8)
 |.com rs=>decide (m<7)&&under n rs
 |.go a=>decide (a<m)&&decide (1<m)
 |.thg k=>decide (n<6)&&decide (k<8)
theorem AK{pl:A0}{n:Nat}(hn:n<=7)(hp:n<=pl.length):∃r,X5 [.list (pl.map int),.int n]=O r/\∃rs,r=UP rs/\Kz n rs:=by
 let P:Option Sl:=O (.pub (.list (pl.map int)))
 let N:Option Sl:=O (.pub (.int n))
 refine Vr (ρ:=[P,N,AV,AV,AV]) AU ?_;unfold W3;refine UR (ρ1:=[P,N,O (.own []),AV,AV]) (Zn (Vu UD (Qa AU)) (Qa AU) AU) ?_;apply UQ;apply Xj (ds:=K0 1 6) (λj ρ=>∃rs x3 x4,ρ=[P,N,O (.own (rs.map UW)),x3,x4]/\Y3 n pl j rs)
 case h1=>exact Ou (Uz Uy (Uz Uy UD)) (OD (by decide) (by decide) (by decide) (by decide))
 case h0=>exact⟨[],AV,AV,rfl,⟨Nat.le_refl 0,by simp,by simp,List.nodup_nil⟩⟩
 case hst=>
  rintro j d ρ hj ⟨rs,x3,x4,rfl,g⟩;obtain⟨rfl,hlt⟩:=Tj hj;refine⟨[P,N,O (.own (rs.map UW)),pb (.int (1+(j:Int))),x4],UN (Qa AU) AU,?_⟩;unfold P4
  have hrd:K0 0 ((n:Nat):Int)=(Uc n).map λk=>.int (k:Int):=by
   unfold K0;have:((n:Int)-0).toNat=n:=by lia
   rw[this];apply List.map_congr_left;intro k _;rw[Int.zero_add]
  have hc:KG (gN 5) (UB oEq (UC 0 (Us 5)) (Us 3)) (Us 5) (K0 0 ((n:Nat):Int)) (U7 [P,N,O (.own (rs.map UW)),pb (.int (1+(j:Int))),x4]++Ud 1 AV) []=O ((ZY n pl (1+(j:Int))).map int):=by
   rw[hrd,Xs (λd=>match d with | .int k=>decide (pl.getD k.toNat 0=1+(j:Int))|_=>AX) (λd=>d) (λρ=>∃x,ρ=[P,N,AV,pb (.int (1+(j:Int))),Ko x4,x])]
   .rw[Jk,List.map_id',List.filter_map]
    unfold ZY;rw[Ja];rfl
   .rintro d hm ρ ⟨x,rfl⟩
    obtain⟨k,hk,rfl⟩:=QA.mp hm;have hk:=Jj.mp hk;refine⟨_,UN (Qa AU) AU,UI (UL AU (UA AU) (TV (by lia))) (UA AU) Yg,λ_=>UA AU,pb (.int k),?_⟩;unfold U7;cases x4 with
    |none=>rfl
    |some sl=>cases sl<;>rfl
   .exact⟨AV,rfl⟩
   .rw[Qd,Jg,QS];lia
  refine UR (ρ1:=[P,N,O (.own (rs.map UW)),pb (.int (1+(j:Int))),O (.own ((ZY n pl (1+(j:Int))).map int))]) (Zn (Yd (V6 (Uz (UA AU) UD) (V8 (by lia) (by lia))) hc) (Qa AU) AU) ?_;have hnd:=NR n pl (1+(j:Int));have hall:∀t∈ZY n pl (1+(j:Int)),t∈ZY n pl (1+(j:Int)):=λ_ h=>h;generalize qR:ZY n pl (1+(j:Int))=row at hnd hall⊢;apply UM
  case h1=>exact OC AU (Zy UD (by decide)) AU Nn
  case h2=>
   intro hh;have hne:row≠[]:=by simpa using hh
   have jw:(rs.map UW).length<1000000:=by rw[Qd];have:=g.few;lia
   exact Kk (YE AU (Zk AU AU) AU jw AU) (Z5 ⟨rs++[row],_,pb (UW row),by rw[QN];rfl,g.add hne (by rw[qR];exact λ_ h=>h) hnd⟩)
  case h3=>exact λ_=>U1 (Z5 ⟨rs,_,_,rfl,g.next⟩)
 case hend=>rintro ρ ⟨rs,x3,x4,rfl,g⟩;exact UX (U5 (Zk rfl rfl) ⟨_,rfl,rs,rfl,g.good⟩)
theorem Kz.rev{n:Nat}{rs:List A0}(g:Kz n rs):Kz n (rs.map List.reverse):=by
 refine⟨by rw[Qd];exact g.few,λr hr=>?_,λr hr t ht=>?_,?_⟩
 .obtain⟨q,hq,rfl⟩:=QA.mp hr
  exact λz=>g.some q hq (List.reverse_eq_nil_iff.mp z)
 .obtain⟨q,hq,rfl⟩:=QA.mp hr
  exact g.there q hq t (List.mem_reverse.mp ht)
 .have:(rs.map List.reverse).flatten.Perm rs.flatten:=by
   induction rs with
   |nil=>exact .refl _
   |cons r rs ih=>rw[Qw,QH,QH];refine(List.reverse_perm r).append (ih ⟨Qv (Jo _) g.few,λq hq=>g.some q (Qo _ hq),λq hq=>g.there q (Qo _ hq),?_⟩);have:=g.once;rw[QH]at this;exact(List.nodup_append.mp this).2.1
  exact this.nodup_iff.mpr g.once
theorem Kz.wide{n m:Nat}{rs:List A0}(g:Kz n rs)(h:n<=m):Kz m rs:=⟨g.few,g.some,λr hr t ht=>by have:=g.there r hr t ht;lia,g.once⟩
theorem ES{rs:List A0}{A B C E F G H:Option Sl}(h:rs.length<=1000):Zv (KH (Us 7)) 1 (gN 8) (Uu AW) (Yo (Us 8) (Uu AV) (Uu AV) (UH (Zf (Uu (.int 1))) λx=>UG (Zw x))) [A,B,C,E,F,G,H,pb (UP rs)]=.ok ((rs.map List.reverse).map UW) [A,B,C,E,F,G,H,pb (UP rs)]:=by
 refine Yd (ds:=rs.map UW) (ZM (UA AU) AU) ?_;rw[Ja];refine(Yt UW (λr=>UW r.reverse) (λρ=>∃x,ρ=[Ko A,Ko B,Ko C,Ko E,Ko F,Ko G,Ko H,pb (UP rs),x]) rs _ [] ?_ ?_ (by rw[QS];lia)).trans AU
 .rintro r hr ρ ⟨x,rfl⟩
  refine⟨_,UN (Qa AU) AU,?_,pb (UW r),?_⟩
  .have e:UW r.reverse=.list (r.map int).reverse:=by unfold UW;rw[List.map_reverse]
   rw[e];exact Pu (UA AU) Uy Uy (ZO (VX Uy))
  .have hh:∀s:Option Sl,Ko (Ko s)=Ko s:=λs=>by cases s with|none=>rfl|some sl=>cases sl<;>rfl
   show [Ko (Ko A),Ko (Ko B),Ko (Ko C),Ko (Ko E),Ko (Ko F),Ko (Ko G),Ko (Ko H),_,_]=_;rw[hh,hh,hh,hh,hh,hh,hh];rfl
 .exact⟨AV,rfl⟩
noncomputable def szH:A0:=[6,8,7,10,9,6,6,6,6,6,6,6,2]
theorem L6:∀x∈szH,0<x/\x<18446744073709551616:=by decide
theorem B8{cs:A0}{ls:L3}(g:Good cs ls)(c s:Int):∃r,X4 [US cs ls,.int c,.int s]=O r/\∃ch,r=chD ch/\Ky cs.length ls.length ch:=by
 obtain⟨r,hn,ds,rfl,hdl,hdb⟩:=Sr c s (sizes:=szH) L6 (by decide)
 match ds,hdl with
 |[d0,d1,d2,d3,d4,d5,d6,d7,d8,d9,d10,d11,d12],_=>
 have b0:=hdb 0 d0 6 AU AU;have b1:=hdb 1 d1 8 AU AU;have b2:=hdb 2 d2 7 AU AU;have b3:=hdb 3 d3 10 AU AU;have c6:=g.c6;have l7:=g.l7
 let W:Option Sl:=O (.pub (US cs ls))
 let C:Option Sl:=O (.pub (.int c))
 let S:Option Sl:=O (.pub (.int s))
 let A:Option Sl:=O (.pub (.list (cs.map int)))
 let L:Option Sl:=O (.pub (.list (ls.map UP)))
 let E:Option Sl:=O (.pub (.list ([d0,d1,d2,d3,d4,d5,d6,d7,d8,d9,d10,d11,d12].map int)))
 have la:Ke [.list (cs.map int)]=O (.int cs.length):=by rw[KZ,Qd]
 have ll:Ke [.list (ls.map UP)]=O (.int ls.length):=by rw[KZ,Qd]
 obtain⟨a,ha,hal⟩:∃a:Nat,d1 % ((ls.length:Int)+1)=(a:Int)/\a<=ls.length:=by have h1:=JS d1 (show(ls.length:Int)+1≠0 by lia);have h2:=JM d1 (show 0<(ls.length:Int)+1 by lia);exact⟨(d1 % ((ls.length:Int)+1)).toNat,by lia,by lia⟩
 obtain⟨t,ht,htl⟩:∃t:Nat,d2 % ((cs.length:Int)+1)=(t:Int)/\t<=cs.length:=by have h1:=JS d2 (show(cs.length:Int)+1≠0 by lia);have h2:=JM d2 (show 0<(cs.length:Int)+1 by lia);exact⟨(d2 % ((cs.length:Int)+1)).toNat,by lia,by lia⟩
 obtain⟨k,rfl⟩:∃k:Nat,d3=(k:Int):=⟨d3.toNat,by lia⟩
 have ma:KD (.int d1) (.int ((ls.length:Int)+1))=O (.int (a:Int)):=by rw[Xq (by lia),ha]
 have mt:KD (.int d2) (.int ((cs.length:Int)+1))=O (.int (t:Int)):=by rw[Xq (by lia),ht]
 have hsz:∀ρ:Ut,(UB UJ (UB UJ (U2 (Uw (Uu (.int 6)) (Uw (Uu (.int 8)) (Uw (Uu (.int 7)) (Uw (Uu (.int 10)) (Uw (Uu (.int 9)) (Uv))))))) (UB U9 (U2 (Uw (Uu (.int 6)) (Uv))) (Uu (.int 7)))) (U2 (Uw (Uu (.int 2)) (Uv)))) ρ=.ok (.list (szH.map int)) ρ:=λρ=>rfl
 obtain⟨n,hn2,hn7⟩:∃n:Nat,(VQ [.bool (decide (d4=0))]=O (.int ((n:Int)-cs.length)))/\n<=7:=by
  by_cases h:d4=0
  .rw[Qx h];exact⟨cs.length+1,by show O (int 1)=_;rw[show((cs.length+1:Nat):Int)-cs.length=1 by lia],by lia⟩
  .rw[QC h];exact⟨cs.length,by show O (int 0)=_;rw[show((cs.length:Nat):Int)-cs.length=0 by lia],by lia⟩
 obtain⟨r,hr,rs,rfl,gr⟩:=AK (pl:=[d5,d6,d7,d8,d9,d10,d11,d12]) (n:=n) hn7 (Qv hn7 (Jo 7));have gr:=gr.wide hn7;refine Vr (ρ:=[W,C,S,AV,AV,AV,AV,AV]) AU ?_;unfold W2;refine UR (ρ1:=[W,C,S,A,L,AV,AV,AV]) (WF (UA AU) (K4 AU (Kg (UN (Qa AU) AU) (Kg (UN (Qa AU) AU) K5)))) ?_;refine UR (ρ1:=[W,C,S,A,L,E,AV,AV]) (Kf (Kb (Uz (UA AU) (Uz (UA AU) (Uz (hsz _) UD))) AU hn) (Qa AU) AU) ?_;refine UR (ρ1:=[W,C,S,A,L,E,pb (.int a),AV]) (Kf (UI (UL AU Uy AU) (UI (Kq AU ll) Uy K3) ma) (Qa AU) AU) ?_;have add:UJ (.int cs.length) (.int ((n:Int)-cs.length))=O (.int (n:Int)):=by rw[K3];exact JX (λz=>O (int z)) (by lia)
 refine UR (ρ1:=[W,C,S,A,L,E,pb (.int a),pb (UP rs)]) (Kf (Kb (Uz (YD (r:=.list ([d5,d6,d7,d8,d9,d10,d11,d12].map int)) (UA AU) (ZO Uy) Uy AU) (Uz (UI (Kq AU la) (Zj (Uz (Kl (UI (UL AU Uy AU) Uy Yg)) UD) hn2) add) UD)) AU hr) (Qa AU) AU) ?_
 have key:∀(rs:List A0)(x7:Option Sl)(ρ':Ut),Kz 7 rs->Us 7 [W,C,S,A,L,E,pb (.int a),x7]=.ok (UP rs) ρ'->Ho (Ux (sIf (UB (oIB λi j=>decide (i<j)) (UC 5 (Uu (.int 0))) (Uu (.int 2)))
   (UF (Ka (Uw (Uu (.str "list")) (Uw (Us 6) (Uw (Us 7) (Uv))))))
   (sNx))
   (Ux (sIf (UB oEq (UC 5 (Uu (.int 0))) (Uu (.int 2)))
   (UF (Ka (Uw (Uu (.str "copies")) (Uw (UB KD (UC 5 (Uu (.int 2))) (UB UJ (Kn 3) (Uu (.int 1)))) (Uw (UC 5 (Uu (.int 3))) (Uv))))))
   (sNx))
   (Ux (sIf (UB oEq (UC 5 (Uu (.int 0))) (Uu (.int 3)))
   (UF (Ka (Uw (Uu (.str "come")) (Uw (Us 7) (Uv)))))
   (sNx))
   (Ux (sIf (UB oEq (UC 5 (Uu (.int 0))) (Uu (.int 4)))
   (UF (Ka (Uw (Uu (.str "go")) (Uw (Us 6) (Uv)))))
   (sNx))
   (UF (Ka (Uw (Uu (.str "thing")) (Uw (UC 5 (Uu (.int 3))) (Uv))))))))) [W,C,S,A,L,E,O (.pub (.int a)),x7] (λo=>∃d,o=.rt d/\∃ch,d=chD ch/\Ky cs.length ls.length ch):=λrs x7 ρ' gr h7=>by
  apply UQ;refine UM (UI (UL AU Uy AU) Uy Y7) (λ_=>U5 (ZP (Uz Uy (Uz (UA AU) (Uz h7 UD))) (Qa AU)) (KN ⟨_,rfl,.lst a rs,rfl,hal,gr⟩)) λ_=>U1 (UX ?_);apply UQ;refine UM (UI (UL AU Uy AU) Uy Yg) (λ_=>U5 (ZP (Uz Uy (Uz (UI (UL AU Uy AU) (UI (Kq AU la) Uy K3) mt) (Uz (UL AU Uy AU) UD))) (Qa AU)) (KN ⟨_,rfl,.cop t k,rfl,htl,by lia⟩)) λ_=>U1 (UX ?_)
  apply UQ;refine UM (UI (UL AU Uy AU) Uy Yg) (λ_=>U5 (ZP (Uz Uy (Uz h7 UD)) (Qa AU)) (KN ⟨_,rfl,.com rs,rfl,gr⟩)) λ_=>U1 (UX ?_);apply UQ;refine UM (UI (UL AU Uy AU) Uy Yg) (λ_=>U5 (ZP (Uz Uy (Uz (UA AU) UD)) (Qa AU)) (KN ⟨_,rfl,.go a,rfl,hal⟩)) λ_=>U1 (UX ?_);exact U5 (ZP (Uz Uy (Uz (UL AU Uy AU) UD)) (Qa AU)) ⟨_,rfl,.thg k,rfl,show k<10 by lia⟩
 apply UQ;refine UM (UI (UL AU Uy AU) Uy Yg) (λ_=>?_) λ_=>U1 (UX (key rs _ _ gr (UA AU)));exact Kk (Zn (ES (by have:=gr.few;lia)) (Qa AU) AU) (UX (key (rs.map List.reverse) _ _ gr.rev (Zk AU AU)))
theorem ZU{a b:Nat}:decide ((a:Int)<(b:Int))=decide (a<b):=by
 by_cases h:a<b
 .rw[Qx h,Qx (by lia)]
 .rw[QC h,QC (by lia)]
theorem CJ{n:Nat}{rs:List A0}(g:Kz n rs)(hn:n<=7):YL [UP rs,.list []]=O (.list (rs.flatten.map int)):=by
 have h:=DP (ls:=rs.map (List.map int)) (by
  rw[←List.map_flatten,Qd];have:=Vy g
  lia)
 rw[Ja,←List.map_flatten]at h;exact h
theorem NQ{cs:A0}{ls:L3}{ch:Chg}(g:Good cs ls)(hc:Ky cs.length ls.length ch):Yx [US cs ls,chD ch]=O (.bool (Kh cs.length ls.length ch)):=by
 have c6:=g.c6;have l7:=g.l7
 let W:Option Sl:=O (.pub (US cs ls))
 let A:Option Sl:=O (.pub (.list (cs.map int)))
 let L:Option Sl:=O (.pub (.list (ls.map UP)))
 have la:Ke [.list (cs.map int)]=O (.int cs.length):=by rw[KZ,Qd]
 have ll:Ke [.list (ls.map UP)]=O (.int ls.length):=by rw[KZ,Qd]
 have e0:∀{x:Str}{w1:Option Sl}{v:Bool}{y:Str},oEq (.str x) (.str y)=O v->Km oEq 4 (Uu (.str y)) [W,w1,A,L,pb (.str x)]=.ok v [W,w1,A,L,pb (.str x)]:=λh=>Ye AU Uy h
 have tail:∀(rs:List A0)(X Y:Option Sl)(d:D),Kz 7 rs->X=O (.pub d)->oIx d (.int (-1))=O (UP rs)->Ho (UF (KS K6 (Uw (UE Ue (Zv (KH (KS YL (Uw (UC 1 (Zf (Uu (.int 1)))) (Uw (U2 (Uv)) (Uv))))) 1 (gN 5) (Uu AW) (UE Uf (Km (oIB λi j=>decide (i<j)) 5 (Kn 2))))) (Uv)))) [W,X,A,L,Y] (λo=>o=.rt (.bool (under cs.length rs))):=by
  rintro rs X Y d gr rfl hix;have hl:rs.flatten.length<=7:=Vy gr;refine U5 (Zj (Uz (Kl (Yd (ds:=rs.flatten.map int) (es:=(rs.flatten.map λt=>decide (t<(cs.length:Int))).map Uf) (ZM (Zj (Uz (UL rfl (VX Uy) hix) (Uz (Zy UD (Qa rfl)) UD)) (CJ gr (Qq 7))) rfl) ?_)) UD) S4) ?_
  .rw[Ja]
   refine(Yt int (λt=>Uf (decide (t<(cs.length:Int)))) (λρ=>∃x,ρ=[W,pb d,A,L,Ko Y,x]) rs.flatten _ [] ?_ ⟨AV,rfl⟩ (by rw[QS];lia)).trans AU;rintro t ht ρ ⟨x,rfl⟩;refine⟨_,UN (Qa AU) AU,Kl (Ye AU (Kq AU la) Y7),pb (.int t),?_⟩;cases Y with
   |none=>rfl
   |some sl=>cases sl<;>rfl
  .unfold under
   rw[List.all_map];rfl
 refine K1 (ρ:=[W,pb (chD ch),AV,AV,AV]) AU ?_;unfold W1;refine UR (ρ1:=[W,pb (chD ch),A,L,AV]) (WF (UA AU) (K4 AU (Kg (UN (Qa AU) AU) (Kg (UN (Qa AU) AU) K5)))) ?_;cases ch with
 |cop t k=>
  refine UR (Kf (UL AU Uy AU) (Qa AU) AU) ?_;apply UQ;refine UM (e0 (show _=O AW by kernel_rfl)) (λ_=>?_) λz=>by cases z
  refine U5 (Yh (Kl (UI (UL AU Uy AU) (Kq AU la) Y7)) λ_=>Kl (UI (UL AU Uy AU) Uy Y7)) (KN ?_);rw[Kh,ZU,show decide ((k:Int)<8)=decide (k<8)from ZU (b:=8)]
 |go a=>
  refine UR (Kf (UL AU Uy AU) (Qa AU) AU) ?_;apply UQ;refine UM (e0 (show _=O AX by kernel_rfl)) (λz=>by cases z) λ_=>U1 (UX ?_)
  apply UQ;refine UM (e0 (show _=O AW by kernel_rfl)) (λ_=>?_) λz=>by cases z
  refine U5 (Yh (Kl (UI (UL AU Uy AU) (Kq AU ll) Y7)) λ_=>Kl (UI (Kq AU ll) Uy Y7)) (KN ?_);rw[Kh,ZU,show decide ((1:Int)<(ls.length:Int))=decide (1<ls.length)from ZU (a:=1)]
 |thg k=>
  refine UR (Kf (UL AU Uy AU) (Qa AU) AU) ?_;apply UQ;refine UM (e0 (show _=O AX by kernel_rfl)) (λz=>by cases z) λ_=>U1 (UX ?_)
  apply UQ;refine UM (e0 (show _=O AX by kernel_rfl)) (λz=>by cases z) λ_=>U1 (UX ?_)
  apply UQ;refine UM (e0 (show _=O AW by kernel_rfl)) (λ_=>?_) λz=>by cases z
  refine U5 (Yh (Kl (UI (Kq AU la) Uy Y7)) λ_=>Kl (UI (UL AU Uy AU) Uy Y7)) (KN ?_);rw[Kh,show decide ((cs.length:Int)<6)=decide (cs.length<6)from ZU (b:=6),show decide ((k:Int)<8)=decide (k<8)from ZU (b:=8)]
 |lst a rs=>
  refine UR (Kf (UL AU Uy AU) (Qa AU) AU) ?_;apply UQ;refine UM (e0 (show _=O AX by kernel_rfl)) (λz=>by cases z) λ_=>U1 (UX ?_)
  apply UQ;refine UM (e0 (show _=O AX by kernel_rfl)) (λz=>by cases z) λ_=>U1 (UX ?_)
  apply UQ;refine UM (e0 (show _=O AX by kernel_rfl)) (λz=>by cases z) λ_=>U1 (UX ?_)
  apply UQ;refine UM (MR (SL (e0 (show _=O AW by kernel_rfl)) λ_=>UI (UL AU Uy AU) (Kq AU ll) Y7) λ_=>PY (e0 (show _=O AX by kernel_rfl))) (λhb=>U5 Uy (KN ?_)) λhb=>U1 (UX (Vt (tail rs _ _ _ hc.2 AU AU) ?_))
  .have h:ls.length<=a:=by simpa using hb
   rw[Kh,QC (show ¬a<ls.length by lia)];rfl
  .rintro _ rfl
   have h:a<ls.length:=by simpa using hb
   rw[Kh,Qx h];rfl
 |com rs=>
  refine UR (Kf (UL AU Uy AU) (Qa AU) AU) ?_;apply UQ;refine UM (e0 (show _=O AX by kernel_rfl)) (λz=>by cases z) λ_=>U1 (UX ?_)
  apply UQ;refine UM (e0 (show _=O AX by kernel_rfl)) (λz=>by cases z) λ_=>U1 (UX ?_)
  apply UQ;refine UM (e0 (show _=O AX by kernel_rfl)) (λz=>by cases z) λ_=>U1 (UX ?_)
  apply UQ;refine UM (ZK (PY (e0 (show _=O AX by kernel_rfl))) (SL (e0 (show _=O AW by kernel_rfl)) λ_=>UI (Kq AU ll) Uy Y7)) (λhb=>U5 Uy (KN ?_)) λhb=>U1 (UX (Vt (tail rs _ _ _ hc AU AU) ?_))
  .have h:(6:Int)<ls.length:=by simpa using hb
   rw[Kh,QC (show ¬ls.length<7 by lia)];rfl
  .rintro _ rfl
   have h:¬(6:Int)<ls.length:=by simpa using hb
   rw[Kh,Qx (show ls.length<7 by lia)];rfl
section
variable{W w1 x2 x3:Option Sl}{x y:Str}{s t:SM}{Q:Out->Prop}{ρ':Ut}
theorem KF(h:oEq (.str x) (.str y)=O AX)(k:Ho t [W,w1,x2,x3,pb (.str x)] Q):Ho (Ux (sIf (Km oEq 4 (Uu (.str y))) s sNx) t) [W,w1,x2,x3,pb (.str x)] Q:=
 UQ (UM (Ye AU Uy h) (λz=>by cases z) λ_=>U1 (UX k))
theorem Xo(h:oEq (.str x) (.str y)=O AW)(k:Ho s [W,w1,x2,x3,pb (.str x)] (Wy t Q)):Ho (Ux (sIf (Km oEq 4 (Uu (.str y))) s sNx) t) [W,w1,x2,x3,pb (.str x)] Q:=
 UQ (UM (Ye AU Uy h) (λ_=>k) λz=>by cases z)
end
noncomputable def beD(cs:A0)(ls:L3)(ch:Chg):D:=US (chW cs ls ch).1 (chW cs ls ch).2
theorem ER{cs:A0}{ls:L3}{ch:Chg}(g:Good cs ls)(hb:Kh cs.length ls.length ch=AW):X3 [US cs ls,chD ch]=O (beD cs ls ch):=by
 have c6:=g.c6;have l7:=g.l7
 let W:Option Sl:=O (.pub (US cs ls))
 let A:Option Sl:=O (.own (cs.map int))
 let L:Option Sl:=O (.own (ls.map UP))
 refine K1 (ρ:=[W,pb (chD ch),AV,AV,AV]) AU ?_;unfold W0;refine UR (ρ1:=[W,pb (chD ch),A,AV,AV]) (Zn (Kd (Uz (UL AU Uy AU) UD) (KQ AU)) (Qa AU) AU) ?_;refine UR (ρ1:=[W,pb (chD ch),A,L,AV]) (Zn (Kd (Uz (UL AU Uy AU) UD) (KQ AU)) (Qa AU) AU) ?_
 have fin:∀(X Y:Option Sl)(jl:A0)(ls2:L3),chW cs ls ch=(jl,ls2)->Ho (UF (Ka (Uw (Us 2) (Uw (Us 3) (Uv))))) [W,X,O (.own (jl.map int)),O (.own (ls2.map UP)),Y] (λo=>o=.rt (beD cs ls ch)):=λX Y jl ls2 e=>
  U5 (ZP (Uz (Zk AU AU) (Uz (Zk AU AU) UD)) (Qa AU)) (by unfold beD;rw[e];rfl)
 cases ch with
 |lst a rs=>
  have h:a<ls.length:=by rw[Kh,Qm]at hb;exact Qa hb.1
  refine UR (Kf (UL AU Uy AU) (Qa AU) AU) ?_;refine Xo (by kernel_rfl) (Kk (S5 (k:=(a:Int)) (d:=UP rs) (UL AU Uy AU) AU (UL AU Uy AU) AU ⟨by lia,by rw[Qd];lia⟩ AU) (UX ?_));refine KF (by kernel_rfl) (KF (by kernel_rfl) (KF (by kernel_rfl) (KF (by kernel_rfl) ?_)));have:=fin (O (.pub (chD (.lst a rs)))) (O (.pub (.str "list"))) cs (ls.set a rs) AU;rw[List.map_set]at this;exact this
 |cop t k=>
  have h:t<cs.length:=by rw[Kh,Qm]at hb;exact Qa hb.1
  refine UR (Kf (UL AU Uy AU) (Qa AU) AU) ?_;refine KF (by kernel_rfl) (Xo (by kernel_rfl) (Kk (S5 (k:=(t:Int)) (d:=.int k) (UL AU Uy AU) AU (UL AU Uy AU) AU ⟨by lia,by rw[Qd];lia⟩ AU) (UX ?_)));refine KF (by kernel_rfl) (KF (by kernel_rfl) (KF (by kernel_rfl) ?_));have:=fin (O (.pub (chD (.cop t k)))) (O (.pub (.str "copies"))) (cs.set t k) ls AU;rw[List.map_set]at this;exact this
 |com rs=>refine UR (Kf (UL AU Uy AU) (Qa AU) AU) ?_;refine KF (by kernel_rfl) (KF (by kernel_rfl) (Xo (by kernel_rfl) (Kk (YE (d:=UP rs) AU (UL AU Uy AU) AU (by rw[Qd];lia) AU) (UX ?_))));refine KF (by kernel_rfl) (KF (by kernel_rfl) ?_);have:=fin (O (.pub (chD (.com rs)))) (O (.pub (.str "come"))) cs (ls++[rs]) AU;rw[QN]at this;exact this
 |go a=>
  have h:a<ls.length:=by rw[Kh,Qm]at hb;exact Qa hb.1
  refine UR (Kf (UL AU Uy AU) (Qa AU) AU) ?_;refine KF (by kernel_rfl) (KF (by kernel_rfl) (KF (by kernel_rfl) (Xo (by kernel_rfl) (Kk (WL (Po (m:=a) AU (UL AU Uy AU) AU (by rw[Qd];lia) (Qi (by rw[Qd];exact h)))) (UX ?_)))));refine KF (by kernel_rfl) ?_;have:=fin (O (.pub (chD (.go a)))) (O (.pub (.str "go"))) cs (ls.eraseIdx a) AU;rw[QT,QN,List.map_take,List.map_drop,←QT]at this;exact this
 |thg k=>refine UR (Kf (UL AU Uy AU) (Qa AU) AU) ?_;refine KF (by kernel_rfl) (KF (by kernel_rfl) (KF (by kernel_rfl) (KF (by kernel_rfl) (Xo (by kernel_rfl) (Kk (YE (d:=.int k) AU (UL AU Uy AU) AU (by rw[Qd];lia) AU) (UX ?_))))));have:=fin (O (.pub (chD (.thg k)))) (O (.pub (.str "thing"))) (cs++[(k:Int)]) ls AU;rw[QN]at this;exact this
noncomputable def Y1(n m:Nat):Chg->Bool
 |.lst a _ | .go a=>decide (a<m)
 |.cop t _=>decide (t<n)
 |_=>AW
theorem Oa{a n:Nat}:KI (n:Int) (.int (a:Int))=decide (a<n):=by
 show(decide ((0:Int)<=(a:Int))&&decide ((a:Int)<(n:Int)))=_
 rw[Qx (show(0:Int)<=(a:Int)by lia),ZU];rfl
theorem V4{cs:A0}{ls:L3}{ch:Chg}:YA [US cs ls,chD ch]=O (.bool (Y1 cs.length ls.length ch)):=by
 let W:Option Sl:=O (.pub (US cs ls))
 let A:Option Sl:=O (.pub (.list (cs.map int)))
 let L:Option Sl:=O (.pub (.list (ls.map UP)))
 have la:Ke [.list (cs.map int)]=O (.int cs.length):=by rw[KZ,Qd]
 have ll:Ke [.list (ls.map UP)]=O (.int ls.length):=by rw[KZ,Qd]
 obtain⟨w,d,ds,hd,hz,hin⟩:∃(w:Str)(d:D)(ds:AY),chD ch=.tuple (.str w::d::ds)/\(match S3.lookup w with|some i=>int i|none=>.none)=.int ((ds.length+2:Nat):Int) /\
   ((∃a:Nat,d=.int a/\oIn (.str w) (.tuple [.str "list", .str "go"])=O AW/\Y1 cs.length ls.length ch=decide (a<ls.length)) ∨
    (oIn (.str w) (.tuple [.str "list", .str "go"])=O AX/\∃t:Nat,d=.int t/\oEq (.str w) (.str "copies")=O AW/\Y1 cs.length ls.length ch=decide (t<cs.length)) ∨
    (oIn (.str w) (.tuple [.str "list", .str "go"])=O AX/\oEq (.str w) (.str "copies")=O AX/\Y1 cs.length ls.length ch=AW)):=by
  cases ch with
  |lst a rs=>exact⟨_,_,_,rfl,by kernel_rfl,.inl ⟨a,rfl,by kernel_rfl,rfl⟩⟩
  |cop t k=>exact⟨_,_,_,rfl,by kernel_rfl,.inr (.inl ⟨by kernel_rfl,t,rfl,by kernel_rfl,rfl⟩)⟩
  |com rs=>exact⟨_,_,_,rfl,by kernel_rfl,.inr (.inr ⟨by kernel_rfl,by kernel_rfl,rfl⟩)⟩
  |go a=>exact⟨_,_,_,rfl,by kernel_rfl,.inl ⟨a,rfl,by kernel_rfl,rfl⟩⟩
  |thg k=>exact⟨_,_,_,rfl,by kernel_rfl,.inr (.inr ⟨by kernel_rfl,by kernel_rfl,rfl⟩)⟩
 rw[hd];have i0:oIx (.tuple (.str w::d::ds)) (.int 0)=O (.str w):=Z6 (j:=0) AU;have i1:oIx (.tuple (.str w::d::ds)) (.int 1)=O d:=Z6 (j:=1) AU;refine K1 (ρ:=[W,pb (.tuple (.str w::d::ds)),AV,AV]) AU ?_;unfold W9;apply UQ;refine UM (b:=AX) (ZK (Zl (UA AU) AU) (ZK (UI (Kq AU Rn) Uy (Yg.trans (by rw[QC (by rw[QK];lia)]))) (Zl (UL AU Uy i0) AU))) (λz=>by cases z) λ_=>U1 (UX ?_)
 apply UQ;refine UM (b:=AX) (UI (GF (Uz (UL AU Uy i0) UD) hz) (Kq AU Rn) (TX.trans (by rw[Qx (by rw[QK,QK])];rfl))) (λz=>by cases z) λ_=>U1 (UX ?_)
 refine UR (ρ1:=[W,pb (.tuple (.str w::d::ds)),A,L]) (WF (UA AU) (K4 AU (Kg (UN (Qa AU) AU) (Kg (UN (Qa AU) AU) K5)))) ?_;have tup:∀ρ:Ut,Ka (Uw (Uu (.str "list")) (Uw (Uu (.str "go")) (Uv))) ρ=.ok (.tuple [.str "list", .str "go"]) ρ:=λρ=>ZP (Uz Uy (Uz Uy UD)) (Qa AU)
 rcases hin with ⟨a,rfl,h1,h2⟩|⟨h1,t,rfl,h2,h3⟩|⟨h1,h2,h3⟩
 .apply UQ
  refine UM (b:=AW) (UI (UL AU Uy i0) (tup _) h1) (λ_=>U5 (Kb (Uz (UL AU Uy i1) (Uz (Kq AU ll) UD)) AU (T3 _ _)) (KN ?_)) λz=>by cases z
  rw[h2,Oa]
 .apply UQ
  refine UM (b:=AX) (UI (UL AU Uy i0) (tup _) h1) (λz=>by cases z) λ_=>U1 (UX ?_)
  apply UQ;refine UM (b:=AW) (UI (UL AU Uy i0) Uy h2) (λ_=>U5 (Kb (Uz (UL AU Uy i1) (Uz (Kq AU la) UD)) AU (T3 _ _)) (KN ?_)) λz=>by cases z
  rw[h3,Oa]
 .apply UQ
  refine UM (b:=AX) (UI (UL AU Uy i0) (tup _) h1) (λz=>by cases z) λ_=>U1 (UX ?_)
  apply UQ;refine UM (b:=AX) (UI (UL AU Uy i0) Uy h2) (λz=>by cases z) λ_=>U1 (UX ?_)
  refine U5 Uy ?_;rw[h3]
section
variable{W Cg A L w:Option Sl}{d:D}{xs:AY}{a:Nat}{y:D}
theorem VM:Yk (.list xs) AV (O (a:Int))=O (.list (xs.take a)):=by rw[Rm,Fo]
theorem V7:Yk (.list xs) (O ((a:Int)+1)) AV=O (.list (xs.drop (a+1))):=by rw[Rm,show((a:Int)+1)=((a+1:Nat):Int)by lia,Co]
theorem P9(h:xs.length<=1000)(ha:a<xs.length):∃z,UJ (.list (xs.take a)) (.list [y])=O z/\UJ z (.list (xs.drop (a+1)))=O (.list (xs.set a y)):=by
 have l1:(xs.take a).length<=1000:=Qv (List.length_take_le' _ _) h;have l2:(xs.drop (a+1)).length<=1000:=by rw[JC];lia
 refine⟨_,Xw (by rw[QF];lia),?_⟩;rw[Xw (by rw[Qk,QF];lia),List.set_eq_take_append_cons_drop,Qn ha,Jr];rfl
theorem P8(h:xs.length<=1000):UJ (.list (xs.take a)) (.list (xs.drop (a+1)))=O (.list (xs.eraseIdx a)):=by
 have l1:(xs.take a).length<=1000:=Qv (List.length_take_le' _ _) h;have l2:(xs.drop (a+1)).length<=1000:=by rw[JC];lia
 rw[Xw (by lia),QT]
end
theorem Rw{cs:A0}{ls:L3}{ch:Chg}(g:Good cs ls)(hf:Y1 cs.length ls.length ch=AW):Yz [US cs ls,chD ch]=O (beD cs ls ch):=by
 have c6:=g.c6;have l7:=g.l7
 let W:Option Sl:=O (.pub (US cs ls))
 let A:Option Sl:=O (.pub (.list (cs.map int)))
 let L:Option Sl:=O (.pub (.list (ls.map UP)))
 have lA:(cs.map int).length<=1000:=by rw[Qd];lia
 have lL:(ls.map UP).length<=1000:=by rw[Qd];lia
 refine K1 (ρ:=[W,pb (chD ch),AV,AV,AV]) AU ?_;unfold W8;refine UR (ρ1:=[W,pb (chD ch),A,L,AV]) (WF (UA AU) (K4 AU (Kg (UN (Qa AU) AU) (Kg (UN (Qa AU) AU) K5)))) ?_;cases ch with
 |lst a rs=>obtain⟨z,z1,z2⟩:=P9 (y:=UP rs) lL (a:=a) (by rw[Qd];exact Qa hf);refine UR (Kf (UL AU Uy AU) (Qa AU) AU) ?_;refine Xo (by kernel_rfl) (U5 (ZP (Uz (UA AU) (Uz (UI (UI (YD (UA AU) Uy (ZO (UL AU Uy AU)) VM) (Zy (Uz (UL AU Uy AU) UD) (Qa AU)) z1) (YD (UA AU) (ZO (UI (UL AU Uy AU) Uy K3)) Uy V7) z2) UD)) (Qa AU)) (KN ?_));rw[←List.map_set];rfl
 |cop t k=>obtain⟨z,z1,z2⟩:=P9 (y:=.int k) lA (a:=t) (by rw[Qd];exact Qa hf);refine UR (Kf (UL AU Uy AU) (Qa AU) AU) ?_;refine KF (by kernel_rfl) (Xo (by kernel_rfl) (U5 (ZP (Uz (UI (UI (YD (UA AU) Uy (ZO (UL AU Uy AU)) VM) (Zy (Uz (UL AU Uy AU) UD) (Qa AU)) z1) (YD (UA AU) (ZO (UI (UL AU Uy AU) Uy K3)) Uy V7) z2) (Uz (UA AU) UD)) (Qa AU)) (KN ?_)));rw[←List.map_set];rfl
 |com rs=>refine UR (Kf (UL AU Uy AU) (Qa AU) AU) ?_;refine KF (by kernel_rfl) (KF (by kernel_rfl) (Xo (by kernel_rfl) (U5 (ZP (Uz (UA AU) (Uz (UI (UA AU) (Zy (Uz (UL AU Uy AU) UD) (Qa AU)) (Xw (by rw[QF];lia))) UD)) (Qa AU)) (KN ?_))));show _=Out.rt (US cs (ls++[rs]));unfold US;rw[QN];rfl
 |go a=>refine UR (Kf (UL AU Uy AU) (Qa AU) AU) ?_;refine KF (by kernel_rfl) (KF (by kernel_rfl) (KF (by kernel_rfl) (Xo (by kernel_rfl) (U5 (ZP (Uz (UA AU) (Uz (UI (YD (UA AU) Uy (ZO (UL AU Uy AU)) VM) (YD (UA AU) (ZO (UI (UL AU Uy AU) Uy K3)) Uy V7) (P8 lL)) UD)) (Qa AU)) (KN ?_)))));rw[QT,←List.map_take,←List.map_drop,←QN,←QT];rfl
 |thg k=>refine UR (Kf (UL AU Uy AU) (Qa AU) AU) ?_;refine KF (by kernel_rfl) (KF (by kernel_rfl) (KF (by kernel_rfl) (KF (by kernel_rfl) (U5 (ZP (Uz (UI (UA AU) (Zy (Uz (UL AU Uy AU) UD) (Qa AU)) (Xw (by rw[QF];lia))) (Uz (UA AU) UD)) (Qa AU)) ?_))));show _=Out.rt (US (cs++[(k:Int)]) ls);unfold US;rw[QN];rfl
theorem Mm{n:Nat}{rs:List A0}(g:Kz 7 rs)(h:under n rs=AW):Kz n rs:=
 ⟨g.few,g.some,λr hr t ht=>⟨(g.there r hr t ht).1,by have:=QR.mp h t (List.mem_flatten.mpr ⟨r,hr,ht⟩);exact Qa this⟩,g.once⟩
theorem Ml{n:Nat}{rs:List A0}(g:Kz n rs):under n rs=AW:=QR.mpr λt ht=>by obtain⟨r,hr,htr⟩:=JV.mp ht;exact Qx (g.there r hr t htr).2
section
variable{cs:A0}{ls:L3}{ch:Chg}
theorem SV(g:Good cs ls)(hc:Ky cs.length ls.length ch)(hb:Kh cs.length ls.length ch=AW):Good (chW cs ls ch).1 (chW cs ls ch).2:=by
 have c1:=g.c1;have c6:=g.c6;have l1:=g.l1;have l7:=g.l7;cases ch with
 |lst a rs=>
  rw[Kh,Qm]at hb;refine⟨c1,c6,g.c7,by show 1<=(ls.set a rs).length;rw[QY];exact l1,by show(ls.set a rs).length<=7;rw[QY];exact l7,λq hq=>?_⟩;rcases List.mem_or_eq_of_mem_set hq with hq|rfl
  .exact g.rk q hq
  .exact Mm hc.2 hb.2
 |cop t k=>
  rw[Kh,Qm]at hb;have h8:=Qa hb.2;refine⟨by show 1<=(cs.set t k).length;rw[QY];exact c1,by show(cs.set t k).length<=6;rw[QY];exact c6,λc qL=>?_,l1,l7,λq hq=>by show Kz (cs.set t k).length q;rw[QY];exact g.rk q hq⟩;rcases List.mem_or_eq_of_mem_set qL with qL|rfl
  .exact g.c7 c qL
  .exact⟨by lia,by lia⟩
 |com rs=>
  rw[Kh,Qm]at hb;have h7:=Qa hb.1;refine⟨c1,c6,g.c7,by show 1<=(ls++[rs]).length;rw[Qk];lia,by show(ls++[rs]).length<=7;rw[Qk,QF];lia,λq hq=>?_⟩;rcases Jd.mp hq with hq|hq
  .exact g.rk q hq
  .rw[QX.mp hq];exact Mm hc hb.2
 |go a=>rw[Kh,Qm]at hb;have h1:=Qa hb.1;have h2:=Qa hb.2;have hl:(ls.eraseIdx a).length=ls.length-1:=List.length_eraseIdx_of_lt h1;exact⟨c1,c6,g.c7,by show 1<=(ls.eraseIdx a).length;lia,by show(ls.eraseIdx a).length<=7;lia,λq hq=>g.rk q (List.mem_of_mem_eraseIdx hq)⟩
 |thg k=>
  rw[Kh,Qm]at hb;have h6:=Qa hb.1;have h8:=Qa hb.2;have hl:(cs++[(k:Int)]).length=cs.length+1:=by rw[Qk,QF]
  refine⟨by show 1<=(cs++[(k:Int)]).length;lia,by show(cs++[(k:Int)]).length<=6;lia,λc qL=>?_,l1,l7,λq hq=>by show Kz (cs++[(k:Int)]).length q;rw[hl];exact(g.rk q hq).wide (Jo _)⟩;rcases Jd.mp qL with qL|qL
  .exact g.c7 c qL
  .rw[QX.mp qL];exact⟨by lia,by lia⟩
theorem Fl(hf:Y1 cs.length ls.length ch=AW)(h:Good (chW cs ls ch).1 (chW cs ls ch).2):Kh cs.length ls.length ch=AW:=by
 have c6:=h.c6;have l1:=h.l1;have l7:=h.l7;cases ch with
 |lst a rs=>have ha:a<ls.length:=Qa hf;rw[Kh,Qx ha,JW];exact Ml (h.rk rs (List.mem_set ha rs))
 |cop t k=>have ha:t<cs.length:=Qa hf;have:=h.c7 k (List.mem_set ha (k:Int));rw[Kh,Qx ha,Qx (show k<8 by lia)];rfl
 |com rs=>have hl:(ls++[rs]).length<=7:=l7;rw[Qk,QF]at hl;rw[Kh,Qx (show ls.length<7 by lia),JW];exact Ml (h.rk rs (QP _ Qp))
 |go a=>have ha:a<ls.length:=Qa hf;have hl:1<=(ls.eraseIdx a).length:=l1;rw[List.length_eraseIdx_of_lt ha]at hl;rw[Kh,Qx ha,Qx (show 1<ls.length by lia)];rfl
 |thg k=>have hl:(cs++[(k:Int)]).length<=6:=c6;rw[Qk,QF]at hl;have:=h.c7 k (QP _ Qp);rw[Kh,Qx (show cs.length<6 by lia),Qx (show k<8 by lia)];rfl
theorem Ng(hb:Kh cs.length ls.length ch=AW):Y1 cs.length ls.length ch=AW:=by cases ch<;>first|rfl|(rw[Kh,Qm]at hb;exact hb.1)
theorem EQ{cs jl:A0}{ls ls2:L3}(h:US cs ls=US jl ls2):cs=jl/\ls=ls2:=by
 have hi:∀{a b:A0},a.map int=b.map int->a=b:=λ{a b} e=>List.map_inj_right (λx y h=>by injection h) |>.mp e
 have hr:∀{a b:A0},UW a=UW b->a=b:=λ{a b} e=>by unfold UW at e;injection e with e;exact hi e
 unfold US at h;injection h with h;injection h with h1 h2;injection h2 with h2 _;injection h1 with h1;injection h2 with h2
 refine⟨hi h1,?_⟩;refine(List.map_inj_right λx y h=>?_).mp h2;unfold UP at h;injection h with h
 exact(List.map_inj_right λx y h=>hr h).mp h
theorem Sx(g:Good cs ls)(hc:Ky cs.length ls.length ch):XV (beD cs ls ch):=λc L e _ x hx rs e2 xs hxs=>by
 have eL:L=(chW cs ls ch).2.map UP:=by unfold beD US at e;cases e;rfl
 subst eL;obtain⟨q,hq,rfl⟩:=QA.mp hx;have er:rs=q.map UW:=by unfold UP at e2;cases e2;rfl
 subst er;obtain⟨r,hr,e3⟩:=QA.mp hxs;have ex:xs=r.map int:=by unfold UW at e3;cases e3;rfl
 subst ex;rw[Qd];have c6:=g.c6
 have gr:Kz 7 q:=by
  have old:∀q∈ls,Kz 7 q:=λq h=>(g.rk q h).wide (by lia)
  cases ch with
  |lst a rs=>
   rcases List.mem_or_eq_of_mem_set hq with hq|rfl
   .exact old q hq
   .exact hc.2
  |cop t k=>exact old q hq
  |com rs=>
   rcases Jd.mp hq with hq|hq
   .exact old q hq
   .rw[QX.mp hq];exact hc
  |go a=>exact old q (List.mem_of_mem_eraseIdx hq)
  |thg k=>exact old q hq
 have:=OW gr hr
 lia
theorem Pk(g:Good cs ls)(hc:Ky cs.length ls.length ch)(hb:Kh cs.length ls.length ch=AX)(hf:Y1 cs.length ls.length ch=AW):∃p n,K7 (beD cs ls ch)=O (p,n):=by
 cases e:K7 (beD cs ls ch)with
 |some x=>exact⟨x.1,x.2,rfl⟩
 |none=>obtain⟨jl,ls2,e2,g2⟩:=Fn (Sx g hc) e;obtain⟨h1,h2⟩:=EQ e2;have:=Fl (ch:=ch) (cs:=cs) (ls:=ls) hf (by rw[h1,h2];exact g2);rw[hb]at this;cases this
end
theorem EO{x nm:Str}{s:SM}{ρ ρ1:Ut}(h1:s ρ=.nx ρ1):Wf x nm s ρ=.nx ρ1:=by unfold Wf;rw[h1]
theorem EN{x nm:Str}{s:SM}{ρ ρ1:Ut}{d:D}(h1:s ρ=.ex ρ1 d)(h2:Y5 x d=AW):Wf x nm s ρ=.ex ρ1 (exD nm []):=by unfold Wf;rw[h1];dsimp only;rw[if_pos h2]
theorem Fk{f:M D}{ρ ρ1:Ut}{d:D}(h:f ρ=.ok d ρ1):UF f ρ=.rt d:=by unfold UF sB;rw[h]
theorem Fj{x:Str}{s t:SM}{i:Nat}{ρ ρ1:Ut}{d r:D}(h1:s ρ=.ex ρ1 d)(h2:Y5 x d=AW)(h3:i<ρ1.length)(h4:t (ρ1.set i (O (.pub d)))=.rt r):Zc i x s t ρ=.rt r:=by unfold Zc;rw[h1];dsimp only;rw[if_pos ⟨h2,h3⟩,h4]
theorem Se{t:SM}{Q:Out->Prop}(h:Q .bad):Wy t Q .bad:=⟨h⟩
theorem OU{t:SM}{Q:Out->Prop}{ds:AY}(h:Q (.ro ds)):Wy t Q (.ro ds):=⟨h⟩
theorem Fi{N:List Str}{g:SM}{q:M AY}{ds es:AY}{ρ:Ut}(h0:KU N ds=ρ)(h:g ρ=.ro es):Zd N g q ds=O es:=by subst h0;unfold Zd;rw[h]
theorem EM{x:Str}{s:SM}{ρ ρ1:Ut}{d:D}(h1:s ρ=.ex ρ1 d):Ww x s Y9 ρ=.bad:=by
 unfold Ww;rw[h1];dsimp only
 split<;>rfl
theorem Fh{N:List Str}{g:SM}{ds:AY}{ρ:Ut}(h0:KU N ds=ρ)(h:Ho g ρ λo=>o=.bad):UY N g ds=AV:=by subst h0;unfold UY;rw[h.out]
theorem OT{N:List Str}{g:SM}{q:M AY}{ds:AY}{ρ:Ut}(h0:KU N ds=ρ)(h:Ho g ρ λo=>o=.bad):Zd N g q ds=AV:=by subst h0;unfold Zd;rw[h.out]
theorem Fg{n:Nat}{F:AY->A4}{g:M AY}{xs:AY}{ρ ρ1:Ut}(h1:g ρ=.ok xs ρ1)(h2:xs.length=n)(h3:F xs=AV):UK n F g ρ=.bad:=by unfold UK UH;rw[h1];dsimp only;rw[if_pos h2,h3];rfl
theorem OS{n:Nat}{F:AY->Option AY}{g:M AY}{xs:AY}{ρ ρ1:Ut}(h1:g ρ=.ok xs ρ1)(h2:xs.length=n)(h3:F xs=AV):Wg n F g ρ=.bad:=by unfold Wg UH;rw[h1];dsimp only;rw[if_pos h2,h3];rfl
theorem EL{f:M D}{ρ:Ut}(h:f ρ=.bad):YN f ρ=.bad:=by unfold YN sB;rw[h]
theorem OR{i:Nat}{f:M AY}{ρ:Ut}(h:f ρ=.bad):Kw i f ρ=.bad:=by unfold Kw sB;rw[h]
theorem Ff{i:Nat}{x:Str}{s t:SM}{ρ:Ut}(h:s ρ=.bad):Zc i x s t ρ=.bad:=by unfold Zc;rw[h]
section
variable{cs:A0}{ls:L3}{ch:Chg}{us:LO}
theorem Nf(g:Good cs ls):YB [US cs ls]=O (US cs ls):=by have l7:=g.l7;refine K1 (ρ:=[pb (US cs ls),AV,AV]) AU ?_;unfold Va;refine UR (ρ1:=[pb (US cs ls),pb (.list (cs.map int)),pb (.list (ls.map UP))]) (WF (UA AU) (K4 AU (Kg (UN (Qa AU) AU) (Kg (UN (Qa AU) AU) K5)))) ?_;refine U5 (ZP (Uz (Kl (WI AU AU)) (Uz (Kl (Yd (ds:=ls.map UP) (es:=ls.map UP) (ZM (UA AU) AU) ?_)) UD)) (Qa AU)) AU;refine(Yt UP UP (λρ=>∃x,ρ=[pb (US cs ls),pb (.list (cs.map int)),pb (.list (ls.map UP)),x]) ls _ [] ?_ ⟨AV,rfl⟩ (by rw[QS];lia)).trans AU;rintro rs hrs ρ ⟨x,rfl⟩;have hf:=(g.rk rs hrs).few;refine⟨_,UN (Qa AU) AU,Kl (x:=rs.map UW) (Yd (ds:=rs.map UW) (ZM (UA AU) AU) ?_),_,rfl⟩;refine(Yt UW UW (λρ=>∃x,ρ=[pb (US cs ls),pb (.list (cs.map int)),pb (.list (ls.map UP)),pb (UP rs),x]) rs _ [] ?_ ⟨AV,rfl⟩ (by rw[QS];lia)).trans AU;rintro r hr ρ ⟨x,rfl⟩;exact⟨_,UN (Qa AU) AU,Kl (x:=r.map int) (WI AU AU),_,rfl⟩
noncomputable def chX(b:Bool)(d:D):XR:=if b=AW then .val d else .exc (exD "NoChange" [])
theorem EK(g:Good cs ls)(hc:Ky cs.length ls.length ch):Sk [US cs ls,chD ch]=O (chX (Kh cs.length ls.length ch) (beD cs ls ch)):=by
 let W:Option Sl:=O (.pub (US cs ls))
 let C:Option Sl:=O (.pub (chD ch))
 refine VH (ρ:=[W,C,AV]) AU ?_;unfold Ry;refine UR (Wv (Yc (Uz (UA AU) UD) AU (Sy g)) AU) ?_;apply UQ;cases hf:Y1 cs.length ls.length ch with
 |false=>
  have hb:Kh cs.length ls.length ch=AX:=by
   cases e:Kh cs.length ls.length ch with
   |false=>rfl
   |true=>rw[Ng e]at hf;cases hf
  rw[hb];exact UM (b:=AW) (Zh (t:=AX) (ZB (Kb (Uz (UA AU) (Uz (UA AU) UD)) AU (V4.trans (by rw[hf]))))) (λ_=>Kk (Xa (Uz Uy UD) AU) (Yi ⟨rfl,rfl⟩)) λz=>by cases z
 |true=>
  refine UM (b:=AX) (Zh (t:=AW) (ZB (Kb (Uz (UA AU) (Uz (UA AU) UD)) AU (V4.trans (by rw[hf]))))) (λz=>by cases z) λ_=>U1 (UX ?_)
  refine UR (ρ1:=[W,C,pb (beD cs ls ch)]) (Kf (Kb (Uz (UA AU) (Uz (UA AU) UD)) AU (Rw g hf)) (Qa AU) AU) ?_;have hx:=Ra (Sx g hc);cases hb:Kh cs.length ls.length ch with
  |true=>have gb:=SV g hc hb;refine UR (EO (Wv (Yc (Uz (UA AU) UD) AU (Sy gb)) AU)) ?_;exact U5 (Kb (Uz (UA AU) UD) AU (Nf gb)) AU
  |false=>obtain⟨p,n,hd⟩:=Pk g hc hb hf;rw[hd]at hx;apply UQ;exact Kk (EN (Vi (Yc (Uz (UA AU) UD) AU hx)) AU) (Yi ⟨rfl,rfl⟩)
theorem Nd(g:Good cs ls)(hc:Ky cs.length ls.length ch):X9 [US cs ls,chD ch]=if Kh cs.length ls.length ch=AW then O (beD cs ls ch)else AV:=by
 let W:Option Sl:=O (.pub (US cs ls))
 let C:Option Sl:=O (.pub (chD ch))
 cases hb:Kh cs.length ls.length ch with
 |true=>
  rw[Qn AU];have gb:=SV g hc hb;have hf:=Ng hb;refine K1 (ρ:=[W,C,AV]) AU ?_;unfold XH;refine UR (WL (Kb (Uz (UA AU) UD) AU (No g))) ?_;apply UQ;refine UM (b:=AX) (Zh (t:=AW) (ZB (Kb (Uz (UA AU) (Uz (UA AU) UD)) AU (V4.trans (by rw[hf]))))) (λz=>by cases z) λ_=>U1 (UX ?_)
  refine UR (ρ1:=[W,C,pb (beD cs ls ch)]) (Kf (Kb (Uz (UA AU) (Uz (UA AU) UD)) AU (Rw g hf)) (Qa AU) AU) ?_;refine UR (D8 (Wv (Yc (Uz (UA AU) UD) AU (Sy gb)) AU)) ?_;exact U5 (Kb (Uz (UA AU) UD) AU (Nf gb)) AU
 |false=>
  rw[QD (by decide)];refine Fh (ρ:=[W,C,AV]) AU ?_;unfold XH;refine UR (WL (Kb (Uz (UA AU) UD) AU (No g))) ?_;apply UQ;cases hf:Y1 cs.length ls.length ch with
  |false=>exact UM (b:=AW) (Zh (t:=AX) (ZB (Kb (Uz (UA AU) (Uz (UA AU) UD)) AU (V4.trans (by rw[hf]))))) (λ_=>Kk AU (Se AU)) λz=>by cases z
  |true=>
   refine UM (b:=AX) (Zh (t:=AW) (ZB (Kb (Uz (UA AU) (Uz (UA AU) UD)) AU (V4.trans (by rw[hf]))))) (λz=>by cases z) λ_=>U1 (UX ?_)
   refine UR (ρ1:=[W,C,pb (beD cs ls ch)]) (Kf (Kb (Uz (UA AU) (Uz (UA AU) UD)) AU (Rw g hf)) (Qa AU) AU) ?_;have hx:=Ra (Sx g hc);obtain⟨p,n,hd⟩:=Pk g hc hb hf;rw[hd]at hx;apply UQ;exact Kk (EM (Vi (Yc (Uz (UA AU) UD) AU hx))) (Se AU)
end
noncomputable def usW(us:LO):Chg->LO
 |.com _=>us++[AV]
 |.go a=>us.eraseIdx a
 |_=>us
section
variable{cs:A0}{ls:L3}{ch:Chg}{us:LO}
theorem SU{a:Nat}:(us.map U0).eraseIdx a=(us.eraseIdx a).map U0:=by rw[QT,←List.map_take,←List.map_drop,←QN,←QT]
theorem SS(ch:Chg):∃(w:Str),oIx (chD ch) (.int 0)=O (.str w) /\
  ((∃rs,ch=.com rs/\oEq (.str w) (.str "come")=O AW) ∨
   (∃a,ch=.go a/\oEq (.str w) (.str "come")=O AX/\oEq (.str w) (.str "go")=O AW/\oIx (chD ch) (.int 1)=O (.int (a:Nat))) ∨
   ((∀us,usW us ch=us)/\oEq (.str w) (.str "come")=O AX/\oEq (.str w) (.str "go")=O AX)):=by
 cases ch with
 |lst a rs=>exact⟨_,rfl,.inr (.inr ⟨λ_=>rfl,by kernel_rfl,by kernel_rfl⟩)⟩
 |cop t k=>exact⟨_,rfl,.inr (.inr ⟨λ_=>rfl,by kernel_rfl,by kernel_rfl⟩)⟩
 |com rs=>exact⟨_,rfl,.inl ⟨rs,rfl,by kernel_rfl⟩⟩
 |go a=>exact⟨_,rfl,.inr (.inl ⟨a,rfl,by kernel_rfl,by kernel_rfl,rfl⟩)⟩
 |thg k=>exact⟨_,rfl,.inr (.inr ⟨λ_=>rfl,by kernel_rfl,by kernel_rfl⟩)⟩
theorem EJ(g:Good cs ls)(hc:Ky cs.length ls.length ch)(hu:us.length=ls.length):Sj [US cs ls,chD ch,Kj us]=O (chX (Kh cs.length ls.length ch) (Kj (usW us ch))):=by
 have l7:=g.l7
 let W:Option Sl:=O (.pub (US cs ls))
 let C:Option Sl:=O (.pub (chD ch))
 let U:Option Sl:=O (.pub (Kj us))
 have lu:(us.map U0).length<=1000:=by rw[Qd];lia
 refine VH (ρ:=[W,C,U]) AU ?_;unfold Rx;have hx:=EK g hc;cases hb:Kh cs.length ls.length ch with
 |false=>rw[hb]at hx;apply UQ;exact Kk (Vi (Yc (Uz (UA AU) (Uz (UA AU) UD)) AU hx)) (Yi ⟨rfl,rfl⟩)
 |true=>
  rw[hb]at hx;refine UR (Wv (Yc (Uz (UA AU) (Uz (UA AU) UD)) AU hx) AU) ?_;obtain⟨w,i0,h|h|h⟩:=SS ch
  .obtain⟨rs,rfl,h1⟩:=h
   apply UQ;refine UM (b:=AW) (UI (UL AU Uy i0) Uy h1) (λ_=>U5 (UI (UA AU) (Zy (Uz Uy UD) (Qa AU)) (Xw (by rw[QF];lia))) (KN ?_)) λz=>by cases z
   show OutX (.val (Kj (us++[AV]))) _;unfold Kj;rw[QN];rfl
  .obtain⟨a,rfl,h1,h2,i1⟩:=h
   apply UQ;refine UM (b:=AX) (UI (UL AU Uy i0) Uy h1) (λz=>by cases z) λ_=>U1 (UX ?_)
   apply UQ;refine UM (b:=AW) (UI (UL AU Uy i0) Uy h2) (λ_=>U5 (UI (YD (UA AU) Uy (ZO (UL AU Uy i1)) VM) (YD (UA AU) (ZO (UI (UL AU Uy i1) Uy K3)) Uy V7) (P8 lu)) (KN ?_)) λz=>by cases z
   rw[SU];rfl
  .obtain⟨h0,h1,h2⟩:=h
   apply UQ;refine UM (b:=AX) (UI (UL AU Uy i0) Uy h1) (λz=>by cases z) λ_=>U1 (UX ?_)
   apply UQ;refine UM (b:=AX) (UI (UL AU Uy i0) Uy h2) (λz=>by cases z) λ_=>U1 (UX ?_)
   rw[h0];exact U5 (Kl (WI AU AU)) AU
theorem EI(g:Good cs ls)(hc:Ky cs.length ls.length ch)(hu:us.length=ls.length)(hb:Kh cs.length ls.length ch=AW):Td [US cs ls,chD ch,Kj us]=O ((usW us ch).map U0):=by
 have l7:=g.l7
 let W:Option Sl:=O (.pub (US cs ls))
 let C:Option Sl:=O (.pub (chD ch))
 let U:Option Sl:=O (.pub (Kj us))
 have lu:(us.map U0).length<=1000:=by rw[Qd];lia
 have hx:=Nd g hc;rw[hb,Qn AU]at hx
 have e:Ho Te [W,C,U] (λo=>o=.ro ((usW us ch).map U0)∨(o=.nx [W,C,U]/\usW us ch=us)):=by
  unfold Te;refine UR (WL (Kb (Uz (UA AU) (Uz (UA AU) UD)) AU hx)) ?_;obtain⟨w,i0,h|h|h⟩:=SS ch
  .obtain⟨rs,rfl,h1⟩:=h
   apply UQ;refine UM (b:=AW) (UI (UL AU Uy i0) Uy h1) (λ_=>PN (Pq (UA AU) (Zy (Uz Uy UD) (Qa AU)) (by rw[QF];lia)) (OU (.inl ?_))) λz=>by cases z
   show _=Out.ro ((us++[AV]).map U0);rw[QN];rfl
  .obtain⟨a,rfl,h1,h2,i1⟩:=h
   apply UQ;refine UM (b:=AX) (UI (UL AU Uy i0) Uy h1) (λz=>by cases z) λ_=>U1 (UX ?_)
   apply UQ;refine UM (b:=AW) (UI (UL AU Uy i0) Uy h2) (λ_=>PN (Pq (YD (UA AU) Uy (ZO (UL AU Uy i1)) VM) (YD (UA AU) (ZO (UI (UL AU Uy i1) Uy K3)) Uy V7) (by rw[JJ,JC];lia)) (OU (.inl ?_))) λz=>by cases z
   rw[←QT,SU];rfl
  .obtain⟨h0,h1,h2⟩:=h
   apply UQ;refine UM (b:=AX) (UI (UL AU Uy i0) Uy h1) (λz=>by cases z) λ_=>U1 (UX ?_)
   apply UQ;refine UM (b:=AX) (UI (UL AU Uy i0) Uy h2) (λz=>by cases z) λ_=>U1 (UX ?_)
   exact U1 (.inr ⟨rfl,h0 us⟩)
 rcases e.out with e|⟨e,e2⟩
 .exact Fi AU e
 .rw[e2]
  exact RW AU e (WI AU AU)
theorem Ah(g:Good cs ls)(hc:Ky cs.length ls.length ch)(hb:Kh cs.length ls.length ch=AX):Td [US cs ls,chD ch,Kj us]=AV:=by have hx:=Nd g hc;rw[hb,QD (by decide)]at hx;refine OT (ρ:=[pb (US cs ls),pb (chD ch),pb (Kj us)]) AU ?_;unfold Te;apply UQ;exact Kk (EL (Fg (Uz (UA AU) (Uz (UA AU) UD)) AU hx)) (Se AU)
theorem Le(g:Good cs ls)(hc:Ky cs.length ls.length ch)(hu:us.length=ls.length):YY [US cs ls,chD ch,Kj us]=O (if Kh cs.length ls.length ch=AW then Kj (usW us ch)else .int 1):=by
 let W:Option Sl:=O (.pub (US cs ls))
 let C:Option Sl:=O (.pub (chD ch))
 let U:Option Sl:=O (.pub (Kj us))
 have hx:=EJ g hc hu;refine K1 (ρ:=[W,C,U,AV,AV]) AU ?_;unfold WX;refine UR (ρ1:=[W,C,U,O (.pub .none),AV]) (Kf Uy (Qa AU) AU) ?_;cases hb:Kh cs.length ls.length ch with
 |true=>rw[hb]at hx;refine UR (ρ1:=[W,C,U,pb (Kj (usW us ch)),AV]) (PU (Wv (Yc (Uz (UA AU) (Uz (UA AU) (Uz (UA AU) UD))) AU hx) AU)) ?_;exact U5 (UA AU) AU
 |false=>rw[hb]at hx;apply UQ;refine Kk (Fj (Vi (Yc (Uz (UA AU) (Uz (UA AU) (Uz (UA AU) UD))) AU hx)) AU (Qa AU) (Fk (Zj (Uz (Yh (t:=AW) (Kd (UA AU) (KQ (by kernel_rfl))) λ_=>Ot (t:=AX) (Kd (UA AU) (KQ (by kernel_rfl)))) UD) AU))) (KN AU)
theorem L5(g:Good cs ls)(hc:Ky cs.length ls.length ch)(hu:us.length=ls.length)(hb:Kh cs.length ls.length ch=AW):Th [US cs ls,chD ch,Kj us]=O ((usW us ch).map U0):=by
 let W:Option Sl:=O (.pub (US cs ls))
 let C:Option Sl:=O (.pub (chD ch))
 let U:Option Sl:=O (.pub (Kj us))
 have e:Ho Ti [W,C,U,AV,AV] (λo=>o=.nx [W,C,U,O (.own ((usW us ch).map U0)),AV]):=by unfold Ti;refine UR (ρ1:=[W,C,U,O (.pub .none),AV]) (Kf Uy (Qa AU) AU) ?_;exact UR (PU (Zn (PP (Uz (UA AU) (Uz (UA AU) (Uz (UA AU) UD))) AU (EI g hc hu hb)) (Qa AU) AU)) (U1 AU)
 exact RW AU e.out (Lv AU)
theorem BP(g:Good cs ls)(hc:Ky cs.length ls.length ch)(hb:Kh cs.length ls.length ch=AX):Th [US cs ls,chD ch,Kj us]=AV:=by refine OT (ρ:=[pb (US cs ls),pb (chD ch),pb (Kj us),AV,AV]) AU ?_;unfold Ti;refine UR (Kf Uy (Qa AU) AU) ?_;apply UQ;exact Kk (Ff (OR (OS (Uz (UA AU) (Uz (UA AU) (Uz (UA AU) UD))) AU (Ah g hc hb)))) (Se AU)
theorem B7(h:∀a,ch=.go a->a<us.length)(hl:us.length<=7):X2 [chD ch,Kj us]=O (Kj (usW us ch)):=by
 let C:Option Sl:=O (.pub (chD ch))
 let U:Option Sl:=O (.pub (Kj us))
 have lu:(us.map U0).length<=7:=by rw[Qd];exact hl
 refine K1 (ρ:=[C,U,AV]) AU ?_;unfold WZ;refine UR (ρ1:=[C,U,O (.own (us.map U0))]) (Zn (WI AU AU) (Qa AU) AU) ?_;obtain⟨w,i0,q|q|q⟩:=SS ch
 .obtain⟨rs,rfl,h1⟩:=q
  apply UQ;refine UM (b:=AW) (UI (UL AU Uy i0) Uy h1) (λ_=>Kk (YE AU Uy AU (by lia) AU) (UX ?_)) λz=>by cases z
  apply UQ
  refine UM (b:=AX) (UI (UL AU Uy i0) Uy (by
   have:w = "come" :=by cases i0;rfl
   subst this
   kernel_rfl)) (λz=>by cases z) λ_=>U1 (UX ?_)
  refine U5 (Zk AU AU) ?_;show _=Out.rt (Kj (us++[AV]));unfold Kj;rw[QN];rfl
 .obtain⟨a,rfl,h1,h2,i1⟩:=q
  have ha:=h a AU;apply UQ;refine UM (b:=AX) (UI (UL AU Uy i0) Uy h1) (λz=>by cases z) λ_=>U1 (UX ?_)
  apply UQ;refine UM (b:=AW) (UI (UL AU Uy i0) Uy h2) (λ_=>Kk (WL (Po (m:=a) AU (UL AU Uy i1) AU (by lia) (Qi (by rw[Qd];exact ha)))) (UX ?_)) λz=>by cases z
  refine U5 (Zk AU AU) ?_;show Out.rt (Ue ((us.map U0).eraseIdx a))=_;rw[SU];rfl
 .obtain⟨h0,h1,h2⟩:=q
  apply UQ;refine UM (b:=AX) (UI (UL AU Uy i0) Uy h1) (λz=>by cases z) λ_=>U1 (UX ?_)
  apply UQ;refine UM (b:=AX) (UI (UL AU Uy i0) Uy h2) (λz=>by cases z) λ_=>U1 (UX ?_)
  rw[h0];exact U5 (Zk AU AU) AU
end
theorem Rc(ws:LO):oEq (Kj ws) (Kj ws)=O AW:=by unfold oEq;have h:(Kj ws).canLay0=AW:=O0 ws;rw[Qn ⟨h,h,by have:=OY ws;lia⟩,Sf _ h]
theorem Fe{a:Nat}(h:a<=100):EZ 1 (.int (a:Int)):=⟨by show decide _=AW;exact decide_eq_true (by lia),by simp[Uj]⟩
theorem EH{n:Nat}{rs:List A0}(g:Kz n rs)(hn:n<=7):EZ 3 (UP rs)/\(UP rs).bulk<=1000:=by
 refine⟨PZ (k:=2) λx hx=>?_,?_⟩
 .obtain⟨r,hr,rfl⟩:=QA.mp hx
  refine PZ (k:=1) λy hy=>?_
  obtain⟨t,ht,rfl⟩:=QA.mp hy;have:=g.there r hr t ht;exact⟨by show decide _=AW;exact decide_eq_true (by lia),by simp[Uj]⟩
 .have h1:∀x∈rs.map UW,x.bulk<=7:=λx hx=>by
   obtain⟨r,hr,rfl⟩:=QA.mp hx;have h2:=Si (n:=0) (xs:=r.map int) λy hy=>by obtain⟨t,_,rfl⟩:=QA.mp hy;simp[PyData.bulk]
   have h3:=OW g hr;rw[Qd]at h2;show PyData.bulk (.list (r.map int))<=7;rw[PyData.bulk]
   lia
  have h2:=Si h1;have h3:=g.few;rw[Qd]at h2;show PyData.bulk (.list (rs.map UW))<=1000;rw[PyData.bulk]
  lia
theorem Fd{n m:Nat}{ch:Chg}(hc:Ky n m ch)(hn:n<=6)(hm:m<=7):∃z,Y4 [chD ch]=O (.str z):=by
 have key:∀ds:AY,(∀x∈ds,EZ 3 x/\x.bulk<=1000)->ds.length<=3->∃z,Y4 [.tuple ds]=O (.str z):=λds h hl=>by
  refine⟨_,EU (k:=4) (L7 λx hx=>(h x hx).1) (by decide) ?_⟩;have:=Si λx hx=>(h x hx).2
  rw[PyData.bulk];have:=Nat.mul_le_mul_right (1000+1) hl
  lia
 have es:∀{w:Str},hZ (.str w)=AW->w.cps.size<=1000->EZ 3 (.str w)/\(Ug w).bulk<=1000:=λ{w} h1 h2=>⟨⟨h1,by simp[Uj]⟩,by rw[PyData.bulk];exact h2⟩
 have ei:∀{a:Nat},a<=100->EZ 3 (.int (a:Int))/\(int (a:Int)).bulk<=1000:=λh=>⟨(Fe h).mono (by decide),by rw[PyData.bulk];decide⟩
 have er:∀{rs:List A0},Kz 7 rs->EZ 3 (UP rs)/\(UP rs).bulk<=1000:=λg=>EH g (Qq 7)
 have c3:∀{a b c:D}{P:D->Prop},P a->P b->P c->∀x∈[a,b,c],P x:=λ{a b c P} h1 h2 h3 x hx=>by
  have hx:x=a∨x=b∨x=c:=by simpa using hx
  rcases hx with rfl|rfl|rfl<;>assumption
 have c2:∀{a b:D}{P:D->Prop},P a->P b->∀x∈[a,b],P x:=λ{a b P} h1 h2 x hx=>by
  have hx:x=a∨x=b:=by simpa using hx
  rcases hx with rfl|rfl<;>assumption
 cases ch with
 |lst a rs=>exact key _ (c3 (es (by decide +kernel) (by decide +kernel)) (ei (by have:=hc.1;lia)) (er hc.2)) (Qq 3)
 |cop t k=>exact key _ (c3 (es (by decide +kernel) (by decide +kernel)) (ei (by have:=hc.1;lia)) (ei (by have:=hc.2;lia))) (Qq 3)
 |com rs=>exact key _ (c2 (es (by decide +kernel) (by decide +kernel)) (er hc)) (show 2<=3 by decide)
 |go a=>exact key _ (c2 (es (by decide +kernel) (by decide +kernel)) (ei (by have:a<=m:=hc;lia))) (show 2<=3 by decide)
 |thg k=>exact key _ (c2 (es (by decide +kernel) (by decide +kernel)) (ei (by have:k<10:=hc;lia))) (show 2<=3 by decide)
section
variable{cs:A0}{ls:L3}{ch:Chg}{us:LO}
theorem Fc(g:Good cs ls)(hc:Ky cs.length ls.length ch)(hu:us.length=ls.length):X0 [US cs ls,chD ch,Kj us]=O (.bool AW):=by
 have c6:=g.c6;have l7:=g.l7;obtain⟨z,hz⟩:=Fd hc c6 l7
 let W:Option Sl:=O (.pub (US cs ls))
 let C:Option Sl:=O (.pub (chD ch))
 let U:Option Sl:=O (.pub (Kj us))
 let Z:Option Sl:=O (.pub (.str z))
 have hT:=Le g hc hu;have hG:=NQ g hc;refine K1 (ρ:=[W,C,U,AV,AV,AV,AV,AV]) AU ?_;unfold WW;refine UR (ρ1:=[W,C,U,O (.own (us.map U0)),AV,AV,AV,AV]) (Zn (WI AU AU) (Qa AU) AU) ?_;refine UR (ρ1:=[W,C,U,O (.own (us.map U0)),W,AV,AV,AV]) (Kf (Kb (Uz (UA AU) UD) AU (Ft g)) (Qa AU) AU) ?_;refine UR (ρ1:=[W,C,U,O (.own (us.map U0)),W,Z,AV,AV]) (Kf (Zj (Uz (UA AU) UD) hz) (Qa AU) AU) ?_;have tst:∀x6:Option Sl,mOr (Km oNe 4 (Us 0)) (UB Yl (KS Y4 (Uw (Us 1) (Uv))) (Us 5)) [W,C,U,U,W,Z,x6,AV]=.ok AX [W,C,U,U,W,Z,x6,AV]:=λx6=>ZK (Ye AU (UA AU) (GC cs ls)) (UI (Zj (Uz (UA AU) UD) hz) (UA AU) D6)
 cases hb:Kh cs.length ls.length ch with
 |false=>
  rw[hb]at hT hG;rw[QD (by decide)]at hT;refine UR (ρ1:=[W,C,U,U,W,Z,pb (.int 1),AV]) (Hf (OR (OS (Uz (UA AU) (Uz (UA AU) (Uz (Zk AU AU) UD))) AU (BP g hc hb))) (Kf (Kb (Uz (UA AU) (Uz (UA AU) (Uz (Zk AU AU) UD))) AU hT) (Qa AU) AU)) ?_;apply UQ;refine UM (tst _) (λz=>by cases z) λ_=>U1 (UX ?_)
  apply UQ;refine UM (b:=AW) (Zh (t:=AX) (ZB (Kb (Uz (UA AU) (Uz (UA AU) UD)) AU hG))) (λ_=>?_) λz=>by cases z
  exact U5 (Yh (t:=AW) (Kl (Ye AU Uy (Yg.trans AU))) λ_=>Yh (t:=AW) (Kb (Uz (UA AU) UD) AU (Mn _)) λ_=>Kl (Ye AU (UA AU) (Rc us))) (KN AU)
 |true=>
  rw[hb]at hT hG;rw[Qn AU]at hT;have hO:=L5 g hc hu hb
  have hL:=B7 (us:=us) (ch:=ch) (λa e=>by
   subst e;rw[Kh,Qm]at hb;have:=Qa hb.1
   lia) (by lia)
  have hlw:(usW us ch).length<=8:=by
   cases ch with
   |com rs=>show(us++[AV]).length<=8;rw[Qk,QF];lia
   |go a=>exact Qv (List.length_eraseIdx_le _ _) (by lia)
   |_=>show us.length<=8;lia
  generalize usW us ch=vs at hT hO hL hlw;refine UR (ρ1:=[W,C,U,U,W,Z,O (.own (vs.map U0)),AV]) (Hg (Zn (PP (Uz (UA AU) (Uz (UA AU) (Uz (Zk AU AU) UD))) AU hO) (Qa AU) AU) (λh=>by cases h)) ?_;apply UQ;refine UM (tst _) (λz=>by cases z) λ_=>U1 (UX ?_)
  apply UQ;refine UM (b:=AX) (Zh (t:=AW) (ZB (Kb (Uz (UA AU) (Uz (UA AU) UD)) AU hG))) (λz=>by cases z) λ_=>U1 (UX ?_)
  refine UR (ρ1:=[W,C,U,U,W,Z,O (.own (vs.map U0)),pb (Kj vs)]) (Kf (Kb (Uz (UA AU) (Uz (UA AU) UD)) AU hL) (Qa AU) AU) ?_;apply UQ;refine UM (b:=AX) (PM (ZK (Zl (UA AU) AU) (Ye AU (UA AU) (Fu vs)))) (λz=>by cases z) λ_=>U1 (UX ?_)
  apply UQ
  have hall:Zv (KH (Us 6)) 1 (gN 8) (Uu AW) (YU (UE (λd=>.bool (isNon d)) (Us 8)) (UK 1 Yy (Uw (Us 8) (Uv)))) [W,C,U,U,W,Z,pb (Kj vs),pb (Kj vs)]=.ok (vs.map λ_=>.bool AW) [W,C,U,U,W,Z,pb (Kj vs),pb (Kj vs)]:=by
   refine Yd (ds:=vs.map U0) (ZM (UA AU) AU) ?_;refine(Yt U0 (λ_=>.bool AW) (λρ=>∃x,ρ=[W,C,U,U,W,Z,pb (Kj vs),pb (Kj vs),x]) vs _ [] ?_ ⟨AV,rfl⟩ (by rw[QS];lia)).trans AU;rintro v _ ρ ⟨x,rfl⟩;refine⟨_,UN (Qa AU) AU,?_,pb (U0 v),rfl⟩;cases v with
   |none=>exact Pv (t:=AW) (u:=AW) (Kl (x:=.none) (UA AU)) λz=>by cases z
   |some t=>exact Pv (t:=AX) (Kl (x:=.int t) (UA AU)) λ_=>Kb (Uz (UA AU) UD) AU (Mn _)
  refine UM (b:=AX) (PM (Zh (t:=AW) (ZB (Zj (Uz (Kl hall) UD) (Ro vs))))) (λz=>by cases z) λ_=>U1 (UX ?_)
  refine UR (YE AU Uy AU (by rw[Qd];lia) AU) ?_;exact U5 (Yh (t:=AW) (Kl (Ye AU (UA AU) (Rc us))) λ_=>Kl (UI (Kb (Uz (UA AU) (Uz (UA AU) (Uz (UA AU) UD))) AU hT) (UA AU) (Rc vs))) AU
end
theorem Ld{m:Int}(h1 : -1000000<=m)(h2:m<=1000000):Wz [.int 8,.int m,.int 2]=O (YO 8 2 (Builtin.Range.rangeSize 8 m 2).toNat):=by unfold Wz;exact Qn ⟨by decide,by decide,by decide,by decide,h1,h2⟩
theorem EG:∀ns:A0,ns.length<=63->XZ [.list (ns.map int)]=O (.bool AW):=by
 intro ns hns;refine K1 (ρ:=[pb (.list (ns.map int)),AV,AV,AV,AV]) AU ?_;unfold WV;obtain⟨r,hr,cs,ls,rfl,g,_⟩:=Ak 6 7 5 (ns:=ns) (by lia) 0;have hlen:Ke [.list (ns.map int)]=O (.int ns.length):=by rw[KZ,Qd]
 let S:Option Sl:=O (.pub (.list (ns.map int)))
 refine UR (ρ1:=[S,pb (US cs ls),AV,AV,AV]) (Kf (Kb (Uz (UA AU) (Uz Uy (Uz Uy (Uz Uy (Uz Uy UD))))) AU hr) (Qa AU) AU) ?_;apply UQ;apply Xj (λ_ ρ=>∃cs ls x2 x3 x4,ρ=[S,pb (US cs ls),x2,x3,x4]/\Good cs ls)
 case h1=>exact GE (Uz Uy (Uz (Zj (Uz Uy (Uz (Zj (Uz Uy (Uz (Kq AU hlen) UD)) EE) UD)) Op) (Uz Uy UD))) (Ld (by split<;>(try split)<;>lia) (by split<;>(try split)<;>lia))
 case h0=>exact⟨cs,ls,AV,AV,AV,rfl,g⟩
 case hst=>
  rintro i d ρ hi ⟨cs,ls,x2,x3,x4,rfl,g⟩;have:=BU hi;subst this;have e1:(8:Int)+(i:Int)*2=((8+i*2:Nat):Int):=by lia
  have e2:((8+i*2:Nat):Int)+1=((8+i*2+1:Nat):Int):=by lia
  obtain⟨v,hv⟩:=Sq ns (8+i*2) (by lia);obtain⟨v2,hv2⟩:=Sq ns (8+i*2+1) (by lia);rw[e1];obtain⟨r,hch,ch,rfl,hc⟩:=B8 g v ((8+i*2:Nat):Int);obtain⟨r,hdl,us,rfl,dl⟩:=BQ g v2 (((8+i*2:Nat):Int)+1);refine⟨_,UN (Qa AU) AU,?_⟩;unfold P3
  let W:Option Sl:=O (.pub (US cs ls))
  let I:Option Sl:=O (.pub (.int ((8+i*2:Nat):Int)))
  refine UR (ρ1:=[S,W,I,pb (chD ch),x4]) (Kf (Kb (Uz (UA AU) (Uz (Kb (Uz (UA AU) (Uz (UA AU) UD)) AU hv) (Uz (UA AU) UD))) AU hch) (Qa AU) AU) ?_;refine UR (ρ1:=[S,W,I,pb (chD ch),pb (Kj us)]) (Kf (Kb (Uz (UA AU) (Uz (Kb (Uz (UA AU) (Uz (UI (UA AU) Uy (K3.trans (by rw[e2]))) UD)) AU hv2) (Uz (UI (UA AU) Uy K3) UD))) AU hdl) (Qa AU) AU) ?_;apply UQ;refine UM (b:=AX) (Zh (t:=AW) (ZB (Kb (Uz (UA AU) (Uz (UA AU) (Uz (UA AU) UD))) AU (Fc g hc dl.len)))) (λz=>by cases z) λ_=>U1 (UX ?_)
  refine UM (ZB (Kb (Uz (UA AU) (Uz (UA AU) UD)) AU (NQ g hc))) (λhb=>?_) λ_=>U1 (Z5 ⟨cs,ls,_,_,_,rfl,g⟩);exact Kk (Kf (Kb (Uz (UA AU) (Uz (UA AU) UD)) AU (ER g hb)) (Qa AU) AU) (Z5 ⟨_,_,_,_,_,rfl,SV g hc hb⟩)
 case hend=>rintro ρ ⟨cs,ls,x2,x3,x4,rfl,g⟩;exact UX (U5 Uy rfl)
end W
open PySem PySem.W PyProof.Rows
set_option maxRecDepth 100000 in
set_option maxHeartbeats 0 in
theorem PySem.Challenge.cw_wishdeal_k72_dealings_carried_holds : PySem.Challenge.rw_wishdeal_k72_dealings_carried.Holds := by
 w_on;o_law
 refine holds_open (q:=W.q0) (loose:=["SIZES"]) (Xt:=λs=>xlAt W.q0 [] s&&recOk [] s) (XP:=XL W.q0 []) (Yf:=λs=>(DL.xSeen W.clsL s,DL.Vq "SIZES" s.heap)) (Ya:=λw=>(DL.xGood W.p0 W.clsL,DL.Vp w [("list", 3),("copies", 3),("come", 2),("go", 2),("thing", 2)])) (YP:=λw h=>DL.XYP W.p0 W.clsL h/\DL.TabP w "SIZES" [("list", 3),("copies", 3),("come", 2),("go", 2),("thing", 2)] h) (N:=3892) (d:=W.d_ba) (kwd:=[])
  W.L1 (λ_ _ e=>⟨DL.LB (JF e).1,DL.He (JF e).2⟩) (λ_ _ _ y k=>⟨y.1.keeps k,y.2.keeps k⟩) (λs e=>xl_of s (Bool.and_eq_true_iff.mp e).1) XL.keeps (by rfl) (by rfl) (by rfl)
  (λs e=>recFacts_of (Bool.and_eq_true_iff.mp e).2) (by rfl) (by assumption) (by decide +kernel) ⟨rfl,rfl,rfl,rfl,rfl,by decide +kernel⟩ ?hw (W.walk W.EG)
 case hw=>w_witness2


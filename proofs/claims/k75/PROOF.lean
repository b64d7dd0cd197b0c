import PyProof.Rows.All
import Wide.All
import OpenK.AllK
import Wide.FinOn
import Lean
import PyProof.EqAt
import PyProof.EqKinds
import PyProof.TupleCall
import PyProof.EnumMake
import PyProof.ZipIter
import PyProof.ExcClass2
import PyProof.ExcInit
import PyProof.ExcBaseAll.ValueError
import PyProof.FString2
import PyProof.ExcArgsOwn
import PyProof.InstStoreFacts
import ObjForm.Fk.InstStore
import ObjForm.Fk.InstLoad
import PyProof.StationsW
import PyProof.RulesAs
import PyProof.NsDelKeeps
import OpenK.KMore
import PyProof.IsiBase
import OpenK.KNot
import PyProof.Rows.RuleN_isinstance
import PyProof.NeData
import PyProof.P3In
import PyProof.StrWalks
import PyProof.ConsumeWalk
import PyProof.SliceStr2
import PyProof.MeetsStr
import KE.KItem
import KE.KUnpack
import KE.KRevSl
import PyProof.Rows.SetFrom
import PyProof.SetRoads
import PyProof.Rows.Range3
import PyProof.CallType
import PyProof.Rows.CallKwBuiltin
import PyProof.Rows.MinMaxN
import PyProof.SumWalkG
import PyProof.Rows.SeqMore
import PyProof.Rows.SortWalk
import PyProof.Rows.SumAny
import PyProof.Rows.SeqMore2
import KE.KSortTup
import PyProof.Rows.SortShellK
import PyProof.ReprRoads
import PyProof.ReprBulk
import PyProof.CallFns
import PyProof.NeKinds
import PyProof.Rows.StrJoinMade
import PyProof.StrCalls
import KE.KIntText
import PyProof.ReprDict
import PyProof.DictIter
import PyProof.Rows.DictUnroll
import PyProof.MeetsStr2
import PyProof.Rows.StrNews
import PyProof.StrLawsChain
import PyProof.Rows.StrItems
import PyProof.SeqRoads2
import PyProof.Rows.StrNews2
import PyProof.Rows.StrLawsPart
import PyProof.Rows.StrFirst
import PySem.Challenge.RW_wishdeal_k75_whole_fewest_moved
set_option compiler.extract_closed false
set_option Elab.async false
set_option linter.all false
set_option maxRecDepth 100000
set_option maxHeartbeats 4000000
open Option renaming some→O,none→v4
open Bool renaming true→v5,false→wa
theorem v3.{u}{α:Sort u}{a:α}:a=a:=rfl
abbrev wc:=List Int
abbrev wg:=Option Int
abbrev wn:=List Nat
abbrev wp:=Option Bool
theorem Qa:type_of% @of_decide_eq_true:=@of_decide_eq_true
theorem Qq:type_of% @if_pos:=@if_pos
theorem QB:type_of% @if_neg:=@if_neg
theorem QG:type_of% @decide_eq_false:=@decide_eq_false
theorem QJ:type_of% @decide_eq_true:=@decide_eq_true
theorem Jo:type_of% @decide_eq_true_eq:=@decide_eq_true_eq
theorem Jp:type_of% @of_decide_eq_false:=@of_decide_eq_false
theorem Us:type_of% @congrArg:=@congrArg
open List renaming length_map→Qb,getElem?_eq_getElem→Qd,getElem?_map→Qf,getElem?_eq_some_iff→Qg,getD_eq_getElem?_getD→Qh,length_append→Qj,mem_cons_of_mem→Qk,mem_map→Qn,mem_cons_self→Qo,mem_of_getElem?→Qr,getElem?_set_ne→Qs,map_append→Qt,getElem?_append_left→Qu,length_cons→Qv,getElem?_append_right→Qw,length_range→Qx,getElem?_replicate→Qy,length_nil→QC,length_singleton→QD,map_cons→QF,mem_append_right→QK,mem_singleton→QM,getElem?_set_self→QN,mem_cons→QQ,length_replicate→QR,map_map→QT,getElem?_range→QU,mem_append→QW,lookup_cons→QX,length_set→QZ,getElem?_eq_none→Q0,append_assoc→Q2,mem_range→Q3,eraseIdx_eq_take_drop_succ→Q4,length_take→Q6,mem_append_left→Q8,size_toArray→Jb,append_nil→Jc,nil_append→Jd,drop_eq_getElem_cons→Je,all_eq_true→Jf,flatten_cons→Jg,take_length→Jj,length_drop→Jl,length_filterMap_le→Jm,getElem_mem→Jq,map_congr_left→Js,ext_getElem?→Jt,sum_cons→Jw,mem_filter→Jx,mem_filterMap→Jy,filterMap_cons→JG,length_reverse→JH,length_filter_le→JJ,contains_cons→JK,replicate_succ→JO,length_pos_iff→JQ,pairwise_cons→JT,take_append_drop→JU,getElem?_eq_none_iff→JV,filter_eq_self→JY,getElem?_cons_succ→JZ,mem_flatten→J0,take_succ→J4,getElem_map→J5,drop_eq_nil_of_le→J7,foldl_cons→Ua,count_cons→Ue,range_succ→Uf,sum_append→Ug,map_take→Uh,getElem?_reverse→Ui,map_flatten→Um,filter_cons→Uo,map_set→Uv,mem_reverse→Uw,map_drop→Uy,range→UK,replicate→UL,Pairwise→UV
open PySem renaming wpAny_bind→Qe,wpAny_pure→Qm,wpAny_mono→QL,wpAny_loadPart_at→QO,wpAny_truthy_bool→Q5,wpAny_isSubtype_exc→Q9,mem_of_lookup→Jh,wpAny_field→Jk,wpAny_passesOwn→Ju,codeAny_call_builtin→JC,wpAny_standAt→JF,wpAny_pyIter_list→JN,Value→UA,Shared→UB,Program→UC,Addr→UD,FuncData→UE,Expr→UF,sizeLine→UG,wpAny→UH,starEach→UI,compareOp→UJ,assignEach→UX,foldedSetIterable→UY
open PySem.Heap renaming get?_push_of_some→Qi,lt_size→Ql,get?_push_size→QA,get?_update_other→QP,get?_update_self→Jn,size_push→JM
open Nat renaming le_refl→Qp,le_trans→QE,lt_of_lt_of_le→QH,zero_add→QS,ne_of_lt→QY,le_of_not_lt→Ji,lt_irrefl→Jv,le_succ→JA,ne_of_gt→JD,lt_succ_iff_lt_or_eq→JX,zero_le→J6,not_lt_zero→Ud,lt_succ_of_lt→Uj,lt_succ_self→Ul,min_eq_left→Ur,le_of_lt→Ut,succ_pos→Uu
open Int renaming toNat_natCast→Qz,le_refl→Ja,mul_le_mul_of_nonneg_right→Jr,zero_add→JL,le_trans→JW,emod_lt_of_pos→J9,le_antisymm→Uc,emod_nonneg→Uq,not_lt→Uz
open Bool renaming and_eq_true→QI,false_eq_true→J8,eq_iff_iff→Ub,and_eq_true_iff→Uk
open Option.some renaming inj→Q7
open PySem.W.Fast renaming te1987589406359920131→Jz
open Array renaming getD_eq_getD_getElem?→JB,getElem?_eq_some_iff→JE,length_toList→JP
open PySem.W renaming kia_one→JI
open PyProof.Rows renaming callWith_type1→JR
open Prod.mk renaming inj→JS
open Array.Perm renaming refl→Up
open List.cons renaming inj→Ux
open PySem.PyData renaming list→UM,bool→UN,str→UO,strOk→UP,canLayAll0→UQ,depth→UR,eqv→US,shown→UW
open PySem.PassesOwn renaming never→UT
open PySem.Str renaming ofString→UU
abbrev we:=List UA
abbrev wf:=List UF
abbrev wj:=Option UA
abbrev wk:=List UD
abbrev wo:=Option UD
abbrev L3:=List (List wc)
abbrev LO:=List wg
abbrev wm:=Option LO
abbrev LP:=List (Int×Int)
open PySem.W (Frag)
open PySem.PyData (int)
open List (replicate)
namespace DL
open PySem PySem.Spec PySem.W PyProof.Rows
def topRunT(tb:String->Option Builtin)(p:UC)(w:World)(m:Nat)(ann:wj):Nat->SharedT->Thread->Option SharedT
 |0,_,_=>v4
 |n+1,s,t=>match through t,stepOk m ann t with
  |true,_=>O s
  |false,wa=>v4
  |false,v5=>match stepT (denote tb) p w s t with
   |some x=>topRunT tb p w m ann n x.1 x.2
   |none=>v4
theorem FE      : ∀{n}{s s'}{t},topRunT tb p w m ann n s t=O s'->topRun tb p w m ann n s.abs t=O s'.abs
 |0,_,_,_,h=>by cases h
 |n+1,s,s',t,h=>by
  rw[topRunT]at h;rw[topRun];cases ht:through t with
  |true=>simp_all
  |false=>
   rw[ht]at h;cases hk:stepOk m ann t with
   |false=>simp_all
   |true=>
    rw[hk]at h;dsimp only at h⊢;cases hs:stepT _ p w s t with
    |none=>rw[hs]at h;cases h
    |some x=>rw[hs]at h;rw[stepT_spec hs];exact FE h
def btOf(l:List Obj):BT:=(l.foldl (λ(x:BT×Nat) o=>(x.1.ins x.2 o,x.2+1)) (.nil,0)).1
noncomputable def T0 (w:World) (os:OsState):SharedT:=⟨btOf (boot_heap w.params).objs.toList,11,(boot_heap w.params).life,#[],boot_drawn,boot_toks,os⟩
theorem qb(w)(os):(T0 w os).abs=⟨boot_heap w.params,#[],boot_drawn,boot_toks,os⟩:=by kernel_rfl
theorem ki(w:World):((boot_heap w.params).isNs mainGlobals&&(#[]:Array GenState).size==0,(boot_heap w.params).objs.size,(boot_heap w.params).nsMap mainGlobals "__annotations__")=(v5,11,O (.ref 6)):=by kernel_rfl
noncomputable abbrev Dz (p q:UC) (loose:List Str) (Xt:UB->Bool) (w:World) (t:SharedT):=
 ((staticsOk (importedModules p.main.body) (boot_heap w.params) t.abs.heap&&namesBound p t.abs.heap&&gensDone t.abs&&laidKept (boot_heap w.params) t.abs.heap),openSeen q loose (importedModules p.main.body) Xt v5 t.abs)
abbrev VB0:we:=[.type "ValueError", .type "Exception", .type "BaseException", .type "object"]
def OP:List Str:=["__setattr__", "__getattribute__", "__getattr__", "__class__", "part", "number", "row"]
def SR(nm:Str):Str:=nm ++ "." ++ "__init__"
def xB(h:Heap)(nm:Str)(own:Bool):Bool:=match h.nsMap mainGlobals nm with
 |some (.ref C)=>(match h.get? C with
  |some ⟨.type t,_,.cls cd,sl⟩=>(t == "type")&&(cd.name==nm)&&cd.hasDict && !cd.hasDel&&(match sl.toList with | [_,_,_,_,k4,_]=>decide (k4=O (.builtin "ValueError.__new__"))|_=>wa)&&h.isNs cd.ns&&(OP.all λx=>(h.nsMap cd.ns x).isNone)&&(own || (h.nsMap cd.ns "__init__").isNone) &&
   (if nm = "DealError" then decide (cd.mro=.ref C::VB0)else match h.nsMap mainGlobals "DealError" with|some (.ref D)=>decide (cd.mro=.ref C::.ref D::VB0)|_=>wa)
  |_=>wa)
 |_=>wa
def xSh(h:Heap)(nm:Str):Option (Bool×FnShape):=match h.nsMap mainGlobals nm with
 |some (.ref C)=>(match h.get? C with
  |some ⟨_,_,.cls cd,_⟩=>(match h.fnAt cd.ns "__init__", h.shapeAt cd.ns "__init__" with|some (_,o,_),O sh=>O (decide (o.cls=.type "function"),sh)|_,_=>v4)
  |_=>v4)
 |_=>v4
def Ta(st:Stmt):Stmt:=match st with
 |.ClassDef _ _ _ (m::_) _ _ _ _ _ _ _=>m
 |_=>.Pass ⟨0,0,0,0⟩
def Mr(s:Stmt):Arguments:=match s with
 |.FunctionDef _ a _ _ _ _ _ _ _ _=>a
 |_=>default
def Mq(s:Stmt):List Stmt:=match s with
 |.FunctionDef _ _ b _ _ _ _ _ _ _=>b
 |_=>[]
def M4(s:Stmt):Scope:=match s with
 |.FunctionDef _ _ _ _ _ _ sc _ _ _=>sc
 |_=>{kind:=.function,names:=[],isGenerator:=wa,isCoroutine:=wa}
def TL(nm:Str)(st:Stmt):FnShape:=⟨"__init__", SR nm,Mr st,.stmts (Mq st),M4 st,mainGlobals,[],.none,.none,v4,.none,builtinsNs,v5⟩
abbrev XL0:=List (Str×Option Nat)
def xSeen(l:XL0)(s:UB):Bool×List (Bool×Option (Bool×FnShape)):=(s.heap.isNs cStatics&&(s.heap.nsMap cStatics "thirdparty.any").isNone,l.map λc=>(xB s.heap c.1 c.2.isSome,if c.2.isSome then xSh s.heap c.1 else v4))
def xGood(p:UC)(l:XL0):Bool×List (Bool×Option (Bool×FnShape)):=(v5,l.map λc=>(v5,c.2.map λi=>(v5,TL c.1 (Ta (p.main.body.getD i (.Pass ⟨0,0,0,0⟩))))))
theorem qa{α:Type}{Yf}{Ya:World->α}{p q:UC}{loose:List Str}{Xt}{N M:Nat}(e:opening p=plainProg p.main.scope.names)(hN:Nat.ble 600 N=v5)(f:∀s,fenceModules? p s=O s)(le:Nat.ble M N=v5)
  (run:∀(w:World)(os:OsState),(topRunT treeTable p w 11 (O (.ref 6)) M (T0 w os) (topStub p)).map (λt=>(Dz p q loose Xt w t,Yf t.abs))=O ((v5,openGood q loose),Ya w)):LeftO p q loose Xt Yf Ya N:=λw=>by
 obtain⟨⟨h,gs,d,k,os⟩,e0,e'⟩:=Option.map_eq_some_iff.mp (boot_open e hN f w);obtain⟨rfl,rfl,rfl,rfl⟩:h=boot_heap w.params/\gs=#[]/\d=boot_drawn/\k=boot_toks:=by simpa only[Prod.mk.injEq]using e'
 obtain⟨t,ht,l⟩:=Option.map_eq_some_iff.mp (run w os);have hr:=FE ht;rw[qb]at hr;have r:=topRun_mono (N-M) _ _ _ _ hr;rw[show M+(N-M)=N by have:=Nat.le_of_ble_eq_true le;lia]at r;obtain⟨l0,l3⟩:=JS l;obtain⟨l1,l2⟩:=JS l0;have z:=ki w;obtain⟨z1,z2,z3⟩:_/\_/\_:=by simpa only[Prod.mk.injEq]using z
 have tf:topFrom treeTable p w N ⟨boot_heap w.params,#[],boot_drawn,boot_toks,os⟩=O t.abs:=by
  unfold topFrom;rw[z1,z2,z3,r]
  show(match staticsOk _ _ t.abs.heap&&namesBound p t.abs.heap&&gensDone t.abs&&laidKept _ t.abs.heap with|true=>O t.abs|false=>v4)=_
  rw[l1]
 unfold openEnds;rw[e0]
 show(topFrom treeTable p w N _).map _=_
 rw[tf];exact Us O (Prod.ext l2 l3)
def Vi(e:DictEntry):Int×Option Str×wg:=(e.hash,match e.key with | .str x _=>O x|_=>v4,match e.val with | .int i _=>O i|_=>v4)
def SQ(nm:Str)(h:Heap):Option (Bool×List (Int×Option Str×wg)):=match h.nsMap mainGlobals nm with
 |some (.ref a)=>(match h.get? a with
  |some ⟨.type t,v4,.dict es _,sl⟩=>O ((t == "dict")&&(sl.size==0)&&(a != sysModules)&&h.isNs mainGlobals,es.toList.map Vi)
  |_=>v4)
 |_=>v4
def SW(w:World)(D:List (Str×Int)):Option (Bool×List (Int×Option Str×wg)):=O (v5,D.map λp=>(hashStr w p.1,O p.1,O p.2))
end DL
open PySem in
lay_quick PySem.Challenge.pw_wishdeal_k75_whole_fewest_moved DL.topRunT PySem.W.openGood PySem.W.staticsOk PySem.W.namesBound PySem.W.laidKept PySem.W.xlAt DL.xSeen DL.xGood
namespace W
open PySem PySem.Spec DL
noncomputable abbrev p0:UC:=PySem.Challenge.pw_wishdeal_k75_whole_fewest_moved
noncomputable def Xf:wn:=[1,2,4,5,6,7,9,10,11,12,13,14,15,16,17,18,19,20,21,23,25,26,27,29,30,31,33,34,35,36,37,39,41,42,43,44,45,46,47,48,49,50,51,52,53,55,57,58,59,60,61,63,65,66,67,68,69,70,71,72,73,74,75,76,77,78,79,80,81]
noncomputable def ixL:wn:=[1,2,13,14,15,16,17,18,19,20,21,23,26,27,29,30,31,33,34,35,36,37,39,41,42,43,44,45,46,47,48,49,50,51,52,53,55,58,59,60,61,63,65,66,67,68,69,70,71,72,73,74,75,76,77,78,79,80,81]
noncomputable abbrev q0:UC:=PySem.W.view p0 Xf
noncomputable def clsL:XL0:=[("DealError", O 4),("NoWishes", O 5),("NoAim", O 6),("NoChange", v4)]
theorem DW:∀(w:World)(os:OsState),(PySem.W.Fast.tw10708255244068714335 PySem.W.Fast.tw14364793385576792824 PySem.W.Fast.tw882690996177290288 (w.withFollow "special-get-raises" true) 11 (O (.ref 6)) 3066 (T0 (w.withFollow "special-get-raises" true) os) (PySem.W.topStub PySem.W.Fast.tw882690996177290288)).map (λt=>(((PySem.W.Fast.tw13471830651028734593 (PySem.W.Fast.tw5923862056798008813 (Program.main PySem.W.Fast.tw882690996177290288).body) (PySem.W.boot_heap (w.withFollow "special-get-raises" true).params) t.abs.heap&&PySem.W.Fast.tw4683006035507612052 PySem.W.Fast.tw882690996177290288 t.abs.heap&&PySem.W.gensDone t.abs&&PySem.W.Fast.tw16898566250750103049 (PySem.W.boot_heap (w.withFollow "special-get-raises" true).params) t.abs.heap),PySem.W.Fast.tw4187177175401517315 (PySem.W.view PySem.W.Fast.tw882690996177290288 Xf) ["SIZES"] (PySem.W.Fast.tw5923862056798008813 (Program.main PySem.W.Fast.tw882690996177290288).body) (λs=>PySem.W.Fast.tw4757257242682413121 (PySem.W.view PySem.W.Fast.tw882690996177290288 Xf) [] s&&PySem.W.recOk [] s) v5 t.abs),(PySem.W.Fast.tw11121216462471823999 clsL t.abs,SQ "SIZES" t.abs.heap)))=O ((v5,PySem.W.Fast.tw3486900944545009338 (PySem.W.view PySem.W.Fast.tw882690996177290288 Xf) ["SIZES"]),(PySem.W.Fast.tw18030470931243306169 PySem.W.Fast.tw882690996177290288 clsL,SW (w.withFollow "special-get-raises" true) [("list", 3),("copies", 3),("come", 2),("go", 2),("thing", 2)])):=by intro w os;kernel_rfl
theorem DV:∀(w:World)(os:OsState),(PySem.W.Fast.tw10708255244068714335 PySem.W.Fast.tw14364793385576792824 PySem.W.Fast.tw882690996177290288 (w.withFollow "special-get-raises" false) 11 (O (.ref 6)) 3066 (T0 (w.withFollow "special-get-raises" false) os) (PySem.W.topStub PySem.W.Fast.tw882690996177290288)).map (λt=>(((PySem.W.Fast.tw13471830651028734593 (PySem.W.Fast.tw5923862056798008813 (Program.main PySem.W.Fast.tw882690996177290288).body) (PySem.W.boot_heap (w.withFollow "special-get-raises" false).params) t.abs.heap&&PySem.W.Fast.tw4683006035507612052 PySem.W.Fast.tw882690996177290288 t.abs.heap&&PySem.W.gensDone t.abs&&PySem.W.Fast.tw16898566250750103049 (PySem.W.boot_heap (w.withFollow "special-get-raises" false).params) t.abs.heap),PySem.W.Fast.tw4187177175401517315 (PySem.W.view PySem.W.Fast.tw882690996177290288 Xf) ["SIZES"] (PySem.W.Fast.tw5923862056798008813 (Program.main PySem.W.Fast.tw882690996177290288).body) (λs=>PySem.W.Fast.tw4757257242682413121 (PySem.W.view PySem.W.Fast.tw882690996177290288 Xf) [] s&&PySem.W.recOk [] s) v5 t.abs),(PySem.W.Fast.tw11121216462471823999 clsL t.abs,SQ "SIZES" t.abs.heap)))=O ((v5,PySem.W.Fast.tw3486900944545009338 (PySem.W.view PySem.W.Fast.tw882690996177290288 Xf) ["SIZES"]),(PySem.W.Fast.tw18030470931243306169 PySem.W.Fast.tw882690996177290288 clsL,SW (w.withFollow "special-get-raises" false) [("list", 3),("copies", 3),("come", 2),("go", 2),("thing", 2)])):=by intro w os;kernel_rfl
theorem Dy:PySem.W.LeftO p0 q0 ["SIZES"] (λs=>PySem.W.xlAt q0 [] s&&PySem.W.recOk [] s) (λs=>(xSeen clsL s,SQ "SIZES" s.heap)) (λw=>(xGood p0 clsL,SW w [("list", 3),("copies", 3),("come", 2),("go", 2),("thing", 2)])) 6032:=by
 refine qa (M:=3066) (by kernel_rfl) v3 (λs=>by kernel_rfl) v3 λw os=>?_
 cases e:w.params.followText "special-get-raises" with
 |true=>
  have hw:w.withFollow "special-get-raises" true=w:=by rw[←e,PySem.World.withFollow_self]
  have h:=DW w os;rw[←PySem.W.Fast.te10708255244068714335,←PySem.W.Fast.te14364793385576792824,←PySem.W.Fast.te4187177175401517315,←PySem.W.Fast.te5923862056798008813,←PySem.W.Fast.te13471830651028734593,←PySem.W.Fast.te4683006035507612052,←PySem.W.Fast.te16898566250750103049,←PySem.W.Fast.te4757257242682413121,←PySem.W.Fast.te3486900944545009338,←PySem.W.Fast.te11121216462471823999,←PySem.W.Fast.te18030470931243306169,←PySem.W.Fast.te882690996177290288,hw]at h;exact h
 |false=>
  have hw:w.withFollow "special-get-raises" false=w:=by rw[←e,PySem.World.withFollow_self]
  have h:=DV w os;rw[←PySem.W.Fast.te10708255244068714335,←PySem.W.Fast.te14364793385576792824,←PySem.W.Fast.te4187177175401517315,←PySem.W.Fast.te5923862056798008813,←PySem.W.Fast.te13471830651028734593,←PySem.W.Fast.te4683006035507612052,←PySem.W.Fast.te16898566250750103049,←PySem.W.Fast.te4757257242682413121,←PySem.W.Fast.te3486900944545009338,←PySem.W.Fast.te11121216462471823999,←PySem.W.Fast.te18030470931243306169,←PySem.W.Fast.te882690996177290288,hw]at h;exact h
end W
namespace L2
open PySem PySem.Spec PyProof.Rows
abbrev Key:=Sum Int Str
noncomputable def SV:Key->UA->Bool
 |.inl k,v=>Value.isInt k v
 |.inr x,v=>Value.isStrOf x v
noncomputable def keyH(w:World):Key->Int
 |.inl k=>hashInt k
 |.inr x=>hashStr w x
theorem Vc:∀{k}{v},SV k v=v5->(∃i t,k=Sum.inl i/\v=Value.int i t)∨(∃x t,k=Sum.inr x/\v=Value.str x t)
 |.inl i,v,h=>by obtain⟨t,e⟩:=Value.isInt_shape   h;exact .inl ⟨i,t,rfl,e⟩
 |.inr x,v,h=>by obtain⟨t,e⟩:=Value.isStrOf_shape   h;exact .inr ⟨x,t,rfl,e⟩
theorem kh(i:Int)(t:Tok):SV (.inl i) (.int i t)=v5:=by simp[SV,Value.isInt]
theorem kg(x:Str)(t:Tok):SV (.inr x) (.str x t)=v5:=by simp[SV,Value.isStrOf]
theorem DU(a b):decide ((Sum.inl a:Key)=Sum.inl b)=(a==b):=by
 by_cases e:a=b
 .subst e;simp
 .simp_all
theorem DT(a b):decide ((Sum.inr a:Key)=Sum.inr b)=decide (a=b):=by simp_all
theorem DS(a)(b):decide ((Sum.inl a:Key)=Sum.inr b)=wa:=QG (λq=>nomatch q)
theorem DR(a)(b):decide ((Sum.inr a:Key)=Sum.inl b)=wa:=QG (λq=>nomatch q)
noncomputable def Wk(prog:UC)(w:World):PySem.KeyKind prog w Key where
 is:=SV
 hash:=keyH w
 inj:=λv a b ha hb=>by
  rcases Vc ha with ⟨i,t,rfl,rfl⟩|⟨x,t,rfl,rfl⟩
  .rcases Vc hb with ⟨j,u,rfl,e⟩|⟨y,u,rfl,e⟩
   .injection e with e1 _;rw[e1]
   .exact nomatch e
  .rcases Vc hb with ⟨j,u,rfl,e⟩|⟨y,u,rfl,e⟩
   .exact nomatch e
   .injection e with e1 _;rw[e1]
 byValue:=λk v h=>by rcases Vc h with ⟨i,t,rfl,rfl⟩|⟨x,t,rfl,rfl⟩<;>rfl
 pyHash:=λhv h=>by
  rcases Vc hv with ⟨i,t,rfl,rfl⟩|⟨x,t,rfl,rfl⟩
  .exact wpAny_pyHash_int h
  .exact wpAny_pyHash_str h
 eqBool:=λhu hv h=>by
  rcases Vc hu with ⟨i,t,rfl,rfl⟩|⟨x,t,rfl,rfl⟩
  .rcases Vc hv with ⟨j,u,rfl,rfl⟩|⟨y,u,rfl,rfl⟩
   .rw[DU]at h;exact wpAny_eqBool_int h
   .rw[DS]at h;exact SeqAt.EqAt.int_str i t y u _ _ _ _ h
  .rcases Vc hv with ⟨j,u,rfl,rfl⟩|⟨y,u,rfl,rfl⟩
   .rw[DR]at h;exact SeqAt.EqAt.str_int x t j u _ _ _ _ h
   .rw[DT]at h;exact wpAny_eqBool_str h
 «strs»:=λk x t v h=>by
  rcases Vc h with ⟨i,u,rfl,e⟩|⟨y,u,rfl,e⟩
  .exact nomatch e
  .injection e with e1 _
   subst e1;cases v<;>rfl
theorem vp(prog)(w)(i)(t):(Wk prog w).is (.inl i) (.int i t)=v5:=kh i t
theorem NX(prog)(w)(x)(t):(Wk prog w).is (.inr x) (.str x t)=v5:=kg x t
inductive V where
 |non|bl (b:Bool)|int (i:Int)|str (x:Str)|byt (b:Array UInt8)|flt (b:UInt64)|ref (a:UD)|ty (n:String)
 deriving DecidableEq
noncomputable def RelV:V->UA->Prop
 |.non,u=>u=Value.none
 |.bl b,u=>u=Value.bool b
 |.int i,u=>∃t,u=Value.int i t
 |.str x,u=>∃t,u=Value.str x t
 |.byt b,u=>∃t,u=Value.bytes b t
 |.flt b,u=>∃t,u=Value.float b t
 |.ref a,u=>u=Value.ref a
 |.ty n,u=>u=Value.type n
noncomputable abbrev Vals:List V->we->Prop:=Paired RelV
theorem Vals.length{xs:List V}{us:we}(r:Vals xs us):xs.length=us.length:=Paired.length r
theorem Vals.get:∀{xs}{us}{i:Nat}{x},Vals xs us->xs[i]?=O x->∃u,us[i]?=O u/\RelV x u
 |_,_,_,_,.nil,e=>by simp_all
 |_,_,0,_,.cons r _,e=>by simp at e;subst e;exact⟨_,rfl,r⟩
 |_,_,i+1,x,.cons _ t,e=>by obtain⟨u,h1,h2⟩:=Vals.get   t (by simpa using e);exact⟨u,by simpa using h1,h2⟩
theorem Vals.set   (r:RelV x u):∀{xs}{us}(i),Vals xs us->Vals (xs.set i x) (us.set i u)
 |_,_,_,.nil=>.nil
 |_,_,0,.cons _ t=>.cons r t
 |_,_,i+1,.cons q t=>.cons q (Vals.set r i t)
theorem Vals.append:∀{xs ys}{us ws},Vals xs us->Vals ys ws->Vals (xs++ys) (us++ws)
 |_,_,_,_,.nil,s=>s
 |_,_,_,_,.cons r t,s=>.cons r (Vals.append t s)
theorem Vals.take:∀{xs}{us}(n),Vals xs us->Vals (xs.take n) (us.take n)
 |_,_,0,_=>.nil
 |_,_,_+1,.nil=>.nil
 |_,_,n+1,.cons r t=>.cons r (Vals.take n t)
theorem Vals.drop:∀{xs}{us}(n),Vals xs us->Vals (xs.drop n) (us.drop n)
 |_,_,0,r=>r
 |_,_,_+1,.nil=>.nil
 |_,_,n+1,.cons _ t=>Vals.drop n t
noncomputable def RelO:Option V->wj->Prop
 |some v,O u=>RelV v u
 |none,v4=>True
 |_,_=>False
noncomputable def KV{κ:Type}:List (κ×V)->List (κ×UA)->Prop:=Paired λ(p:κ×V) (q:κ×UA)=>p.1=q.1/\RelV p.2 q.2
noncomputable def kV:Key->V
 |.inl i=>.int i
 |.inr x=>.str x
inductive HO where
  |lst (xs:List V)
  |tup (xs:List V)
  |dK (kvs:List (Key×V))|dT (kvs:List (List Key×V))
  |set (S:Int->Bool) (n:Nat)
  |ins (C dx:UD) (fs:List (Str×V))
  |own (x:UD)
  |xd (fs:List (Str×V))
  |met (f x:UD)
  |rng (lo hi:Int)
  |frz (o:Obj) (u:HO)
  |tbl (ps:Array UA)
  |ext (φ:Heap->Prop)
abbrev Hp:=UD->Option HO
noncomputable def upd(H:Hp)(a:UD)(o:HO):Hp:=λb=>if b=a then O o else H b
theorem Yd{H:Hp}{a:UD}{o:HO}:upd H a o a=O o:=by unfold upd;rw[Qq v3]
theorem Zj{H:Hp}{a b:UD}{o:HO}(h:b≠a):upd H a o b=H b:=by unfold upd;rw[QB h]
theorem XH{H:Hp}{a b}{o}(h:H a=O o)(h':H b=v4):a≠b:=by
 lia
section
variable(P:UC)(w:World)
noncomputable def YK(H:Hp)(h:Heap)(a:UD):HO->Prop
 |.lst xs=>xs.length<=UG/\∃(its:we)(n:Nat),Vals xs its/\h.get? a=O {cls:=.type "list", data:=.seq its.toArray n}
 |.tup xs=>xs.length<=UG/\∃its:we,Vals xs its/\IsTup h a its.toArray
 |.dK kvs=>kvs.length<=UG/\(a==sysModules)=wa/\∃vs,KV kvs vs/\h.DictOf (Wk P w) a vs
 |.dT kvs=>kvs.length<=UG/\(a==sysModules)=wa/\∃xs:List (List Key×UD×UA),
   Paired (λ(p:List Key×V) (q:List Key×UD×UA)=>p.1=q.1/\H q.2.1=O (.tup (p.1.map kV))/\RelV p.2 q.2.2) kvs xs /\
   ∃o es ep,h.get? a=O o/\o.ExactDict/\o.data=.dict es ep/\es.toList=xs.map (entryOfKey (tupleKind (Wk P w)))/\(xs.map (·.1)).Nodup
 |.set S n=>h.SetOf (intKind P w) a S n
 |.ins C dx fs=>H dx=O (.own a)/\fs.length<=1000/\dx≠a/\h.get? a=O (PySem.W.instObj C dx) /\
   ∃mA,h.Ns1 dx mA/\(∀f,RelO (fs.lookup f) (mA f))/\PySem.Within mA (fs.map (·.1))
 |.own _=>∃o,h.get? a=O o
 |.xd fs=>∃mA,h.Ns1 a mA/\∀f,RelO (fs.lookup f) (mA f)
 |.rng lo hi=>∃t u v,h.get? a=O {cls:=.type "range", data:=.fields #[.int lo t,.int hi u,.int 1 v]}
 |.frz o u=>h.get? a=O o/\YK H h a u
 |.tbl ps=>h.get? a=O {cls:=.none,data:=.fields ps}
 |.met f x=>h.get? a=O (PySem.W.methodObj (.ref f) (.ref x))
 |.ext φ=>φ h/\(∃o,h.get? a=O o)/\∀h1 h2:Heap,φ h1->(∀o,h1.get? a=O o->h2.get? a=O o)->φ h2
def HOk(H:Hp)(h:Heap):Prop:=∀a o,H a=O o->YK P w H h a o
end
section
variable{P:UC}{w:World}{H H':Hp}{h h':Heap}{a:UD}{o:HO}
theorem YK.lt(x:YK P w H h a o):a<h.objs.size:=by
 cases o with
 |lst xs=>obtain⟨_,_,_,_,e⟩:=x;exact Ql e
 |tup xs=>obtain⟨_,_,_,p⟩:=x;exact p.lt
 |dK kvs=>obtain⟨_,_,_,_,o,_,_,e,_⟩:=x;exact Ql e
 |dT kvs=>obtain⟨_,_,_,_,o,_,_,e,_⟩:=x;exact Ql e
 |set S n=>obtain⟨o,_,_,_,e,_⟩:=x;exact Ql e
 |ins C dx fs=>obtain⟨_,_,_,e,_⟩:=x;exact Ql e
 |own y=>obtain⟨_,e⟩:=x;exact Ql e
 |xd fs=>obtain⟨_,⟨_,_,_,e,_⟩,_⟩:=x;exact Ql e
 |rng lo hi=>obtain⟨_,_,_,e⟩:=x;exact Ql e
 |frz ob u=>obtain⟨e,_⟩:=x;exact Ql e
 |tbl ps=>exact Ql (x)
 |met f y=>exact Ql (x)
 |ext φ=>obtain⟨_,⟨_,e⟩,_⟩:=x;exact Ql e
theorem Paired.mapP   : ∀{l₁:List α}{l₂:List β},Paired F l₁ l₂->(∀a b,F a b->G a b)->Paired G l₁ l₂
 |_,_,.nil,_=>.nil
 |_,_,.cons r t,f=>.cons (f _ _ r) (Paired.mapP t f)
theorem YK.stay(x:YK P w H h a o)(k:∀b u,(b=a∨H b=O (.own a))->h.get? b=O u->h'.get? b=O u)
  (ho:∀b,H b=O (.own a)->H' b=O (.own a)) (ht:∀b xs,H b=O (.tup xs)->H' b=O (.tup xs)):YK P w H' h' a o:=by
 induction o with
 |lst xs=>obtain⟨z,its,n,r,e⟩:=x;exact⟨z,its,n,r,k _ _ (.inl v3) e⟩
 |tup xs=>obtain⟨z,its,r,ob,e,c⟩:=x;exact⟨z,its,r,ob,k _ _ (.inl v3) e,c⟩
 |dK kvs=>obtain⟨z,y,vs,r,ob,es,ep,e,c⟩:=x;exact⟨z,y,vs,r,ob,es,ep,k _ _ (.inl v3) e,c⟩
 |dT kvs=>obtain⟨z,y,xs,r,ob,es,ep,e,c⟩:=x;exact⟨z,y,xs,Paired.mapP r λp q z=>⟨z.1,ht _ _ z.2.1,z.2.2⟩,ob,es,ep,k _ _ (.inl v3) e,c⟩
 |set S n=>obtain⟨ob,es,ep,t,e,c⟩:=x;exact⟨ob,es,ep,t,k _ _ (.inl v3) e,c⟩
 |ins C dx fs=>obtain⟨d,z,ne,e,mA,⟨od,es,ep,e2,c⟩,r⟩:=x;exact⟨ho _ d,z,ne,k _ _ (.inl v3) e,mA,⟨od,es,ep,k _ _ (.inr d) e2,c⟩,r⟩
 |own y=>obtain⟨ob,e⟩:=x;exact⟨ob,k _ _ (.inl v3) e⟩
 |xd fs=>obtain⟨mA,⟨od,es,ep,e,c⟩,r⟩:=x;exact⟨mA,⟨od,es,ep,k _ _ (.inl v3) e,c⟩,r⟩
 |rng lo hi=>obtain⟨t,u,v,e⟩:=x;exact⟨t,u,v,k _ _ (.inl v3) e⟩
 |frz ob u ih=>obtain⟨e,q⟩:=x;exact⟨k _ _ (.inl v3) e,ih q⟩
 |tbl ps=>have e   :=x;exact k a _ (.inl v3) e
 |met f y=>have e   :=x;exact k a _ (.inl v3) e
 |ext φ=>obtain⟨p,⟨o,e⟩,st⟩:=x;exact⟨st _ _ p λo q=>k _ _ (.inl v3) q,⟨o,k _ _ (.inl v3) e⟩,st⟩
theorem HOk.lt(x:HOk P w H h)(e:H a=O o):a<h.objs.size:=(x a o e).lt
theorem HOk.fresh(x:HOk P w H h)(e:h.objs.size<=a):H a=v4:=by
 cases q:H a with
 |none=>rfl
 |some u=>exact absurd (QH (x.lt q) e) (Jv _)
theorem HOk.kept(x:HOk P w H h)(k:∀b u,h.get? b=O u->h'.get? b=O u):HOk P w H h':=λa o e=>
 (x a o e).stay (λb u _ q=>k b u q) (λ_ q=>q) λ_ _ q=>q
theorem HOk.laid(x:HOk P w H h)(k:∀b u,h.get? b=O u->h'.get? b=O u)(hp:h.objs.size<=a)(new:YK P w (upd H a o) h' a o):HOk P w (upd H a o) h':=λb u e=>by
 have hn:=x.fresh hp;by_cases hb:b=a
 .subst hb;rw[Yd]at e;simp_all
 .rw[Zj hb]at e
  exact(x b u e).stay (λc v _ q=>k c v q) (λc q=>by rw[Zj (XH q hn)];exact q) λc xs q=>by rw[Zj (XH q hn)];exact q
end
def Rd(H:Hp)(a:UD)(u:HO):Prop:=H a=O u ∨ ∃o,H a=O (.frz o u)
theorem Rd.ok   {H}{h}{a}{u}(r:Rd H a u)(x:HOk P w H h):YK P w H h a u:=by
 rcases r with r|⟨o,r⟩
 .exact x a u r
 .obtain⟨_,q⟩:=x a _ r
  exact q
noncomputable def Mut:Option HO->Prop
 |some (.lst _)=>True
 |some (.dK _)=>True
 |some (.dT _)=>True
 |some (.set _ _)=>True
 |some (.ins _ _ _)=>True
 |some (.ext _)=>True
 |_=>False
section
variable{P:UC}{w:World}{H:Hp}{h h':Heap}{x e:UD}{o':HO}
theorem HOk.write(ok:HOk P w H h)(mu:Mut (H x))(he:e=x∨H e=O (.own x))(k:∀b u,b≠e->h.get? b=O u->h'.get? b=O u)(yN:∃u,h'.get? e=O u)
  (new:YK P w (upd H x o') h' x o'):HOk P w (upd H x o') h':=λb u q=>by
 have nown:∀c y,H c=O (.own y)->c≠x:=λc y r z=>by subst z;rw[r]at mu;exact mu
 have ntup:∀c xs,H c=O (.tup xs)->c≠x:=λc xs r z=>by subst z;rw[r]at mu;exact mu
 by_cases hb:b=x
 .subst hb;rw[Yd]at q;simp_all
 .rw[Zj hb]at q
  by_cases wx:b=e
  .have q':H b=O (.own x):=by
    rcases he with z|z
    .exact absurd (wx.trans z) hb
    .rw[wx];exact z
   rw[q]at q';cases q';obtain⟨v,hv⟩:=yN;exact⟨v,by simp_all⟩
  .refine(ok b u q).stay (λc v hc r=>k c v ?_ r) (λc r=>by rw[Zj (nown c b r)];exact r) λc xs r=>by rw[Zj (ntup c xs r)];exact r
   rcases hc with rfl|hc
   .exact wx
   grind
end
structure Un(fs ex:wk)(H H':Hp)(h h':Heap):Prop where
 keep:∀b o,h.get? b=O o->H b=v4->b∉fs->b∉ex->h'.get? b=O o
 slot:∀b o,h.get? b=O o->H b=v4->b∈fs->b∉ex->∃sl,h'.get? b=O {o with slots:=sl}
 free:∀b o,h.get? b=O o->H b=v4->b∉ex->H' b=v4
 there:∀b o,h.get? b=O o->b∉ex->∃o',h'.get? b=O o'
 tups:∀b xs,H b=O (.tup xs)->H' b=O (.tup xs)
 frzs:∀b o u,H b=O (.frz o u)->H' b=O (.frz o u)
 tbls:∀b ps,H b=O (.tbl ps)->∃more,H' b=O (.tbl (ps++more))
section
variable{fs fs' ex ex':wk}{H H1 H2:Hp}{h h1 h2 h':Heap}{a x e:UD}{o:HO}
theorem Un.any(u:Un fs ex H H1 h h1){b}{ob}(q:h.get? b=O ob)(n:H b=v4)(hx:b∉ex):∃sl,h1.get? b=O {ob with slots:=sl}:=by
 by_cases hb:b∈fs
 .exact u.slot b ob q n hb hx
 .exact⟨ob.slots,u.keep b ob q n hb hx⟩
theorem Un.kept(k:∀b u,h.get? b=O u->h'.get? b=O u):Un fs ex H H h h':=
 ⟨λb ob q _ _ _=>k b ob q,λb ob q _ _ _=>⟨ob.slots,k b ob q⟩,λ_ _ _ n _=>n,λb ob q _=>⟨ob,k b ob q⟩,λ_ _ q=>q,λ_ _ _ q=>q,λ_ ps q=>⟨#[],by simp_all⟩⟩
theorem Un.refl:Un fs ex H H h h:=Un.kept λ_ _ q=>q
theorem Un.laid(k:∀b u,h.get? b=O u->h'.get? b=O u)(hp:h.objs.size<=a)(hn:H a=v4):Un fs ex H (upd H a o) h h' where
 keep:=λb u q _ _ _=>k b u q
 slot:=λb u q _ _ _=>⟨u.slots,k b u q⟩
 free:=λb u q n _=>by rw[Zj (QY (QH (Ql q) hp))];exact n
 there:=λb u q _=>⟨u,k b u q⟩
 tups:=λb xs q=>by rw[Zj (XH q hn)];exact q
 frzs:=λb u xs q=>by rw[Zj (XH q hn)];exact q
 tbls:=λb ps q=>⟨#[],by rw[Zj (XH q hn),q];simp⟩
theorem Un.write(mu:Mut (H x))(he:e=x∨H e=O (.own x))(k:∀b u,b≠e->h.get? b=O u->h'.get? b=O u)(yN:∃u,h'.get? e=O u):Un fs ex H (upd H x o) h h':=by
 have hx:∀b,H b=v4->b≠x:=λb n z=>by subst z;rw[n]at mu;exact mu
 have hb:∀b,H b=v4->b≠e:=λb n z=>by simp_all
 have hm:∀b u,H b=O u->¬Mut (O u)->b≠x:=λb u q nm z=>by simp_all
 refine⟨λb u q n _ _=>k b u (hb b n) q,λb u q n _ _=>⟨u.slots,k b u (hb b n) q⟩,λb u q n _=>by rw[Zj (hx b n)];exact n,λb u q _=>?_,
  λb xs q=>by rw[Zj (hm b _ q λz=>z)];exact q,λb u xs q=>by rw[Zj (hm b _ q λz=>z)];exact q,λb ps q=>⟨#[],by rw[Zj (hm b _ q λz=>z),q];simp⟩⟩
 by_cases wx:b=e
 .simp_all
 .exact⟨u,k b u wx q⟩
end
noncomputable def trk(h:Heap)(H:Hp):wk:=(UK h.objs.size).filter λa=>(H a).isSome
noncomputable def YN(h:Heap)(H:Hp):Heap:=PySem.W.hideAll h (trk h H)
theorem kf(h:Heap)(H:Hp):(YN h H).objs.size=h.objs.size:=PySem.W.hideAll_size _ _
theorem A9  {H}{b}{o}(e:h.get? b=O o)(n:H b=v4):(YN h H).get? b=O o:=
 PySem.W.hideAll_get _ e λhm=>by have q   :=(Jx.mp hm).2;simp_all
theorem B3     (e:(YN h H).get? b=O o):h.get? b=O o/\H b=v4:=by
 have e'   :=PySem.W.of_hideAll _ e;refine⟨e',?_⟩;cases q:H b with
 |none=>rfl
 |some x=>have hm:b∈trk h H:=List.mem_filter.mpr ⟨List.mem_range.mpr (Heap.lt_size e'),by simp_all⟩;have z:(YN h H).get? b=v4:=PySem.W.hideAll_none _ hm;simp_all
structure Mod(K:Frag)(mg:Str->wj)(base:Heap):Prop where
 kin:K.In base
 glob:base.Ns mainGlobals mg
 blt:∃mb,base.Ns builtinsNs mb/\∀x:Str,x ≠ "__name__" -> mb x=bootBuiltins x
 nolimit:base.NoLimit
structure Cx where
 prog:UC
 w:World
 K:Frag
 mg:Str->wj
 base:Heap
 A:Around
 N:List Str
 s₀:UB
 H₀:Hp
 env:Env
 outer:List Env
 stack:List Env
 ex:wk
 fn:Str->Bool
 calm:Bool
 pn:List (UD×Obj)
 xe:UA->UB->Prop
noncomputable def frs(l:List Env):wk:=l.filterMap (·.frame)
noncomputable abbrev Cx.fs(X:Cx):wk:=frs X.outer
def Vis(sc:Scope)(x:Str):Prop:=sc.names.lookup x=O .local∨sc.names.lookup x=O .cell∨sc.names.lookup x=O .free
def Loc(sc:Scope)(x:Str):Prop:=sc.names.lookup x=O .local∨sc.names.lookup x=O .cell
def Look(env:Env)(h:Heap)(m:Str->wj)(x:Str)(u:UA):Prop:=
 (env.kindOf x=O .local/\m x=O u)∨((env.kindOf x=O .cell∨env.kindOf x=O .free)/\∃c,env.cells.lookup x=O c/\h.IsCell c (O u))
structure Cx.Ok(X:Cx):Prop where
 mod:Mod X.K X.mg X.base
 kind:X.env.scope.kind=.function
 glob:X.env.globals=mainGlobals
 blt:X.env.builtins=builtinsNs
 above:X.s₀.heap.objs.size<=X.env.locals
 inj:∀x y c,X.env.cells.lookup x=O c->X.env.cells.lookup y=O c->x=y
 has:∀x,(X.env.kindOf x=O .cell∨X.env.kindOf x=O .free)->∃c,X.env.cells.lookup x=O c
 cab:∀x c,X.fn x=v5->X.env.cells.lookup x=O c->X.s₀.heap.objs.size<=c
 hd:X.calm=v5->X.A.handled=v4
 frames:X.A.frames=O X.stack
 stk:X.stack=X.outer∨(X.stack=X.env::X.outer/\X.env.frame=O X.env.locals)
 exf:∀b∈X.ex,b≠X.env.locals/\∀x c,X.env.cells.lookup x=O c->c≠b
 bs:∀b o,X.base.get? b=O o->X.s₀.heap.get? b=O o/\X.H₀ b=v4
 bsz:X.base.objs.size<=X.s₀.heap.objs.size
 noex:∀b o,X.base.get? b=O o->b∉X.ex
 exfs:∀b∈X.ex,b∉X.fs
 funs:X.s₀.heap.FunFrames X.base X.outer
 frf:∀b∈X.fs,X.H₀ b=v4
structure Inv(X:Cx)(pins:List (UD×Obj))(σ:List (Option V))(H:Hp)(s:UB):Prop where
 ok:X.Ok
 os:s.os=X.s₀.os
 bare:AllBare s.gens
 base:Un X.fs X.ex X.H₀ H X.s₀.heap s.heap
 loc:∃m,s.heap.Ns X.env.locals m/\∀(i:Nat)(x:Str)(v:V),X.N[i]?=O x->σ[i]?=O (O v)->Vis X.env.scope x->∃u,RelV v u/\Look X.env s.heap m x u
 cell:∀x c,X.env.cells.lookup x=O c->∃v,s.heap.IsCell c v
 free:H X.env.locals=v4
 freeC:∀x c,X.env.cells.lookup x=O c->H c=v4
 pin:∀p∈X.pn++pins,s.heap.get? p.1=O p.2/\H p.1=v4/\p.1≠X.env.locals/\p.1∉X.fs/\∀v,p.2.data≠.cell v
 hok:HOk X.prog X.w H s.heap
 len:σ.length=X.N.length
section
variable{X:Cx}{pins:List (UD×Obj)}{σ:List (Option V)}{H H':Hp}{s:UB}{h':Heap}
theorem Cx.Ok.nofr(ok:X.Ok){b}{o}(e:X.base.get? b=O o):b∉X.fs:=λhb=>by
 have:=(ok.funs.mem hb).1
 lia
theorem Inv.bs(I:Inv X pins σ H s):∀b o,X.base.get? b=O o->s.heap.get? b=O o/\H b=v4:=λb o e=>
 ⟨I.base.keep b o (I.ok.bs b o e).1 (I.ok.bs b o e).2 (I.ok.nofr e) (I.ok.noex b o e),I.base.free b o (I.ok.bs b o e).1 (I.ok.bs b o e).2 (I.ok.noex b o e)⟩
theorem Inv.bk(I:Inv X pins σ H s):∀b o,X.base.get? b=O o->s.heap.get? b=O o:=λb o e=>(I.bs b o e).1
theorem Inv.mod(I:Inv X pins σ H s):Mod X.K X.mg X.base:=I.ok.mod
theorem Inv.kIn(I:Inv X pins σ H s):X.K.In s.heap:=I.ok.mod.kin.keeps I.bk
theorem Inv.fr(I:Inv X pins σ H s):∃m,Fr X.base X.env.locals s.heap m:=
 let ⟨m,hn,_⟩:=I.loc
 ⟨m,hn,I.bk,QE I.ok.bsz I.ok.above⟩
theorem Inv.lt(I:Inv X pins σ H s):X.env.locals<s.heap.objs.size:=let ⟨_,hn,_⟩:=I.loc;hn.lt
theorem Inv.sz(I:Inv X pins σ H s):X.s₀.heap.objs.size<=s.heap.objs.size:=QE I.ok.above (Ut I.lt)
theorem Inv.nofs(I:Inv X pins σ H s){a:UD}(h:s.heap.objs.size<=a):a∉X.fs:=λhb=>by obtain⟨_,o,ho,_⟩:=I.ok.funs.mem hb;exact absurd (QH (Ql ho) (QE I.sz h)) (Jv _)
theorem Inv.cne(I:Inv X pins σ H s):∀x c,X.env.cells.lookup x=O c->c≠X.env.locals:=λx c e z=>by
 obtain⟨v,o,ho,hd⟩:=I.cell x c e;obtain⟨m,⟨o',es,ep,ho',hd',_⟩,_⟩:=I.loc
 lia
theorem Inv.funs(I:Inv X pins σ H s):s.heap.FunFrames X.base X.outer:=by
 have all:∀(l:List Env),(∀b∈frs l,b∈X.fs)->X.s₀.heap.FunFrames X.base l->s.heap.FunFrames X.base l:=by
  intro l;induction l with
  |nil=>intro _ _;trivial
  |cons env r ih=>
   intro hs hl;obtain⟨hk,⟨L,o,hf,hn,ho,hd⟩,hr⟩:=hl;have hL   :=hs L (by unfold frs;rw[JG,hf];exact Qo);obtain⟨sl,e⟩:=I.base.slot L o ho (I.ok.frf L hL) hL λz=>I.ok.exfs L z hL
   exact⟨hk,⟨L,_,hf,hn,e,hd⟩,ih (λb hb=>hs b (by unfold frs;rw[JG,hf];exact Qk _ hb)) hr⟩
 exact all X.outer (λ_ hb=>hb) I.ok.funs
theorem Inv.stack(I:Inv X pins σ H s):s.heap.FunFrames X.base X.stack:=by
 rcases I.ok.stk with e|⟨e,hf⟩
 .rw[e];exact I.funs
 .rw[e]
  obtain⟨m,hn,_⟩:=I.loc;refine .cons (by rw[I.ok.kind];decide) hf hn ?_ I.funs;exact Heap.get?_none_of_le (QE I.ok.bsz I.ok.above)
theorem Inv.stkSub(I:Inv X pins σ H s):∀b∈frs X.stack,b∈X.env.locals::X.fs:=λb hb=>by
 rcases I.ok.stk with e|⟨e,hf⟩
 .rw[e]at hb;exact Qk _ hb
 .rw[e]at hb
  unfold frs at hb;rw[JG,hf]at hb;exact hb
theorem Inv.stkFree(I:Inv X pins σ H s):∀b∈frs X.stack,H b=v4:=λb hb=>by
 rcases QQ.mp (I.stkSub b hb)with e|hb
 .rw[e];exact I.free
 .obtain⟨_,o,ho,_⟩:=I.ok.funs.mem hb
  exact I.base.free b o ho (I.ok.frf b hb) λz=>I.ok.exfs b z hb
theorem Inv.step  {t':Nat}{d':Drawn}{ch:wk}(I:Inv X pins σ H s)
  (hch:∀b∈ch,(b∈X.ex∨X.s₀.heap.objs.size<=b)/\b≠X.env.locals/\(∀x c,X.env.cells.lookup x=O c->c≠b)/\∀p∈X.pn++pins,p.1≠b)
  (keep:∀b o,b≠X.env.locals->b∉X.fs->b∉ch->s.heap.get? b=O o->H b=v4->h'.get? b=O o)
  (slot:∀b o,b≠X.env.locals->b∈X.fs->b∉ch->s.heap.get? b=O o->H b=v4->∃sl,h'.get? b=O {o with slots:=sl}) (free:∀b o,b∉ch->s.heap.get? b=O o->H b=v4->H' b=v4)
  (there:∀b o,b∉ch->s.heap.get? b=O o->∃o',h'.get? b=O o')
  (tups:∀b xs,H b=O (.tup xs)->H' b=O (.tup xs)) (frzs:∀b o u,H b=O (.frz o u)->H' b=O (.frz o u)) (tbls:∀b ps,H b=O (.tbl ps)->∃more,H' b=O (.tbl (ps++more)))
  (ns:∀m,s.heap.Ns X.env.locals m->h'.Ns X.env.locals m) (hok:HOk X.prog X.w H' h') (hg:AllBare g') :
  Inv X pins σ H' {s with heap:=h',gens:=g',drawn:=d',toks:=t'}:=by
 have neL:∀b o,X.s₀.heap.get? b=O o->b≠X.env.locals:=λb o e=>QY (QH (Ql e) I.ok.above)
 have neC:∀b o,X.s₀.heap.get? b=O o->b∉X.ex->b∉ch:=λb o e hx hb=>by
  rcases(hch b hb).1 with z|z
  .exact hx z
  .exact absurd (QH (Ql e) z) (Jv _)
 have cellK:∀x c,X.env.cells.lookup x=O c->∀v,s.heap.IsCell c v->h'.IsCell c v:=λx c e v ⟨o,ho,hd⟩=>by
  have nch:c∉ch:=λz=>(hch c z).2.2.1 x c e v3
  by_cases hc:c∈X.fs
  .obtain⟨sl,q⟩:=slot c o (I.cne x c e) hc nch ho (I.freeC x c e)
   exact⟨_,q,hd⟩
  .exact⟨o,keep c o (I.cne x c e) hc nch ho (I.freeC x c e),hd⟩
 refine⟨I.ok,I.os,hg,⟨λb o e n hb hx=>?_,λb o e n hb hx=>?_,λb o e n hx=>?_,λb o e hx=>?_,λb xs e=>tups b xs (I.base.tups b xs e),λb o xs e=>frzs b o xs (I.base.frzs b o xs e),λb ps e=>?_⟩,?_,λx c e=>?_,?_,λx c e=>?_,λp hp=>?_,hok,I.len⟩
 .exact keep b o (neL b o e) hb (neC b o e hx) (I.base.keep b o e n hb hx) (I.base.free b o e n hx)
 .obtain⟨sl,e1⟩:=I.base.slot b o e n hb hx
  obtain⟨wC,e2⟩:=slot b _ (neL b o e) hb (neC b o e hx) e1 (I.base.free b o e n hx);exact⟨wC,e2⟩
 .obtain⟨o',e1⟩:=I.base.there b o e hx
  exact free b o' (neC b o e hx) e1 (I.base.free b o e n hx)
 .obtain⟨o',e1⟩:=I.base.there b o e hx
  exact there b o' (neC b o e hx) e1
 .obtain⟨m1,e1⟩:=I.base.tbls b ps e
  obtain⟨m2,e2⟩:=tbls b _ e1;exact⟨m1++m2,by rw[e2,Array.append_assoc]⟩
 .obtain⟨m,hn,hl⟩:=I.loc
  refine⟨m,ns m hn,λi x v e1 e2 e3=>?_⟩;obtain⟨u,r,l⟩:=hl i x v e1 e2 e3;refine⟨u,r,?_⟩;rcases l with l|⟨k,c,e,z⟩
  .exact .inl l
  .exact .inr ⟨k,c,e,cellK x c e _ z⟩
 .obtain⟨v,z⟩:=I.cell x c e
  exact⟨v,cellK x c e v z⟩
 .obtain⟨m,⟨o,_,_,ho,_⟩,_⟩:=I.loc
  exact free _ o (λz=>(hch _ z).2.1 v3) ho I.free
 .obtain⟨v,o,ho,hd⟩:=I.cell x c e
  exact free c o (λz=>(hch c z).2.2.1 x c e v3) ho (I.freeC x c e)
 .obtain⟨e,n,ne,nf,d⟩:=I.pin p hp
  have nch:p.1∉ch:=λz=>(hch p.1 z).2.2.2 p hp v3
  exact⟨keep p.1 p.2 ne nf nch e n,free p.1 p.2 nch e n,ne,nf,d⟩
theorem Inv.un  (I:Inv X pins σ H s)(u:Un X.fs [] H H' s.heap h')(hok:HOk X.prog X.w H' h'):Inv X pins σ H' {s with heap:=h',toks:=t'}:=by obtain⟨m,⟨o,es,ep,ho,r⟩,_⟩:=id I.loc;obtain⟨sl,hL⟩:=u.any ho I.free (by simp);exact I.step   (ch:=[]) (λ_ z=>nomatch z) (λb o _ hb _ e n=>u.keep b o e n hb (by simp)) (λb o _ hb _ e n=>u.slot b o e n hb (by simp)) (λb o _ e n=>u.free b o e n (by simp)) (λb o _ e=>u.there b o e (by simp)) u.tups u.frzs u.tbls (λm' hm=>by obtain⟨o',es',ep',ho',r'⟩:=hm;rw[ho]at ho';cases ho';exact⟨_,es',ep',hL,r'⟩) hok I.bare
theorem Inv.call   {d'}{ch}(I:Inv X pins σ H s)(u:Un (frs X.stack) ch H H' s.heap h')(hok:HOk X.prog X.w H' h')(hg:AllBare g')
  (hch:∀b∈ch,(b∈X.ex∨X.s₀.heap.objs.size<=b)/\b≠X.env.locals/\(∀x c,X.env.cells.lookup x=O c->c≠b)/\∀p∈X.pn++pins,p.1≠b) :
  Inv X pins σ H' {s with heap:=h',gens:=g',drawn:=d',toks:=t'}:=by
 obtain⟨m,⟨o,es,ep,ho,r⟩,_⟩:=id I.loc;obtain⟨sl,hL⟩:=u.any ho I.free λz=>(hch _ z).2.1 v3
 exact I.step  hch (λb o hL hb hc e n=>u.keep b o e n (λz=>(QQ.mp (I.stkSub b z)).elim hL hb) hc) (λb o _ _ hc e n=>u.any e n hc) (λb o hc e n=>u.free b o e n hc) (λb o hc e=>u.there b o e hc) u.tups u.frzs u.tbls (λm' hm=>by obtain⟨o',es',ep',ho',r'⟩:=hm;rw[ho]at ho';cases ho';exact⟨_,es',ep',hL,r'⟩) hok hg
theorem Inv.turned  {it}(I:Inv X pins σ H s)(k:∀b o,b≠it->s.heap.get? b=O o->h'.get? b=O o)(hn:H it=v4)(hL:it≠X.env.locals)
  (h1:it∈X.ex∨X.s₀.heap.objs.size<=it) (h2:∀x c,X.env.cells.lookup x=O c->c≠it) (h3:∀p∈X.pn++pins,p.1≠it):Inv X pins σ H {s with heap:=h',toks:=t'}:=by
 have nit:∀b u,H b=O u->b≠it:=λb u e z=>by rw[z,hn]at e;cases e
 refine I.step   (ch:=[it]) (λb hb=>?_) (λb o _ _ hc e _=>k b o (λz=>hc (by simp[z])) e) (λb o _ _ hc e _=>⟨o.slots,k b o (λz=>hc (by simp[z])) e⟩) (λ_ _ _ _ n=>n)
  (λb o hc e=>⟨o,k b o (λz=>hc (by simp[z])) e⟩) (λ_ _ e=>e) (λ_ _ _ e=>e) (λb ps e=>⟨#[],by rw[e];simp⟩) (λm hm=>?_) (λb u e=>?_) I.bare
 .have e   :=by simpa using hb
  subst e;exact⟨h1,hL,h2,h3⟩
 .obtain⟨o,es,ep,ho,r⟩:=hm
  exact⟨o,es,ep,k _ o (Ne.symm hL) ho,r⟩
 .refine(I.hok b u e).stay (λc v hc q=>k c v ?_ q) (λ_ q=>q) λ_ _ q=>q
  rcases hc with z|z
  .rw[z];exact nit b u e
  .exact nit c _ z
theorem Inv.tok(I:Inv X pins σ H s)(t):Inv X pins σ H {s with toks:=t}:=I.un   Un.refl I.hok
theorem Inv.kept  (I:Inv X pins σ H s)(k:∀b u,s.heap.get? b=O u->h'.get? b=O u):Inv X pins σ H {s with heap:=h',toks:=t'}:=I.un (Un.kept k) (I.hok.kept k)
theorem Inv.laid{a:UD}{o}{t'}(I:Inv X pins σ H s)(k:∀b u,s.heap.get? b=O u->h'.get? b=O u)(hp:s.heap.objs.size<=a)(new:YK X.prog X.w (upd H a o) h' a o) :
  Inv X pins σ (upd H a o) {s with heap:=h',toks:=t'}:=I.un (Un.laid k hp (I.hok.fresh hp)) (I.hok.laid k hp new)
theorem Inv.write    (I:Inv X pins σ H s)(mu:Mut (H x))(he:e=x∨H e=O (.own x))(k:∀b u,b≠e->s.heap.get? b=O u->h'.get? b=O u)(yN:∃u,h'.get? e=O u)
  (new:YK X.prog X.w (upd H x o) h' x o):Inv X pins σ (upd H x o) {s with heap:=h',toks:=t'}:=I.un (Un.write mu he k yN) (I.hok.write mu he k yN new)
theorem Inv.pins_of  (I:Inv X pins σ H s)(h:∀p∈pins',s.heap.get? p.1=O p.2/\H p.1=v4/\p.1≠X.env.locals/\p.1∉X.fs/\∀v,p.2.data≠.cell v):Inv X pins' σ H s:=
 ⟨I.ok,I.os,I.bare,I.base,I.loc,I.cell,I.free,I.freeC,λp hp=>(QW.mp hp).elim (λz=>I.pin p (Q8 _ z)) (h p),I.hok,I.len⟩
theorem HU{N:List Str}(hN:N.Nodup){i j:Nat}{x}(a:N[i]?=O x)(b:N[j]?=O x):i=j:=by obtain⟨h1,e1⟩:=Qg.mp a;obtain⟨h2,e2⟩:=Qg.mp b;exact(List.getElem_inj hN).mp (e1.trans e2.symm)
theorem NF{M:Model}{A:Around}{E:UA->UB->Prop}{i:Nat}{x:Str}{v:V}{u:UA}{Q:Unit->UB->Prop}(I:Inv X pins σ H s)(hN:X.N.Nodup)(hi:X.N[i]?=O x)(hx:Loc X.env.scope x)(r:RelV v u)
  (h:∀s',Inv X pins (σ.set i (O v)) H s'->(∃a,Heap.SameBut a s.heap s'.heap/\(a=X.env.locals∨X.env.cells.lookup x=O a))->Q () s') (hf:X.fn x=v5∨X.env.scope.names.lookup x=O .local:=by first|exact .inl rfl|exact .inr rfl|assumption):UH M A (storeName X.env x u) Q E s:=by
 obtain⟨m,hn,hl⟩:=id I.loc;have hcls:(X.env.scope.kind==.class || (X.env.scope.kind==.module&&X.env.locals != X.env.globals))=wa:=by rw[I.ok.kind];rfl
 have hiσ:i<σ.length:=by rw[I.len];exact(Qg.mp hi).1
 have cne:=I.cne
 have tracked:∀{a:UD}{h':Heap},(∃o,s.heap.get? a=O o/\H a=v4)->Heap.SameBut a s.heap h'->HOk X.prog X.w H h':=λ{a h'} ha hs b ob e=>by
  obtain⟨_,_,hfree⟩:=ha;refine(I.hok b ob e).stay (λc w' hc q=>(hs.2 c ?_).trans q) (λ_ q=>q) λ_ _ q=>q
  rintro rfl;rcases hc with rfl|hc
  .rw[hfree]at e;cases e
  .rw[hfree]at hc;cases hc
 rcases hx with hk|hk
 .refine wpAny_storeName_local hk hn (λh' hn' hs=>?_) hcls
  obtain⟨oL,_,_,hoL,_⟩:=id hn;refine h _ ⟨I.ok,I.os,I.bare,⟨λb o e n hb hx=>?_,λb o e n hb hx=>?_,I.base.free,λb o e hx=>?_,I.base.tups,I.base.frzs,I.base.tbls⟩,⟨_,hn',λj y v' e1 e2 e3=>?_⟩,λy c e=>?_,I.free,I.freeC,λp hp=>?_,tracked ⟨oL,hoL,I.free⟩ hs,by simpa using I.len⟩ ⟨_,hs,.inl v3⟩
  .exact(hs.2 b (QY (QH (Ql e) I.ok.above))).trans (I.base.keep b o e n hb hx)
  .obtain⟨sl,e1⟩:=I.base.slot b o e n hb hx
   exact⟨sl,(hs.2 b (QY (QH (Ql e) I.ok.above))).trans e1⟩
  .obtain⟨o',e1⟩:=I.base.there b o e hx
   exact⟨o',(hs.2 b (QY (QH (Ql e) I.ok.above))).trans e1⟩
  .by_cases hj:j=i
   .subst hj
    rw[hi]at e1;cases e1;rw[QN hiσ]at e2;cases e2;exact⟨u,r,.inl ⟨hk,by simp⟩⟩
   .rw[Qs (Ne.symm hj)]at e2
    obtain⟨u',r',q⟩:=hl j y v' e1 e2 e3;refine⟨u',r',?_⟩;rcases q with ⟨k,e⟩|⟨k,c,e,z⟩
    .refine .inl ⟨k,?_⟩
     have:y≠x:=λe=>hj (HU hN e1 (e ▸ hi))
     simp[this,e]
    .exact .inr ⟨k,c,e,z.sameBut hs (cne y c e)⟩
  .obtain⟨w',z⟩:=I.cell y c e
   exact⟨w',z.sameBut hs (cne y c e)⟩
  .obtain⟨e,n,ne,nf,d⟩:=I.pin p hp
   exact⟨(hs.2 p.1 ne).trans e,n,ne,nf,d⟩
 .have hfn:X.fn x=v5:=by
   rcases hf with z|z
   .exact z
   .rw[z]at hk;cases hk
  obtain⟨c,hc⟩:=I.ok.has x (.inl hk);obtain⟨w',z⟩:=I.cell x c hc;refine wpAny_storeName_cell I.ok.kind hk hc z (λh' hc' hs=>?_);obtain⟨oc,hoc,hocd⟩:=id z;refine h {s with heap:=h'} ⟨I.ok,I.os,I.bare,⟨λb o e n hb hx=>?_,λb o e n hb hx=>?_,I.base.free,λb o e hx=>?_,I.base.tups,I.base.frzs,I.base.tbls⟩,⟨m,hn.sameBut hs (Ne.symm (cne x c hc)),λj y v' e1 e2 e3=>?_⟩,λy c' e=>?_,I.free,I.freeC,λp hp=>?_,tracked ⟨oc,hoc,I.freeC x c hc⟩ hs,by simpa using I.len⟩ ⟨c,hs,.inr hc⟩
  .exact(hs.2 b (QY (QH (Ql e) (I.ok.cab x c hfn hc)))).trans (I.base.keep b o e n hb hx)
  .obtain⟨sl,e1⟩:=I.base.slot b o e n hb hx
   exact⟨sl,(hs.2 b (QY (QH (Ql e) (I.ok.cab x c hfn hc)))).trans e1⟩
  .obtain⟨o',e1⟩:=I.base.there b o e hx
   exact⟨o',(hs.2 b (QY (QH (Ql e) (I.ok.cab x c hfn hc)))).trans e1⟩
  .by_cases hj:j=i
   .subst hj
    rw[hi]at e1;cases e1;rw[QN hiσ]at e2;cases e2;exact⟨u,r,.inr ⟨.inl hk,c,hc,hc'⟩⟩
   .rw[Qs (Ne.symm hj)]at e2
    obtain⟨u',r',q⟩:=hl j y v' e1 e2 e3;refine⟨u',r',?_⟩;rcases q with q|⟨k,c',e,z'⟩
    .exact .inl q
    .refine .inr ⟨k,c',e,z'.sameBut hs ?_⟩
     rintro rfl;exact hj (HU hN e1 (I.ok.inj _ _ _ e hc ▸ hi))
  .by_cases hcc:c'=c
   .subst hcc;exact⟨_,hc'⟩
   .obtain⟨w2,z2⟩:=I.cell y c' e
    exact⟨w2,z2.sameBut hs hcc⟩
  .obtain⟨e,n,ne,nf,d⟩:=I.pin p hp
   refine⟨(hs.2 p.1 ?_).trans e,n,ne,nf,d⟩;intro q;rw[q,hoc]at e;have q':oc=p.2:=Q7 e;exact d w' (by rw[←q'];exact hocd)
theorem NA    {i}{x}{v}{u}{Q}(I:Inv X pins σ H s)(hN:X.N.Nodup)(hi:X.N[i]?=O x)(hx:Loc X.env.scope x)(r:RelV v u)
  (h:∀s',Inv X pins (σ.set i (O v)) H s'->Q () s') (hf:X.fn x=v5∨X.env.scope.names.lookup x=O .local:=by first|exact .inl rfl|exact .inr rfl|assumption):UH M A (storeName X.env x u) Q E s:=
 NF I hN hi hx r (λs' I' _=>h s' I') hf
theorem Inv.call'  {ch}(I:Inv X pins σ H s)(ho:s'.os=s.os)(u:Un (frs X.stack) ch H H' s.heap s'.heap)(hok:HOk X.prog X.w H' s'.heap)(hg:AllBare s'.gens)
  (hch:∀b∈ch,(b∈X.ex∨X.s₀.heap.objs.size<=b)/\b≠X.env.locals/\(∀x c,X.env.cells.lookup x=O c->c≠b)/\∀p∈X.pn++pins,p.1≠b):Inv X pins σ H' s':=by
 obtain⟨h',g',d',t',o'⟩:=s';have e   :=ho;subst e;exact I.call    u hok hg hch
end
abbrev XK:=UA->wo->Hp->Prop
abbrev St:=List (Option V)
abbrev VK:=V->Hp->Prop
abbrev TE:=St->Hp->VK->Prop
abbrev TT:=St->Hp->(Bool->Hp->Prop)->Prop
abbrev TA:=St->Hp->(List V->Hp->Prop)->Prop
structure Ends where
 nx:St->Hp->Prop
 rt:VK
 bk:St->Hp->Prop:=λ_ _=>False
 ct:St->Hp->Prop:=λ_ _=>False
abbrev TS:=Ends->St->Hp->Prop
def EP(X:Cx)(pins:List (UD×Obj))(σ:St)(Q:VK)(u:UA)(s':UB):Prop:=∃v H',Inv X pins σ H' s'/\RelV v u/\Q v H'
def TP(X:Cx)(pins:List (UD×Obj))(σ:St)(Q:Bool->Hp->Prop)(b:Bool)(s':UB):Prop:=∃H',Inv X pins σ H' s'/\Q b H'
def AP(X:Cx)(pins:List (UD×Obj))(σ:St)(Q:List V->Hp->Prop)(us:we)(s':UB):Prop:=∃vs H',Inv X pins σ H' s'/\Vals vs us/\Q vs H'
def SP(X:Cx)(pins:List (UD×Obj))(D:Ends)(f:Flow)(s':UB):Prop:=
 match f with
 |.next=>∃σ' H',Inv X pins σ' H' s'/\D.nx σ' H'
 |.brk=>∃σ' H',Inv X pins σ' H' s'/\D.bk σ' H'
 |.cont=>∃σ' H',Inv X pins σ' H' s'/\D.ct σ' H'
 |.ret u=>∃v σ' H',Inv X pins σ' H' s'/\RelV v u/\D.rt v H'
def PE(X:Cx)(e:UF)(t:TE):Prop:=
 ∀(pins:List (UD×Obj))(s:UB)(σ:St)(H:Hp)(Q:VK),Inv X pins σ H s->t σ H Q->UH (model X.prog X.w) X.A (eval e X.env) (EP X pins σ Q) X.xe s
def PT(X:Cx)(e:UF)(t:TT):Prop:=
 ∀(pins:List (UD×Obj))(s:UB)(σ:St)(H:Hp)(Q:Bool->Hp->Prop),Inv X pins σ H s->t σ H Q->UH (model X.prog X.w) X.A (isTrue e X.env (eval e X.env)) (TP X pins σ Q) X.xe s
def PW(X:Cx)(e:UF)(t:TT):Prop:=
 ∀(whole:Sem UA)(pins:List (UD×Obj))(s:UB)(σ:St)(H:Hp)(Q:Bool->Hp->Prop),Inv X pins σ H s->t σ H Q->UH (model X.prog X.w) X.A (isTrue e X.env whole) (TP X pins σ Q) X.xe s
theorem PW.pt{X:Cx}{e:UF}{t:TT}(h:PW X e t):PT X e t:=h _
def PA(X:Cx)(es:wf)(t:TA):Prop:=
 ∀(pos:Pos)(pins:List (UD×Obj))(s:UB)(σ:St)(H:Hp)(Q:List V->Hp->Prop),Inv X pins σ H s->t σ H Q->UH (model X.prog X.w) X.A (spliced (backTo pos (UI es X.env))) (AP X pins σ Q) X.xe s
def PS(X:Cx)(st:Stmt)(t:TS):Prop:=
 ∀(pins:List (UD×Obj))(s:UB)(σ:St)(H:Hp)(D:Ends),Inv X pins σ H s->t D σ H->UH (model X.prog X.w) X.A (exec st X.env) (SP X pins D) X.xe s
def PSs(X:Cx)(st:List Stmt)(t:TS):Prop:=
 ∀(pins:List (UD×Obj))(s:UB)(σ:St)(H:Hp)(D:Ends),Inv X pins σ H s->t D σ H->UH (model X.prog X.w) X.A (execs st X.env) (SP X pins D) X.xe s
theorem thn  {t:Sem α}{Q Q'}{M}{A}{E}{s}(h:UH M A t Q E s)(hQ:∀a s,Q a s->Q' a s):UH M A t Q' E s:=QL h hQ λ_ _ x=>x
section
variable{X:Cx}
noncomputable def Ye(i:Nat):TE:=λσ H Q=>∃v,σ[i]?=O (O v)/\Q v H
noncomputable def tC(v:V):TE:=λ_ H Q=>Q v H
theorem M0   {pos}(hN:X.N[i]?=O x)(hv:Vis X.env.scope x)(hd:(x==("__debug__" : Str))=wa:=by decide)(hcd:(x==("__classdict__" : Str))=wa:=by decide):PE X (.Name x pos) (Ye i):=by
 intro pins s σ H Q I h;obtain⟨v,e,h⟩:=h;obtain⟨m,hn,hl⟩:=I.loc;obtain⟨u,r,l⟩:=hl i x v hN e hv;have fin:EP X pins σ Q u s:=⟨v,H,I,r,h⟩;rcases l with ⟨hk,hm⟩|⟨hk,c,hc,hcell⟩
 .exact wpAny_Name (wpAny_loadName_local I.ok.kind hk hn hm fin) hd
 .rcases hk with hk|hk
  .exact wpAny_Name (wpAny_loadName_cell I.ok.kind hk hc hcell fin) hd
  .exact wpAny_Name (wpAny_loadName_free I.ok.kind hk hc hcell fin hcd) hd
theorem DQ  : PE X (.Constant (.int i) j pos) (tC (.int i)):=λ_ _ _ H _ I h=>wpAny_Constant_int ⟨.int i,H,I.tok _,⟨_,rfl⟩,h⟩
theorem Dx  : PE X (.Constant (.bool b) j pos) (tC (.bl b)):=λ_ _ _ H _ I h=>Constant_bool ⟨.bl b,H,I,rfl,h⟩
theorem DP  : PE X (.Constant .none j pos) (tC .non):=λ_ _ _ H _ I h=>Constant_none ⟨.non,H,I,rfl,h⟩
theorem DO  : PE X (.Constant (.str x) j pos) (tC (.str x)):=λ_ _ _ H _ I h=>Calls.Constant_str ⟨.str x,H,I.tok _,⟨_,rfl⟩,h⟩
def Gl(X:Cx)(x:Str):Prop:=X.env.kindOf x=O .globalImplicit
theorem PU  {pins}{s}{σ:St}{H}{x}{u}{pos}{Q}(I:Inv X pins σ H s)(hg:Gl X x)(hm:X.mg x=O u)(h:Q u s)
  (hd:(x==("__debug__" : Str))=wa:=by decide):UH (model X.prog X.w) X.A (eval (.Name x pos) X.env) Q E s:=
 Calls.Name_function_global I.ok.kind hg (Calls.loadGlobal_global (by rw[I.ok.glob];exact I.mod.glob.keeps I.bk) hm h) hd
theorem WZ{E}{pins}{s}{σ:St}{H}{x}{u}{pos}{Q}(I:Inv X pins σ H s)(hg:Gl X x)(hm:X.mg x=v4)(hv:bootBuiltins x=O u)(h:Q u s)
  (hn:x ≠ "__name__" :=by decide) (hd:(x==("__debug__" : Str))=wa:=by decide):UH (model X.prog X.w) X.A (eval (.Name x pos) X.env) Q E s:=by
 obtain⟨mb,h1,h2⟩:=I.mod.blt;exact Calls.Name_function_global I.ok.kind hg (Calls.loadGlobal_builtin (by rw[I.ok.glob];exact I.mod.glob.keeps I.bk) hm (by rw[I.ok.blt];exact h1.keeps I.bk) ((h2 x hn).trans hv) h) hd
theorem L1   {u}{pos}(hg:Gl X x)(hm:X.mg x=O u)(r:RelV v u)(hd:(x==("__debug__" : Str))=wa:=by decide):PE X (.Name x pos) (tC v):=
 λ_ _ _ H _ I h=>PU I hg hm ⟨v,H,I,r,h⟩ hd
theorem B2   {u}{pos}(hg:Gl X x)(hm:X.mg x=v4)(hv:bootBuiltins x=O u)(r:RelV v u)(hn:x ≠ "__name__" :=by decide)(hd:(x==("__debug__" : Str))=wa:=by decide):PE X (.Name x pos) (tC v):=
 λ_ _ _ H _ I h=>WZ I hg hm hv ⟨v,H,I,r,h⟩ hn hd
variable{a b:UF}{ta tb:TE}{pos:Pos}
def PC(X:Cx)(op:CmpOp)(a b:UF)(t:TE):Prop:=
 ∀(pins:List (UD×Obj))(s:UB)(σ:St)(H:Hp)(Q:VK),Inv X pins σ H s->t σ H Q ->
  UH (model X.prog X.w) X.A (eval a X.env) (λv s₁=>UH (model X.prog X.w) X.A (eval b X.env) (λu s₂=>UH (model X.prog X.w) X.A (UJ op v u) (EP X pins σ Q) X.xe s₂) X.xe s₁) X.xe s
theorem HS(b){op}(h:op≠.In)(h2:op≠.NotIn):behindInMarks op b=wa:=by
 have e1:(op==CmpOp.In)=wa:=by lia
 have e2:(op==CmpOp.NotIn)=wa:=by lia
 cases b<;>simp[behindInMarks,e1,e2]
noncomputable def tIsN(ta:TE):TE:=λσ H Q=>ta σ H λx H1=>Q (.bl (decide (x=.non))) H1
noncomputable def Ek(ta:TE):TE:=λσ H Q=>ta σ H λx H1=>Q (.bl (!decide (x=.non))) H1
theorem RelV.none_iff   (r:RelV x v):(v==Value.none)=decide (x=.non):=by
 cases x with
 |non=>cases r;rfl
 |bl _=>cases r;rfl
 |int _=>obtain⟨t,rfl⟩:=r;rfl
 |str _=>obtain⟨t,rfl⟩:=r;rfl
 |byt _=>obtain⟨t,rfl⟩:=r;rfl
 |flt _=>obtain⟨t,rfl⟩:=r;rfl
 |ref _=>cases r;rfl
 |ty _=>cases r;rfl
theorem MZ  (ha:PE X a ta):PC X .Is a (.Constant .none j pos') (tIsN ta):=by intro pins s σ H Q I h;refine thn (ha pins s σ H _ I h) λv s1 ⟨x,H1,I1,r1,q1⟩=>?_;exact Constant_none (is_none_gen ⟨.bl _,H1,I1,by rw[r1.none_iff];rfl,q1⟩)
theorem B0  (ha:PE X a ta):PC X .IsNot a (.Constant .none j pos') (Ek ta):=by intro pins s σ H Q I h;refine thn (ha pins s σ H _ I h) λv s1 ⟨x,H1,I1,r1,q1⟩=>?_;exact Constant_none (isnot_none_gen ⟨.bl _,H1,I1,by rw[r1.none_iff];rfl,q1⟩)
noncomputable def tB(t:TE):TT:=λσ H Q=>t σ H λx H1=>∃c,x=.bl c/\Q c H1
theorem DN   (h:PC X op a b t)(h1:behindInMarks op b=wa:=by first|exact HS _ (by decide) (by decide)|rfl):PE X (.Compare a [op] [b] pos) t:=λpins s σ H Q I hw=>wpAny_Compare1 (h pins s σ H Q I hw) h1
theorem MY   (h:PC X op a b t)(h1:behindInMarks op b=wa:=by first|exact HS _ (by decide) (by decide)|rfl):PT X (.Compare a [op] [b] pos) (tB t):=by intro pins s σ H Q I hw;refine wpAny_isTrue_Compare1 (thn (h pins s σ H _ I hw) λv s1 h1=>thn h1 λu s2 h2=>thn h2 λc s3 ⟨x,H1,I1,r1,q1⟩=>?_) h1;obtain⟨d,rfl,q⟩:=q1;cases r1;exact Q5 ⟨H1,I1,q⟩
theorem DM   (h:PE X e t)(he:∀whole,isTrue e X.env whole=(do let v ←whole;standAt e.pos;holding [v] (truthy v)):=by intro _;rfl):PT X e (tB t):=by intro pins s σ H Q I hw;refine isTrue_plain (thn (h pins s σ H _ I hw) λv s1 ⟨x,H1,I1,r1,q1⟩=>?_) (he _);obtain⟨d,rfl,q⟩:=q1;cases r1;exact Q5 ⟨H1,I1,q⟩
variable{tA tB':TT}{rest:wf}
noncomputable def tAnd(t u:TT):TT:=λσ H Q=>t σ H λc H1=>if c=v5 then u σ H1 Q else Q wa H1
noncomputable def tOr(t u:TT):TT:=λσ H Q=>t σ H λc H1=>if c=v5 then Q v5 H1 else u σ H1 Q
noncomputable def tNot(t:TT):TT:=λσ H Q=>t σ H λc H1=>Q (!c) H1
theorem BZ(ha:PT X a tA):PW X (.BoolOp .And [a] pos) tA:=by
 intro wh pins s σ H Q I h;refine isTrue_and (thn (ha pins s σ H Q I h) λc s1 e=>?_);cases c with
 |true=>exact isTrue_and_nil e
 |false=>exact e
theorem DK(ha:PT X a tA):PW X (.BoolOp .Or [a] pos) tA:=by
 intro wh pins s σ H Q I h;refine isTrue_or (thn (ha pins s σ H Q I h) λc s1 e=>?_);cases c with
 |false=>exact isTrue_or_nil e
 |true=>exact e
theorem DJ(ha:PT X a tA)(hb:PW X (.BoolOp .And (b::rest) pos) tB'):PW X (.BoolOp .And (a::b::rest) pos) (tAnd tA tB'):=by
 intro wh pins s σ H Q I h;refine isTrue_and (thn (ha pins s σ H _ I h) λc s1 ⟨H1,I1,q1⟩=>?_);cases c with
 |true=>exact hb wh pins s1 σ H1 Q I1 q1
 |false=>exact⟨H1,I1,q1⟩
theorem Ej(ha:PT X a tA)(hb:PW X (.BoolOp .Or (b::rest) pos) tB'):PW X (.BoolOp .Or (a::b::rest) pos) (tOr tA tB'):=by
 intro wh pins s σ H Q I h;refine isTrue_or (thn (ha pins s σ H _ I h) λc s1 ⟨H1,I1,q1⟩=>?_);cases c with
 |true=>exact⟨H1,I1,q1⟩
 |false=>exact hb wh pins s1 σ H1 Q I1 q1
theorem DI(ha:PT X a tA):PT X (.UnaryOp .Not a pos) (tNot tA):=by intro pins s σ H Q I h;exact isTrue_not (ha pins s σ H _ I h)
noncomputable def Ei(ta tb:TE):TE:=λσ H Q=>ta σ H λx H1=>∃c,x=.bl c/\if c=v5 then tb σ H1 Q else Q (.bl wa) H1
noncomputable def tOrV(ta tb:TE):TE:=λσ H Q=>ta σ H λx H1=>∃c,x=.bl c/\if c=v5 then Q (.bl v5) H1 else tb σ H1 Q
noncomputable def Eh(ta:TE):TE:=λσ H Q=>ta σ H λx H1=>∃c,x=.bl c/\Q (.bl (!c)) H1
theorem DH  {t}(h:PE X a t):PE X (.BoolOp op [a] pos) t:=λpins s σ H Q I hw=>BoolOp_one (h pins s σ H Q I hw)
theorem Cu(ha:PE X a ta)(hb:PE X (.BoolOp .And (b::rest) pos) tb):PE X (.BoolOp .And (a::b::rest) pos) (Ei ta tb):=by
 intro pins s σ H Q I h;refine BoolOp_and (thn (ha pins s σ H _ I h) λv s1 ⟨x,H1,I1,r1,q1⟩=>?_);obtain⟨c,rfl,q1⟩:=q1;cases r1;refine Q5 ?_;cases c with
 |true=>exact hb pins s1 σ H1 Q I1 q1
 |false=>exact⟨.bl wa,H1,I1,rfl,q1⟩
theorem Eg(ha:PE X a ta)(hb:PE X (.BoolOp .Or (b::rest) pos) tb):PE X (.BoolOp .Or (a::b::rest) pos) (tOrV ta tb):=by
 intro pins s σ H Q I h;refine BoolOp_or (thn (ha pins s σ H _ I h) λv s1 ⟨x,H1,I1,r1,q1⟩=>?_);obtain⟨c,rfl,q1⟩:=q1;cases r1;refine Q5 ?_;cases c with
 |false=>exact hb pins s1 σ H1 Q I1 q1
 |true=>exact⟨.bl v5,H1,I1,rfl,q1⟩
theorem Ct(ha:PE X a ta):PE X (.UnaryOp .Not a pos) (Eh ta):=by intro pins s σ H Q I h;refine UnaryOp_ (thn (ha pins s σ H _ I h) λv s1 ⟨x,H1,I1,r1,q1⟩=>?_);obtain⟨c,rfl,q1⟩:=q1;cases r1;exact not_of (Q5 ⟨.bl _,H1,I1,rfl,q1⟩)
noncomputable def tIf(t:TT)(ta tb:TE):TE:=λσ H Q=>t σ H λc H1=>if c=v5 then ta σ H1 Q else tb σ H1 Q
theorem A8  (hc:PT X c tA)(ha:PE X a ta)(hb:PE X b tb):PE X (.IfExp c a b pos) (tIf tA ta tb):=by
 intro pins s σ H Q I h;refine wpAny_IfExp (thn (hc pins s σ H _ I h) λd s1 ⟨H1,I1,q1⟩=>?_);cases d with
 |true=>exact ha pins s1 σ H1 Q I1 q1
 |false=>exact hb pins s1 σ H1 Q I1 q1
end
def SqL(K:Frag)(H:Hp)(a:UD)(xs:List V):Prop:=
 Rd H a (.lst xs) ∨
  ∃(o:Obj)(its:Array UA)(n:Nat),K.lookup a=O o/\o.cls=.type "list" /\ o.dict=v4/\o.data=.seq its n/\its.size<=UG/\Vals xs its.toList
def SqT(K:Frag)(H:Hp)(a:UD)(xs:List V):Prop:=
 Rd H a (.tup xs) ∨
  ∃(o:Obj)(its:Array UA)(n:Nat),K.lookup a=O o/\o.cls=.type "tuple" /\ o.data=.seq its n/\its.size<=UG/\Vals xs its.toList
noncomputable def absV:UA->Option V
 |.none=>O .non
 |.bool b=>O (.bl b)
 |.int i _=>O (.int i)
 |.str x _=>O (.str x)
 |.bytes b _=>O (.byt b)
 |.float b _=>O (.flt b)
 |.ref a=>O (.ref a)
 |.type n=>O (.ty n)
 |_=>v4
theorem RelV.abs   (r:RelV x u):absV u=O x:=by
 cases x with
 |non=>cases r;rfl
 |bl _=>cases r;rfl
 |int _=>obtain⟨t,rfl⟩:=r;rfl
 |str _=>obtain⟨t,rfl⟩:=r;rfl
 |byt _=>obtain⟨t,rfl⟩:=r;rfl
 |flt _=>obtain⟨t,rfl⟩:=r;rfl
 |ref _=>cases r;rfl
 |ty _=>cases r;rfl
theorem RelV.inj  {u}(r:RelV x u)(q:RelV y u):x=y:=Q7 (r.abs.symm.trans q.abs)
theorem Vals.inj:∀{xs ys}{us},Vals xs us->Vals ys us->xs=ys
 |_,_,_,.nil,.nil=>rfl
 |_,_,_,.cons r t,.cons r' t'=>by rw[r.inj r',Vals.inj t t']
section
variable{X:Cx}{pins:List (UD×Obj)}{σ:St}{H:Hp}{s:UB}{a:UD}{xs ys:List V}
theorem SqL.of{K:Frag}(h:H a=O (.lst xs)):SqL K H a xs:=.inl (.inl h)
theorem SqT.of{K:Frag}(h:H a=O (.tup xs)):SqT K H a xs:=.inl (.inl h)
theorem Inv.list(I:Inv X pins σ H s)(h:SqL X.K H a xs):∃its:we,Vals xs its/\PlainL s.heap a its.toArray/\xs.length<=UG:=by
 rcases h with h|⟨o,its,n,hk,hc,hd,hs,hz,r⟩
 .obtain⟨z,its,n,r,e⟩:=h.ok I.hok
  exact⟨its,r,⟨_,n,e,rfl,rfl,rfl⟩,z⟩
 .refine⟨its.toList,r,⟨o,n,I.kIn a o hk,hc,hd,by simpa using hs⟩,?_⟩
  have e:=r.length
  grind
theorem Inv.tuple(I:Inv X pins σ H s)(h:SqT X.K H a xs):∃its:we,Vals xs its/\IsTup s.heap a its.toArray/\xs.length<=UG:=by
 rcases h with h|⟨o,its,n,hk,hc,hs,hz,r⟩
 .obtain⟨z,its,r,p⟩:=h.ok I.hok
  exact⟨its,r,p,z⟩
 .refine⟨its.toList,r,⟨o,I.kIn a o hk,hc,n,by simpa using hs⟩,?_⟩
  have e:=r.length;simp_all
theorem Inv.list_inj(I:Inv X pins σ H s)(h:SqL X.K H a xs)(h':SqL X.K H a ys):xs=ys:=by
 obtain⟨its,r,⟨o,n,e,_,_,d⟩,_⟩:=I.list h;obtain⟨its',r',⟨o',n',e',_,_,d'⟩,_⟩:=I.list h';rw[e]at e';cases e';rw[d]at d';injection d' with d1 _;have   :=by simpa using congrArg Array.toList d1
 subst this;exact r.inj r'
theorem Inv.tuple_inj(I:Inv X pins σ H s)(h:SqT X.K H a xs)(h':SqT X.K H a ys):xs=ys:=by
 obtain⟨its,r,⟨o,e,_,n,d⟩,_⟩:=I.tuple h;obtain⟨its',r',⟨o',e',_,n',d'⟩,_⟩:=I.tuple h';rw[e]at e';cases e';rw[d]at d';injection d' with d1 _;have   :=by simpa using congrArg Array.toList d1
 subst this;exact r.inj r'
end
noncomputable abbrev Cx.wish(X:Cx)(E:UA->UB->Prop):Cx:={X with xe:=E}
noncomputable abbrev Cx.nox(X:Cx):Cx:=X.wish λ_ _=>False
theorem Cx.Ok.wish{X:Cx}(ok:X.Ok)(E):(X.wish E).Ok:=
 ⟨ok.mod,ok.kind,ok.glob,ok.blt,ok.above,ok.inj,ok.has,ok.cab,ok.hd,ok.frames,ok.stk,ok.exf,ok.bs,ok.bsz,ok.noex,ok.exfs,ok.funs,ok.frf⟩
theorem Cx.Ok.unwish{X:Cx}{E}(ok:(X.wish E).Ok):X.Ok:=
 ⟨ok.mod,ok.kind,ok.glob,ok.blt,ok.above,ok.inj,ok.has,ok.cab,ok.hd,ok.frames,ok.stk,ok.exf,ok.bs,ok.bsz,ok.noex,ok.exfs,ok.funs,ok.frf⟩
section
variable{X:Cx}{pins:List (UD×Obj)}{σ:St}{H:Hp}{s:UB}{E:UA->UB->Prop}
theorem Inv.wish(I:Inv X pins σ H s)(E):Inv (X.wish E) pins σ H s:=⟨I.ok.wish E,I.os,I.bare,I.base,I.loc,I.cell,I.free,I.freeC,I.pin,I.hok,I.len⟩
theorem Inv.unwish(I:Inv (X.wish E) pins σ H s):Inv X pins σ H s:=⟨I.ok.unwish,I.os,I.bare,I.base,I.loc,I.cell,I.free,I.freeC,I.pin,I.hok,I.len⟩
theorem SP.unwish    (h:SP (X.wish E) pins D f s'):SP X pins D f s':=by
 cases f with
 |next=>obtain⟨σ',H',I,q⟩:=h;exact⟨σ',H',I.unwish,q⟩
 |brk=>obtain⟨σ',H',I,q⟩:=h;exact⟨σ',H',I.unwish,q⟩
 |cont=>obtain⟨σ',H',I,q⟩:=h;exact⟨σ',H',I.unwish,q⟩
 |ret u=>obtain⟨v,σ',H',I,r,q⟩:=h;exact⟨v,σ',H',I.unwish,r,q⟩
theorem PSs.nox{st}{t}(h:PSs X.nox st t):PSs X st t:=λpins s σ H D I hw=>
 QL (h pins s σ H D (I.wish _) hw) (λ_ _ q=>q.unwish) λ_ _ z=>False.elim z
end
section
variable{X:Cx}{st:Stmt}{rest:List Stmt}{t u:TS}{e:UF}{te:TE}{pos:Pos}
noncomputable def Ef:TS:=λD σ H=>D.nx σ H
noncomputable def tSeq(t u:TS):TS:=λD σ H=>t {D with nx:=u D} σ H
theorem BY:PSs X [] Ef:=λ_ _ σ H _ I h=>wpAny_execs_nil ⟨σ,H,I,h⟩
theorem A7(h1:PS X st t)(h2:PSs X rest u):PSs X (st::rest) (tSeq t u):=by
 intro pins s σ H D I h;refine wpAny_execs_cons (thn (h1 pins s σ H {D with nx:=u D} I h) λf s1 q=>?_);cases f with
 |next=>obtain⟨σ',H',I',q⟩:=q;exact h2 pins s1 σ' H' D I' q
 |ret v=>exact q
 |brk=>exact q
 |cont=>exact q
theorem L0(h1:PS X st t):PSs X [st] t:=by
 intro pins s σ H D I h;refine wpAny_execs_cons (thn (h1 pins s σ H D I h) λf s1 q=>?_);cases f with
 |next=>exact wpAny_execs_nil q
 |ret v=>exact q
 |brk=>exact q
 |cont=>exact q
theorem Inv.quiet  {σ:St}{H}{s}(I:Inv X pins σ H s):interactive X.env=wa:=by simp[interactive,I.ok.kind]
noncomputable def Mv(te:TE):TS:=λD σ H=>te σ H λ_ H1=>D.nx σ H1
theorem Nh(he:PE X e te)(hs:swapsWith e v4 pos.line X.env=pure wa:=by rfl):PS X (.Expr e pos) (Mv te):=by intro pins s σ H D I h;exact wpAny_Expr_any (thn (he pins s σ H _ I h) λv s1 ⟨x,H1,I1,r1,q1⟩=>⟨σ,H1,I1,q1⟩) I.quiet hs
noncomputable def tRet(te:TE):TS:=λD σ H=>te σ H D.rt
theorem Cs(he:PE X e te):PS X (.Return (O e) pos) (tRet te):=by intro pins s σ H D I h;exact wpAny_Return_some (thn (he pins s σ H _ I h) λv s1 ⟨x,H1,I1,r1,q1⟩=>⟨x,σ,H1,I1,r1,q1⟩)
noncomputable def tIfS(c:TT)(t u:TS):TS:=λD σ H=>c σ H λb H1=>if b=v5 then t D σ H1 else u D σ H1
theorem Ee   {tc}(hc:PT X c tc)(ha:PSs X a t)(hb:PSs X b u):PS X (.If c a b pos) (tIfS tc t u):=by
 intro pins s σ H D I h;refine wpAny_If (thn (hc pins s σ H _ I h) λd s1 ⟨H1,I1,q1⟩=>?_);cases d with
 |true=>exact ha pins s1 σ H1 D I1 q1
 |false=>exact hb pins s1 σ H1 D I1 q1
end
abbrev TG:=V->St->Hp->(St->Hp->Prop)->Prop
abbrev TGs:=List V->St->Hp->(St->Hp->Prop)->Prop
def PG(X:Cx)(target:UF)(t:TG):Prop:=
 ∀(pins:List (UD×Obj))(s:UB)(σ:St)(H:Hp)(v:V)(u:UA)(Q:St->Hp->Prop),Inv X pins σ H s->RelV v u->t v σ H Q ->
  UH (model X.prog X.w) X.A (assign target X.env u) (λ_ s'=>∃σ' H',Inv X pins σ' H' s'/\Q σ' H') X.xe s
def PGs(X:Cx)(ts:wf)(t:TGs):Prop:=
 ∀(pins:List (UD×Obj))(s:UB)(σ:St)(H:Hp)(vs:List V)(us:we)(Q:St->Hp->Prop),Inv X pins σ H s->Vals vs us->t vs σ H Q ->
  UH (model X.prog X.w) X.A (assignInOrder ((UX ts X.env).map (·.2)) us) (λ_ s'=>∃σ' H',Inv X pins σ' H' s'/\Q σ' H') X.xe s
abbrev TIp:=V->V->Hp->VK->Prop
def PIp(X:Cx)(op:Operator)(t:TIp):Prop:=
 ∀(pins:List (UD×Obj))(s:UB)(σ:St)(H:Hp)(x y:V)(v u:UA)(Q:VK),Inv X pins σ H s->RelV x v->RelV y u->t x y H Q ->
  UH (model X.prog X.w) X.A (inplaceOp op v u) (EP X pins σ Q) X.xe s
section
variable{X:Cx}{pos:Pos}
noncomputable def OB(i:Nat):TG:=λv σ H Q=>Q (σ.set i (O v)) H
theorem WR   (hN:X.N.Nodup)(hi:X.N[i]?=O x)(hx:Loc X.env.scope x)(hf:X.fn x=v5∨X.env.scope.names.lookup x=O .local:=by first|exact .inl rfl|exact .inr rfl|assumption):PG X (.Name x pos) (OB i):=by intro pins s σ H v u Q I r h;exact wpAny_assign_Name (NA I hN hi hx r (λs' I'=>⟨_,H,I',h⟩) hf)
noncomputable def gNil:TGs:=λvs σ H Q=>vs=[]/\Q σ H
noncomputable def Ed(t:TG)(u:TGs):TGs:=λvs σ H Q=>∃v r,vs=v::r/\t v σ H λσ' H'=>u r σ' H' Q
theorem BX:PGs X [] gNil:=by intro pins s σ H vs us Q I r h;obtain⟨e,h⟩:=h;exact assignInOrder_nil ⟨σ,H,I,h⟩
theorem A6   {t}{u}(h1:PG X e t)(h2:PGs X es u)
  (hs:(UX (e::es) X.env).map (·.2)=assign e X.env::(UX es X.env).map (·.2):=by rfl):PGs X (e::es) (Ed t u):=by
 intro pins s σ H vs us Q I r h;obtain⟨v,vr,e1,h⟩:=h;subst e1;cases r with
 |cons r rr=>rw[hs];refine assignInOrder_cons (thn (h1 pins s σ H _ _ _ I r h) λ_ s1 ⟨σ1,H1,I1,q1⟩=>?_);exact h2 pins s1 σ1 H1 _ _ Q I1 rr q1
noncomputable def gTup(K:Frag)(n:Nat)(t:TGs):TG:=λv σ H Q=>∃a xs,v=.ref a/\SqT K H a xs/\xs.length=n/\t xs σ H Q
theorem Cr  {k}{t}{n}(hc:X.calm=v5)(h:PGs X es t)
  (hn:(UX es X.env).length=n:=by rfl) (hst:(UX es X.env).findIdx? (·.1)=v4:=by rfl):PG X (.Tuple es k pos) (gTup X.K n t):=by
 intro pins s σ H v u Q I r hw;obtain⟨a,xs,e1,hq,hl,hw⟩:=hw;subst e1;cases r;obtain⟨its,rv,ht,hz⟩:=I.tuple hq;refine assign_Tuple_tuple (I.ok.hd hc) ht (by simp[hn,←hl,rv.length]) hst λh' hx=>?_
 have I1   :=I.kept (t':=s.toks) λb o e=>hx b o (QY (Ql e)) e;exact h pins _ σ H xs _ Q I1 (by simpa using rv) hw
noncomputable def tAsg(te:TE)(g:TG):TS:=λD σ H=>te σ H λx H1=>g x σ H1 D.nx
theorem Cq{tg e}{te}{g}(he:PE X e te)(hg:PG X tg g)(hs:swapsWithSole [tg] e pos.line X.env=pure wa:=by rfl)(hw:swappedStores [tg] e X.env=pure v4:=by rfl)
  (h1:(UX [tg] X.env).map (·.2)=[assign tg X.env]:=by rfl):PS X (.Assign [tg] e pos) (tAsg te g):=by
 intro pins s σ H D I h;refine wpAny_Assign_stores (thn (he pins s σ H _ I h) λv s1 ⟨x,H1,I1,r1,q1⟩=>?_) hs hw;rw[h1];exact thn (hg pins s1 σ H1 x v _ I1 r1 q1) λ_ s2 q=>q
theorem MX      (hN:X.N.Nodup)(hi:X.N[i]?=O x)(hx:Loc X.env.scope x)(he:PE X e te)(hs:swapsWith e (O (.Name x pos')) pos.line X.env=pure wa:=by rfl)(hf:X.fn x=v5∨X.env.scope.names.lookup x=O .local:=by first|exact .inl rfl|exact .inr rfl|assumption) :
  PS X (.Assign [.Name x pos'] e pos) (tAsg te (OB i)):=by
 intro pins s σ H D I h;refine wpAny_Assign_Name (thn (he pins s σ H _ I h) λv s1 ⟨y,H1,I1,r1,q1⟩=>?_) hs;exact NA I1 hN hi hx r1 (λs2 I2=>⟨_,H1,I2,q1⟩) hf
noncomputable def tAug(i:Nat)(te:TE)(ti:TIp):TS:=λD σ H=>∃x,σ[i]?=O (O x)/\te σ H λy H1=>ti x y H1 λz H2=>D.nx (σ.set i (O z)) H2
theorem Cp  {x:Str}{e:UF}{te:TE}{op}{ti:TIp}{pos':Pos}(hN:X.N.Nodup)(hi:X.N[i]?=O x)(hx:Loc X.env.scope x)(he:PE X e te)(ho:PIp X op ti)(hf:X.fn x=v5∨X.env.scope.names.lookup x=O .local:=by first|exact .inl rfl|exact .inr rfl|assumption) :
  PS X (.AugAssign (.Name x pos') op e pos) (tAug i te ti):=by
 intro pins s σ H D I h;obtain⟨v,e1,h⟩:=h;obtain⟨m,hn,hl⟩:=I.loc;have vis:Vis X.env.scope x:=by rcases hx with k|k;exact .inl k;exact .inr (.inl k)
 obtain⟨u,r,l⟩:=hl i x v hi e1 vis;refine wpAny_AugAssign_Name ?_;have go:UH (model X.prog X.w) X.A (eval e X.env) (λw s₂=>UH (model X.prog X.w) X.A (inplaceOp op u w) (λr s₃=>UH (model X.prog X.w) X.A (storeName X.env x r) (λ_=>SP X pins D .next) X.xe s₃) X.xe s₂) X.xe s:=by refine thn (he pins s σ H _ I h) λw s1 ⟨y,H1,I1,r1,q1⟩=>?_;refine thn (ho pins s1 σ H1 v y u w _ I1 r r1 q1) λz s2 ⟨zv,H2,I2,r2,q2⟩=>?_;exact NA I2 hN hi hx r2 (λs3 I3=>⟨_,H2,I3,q2⟩) hf
 rcases l with ⟨hk,hm⟩|⟨hk,c,hc,hcell⟩
 .exact wpAny_loadName_local I.ok.kind hk hn hm go
 .rcases hk with hk|hk
  .exact wpAny_loadName_cell I.ok.kind hk hc hcell go
  .rcases hx with k|k
   .have:X.env.scope.names.lookup x=O .free:=hk
    rw[k]at this;cases this
   .have:X.env.scope.names.lookup x=O .free:=hk
    rw[k]at this;cases this
end
section
variable{X:Cx}{pos:Pos}
noncomputable def Co(c:TT)(tb:TS):TS:=λD σ H=>∃W:Nat->St->Hp->Prop,(∃m,W m σ H)/\∀m σ H,W m σ H ->
 c σ H λb H1=>if b=v5 then ∃N:St->Hp->Prop,(∀σ' H',N σ' H'->∃m',m'<m/\W m' σ' H')/\tb {D with nx:=N,ct:=N,bk:=D.nx} σ H1 else D.nx σ H1
theorem qJ   {tc}{tb}(hp:PassesOwn (model X.prog X.w) X.A X.env X.xe)(hc:PT X c tc)(hb:PSs X body tb):PS X (.While c body [] pos) (Co tc tb):=by
 intro pins s σ H D I h;obtain⟨W,⟨m0,w0⟩,turn⟩:=h;refine wpAny_While (codeAny_whileLoop (λn s'=>∃σ' H',Inv X pins σ' H' s'/\W n σ' H') ?_ m0 ⟨σ,H,I,w0⟩);rintro n s1 ⟨σ1,H1,I1,w1⟩;refine Ju hp (thn (hc pins s1 σ1 H1 _ I1 (turn n σ1 H1 w1)) λb s2 ⟨H2,I2,q2⟩=>?_);cases b with
 |true=>
  obtain⟨N,hN,q2⟩:=q2;refine Ju hp (thn (hb pins s2 σ1 H2 _ I2 q2) λf s3 q3=>?_);cases f with
  |next=>obtain⟨σ3,H3,I3,n3⟩:=q3;obtain⟨m',hm,w3⟩:=hN σ3 H3 n3;exact⟨m',hm,σ3,H3,I3,w3⟩
  |cont=>obtain⟨σ3,H3,I3,n3⟩:=q3;obtain⟨m',hm,w3⟩:=hN σ3 H3 n3;exact⟨m',hm,σ3,H3,I3,w3⟩
  |brk=>exact q3
  |ret v=>exact q3
 |false=>exact wpAny_execs_nil ⟨σ1,H2,I2,q2⟩
end
structure It where
 go:Nat->Hp->Prop
 yld:Nat->Hp->V->Hp->Prop
 stop:Nat->Hp->Prop
def ZW(X:Cx)(pins:List (UD×Obj))(H:Hp)(b:UD):Prop:=
 H b=v4/\b≠X.env.locals/\b∉X.fs/\(b∈X.ex∨X.s₀.heap.objs.size<=b)/\(∀x c,X.env.cells.lookup x=O c->c≠b)/\∀p∈X.pn++pins,p.1≠b
theorem Inv.fpOk   {σ:St}{H H'}{s}{b:UD}(I:Inv X pins σ H s)(hb:s.heap.objs.size<=b)(hn:H' b=v4):ZW X pins H' b:=by
 refine⟨hn,JD (QH I.lt hb),I.nofs hb,.inr (QE I.sz hb),λx c e z=>?_,λp hp z=>?_⟩
 .obtain⟨v,q⟩:=I.cell x c e
  exact absurd (QH q.lt (by rw[z];exact hb)) (Jv _)
 .exact absurd (QH (Ql (I.pin p hp).1) (by rw[z];exact hb)) (Jv _)
structure Turn(P:UC)(w:World)(K:Frag)(tg:UF)(J:It)(fp:wk)(it:UD)(tn:Nat->Heap->Prop):Prop where
 mem:it∈fp
 obj:∀i h,tn i h->∀b∈fp,∃o,h.get? b=O o/\∀v,o.data≠.cell v
 keep:∀i h h',tn i h->(∀b∈fp,∀o,h.get? b=O o->h'.get? b=O o)->tn i h'
 item:∀(X:Cx),X.prog=P->X.w=w->X.K=K->X.calm=v5->∀(i:Nat)(pins:List (UD×Obj))(s:UB)(σ:St)(H:Hp)(E:UA->UB->Prop),Inv X pins σ H s->(∀b∈fp,ZW X pins H b)->tn i s.heap->J.go i H ->
  UH (model P w) X.A (pyNext (.ref it)) (λr s1=>∃u,r=O u /\
   UH (model P w) X.A (letOwnedTupleGo tg (.ref it) u) (λ_ s2=>∃x H',Inv X pins σ H' s2/\RelV x u/\J.yld i H x H'/\tn (i+1) s2.heap/\∀b∈fp,H' b=v4) E s1) E s
 done:∀(X:Cx),X.prog=P->X.w=w->X.K=K->X.calm=v5->∀(i:Nat)(pins:List (UD×Obj))(s:UB)(σ:St)(H:Hp)(E:UA->UB->Prop),Inv X pins σ H s->(∀b∈fp,ZW X pins H b)->tn i s.heap->J.stop i H ->
  UH (model P w) X.A (pyNext (.ref it)) (λr s1=>r=v4/\Inv X pins σ H s1) E s
 self:∀(A:Around)(i:Nat)(s:UB)(Q:UA->UB->Prop)(E:UA->UB->Prop),tn i s.heap->Q (.ref it) s->UH (model P w) A (pyIter (.ref it)) Q E s
abbrev TI:=St->Hp->(It->Hp->Prop)->Prop
def PIE(X:Cx)(pins:List (UD×Obj))(σ:St)(tg:UF)(R:It->Hp->Prop)(itv:UA)(s2:UB):Prop:=
 ∃(it:UD)(fp:wk)(tn:Nat->Heap->Prop)(J:It)(H':Hp),itv=.ref it/\Inv X pins σ H' s2/\Turn X.prog X.w X.K tg J fp it tn/\tn 0 s2.heap/\(∀b∈fp,ZW X pins H' b)/\R J H'
def PI(X:Cx)(tg iter:UF)(wi:TI):Prop:=
 ∀(pins:List (UD×Obj))(s:UB)(σ:St)(H:Hp)(R:It->Hp->Prop),Inv X pins σ H s->wi σ H R ->
  UH (model X.prog X.w) X.A (eval iter X.env) (λv s1=>UH (model X.prog X.w) X.A (pyIter v) (PIE X pins σ tg R) X.xe s1) X.xe s
theorem Rz  {A:Around}{E}{s:UB}{tg:UF}{it:UD}{u:UA}{o:Obj}{n:String}{vs}{Q}(ho:s.heap.get? it=O o)(hc:o.cls=.type n)(hd:o.data=.fields vs)
  (hn:["enumerate", "zip", "dict_itemiterator", "dict_reverseitemiterator", "odict_iterator", "itertools.zip_longest", "itertools.pairwise"].contains n=wa) (hQ:Q () s):UH M A (letOwnedTupleGo tg (.ref it) u) Q E s:=by
 cases tg<;>first
  |exact Qm hQ
  |(cases u<;>first
    |exact Qm hQ
    |(
      refine Qe (wpAny_load ho ?_);rw[hc,hd];show UH M A (if _=v5 then _ else _) Q E s;rw[QB (by intro h;rw[hn]at h;cases h)];exact Qm hQ))
noncomputable def Itl(K:Frag)(a:UD):It:=
 ⟨λi H=>∃xs x,SqL K H a xs/\xs[i]?=O x,λi H x H'=>H'=H/\∀xs,SqL K H a xs->xs[i]?=O x,λi H=>∃xs,SqL K H a xs/\xs.length<=i⟩
noncomputable def Itt(K:Frag)(a:UD):It:=
 ⟨λi H=>∃xs x,SqT K H a xs/\xs[i]?=O x,λi H x H'=>H'=H/\∀xs,SqT K H a xs->xs[i]?=O x,λi H=>∃xs,SqT K H a xs/\xs.length<=i⟩
noncomputable def Itr(lo:Int)(n:Nat):It:=⟨λi _=>i<n,λi H x H'=>H'=H/\x=.int (lo+i),λi _=>n<=i⟩
theorem ke{P:UC}{w:World}{K}{tg:UF}(a it:UD):Turn P w K tg (Itl K a) [it] it (λi h=>h.IsListIter it a i) where
 mem:=by simp
 obj:=λi h st b hb=>by
  have e:b=it:=by simpa using hb
  subst e;obtain⟨o,e,c,d⟩:=st;exact⟨o,e,λv z=>by rw[d]at z;cases z⟩
 keep:=λi h h' st k=>st.at λo e=>k it (by simp) o e
 item:=by
  intro X hP hw hK hc i pins s σ H E I hf st hg;subst hP hw hK;obtain⟨xs,x,hq,hx⟩:=hg;obtain⟨its,rv,p,hz⟩:=I.list hq;obtain⟨u,hu,ru⟩:=rv.get hx;obtain⟨f0,f1,f2,f3,f4,f5⟩:=hf it (by simp);refine wpAny_pyNext_list_item st p.isList (x:=u) (by simpa using hu) λh' st' sb=>?_
  have I1   :=I.turned (t':=s.toks) (λb o hb e=>(sb.2 b hb).trans e) f0 f1 f3 f4 f5;obtain⟨o,e,c,d⟩:=id st';exact⟨u,rfl,Rz  e c d (by decide) ⟨x,H,I1,ru,⟨rfl,λys hy=>by rw[I.list_inj hy hq];exact hx⟩,st',λb hb=>(hf b hb).1⟩⟩
 done:=by intro X hP hw hK hc i pins s σ H E I hf st hg;subst hP hw hK;obtain⟨xs,hq,hx⟩:=hg;obtain⟨its,rv,p,hz⟩:=I.list hq;obtain⟨f0,f1,f2,f3,f4,f5⟩:=hf it (by simp);have hl:=rv.length;exact wpAny_pyNext_list_end (I.ok.hd hc) st p.isList (by simp;omega) λh' eb=>⟨rfl,I.turned (t':=s.toks) (λb o hb e=>eb b o hb e) f0 f1 f3 f4 f5⟩
 self:=λ_ _ _ _ _ st h=>wpAny_pyIter_listiter st h
theorem xC{P:UC}{w:World}{K:Frag}{tg:UF}(a it:UD):Turn P w K tg (Itt K a) [it] it (λi h=>h.IsTupleIter it a i) where
 mem:=by simp
 obj:=λi h st b hb=>by
  have e:b=it:=by simpa using hb
  subst e;obtain⟨o,e,c,d⟩:=st;exact⟨o,e,λv z=>by rw[d]at z;cases z⟩
 keep:=λi h h' st k=>st.at λo e=>k it (by simp) o e
 item:=by
  intro X hP hw hK hc i pins s σ H E I hf st hg;subst hP hw hK;obtain⟨xs,x,hq,hx⟩:=hg;obtain⟨its,rv,p,hz⟩:=I.tuple hq;obtain⟨u,hu,ru⟩:=rv.get hx;obtain⟨f0,f1,f2,f3,f4,f5⟩:=hf it (by simp);refine wpAny_pyNext_tuple_item st (p) (x:=u) (by simpa using hu) λh' st' sb=>?_
  have I1   :=I.turned (t':=s.toks) (λb o hb e=>(sb.2 b hb).trans e) f0 f1 f3 f4 f5;obtain⟨o,e,c,d⟩:=id st';exact⟨u,rfl,Rz  e c d (by decide) ⟨x,H,I1,ru,⟨rfl,λys hy=>by rw[I.tuple_inj hy hq];exact hx⟩,st',λb hb=>(hf b hb).1⟩⟩
 done:=by intro X hP hw hK hc i pins s σ H E I hf st hg;subst hP hw hK;obtain⟨xs,hq,hx⟩:=hg;obtain⟨its,rv,p,hz⟩:=I.tuple hq;obtain⟨f0,f1,f2,f3,f4,f5⟩:=hf it (by simp);have hl:=rv.length;exact wpAny_pyNext_tuple_end (I.ok.hd hc) st (p) (by simp;omega) λh' eb=>⟨rfl,I.turned (t':=s.toks) (λb o hb e=>eb b o hb e) f0 f1 f3 f4 f5⟩
 self:=λ_ _ _ _ _ st h=>wpAny_pyIter_tupleiter st h
theorem xA{P:UC}{w:World}{K:Frag}{tg:UF}(it:UD)(lo:Int)(n:Nat):Turn P w K tg (Itr lo n) [it] it (λi h=>IsRangeIter h it (lo+(i:Nat)*1) ((n:Int)-(i:Nat)) 1) where
 mem:=by simp
 obj:=λi h st b hb=>by
  have e:b=it:=by simpa using hb
  subst e;exact⟨_,st,λv z=>by have z'   :=z;cases z'⟩
 keep:=λi h h' st k=>k it (by simp) _ st
 item:=by
  intro X hP hw hK hc i pins s σ H E I hf st hg;subst hP hw hK;obtain⟨f0,f1,f2,f3,f4,f5⟩:=hf it (by simp);have W:=Walks.range (prog:=X.prog) (w:=X.w) (I.ok.hd hc) it lo 1 n;refine W.item i s _ _ hg st λv h' tk hv st' kk=>?_
  obtain⟨t,rfl⟩:=hv;have I1:Inv X pins σ H {s with heap:=h',toks:=tk}:=I.turned (λb o hb e=>kk b o (by simpa using hb) e) f0 f1 f3 f4 f5;refine⟨_,rfl,Rz   st' v3 v3 (by decide) ⟨.int (lo+i),H,I1,⟨t,?_⟩,⟨rfl,rfl⟩,st',λb hb=>(hf b hb).1⟩⟩;rw[Int.mul_one]
 done:=by intro X hP hw hK hc i pins s σ H E I hf st hg;obtain⟨f0,f1,f2,f3,f4,f5⟩:=hf it (by simp);exact wpAny_pyNext_range_end (I.ok.hd hc) st (by have:n<=i:=hg;omega) λh' eb=>⟨rfl,I.turned (t':=s.toks) (λb o hb e=>eb b o hb e) f0 f1 f3 f4 f5⟩
 self:=λ_ _ _ _ _ st h=>wpAny_pyIter_rangeiter st h
section
variable{X:Cx}{tg:UF}
theorem HR  {σ:St}{H:Hp}{s}{R}{E}{lo hi:Int}{t u v:Tok}{tk:Nat}(I:Inv X pins σ H s)(h1 : -(2 ^ 62)<=lo)(h2:lo<2 ^ 62)(h3 : -(2 ^ 62)<=hi)(h4:hi<2 ^ 62)
  (q:R (Itr lo (hi-lo).toNat) H):UH (model X.prog X.w) X.A (pyIter (.ref s.heap.objs.size)) (PIE X pins σ tg R) E {s with heap:=s.heap.push {cls:=.type "range", data:=.fields #[.int lo t,.int hi u,.int 1 v]},toks:=tk}:=by
 refine wpAny_pyIter_range (IsRange.new ..) (small_one h1 h2 h3 h4) ?_;have I1:Inv X pins σ H {s with heap:=s.heap.push {cls:=.type "range", data:=.fields #[.int lo t,.int hi u,.int 1 v]},toks:=tk}:=I.kept λb o e=>Qi _ e
 refine⟨(s.heap.push {cls:=.type "range", data:=.fields #[.int lo t,.int hi u,.int 1 v]}).objs.size,[(s.heap.push {cls:=.type "range", data:=.fields #[.int lo t,.int hi u,.int 1 v]}).objs.size],_,_,H,rfl,
  I1.kept  λb o e=>Qi _ e,xA _ lo (hi-lo).toNat,?_,λb hb=>?_,q⟩
 .have e1:lo+((0:Nat):Int)*1=lo:=by simp
  have e2:(((hi-lo).toNat:Nat):Int)-((0:Nat):Int)=Builtin.Range.rangeSize lo hi 1:=by rw[rangeSize_one];split<;>omega
  rw[e1,e2];exact QA _ v3
 .have e:b=(s.heap.push {cls:=.type "range", data:=.fields #[.int lo t,.int hi u,.int 1 v]}).objs.size:=by simpa using hb
  subst e;exact I1.fpOk (Qp _) (I1.hok.fresh (Qp _))
noncomputable def Ec(ta:TA):TI:=λσ H R=>ta σ H λvs H1=>∃j:Int,vs=[.int j] /\ -(2 ^ 62)<=j/\j<2 ^ 62/\R (Itr 0 j.toNat) H1
noncomputable def Eb(ta:TA):TI:=λσ H R=>ta σ H λvs H1=>∃i j:Int,vs=[.int i,.int j]/\(-(2 ^ 62)<=i/\i<2 ^ 62 /\ -(2 ^ 62)<=j/\j<2 ^ 62)/\R (Itr i (j-i).toNat) H1
theorem kU    (hg:Gl X "range")(hm:X.mg "range" = v4)(ha:PA X [a] ta)(hs:UI [a] X.env=[(wa,eval a X.env)]:=by rfl):PI X tg (.Call (.Name "range" p) [a] [] pos) (Ec ta):=by
 intro pins s σ H R I h;refine Call_ (WZ I hg hm boot_range (JR (thn (ha pos pins s σ H _ I h) λus s1 ⟨vs,H1,I1,r1,q1⟩=>?_) hs v3));obtain⟨j,e,q1,q2,q⟩:=q1;subst e;cases r1 with
 |cons r rr=>cases rr;obtain⟨t,rfl⟩:=r;exact call_range_1 (HR I1 (by omega) (by omega) q1 q2 (by simp_all))
theorem kT   {p pos}(hg:Gl X "range")(hm:X.mg "range" = v4)(ha:PA X [a,b] ta)(hs:UI [a,b] X.env=[(wa,eval a X.env),(wa,eval b X.env)]:=by rfl)(hs2:UI [b] X.env=[(wa,eval b X.env)]:=by rfl) :
  PI X tg (.Call (.Name "range" p) [a,b] [] pos) (Eb ta):=by
 intro pins s σ H R I h;refine Call_ (WZ I hg hm boot_range (PyProof.Rows.callWith_type1 (thn (ha pos pins s σ H _ I h) λus s1 ⟨vs,H1,I1,r1,q1⟩=>?_) (by simp_all) (by rw[hs2];rfl)));obtain⟨i,j,e,⟨q1,q2,q3,q4⟩,q⟩:=q1;subst e;cases r1 with
 |cons r rr=>
  cases rr with
  |cons r' rr=>cases rr;obtain⟨t,rfl⟩:=r;obtain⟨t',rfl⟩:=r';exact call_range_2 (HR I1 q1 q2 q3 q4 q)
noncomputable def tFor(wi:TI)(g:TG)(tb:TS):TS:=λD σ H=>wi σ H λJ H1=>∃W:Nat->Nat->St->Hp->Prop,(∃m,W 0 m σ H1)/\∀i m σ H,W i m σ H ->
 (J.stop i H/\D.nx σ H)∨(J.go i H/\∃N:St->Hp->Prop,(∀σ' H',N σ' H'->∃m',m'<m/\W (i+1) m' σ' H')/\∀x H',J.yld i H x H'->g x σ H' λσ2 H2=>tb {D with nx:=N,ct:=N,bk:=D.nx} σ2 H2)
noncomputable def Py(fp:wk)(h:Heap):List (UD×Obj):=fp.filterMap λb=>(h.get? b).map λo=>(b,o)
theorem Os   {b}{o}(hb:b∈fp)(e:h.get? b=O o):(b,o)∈Py fp h:=List.mem_filterMap.mpr ⟨b,hb,by simp_all⟩
theorem kS    (hp:p∈Py fp h):p.1∈fp/\h.get? p.1=O p.2:=by
 obtain⟨b,hb,e⟩:=Jy.mp hp;cases q:h.get? b with
 |none=>simp_all
 |some o=>rw[q]at e;have e'   :=Q7 e;subst e';exact⟨hb,q⟩
theorem Inv.pinned  {σ:St}{H}{s}{fp}(I:Inv X pins σ H s)(hf:∀b∈fp,ZW X pins H b)(ho:∀b∈fp,∃o,s.heap.get? b=O o/\∀v,o.data≠.cell v):Inv X (pins++Py fp s.heap) σ H s:=
 I.pins_of λp hp=>(QW.mp hp).elim (λz=>I.pin p (QK _ z)) λz=>by obtain⟨hb,e⟩:=kS z;obtain⟨f0,f1,f2,_⟩:=hf p.1 hb;obtain⟨o,e',d⟩:=ho p.1 hb;rw[e]at e';cases e';exact⟨e,f0,f1,f2,d⟩
theorem Inv.unpinned  {σ:St}{H}{s}(I:Inv X (pins++pl) σ H s):Inv X pins σ H s:=I.pins_of λp hp=>I.pin p (QK _ (Q8 _ hp))
theorem Cn{iter:UF}{body:List Stmt}{wi:TI}{g:TG}{tb:TS}{pos:Pos}(hp:PassesOwn (model X.prog X.w) X.A X.env X.xe)(hc:X.calm=v5)(hi:PI X tg iter wi)(hg:PG X tg g)(hb:PSs X body tb)
  (hs:∀x,UY iter X.env x=pure x:=by intro _;rfl):PS X (.For tg iter body [] pos) (tFor wi g tb):=by
 intro pins s σ H D I h;refine wpAny_For (thn (hi pins s σ H _ I h) λv s1 h1=>thn h1 λitv s2 h2=>?_) hs;obtain⟨it,fp,tn,J,H2,e,I2,T,st2,f2,W,⟨m0,w0⟩,turn⟩:=h2;subst e;have stat:∀{H':Hp},(∀b∈fp,H' b=v4)->∀b∈fp,ZW X pins H' b:=λhn b hb=>⟨hn b hb,(f2 b hb).2⟩;refine codeAny_forLoop_any (λn s'=>∃i σ' H',Inv X pins σ' H' s'/\tn i s'.heap/\(∀b∈fp,H' b=v4)/\W i n σ' H') ?_ m0 ⟨0,σ,H2,I2,st2,λb hb=>(f2 b hb).1,w0⟩;rintro n s3 ⟨i,σ3,H3,I3,st3,fr3,w3⟩;rcases turn i n σ3 H3 w3 with ⟨stop,qn⟩|⟨go,N,hN,step⟩
 .refine Ju hp (thn (T.done X v3 v3 v3 hc i pins s3 σ3 H3 X.xe I3 (stat fr3) st3 stop) λr s4 ⟨hr,I4⟩=>?_)
  subst hr;exact wpAny_execs_nil ⟨σ3,H3,I4,qn⟩
 .refine Ju hp (thn (T.item X v3 v3 v3 hc i pins s3 σ3 H3 X.xe I3 (stat fr3) st3 go) λr s4 ⟨u,hr,h4⟩=>?_)
  subst hr;refine Ju hp (thn h4 λ_ s5 ⟨x,H5,I5,r5,y5,wI,fr5⟩=>?_);have I5':=I5.pinned (stat fr5) (T.obj _ _ wI);refine Ju hp (thn (hg _ s5 σ3 H5 x u _ I5' r5 (step x H5 y5)) λ_ s6 ⟨σ6,H6,I6,q6⟩=>?_);refine Ju hp (thn (hb _ s6 σ6 H6 _ I6 q6) λf s7 q7=>?_);have again:∀{σ7:St}{H7:Hp},Inv X _ σ7 H7 s7->N σ7 H7->∃m,m<n/\∃i σ' H',Inv X pins σ' H' s7/\tn i s7.heap/\(∀b∈fp,H' b=v4)/\W i m σ' H':=λ{σ7 H7} I7 n7=>by obtain⟨m',hm,w7⟩:=hN σ7 H7 n7;refine⟨m',hm,i+1,σ7,H7,I7.unpinned,T.keep _ _ _ wI λb hb o e=>(I7.pin (b,o) (QK _ (QK _ (Os hb e)))).1,λb hb=>?_,w7⟩;obtain⟨o,e,d⟩:=T.obj _ _ wI b hb;exact(I7.pin (b,o) (QK _ (QK _ (Os hb e)))).2.1
  cases f with
  |next=>obtain⟨σ7,H7,I7,n7⟩:=q7;exact again I7 n7
  |cont=>obtain⟨σ7,H7,I7,n7⟩:=q7;exact again I7 n7
  |brk=>obtain⟨σ7,H7,I7,q7⟩:=q7;exact⟨σ7,H7,I7.unpinned,q7⟩
  |ret v=>obtain⟨x7,σ7,H7,I7,r7,q7⟩:=q7;exact⟨x7,σ7,H7,I7.unpinned,r7,q7⟩
end
abbrev R2:=V->V->Hp->VK->Prop
def OpR(X:Cx)(f:UA->UA->Sem UA)(r:R2):Prop:=
 ∀(pins:List (UD×Obj))(s:UB)(σ:St)(H:Hp)(x y:V)(v u:UA)(Q:VK),Inv X pins σ H s->RelV x v->RelV y u->r x y H Q ->
  UH (model X.prog X.w) X.A (f v u) (EP X pins σ Q) X.xe s
def UnR(X:Cx)(f:UA->Sem UA)(r:V->Hp->VK->Prop):Prop:=
 ∀(pins:List (UD×Obj))(s:UB)(σ:St)(H:Hp)(x:V)(v:UA)(Q:VK),Inv X pins σ H s->RelV x v->r x H Q ->
  UH (model X.prog X.w) X.A (f v) (EP X pins σ Q) X.xe s
def YS(X:Cx)(f:UA)(r:List V->Hp->VK->Prop):Prop:=
 ∀(pins:List (UD×Obj))(s:UB)(σ:St)(H:Hp)(xs:List V)(us:we)(Q:VK),Inv X pins σ H s->Vals xs us->r xs H Q ->
  UH (model X.prog X.w) X.A (call f us) (EP X pins σ Q) X.xe s
def TruR(X:Cx)(r:V->Hp->(Bool->Hp->Prop)->Prop):Prop:=
 ∀(pins:List (UD×Obj))(s:UB)(σ:St)(H:Hp)(x:V)(v:UA)(Q:Bool->Hp->Prop),Inv X pins σ H s->RelV x v->r x H Q ->
  UH (model X.prog X.w) X.A (truthy v) (TP X pins σ Q) X.xe s
noncomputable def tOp(r:R2)(ta tb:TE):TE:=λσ H Q=>ta σ H λx H1=>tb σ H1 λy H2=>r x y H2 Q
noncomputable def tUn(r:V->Hp->VK->Prop)(ta:TE):TE:=λσ H Q=>ta σ H λx H1=>r x H1 Q
noncomputable def rI(C:Int->Int->Prop)(g:Int->Int->V):R2:=λx y H Q=>∃i j,x=.int i/\y=.int j/\C i j/\Q (g i j) H
noncomputable def rI0(g:Int->Int->V):R2:=λx y H Q=>∃i j,x=.int i/\y=.int j/\Q (g i j) H
noncomputable def rU(g:Int->V):V->Hp->VK->Prop:=λx H Q=>∃i,x=.int i/\Q (g i) H
section
variable{X:Cx}{a b c:UF}{ta tb tc:TE}{pos:Pos}
theorem SJ(ha:PE X a ta)(hb:PE X b tb){pins}{s}{σ:St}{H}{R:V->V->Hp->Prop}(I:Inv X pins σ H s)
  (h:ta σ H λx H1=>tb σ H1 λy H2=>R x y H2) {Q} {f:UA->UA->Sem UA}
  (hf:∀v u s2 x y H2,Inv X pins σ H2 s2->RelV x v->RelV y u->R x y H2->UH (model X.prog X.w) X.A (f v u) Q X.xe s2) :
  UH (model X.prog X.w) X.A (eval a X.env) (λv s₁=>UH (model X.prog X.w) X.A (eval b X.env) (λu s₂=>UH (model X.prog X.w) X.A (f v u) Q X.xe s₂) X.xe s₁) X.xe s:=by
 refine thn (ha pins s σ H _ I h) λv s1 ⟨x,H1,I1,r1,q1⟩=>?_;refine thn (hb pins s1 σ H1 _ I1 q1) λu s2 ⟨y,H2,I2,r2,q2⟩=>?_;exact hf v u s2 x y H2 I2 r1 r2 q2
theorem Mu   (ho:OpR X (binaryOp op) r)(ha:PE X a ta)(hb:PE X b tb):PE X (.BinOp a op b pos) (tOp r ta tb):=by intro pins s σ H Q I h;exact wpAny_BinOp (SJ ha hb I h λv u s2 x y H2 I2 rx ry q=>ho pins s2 σ H2 x y v u Q I2 rx ry q)
theorem Ea   (ho:UnR X (unaryOp op) r)(ha:PE X a ta):PE X (.UnaryOp op a pos) (tUn r ta):=by intro pins s σ H Q I h;exact UnaryOp_ (thn (ha pins s σ H _ I h) λv s1 ⟨x,H1,I1,r1,q1⟩=>ho pins s1 σ H1 x v Q I1 r1 q1)
theorem opI  {C}{g:Int->Int->Int}
  (rule:∀(i j)(t u)(s)(Q)(E),C i j->Q (.int (g i j) s.toks) {s with toks:=s.toks+1}->UH (model X.prog X.w) X.A (f (.int i t) (.int j u)) Q E s) :
  OpR X f (rI C λi j=>.int (g i j)):=by
 intro pins s σ H x y v u Q I rx ry h;obtain⟨i,j,rfl,rfl,hc,q⟩:=h;obtain⟨t,rfl⟩:=rx;obtain⟨t',rfl⟩:=ry;exact rule i j t t' s _ _ hc ⟨.int _,H,I.tok _,⟨_,rfl⟩,q⟩
theorem opI0  {g:Int->Int->Int}
  (rule:∀(i j)(t u)(s)(Q)(E),Q (.int (g i j) s.toks) {s with toks:=s.toks+1}->UH (model X.prog X.w) X.A (f (.int i t) (.int j u)) Q E s) :
  OpR X f (rI0 λi j=>.int (g i j)):=by
 intro pins s σ H x y v u Q I rx ry h;obtain⟨i,j,rfl,rfl,q⟩:=h;obtain⟨t,rfl⟩:=rx;obtain⟨t',rfl⟩:=ry;exact rule i j t t' s _ _ ⟨.int _,H,I.tok _,⟨_,rfl⟩,q⟩
theorem Vj  {g:Int->Int->Bool}
  (rule:∀(i j)(t u)(s)(Q)(E),Q (.bool (g i j)) s->UH (model X.prog X.w) X.A (f (.int i t) (.int j u)) Q E s) :
  OpR X f (rI0 λi j=>.bl (g i j)):=by
 intro pins s σ H x y v u Q I rx ry h;obtain⟨i,j,rfl,rfl,q⟩:=h;obtain⟨t,rfl⟩:=rx;obtain⟨t',rfl⟩:=ry;exact rule i j t t' s _ _ ⟨.bl _,H,I,rfl,q⟩
def CPow(i j:Int):Prop:=0<=j/\j<=1000000/\i.natAbs<2 ^ 64
def CMul(i j:Int):Prop:=(-(2 ^ 64)<i/\i<2 ^ 64)∨(-(2 ^ 64)<j/\j<2 ^ 64)
theorem CMul.ok  (h:CMul i j):IntMulOk i j:=by
 rcases h with ⟨h1,h2⟩|⟨h1,h2⟩
 .exact .of_left (intBits_le_64 h1 h2)
 .exact .of_right (intBits_le_64 h1 h2)
theorem Cm:OpR X (binaryOp .Add) (rI0 λi j=>.int (i+j)):=opI0 λ_ _ _ _ _ _ _ q=>add_int q
theorem Ck:OpR X (binaryOp .Sub) (rI0 λi j=>.int (i-j)):=opI0 λ_ _ _ _ _ _ _ q=>sub_int q
theorem Cj:OpR X (binaryOp .Mult) (rI CMul λi j=>.int (i*j)):=opI λ_ _ _ _ _ _ _ hc q=>mul_int q hc.ok
theorem Ci:OpR X (binaryOp .Mod) (rI (λ_ j=>0<j) λi j=>.int (i % j)):=opI λi j _ _ _ _ _ hc q=>by exact mod_int' (by omega) (by rw[Int.fmod_eq_emod_of_nonneg i (by omega)];exact q)
theorem Ch:OpR X (binaryOp .Pow) (rI CPow λi j=>.int (i ^ j.toNat)):=opI λ_ _ _ _ _ _ _ hc q=>pow_int_small hc.1 hc.2.1 hc.2.2 q
theorem BW:OpR X (inplaceOp .Mult) (rI CMul λi j=>.int (i*j)):=opI λ_ _ _ _ _ _ _ hc q=>imul_int q hc.ok
theorem unI  {g:Int->Int}
  (rule:∀(i)(t)(s)(Q)(E),Q (.int (g i) s.toks) {s with toks:=s.toks+1}->UH (model X.prog X.w) X.A (f (.int i t)) Q E s) :
  UnR X f (rU λi=>.int (g i)):=by
 intro pins s σ H x v Q I rx h;obtain⟨i,rfl,q⟩:=h;obtain⟨t,rfl⟩:=rx;exact rule i t s _ _ ⟨.int _,H,I.tok _,⟨_,rfl⟩,q⟩
theorem Cf:UnR X (unaryOp .USub) (rU λi=>.int (-i)):=unI λ_ _ _ _ _ q=>neg_int q
end
section
variable{X:Cx}{a b c:UF}{ta tb tc:TE}{pos:Pos}
theorem MW  {σ:St}{H}{s}{Q}{k k'}(I:Inv X pins σ H s)(q:Q (.bl k) H)(e:k=k'):EP X pins σ Q (.bool k') s:=by subst e;exact⟨.bl k,H,I,rfl,q⟩
theorem F9:OpR X (UJ .Lt) (rI0 λi j=>.bl (decide (i<j))):=Vj λ_ _ _ _ _ _ _ q=>lt_int q
theorem F8:OpR X (UJ .LtE) (rI0 λi j=>.bl (decide (i<=j))):=Vj λ_ _ _ _ _ _ _ q=>le_int q
theorem F7:OpR X (UJ .Gt) (rI0 λi j=>.bl (decide (j<i))):=Vj λ_ _ _ _ _ _ _ q=>gt_int q
theorem F6:OpR X (UJ .GtE) (rI0 λi j=>.bl (decide (j<=i))):=Vj λ_ _ _ _ _ _ _ q=>ge_int q
theorem kR:OpR X (UJ .In) (λx y H Q=>∃i j,x=.str i/\y=.str j/\Q (.bl (!(Builtin.Str.occurrences j i 0 j.length 1).isEmpty)) H):=by intro pins s σ H x y v u Q I rx ry h;obtain⟨i,j,rfl,rfl,q⟩:=h;obtain⟨t,rfl⟩:=rx;obtain⟨t',rfl⟩:=ry;exact in_str (MW I q v3)
theorem vD:OpR X (UJ .NotIn) (λx y H Q=>∃i j,x=.str i/\y=.str j/\Q (.bl (!(!(Builtin.Str.occurrences j i 0 j.length 1).isEmpty))) H):=by intro pins s σ H x y v u Q I rx ry h;obtain⟨i,j,rfl,rfl,q⟩:=h;obtain⟨t,rfl⟩:=rx;obtain⟨t',rfl⟩:=ry;exact notIn_str (MW I q v3)
theorem OpR.or   (h:OpR X f r)(h':OpR X f r'):OpR X f (λx y H Q=>r x y H Q∨r' x y H Q):=by
 intro pins s σ H x y v u Q I rx ry q;rcases q with q|q
 .exact h pins s σ H x y v u Q I rx ry q
 .exact h' pins s σ H x y v u Q I rx ry q
theorem OT(b){op}(h:op≠.In:=by decide)(h2:op≠.NotIn:=by decide):behindInMarks op b=wa:=by
 have e1:(op==CmpOp.In)=wa:=by lia
 have e2:(op==CmpOp.NotIn)=wa:=by lia
 cases b<;>simp[behindInMarks,e1,e2]
theorem Ha   (ho:OpR X (UJ op) r)(ha:PE X a ta)(hb:PE X b tb)(hm:behindInMarks op b=wa):PE X (.Compare a [op] [b] pos) (tOp r ta tb):=by intro pins s σ H Q I h;exact wpAny_Compare1 (SJ ha hb I h λv u s2 x y H2 I2 rx ry q=>ho pins s2 σ H2 x y v u Q I2 rx ry q) hm
noncomputable def Mt(t:TE):TT:=λσ H Q=>t σ H λx H'=>∃k,x=.bl k/\Q k H'
theorem L9   (ho:OpR X (UJ op) r)(ha:PE X a ta)(hb:PE X b tb)(hm:behindInMarks op b=wa):PT X (.Compare a [op] [b] pos) (Mt (tOp r ta tb)):=by
 intro pins s σ H Q I h
 refine wpAny_isTrue_Compare1 (thn (ha pins s σ H _ I h) λv s1 ⟨x,H1,I1,r1,q1⟩=>thn (hb pins s1 σ H1 _ I1 q1) λu s2 ⟨y,H2,I2,r2,q2⟩=>
  thn (ho pins s2 σ H2 x y v u _ I2 r1 r2 q2) λc s3 ⟨z,H3,I3,r3,k,e,q3⟩=>?_) hm
 subst e;cases r3;exact Q5 ⟨H3,I3,q3⟩
noncomputable def MV(r r':R2)(ta tb tc:TE):TE:=λσ H Q=>ta σ H λx H1=>tb σ H1 λy H2=>r x y H2 λz H3=>∃k,z=.bl k /\
 (if k=v5 then tc σ H3 λw' H4=>r' y w' H4 Q else Q (.bl wa) H3)
theorem qI  {r r'}(ho:OpR X (UJ op) r)(ho':OpR X (UJ op') r')(ha:PE X a ta)(hb:PE X b tb)(hc:PE X c tc)
  (hm:lastMarks [op,op'] [b,c]=wa:=by with_unfolding_all rfl):PE X (.Compare a [op,op'] [b,c] pos) (MV r r' ta tb tc):=by
 intro pins s σ H Q I h
 refine Compare_chain (thn (ha pins s σ H _ I h) λv s1 ⟨x,H1,I1,r1,q1⟩=>chain_link (thn (hb pins s1 σ H1 _ I1 q1) λu s2 ⟨y,H2,I2,r2,q2⟩=>
  thn (ho pins s2 σ H2 x y v u _ I2 r1 r2 q2) λd s3 ⟨z,H3,I3,r3,k,e,q3⟩=>?_)) hm
 subst e;cases r3;refine Q5 ?_;cases k with
 |false=>exact ite_ff ⟨.bl wa,H3,I3,rfl,q3⟩
 |true=>exact ite_tt (chain_last (thn (hc pins s3 σ H3 _ I3 q3) λw' s4 ⟨z',H4,I4,r4,q4⟩=>ho' pins s4 σ H4 y z' u w' Q I4 r2 r4 q4))
theorem qH  {r r'}(ho:OpR X (UJ op) r)(ho':OpR X (UJ op') r')(ha:PE X a ta)(hb:PE X b tb)(hc:PE X c tc)
  (hm:lastMarks [op,op'] [b,c]=wa:=by with_unfolding_all rfl):PT X (.Compare a [op,op'] [b,c] pos) (Mt (MV r r' ta tb tc)):=by
 intro pins s σ H Q I h
 refine isTrue_chain (thn (ha pins s σ H _ I h) λv s1 ⟨x,H1,I1,r1,q1⟩=>test_link (thn (hb pins s1 σ H1 _ I1 q1) λu s2 ⟨y,H2,I2,r2,q2⟩=>
  thn (ho pins s2 σ H2 x y v u _ I2 r1 r2 q2) λd s3 ⟨z,H3,I3,r3,k,e,q3⟩=>?_)) hm
 subst e;cases r3;refine Q5 ?_;cases k with
 |false=>obtain⟨k',e',q'⟩:=q3;cases e';exact ite_ff ⟨H3,I3,q'⟩
 |true=>refine ite_tt (test_last (thn (hc pins s3 σ H3 _ I3 q3) λw' s4 ⟨z',H4,I4,r4,q4⟩=>thn (ho' pins s4 σ H4 y z' u w' _ I4 r2 r4 q4) λd' s5 ⟨z2,H5,I5,r5,k2,e2,q5⟩=>?_));subst e2;cases r5;exact Q5 ⟨H5,I5,q5⟩
def TruV(K:Frag)(x:V)(H:Hp)(k:Bool):Prop:=
 match x with
 |.non=>k=wa
 |.bl b=>k=b
 |.int i=>k=(i != 0)
 |.str y=>y.length<=UG/\k=((y.length:Int) != 0)
 |.byt y=>y.size<=UG/\k=((y.size:Int) != 0)
 |.ref p=>(∃xs,SqL K H p xs/\k = !xs.isEmpty)∨(∃xs,SqT K H p xs/\k = !xs.isEmpty) ∨ ∃kvs,H p=O (.dK kvs)/\k = !kvs.isEmpty
 |_=>False
theorem xz  {kvs:List (κ×V)}{vs}(r:KV kvs vs):(!vs.isEmpty) = !kvs.isEmpty:=by cases r<;>rfl
theorem Fo   (r:Vals xs its):(!its.toArray.isEmpty) = !xs.isEmpty:=by cases r<;>simp
theorem Px:(UG:Nat)<2 ^ 63:=by rw[sizeLine_eq];decide
theorem Ce:TruR X (λx H Q=>∃k,TruV X.K x H k/\Q k H):=by
 intro pins s σ H x v Q I rx h;obtain⟨k,e,q⟩:=h;have hl:=Px;have hs:UG=16777216:=sizeLine_eq;cases x with
 |non=>cases rx;have e':k=wa:=e;subst e';exact truthy_none ⟨H,I,q⟩
 |bl b=>cases rx;have e':k=b:=e;subst e';exact Q5 ⟨H,I,q⟩
 |int i=>obtain⟨t,rfl⟩:=rx;have e':k=(i != 0):=e;subst e';exact PySem.P.truthy_int ⟨H,I,q⟩
 |str y=>obtain⟨t,rfl⟩:=rx;obtain⟨hy,e'⟩:y.length<=UG/\k=((y.length:Int) != 0):=e;subst e';exact PySem.P.truthy_str (by omega) ⟨H,I.tok _,q⟩
 |byt y=>obtain⟨t,rfl⟩:=rx;obtain⟨hy,e'⟩:y.size<=UG/\k=((y.size:Int) != 0):=e;subst e';exact PySem.W.truthy_bytes (by omega) ⟨H,I.tok _,q⟩
 |ref p=>
  cases rx;have e'   :=e;rcases e' with ⟨xs,hx,e'⟩|⟨xs,hx,e'⟩|⟨kvs,hx,e'⟩
  .subst e'
   obtain⟨its,r,pl,hz⟩:=I.list hx;have hlen:=r.length;exact wpAny_truthy_list pl.isList (by simp only[Jb];omega) ⟨H,I.tok _,by rw[Fo r];exact q⟩
  .subst e'
   obtain⟨its,r,pl,hz⟩:=I.tuple hx;have hlen:=r.length;exact truthy_tuple pl (by simp only[Jb];omega) ⟨H,I.tok _,by rw[Fo r];exact q⟩
  .subst e'
   obtain⟨hz,hS,vs,r,m⟩:kvs.length<=UG/\(p==sysModules)=wa/\∃vs,KV kvs vs/\s.heap.DictOf (Wk X.prog X.w) p vs:=I.hok p _ hx;have hlen:kvs.length=vs.length:=Paired.length r;exact wpAny_truthy_dict hS m (by omega) ⟨H,I.tok _,by rw[xz r];exact q⟩
 |_=>exact(show False from e).elim
theorem qG(ha:PE X a ta)(he:∀whole,isTrue a X.env whole=(do let v ←whole;standAt a.pos;holding [v] (truthy v))) :
  PT X a (λσ H Q=>ta σ H λx H'=>∃k,TruV X.K x H' k/\Q k H'):=by
 intro pins s σ H Q I h;exact isTrue_plain (thn (ha pins s σ H _ I h) λv s1 ⟨x,H1,I1,r1,q1⟩=>Ce pins s1 σ H1 x v Q I1 r1 q1) (he _)
theorem xy:OpR X (binaryOp .Add) (λx y H Q=>∃i j,x=.str i/\y=.str j/\i.length+j.length<=UG/\Q (.str (i++j)) H):=by intro pins s σ H x y v u Q I rx ry h;obtain⟨i,j,rfl,rfl,hz,q⟩:=h;obtain⟨t,rfl⟩:=rx;obtain⟨t',rfl⟩:=ry;exact add_str (λt' tk=>⟨.str _,H,I.tok _,⟨_,rfl⟩,q⟩) hz
theorem Pn   (r:Vals [x] us):∃u,us=[u]/\RelV x u:=by
 cases r with
 |cons r1 r2=>cases r2;exact⟨_,rfl,r1⟩
theorem Pm   (r:Vals [x,y] us):∃u w',us=[u,w']/\RelV x u/\RelV y w':=by
 cases r with
 |cons r1 r2=>
  cases r2 with
  |cons r3 r4=>cases r4;exact⟨_,_,rfl,r1,r3⟩
theorem kQ(hc:X.calm=v5):YS X (.builtin "max") (λxs H Q=>∃i j,xs=[.int i,.int j]/\Q (.int (if j > i then j else i)) H):=by
 intro pins s σ H xs us Q I r h;obtain⟨i,j,rfl,q⟩:=h;obtain⟨u,w',rfl,⟨t,rfl⟩,⟨t',rfl⟩⟩:=Pm r;refine max_two_ints (I.ok.hd hc) λh' tk k=>⟨_,H,I.kept k,?_,q⟩
 by_cases hj:j > i
 .rw[Qq hj,Qq hj];exact⟨_,rfl⟩
 .rw[QB hj,QB hj];exact⟨_,rfl⟩
theorem kP(hc:X.calm=v5):YS X (.builtin "min") (λxs H Q=>∃i j,xs=[.int i,.int j]/\Q (.int (if j<i then j else i)) H):=by
 intro pins s σ H xs us Q I r h;obtain⟨i,j,rfl,q⟩:=h;obtain⟨u,w',rfl,⟨t,rfl⟩,⟨t',rfl⟩⟩:=Pm r;refine min_two_ints (I.ok.hd hc) λh' tk k=>⟨_,H,I.kept k,?_,q⟩
 by_cases hj:j<i
 .rw[Qq hj,Qq hj];exact⟨_,rfl⟩
 .rw[QB hj,QB hj];exact⟨_,rfl⟩
theorem kO:YS X (.type "int") (λxs H Q=>(∃i,xs=[.int i]/\Q (.int i) H) ∨ ∃k,xs=[.bl k]/\Q (.int (if k then 1 else 0)) H):=by
 intro pins s σ H xs us Q I r h;rcases h with ⟨i,rfl,q⟩|⟨k,rfl,q⟩
 .obtain⟨u,rfl,t,rfl⟩:=Pn r
  exact call_int_int ⟨.int i,H,I,⟨_,rfl⟩,q⟩
 .obtain⟨u,rfl,r1⟩:=Pn r
  cases r1;exact call_int_bool ⟨.int _,H,I.tok _,⟨_,rfl⟩,q⟩
def LenV(K:Frag)(x:V)(H:Hp)(n:Nat):Prop:=
 match x with
 |.str y=>y.length<=UG/\n=y.length
 |.byt y=>y.size<=UG/\n=y.size
 |.ref p=>(∃xs,SqL K H p xs/\n=xs.length) ∨ ∃xs,SqT K H p xs/\n=xs.length
 |_=>False
theorem HQ:YS X (.builtin "len") (λxs H Q=>∃x n,xs=[x]/\LenV X.K x H n/\Q (.int n) H):=by
 intro pins s σ H xs us Q I r h;obtain⟨x,n,rfl,e,q⟩:=h;obtain⟨u,rfl,rx⟩:=Pn r;have hs   :=sizeLine_eq;cases x with
 |str y=>obtain⟨t,rfl⟩:=rx;obtain⟨hy,e'⟩:y.length<=UG/\n=y.length:=e;subst e';exact len_str (by omega) ⟨.int _,H,I.tok _,⟨_,rfl⟩,q⟩
 |byt y=>obtain⟨t,rfl⟩:=rx;obtain⟨hy,e'⟩:y.size<=UG/\n=y.size:=e;subst e';exact PySem.W.len_bytes (by omega) ⟨.int _,H,I.tok _,⟨_,rfl⟩,q⟩
 |ref p=>
  cases rx;have e'   :=e;rcases e' with ⟨xs,hx,e'⟩|⟨xs,hx,e'⟩
  .subst e'
   obtain⟨its,r',pl,hz⟩:=I.list hx;have hlen:=r'.length;exact Calls.call_len_list pl.isList (by simp only[Jb];omega) ⟨.int xs.length,H,I.tok _,⟨_,by simp only[Jb];rw[hlen]⟩,q⟩
  .subst e'
   obtain⟨its,r',pl,hz⟩:=I.tuple hx;have hlen:=r'.length;exact len_tuple pl (by simp only[Jb];omega) ⟨.int xs.length,H,I.tok _,⟨_,by simp only[Jb];rw[hlen]⟩,q⟩
 |_=>exact(e).elim
end
structure Room(k:Nat)(A:Around):Prop where
 hd:A.handled=v4
 dp:A.depth+3*k+5<recursionLimit
 un:A.units+16*k+200<cLine
 gd:A.guards=O []
theorem Room.mono{j k}{A}(r:Room k A)(h:j<=k):Room j A:=⟨r.hd,by have:=r.dp;omega,by have:=r.un;omega,r.gd⟩
theorem Room.deeper   (r:Room (k+1) A)(env):Room k (A.deeper env):=
 ⟨r.hd,by have:=r.dp;show A.depth+1+3*k+5<_;omega,by have:=r.un;show A.units+3+16*k+200<_;omega,r.gd⟩
theorem Room.depth{k:Nat}{A:Around}(r:Room k A):A.depth<recursionLimit:=by have:=r.dp;omega
theorem Room.units{k:Nat}{A:Around}(r:Room k A):A.units+64<cLine:=by have:=r.un;omega
noncomputable def tNil:TA:=λ_ H Q=>Q [] H
noncomputable def F5(ta:TE)(tr:TA):TA:=λσ H Q=>ta σ H λx H1=>tr σ H1 λxs H2=>Q (x::xs) H2
section
variable{X:Cx}{e:UF}{es:wf}{te:TE}{t:TA}{pos:Pos}
theorem V9:PA X [] tNil:=λ_ _ _ _ H Q I h=>Calls.spliced_nil ⟨[],H,I,.nil,h⟩
theorem WQ(ha:PE X e te)(hr:PA X es t)(hs:UI (e::es) X.env=(wa,eval e X.env)::UI es X.env:=by rfl):PA X (e::es) (F5 te t):=by intro pos pins s σ H Q I h;rw[hs];refine Calls.spliced_cons (thn (ha pins s σ H _ I h) λu s1 ⟨x,H1,I1,r1,q1⟩=>?_);exact thn (hr pos pins s1 σ H1 _ I1 q1) λus s2 ⟨xs,H2,I2,r2,q2⟩=>⟨x::xs,H2,I2,.cons r1 r2,q2⟩
noncomputable def tTup(t:TA):TE:=λσ H Q=>t σ H λxs H1=>xs.length<=UG/\∀p,H1 p=v4->Q (.ref p) (upd H1 p (.tup xs))
noncomputable def tLst(t:TA):TE:=λσ H Q=>t σ H λxs H1=>xs.length<=UG/\∀p,H1 p=v4->Q (.ref p) (upd H1 p (.lst xs))
theorem Cd  (h:PA X es t):PE X (.Tuple es x1 pos) (tTup t):=by intro pins s σ H Q I hq;refine wpAny_Tuple_spliced (thn (h pos pins s σ H _ I hq) λus s1 ⟨xs,H1,I1,r,z,q⟩=>⟨by rw[←r.length];exact z,?_⟩);have hf   :=I1.hok.fresh (Qp _);refine⟨.ref s1.heap.objs.size,upd H1 s1.heap.objs.size _,I1.laid  (λb u e=>Qi _ e) (Qp _) ?_,rfl,q _ hf⟩;exact⟨z,us,r,⟨_,QA _ v3,rfl,_,rfl⟩⟩
theorem MU(h:PA X es t):PE X (.List es pos) (tLst t):=by intro pins s σ H Q I hq;refine wpAny_List_spliced (thn (h pos pins s σ H _ I hq) λus s1 ⟨xs,H1,I1,r,z,q⟩=>⟨by rw[←r.length];exact z,?_⟩);have hf   :=I1.hok.fresh (Qp _);refine⟨.ref s1.heap.objs.size,upd H1 s1.heap.objs.size _,I1.laid  (λb u e=>Qi _ e) (Qp _) ?_,rfl,q _ hf⟩;exact⟨z,us,0,r,QA _ v3⟩
end
abbrev Sp:=List V->Hp->VK->XK->Prop
abbrev CXT:=List Env->Hp->UB->XK->UA->UB->Prop
structure Env0(P:UC)(w:World)(K:Frag)(mg:Str->wj)(base:Heap)(A:Around)(outer:List Env)(s:UB)(H:Hp):Prop where
 frames:A.frames=O outer
 mod:Mod K mg base
 bs:∀b o,base.get? b=O o->s.heap.get? b=O o/\H b=v4
 bsz:base.objs.size<=s.heap.objs.size
 funs:s.heap.FunFrames base outer
 frf:∀b∈frs outer,H b=v4
 hok:HOk P w H s.heap
 bare:AllBare s.gens
def CE(outer:List Env)(P:UC)(w:World)(H:Hp)(s:UB)(Q:VK)(u:UA)(s':UB):Prop:=
 ∃v H',s'.os=s.os/\AllBare s'.gens/\Un (frs outer) [] H H' s.heap s'.heap/\HOk P w H' s'.heap/\RelV v u/\Q v H'
def CR(CX:CXT)(outer:List Env)(P:UC)(w:World)(H:Hp)(s:UB)(Q:VK)(E:XK)(r:Result)(s':UB):Prop:=
 match r with
 |.ok (.ret u)=>CE outer P w H s Q u s'
 |.ok _=>False
 |.error e=>CX outer H s E e s'
structure FnOk(P:UC)(w:World)(K:Frag)(mg:Str->wj)(base:Heap)(CX:CXT)(k:Nat)(f:UD)(fd:UE)(ps:List Str)(sp:Sp):Prop where
 len:∀vs H Q E,sp vs H Q E->vs.length=ps.length
 run:∀(A:Around)(outer:List Env)(s:UB)(H:Hp)(args:Args)(us:we)(vs:List V)(Q:VK)(E:XK),Room k A->Env0 P w K mg base A outer s H->BindsTo s fd args (ps.zip us)->Vals vs us->sp vs H Q E ->
  codeAny (model P w) A (.call (.ref f) args) (CR CX outer P w H s Q E) s
section
variable{X:Cx}{pins:List (UD×Obj)}{σ:St}{H:Hp}{s s':UB}
theorem Inv.env0(I:Inv X pins σ H s):Env0 X.prog X.w X.K X.mg X.base X.A X.stack s H:=
 ⟨I.ok.frames,I.ok.mod,I.bs,QE I.ok.bsz I.sz,I.stack,I.stkFree,I.hok,I.bare⟩
theorem Inv.after   (I:Inv X pins σ H s)(h:CE X.stack X.prog X.w H s Q u s'):EP X pins σ Q u s':=by obtain⟨v,H',os,bare,un,hok,r,q⟩:=h;obtain⟨hh,g,d,t,os'⟩:=s';obtain rfl:os'=s.os:=os;exact⟨v,H',I.call      un hok bare (λb z=>absurd z (by simp)),r,q⟩
end
noncomputable def F4(sp:Sp)(dvs:List V)(E:XK)(t:TA):TE:=λσ H Q=>t σ H λvs H1=>sp (vs++dvs) H1 Q E
def WW(K:Frag)(fd:UE)(ps:List Str)(ds:we):Prop:=
 ∀(s:UB)(us:we),K.In s.heap->(us++ds).length=ps.length->BindsTo s fd ⟨us,[]⟩ (ps.zip (us++ds))
theorem WW.all{K}{fd}{ps}(h:∀us:we,us.length=ps.length->bindArgs fd ⟨us,[]⟩=pure (ps.zip us)):WW K fd ps []:=λs us _ hl=>by rw[Jc]at hl⊢;exact .of_eq (h us hl)
def OS(CX:CXT)(X:Cx)(E:XK):Prop:=∀(pins:List (UD×Obj))(σ:St)(H:Hp)(s:UB)(e:UA)(s':UB),Inv X pins σ H s->CX X.stack H s E e s'->X.xe e s'
section
variable{X:Cx}{CX:CXT}{k:Nat}{f C:UD}{fd:UE}{ps:List Str}{sp:Sp}{dvs:List V}{ds:we}{E:XK}{x m:Str}{p pos apos:Pos}{e o:UF}{es:wf}{ta:TE}{t:TA}
theorem Cc  {σ:St}{H:Hp}{s:UB}{Q:VK}{us}{vs}(F:FnOk X.prog X.w X.K X.mg X.base CX k f fd ps sp)(hr:Room k X.A)(hb:WW X.K fd ps ds)(hd:Vals dvs ds)(hx:OS CX X E)
  (I:Inv X pins σ H s) (r:Vals vs us) (h:sp (vs++dvs) H Q E):UH (model X.prog X.w) X.A (call (.ref f) us) (EP X pins σ Q) X.xe s:=by
 have r2   :=r.append hd;have hl:(us++ds).length=ps.length:=by rw[←r2.length];exact F.len _ _ _ _ h
 refine wpAny_call (codeAny_mono (F.run X.A X.stack s H ⟨us,[]⟩ _ _ Q E hr I.env0 (hb s us I.kIn hl) r2 h) λr s' hq=>?_);cases r with
 |error e=>exact hx pins σ H s e s' I hq
 |ok fl=>
  cases fl with
  |ret u=>exact I.after hq
  |next=>exact False.elim hq
  |brk=>exact False.elim hq
  |cont=>exact False.elim hq
theorem BV(F:FnOk X.prog X.w X.K X.mg X.base CX k f fd ps sp)(hr:Room k X.A)(hg:Gl X x)(hm:X.mg x=O (.ref f))(hk:PySem.W.keepIn X.K (.ref f)=v5)(hb:WW X.K fd ps ds)(hd:Vals dvs ds)(hx:OS CX X E)
  (ha:PA X (e::es) t) (hdb:(x==("__debug__" : Str))=wa:=by decide) (he:UI (e::es) X.env=(wa,eval e X.env)::UI es X.env:=by rfl) (hpl:(backTo pos (UI es X.env)).any (·.1)=wa:=by rfl) :
  PE X (.Call (.Name x p) (e::es) [] pos) (F4 sp dvs E t):=by
 intro pins s σ H Q I h;refine wpAny_Call_Name_kw (PU I hg hm ?_ hdb);refine PySem.W.callWith_K  I.ok.mod.kin hk (thn (ha pos pins s σ H _ I h) λus s1 ⟨vs,H1,I1,r,q⟩=>⟨I1.kIn,?_⟩) he hpl;exact Cc F hr hb hd hx I1 r q
end
structure RP(N P:List Str)(sc:Scope):Prop where
 kind:sc.kind=.function
 co:sc.isCoroutine=wa
 gen:sc.isGenerator=wa
 nd:N.Nodup
 pre:N.take P.length=P
 par:∀x∈P,sc.names.lookup x=O .local∨sc.names.lookup x=O .cell
 nofree:∀y∈sc.names,y.2≠.free
theorem GI{kindOf}{x}:∀{binds}{m},(∀v,(x,v)∉binds)->bindL kindOf binds m x=m x
 |[],_,_=>rfl
 |(n,v)::r,m,h=>by
  unfold bindL;rw[GI λw hw=>h w (Qk _ hw)];split
  .have:x≠n:=by rintro rfl;exact h v Qo
   simp[this]
  .rfl
theorem GH{kindOf}{x}:∀{binds}{m},(∀v,(x,v)∉binds)->bindC kindOf binds m x=m x
 |[],_,_=>rfl
 |(n,v)::r,m,h=>by
  unfold bindC;rw[GH λw hw=>h w (Qk _ hw)];split
  .rfl
  .have:x≠n:=by rintro rfl;exact h v Qo
   simp[this]
theorem GF{kindOf}{x}{v}:∀{P:List Str}{vs}{i:Nat}{m},P.Nodup->P[i]?=O x->vs[i]?=O v->kindOf x=O .local ->
  bindL kindOf (P.zip vs) m x=O v
 |[],_,_,_,_,h,_,_=>by simp at h
 |_::_,[],_,_,_,_,h,_=>by simp at h
 |p::P,w::vs,0,m,nd,h1,h2,hk=>by simp at h1 h2;subst h1;subst h2;show bindL kindOf ((p,w)::P.zip vs) m p=_;unfold bindL;rw[GI λv hv=>(List.nodup_cons.mp nd).1 (List.of_mem_zip hv).1,Qq hk];simp
 |p::P,w::vs,i+1,m,nd,h1,h2,hk=>by unfold bindL;exact GF  (List.nodup_cons.mp nd).2 (by simpa using h1) (by simpa using h2) hk
theorem GE{kindOf}{x}{v}:∀{P:List Str}{vs}{i:Nat}{m},P.Nodup->P[i]?=O x->vs[i]?=O v->kindOf x≠O .local ->
  bindC kindOf (P.zip vs) m x=O v
 |[],_,_,_,_,h,_,_=>by simp at h
 |_::_,[],_,_,_,_,h,_=>by simp at h
 |p::P,w::vs,0,m,nd,h1,h2,hk=>by simp at h1 h2;subst h1;subst h2;show bindC kindOf ((p,w)::P.zip vs) m p=_;unfold bindC;rw[GH λv hv=>(List.nodup_cons.mp nd).1 (List.of_mem_zip hv).1,QB hk];simp
 |p::P,w::vs,i+1,m,nd,h1,h2,hk=>by unfold bindC;exact GE  (List.nodup_cons.mp nd).2 (by simpa using h1) (by simpa using h2) hk
noncomputable def Wg(N:List Str)(vs:List V):St:=vs.map O++UL (N.length-vs.length) v4
noncomputable def Y7(CX:CXT)(P:UC)(w:World)(K:Frag)(mg:Str->wj)(base:Heap)(N:List Str)(qual:Str)(scope:Scope)(f:UD)(cd:UA)(A:Around)(outer:List Env)(s:UB)(H:Hp)(E:XK):Cx where
 prog:=P
 w:=w
 K:=K
 mg:=mg
 base:=base
 A:=A.deeper (envOfC qual scope s.heap.objs.size f cd)
 N:=N
 s₀:=s
 H₀:=H
 env:=envOfC qual scope s.heap.objs.size f cd
 outer:=outer
 stack:=envOfC qual scope s.heap.objs.size f cd::outer
 ex:=[]
 calm:=v5
 fn:=λ_=>v5
 pn:=[]
 xe:=λe s'=>UH (model P w) (A.deeper (envOfC qual scope s.heap.objs.size f cd)) (leaving (envOfC qual scope s.heap.objs.size f cd) e) (λ_ s''=>CX outer H s E e s'') (λe' s''=>CX outer H s E e' s'') s'
theorem Nz{sc:Scope}{n}{x}(h:sc.names.lookup x=O .cell):∃c,(cellsFrom n sc.names []).lookup x=O c:=by have q:=PySem.W.cellsFrom_some sc.names n [] (.inl h);exact Option.isSome_iff_exists.mp q
theorem kN{CX:CXT}{P:UC}{w:World}{K:Frag}{mg:Str->wj}{base:Heap}{N ps:List Str}{qual:Str}{scope:Scope}{f:UD}{cd:UA}{A:Around}{outer:List Env}{s s1:UB}{H:Hp}{E:XK}{us:we}{vs:List V}
  (S:RP N ps scope) (hd:A.handled=v4) (e0:Env0 P w K mg base A outer s H) (hl:vs.length=ps.length) (r:Vals vs us)
  (x:InCallC s s.heap.objs.size (bindL (envOfC qual scope s.heap.objs.size f cd).kindOf (ps.zip us) λ_=>v4) (cellsFrom (s.heap.objs.size+1) scope.names []) (bindC (envOfC qual scope s.heap.objs.size f cd).kindOf (ps.zip us) λ_=>v4) s1) :
  Inv (Y7 CX P w K mg base N qual scope f cd A outer s H E) [] (Wg N vs) H s1:=by
 have hpl:ps.length<=N.length:=by have:=Us List.length S.pre;rw[Q6]at this;omega
 obtain⟨h1,tk,rfl,hk⟩:=x.done;have noA:∀b:UD,b∉(Y7 CX P w K mg base N qual scope f cd A outer s H E).ex:=λb z=>absurd (show b∈([]:wk)from z) (by simp)
 refine⟨⟨e0.mod,S.kind,rfl,rfl,Qp _,λy z c h1 h2=>?_,λy hy=>?_,λy c _ h=>?_,λ_=>hd,Around.frames_deeper e0.frames,.inr ⟨rfl,rfl⟩,λb z=>absurd z (noA b),e0.bs,e0.bsz,λb _ _=>noA b,λb z=>absurd z (noA b),e0.funs,e0.frf⟩,
  rfl,e0.bare,Un.kept hk,⟨_,x.toInCall.ns,λi y v h1 h2 h3=>?_⟩,λy c h=>⟨_,x.cell y c h⟩,e0.hok.fresh (Nat.le_refl _),λy c h=>?_,λp hp=>absurd (show p∈([]:List (UD×Obj))from hp) (by simp),e0.hok.kept hk,?_⟩
 .exact name_of_addr x.apart (Jh h1) (Jh h2)
 .rcases hy with hy|hy
  .exact Nz hy
  .exact absurd v3 (S.nofree _ (Jh hy))
 .exact Ut (x.above y c (Jh h))
 .have hi:i<vs.length:=by
   unfold Wg at h2;by_cases hi:i<vs.length
   .exact hi
   .rw[List.getElem?_append_right (by simpa using hi)]at h2
    rw[Qy]at h2;split at h2<;>cases h2
  have ha:vs[i]?=O v:=by
   unfold Wg at h2;rw[List.getElem?_append_left (by simpa using hi),List.getElem?_map]at h2;cases e:vs[i]? with
   |none=>rw[e]at h2;cases h2
   |some a=>rw[e]at h2;cases h2;rfl
  obtain⟨u,hu,rv⟩:=r.get ha;have hp:ps[i]?=O y:=by rw[←S.pre,List.getElem?_take_of_lt (by omega)];exact h1
  have ndP:ps.Nodup:=by rw[←S.pre];exact S.nd.sublist (List.take_sublist _ _)
  refine⟨u,rv,?_⟩;rcases S.par y (Qr hp)with k|k
  .exact .inl ⟨k,GF ndP hp hu k⟩
  .obtain⟨c,e⟩:=Nz  k
   refine .inr ⟨.inl k,c,e,?_⟩;have q:=x.cell y c e;rw[GE ndP hp hu (by show scope.names.lookup y≠_;rw[k];decide)]at q;exact q
 .exact e0.hok.fresh (Ut (x.above y c (Jh h)))
 .unfold Wg
  show _=N.length;rw[Qj,Qb,QR];omega
theorem F3{CX:CXT}{P:UC}{w:World}{K:Frag}{mg}{base:Heap}{k:Nat}{f:UD}{name qual:Str}{params:Arguments}{body:List Stmt}{scope:Scope}{dV kV doc pm cdv ct oc:UA}{an od:wo}
  {osl} {N ps:List Str} {sp:Sp} (lk:K.lookup f=O ⟨oc,od,.func (PySem.W.fnOf name qual params body scope dV kV doc pm an cdv ct),osl⟩) (hcd:PySem.W.codeIn K cdv qual=v5) (S:RP N ps scope)
  (len:∀vs H Q E,sp vs H Q E->vs.length=ps.length)
  (hbody:∀(A:Around)(outer:List Env)(s:UB)(H:Hp)(vs:List V)(Q:VK)(E:XK),Room k (A.deeper (envOfC qual scope s.heap.objs.size f cdv))->sp vs H Q E ->
   ∃t,PSs (Y7 CX P w K mg base N qual scope f cdv A outer s H E) body t/\t {nx:=λ_ H'=>Q .non H',rt:=Q} (Wg N vs) H) :
  FnOk P w K mg base CX (k+1) f (PySem.W.fnOf name qual params body scope dV kV doc pm an cdv ct) ps sp:=by
 refine⟨len,λA outer s H args us vs Q E hr e0 hb r yz=>?_⟩;have hl:=len _ _ _ _ yz;have KX:K.In s.heap:=e0.mod.kin.keeps λb o e=>(e0.bs b o e).1;have lim:s.heap.NoLimit:=e0.mod.nolimit.keeps λb o e=>(e0.bs b o e).1
 have hkind:∀y∈ps.zip us,scope.names.lookup y.1=O .local∨(scope.names.lookup y.1=O .cell/\((cellsFrom (s.heap.objs.size+1) scope.names []).lookup y.1).isSome=v5):=λ⟨n,v⟩ hy=>by
  rcases S.par n (List.of_mem_zip hy).1 with q|q
  .exact .inl q
  .exact .inr ⟨q,PySem.W.cellsFrom_some _ _ _ (.inl q)⟩
 refine codeAny_call_function hr.depth (KX _ _ lk) v3 S.co S.gen v3 (PySem.W.codeRec_of KX hcd) (hb _ _ _ _ ?_);refine wpAny_newFunctionEnv_cells S.kind hkind λenv he s1 x=>?_;subst he
 refine⟨lim.keeps x.toInCall.keep,codeAny_func ?_⟩;obtain⟨t,ht,hq⟩:=hbody A outer s H vs Q E (hr.deeper _) yz;have I:Inv (Y7 CX P w K mg base N qual scope f cdv A outer s H E) [] (Wg N vs) H s1:=kN S hr.hd e0 hl r x;refine QL (ht [] s1 (Wg N vs) H _ I hq) (λfl s' hs=>?_) λe s' hs=>hs
 have fin:∀{σ':St}{H':Hp}{v:V}{u:UA},Inv (Y7 CX P w K mg base N qual scope f cdv A outer s H E) [] σ' H' s'->RelV v u->Q v H'->CE outer P w H s Q u s':=
  λ{σ' H' v u} J rv q=>⟨v,H',J.os,J.bare,J.base,J.hok,rv,q⟩
 cases fl with
 |ret u=>obtain⟨v,σ',H',J,rv,q⟩:=hs;exact fin J rv q
 |next=>obtain⟨σ',H',J,q⟩:=hs;exact fin (v:=V.non)  J v3 q
 |brk=>obtain⟨_,_,_,q⟩:=hs;exact False.elim q
 |cont=>obtain⟨_,_,_,q⟩:=hs;exact False.elim q
section
variable{X:Cx}{x:Str}{p pos:Pos}{e:UF}{es:wf}{t:TA}{id T:String}{r:List V->Hp->VK->Prop}
noncomputable def tCB(r:List V->Hp->VK->Prop)(t:TA):TE:=λσ H Q=>t σ H λvs H1=>r vs H1 Q
theorem P8(hc:YS X (.builtin id) r)(hg:Gl X x)(hm:X.mg x=v4)(hv:bootBuiltins x=O (.builtin id))(ha:PA X (e::es) t)(hn:x ≠ "__name__" :=by decide)(hdb:(x==("__debug__" : Str))=wa:=by decide)
  (he:UI (e::es) X.env=(wa,eval e X.env)::UI es X.env:=by rfl) (hpl:(backTo pos (UI es X.env)).any (·.1)=wa:=by rfl):PE X (.Call (.Name x p) (e::es) [] pos) (tCB r t):=by
 intro pins s σ H Q I h;refine wpAny_Call_Name_kw (WZ I hg hm hv ?_ hn hdb);exact PyProof.Rows.callWith_builtin1 (thn (ha pos pins s σ H _ I h) λus s1 ⟨vs,H1,I1,r1,q1⟩=>hc pins s1 σ H1 vs us Q I1 r1 q1) he hpl
theorem Ob(hc:YS X (.type T) r)(hg:Gl X x)(hm:X.mg x=v4)(hv:bootBuiltins x=O (.type T))(ha:PA X (e::es) t)(hn:x ≠ "__name__" :=by decide)(hdb:(x==("__debug__" : Str))=wa:=by decide)
  (he:UI (e::es) X.env=(wa,eval e X.env)::UI es X.env:=by rfl) (hpl:(backTo pos (UI es X.env)).any (·.1)=wa:=by rfl):PE X (.Call (.Name x p) (e::es) [] pos) (tCB r t):=by
 intro pins s σ H Q I h;refine wpAny_Call_Name_kw (WZ I hg hm hv ?_ hn hdb);exact JR (thn (ha pos pins s σ H _ I h) λus s1 ⟨vs,H1,I1,r1,q1⟩=>hc pins s1 σ H1 vs us Q I1 r1 q1) he hpl
end
end L2
namespace HT
open PySem PyProof.Rows
noncomputable def Xw:wc->wc->Bool
 |[],[]=>wa
 |[],_::_=>v5
 |_::_,[]=>wa
 |x::xs,y::ys=>if x=y then Xw xs ys else decide (x<y)
theorem Oq(x y)(xs ys):Xw (x::xs) (y::ys)=if x=y then Xw xs ys else decide (x<y):=rfl
section
variable{prog:UC}{w:World}{A:Around}{E:UA->UB->Prop}{s:UB}
noncomputable def sIx(n d:Nat):wg->Nat
 |none=>d
 |some v=>if v<0 then(v+(n:Int)).toNat else min v.toNat n
end
end HT
namespace L2
open PySem PySem.Spec PyProof.Rows
abbrev TO:=St->Hp->(wg->Hp->Prop)->Prop
def PO(X:Cx)(e:Option UF)(t:TO):Prop:=
 ∀(pins:List (UD×Obj))(s:UB)(σ:St)(H:Hp)(Q:wg->Hp->Prop),Inv X pins σ H s->t σ H Q ->
  UH (model X.prog X.w) X.A (evalPart e X.env) (λu s'=>∃o H',Inv X pins σ H' s'/\IsPart u o/\Q o H') X.xe s
noncomputable def BU:TO:=λ_ H Q=>Q v4 H
noncomputable def F2(t:TE):TO:=λσ H Q=>t σ H λx H1=>∃i,x=.int i/\Q (O i) H1
section
variable{X:Cx}{e:UF}{te:TE}{lo hi:Option UF}{tl th:TO}{pos p2:Pos}
theorem BS:PO X v4 BU:=by intro pins s σ H Q I h;exact Qm ⟨v4,H,I,.none,h⟩
theorem BR(h:PE X e te):PO X (O e) (F2 te):=by
 intro pins s σ H Q I hw;refine thn (h pins s σ H _ I hw) λu s1 ⟨x,H1,I1,r1,q1⟩=>?_
 obtain⟨i,rfl,q⟩:=q1;obtain⟨t,rfl⟩:=r1;exact⟨O i,H1,I1,.int i t,q⟩
def SlR(X:Cx)(r:V->wg->wg->Hp->VK->Prop):Prop:=
 ∀(pins:List (UD×Obj))(s:UB)(σ:St)(H:Hp)(x:V)(v vl vu:UA)(lo hi:wg)(sl:UD)(Q:VK),Inv X pins σ H s->RelV x v->s.heap.IsSliceOf sl vl vu .none->IsPart vl lo->IsPart vu hi->r x lo hi H Q ->
  ∃T id,typeLookup (.type T) "__getitem__" = pure (O (.builtin id))/\s.TypeIs v T/\UH (model X.prog X.w) X.A (getItem v (.ref sl)) (EP X pins σ Q) X.xe s
theorem SlR.or  (h:SlR X r)(h':SlR X r'):SlR X (λx lo hi H Q=>r x lo hi H Q∨r' x lo hi H Q):=by
 intro pins s σ H x v vl vu lo hi sl Q I rx hs pl pu q;rcases q with q|q
 .exact h pins s σ H x v vl vu lo hi sl Q I rx hs pl pu q
 .exact h' pins s σ H x v vl vu lo hi sl Q I rx hs pl pu q
noncomputable def tSl(r:V->wg->wg->Hp->VK->Prop)(te:TE)(tl th:TO):TE:=λσ H Q=>te σ H λx H1=>tl σ H1 λl H2=>th σ H2 λu H3=>r x l u H3 Q
theorem qF  (hr:SlR X r)(he:PE X e te)(hl:PO X lo tl)(hu:PO X hi th):PE X (.Subscript e (.Slice lo hi v4 p2) pos) (tSl r te tl th):=by
 intro pins s σ H Q I h;refine Subscript_ (thn (he pins s σ H _ I h) λv s1 ⟨x,H1,I1,r1,q1⟩=>?_);refine wpAny_Slice (thn (hl pins s1 σ H1 _ I1 q1) λvl s2 ⟨l,H2,I2,pl,q2⟩=>thn (hu pins s2 σ H2 _ I2 q2) λvu s3 ⟨u,H3,I3,pu,q3⟩=>?_);refine Qm ?_;have I4:Inv X pins σ H3 {s3 with heap:=s3.heap.push {cls:=.type "slice", data:=.fields #[vl,vu,.none]}}:=I3.kept  λb ob q=>Qi _ q
 obtain⟨T,id,hT,ht,hg⟩:=hr pins {s3 with heap:=s3.heap.push {cls:=.type "slice", data:=.fields #[vl,vu,.none]}} σ H3 x v vl vu l u s3.heap.objs.size Q I4 r1 (Heap.IsSliceOf.new ..) pl pu q3;exact tail_any  ht hT hg (by with_unfolding_all rfl)
noncomputable def Wp(xs:List V)(lo hi:wg):List V:=(xs.drop (HT.sIx xs.length 0 lo)).take (HT.sIx xs.length xs.length hi-HT.sIx xs.length 0 lo)
theorem vo(xs)(lo hi):(Wp xs lo hi).length<=xs.length:=by unfold Wp;rw[Q6,Jl];omega
end
noncomputable def ixN(n:Nat)(i:Int):Option Nat:=if 0<=i then(if i<n then O i.toNat else v4)else if -(n:Int)<=i then O (i+n).toNat else v4
noncomputable def atI{α:Type}(xs:List α)(i:Int):Option α:=(ixN xs.length i).bind λj=>xs[j]?
theorem L8    (h:ixN n i=O j):seqIndex? i n=O j/\j<n /\ -(n:Int)<=i/\i<n:=by
 unfold ixN at h;by_cases h0:0<=i
 .rw[Qq h0]at h
  by_cases h1:i<n
  .rw[Qq h1]at h
   have e   :=Q7 h;exact⟨by rw[seqIndex_of h0 h1,e],by omega,by omega,h1⟩
  simp_all
 .rw[QB h0]at h
  by_cases h1 : -(n)<=i
  .rw[Qq h1]at h
   have e   :=Q7 h;exact⟨by rw[seqIndex_neg (by omega) h1,e],by omega,h1,by omega⟩
  .rw[QB h1]at h;cases h
theorem Ng    {v:α}(h:atI xs i=O v):∃j,seqIndex? i xs.length=O j/\xs[j]?=O v/\j<xs.length /\ -(xs.length:Int)<=i/\i<xs.length:=by
 unfold atI at h;cases e:ixN xs.length i with
 |none=>simp_all
 |some j=>rw[e]at h;obtain⟨h1,h2,h3,h4⟩:=L8 e;exact⟨j,h1,h,h2,h3,h4⟩
theorem Z7   {j:Nat}{v:α}(h:xs[j]?=O v):atI xs (j:Int)=O v:=by
 have hj   :=(Qg.mp h).1;have e:ixN xs.length (j)=O j:=by unfold ixN;simp_all
 unfold atI;rw[e];exact h
def Nf(b:UF):Prop:=∀o i,subscripted b wa o i=operate [o,i] (getItem o i)
def IxR(X:Cx)(r:R2):Prop:=
 ∀(value slice:UF)(pins:List (UD×Obj))(s:UB)(σ:St)(H:Hp)(x y:V)(v u:UA)(Q:VK),Inv X pins σ H s->RelV x v->RelV y u->r x y H Q ->
  subscripted slice wa v u=operate [v,u] (getItem v u)->UH (model X.prog X.w) X.A (subscriptTail value slice v u) (EP X pins σ Q) X.xe s
def MtR(X:Cx)(id:String)(r:V->List V->Hp->VK->Prop):Prop:=
 ∀(pins:List (UD×Obj))(s:UB)(σ:St)(H:Hp)(x:V)(xs:List V)(v:UA)(us:we)(Q:VK),Inv X pins σ H s->RelV x v->Vals xs us->r x xs H Q ->
  UH (model X.prog X.w) X.A (call (.builtin id) (v::us)) (EP X pins σ Q) X.xe s
section
variable{X:Cx}{a b:UF}{ta tb:TE}{pos:Pos}
theorem IxR.or  (h:IxR X r)(h':IxR X r'):IxR X (λx y H Q=>r x y H Q∨r' x y H Q):=by
 intro value slice pins s σ H x y v u Q I rx ry q hs;rcases q with q|q
 .exact h value slice pins s σ H x y v u Q I rx ry q hs
 .exact h' value slice pins s σ H x y v u Q I rx ry q hs
theorem Ms  (hr:IxR X r)(ha:PE X a ta)(hb:PE X b tb)(hs:Nf b):PE X (.Subscript a b pos) (tOp r ta tb):=by intro pins s σ H Q I h;exact Subscript_ (SJ ha hb I h λv u s2 x y H2 I2 rx ry q=>hr a b pins s2 σ H2 x y v u Q I2 rx ry q (hs _ _))
noncomputable def rIxL(K:Frag):R2:=λx y H Q=>∃p xs i v,x=.ref p/\y=.int i/\SqL K H p xs/\atI xs i=O v/\Q v H
noncomputable def rIxT(K:Frag):R2:=λx y H Q=>∃p xs i v,x=.ref p/\y=.int i/\SqT K H p xs/\atI xs i=O v/\Q v H
noncomputable def rIxS:R2:=λx y H Q=>∃z i c,x=.str z/\y=.int i/\z.length<=UG/\atI z.cps.toList i=O c/\Q (.str ⟨#[c]⟩) H
theorem BQ:IxR X (rIxL X.K):=by
 intro value slice pins s σ H x y v u Q I rx ry h hs;obtain⟨p,xs,i,z,rfl,rfl,hq,he,q⟩:=h;cases rx;obtain⟨t,rfl⟩:=ry;obtain⟨its,r,pl,hz⟩:=I.list hq;obtain⟨j,h1,h2,h3,h4,h5⟩:=Ng he;obtain⟨w,ew,wW⟩:=r.get h2;have hl:=r.length;have hn:=Px;have fin:EP X pins σ Q w s:=⟨z,H,I,wW,q⟩
 by_cases h0:0<=i
 .have hj   :=by
   rw[seqIndex_of h0 h5]at h1;exact Q7 h1
  exact item_listR pl.isList h0 (by omega) (by rw[hj];simpa using ew) fin hs
 .have hj:(i+(its.toArray.size:Int)).toNat=j:=by
   rw[seqIndex_neg (by omega) h4]at h1;rw[Jb,←hl];exact Q7 h1
  exact subscriptTail_builtinR (x:=w) pl.isList.typeIs slot_list_getitem.lookup
   (wpAny_getItem_list_neg  pl.isList (by omega) (by rw[List.size_toArray]<;>omega) (by omega) (by rw[hj];simpa using ew) ⟨rfl,fin⟩) hs
theorem Cb:IxR X (rIxT X.K):=by
 intro value slice pins s σ H x y v u Q I rx ry h hs;obtain⟨p,xs,i,z,rfl,rfl,hq,he,q⟩:=h;cases rx;obtain⟨t,rfl⟩:=ry;obtain⟨its,r,pl,hz⟩:=I.tuple hq;obtain⟨j,h1,h2,h3,h4,h5⟩:=Ng he;obtain⟨w,ew,wW⟩:=r.get h2;have hl:=r.length;have hn:=Px;have fin:EP X pins σ Q w s:=⟨z,H,I,wW,q⟩
 exact subscriptTail_builtinR  pl.typeIs slot_tuple_getitem.lookup
  (getItem_tuple   pl (by omega) (by omega) (by rw[List.size_toArray,←hl];exact h1) (by simpa using ew) ⟨rfl,fin⟩) hs
theorem Ca:IxR X rIxS:=by
 intro value slice pins s σ H x y v u Q I rx ry h hs;obtain⟨z,i,c,rfl,rfl,hz,he,q⟩:=h;obtain⟨t,rfl⟩:=rx;obtain⟨t',rfl⟩:=ry;obtain⟨j,h1,h2,h3,h4,h5⟩:=Ng he;have hl:z.cps.toList.length=z.length:=by simp[Str.length]
 rw[hl]at h1 h4 h5;have hn:=Px;exact tail_any (typeIs_str s z t) slot_str_getitem.lookup (getItem_str  (by have e1:decide (i < -(2 ^ 63:Int))=wa:=QG (by omega);have e2:decide (i ≥ 2 ^ 63)=wa:=QG (by omega);rw[e1,e2,Bool.or_false]) (by rw[h1];simpa using h2) ⟨.str ⟨#[c]⟩,H,I.tok _,⟨_,rfl⟩,q⟩) hs
noncomputable def rIx(K:Frag):R2:=λx y H Q=>rIxL K x y H Q∨rIxT K x y H Q∨rIxS x y H Q
theorem MT:IxR X (rIx X.K):=BQ.or (Cb.or Ca)
theorem vC(lo hi)(n):(sliceBounds lo hi v4 n).1=((HT.sIx n 0 lo:Nat):Int)/\(sliceBounds lo hi v4 n).2.1=((HT.sIx n n hi:Nat):Int)/\(sliceBounds lo hi v4 n).2.2=1:=by
 refine⟨?_,?_,rfl⟩
 .cases lo with
  |none=>simp[sliceBounds,HT.sIx]
  |some i=>
   simp only[sliceBounds,HT.sIx,Option.getD_none,show(1:Int) > 0 by decide,if_true];by_cases h:i<0
   .simp only[h,if_true]<;>omega
   .simp only[h,if_false]<;>omega
 .cases hi with
  |none=>simp[sliceBounds,HT.sIx]
  |some i=>
   simp only[sliceBounds,HT.sIx,Option.getD_none,show(1:Int) > 0 by decide,if_true];by_cases h:i<0
   .simp only[h,if_true]<;>omega
   .simp only[h,if_false]<;>omega
theorem vT(its:we)(lo hi):slicePick its.toArray lo hi v4=((its.drop (HT.sIx its.length 0 lo)).take (HT.sIx its.length its.length hi-HT.sIx its.length 0 lo)).toArray:=by obtain⟨h1,h2,h3⟩:=vC lo hi its.toArray.size;unfold slicePick;rw[h1,h2,h3];simp only[sliceRange_one,pick_run]<;>rfl
noncomputable def rSlL(K:Frag):V->wg->wg->Hp->VK->Prop:=λx lo hi H Q=>∃a xs,x=.ref a/\SqL K H a xs/\∀p,H p=v4->Q (.ref p) (upd H p (.lst (Wp xs lo hi)))
theorem BP:SlR X (rSlL X.K):=by intro pins s σ H x v vl vu lo hi sl Q I rx hs pl pu h;obtain⟨a,xs,rfl,hx,q⟩:=h;cases rx;obtain⟨its,r,ht,hz⟩:=I.list hx;have hlen:=r.length;refine⟨"list", _,slot_list_getitem.lookup,ht.isList.typeIs,?_⟩;refine wpAny_getItem_list_slice ht.isList hs pl pu .none (by simp) ?_ (by grind);rw[vT,←hlen];refine⟨.ref s.heap.objs.size,_,I.laid   (λb ob q=>Qi _ q) (Qp _) ?_,rfl,q _ (I.hok.fresh (Qp _))⟩;exact⟨QE (vo xs lo hi) hz,_,0,(r.drop _).take _,QA _ v3⟩
theorem FD:YS X (.type "list") (λxs H Q=>∃p ys,xs=[.ref p]/\(SqL X.K H p ys∨SqT X.K H p ys)/\∀l,H l=v4->Q (.ref l) (upd H l (.lst ys))):=by
 intro pins s σ H xs us Q I r h;obtain⟨p,ys,rfl,hq,q⟩:=h;obtain⟨u,rfl,rx⟩:=Pn r;cases rx
 have fin:∀(its:we),Vals ys its->ys.length<=UG->∀(h':Heap)(c':Nat),_ ->
   h'.get? s.heap.objs.size=O {cls:=.type "list", dict:=v4,data:=.seq its.toArray c',slots:=#[]}->EP X pins σ Q _ {s with heap:=h'}:=λits r' hz h' c' kp e=>
  ⟨.ref s.heap.objs.size,_,I.laid  kp (Qp _) (show YK X.prog X.w _ h' _ (.lst ys)from⟨hz,its,c',r',e⟩),rfl,q _ (I.hok.fresh (Qp _))⟩
 rcases hq with hq|hq
 .obtain⟨its,r',pl,hz⟩:=I.list hq
  have hlen:=r'.length;obtain⟨o,ho,hc,n,hd⟩:=pl.isList;exact call_list_seq p (.inl v3) ho hc hd (λh' c' kp e=>fin its r' hz h' c' kp e) (by simp_all)
 .obtain⟨its,r',pl,hz⟩:=I.tuple hq
  have hlen:=r'.length;obtain⟨o,ho,hc,n,hd⟩:=pl;exact call_list_seq p (.inr v3) ho hc hd (λh' c' kp e=>fin its r' hz h' c' kp e) (by simp_all)
def tyV(K:Frag)(T:String)(x:V)(H:Hp):Prop:=match x with
 |.str _=>T = "str"
 |.int _=>T = "int"
 |.ref p=>(T = "list" /\ ∃xs,SqL K H p xs)∨(T = "tuple" /\ ∃o,K.lookup p=O o/\o.cls=.type "tuple" /\ o.dict=v4) ∨
   (T = "dict" /\ ((∃kvs,H p=O (.dK kvs)) ∨ ∃kvs,H p=O (.dT kvs)))∨(T = "set" /\ ∃S n,H p=O (.set S n))
 |_=>False
theorem D9  {σ:St}{H:Hp}{s:UB}{T:String}{x:V}{v:UA}(I:Inv X pins σ H s)(r:RelV x v)(ty:tyV X.K T x H) :
  s.TypeIs v T/\∀a,v=.ref a->∃ob,s.heap.get? a=O ob/\ob.dict=v4:=by
 cases x with
 |str z=>obtain⟨t,rfl⟩:=r;cases (ty);exact⟨typeIs_str s z t,λ_ e=>nomatch e⟩
 |int i=>obtain⟨t,rfl⟩:=r;cases (ty);exact⟨typeIs_int s i t,λ_ e=>nomatch e⟩
 |ref p=>
  cases r;rcases ty with ⟨rfl,xs,hq⟩|⟨rfl,o,hk,hc,hd⟩|⟨rfl,hk⟩|⟨rfl,S,n,hk⟩
  .obtain⟨its,_,pl,_⟩:=I.list hq
   refine⟨pl.isList.typeIs,λa e=>?_⟩;cases e;obtain⟨o,n,e,c,hd,_⟩:=pl;exact⟨o,e,hd⟩
  .refine⟨⟨o,I.kIn p o hk,hc⟩,λa e=>?_⟩
   cases e;exact⟨o,I.kIn _ o hk,hd⟩
  .have z:∃o,s.heap.get? p=O o/\o.ExactDict:=by
    rcases hk with ⟨kvs,hk⟩|⟨kvs,hk⟩
    .obtain⟨_,_,_,_,o,_,_,e,ex,_⟩:=I.hok p _ hk
     exact⟨o,e,ex⟩
    .obtain⟨_,_,_,_,o,_,_,e,ex,_⟩:=I.hok p _ hk
     exact⟨o,e,ex⟩
   obtain⟨o,e,ex⟩:=z;refine⟨⟨o,e,ex.1⟩,λa e2=>?_⟩;cases e2;exact⟨o,e,ex.2.1⟩
  .obtain⟨o,_,_,_,e,ex,_⟩:=I.hok p _ hk
   refine⟨⟨o,e,ex.1⟩,λa e2=>?_⟩;cases e2;exact⟨o,e,ex.2.1⟩
 |_=>exact False.elim ty
noncomputable def tBM(K:Frag)(T:String)(r:V->List V->Hp->VK->Prop)(to:TE)(t:TA):TE:=λσ H Q=>to σ H λx H1=>tyV K T x H1/\t σ H1 λxs H2=>r x xs H2 Q
variable{o e:UF}{es:wf}{to:TE}{t:TA}{name:Str}{apos cpos:Pos}{T id:String}{r:V->List V->Hp->VK->Prop}
theorem Pl(pa:PlainAttrs T)(slot:Slot T name id)(hty:typeOf (.builtin id)=pure (.type "method_descriptor"))(hm:MtR X id r)(ho:PE X o to)(ha:PA X (e::es) t)
  (hbase:attributeBase o name X.env (eval o X.env)=eval o X.env:=by rfl)
  (hfew:((backTo cpos (UI (e::es) X.env)).all (λx=>!x.1)&&(backToKw cpos (keywordEach [] X.env)).all (λx=>x.1.isSome)
   && decide ((e::es).length+([]:List Keyword).length+(if([]:List Keyword).isEmpty then 0 else 1)<30))=v5:=by rfl)
  (hline:(apos.endLine==cpos.line)=v5:=by rfl) (hs:UI (e::es) X.env=(wa,eval e X.env)::UI es X.env:=by rfl) (hplain:(backTo cpos (UI es X.env)).any (·.1)=wa:=by rfl) :
  PE X (.Call (.Attribute o name apos) (e::es) [] cpos) (tBM X.K T r to t):=by
 intro pins s σ H Q I h;refine wpAny_Call_method_late hbase hfew hline v3 (thn (ho pins s σ H _ I h) λv s1 ⟨x,H1,I1,r1,ty,q1⟩=>?_);obtain⟨h1,h2⟩:=D9 I1 r1 ty;refine⟨T,id,pa,slot,hty,h1,h2,?_⟩;have hA:=ha cpos pins s1 σ H1 _ I1 q1;rw[hs]at hA⊢;refine Calls.callWith_builtin (by show(wa || (backTo cpos _).any _)=wa;rw[hplain]<;>rfl) (Calls.evalArgs_plain ?_);exact thn hA λus s2 ⟨vs,H2,I2,r2,q2⟩=>hm pins s2 σ H2 x vs v us Q I2 r1 r2 q2
end
def MtM(X:Cx)(id:String)(r:V->List V->Hp->VK->Prop):Prop:=
 ∀(pins:List (UD×Obj))(s:UB)(σ:St)(H:Hp)(x:V)(xs:List V)(v:UA)(us:we)(Q:VK),Inv X pins σ H s->RelV x v->Vals xs us->r x xs H Q ->
  UH (model X.prog X.w) X.A (call (.builtin id) (v::us)) (EP X pins σ Q) X.xe s
theorem Vals.one:∀{x}{us},Vals [x] us->∃u,us=[u]/\RelV x u
 |_,_,.cons r .nil=>⟨_,rfl,r⟩
theorem Vals.two:∀{x y}{us},Vals [x,y] us->∃u v,us=[u,v]/\RelV x u/\RelV y v
 |_,_,_,.cons r (.cons q .nil)=>⟨_,_,rfl,r,q⟩
theorem Vals.eraseIdx:∀{xs}{us}(i),Vals xs us->Vals (xs.eraseIdx i) (us.eraseIdx i)
 |_,_,_,.nil=>.nil
 |_,_,0,.cons _ t=>t
 |_,_,i+1,.cons r t=>.cons r (Vals.eraseIdx i t)
theorem Vals.reverse   (h:Vals xs us):Vals xs.reverse us.reverse:=by
 induction h with
 |nil=>exact .nil
 |cons r t ih=>rw[List.reverse_cons,List.reverse_cons];exact Vals.append ih (.cons r .nil)
theorem Vals.rep   (h:Vals xs us):∀k:Nat,Vals (UL k xs).flatten (UL k us).flatten
 |0=>.nil
 |k+1=>by exact Vals.append h (Vals.rep h k)
theorem GD{α:Type}:∀(l:List α)(i),(l.eraseIdx i).length<=l.length
 |[],_=>Qp _
 |_::_,0=>JA _
 |_::r,i+1=>Nat.succ_le_succ (GD r i)
theorem GC(its):∀(k)(acc:we),
  List.foldl (λx1 x2=>x1++x2) acc.toArray (UL k its.toArray)=(acc++(UL k its).flatten).toArray
 |0,acc=>by simp
 |k+1,acc=>by
  have e:acc.toArray++its.toArray=(acc++its).toArray:=by simp
  have e2:(acc++its)++(UL k its).flatten=acc++(UL (k+1) its).flatten:=by rw[JO,Jg,Q2]
  rw[←e2,←GC its k _,←e,JO,Ua]
section
variable{X:Cx}{pins:List (UD×Obj)}{σ:St}{H:Hp}{s:UB}{l b:UD}{xs ys zs:List V}
theorem Inv.lset{its its':we}{n}{f}{t'}(I:Inv X pins σ H s)(hH:H l=O (.lst xs))
  (e:s.heap.get? l=O {cls:=.type "list", data:=.seq its.toArray n}) (hf:f its.toArray=its'.toArray) (hv:Vals ys its') (hz:ys.length<=UG) :
  Inv X pins σ (upd H l (.lst ys)) {s with heap:=s.heap.update l (Obj.mapSeq f),toks:=t'}:=by
 have q:=PySem.IsL.update e f;rw[hf]at q;refine I.write   (by rw[hH];exact trivial) (.inl v3) (λb' u hb hu=>(QP s.heap _ (Ne.symm hb)).trans hu) ⟨_,q⟩ ?_;exact⟨hz,its',_,hv,q⟩
theorem Inv.lnew   (I:Inv X pins σ H s)(hv:Vals ys its)(hz:ys.length<=UG) :
  Inv X pins σ (upd H s.heap.objs.size (.lst ys)) {s with heap:=s.heap.push {cls:=.type "list", data:=.seq its.toArray},toks:=t'}:=
 I.laid (λ_ _ q=>Qi _ q) (Qp _) ⟨hz,its,0,hv,QA _ v3⟩
theorem Inv.fresh(I:Inv X pins σ H s):H s.heap.objs.size=v4:=I.hok.fresh (Qp _)
theorem Inv.lstM(I:Inv X pins σ H s)(hH:H l=O (.lst xs)):xs.length<=UG/\∃(its:we)(n:Nat),Vals xs its/\xs.length=its.length/\s.heap.get? l=O {cls:=.type "list", data:=.seq its.toArray n}:=by obtain⟨z,its,n,r,e⟩:=I.hok l _ hH;exact⟨z,its,n,r,r.length,e⟩
theorem qE  (h:n<=UG):Builtin.List.listTooLong n=wa:=by exact QG (by omega)
end
section
variable{X:Cx}
noncomputable def BO:V->List V->Hp->VK->Prop:=λx vs H Q=>∃l xs y,x=.ref l/\vs=[y]/\H l=O (.lst xs)/\xs.length<UG/\Q .non (upd H l (.lst (xs++[y])))
theorem GT:MtM X "list.append" BO:=by
 intro pins s σ H x vs v us Q I rx rv h;obtain⟨l,xs,y,rfl,rfl,hH,hz,q⟩:=h;cases rx;obtain⟨u,rfl,ru⟩:=rv.one;obtain⟨z,its,n,r,hl,e⟩:=I.lstM hH;refine call_meets F.slot_list_append ⟨_,e,rfl⟩ F.entry_list_append (F.args_list_append_2 _ _) (PySem.list_append l its.toArray n u (by grind)) ⟨e,?_⟩;refine⟨.non,_,I.lset  hH e (by simp) (r.append (.cons ru .nil)) ?_,rfl,q⟩
 grind
noncomputable def D8:V->List V->Hp->VK->Prop:=λx vs H Q=>∃l xs i k y,x=.ref l/\vs=[.int i]/\H l=O (.lst xs) /\ -(2 ^ 63)<=i/\i<2 ^ 63/\seqIndex? i xs.length=O k/\xs[k]?=O y/\Q y (upd H l (.lst (xs.eraseIdx k)))
theorem qD:MtM X "list.pop" D8:=by
 intro pins s σ H x vs v us Q I rx rv h;obtain⟨l,xs,i,k,y,rfl,rfl,hH,h1,h2,hk,hy,q⟩:=h;cases rx;obtain⟨u,rfl,ru⟩:=rv.one;obtain⟨t,rfl⟩:=ru;obtain⟨z,its,n,r,hl,e⟩:=I.lstM hH;obtain⟨w,hw,wW⟩:=r.get hy
 refine call_meets F.slot_list_pop ⟨_,e,rfl⟩ F.entry_list_pop (F.args_list_pop_2 _ _)
  (MeetsSeq.list_pop_at l its.toArray n i t k w (fitsIndex_both h1 h2) (by simp_all) (by simp_all) (by simp_all)) ⟨e,?_⟩
 refine⟨y,_,I.lset  hH e ?_ (r.eraseIdx k) ?_,wW,q⟩
 .simp_all
 .have:=GD xs k
  omega
theorem BN{α:Type}(xs:List α)(k):(UL k xs).flatten.length=k*xs.length:=by simp_all
end
section
variable{prog:UC}{w:World}{A:Around}{E:UA->UB->Prop}{s:UB}
set_option maxRecDepth 100000 in
end
end L2
namespace Att
open PySem PySem.W PySem.Calls PyProof.Rows
theorem vX   : ∀(ns)(vs),WellAll P h vs (ns.map WData.int)->IntsAre vs ns:=by
 intro ns;induction ns with
 |nil=>intro vs w;cases w;exact .nil
 |cons n ns ih=>
  intro vs w;cases w with
  |cons a b=>cases a;exact .cons _ _ (ih _ b)
theorem kM{l:OpenLaw}{n:Nat}(hn:l.most=O n){P}{h}{args}{vals}
  (hpre:l.row.toRowW.claim.pre args=v5) (wE:WellAll P h vals args) :
  ∃a vs ns,vals=[Value.ref a]/\args=[WData.list (ns.map WData.int)]/\h.get? a=O {cls:=.type "list", data:=.seq vs.toArray}/\IntsAre vs ns/\ns.length<=n:=by
 have hsh:WShape.hasAll [] args [.list .int]=v5:=(pre_splitW hpre).1;have hc   :=(pre_splitW hpre).2;obtain⟨d,r,rfl,h1,h2⟩:=hasAllW_cons hsh;obtain rfl:=hasAllW_nil h2;obtain⟨xs,rfl,h3⟩:=hasW_list h1;obtain⟨ns,rfl⟩:=items_int h3
 have hlen   :=by
  have h4   :=by have h4:=(holds_andW hc).1;rw[hn]at h4;exact h4
  have h5:=condW_of h4 (w_not (w_lt w_lit (w_len_list (w_arg v3))))
  first
   |(exact absurd h5 _)
   |(simp at h5;omega)
 cases wE with
 |cons w1 w2=>
  cases w2;cases w1 with
  |list ho hall=>exact⟨_,_,ns,rfl,rfl,ho,vX ns _ hall,hlen⟩
theorem kL(l:OpenLaw)(args):l.row.toRowW.claim.post args (.bool v5) args=v5:=
 postW_of
  (show WShape.has [] _ .bool=v5 by first|rfl|decide|lia)
  (w_eq_bool (w_res v3) w_lit) v3
theorem attach_call{l:OpenLaw}{n:Nat}{q}{loose}{XP}{YP}{d}
  (hn:l.most=O n) (hdf:d.params.defaults=[])
  (call:∀(w:World)(s₀ s₁)(mg mb)(fa:UD)(o:Obj)(pm cd doc)(a:UD)(vs)(ns),
   Ground q loose [] XP w s₀ mg mb s₁.heap->YP w s₁.heap ->
   s₁.heap.get? fa=O o->o.data=.func (docDef d.name d.params d.body d.scope pm cd doc)->s₁.heap.CodeRec cd d.name->mg d.name=O (.ref fa) ->
   s₁.heap.get? a=O {cls:=.type "list", data:=.seq vs.toArray}->IntsAre vs ns->ns.length<=n->s₁.gens=#[] ->
   codeAny (model l.prog w) callerA (.call (.ref fa) ⟨[.ref a],[]⟩) (λr s'=>r=.ok (.ret (.bool v5))/\OldK s₁.heap s'.heap/\s'.os=s₁.os/\AllBare s'.gens) s₁) :
  WalkO q loose XP YP l.row.toRowW d [] (λf vs=>PySem.call f vs):=by
 intro w s₀ s₁ mg mb G Y fa o pm cd doc dV kV ho hd hcd hD hmg hg args vals as hpre hlay hrd wE hlo;obtain rfl:dV=.none:=Dflts.none hD hdf;obtain rfl:kV=.none:=Dflts.noKw hD;obtain⟨a,vs,ns,rfl,rfl,hobj,hints,hlen⟩:=kM hn hpre wE;refine enter_call (codeAny_mono (call w s₀ s₁ mg mb fa o pm cd doc a vs ns G Y ho (fd_plain hd) hcd hmg hobj hints hlen hg) λr s' hq=>?_);obtain⟨rfl,h2,h3,h4⟩:=hq;exact⟨.inl ⟨.bool v5,.bool v5,[],rfl,λ_=>rfl,.bool v5,kL l _,λ_=>⟨List.Pairwise.nil,λ_ hm=>(nomatch hm)⟩⟩,h2,h3,h4⟩
end Att
namespace L2
open PySem PySem.Spec PyProof.Rows
theorem Vf:∀{vs}{ns},IntsAre vs ns->Vals (ns.map V.int) vs
 |_,_,.nil=>.nil
 |_,_,.cons n t h=>.cons ⟨t,rfl⟩ (Vf h)
def Only(H:Hp):Prop:=∀b,H b=v4 ∨ ∃o xs,H b=O (.frz o (.lst xs))
theorem qC{P:UC}{w:World}{K:Frag}{mg mb:Str->wj}{CX:CXT}{k:Nat}{fa a:UD}{fd:UE}{x:Str}{sp:Sp}{s₁:UB}{vs:we}{ns:wc}
  (KX:K.In s₁.heap) (hns:s₁.heap.Ns mainGlobals mg) (hb:s₁.heap.Ns builtinsNs mb) (hbb:∀x:Str,x ≠ "__name__" -> mb x=bootBuiltins x) (hlim:s₁.heap.NoLimit) (hg:s₁.gens=#[])
  (ha:s₁.heap.get? a=O {cls:=.type "list", data:=.seq vs.toArray}) (hi:IntsAre vs ns) (hl:ns.length<=UG) (hr:Room k callerA)
  (F:∀base:Heap,K.In base->base.Ns mainGlobals mg->FnOk P w K mg base CX k fa fd [x] sp) (hbind:∀(s:UB)(u:UA),BindsTo s fd ⟨[u],[]⟩ [(x,u)])
  (yz:∀H:Hp,Only H->SqL K H a (ns.map V.int)->sp [.ref a] H (λv _=>v=.bl v5) λ_ _ _=>False)
  (hCX:∀H e s',CX [] H s₁ (λ_ _ _=>False) e s'->False) :
  codeAny (model P w) callerA (.call (.ref fa) ⟨[.ref a],[]⟩) (λr s'=>r=.ok (.ret (.bool v5))/\OldK s₁.heap s'.heap/\s'.os=s₁.os/\AllBare s'.gens) s₁:=by
 have rv:=Vf hi;have lenV:=hi.length
 have core:∀H:Hp,Only H->SqL K H a (ns.map V.int)->HOk P w H s₁.heap->(∀b,H b≠v4->b=a)->(H a≠v4->K.lookup a=v4) ->
   codeAny (model P w) callerA (.call (.ref fa) ⟨[.ref a],[]⟩) (λr s'=>r=.ok (.ret (.bool v5))/\OldK s₁.heap s'.heap/\s'.os=s₁.os/\AllBare s'.gens) s₁:=by
  intro H hO hS hok hA hK;have base_of:∀{b:UD}{o:Obj},s₁.heap.get? b=O o->H b=v4->(YN s₁.heap H).get? b=O o:=λe n=>A9 e n
  have noA:∀{b:UD}{o:Obj}{es:Array DictEntry}{ep:Nat},s₁.heap.get? b=O o->o.data=.dict es ep->H b=v4:=λ{b o es ep} e d=>by
   cases q:H b with
   |none=>rfl
   |some u=>have e':b=a:=hA b (by rw[q];simp);subst e';rw[ha]at e;cases e;have d'   :=d;cases d'
  have nsK:∀{b:UD}{m:Str->wj},s₁.heap.Ns b m->(YN s₁.heap H).Ns b m:=λ{b m} ⟨o,es,ep,e,d,r⟩=>⟨o,es,ep,base_of e (noA e d),d,r⟩
  have hKb:K.In (YN s₁.heap H):=λb o e=>base_of (KX b o e) (by
   cases q:H b with
   |none=>rfl
   |some u=>have e':b=a:=hA b (by rw[q];simp);subst e';rw[hK (by rw[q];simp)]at e;cases e)
  have hM:Mod K mg (YN s₁.heap H):=⟨hKb,nsK hns,⟨mb,nsK hb,hbb⟩,let ⟨mc,h1,h2⟩:=hlim;⟨mc,nsK h1,h2⟩⟩
  have e0:Env0 P w K mg (YN s₁.heap H) callerA [] s₁ H:=⟨rfl,hM,λb o e=>B3 e,Nat.le_of_eq (kf _ _),trivial,λb hb=>absurd (show b∈([]:wk)from hb) (by simp),hok,.of_eq hg⟩
  refine codeAny_mono ((F _ hKb (nsK hns)).run callerA [] s₁ H ⟨[.ref a],[]⟩ [.ref a] [.ref a] _ _ hr e0 (hbind s₁ (.ref a)) (.cons v3 .nil) (yz H hO hS)) λr s' h=>?_
  cases r with
  |error e=>exact(hCX H e s' h).elim
  |ok fl=>
   cases fl with
   |next=>exact False.elim h
   |brk=>exact False.elim h
   |cont=>exact False.elim h
   |ret u=>
    obtain⟨v,H',os,bare,un,hok',r',q⟩:=h;have q':v=.bl v5:=q;subst q';obtain rfl:u=Value.bool v5:=r';refine⟨rfl,OldK.of_keep λb o e=>?_,os,bare⟩;cases q:H b with
    |none=>exact un.keep b o e q (by intro z;exact absurd (show b∈([]:wk)from z) (by simp)) (by simp)
    |some u=>
     rcases hO b with z|⟨ob,xs,z⟩
     .rw[q]at z;cases z
     .have z2:=un.frzs b ob _ z
      obtain⟨e1,_⟩:=hok b _ z;obtain⟨e2,_⟩:=hok' b _ z2;rw[e]at e1;cases e1;exact e2
 cases hk:K.lookup a with
 |some o=>have e:=KX a o hk;rw[ha]at e;cases e;refine core (λ_=>v4) (λ_=>.inl v3) (.inr ⟨_,vs.toArray,_,hk,rfl,rfl,rfl,by rw[List.size_toArray,lenV];exact hl,by simpa using rv⟩) (λb u z=>by have z':(none:Option HO)=O u:=z;cases z') (λb z=>absurd v3 z) λz=>absurd v3 z
 |none=>
  refine core (λb=>if b=a then O _ else v4) (λb=>?_) (.inl (.inr ⟨{cls:=.type "list", data:=.seq vs.toArray},Qq v3⟩)) (λb u z=>?_) (λb z=>?_) λ_=>hk
  .by_cases hb:b=a
   .exact .inr ⟨_,_,Qq hb⟩
   .exact .inl (QB hb)
  .by_cases hb:b=a
   .have z':=(Qq hb).symm.trans z
    cases z';subst hb;exact⟨ha,by rw[Qb];exact hl,vs,_,rv,ha⟩
   .have z':=(QB hb).symm.trans z
    cases z'
  .by_cases hb:b=a
   .exact hb
   .exact absurd (QB hb) z
noncomputable def W5(s:Stmt):Arguments:=match s with
 |.FunctionDef _ a _ _ _ _ _ _ _ _=>a
 |_=>{posonlyargs:=[],args:=[],vararg:=v4,kwonlyargs:=[],kw_defaults:=[],kwarg:=v4,defaults:=[]}
noncomputable def XF(s:Stmt):List Stmt:=match s with
 |.FunctionDef _ _ b _ _ _ _ _ _ _=>b
 |_=>[]
noncomputable def ZT(s:Stmt):Scope:=match s with
 |.FunctionDef _ _ _ _ _ _ sc _ _ _=>sc
 |_=>{kind:=.function,names:=[],isGenerator:=wa,isCoroutine:=wa}
noncomputable abbrev CX0:CXT:=λ_ _ _ _ _ _=>False
noncomputable abbrev E0:XK:=λ_ _ _=>False
theorem F1{X:Cx}:OS CX0 X E0:=λ_ _ _ _ _ _ _ h=>h.elim
structure Fun(K:Frag)(x qual:Str)(st:Stmt)(f:UD)(fd:UE):Prop where
 ex:∃(oc:UA)(od:wo)(kV doc pm:UA)(an:wo)(cdv ct:UA)(osl:Array wj),
  fd=PySem.W.fnOf x qual (W5 st) (XF st) (ZT st) .none kV doc pm an cdv ct/\K.lookup f=O ⟨oc,od,.func fd,osl⟩/\PySem.W.codeIn K cdv qual=v5
 kp:PySem.W.keepIn K (.ref f)=v5
section
variable{P:UC}{w:World}{K:Frag}{mg:Str->wj}{base:Heap}
theorem Fun.ok  {st}{f}{fd}{N ps}{k}{sp}(F:Fun K x qual st f fd)(S:RP N ps (ZT st))(len:∀vs H Q E,sp vs H Q E->vs.length=ps.length)
  (hbody:∀(cdv)(A)(outer)(s)(H)(vs)(Q:VK)(E),Room k (A.deeper (envOfC qual (ZT st) s.heap.objs.size f cdv))->sp vs H Q E ->
   ∃t,PSs (Y7 CX0 P w K mg base N qual (ZT st) f cdv A outer s H E).nox (XF st) t/\t {nx:=λ_ H'=>Q .non H',rt:=Q} (Wg N vs) H):FnOk P w K mg base CX0 (k+1) f fd ps sp:=by
 obtain⟨oc,od,kV,doc,pm,an,cdv,ct,osl,rfl,lk,hcd⟩:=F.ex;refine F3 lk hcd S len λA outer s H vs Q E hr yz=>?_
 obtain⟨t,h,q⟩:=hbody cdv A outer s H vs Q E hr yz;exact⟨t,h.nox,q⟩
theorem Fun.binds  {st}{f}{fd}{ps}(F:Fun K x qual st f fd)
  (h:∀(kV doc pm)(an)(cdv ct)(us),us.length=ps.length->bindArgs (PySem.W.fnOf x qual (W5 st) (XF st) (ZT st) .none kV doc pm an cdv ct) ⟨us,[]⟩=pure (ps.zip us)):WW K fd ps []:=by
 obtain⟨oc,od,kV,doc,pm,an,cdv,ct,osl,rfl,lk,hcd⟩:=F.ex;exact .all (h kV doc pm an cdv ct)
end
def Same(H H':Hp):Prop:=∀b o,H b=O o->H' b=O o
theorem Same.refl(H:Hp):Same H H:=λ_ _ h=>h
theorem Same.trans{H H1 H2:Hp}(a:Same H H1)(b:Same H1 H2):Same H H2:=λc o h=>b c o (a c o h)
theorem Same.free  (e:Same H H'){l}(h:H' l=Option.none):H l=Option.none:=by
 cases q:H l with
 |none=>rfl
 |some o=>rw[e l o q]at h;cases h
theorem Same.seq{K}{H H'}{a}{xs}(e:Same H H')(h:SqL K H a xs):SqL K H' a xs:=by
 rcases h with (h|⟨o,h⟩)|h
 .exact .inl (.inl (e _ _ h))
 .exact .inl (.inr ⟨o,e _ _ h⟩)
 .exact .inr h
section
variable{X:Cx}{pins:List (UD×Obj)}{σ:St}{H:Hp}{s:UB}{h':Heap}
theorem Inv.turnedNew  {fp:wk}{p:UD}{o:HO}(I:Inv X pins σ H s)(hf:∀b∈fp,ZW X pins H b)
  (k:∀b o,b∉fp->s.heap.get? b=O o->h'.get? b=O o) (hp:s.heap.objs.size<=p) (new:YK X.prog X.w (upd H p o) h' p o) :
  Inv X pins σ (upd H p o) {s with heap:=h',toks:=t'}:=by
 have hn   :=I.hok.fresh hp;have trk:∀b u,H b=O u->b∉fp:=λb u e z=>by rw[(hf b z).1]at e;cases e
 refine I.step   (ch:=fp) (λb hb=>?_) (λb o _ _ hc e _=>k b o hc e) (λb o _ _ hc e _=>⟨o.slots,k b o hc e⟩)
  (λb o _ e n=>by rw[Zj (QY (QH (Ql e) hp))];exact n) (λb o hc e=>⟨o,k b o hc e⟩)
  (λb xs e=>by rw[Zj (XH e hn)];exact e) (λb ob u e=>by rw[Zj (XH e hn)];exact e) (λb ps e=>⟨#[],by rw[Zj (XH e hn),e];simp⟩)
  (λm hm=>?_) (λb u e=>?_) I.bare
 .obtain⟨_,f1,_,f3,f4,f5⟩:=hf b hb
  exact⟨f3,f1,f4,f5⟩
 .obtain⟨ob,es,ep,ho,r⟩:=hm
  exact⟨ob,es,ep,k _ ob (λz=>(hf _ z).2.1 v3) ho,r⟩
 .by_cases hb:b=p
  .subst hb;rw[Yd]at e;cases e;exact new
  .rw[Zj hb]at e
   refine(I.hok b u e).stay (λc v hc q=>k c v ?_ q) (λc q=>by rw[Zj (XH q hn)];exact q) λc xs q=>by rw[Zj (XH q hn)];exact q
   rcases hc with z|z
   .rw[z];exact trk b u e
   .exact trk c _ z
theorem Inv.turnedL  {fp:wk}(I:Inv X pins σ H s)(hf:∀b∈fp,ZW X pins H b)
  (k:∀b o,b∉fp->s.heap.get? b=O o->h'.get? b=O o):Inv X pins σ H {s with heap:=h',toks:=t'}:=by
 have trk:∀b u,H b=O u->b∉fp:=λb u e z=>by rw[(hf b z).1]at e;cases e
 refine I.step    (λb hb=>?_) (λb o _ _ hc e _=>k b o hc e) (λb o _ _ hc e _=>⟨o.slots,k b o hc e⟩)
  (λ_ _ _ _ n=>n) (λb o hc e=>⟨o,k b o hc e⟩) (λ_ _ e=>e) (λ_ _ _ e=>e) (λb ps e=>⟨#[],by simp_all⟩) (λm hm=>?_) (λb u e=>?_) I.bare
 .obtain⟨_,f1,_,f3,f4,f5⟩:=hf b hb
  exact⟨f3,f1,f4,f5⟩
 .obtain⟨ob,es,ep,ho,r⟩:=hm
  exact⟨ob,es,ep,k _ ob (λz=>(hf _ z).2.1 v3) ho,r⟩
 .refine(I.hok b u e).stay (λc v hc q=>k c v ?_ q) (λc q=>q) λc xs q=>q
  rcases hc with z|z
  .rw[z];exact trk b u e
  .exact trk c _ z
end
noncomputable def Ite(K:Frag)(a:UD):It:=
 ⟨λi H=>∃xs x,SqL K H a xs/\xs[i]?=O x,
  λi H v H'=>∃p x,H p=v4/\v=.ref p/\(∀xs,SqL K H a xs->xs[i]?=O x)/\H'=upd H p (.tup [.int i,x]),
  λi H=>∃xs,SqL K H a xs/\xs.length<=i⟩
theorem kK{P:UC}{w:World}{K:Frag}{elts:wf}{x1}{tp:Pos}(a e it:UD)(hne:e≠it) :
  Turn P w K (.Tuple elts x1 tp) (Ite K a) [e,it] e (λi h=>(∃old,IsEnum h e it i old)/\h.IsListIter it a i) where
 mem:=by simp
 obj:=λi h st b hb=>by
  obtain⟨⟨old,he⟩,o,ho,c,d⟩:=st;have hb':b=e∨b=it:=by simpa using hb
  rcases hb' with rfl|rfl
  .exact⟨_,he,λv z=>by have z'   :=z;cases z'⟩
  .exact⟨o,ho,λv z=>by rw[d]at z;cases z⟩
 keep:=λi h h' st k=>by obtain⟨⟨old,he⟩,hi⟩:=st;exact⟨⟨old,k e (by simp) _ he⟩,hi.at λo q=>k it (by simp) o q⟩
 item:=by
  intro X hP hw hK hc i pins s σ H E I hf st hg;subst hP hw hK;obtain⟨⟨old,he⟩,hi⟩:=st;obtain⟨xs,x,hq,hx⟩:=hg;obtain⟨its,rv,p,hz⟩:=I.list hq;obtain⟨u,hu,ru⟩:=rv.get hx;refine wpAny_pyNext_enum_item he hi p.isList (x:=u) (by simpa using hu) hne λh1 out hi1 ht hsz kk=>?_
  refine⟨_,rfl,wpAny_letOwnedTupleGo_enum out λh2 wZ hs2=>?_⟩;have hel:e<s.heap.objs.size:=Ql he;have wA:Heap.SameBut e h1 h2:=hs2;have ht2   :=(wA.2 _ (JD hel)).trans ht
  have kk2:∀b o,b∉[e,it]->s.heap.get? b=O o->h2.get? b=O o:=λb o hb q=>by
   have wx:b≠e:=λz=>hb (by simp[z])
   have hbi:b≠it:=λz=>hb (by simp[z])
   exact(wA.2 b wx).trans (kk b o wx hbi q)
  have hn:H s.heap.objs.size=v4:=I.hok.fresh (Qp _)
  have I2:Inv X pins σ (upd H s.heap.objs.size (.tup [.int i,x])) {s with heap:=h2,toks:=s.toks+1}:=
   I.turnedNew (fp:=[e,it]) hf kk2 (Qp _) ⟨by show 2<=UG;decide,[.int i s.toks,u],.cons ⟨_,rfl⟩ (.cons ru .nil),⟨_,ht2,rfl,_,rfl⟩⟩
  refine⟨.ref s.heap.objs.size,_,I2,rfl,⟨_,x,hn,rfl,λys hy=>by rw[I.list_inj hy hq];exact hx,rfl⟩,⟨⟨u,?_⟩,?_⟩,λb hb=>?_⟩
  .have:=wZ
   simpa using this
  .have hi2:h2.IsListIter it a (i+1):=hi1.at λo q=>(wA.2 it (Ne.symm hne)).trans q
   exact hi2
  .have fr:=(hf b hb)
   have hlt:b<s.heap.objs.size:=by
    have hb':b=e∨b=it:=by simpa using hb
    rcases hb' with rfl|rfl
    .exact hel
    .obtain⟨o,ho,_⟩:=hi;exact Ql ho
   rw[Zj (QY hlt)];exact fr.1
 done:=by intro X hP hw hK hc i pins s σ H E I hf st hg;subst hP hw hK;obtain⟨⟨old,he⟩,hi⟩:=st;obtain⟨xs,hq,hx⟩:=hg;obtain⟨its,rv,p,hz⟩:=I.list hq;have hl:=rv.length;exact wpAny_pyNext_enum_end (I.ok.hd hc) he hi p.isList (by simp;omega) λh' eb=>⟨rfl,I.turnedL (t':=s.toks) hf λb o hb q=>eb b o (λz=>hb (by simp[z])) q⟩
 self:=λ_ _ _ _ _ st h=>by obtain⟨⟨old,he⟩,_⟩:=st;exact wpAny_pyIter_enum he h
section
variable{X:Cx}
noncomputable def F0(K:Frag)(ta:TA):TI:=λσ H R=>ta σ H λvs H1=>∃a xs,vs=[.ref a]/\SqL K H1 a xs/\R (Ite K a) H1
theorem BM   {p pos:Pos}{elts}{x1}{tp:Pos}(hg:Gl X "enumerate")(hm:X.mg "enumerate" = v4)(ha:PA X [a] ta)
  (hs:UI [a] X.env=[(wa,eval a X.env)]:=by rfl):PI X (.Tuple elts x1 tp) (.Call (.Name "enumerate" p) [a] [] pos) (F0 X.K ta):=by
 intro pins s σ H R I h;refine Call_ (WZ I hg hm boot_enumerate (JR (thn (ha pos pins s σ H _ I h) λus s1 ⟨vs,H1,I1,r1,q1⟩=>?_) hs v3));obtain⟨l,xs,e,hq,q⟩:=q1;subst e;cases r1 with
 |cons r rr=>
  cases rr;cases (r);obtain⟨its,rv,pl,hz⟩:=I1.list hq;refine call_enumerate_list pl.isList λh' he hi hsz kk=>?_;have I2   :=I1.kept (t':=s1.toks) kk;refine wpAny_pyIter_enum he ?_
  refine⟨s1.heap.objs.size+1,[s1.heap.objs.size+1,s1.heap.objs.size],_,_,H1,rfl,I2,kK l _ _ (Nat.succ_ne_self _),⟨⟨_,he⟩,hi⟩,λb hb=>?_,q⟩;have hb'   :=by simpa using hb
  rcases hb' with rfl|rfl
  .exact I1.fpOk (JA _) (I1.hok.fresh (JA _))
  .exact I1.fpOk (Qp _) (I1.hok.fresh (Qp _))
end
section
variable{κ:Type}[DecidableEq κ]
noncomputable def Xk(kvs:List (κ×V))(k:κ):Option V:=(kvs.find? λkv=>decide (kv.1=k)).map (·.2)
theorem HP   {k:κ}(e:p.1=k):Xk (p::r) k=O p.2:=by simp[Xk,e]
theorem HN   {k:κ}(e:¬p.1=k):Xk (p::r) k=Xk r k:=by simp[Xk,e]
theorem RelO.getD     (r:RelO o u)(rd:RelV d d'):RelV (o.getD d) (u.getD d'):=by
 cases o with
 |none=>cases u with
  |none=>simp_all
  |some _=>exact(r).elim
 |some _=>cases u with
  |none=>exact(r).elim
  |some _=>exact r
theorem KV.val   (r:KV kvs vs)(k:κ):RelO (Xk kvs k) (valueAt vs k):=by
 induction r with
 |nil=>exact True.intro
 |@cons p q ps qs h t ih=>
  obtain⟨h1,h2⟩:=h;by_cases e:p.1=k
  .have e'   :=h1.symm.trans e
   have b:valueAt (q::qs) k=O q.2:=by simp[valueAt,e']
   rw[HP e,b];exact h2
  .have e':¬q.1=k:=λz=>e (h1.trans z)
   have b:valueAt (q::qs) k=valueAt qs k:=by simp[valueAt,e']
   rw[HN e,b];exact ih
theorem KV.keys  {vs:List (κ×UA)}(r:KV kvs vs):kvs.map (·.1)=vs.map (·.1):=by
 induction r with
 |nil=>rfl
 |cons h t ih=>simp_all
end
theorem FZ   {k}{u}(r:RelV (kV k) u):(Wk P w).is k u=v5:=by
 cases k with
 |inl i=>obtain⟨t,e⟩:=(r);subst e;exact vp P w i t
 |inr x=>obtain⟨t,e⟩:=(r);subst e;exact NX P w x t
end L2
namespace L2
open PySem PySem.Spec
def Tail(bmB bm:we):Prop:=∀(X:String)(b:Bool),bmB.contains (.type X)=b->bm.contains (.type X)=b
theorem Tail.base{bmB:we}:Tail bmB bmB:=λ_ _ h=>h
theorem Tail.own   (T:Tail bmB bm):Tail bmB (.ref D::bm):=λX b h=>by rw[JK,T X b h];rfl
def Z6(M:Model)(C:UD)(name:Str)(r:wj)(h:Heap):Prop:=∀(A:Around)(E:UA->UB->Prop)(Q:wj->UB->Prop)(h':Heap)(g:Array GenState)(d:Drawn)(t:Nat)(os:OsState),
 (∀b o,h.get? b=O o->h'.get? b=O o)->Q r ⟨h',g,d,t,os⟩->UH M A (typeLookup (.ref C) name) Q E ⟨h',g,d,t,os⟩
theorem Z6.keeps      (x:Z6 M C name r h)(k:∀b o,h.get? b=O o->h'.get? b=O o):Z6 M C name r h':=
 λA E Q h2 g d t os k2 q=>x A E Q h2 g d t os (λb o e=>k2 b o (k b o e)) q
theorem Z6.at    {Q}{C}{name}{r}{h}{g}{d}{t}{os}(x:Z6 M C name r h)(q:Q r ⟨h,g,d,t,os⟩):UH M A (typeLookup (.ref C) name) Q E ⟨h,g,d,t,os⟩:=
 x A E Q h g d t os (λ_ _ e=>e) q
section
variable{prog:UC}{w:World}{A:Around}{E:UA->UB->Prop}{h:Heap}{g:Array GenState}{d:Drawn}{t:Nat}{os:OsState}{R:Result->UB->Prop}
variable{nm q:Str}{C N x:UD}{bs bm bmB:we}{hdct:Bool}{sn:List Str}{sub:we}{ab:Bool}{col:wp}{dd:wo}{k0 k1 k2 k3 k5:wj}{B newId sa owner:String}{mN mA:Str->wj}{name:Str}{v:UA}
def Xe(M:Model)(l:we)(name:Str)(r:wj)(h:Heap):Prop:=∀(A:Around)(E:UA->UB->Prop)(Q:wj->UB->Prop)(h':Heap)(g:Array GenState)(d:Drawn)(t:Nat)(os:OsState),
 (∀b o,h.get? b=O o->h'.get? b=O o)->Q r ⟨h',g,d,t,os⟩->UH M A (lookupAlong l name) Q E ⟨h',g,d,t,os⟩
theorem Xe.base  {y}(hm:mroOf (.type B)=pure bm)(hB:typeLookup (.type B) name=pure y):Xe M bm name y h:=λA E Q h' g d t os k q=>by rw[typeLookup_eq,hm]at hB;have hrest:lookupAlong bm name=pure y:=hB;rw[hrest];exact Qm q
theorem Xe.hit  {D}{c0}{w6}{cd}{sl}(hD:h.get? D=O {cls:=c0,dict:=w6,data:=.cls cd,slots:=sl})(hn:h.Ns cd.ns mN)(hi:mN name=O v):Xe M (.ref D::bm) name (O v) h:=λA E Q h' g d t os k q=>by rw[lookupAlong_cons];refine Qe (wpAny_classOwn_cls (k _ _ hD) (hn.keeps k) ?_);rw[hi];exact Qm q
theorem Xe.miss  {D}{r}{c0}{w6}{cd}{sl}(hD:h.get? D=O {cls:=c0,dict:=w6,data:=.cls cd,slots:=sl})(hn:h.Ns cd.ns mN)(hi:mN name=v4)(f:Xe M bm name r h):Xe M (.ref D::bm) name r h:=λA E Q h' g d t os k q=>by rw[lookupAlong_cons];refine Qe (wpAny_classOwn_cls (k _ _ hD) (hn.keeps k) ?_);rw[hi];exact f A E Q h' g d t os k q
theorem Z6.of   (hC:h.get? C=O (excClassObj nm q C N bs bm hdct sn sub ab col dd k0 k1 k2 k3 k5 newId))(f:Xe M (.ref C::bm) name r h):Z6 M C name r h:=λA E Q h' g d t os k q=>by rw[typeLookup_eq];exact Qe (wpAny_mroOf_exc (k _ _ hC) (f A E Q h' g d t os k q))
theorem kJ{M:Model}{o:Obj}{nameV:UA}{Q:Unit->UB->Prop}(T:Tail bmB bm)(hb:bmB.contains (.type "BaseException")=v5)(hC:h.get? C=O (excClassObj nm q C N bs bm hdct sn sub ab col dd k0 k1 k2 k3 k5 newId))
  (hx:h.get? x=O o) (hc:o.cls=.ref C) (hq:Q () ⟨h,g,d,t,os⟩):UH M A (checkBuiltinCall "BaseException.__getattribute__" ⟨[.ref x,nameV],[]⟩) Q E ⟨h,g,d,t,os⟩:=by
 have hk:builtinKind "BaseException.__getattribute__" = O .slot:=by decide +kernel
 have hsplit:splitId "BaseException.__getattribute__" = O ("BaseException", "__getattribute__"):=by decide +kernel
 have ym:(Value.ref C::bm).contains (.type "BaseException")=v5:=by rw[JK,T _ _ hb];rfl
 have ha:=PySem.F.args_bexc_ga (.ref x) nameV;simp only[checkBuiltinCall,hk,hsplit];refine Qe ?_
 .unfold isInstance
  repeat (first|(with_reducible refine QO hx ?_;rw[hc])|(with_reducible refine Q9 hC ?_;rw[ym])|wp_step)
  exact hq
end
theorem Vl   (f)(h:o.data=.fields vs):Obj.mapFields f o = {o with data:=.fields (f vs)}:=by obtain⟨c,d,dt,sl⟩:=o;cases h;rfl
def Tb(h:Heap)(e:UD)(vs:Array UA)(fl:UA):Prop:=∃T oT ts,vs[1]?=O (.ref T)/\T≠e/\h.get? T=O oT/\oT.data=.fields ts/\ts[3]?=O fl
def Fly(c:Bool)(h:Heap)(e:UD):Prop:=∃oe vs,h.get? e=O oe/\oe.data=.fields vs/\(vs[1]?=O .none∨Tb h e vs .none)/\(c=v5->vs[2]?=O .none)
structure OR(fs:wk)(e:UD)(h h':Heap):Prop where
 keep:∀b o,b≠e->b∉fs->h.get? b=O o->h'.get? b=O o
 slot:∀b o,b≠e->h.get? b=O o->∃sl,h'.get? b=O {o with slots:=sl}
 own:∀oe,h.get? e=O oe->∃vs,h'.get? e=O {oe with data:=.fields vs}
section
variable{M:Model}{A:Around}{E:UA->UB->Prop}{s:UB}{base:Heap}{env:Env}{outer:List Env}{L e:UD}{c:Bool}
theorem newEntry{oe:Obj}{vs:Array UA}{head:UA}{hadNext:Bool}{Q:Unit->UB->Prop}(hfr:A.frames=O (env::outer))(hl:s.heap.FunFrames base (env::outer))(hf:env.frame=O L)
  (he:s.heap.get? e=O oe) (hd:oe.data=.fields vs) (hsz:1<vs.size) (hc2:c=v5->vs[2]?=O .none)
  (h:∀h',OR (frs (env::outer)) e s.heap h'->Fly c h' e->Q () {s with heap:=h'}) :
  UH M A (do let a ←frameOf env;let pl ←entryPlaceOf L hadNext;let b ←EntryCells.newEntry head a .none (rawInt L) .none pl;setField (.ref e) 1 b) (λ_ s'=>UH M A (setFlight (.ref e) v4) Q E s') E s:=by
 have hene:e∉(env::outer).filterMap (·.frame):=λhm=>by obtain⟨_,o,ho,hnf⟩:=hl.mem hm;rw[he]at ho;injection ho with ho;subst ho;exact hnf vs hd
 refine Qe (wpAny_frameOf_fun hfr hl hf λh₁ hs₁=>?_);refine Qe (wpAny_entryPlaceOf λpl hpl=>?_);unfold EntryCells.newEntry newFields;refine Qe (wpAny_newObj_type ?_ (hpl.sizeOk5 _ _ _ _ _));have he₁:h₁.get? e=O oe:=(hs₁.2.1 e hene).trans he;have he₂:=Qi (h:=h₁) {cls:=.type "traceback", dict:=v4,data:=.fields ([head,.ref L,.none,rawInt L,.none]++(if pl.isEmpty then UL 6 Value.none else pl)).toArray} he₁;refine wpAny_setField he₂ hd hsz ?_;have yB:h₁.objs.size≠e:=JD (Ql he₁);have hd₃:=Obj.data_mapFields hd (·.setIfInBounds 1 (Value.ref h₁.objs.size));have he₃:=Jn (Obj.mapFields (·.setIfInBounds 1 (Value.ref h₁.objs.size))) he₂ (Obj.isFreed_of_fields hd₃)
 have hT₃:=(QP (h₁.push {cls:=.type "traceback", dict:=v4,data:=.fields ([head,.ref L,.none,rawInt L,.none]++(if pl.isEmpty then UL 6 Value.none else pl)).toArray})
  (Obj.mapFields (·.setIfInBounds 1 (Value.ref h₁.objs.size))) (Ne.symm yB)).trans (QA h₁ v3)
 unfold setFlight;refine wpAny_bind (wpAny_field he₃ hd₃ (x:=.ref h₁.objs.size) (by simp[hsz]) ?_);refine wpAny_setField hT₃ v3 (by simp only[Jb,Qj,Qv,QC]<;>lia) (h _ ?_ ?_)
 .have keep:∀b o,b≠e->h₁.get? b=O o ->
    (((h₁.push {cls:=.type "traceback", dict:=v4,data:=.fields ([head,.ref L,.none,rawInt L,.none]++(if pl.isEmpty then UL 6 Value.none else pl)).toArray}).update e (Obj.mapFields (·.setIfInBounds 1 (Value.ref h₁.objs.size)))).update h₁.objs.size
     (Obj.mapFields (·.setIfInBounds 3 ((none:wo).elim Value.none λf=>rawInt f)))).get? b=O o:=λb o wx hb=>by
   have w5:h₁.objs.size≠b:=JD (Ql hb);rw[QP _ _ w5,QP _ _ (Ne.symm wx)];exact Qi _ hb
  refine⟨λb o hb hf hg=>keep b o hb ((hs₁.2.1 b hf).trans hg),λb o hb hg=>?_,λoe' z=>?_⟩
  .obtain⟨sl,hs⟩:=hs₁.2.2 b o hg
   exact⟨sl,keep b _ hb hs⟩
  .rw[he]at z;cases z
   exact⟨_,by rw[QP _ _ yB,he₃,Vl _ hd]⟩
 .refine⟨_,_,?_,hd₃,.inr ⟨h₁.objs.size,_,_,by simp[hsz],yB,Heap.get?_update_self _ hT₃ (Obj.isFreed_of_fields (Obj.data_mapFields rfl _)),Obj.data_mapFields rfl _,by first|(simp;done)|(rcases hpl with rfl|⟨_,_,_,_,_,_,_,rfl⟩<;>simp)⟩,?_⟩
  .rw[QP _ _ yB];exact he₃
  .intro z;rw[Array.getElem?_setIfInBounds_ne (by decide)];exact hc2 z
theorem note  (hfr:A.frames=O (env::outer))(hl:s.heap.FunFrames base (env::outer))(hf:env.frame=O L)(x:Fly c s.heap e)
  (h:∀h',OR (frs (env::outer)) e s.heap h'->Fly c h' e->Q () {s with heap:=h'}):UH M A (noteFrame (.ref e) env) (λ_ s'=>UH M A (setFlight (.ref e) v4) Q E s') E s:=by
 obtain⟨oe,vs,he,hd,h1,h2⟩:=x;unfold noteFrame;simp only[hf];rcases h1 with h1|⟨T,oT,ts,h1,yB,hT,wT,h3⟩
 .refine Qe (Jk he hd h1 ?_)
  exact newEntry hfr hl hf he hd (JE.mp h1).1 h2 h
 .refine Qe (Jk he hd h1 ?_)
  refine Qe (Jk hT wT h3 ?_);obtain⟨hs3,hv3⟩:=JE.mp h3;refine Qe (wpAny_setField hT wT hs3 ?_)
  have same:∀b o,s.heap.get? b=O o->(s.heap.update T (Obj.mapFields (·.setIfInBounds 3 Value.none))).get? b=O o:=λb o hb=>by
   by_cases w5:b=T
   .subst w5
    rw[hT]at hb;cases hb;rw[Jn _ hT (Obj.isFreed_of_fields (Obj.data_mapFields wT _)),Vl _ wT]
    have:ts.setIfInBounds 3 Value.none=ts:=by
     apply Array.ext_getElem?;intro i;rw[Array.getElem?_setIfInBounds];split
     .rename_i z
      subst z;exact h3.symm
     .rfl
    rw[this,←wT]
   .rw[QP _ _ (Ne.symm w5)];exact hb
  exact newEntry hfr (hl.of_keeps λb o hb hnf=>⟨o,same b o hb,rfl⟩) hf (same e oe he) hd (JE.mp h1).1 h2
   λh' p t=>h h' ⟨λb o a c g=>p.keep b o a c (same b o g),λb o a g=>p.slot b o a (same b o g),λoe' z=>p.own oe' (same e oe' z)⟩ t
end
end L2
namespace L2
open PySem PySem.Spec PyProof.Rows PySem.Calls PyProof.V
noncomputable def XO(fr:Bool)(e C:UD)(dd:wo):Heap->Prop:=λh=>∃vs sl,h.get? e=O {cls:=.ref C,dict:=dd,data:=.fields vs,slots:=sl}/\(fr=v5->vs[1]?=O .none/\(∃t0,vs[0]?=O (.ref t0))/\vs[2]?=O .none/\4<vs.size)
theorem XO.ok    {h}{fr}{e C}{dd}(x:XO fr e C dd h):YK P w H h e (.ext (XO fr e C dd)):=
 ⟨x,let ⟨_,_,q,_⟩:=x;⟨_,q⟩,λh1 h2 ⟨vs,sl,q,z⟩ k=>⟨vs,sl,k _ q,z⟩⟩
section
variable{X:Cx}{pins:List (UD×Obj)}{σ:St}{H:Hp}{s:UB}{e C:UD}{dd:wo}{h':Heap}
theorem Inv.passed(I:Inv X pins σ H s)(hx:H e=O (.ext (XO wa e C dd)))(p:OR (frs X.stack) e s.heap h'):Inv X pins σ H {s with heap:=h'}:=by
 have ne:∀b,H b=v4->b≠e:=λb n z=>by rw[z,hx]at n;cases n
 refine I.call    (ch:=[]) ⟨λb o g n f _=>p.keep b o (ne b n) f g,λb o g n _ _=>p.slot b o (ne b n) g,λb o _ n _=>n,λb o g _=>?_,λ_ _ z=>z,λ_ _ _ z=>z,λb ps z=>⟨#[],by rw[z];simp⟩⟩ (λa o q=>?_) I.bare λb z=>absurd z (by simp)
 .by_cases hb:b=e
  .subst hb
   obtain⟨vs,z⟩:=p.own o g;exact⟨_,z⟩
  .obtain⟨sl,z⟩:=p.slot b o hb g
   exact⟨_,z⟩
 .by_cases ha:a=e
  .subst ha
   rw[hx]at q;cases q;obtain⟨⟨vs,sl,g,_⟩,_,_⟩:=I.hok a _ hx;obtain⟨vs',z⟩:=p.own _ g;exact XO.ok ⟨vs',sl,z,λz=>nomatch z⟩
  .refine(I.hok a o q).stay (λb u hb g=>p.keep b u ?_ (λz=>?_) g) (λ_ z=>z) λ_ _ z=>z
   .rcases hb with rfl|hb
    .exact ha
    .rintro rfl;rw[hx]at hb;cases hb
   .have n:=I.stkFree b z
    rcases hb with rfl|hb
    .rw[q]at n;cases n
    .rw[hb]at n;cases n
def OQ(c:Bool)(X:Cx)(KX:V->St->Hp->Prop):Prop:=∀(pins:List (UD×Obj))(σ:St)(H:Hp)(s:UB)(e C:UD)(dd:wo),Inv X pins σ H s->H e=O (.ext (XO wa e C dd))->Fly c s.heap e->KX (.ref e) σ H->X.xe (.ref e) s
end
noncomputable abbrev VB:we:=[.type "ValueError", .type "Exception", .type "BaseException", .type "object"]
structure XCls(M:Model)(base:Heap)(C:UD)(bm:we)(fI:UD):Prop where
 obj:∃nm q N bs sn sub ab col dd k0 k1 k2 k3 k5,base.get? C=O (excClassObj nm q C N bs bm v5 sn sub ab col dd k0 k1 k2 k3 k5 "ValueError.__new__")
 tail:Tail VB bm
 init:Z6 M C "__init__" (O (.ref fI)) base
 fn:∃o,base.get? fI=O o/\o.cls=.type "function"
 sa:Z6 M C "__setattr__" (O (.builtin "object.__setattr__")) base
 ga:Z6 M C "__getattribute__" (O (.builtin "BaseException.__getattribute__")) base
 gh:Z6 M C "__getattr__" none base
 cl:Z6 M C "__class__" (O (.builtin "object.__class__")) base
 pass:∀v,refuseLoop v "__setattr__" bm=pure ()
section
variable{M:Model}{A:Around}{E:UA->UB->Prop}{h:Heap}{g:Array GenState}{d:Drawn}{t:Nat}{os:OsState}
variable{nm q yw q':Str}{C N D N' a:UD}{bs bm bs' bm':we}{hdct wP:Bool}{sn sn':List Str}{sub sub':we}{ab yr:Bool}{col col':wp}{dd w6:wo}{k0 k1 k2 k3 k5 j0 j1 j2 j3 j5:wj}{newId newId':String}
theorem qB{o:Obj}{b:Bool}{Q}(hC:h.get? C=O (excClassObj nm q C N bs bm hdct sn sub ab col dd k0 k1 k2 k3 k5 newId))(hD:h.get? D=O (excClassObj yw q' D N' bs' bm' wP sn' sub' yr col' w6 j0 j1 j2 j3 j5 newId'))
  (hbase:bm'.contains (.type "BaseException")=v5) (ha:h.get? a=O o) (hc:o.cls=.ref C) (hb:(Value.ref C::bm).contains (.ref D)=b) (hq:Q b ⟨h,g,d,t,os⟩):UH M A (excMatches (.ref a) (.ref D)) Q E ⟨h,g,d,t,os⟩:=by
 have ym:(Value.ref D::bm').contains (.type "BaseException")=v5:=by rw[JK,hbase,Bool.or_true]
 have f1:=tc_notTuple
 repeat (any_goals (first|assumption|(with_reducible rw[hc])|with_reducible refine QO hD ?_|with_reducible refine QO hC ?_|(with_reducible refine Q9 hD ?_;rw[ym])|(with_reducible refine Q9 hC ?_;rw[hb])|wp_step))
 cases b<;>(wp_walk;exact hq)
end
section
variable{X:Cx}{k:Nat}{f:UD}{fd:UE}{ps:List Str}{sp:Sp}{x n:Str}{p pos np hpos:Pos}{e:UF}{es:wf}{t:TA}{KX:V->St->Hp->Prop}
noncomputable abbrev Cx.suite(X:Cx)(a:UD):Cx:={X with A:=X.A.mark (O (.ref a)),calm:=wa,xe:=λ_ _=>False}
theorem Cx.Ok.suite(ok:X.Ok)(a):(X.suite a).Ok:=
 ⟨ok.mod,ok.kind,ok.glob,ok.blt,ok.above,ok.inj,ok.has,ok.cab,λz=>(nomatch z),ok.frames,ok.stk,ok.exf,ok.bs,ok.bsz,ok.noex,ok.exfs,ok.funs,ok.frf⟩
theorem Inv.suite  {σ:St}{H}{s}(I:Inv X pins σ H s)(a):Inv (X.suite a) pins σ H s:=⟨I.ok.suite a,I.os,I.bare,I.base,I.loc,I.cell,I.free,I.freeC,I.pin,I.hok,I.len⟩
theorem Inv.unsuite  {σ σ':St}{H H':Hp}{s s'}{a}(I0:Inv X pins σ H s)(I:Inv (X.suite a) pins σ' H' s'):Inv X pins σ' H' s':=⟨I0.ok,I.os,I.bare,I.base,I.loc,I.cell,I.free,I.freeC,I.pin,I.hok,I.len⟩
theorem xx    {E}{s:UB}{a:UD}{Q}(fl:Fly c s.heap a)(h:∀h',(∀b o,s.heap.get? b=O o->h'.get? b=O o)->Q () {s with heap:=h'}):UH M A (setFlight (.ref a) v4) Q E s:=by
 obtain⟨oe,vs,he,hd,h1,_⟩:=fl;rcases h1 with h1|⟨T,oT,ts,h1,yB,hT,wT,h3⟩
 .refine Qe (Jk he hd h1 ?_)
  exact Qm (h s.heap λ_ _ q=>q)
 .obtain⟨hs3,hv3⟩:=JE.mp h3
  refine Qe (Jk he hd h1 ?_);refine wpAny_setField hT wT hs3 (h _ λb o hb=>?_);by_cases w5:b=T
  .subst w5
   rw[hT]at hb;cases hb;rw[Jn _ hT (Obj.isFreed_of_fields (Obj.data_mapFields wT _)),Vl _ wT];have   :=Array.setIfInBounds_same _ _ _ h3;show O {oT with data:=.fields (ts.setIfInBounds 3 Value.none)}=_;rw[this,←wT]
  .rw[QP _ _ (Ne.symm w5)];exact hb
noncomputable abbrev Cx.tried(X:Cx)(W:UA->UB->Prop)(pins:List (UD×Obj)):Cx:={X with xe:=W,pn:=X.pn++pins}
theorem Inv.tried  {σ:St}{H}{s}(I:Inv X pins σ H s)(W):Inv (X.tried W pins) [] σ H s:=
 ⟨⟨I.ok.mod,I.ok.kind,I.ok.glob,I.ok.blt,I.ok.above,I.ok.inj,I.ok.has,I.ok.cab,I.ok.hd,I.ok.frames,I.ok.stk,I.ok.exf,I.ok.bs,I.ok.bsz,I.ok.noex,I.ok.exfs,I.ok.funs,I.ok.frf⟩,I.os,I.bare,I.base,I.loc,I.cell,I.free,I.freeC,λp hp=>I.pin p (by simpa using hp),I.hok,I.len⟩
theorem Inv.untried  {σ σ':St}{H H'}{s s'}{W}(I0:Inv X pins σ H s)(I:Inv (X.tried W pins) pins' σ' H' s'):Inv X pins σ' H' s':=
 ⟨I0.ok,I.os,I.bare,I.base,I.loc,I.cell,I.free,I.freeC,λp hp=>I.pin p (Q8 _ hp),I.hok,I.len⟩
noncomputable def OA(KC:UD->we->Prop)(D:UD)(ts:TS)(Dn:Ends):V->St->Hp->Prop:=λv σ H=>∃a C dd bm,v=.ref a/\KC C bm/\H a=O (.ext (XO wa a C dd))/\(Value.ref C::bm).contains (.ref D)=v5/\ts Dn σ H
noncomputable def FY(KC:UD->we->Prop)(D:UD)(tb:(V->St->Hp->Prop)->TS)(ts:TS):TS:=λDn σ H=>tb (OA KC D ts Dn) Dn σ H
theorem BL  {D fD:UD}{bmD:we}{tb}{ts:TS}{body suite:List Stmt}{b₀:Stmt}{st:List Env}(wK:X.stack=X.env::st)(hfr:X.env.frame=O X.env.locals)
  (hcls:∀C bm,KC C bm->∃fI,XCls (model X.prog X.w) X.base C bm fI) (hD:XCls (model X.prog X.w) X.base D bmD fD) (hg:Gl X x) (hm:X.mg x=O (.ref D))
  (hb:∀(KX:V->St->Hp->Prop)(W:UA->UB->Prop)(pn:List (UD×Obj)),OQ wa (X.tried W pn) KX->PSs (X.tried W pn) body (tb KX)) (hs:∀a,PSs (X.suite a) (b₀::suite) ts) (hdb:(x==("__debug__" : Str))=wa:=by decide) :
  PS X (.Try body [.ExceptHandler (O (.Name x np)) v4 (b₀::suite) hpos] [] [] pos) (FY KC D tb ts):=by
 intro pins s σ H Dn I h;refine wpAny_Try_except ?_
 let W:UA->UB->Prop:=λv s1=>∃a σ1 H1,v=.ref a/\Inv X pins σ1 H1 s1/\Fly wa s1.heap a/\OA KC D ts Dn (.ref a) σ1 H1
 have hw:OQ wa (X.tried W pins) (OA KC D ts Dn):=λpins' σ1 H1 s1 a C dd I1 hx fl hk=>⟨a,σ1,H1,rfl,I.untried I1,fl,hk⟩;refine QL (hb _ W pins hw [] s σ H Dn (I.tried W) h) (λf s1 h1=>?_) λv s1 h1=>?_
 .cases f with
  |next=>obtain⟨σ',H',I',q⟩:=h1;exact wpAny_execs_nil ⟨σ',H',I.untried I',q⟩
  |brk=>obtain⟨σ',H',I',q⟩:=h1;exact⟨σ',H',I.untried I',q⟩
  |cont=>obtain⟨σ',H',I',q⟩:=h1;exact⟨σ',H',I.untried I',q⟩
  |ret u=>obtain⟨v,σ',H',I',r,q⟩:=h1;exact⟨v,σ',H',I.untried I',r,q⟩
 .obtain⟨a,σ1,H1,rfl,I1,fl,a',C,dd,bm,ea,kc,hx,hm',q⟩:=h1
  cases ea;obtain⟨fI,XC⟩:=hcls C bm kc;have hk:=I1.ok.frames;rw[wK]at hk;have hS:=I1.stack;rw[wK]at hS;refine note hk hS hfr fl λh2 p2 fl2=>?_;rw[←wK]at p2;have I2:=I1.passed hx p2;refine wpAny_handleBy_cons (codeAny_handlers_test ?_) (by intro q;cases q)
  refine PU (I2.suite a) hg hm ?_ hdb;obtain⟨nm,qn,N,bs,sn,sub,ab,col,dd1,k0,k1,k2,k3,k5,hC⟩:=XC.obj;obtain⟨yw,qn',N',bs',sn',sub',yr,col',dd2,j0,j1,j2,j3,j5,wH⟩:=hD.obj;obtain⟨⟨vs,sl,ga,_⟩,_,_⟩:=I2.hok a _ hx;refine qB (I2.bk _ _ hC) (I2.bk _ _ wH) (hD.tail _ _ v3) ga v3 hm' ?_;refine codeAny_handlers_suite (xx fl2 λh3 k3=>?_);have I3:=I2.kept (t':=s1.toks) k3;refine QL (hs a pins _ _ H1 _ (I3.suite a) q) (λf s5 h5=>?_) λ_ _ z=>z.elim
  cases f with
  |next=>obtain⟨σ',H',I',q'⟩:=h5;exact⟨σ',H',I3.unsuite I',q'⟩
  |brk=>obtain⟨σ',H',I',q'⟩:=h5;exact⟨σ',H',I3.unsuite I',q'⟩
  |cont=>obtain⟨σ',H',I',q'⟩:=h5;exact⟨σ',H',I3.unsuite I',q'⟩
  |ret u=>obtain⟨v,σ',H',I',r,q'⟩:=h5;exact⟨v,σ',H',I3.unsuite I',r,q'⟩
end
section
variable{prog:UC}{w:World}{A:Around}{E:UA->UB->Prop}{h:Heap}{g:Array GenState}{d:Drawn}{t:Nat}{os:OsState}
variable{nm q:Str}{C N a:UD}{bs bm bmB:we}{hdct:Bool}{sn:List Str}{sub:we}{ab:Bool}{col:wp}{dd:wo}{k0 k1 k2 k3 k5:wj}{B newId initId nid:String}
theorem vm(F:ExcBaseFacts B nid initId bmB)(T:Tail bmB bm){M:Model}{oe:Obj}{rest:we}{Q}
  (hC:h.get? C=O (excClassObj nm q C N bs bm hdct sn sub ab col dd k0 k1 k2 k3 k5 newId)) (he:h.get? a=O oe) (hcls:oe.cls=.ref C) (hq:Q () ⟨h,g,d,t,os⟩) :
  UH M A (checkBuiltinCall initId ⟨.ref a::rest,[]⟩) Q E ⟨h,g,d,t,os⟩:=by
 have ym:(Value.ref C::bm).contains (.type B)=v5:=by rw[JK,T _ _ F.hasB,Bool.or_true]
 have hshort:=F.noStar;simp only[checkBuiltinCall,F.initKind,F.initSplit,F.initRow]
 repeat (first|(with_reducible rw[hcls])|with_reducible refine QO hC ?_|(with_reducible refine Q9 hC ?_;rw[ym])|wp_step)
 rw[show ∀(x1 x2:String)(n:Nat),Bind.check ⟨.positional, "*", B,.self,[⟨"args", .varPos,wa⟩]⟩ x1 x2 n (List.map (λx=>x.fst) ({pos:=Value.ref a::rest}:Args).kw)=pure ()from
  λ_ _ n=>check_star_args _ _ _ _ _ _]
 exact Qm hq
theorem xw(F:ExcBaseFacts B nid initId bmB)(T:Tail bmB bm){oe:Obj}{vs:Array UA}{u:UA}{Q}
  (hC:h.get? C=O (excClassObj nm q C N bs bm hdct sn sub ab col dd k0 k1 k2 k3 k5 newId)) (he:h.get? a=O oe) (hcls:oe.cls=.ref C) (hd:oe.data=.fields vs) {t0:UD} (h0:vs[0]?=O (.ref t0))
  (hq:∀h',(∀b o,b≠a->h.get? b=O o->h'.get? b=O o)->(∃y,h'.get? a=O {oe with data:=.fields (vs.setIfInBounds 0 (.ref y))})->Q .none ⟨h',g,d,t,os⟩) :
  UH (model prog w) A (call (.builtin initId) [.ref a,u]) Q E ⟨h,g,d,t,os⟩:=by
 refine wpAny_call (JC F.init.plain F.initEntry (vm F T hC he hcls ?_));have he₂:(h.push {cls:=.type "tuple", data:=.seq #[u]}).get? a=O oe:=Qi _ he;have hz:0<vs.size:=(JE.mp h0).1
 repeat (first|with_reducible refine Jk he₂ hd h0 ?_|with_reducible refine wpAny_setField he₂ hd hz ?_|wp_step)
 have he₃:=Jn (Obj.mapFields (·.setIfInBounds 0 (Value.ref h.objs.size))) he₂ (Obj.isFreed_of_fields (Obj.data_mapFields hd _));refine hq _ (λb o hb g=>?_) ⟨_,by rw[he₃,Vl _ hd]⟩;rw[QP _ _ (Ne.symm hb)];exact Qi _ g
end
theorem BK:PySem.W.handedIn (.builtin "ValueError.__init__")=v5:=by decide +kernel
theorem D7{h:Heap}:PySem.W.Frag.In [] h:=λa o z=>by cases z
theorem BJ:typeOf (.type "ValueError")=pure (.type "type"):=by kernel_rfl
theorem BI:Manifest.isStub "ValueError" = wa:=by decide +kernel
theorem BH:PySem.W.findCls [] (.type "ValueError") (.type "type") "__init__" = O (.val (.builtin "ValueError.__init__")):=by kernel_rfl
section
variable{X:Cx}{k:Nat}{f D:UD}{fd:UE}{ps:List Str}{sp:Sp}{x:Str}{p pos apos:Pos}{e:UF}{es:wf}{t:TA}
noncomputable def MS(KC:UD->we->Prop)(t:TA):TE:=λσ H Q=>t σ H λvs H1=>∃a C dd bm u,vs=[.ref a,u]/\KC C bm/\H1 a=O (.ext (XO v5 a C dd))/\Q .non H1
theorem qA{KC:UD->we->Prop}{pl:Sem Bool}(hcls:∀C bm,KC C bm->∃fI,XCls (model X.prog X.w) X.base C bm fI)(hg:Gl X "ValueError")(hm:X.mg "ValueError" = v4)(ha:PA X (e::es) t)
  (hst:UI (e::es) X.env=(wa,eval e X.env)::UI es X.env:=by rfl) (hpl:(backTo pos (UI es X.env)).any (·.1)=wa:=by rfl)
  (ht:eval (.Call (.Attribute (.Name "ValueError" p) "__init__" apos) (e::es) [] pos) X.env=(do
   let ov ←eval (.Name "ValueError" p) X.env
   standAt apos.atName
   let (f,first) ←holding [ov] (getMethod ov "__init__" pl)
   callWith pos f first (backTo pos (UI (e::es) X.env)) (backToKw pos (keywordEach [] X.env))):=by rfl) :
  PE X (.Call (.Attribute (.Name "ValueError" p) "__init__" apos) (e::es) [] pos) (MS KC t):=by
 intro pins s σ H Q I h;have hB:bootBuiltins "ValueError" = O (.type "ValueError"):=by decide +kernel
 refine PySem.W.methodCall_KW (pl:=pl) (WZ I hg hm hB ?_) ht;obtain⟨m,Fm⟩:=I.fr;refine PySem.W.method_type (K:=[])  Fm D7 BJ BI BH BK ?_;refine PyProof.Rows.callWith_builtin1 (thn (ha pos pins _ σ H _ (I.tok _) h) λus s1 ⟨vs,H1,I1,r1,a,C,dd,bm,u,ev,kc,hx,q⟩=>?_) hst hpl;subst ev;cases r1 with
 |cons ra r1=>
 cases r1 with
 |cons ru r1=>
 cases r1;have ra':_=Value.ref a:=ra;subst ra';obtain⟨fI,XC⟩:=hcls C bm kc;obtain⟨nm,qn,N,bs,sn,sub,ab,col,dd1,k0,k1,k2,k3,k5,hC⟩:=XC.obj;obtain⟨⟨vs,sl,ga,z⟩,_,_⟩:=I1.hok a _ hx;obtain⟨z1,⟨t0,z0⟩,z2⟩:=z v3;obtain⟨hp,g,d,tk,os⟩:=s1;refine xw PySem.F.excBase_ValueError XC.tail (I1.bk _ _ hC) ga v3 v3 z0 λh' k ⟨y,hy⟩=>?_;have hw:=I1.write (x:=a) (e:=a) (o:=.ext (XO v5 a C dd)) (t':=tk) (h':=h') (by rw[hx];trivial) (.inl v3) k ⟨_,hy⟩ (XO.ok ⟨_,sl,hy,λ_=>⟨by rw[Array.getElem?_setIfInBounds_ne (by decide)];exact z1,⟨y,by simp[(Array.getElem?_eq_some_iff.mp z0).1]⟩,by rw[Array.getElem?_setIfInBounds_ne (by decide)];exact z2.1,by rw[Array.size_setIfInBounds];exact z2.2⟩⟩)
 have e:upd H1 a (.ext (XO v5 a C dd))=H1:=by
  funext b;by_cases hb:b=a
  .subst hb;rw[Yd,hx]
  .rw[Zj hb]
 rw[e]at hw;exact⟨.non,H1,hw,rfl,q⟩
end
structure My(K:Frag)(D:UD)(m:Str)(f:UD):Prop where
 ga:PySem.W.specialIn K (.ref D) "__getattribute__" = O (O (.builtin "type.__getattribute__"))
 rd:PySem.W.readsIn K D (.type "type")=v5
 fd:PySem.W.findCls K (.ref D) (.type "type") m=O (.val (.ref f))
 kp:PySem.W.keepIn K (.ref f)=v5
noncomputable def XD(dx:UD)(fs:List (Str×V)):Heap->Prop:=λh=>∃mA,h.Ns1 dx mA/\h.ExactDictFk dx/\(∀f,RelO (fs.lookup f) (mA f))/\PySem.Within mA (fs.map (·.1))
end L2
namespace L2
open PySem PySem.Spec
section
variable{prog:UC}{w:World}{A:Around}{E:UA->UB->Prop}{h:Heap}{g:Array GenState}{d:Drawn}{t:Nat}{os:OsState}{R:Result->UB->Prop}
variable{nm q:Str}{C N a:UD}{bs bm bmB:we}{hdct:Bool}{sn:List Str}{sub:we}{ab:Bool}{col:wp}{dd:wo}{k0 k1 k2 k3 k5:wj}{newId:String}{o:Obj}
theorem xu(T:Tail bmB bm)(ho:bmB.contains (.type "object")=v5)(hC:h.get? C=O (excClassObj nm q C N bs bm hdct sn sub ab col dd k0 k1 k2 k3 k5 newId))(hx:h.get? a=O o)(hc:o.cls=.ref C)(hq:R (.ok (.ret (.ref C))) ⟨h,g,d,t,os⟩) :
  codeAny (model prog w) A (.call (.builtin "getset_descriptor.__get__") ⟨[.builtin "object.__class__", .ref a,.ref C],[]⟩) R ⟨h,g,d,t,os⟩:=by
 have hT5   :=PySem.F.typeOf_object_class;have ym:(Value.ref C::bm).contains (.type (".".intercalate ("object.__class__".cutAt '.').dropLast))=v5:=by rw[PySem.F.owner_object_class,JK,T _ _ ho];rfl
 refine JC PySem.F.slot_gs_get.plain PySem.F.entry_gs_get (PySem.F.slot_gs_get.check _ _ _ _ _ _ _ _ hT5 (PySem.F.args_gs_get _ _ _) ?_)
 repeat (any_goals (first|assumption|(with_reducible rw[hc])|(with_reducible refine Q9 hC ?_;rw[ym])|wp_step))
 refine⟨Code.quiet_builtin _ (by decide +kernel),codeAny_builtin PySem.F.entry_object_class ?_⟩
 repeat (any_goals (first|assumption|(with_reducible rw[hc])|wp_step))
theorem vL  {Q}(T:Tail bmB bm)(ho:bmB.contains (.type "object")=v5)(hC:h.get? C=O (excClassObj nm q C N bs bm hdct sn sub ab col dd k0 k1 k2 k3 k5 newId))(fc:Z6 (model prog w) C "__class__" (O (.builtin "object.__class__")) h)(hx:h.get? a=O o)(hc:o.cls=.ref C)(hq:Q (.done (.ret (.ref C))) ⟨h,g,d,t,os⟩) :
  UH (model prog w) A (Builtin.«object.__getattribute__» ⟨[.ref a,.str "__class__" tk],[]⟩) Q E ⟨h,g,d,t,os⟩:=by
 have f5:=PySem.F.typeOf_object_class;have f6:=PySem.F.slot_gs_get.lookup;have f7:=PySem.F.slot_gs_set.lookup
 repeat (any_goals (first|assumption|(with_reducible rw[hc])|with_reducible refine fc.at ?_|wp_step))
 refine xu T ho hC hx hc ?_
 repeat (any_goals (first|assumption|wp_step))
theorem FO  (FB:ExcAttrFacts "ValueError")(T:Tail VB bm)(hC:h.get? C=O (excClassObj nm q C N bs bm hdct sn sub ab col dd k0 k1 k2 k3 k5 newId))(fc:Z6 (model prog w) C "__class__" (O (.builtin "object.__class__")) h)
  (fg:Z6 (model prog w) C "__getattribute__" (O (.builtin "BaseException.__getattribute__")) h) (fa:Z6 (model prog w) C "__getattr__" none h) (hx:h.get? a=O o) (hc:o.cls=.ref C) (hq:Q (O (.ref C)) ⟨h,g,d,t+1,os⟩) :
  UH (model prog w) A (getAttr? (.ref a) "__class__") Q E ⟨h,g,d,t,os⟩:=by
 have f3:=FB.ga.bind (.ref a)
 repeat (any_goals (first|assumption|(with_reducible rw[hc])|with_reducible refine fg.at ?_|with_reducible refine fa.at ?_|wp_step))
 refine JC FB.ga.plain PySem.F.entry_bexc_ga (kJ T v3 hC hx hc (vL T v3 hC fc hx hc ?_))
 repeat (any_goals (first|assumption|wp_step))
end
end L2
namespace L2
open PySem PySem.Spec PyProof.Rows
section
variable{prog:UC}{w:World}{A:Around}{E:UA->UB->Prop}{h:Heap}{g:Array GenState}{d:Drawn}{t:Nat}{os:OsState}
variable{nm q yw q':Str}{C N D N' a:UD}{bs bm bs' bm':we}{hdct wP:Bool}{sn sn':List Str}{sub sub':we}{ab yr:Bool}{col col':wp}{dd w6:wo}{k0 k1 k2 k3 k5 j0 j1 j2 j3 j5:wj}{newId newId':String}{o:Obj}{b:Bool}
theorem BG{Q:UA->UB->Prop}(T:Tail VB bm)(hC:h.get? C=O (excClassObj nm q C N bs bm hdct sn sub ab col dd k0 k1 k2 k3 k5 newId))(hD:h.get? D=O (excClassObj yw q' D N' bs' bm' wP sn' sub' yr col' w6 j0 j1 j2 j3 j5 newId'))
  (fc:Z6 (model prog w) C "__class__" (O (.builtin "object.__class__")) h) (fg:Z6 (model prog w) C "__getattribute__" (O (.builtin "BaseException.__getattribute__")) h) (fa:Z6 (model prog w) C "__getattr__" none h)
  (hx:h.get? a=O o) (hc:o.cls=.ref C) (hb:(Value.ref C::bm).contains (.ref D)=b) (hq:∀tk,Q (.bool b) ⟨h,g,d,tk,os⟩):UH (model prog w) A (call (.builtin "isinstance") [.ref a,.ref D]) Q E ⟨h,g,d,t,os⟩:=by
 have f2:=tc_sub;refine call_isinstance_of ?_ (λz=>nomatch z);refine Qe ?_;unfold typeOf;refine Qe (QO hx (Qm ?_));rw[hc];by_cases e:C=D
 .subst e
  have hb1:b=v5:=by rw[←hb];simp
  subst hb1;rw[if_pos (by simp)];exact Qe (wpAny_rule (Qm (hq t)))
 .rw[if_neg (by simp[e])]
  refine Qe (Qe (QO hD (Qm ?_)));rw[Qq (show(Value.type "type" == Value.type "type")=v5 by decide)]
  k_delta "plainIsInstance"
  unfold isType isInstance
  repeat (first|(with_reducible refine QO hx ?_;rw[hc])|with_reducible refine QO hD ?_|with_reducible refine QO hC ?_|(with_reducible refine Q9 hC ?_;rw[hb])|wp_step)
  cases b with
  |true=>wp_walk;exact hq t
  |false=>
   rw[QB (by decide)];refine Qe (FO PySem.F.excAttr_ValueError T hC fc fg fa hx hc ?_)
   repeat (first|with_reducible refine QO hC ?_|(with_reducible refine Q9 hC ?_;rw[hb])|wp_step)
   exact hq _
theorem CC{Q:UA->UB->Prop}{X:String}(T:Tail VB bm)(hC:h.get? C=O (excClassObj nm q C N bs bm hdct sn sub ab col dd k0 k1 k2 k3 k5 newId))(hX:typeOf (.type X)=pure (.type "type"))
  (fc:Z6 (model prog w) C "__class__" (O (.builtin "object.__class__")) h) (fg:Z6 (model prog w) C "__getattribute__" (O (.builtin "BaseException.__getattribute__")) h) (fa:Z6 (model prog w) C "__getattr__" none h)
  (hx:h.get? a=O o) (hc:o.cls=.ref C) (hb:(Value.ref C::bm).contains (.type X)=b) (hq:∀tk,Q (.bool b) ⟨h,g,d,tk,os⟩):UH (model prog w) A (call (.builtin "isinstance") [.ref a,.type X]) Q E ⟨h,g,d,t,os⟩:=by
 refine call_isinstance_of ?_ (λz=>nomatch z);refine Qe ?_;have ty:∀{M:Model}{A:Around}{Q:UA->UB->Prop}{E:UA->UB->Prop},Q (.ref C) ⟨h,g,d,t,os⟩->UH M A (typeOf (.ref a)) Q E ⟨h,g,d,t,os⟩:=λq=>by unfold typeOf;refine Qe (QO hx (Qm ?_));rw[hc];exact q
 refine ty ?_;rw[if_neg (by simp)];refine Qe (wpAny_of_eq hX ?_);rw[Qq (show _=v5 by decide)]
 k_delta "plainIsInstance"
 unfold isType isInstance
 repeat (first|(with_reducible refine QO hx ?_;rw[hc])|with_reducible refine QO hC ?_|(with_reducible refine Q9 hC ?_;rw[hb])|wp_step)
 cases b with
 |true=>wp_walk;exact hq t
 |false=>
  rw[QB (by decide)];refine Qe (FO PySem.F.excAttr_ValueError T hC fc fg fa hx hc ?_)
  repeat (first|with_reducible refine QO hC ?_|(with_reducible refine Q9 hC ?_;rw[hb])|wp_step)
  exact hq _
end
noncomputable def rIsX(KC:UD->we->Prop):List V->Hp->VK->Prop:=λxs H Q=>∃a C dd bm fr c b,xs=[.ref a,c]/\KC C bm/\H a=O (.ext (XO fr a C dd)) /\
 ((∃D bm',c=.ref D/\KC D bm'/\(Value.ref C::bm).contains (.ref D)=b) ∨ ∃T,c=.ty T/\typeOf (.type T)=pure (.type "type")/\(Value.ref C::bm).contains (.type T)=b)/\Q (.bl b) H
theorem qz  {KC}(hcls:∀C bm,KC C bm->∃fI,XCls (model X.prog X.w) X.base C bm fI):YS X (.builtin "isinstance") (rIsX KC):=by
 rintro pins s σ H xs us Q I r ⟨a,C,dd,bm,fr,c,b,rfl,kc,hx,hD,q⟩;cases r with
 |cons ra r=>
 cases r with
 |cons rc r=>
 cases r;have ra'   :=ra;subst ra';obtain⟨fI,XC⟩:=hcls C bm kc;obtain⟨nm,qn,N,bs,sn,sub,ab,col,dd1,k0,k1,k2,k3,k5,hC⟩:=XC.obj;obtain⟨⟨vs,sl,ga,_⟩,_,_⟩:=I.hok a _ hx;rcases hD with ⟨D,bm',rfl,kd,hb⟩|⟨T,rfl,hT,hb⟩
 .have rc'   :=rc
  subst rc';obtain⟨fI',XD'⟩:=hcls D bm' kd;obtain⟨yw,qn',N',bs',sn',sub',yr,col',dd2,j0,j1,j2,j3,j5,wH⟩:=XD'.obj;exact BG XC.tail (I.bk _ _ hC) (I.bk _ _ wH) (XC.cl.keeps I.bk) (XC.ga.keeps I.bk) (XC.gh.keeps I.bk) ga v3 hb λtk'=>⟨.bl b,H,I.tok tk',rfl,q⟩
 .have rc'   :=rc
  subst rc';exact CC XC.tail (I.bk _ _ hC) hT (XC.cl.keeps I.bk) (XC.ga.keeps I.bk) (XC.gh.keeps I.bk) ga v3 hb λtk'=>⟨.bl b,H,I.tok tk',rfl,q⟩
noncomputable def L7(KC:UD->we->Prop):Sp:=λvs H Q _=>∃a C dd bm x,vs=[.ref a,.str x]/\KC C bm/\H a=O (.ext (XO v5 a C dd))/\Q .non H
noncomputable def Mx(nm:Str):List Str:=if nm = "NoWishes" then ["part", "number"]else if nm = "NoAim" then ["part"]else if nm = "NoText" then ["row"]else []
noncomputable def Pk(K:Frag)(nm:Str):wo:=match PySem.W.nsIn K mainGlobals nm with|some (O (.ref C))=>O C|_=>v4
def NmAt(K:Frag)(nm:Str)(C:UD):Prop:=∃o cd,K.lookup C=O o/\o.data=.cls cd/\cd.name=nm
structure ClsK(K:Frag)(nm:Str)(C:UD)(bm:we):Prop where
 ad:Pk K nm=O C
 nmd:NmAt K nm C
 up:nm = "DealError" /\ bm=VB∨nm ≠ "DealError" /\ ∃D,Pk K "DealError" = O D/\bm=.ref D::VB/\NmAt K "DealError" D
 cls:∀(M:Model)(h:Heap),K.In h->∃fI,XCls M h C bm fI
 fld:∀(M:Model)(h:Heap),K.In h->∀f∈(["part", "number", "row"]:List Str),Z6 M C f v4 h
noncomputable def KC(K:Frag):UD->we->Prop:=λC bm=>∃nm,ClsK K nm C bm
section
variable{K:Frag}{nm x:Str}{C D:UD}{bm bm':we}
theorem NmAt.ne(c:NmAt K nm C)(d:NmAt K x D)(h:x≠nm):C≠D:=λe=>by
 subst e;obtain⟨o,cd,h1,h2,h3⟩:=c;obtain⟨o',cd',g1,g2,g3⟩:=d
 lia
theorem ClsK.has(c:ClsK K nm C bm)(d:ClsK K x D bm'):(Value.ref C::bm).contains (.ref D)=(decide (x=nm) || decide (x = "DealError")):=by
 by_cases e:x=nm
 .subst e
  have:=c.ad.symm.trans d.ad;simp_all
 .have ne:=c.nmd.ne d.nmd e
  rw[QG e];have h0:(Value.ref D==Value.ref C)=wa:=by simp[Ne.symm ne]
  rw[JK,h0,Bool.false_or];by_cases e2:x = "DealError"
  .subst e2
   rcases c.up with ⟨z,_⟩|⟨_,D',g,rfl,_⟩
   .exact absurd z.symm e
   .have:=g.symm.trans d.ad
    simp_all
  .rw[QG e2]
   rcases c.up with ⟨_,rfl⟩|⟨_,D',g,rfl,n⟩
   .rfl
   .have ne2:=n.ne d.nmd e2
    have h1:(Value.ref D==Value.ref D')=wa:=by simp[Ne.symm ne2]
    rw[JK,h1];rfl
theorem ClsK.ty(c:ClsK K nm C bm)(T):(Value.ref C::bm).contains (.type T)=VB.contains (.type T):=by
 rcases c.up with ⟨_,rfl⟩|⟨_,D',g,rfl,n⟩
 .rfl
 .rfl
end
section
variable{X:Cx}{e:UF}{st:Stmt}{sts:List Stmt}{t:TE}{ts:TS}
theorem PS.kin(h:X.K.In X.base->PS X st ts):PS X st ts:=λpins s σ H Q I q=>h I.ok.mod.kin pins s σ H Q I q
theorem PSs.kin(h:X.K.In X.base->PSs X sts ts):PSs X sts ts:=λpins s σ H Q I q=>h I.ok.mod.kin pins s σ H Q I q
theorem Oz(k:X.K.In X.base):∀C bm,KC X.K C bm->∃fI,XCls (model X.prog X.w) X.base C bm fI:=λ_ _ ⟨_,c⟩=>c.cls _ _ k
end
end L2
namespace DL
open PySem PySem.Spec L2
open PyProof.Rows hiding St
abbrev D:=PyData
abbrev wb:=List D
abbrev wd:=Option D
abbrev XW:=V->St->Hp->Prop
noncomputable abbrev KX0:XW:=λ_ _ _=>False
def XFs(G:Hp)(dd:wo)(fs:List Str)(vs:List V):Prop:=match dd with
 |none=>fs=[]/\vs=[]
 |some dx=>fs.length=vs.length/\G dx=O (.ext (XD dx (fs.zip vs)))
theorem XFs.mono     (e:Same G G1)(h:XFs G dd fs vs):XFs G1 dd fs vs:=by
 cases dd with
 |none=>exact h
 |some dx=>exact⟨h.1,e _ _ h.2⟩
noncomputable def kD:Key->D
 |.inl i=>.int i
 |.inr x=>.str x
noncomputable def tkD(k:List Key):D:=.tuple (k.map kD)
noncomputable def pdD(ks:List (List Key))(ds:wb):List (D×D):=(.bool v5,.none)::(ks.map tkD).zip ds
mutual
inductive Rep(K:Frag)(G:Hp):V->D->Prop where
 |non:Rep K G .non .none
 |bl (b:Bool):Rep K G (.bl b) (.bool b)
 |int (i:Int):Rep K G (.int i) (.int i)
 |str (x:Str):Rep K G (.str x) (.str x)
 |lst {a:UD} {vs:List V} {ds:wb} (h:SqL K G a vs) (r:Reps K G vs ds):Rep K G (.ref a) (.list ds)
 |tup {a:UD} {vs:List V} {ds:wb} (h:SqT K G a vs) (r:Reps K G vs ds):Rep K G (.ref a) (.tuple ds)
 |dic {a:UD} (h:G a=O (.dK [])):Rep K G (.ref a) (.dict [])
 |exc {a C:UD} {dd:wo} {bm:we} {nm:Str} {vs:List V} {ds:wb} (c:ClsK K nm C bm) (h:G a=O (.ext (XO wa a C dd))) (hd:XFs G dd (Mx nm) vs) (r:Reps K G vs ds):Rep K G (.ref a) (.dict [(.none,.tuple [.str nm,.list ds])])
 |dct {a:UD} {ks:List Key} {vs:List V} {ds:wb} {kvs:List (D×D)} (e:kvs=(ks.map kD).zip ds) (hne:ks≠[]) (hl:ks.length=ds.length) (h:G a=O (.dK (ks.zip vs))) (r:Reps K G vs ds):Rep K G (.ref a) (.dict kvs)
 |dtt {a:UD} {o:Obj} {ks:List (List Key)} {vs:List V} {ds:wb} {kvs:List (D×D)} (e:kvs=pdD ks ds) (hl:ks.length=ds.length) (h:G a=O (.frz o (.dT (ks.zip vs)))) (r:Reps K G vs ds):Rep K G (.ref a) (.dict kvs)
inductive Reps(K:Frag)(G:Hp):List V->wb->Prop where
 |nil:Reps K G [] []
 |cons {v:V} {d:D} {vs:List V} {ds:wb} (h:Rep K G v d) (t:Reps K G vs ds):Reps K G (v::vs) (d::ds)
end
variable{K:Frag}{B G0 G G1 G2 H H1 H2:Hp}
theorem Xd   (e:Same G G1)(h:SqT K G a xs):SqT K G1 a xs:=by
 rcases h with (h|⟨o,h⟩)|h
 .exact .inl (.inl (e _ _ h))
 .exact .inl (.inr ⟨o,e _ _ h⟩)
 .exact .inr h
theorem Rep.mono(e:Same G G1){v}{d}(r:Rep K G v d):Rep K G1 v d:=Rep.rec   .non .bl .int .str (λh _ r=>.lst (e.seq h) r) (λh _ r=>.tup (Xd e h) r) (λh=>.dic (e _ _ h)) (λc h hd _ r=>.exc c (e _ _ h) (hd.mono e) r) (λz n l h _ r=>.dct z n l (e _ _ h) r) (λz l h _ r=>.dtt z l (e _ _ h) r) .nil (λ_ _=>.cons) r
theorem Reps.mono(e:Same G G1){vs}{ds}(r:Reps K G vs ds):Reps K G1 vs ds:=Reps.rec   .non .bl .int .str (λh _ r=>.lst (e.seq h) r) (λh _ r=>.tup (Xd e h) r) (λh=>.dic (e _ _ h)) (λc h hd _ r=>.exc c (e _ _ h) (hd.mono e) r) (λz n l h _ r=>.dct z n l (e _ _ h) r) (λz l h _ r=>.dtt z l (e _ _ h) r) .nil (λ_ _=>.cons) r
theorem kI{ks:List Key}{ds}{d:D}{r}(e:(.none,d)::r=(ks.map kD).zip ds):False:=by
 cases ks with
 |nil=>cases e
 |cons k ks=>
  cases ds with
  |nil=>cases e
  |cons d ds=>
   injection e with e1 _;injection e1 with e2 _
   cases k<;>cases e2
section
variable{v:V}{vs ws:List V}{ds es:wb}
theorem Rep.bl_inv{b:Bool}(h:Rep K G v (.bool b)):v=.bl b:=by cases h;rfl
theorem Rep.int_inv{i:Int}(h:Rep K G v (.int i)):v=.int i:=by cases h;rfl
theorem Rep.str_inv{x:Str}(h:Rep K G v (.str x)):v=.str x:=by cases h;rfl
theorem Rep.lst_inv(h:Rep K G v (.list ds)):∃a vs,v=.ref a/\SqL K G a vs/\Reps K G vs ds:=by
 cases h with
 |lst h r=>exact⟨_,_,rfl,h,r⟩
theorem Rep.tup_inv(h:Rep K G v (.tuple ds)):∃a vs,v=.ref a/\SqT K G a vs/\Reps K G vs ds:=by
 cases h with
 |tup h r=>exact⟨_,_,rfl,h,r⟩
theorem Rep.exc_inv{d:D}(h:Rep K G v (.dict [(.none,d)])):∃a C dd bm nm vs ds,v=.ref a/\d=.tuple [.str nm,.list ds]/\ClsK K nm C bm/\G a=O (.ext (XO wa a C dd))/\XFs G dd (Mx nm) vs/\Reps K G vs ds:=by
 cases h with
 |exc c h hd r=>exact⟨_,_,_,_,_,_,_,rfl,rfl,c,h,hd,r⟩
 |dct e _ _ _ _=>exact(kI e).elim
 |dtt e _ _ _=>exact nomatch (JS (Ux e).1).1
theorem Reps.length:∀{vs}{ds},Reps K G vs ds->vs.length=ds.length
 |_,_,.nil=>rfl
 |_,_,.cons _ t=>by rw[Qv,Qv,Reps.length t]
theorem Reps.get:∀{vs}{ds}{i:Nat}{d},Reps K G vs ds->ds[i]?=O d->∃v,vs[i]?=O v/\Rep K G v d
 |_,_,_,_,.nil,e=>by simp_all
 |_,_,0,_,.cons h _,e=>by simp at e;subst e;exact⟨_,rfl,h⟩
 |_,_,i+1,d,.cons _ t,e=>by obtain⟨u,h1,h2⟩:=Reps.get   t (by simpa using e);exact⟨u,by simpa using h1,h2⟩
theorem Reps.append:∀{vs ws}{ds es},Reps K G vs ds->Reps K G ws es->Reps K G (vs++ws) (ds++es)
 |_,_,_,_,.nil,s=>s
 |_,_,_,_,.cons r t,s=>.cons r (Reps.append t s)
theorem Reps.take:∀{vs}{ds}(n),Reps K G vs ds->Reps K G (vs.take n) (ds.take n)
 |_,_,0,_=>by exact .nil
 |_,_,_+1,.nil=>.nil
 |_,_,n+1,.cons r t=>.cons r (Reps.take n t)
theorem Reps.drop:∀{vs}{ds}(n),Reps K G vs ds->Reps K G (vs.drop n) (ds.drop n)
 |_,_,0,r=>r
 |_,_,_+1,.nil=>.nil
 |_,_,n+1,.cons _ t=>Reps.drop n t
theorem Reps.reverse:∀{vs}{ds},Reps K G vs ds->Reps K G vs.reverse ds.reverse
 |_,_,.nil=>.nil
 |_,_,.cons r t=>by rw[List.reverse_cons,List.reverse_cons];exact Reps.append (Reps.reverse t) (.cons r .nil)
theorem Reps.set   (r:Rep K G v d):∀{vs}{ds}(i),Reps K G vs ds->Reps K G (vs.set i v) (ds.set i d)
 |_,_,_,.nil=>.nil
 |_,_,0,.cons _ t=>.cons r t
 |_,_,i+1,.cons q t=>.cons q (Reps.set r i t)
theorem Reps.ints:∀(ns:wc),Reps K G (ns.map V.int) (ns.map int)
 |[]=>.nil
 |n::ns=>.cons (.int n) (Reps.ints ns)
end
inductive MO where
 |l (vs:List V)|k (kvs:List (Key×V))|t (kvs:List (List Key×V))|s (S:Int->Bool) (n:Nat)
noncomputable def MO.ho:MO->HO
 |.l vs=>.lst vs
 |.k kvs=>.dK kvs
 |.t kvs=>.dT kvs
 |.s S n=>.set S n
structure Ext(G H G' H':Hp):Prop where
 h:Same H H'
 g:Same G G'
 gh:Same G' H'
 np:∀a(u:MO),H a=O u.ho->G a=v4->G' a=v4
theorem Ext.refl(e:Same G H):Ext G H G H:=⟨.refl _,.refl _,e,λ_ _ _ q=>q⟩
theorem Yi   (h:H p=v4):Same H (upd H p o):=λb u e=>by rw[Zj (XH e h)];exact e
theorem Ext.new   (e:Same G H)(h:H p=v4):Ext G H (upd G p o) (upd H p o):=by
 have hg   :=e.free h;refine⟨Yi h,Yi hg,λb u q=>?_,λa u q n=>?_⟩
 .by_cases z:b=p
  .subst z;rw[Yd]at q⊢;exact q
  .rw[Zj z]at q⊢;exact e b u q
 .rw[Zj (XH q h)];exact n
theorem Ext.hid   (e:Same G H)(h:H p=v4):Ext G H G (upd H p o):=
 ⟨Yi h,.refl _,e.trans (Yi h),λ_ _ _ n=>n⟩
inductive Pat where
 |leaf|lst (p:Pat)|tup (ps:List Pat)|dic
mutual
inductive RepO(K:Frag)(G H:Hp):Pat->V->D->wk->Prop where
 |leaf {v:V} {d:D} (r:Rep K G v d):RepO K G H .leaf v d []
 |lst {p:Pat} {a:UD} {vs:List V} {ds:wb} {fp:wk} (h:H a=O (.lst vs)) (r:RepOl K G H p vs ds fp):RepO K G H (.lst p) (.ref a) (.list ds) (a::fp)
 |tup {ps:List Pat} {a:UD} {vs:List V} {ds:wb} {fp:wk} (h:H a=O (.tup vs)) (r:RepOs K G H ps vs ds fp):RepO K G H (.tup ps) (.ref a) (.tuple ds) fp
 |dic {a:UD} {ks:List Key} {vs:List V} {ds:wb} {kvs:List (D×D)} (e:kvs=(ks.map kD).zip ds) (hl:ks.length=ds.length) (h:H a=O (.dK (ks.zip vs))) (r:Reps K G vs ds):RepO K G H .dic (.ref a) (.dict kvs) [a]
inductive RepOl(K:Frag)(G H:Hp):Pat->List V->wb->wk->Prop where
 |nil {p:Pat}:RepOl K G H p [] [] []
 |cons {p:Pat} {v:V} {d:D} {vs:List V} {ds:wb} {f1 f2:wk} (h:RepO K G H p v d f1) (t:RepOl K G H p vs ds f2):RepOl K G H p (v::vs) (d::ds) (f1++f2)
inductive RepOs(K:Frag)(G H:Hp):List Pat->List V->wb->wk->Prop where
 |nil:RepOs K G H [] [] [] []
 |cons {p:Pat} {ps:List Pat} {v:V} {d:D} {vs:List V} {ds:wb} {f1 f2:wk} (h:RepO K G H p v d f1) (t:RepOs K G H ps vs ds f2):RepOs K G H (p::ps) (v::vs) (d::ds) (f1++f2)
end
def X3(K:Frag)(G H:Hp)(M1:Pat->V->D->wk->Prop)(M2:Pat->List V->wb->wk->Prop)(M3:List Pat->List V->wb->wk->Prop):Prop:=
 (∀{p v d fp},RepO K G H p v d fp->M1 p v d fp)/\(∀{p vs ds fp},RepOl K G H p vs ds fp->M2 p vs ds fp)/\∀{ps vs ds fp},RepOs K G H ps vs ds fp->M3 ps vs ds fp
theorem RepO.ind3
  (c1:∀{v d},Rep K G v d->M1 .leaf v d []) (c2:∀{p a vs ds fp},H a=O (.lst vs)->M2 p vs ds fp->M1 (.lst p) (.ref a) (.list ds) (a::fp)) (c3:∀{ps a vs ds fp},H a=O (.tup vs)->M3 ps vs ds fp->M1 (.tup ps) (.ref a) (.tuple ds) fp)
  (c4:∀{a:UD}{ks:List Key}{vs}{ds}{kvs},kvs=(ks.map kD).zip ds->ks.length=ds.length->H a=O (.dK (ks.zip vs))->Reps K G vs ds->M1 .dic (.ref a) (.dict kvs) [a])
  (c5:∀{p},M2 p [] [] []) (c6:∀{p v d vs ds f1 f2},M1 p v d f1->M2 p vs ds f2->M2 p (v::vs) (d::ds) (f1++f2)) (c7:M3 [] [] [] []) (c8:∀{p ps v d vs ds f1 f2},M1 p v d f1->M3 ps vs ds f2->M3 (p::ps) (v::vs) (d::ds) (f1++f2)) :
  X3 K G H M1 M2 M3:=
 ⟨λh=>RepO.rec    c1 (λh _=>c2 h) (λh _=>c3 h) c4 c5 (λ_ _=>c6) c7 (λ_ _=>c8) h,
  λh=>RepOl.rec    c1 (λh _=>c2 h) (λh _=>c3 h) c4 c5 (λ_ _=>c6) c7 (λ_ _=>c8) h,
  λh=>RepOs.rec    c1 (λh _=>c2 h) (λh _=>c3 h) c4 c5 (λ_ _=>c6) c7 (λ_ _=>c8) h⟩
theorem RepO.mono3(sg:Same G G1)(sh:Same H H1):X3 K G H (RepO K G1 H1) (RepOl K G1 H1) (RepOs K G1 H1):=
 RepO.ind3 (λr=>.leaf (r.mono sg)) (λh r=>.lst (sh _ _ h) r) (λh r=>.tup (sh _ _ h) r) (λe hl h r=>.dic e hl (sh _ _ h) (r.mono sg)) .nil .cons .nil .cons
theorem RepO.mono(sg:Same G G1)(sh:Same H H1){p}{v}{d}{fp}(r:RepO K G H p v d fp):RepO K G1 H1 p v d fp:=(RepO.mono3 sg sh).1 r
theorem RepO.upd3   (nt:∀vs,H a≠O (.tup vs)):X3 K G H (λp v d fp=>a∉fp->RepO K G (upd H a o) p v d fp) (λp v d fp=>a∉fp->RepOl K G (upd H a o) p v d fp) (λp v d fp=>a∉fp->RepOs K G (upd H a o) p v d fp):=
 RepO.ind3
 (λr _=>.leaf r) (λh r n=>.lst (by rw[Zj (λz=>n (by rw[z];exact List.mem_cons_self))];exact h) (r λz=>n (List.mem_cons_of_mem _ z))) (λh r n=>.tup (by rw[Zj (λz=>by simp_all)];exact h) (r n))
 (λe hl h r n=>.dic e hl (by rw[Zj (λz=>n (by rw[z];exact Qo))];exact h) r) (λ_=>.nil) (λh t n=>.cons (h λz=>n (Q8 _ z)) (t λz=>n (QK _ z))) (λ_=>.nil) (λh t n=>.cons (h λz=>n (Q8 _ z)) (t λz=>n (QK _ z)))
theorem RepO.upd   (nt:∀vs,H a≠O (.tup vs)){p}{v}{d}{fp}(r:RepO K G H p v d fp)(n:a∉fp):RepO K G (upd H a o) p v d fp:=(RepO.upd3 nt).1 r n
theorem RepO.rep3(gh:Same G H):X3 K G H (λ_ v d _=>Rep K H v d) (λ_ v d _=>Reps K H v d) (λ_ v d _=>Reps K H v d):=
 RepO.ind3 (λr=>r.mono gh) (λh r=>.lst (SqL.of h) r) (λh r=>.tup (SqT.of h) r)
 (λ{a ks vs ds kvs} e hl h r=>by
  cases ks with
  |nil=>subst e;exact .dic h
  |cons k ks=>exact .dct e (λz=>by cases z) hl h (r.mono gh)) .nil .cons .nil .cons
theorem RepO.rep(gh:Same G H){p}{v}{d}{fp}(r:RepO K G H p v d fp):Rep K H v d:=(RepO.rep3 gh).1 r
theorem RepO.isl3:X3 K G H (λ_ _ _ fp=>∀a∈fp,∃u:MO,H a=O u.ho) (λ_ _ _ fp=>∀a∈fp,∃u:MO,H a=O u.ho) (λ_ _ _ fp=>∀a∈fp,∃u:MO,H a=O u.ho):=
 RepO.ind3 (λ_ a m=>by cases m)
 (λh r b m=>(QQ.mp m).elim (λe=>⟨.l _,e ▸ h⟩) (r b)) (λ_ r=>r) (λ_ _ h _ b m=>⟨.k _,QM.mp m ▸ h⟩) (λa m=>by cases m) (λh t b m=>(QW.mp m).elim (h b) (t b)) (λa m=>by cases m) (λh t b m=>(QW.mp m).elim (h b) (t b))
theorem RepO.isl     (r:RepO K G H p v d fp):∀a∈fp,∃u:MO,H a=O u.ho:=RepO.isl3.1 r
theorem RepO.uniq3(sh:Same H H1):X3 K G H (λp v _ fp=>∀d' fp',RepO K G1 H1 p v d' fp'->fp=fp') (λp v _ fp=>∀d' fp',RepOl K G1 H1 p v d' fp'->fp=fp') (λp v _ fp=>∀d' fp',RepOs K G1 H1 p v d' fp'->fp=fp'):=
 RepO.ind3
 (λ_ d' fp' h=>by cases h;rfl)
 (λh r d' fp' h'=>by
  cases h' with
  |lst h2 r2=>have e:=sh _ _ h;rw[h2]at e;cases e;rw[r _ _ r2])
 (λh r d' fp' h'=>by
  cases h' with
  |tup h2 r2=>have e:=sh _ _ h;rw[h2]at e;cases e;exact r _ _ r2)
 (λ_ _ _ _ d' fp' h=>by cases h;rfl) (λd' fp' h=>by cases h;rfl)
 (λh t d' fp' h'=>by
  cases h' with
  |cons h2 t2=>rw[h _ _ h2,t _ _ t2])
 (λd' fp' h=>by cases h;rfl)
 (λh t d' fp' h'=>by
  cases h' with
  |cons h2 t2=>rw[h _ _ h2,t _ _ t2])
theorem RepO.uniq(sh:Same H H1){p}{v}{d d'}{fp fp'}(r:RepO K G H p v d fp)(r':RepO K G1 H1 p v d' fp'):fp=fp':=(RepO.uniq3 sh).1 r _ _ r'
inductive Sl where
 |pub (d:D)|own (ds:wb)|deep (p:Pat) (d:D)
abbrev U7:=List (Option Sl)
abbrev wl:=Option U7
def DpOk(K:Frag)(B G H:Hp)(σ:St)(Z:U7):Prop:=∃ω:UD->Nat,
 (∀(i:Nat) p d,Z[i]?=O (O (.deep p d))->∃v fp,σ[i]?=O (O v)/\RepO K G H p v d fp/\fp.Nodup/\∀a∈fp,B a=v4/\G a=v4/\ω a=i) /\
 (∀(i:Nat) ds a,Z[i]?=O (O (.own ds))->σ[i]?=O (O (.ref a))->ω a=i)
theorem DpOk.of  {Z}(h1:∀(i:Nat) p d,Z[i]?=O (O (.deep p d))->False)(h2:∀(i:Nat) ds,Z[i]?=O (O (.own ds))->False):DpOk K B G H σ Z:=
 ⟨λ_=>0,λi p d q=>(h1 i p d q).elim,λi ds a q=>(h2 i ds q).elim⟩
theorem DpOk.map  {σ σ1}{Z Z1}(k:DpOk K B G H σ Z)
  (h1:∀(i:Nat) p d,Z1[i]?=O (O (.deep p d))->Z[i]?=O (O (.deep p d))/\σ1[i]?=σ[i]?)
  (h2:∀(i:Nat) ds,Z1[i]?=O (O (.own ds))->∃es,Z[i]?=O (O (.own es))/\σ1[i]?=σ[i]?)
  (h3:∀(i:Nat) p d v fp,Z[i]?=O (O (.deep p d))->σ[i]?=O (O v)->RepO K G H p v d fp->(∀a∈fp,B a=v4/\G a=v4)->(∀(j:Nat) ds a,Z[j]?=O (O (.own ds))->σ[j]?=O (O (.ref a))->a∉fp)->RepO K G1 H1 p v d fp/\∀a∈fp,B1 a=v4/\G1 a=v4):DpOk K B1 G1 H1 σ1 Z1:=by
 obtain⟨ω,k1,k2⟩:=k;refine⟨ω,λi p d q=>?_,λi ds a q s=>?_⟩
 .obtain⟨q1,e1⟩:=h1 i p d q
  obtain⟨v,fp,s,r,n,w⟩:=k1 i p d q1;obtain⟨r1,w1⟩:=h3 i p d v fp q1 s r (λa m=>⟨(w a m).1,(w a m).2.1⟩) λj ds a qj sj m=>by have z1:=k2 j ds a qj sj;have z2:=(w a m).2.2;rw[z1]at z2;subst z2;rw[q1]at qj;cases qj
  exact⟨v,fp,by rw[e1];exact s,r1,n,λa m=>⟨(w1 a m).1,(w1 a m).2,(w a m).2.2⟩⟩
 .obtain⟨es,q1,e1⟩:=h2 i ds q
  rw[e1]at s;exact k2 i es a q1 s
structure EOk(K:Frag)(B G0 G H:Hp)(σ:St)(Z:U7):Prop where
 bh:Same B H
 gh:Same G H
 g0:Same G0 G
 np:∀a(u:MO),B a=O u.ho->G0 a=v4->G a=v4
 len:Z.length=σ.length
 pub:∀(i:Nat) d,Z[i]?=O (O (.pub d))->∃v,σ[i]?=O (O v)/\Rep K G v d
 own:∀(i:Nat) ds,Z[i]?=O (O (.own ds))->∃a vs,σ[i]?=O (O (.ref a))/\B a=v4/\G a=v4/\H a=O (.lst vs)/\Reps K G vs ds
 sep:∀(i j:Nat) a ds es,Z[i]?=O (O (.own ds))->Z[j]?=O (O (.own es))->σ[i]?=O (O (.ref a))->σ[j]?=O (O (.ref a))->i=j
 dp:DpOk K B G H σ Z
theorem EOk.ext  {σ:St}{Z}(k:EOk K B G0 G H σ Z)(e:Ext G H G' H'):EOk K B G0 G' H' σ Z where
 bh:=k.bh.trans e.h
 gh:=e.gh
 g0:=k.g0.trans e.g
 np:=λa o q n=>e.np a o (k.bh a _ q) (k.np a o q n)
 len:=k.len
 pub:=λi d q=>let ⟨v,h1,h2⟩:=k.pub i d q;⟨v,h1,h2.mono e.g⟩
 own:=λi ds q=>let ⟨a,vs,h1,h2,h3,h4,h5⟩:=k.own i ds q;⟨a,vs,h1,h2,e.np a (.l _) h4 h3,e.h a _ h4,h5.mono e.g⟩
 sep:=k.sep
 dp:=k.dp.map (λ_ _ _ q=>⟨q,rfl⟩) (λ_ ds q=>⟨ds,q,rfl⟩) λi p d v fp q s r w n=>⟨r.mono e.g e.h,λa m=>let ⟨_,hl⟩:=r.isl a m;⟨(w a m).1,e.np a _ hl (w a m).2⟩⟩
theorem EOk.publish{σ:St}{Z:U7}{i:Nat}{ds:wb}(k:EOk K B G0 G H σ Z)(h:Z[i]?=O (O (.own ds))) :
  ∃a G',σ[i]?=O (O (.ref a))/\Same G G'/\Rep K G' (.ref a) (.list ds)/\EOk K B G0 G' H σ (Z.set i (O (.pub (.list ds)))):=by
 obtain⟨a,vs,h1,h2,h3,h4,h5⟩:=k.own i ds h;have sg:Same G (upd G a (.lst vs)):=Yi h3;have hr:Rep K _ (.ref a) (.list ds):=.lst (SqL.of Yd) (h5.mono sg);refine⟨a,upd G a (.lst vs),h1,sg,hr,⟨k.bh,λb u q=>?_,k.g0.trans sg,λb o q n=>?_,by rw[QZ];exact k.len,λj d q=>?_,λj es q=>?_,λj l c es fs q1 q2 s1 s2=>?_,?_⟩⟩
 .by_cases z:b=a
  .subst z;rw[Yd]at q;cases q;exact h4
  .rw[Zj z]at q;exact k.gh b u q
 .have z:b≠a:=λz=>by subst z;rw[h2]at q;cases q
  rw[Zj z];exact k.np b o q n
 .by_cases z:i=j
  .subst z
   have hl:i<Z.length:=(Qg.mp h).1;rw[QN hl]at q;cases q;exact⟨.ref a,h1,hr⟩
  .rw[Qs z]at q
   obtain⟨v,g1,g2⟩:=k.pub j d q;exact⟨v,g1,g2.mono sg⟩
 .by_cases z:i=j
  .subst z
   have hl:i<Z.length:=(Qg.mp h).1;rw[QN hl]at q;cases q
  .rw[Qs z]at q
   obtain⟨b,ws,g1,g2,g3,g4,g5⟩:=k.own j es q;have zb:b≠a:=λe=>z (k.sep i j a ds es h q h1 (by rw[←e];exact g1))
   exact⟨b,ws,g1,g2,by rw[Zj zb];exact g3,g4,g5.mono sg⟩
 .have nz:∀{m:Nat}{ts:wb},(Z.set i (O (Sl.pub (.list ds))))[m]?=O (O (.own ts))->Z[m]?=O (O (.own ts)):=λ{m ts} q=>by
   by_cases z:i=m
   .subst z
    have hl:i<Z.length:=(Qg.mp h).1;rw[QN hl]at q;cases q
   .rw[Qs z]at q;exact q
  exact k.sep j l c es fs (nz q1) (nz q2) s1 s2
 .have hl:i<Z.length:=(Qg.mp h).1
  have nz:∀{m:Nat}{s:Sl},(Z.set i (O (Sl.pub (.list ds))))[m]?=O (O s)->(∃d,s=.pub d)∨Z[m]?=O (O s):=λ{m s} q=>by
   by_cases z:i=m
   .subst z
    rw[QN hl]at q;cases q;exact .inl ⟨_,rfl⟩
   .rw[Qs z]at q;exact .inr q
  refine k.dp.map (λm p d q=>?_) (λm es q=>?_) λm p d v fp q s r w n=>⟨r.mono sg (.refl _),λb mb=>⟨(w b mb).1,?_⟩⟩
  .rcases nz q with ⟨_,e⟩|q
   .cases e
   .exact⟨q,rfl⟩
  .rcases nz q with ⟨_,e⟩|q
   .cases e
   .exact⟨es,q,rfl⟩
  .rw[Zj (λz=>by subst z;exact n i ds b h h1 mb)];exact(w b mb).2
inductive Res(α:Type) where
 |ok (a:α) (Z:U7)|bad
noncomputable abbrev M(α:Type):=U7->Res α
noncomputable def U3{α:Type}(a:α):M α:=λZ=>.ok a Z
noncomputable def Kq{α:Type}(o:Option α):M α:=λZ=>match o with|some a=>.ok a Z|none=>.bad
noncomputable def Kp{α β:Type}(f:M α)(k:α->M β):M β:=λZ=>match f Z with | .ok a Z'=>k a Z' | .bad=>.bad
section
variable(K:Frag)(B G0:Hp)
def aft{α γ:Type}(R:Hp->γ->α->Prop)(r:Res α)(G:Hp)(σ:St)(Q:γ->Hp->Prop):Prop:=
 match r with
 |.ok d Z'=>∀v G' H',EOk K B G0 G' H' σ Z'->Same G G'->R G' v d->Q v H'
 |.bad=>False
noncomputable def tM{α γ:Type}(R:Hp->γ->α->Prop)(f:M α):St->Hp->(γ->Hp->Prop)->Prop:=λσ H Q=>
 ∃G Z,EOk K B G0 G H σ Z/\aft K B G0 R (f Z) G σ Q
noncomputable abbrev tD(f:M D):TE:=tM K B G0 (Rep K) f
noncomputable abbrev tDs(f:M wb):TA:=tM K B G0 (Reps K) f
noncomputable abbrev tBo(f:M Bool):TT:=tM K B G0 (λ_ b c=>b=c) f
noncomputable abbrev tOi(f:M wg):TO:=tM K B G0 (λ_ b c=>b=c) f
end
section
variable{K:Frag}{B G0:Hp}{α β γ δ ε:Type}{R:Hp->γ->α->Prop}{S:Hp->δ->β->Prop}{T:Hp->ε->α->Prop}{σ:St}{H:Hp}
theorem aft.mono  {G G'}{Q}(e:Same G G')(h:aft K B G0 R r G σ Q):aft K B G0 R r G' σ Q:=by
 cases r with
 |ok d Z=>exact λv G2 H2 k s q=>h v G2 H2 k (e.trans s) q
 |bad=>exact h
theorem aft.done   {G G' H H'}{v}{Q}(h:aft K B G0 R (.ok d Z) G σ Q)(k:EOk K B G0 G H σ Z)(e:Ext G H G' H')(r:R G' v d):Q v H':=
 h v G' H' (k.ext e) e.g r
theorem aft.now   {G H}{v}{Q}(h:aft K B G0 R (.ok d Z) G σ Q)(k:EOk K B G0 G H σ Z)(r:R G v d):Q v H:=
 h v G H k (.refl _) r
theorem aft.opt     (h:aft K B G0 R (Kq o Z) G σ Q):∃d,o=O d/\aft K B G0 R (.ok d Z) G σ Q:=by
 cases o with
 |none=>exact h.elim
 |some d=>exact⟨d,rfl,h⟩
theorem tM.bind    (h:tM K B G0 S (Kp f k) σ H Q) :
  tM K B G0 R f σ H (λv H1=>∃G Z d,EOk K B G0 G H1 σ Z/\R G v d/\aft K B G0 S (k d Z) G σ Q):=by
 obtain⟨G,Z,e,a⟩:=h;refine⟨G,Z,e,?_⟩;unfold Kp at a;cases q:f Z with
 |bad=>rw[q]at a;exact a.elim
 |ok d Z1=>rw[q]at a;exact λv G' H' e' s r=>⟨G',Z1,d,e',r,aft.mono s a⟩
theorem tM.bind2{α' γ'}{R':Hp->γ'->α'->Prop}{f}{g:α->M α'}{k:α->α'->M β}{Q}(mo:∀G G' v d,Same G G'->R G v d->R G' v d)
  (h:tM K B G0 S (Kp f λx=>Kp (g x) λy=>k x y) σ H Q) :
  tM K B G0 R f σ H (λv H1=>∃x,tM K B G0 R' (g x) σ H1 λu H2=>∃G Z y,EOk K B G0 G H2 σ Z/\R G v x/\R' G u y/\aft K B G0 S (k x y Z) G σ Q):=by
 obtain⟨G,Z,e,a⟩:=tM.bind  h;refine⟨G,Z,e,?_⟩;cases q:f Z with
 |bad=>rw[q]at a;exact a.elim
 |ok d Z1=>
  rw[q]at a;intro v G' H' e' s r;obtain⟨G2,Z2,d2,e2,r2,a2⟩:=a v G' H' e' s r;refine⟨d2,G2,Z2,e2,?_⟩;unfold Kp at a2;cases q2:g d2 Z2 with
  |bad=>rw[q2]at a2;exact a2.elim
  |ok d3 Z3=>rw[q2]at a2;exact λu G3 H3 e3 s3 r3=>⟨G3,Z3,d3,e3,mo _ _ _ _ s3 r2,r3,aft.mono s3 a2⟩
end
theorem L6{K}(G G')(v)(d)(e:Same G G')(r:Rep K G v d):Rep K G' v d:=r.mono e
theorem tM.two{K}{B G0}{β δ}{S}{σ}{H}{f g}{k:D->D->M β}{Q:δ->Hp->Prop}{P:V->V->Hp->Prop}
  (h:tM K B G0 S (Kp f λx=>Kp g λy=>k x y) σ H Q)
  (i:∀v u H2 G Z x y,EOk K B G0 G H2 σ Z->Rep K G v x->Rep K G u y->aft K B G0 S (k x y Z) G σ Q->P v u H2) :
  tD K B G0 f σ H (λv H1=>tD K B G0 g σ H1 λu H2=>P v u H2):=by
 obtain⟨G,Z,e,a⟩:=tM.bind2   L6 h;refine⟨G,Z,e,?_⟩;cases q:f Z with
 |bad=>rw[q]at a;exact a.elim
 |ok d Z1=>
  rw[q]at a;intro v G' H' e' s r;obtain⟨x,G2,Z2,e2,a2⟩:=a v G' H' e' s r;refine⟨G2,Z2,e2,?_⟩;cases q2:g Z2 with
  |bad=>rw[q2]at a2;exact a2.elim
  |ok d3 Z3=>rw[q2]at a2;intro u G3 H3 e3 s3 r3;obtain⟨G4,Z4,y,e4,r4,r5,a5⟩:=a2 u G3 H3 e3 s3 r3;exact i v u H3 G4 Z4 x y e4 r4 r5 a5
theorem tM.one{K}{B G0}{α β γ δ}{R}{S}{σ}{H}{f}{k:α->M β}{Q:δ->Hp->Prop}{P:γ->Hp->Prop}
  (h:tM K B G0 S (Kp f k) σ H Q) (i:∀v H2 G Z x,EOk K B G0 G H2 σ Z->R G v x->aft K B G0 S (k x Z) G σ Q->P v H2):tM K B G0 R f σ H P:=by
 obtain⟨G,Z,e,a⟩:=tM.bind  h;refine⟨G,Z,e,?_⟩;cases q:f Z with
 |bad=>rw[q]at a;exact a.elim
 |ok d Z1=>rw[q]at a;intro v G' H' e' s r;obtain⟨G2,Z2,d2,e2,r2,a2⟩:=a v G' H' e' s r;exact i v H' G2 Z2 d2 e2 r2 a2
section
variable{X:Cx}{B G0:Hp}{e a b:UF}{pos:Pos}
theorem KM  (h:PE X e t)(i:∀σ H Q,t' σ H Q->t σ H Q):PE X e t':=λpins s σ H Q I q=>h pins s σ H Q I (i σ H Q q)
theorem Y4  (h:PT X e t)(i:∀σ H Q,t' σ H Q->t σ H Q):PT X e t':=λpins s σ H Q I q=>h pins s σ H Q I (i σ H Q q)
theorem paof   (h:PA X es t)(i:∀σ H Q,t' σ H Q->t σ H Q):PA X es t':=λps pins s σ H Q I q=>h ps pins s σ H Q I (i σ H Q q)
theorem poof   (h:PO X eo t)(i:∀σ H Q,t' σ H Q->t σ H Q):PO X eo t':=λpins s σ H Q I q=>h pins s σ H Q I (i σ H Q q)
theorem ZU{st}{t t'}(h:PS X st t)(i:∀D σ H,t' D σ H->t D σ H):PS X st t':=λpins s σ H D I q=>h pins s σ H D I (i D σ H q)
theorem Mw{st}{t t'}(h:PSs X st t)(i:∀D σ H,t' D σ H->t D σ H):PSs X st t':=λpins s σ H D I q=>h pins s σ H D I (i D σ H q)
noncomputable def UZ(i:Nat):M D:=λZ=>match Z[i]? with
 |some (O (.pub d))=>.ok d Z
 |some (O (.own ds))=>.ok (.list ds) (Z.set i (O (.pub (.list ds))))
 |_=>.bad
theorem Ys  (h:PE X e (Ye i)):PE X e (tD X.K B G0 (UZ i)):=KM h λσ H Q ⟨G,Z,k,a⟩=>by
 unfold UZ at a;cases q:Z[i]? with
 |none=>rw[q]at a;exact a.elim
 |some o=>
  cases o with
  |none=>rw[q]at a;exact a.elim
  |some sl=>
   cases sl with
   |deep _ _=>rw[q]at a;exact a.elim
   |pub d=>rw[q]at a;obtain⟨v,h1,h2⟩:=k.pub i d q;exact⟨v,h1,a.now k h2⟩
   |own ds=>rw[q]at a;obtain⟨ad,G',h1,h2,h3,h4⟩:=k.publish q;exact⟨.ref ad,h1,a _ G' H h4 h2 h3⟩
theorem Pw   (h:PE X e (tC v))(r:∀G,Rep X.K G v d):PE X e (tD X.K B G0 (U3 d)):=KM h λσ H Q ⟨G,Z,k,a⟩=>a.now k (r G)
theorem MR   : PE X (.Constant (.int i) j pos) (tD X.K B G0 (U3 (.int i))):=Pw DQ λ_=>.int i
theorem BF   : PE X (.Constant (.bool i) j pos) (tD X.K B G0 (U3 (.bool i))):=Pw Dx λ_=>.bl i
theorem Ac{j}:PE X (.Constant .none j pos) (tD X.K B G0 (U3 .none)):=Pw DP λ_=>.non
theorem CB   : PE X (.Constant (.str x) j pos) (tD X.K B G0 (U3 (.str x))):=Pw DO λ_=>.str x
noncomputable def U5{β:Type}(op:D->D->Option β)(f g:M D):M β:=Kp f λx=>Kp g λy=>Kq (op x y)
def OpD(X:Cx)(f:UA->UA->Sem UA)(op:D->D->wd):Prop:=
 ∃r:R2,OpR X f r/\∀v u G H x y d Q,Same G H->Rep X.K G v x->Rep X.K G u y->op x y=O d->(∀w G' H',Ext G H G' H'->Rep X.K G' w d->Q w H')->r v u H Q
theorem V7    (o:OpD X (binaryOp op) p)(ha:PE X a (tD X.K B G0 f))(hb:PE X b (tD X.K B G0 g)):PE X (.BinOp a op b pos) (tD X.K B G0 (U5 p f g)):=by
 obtain⟨r,h,i⟩:=o;refine KM (Mu h ha hb) λσ H Q q=>?_;refine tM.two q λv u H2 G Z x y k rx ry a=>?_
 obtain⟨d,e,a⟩:=a.opt;exact i v u G H2 x y d Q k.gh rx ry e λw G' H' ex rw=>a.done k ex rw
theorem OpD.or   (h:OpD X f p)(h':OpD X f q):OpD X f (λx y=>(p x y).orElse λ_=>q x y):=by
 obtain⟨r,h1,i1⟩:=h;obtain⟨r',h2,i2⟩:=h';refine⟨_,h1.or h2,λv u G H x y d Q s rx ry e k=>?_⟩;dsimp only at e;cases z:p x y with
 |some d'=>rw[z]at e;have e'   :=Q7 e;subst e';exact .inl (i1 v u G H x y d' Q s rx ry z k)
 |none=>rw[z]at e;exact .inr (i2 v u G H x y d Q s rx ry e k)
noncomputable def oII(g:Int->Int->wd):D->D->wd
 |.int i,.int j=>g i j
 |_,_=>v4
theorem L5   (e:oII g x y=O d):∃i j,x=.int i/\y=.int j/\g i j=O d:=by
 unfold oII at e;split at e
 .exact⟨_,_,rfl,rfl,e⟩
 simp_all
theorem OpD.int     (h:OpR X f (rI C g))(i:∀i j d,p i j=O d->C i j/\∀G,Rep X.K G (g i j) d):OpD X f (oII p):=by refine⟨_,h,λv u G H x y d Q s rx ry e k=>?_⟩;obtain⟨a,b,rfl,rfl,e⟩:=L5 e;obtain⟨c,r⟩:=i a b d e;exact⟨a,b,rx.int_inv,ry.int_inv,c,k _ G H (.refl s) (r G)⟩
theorem OpD.int0   {p:Int->Int->D}(h:OpR X f (rI0 g))(i:∀i j G,Rep X.K G (g i j) (p i j)):OpD X f (oII λi j=>O (p i j)):=by refine⟨_,h,λv u G H x y d Q s rx ry e k=>?_⟩;obtain⟨a,b,rfl,rfl,e⟩:=L5 e;cases e;exact⟨a,b,rx.int_inv,ry.int_inv,k _ G H (.refl s) (i a b G)⟩
end
section
variable{X:Cx}{B G0:Hp}{e a b c:UF}{pos:Pos}
theorem CA:OpD X (binaryOp .Add) (oII λi j=>O (.int (i+j))):=.int0 Cm λ_ _ _=>.int _
theorem Cz:OpD X (binaryOp .Sub) (oII λi j=>O (.int (i-j))):=.int0 Ck λ_ _ _=>.int _
noncomputable def Xn(i j:Int):wd:=if(-(2 ^ 64)<i/\i<2 ^ 64)∨(-(2 ^ 64)<j/\j<2 ^ 64)then O (.int (i*j))else v4
theorem Ab:OpD X (binaryOp .Mult) (oII Xn):=.int Cj λi j d h=>by
 unfold Xn at h;split at h
 .rename_i c
  cases h;exact⟨c,λ_=>.int _⟩
 simp_all
noncomputable def SH(i j:Int):wd:=if 0<j then O (.int (i % j))else v4
theorem Cy:OpD X (binaryOp .Mod) (oII SH):=.int Ci λi j d h=>by
 unfold SH at h;split at h
 .rename_i c
  cases h;exact⟨c,λ_=>.int _⟩
 simp_all
theorem qy:OpR X (binaryOp .FloorDiv) (rI (λi j=>0<j/\j<2 ^ 200) λi j=>.int (i / j)):=opI λi j _ _ _ _ _ hc q=>by
 refine floordiv_int (by lia) (by rw[Int.fdiv_eq_ediv_of_nonneg i (by lia)];exact q) (.inl (PyProof.noPylong_of_log2 ?_));have h0:j.natAbs≠0:=by lia
 have:j.natAbs.log2<200:=(Nat.log2_lt h0).mpr (by lia)
 lia
noncomputable def SI(i j:Int):wd:=if 0<j/\j<2 ^ 200 then O (.int (i / j))else v4
theorem Cw:OpD X (binaryOp .FloorDiv) (oII SI):=.int qy λi j d h=>by
 unfold SI at h;split at h
 .rename_i c
  cases h;exact⟨c,λ_=>.int _⟩
 simp_all
noncomputable def SG(i j:Int):wd:=if 0<=j/\j<=1000000/\i.natAbs<2 ^ 64 then O (.int (i ^ j.toNat))else v4
theorem Cv:OpD X (binaryOp .Pow) (oII SG):=.int Ch λi j d h=>by
 unfold SG at h;split at h
 .rename_i c
  cases h;exact⟨c,λ_=>.int _⟩
 simp_all
theorem lim:(1000000:Nat)<=UG:=by decide
noncomputable def OC:D->D->wd
 |.str x,.str y=>if x.length+y.length<=1000000 then O (.str (x++y))else v4
 |_,_=>v4
theorem Aa:OpD X (binaryOp .Add) OC:=by
 refine⟨_,xy,λv u G H x y d Q s rx ry e k=>?_⟩;unfold OC at e;split at e
 .split at e
  .rename_i c
   cases e;exact⟨_,_,rx.str_inv,ry.str_inv,QE c lim,k _ G H (.refl s) (.str _)⟩
  simp_all
 simp_all
noncomputable def FX(K:Frag):R2:=λx y H Q=>∃l b xs zs,x=.ref l/\y=.ref b/\SqL K H l xs/\SqL K H b zs/\xs.length+zs.length<=UG/\∀p,H p=v4->Q (.ref p) (upd H p (.lst (xs++zs)))
theorem B9:OpR X (binaryOp .Add) (FX X.K):=by
 intro pins s σ H x y v u Q I rx ry h;obtain⟨l,b,xs,zs,rfl,rfl,hH,hB,hz,q⟩:=h;cases rx;cases ry;obtain⟨its,r,⟨⟨c1,d1,t1,s1⟩,n1,e1,yU,yT,yS⟩,z1⟩:=I.list hH;obtain⟨its2,r2,⟨⟨c2,d2,t2,s2⟩,n2,e2,ec2,ed2,et2⟩,z2⟩:=I.list hB;simp only at yU yT yS ec2 ed2 et2;subst yU yT yS ec2 ed2 et2;have hl:=r.length;have hl2:=r2.length;refine concat_meets ⟨_,e1,rfl⟩ ⟨_,e2,rfl⟩ noFill_list_add seq_list_add PySem.F.slot_list_add PySem.F.entry_list_add (PySem.F.args_list_add_2 _ _) (list_addW l b its.toArray its2.toArray n1 n2 v4 v4 s1 s2 (by grind)) ⟨e1,e2,?_⟩;have ea:its.toArray++its2.toArray=(its++its2).toArray:=by simp
 rw[ea];exact⟨.ref _,_,I.lnew  (r.append r2) (by simp_all),rfl,q _ I.fresh⟩
theorem FW(a)(t)(l)(items)(n)(sl) :
  Meets (Builtin.«int.__rmul__» ⟨[.int a t,.ref l],[]⟩) (λ_ R s=>s.heap.get? l=O {cls:=.type "list", dict:=v4,data:=.seq items n,slots:=sl}/\R (.ok (.ret Value.notImplemented)) s):=
 .of_wp λprog w A R s h=>by obtain⟨hl,h⟩:=h;wp_walk;exact⟨_,rfl,h⟩
theorem mulW(l)(items)(n:Nat)(x:Int)(u:Tok)(sl)(hc0:¬(!Builtin.List.listFitsIndex x)=v5)(hc1:¬items.size*x.toNat > (2 ^ 63-1) / 8)(hc2:¬Builtin.List.listTooLong (items.size*x.toNat)=v5) :
  Meets (Builtin.«list.__mul__» ⟨[.ref l,.int x u],[]⟩) (λ_ R s=>s.heap.get? l=O {cls:=.type "list", dict:=v4,data:=.seq items n,slots:=sl}/\R (.ok (.ret (Value.ref s.heap.objs.size))) {s with heap:=s.heap.push {cls:=Value.type "list", data:=Data.seq (List.foldl (λx1 x2=>x1++x2) #[] (UL (if items.isEmpty=v5 then 0 else x.toNat) items))},toks:=s.toks}):=
 .of_wp λprog w A R s h=>by
  obtain⟨hl,h⟩:=h;have hsz:=AutoListH.joined_fits hc2
  wp_walk;refine wpAny_ite_false (QG (Nat.not_lt.mpr hsz)) ?_;wp_walk;exact⟨_,rfl,h⟩
noncomputable def FV(K:Frag):R2:=λx y H Q=>∃l k xs,x=.ref l/\y=.int k/\SqL K H l xs /\ -(2 ^ 63)<=k/\k<2 ^ 63/\xs.length*k.toNat<=UG /\
 ∀p,H p=v4->Q (.ref p) (upd H p (.lst (UL k.toNat xs).flatten))
theorem L4:OpR X (binaryOp .Mult) (FV X.K):=by
 intro pins s σ H x y v u Q I rx ry h;obtain⟨l,k,xs,rfl,rfl,hH,h1,h2,hz,q⟩:=h;cases rx;obtain⟨t,rfl⟩:=ry;obtain⟨its,r,⟨⟨c1,d1,t1,sl⟩,n,e,yU,yT,yS⟩,z⟩:=I.list hH;simp only at yU yT yS;subst yU yT yS;have hl:=r.length;have hlen:its.toArray.size*k.toNat<=UG:=by rw[Jb,←hl];exact hz
 have hcap:¬its.toArray.size*k.toNat > (2 ^ 63-1) / 8:=by
  have:(UG:Nat)<=(2 ^ 63-1) / 8:=by decide
  lia
 have hfit:¬(!Builtin.List.listFitsIndex k)=v5:=by rw[fitsIndex_both h1 h2];exact Bool.false_ne_true
 have yK:¬Builtin.List.listTooLong (its.toArray.size*k.toNat)=v5:=by rw[qE hlen];exact Bool.false_ne_true
 have hnew:List.foldl (λx1 x2=>x1++x2) #[] (UL (if its.toArray.isEmpty=v5 then 0 else k.toNat) its.toArray)=(UL k.toNat its).flatten.toArray:=by
  have f0   :=λm=>by have:=GC its m [];rw[Jd]at this;exact this
  rw[f0];cases its with
  |nil=>simp
  |cons a r'=>rw[if_neg (by simp)]
 refine wpAny_binaryOp_repeat_ref  (U:= "int") (by decide) ⟨_,e,rfl⟩ (λs'=>typeIs_int s' k t) noFill_list_mul F.fills_int_mul F.slot_int_rmul repeat_list F.slot_int_index.lookup
  (call_meets F.slot_int_rmul (typeIs_int s k t) F.entry_int_rmul (F.args_int_rmul_2 _ _) (FW k t l its.toArray n sl)
   ⟨e,rfl,⟨_,e,rfl⟩,call_meets F.slot_list_mul ⟨_,e,rfl⟩ F.entry_list_mul (F.args_list_mul_2 _ _) (mulW l its.toArray n k t sl hfit hcap yK) ⟨e,?_⟩⟩)
 rw[hnew];exact⟨.ref _,_,I.lnew  (r.rep k.toNat) (by rw[BN,Nat.mul_comm];exact hz),rfl,q _ I.fresh⟩
noncomputable def Mk:D->D->wd
 |.list x,.list y=>if x.length+y.length<=1000000 then O (.list (x++y))else v4
 |_,_=>v4
theorem B8:OpD X (binaryOp .Add) Mk:=by
 refine⟨_,B9,λv u G H x y d Q s rx ry e k=>?_⟩;unfold Mk at e;split at e
 .split at e
  .rename_i c
   cases e;obtain⟨l,vs,rfl,h1,r1⟩:=rx.lst_inv;obtain⟨b,ws,rfl,h2,r2⟩:=ry.lst_inv;refine⟨l,b,vs,ws,rfl,rfl,s.seq h1,s.seq h2,by rw[r1.length,r2.length];exact QE c lim,λp hp=>k _ _ _ (Ext.new s hp) ?_⟩;exact .lst (SqL.of Yd) ((r1.append r2).mono (Yi (s.free hp)))
  simp_all
 simp_all
theorem Reps.rep{K}{G}{vs}{ds}(r:Reps K G vs ds):∀n:Nat,Reps K G (UL n vs).flatten (UL n ds).flatten
 |0=>.nil
 |n+1=>by exact r.append (r.rep n)
noncomputable def Mj:D->D->wd
 |.list x,.int k=>if -1000000<=k/\k<=1000000/\x.length*k.toNat<=1000000 then O (.list (UL k.toNat x).flatten)else v4
 |_,_=>v4
theorem B7:OpD X (binaryOp .Mult) Mj:=by
 refine⟨_,L4,λv u G H x y d Q s rx ry e k=>?_⟩;unfold Mj at e;split at e
 .split at e
  .rename_i c
   cases e;obtain⟨l,vs,rfl,h1,r1⟩:=rx.lst_inv;refine⟨l,_,vs,rfl,ry.int_inv,s.seq h1,by lia,by lia,by rw[r1.length];exact QE c.2.2 lim,λp hp=>k _ _ _ (Ext.new s hp) ?_⟩;exact .lst (SqL.of Yd) ((r1.rep _).mono (Yi (s.free hp)))
  simp_all
 simp_all
noncomputable def Kg:D->D->wd
 |.int i,.int j=>O (.int (i+j))
 |.str x,.str y=>if x.length+y.length<=1000000 then O (.str (x++y))else v4
 |.list x,.list y=>if x.length+y.length<=1000000 then O (.list (x++y))else v4
 |_,_=>v4
noncomputable def Zv:D->D->wd
 |.int i,.int j=>O (.int (i-j))
 |_,_=>v4
noncomputable def KR:D->D->wd
 |.int i,.int j=>Xn i j
 |.list x,.int k=>if -1000000<=k/\k<=1000000/\x.length*k.toNat<=1000000 then O (.list (UL k.toNat x).flatten)else v4
 |_,_=>v4
noncomputable def ZV:D->D->wd
 |.int i,.int j=>SH i j
 |_,_=>v4
noncomputable def Wm:D->D->wd
 |.int i,.int j=>SI i j
 |_,_=>v4
noncomputable def Vk:D->D->wd
 |.int i,.int j=>SG i j
 |_,_=>v4
theorem OpD.congr   (h:OpD X f p)(e:∀x y,q x y=p x y):OpD X f q:=by
 have   :=by funext x y;exact e x y
 simp_all
theorem Mi:OpD X (binaryOp .Add) Kg:=(CA.or (Aa.or B8)).congr λx y=>by cases x<;>cases y<;>first|rfl|(done)|(simp only[Kg,OC];split<;>rfl)
theorem Mh:OpD X (binaryOp .Sub) Zv:=Cz.congr λx y=>by cases x<;>cases y<;>rfl
theorem Mg:OpD X (binaryOp .Mult) KR:=(Ab.or B7).congr λx y=>by cases x<;>cases y<;>first|rfl|(done)|(simp only[Option.orElse];split<;>first|rfl|assumption)
theorem EL:OpD X (binaryOp .Mod) ZV:=Cy.congr λx y=>by cases x<;>cases y<;>rfl
theorem EK:OpD X (binaryOp .FloorDiv) Wm:=Cw.congr λx y=>by cases x<;>cases y<;>rfl
theorem EJ:OpD X (binaryOp .Pow) Vk:=Cv.congr λx y=>by cases x<;>cases y<;>rfl
end
section
variable{X:Cx}{B G0:Hp}{e a b c:UF}{pos:Pos}
def OpB(X:Cx)(f:UA->UA->Sem UA)(op:D->D->wp):Prop:=
 ∃r:R2,OpR X f r/\∀v u G H x y d Q,Same G H->Rep X.K G v x->Rep X.K G u y->op x y=O d->Q (.bl d) H->r v u H Q
theorem OpB.or   (h:OpB X f p)(h':OpB X f q):OpB X f (λx y=>(p x y).orElse λ_=>q x y):=by
 obtain⟨r,h1,i1⟩:=h;obtain⟨r',h2,i2⟩:=h';refine⟨_,h1.or h2,λv u G H x y d Q s rx ry e k=>?_⟩;dsimp only at e;cases z:p x y with
 |some d'=>rw[z]at e;have e'   :=Q7 e;subst e';exact .inl (i1 v u G H x y d' Q s rx ry z k)
 |none=>rw[z]at e;exact .inr (i2 v u G H x y d Q s rx ry e k)
theorem OpB.congr   (h:OpB X f p)(e:∀x y,q x y=p x y):OpB X f q:=by
 have   :=by funext x y;exact e x y
 simp_all
theorem Nd    (o:OpB X (UJ op) p)(ha:PE X a (tD X.K B G0 f))(hb:PE X b (tD X.K B G0 g))(hm:behindInMarks op b=wa) :
  PT X (.Compare a [op] [b] pos) (tBo X.K B G0 (U5 p f g)):=by
 obtain⟨r,h,i⟩:=o;refine Y4 (L9 h ha hb hm) λσ H Q q=>?_;refine tM.two q λv u H2 G Z x y k rx ry a=>?_
 obtain⟨d,e,a⟩:=a.opt;exact i v u G H2 x y d _ k.gh rx ry e ⟨d,rfl,a.now k v3⟩
noncomputable def Ke{α β:Type}(h:α->β)(f:M α):M β:=Kp f λx=>U3 (h x)
theorem tM.map{K}{α β γ δ}{R}{S}{σ}{H}{h:α->β}{f}{Q}(j:γ->δ)(q:tM K B G0 S (Ke h f) σ H Q)
  (i:∀G v x,R G v x->S G (j v) (h x)):tM K B G0 R f σ H (λv H'=>Q (j v) H'):=
 tM.one   q λv H2 G Z x k r a=>aft.now (a) k (i G v x r)
theorem tBo.val{K}{σ}{H}{f}{Q}(q:tD K B G0 (Ke UN f) σ H Q):tBo K B G0 f σ H (λb H'=>Q (.bl b) H'):=
 tM.map  V.bl q λG v x e=>by rw[e];exact .bl x
theorem B6    (o:OpB X (UJ op) p)(ha:PE X a (tD X.K B G0 f))(hb:PE X b (tD X.K B G0 g))(hm:behindInMarks op b=wa) :
  PE X (.Compare a [op] [b] pos) (tD X.K B G0 (Ke UN (U5 p f g))):=by
 obtain⟨r,h,i⟩:=o;refine KM (Ha h ha hb hm) λσ H Q q=>?_;refine tM.two (tBo.val q) λv u H2 G Z x y k rx ry a=>?_
 obtain⟨d,e,a⟩:=a.opt;exact i v u G H2 x y d _ k.gh rx ry e (a.now k v3)
noncomputable def Rc(p q:D->D->wp)(f g h:M D):M Bool:=Kp f λx=>Kp g λy=>Kp (Kq (p x y)) λt=>if t=v5 then Kp h λz=>Kq (q y z)else U3 wa
theorem kH  {p q}{f g h}(o:OpB X (UJ op) p)(o':OpB X (UJ op') q)(ha:PE X a (tD X.K B G0 f))(hb:PE X b (tD X.K B G0 g))(hc:PE X c (tD X.K B G0 h))
  (hm:lastMarks [op,op'] [b,c]=wa:=by with_unfolding_all rfl):PT X (.Compare a [op,op'] [b,c] pos) (tBo X.K B G0 (Rc p q f g h)):=by
 obtain⟨r,h1,i⟩:=o;obtain⟨r',h2,i'⟩:=o';refine Y4 (qH h1 h2 ha hb hc hm) λσ H Q w=>?_;refine tM.two w λv u H2 G Z x y k rx ry a=>?_
 cases z:p x y with
 |none=>rw[z]at a;exact a.elim
 |some t=>
  rw[z]at a;refine i v u G H2 x y t _ k.gh rx ry z ⟨t,rfl,?_⟩;cases t with
  |false=>exact⟨wa,rfl,aft.now a k v3⟩
  |true=>
   refine⟨G,Z,k,?_⟩;have a4:aft X.K B G0 _ ((Kp h λz=>Kq _) Z) G σ Q:=a;unfold Kp at a4;cases z2:h Z with
   |bad=>rw[z2]at a4;exact a4.elim
   |ok d Z1=>rw[z2]at a4;intro w G5 H5 k5 s5 r5;obtain⟨t2,e2,a6⟩:=a4.opt;exact i' u w G5 H5 y d t2 _ k5.gh (ry.mono s5) r5 e2 ⟨t2,rfl,a6 t2 G5 H5 k5 s5 v3⟩
theorem kG  {p q}{f g h}(o:OpB X (UJ op) p)(o':OpB X (UJ op') q)(ha:PE X a (tD X.K B G0 f))(hb:PE X b (tD X.K B G0 g))(hc:PE X c (tD X.K B G0 h))
  (hm:lastMarks [op,op'] [b,c]=wa:=by with_unfolding_all rfl):PE X (.Compare a [op,op'] [b,c] pos) (tD X.K B G0 (Ke UN (Rc p q f g h))):=by
 obtain⟨r,h1,i⟩:=o;obtain⟨r',h2,i'⟩:=o';refine KM (qI h1 h2 ha hb hc hm) λσ H Q w=>?_;refine tM.two (tBo.val w) λv u H2 G Z x y k rx ry a=>?_
 cases z:p x y with
 |none=>rw[z]at a;exact a.elim
 |some t=>
  rw[z]at a;refine i v u G H2 x y t _ k.gh rx ry z ⟨t,rfl,?_⟩;cases t with
  |false=>exact aft.now (v:=wa) a k v3
  |true=>
   refine⟨G,Z,k,?_⟩;have a4:aft X.K B G0 _ ((Kp h λz=>Kq _) Z) G σ _:=a;unfold Kp at a4;cases z2:h Z with
   |bad=>rw[z2]at a4;exact a4.elim
   |ok d Z1=>rw[z2]at a4;intro w G5 H5 k5 s5 r5;obtain⟨t2,e2,a6⟩:=a4.opt;exact i' u w G5 H5 y d t2 _ k5.gh (ry.mono s5) r5 e2 (a6 t2 G5 H5 k5 s5 v3)
noncomputable def oIB(g:Int->Int->Bool):D->D->wp
 |.int i,.int j=>O (g i j)
 |_,_=>v4
theorem OpB.int   (h:OpR X f (rI0 λi j=>.bl (g i j))):OpB X f (oIB g):=by
 refine⟨_,h,λv u G H x y d Q s rx ry e k=>?_⟩;unfold oIB at e;split at e
 .cases e
  exact⟨_,_,rx.int_inv,ry.int_inv,k⟩
 simp_all
theorem B_lt:OpB X (UJ .Lt) (oIB λi j=>decide (i<j)):=.int F9
theorem B_le:OpB X (UJ .LtE) (oIB λi j=>decide (i<=j)):=.int F8
theorem B_gt:OpB X (UJ .Gt) (oIB λi j=>decide (j<i)):=.int F7
theorem B_ge:OpB X (UJ .GtE) (oIB λi j=>decide (j<=i)):=.int F6
mutual
theorem Xh{pins:List (UD×Obj)}{s:UB}{σ:St}{G H:Hp}(I:Inv X pins σ H s)(sg:Same G H):∀{v:V}{d:D}{u:UA},Rep X.K G v d->RelV v u->d.canLay0=v5->∃as,Reads s.heap u d as
 |_,_,_,.non,r,_=>by cases r;exact⟨_,.none⟩
 |_,_,_,.bl b,r,_=>by cases r;exact⟨_,.bool b⟩
 |_,_,_,.int i,r,_=>by obtain⟨t,rfl⟩:=r;exact⟨_,.int i t⟩
 |_,_,_,.str x,r,_=>by obtain⟨t,rfl⟩:=r;exact⟨_,.str x t⟩
 |_,_,_,.lst h q,r,c=>by cases r;obtain⟨its,rv,⟨o,n,e,hc,_,hd⟩,hz⟩:=I.list (sg.seq h);obtain⟨as,ra⟩:=readsAll_of I sg q rv (show UQ _=v5 by simpa[PyData.canLay0]using c);exact⟨_,.list e hc hd (by simpa using ra)⟩
 |_,_,_,.tup h q,r,c=>by cases r;obtain⟨its,rv,p,hz⟩:=I.tuple (Xd sg h);obtain⟨o,e,hc,n,hd⟩:=p;obtain⟨as,ra⟩:=readsAll_of I sg q rv (show UQ _=v5 by simpa[PyData.canLay0]using c);exact⟨_,.tuple e hc hd (by simpa using ra)⟩
 |_,_,_,.dic h,r,c=>by simp[PyData.canLay0]at c
 |_,_,_,.exc _ _ _ _,r,c=>by simp[PyData.canLay0]at c
 |_,_,_,.dct _ _ _ _ _,r,c=>by simp[PyData.canLay0]at c
 |_,_,_,.dtt _ _ _ _,r,c=>by simp[PyData.canLay0]at c
theorem readsAll_of{pins:List (UD×Obj)}{s:UB}{σ:St}{G H:Hp}(I:Inv X pins σ H s)(sg:Same G H):∀{vs:List V}{ds:wb}{us:we},Reps X.K G vs ds->Vals vs us->UQ ds=v5->∃as,ReadsAll s.heap us ds as
 |_,_,_,.nil,r,_=>by cases r;exact⟨_,.nil⟩
 |_,_,_,.cons h t,r,c=>by
  cases r with
  |cons r1 r2=>have c':=c;rw[UQ,QI]at c';obtain⟨as,ra⟩:=Xh I sg h r1 c'.1;obtain⟨bs,rb⟩:=readsAll_of I sg t r2 c'.2;exact⟨_,.cons ra rb⟩
end
noncomputable def oEq(x y:D):wp:=if x.canLay0=v5/\y.canLay0=v5/\x.depth<=60 then O (US x y)else v4
noncomputable def oNe(x y:D):wp:=if x.canLay0=v5/\y.canLay0=v5/\x.depth<=60 then O (!US x y)else v4
theorem B_eq(hu:X.A.units+64<cLine):OpB X (UJ .Eq) oEq:=by
 refine⟨λv u H Q=>∃G x y d,Same G H/\Rep X.K G v x/\Rep X.K G u y/\oEq x y=O d/\Q _ H,?_,λv u G H x y d Q s rx ry e k=>⟨G,x,y,d,s,rx,ry,e,k⟩⟩;intro pins s σ H x y v u Q I rx ry ⟨G,dx,dy,d,sg,px,py,e,q⟩;unfold oEq at e;split at e
 .rename_i c
  cases e;obtain⟨as,ra⟩:=Xh I sg px rx c.1;obtain⟨bs,rb⟩:=Xh I sg py ry c.2.1;exact SeqAt.compareEq_reads ra rb c.1 c.2.1 (by lia) ⟨.bl _,H,I,rfl,q⟩
 simp_all
theorem B_ne(hu:X.A.units+64<cLine):OpB X (UJ .NotEq) oNe:=by
 refine⟨λv u H Q=>∃G x y d,Same G H/\Rep X.K G v x/\Rep X.K G u y/\oNe x y=O d/\Q _ H,?_,λv u G H x y d Q s rx ry e k=>⟨G,x,y,d,s,rx,ry,e,k⟩⟩;intro pins s σ H x y v u Q I rx ry ⟨G,dx,dy,d,sg,px,py,e,q⟩;unfold oNe at e;split at e
 .rename_i c
  cases e;obtain⟨as,ra⟩:=Xh I sg px rx c.1;obtain⟨bs,rb⟩:=Xh I sg py ry c.2.1;exact SeqAt.compareNe_reads ra rb c.1 c.2.1 (by have:=c.2.2;lia) ⟨.bl _,H,I,rfl,q⟩
 simp_all
noncomputable def isNon:D->Bool
 |.none=>v5
 |_=>wa
theorem Rep.isNon{K}{G}{v}{d}(r:Rep K G v d):DL.isNon d=decide (v=.non):=by cases r<;>simp[DL.isNon]
end
section
variable{X:Cx}{B G0:Hp}{e a b c:UF}{pos:Pos}{es rest:wf}
theorem tM.nx{K}{α β γ δ}{R}{S}{σ}{G H}{Z}{f}{g:α->M β}{Q:δ->Hp->Prop}{P:γ->Hp->Prop}
  (k:EOk K B G0 G H σ Z) (a:aft K B G0 S (Kp f g Z) G σ Q) (i:∀v H' G' Z' x,EOk K B G0 G' H' σ Z'->Same G G'->R G' v x->aft K B G0 S (g x Z') G' σ Q->P v H'):tM K B G0 R f σ H P:=by
 refine⟨G,Z,k,?_⟩;unfold Kp at a;cases q:f Z with
 |bad=>rw[q]at a;exact a.elim
 |ok d Z1=>rw[q]at a;exact λv G' H' e s r=>i v H' G' Z1 d e s r (aft.mono s a)
noncomputable def ZN(f g:M Bool):M Bool:=Kp f λt=>if t=v5 then g else U3 wa
noncomputable def mOr(f g:M Bool):M Bool:=Kp f λt=>if t=v5 then U3 v5 else g
noncomputable def K9(f:M Bool):M Bool:=Ke (λt=>!t) f
theorem B5{K}{f g}{σ}{H}{Q}(q:tBo K B G0 (ZN f g) σ H Q):tAnd (tBo K B G0 f) (tBo K B G0 g) σ H Q:=
 tM.one  q λv H2 G Z x k r a=>by
  subst r;cases v with
  |true=>exact⟨G,Z,k,a⟩
  |false=>exact aft.now  a k v3
theorem Da{K}{f g}{σ}{H}{Q}(q:tBo K B G0 (mOr f g) σ H Q):tOr (tBo K B G0 f) (tBo K B G0 g) σ H Q:=
 tM.one  q λv H2 G Z x k r a=>by
  subst r;cases v with
  |false=>exact⟨G,Z,k,a⟩
  |true=>exact aft.now  a k v3
theorem pwof  (h:PW X e t)(i:∀σ H Q,t' σ H Q->t σ H Q):PW X e t':=λwh pins s σ H Q I q=>h wh pins s σ H Q I (i σ H Q q)
theorem qx  (ha:PT X a (tBo X.K B G0 f)):PW X (.BoolOp .And [a] pos) (tBo X.K B G0 f):=BZ ha
theorem B4{f:M Bool}(ha:PT X a (tBo X.K B G0 f)):PW X (.BoolOp .Or [a] pos) (tBo X.K B G0 f):=DK ha
theorem C5  (ha:PT X a (tBo X.K B G0 f))(hb:PW X (.BoolOp .And (b::rest) pos) (tBo X.K B G0 g)):PW X (.BoolOp .And (a::b::rest) pos) (tBo X.K B G0 (ZN f g)):=pwof (DJ ha hb) λ_ _ _ q=>B5 q
theorem E9  (ha:PT X a (tBo X.K B G0 f))(hb:PW X (.BoolOp .Or (b::rest) pos) (tBo X.K B G0 g)):PW X (.BoolOp .Or (a::b::rest) pos) (tBo X.K B G0 (mOr f g)):=pwof (Ej ha hb) λ_ _ _ q=>Da q
theorem C4  (ha:PT X a (tBo X.K B G0 f)):PT X (.UnaryOp .Not a pos) (tBo X.K B G0 (K9 f)):=Y4 (DI ha) λσ H Q q=>tM.map  _ q λ_ v x e=>by rw[e]
noncomputable def Yr(f:M D):M Bool:=Kp f λx=>match x with | .bool t=>U3 t|_=>λ_=>.bad
theorem C3  (h:PE X e (tD X.K B G0 f))(he:∀whole,isTrue e X.env whole=(do let v ←whole;standAt e.pos;holding [v] (truthy v)):=by intro _;rfl):PT X e (tBo X.K B G0 (Yr f)):=
 Y4 (DM h he) λσ H Q q=>tM.one  q λv H2 G Z x k r a=>by
  cases x with
  |bool t=>exact⟨t,r.bl_inv,aft.now  a k v3⟩
  |_=>exact a.elim
noncomputable def V6(f g:M D):M D:=Kp f λx=>match x with | .bool v5=>g | .bool wa=>U3 (.bool wa)|_=>λ_=>.bad
noncomputable def Vm(f g:M D):M D:=Kp f λx=>match x with | .bool v5=>U3 (.bool v5) | .bool wa=>g|_=>λ_=>.bad
noncomputable def Ov(f:M D):M D:=Kp f λx=>match x with | .bool t=>U3 (.bool (!t))|_=>λ_=>.bad
theorem C0  (ha:PE X a (tD X.K B G0 f))(hb:PE X (.BoolOp .And (b::rest) pos) (tD X.K B G0 g)):PE X (.BoolOp .And (a::b::rest) pos) (tD X.K B G0 (V6 f g)):=
 KM (Cu ha hb) λσ H Q q=>tM.one  q λv H2 G Z x k r a=>by
  cases x with
  |bool t=>
   refine⟨t,r.bl_inv,?_⟩;cases t with
   |true=>exact⟨G,Z,k,a⟩
   |false=>exact aft.now a k (.bl wa)
  |_=>exact a.elim
theorem E8  (ha:PE X a (tD X.K B G0 f))(hb:PE X (.BoolOp .Or (b::rest) pos) (tD X.K B G0 g)):PE X (.BoolOp .Or (a::b::rest) pos) (tD X.K B G0 (Vm f g)):=
 KM (Eg ha hb) λσ H Q q=>tM.one  q λv H2 G Z x k r a=>by
  cases x with
  |bool t=>
   refine⟨t,r.bl_inv,?_⟩;cases t with
   |false=>exact⟨G,Z,k,a⟩
   |true=>exact aft.now a k (.bl v5)
  |_=>exact a.elim
theorem CZ{op}{f:M D}(h:PE X a (tD X.K B G0 f)):PE X (.BoolOp op [a] pos) (tD X.K B G0 f):=DH h
theorem CY  (ha:PE X a (tD X.K B G0 f)):PE X (.UnaryOp .Not a pos) (tD X.K B G0 (Ov f)):=
 KM (Ct ha) λσ H Q q=>tM.one  q λv H2 G Z x k r a=>by
  cases x with
  |bool t=>exact⟨t,r.bl_inv,aft.now a k (.bl _)⟩
  |_=>exact a.elim
noncomputable def mIf{α:Type}(f:M Bool)(g h:M α):M α:=Kp f λt=>if t=v5 then g else h
theorem kY   (hc:PT X c (tBo X.K B G0 f))(ha:PE X a (tD X.K B G0 g))(hb:PE X b (tD X.K B G0 h)):PE X (.IfExp c a b pos) (tD X.K B G0 (mIf f g h)):=
 KM (A8 hc ha hb) λσ H Q q=>tM.one  q λv H2 G Z x k r a=>by
  subst r;cases v with
  |true=>exact⟨G,Z,k,a⟩
  |false=>exact⟨G,Z,k,a⟩
theorem CW   (ha:PE X a (tD X.K B G0 f)):PT X (.Compare a [.Is] [.Constant .none j p2] pos) (tBo X.K B G0 (Ke isNon f)):=
 Y4 (MY (MZ ha)) λσ H Q q=>tM.one  q λv H2 G Z x k r a=>⟨_,rfl,aft.now a k (by rw[r.isNon])⟩
theorem HM   (ha:PE X a (tD X.K B G0 f)):PT X (.Compare a [.IsNot] [.Constant .none j p2] pos) (tBo X.K B G0 (Ke (λd=>!isNon d) f)):=
 Y4 (MY (B0 ha)) λσ H Q q=>tM.one  q λv H2 G Z x k r a=>⟨_,rfl,aft.now a k (by dsimp only;rw[r.isNon])⟩
theorem CV   (ha:PE X a (tD X.K B G0 f)):PE X (.Compare a [.Is] [.Constant .none j p2] pos) (tD X.K B G0 (Ke (λd=>.bool (isNon d)) f)):=
 KM (DN (MZ ha)) λσ H Q q=>tM.one  q λv H2 G Z x k r a=>aft.now a k (by dsimp only;rw[r.isNon];exact .bl _)
noncomputable def U0:M wb:=U3 []
noncomputable def U1(f:M D)(g:M wb):M wb:=Kp f λx=>Kp g λxs=>U3 (x::xs)
theorem Ri:PA X [] (tDs X.K B G0 U0):=paof V9 λσ H Q ⟨G,Z,k,a⟩=>aft.now a k .nil
theorem tM.twoA{K}{σ}{H}{f}{g}{β δ}{S}{k:D->wb->M β}{Q:δ->Hp->Prop}{P:V->List V->Hp->Prop}
  (h:tM K B G0 S (Kp f λx=>Kp g λy=>k x y) σ H Q)
  (i:∀v u H2 G Z x y,EOk K B G0 G H2 σ Z->Rep K G v x->Reps K G u y->aft K B G0 S (k x y Z) G σ Q->P v u H2) :
  tD K B G0 f σ H (λv H1=>tDs K B G0 g σ H1 λu H2=>P v u H2):=by
 obtain⟨G,Z,e,a⟩:=tM.bind2   L6 h;refine⟨G,Z,e,?_⟩;cases q:f Z with
 |bad=>rw[q]at a;exact a.elim
 |ok d Z1=>
  rw[q]at a;intro v G' H' e' s r;obtain⟨x,G2,Z2,e2,a2⟩:=a v G' H' e' s r;refine⟨G2,Z2,e2,?_⟩;cases q2:g Z2 with
  |bad=>rw[q2]at a2;exact a2.elim
  |ok d3 Z3=>rw[q2]at a2;intro u G3 H3 e3 s3 r3;obtain⟨G4,Z4,y,e4,r4,r5,a5⟩:=a2 u G3 H3 e3 s3 r3;exact i v u H3 G4 Z4 x y e4 r4 r5 a5
theorem XE   (ha:PE X e (tD X.K B G0 f))(hr:PA X es (tDs X.K B G0 g))(hs:UI (e::es) X.env=(wa,eval e X.env)::UI es X.env:=by rfl) :
  PA X (e::es) (tDs X.K B G0 (U1 f g)):=paof (WQ ha hr hs) λσ H Q q=>tM.twoA q λv u H2 G Z x y k r1 r2 a=>aft.now a k (.cons r1 r2)
noncomputable def Kt(f:M wb):M D:=Kp f λxs=>if xs.length<=1000000 then U3 (.tuple xs)else λ_=>.bad
noncomputable def KF(f:M wb):M D:=Kp f λxs=>if xs.length<=1000000 then U3 (.list xs)else λ_=>.bad
theorem PR  {f}(h:PA X es (tDs X.K B G0 f)):PE X (.Tuple es x1 pos) (tD X.K B G0 (Kt f)):=
 KM (Cd h) λσ H Q q=>tM.one  q λv H2 G Z x k r a=>by
  split at a
  .rename_i c
   refine⟨by rw[r.length];exact QE c lim,λp hp=>?_⟩;exact aft.done a k (Ext.new k.gh hp) (.tup (SqT.of Yd) (r.mono (Yi (k.gh.free hp))))
  .exact a.elim
theorem Nc  (h:PA X es (tDs X.K B G0 f)):PE X (.List es pos) (tD X.K B G0 (KF f)):=
 KM (MU h) λσ H Q q=>tM.one  q λv H2 G Z x k r a=>by
  split at a
  .rename_i c
   refine⟨by rw[r.length];exact QE c lim,λp hp=>?_⟩;exact aft.done a k (Ext.new k.gh hp) (.lst (SqL.of Yd) (r.mono (Yi (k.gh.free hp))))
  .exact a.elim
noncomputable def oIx:D->D->wd
 |.list xs,.int i=>atI xs i
 |.tuple xs,.int i=>atI xs i
 |.str z,.int i=>if z.length<=1000000 then(atI z.cps.toList i).map λc=>.str ⟨#[c]⟩else v4
 |_,_=>v4
theorem Reps.atI{K}{G}{vs}{ds}{i}{d}(r:Reps K G vs ds)(h:L2.atI ds i=O d):∃v,L2.atI vs i=O v/\Rep K G v d:=by
 unfold L2.atI at h⊢;rw[r.length];cases z:ixN ds.length i with
 |none=>simp_all
 |some j=>rw[z]at h;exact r.get  h
theorem MQ{K}{v u}{G H}{x y d:D}{Q}(s:Same G H)(rx:Rep K G v x)(ry:Rep K G u y)(e:oIx x y=O d)(k:∀w,Rep K G w d->Q w H):rIx K v u H Q:=by
 unfold oIx at e;split at e
 .obtain⟨l,vs,rfl,h1,r1⟩:=rx.lst_inv
  obtain⟨w,e1,r2⟩:=r1.atI e;exact .inl ⟨l,vs,_,w,rfl,ry.int_inv,s.seq h1,e1,k w r2⟩
 .obtain⟨l,vs,rfl,h1,r1⟩:=rx.tup_inv
  obtain⟨w,e1,r2⟩:=r1.atI e;exact .inr (.inl ⟨l,vs,_,w,rfl,ry.int_inv,Xd s h1,e1,k w r2⟩)
 .split at e
  .rename_i z i hz
   cases q:L2.atI z.cps.toList i with
   |none=>rw[q]at e;cases e
   |some ch=>rw[q]at e;cases e;exact .inr (.inr ⟨z,i,ch,rx.str_inv,ry.int_inv,QE hz lim,q,k _ (.str _)⟩)
  .cases e
 .cases e
theorem E7  (ha:PE X a (tD X.K B G0 f))(hb:PE X b (tD X.K B G0 g))(hs:Nf b):PE X (.Subscript a b pos) (tD X.K B G0 (U5 oIx f g)):=
 KM (Ms MT ha hb hs) λσ H Q q=>tM.two q λv u H2 G Z x y k rx ry a=>by obtain⟨d,e,a⟩:=a.opt;exact MQ k.gh rx ry e λw r=>a.now k r
noncomputable def U9(i:Nat)(g:M D):M D:=λZ=>match Z[i]? with
 |some (O (.pub d))=>(Kp g λy=>Kq (oIx d y)) Z
 |some (O (.own _))=>(Kp g λy=>λZ'=>match Z'[i]? with|some (O (.own ds))=>Kq (oIx (.list ds) y) Z'|_=>.bad) Z
 |_=>.bad
theorem Rh   (ha:PE X a (Ye i))(hb:PE X b (tD X.K B G0 g))(hs:Nf b):PE X (.Subscript a b pos) (tD X.K B G0 (U9 i g)):=
 KM (Ms MT ha hb hs) λσ H Q ⟨G,Z,k,a⟩=>by
  unfold U9 at a;cases q:Z[i]? with
  |none=>rw[q]at a;exact a.elim
  |some o=>
   cases o with
   |none=>rw[q]at a;exact a.elim
   |some sl=>
    cases sl with
    |deep _ _=>rw[q]at a;exact a.elim
    |pub d=>
     rw[q]at a;obtain⟨v,h1,h2⟩:=k.pub i d q;refine⟨v,h1,G,Z,k,?_⟩;dsimp only[Kp]at a;cases z:g Z with
     |bad=>rw[z]at a;exact a.elim
     |ok y Z1=>rw[z]at a;intro u G' H' k' s' r';obtain⟨d',e',a'⟩:=aft.opt a;exact MQ k'.gh (h2.mono s') r' e' λw r=>a' w G' H' k' s' r
    |own ds=>
     rw[q]at a;obtain⟨ad,vs,h1,h2,h3,h4,h5⟩:=k.own i ds q;refine⟨.ref ad,h1,G,Z,k,?_⟩;dsimp only[Kp]at a;cases z:g Z with
     |bad=>rw[z]at a;exact a.elim
     |ok y Z1=>
      rw[z]at a;dsimp only at a;intro u G' H' k' s' r';cases z2:Z1[i]? with
      |none=>rw[z2]at a;exact a.elim
      |some o2=>
       cases o2 with
       |none=>rw[z2]at a;exact a.elim
       |some sl2=>
        cases sl2 with
        |deep _ _=>rw[z2]at a;exact a.elim
        |pub d2=>rw[z2]at a;exact a.elim
        |own es2=>
         rw[z2]at a;obtain⟨d',e',a'⟩:=aft.opt a;obtain⟨ad',vs',g1,g2,g3,g4,g5⟩:=k'.own i es2 z2;rw[h1]at g1;cases g1;cases y with
         |int j=>obtain⟨w,e1,r2⟩:=g5.atI e';exact .inl ⟨ad,vs',j,w,rfl,r'.int_inv,SqL.of g4,e1,a' w G' H' k' s' r2⟩
         |_=>cases e'
noncomputable def cutD(xs:wb)(lo hi:wg):wb:=(xs.drop (HT.sIx xs.length 0 lo)).take (HT.sIx xs.length xs.length hi-HT.sIx xs.length 0 lo)
theorem Reps.cut{K}{G}{vs}{ds}(r:Reps K G vs ds)(lo hi):Reps K G (Wp vs lo hi) (cutD ds lo hi):=by unfold Wp cutD;rw[r.length];exact(r.drop _).take _
noncomputable def YD:D->Option wg
 |.int i=>O (O i)
 |_=>v4
theorem qw:PO X v4 (tOi X.K B G0 (U3 v4)):=poof BS λσ H Q ⟨G,Z,k,a⟩=>aft.now a k v3
theorem qv  (h:PE X e (tD X.K B G0 f)):PO X (O e) (tOi X.K B G0 (Kp f λx=>Kq (YD x))):=poof (BR h) λσ H Q q=>tM.one  q λv H2 G Z x k r a=>by
 cases x with
 |int i=>exact⟨i,r.int_inv,aft.now  a k v3⟩
 |_=>exact a.elim
end
noncomputable def Xo:List (D×D)->Bool
 |(.none,_)::_=>v5
 |_=>wa
noncomputable def XN:D->String
 |.none=> "NoneType"
 |.bool _=> "bool"
 |.int _=> "int"
 |.str _=> "str"
 |.list _=> "list"
 |.tuple _=> "tuple"
 |.dict kvs=>if Xo kvs=v5 then "" else "dict"
noncomputable def Zb(d:D)(c:String):Bool:=XN d==c || (XN d == "bool" && c == "int")
noncomputable def Pj:D->Bool
 |.dict kvs=>Xo kvs
 |_=>wa
theorem nty{kvs:List (D×D)}{c}(h:(("dict" == c) || ("" == c))=wa):Zb (.dict kvs) c=wa:=by
 obtain⟨h1,h2⟩:=Bool.or_eq_false_iff.mp h
 show((if Xo kvs=v5 then "" else "dict")==c || ((if Xo kvs=v5 then "" else "dict") == "bool" && c == "int"))=wa
 cases Xo kvs with
 |true=>rw[Qq v3,h2];rfl
 |false=>rw[QB (by decide),h1];rfl
theorem MP{ks:List Key}{ds:wb}:XN (.dict ((ks.map kD).zip ds)) = "dict" /\ Pj (.dict ((ks.map kD).zip ds))=wa:=by
 cases ks with
 |nil=>exact⟨rfl,rfl⟩
 |cons k ks=>
  cases ds with
  |nil=>exact⟨rfl,rfl⟩
  |cons d ds=>cases k<;>exact⟨rfl,rfl⟩
theorem CU(K)(d:D)(c)(nx:Pj d=wa)(hc:c = "int" ∨ c = "bool" ∨ c = "str" ∨ c = "list" ∨ c = "tuple" ∨ c = "dict"):PySem.W.kitOne K (.type (XN d)) (.type c)=O (Zb d c):=by
 cases d with
 |dict kvs=>
  have e:XN (.dict kvs) = "dict" :=by
   have nx:Xo kvs=wa:=nx
   show(if Xo kvs=v5 then "" else "dict")=_
   rw[nx];rfl
  unfold Zb;rw[e];rcases hc with rfl|rfl|rfl|rfl|rfl|rfl<;>rfl
 |_=>rcases hc with rfl|rfl|rfl|rfl|rfl|rfl<;>rfl
section
variable{X:Cx}{B G0:Hp}{e a b c:UF}{pos:Pos}{es rest:wf}
def YW(X:Cx)(f:UA)(p:wb->wd):Prop:=
 ∃r,YS X f r/\∀vs G H ds d Q,Same G H->Reps X.K G vs ds->p ds=O d->(∀w G' H',Ext G H G' H'->Rep X.K G' w d->Q w H')->r vs H Q
noncomputable def Zt(p:wb->wd)(f:M wb):M D:=Kp f λxs=>Kq (p xs)
theorem Tk  {p2}{id}{p}{f}(hc:YW X (.builtin id) p)(hg:Gl X x)(hm:X.mg x=v4)(hv:bootBuiltins x=O (.builtin id))(ha:PA X (e::es) (tDs X.K B G0 f))(hn:x ≠ "__name__" :=by decide)(hdb:(x==("__debug__" : Str))=wa:=by decide)
  (he:UI (e::es) X.env=(wa,eval e X.env)::UI es X.env:=by rfl) (hpl:(backTo pos (UI es X.env)).any (·.1)=wa:=by rfl):PE X (.Call (.Name x p2) (e::es) [] pos) (tD X.K B G0 (Zt p f)):=by
 obtain⟨r,h,i⟩:=hc;refine KM (P8 h hg hm hv ha hn hdb he hpl) λσ H Q q=>tM.one  q λv H2 G Z x k rr a=>?_
 obtain⟨d,e,a⟩:=a.opt;exact i v G H2 x d Q k.gh rr e λw G' H' ex rw=>a.done k ex rw
theorem xr  {p2}{T}{p}{f}(hc:YW X (.type T) p)(hg:Gl X x)(hm:X.mg x=v4)(hv:bootBuiltins x=O (.type T))(ha:PA X (e::es) (tDs X.K B G0 f))(hn:x ≠ "__name__" :=by decide)(hdb:(x==("__debug__" : Str))=wa:=by decide)
  (he:UI (e::es) X.env=(wa,eval e X.env)::UI es X.env:=by rfl) (hpl:(backTo pos (UI es X.env)).any (·.1)=wa:=by rfl):PE X (.Call (.Name x p2) (e::es) [] pos) (tD X.K B G0 (Zt p f)):=by
 obtain⟨r,h,i⟩:=hc;refine KM (Ob h hg hm hv ha hn hdb he hpl) λσ H Q q=>tM.one  q λv H2 G Z x k rr a=>?_
 obtain⟨d,e,a⟩:=a.opt;exact i v G H2 x d Q k.gh rr e λw G' H' ex rw=>a.done k ex rw
theorem Reps.nil_inv{K:Frag}{G:Hp}{vs:List V}(r:Reps K G vs []):vs=[]:=by cases r;rfl
theorem Reps.one_inv{K}{G}{vs}{d}(r:Reps K G vs [d]):∃v,vs=[v]/\Rep K G v d:=by
 cases r with
 |cons h t=>cases t;exact⟨_,rfl,h⟩
theorem Reps.two_inv{K}{G}{vs}{d d'}(r:Reps K G vs [d,d']):∃v v',vs=[v,v']/\Rep K G v d/\Rep K G v' d':=by
 cases r with
 |cons h t=>obtain⟨v',rfl,r'⟩:=t.one_inv;exact⟨_,v',rfl,h,r'⟩
noncomputable def Kr:wb->wd
 |[.list xs]=>O (.int xs.length)
 |[.tuple xs]=>O (.int xs.length)
 |[.str z]=>if z.length<=1000000 then O (.int z.length)else v4
 |_=>v4
theorem EI:YW X (.builtin "len") Kr:=by
 refine⟨_,HQ,λvs G H ds d Q s r e k=>?_⟩;unfold Kr at e;split at e
 .cases e
  obtain⟨v,rfl,q⟩:=r.one_inv;obtain⟨l,ws,rfl,h1,r1⟩:=q.lst_inv;exact⟨.ref l,ws.length,rfl,.inl ⟨ws,s.seq h1,rfl⟩,by rw[r1.length];exact k _ G H (.refl s) (.int _)⟩
 .cases e
  obtain⟨v,rfl,q⟩:=r.one_inv;obtain⟨l,ws,rfl,h1,r1⟩:=q.tup_inv;exact⟨.ref l,ws.length,rfl,.inr ⟨ws,Xd s h1,rfl⟩,by rw[r1.length];exact k _ G H (.refl s) (.int _)⟩
 .split at e
  .rename_i z hz
   cases e;obtain⟨v,rfl,q⟩:=r.one_inv;exact⟨.str z,z.length,by rw[q.str_inv],⟨QE hz lim,rfl⟩,k _ G H (.refl s) (.int _)⟩
  simp_all
 simp_all
noncomputable def SU:wb->wd
 |[.int i,.int j]=>O (.int (if j > i then j else i))
 |_=>v4
theorem E6(hc:X.calm=v5):YW X (.builtin "max") SU:=by
 refine⟨_,kQ hc,λvs G H ds d Q s r e k=>?_⟩;unfold SU at e;split at e
 .cases e
  obtain⟨v,v',rfl,r1,r2⟩:=r.two_inv;exact⟨_,_,by rw[r1.int_inv,r2.int_inv],k _ G H (.refl s) (.int _)⟩
 simp_all
noncomputable def Pi:wb->wd
 |[.int i,.int j]=>O (.int (if j<i then j else i))
 |_=>v4
theorem E5(hc:X.calm=v5):YW X (.builtin "min") Pi:=by
 refine⟨_,kP hc,λvs G H ds d Q s r e k=>?_⟩;unfold Pi at e;split at e
 .cases e
  obtain⟨v,v',rfl,r1,r2⟩:=r.two_inv;exact⟨_,_,by rw[r1.int_inv,r2.int_inv],k _ G H (.refl s) (.int _)⟩
 simp_all
noncomputable def K7(i:Nat):M D:=λZ=>match Z[i]? with
 |some (O (.pub d))=>Kq (Kr [d]) Z
 |some (O (.own ds))=>.ok (.int ds.length) Z
 |_=>.bad
theorem HL  {p2:Pos}(hg:Gl X "len")(hm:X.mg "len" = v4)(ha:PE X e (Ye i))(he:UI [e] X.env=[(wa,eval e X.env)]:=by rfl):PE X (.Call (.Name "len" p2) [e] [] pos) (tD X.K B G0 (K7 i)):=by
 refine KM (P8 HQ hg hm PySem.boot_len (WQ ha V9 (by rw[he];rfl)) (by decide) (by decide) (by rw[he];rfl) v3) λσ H Q ⟨G,Z,k,a⟩=>?_
 unfold K7 at a;cases q:Z[i]? with
 |none=>rw[q]at a;exact a.elim
 |some o=>
  cases o with
  |none=>rw[q]at a;exact a.elim
  |some sl=>
   cases sl with
   |deep _ _=>rw[q]at a;exact a.elim
   |pub d=>
    rw[q]at a;obtain⟨v,h1,h2⟩:=k.pub i d q;refine⟨v,h1,?_⟩;obtain⟨d',e',a'⟩:=aft.opt a;show ∃x n,[v]=[x]/\LenV X.K x H n/\Q (.int n) H;unfold Kr at e';split at e'
    .rename_i xs he'
     injection he' with yO wZ;subst yO;cases e'
     obtain⟨l,ws,rfl,g1,r1⟩:=h2.lst_inv;exact⟨.ref l,ws.length,rfl,.inl ⟨ws,k.gh.seq g1,rfl⟩,by rw[r1.length];exact a'.now k (.int _)⟩
    .rename_i xs he'
     injection he' with yO wZ;subst yO;cases e'
     obtain⟨l,ws,rfl,g1,r1⟩:=h2.tup_inv;exact⟨.ref l,ws.length,rfl,.inr ⟨ws,Xd k.gh g1,rfl⟩,by rw[r1.length];exact a'.now k (.int _)⟩
    .rename_i z he'
     injection he' with yO wZ;subst yO
     split at e'
     .rename_i hz
      cases e';exact⟨.str z,z.length,by rw[h2.str_inv],⟨QE hz lim,rfl⟩,a'.now k (.int _)⟩
     .cases e'
    .cases e'
   |own ds=>rw[q]at a;obtain⟨ad,vs,h1,g2,g3,h4,h5⟩:=k.own i ds q;exact⟨.ref ad,h1,.ref ad,vs.length,rfl,.inl ⟨vs,SqL.of h4,rfl⟩,by rw[h5.length];exact aft.now a k (.int _)⟩
theorem CT  {s:UB}{σ:St}{G H:Hp}{v:V}{u:UA}{d:D}{cv:UA}{t:Bool}{A:Around}{E}{Q}(I:Inv X pins σ H s)(sg:Same G H)(r:Rep X.K G v d)(rv:RelV v u)(nx:Pj d=wa)
  (ek:PySem.W.kitOne X.K (.type (XN d)) cv=O t) (h:∀tk,Q (.bool t) {s with toks:=tk}):UH (model X.prog X.w) A (call (.builtin "isinstance") [u,cv]) Q E s:=by
 cases r with
 |non=>cases rv;exact JI PySem.W.kitx_none I.kIn True.intro ek (λz=>nomatch z) h
 |bl y=>cases rv;exact JI PySem.W.kitx_bool I.kIn True.intro ek (λz=>nomatch z) h
 |int i=>obtain⟨t',rfl⟩:=rv;exact JI PySem.W.kitx_int I.kIn True.intro ek (λz=>nomatch z) h
 |str y=>obtain⟨t',rfl⟩:=rv;exact JI PySem.W.kitx_str I.kIn True.intro ek (λz=>nomatch z) h
 |lst hl _=>cases rv;obtain⟨its,r,⟨o,n,e,hc,_,hd⟩,hz⟩:=I.list (sg.seq hl);exact JI PySem.W.kitx_list I.kIn ⟨o,e,hc⟩ ek (λz=>nomatch z) h
 |tup hl _=>cases rv;obtain⟨its,r,p,hz⟩:=I.tuple (Xd sg hl);obtain⟨o,e,hc,_⟩:=p;exact JI PySem.W.kitx_tuple I.kIn ⟨o,e,hc⟩ ek (λz=>nomatch z) h
 |@dic ad hd=>
  cases rv;obtain⟨_,_,vs,_,p⟩:=(I.hok ad _ (sg _ _ hd))
  obtain⟨o,es,ep,h1,h2,_⟩:=p;exact JI PySem.W.kitx_dict I.kIn ⟨o,h1,h2.1⟩ ek (λz=>nomatch z) h
 |exc _ _ _ _=>cases nx
 |@dct ad ks vs ds kvs e0 _ _ hd _=>
  cases rv;subst e0;rw[MP.1]at ek;obtain⟨_,_,vs,_,p⟩:=(I.hok ad _ (sg _ _ hd))
  obtain⟨o,es,ep,h1,h2,_⟩:=p;exact JI PySem.W.kitx_dict I.kIn ⟨o,h1,h2.1⟩ ek (λz=>nomatch z) h
 |@dtt ad ob ks vs ds kvs e0 _ hd _=>
  cases rv;subst e0;obtain⟨_,_,_,xs,_,o,es,ep,h1,h2,_⟩:=(I.hok ad _ (sg _ _ hd))
  exact JI PySem.W.kitx_dict I.kIn ⟨o,h1,h2.1⟩ ek (λz=>nomatch z) h
theorem CS(c)(hc:c = "int" ∨ c = "bool" ∨ c = "str" ∨ c = "list" ∨ c = "tuple" ∨ c = "dict"):typeOf (.type c)=pure (.type "type"):=by rcases hc with rfl|rfl|rfl|rfl|rfl|rfl<;>kernel_rfl
theorem qu:YS X (.builtin "isinstance") (λxs H Q=>∃v c G d,xs=[v,.ty c]/\Same G H/\Rep X.K G v d/\(c = "int" ∨ c = "bool" ∨ c = "str" ∨ c = "list" ∨ c = "tuple" ∨ c = "dict")/\Q (.bl (Zb d c)) H):=by
 intro pins s σ H xs us Q I r h;obtain⟨v,c,G,d,rfl,sg,rp,hc,q⟩:=h;obtain⟨u,w',rfl,r1,r2⟩:=Pm r;cases (r2);by_cases nx:Pj d=v5
 .cases rp with
  |@exc a C dd bm nm vs ds ck hx hd rr=>
   refine qz (Oz I.ok.mod.kin) pins s σ H [.ref a,.ty c] [u,.type c] Q I r ⟨a,C,dd,bm,wa,.ty c,wa,rfl,⟨nm,ck⟩,sg _ _ hx,.inr ⟨c,rfl,CS c hc,?_⟩,?_⟩
   .rw[ck.ty];rcases hc with rfl|rfl|rfl|rfl|rfl|rfl<;>rfl
   .have e:Zb (.dict [(.none,.tuple [.str nm,.list ds])]) c=wa:=by rcases hc with rfl|rfl|rfl|rfl|rfl|rfl<;>rfl
    simp_all
  |dct e _ _ _ _=>subst e;rw[MP.2]at nx;simp_all
  |dtt e _ _ _=>subst e;cases nx
  |_=>cases nx
 .have nx   :=by simpa using nx
  exact CT I sg rp r1 nx (CU X.K d c nx hc) λtk=>⟨.bl _,H,I.tok tk,rfl,q⟩
theorem vV:bootBuiltins "isinstance" = O (.builtin "isinstance"):=by decide +kernel
theorem R4  {p2 p3}{c}(hc:c = "int" ∨ c = "bool" ∨ c = "str" ∨ c = "list" ∨ c = "tuple" ∨ c = "dict")(hg:Gl X "isinstance")(hm:X.mg "isinstance" = v4)(hg2:Gl X (UU c))(hm2:X.mg (UU c)=v4)
  (hv2:bootBuiltins (UU c)=O (.type c)) (ha:PE X e (tD X.K B G0 f)) (hn2:(UU c) ≠ "__name__") (hd2:((UU c)==("__debug__" : Str))=wa)
  (hs:UI [e,.Name (UU c) p3] X.env=(wa,eval e X.env)::UI [.Name (UU c) p3] X.env:=by rfl)
  (hs2:UI [.Name (UU c) p3] X.env=[(wa,eval (.Name (UU c) p3) X.env)]:=by rfl) :
  PE X (.Call (.Name "isinstance" p2) [e,.Name (UU c) p3] [] pos) (tD X.K B G0 (Ke (λd=>.bool (Zb d c)) f)):=by
 refine KM (P8 qu hg hm vV (WQ ha (WQ (B2 (v:=.ty c) hg2 hm2 hv2 v3 hn2 hd2) V9 (by rfl)) hs) (by decide) (by decide) hs (by rfl)) λσ H Q q=>?_
 refine tM.one  q λv H2 G Z x k r a=>?_
 exact⟨v,c,G,x,rfl,k.gh,r,hc,aft.now a k (.bl _)⟩
end
noncomputable def spD(K:Frag)(n:Nat)(F:wb->wd):Sp:=λvs H Q _=>∃G ds d,vs.length=n/\Same G H/\Reps K G vs ds/\F ds=O d/\∀v G' H',Ext G H G' H'->Rep K G' v d->Q v H'
section
variable{K:Frag}{B G0 G H:Hp}{σ:St}{Z:U7}
theorem EOk.exit(k:EOk K B G0 G H σ Z):Ext G0 B G H:=⟨k.bh,k.g0,k.gh,k.np⟩
theorem Wj{α:Type}{l:List α}{i}{x y}(h:(l.set i x)[i]?=O y):y=x:=by
 by_cases hl:i<l.length
 .simp_all
 .simp_all
theorem DpOk.setOther   {y}(k:DpOk K B G H σ Z)(hy:∀s,y=O s->∃d,s=.pub d):DpOk K B G H (σ.set i x) (Z.set i y):=by
 have nz:∀{m:Nat}{s:Sl},(Z.set i y)[m]?=O (O s)->(∃d,s=.pub d)∨(Z[m]?=O _/\(σ.set i x)[m]?=σ[m]?):=λ{m s} q=>by
  by_cases z:i=m
  .subst z
   exact .inl (hy s (Wj q).symm)
  .rw[Qs z]at q⊢;exact .inr ⟨q,rfl⟩
 refine k.map (λm p d q=>?_) (λm es q=>?_) λm p d v fp q s r w n=>⟨r,w⟩
 .rcases nz q with ⟨_,e⟩|q
  .cases e
  .exact q
 .rcases nz q with ⟨_,e⟩|q
  .cases e
  .exact⟨es,q⟩
theorem EOk.setPub  {v:V}{d}(k:EOk K B G0 G H σ Z)(r:Rep K G v d)(hi:i<Z.length):EOk K B G0 G H (σ.set i (O v)) (Z.set i (O (.pub d))) where
 bh:=k.bh
 gh:=k.gh
 g0:=k.g0
 np:=k.np
 len:=by rw[QZ,QZ];exact k.len
 pub:=λj d' q=>by
  by_cases z:i=j
  .subst z
   have:=Wj q;cases this;exact⟨v,QN (by rw[←k.len];exact hi),r⟩
  .rw[Qs z]at q⊢
   exact k.pub j d' q
 own:=λj ds q=>by
  by_cases z:i=j
  .subst z
   have:=Wj q;cases this
  .rw[Qs z]at q⊢
   exact k.own j ds q
 sep:=λj l c es fs q1 q2 s1 s2=>by
  have z1:i≠j:=λz=>by subst z;have:=Wj q1;cases this
  have z2:i≠l:=λz=>by subst z;have:=Wj q2;cases this
  rw[Qs z1]at q1 s1;rw[Qs z2]at q2 s2;exact k.sep j l c es fs q1 q2 s1 s2
 dp:=k.dp.setOther (λs e=>by cases e;exact⟨_,rfl⟩)
structure NewL(K:Frag)(B G H:Hp)(σ:St)(Z:U7)(a:UD)(vs:List V)(ds:wb):Prop where
 b:B a=v4
 g:G a=v4
 h:H a=O (.lst vs)
 r:Reps K G vs ds
 f:∀(j:Nat) es,Z[j]?=O (O (.own es))->σ[j]?≠O (O (.ref a))
 dp:∀(j:Nat) p d v fp,Z[j]?=O (O (.deep p d))->σ[j]?=O (O v)->RepO K G H p v d fp->a∉fp
theorem EOk.freshD   (k:EOk K B G0 G H σ Z)(e:Same H H')(ha:H a=v4){G'}{j:Nat}{p}{d}{v}{fp}(q:Z[j]?=O (O (.deep p d)))(s:σ[j]?=O (O v))(r:RepO K G' H' p v d fp):a∉fp:=λm=>by
 obtain⟨ω,k1,k2⟩:=k.dp;obtain⟨v',fp',s',r',n,w⟩:=k1 j p d q;rw[s]at s';cases s';have u:=r'.uniq e r;subst u;obtain⟨ws,hl⟩:=r'.isl a m
 lia
theorem EOk.setOwn  {a:UD}{vs:List V}{ds:wb}(k:EOk K B G0 G H σ Z)(n:NewL K B G H σ Z a vs ds)(hi:i<Z.length):EOk K B G0 G H (σ.set i (O (.ref a))) (Z.set i (O (.own ds))) where
 bh:=k.bh
 gh:=k.gh
 g0:=k.g0
 np:=k.np
 len:=by rw[QZ,QZ];exact k.len
 pub:=λj d' q=>by
  by_cases z:i=j
  .subst z
   have:=Wj q;cases this
  .rw[Qs z]at q⊢
   exact k.pub j d' q
 own:=λj es q=>by
  by_cases z:i=j
  .subst z
   have:=Wj q;cases this;exact⟨a,vs,QN (by rw[←k.len];exact hi),n.b,n.g,n.h,n.r⟩
  .rw[Qs z]at q⊢
   exact k.own j es q
 sep:=λj l c es fs q1 q2 s1 s2=>by
  have hs:i<σ.length:=by rw[←k.len];exact hi
  by_cases z1:i=j
  .subst z1
   rw[QN hs]at s1;cases s1;by_cases z2:i=l
   .exact z2
   .rw[Qs z2]at q2 s2
    exact absurd s2 (n.f l fs q2)
  .by_cases z2:i=l
   .subst z2
    rw[QN hs]at s2;cases s2;rw[Qs z1]at q1 s1;exact absurd s1 (n.f j es q1)
   .rw[Qs z1]at q1 s1
    rw[Qs z2]at q2 s2;exact k.sep j l c es fs q1 q2 s1 s2
 dp:=by
  obtain⟨ω,k1,k2⟩:=k.dp;have hs:i<σ.length:=by rw[←k.len];exact hi
  refine⟨λb=>if b=a then i else ω b,λj p d q=>?_,λj es b q s=>?_⟩
  .by_cases z:i=j
   .subst z;have:=Wj q;cases this
   .rw[Qs z]at q⊢
    obtain⟨v,fp,s,r,nn,w⟩:=k1 j p d q;refine⟨v,fp,s,r,nn,λb m=>⟨(w b m).1,(w b m).2.1,?_⟩⟩;dsimp only;rw[QB (λz=>n.dp j p d v fp q s r (by rw[←z];exact m))];exact(w b m).2.2
  .by_cases z:i=j
   .subst z
    rw[QN hs]at s;cases s;dsimp only;rw[Qq v3]
   .rw[Qs z]at q s
    dsimp only;rw[QB (λe=>n.f j es q (by rw[←e];exact s))];exact k2 j es b q s
theorem EOk.change  {a:UD}{vs:List V}{ds es:wb}(k:EOk K B G0 G H σ Z)(q:Z[i]?=O (O (.own ds)))(ha:σ[i]?=O (O (.ref a)))(r:Reps K G vs es) :
  EOk K B G0 G (upd H a (.lst vs)) σ (Z.set i (O (.own es))):=by
 obtain⟨a',ws,h1,h2,h3,h4,h5⟩:=k.own i ds q;rw[ha]at h1;cases h1;refine⟨λb o e=>?_,λb o e=>?_,k.g0,k.np,by rw[QZ];exact k.len,λj d' e=>?_,λj fs e=>?_,λj l c fs gs q1 q2 s1 s2=>?_,?_⟩
 .rw[Zj (XH e h2)];exact k.bh b o e
 .rw[Zj (XH e h3)];exact k.gh b o e
 .by_cases z:i=j
  .subst z
   have:=Wj e;cases this
  .rw[Qs z]at e
   exact k.pub j d' e
 .by_cases z:i=j
  .subst z
   have:=Wj e;cases this;exact⟨a,vs,ha,h2,h3,Yd,r⟩
  .rw[Qs z]at e
   obtain⟨c,us,g1,g2,g3,g4,g5⟩:=k.own j fs e;have zc:c≠a:=λw=>z (k.sep i j a ds fs q e ha (by rw[←w];exact g1))
   exact⟨c,us,g1,g2,g3,by rw[Zj zc];exact g4,g5⟩
 .have f:∀{m:Nat}{ts:wb},(Z.set i (O (Sl.own es)))[m]?=O _->∃ts',Z[m]?=O (O (.own ts')):=λ{m ts} e=>by
   by_cases z:i=m
   .subst z;exact⟨ds,q⟩
   .rw[Qs z]at e;exact⟨ts,e⟩
  obtain⟨f1,w1⟩:=f q1;obtain⟨f2,w2⟩:=f q2;exact k.sep j l c f1 f2 w1 w2 s1 s2
 .refine k.dp.map (λj p d e=>?_) (λj fs e=>?_) λj p d v fp qj s rj w n=>⟨rj.upd (λ_ z=>by rw[h4]at z;cases z) (n i ds a q ha),w⟩
  .by_cases z:i=j
   .subst z;have:=Wj e;cases this
   .rw[Qs z]at e;exact⟨e,rfl⟩
  .by_cases z:i=j
   .subst z;exact⟨ds,q,rfl⟩
   .rw[Qs z]at e;exact⟨fs,e,rfl⟩
end
inductive Out where
 |nx (Z:U7)|rt (d:D)|bk (Z:U7)|ct (Z:U7)|ex (Z:U7) (d:D)|ro (ds:wb)|bad
abbrev SM:=U7->Out
section
variable(K:Frag)(B G0:Hp)(KX:XW)
def aftS(o:Out)(G1:Hp)(Dn:Ends):Prop:=
 match o with
 |.nx Z=>∀σ G H,EOk K B G0 G H σ Z->Same G1 G->Dn.nx σ H
 |.bk Z=>∀σ G H,EOk K B G0 G H σ Z->Same G1 G->Dn.bk σ H
 |.ct Z=>∀σ G H,EOk K B G0 G H σ Z->Same G1 G->Dn.ct σ H
 |.rt d=>∀v G H,Ext G0 B G H->Rep K G v d->Dn.rt v H
 |.ro ds=>∀a vs G H,Ext G0 B G H->B a=v4->G a=v4->H a=O (.lst vs)->Reps K G vs ds->Dn.rt (.ref a) H
 |.ex Z d=>∀v σ G H,EOk K B G0 G H σ Z->Same G1 G->Rep K G v d->KX v σ H
 |.bad=>False
noncomputable def tS(g:SM):TS:=λDn σ H=>∃G Z,EOk K B G0 G H σ Z/\aftS K B G0 KX (g Z) G Dn
noncomputable def sB{α:Type}(f:M α)(g:α->SM):SM:=λZ=>match f Z with | .ok a Z'=>g a Z' | .bad=>.bad
end
section
variable{X:Cx}{B G0:Hp}{KX:XW}{e a b c:UF}{pos:Pos}{es rest:wf}{st:Stmt}{sts sts2:List Stmt}
theorem aftS.mono{K}{o}{G G'}{Dn}(e:Same G G')(h:aftS K B G0 KX o G Dn):aftS K B G0 KX o G' Dn:=by
 cases o with
 |nx Z=>exact λσ G2 H2 k s=>h σ G2 H2 k (e.trans s)
 |bk Z=>exact λσ G2 H2 k s=>h σ G2 H2 k (e.trans s)
 |ct Z=>exact λσ G2 H2 k s=>h σ G2 H2 k (e.trans s)
 |rt d=>exact h
 |ro ds=>exact h
 |ex Z d=>exact λv σ G2 H2 k s r=>h v σ G2 H2 k (e.trans s) r
 |bad=>exact h
theorem tS.bnd{K}{α γ}{R}{f:M α}{g}{Dn}{σ}{H}{P:γ->Hp->Prop}(q:tS K B G0 KX (sB f g) Dn σ H)
  (i:∀v H' G' Z' x,EOk K B G0 G' H' σ Z'->R G' v x->aftS K B G0 KX (g x Z') G' Dn->P v H'):tM K B G0 R f σ H P:=by
 obtain⟨G,Z,k,a⟩:=q;refine⟨G,Z,k,?_⟩;unfold sB at a;cases z:f Z with
 |bad=>rw[z]at a;exact a.elim
 |ok d Z1=>rw[z]at a;exact λv G' H' e s r=>i v H' G' Z1 d e r (aftS.mono s a)
noncomputable def sNx:SM:=λZ=>.nx Z
noncomputable def U4(g h:SM):SM:=λZ=>match g Z with | .nx Z'=>h Z'|o=>o
theorem OU:PSs X [] (tS X.K B G0 KX sNx):=Mw BY λD σ H ⟨G,Z,k,a⟩=>a σ G H k (.refl _)
theorem Rg  (h1:PS X st (tS X.K B G0 KX g))(h2:PSs X sts (tS X.K B G0 KX h)):PSs X (st::sts) (tS X.K B G0 KX (U4 g h)):=Mw (A7 h1 h2) λD σ H ⟨G,Z,k,a⟩=>by
 refine⟨G,Z,k,?_⟩;unfold U4 at a;cases z:g Z with
 |nx Z1=>rw[z]at a;exact λσ' G' H' k' s'=>⟨G',Z1,k',aftS.mono s' a⟩
 |rt d=>rw[z]at a;exact a
 |ro ds=>rw[z]at a;exact a
 |bk Z1=>rw[z]at a;exact a
 |ct Z1=>rw[z]at a;exact a
 |ex Z1 d=>rw[z]at a;exact a
 |bad=>rw[z]at a;exact a.elim
theorem Rb{g:SM}(h1:PS X st (tS X.K B G0 KX g)):PSs X [st] (tS X.K B G0 KX g):=L0 h1
noncomputable def Wa:SM:=λ_=>.bad
theorem qt:PS X st (tS X.K B G0 KX Wa):=λ_ _ _ _ _ _ ⟨_,_,_,a⟩=>a.elim
noncomputable def Kc(f:M D):SM:=sB f λd _=>.rt d
theorem MN  (h:PE X e (tD X.K B G0 f)):PS X (.Return (O e) pos) (tS X.K B G0 KX (Kc f)):=ZU (Cs h) λD σ H q=>tS.bnd  q λv H' G' Z' x k r a=>a v G' H' k.exit r
noncomputable def YR(f:M D):SM:=sB f λ_ Z=>.nx Z
theorem CQ  (h:PE X e (tD X.K B G0 f))(hs:swapsWith e v4 pos.line X.env=pure wa:=by rfl):PS X (.Expr e pos) (tS X.K B G0 KX (YR f)):=ZU (Nh h hs) λD σ H q=>tS.bnd  q λv H' G' Z' x k r a=>a σ G' H' k (.refl _)
noncomputable def sIf(f:M Bool)(g h:SM):SM:=sB f λt=>if t=v5 then g else h
theorem Ou   (hc:PT X c (tBo X.K B G0 f))(ha:PSs X sts (tS X.K B G0 KX g))(hb:PSs X sts2 (tS X.K B G0 KX h)):PS X (.If c sts sts2 pos) (tS X.K B G0 KX (sIf f g h)):=
 ZU (Ee hc ha hb) λD σ H q=>tS.bnd  q λv H' G' Z' x k r a=>by
  subst r;cases v with
  |true=>exact⟨G',Z',k,a⟩
  |false=>exact⟨G',Z',k,a⟩
noncomputable def tG(K:Frag)(B G0:Hp)(s:D->U7->wl):TG:=λv σ H Q=>∃G Z d Z',EOk K B G0 G H σ Z/\Rep K G v d/\s d Z=O Z'/\∀σ' G' H',EOk K B G0 G' H' σ' Z'->Same G G'->Q σ' H'
noncomputable def tGs(K:Frag)(B G0:Hp)(s:wb->U7->wl):TGs:=λv σ H Q=>∃G Z d Z',EOk K B G0 G H σ Z/\Reps K G v d/\s d Z=O Z'/\∀σ' G' H',EOk K B G0 G' H' σ' Z'->Same G G'->Q σ' H'
theorem pgof  (h:PG X e t)(i:∀v σ H Q,t' v σ H Q->t v σ H Q):PG X e t':=λpins s σ H v u Q I r q=>h pins s σ H v u Q I r (i v σ H Q q)
theorem Mf  (h:PGs X es t)(i:∀v σ H Q,t' v σ H Q->t v σ H Q):PGs X es t':=λpins s σ H v u Q I r q=>h pins s σ H v u Q I r (i v σ H Q q)
noncomputable def gN(i:Nat):D->U7->wl:=λd Z=>if i<Z.length then O (Z.set i (O (.pub d)))else v4
theorem WP  (h:PG X e (OB i)):PG X e (tG X.K B G0 (gN i)):=pgof h λv σ H Q ⟨G,Z,d,Z',k,r,e,q⟩=>by
 unfold gN at e;split at e
 .rename_i hi
  cases e;exact q _ G H (k.setPub r hi) (.refl _)
 simp_all
noncomputable def gN0:wb->U7->wl:=λd Z=>match d with | []=>O Z|_=>v4
noncomputable def gNC(s:D->U7->wl)(t:wb->U7->wl):wb->U7->wl:=λds Z=>match ds with|d::r=>(s d Z).bind (t r) | []=>v4
theorem Pv:PGs X [] (tGs X.K B G0 gN0):=Mf BX λv σ H Q ⟨G,Z,d,Z',k,r,e,q⟩=>by
 cases r with
 |nil=>cases e;exact⟨rfl,q σ G H k (.refl _)⟩
 |cons _ _=>cases e
theorem Va   (h1:PG X e (tG X.K B G0 s))(h2:PGs X es (tGs X.K B G0 t))
  (hs:(UX (e::es) X.env).map (·.2)=assign e X.env::(UX es X.env).map (·.2):=by rfl):PGs X (e::es) (tGs X.K B G0 (gNC s t)):=Mf (A6 h1 h2 hs) λv σ H Q ⟨G,Z,d,Z',k,r,e,q⟩=>by
 cases r with
 |nil=>cases e
 |@cons w dw ws dws rw rt=>
  unfold gNC at e;dsimp only at e;cases z:s dw Z with
  |none=>simp_all
  |some Z1=>rw[z]at e;refine⟨w,ws,rfl,G,Z,dw,Z1,k,rw,z,λσ' G' H' k' s'=>?_⟩;exact⟨G',Z1,dws,Z',k',rt.mono s',e,λσ2 G2 H2 k2 s2=>q σ2 G2 H2 k2 (s'.trans s2)⟩
noncomputable def gT(n:Nat)(t:wb->U7->wl):D->U7->wl:=λd Z=>match d with | .tuple ds=>if ds.length=n then t ds Z else v4|_=>v4
theorem Pu{k1}{t}{n}(hc:X.calm=v5)(h:PGs X es (tGs X.K B G0 t))
  (hn:(UX es X.env).length=n:=by rfl) (hst:(UX es X.env).findIdx? (·.1)=v4:=by rfl):PG X (.Tuple es k1 pos) (tG X.K B G0 (gT n t)):=pgof (Cr hc h hn hst) λv σ H Q ⟨G,Z,d,Z',k,r,e,q⟩=>by
 unfold gT at e;split at e
 .split at e
  .rename_i hl
   obtain⟨ad,vs,rfl,h1,r1⟩:=r.tup_inv;exact⟨ad,vs,rfl,Xd k.gh h1,by rw[r1.length];exact hl,G,Z,_,Z',k,r1,e,q⟩
  simp_all
 simp_all
noncomputable def Zs(f:M D)(s:D->U7->wl):SM:=sB f λd Z=>match s d Z with|some Z'=>.nx Z'|none=>.bad
theorem E4  {f}{s}(he:PE X e (tD X.K B G0 f))(hg:PG X tg (tG X.K B G0 s))(hs:swapsWithSole [tg] e pos.line X.env=pure wa:=by rfl)(hw:swappedStores [tg] e X.env=pure v4:=by rfl)
  (h1:(UX [tg] X.env).map (·.2)=[assign tg X.env]:=by rfl):PS X (.Assign [tg] e pos) (tS X.K B G0 KX (Zs f s)):=
 ZU (Cq he hg hs hw h1) λD σ H q=>tS.bnd  q λv H' G' Z' x k r a=>by
  cases z:s x Z' with
  |none=>rw[z]at a;exact a.elim
  |some Z2=>rw[z]at a;exact⟨G',Z',x,Z2,k,r,z,λσ2 G2 H2 k2 s2=>a σ2 G2 H2 k2 s2⟩
noncomputable def Ki(i:Nat)(f:M D):SM:=Zs f (gN i)
theorem E3     (hN:X.N.Nodup)(hi:X.N[i]?=O x)(hx:Loc X.env.scope x)(he:PE X e (tD X.K B G0 f))(hs:swapsWith e (O (.Name x p2)) pos.line X.env=pure wa:=by rfl)
  (hf:X.fn x=v5∨X.env.scope.names.lookup x=O .local:=by first|exact .inl rfl|exact .inr rfl|assumption):PS X (.Assign [.Name x p2] e pos) (tS X.K B G0 KX (Ki i f)):=
 ZU (MX hN hi hx he hs hf) λD σ H q=>tS.bnd  q λv H' G' Z' x k r a=>by
  unfold gN at a;split at a
  .rename_i Z2 hz
   split at hz
   .rename_i hi2
    cases hz;exact a _ G' H' (k.setPub r hi2) (.refl _)
   simp_all
  .exact a.elim
noncomputable def tL(K:Frag)(B G0:Hp)(f:M wb):TE:=λσ H Q=>∃G Z,EOk K B G0 G H σ Z/\match f Z with
 |.ok ds Z'=>∀a vs G' H',EOk K B G0 G' H' σ Z'->Same G G'->NewL K B G' H' σ Z' a vs ds->Q (.ref a) H'
 |.bad=>False
noncomputable def Zk(i:Nat)(f:M wb):SM:=sB f λds Z=>if i<Z.length then .nx (Z.set i (O (.own ds)))else .bad
theorem Hd     (hN:X.N.Nodup)(hi:X.N[i]?=O x)(hx:Loc X.env.scope x)(he:PE X e (tL X.K B G0 f))(hs:swapsWith e (O (.Name x p2)) pos.line X.env=pure wa:=by rfl)
  (hf:X.fn x=v5∨X.env.scope.names.lookup x=O .local:=by first|exact .inl rfl|exact .inr rfl|assumption):PS X (.Assign [.Name x p2] e pos) (tS X.K B G0 KX (Zk i f)):=
 ZU (MX hN hi hx he hs hf) λD σ H ⟨G,Z,k,a⟩=>by
  refine⟨G,Z,k,?_⟩;unfold Zk sB at a;cases z:f Z with
  |bad=>rw[z]at a;exact a.elim
  |ok ds Z1=>
   rw[z]at a;intro ad vs G' H' k' s' n;dsimp only at a;split at a
   .rename_i hl
    exact a _ G' H' (k'.setOwn n hl) s'
   .exact a.elim
theorem NewL.of{K}{G H}{σ}{Z}{p}{vs}{ds}(k:EOk K B G0 G H σ Z)(hp:H p=v4)(r:Reps K G vs ds):NewL K B G (upd H p (.lst vs)) σ Z p vs ds where
 b:=k.bh.free hp
 g:=k.gh.free hp
 h:=Yd
 r:=r
 f:=λj es q z=>by
  obtain⟨a,ws,h1,h2,h3,h4,h5⟩:=k.own j es q
  lia
 dp:=λj pt d v fp q s rr=>k.freshD (Yi hp) hp q s rr
theorem Hc  (h:PA X es (tDs X.K B G0 f)):PE X (.List es pos) (tL X.K B G0 (Kp f λxs=>if xs.length<=1000000 then U3 xs else λ_=>.bad)):=
 KM (MU h) λσ H Q ⟨G,Z,k,a⟩=>by
  refine⟨G,Z,k,?_⟩;unfold Kp at a;cases z:f Z with
  |bad=>simp_all
  |ok ds Z1=>
   rw[z]at a;dsimp only at a;intro v G' H' k' s' r;by_cases c:ds.length<=1000000
   .rw[Qq c]at a
    refine⟨by rw[r.length];exact QE c lim,λp hp=>?_⟩;exact a p v G' _ (k'.ext (Ext.hid k'.gh hp)) s' (NewL.of k' hp r)
   simp_all
noncomputable def Zy(i:Nat)(f:M D):SM:=λZ0=>match Z0[i]? with
 |some (O (.own _))=>sB f (λd Z=>match Z[i]? with
  |some (O (.own ds))=>if ds.length<1000000 then .nx (Z.set i (O (.own (ds++[d]))))else .bad
  |_=>.bad) Z0
 |_=>.bad
theorem MM  {f:M D}{o:UF}{apos cpos:Pos}(ho:PE X o (Ye i))(he:PE X e (tD X.K B G0 f))
  (hbase:attributeBase o "append" X.env (eval o X.env)=eval o X.env:=by rfl)
  (hfew:((backTo cpos (UI [e] X.env)).all (λx=>!x.1)&&(backToKw cpos (keywordEach [] X.env)).all (λx=>x.1.isSome)
   && decide ([e].length+([]:List Keyword).length+(if([]:List Keyword).isEmpty then 0 else 1)<30))=v5:=by rfl)
  (hline:(apos.endLine==cpos.line)=v5:=by rfl) (hs:UI [e] X.env=[(wa,eval e X.env)]:=by rfl)
  (hsw:swapsWith (.Call (.Attribute o "append" apos) [e] [] cpos) v4 pos.line X.env=pure wa:=by rfl) :
  PS X (.Expr (.Call (.Attribute o "append" apos) [e] [] cpos) pos) (tS X.K B G0 KX (Zy i f)):=
 ZU (Nh (Pl PySem.F.plainAttrs_list PySem.F.slot_list_append PySem.F.type_list_append GT ho (WQ he V9 (by rw[hs];rfl)) hbase hfew hline (by rw[hs];rfl) v3) hsw) λD σ H ⟨G,Z,k,a⟩=>by
  unfold Zy at a;cases q0:Z[i]? with
  |none=>rw[q0]at a;exact a.elim
  |some o0=>
   cases o0 with
   |none=>rw[q0]at a;exact a.elim
   |some sl0=>
    cases sl0 with
    |deep _ _=>rw[q0]at a;exact a.elim
    |pub d=>rw[q0]at a;exact a.elim
    |own wR=>
     rw[q0]at a;obtain⟨ad,vs0,h1,h2,h3,h4,h5⟩:=k.own i wR q0;refine⟨.ref ad,h1,.inl ⟨rfl,_,SqL.of h4⟩,G,Z,k,?_⟩;unfold sB at a;cases z:f Z with
     |bad=>rw[z]at a;exact a.elim
     |ok d Z1=>
      rw[z]at a;dsimp only at a;intro v G' H' k' s' r';cases q:Z1[i]? with
      |none=>rw[q]at a;exact a.elim
      |some o=>
       cases o with
       |none=>rw[q]at a;exact a.elim
       |some sl=>
        cases sl with
        |deep _ _=>rw[q]at a;exact a.elim
        |pub d=>rw[q]at a;exact a.elim
        |own ds=>
         rw[q]at a;dsimp only at a;split at a
         .rename_i hl
          obtain⟨ad',vs,g1,g2,g3,g4,g5⟩:=k'.own i ds q;rw[h1]at g1;cases g1;refine⟨ad,vs,v,rfl,rfl,g4,by rw[g5.length];exact QH hl lim,?_⟩;exact a σ G' _ (k'.change q h1 (g5.append (.cons r' .nil))) s'
         .exact a.elim
end
structure X7(K:Frag)(J:It)(ds:wb)(G1:Hp):Prop where
 go:∀i G H,Same G1 G->Same G H->i<ds.length->J.go i H
 stop:∀i G H,Same G1 G->Same G H->ds.length<=i->J.stop i H
 yld:∀i G H x H' d,Same G1 G->Same G H->ds[i]?=O d->J.yld i H x H'->∃G',Ext G H G' H'/\Rep K G' x d
noncomputable def iD(K:Frag)(B G0:Hp)(f:M wb):TI:=λσ H R=>∃G Z,EOk K B G0 G H σ Z/\match f Z with
 |.ok ds Z'=>∀J G' H',EOk K B G0 G' H' σ Z'->Same G G'->X7 K J ds G'->R J H'
 |.bad=>False
section
variable{X:Cx}{B G0:Hp}{KX:XW}{e a b c tg:UF}{pos:Pos}{es rest:wf}{st:Stmt}{sts sts2:List Stmt}
theorem XS  (h:PI X tg e t)(i:∀σ H R,t' σ H R->t σ H R):PI X tg e t':=λpins s σ H R I q=>h pins s σ H R I (i σ H R q)
theorem tM.toI{K}{α γ}{R0}{f:M α}{g}{σ}{H}{R}{P:γ->Hp->Prop}(q:iD K B G0 (Kp f g) σ H R)
  (i:∀v H' G' Z' x,EOk K B G0 G' H' σ Z'->R0 G' v x->(match g x Z' with
   |.ok ds Z2=>∀J G2 H2,EOk K B G0 G2 H2 σ Z2->Same G' G2->X7 K J ds G2->R J H2
   |.bad=>False)->P v H'):tM K B G0 R0 f σ H P:=by
 obtain⟨G,Z,k,a⟩:=q;refine⟨G,Z,k,?_⟩;unfold Kp at a;cases z:f Z with
 |bad=>rw[z]at a;exact a.elim
 |ok d Z1=>
  rw[z]at a;intro v G' H' e s r;refine i v H' G' Z1 d e r ?_;dsimp only at a;cases z2:g d Z1 with
  |bad=>rw[z2]at a;exact a.elim
  |ok ds Z2=>rw[z2]at a;exact λJ G2 H2 k2 s2 it=>a J G2 H2 k2 (s.trans s2) it
theorem xq{K}{G1}{ad}{vs}{ds}(h:SqL K G1 ad vs)(r:Reps K G1 vs ds):X7 K (Itl K ad) ds G1 where
 go:=λi G H s1 s2 hi=>by
  have hi':i<vs.length:=by rw[r.length];simp_all
  exact⟨vs,vs[i],(s1.trans s2).seq h,Qd hi'⟩
 stop:=λi G H s1 s2 hi=>⟨vs,(s1.trans s2).seq h,by rw[r.length];simp_all⟩
 yld:=λi G H x H' d s1 s2 e y=>by obtain⟨rfl,y⟩:=y;obtain⟨v,e1,r1⟩:=r.get e;have:=y vs ((s1.trans s2).seq h);rw[e1]at this;cases this;exact⟨G,.refl s2,r1.mono s1⟩
noncomputable def Z8(lo hi:Int):wb:=(UK (hi-lo).toNat).map λ(k:Nat)=>.int (lo+k)
theorem XG(lo hi):(Z8 lo hi).length=(hi-lo).toNat:=by unfold Z8;simp_all
theorem FN{K}{G1}(lo hi):X7 K (Itr lo (hi-lo).toNat) (Z8 lo hi) G1 where
 go:=λi G H s1 s2 h=>by rw[XG]at h;exact h
 stop:=λi G H s1 s2 h=>by rw[XG]at h;exact h
 yld:=λi G H x H' d s1 s2 e y=>by
  obtain⟨rfl,rfl⟩:=y;unfold Z8 at e;rw[Qf]at e;have hi:i<(UK (hi-lo).toNat).length:=by refine Nat.lt_of_not_le λz=>?_;rw[Q0 z]at e;cases e
  rw[Qd hi,List.getElem_range]at e;cases e;exact⟨G,.refl s2,.int _⟩
noncomputable def RC:wb->Option wb
 |[.int j]=>if j<=1000000 /\ -1000000<=j then O (Z8 0 j)else v4
 |_=>v4
noncomputable def RB:wb->Option wb
 |[.int i,.int j]=>if j<=1000000 /\ -1000000<=j/\i<=1000000 /\ -1000000<=i then O (Z8 i j)else v4
 |_=>v4
noncomputable def Xv(f:M wb):M wb:=Kp f λx=>Kq (RC x)
noncomputable def Ph(f:M wb):M wb:=Kp f λx=>Kq (RB x)
theorem kX   (hg:Gl X "range")(hm:X.mg "range" = v4)(ha:PA X [a] (tDs X.K B G0 f))(hs:UI [a] X.env=[(wa,eval a X.env)]:=by rfl) :
  PI X tg (.Call (.Name "range" p2) [a] [] pos) (iD X.K B G0 (Xv f)):=XS (kU hg hm ha hs) λσ H R q=>tM.toI  q λv H' G' Z' x k r a=>by
 cases z:RC x with
 |none=>rw[z]at a;exact a.elim
 |some ds=>
  rw[z]at a;unfold RC at z;split at z
  .split at z
   .rename_i j c
    cases z;obtain⟨w,rfl,r'⟩:=r.one_inv;refine⟨j,by rw[r'.int_inv],by lia,by lia,?_⟩;have it:=FN (K:=X.K) (G1:=G') 0 j;rw[Int.sub_zero]at it;exact a _ G' H' k (.refl _) it
   simp_all
  simp_all
theorem kW  {p2}(hg:Gl X "range")(hm:X.mg "range" = v4)(ha:PA X [a,b] (tDs X.K B G0 f))(hs:UI [a,b] X.env=[(wa,eval a X.env),(wa,eval b X.env)]:=by rfl)(hs2:UI [b] X.env=[(wa,eval b X.env)]:=by rfl) :
  PI X tg (.Call (.Name "range" p2) [a,b] [] pos) (iD X.K B G0 (Ph f)):=XS (kT hg hm ha hs hs2) λσ H R q=>tM.toI  q λv H' G' Z' x k r a=>by
 cases z:RB x with
 |none=>rw[z]at a;exact a.elim
 |some ds=>
  rw[z]at a;unfold RB at z;split at z
  .split at z
   .rename_i i j c
    cases z;obtain⟨w,w',rfl,r1,r2⟩:=r.two_inv;refine⟨i,j,by rw[r1.int_inv,r2.int_inv],⟨by lia,by lia,by lia,by lia⟩,?_⟩;exact a _ G' H' k (.refl _) (FN i j)
   simp_all
  simp_all
noncomputable def Yz(n:Nat):wb->wb
 |[]=>[]
 |d::r=>.tuple [.int n,d]::Yz (n+1) r
theorem Y1:∀(n)(ds),(Yz n ds).length=ds.length
 |_,[]=>rfl
 |n,d::r=>by rw[Yz,Qv,Qv,Y1]
theorem NQ:∀(n)(ds)(i:Nat),(Yz n ds)[i]?=ds[i]?.map λd=>.tuple [.int ((n+i:Nat):Int),d]
 |_,[],i=>by simp[Yz]
 |n,d::r,0=>by simp[Yz]
 |n,d::r,i+1=>by
  rw[Yz,JZ,JZ,NQ _ r i];have:n+1+i=n+(i+1):=by lia
  rw[this]
theorem xp{K}{G1}{ad}{vs}{ds}(h:SqL K G1 ad vs)(r:Reps K G1 vs ds):X7 K (Ite K ad) (Yz 0 ds) G1 where
 go:=λi G H s1 s2 hi=>by
  rw[Y1]at hi;have hi':i<vs.length:=by rw[r.length];exact hi
  exact⟨vs,vs[i],(s1.trans s2).seq h,Qd hi'⟩
 stop:=λi G H s1 s2 hi=>by rw[Y1]at hi;exact⟨vs,(s1.trans s2).seq h,by rw[r.length];exact hi⟩
 yld:=λi G H x H' d s1 s2 e y=>by
  obtain⟨p,v,hp,rfl,y,rfl⟩:=y;rw[NQ]at e;cases z:ds[i]? with
  |none=>rw[z]at e;cases e
  |some d0=>rw[z]at e;cases e;obtain⟨w,e1,r1⟩:=r.get z;have:=y vs ((s1.trans s2).seq h);rw[e1]at this;cases this;refine⟨upd G p _,Ext.new s2 hp,.tup (SqT.of Yd) (.cons ?_ (.cons ((r1.mono s1).mono (Yi (s2.free hp))) .nil))⟩;rw[QS];exact .int _
noncomputable def RA:wb->Option wb
 |[.list ds]=>O (Yz 0 ds)
 |_=>v4
noncomputable def XI(f:M wb):M wb:=Kp f λx=>Kq (RA x)
theorem Hb   {elts}{x1}{tp}(hg:Gl X "enumerate")(hm:X.mg "enumerate" = v4)(ha:PA X [a] (tDs X.K B G0 f))(hs:UI [a] X.env=[(wa,eval a X.env)]:=by rfl) :
  PI X (.Tuple elts x1 tp) (.Call (.Name "enumerate" p2) [a] [] pos) (iD X.K B G0 (XI f)):=XS (BM hg hm ha hs) λσ H R q=>tM.toI  q λv H' G' Z' x k r a=>by
 cases z:RA x with
 |none=>rw[z]at a;exact a.elim
 |some ds=>
  unfold RA at z;split at z
  .obtain⟨w,rfl,r'⟩:=r.one_inv
   obtain⟨ad,vs,rfl,h1,r1⟩:=r'.lst_inv;exact⟨ad,vs,rfl,k.gh.seq h1,a _ G' H' k (.refl _) (xp h1 r1)⟩
  simp_all
noncomputable def Tn(s:D->U7->wl)(g:SM):wb->SM
 |[],Z=>.nx Z
 |d::r,Z=>match s d Z with
  |none=>.bad
  |some Z1=>match g Z1 with
   |.nx Z2=>Tn s g r Z2
   |.ct Z2=>Tn s g r Z2
   |.bk Z2=>.nx Z2
   |.rt d=>.rt d
   |.ro ds=>.ro ds
   |.ex Z2 d=>.ex Z2 d
   |.bad=>.bad
noncomputable def KQ(f:M wb)(s:D->U7->wl)(g:SM):SM:=sB f λds=>Tn s g ds
theorem OL{iter:UF}{body:List Stmt}{f:M wb}{s}{g:SM}(hp:PassesOwn (model X.prog X.w) X.A X.env X.xe)(hc:X.calm=v5)(hi:PI X tg iter (iD X.K B G0 f))(hg:PG X tg (tG X.K B G0 s))(hb:PSs X body (tS X.K B G0 KX g))
  (hs:∀x,UY iter X.env x=pure x:=by intro _;rfl):PS X (.For tg iter body [] pos) (tS X.K B G0 KX (KQ f s g)):=
 ZU (Cn hp hc hi hg hb hs) λDn σ H ⟨G,Z,k,a⟩=>by
  refine⟨G,Z,k,?_⟩;unfold KQ sB at a;cases z:f Z with
  |bad=>rw[z]at a;exact a.elim
  |ok ds Z1=>
   rw[z]at a;intro J G1 H1 k1 s1 it;refine⟨λi m σ' H'=>m=ds.length-i/\∃G' Z',EOk X.K B G0 G' H' σ' Z'/\Same G1 G'/\aftS X.K B G0 KX (Tn s g (ds.drop i) Z') G' Dn,⟨ds.length,by lia,G1,Z1,k1,.refl _,by rw[List.drop_zero];exact aftS.mono s1 a⟩,?_⟩;rintro i m σ' H' ⟨rfl,G',Z',k',s',a'⟩;by_cases hi:i<ds.length
   .right
    refine⟨it.go i G' H' s' k'.gh hi,λσ2 H2=>∃G2 Z2,EOk X.K B G0 G2 H2 σ2 Z2/\Same G1 G2/\aftS X.K B G0 KX _ G2 Dn,λσ2 H2 h2=>⟨ds.length-(i+1),by lia,rfl,h2⟩,λx H2 y=>?_⟩;obtain⟨G2,ex,rx⟩:=it.yld i G' H' x H2 ds[i] s' k'.gh (Qd hi) y;rw[Je hi,Tn]at a';cases z2:s ds[i] Z' with
    |none=>rw[z2]at a';exact a'.elim
    |some Z2=>
     rw[z2]at a';dsimp only at a';refine⟨G2,Z',ds[i],Z2,k'.ext ex,rx,z2,λσ3 G3 H3 k3 s3=>⟨G3,Z2,k3,?_⟩⟩;have s13:Same G1 G3:=(s'.trans ex.g).trans s3;cases z3:g Z2 with
     |nx Z3=>rw[z3]at a';exact λσ4 G4 H4 k4 s4=>⟨G4,Z3,k4,s13.trans s4,aftS.mono ((ex.g.trans s3).trans s4) a'⟩
     |ct Z3=>rw[z3]at a';exact λσ4 G4 H4 k4 s4=>⟨G4,Z3,k4,s13.trans s4,aftS.mono ((ex.g.trans s3).trans s4) a'⟩
     |bk Z3=>rw[z3]at a';exact λσ4 G4 H4 k4 s4=>a' σ4 G4 H4 k4 ((ex.g.trans s3).trans s4)
     |rt d=>rw[z3]at a';exact a'
     |ro ds=>rw[z3]at a';exact a'
     |ex Z3 d=>rw[z3]at a';exact λv σ4 G4 H4 k4 s4 r4=>a' v σ4 G4 H4 k4 ((ex.g.trans s3).trans s4) r4
     |bad=>rw[z3]at a';exact a'.elim
   .left
    rw[J7 (by lia)]at a';exact⟨it.stop i G' H' s' k'.gh (by lia),a' σ' G' H' k' (.refl _)⟩
theorem qq    {ps}{F}{g}{x:Str}{p2:Pos}{n:Nat}(FK:FnOk X.prog X.w X.K X.mg X.base CX0 k f fd ps (spD X.K n F))(hr:Room k X.A)(hg:Gl X x)(hm:X.mg x=O (.ref f))(hk:PySem.W.keepIn X.K (.ref f)=v5)
  (hb:WW X.K fd ps []) (ha:PA X (e::es) (tDs X.K B G0 g)) (hn:(e::es).length=n) (hdb:(x==("__debug__" : Str))=wa:=by decide) (he:UI (e::es) X.env=(wa,eval e X.env)::UI es X.env:=by rfl) (hpl:(backTo pos (UI es X.env)).any (·.1)=wa:=by rfl) :
  PE X (.Call (.Name x p2) (e::es) [] pos) (tD X.K B G0 (Kp g λxs=>if xs.length=n then Kq (F xs)else λ_=>.bad)):=
 KM (BV FK hr hg hm hk hb .nil F1 ha hdb he hpl) λσ H Q q=>tM.one  q λv H2 G Z ds k r a=>by
  split at a
  .rename_i hl
   obtain⟨d,e,a⟩:=a.opt;exact⟨G,ds,d,by rw[Jc,r.length];exact hl,k.gh,by rw[Jc];exact r,e,λw G' H' ex rw=>a.done k ex rw⟩
  .exact a.elim
end
noncomputable def X9(N:List Str)(ds:wb):U7:=(ds.map λd=>O (Sl.pub d))++UL (N.length-ds.length) v4
theorem qp{K}{N:List Str}{G H:Hp}{vs:List V}{ds:wb}(s:Same G H)(r:Reps K G vs ds):EOk K H G G H (L2.Wg N vs) (X9 N ds) where
 bh:=.refl _
 gh:=s
 g0:=.refl _
 np:=λ_ _ _ n=>n
 len:=by unfold L2.Wg X9;rw[Qj,Qj,Qb,Qb,QR,QR,r.length]
 pub:=λi d q=>by
  unfold X9 at q;unfold L2.Wg;by_cases hi:i<ds.length
  .rw[Qu (by rw[Qb];exact hi),Qf]at q
   cases z:ds[i]? with
   |none=>rw[z]at q;cases q
   |some d'=>rw[z]at q;cases q;obtain⟨v,e1,r1⟩:=r.get z;refine⟨v,?_,r1⟩;rw[Qu (by rw[Qb,r.length];exact hi),Qf,e1];rfl
  .rw[Qw (by rw[Qb];lia),Qy]at q
   split at q<;>cases q
 own:=λi es q=>by
  unfold X9 at q;by_cases hi:i<ds.length
  .rw[Qu (by rw[Qb];exact hi),Qf]at q
   cases z:ds[i]? with
   |none=>rw[z]at q;cases q
   |some d'=>rw[z]at q;cases q
  .rw[Qw (by rw[Qb];lia),Qy]at q
   split at q<;>cases q
 sep:=λi j a es fs q _ _ _=>by
  unfold X9 at q;by_cases hi:i<ds.length
  .rw[Qu (by rw[Qb];exact hi),Qf]at q
   cases z:ds[i]? with
   |none=>rw[z]at q;cases q
   |some d'=>rw[z]at q;cases q
  .rw[Qw (by rw[Qb];lia),Qy]at q
   split at q<;>cases q
 dp:=by
  have key:∀{i:Nat}{s:Sl},(X9 N ds)[i]?=O (O s)->∃d,s=.pub d:=λ{i s} q=>by
   unfold X9 at q;by_cases hi:i<ds.length
   .rw[Qu (by rw[Qb];exact hi),Qf]at q
    cases z:ds[i]? with
    |none=>rw[z]at q;cases q
    |some d'=>rw[z]at q;cases q;exact⟨_,rfl⟩
   .rw[Qw (by rw[Qb];lia),Qy]at q
    split at q<;>cases q
  exact .of (λi p d q=>by obtain⟨_,e⟩:=key q;cases e) λi ds q=>by obtain⟨_,e⟩:=key q;cases e
noncomputable def Kl(N:List Str)(g:SM)(ds:wb):wd:=match g (X9 N ds)with
 |.rt d=>O d
 |.nx _=>O .none
 |_=>v4
theorem okD   {K}{mg}{base:Heap}{x qual:Str}{st:Stmt}{f:UD}{fd:UE}{N ps}{k n:Nat}{g:SM}(F:Fun K x qual st f fd)(S:RP N ps (ZT st))(hn:ps.length=n)
  (der:∀(cdv:UA)(A:Around)(outer)(s:UB)(H:Hp)(E:XK)(B G0:Hp),Room k (A.deeper (envOfC qual (ZT st) s.heap.objs.size f cdv)) ->
   PSs (Y7 CX0 P w K mg base N qual (ZT st) f cdv A outer s H E).nox (XF st) (tS K B G0 KX0 g)):FnOk P w K mg base CX0 (k+1) f fd ps (spD K n (Kl N g)):=by
 refine F.ok S (λvs H Q E h=>?_) (λcdv A outer s H vs Q E hr h=>?_)
 .obtain⟨_,_,_,hl,_⟩:=h
  rw[hl,hn]
 .obtain⟨G,ds,d,hl,sg,r,hF,q⟩:=h
  refine⟨_,der cdv A outer s H E H G hr,G,X9 N ds,qp sg r,?_⟩;unfold Kl at hF;cases z:g _ with
  |rt d'=>rw[z]at hF;cases hF;exact λv G' H' ex rr=>q v G' H' ex rr
  |nx Z=>rw[z]at hF;cases hF;exact λσ' G' H' k' _=>q .non G' H' k'.exit .non
  |ro ds=>rw[z]at hF;cases hF
  |bk Z=>rw[z]at hF;cases hF
  |ct Z=>rw[z]at hF;cases hF
  |ex Z d=>rw[z]at hF;cases hF
  |bad=>rw[z]at hF;cases hF
section
variable{X:Cx}{B G0:Hp}{e a b c tg:UF}{pos:Pos}{es rest:wf}
noncomputable def oNeg:D->wd
 |.int i=>O (.int (-i))
 |_=>v4
noncomputable def Yg(f:M D):M D:=Kp f λx=>Kq (oNeg x)
theorem LN  (h:PE X a (tD X.K B G0 f)):PE X (.UnaryOp .USub a pos) (tD X.K B G0 (Yg f)):=
 KM (Ea Cf h) λσ H Q q=>tM.one  q λv H2 G Z x k r a=>by
  cases x with
  |int i=>exact⟨i,r.int_inv,aft.now a k (.int _)⟩
  |_=>exact a.elim
end
def Def(P:UC)(w:World)(K:Frag)(mg:Str->wj)(base:Heap)(x:Str)(k n:Nat)(F:wb->wd):Prop:=
 ∃(f:UD)(fd:UE)(ps:List Str),mg x=O (.ref f)/\PySem.W.keepIn K (.ref f)=v5/\WW K fd ps []/\FnOk P w K mg base CX0 k f fd ps (spD K n F)
noncomputable def Kd(n:Nat)(F:wb->wd)(g:M wb):M D:=Kp g λxs=>if xs.length=n then Kq (F xs)else λ_=>.bad
section
variable{X:Cx}{B G0:Hp}{e:UF}{pos:Pos}{es:wf}
theorem CP    {x}{p2}(d:Def X.prog X.w X.K X.mg X.base x k n F)(hr:Room k X.A)(hg:Gl X x)(ha:PA X (e::es) (tDs X.K B G0 g))(hn:(e::es).length=n:=by rfl)
  (hdb:(x==("__debug__" : Str))=wa:=by decide) (he:UI (e::es) X.env=(wa,eval e X.env)::UI es X.env:=by rfl) (hpl:(backTo pos (UI es X.env)).any (·.1)=wa:=by rfl) :
  PE X (.Call (.Name x p2) (e::es) [] pos) (tD X.K B G0 (Kd n F g)):=by
 obtain⟨f,fd,ps,h1,h2,h3,h4⟩:=d;exact qq h4 hr hg h1 h2 h3 ha hn hdb he hpl
end
theorem Def.mk   {K}{mg}{base}{x}{k n}{F}{st}{f}{fd}{ps}(hm:mg x=O (.ref f))(FU:Fun K x x st f fd)(hb:WW K fd ps [])(ok:FnOk P w K mg base CX0 k f fd ps (spD K n F)) :
  Def P w K mg base x k n F:=⟨f,fd,ps,hm,FU.kp,hb,ok⟩
theorem E1{K}{H}{a}{ns:wc}{F}{E}(hS:SqL K H a (ns.map V.int))(h:F [.list (ns.map int)]=O (.bool v5)):spD K 1 F [.ref a] H (λv _=>v=.bl v5) E:=
 ⟨H,[.list _],.bool v5,rfl,.refl _,.cons (.lst hS (Reps.ints ns)) .nil,h,λ_ _ _ _ r=>r.bl_inv⟩
end DL
namespace L2
open PySem PySem.Spec PyProof.Rows
theorem mem_of_lookup   : ∀{l:List (Str×NameKind)},l.lookup x=O k->(x,k)∈l
 |[],h=>by cases h
 |(y,j)::r,h=>by
  rw[QX]at h;split at h
  .simp_all
  .exact Qk _ (mem_of_lookup h)
theorem N7{env:Env}:∀(l:List (Str×NameKind))(acc:List (Str×UD)),(∀y∈l,y.2=.free->∃c,env.cells.lookup y.1=O c) ->
  ∃cl,(forIn l acc (λx r=>if(x.2==NameKind.free)=v5 then(do let a ←cellOf env x.1;pure (ForInStep.yield ((x.1,a)::r)))else pure (ForInStep.yield r)):Sem (List (Str×UD)))=pure cl /\
   (∀x c,cl.lookup x=O c->acc.lookup x=O c∨env.cells.lookup x=O c)/\(∀y∈l,y.2=.free->∃c,cl.lookup y.1=O c)/\(∀x c,acc.lookup x=O c->∃c',cl.lookup x=O c')
 |[],acc,_=>⟨acc,rfl,λ_ _ h=>.inl h,λ_ h=>absurd h (by simp),λx c h=>⟨c,h⟩⟩
 |(n,k)::r,acc,h=>by
  by_cases hk:k=.free
  .subst hk
   obtain⟨c,hc⟩:=h (n,.free) Qo v3;obtain⟨cl,e,p1,p2,p3⟩:=N7 r ((n,c)::acc) λy hy=>h y (Qk _ hy)
   have hco:cellOf env n=pure c:=by unfold cellOf;rw[hc]
   have key:∀x c',((n,c)::acc).lookup x=O c'->acc.lookup x=O c'∨env.cells.lookup x=O c':=λx c' q=>by
    rw[QX]at q;split at q
    .rename_i e1
     cases q;have:x=n:=by simpa using e1
     subst this;exact .inr hc
    .exact .inl q
   have own:((n,c)::acc).lookup n=O c:=by simp
   refine⟨cl,?_,λx c' q=>?_,λy hy hf=>?_,λx c' q=>?_⟩
   .rw[List.forIn_cons]
    have:(if(((n,NameKind.free):Str×NameKind).2==NameKind.free)=v5 then(do let a ←cellOf env n;pure (ForInStep.yield ((n,a)::acc)))else pure (ForInStep.yield acc):Sem _)=pure (ForInStep.yield ((n,c)::acc)):=by rw[hco];rfl
    refine Eq.trans ?_ e;rw[this];rfl
   .rcases p1 x c' q with z|z
    .exact key x c' z
    .exact .inr z
   .rcases QQ.mp hy with z|z
    .subst z
     exact p3 n c own
    .exact p2 y z hf
   .by_cases hx:x=n
    .subst hx;exact p3 x c own
    .refine p3 x c' ?_
     have hb:(x==n)=wa:=by simpa using hx
     rw[QX,hb];exact q
  .obtain⟨cl,e,p1,p2,p3⟩:=N7 r acc λy hy=>h y (Qk _ hy)
   refine⟨cl,?_,p1,λy hy hf=>?_,p3⟩
   .rw[List.forIn_cons]
    have hb:(k==NameKind.free)=wa:=by cases k<;>first|rfl|exact absurd v3 hk
    refine Eq.trans ?_ e;dsimp only;rw[hb,QB (by decide)];rfl
   .rcases QQ.mp hy with z|z
    .subst z;exact absurd hf hk
    .exact p2 y z hf
theorem xo   (h:∀y∈scope.names,y.2=.free->∃c,env.cells.lookup y.1=O c) :
  ∃cl,closureFor scope env=pure cl/\(∀x c,cl.lookup x=O c->env.cells.lookup x=O c)/\∀y∈scope.names,y.2=.free->∃c,cl.lookup y.1=O c:=by
 obtain⟨cl,e,p1,p2,_⟩:=N7 scope.names [] h;refine⟨cl,?_,λx c q=>(p1 x c q).elim (λz=>by cases z) id,p2⟩;have e2:((forIn scope.names [] (λx r=>if(x.2==NameKind.free)=v5 then(do let a ←cellOf env x.1;pure (ForInStep.yield ((x.1,a)::r)))else pure (ForInStep.yield r)):Sem _) >>= λs=>pure s)=pure cl:=by rw[e];rfl
 exact e2
theorem FM{env:Env}{x}{k}:∀{names:List (Str×NameKind)},(names.map λ(n,k)=>if(k==NameKind.free&&env.scope.kind==.function&&env.kindOf n==O .cell)then(n,NameKind.cell)else(n,k)).lookup x=O k ->
  names.lookup x=O k∨(names.lookup x=O .free/\k=.cell)
 |[],h=>by cases h
 |(n,j)::r,h=>by
  have ih:=@FM env x k r;have h:List.lookup x ((if _=v5 then(n,NameKind.cell)else(n,j))::_)=O k:=h;cases hx:x==n with
  |true=>
   by_cases hc:(j==NameKind.free&&env.scope.kind==.function&&env.kindOf n==O .cell)=v5
   .rw[Qq hc]at h
    simp only[QX,hx]at h⊢;cases h;simp only[QI]at hc;have:j=.free:=by have:=hc.1.1;cases j<;>first|rfl|cases this
    subst this;exact .inr ⟨rfl,rfl⟩
   .rw[QB hc]at h
    simp only[QX,hx]at h⊢;exact .inl h
  |false=>
   by_cases hc:(j==NameKind.free&&env.scope.kind==.function&&env.kindOf n==O .cell)=v5
   .rw[Qq hc]at h
    simp only[QX,hx]at h⊢;exact ih h
   .rw[QB hc]at h
    simp only[QX,hx]at h⊢;exact ih h
theorem N9{env:Env}{x}:∀{names:List (Str×NameKind)},names.lookup x=O .free ->
  (names.map λ(n,k)=>if(k==NameKind.free&&env.scope.kind==.function&&env.kindOf n==O .cell)then(n,NameKind.cell)else(n,k)).lookup x=O .free ∨
  (names.map λ(n,k)=>if(k==NameKind.free&&env.scope.kind==.function&&env.kindOf n==O .cell)then(n,NameKind.cell)else(n,k)).lookup x=O .cell
 |[],h=>by cases h
 |(n,j)::r,h=>by
  have ih:=@N9 env x r;show List.lookup x ((if _=v5 then(n,NameKind.cell)else(n,j))::_)=_∨List.lookup x ((if _=v5 then(n,NameKind.cell)else(n,j))::_)=_;cases hx:x==n with
  |true=>
   simp only[QX,hx]at h;cases h;by_cases hc:(NameKind.free==NameKind.free&&env.scope.kind==.function&&env.kindOf n==O .cell)=v5
   .rw[if_pos hc];simp[List.lookup_cons,hx]
   .rw[if_neg hc];simp[List.lookup_cons,hx]
  |false=>
   simp only[QX,hx]at h;by_cases hc:(j==NameKind.free&&env.scope.kind==.function&&env.kindOf n==O .cell)=v5
   .rw[Qq hc];simp only[QX,hx];exact ih h
   .rw[QB hc];simp only[QX,hx];exact ih h
theorem Th{env:Env}{x}{k}(hk:k≠.free):∀{names:List (Str×NameKind)},names.lookup x=O k ->
  (names.map λ(n,k)=>if(k==NameKind.free&&env.scope.kind==.function&&env.kindOf n==O .cell)then(n,NameKind.cell)else(n,k)).lookup x=O k
 |[],h=>by cases h
 |(n,j)::r,h=>by
  have ih:=@Th env x k hk r;show List.lookup x ((if _=v5 then(n,NameKind.cell)else(n,j))::_)=_;cases hx:x==n with
  |true=>
   simp only[QX,hx]at h;cases h;have:(k==NameKind.free)=wa:=by cases k<;>first|rfl|exact absurd v3 hk
   rw[if_neg (by rw[this];simp)];simp[List.lookup_cons,hx]
  |false=>
   simp only[QX,hx]at h;by_cases hc:(j==NameKind.free&&env.scope.kind==.function&&env.kindOf n==O .cell)=v5
   .rw[Qq hc];simp only[QX,hx];exact ih h
   .rw[QB hc];simp only[QX,hx];exact ih h
structure ClOk(env:Env)(scope:Scope)(cl:List (Str×UD))(L:UD)(h':Heap):Prop where
 old:∀x c,cl.lookup x=O c->env.cells.lookup x=O c∨(L<c/\h'.IsCell c v4)
 fre:∀x,scope.names.lookup x=O .free->∃c,cl.lookup x=O c/\env.cells.lookup x=O c
 cel:∀x,scope.names.lookup x=O .cell->∃c,cl.lookup x=O c/\L<c
 inj:∀x y c,cl.lookup x=O c->cl.lookup y=O c->L<c->x=y
theorem R9:∀(names)(n)(acc),cellsFrom n names acc=cellsFrom n names []++acc
 |[],_,_=>rfl
 |(x,k)::r,n,acc=>by
  unfold cellsFrom;split
  .rw[R9 r _ _,R9 r _ [(x,n)],Q2];rfl
  .exact R9 r n acc
theorem Ma:∀(names)(n)(x)(c),(x,c)∈cellsFrom n names []->(x,NameKind.cell)∈names
 |[],_,_,_,h=>by cases h
 |(y,k)::r,n,x,c,h=>by
  unfold cellsFrom at h;split at h
  .rw[R9]at h
   rcases QW.mp h with h|h
   .exact Qk _ (Ma r _ x c h)
   grind
  .exact Qk _ (Ma r _ x c h)
theorem EZ{M:Model}{A:Around}{E}{scope:Scope}{env:Env}{yD:List (Str×UD)}{s:UB}{Q:Env->UB->Prop}(yC:∀x c,yD.lookup x=O c->env.cells.lookup x=O c)(cl2:∀y∈scope.names,y.2=.free->∃c,yD.lookup y.1=O c)(hn:∀y∈scope.names,scope.names.lookup y.1=O y.2)
  (hlt:∀x c,env.cells.lookup x=O c->c<s.heap.objs.size)
  (h:∀h' cl,h'.Ns s.heap.objs.size (λ_=>v4)->(∀b o,s.heap.get? b=O o->h'.get? b=O o)->ClOk env scope cl s.heap.objs.size h'->Q (newEnv scope s.heap.objs.size env.globals cl env.qual v4 .none (O env) builtinsNs) {s with heap:=h'}) :
  UH M A (newFunctionEnv scope env.globals yD [] env.qual v4 .none (O env)) Q E s:=by
 simp only[newFunctionEnv,Option.isSome_some,if_true];refine Qe (wpAny_alloc ?_);refine wpAny_bind (wpAny_layCells _ (λname kind cells=>by cases hkc:kind==NameKind.cell<;>simp[hkc]) _ _ _ _ ?_);have ok:=cellsFrom_ok scope.names (s.heap.push {cls:=.type "dict", data:=.dict #[]}) (s.heap.objs.size+1) [] ⟨λ_ _ hm=>(nomatch hm),List.Pairwise.nil⟩ (by rw[JM];exact Qp _);rw[JM]at ok;rw[JM ..];rw[List.forIn_nil];refine Qe (Qm (Qm (h _ _ ((Heap.Ns.new s.heap (.type "dict")).keeps (pushCells_keeps _ _)) (λb o e=>pushCells_keeps _ _ b o (Qi _ e)) ?_)));have look:∀x,(cellsFrom (s.heap.objs.size+1) scope.names yD).lookup x=((cellsFrom (s.heap.objs.size+1) scope.names []).lookup x).or (yD.lookup x):=λx=>by rw[R9,List.lookup_append]
 have own:∀x c,(cellsFrom (s.heap.objs.size+1) scope.names []).lookup x=O c->scope.names.lookup x=O .cell:=λx c e=>hn _ (Ma _ _ _ _ (Jh e))
 refine⟨λx c e=>?_,λx e=>?_,λx e=>?_,λx y c e1 e2 hc=>?_⟩
 .rw[look]at e
  cases z:(cellsFrom (s.heap.objs.size+1) scope.names []).lookup x with
  |none=>rw[z]at e;exact .inl (yC x c e)
  |some c'=>rw[z]at e;cases e;obtain⟨h1,h2⟩:=ok.empty x c (Jh z);exact .inr ⟨h2,h1⟩
 .obtain⟨c,hc⟩:=cl2 (x,.free) (mem_of_lookup e) v3
  refine⟨c,?_,yC x c hc⟩;rw[look];cases z:(cellsFrom (s.heap.objs.size+1) scope.names []).lookup x with
  |none=>exact hc
  |some c'=>have:=own x c' z;rw[e]at this;cases this
 .obtain⟨c,hc⟩:=Nz  e
  refine⟨c,by rw[look,hc];rfl,(ok.empty x c (Jh hc)).2⟩
 .rw[look]at e1 e2
  cases z1:(cellsFrom (s.heap.objs.size+1) scope.names []).lookup x with
  |none=>rw[z1]at e1;exact absurd (hlt x c (yC x c e1)) (Nat.lt_asymm hc)
  |some c1=>
  cases z2:(cellsFrom (s.heap.objs.size+1) scope.names []).lookup y with
  |none=>rw[z2]at e2;exact absurd (hlt y c (yC y c e2)) (Nat.lt_asymm hc)
  |some c2=>rw[z1]at e1;rw[z2]at e2;cases e1;cases e2;exact name_of_addr ok.apart (Jh z1) (Jh z2)
noncomputable def Cx.blk(X:Cx)(N':List Str)(scope:Scope)(cl:List (Str×UD))(C:UD)(s₀:UB)(H₀:Hp)(ex:wk):Cx:=
 {X with N:=N',s₀:=s₀,H₀:=H₀,env:=compEnvC scope cl C X.env,outer:=X.stack,ex:=ex,fn:=λx=>scope.names.lookup x==O .cell,xe:=λ_ _=>False}
section
variable{X:Cx}{N':List Str}{scope:Scope}{cl:List (Str×UD)}{C:UD}{s₀:UB}{H₀:Hp}{ex:wk}{x:Str}
noncomputable def visK:Option NameKind->Bool
 |some .local=>v5|some .free=>v5|some .cell=>v5|_=>wa
theorem CO(h:visK (scope.names.lookup x)=v5):Vis (X.blk N' scope cl C s₀ H₀ ex).env.scope x:=by
 cases z:scope.names.lookup x with
 |none=>rw[z]at h;cases h
 |some y=>
  rw[z]at h;cases y with
  | «local»=>exact .inl (Th (by decide) z)
  |cell=>exact .inr (.inl (Th (by decide) z))
  |free=>
   rcases N9  z with z|z
   .exact .inr (.inr z)
   .exact .inr (.inl z)
  |_=>cases h
noncomputable def locK:Option NameKind->Bool
 |some .local=>v5|some .cell=>v5|_=>wa
theorem Rk(h:locK (scope.names.lookup x)=v5):Loc (X.blk N' scope cl C s₀ H₀ ex).env.scope x/\((X.blk N' scope cl C s₀ H₀ ex).fn x=v5∨(X.blk N' scope cl C s₀ H₀ ex).env.scope.names.lookup x=O .local):=by
 cases z:scope.names.lookup x with
 |none=>rw[z]at h;cases h
 |some y=>
  rw[z]at h;cases y with
  | «local»=>exact⟨.inl (Th (by decide) z),.inr (Th (by decide) z)⟩
  |cell=>exact⟨.inr (Th (by decide) z),.inl (by show(scope.names.lookup x==O .cell)=v5;rw[z];rfl)⟩
  |_=>cases h
theorem EY(h:scope.names.lookup x=O .globalImplicit):Gl (X.blk N' scope cl C s₀ H₀ ex) x:=Th (by decide) h
end
noncomputable def RT(names:List (Str×NameKind))(N N2:List Str)(k:Nat):Bool:=
 N2.length==N.length+k&&(UK N2.length).all λi=>match N2[i]? with
  |none=>v5
  |some x=>match names.lookup x with
   |some .free=>N[i]?==O x
   |some .local=>decide (N.length<=i)&&decide (i<N.length+k)
   |some .cell=>decide (N.length<=i)&&decide (i<N.length+k)
   |_=>v5
theorem vK    (h:RT names N N2 k=v5) :
  N2.length=N.length+k/\∀(i) x,N2[i]?=O x->(names.lookup x=O .free->N[i]?=O x)/\(names.lookup x=O .local∨names.lookup x=O .cell->N.length<=i/\i<N.length+k):=by
 unfold RT at h;simp only[QI,beq_iff_eq,Jf,Q3]at h;refine⟨h.1,λi x e=>?_⟩;have hi:=(Qg.mp e).1;have:=h.2 i hi;rw[e]at this;refine⟨λq=>?_,λq=>?_⟩
 .simp_all
 .rcases q with q|q<;>(simp only[q]at this;simpa using this)
theorem Inv.enter{X:Cx}{pins:List (UD×Obj)}{σ:St}{H:Hp}{s3:UB}(I:Inv X pins σ H s3){scope:Scope}{cl:List (Str×UD)}{N2:List Str}{k:Nat}{h':Heap}{fp:wk}{t':Nat}{m0:Str->wj}
  (hb:RT scope.names X.N N2 k=v5) (hkind:scope.kind=.function)
  (hfree:∀y∈scope.names,y.2=.free->X.env.scope.names.lookup y.1=O .cell∨X.env.scope.names.lookup y.1=O .free)
  (hc:ClOk X.env scope cl s3.heap.objs.size h')
  (hn:h'.Ns s3.heap.objs.size m0) (hk:∀b o,s3.heap.get? b=O o->h'.get? b=O o) (hf:∀b∈fp,ZW X pins H b) (hfo:∀b∈fp,∃o,s3.heap.get? b=O o) :
  Inv (X.blk N2 scope cl s3.heap.objs.size s3 H fp) pins (σ++UL k v4) H {s3 with heap:=h',toks:=t'}:=by
 obtain⟨hl,hN⟩:=vK hb;have lt:∀b o,s3.heap.get? b=O o->b≠s3.heap.objs.size:=λb o e=>QY (Ql e);have ofl:∀x,scope.names.lookup x=O .free->(x,NameKind.free)∈scope.names:=λx h=>mem_of_lookup h;have kinv:∀x kk,(X.blk N2 scope cl s3.heap.objs.size s3 H fp).env.scope.names.lookup x=O kk->scope.names.lookup x=O kk∨(scope.names.lookup x=O .free/\kk=.cell):=λx kk h=>FM (env:=X.env) h
 have isfc:∀x,(X.blk N2 scope cl s3.heap.objs.size s3 H fp).env.scope.names.lookup x=O .cell∨(X.blk N2 scope cl s3.heap.objs.size s3 H fp).env.scope.names.lookup x=O .free->scope.names.lookup x=O .free∨scope.names.lookup x=O .cell:=λx h=>by
  rcases h with h|h
  .rcases kinv x _ h with z|z
   .exact .inr z
   .exact .inl z.1
  .rcases kinv x _ h with z|z
   .exact .inl z
   .exact .inl z.1
 have lto   :=λx c e=>let ⟨_,q⟩:=I.cell x c e;q.lt
 have ok:(X.blk N2 scope cl s3.heap.objs.size s3 H fp).Ok:=
  {
   mod:=I.ok.mod
   kind:=hkind
   glob:=I.ok.glob
   blt:=I.ok.blt
   above:=Qp _
   inj:=λx y c a b=>by
    rcases hc.old x c a with q|⟨q,_⟩
    .rcases hc.old y c b with q'|⟨q',_⟩
     .exact I.ok.inj x y c q q'
     .exact absurd (lto x c q) (Nat.lt_asymm q')
    .exact hc.inj x y c a b q
   has:=λx h=>by
    rcases isfc x h with z|z
    .exact let ⟨c,e,_⟩:=hc.fre x z;⟨c,e⟩
    .exact let ⟨c,e,_⟩:=hc.cel x z;⟨c,e⟩
   cab:=λx c h e=>by
    have z:scope.names.lookup x=O .cell:=by have h:(scope.names.lookup x==O .cell)=v5:=h;simpa using h
    obtain⟨c',e',l⟩:=hc.cel x z;have e:cl.lookup x=O c:=e;rw[e]at e';cases e';exact Ut l
   hd:=I.ok.hd
   frames:=I.ok.frames
   stk:=.inl v3
   exf:=λb hb=>⟨let ⟨o,e⟩:=hfo b hb;lt b o e,λx c e=>by
    rcases hc.old x c e with q|⟨q,_⟩
    .exact(hf b hb).2.2.2.2.1 x c q
    .obtain⟨o,e'⟩:=hfo b hb
     exact JD (Nat.lt_trans (Ql e') q)⟩
   bs:=I.bs
   bsz:=QE I.ok.bsz I.sz
   noex:=λb o e hb=>by
    rcases(hf b hb).2.2.2.1 with z|z
    .exact I.ok.noex b o e z
    .exact absurd (QH (Ql e) (QE I.ok.bsz z)) (Jv _)
   exfs:=λb hb hx=>by
    rcases QQ.mp (I.stkSub b hx)with z|z
    .exact(hf b hb).2.1 z
    .exact(hf b hb).2.2.1 z
   funs:=I.stack
   frf:=I.stkFree}
 refine⟨ok,rfl,I.bare,Un.kept hk,⟨m0,hn,λi x v e1 e2 e3=>?_⟩,λx c e=>?_,I.hok.fresh (Qp _),λx c e=>(hc.old x c e).elim (I.freeC x c) λq=>I.hok.fresh (Ut q.1),λp hp=>?_,I.hok.kept hk,?_⟩
 .have nl:¬_:=λz=>by
   obtain⟨g1,g2⟩:=(hN i x e1).2 z;rw[←I.len]at g1 g2;rw[Qw g1,Qy]at e2;split at e2<;>cases e2
  have fr:scope.names.lookup x=O .free:=by
   rcases e3 with z|z
   .rcases kinv x _ z with q|q
    .exact absurd (.inl q) nl
    .cases q.2
   .rcases isfc x z with q|q
    .exact q
    .exact absurd (.inr q) nl
  have eN:=(hN i x e1).1 fr;have hi:i<σ.length:=by rw[I.len];exact(Qg.mp eN).1
  rw[Qu hi]at e2;obtain⟨m,hm,hlk⟩:=I.loc;have hkd:=hfree _ (ofl x fr) v3;obtain⟨u,r,l⟩:=hlk i x v eN e2 (.inr hkd);refine⟨u,r,.inr ⟨?_,?_⟩⟩
  .rcases e3 with z|z|z
   .rcases kinv x _ z with q|q
    .exact absurd (.inl q) nl
    .cases q.2
   .exact .inl z
   .exact .inr z
  .rcases l with l|⟨_,c,ec,z⟩
   .have:X.env.scope.names.lookup x=O .local:=l.1
    rcases hkd with q|q<;>(dsimp only at q;rw[this]at q;cases q)
   .obtain⟨c',ec',this⟩:=hc.fre x fr
    rw[ec]at this;cases this;obtain⟨o,ho,hd⟩:=z;exact⟨c,ec',o,hk c o ho,hd⟩
 .rcases hc.old x c e with q|⟨_,q⟩
  .obtain⟨v,o,ho,hd⟩:=I.cell x c q
   exact⟨v,o,hk c o ho,hd⟩
  .exact⟨_,q⟩
 .obtain⟨e,n,ne,nf,d⟩:=I.pin p hp
  refine⟨hk _ _ e,n,lt _ _ e,λz=>?_,d⟩;rcases QQ.mp (I.stkSub _ z)with q|q
  .exact ne q
  .exact nf q
 .rw[Qj,QR,I.len]
  exact hl.symm
noncomputable abbrev nox:UA->UB->Prop:=λ_ _=>False
def RS(prog:UC)(w:World)(A:Around)(tg:UF)(ifs:wf)(env:Env)(it:UA)(code:Code)(W:(UB->Prop)->UB->Prop):Prop:=
 ∀(R:Result->UB->Prop)(I:Nat->UB->Prop)(n:Nat)(s:UB),I n s ->
  (∀n s,I n s->UH (model prog w) A (pyNext it) (λr s₁=>match r with
   |none=>R (.ok .next) s₁
   |some v=>UH (model prog w) A (letOwnedTupleGo tg it v) (λ_ s₁'=>UH (model prog w) A (assign tg env v) (λ_ s₂=>
     UH (model prog w) A (forIn ifs v5 λc r=>if r=v5 then do let ok ←isTrue c env (eval c env);pure (ForInStep.yield ok)else pure (ForInStep.yield r)) (λok s₃=>
      if ok=v5 then W (λs₅=>∃m,m<n/\I m s₅) s₃ else ∃m,m<n/\I m s₃) nox s₂) nox s₁') nox s₁) nox s)->codeAny (model prog w) A code R s
section
variable{prog:UC}{w:World}{A:Around}{elt tg i:UF}{ifs:wf}{gens:List Comprehension}{scope:Scope}{pos:Pos}{it acc:UA}{env:Env}{j:Nat}
theorem jI(hg:gens[j]?=O ⟨tg,i,ifs,0⟩)(hn:gens[j+1]?=v4):RS prog w A tg ifs env it (.compLoop (.ListComp elt gens scope pos) j it acc env)
  (λQ s=>UH (model prog w) A (eval elt env) (λx s₄=>UH (model prog w) A (call (.builtin "list.append") [acc,x]) (λ_ s₅=>Q s₅) nox s₄) nox s):=by
 intro R I n s h turn;refine codeAny_loop v3 I (λn s hI=>?_) n h;refine wpAny_noted ?_;unfold compTurn;dsimp only;simp only[hg,hn];refine Qe (JF (Qe (QL (turn n s hI) (λr s₁ h₁=>?_) λ_ _ h'=>h'.elim)));cases r with
 |none=>exact Qm h₁
 |some v=>
  refine Qe (QL h₁ (λ_ s₁' h₁'=>?_) λ_ _ h'=>h'.elim);refine Qe (QL h₁' (λ_ s₂ h₂=>Qe (QL h₂ (λok s₃ h₃=>?_) λ_ _ h'=>h'.elim)) λ_ _ h'=>h'.elim);cases ok with
  |false=>exact Qm ⟨rfl,h₃⟩
  |true=>exact Qe (Qe (QL h₃ (λx s₄ h₄=>Qe (QL h₄ (λ_ s₅ h₅=>Qm (Qm ⟨rfl,h₅⟩)) λ_ _ h'=>h'.elim)) λ_ _ h'=>h'.elim))
theorem jH  {ifs1:wf}(hg:gens[j]?=O ⟨tg,i,ifs,0⟩)(hn:gens[j+1]?=O ⟨wV,i1,ifs1,0⟩)(hs:∀x,UY i1 env x=pure x):RS prog w A tg ifs env it (.compLoop (.ListComp elt gens scope pos) j it acc env)
  (λQ s=>UH (model prog w) A (eval i1 env) (λx s₄=>UH (model prog w) A (pyIter x) (λwz s₅=>codeAny (model prog w) A (.compStart (.ListComp elt gens scope pos) (j+1) wz acc env)
   (λr s₆=>match r with | .ok _=>Q s₆ | .error _=>False) s₅) nox s₄) nox s):=by
 intro R I n s h turn;refine codeAny_loop v3 I (λn s hI=>?_) n h;refine wpAny_noted ?_;unfold compTurn;dsimp only;simp only[hg,hn];refine Qe (JF (Qe (QL (turn n s hI) (λr s₁ h₁=>?_) λ_ _ h'=>h'.elim)));cases r with
 |none=>exact Qm h₁
 |some v=>
  refine Qe (QL h₁ (λ_ s₁' h₁'=>?_) λ_ _ h'=>h'.elim);refine Qe (QL h₁' (λ_ s₂ h₂=>Qe (QL h₂ (λok s₃ h₃=>?_) λ_ _ h'=>h'.elim)) λ_ _ h'=>h'.elim);cases ok with
  |false=>exact Qm ⟨rfl,h₃⟩
  |true=>
   refine Qe (QL h₃ (λx s₄ h₄=>Qe (JF (Qe (wpAny_of_eq (hs x) (Qe (wpAny_holding (QL h₄ (λwz s₅ h₅=>?_) λ_ _ h'=>h'.elim))))))) λ_ _ h'=>h'.elim);refine Qe (wpAny_runOwn (codeAny_mono h₅ λr s₆ h₆=>?_));cases r with
   |ok f=>exact Qm ⟨rfl,h₆⟩
   |error x=>exact h₆.elim
theorem vJ   (hg:gens[j]?=O ⟨tg,i,ifs,0⟩)
  (h0:codeAny (model prog w) A (.compLoop (.ListComp elt gens scope pos) j it acc env) R s)
  (h:UH (model prog w) A (pyIter it) (λit' s'=>codeAny (model prog w) A (.compLoop (.ListComp elt gens scope pos) j it' acc env) R s') nox s) :
  codeAny (model prog w) A (.compStart (.ListComp elt gens scope pos) j it acc env) R s:=by
 refine codeAny_of_tree ?_;refine wpAny_notedAt ?_;unfold compStart;have hc:(clausesOf (.ListComp elt gens scope pos))[j]?=O ⟨tg,i,ifs,0⟩:=hg;simp only[hc];refine Qe (wpAny_askSetting (wpAny_ite ?_));split
 .first
   |exact Qe _
   |exact Qm (And.intro rfl h0)
 .first
   |exact Qe _
   |(refine Qe (wpAny_rule ?_);exact Qe (JF (Qe (QL h (λit' s' h'=>Qm (And.intro rfl h')) λ_ _ x=>x.elim))))
end
end L2
namespace DL
open PySem PySem.Spec L2
open PyProof.Rows hiding St
noncomputable def K5:Option Sl->Option Sl
 |some (.own _)=>v4
 |some (.deep _ _)=>v4
 |x=>x
noncomputable def KT(Z:U7):U7:=Z.map K5
theorem jG  {i:Nat}{d}(h:(KT Z)[i]?=O (O (.pub d))):Z[i]?=O (O (.pub d)):=by
 unfold KT at h;rw[Qf]at h;cases e:Z[i]? with
 |none=>simp_all
 |some o=>
  rw[e]at h;cases o with
  |none=>cases h
  |some sl=>cases sl with
   |pub d'=>cases h;rfl
   |own ds=>cases h
   |deep p d'=>cases h
theorem Ve  {i:Nat}{ds}(h:(KT Z)[i]?=O (O (.own ds))):False:=by
 unfold KT at h;rw[Qf]at h;cases e:Z[i]? with
 |none=>simp_all
 |some o=>
  rw[e]at h;cases o with
  |none=>cases h
  |some sl=>cases sl with
   |pub d'=>cases h
   |own ds=>cases h
   |deep p d'=>cases h
theorem N6  {i:Nat}{p}{d}(h:(KT Z)[i]?=O (O (.deep p d))):False:=by
 unfold KT at h;rw[Qf]at h;cases e:Z[i]? with
 |none=>simp_all
 |some o=>
  rw[e]at h;cases o with
  |none=>cases h
  |some sl=>cases sl<;>cases h
noncomputable def Zp(s:D->U7->wl)(t:M Bool)(g:M D):wb->U7->wb->Option wb
 |[],_,es=>O es
 |d::r,Z,es=>match s d Z with
  |none=>v4
  |some Z1=>match t Z1 with
   |.bad=>v4
   |.ok b Z2=>if b=v5 then(match g Z2 with
     |.bad=>v4
     |.ok e Z3=>if es.length<1000000 then Zp s t g r (KT Z3) (es++[e])else v4)
    else Zp s t g r (KT Z2) es
noncomputable def ZC(f:M wb)(k:Nat)(s:D->U7->wl)(t:M Bool)(g:M D):M wb:=λZ=>match f Z with
 |.bad=>.bad
 |.ok ds Z1=>match Zp s t g ds (KT Z1++UL k v4) []with
  |none=>.bad
  |some es=>.ok es Z1
def Xr(X:Cx)(ifs:wf)(t:TT):Prop:=
 ∀(pins:List (UD×Obj))(s:UB)(σ:St)(H:Hp)(Q:Bool->Hp->Prop),Inv X pins σ H s->t σ H Q ->
  UH (model X.prog X.w) X.A (forIn ifs v5 λc r=>if r=v5 then do let ok ←isTrue c X.env (eval c X.env);pure (ForInStep.yield ok)else pure (ForInStep.yield r)) (TP X pins σ Q) X.xe s
section
variable{X:Cx}{B G0:Hp}
theorem CN:Xr X [] (tBo X.K B G0 (U3 v5)):=λpins s σ H Q I ⟨G,Z,k,a⟩=>wpAny_tests_nil ⟨H,I,a v5 G H k (.refl _) v3⟩
theorem LM   (h:PT X c (tBo X.K B G0 t)):Xr X [c] (tBo X.K B G0 t):=λpins s σ H Q I q=>wpAny_tests_one (h pins s σ H Q I q)
theorem EOk.rebase{K}{G H}{σ}{Z}(k:EOk K B G0 G H σ Z):EOk K H G G H σ (KT Z) where
 bh:=.refl _
 gh:=k.gh
 g0:=.refl _
 np:=λ_ _ _ n=>n
 len:=by unfold KT;rw[Qb];exact k.len
 pub:=λi d q=>k.pub i d (jG q)
 own:=λi ds q=>(Ve q).elim
 sep:=λi j a ds es q=>(Ve q).elim
 dp:=.of (λ_ _ _ q=>N6 q) λ_ _ q=>Ve q
theorem EOk.more{K}{G H:Hp}{σ:St}{Z}(k:EOk K H G G H σ (KT Z))(n:Nat):EOk K H G G H (σ++UL n v4) (KT Z++UL n v4) where
 bh:=.refl _
 gh:=k.gh
 g0:=.refl _
 np:=λ_ _ _ n=>n
 len:=by rw[Qj,Qj,k.len,QR,QR]
 pub:=λi d q=>by
  by_cases hi:i<(KT Z).length
  .rw[Qu hi]at q
   rw[Qu (by rw[←k.len];exact hi)];exact k.pub i d q
  .rw[Qw (Ji hi),Qy]at q
   split at q<;>cases q
 own:=λi ds q=>by
  by_cases hi:i<(KT Z).length
  .rw[Qu hi]at q
   exact(Ve q).elim
  .rw[Qw (Ji hi),Qy]at q
   split at q<;>cases q
 sep:=λi j a ds es q=>by
  by_cases hi:i<(KT Z).length
  .rw[Qu hi]at q
   exact(Ve q).elim
  .rw[Qw (Ji hi),Qy]at q
   split at q<;>cases q
 dp:=by
  refine .of (λi p d q=>?_) λi ds q=>?_
  .by_cases hi:i<(KT Z).length
   .rw[Qu hi]at q;exact N6 q
   .rw[Qw (Ji hi),Qy]at q;split at q<;>cases q
  .by_cases hi:i<(KT Z).length
   .rw[Qu hi]at q;exact Ve q
   .rw[Qw (Ji hi),Qy]at q;split at q<;>cases q
theorem EOk.beside{K}{G H}{σ}{Z}{a}{o}(k:EOk K B G0 G H σ Z)(hg:G a=v4):EOk K (upd H a o) G G (upd H a o) σ (KT Z) where
 bh:=.refl _
 gh:=λb u e=>by rw[Zj (λz=>by lia)];exact k.gh b u e
 g0:=.refl _
 np:=λ_ _ _ n=>n
 len:=k.rebase.len
 pub:=k.rebase.pub
 own:=λi ds q=>(Ve q).elim
 sep:=λi j a ds es q=>(Ve q).elim
 dp:=.of (λ_ _ _ q=>N6 q) λ_ _ q=>Ve q
theorem lim1:1000000<=UG:=lim
noncomputable def Ot:Option Sl->Option Sl
 |some (.own ds)=>O (.pub (.list ds))
 |some (.deep _ d)=>O (.pub d)
 |x=>x
noncomputable def Yh(Z:U7):U7:=Z.map Ot
theorem GS  {i:Nat}{d}(h:(Yh Z)[i]?=O (O (.pub d))):Z[i]?=O (O (.pub d))∨(∃ds,d=.list ds/\Z[i]?=O (O (.own ds))) ∨ ∃p,Z[i]?=O (O (.deep p d)):=by
 unfold Yh at h;rw[Qf]at h;cases e:Z[i]? with
 |none=>simp_all
 |some o=>
  rw[e]at h;cases o with
  |none=>cases h
  |some sl=>cases sl with
   |pub d'=>cases h;exact .inl v3
   |own ds=>cases h;exact .inr (.inl ⟨ds,rfl,rfl⟩)
   |deep p d'=>cases h;exact .inr (.inr ⟨p,rfl⟩)
theorem Rn  {i:Nat}{ds}(h:(Yh Z)[i]?=O (O (.own ds))):False:=by
 unfold Yh at h;rw[Qf]at h;cases e:Z[i]? with
 |none=>simp_all
 |some o=>
  rw[e]at h;cases o with
  |none=>cases h
  |some sl=>cases sl with
   |pub d'=>cases h
   |own ds=>cases h
   |deep p d'=>cases h
theorem Fn  {i:Nat}{p}{d}(h:(Yh Z)[i]?=O (O (.deep p d))):False:=by
 unfold Yh at h;rw[Qf]at h;cases e:Z[i]? with
 |none=>simp_all
 |some o=>
  rw[e]at h;cases o with
  |none=>cases h
  |some sl=>cases sl<;>cases h
noncomputable def flat:D->Bool
 |.none=>v5 | .bool _=>v5 | .int _=>v5 | .str _=>v5|_=>wa
theorem Rep.flat{K}{G G'}{v}{d}(r:Rep K G v d)(h:DL.flat d=v5):Rep K G' v d:=by
 cases r with
 |non=>exact .non
 |bl b=>exact .bl b
 |int i=>exact .int i
 |str x=>exact .str x
 |lst _ _=>cases h
 |tup _ _=>cases h
 |dic _=>cases h
 |exc _ _ _ _=>cases h
 |dct _ _ _ _ _=>cases h
 |dtt _ _ _ _=>cases h
theorem Reps.flat{K}{G G'}:∀{vs}{ds},Reps K G vs ds->ds.all DL.flat=v5->Reps K G' vs ds
 |_,_,.nil,_=>.nil
 |_,_,.cons r t,h=>by rw[List.all_cons,QI]at h;exact .cons (r.flat h.1) (Reps.flat t h.2)
theorem EOk.lend{K}{B G0 G H:Hp}{σ:St}{Z:U7}{D:UD}{o:HO}(k:EOk K B G0 G H σ Z)(hD:H D=v4)(n:Nat):EOk K (upd H D o) H H (upd H D o) (σ++UL n v4) (Yh Z++UL n v4) where
 bh:=.refl _
 gh:=Yi hD
 g0:=.refl _
 np:=λ_ _ _ n=>n
 len:=by unfold Yh;rw[Qj,Qj,Qb,k.len,QR,QR]
 pub:=λi d q=>by
  have hl:(Yh Z).length=Z.length:=by unfold Yh;rw[Qb]
  by_cases hi:i<(Yh Z).length
  .rw[Qu hi]at q
   rw[Qu (by rw[←k.len,←hl];exact hi)];rcases GS q with e|⟨ds,rfl,e⟩|⟨p,e⟩
   .obtain⟨v,h1,h2⟩:=k.pub i d e
    exact⟨v,h1,h2.mono k.gh⟩
   .obtain⟨a,vs,h1,h2,h3,h4,h5⟩:=k.own i ds e
    exact⟨.ref a,h1,.lst (SqL.of h4) (h5.mono k.gh)⟩
   .obtain⟨ω,k1,k2⟩:=k.dp
    obtain⟨v,fp,s,r,_⟩:=k1 i p d e;exact⟨v,s,r.rep k.gh⟩
  .rw[Qw (Ji hi),Qy]at q
   split at q<;>cases q
 own:=λi ds q=>by
  by_cases hi:i<(Yh Z).length
  .rw[Qu hi]at q
   exact(Rn q).elim
  .rw[Qw (Ji hi),Qy]at q
   split at q<;>cases q
 sep:=λi j a ds es q=>by
  by_cases hi:i<(Yh Z).length
  .rw[Qu hi]at q
   exact(Rn q).elim
  .rw[Qw (Ji hi),Qy]at q
   split at q<;>cases q
 dp:=by
  refine .of (λi p d q=>?_) λi ds q=>?_
  .by_cases hi:i<(Yh Z).length
   .rw[Qu hi]at q;exact Fn q
   .rw[Qw (Ji hi),Qy]at q;split at q<;>cases q
  .by_cases hi:i<(Yh Z).length
   .rw[Qu hi]at q;exact Rn q
   .rw[Qw (Ji hi),Qy]at q;split at q<;>cases q
noncomputable def RL(f:M wb)(k:Nat)(s:D->U7->wl)(t:M Bool)(g:M D):M wb:=λZ=>match f Z with
 |.bad=>.bad
 |.ok ds Z1=>match Zp s t g ds (Yh Z1++UL k v4) []with
  |none=>.bad
  |some es=>if es.all flat=v5 then .ok es Z1 else .bad
end
noncomputable def YZ(s:D->U7->wl)(t:M Bool)(g:M D):wb->U7->wb->Option (wb×U7)
 |[],Z,es=>O (es,Z)
 |d::r,Z,es=>match s d Z with
  |none=>v4
  |some Z1=>match t Z1 with
   |.bad=>v4
   |.ok b Z2=>if b=v5 then(match g Z2 with
     |.bad=>v4
     |.ok e Z3=>if es.length<1000000 then YZ s t g r (KT Z3) (es++[e])else v4)
    else YZ s t g r (KT Z2) es
noncomputable def WM(s0:D->U7->wl)(t0:M Bool)(f1:M wb)(s1:D->U7->wl)(t1:M Bool)(g:M D):wb->U7->wb->Option wb
 |[],_,es=>O es
 |d::r,Z,es=>match s0 d Z with
  |none=>v4
  |some Z1=>match t0 Z1 with
   |.bad=>v4
   |.ok b Z2=>if b=v5 then(match f1 Z2 with
     |.bad=>v4
     |.ok ds Z3=>match YZ s1 t1 g ds (KT Z3) es with
      |none=>v4
      |some (es',Z4)=>WM s0 t0 f1 s1 t1 g r Z4 es')
    else WM s0 t0 f1 s1 t1 g r (KT Z2) es
noncomputable def RK(f:M wb)(k:Nat)(s:D->U7->wl)(t:M Bool)(f1:M wb)(yv:D->U7->wl)(t1':M Bool)(g:M D):M wb:=λZ=>match f Z with
 |.bad=>.bad
 |.ok ds Z1=>match WM s t f1 yv t1' g ds (KT Z1++UL k v4) []with
  |none=>.bad
  |some es=>.ok es Z1
noncomputable def XB(s0:D->U7->wl)(t0:M Bool)(f1:M wb)(Rd:wb->U7->wb->Option (wb×U7)):wb->U7->wb->Option (wb×U7)
 |[],Z,es=>O (es,Z)
 |d::r,Z,es=>match s0 d Z with
  |none=>v4
  |some Z1=>match t0 Z1 with
   |.bad=>v4
   |.ok b Z2=>if b=v5 then(match f1 Z2 with
     |.bad=>v4
     |.ok ds Z3=>match Rd ds (KT Z3) es with
      |none=>v4
      |some (es',Z4)=>XB s0 t0 f1 Rd r Z4 es')
    else XB s0 t0 f1 Rd r (KT Z2) es
noncomputable def TN(Rd:wb->U7->wb->Option (wb×U7))(ds:wb)(Z:U7)(es:wb):Option wb:=(Rd ds Z es).map (·.1)
noncomputable def RJ(f:M wb)(k:Nat)(s:D->U7->wl)(t:M Bool)(f1:M wb)(yv:D->U7->wl)(t1':M Bool)(fx2:M wb)(s2':D->U7->wl)(t2':M Bool)(g:M D):M wb:=λZ=>match f Z with
 |.bad=>.bad
 |.ok ds Z1=>match TN (XB s t f1 (XB yv t1' fx2 (YZ s2' t2' g))) ds (KT Z1++UL k v4) []with
  |none=>.bad
  |some es=>.ok es Z1
abbrev RdB:=U7->wb->Option (wb×U7)
noncomputable def rL(g:M D):RdB:=λZ es=>match g Z with
 |.bad=>v4
 |.ok e Z3=>if es.length<1000000 then O (es++[e],KT Z3)else v4
noncomputable def cT(s:D->U7->wl)(t:M Bool)(rd:RdB):wb->U7->wb->Option (wb×U7)
 |[],Z,es=>O (es,Z)
 |d::r,Z,es=>match s d Z with
  |none=>v4
  |some Z1=>match t Z1 with
   |.bad=>v4
   |.ok b Z2=>if b=v5 then(match rd Z2 es with
     |none=>v4
     |some (es',Z')=>cT s t rd r Z' es')
    else cT s t rd r (KT Z2) es
noncomputable def rN(f:M wb)(s:D->U7->wl)(t:M Bool)(rd:RdB):RdB:=λZ es=>match f Z with
 |.bad=>v4
 |.ok ds Z3=>cT s t rd ds (KT Z3) es
structure Left(Y:Cx)(D':UD)(pins:List (UD×Obj))(H G:Hp)(es':wb)(Z':U7)(σ':St)(H' G':Hp)(vs':List V)(s':UB):Prop where
 inv:Inv Y pins σ' H' s'
 eok:EOk Y.K H' G' G' H' σ' Z'
 hh:∀a o,a≠D'->H a=O o->H' a=O o
 gg:Same G G'
 np:∀a(u:MO),a≠D'->H a=O u.ho->G a=v4->G' a=v4
 hd:H' D'=O (.lst vs')
 gd:G' D'=v4
 rp:Reps Y.K G' vs' es'
def Rx(Y:Cx)(D':UD)(W:(UB->Prop)->UB->Prop)(rd:RdB):Prop:=
 ∀(pins:List (UD×Obj))(sh:UB)(σ:St)(B1 G1 H G:Hp)(Z Z':U7)(vs:List V)(es es':wb)(Q:UB->Prop),
  Inv Y pins σ H sh->EOk Y.K B1 G1 G H σ Z->B1 D'=O (.lst vs)->G1 D'=v4->Reps Y.K G1 vs es->rd Z es=O (es',Z') ->
  (∀σ' H' G' vs' s',Left Y D' pins B1 G1 es' Z' σ' H' G' vs' s'->Q s')->W Q sh
section
variable{Y:Cx}{D':UD}
theorem jF   (hx:Y.xe=nox)(he:∀B1 G1,PE Y elt (tD Y.K B1 G1 g)) :
  Rx Y D' (λQ s=>UH (model Y.prog Y.w) Y.A (eval elt Y.env) (λx s₄=>UH (model Y.prog Y.w) Y.A (call (.builtin "list.append") [.ref D',x]) (λ_ s₅=>Q s₅) nox s₄) nox s) (rL g):=by
 intro pins sh σ B1 G1 H G Z Z' vs es es' Q I k hD gD r z fin;unfold rL at z;cases zg:g Z with
 |bad=>simp_all
 |ok e Z4=>
 rw[zg]at z;dsimp only at z;split at z
 .cases z
  have h:=he B1 G1 pins sh σ H (λv H8=>∃G8,EOk Y.K B1 G1 G8 H8 σ Z4/\Rep Y.K G8 v e) I ⟨G,Z,k,by rw[zg];exact λv G8 H8 k8 _ q=>⟨G8,k8,q⟩⟩;rw[hx]at h;refine thn h λev s8 ⟨v,H8,I8,rv,G8,k8,r8⟩=>?_;have h2:=GT pins s8 σ H8 (.ref D') [v] _ [ev] (λ_ H9=>H9=upd H8 D' _) I8 v3 (.cons rv .nil) ⟨D',vs,v,rfl,rfl,k8.bh _ _ hD,by have:=lim1;rw[r.length];lia,rfl⟩
  rw[hx]at h2;refine thn h2 λ_ s9 ⟨_,H9,I9,_,e9⟩=>?_;subst e9;have g8:=k8.np _ (.l _) hD gD;exact fin σ _ G8 _ s9 ⟨I9,k8.beside g8,λa o z q=>by rw[Zj z];exact k8.bh a o q,k8.g0,λa o _ q w=>k8.np a o q w,Yd,g8,(r.mono k8.g0).append (.cons r8 .nil)⟩
 simp_all
theorem HK{tg:UF}{ifs:wf}{code:Code}{W:(UB->Prop)->UB->Prop}{s:D->U7->wl}{t:M Bool}{rd:RdB}{it:UD}(hx:Y.xe=nox)(hc:Y.calm=v5)(rule:RS Y.prog Y.w Y.A tg ifs Y.env (.ref it) code W)
  (hg:∀B1 G1,PG Y tg (tG Y.K B1 G1 s)) (ht:∀B1 G1,Xr Y ifs (tBo Y.K B1 G1 t)) (hb:Rx Y D' W rd)
  {pins:List (UD×Obj)} {sh:UB} {σ:St} {H G:Hp} {Z ZF:U7} {fp:wk} {tn:Nat->Heap->Prop} {J:It} {ds es esF:wb} {vs:List V} {R:Result->UB->Prop}
  (I:Inv Y pins σ H sh) (T:Turn Y.prog Y.w Y.K tg J fp it tn) (st:tn 0 sh.heap) (hf:∀b∈fp,ZW Y pins H b)
  (k:EOk Y.K H G G H σ Z) (its:X7 Y.K J ds G) (hD:H D'=O (.lst vs)) (gD:G D'=v4) (r:Reps Y.K G vs es) (zl:cT s t rd ds Z es=O (esF,ZF))
  (yl:∀σ' H' G' vs' s',Left Y D' pins H G esF ZF σ' H' G' vs' s'->R (.ok .next) s'):codeAny (model Y.prog Y.w) Y.A code R sh:=by
 have stat:∀{H':Hp},(∀b∈fp,H' b=v4)->∀b∈fp,ZW Y pins H' b:=λhn b hb=>⟨hn b hb,(hf b hb).2⟩
 refine rule R (λn s'=>∃i σ' H' G' Z' vs' es',n=ds.length-i/\tn i s'.heap/\(∀b∈fp,H' b=v4)/\Left Y D' pins H G es' Z' σ' H' G' vs' s'/\cT s t rd (ds.drop i) Z' es'=O (esF,ZF)) ds.length sh
  ⟨0,σ,H,G,Z,vs,es,rfl,st,λb hb=>(hf b hb).1,⟨I,k,λ_ _ _ q=>q,.refl _,λ_ _ _ _ n=>n,hD,gD,r⟩,by rw[List.drop_zero];exact zl⟩ ?_
 rintro n s' ⟨i,σ',H',G',Z',vs',es',rfl,tn',fr',⟨I',k',yE,yu,np',wH,gD',r'⟩,zc⟩;by_cases hlt:i<ds.length
 .rw[Je hlt,cT]at zc
  cases zs:s ds[i] Z' with
  |none=>rw[zs]at zc;cases zc
  |some Z2=>
  rw[zs]at zc;dsimp only at zc;cases zt:t Z2 with
  |bad=>rw[zt]at zc;cases zc
  |ok b Z3=>
  rw[zt]at zc;dsimp only at zc;refine thn (T.item Y v3 v3 v3 hc i pins s' σ' H' nox I' (stat fr') tn' (its.go i G' H' yu k'.gh hlt)) λrr s4 ⟨u,hr,h4⟩=>?_;subst hr;refine thn h4 λ_ s5 ⟨x,H5,I5,r5,y5,wI,fr5⟩=>?_
  obtain⟨G5,e5,rx⟩:=its.yld i G' H' x H5 ds[i] yu k'.gh (Qd hlt) y5;have h6:=hg H' G' _ s5 σ' H5 x u (λσ6 H6=>∃G6,EOk Y.K H' G' G6 H6 σ6 Z2) (I5.pinned (stat fr5) (T.obj _ _ wI)) r5 ⟨G5,Z',ds[i],Z2,k'.ext e5,rx,zs,λσ6 G6 H6 k6 _=>⟨G6,k6⟩⟩;rw[hx]at h6;refine thn h6 λ_ s6 ⟨σ6,H6,I6,G6,k6⟩=>?_;have h7:=ht H' G' _ s6 σ6 H6 (λc H7=>c=b/\∃G7,EOk Y.K H' G' G7 H7 σ6 Z3) I6 ⟨G6,Z2,k6,by unfold aft;rw[zt];exact λc G7 H7 k7 _ q=>⟨q,G7,k7⟩⟩
  rw[hx]at h7;refine thn h7 λok s7 ⟨H7,I7,hb7,G7,k7⟩=>?_;subst hb7
  have again:∀{H9:Hp}{σ9:St}{s9:UB},Inv Y (pins++Py fp s5.heap) σ9 H9 s9->Inv Y pins σ9 H9 s9/\tn (i+1) s9.heap/\∀b∈fp,H9 b=v4:=λ{H9 σ9 s9} I9=>by refine⟨I9.unpinned,T.keep _ _ _ wI λb hb o e=>(I9.pin (b,o) (QK _ (QK _ (Os hb e)))).1,λb hb=>?_⟩;obtain⟨o,e,d⟩:=T.obj _ _ wI b hb;exact(I9.pin (b,o) (QK _ (QK _ (Os hb e)))).2.1
  have lt:ds.length-(i+1)<ds.length-i:=Nat.sub_lt_sub_left hlt (Ul i);cases ok with
  |false=>obtain⟨J1,J2,J3⟩:=again I7;exact⟨_,lt,i+1,σ6,H7,G7,KT Z3,vs',es',rfl,J2,J3,⟨J1,k7.rebase,λa o z q=>k7.bh a o (yE a o z q),yu.trans k7.g0,λa o z q w=>k7.np a o (yE a _ z q) (np' a o z q w),k7.bh _ _ wH,k7.np _ (.l _) wH gD',r'.mono k7.g0⟩,zc⟩
  |true=>
   rw[Qq v3]at zc⊢;cases ze:rd Z3 es' with
   |none=>rw[ze]at zc;cases zc
   |some pr=>
   obtain⟨es1,Z5⟩:=pr;rw[ze]at zc;refine hb _ s7 σ6 H' G' H7 G7 Z3 Z5 vs' es' es1 _ I7 k7 wH gD' r' ze λσ9 H9 G9 vs9 s9 L=>?_
   obtain⟨J1,J2,J3⟩:=again L.inv;exact⟨_,lt,i+1,σ9,H9,G9,Z5,vs9,es1,rfl,J2,J3,⟨J1,L.eok,λa o z q=>L.hh a o z (yE a o z q),yu.trans L.gg,λa o z q w=>L.np a o z (yE a _ z q) (np' a o z q w),L.hd,L.gd,L.rp⟩,zc⟩
 .rw[J7 (Ji hlt),cT]at zc
  cases zc;refine thn (T.done Y v3 v3 v3 hc i pins s' σ' H' nox I' (stat fr') tn' (its.stop i G' H' yu k'.gh (Ji hlt))) λrr s4 ⟨hr,I6⟩=>?_
  subst hr;exact yl σ' H' G' vs' s4 ⟨I6,k',yE,yu,np',wH,gD',r'⟩
theorem jE{elt wV i1:UF}{ifs1}{gens}{scope:Scope}{pos:Pos}{j:Nat}{W:UA->(UB->Prop)->UB->Prop}{f}{s}{t}{rd:RdB}(hx:Y.xe=nox)(hc:Y.calm=v5)
  (hn:gens[j+1]?=O ⟨wV,i1,ifs1,0⟩) (rule:∀wz,RS Y.prog Y.w Y.A wV ifs1 Y.env wz (.compLoop (.ListComp elt gens scope pos) (j+1) wz (.ref D') Y.env) (W wz))
  (hi:∀B1 G1,PI Y wV i1 (iD Y.K B1 G1 f)) (hg:∀B1 G1,PG Y wV (tG Y.K B1 G1 s)) (ht:∀B1 G1,Xr Y ifs1 (tBo Y.K B1 G1 t)) (hb:∀wz,Rx Y D' (W wz) rd) :
  Rx Y D' (λQ s=>UH (model Y.prog Y.w) Y.A (eval i1 Y.env) (λx s₄=>UH (model Y.prog Y.w) Y.A (pyIter x) (λwz s₅=>codeAny (model Y.prog Y.w) Y.A (.compStart (.ListComp elt gens scope pos) (j+1) wz (.ref D') Y.env)
   (λr s₆=>match r with | .ok _=>Q s₆ | .error _=>False) s₅) nox s₄) nox s) (rN f s t rd):=by
 intro pins sh σ B1 G1 H G Z Z' vs es es' Q I k hD gD r z fin;unfold rN at z;cases zf:f Z with
 |bad=>rw[zf]at z;cases z
 |ok ds Z3=>
 rw[zf]at z;have h:=hi B1 G1 pins sh σ H (λJ1 H8=>∃G8,EOk Y.K B1 G1 G8 H8 σ Z3/\X7 Y.K J1 ds G8) I ⟨G,Z,k,by rw[zf];exact λJ1 G8 H8 k8 _ q=>⟨G8,k8,q⟩⟩;rw[hx]at h;refine thn h λxv s8 h8=>thn h8 λitv s9 h9=>?_
 obtain⟨wz,fp1,tn1,J1,H9,rfl,I9,T1,st9,f9,G9,k9,its9⟩:=h9
 have loop:codeAny _ Y.A _ (λr s₆=>match r with | .ok _=>Q s₆ | .error _=>False) s9:=
  HK hx hc (rule _) hg ht (hb _) I9 T1 st9 f9 k9.rebase its9 (k9.bh _ _ hD) (k9.np _ (.l _) hD gD) (r.mono k9.g0) z λσ' H' G' vs' s' L=>
   fin σ' H' G' vs' s' ⟨L.inv,L.eok,λa o z q=>L.hh a o z (k9.bh a o q),k9.g0.trans L.gg,λa o z q w=>L.np a o z (k9.bh a _ q) (k9.np a o q w),L.hd,L.gd,L.rp⟩
 exact vJ hn loop (T1.self Y.A 0 _ _ _ st9 loop)
end
def Rw(Y:Cx)(e:UF)(j:Nat)(tg:UF)(ifs:wf)(rd:RdB):Prop:=
 ∀(D':UD)(it:UA),∃W,RS Y.prog Y.w Y.A tg ifs Y.env it (.compLoop e j it (.ref D') Y.env) W/\Rx Y D' W rd
section
variable{Y:Cx}{elt tg i:UF}{ifs:wf}{gens:List Comprehension}{scope:Scope}{pos:Pos}{j:Nat}
theorem GR  (hx:Y.xe=nox)(hg:gens[j]?=O ⟨tg,i,ifs,0⟩)(hn:gens[j+1]?=v4)(he:∀B1 G1,PE Y elt (tD Y.K B1 G1 g)):Rw Y (.ListComp elt gens scope pos) j tg ifs (rL g):=
 λ_ _=>⟨_,jI hg hn,jF hx he⟩
theorem jD       (hx:Y.xe=nox)(hc:Y.calm=v5)(hg:gens[j]?=O ⟨tg,i,ifs,0⟩)(hn:gens[j+1]?=O ⟨wV,i1,ifs1,0⟩)(hs:∀x,UY i1 Y.env x=pure x)
  (hi:∀B1 G1,PI Y wV i1 (iD Y.K B1 G1 f)) (hgt:∀B1 G1,PG Y wV (tG Y.K B1 G1 s)) (ht:∀B1 G1,Xr Y ifs1 (tBo Y.K B1 G1 t)) (hb:Rw Y (.ListComp elt gens scope pos) (j+1) wV ifs1 rd):Rw Y (.ListComp elt gens scope pos) j tg ifs (rN f s t rd):=
 λD' _=>⟨_,jH hg hn hs,jE hx hc hn (λwz=>(Classical.choose_spec (hb D' wz)).1) hi hgt ht (λwz=>(Classical.choose_spec (hb D' wz)).2)⟩
end
noncomputable def Y6(l:Bool)(Z:U7):U7:=match l with|true=>Yh Z|false=>KT Z
theorem EH{K}{B G0 G1 H2}{σ}{Z1}{D}(l)(k1:EOk K B G0 G1 H2 σ Z1)(hfr:H2 D=v4)(n) :
  ∃Gb,EOk K (upd H2 D (.lst [])) Gb Gb (upd H2 D (.lst [])) (σ++UL n v4) (Y6 l Z1++UL n v4)/\Same G1 Gb/\Gb D=v4 /\
   ∀(G' H') vs es,(l=v5->es.all flat=v5)->Same Gb G'->Same H2 H'->Same G' H'->(∀a(u:MO),H2 a=O u.ho->Gb a=v4->G' a=v4)->G' D=v4->Reps K G' vs es->∃Gf,Ext G1 H2 Gf H'/\Gf D=v4/\Reps K Gf vs es:=by
 have gD   :=k1.gh.free hfr;cases l with
 |false=>exact⟨G1,(k1.beside gD).more n,.refl _,gD,λG' H' vs es _ g h gh np d r=>⟨G',⟨h,g,gh,np⟩,d,r⟩⟩
 |true=>exact⟨H2,k1.lend hfr n,k1.gh,hfr,λG' H' vs es fl _ h _ _ _ r=>⟨G1,⟨h,.refl _,k1.gh.trans h,λ_ _ _ n=>n⟩,gD,r.flat (fl v3)⟩⟩
noncomputable def dCG(l:Bool)(f:M wb)(k:Nat)(s:D->U7->wl)(t:M Bool)(rd:RdB):M wb:=λZ=>match f Z with
 |.bad=>.bad
 |.ok ds Z1=>match cT s t rd ds (Y6 l Z1++UL k v4) []with
  |none=>.bad
  |some (es,_)=>if l=v5->es.all flat=v5 then .ok es Z1 else .bad
theorem Nb       {Z Z'}{es}(h:dCG l f k s t rd Z=.ok es Z'):∃ds ZF,f Z=.ok ds Z'/\cT s t rd ds (Y6 l Z'++UL k v4) []=O (es,ZF)/\(l=v5->es.all flat=v5):=by
 unfold dCG at h;cases zf:f Z with
 |bad=>rw[zf]at h;cases h
 |ok ds Z1=>
 rw[zf]at h;dsimp only at h;cases zl:cT s t rd ds _ []with
 |none=>rw[zl]at h;cases h
 |some pr=>
 obtain⟨esF,ZF⟩:=pr;rw[zl]at h;dsimp only at h;split at h
 .rename_i hf
  cases h;exact⟨ds,ZF,rfl,zl,hf⟩
 .cases h
section
variable{X:Cx}{B G0:Hp}{KX:XW}
def Yn(X:Cx)(N2:List Str)(scope:Scope)(e tg:UF)(ifs:wf)(s:D->U7->wl)(t:M Bool)(rd:RdB):Prop:=
 ∀(cl:List (Str×UD))(C:UD)(s₀:UB)(H₀:Hp)(ex:wk),(∀B' G',PG (X.blk N2 scope cl C s₀ H₀ ex) tg (tG X.K B' G' s))/\(∀B' G',Xr (X.blk N2 scope cl C s₀ H₀ ex) ifs (tBo X.K B' G' t))/\Rw (X.blk N2 scope cl C s₀ H₀ ex) e 0 tg ifs rd
structure SS(SC scope:Scope)(N1 N2:List Str)(k:Nat):Prop where
 b:RT scope.names N1 N2 k=v5
 kind:scope.kind=.function
 names:∀y∈scope.names,scope.names.lookup y.1=O y.2
 free:∀y∈scope.names,y.2=.free->SC.names.lookup y.1=O .cell∨SC.names.lookup y.1=O .free
theorem Ny{l:Bool}{tg elt iter:UF}{ifs:wf}{gs:List Comprehension}{scope:Scope}{pos pos':Pos}{N2:List Str}{k:Nat}{f:M wb}{s:D->U7->wl}{t:M Bool}{rd:RdB}{use:Option (UA->Sem Unit)}{Qc:UA->UB->Prop}(hc:X.calm=v5)
  (hi:PI X tg iter (iD X.K B G0 f)) (wq:Yn X N2 scope (.ListComp elt (⟨tg,iter,ifs,0⟩::gs) scope pos) tg ifs s t rd) (hb:SS X.env.scope scope X.N N2 k) (hs:∀x,UY iter X.env x=pure x)
  {pins:List (UD×Obj)} {s0:UB} {σ:St} {G H:Hp} {Z Z1 ZF:U7} {ds esF:wb} (I:Inv X pins σ H s0) (k0:EOk X.K B G0 G H σ Z) (zf:f Z=.ok ds Z1) (zl:cT s t rd ds (Y6 l Z1++UL k v4) []=O (esF,ZF)) (hfl:l=v5->esF.all flat=v5)
  (yl:∀(C D:UD)(vs:List V)(G' H':Hp)(s4:UB)(m:Str->wj),Inv X pins σ H' s4->s4.heap.Ns C m->H' C=v4->C≠X.env.locals->X.s₀.heap.objs.size<=C->(∀x c,X.env.cells.lookup x=O c->c≠C)->(∀p∈X.pn++pins,p.1≠C) ->
   EOk X.K B G0 G' H' σ Z1->Same G G'->NewL X.K B G' H' σ Z1 D vs esF->compPost (model X.prog X.w) X.A X.xe use Qc (.ref D) C (.ok .next) s4) :
  UH (model X.prog X.w) X.A (comprehension (.ListComp elt (⟨tg,iter,ifs,0⟩::gs) scope pos) scope X.env pos' (newList []) wa (eval iter X.env) use) Qc X.xe s0:=by
 obtain⟨yD,hcl,yC,cl2⟩:=xo (scope:=scope) (env:=X.env) λy hy hf=>I.ok.has y.1 (hb.free y hy hf)
 refine wpAny_comprehension_free (use:=use) v3 hs hcl hb.kind (λy hy hl=>(hb.names y hy).trans (by rw[hl])) (thn (hi pins s0 σ H (λJ H1=>∃G1,EOk X.K B G0 G1 H1 σ Z1/\Same G G1/\X7 X.K J ds G1) I ⟨G,Z,k0,by rw[zf];exact λJ G1 H1 k1 s1 it=>⟨G1,k1,s1,it⟩⟩) λv s1 h1=>thn h1 λitv s2 h2=>?_);obtain⟨it,fp,tn,J,H2,rfl,I2,T,st2,f2,G1,k1,sg1,its⟩:=h2;refine wpAny_newObj_type (EZ yC cl2 hb.names (λx c e=>let ⟨_,q⟩:=I2.cell x c e;QH q.lt (by first|exact Qp _|(rw[JM];exact JA _))) λh₁ cl hns₁ kept hco=>?_);dsimp only at hns₁ kept hco⊢;have hfr:H2 s2.heap.objs.size=v4:=I2.hok.fresh (Qp _)
 have I3:Inv X pins σ (upd H2 s2.heap.objs.size (.lst [])) {s2 with heap:=s2.heap.push {cls:=.type "list", dict:=v4,data:=.seq ([]:we).toArray}}:=
  I2.laid (t':=s2.toks) (λb u e=>Qi _ e) (Qp _) ⟨J6 _,[],0,.nil,QA _ v3⟩
 generalize hP:s2.heap.push {cls:=.type "list", dict:=v4,data:=.seq ([]:we).toArray}=P at I3 hns₁ kept hco⊢;have old:∀b o,s2.heap.get? b=O o->P.get? b=O o:=λb o e=>hP ▸ Qi _ e;have fpo:∀b∈fp,∃o,s2.heap.get? b=O o:=λb hb=>let ⟨o,e,_⟩:=T.obj _ _ st2 b hb;⟨o,e⟩
 have fpD:∀b∈fp,b≠s2.heap.objs.size:=λb hb=>let ⟨o,e⟩:=fpo b hb;QY (Ql e)
 have f3:∀b∈fp,ZW X pins (upd H2 s2.heap.objs.size (.lst [])) b:=λb hb=>⟨by rw[Zj (fpD b hb)];exact(f2 b hb).1,(f2 b hb).2⟩
 have I4:=I3.enter (scope:=scope) (cl:=cl) (N2:=N2) (k:=k) (fp:=fp) (t':=s2.toks) hb.b hb.kind hb.free hco hns₁ kept f3 (λb hb=>let ⟨o,e⟩:=fpo b hb;⟨o,old b o e⟩);dsimp only at I4;obtain⟨Gb,kb,sgb,gbD,ex⟩:=EH l k1 hfr k;have sH:Same H2 (upd H2 s2.heap.objs.size (.lst [])):=Yi hfr;have hD3:upd H2 s2.heap.objs.size (.lst []) s2.heap.objs.size=O (.lst []):=Yd;generalize upd H2 s2.heap.objs.size (.lst [])=H3 at I3 I4 f3 kb sH hD3;generalize s2.heap.objs.size=D at *;have tn0:tn 0 h₁:=T.keep 0 _ _ st2 λb hb o e=>kept b o (old b o e)
 have stat:∀b∈fp,ZW (X.blk N2 scope cl P.objs.size {s2 with heap:=P} H3 fp) pins H3 b:=λb hb=>by
  obtain⟨z0,z1,z2,z3,z4,z5⟩:=f3 b hb;obtain⟨o,e⟩:=fpo b hb;refine⟨z0,QY (Ql (old b o e)),λz=>?_,.inl hb,λx c q=>(hco.old x c q).elim (z4 x c) λw=>JD (Nat.lt_trans (Ql (old b o e)) w.1),z5⟩;rcases QQ.mp (I3.stkSub b z)with q|q
  .exact z1 q
  .exact z2 q
 have neD:∀a o,H2 a=O o->a≠D:=λa o q z=>by subst z;rw[hfr]at q;cases q
 obtain⟨hg,ht,hcl'⟩:=wq cl P.objs.size {s2 with heap:=P} H3 fp;obtain⟨W,rule,body⟩:=hcl' D (.ref it)
 have loop:=HK (Y:=X.blk N2 scope cl P.objs.size {s2 with heap:=P} H3 fp) (D':=D)  rfl hc rule hg ht body I4 T tn0 stat kb
  ⟨λi G H s1 s2 hi=>its.go i G H (sgb.trans s1) s2 hi,λi G H s1 s2 hi=>its.stop i G H (sgb.trans s1) s2 hi,λi G H x H' d s1 s2 e y=>its.yld i G H x H' d (sgb.trans s1) s2 e y⟩ hD3 gbD .nil zl λσ' H' G' vs' s4 L=>by
   obtain⟨m,hm,_⟩:=id L.inv.loc;have I7:Inv X pins σ H' s4:=I3.call' (ch:=fp) L.inv.os L.inv.base L.inv.hok L.inv.bare λb hb=>⟨(f3 b hb).2.2.2.1,(f3 b hb).2.1,(f3 b hb).2.2.2.2.1,(f3 b hb).2.2.2.2.2⟩
   obtain⟨Gf,eF,dF,rF⟩:=ex G' H' vs' esF hfl L.gg (λa o q=>L.hh a o (neD a o q) (sH a o q)) L.eok.gh (λa o q z=>L.np a o (neD a _ q) (sH a _ q) z) L.gd L.rp
   refine yl P.objs.size D vs' Gf H' s4 m I7 hm L.inv.free (JD I3.lt) I3.sz (λx c e z=>by obtain⟨_,q⟩:=I3.cell x c e;exact absurd q.lt (by rw[z];exact Jv _)) (λp hp z=>by have:=Ql (I3.pin p hp).1;exact absurd this (by rw[z];exact Jv _))
    (k1.ext eF) (sg1.trans eF.g) ⟨k1.bh.free hfr,dF,L.hd,rF,λj es' q z=>?_,λj pt d v fp q s r=>k1.freshD eF.h hfr q s r⟩
   obtain⟨a',ws,h1',h2',h3',h4',h5'⟩:=k1.own j es' q;rw[z]at h1';cases h1';rw[hfr]at h4';cases h4'
 exact codeAny_compStart_list loop (T.self X.A 0 _ _ _ tn0 loop)
theorem Me  {tg elt iter}{ifs}{gs}{scope}{pos}{N2}{k:Nat}{f}{s}{t}{rd:RdB}(hc:X.calm=v5)
  (hi:PI X tg iter (iD X.K B G0 f)) (wq:Yn X N2 scope (.ListComp elt (⟨tg,iter,ifs,0⟩::gs) scope pos) tg ifs s t rd) (hb:SS X.env.scope scope X.N N2 k) (hs:∀x,UY iter X.env x=pure x:=by intro _;rfl) :
  PE X (.ListComp elt (⟨tg,iter,ifs,0⟩::gs) scope pos) (tL X.K B G0 (dCG l f k s t rd)):=by
 intro pins s0 σ H Q I ⟨G,Z,k0,a⟩;cases z:dCG l f k s t rd Z with
 |bad=>rw[z]at a;exact a.elim
 |ok es Z1=>
 rw[z]at a;obtain⟨ds,ZF,zf,zl,hfl⟩:=Nb z;refine Ny hc hi wq hb hs I k0 zf zl hfl λC D vs G' H' s4 m I7 hm hC hL hz hcl hp k' s' n=>?_
 exact⟨m,hm,λh' sb=>⟨.ref D,H',I7.turned   (λb o hb e=>(sb.2 b hb).trans e) hC hL (.inr hz) hcl hp,rfl,a D vs G' H' k' s' n⟩⟩
theorem sD_g{l:Bool}{y:Str}{j:Nat}{py:Pos}{spos:Pos}{tg elt iter:UF}{ifs:wf}{gs}{scope:Scope}{pos:Pos}{N2:List Str}{k:Nat}{f:M wb}{s}{t:M Bool}{rd:RdB}(hN:X.N.Nodup)(hj:X.N[j]?=O y)(hy:X.env.scope.names.lookup y=O .local)(hc:X.calm=v5)
  (hi:PI X tg iter (iD X.K B G0 f)) (wq:Yn X N2 scope (.ListComp elt (⟨tg,iter,ifs,0⟩::gs) scope pos) tg ifs s t rd) (hb:SS X.env.scope scope X.N N2 k) (hs:∀x,UY iter X.env x=pure x:=by intro _;rfl)
  (hsw:swapsWith (.ListComp elt (⟨tg,iter,ifs,0⟩::gs) scope pos) (O (.Name y py)) spos.line X.env=pure v5:=by rfl) :
  PS X (.Assign [.Name y py] (.ListComp elt (⟨tg,iter,ifs,0⟩::gs) scope pos) spos) (tS X.K B G0 KX (Zk j (dCG l f k s t rd))):=by
 intro pins s0 σ H Dn I ⟨G,Z,k0,a⟩;unfold Zk sB at a;cases z:dCG l f k s t rd Z with
 |bad=>rw[z]at a;exact a.elim
 |ok es Z1=>
 rw[z]at a;dsimp only at a;by_cases hl:j<Z1.length
 .rw[Qq hl]at a
  obtain⟨ds,ZF,zf,zl,hfl⟩:=Nb z;rw[exec_Assign_Name_used _ _ _ _ hsw];refine Qe (JF (Qe ?_));refine Qe (QL (Ny   hc hi wq hb hs I k0 zf zl hfl λC D vs G' H' s4 m I7 hm hC hL hz hcl hp k' s' n=>?_) (λ_ s' hq=>Qm (Qm hq)) λ_ _ e=>e);refine wpAny_assign_Name (NF I7 hN hj (.inl hy) (v:=.ref D) v3 (λs5 I8 ⟨ad,sb,hx⟩=>?_) (.inr hy))
  have hCa:C≠ad:=by
   rcases hx with e|e
   .rw[e];exact hL
   .exact Ne.symm (hcl y ad e)
  refine⟨m,hm.sameBut sb hCa,λh' sb'=>⟨_,H',I8.turned (t':=s5.toks) (it:=C) (λb o hb e=>(sb'.2 b hb).trans e) hC hL (.inr hz) hcl hp,?_⟩⟩;exact a _ G' H' (k'.setOwn n hl) s'
 .rw[QB hl]at a;exact a.elim
theorem Md{K}{f f'}(h:∀Z es Z',f Z=.ok es Z'->f' Z=.ok es Z'){σ}{H}{Q}(q:tL K B G0 f σ H Q):tL K B G0 f' σ H Q:=by
 obtain⟨G,Z,k,a⟩:=q;refine⟨G,Z,k,?_⟩;cases z:f Z with
 |bad=>simp_all
 |ok es Z'=>rw[z]at a;rw[h Z es Z' z];exact a
theorem ML{K}{f f'}{j}(h:∀Z es Z',f Z=.ok es Z'->f' Z=.ok es Z'){Dn}{σ}{H}(q:tS K B G0 KX (Zk j f) Dn σ H):tS K B G0 KX (Zk j f') Dn σ H:=by
 obtain⟨G,Z,k,a⟩:=q;refine⟨G,Z,k,?_⟩;unfold Zk sB at a⊢;cases z:f Z with
 |bad=>rw[z]at a;exact a.elim
 |ok es Z'=>rw[z]at a;rw[h Z es Z' z];exact a
end
theorem P7    : ∀{ds}{Z:U7}{es esF},Zp s t g ds Z es=O esF->∃ZF,cT s t (rL g) ds Z es=O (esF,ZF)
 |[],Z,es,esF,h=>by cases h;exact⟨Z,rfl⟩
 |d::r,Z,es,esF,h=>by
  rw[Zp]at h;rw[cT];cases zs:s d Z with
  |none=>rw[zs]at h;cases h
  |some Z1=>
  rw[zs]at h;dsimp only at h⊢;cases zt:t Z1 with
  |bad=>rw[zt]at h;cases h
  |ok b Z2=>
  rw[zt]at h;dsimp only at h⊢;cases b with
  |false=>exact P7  h
  |true=>
   rw[Qq v3]at h⊢;unfold rL;cases zg:g Z2 with
   |bad=>rw[zg]at h;cases h
   |ok e Z3=>
   rw[zg]at h;dsimp only at h⊢;split at h
   .rename_i hl
    rw[Qq hl];exact P7  h
   .cases h
theorem Oa    : ∀{ds}{Z}{es},YZ s t g ds Z es=cT s t (rL g) ds Z es
 |[],Z,es=>rfl
 |d::r,Z,es=>by
  rw[YZ,cT];cases s d Z with
  |none=>rfl
  |some Z1=>
  dsimp only;cases t Z1 with
  |bad=>rfl
  |ok b Z2=>
  dsimp only;cases b with
  |false=>exact Oa
  |true=>
   rw[Qq v3,Qq v3];unfold rL;cases g Z2 with
   |bad=>rfl
   |ok e Z3=>
   dsimp only;split
   .exact Oa
   .rfl
theorem P9{s s1}{t t1}{f}{Rd}{rd}(hR:∀ds Z es,Rd ds Z es=cT s1 t1 rd ds Z es) :
  ∀{ds}{Z}{es},XB s t f Rd ds Z es=cT s t (rN f s1 t1 rd) ds Z es
 |[],Z,es=>rfl
 |d::r,Z,es=>by
  rw[XB,cT];cases s d Z with
  |none=>rfl
  |some Z1=>
  dsimp only;cases t Z1 with
  |bad=>rfl
  |ok b Z2=>
  dsimp only;cases b with
  |false=>exact P9 hR
  |true=>
   rw[Qq v3,Qq v3];unfold rN;cases f Z2 with
   |bad=>rfl
   |ok ds Z3=>
   dsimp only;rw[hR];cases cT s1 t1 rd ds _ es with
   |none=>rfl
   |some pr=>exact P9 hR
theorem NP  {t t1}{f}{g:M D}:∀{ds:wb}{Z:U7}{es esF:wb},WM s t f s1 t1 g ds Z es=O esF->∃ZF,cT s t (rN f s1 t1 (rL g)) ds Z es=O (esF,ZF)
 |[],Z,es,esF,h=>by cases h;exact⟨Z,rfl⟩
 |d::r,Z,es,esF,h=>by
  rw[WM]at h;rw[cT];cases zs:s d Z with
  |none=>rw[zs]at h;cases h
  |some Z1=>
  rw[zs]at h;dsimp only at h⊢;cases zt:t Z1 with
  |bad=>rw[zt]at h;cases h
  |ok b Z2=>
  rw[zt]at h;dsimp only at h⊢;cases b with
  |false=>exact NP  h
  |true=>
   rw[Qq v3]at h⊢;unfold rN;cases zg:f Z2 with
   |bad=>rw[zg]at h;cases h
   |ok ds Z3=>
   rw[zg]at h;dsimp only at h⊢;rw[←Oa];cases zl:YZ s1 t1 g ds _ es with
   |none=>rw[zl]at h;cases h
   |some pr=>rw[zl]at h;exact NP  h
theorem HJ      (Z)(es)(Z')(h:ZC f k s t g Z=.ok es Z'):dCG wa f k s t (rL g) Z=.ok es Z':=by
 unfold ZC at h;unfold dCG;cases zf:f Z with
 |bad=>simp_all
 |ok ds Z1=>
 rw[zf]at h;dsimp only[Y6]at h⊢;cases zl:Zp s t g ds _ []with
 |none=>rw[zl]at h;cases h
 |some esF=>
 obtain⟨ZF,e⟩:=P7 zl;simp_all
theorem jC      (Z)(es)(Z')(h:RL f k s t g Z=.ok es Z'):dCG v5 f k s t (rL g) Z=.ok es Z':=by
 unfold RL at h;unfold dCG;cases zf:f Z with
 |bad=>simp_all
 |ok ds Z1=>
 rw[zf]at h;dsimp only[Y6]at h⊢;cases zl:Zp s t g ds _ []with
 |none=>rw[zl]at h;cases h
 |some esF=>
 rw[zl]at h;dsimp only at h;split at h
 .rename_i hf
  cases h;obtain⟨ZF,e⟩:=P7 zl;rw[e];exact Qq λ_=>hf
 simp_all
theorem jB  {k}{s s1}{t t1}{g}(Z)(es)(Z')(h:RK f k s t f1 s1 t1 g Z=.ok es Z'):dCG wa f k s t (rN f1 s1 t1 (rL g)) Z=.ok es Z':=by
 unfold RK at h;unfold dCG;cases zf:f Z with
 |bad=>simp_all
 |ok ds Z1=>
 rw[zf]at h;dsimp only[Y6]at h⊢;cases zl:WM s t f1 s1 t1 g ds _ []with
 |none=>rw[zl]at h;cases h
 |some esF=>
 obtain⟨ZF,e⟩:=NP zl;simp_all
theorem jA  {k}{s s1 s2}{t t1 t2}{g}(Z)(es)(Z')(h:RJ f k s t f1 s1 t1 f2 s2 t2 g Z=.ok es Z'):dCG wa f k s t (rN f1 s1 t1 (rN f2 s2 t2 (rL g))) Z=.ok es Z':=by
 unfold RJ at h;unfold dCG;cases zf:f Z with
 |bad=>simp_all
 |ok ds Z1=>
 rw[zf]at h;dsimp only[Y6,TN]at h⊢;rw[P9 λ_ _ _=>P9 λ_ _ _=>Oa]at h;cases zl:cT s t _ ds _ []with
 |none=>simp_all
 |some pr=>
 simp_all
noncomputable def WL(q:Option NameKind->Bool)(SC scope:Scope)(N1 N2:List Str)(k:Nat):Bool:=
 RT scope.names N1 N2 k&&decide (scope.kind=.function)&&(scope.names.all λy=>decide (scope.names.lookup y.1=O y.2))&&scope.names.all λy=>match y.2 with
  |.free=>q (SC.names.lookup y.1)
  |_=>v5
noncomputable def V5:Option NameKind->Bool
 |some .cell=>v5|some .free=>v5|_=>wa
theorem Fl  {SC SC' scope}{N1 N2}{k}(h:WL q SC scope N1 N2 k=v5)(f:∀x,q (SC.names.lookup x)=v5->SC'.names.lookup x=O .cell∨SC'.names.lookup x=O .free):SS SC' scope N1 N2 k:=by unfold WL at h;rw[QI,QI,QI,Jf,Jf]at h;obtain⟨⟨⟨h1,h2⟩,h0⟩,h3⟩:=h;refine⟨h1,Qa h2,λy hy=>Qa (h0 y hy),λy hy e=>?_⟩;have:=h3 y hy;rw[e]at this;exact f _ this
theorem Na    (h:WL V5 SC scope N1 N2 k=v5):SS SC scope N1 N2 k:=Fl h λx e=>by
 cases z:SC.names.lookup x with
 |none=>rw[z]at e;cases e
 |some y=>rw[z]at e;cases y<;>first|exact .inl rfl|exact .inr rfl|cases e
section
variable{X:Cx}{B G0:Hp}{KX:XW}
theorem EG  {tg elt iter}{ifs}{gs}{scope}{pos}{f}{s}{t}{rd}{F}(SC)(N1 N2)(k)(le:∀Z es Z',F Z=.ok es Z'->dCG l f k s t rd Z=.ok es Z')(hc:X.calm=v5)
  (hi:PI X tg iter (iD X.K B G0 f)) (wq:Yn X N2 scope (.ListComp elt (⟨tg,iter,ifs,0⟩::gs) scope pos) tg ifs s t rd) (h1:X.env.scope=SC) (h2:X.N=N1) (hb:WL V5 SC scope N1 N2 k=v5) (hs:∀x,UY iter X.env x=pure x:=by intro _;rfl) :
  PE X (.ListComp elt (⟨tg,iter,ifs,0⟩::gs) scope pos) (tL X.K B G0 F):=
 KM (Me hc hi wq (by rw[h1,h2];exact Na hb) hs) λ_ _ _ q=>Md le q
theorem sD_1   {j:Nat}{py:Pos}{spos:Pos}{tg elt iter:UF}{ifs}{gs}{scope}{pos:Pos}{f}{s}{t}{rd:RdB}{F}(SC:Scope)(N1 N2)(k:Nat)(le:∀Z es Z',F Z=.ok es Z'->dCG l f k s t rd Z=.ok es Z')(hN:X.N.Nodup)(hj:X.N[j]?=O y)(hy:X.env.scope.names.lookup y=O .local)(hc:X.calm=v5)
  (hi:PI X tg iter (iD X.K B G0 f)) (wq:Yn X N2 scope (.ListComp elt (⟨tg,iter,ifs,0⟩::gs) scope pos) tg ifs s t rd) (h1:X.env.scope=SC) (h2:X.N=N1) (hb:WL V5 SC scope N1 N2 k=v5) (hs:∀x,UY iter X.env x=pure x:=by intro _;rfl)
  (hsw:swapsWith (.ListComp elt (⟨tg,iter,ifs,0⟩::gs) scope pos) (O (.Name y py)) spos.line X.env=pure v5:=by rfl) :
  PS X (.Assign [.Name y py] (.ListComp elt (⟨tg,iter,ifs,0⟩::gs) scope pos) spos) (tS X.K B G0 KX (Zk j F)):=
 ZU (sD_g hN hj hy hc hi wq (by rw[h1,h2];exact Na hb) hs hsw) λ_ _ _ q=>ML le q
theorem EX   {cl}{C:UD}{s₀}{H₀:Hp}{ex}{N2}{tg elt iter:UF}{ifs}{gs}{scope:Scope}{pos:Pos}{f}{s}{t}{rd:RdB}{F}(N3)(k:Nat)(le:∀Z es Z',F Z=.ok es Z'->dCG l f k s t rd Z=.ok es Z')(hc:X.calm=v5)
  (hi:PI (X.blk N2 scope0 cl C s₀ H₀ ex) tg iter (iD X.K B G0 f)) (wq:Yn (X.blk N2 scope0 cl C s₀ H₀ ex) N3 scope (.ListComp elt (⟨tg,iter,ifs,0⟩::gs) scope pos) tg ifs s t rd) (hb:WL V5 scope0 scope N2 N3 k=v5) (hs:∀x,UY iter (X.blk N2 scope0 cl C s₀ H₀ ex).env x=pure x:=by intro _;rfl) :
  PE (X.blk N2 scope0 cl C s₀ H₀ ex) (.ListComp elt (⟨tg,iter,ifs,0⟩::gs) scope pos) (tL X.K B G0 F):=by
 refine KM (Me  hc hi wq (Fl hb λx e=>?_) hs) λ_ _ _ q=>Md le q
 cases z:scope0.names.lookup x with
 |none=>rw[z]at e;cases e
 |some y=>
  rw[z]at e;cases y with
  |free=>exact(N9  z).symm
  |cell=>exact .inl (Th (by decide) z)
  |_=>cases e
end
theorem qR   {s yv s2'}{t t1' t2'}{f1 f2}{g}{Z Z1 Z2}{ds es}(h1:f Z=.ok ds Z1)(h2:XB s t f1 (XB yv t1' f2 (YZ s2' t2' g)) ds (KT Z1++UL k v4) []=O (es,Z2)) :
  RJ f k s t f1 yv t1' f2 s2' t2' g Z=.ok es Z1:=by
 unfold RJ;dsimp only[TN];simp_all
section
variable{X:Cx}{B G0:Hp}{e a b c tg:UF}{pos:Pos}{es rest:wf}
theorem EOk.given{K}{G H:Hp}{σ:St}{Z:U7}{a:UD}{vs}{ds:wb}(k:EOk K B G0 G H σ Z)(n:NewL K B G H σ Z a vs ds):EOk K B G0 (upd G a (.lst vs)) H σ Z where
 bh:=k.bh
 gh:=λb u q=>by
  by_cases z:b=a
  .subst z;rw[Yd]at q;cases q;exact n.h
  .rw[Zj z]at q;exact k.gh b u q
 g0:=k.g0.trans (Yi n.g)
 np:=λb o q z=>by
  have zb:b≠a:=λz=>by subst z;rw[n.b]at q;cases q
  rw[Zj zb];exact k.np b o q z
 len:=k.len
 pub:=λi d q=>let ⟨v,h1,h2⟩:=k.pub i d q;⟨v,h1,h2.mono (Yi n.g)⟩
 own:=λi ds q=>by
  obtain⟨b,ws,h1,h2,h3,h4,h5⟩:=k.own i ds q;have zb:b≠a:=λz=>by subst z;exact n.f i ds q h1
  exact⟨b,ws,h1,h2,by rw[Zj zb];exact h3,h4,h5.mono (Yi n.g)⟩
 sep:=k.sep
 dp:=k.dp.map (λ_ _ _ q=>⟨q,rfl⟩) (λ_ ds q=>⟨ds,q,rfl⟩) λi p d v fp q s r w nn=>⟨r.mono (Yi n.g) (.refl _),λb m=>⟨(w b m).1,by rw[Zj (λz=>n.dp i p d v fp q s r (by rw[←z];exact m))];exact(w b m).2⟩⟩
theorem CM  (h:PE X e (tL X.K B G0 f)):PE X e (tD X.K B G0 (Ke UM f)):=
 KM h λσ H Q ⟨G,Z,k,a⟩=>by
  refine⟨G,Z,k,?_⟩;unfold Ke Kp at a;cases z:f Z with
  |bad=>rw[z]at a;exact a.elim
  |ok ds Z1=>rw[z]at a;intro ad vs G' H' k' s' n;exact a _ _ H' (k'.given n) (s'.trans (Yi n.g)) (.lst (SqL.of Yd) (n.r.mono (Yi n.g)))
theorem qQ(hc:X.calm=v5):YS X (.builtin "all") (λxs H Q=>∃l,∃bs:List Bool,xs=[.ref l]/\SqL X.K H l (bs.map V.bl)/\Q (.bl (bs.all id)) H):=by
 intro pins s σ H xs us Q I rx h;obtain⟨l,bs,rfl,hq,q⟩:=h;obtain⟨u,rfl,ru⟩:=rx.one;cases ru;obtain⟨its,rv,p,hz⟩:=I.list hq;have hl:=p.isList;have hlt:l<s.heap.objs.size:=by obtain⟨_,e,_⟩:=id hl;exact Ql e
 have key:∀(i:Nat) v,its.toArray[i]?=O v->∃t,bs[i]?=O t/\v=.bool t:=λi v e=>by
  have e   :=by simpa using e
  have hi:i<bs.length:=by
   have:=(Qg.mp e).1;have h2:=rv.length;rw[Qb]at h2
   lia
  obtain⟨u,e2,r2⟩:=rv.get (i:=i) (x:=.bl bs[i]) (by rw[Qf,Qd hi];rfl);rw[e]at e2;cases e2;exact⟨bs[i],Qd hi,r2⟩
 refine call_all_walk (JN hl ?_)
 refine⟨s.heap.objs.size,[s.heap.objs.size,l],[s.heap.objs.size],its.toArray.size,_,_,λi=>(bs[i]?).getD v5,rfl,Walks.list (A:=X.A.in1) (I.ok.hd hc) _ l (QY hlt) its.toArray,
  ⟨⟨_,QA _ v3,rfl,rfl⟩,hl.push _⟩,λi v s' Q' E' hP hQ=>?_,λh' tk hk=>?_⟩
 .obtain⟨b,e,rfl⟩:=key i v hP
  simp only[e]at hQ;exact Q5 hQ
 .have hn:its.toArray.size=bs.length:=by have:=rv.length;rw[List.length_map]at this;simp;lia
  have e:((UK its.toArray.size).all λi=>(bs[i]?).getD v5)=bs.all id:=by
   rw[hn,Ub,Jf,Jf];constructor
   .intro h b hb
    obtain⟨i,hi,e⟩:=List.getElem_of_mem hb;have:=h i (Q3.mpr hi);simp only[Qd hi,Option.getD_some,e]at this;exact this
   .intro h i hi
    have hi':=Q3.mp hi;simp only[Qd hi',Option.getD_some];exact h _ (Jq hi')
  rw[e];exact⟨.bl (bs.all id),H,I.kept (t':=tk) λb x e=>hk b x (λhm=>by rw[QM.mp hm]at e;exact Jv _ (Ql e)) (Qi _ e),rfl,q⟩
noncomputable def Tg:wb->Option (List Bool)
 |[]=>O []
 |.bool b::r=>(Tg r).map (b :: ·)
 |_=>v4
theorem FC{K}{G}:∀{vs}{ds}{bs},Reps K G vs ds->Tg ds=O bs->vs=bs.map V.bl
 |_,_,bs,.nil,e=>by cases e;rfl
 |_,_,bs,.cons (d:=d) r t,e=>by
  cases d with
  |bool b=>
   unfold Tg at e;cases z:Tg _ with
   |none=>rw[z]at e;cases e
   |some cs=>rw[z]at e;cases e;rw[r.bl_inv,FC t z];rfl
  |_=>cases e
noncomputable def Yv:wb->wd
 |[.list ds]=>(Tg ds).map λbs=>.bool (bs.all id)
 |_=>v4
theorem EF(hc:X.calm=v5):YW X (.builtin "all") Yv:=by
 refine⟨_,qQ hc,λvs G H ds d Q s r e k=>?_⟩;unfold Yv at e;split at e
 .rename_i ds
  cases z:Tg ds with
  |none=>simp_all
  |some bs=>rw[z]at e;cases e;obtain⟨v,rfl,q⟩:=r.one_inv;obtain⟨l,ws,rfl,h1,r1⟩:=q.lst_inv;have hw:=FC r1 z;subst hw;exact⟨l,bs,rfl,s.seq h1,k _ G H (.refl s) (.bl _)⟩
 simp_all
noncomputable def Its(x:Str):It:=⟨λi _=>i<x.cps.size,λi H v H'=>H'=H/\∃c,x.cps[i]?=O c/\v=.str ⟨#[c]⟩,λi _=>x.cps.size<=i⟩
theorem qP{P:UC}{w:World}{K:Frag}{tg:UF}(x:Str)(t:Tok)(it:UD):Turn P w K tg (Its x) [it] it (λi h=>h.IsStrIter it (strIterType x) x t i) where
 mem:=by simp
 obj:=λi h st b hb=>by
  have e:b=it:=by simpa using hb
  subst e;obtain⟨o,e,c,d⟩:=st;exact⟨o,e,λv z=>by rw[d]at z;cases z⟩
 keep:=λi h h' st k=>by obtain⟨o,e,c,d⟩:=st;exact⟨o,k it (by simp) o e,c,d⟩
 item:=by
  intro X hP hw hK hc i pins s σ H E I hf st hg;subst hP hw hK;obtain⟨f0,f1,f2,f3,f4,f5⟩:=hf it (by simp);have hx:x.cps[i]?=O x.cps[i]:=Array.getElem?_eq_getElem hg
  have fin:∀h' tk(T:String),strIterType x=T->h'.IsStrIter it T x t (i+1)->Heap.SameBut it s.heap h'->["enumerate", "zip", "dict_itemiterator", "dict_reverseitemiterator", "odict_iterator", "itertools.zip_longest", "itertools.pairwise"].contains T=wa ->
    ∃u,O (Value.str ⟨#[x.cps[i]]⟩ s.toks)=O u/\UH (model X.prog X.w) X.A (letOwnedTupleGo tg (.ref it) u) (λ_ s2=>∃v H',Inv X pins σ H' s2/\RelV v u/\(Its x).yld i H v H'/\s2.heap.IsStrIter it (strIterType x) x t (i+1)/\∀b∈[it],H' b=v4) E {s with heap:=h',toks:=tk}:=by
   intro h' tk T eT st' sb hn;have I1   :=I.turned (t':=tk) (λb o hb e=>(sb.2 b hb).trans e) f0 f1 f3 f4 f5;obtain⟨o,e,c,d⟩:=id st';refine⟨_,rfl,Rz  e c d hn ⟨.str ⟨#[x.cps[i]]⟩,H,I1,⟨_,rfl⟩,⟨rfl,_,hx,rfl⟩,by rw[eT];exact st',λb hb=>(hf b hb).1⟩⟩
  cases ha:x.cps.all (· < 128)with
  |true=>
   have eT:strIterType x = "str_ascii_iterator" :=by simp[strIterType,ha]
   rw[eT]at st;exact wpAny_pyNext_ascii_item st hx λh' st' sb=>fin h' _ _ eT st' sb (by decide)
  |false=>
   have eT:strIterType x = "str_iterator" :=by simp[strIterType,ha]
   rw[eT]at st;exact wpAny_pyNext_wide_item st hx λh' st' sb=>fin h' _ _ eT st' sb (by decide)
 done:=by
  intro X hP hw hK hc i pins s σ H E I hf st hg;subst hP hw hK;obtain⟨f0,f1,f2,f3,f4,f5⟩:=hf it (by simp);have hx:x.cps[i]?=v4:=Array.getElem?_eq_none hg;cases ha:x.cps.all (· < 128)with
  |true=>
   have eT:strIterType x = "str_ascii_iterator" :=by simp[strIterType,ha]
   rw[eT]at st;exact wpAny_pyNext_ascii_end (I.ok.hd hc) st hx λh' eb=>⟨rfl,I.turned (t':=s.toks) (λb o hb e=>eb b o hb e) f0 f1 f3 f4 f5⟩
  |false=>
   have eT:strIterType x = "str_iterator" :=by simp[strIterType,ha]
   rw[eT]at st;exact wpAny_pyNext_wide_end (I.ok.hd hc) st hx λh' eb=>⟨rfl,I.turned (t':=s.toks) (λb o hb e=>eb b o hb e) f0 f1 f3 f4 f5⟩
 self:=λA i s Q E st h=>by
  cases ha:x.cps.all (· < 128)with
  |true=>
   have eT:strIterType x = "str_ascii_iterator" :=by simp[strIterType,ha]
   rw[eT]at st;exact wpAny_pyIter_striter_ascii st h
  |false=>
   have eT:strIterType x = "str_iterator" :=by simp[strIterType,ha]
   rw[eT]at st;exact wpAny_pyIter_striter_wide st h
noncomputable def iAny(K:Frag)(tl:TE):TI:=λσ H R=>tl σ H λx H1=>(∃a,x=.ref a/\(∃xs,SqL K H1 a xs)/\R (Itl K a) H1)∨(∃a,x=.ref a/\(∃xs,SqT K H1 a xs)/\R (Itt K a) H1) ∨ ∃z,x=.str z/\R (Its z) H1
theorem EW{l:UF}{tl:TE}(hl:PE X l tl):PI X tg l (iAny X.K tl):=by
 intro pins s σ H R I h;refine thn (hl pins s σ H _ I h) λv s1 ⟨x,H1,I1,r1,q1⟩=>?_
 have fpOk:∀b∈[s1.heap.objs.size],ZW X pins H1 b:=λb hb=>by
  have e   :=by simpa using hb
  subst e;exact I1.fpOk (Qp _) (I1.hok.fresh (Qp _))
 rcases q1 with ⟨a,e,⟨xs,hq⟩,q⟩|⟨a,e,⟨xs,hq⟩,q⟩|⟨z,e,q⟩
 .subst e
  cases r1;obtain⟨its,rv,p,hz⟩:=I1.list hq;refine JN p.isList ?_;exact⟨s1.heap.objs.size,[s1.heap.objs.size],_,_,H1,rfl,I1.kept (t':=s1.toks) λb o e=>Qi _ e,ke a _,⟨_,QA _ v3,rfl,rfl⟩,fpOk,q⟩
 .subst e
  cases r1;obtain⟨its,rv,p,hz⟩:=I1.tuple hq;refine wpAny_pyIter_tuple p ?_;exact⟨s1.heap.objs.size,[s1.heap.objs.size],_,_,H1,rfl,I1.kept (t':=s1.toks) λb o e=>Qi _ e,xC a _,⟨_,QA _ v3,rfl,rfl⟩,fpOk,q⟩
 .subst e
  obtain⟨t,rfl⟩:=r1;refine wpAny_pyIter_strU ?_;exact⟨s1.heap.objs.size,[s1.heap.objs.size],_,_,H1,rfl,I1.kept (t':=s1.toks) λb o e=>Qi _ e,qP z t _,⟨_,QA _ v3,rfl,rfl⟩,fpOk,q⟩
noncomputable def RI(z:Str):wb:=z.cps.toList.map λc=>.str ⟨#[c]⟩
noncomputable def O9:D->Option wb
 |.list ds=>O ds
 |.tuple ds=>O ds
 |.str z=>O (RI z)
 |_=>v4
theorem vj{K}{G1}{ad}{vs}{ds}(h:SqT K G1 ad vs)(r:Reps K G1 vs ds):X7 K (Itt K ad) ds G1 where
 go:=λi G H s1 s2 hi=>by
  have hi':i<vs.length:=by rw[r.length];simp_all
  exact⟨vs,vs[i],Xd (s1.trans s2) h,Qd hi'⟩
 stop:=λi G H s1 s2 hi=>⟨vs,Xd (s1.trans s2) h,by rw[r.length];simp_all⟩
 yld:=λi G H x H' d s1 s2 e y=>by obtain⟨rfl,y⟩:=y;obtain⟨v,e1,r1⟩:=r.get e;have:=y vs (Xd (s1.trans s2) h);rw[e1]at this;cases this;exact⟨G,.refl s2,r1.mono s1⟩
theorem jz{K}{G1}{z}:X7 K (Its z) (RI z) G1 where
 go:=λi G H s1 s2 hi=>by unfold RI at hi;simpa[Its]using hi
 stop:=λi G H s1 s2 hi=>by unfold RI at hi;simpa[Its]using hi
 yld:=λi G H x H' d s1 s2 e y=>by
  obtain⟨rfl,c,hc,rfl⟩:=y;unfold RI at e;rw[Qf]at e;have:z.cps.toList[i]?=O c:=by simp_all
  rw[this]at e;cases e;exact⟨G,.refl s2,.str _⟩
noncomputable def K8(f:M D):M wb:=Kp f λx=>Kq (O9 x)
theorem OK  (h:PE X e (tD X.K B G0 f)):PI X tg e (iD X.K B G0 (K8 f)):=XS (EW h) λσ H R q=>tM.toI  q λv H' G' Z' x k r a=>by
 cases x with
 |list ds=>obtain⟨ad,vs,rfl,h1,r1⟩:=r.lst_inv;exact .inl ⟨ad,rfl,⟨vs,k.gh.seq h1⟩,a _ G' H' k (.refl _) (xq h1 r1)⟩
 |tuple ds=>obtain⟨ad,vs,rfl,h1,r1⟩:=r.tup_inv;exact .inr (.inl ⟨ad,rfl,⟨vs,Xd k.gh h1⟩,a _ G' H' k (.refl _) (vj h1 r1)⟩)
 |str z=>have:=r.str_inv;subst this;exact .inr (.inr ⟨z,rfl,a _ G' H' k (.refl _) jz⟩)
 |_=>exact a.elim
noncomputable def inS(i j:Str):Bool:=!(Builtin.Str.occurrences j i 0 j.length 1).isEmpty
noncomputable def oInS:D->D->wp
 |.str i,.str j=>O (inS i j)
 |_,_=>v4
noncomputable def Mc:D->D->wp
 |.str i,.str j=>O (!inS i j)
 |_,_=>v4
theorem EE:OpB X (UJ .In) oInS:=⟨_,kR,λv u G H x y d Q s rx ry e k=>by
 unfold oInS at e;split at e
 .cases e
  have:=rx.str_inv;subst this;have:=ry.str_inv;subst this;exact⟨_,_,rfl,rfl,k⟩
 simp_all⟩
theorem EV:OpB X (UJ .NotIn) Mc:=⟨_,vD,λv u G H x y d Q s rx ry e k=>by
 unfold Mc at e;split at e
 .cases e
  have:=rx.str_inv;subst this;have:=ry.str_inv;subst this;exact⟨_,_,rfl,rfl,k⟩
 simp_all⟩
theorem ED   (hg:Gl X x)(hm:∃t,X.mg x=O (.int i t))(hd:(x==("__debug__" : Str))=wa:=by decide):PE X (.Name x pos) (tD X.K B G0 (U3 (.int i))):=by obtain⟨t,hm⟩:=hm;exact KM (L1 (v:=.int i) hg hm ⟨t,rfl⟩ hd) λσ H Q ⟨G,Z,k,a⟩=>aft.now a k (.int _)
end
section
variable{X:Cx}{B G0:Hp}{KX:XW}{e o a b c tg i:UF}{pos p2:Pos}{es rest:wf}{te to ti:TE}
noncomputable def EU(te to ti:TE):TS:=λD σ H=>te σ H λv H1=>to σ H1 λx H2=>ti σ H2 λk H3=>∃l xs n,x=.ref l/\H3 l=O (.lst xs)/\k=.int n/\0<=n/\n<xs.length/\D.nx σ (upd H3 l (.lst (xs.set n.toNat v)))
theorem qO(he:PE X e te)(ho:PE X o to)(hi:PE X i ti)(hs:swapsWith e (O (.Subscript o i p2)) pos.line X.env=pure wa:=by rfl):PS X (.Assign [.Subscript o i p2] e pos) (EU te to ti):=by
 intro pins s σ H D I h;refine wpAny_Assign_Subscript (thn (he pins s σ H _ I h) λv s1 ⟨x,H1,I1,r1,q1⟩=>thn (ho pins s1 σ H1 _ I1 q1) λov s2 ⟨y,H2,I2,r2,q2⟩=>thn (hi pins s2 σ H2 _ I2 q2) λiv s3 ⟨k,H3,I3,r3,q3⟩=>?_) hs;obtain⟨l,xs,n,rfl,hl,rfl,h0,h1,q⟩:=q3;cases r2;obtain⟨t,rfl⟩:=r3;obtain⟨z,its,m,r,hlen,ee⟩:=I3.lstM hl
 refine PySem.W.ki_setAt (items:=its.toArray) (n:=m) ee h0 (by
                                  have:UG<2 ^ 63:=by decide
                                  lia) (by simp;lia) ?_
 refine⟨σ,_,I3.lset     hl ee (by simp) (r.set r1 n.toNat) (by rw[List.length_set];exact z),q⟩
noncomputable def WF(j:Nat)(g f:M D):SM:=sB f λd Z1=>match Z1[j]? with
 |some (O (.own _))=>sB g (λy Z2=>match y with
  |.int k=>(match Z2[j]? with
   |some (O (.own ds))=>if 0<=k/\k<ds.length then .nx (Z2.set j (O (.own (ds.set k.toNat d))))else .bad
   |_=>.bad)
  |_=>.bad) Z1
 |_=>.bad
theorem LK  {f g:M D}(he:PE X e (tD X.K B G0 f))(ho:PE X o (Ye j))(hi:PE X i (tD X.K B G0 g))(hs:swapsWith e (O (.Subscript o i p2)) pos.line X.env=pure wa:=by rfl) :
  PS X (.Assign [.Subscript o i p2] e pos) (tS X.K B G0 KX (WF j g f)):=
 ZU (qO he ho hi hs) λD σ H q=>tS.bnd  q λv H1 G1 Z1 d k r a=>by
  cases q0:Z1[j]? with
  |none=>rw[q0]at a;exact a.elim
  |some o0=>
   cases o0 with
   |none=>rw[q0]at a;exact a.elim
   |some sl0=>
    cases sl0 with
    |deep _ _=>rw[q0]at a;exact a.elim
    |pub d=>rw[q0]at a;exact a.elim
    |own wR=>
     rw[q0]at a;obtain⟨ad,vs0,h1,h2,h3,h4,h5⟩:=k.own j wR q0;refine⟨.ref ad,h1,G1,Z1,k,?_⟩;dsimp only at a;unfold sB at a;cases z:g Z1 with
     |bad=>rw[z]at a;exact a.elim
     |ok y Z2=>
      rw[z]at a;dsimp only at a;intro kv G' H' k' s' r';cases y with
      |int n=>
       cases q:Z2[j]? with
       |none=>rw[q]at a;exact a.elim
       |some oo=>
        cases oo with
        |none=>rw[q]at a;exact a.elim
        |some sl=>
         cases sl with
         |deep _ _=>rw[q]at a;exact a.elim
         |pub d=>rw[q]at a;exact a.elim
         |own ds=>
          rw[q]at a;dsimp only at a;split at a
          .rename_i hn
           obtain⟨ad',vs,g1,g2,g3,g4,g5⟩:=k'.own j ds q;rw[h1]at g1;cases g1;refine⟨ad,vs,n,rfl,g4,r'.int_inv,hn.1,by rw[g5.length];exact hn.2,?_⟩;exact a σ G' _ (k'.change q h1 (g5.set (r.mono s') n.toNat)) s'
          .exact a.elim
      |_=>exact a.elim
noncomputable def XX(z:Str)(lo hi:wg):Str:=if(Builtin.Str.strSliceIndices lo hi 1 z.length).length=z.length then z else⟨((Builtin.Str.strSliceIndices lo hi 1 z.length).filterMap (z.cps[·]?)).toArray⟩
theorem ET:SlR X (λx lo hi H Q=>∃z,x=.str z/\(XX z lo hi).length<=UG/\Q (.str (XX z lo hi)) H):=by
 intro pins s σ H x v vl vu lo hi sl Q I rx hs pl pu h;obtain⟨z,rfl,hz,q⟩:=h;obtain⟨t,rfl⟩:=rx;refine⟨"str", _,F.slot_str_getitem.lookup,typeIs_str s z t,?_⟩
 obtain⟨l,el,e1⟩:∃l:Option (Int×Tok),vl=partValue l/\l.map (·.1)=lo:=by
  cases pl with
  |none=>exact⟨v4,rfl,rfl⟩
  |int k t'=>exact⟨O (k,t'),rfl,rfl⟩
 obtain⟨u,eu,e2⟩:∃u:Option _,vu=partValue u/\u.map (·.1)=hi:=by
  cases pu with
  |none=>exact⟨v4,rfl,rfl⟩
  |int k t'=>exact⟨O (k,t'),rfl,rfl⟩
 subst el eu;refine wpAny_getItem_str_slice (l:=l) (u:=u) (st:=v4) hs v3 ?_;unfold sliceMade slicePicked;rw[e1,e2];unfold XX at hz q;by_cases hw:(Builtin.Str.strSliceIndices lo hi 1 z.length).length=z.length
 .rw[Qq hw]at hz q
  rw[if_pos (by simp[hw])];exact⟨.str z,H,I,⟨t,rfl⟩,q⟩
 .rw[QB hw]at hz q
  rw[if_neg (by simp[hw])];exact⟨hz,.str _,H,I.tok _,⟨_,rfl⟩,q⟩
end
section
variable{X:Cx}{B G0:Hp}{KX:XW}{e o a b c tg i:UF}{pos p2:Pos}{es rest:wf}{te to ti:TE}
theorem pvb(i){x}{pos}{N'}{scope}{cl}{C}{s₀}{H₀}{ex}(hN:N'[i]?=O x:=by rfl)
  (h:visK (scope.names.lookup x)=v5:=by rfl) (hd:(x==("__debug__" : Str))=wa:=by decide) (hcd:(x==("__classdict__" : Str))=wa:=by decide) :
  PE (X.blk N' scope cl C s₀ H₀ ex) (.Name x pos) (Ye i):=M0 hN (CO h) hd hcd
noncomputable def YI:D->wg->wg->wd
 |.list xs,lo,hi=>O (.list (DL.cutD xs lo hi))
 |.str z,lo,hi=>if(XX z lo hi).length<=1000000 then O (.str (XX z lo hi))else v4
 |_,_,_=>v4
noncomputable def ZG(f:M D)(lo hi:M wg):M D:=Kp f λx=>Kp lo λl=>Kp hi λh=>Kq (YI x l h)
theorem xn{lo hi:Option UF}{f:M D}{l h}(he:PE X e (tD X.K B G0 f))(hl:PO X lo (tOi X.K B G0 l))(hu:PO X hi (tOi X.K B G0 h)) :
  PE X (.Subscript e (.Slice lo hi v4 p2) pos) (tD X.K B G0 (ZG f l h)):=
 KM (qF (BP.or ET) he hl hu) λσ H Q q=>by
  refine tM.one (R:=Rep X.K) q λv H2 G Z x k r a=>?_;refine tM.nx  k a λl' H3 G3 Z3 xl k3 s3 r3 a3=>?_;refine tM.nx  k3 a3 λh' H4 G4 Z4 xh k4 s4 r4 a4=>?_;subst r3 r4;unfold Kq YI at a4
  cases x with
  |list xs=>obtain⟨ad,vs,rfl,h1,r1⟩:=((r.mono s3).mono s4).lst_inv;exact .inl ⟨ad,vs,rfl,k4.gh.seq h1,λp hp=>aft.done a4 k4 (Ext.new k4.gh hp) (.lst (SqL.of Yd) ((r1.cut l' h').mono (Yi (k4.gh.free hp))))⟩
  |str z=>
   dsimp only at a4;have:=r.str_inv;subst this;by_cases hc:(XX z l' h').length<=1000000
   .rw[Qq hc]at a4
    exact .inr ⟨z,rfl,QE hc lim,aft.now a4 k4 (.str _)⟩
   .rw[QB hc]at a4;exact a4.elim
  |_=>exact a4.elim
end
section
variable{X:Cx}{B G0:Hp}{e o a b c tg:UF}{pos p2:Pos}{es rest:wf}{te to ti:TE}
noncomputable def K6{β:Type}(p:D->D->Option β)(i:Nat)(g:M D):M β:=λZ=>match Z[i]? with
 |some (O (.pub d))=>(Kp g λy=>Kq (p d y)) Z
 |some (O (.own _))=>(Kp g λy=>λZ'=>match Z'[i]? with|some (O (.own ds))=>Kq (p (.list ds) y) Z'|_=>.bad) Z
 |_=>.bad
theorem Mb{K}{σ:St}{H:Hp}{p}{r:R2}{i:Nat}{g:M D}{Q}{QV:VK}(hq:∀t H3,Q t H3->QV (.bl t) H3)(hr:∀v u G H x y d Q,Same G H->Rep K G v x->Rep K G u y->p x y=O d->Q (.bl d) H->r v u H Q)
  (q:tBo K B G0 (K6 p i g) σ H Q):Ye i σ H λx H1=>tD K B G0 g σ H1 λy H2=>r x y H2 QV:=by
 obtain⟨G,Z,k,a⟩:=q;unfold K6 at a;cases q:Z[i]? with
 |none=>rw[q]at a;exact a.elim
 |some o=>
  cases o with
  |none=>rw[q]at a;exact a.elim
  |some sl=>
   cases sl with
   |deep _ _=>rw[q]at a;exact a.elim
   |pub d=>
    rw[q]at a;obtain⟨v,h1,h2⟩:=k.pub i d q;refine⟨v,h1,G,Z,k,?_⟩;dsimp only[Kp]at a;cases z:g Z with
    |bad=>rw[z]at a;exact a.elim
    |ok y Z1=>rw[z]at a;intro u G' H' k' s' r';obtain⟨d',e',a'⟩:=aft.opt a;exact hr v u G' H' d y d' _ k'.gh (h2.mono s') r' e' (hq _ _ (a' d' G' H' k' s' v3))
   |own ds=>
    rw[q]at a;obtain⟨ad,vs,h1,h2,h3,h4,h5⟩:=k.own i ds q;refine⟨.ref ad,h1,G,Z,k,?_⟩;dsimp only[Kp]at a;cases z:g Z with
    |bad=>rw[z]at a;exact a.elim
    |ok y Z1=>
     rw[z]at a;dsimp only at a;intro u G' H' k' s' r';cases q1:Z1[i]? with
     |none=>rw[q1]at a;exact a.elim
     |some oo=>
      cases oo with
      |none=>rw[q1]at a;exact a.elim
      |some sl1=>
       cases sl1 with
       |deep _ _=>rw[q1]at a;exact a.elim
       |pub d1=>rw[q1]at a;exact a.elim
       |own ds1=>
        rw[q1]at a;obtain⟨ad',ws,g1,g2,g3,g4,g5⟩:=k'.own i ds1 q1;rw[h1]at g1;cases g1;obtain⟨d',e',a'⟩:=aft.opt a;have sg:Same G' (upd G' ad (.lst ws)):=Yi g3
        have sh:Same (upd G' ad (.lst ws)) H':=λb o q=>by
         by_cases z:b=ad
         .subst z;rw[Yd]at q;cases q;exact g4
         .rw[Zj z]at q;exact k'.gh b o q
        exact hr (.ref ad) u _ H' (.list ds1) y d' _ sh (.lst (SqL.of Yd) (g5.mono sg)) (r'.mono sg) e' (hq _ _ (a' d' G' H' k' s' v3))
theorem CL     (o:OpB X (UJ op) p)(ha:PE X a (Ye i))(hb:PE X b (tD X.K B G0 g))(hm:behindInMarks op b=wa) :
  PT X (.Compare a [op] [b] pos) (tBo X.K B G0 (K6 p i g)):=by
 obtain⟨r,h,j⟩:=o;exact Y4 (L9 h ha hb hm) λσ H Q q=>Mb (λt H3 z=>⟨t,rfl,z⟩) j q
theorem CJ     (o:OpB X (UJ op) p)(ha:PE X a (Ye i))(hb:PE X b (tD X.K B G0 g))(hm:behindInMarks op b=wa) :
  PE X (.Compare a [op] [b] pos) (tD X.K B G0 (Ke UN (K6 p i g))):=by
 obtain⟨r,h,j⟩:=o;exact KM (Ha h ha hb hm) λσ H Q q=>Mb (λt H3 z=>z) j (tBo.val q)
end
end DL
namespace L2
open PySem PySem.Spec PyProof.Rows
end L2
namespace DL
open PySem PySem.Spec L2
open PyProof.Rows hiding St
section
variable{X:Cx}{B G0:Hp}{e o a b c tg:UF}{pos p2 p3:Pos}{es rest:wf}{te to ti:TE}
noncomputable def oIn:D->D->wp
 |.str i,.str j=>O (inS i j)
 |x,.list xs=>if x.canLay0=v5/\UQ xs=v5/\x.depth<=60 then O (xs.any λy=>US y x)else v4
 |x,.tuple xs=>if x.canLay0=v5/\UQ xs=v5/\x.depth<=60 then O (xs.any λy=>US y x)else v4
 |_,_=>v4
noncomputable def Y5(x y:D):wp:=(oIn x y).map λt=>!t
noncomputable def XT(x y:D):wp:=match y with
 |.list xs=>if x.canLay0=v5/\UQ xs=v5/\x.depth<=60 then O (xs.any λy=>US y x)else v4
 |.tuple xs=>if x.canLay0=v5/\UQ xs=v5/\x.depth<=60 then O (xs.any λy=>US y x)else v4
 |_=>v4
theorem EC(hu:X.A.units+64<cLine):OpB X (UJ .In) XT:=by
 refine⟨λv u H Q=>∃G x y d,Same G H/\Rep X.K G v x/\Rep X.K G u y/\XT x y=O d/\Q _ H,?_,λv u G H x y d Q s rx ry e k=>⟨G,x,y,d,s,rx,ry,e,k⟩⟩;intro pins s σ H x y v u Q I rx ry ⟨G,dx,dy,d,sg,px,py,e,q⟩;unfold XT at e;split at e
 .split at e
  .rename_i c
   cases e;obtain⟨as,ra⟩:=Xh I sg px rx c.1;obtain⟨bs,rb⟩:=Xh I sg py ry (c.2.1);exact SeqAt.in_list_reads rb ra c.2.1 c.1 (by have:=c.2.2;lia) ⟨.bl _,H,I,rfl,q⟩
  simp_all
 .split at e
  .rename_i c
   cases e;obtain⟨as,ra⟩:=Xh I sg px rx c.1;obtain⟨bs,rb⟩:=Xh I sg py ry (c.2.1);exact SeqAt.in_tuple_reads rb ra c.2.1 c.1 (by have:=c.2.2;lia) ⟨.bl _,H,I,rfl,q⟩
  simp_all
 simp_all
theorem Dw(hu:X.A.units+64<cLine):OpB X (UJ .NotIn) (λx y=>(XT x y).map λt=>!t):=by
 refine⟨λv u H Q=>∃G x y d,Same G H/\Rep X.K G v x/\Rep X.K G u y/\(XT x y).map _=O d/\Q _ H,?_,λv u G H x y d Q s rx ry e k=>⟨G,x,y,d,s,rx,ry,e,k⟩⟩;intro pins s σ H x y v u Q I rx ry ⟨G,dx,dy,d,sg,px,py,e,q⟩;unfold XT at e;split at e
 .split at e
  .rename_i c
   cases e;obtain⟨as,ra⟩:=Xh I sg px rx c.1;obtain⟨bs,rb⟩:=Xh I sg py ry (c.2.1);exact SeqAt.notIn_list_reads rb ra c.2.1 c.1 (by have:=c.2.2;lia) ⟨.bl _,H,I,rfl,q⟩
  simp_all
 .split at e
  .rename_i c
   cases e;obtain⟨as,ra⟩:=Xh I sg px rx c.1;obtain⟨bs,rb⟩:=Xh I sg py ry (c.2.1);exact SeqAt.notIn_tuple_reads rb ra c.2.1 c.1 (by have:=c.2.2;lia) ⟨.bl _,H,I,rfl,q⟩
  simp_all
 simp_all
theorem B_in(hu:X.A.units+64<cLine):OpB X (UJ .In) oIn:=(EE.or (EC hu)).congr λx y=>by cases x<;>cases y<;>rfl
theorem EB(hu:X.A.units+64<cLine):OpB X (UJ .NotIn) Y5:=(EV.or (Dw hu)).congr λx y=>by cases x<;>cases y<;>rfl
theorem jy  {lo hi:Option UF}{st:UF}(he:PE X e te)(hl:PO X lo tl)(hu:PO X hi th)(hst:PO X (O st) ts):PE X (.Subscript e (.Slice lo hi (O st) p2) pos)
  (λσ H Q=>te σ H λx H1=>tl σ H1 λl H2=>th σ H2 λu H3=>ts σ H3 λt H4=>∃a xs,x=.ref a/\SqL X.K H4 a xs/\l=v4/\u=v4/\t=O (-1)/\∀p,H4 p=v4->Q (.ref p) (upd H4 p (.lst xs.reverse))):=by
 intro pins s σ H Q I h;refine Subscript_ (thn (he pins s σ H _ I h) λv s1 ⟨x,H1,I1,r1,q1⟩=>?_);refine wpAny_Slice (thn (hl pins s1 σ H1 _ I1 q1) λvl s2 ⟨l,H2,I2,pl,q2⟩=>thn (hu pins s2 σ H2 _ I2 q2) λvu s3 ⟨u,H3,I3,pu,q3⟩=>thn (hst pins s3 σ H3 _ I3 q3) λvt s4 ⟨t,H4,I4,pt,q4⟩=>?_);obtain⟨a,xs,rfl,hx,rfl,rfl,rfl,q⟩:=q4;cases r1;have I5:Inv X pins σ H4 {s4 with heap:=s4.heap.push {cls:=.type "slice", data:=.fields #[vl,vu,vt]}}:=I4.kept (t':=s4.toks) λb ob q=>Qi _ q
 obtain⟨its,r,ht,hz⟩:=I5.list hx;have hlen:=r.length;have hg:UH (model X.prog X.w) X.A (getItem (.ref a) (.ref s4.heap.objs.size)) (EP X pins σ Q) X.xe {s4 with heap:=s4.heap.push {cls:=.type "slice", data:=.fields #[vl,vu,vt]}}:=by refine wpAny_getItem_list_slice ht.isList (Heap.IsSliceOf.new ..) pl pu pt (by simp) ?_ (by rw[List.size_toArray]<;>lia);rw[PySem.W.krv_pick];refine⟨.ref _,_,I5.laid   (λb ob q=>Qi _ q) (Qp _) ?_,rfl,q _ (I5.hok.fresh (Qp _))⟩;exact⟨by rw[JH];exact hz,its.reverse,0,r.reverse,QA _ v3⟩
 exact tail_any  ht.isList.typeIs slot_list_getitem.lookup hg (by with_unfolding_all rfl)
noncomputable def TM:D->wg->wg->wg->wd
 |.list xs,v4,v4,O i=>if i = -1 then O (.list xs.reverse)else v4
 |_,_,_,_=>v4
noncomputable def Wo(f:M D)(lo hi st:M wg):M D:=Kp f λx=>Kp lo λl=>Kp hi λh=>Kp st λt=>Kq (TM x l h t)
theorem CI{lo hi}{st:UF}{f:M D}{l h t}(he:PE X e (tD X.K B G0 f))(hl:PO X lo (tOi X.K B G0 l))(hu:PO X hi (tOi X.K B G0 h))(hst:PO X (O st) (tOi X.K B G0 t)) :
  PE X (.Subscript e (.Slice lo hi (O st) p2) pos) (tD X.K B G0 (Wo f l h t)):=
 KM (jy he hl hu hst) λσ H Q q=>by
  refine tM.one  q λv H2 G Z x k r a=>?_;refine tM.nx  k a λl' H3 G3 Z3 xl k3 s3 r3 a3=>?_;refine tM.nx  k3 a3 λh' H4 G4 Z4 xh k4 s4 r4 a4=>?_;refine tM.nx  k4 a4 λt' H5 G5 Z5 xt k5 s5 r5 a5=>?_;subst r3 r4 r5
  cases x with
  |list xs=>
   cases l' with
   |some _=>exact a5.elim
   |none=>
   cases h' with
   |some _=>exact a5.elim
   |none=>
   cases t' with
   |none=>exact a5.elim
   |some i=>
   obtain⟨ad,vs,rfl,h1,r1⟩:=(((r.mono s3).mono s4).mono s5).lst_inv;by_cases hi:i = -1
   .subst hi
    exact⟨ad,vs,rfl,k5.gh.seq h1,rfl,rfl,rfl,λp hp=>aft.done a5 k5 (Ext.new k5.gh hp) (.lst (SqL.of Yd) (r1.reverse.mono (Yi (k5.gh.free hp))))⟩
   .unfold Kq TM at a5
    dsimp only at a5;rw[QB hi]at a5;exact a5.elim
  |_=>exact a5.elim
noncomputable def X6:wb->Option wb
 |[.list xs]=>O xs
 |[.tuple xs]=>O xs
 |_=>v4
theorem GQ  (h:X6 x=O l):x=[.list l]∨x=[.tuple l]:=by
 unfold X6 at h;split at h
 .cases h;exact .inl v3
 .cases h;exact .inr v3
 simp_all
theorem Fk:bootBuiltins "list" = O (.type "list"):=by decide +kernel
theorem qN  (hg:Gl X "list")(hm:X.mg "list" = v4)(ha:PA X [a] (tDs X.K B G0 f))(he:UI [a] X.env=(wa,eval a X.env)::UI [] X.env:=by rfl) :
  PE X (.Call (.Name "list" p2) [a] [] pos) (tL X.K B G0 (Kp f λxs=>Kq (X6 xs))):=
 KM (Ob FD hg hm Fk ha (by decide) (by decide) he v3) λσ H Q ⟨G,Z,k,q⟩=>by
  refine⟨G,Z,k,?_⟩;unfold Kp at q;cases z:f Z with
  |bad=>simp_all
  |ok xs Z1=>
   rw[z]at q;dsimp only[]at q;intro vs G' H' k' s' r;cases z2:X6 xs with
   |none=>rw[z2]at q;exact q.elim
   |some l=>
    rcases GQ z2 with rfl|rfl
    .obtain⟨v,rfl,q1⟩:=r.one_inv
     obtain⟨p,ws,rfl,h1,r1⟩:=q1.lst_inv;exact⟨p,ws,rfl,.inl (k'.gh.seq h1),λad hp=>q ad ws G' _ (k'.ext (Ext.hid k'.gh hp)) s' (NewL.of k' hp r1)⟩
    .obtain⟨v,rfl,q1⟩:=r.one_inv
     obtain⟨p,ws,rfl,h1,r1⟩:=q1.tup_inv;exact⟨p,ws,rfl,.inr (Xd k'.gh h1),λad hp=>q ad ws G' _ (k'.ext (Ext.hid k'.gh hp)) s' (NewL.of k' hp r1)⟩
noncomputable def WK(i:Nat):M wb:=λZ=>match Z[i]? with
 |some (O (.pub d))=>Kq (X6 [d]) Z
 |some (O (.own ds))=>.ok ds Z
 |_=>.bad
theorem jw  (hg:Gl X "list")(hm:X.mg "list" = v4)(ho:PE X a (Ye i))(he:UI [a] X.env=(wa,eval a X.env)::UI [] X.env:=by rfl) :
  PE X (.Call (.Name "list" p2) [a] [] pos) (tL X.K B G0 (WK i)):=
 KM (Ob FD hg hm Fk (WQ ho V9 he) (by decide) (by decide) he v3) λσ H Q ⟨G,Z,k,q⟩=>by
  unfold WK at q;cases z:Z[i]? with
  |none=>rw[z]at q;exact q.elim
  |some oo=>
   cases oo with
   |none=>rw[z]at q;exact q.elim
   |some sl=>
    cases sl with
    |deep _ _=>rw[z]at q;exact q.elim
    |own ds=>rw[z]at q;obtain⟨ad,vs,h1,h2,h3,h4,h5⟩:=k.own i ds z;exact⟨.ref ad,h1,ad,vs,rfl,.inl (SqL.of h4),λl hp=>q l vs G _ (k.ext (Ext.hid k.gh hp)) (.refl _) (NewL.of k hp h5)⟩
    |pub d=>
     rw[z]at q;dsimp only[Kq]at q;obtain⟨v,h1,h2⟩:=k.pub i d z;cases z2:X6 [d]with
     |none=>rw[z2]at q;exact q.elim
     |some l=>
      rcases GQ z2 with e|e
      .cases e
       obtain⟨p,ws,rfl,g1,r1⟩:=h2.lst_inv;exact⟨_,h1,p,ws,rfl,.inl (k.gh.seq g1),λad hp=>q ad ws G _ (k.ext (Ext.hid k.gh hp)) (.refl _) (NewL.of k hp r1)⟩
      .cases e
       obtain⟨p,ws,rfl,g1,r1⟩:=h2.tup_inv;exact⟨_,h1,p,ws,rfl,.inr (Xd k.gh g1),λad hp=>q ad ws G _ (k.ext (Ext.hid k.gh hp)) (.refl _) (NewL.of k hp r1)⟩
noncomputable def Pp:wb->wd
 |[.int i]=>O (.int i)
 |[.bool b]=>O (.int (if b then 1 else 0))
 |_=>v4
theorem Dv:YW X (.type "int") Pp:=by
 refine⟨_,kO,λvs G H ds d Q s r e k=>?_⟩;unfold Pp at e;split at e
 .cases e
  obtain⟨v,rfl,q⟩:=r.one_inv;rw[q.int_inv];exact .inl ⟨_,rfl,k _ G H (.refl s) (.int _)⟩
 .cases e
  obtain⟨v,rfl,q⟩:=r.one_inv;rw[q.bl_inv];exact .inr ⟨_,rfl,k _ G H (.refl s) (.int _)⟩
 simp_all
theorem EA  {zs:List Str}(hg:Gl X x)(hm:∃ad o its n,X.mg x=O (.ref ad)/\X.K.lookup ad=O o/\o.cls=.type "tuple" /\ o.data=.seq its n/\its.size<=UG/\Vals (zs.map V.str) its.toList)(hd:(x==("__debug__" : Str))=wa:=by decide) :
  PE X (.Name x pos) (tD X.K B G0 (U3 (.tuple (zs.map UO)))):=by
 obtain⟨ad,o,its,n,hm,h1,h2,h3,h4,h5⟩:=hm;refine KM (L1 (v:=.ref ad) hg hm v3 hd) λσ H Q ⟨G,Z,k,a⟩=>aft.now a k (.tup (.inr ⟨o,its,n,h1,h2,h3,h4,h5⟩) ?_)
 have:∀zs:List Str,Reps X.K G (zs.map V.str) (zs.map UO):=λzs=>by
  induction zs with
  |nil=>exact .nil
  |cons z r ih=>exact .cons (.str _) ih
 simp_all
end
section
variable{X:Cx}{B G0:Hp}{e o a b c tg:UF}{pos p2 p3 p4:Pos}{es rest:wf}{te to ti:TE}
theorem Vf:∀{ns}{us},Vals (ns.map V.int) us->PyProof.Rows.IntsAre us ns
 |[],_,.nil=>.nil
 |n::ns,_,.cons h t=>by obtain⟨tk,rfl⟩:=h;exact .cons n tk (Vf t)
noncomputable def RH(ns:wc):Nat:=(PyProof.Rows.firstMet (λi=>ns.getD i 0) ns.length).length
theorem jv(hc:X.calm=v5):YS X (.type "set") (λxs H Q=>∃l,∃ns:wc,xs=[.ref l]/\SqL X.K H l (ns.map V.int)/\ns.length+1<4096/\∀S p,H p=v4->Q (.ref p) (upd H p (.set S (RH ns)))):=by
 intro pins s σ H xs us Q I rx h;obtain⟨l,ns,rfl,hq,hb,q⟩:=h;obtain⟨u,rfl,ru⟩:=rx.one;cases ru;obtain⟨its,rv,p,hz⟩:=I.list hq;have hi:=Vf rv;have hn:its.toArray.size=ns.length:=by have:=rv.length;grind
 refine call_set_list (I.ok.hd hc) p.isList  (by simpa using hi) (by rw[hn];exact hb) λh' tk hS hk=>?_
 rw[hn]at hS;refine⟨.ref s.heap.objs.size,_,I.laid  (λb o e=>hk b o (Ql e) e) (Qp _) (show YK X.prog X.w _ h' _ (.set _ _)from hS),rfl,q _ _ (I.hok.fresh (Qp _))⟩
theorem ju:YS X (.builtin "len") (λxs H Q=>∃p S n,xs=[.ref p]/\H p=O (.set S n)/\Q (.int n) H):=by
 intro pins s σ H xs us Q I rx h;obtain⟨p,S,n,rfl,hp,q⟩:=h;obtain⟨u,rfl,ru⟩:=rx.one;cases ru;obtain⟨o,es,ep,t,h1,h2,h3,h4,h5,h6,h7,h8⟩:=(I.hok p _ hp)
 have hsb:scanBound=4096:=rfl;refine call_len_set h1 h2 h3 h7 (by lia) ?_;rw[h8];exact⟨.int n,H,I.tok _,⟨_,rfl⟩,q⟩
noncomputable def YE:wb->Option wc
 |[]=>O []
 |.int i::r=>(YE r).map (i :: ·)
 |_=>v4
theorem Rr{K}{G}:∀{vs}{ds}{ns},Reps K G vs ds->YE ds=O ns->vs=ns.map V.int
 |_,_,ns,.nil,e=>by cases e;rfl
 |_,_,ns,.cons (d:=d) r t,e=>by
  cases d with
  |int b=>
   unfold YE at e;cases z:YE _ with
   |none=>rw[z]at e;cases e
   |some cs=>rw[z]at e;cases e;rw[r.int_inv,Rr t z];rfl
  |_=>cases e
theorem Rt(ns):YE (ns.map int)=O ns:=by
 induction ns with
 |nil=>rfl
 |cons b r ih=>rw[QF,YE,ih];rfl
noncomputable def W9:wb->wd
 |[.list ds]=>(match YE ds with
  |some ns=>if ns.length+1<4096 then O (.int (RH ns))else v4
  |none=>v4)
 |_=>v4
theorem vi   (h:W9 xs=O d):∃ds ns,xs=[.list ds]/\YE ds=O ns/\ns.length+1<4096/\d=.int (RH ns):=by
 unfold W9 at h;split at h
 .rename_i ds
  cases z:YE ds with
  |none=>simp_all
  |some ns=>simp_all
 simp_all
theorem jt:bootBuiltins "set" = O (.type "set"):=by decide +kernel
theorem xm  (hc:X.calm=v5)(hg:Gl X "len")(hm:X.mg "len" = v4)(hg2:Gl X "set")(hm2:X.mg "set" = v4)(ha:PA X [a] (tDs X.K B G0 f))(he:UI [a] X.env=(wa,eval a X.env)::UI [] X.env:=by rfl)
  (wZ:UI [.Call (.Name "set" p2) [a] [] p3] X.env=(wa,eval (.Call (.Name "set" p2) [a] [] p3) X.env)::UI [] X.env:=by rfl) :
  PE X (.Call (.Name "len" p4) [.Call (.Name "set" p2) [a] [] p3] [] pos) (tD X.K B G0 (Zt W9 f)):=
 KM (P8 ju hg hm boot_len (WQ (Ob (jv hc) hg2 hm2 jt ha (by decide) (by decide) he v3) V9 wZ) (by decide) (by decide) wZ v3) λσ H Q q=>tM.one  q λvs H2 G Z x k r a=>by obtain⟨d,e,a⟩:=a.opt;obtain⟨ds,ns,rfl,z,c,rfl⟩:=vi e;obtain⟨v,rfl,q1⟩:=r.one_inv;obtain⟨l,ws,rfl,h1,r1⟩:=q1.lst_inv;have:=Rr r1 z;subst this;refine⟨l,ns,rfl,k.gh.seq h1,c,λS p hp=>⟨p,S,RH ns,rfl,Yd,?_⟩⟩;exact aft.done a k (Ext.hid k.gh hp) (.int _)
end
end DL
namespace L2
open PySem PySem.Spec PyProof.Rows
noncomputable def Wr(lo st:Int)(n:Nat):It:=⟨λi _=>i<n,λi H x H'=>H'=H/\x=.int (lo+i*st),λi _=>n<=i⟩
theorem vh{P:UC}{w:World}{K:Frag}{tg:UF}(it:UD)(lo st:Int)(n:Nat):Turn P w K tg (Wr lo st n) [it] it (λi h=>IsRangeIter h it (lo+(i:Nat)*st) ((n:Int)-(i:Nat)) st) where
 mem:=by simp
 obj:=λi h st b hb=>by
  have e:b=it:=by simpa using hb
  subst e;exact⟨_,st,λv z=>by have z'   :=z;cases z'⟩
 keep:=λi h h' st k=>k it (by simp) _ st
 item:=by
  intro X hP hw hK hc i pins s σ H E I hf sti hg;subst hP hw hK;obtain⟨f0,f1,f2,f3,f4,f5⟩:=hf it (by simp);have W:=Walks.range (prog:=X.prog) (w:=X.w) (I.ok.hd hc) it lo st n;refine W.item i s _ _ hg sti λv h' tk hv st' kk=>?_
  obtain⟨t,rfl⟩:=hv;have I1:Inv X pins σ H {s with heap:=h',toks:=tk}:=I.turned (λb o hb e=>kk b o (by simpa using hb) e) f0 f1 f3 f4 f5;exact⟨_,rfl,Rz   st' v3 v3 (by decide) ⟨.int (lo+i*st),H,I1,⟨t,rfl⟩,⟨rfl,rfl⟩,st',λb hb=>(hf b hb).1⟩⟩
 done:=by intro X hP hw hK hc i pins s σ H E I hf sti hg;obtain⟨f0,f1,f2,f3,f4,f5⟩:=hf it (by simp);exact wpAny_pyNext_range_end (I.ok.hd hc) sti (by have:n<=i:=hg;lia) λh' eb=>⟨rfl,I.turned (t':=s.toks) (λb o hb e=>eb b o hb e) f0 f1 f3 f4 f5⟩
 self:=λ_ _ _ _ _ st h=>wpAny_pyIter_rangeiter st h
section
variable{X:Cx}{tg:UF}
noncomputable def Ez(ta:TA):TI:=λσ H R=>ta σ H λvs H1=>∃i j c:Int,vs=[.int i,.int j,.int c]/\0<c/\c<=1000000 /\ -1000000<=i/\i<=1000000 /\ -1000000<=j/\j<=1000000/\R (Wr i c (Builtin.Range.rangeSize i j c).toNat) H1
theorem js{a b c:UF}{ta:TA}{p pos:Pos}(hg:Gl X "range")(hm:X.mg "range" = v4)(ha:PA X [a,b,c] ta)(hs:UI [a,b,c] X.env=(wa,eval a X.env)::UI [b,c] X.env:=by rfl)(hs2:(backTo pos (UI [b,c] X.env)).any (·.1)=wa:=by rfl) :
  PI X tg (.Call (.Name "range" p) [a,b,c] [] pos) (Ez ta):=by
 intro pins s σ H R I h;refine Call_ (WZ I hg hm boot_range (JR (thn (ha pos pins s σ H _ I h) λus s1 ⟨vs,H1,I1,r1,q1⟩=>?_) hs hs2));obtain⟨i,j,c,e,h1,h2,h3,h4,h5,h6,q⟩:=q1;subst e;cases r1 with
 |cons r rr=>
  cases rr with
  |cons r' rr=>
   cases rr with
   |cons r'' rr=>
    cases rr;obtain⟨t,rfl⟩:=r;obtain⟨t',rfl⟩:=r';obtain⟨t'',rfl⟩:=r'';refine call_range_3 (by lia) ?_ (.inl (PyProof.noPylong_small (by lia)))
    have hn0:0<=Builtin.Range.rangeSize i j c:=by
     unfold Builtin.Range.rangeSize;rw[Qq h1];split
     .have:=Int.ediv_nonneg (show 0<=j-i-1 by lia) (show 0<=c by lia);lia
     .lia
    have hn1:Builtin.Range.rangeSize i j c<=2000001:=by
     unfold Builtin.Range.rangeSize;rw[Qq h1];split
     .have:=Int.ediv_le_self c (show 0<=j-i-1 by lia);lia
     .lia
    refine wpAny_pyIter_range (IsRange.new ..) (by
     have fl:∀x:Int, -4000000<=x->x<=4000000->Builtin.Range.rangeFitsLong x=v5:=λx a b=>by unfold Builtin.Range.rangeFitsLong;simp;lia
     unfold Builtin.Range.small;rw[fl i (by lia) (by lia),fl j (by lia) (by lia),fl c (by lia) (by lia),fl _ (by lia) (by lia),Qq h1,fl _ (by lia) (by lia)];simp) ?_
    have I2:Inv X pins σ H1 {s1 with heap:=s1.heap.push {cls:=.type "range", data:=.fields #[.int i t,.int j t',.int c t'']},toks:=s1.toks}:=I1.kept λb o e=>Qi _ e
    refine⟨_,[(s1.heap.push {cls:=.type "range", data:=.fields #[.int i t,.int j t',.int c t'']}).objs.size],_,_,H1,rfl,
     I2.kept (t':=s1.toks) λb o e=>Qi _ e,vh _ i c (Builtin.Range.rangeSize i j c).toNat,?_,λb hb=>?_,q⟩
    .have e1:i+((0:Nat):Int)*c=i:=by simp
     have e2:(((Builtin.Range.rangeSize i j c).toNat:Nat):Int)-((0:Nat):Int)=Builtin.Range.rangeSize i j c:=by lia
     rw[e1,e2];exact QA _ v3
    .have e:b=(s1.heap.push {cls:=.type "range", data:=.fields #[.int i t,.int j t',.int c t'']}).objs.size:=by simpa using hb
     subst e;exact I2.fpOk (Qp _) (I2.hok.fresh (Qp _))
end
end L2
namespace DL
open PySem PySem.Spec L2
open PyProof.Rows hiding St
section
variable{X:Cx}{B G0:Hp}{e a b c tg:UF}{pos:Pos}{es rest:wf}
noncomputable def WJ(lo st:Int)(n:Nat):wb:=(UK n).map λ(k:Nat)=>.int (lo+k*st)
theorem vI{K}{G1}{lo st}{n}:X7 K (Wr lo st n) (WJ lo st n) G1 where
 go:=λi G H s1 s2 h=>by unfold WJ at h;simpa[Wr]using h
 stop:=λi G H s1 s2 h=>by unfold WJ at h;simpa[Wr]using h
 yld:=λi G H x H' d s1 s2 e y=>by obtain⟨rfl,rfl⟩:=y;have hl   :=(Qg.mp e).1;unfold WJ at e hl;rw[List.getElem?_map,List.getElem?_eq_getElem (by simp_all),List.getElem_range]at e;cases e;exact⟨G,.refl s2,.int _⟩
noncomputable def Tl:wb->Option wb
 |[.int i,.int j,.int c]=>if 0<c/\c<=1000000 /\ -1000000<=i/\i<=1000000 /\ -1000000<=j/\j<=1000000 then O (WJ i c (Builtin.Range.rangeSize i j c).toNat)else v4
 |_=>v4
noncomputable def Po(f:M wb):M wb:=Kp f λx=>Kq (Tl x)
theorem jr  (h:Tl x=O l):∃i j c:Int,x=[.int i,.int j,.int c]/\(0<c/\c<=1000000 /\ -1000000<=i/\i<=1000000 /\ -1000000<=j/\j<=1000000)/\l=WJ i c (Builtin.Range.rangeSize i j c).toNat:=by
 unfold Tl at h;split at h
 .split at h
  .rename_i c
   cases h;exact⟨_,_,_,rfl,c,rfl⟩
  .cases h
 simp_all
theorem jq  {p2}(hg:Gl X "range")(hm:X.mg "range" = v4)(ha:PA X [a,b,c] (tDs X.K B G0 f))(hs:UI [a,b,c] X.env=(wa,eval a X.env)::UI [b,c] X.env:=by rfl)(hs2:(backTo pos (UI [b,c] X.env)).any (·.1)=wa:=by rfl) :
  PI X tg (.Call (.Name "range" p2) [a,b,c] [] pos) (iD X.K B G0 (Po f)):=XS (js hg hm ha hs hs2) λσ H R q=>tM.toI  q λv H' G' Z' x k r a=>by
 cases z:Tl x with
 |none=>rw[z]at a;exact a.elim
 |some l=>
  rw[z]at a;obtain⟨i,j,c,rfl,⟨h1,h2,h3,h4,h5,h6⟩,rfl⟩:=jr z;cases r with
  |cons r1 rr=>
   cases rr with
   |cons r2 rr=>
    cases rr with
    |cons r3 rr=>cases rr;rw[r1.int_inv,r2.int_inv,r3.int_inv];exact⟨i,j,c,rfl,h1,h2,h3,h4,h5,h6,a _ G' H' k (.refl _) vI⟩
end
end DL
namespace L2
open PySem PySem.Spec PyProof.Rows
section
variable{prog:UC}{w:World}{A:Around}{E:UA->UB->Prop}{s:UB}{M:Model}{env:Env}
theorem CH  {T}{args}{kws}{Q}(hp:args.any (·.1)=wa)(hk:kws.any (·.1.isNone)=wa)
  (h:UH M A (evalArgs (.type T) v5 args kws) (λa s1=>UH M A (call (.type T) a.pos a.kw) Q E s1) E s):UH M A (callWith pos (.type T) [] args kws) Q E s:=by
 refine Qe (wpAny_holding (QL h (λa s1 h1=>Qe (JF ?_)) λ_ _ z=>z));simp only[hp,hk];refine Qe (Qm ?_);exact Qe (QL h1 (λr s2 hr=>Qe (wpAny_holding (wpAny_point (Qm hr)))) λ_ _ z=>z)
theorem qM(l:UD)(t:Tok)(items:Array UA)(n:Nat)(dct:wo)(sl) :
  Meets (Builtin.«enumerate.__new__» ⟨[.type "enumerate", .ref l],[("start", .int 1 t)]⟩) (λ_ R s=>s.heap.get? l=O ⟨.type "list", dct,.seq items n,sl⟩ /\
   R (.ok (.ret (.ref (s.heap.push {cls:=.type "list_iterator", data:=.fields #[.ref l,.int 0 0]}).objs.size))) {s with heap:=(s.heap.push {cls:=.type "list_iterator", data:=.fields #[.ref l,.int 0 0]}).push {cls:=.type "enumerate", data:=.fields #[.none,.bool wa,.ref s.heap.objs.size,rawInt 1,.none,.none]}}):=
 .of_wp λprog w A R s h=>by
  obtain⟨hl,h⟩:=h;have hsub:=sub_enumerate;have hL:Heap.IsList _ l items:=⟨_,hl,rfl,n,rfl⟩
  wp_walk using AutoSeq1.wpAny_loadPart' hl
  refine wpAny_stack_any λst=>(Qm ?_);split
  .rename_i c _ _ _ _ _
   cases (c==Value.type "enumerate")<;>(wp_walk using(AutoSeq1.wpAny_loadPart' hl),(JN hL))<;>exact⟨_,rfl,h⟩
  ·(wp_walk using(AutoSeq1.wpAny_loadPart' hl),(JN hL));exact⟨_,rfl,h⟩
theorem vS{T newId initId:String}{Bn Bi:Builtin}{args:we}{kw:List (Str×UA)}{S:PySem.Spec}{Q Q1}(ft:TypeCalled T newId initId)
  (hct:checkTypeCall T ⟨args,kw⟩=pure ()) (hcn:checkBuiltinCall newId ⟨.type T::args,kw⟩=pure ()) (eN:entryFor table newId=O Bn) (eI:entryFor table initId=O Bi)
  (g:Meets (Bn ⟨.type T::args,kw⟩) S) (h:S A.in1 (wants Q1 E) s)
  (hnext:∀obj s1,Q1 obj s1->s1.TypeIs obj T/\argsOk initId ⟨obj::args,kw⟩/\∃Si,Meets (Bi ⟨obj::args,kw⟩) Si/\Si A.in1 (wants (λr s2=>r=.none/\Q obj s2) E) s1) :
  UH (model prog w) A (call (.type T) args kw) Q E s:=by
 obtain⟨c,tl,hmro⟩:=ft.mro;have hmade:=ft.made;have hsub:=ft.sub;refine wpAny_call (codeAny_of_tree ?_);refine Qm ⟨Code.quiet_builtin _ (by decide +kernel),(codeAny_builtin F.entry_type_call ?_)⟩;have h1:=ft.notType;have h2:=ft.canCreate
 repeat' (any_goals (first|wp_step|assumption))
 refine codeAny_mono (JC ft.plain eN (wpAny_of_eq hcn (g prog w A.in1 _ s h))) λr s1 hr=>?_
 match r,hr with
 |.error e,hr=>exact hr
 |.ok (.ret obj),hr=>
  obtain⟨hT,hok,Si,gi,hsi⟩:=hnext _ _ hr;have hli:=ft.init.lookup;have hbi:=ft.init.bind obj
  repeat' (any_goals (first|wp_step|assumption))
  refine codeAny_mono (JC ft.init.plain eI (ft.init.check _ _ _ _ _ _ _ _ hT hok (gi prog w A.in1 _ s1 hsi))) λr2 s2 wG=>?_
  match r2,wG with
  |.error e,wG=>exact wG
  |.ok (.ret r),wG=>
   obtain⟨rfl,hq⟩:=wG
   repeat' (any_goals (first|wp_step|assumption))
  |.ok .next,wG=>exact wG.elim
  |.ok .brk,wG=>exact wG.elim
  |.ok .cont,wG=>exact wG.elim
 |.ok .next,hr=>exact hr.elim
 |.ok .brk,hr=>exact hr.elim
 |.ok .cont,hr=>exact hr.elim
theorem vg   {rest}{kw}(hl:typeLookup (.type T) "__init__" = pure (O (.builtin "object.__init__")))
  (hm:Bind.madeBy (.type T)=pure (O newId)) (hne:(O newId != O "object.__new__")=v5) :
  Meets (Builtin.«object.__init__» ⟨self::rest,kw⟩) (λ_ R s=>s.TypeIs self T/\R (.ok (.ret .none)) s):=by
 refine .of_wp λprog w A R s hs=>?_
 obtain⟨hT,hq⟩:=hs;cases rest with
 |nil=>
  cases kw with
  |nil=>exact Qm ⟨_,rfl,hq⟩
  |cons k kw=>(repeat' (any_goals (first|wp_step|assumption)));exact⟨_,rfl,hq⟩
 |cons a rest=>(repeat' (any_goals (first|wp_step|assumption)));exact⟨_,rfl,hq⟩
theorem vf(a)(t):checkTypeCall "enumerate" ⟨[a],[("start", .int 1 t)]⟩=pure ():=by kernel_rfl
theorem xk(a)(t):checkBuiltinCall "enumerate.__new__" ⟨[.type "enumerate", a],[("start", .int 1 t)]⟩=pure ():=by kernel_rfl
theorem ve(o a)(t):argsOk "object.__init__" ⟨[o,a],[("start", .int 1 t)]⟩:=by kernel_rfl
theorem xj{l:UD}{items:Array UA}{t:Tok}{Q}(hL:s.heap.IsList l items)
  (h:∀h',IsEnum h' (s.heap.objs.size+1) s.heap.objs.size 1 .none->h'.IsListIter s.heap.objs.size l 0->(∀b o,s.heap.get? b=O o->h'.get? b=O o)->Q (.ref (s.heap.objs.size+1)) {s with heap:=h'}) :
  UH (model prog w) A (call (.type "enumerate") [.ref l] [("start", .int 1 t)]) Q E s:=by
 obtain⟨⟨c,dct,dt,sl⟩,hl,hc,n,hd⟩:=hL;subst hc hd;have hz:(s.heap.push {cls:=.type "list_iterator", data:=.fields #[.ref l,.int 0 0]}).objs.size=s.heap.objs.size+1:=JM ..;have he:IsEnum ((s.heap.push {cls:=.type "list_iterator", data:=.fields #[.ref l,.int 0 0]}).push {cls:=.type "enumerate", data:=.fields #[.none,.bool wa,.ref s.heap.objs.size,rawInt 1,.none,.none]}) (s.heap.objs.size+1) s.heap.objs.size 1 .none:=by rw[←hz];exact QA _ v3
 refine vS F.called_enumerate (vf _ t) (xk _ t) F.entry_enumerate_new F.entry_object_init (qM l t items n dct sl) (Q1:=λobj s1=>s1.TypeIs obj "enumerate" /\ Q obj s1) ⟨hl,?_⟩ λobj s1 hq=>
  ⟨hq.1,ve obj _ t,_,vg F.called_enumerate.init.lookup F.called_enumerate.made (by decide),hq.1,rfl,hq.2⟩
 rw[hz];exact⟨⟨_,he,rfl⟩,h _ he ⟨_,Qi _ (QA _ v3),rfl,rfl⟩ λb o x=>Qi _ (Qi _ x)⟩
end
section
variable{prog:UC}{w:World}{A:Around}{E:UA->UB->Prop}{s:UB}
theorem jp{en it l:UD}{i:Nat}{j:Int}{items:Array UA}{x old:UA}{Q:wj->UB->Prop}(st:IsEnum s.heap en it j old)(li:s.heap.IsListIter it l i)(ls:s.heap.IsList l items)
  (at_:items[i]?=O x) (ne:en≠it)
  (k:∀h',IsEnumOut h' en it (j+1) x s.heap.objs.size->h'.IsListIter it l (i+1)->h'.get? s.heap.objs.size=O {cls:=.type "tuple", data:=.seq #[.int j s.toks,x]}->(∀b o,b≠en->b≠it->s.heap.get? b=O o->h'.get? b=O o) ->
   Q (O (.ref s.heap.objs.size)) {s with heap:=h',toks:=s.toks+1}):UH (model prog w) A (pyNext (.ref en)) Q E s:=by
 have ty:s.TypeIs (.ref en) "enumerate" :=⟨_,st,rfl⟩
 have lt:en<s.heap.objs.size:=Ql st;unfold pyNext;refine Qe (wpAny_attempt (wpAny_callSpecial?_slot (name:=UU "__next__") ty F.slot_enumerate_next (wpAny_call_entry F.slot_enumerate_next ty F.entry_enumerate_next ?_ (F.args_enumerate_next_1 _))));show UH _ _ (field (.ref en) 2 >>= _) _ _ s;refine Qe (Jk st v3 (x:=.ref it) v3 ?_);refine Qe (wpAny_nextOf_list_item li ls at_ λm1 li1 c1=>?_);have c1:Heap.SameBut it s.heap m1:=c1;have st1:IsEnum m1 en it j old:=(c1.2 en ne).trans st;show UH _ _ (field (.ref en) 3 >>= _) _ _ {s with heap:=m1};refine Qe (Jk st1 v3 (x:=rawInt j) v3 ?_);show UH _ _ (field (.ref en) 4 >>= _) _ _ {s with heap:=m1};refine Qe (Jk st1 v3 (x:=.none) v3 ?_);show UH _ _ (mkInt j >>= _) _ _ {s with heap:=m1};refine Qe (wpAny_mkInt ?_);refine wpAny_bind (wpAny_setField_rec st1 (by simp) λm2 st2 c2=>?_);have c2:Heap.SameBut en m1 m2:=c2;have st2:IsEnum m2 en it (j+1) old:=st2;show UH _ _ (setField (.ref en) 4 .none >>= _) _ _ {s with heap:=m2,toks:=s.toks+1};refine wpAny_bind (wpAny_setField_rec st2 (by simp) λm3 st3 c3=>?_);have c3:Heap.SameBut en m2 m3:=c3;have st3:IsEnum m3 en it (j+1) old:=st3;refine Qe (wpAny_newTuple ?_);have z3:m3.objs.size=s.heap.objs.size:=c3.1.trans (c2.1.trans c1.1);have st4:IsEnum (m3.push {cls:=.type "tuple", data:=.seq #[.int j s.toks,x]}) en it (j+1) old:=Qi _ (show IsEnum m3 en it (j+1) old from st3);have tp4:(m3.push {cls:=.type "tuple", data:=.seq #[.int j s.toks,x]}).get? s.heap.objs.size=O {cls:=.type "tuple", data:=.seq #[.int j s.toks,x]}:=by rw[←z3];exact QA _ v3
 have kp4:∀b o,b≠en->b≠it->s.heap.get? b=O o->(m3.push {cls:=.type "tuple", data:=.seq #[.int j s.toks,x]}).get? b=O o:=λb o n1 n2 q=>Qi _ ((c3.2 b n1).trans ((c2.2 b n1).trans ((c1.2 b n2).trans q)))
 have li4:(m3.push {cls:=.type "tuple", data:=.seq #[.int j s.toks,x]}).IsListIter it l (i+1):=by obtain⟨o,q,r⟩:=li1;exact⟨o,Qi _ ((c3.2 it (Ne.symm ne)).trans ((c2.2 it (Ne.symm ne)).trans q)),r⟩
 generalize m3.push {cls:=.type "tuple", data:=.seq #[.int j s.toks,x]}=m4 at st4 tp4 kp4 li4;rw[z3];refine Qe ?_;unfold Builtin.SmallTypes.ownedTupleIsFree Builtin.SmallTypes.ownedTupleHandOut;refine Qe (Jk st4 v3 (x:=.none) v3 (Qm ?_));simp only[if_true];refine wpAny_bind (wpAny_rule (wpAny_bind (wpAny_field st4 v3 (x:=old) v3 (wpAny_bind (wpAny_setField_rec st4 (by simp) λm5 wI c5=>?_)))));have c5:Heap.SameBut en m4 m5:=c5;have wI:IsEnum m5 en it (j+1) x:=wI;refine wpAny_bind (wpAny_bind (wpAny_setField_rec wI (by simp) λm6 st6 c6=>?_));have c6:Heap.SameBut en m5 m6:=c6;have st6:IsEnumOut m6 en it (j+1) x s.heap.objs.size:=st6;refine wpAny_setField_rec st6 (by simp) λm7 st7 c7=>?_
 have c7:Heap.SameBut en m6 m7:=c7;have st7:IsEnumOut m7 en it (j+1) x s.heap.objs.size:=st7;have up:∀b,b≠en->m7.get? b=m4.get? b:=λb n=>(c7.2 b n).trans ((c6.2 b n).trans (c5.2 b n));refine Qe (wpAny_letGo (Qm ⟨_,rfl,Qm (k m7 st7 ?_ ((up _ (JD lt)).trans tp4) λb o n1 n2 q=>(up b n1).trans (kp4 b o n1 n2 q))⟩))
 obtain⟨o,q,r⟩:=li4;exact⟨o,(up it (Ne.symm ne)).trans q,r⟩
theorem jY  {i:Nat}{j:Int}{items:Array UA}{old:UA}{Q}(hh:A.handled=v4)(st:IsEnum s.heap en it j old)(li:s.heap.IsListIter it l i)(ls:s.heap.IsList l items)
  (at_:items[i]?=v4) (k:∀h',Heap.ExtBut it s.heap h'->Q v4 {s with heap:=h'}):UH (model prog w) A (pyNext (.ref en)) Q E s:=by
 have ty:s.TypeIs (.ref en) "enumerate" :=⟨_,st,rfl⟩
 refine Qe (wpAny_attempt (wpAny_callSpecial?_slot  ty F.slot_enumerate_next (wpAny_call_entry F.slot_enumerate_next ty F.entry_enumerate_next ?_ (F.args_enumerate_next_1 _))));show UH _ _ (field (.ref en) 2 >>= _) _ _ s;refine Qe (Jk st v3  rfl (Qe  (wpAny_nextOf_list_end hh li ls at_ λh' z c y=>?_)));obtain⟨o,q,t⟩:=y;exact Qe (wpAny_isInstance  (b:=v5) ⟨o,q,t⟩ isSubtype_stop (Qm (k _ c)))
end
noncomputable def SL(K:Frag)(a:UD):It:=
 ⟨λi H=>∃xs x,SqL K H a xs/\xs[i]?=O x,
  λi H v H'=>∃p x,H p=v4/\v=.ref p/\(∀xs,SqL K H a xs->xs[i]?=O x)/\H'=upd H p (.tup [.int (1+(i:Int)),x]),
  λi H=>∃xs,SqL K H a xs/\xs.length<=i⟩
theorem xi{P:UC}{w:World}{K:Frag}{elts:wf}{x1}{tp:Pos}(a e it:UD)(hne:e≠it) :
  Turn P w K (.Tuple elts x1 tp) (SL K a) [e,it] e (λi h=>(∃old,IsEnum h e it (1+(i:Int)) old)/\h.IsListIter it a i) where
 mem:=by simp
 obj:=λi h st b hb=>by
  obtain⟨⟨old,he⟩,o,ho,c,d⟩:=st;have hb':b=e∨b=it:=by simpa using hb
  rcases hb' with rfl|rfl
  .exact⟨_,he,λv z=>by have z'   :=z;cases z'⟩
  .exact⟨o,ho,λv z=>by rw[d]at z;cases z⟩
 keep:=λi h h' st k=>by obtain⟨⟨old,he⟩,hi⟩:=st;exact⟨⟨old,k e (by simp) _ he⟩,hi.at λo q=>k it (by simp) o q⟩
 item:=by
  intro X hP hw hK hc i pins s σ H E I hf st hg;subst hP hw hK;obtain⟨⟨old,he⟩,hi⟩:=st;obtain⟨xs,x,hq,hx⟩:=hg;obtain⟨its,rv,p,hz⟩:=I.list hq;obtain⟨u,hu,ru⟩:=rv.get hx;refine jp he hi p.isList (x:=u) (by simpa using hu) hne λh1 out hi1 ht kk=>?_
  refine⟨_,rfl,wpAny_letOwnedTupleGo_enum out λh2 wZ hs2=>?_⟩;have hel:e<s.heap.objs.size:=Ql he;have wA:Heap.SameBut e h1 h2:=hs2;have ht2   :=(wA.2 _ (JD hel)).trans ht
  have kk2:∀b o,b∉[e,it]->s.heap.get? b=O o->h2.get? b=O o:=λb o hb q=>by
   have wx:b≠e:=λz=>hb (by simp[z])
   have hbi:b≠it:=λz=>hb (by simp[z])
   exact(wA.2 b wx).trans (kk b o wx hbi q)
  have hn:H s.heap.objs.size=v4:=I.hok.fresh (Qp _)
  have I2:Inv X pins σ (upd H s.heap.objs.size (.tup [.int (1+(i:Int)),x])) {s with heap:=h2,toks:=s.toks+1}:=
   I.turnedNew (fp:=[e,it]) hf kk2 (Qp _) ⟨by show 2<=UG;decide,[.int (1+(i:Int)) s.toks,u],.cons ⟨_,rfl⟩ (.cons ru .nil),⟨_,ht2,rfl,_,rfl⟩⟩
  refine⟨.ref s.heap.objs.size,_,I2,rfl,⟨_,x,hn,rfl,λys hy=>by rw[I.list_inj hy hq];exact hx,rfl⟩,⟨⟨u,?_⟩,?_⟩,λb hb=>?_⟩
  .have e2:(1+((i+1:Nat):Int))=1+(i:Int)+1:=by lia
   rw[e2];exact wZ
  .exact hi1.at λo q=>(wA.2 it (Ne.symm hne)).trans q
  .have hlt:b<s.heap.objs.size:=by
    have hb':b=e∨b=it:=by simpa using hb
    rcases hb' with rfl|rfl
    .exact hel
    .obtain⟨o,ho,_⟩:=hi;exact Ql ho
   rw[Zj (QY hlt)];exact(hf b hb).1
 done:=by intro X hP hw hK hc i pins s σ H E I hf st hg;subst hP hw hK;obtain⟨⟨old,he⟩,hi⟩:=st;obtain⟨xs,hq,hx⟩:=hg;obtain⟨its,rv,p,hz⟩:=I.list hq;have hl:=rv.length;exact jY (I.ok.hd hc) he hi p.isList (by simp;lia) λh' eb=>⟨rfl,I.turnedL (t':=s.toks) hf λb o hb q=>eb b o (λz=>hb (by simp[z])) q⟩
 self:=λ_ _ _ _ _ st h=>by obtain⟨⟨old,he⟩,_⟩:=st;exact wpAny_pyIter_enum he h
section
variable{X:Cx}
theorem qL{a:UF}{ta:TA}{p pos k1 k2:Pos}{j}{elts}{x1}{tp:Pos}(hg:Gl X "enumerate")(hm:X.mg "enumerate" = v4)(ha:PA X [a] ta)
  (hs:backTo pos (UI [a] X.env)=(wa,eval a X.env)::backTo pos (UI [] X.env):=by rfl) (hpl:(backTo pos (UI [a] X.env)).any (·.1)=wa:=by rfl) :
  PI X (.Tuple elts x1 tp) (.Call (.Name "enumerate" p) [a] [⟨O "start", .Constant (.int 1) j k1,k2⟩] pos) (λσ H R=>ta σ H λvs H1=>∃a xs,vs=[.ref a]/\SqL X.K H1 a xs/\R (SL X.K a) H1):=by
 intro pins s σ H R I h;refine wpAny_Call_Name_kw (WZ I hg hm boot_enumerate (CH hpl v3 ?_));rw[hs];refine evalArgs_kwB v3 ?_;rw[←hs];refine thn (ha pos pins s σ H _ I h) λus s1 ⟨vs,H1,I1,r1,q1⟩=>?_;refine kws_cons (wpAny_Constant_int (kws_nil ?_))
 obtain⟨l,xs,e,hq,q⟩:=q1;subst e;cases r1 with
 |cons r rr=>
  cases rr;cases (r);have I1':=I1.tok (s1.toks+1);obtain⟨its,rv,pl,hz⟩:=I1'.list hq;refine xj pl.isList λh' he hi kk=>?_;have I2   :=I1'.kept (t':=s1.toks+1) kk;refine wpAny_pyIter_enum he ?_
  refine⟨s1.heap.objs.size+1,[s1.heap.objs.size+1,s1.heap.objs.size],_,_,H1,rfl,I2,xi l _ _ (Nat.succ_ne_self _),⟨⟨_,he⟩,hi⟩,λb hb=>?_,q⟩;have hb'   :=by simpa using hb
  rcases hb' with rfl|rfl
  .exact I1.fpOk (JA _) (I1.hok.fresh (JA _))
  .exact I1.fpOk (Qp _) (I1.hok.fresh (Qp _))
end
end L2
namespace DL
open PySem PySem.Spec L2
open PyProof.Rows hiding St
section
variable{X:Cx}{B G0:Hp}{e a b c tg:UF}{pos:Pos}{es rest:wf}
theorem vB{K}{G1}{ad}{vs}{ds}(h:SqL K G1 ad vs)(r:Reps K G1 vs ds):X7 K (SL K ad) (Yz 1 ds) G1 where
 go:=λi G H s1 s2 hi=>by
  rw[Y1]at hi;have hi':i<vs.length:=by rw[r.length];exact hi
  exact⟨vs,vs[i],(s1.trans s2).seq h,Qd hi'⟩
 stop:=λi G H s1 s2 hi=>by rw[Y1]at hi;exact⟨vs,(s1.trans s2).seq h,by rw[r.length];exact hi⟩
 yld:=λi G H x H' d s1 s2 e y=>by
  obtain⟨p,v,hp,rfl,y1,rfl⟩:=y;have z1:=y1 vs ((s1.trans s2).seq h);rw[NQ]at e;cases q:ds[i]? with
  |none=>rw[q]at e;cases e
  |some dd=>rw[q]at e;cases e;obtain⟨v',e1,r1⟩:=r.get q;rw[z1]at e1;cases e1;refine⟨upd G p _,Ext.new s2 hp,.tup (SqT.of Yd) (.cons ?_ (.cons ((r1.mono s1).mono (Yi (s2.free hp))) .nil))⟩;exact .int _
noncomputable def Ra:wb->Option wb
 |[.list ds]=>O (Yz 1 ds)
 |_=>v4
noncomputable def ON(f:M wb):M wb:=Kp f λx=>Kq (Ra x)
theorem xg  (h:Ra x=O l):∃ds,x=[.list ds]/\l=Yz 1 ds:=by
 unfold Ra at h;split at h
 .simp_all
 simp_all
theorem qK  {p2 k1 k2}{j}{elts}{x1}{tp}(hg:Gl X "enumerate")(hm:X.mg "enumerate" = v4)(ha:PA X [a] (tDs X.K B G0 f))
  (hs:backTo pos (UI [a] X.env)=(wa,eval a X.env)::backTo pos (UI [] X.env):=by rfl) (hpl:(backTo pos (UI [a] X.env)).any (·.1)=wa:=by rfl) :
  PI X (.Tuple elts x1 tp) (.Call (.Name "enumerate" p2) [a] [⟨O "start", .Constant (.int 1) j k1,k2⟩] pos) (iD X.K B G0 (ON f)):=XS (qL hg hm ha hs hpl) λσ H R q=>tM.toI  q λv H' G' Z' x k r a=>by
 cases z:Ra x with
 |none=>rw[z]at a;exact a.elim
 |some l=>obtain⟨ds,rfl,rfl⟩:=xg z;obtain⟨v,rfl,q⟩:=r.one_inv;obtain⟨l,ws,rfl,h1,r1⟩:=q.lst_inv;exact⟨l,ws,rfl,k.gh.seq h1,a _ G' H' k (.refl _) (vB h1 r1)⟩
end
section
variable{X:Cx}
noncomputable def most:wc->Int
 |[]=>0
 |[n]=>n
 |n::r=>if most r > n then most r else n
theorem R3:∀{ns},0<ns.length->most ns∈ns
 |[n],_=>QM.2 v3
 |n::m::r,_=>by
  have ih:=R3 (ns:=m::r) (Uu _);unfold most;split
  .exact Qk _ ih
  .exact Qo ..
theorem PQ:∀{ns}{a},a∈ns->a<=most ns
 |[n],a,h=>by rw[QM.1 h];exact Ja _
 |n::m::r,a,h=>by
  have ih:∀b,b∈m::r->b<=most _:=λb hb=>PQ hb;unfold most;rcases QQ.1 h with e|h
  .subst e;split<;>lia
  .have:=ih a h;split<;>lia
theorem CG  {M}(h1:M∈ns)(h2:∀a,a∈ns->a<=M):most ns=M:=
 Uc (h2 _ (R3 (List.length_pos_of_mem h1))) (PQ h1)
theorem jX(hc:X.calm=v5):YS X (.builtin "max") (λxs H Q=>∃l,∃ns:wc,xs=[.ref l]/\SqL X.K H l (ns.map V.int)/\0<ns.length/\Q (.int (most ns)) H):=by
 intro pins s σ H xs us Q I rx h;obtain⟨l,ns,rfl,hq,hb,q⟩:=h;obtain⟨u,rfl,ru⟩:=rx.one;cases ru;obtain⟨its,rv,p,hz⟩:=I.list hq;have hi:=Vf rv;obtain⟨ys,e⟩:=hi.allInts.items;have hns:ns=ys.toList.map (·.1):=by rw[←hi.numsOf,←nums_intItems,←e]
 have hsz:0<ys.size:=by simp_all
 have hl:=p.isList;rw[e]at hl;refine max_intList (I.ok.hd hc) hl hsz λv h' tk hv hk=>?_
 obtain⟨t,rfl⟩:=intItems_at hv;obtain⟨h1,h2⟩:=argBest_gt (numAt ys) (ys.size-1);refine⟨.int _,H,I.kept hk,⟨t,?_⟩,q⟩;rw[CG  ?_ ?_]
 .rw[hns,numAt_eq];exact getD_mem (by rw[Qb,JP];omega)
 .intro a ha
  rw[hns]at ha;obtain⟨j,hj,rfl⟩:=mem_getD ha;rw[Qb,JP]at hj;rw[←numAt_eq];exact h2 j (by omega)
noncomputable def WV:wb->wd
 |[.list ds]=>(match YE ds with
  |some ns=>if 0<ns.length then O (.int (most ns))else v4
  |none=>v4)
 |_=>v4
theorem jW   (h:WV xs=O d):∃ds ns,xs=[.list ds]/\YE ds=O ns/\0<ns.length/\d=.int (most ns):=by
 unfold WV at h;split at h
 .rename_i ds
  cases z:YE ds with
  |none=>simp_all
  |some ns=>simp_all
 simp_all
theorem Du(hc:X.calm=v5):YW X (.builtin "max") WV:=by refine⟨_,jX hc,λvs G H ds d Q s r e k=>?_⟩;obtain⟨ds,ns,rfl,z,c,rfl⟩:=jW e;obtain⟨v,rfl,q1⟩:=r.one_inv;obtain⟨l,ws,rfl,h1,r1⟩:=q1.lst_inv;have:=Rr r1 z;subst this;exact⟨l,ns,rfl,s.seq h1,c,k _ G H (.refl s) (.int _)⟩
theorem Nx  (h:0<ns.length):WV [.list (ns.map .int)]=O (.int (most ns)):=by unfold WV;simp only[Rt,Qq h]
end
section
variable{X:Cx}{B G0:Hp}{e o:UF}{es:wf}
theorem vA   {xs:wb}{as}{d:D}(rs:ReadsAll h vs xs as)(hxs:UQ xs=v5) :
  vs.countP (λy=>US (SeqAt.readOf h y) d)=xs.countP (λy=>US y d):=by
 have key   :=(SeqAt.readsAll_map xs vs as hxs rs).symm;rw[key,List.countP_map];rfl
noncomputable def Tf(y x:D):wd:=match y with
 |.list ds=>if x.canLay0=v5/\UQ ds=v5/\x.depth<=60 then O (.int (ds.countP λy=>US y x))else v4
 |_=>v4
theorem Ax(hu:X.A.units+64<cLine):MtR X "list.count" (λv vs H Q=>∃G u y x d,vs=[u]/\Same G H/\Rep X.K G v y/\Rep X.K G u x/\Tf y x=O (.int d)/\Q (.int d) H):=by
 intro pins s σ H x xs v us Q I rx rs h;obtain⟨G,u,dy,dx,d,rfl,sg,py,px,e,q⟩:=h;obtain⟨w,rfl,wW⟩:=rs.one;unfold Tf at e;split at e
 .split at e
  .rename_i c
   obtain⟨bs,rb⟩:=Xh I sg py rx (c.2.1);obtain⟨as,ra⟩:=Xh I sg px wW c.1;cases rb with
   |list h1 h2 h3 h4=>rename_i l ob its cs n;obtain⟨cls,dd,data,sl⟩:=ob;subst h2 h3;refine call_meets F.slot_list_count ⟨_,h1,rfl⟩ F.entry_list_count (F.args_list_count_2 _ _) (SeqAt.list_countAt _ _ _ dd sl _ _) ⟨h1,SeqAt.items_eqAt h4 ra c.2.1 c.1 (by lia),?_⟩;rw[vA h4 c.2.1];cases e;exact⟨.int _,H,I.tok _,⟨_,rfl⟩,q⟩
  simp_all
 simp_all
noncomputable def PP(y:D)(xs:wb):wd:=match xs with
 |[x]=>Tf y x
 |_=>v4
theorem vz{ds xs:wb}{d}(h:PP (.list ds) xs=O d):∃x n,xs=[x]/\d=.int n/\Tf (.list ds) x=O (.int n):=by
 unfold PP at h;split at h
 .rename_i x
  have h':=h;unfold Tf at h;dsimp only at h;split at h
  .cases h;exact⟨x,_,rfl,rfl,h'⟩
  .cases h
 simp_all
noncomputable def Ts(f:M D)(g:M wb):M D:=Kp f λy=>Kp g λxs=>Kq (match y with | .list ds=>PP (.list ds) xs|_=>v4)
theorem jV{apos cpos}{f}{g}(hu:X.A.units+64<cLine)(ho:PE X o (tD X.K B G0 f))(ha:PA X (e::es) (tDs X.K B G0 g))
  (hbase:attributeBase o "count" X.env (eval o X.env)=eval o X.env:=by rfl)
  (hfew:((backTo cpos (UI (e::es) X.env)).all (λx=>!x.1)&&(backToKw cpos (keywordEach [] X.env)).all (λx=>x.1.isSome)
   && decide ((e::es).length+([]:List Keyword).length+(if([]:List Keyword).isEmpty then 0 else 1)<30))=v5:=by rfl)
  (hline:(apos.endLine==cpos.line)=v5:=by rfl) (hs:UI (e::es) X.env=(wa,eval e X.env)::UI es X.env:=by rfl) (hplain:(backTo cpos (UI es X.env)).any (·.1)=wa:=by rfl) :
  PE X (.Call (.Attribute o "count" apos) (e::es) [] cpos) (tD X.K B G0 (Ts f g)):=
 KM (Pl F.plainAttrs_list F.slot_list_count F.type_list_count (Ax hu) ho ha hbase hfew hline hs hplain) λσ H Q q=>by
  refine tM.one  q λv H2 G Z y k r a=>?_
  cases y with
  |list ds=>
   obtain⟨l,ws,rfl,h1,r1⟩:=r.lst_inv;refine⟨.inl ⟨rfl,ws,k.gh.seq h1⟩,?_⟩;refine tM.nx  k a λxs H3 G3 Z3 es k3 s3 r3 a3=>?_
   obtain⟨d,e,a3⟩:=a3.opt;obtain⟨x,n,rfl,rfl,e'⟩:=vz e;obtain⟨u,rfl,ru⟩:=r3.one_inv;exact⟨G3,u,.list ds,x,n,rfl,k3.gh,r.mono s3,ru,e',aft.now a3 k3 (.int _)⟩
  |_=>
   unfold Kp at a;cases z:g Z with
   |bad=>rw[z]at a;exact a.elim
   |ok xs Z1=>rw[z]at a;exact a.elim
theorem HI   {Z Z1 Z2}{ds:wb}{x d}(h1:f Z=.ok (.list ds) Z1)(h2:g Z1=.ok [x] Z2)(h3:Tf (.list ds) x=O d):Ts f g Z=.ok d Z2:=by unfold Ts Kp;rw[h1];dsimp only;rw[h2];dsimp only[PP];rw[h3];rfl
end
section
variable{prog:UC}{w:World}{A:Around}{R:Result->UB->Prop}{h0:Heap}{l I S:UD}{rs:List (UD×we)}
def XY(h h':Heap):Prop:=∀b o,h.get? b=O o->h'.get? b=O o
def Ls1(h:Heap)(a:UD)(its:we)(sl:Array wj):Prop:=∃n,h.get? a=O {cls:=.type "list", dict:=v4,data:=.seq its.toArray n,slots:=sl}
def Ls(h:Heap)(a:UD)(its:we):Prop:=∃n sl,h.get? a=O {cls:=.type "list", dict:=v4,data:=.seq its.toArray n,slots:=sl}
theorem Ls.kept  {a}{its}(x:Ls h a its)(k:XY h h'):Ls h' a its:=by obtain⟨n,sl,e⟩:=x;exact⟨n,sl,k _ _ e⟩
theorem xf(hh:A.in1.handled=v4)(hI:h0.objs.size<=I)(hS:h0.objs.size<=S)(hIS:S≠I)(hl:h0.IsList l (rs.map λp=>Value.ref p.1).toArray)(hr:∀p∈rs,Ls h0 p.1 p.2) :
  ∀(k i:Nat)(s:UB)(t:UD)(acc:we)(c:Nat)(sl:Array wj),rs.length-i=k->i<=rs.length->XY h0 s.heap->s.heap.IsListIter I l i ->
   s.heap.get? S=O {cls:=.type "list", dict:=v4,data:=.seq #[.ref t] c,slots:=#[]}->t≠S->t≠I->Ls1 s.heap t acc sl->acc.length+((rs.drop i).map (·.2)).flatten.length<=UG ->
   (∀p h' tk wC,XY h0 h'->Ls1 h' p (acc++((rs.drop i).map (·.2)).flatten) wC->(p=t/\i=rs.length/\wC=sl∨h0.objs.size<=p/\wC=#[])->R (.ok (.ret (.ref p))) {s with heap:=h',toks:=tk}) ->
   codeAny (model prog w) A (.builtin "sum.loop" ⟨[.ref I,.ref S,rawInt 2,rawInt 0],[]⟩) R s:=by
 intro k;induction k with
 |zero=>
  intro i s t acc c sl hk hi hK hit hSS htS htI ht hz hR;have hin:i=rs.length:=by lia
  subst hin;refine codeAny_builtin F.entry_sum_loop ?_;rw[Around.under_plainId F.plain_sum_loop _];show UH _ A.in1 (seqItems? (.ref S) >>= _) _ _ s;refine Qe (wpAny_seqItems hSS v3 ?_);show UH _ A.in1 (tryCatch (pyNext (.ref I)) _ >>= _) _ _ s;have hl':s.heap.IsList l (rs.map λp=>Value.ref p.1).toArray:=by obtain⟨o,e,r⟩:=hl;exact⟨o,hK _ _ e,r⟩
  refine wpAny_bind (wpAny_tryCatch (wpAny_pyNext_list_end hh hit hl' (by simp) λh' ex=>?_));refine Qm (hR t h' s.toks sl (λb o e=>?_) ?_ (.inl ⟨rfl,rfl,rfl⟩))
  .exact ex b o (QY (QH (Ql e) hI)) (hK b o e)
  .obtain⟨n,e⟩:=ht
   rw[List.drop_length,List.map_nil,List.flatten_nil,Jc];exact⟨n,ex _ _ htI e⟩
 |succ k ih=>
  intro i s t acc c sl hk hi hK hit hSS htS htI ht hz hR;have hlt:i<rs.length:=by lia
  refine codeAny_builtin F.entry_sum_loop ?_;rw[Around.under_plainId F.plain_sum_loop _];show UH _ A.in1 (seqItems? (.ref S) >>= _) _ _ s;refine Qe (wpAny_seqItems hSS v3 ?_);show UH _ A.in1 (tryCatch (pyNext (.ref I)) _ >>= _) _ _ s;have hl':s.heap.IsList l (rs.map λp=>Value.ref p.1).toArray:=by obtain⟨o,e,r⟩:=hl;exact⟨o,hK _ _ e,r⟩
  refine wpAny_bind (wpAny_tryCatch (wpAny_pyNext_list_item (x:=.ref (rs[i]'hlt).1) hit hl' (by simp[hlt]) λh' yL sb=>?_));refine Qe (wpAny_attempt (wpAny_holding ?_));have hm:rs[i]'hlt∈rs:=Jq hlt;have hd:rs.drop i=rs[i]'hlt::rs.drop (i+1):=Je hlt;have hK':XY h0 h':=λb o e=>(sb.2 b (QY (QH (Ql e) hI))).trans (hK b o e)
  obtain⟨n1,e1⟩:=ht;have e1':=(sb.2 t htI).trans e1;obtain⟨n2,s2,e2⟩:=(hr _ hm).kept hK';have yR:=(sb.2 S hIS).trans hSS;rw[hd,QF,Jg,Qj]at hz;refine concat_meets ⟨_,e1',rfl⟩ ⟨_,e2,rfl⟩ noFill_list_add seq_list_add PySem.F.slot_list_add PySem.F.entry_list_add (PySem.F.args_list_add_2 _ _) (list_addW t _ acc.toArray _ n1 n2 v4 v4 sl s2 (by rw[Jb,Jb];lia)) ⟨e1',e2,?_⟩;have hlS:S<h'.objs.size:=Ql yR;have hlI:I<h'.objs.size:=by obtain⟨o,e,_⟩:=yL;exact Ql e
  have ea:acc.toArray++(rs[i]'hlt).2.toArray=(acc++(rs[i]'hlt).2).toArray:=by simp
  rw[ea];have hP:∀b o,h'.get? b=O o->(h'.push {cls:=Value.type "list", data:=Data.seq (acc++(rs[i]'hlt).2).toArray}).get? b=O o:=λb o e=>Qi _ e
  have hS1:=hP _ _ yR;have hNew:(h'.push {cls:=Value.type "list", data:=Data.seq (acc++(rs[i]'hlt).2).toArray}).get? h'.objs.size=O {cls:=Value.type "list", data:=Data.seq (acc++(rs[i]'hlt).2).toArray}:=QA _ v3;show UH _ A.in1 (updateSeq S (λ_=>#[.ref h'.objs.size]) >>= _) _ _ _;refine Qe (wpAny_updateSeq hS1 v3 ?_);have hS2:=Jn (Obj.mapSeq λ_=>#[Value.ref h'.objs.size]) hS1 v3;refine Qe (wpAny_letGo ?_);refine Qe (wpAny_updateSeq hS2 v3 (Qm ⟨plainId_quiet F.plain_sum_loop _,?_⟩));have oth:∀b o,b≠S->(h'.push {cls:=Value.type "list", data:=Data.seq (acc++(rs[i]'hlt).2).toArray}).get? b=O o->(((h'.push {cls:=Value.type "list", data:=Data.seq (acc++(rs[i]'hlt).2).toArray}).update S (Obj.mapSeq λx=>#[Value.ref h'.objs.size])).update S (Obj.mapSeq λx=>#[Value.ref h'.objs.size])).get? b=O o:=λb o hb e=>(QP _ _ (Ne.symm hb)).trans ((QP _ _ (Ne.symm hb)).trans e)
  refine ih (i+1) _ h'.objs.size (acc++(rs[i]'hlt).2) _ #[] (by lia) hlt ?_ ?_ (Jn _ hS2 v3) (JD hlS) (JD hlI) ?_ (by rw[Qj];lia) λp h'' tk wC hk'' hp hq=>?_
  .exact λb o e=>oth b o (QY (QH (Ql e) hS)) (hP b o (hK' b o e))
  .obtain⟨o,e,r⟩:=yL
   exact⟨o,oth I o (Ne.symm hIS) (hP I o e),r⟩
  .exact⟨_,oth _ _ (JD hlS) hNew⟩
  .refine hR p h'' tk wC hk'' ?_ (.inr ?_)
   .rw[hd,QF,Jg,←Q2];exact hp
   .rcases hq with ⟨rfl, -,e⟩|hq
    .exact⟨Ut (Nat.lt_of_le_of_lt hS hlS),e⟩
    .exact hq
end
section
variable{prog:UC}{w:World}{A:Around}{E:UA->UB->Prop}{s:UB}{l z:UD}{rs:List (UD×we)}
theorem jU(a b:UA):argsOk "sum" ⟨[a,b],[]⟩:=by unfold argsOk;kernel_rfl
theorem xc{Q:UA->UB->Prop}(hh:A.handled=v4)(hl:s.heap.IsList l (rs.map λp=>Value.ref p.1).toArray)(hr:∀p∈rs,Ls s.heap p.1 p.2)(hz:Ls s.heap z [])(hb:(rs.map (·.2)).flatten.length<=UG)
  (h:∀p h' tk wC,XY s.heap h'->Ls1 h' p (rs.map (·.2)).flatten wC->(p=z/\rs=[]∨s.heap.objs.size<=p/\wC=#[])->Q (.ref p) {s with heap:=h',toks:=tk}) :
  UH (model prog w) A (call (.builtin "sum") [.ref l,.ref z]) Q E s:=by
 refine call_function_tree F.kind_sum F.plain_sum F.entry_sum (jU _ _) ?_;unfold Builtin.«sum»;simp only[Qv,QC];rw[QB (by decide)];refine Qe (wpAny_of_eq (rfl) ?_);refine Qe (JN hl ?_);refine Qe (Qm ?_);obtain⟨n,sl,ez⟩:=id hz;have ty:∀h:Heap,h.get? z=O {cls:=.type "list", dict:=v4,data:=.seq [].toArray n,slots:=sl}->({s with heap:=h}:UB).TypeIs (.ref z) "list" :=λh e=>⟨_,e,rfl⟩
 have ez':(s.heap.push {cls:=.type "list_iterator", data:=.fields #[.ref l,.int 0 0]}).get? z=_:=Qi _ ez;refine Qe (Qe (Qe (wpAny_isInstance (T:= "list") (b:=wa) (ty _ ez') F.sub_list_str ?_)));simp only[J8,if_false];refine Qm (Qe (Qe (wpAny_isInstance (T:= "list") (b:=wa) (ty _ ez') F.sub_list_bytes ?_)));simp only[J8,if_false];refine Qm (Qe (Qe (wpAny_isInstance (T:= "list") (b:=wa) (ty _ ez') F.sub_list_bytearray ?_)));simp only[J8,if_false];refine Qm (Qm ?_);refine Qe (wpAny_newObj_type ?_);have hzs:=Ql ez;have s1:(s.heap.push {cls:=.type "list_iterator", data:=.fields #[.ref l,.int 0 0]}).objs.size=s.heap.objs.size+1:=JM ..;have k2:XY s.heap ((s.heap.push {cls:=.type "list_iterator", data:=.fields #[.ref l,.int 0 0]}).push {cls:=.type "list", data:=.seq #[.ref z]}):=λb o e=>Qi _ (Qi _ e)
 refine Qm ⟨plainId_quiet F.plain_sum_loop _,xf (h0:=s.heap) (l:=l) (I:=s.heap.objs.size)  (rs:=rs) hh (Qp _) (by rw[s1];exact JA _) (by rw[s1];exact Nat.succ_ne_self _) hl hr rs.length 0 _ z [] 0 sl v3 (J6 _)
  k2 ⟨_,Heap.get?_push_of_some _ (Heap.get?_push_size _ v3),rfl,rfl⟩ (Heap.get?_push_size _ v3) (by rw[s1];exact Nat.ne_of_lt (Nat.lt_succ_of_lt hzs)) (Nat.ne_of_lt hzs) ⟨n,k2 _ _ ez⟩ (by simpa using hb) λp h' tk wC hk hp hq=>?_⟩
 exact h p h' tk wC hk (by simpa using hp) (hq.imp (λe=>⟨e.1,List.eq_nil_of_length_eq_zero e.2.1.symm⟩) id)
end
section
variable{X:Cx}{pins:List (UD×Obj)}{σ:St}{H:Hp}{s:UB}
theorem LY(I:Inv X pins σ H s):∀{rs:List (UD×List V)},(∀p∈rs,SqL X.K H p.1 p.2) ->
  ∃ts:List (UD×we),(ts.map λp=>Value.ref p.1)=(rs.map λp=>Value.ref p.1)/\(∀p∈ts,Ls s.heap p.1 p.2)/\Vals (rs.map (·.2)).flatten (ts.map (·.2)).flatten
 |[],_=>⟨[],rfl,(λ_ h=>by cases h),(Paired.nil)⟩
 |p::rs,h=>by
  obtain⟨ts,e,hl,hv⟩:=LY I λq hq=>h q (Qk _ hq)
  obtain⟨its,rv,⟨⟨c1,d1,t1,sl⟩,n,e1,ec,ed,et⟩,z⟩:=I.list (h p (Qo ..));simp only at ec ed et;subst ec ed et;refine⟨(p.1,its)::ts,by simp_all,λq hq=>?_,?_⟩
  .rcases QQ.1 hq with rfl|hq
   .exact⟨n,sl,e1⟩
   .exact hl q hq
  .exact rv.append hv
theorem GP:∀{as:wk}{us},Vals (as.map V.ref) us->us=as.map Value.ref
 |[],_,.nil=>rfl
 |a::as,_,.cons h t=>by cases h;rw[GP t];rfl
theorem jT(hc:X.calm=v5):YS X (.builtin "sum") (λxs H Q=>∃l z,∃rs:List (UD×List V),xs=[.ref l,.ref z]/\SqL X.K H l (rs.map λp=>V.ref p.1)/\(∀p∈rs,SqL X.K H p.1 p.2)/\SqL X.K H z []/\(rs.map (·.2)).flatten.length<=UG /\
  (rs=[]->Q (.ref z) H)/\∀p,H p=v4->Q (.ref p) (upd H p (.lst (rs.map (·.2)).flatten))):=by
 intro pins s σ H xs us Q I rx h;obtain⟨l,z,rs,rfl,hq,hr,hz,hb,q0,q⟩:=h;obtain⟨u,u',rfl,ru,ru'⟩:=Pm rx;cases ru;cases ru';obtain⟨its,rv,pl, -⟩:=I.list hq;obtain⟨ts,e,hl,hv⟩:=LY I hr;have ei:its=ts.map λp=>Value.ref p.1:=by rw[e];have:=GP   (by rw[QT];exact rv);rw[this,QT];rfl
 subst ei;obtain⟨zi,rz,⟨⟨c1,d1,t1,sl⟩,n,e1,ec,ed,et⟩, -⟩:=I.list hz;cases rz;simp only at ec ed et;subst ec ed et;have hlen:=hv.length;refine xc (I.ok.hd hc) pl.isList hl ⟨n,sl,e1⟩ (by lia) λp h' tk wC hk hp hq=>?_
 rcases hq with ⟨rfl,rfl⟩|⟨yA,rfl⟩
 .have hr0:rs=[]:=by
   simp_all
  exact⟨.ref _,H,I.kept hk,rfl,q0 hr0⟩
 .obtain⟨m,ep⟩:=hp
  exact⟨.ref p,_,I.laid  hk yA (show YK X.prog X.w _ h' _ (.lst _)from⟨hb,_,m,hv,ep⟩),rfl,q p (I.hok.fresh yA)⟩
noncomputable def W4:wb->Option (List wb)
 |[]=>O []
 |.list xs::r=>(W4 r).map (xs :: ·)
 |_=>v4
theorem FL{K}{G}:∀{vs}{ds}{ls},Reps K G vs ds->W4 ds=O ls ->
  ∃rs:List (UD×List V),vs=(rs.map λp=>V.ref p.1)/\(∀p∈rs,SqL K G p.1 p.2)/\Reps K G (rs.map (·.2)).flatten ls.flatten/\rs.length=ls.length
 |_,_,ls,.nil,e=>by cases e;exact⟨[],rfl,(λ_ h=>by cases h),.nil,rfl⟩
 |_,_,ls,.cons (d:=d) r t,e=>by
  cases d with
  |list xs=>
   unfold W4 at e;cases z:W4 _ with
   |none=>rw[z]at e;cases e
   |some cs=>
    rw[z]at e;cases e;obtain⟨rs,rfl,h1,h2,h3⟩:=FL t z;obtain⟨a,ws,rfl,h,rr⟩:=r.lst_inv;refine⟨(a,ws)::rs,rfl,λp hp=>?_,?_,Us _ h3⟩
    .rcases QQ.1 hp with rfl|hp
     .exact h
     .exact h1 p hp
    .exact rr.append h2
  |_=>cases e
theorem Fj(ls):W4 (ls.map UM)=O ls:=by
 induction ls with
 |nil=>rfl
 |cons b r ih=>rw[QF,W4,ih];rfl
noncomputable def Wf:wb->wd
 |[.list ds,.list []]=>(match W4 ds with
  |some ls=>if ls.flatten.length<=1000000 then O (.list ls.flatten)else v4
  |none=>v4)
 |_=>v4
theorem jS   (h:Wf xs=O d):∃ds ls,xs=[.list ds,.list []]/\W4 ds=O ls/\ls.flatten.length<=1000000/\d=.list ls.flatten:=by
 unfold Wf at h;split at h
 .rename_i ds
  cases z:W4 ds with
  |none=>simp_all
  |some ls=>simp_all
 simp_all
theorem Aw{ls:List wb}(h:ls.flatten.length<=1000000):Wf [.list (ls.map .list),.list []]=O (.list ls.flatten):=by unfold Wf;simp only[Fj,Qq h]
theorem Dt(hc:X.calm=v5):YW X (.builtin "sum") Wf:=by
 refine⟨_,jT hc,λvs G H ds d Q s r e k=>?_⟩;obtain⟨ds,ls,rfl,z,c,rfl⟩:=jS e;obtain⟨v,v',rfl,q1,q2⟩:=r.two_inv;obtain⟨l,ws,rfl,h1,r1⟩:=q1.lst_inv;obtain⟨a,ws2,rfl,h2,r2⟩:=q2.lst_inv;have:=r2.nil_inv;subst this;obtain⟨rs,rfl,g1,g2,g3⟩:=FL r1 z;refine⟨l,a,rs,rfl,s.seq h1,λp hp=>s.seq (g1 p hp),s.seq h2,?_,λe0=>?_,λp hp=>?_⟩
 .rw[g2.length];exact QE c lim
 .subst e0
  have   :=List.eq_nil_of_length_eq_zero g3.symm;subst this;exact k _ G H (.refl s) (.lst h2 .nil)
 .exact k _ _ _ (.new s hp) (.lst (SqL.of Yd) (g2.mono (Yi (s.free hp))))
end
section
variable{X:Cx}
noncomputable def YC(ns:wc):wc:=ns.mergeSort λa b=>decide (a<=b)
theorem Xa(ns:wc):(YC ns).Perm ns:=List.mergeSort_perm ..
theorem GO(ns):(YC ns).Pairwise (· <= ·):=by have:=List.pairwise_mergeSort (le:=λa b   =>decide (a<=b)) (by intro a b c;simp;lia) (by intro a b;simp;lia) ns;exact this.imp (by simp)
theorem LX:∀{a b:wc},a.Perm b->a.Pairwise (· <= ·)->b.Pairwise (· <= ·)->a=b
 |[],b,p,_,_=>by simp_all
 |x::a,[],p,_,_=>by simp_all
 |x::a,y::b,p,ha,hb=>by
  have hx:y<=x:=by
   rcases QQ.1 (p.mem_iff.1 (Qo ..))with e|e
   .exact Int.le_of_eq e.symm
   simp_all
  have hy:x<=y:=by
   rcases QQ.1 (p.mem_iff.2 (Qo ..))with e|e
   .exact Int.le_of_eq e.symm
   simp_all
  have e:=Uc hy hx;subst e;rw[LX (List.Perm.cons_inv p) (JT.1 ha).2 (JT.1 hb).2]
theorem GN:∀{us}{ns},PyProof.Rows.IntsAre us ns->Vals (ns.map V.int) us
 |_,_,.nil=>Paired.nil
 |_,_,.cons n t h=>Paired.cons ⟨t,rfl⟩ (GN h)
theorem xb:YS X (.builtin "sorted") (λxs H Q=>∃l,∃ns:wc,xs=[.ref l]/\SqL X.K H l (ns.map V.int)/\ns.length<64/\∀p,H p=v4->Q (.ref p) (upd H p (.lst ((YC ns).map V.int)))):=by
 intro pins s σ H xs us Q I rx h;obtain⟨l,ns,rfl,hq,hb,q⟩:=h;obtain⟨u,rfl,ru⟩:=rx.one;cases ru;obtain⟨its,rv,p,hz⟩:=I.list hq;have hi:=Vf rv;have hn:its.length=ns.length:=by have:=rv.length;simp_all
 refine sorted_ints p.isList hi (by lia) λout ns' a1 a2 a3=>?_
 obtain⟨e,he⟩:=sortedAll_at s.heap its out;have en   :=LX (a2.trans (Xa ns).symm) a3 (GO ns);subst en;refine⟨.ref _,_,I.laid  (λb o=>sortedAll_old) (JA _) (show YK X.prog X.w _ _ _ (.lst _)from⟨?_,out.toList,e,GN a1,he⟩),rfl,q _ (I.hok.fresh (JA _))⟩;rw[Qb,(Xa ns).length_eq];simp_all
noncomputable def SZ:wb->wd
 |[.list ds]=>(match YE ds with
  |some ns=>if ns.length<64 then O (.list ((YC ns).map .int))else v4
  |none=>v4)
 |_=>v4
theorem xa   (h:SZ xs=O d):∃ds ns,xs=[.list ds]/\YE ds=O ns/\ns.length<64/\d=.list ((YC ns).map .int):=by
 unfold SZ at h;split at h
 .rename_i ds
  cases z:YE ds with
  |none=>simp_all
  |some ns=>simp_all
 simp_all
theorem GM{K}{G}:∀ns:wc,Reps K G (ns.map V.int) (ns.map int)
 |[]=>.nil
 |n::r=>.cons (.int n) (GM r)
theorem CF:YW X (.builtin "sorted") SZ:=by refine⟨_,xb,λvs G H ds d Q s r e k=>?_⟩;obtain⟨ds,ns,rfl,z,c,rfl⟩:=xa e;obtain⟨v,rfl,q1⟩:=r.one_inv;obtain⟨l,ws,rfl,h1,r1⟩:=q1.lst_inv;have:=Rr r1 z;subst this;exact⟨l,ns,rfl,s.seq h1,c,λp hp=>k _ _ _ (.new s hp) (.lst (SqL.of Yd) (GM _))⟩
theorem jR  (h:ns.length<64):SZ [.list (ns.map .int)]=O (.list ((YC ns).map .int)):=by unfold SZ;simp only[Rt,Qq h]
end
@[simp] theorem mBind_ok   {k:α->M β}{Z Z'}{x}(h:f Z=.ok x Z'):Kp f k Z=k x Z':=by unfold Kp;rw[h]
theorem GL   {P:Nat->U7->Prop}{R:Out->Prop}:∀(ds)(n:Nat)(Z:U7),P n Z ->
  (∀i d Z,ds[i]?=O d->P (n+i) Z->∃Z1,s d Z=O Z1/\((∃Z2,(g Z1=.nx Z2∨g Z1=.ct Z2)/\P (n+i+1) Z2)∨(∃x,g Z1=.rt x/\R (.rt x))∨(∃Z2,g Z1=.bk Z2/\R (.nx Z2))∨(∃Z2 x,g Z1=.ex Z2 x/\R (.ex Z2 x)) ∨ ∃x,g Z1=.ro x/\R (.ro x)))->(∀Z,P (n+ds.length) Z->R (.nx Z))->R (Tn s g ds Z)
 |[],n,Z,h,_,f=>f Z h
 |d::r,n,Z,h,st,f=>by
  obtain⟨Z1,e1,e2⟩:=st 0 d Z v3 h;rw[Tn,e1];dsimp only;rcases e2 with ⟨Z2,e2,h2⟩|⟨x,e2,h2⟩|⟨Z2,e2,h2⟩|⟨Z2,x,e2,h2⟩|⟨x,e2,h2⟩
  .have goal:=GL (R:=R) r (n+1) Z2 h2 (λi d' Z3 q p=>by
    have e:n+1+i=n+(i+1):=by lia
    rw[e]at p⊢;exact st (i+1) d' Z3 (by simpa using q) p) (λZ3 p=>f Z3 (by
    have e:n+1+r.length=n+(d::r).length:=by rw[Qv];lia
    rw[e]at p;exact p))
   rcases e2 with e2|e2<;>(rw[e2];exact goal)
  .rw[e2];exact h2
  .rw[e2];exact h2
  .rw[e2];exact h2
  .rw[e2];exact h2
theorem Wi{lo hi}{i:Nat}{d}(h:(Z8 lo hi)[i]?=O d):d=.int (lo+i)/\(i:Int)<hi-lo:=by have hl   :=(Qg.mp h).1;rw[XG]at hl;unfold Z8 at h;simp_all
theorem Ds   {i}{v:α}(h0:0<=i)(h:xs[i.toNat]?=O v):atI xs i=O v:=by have:=Z7   h;rw[Int.toNat_of_nonneg h0]at this;exact this
section
variable{α β:Type}{Z Z1 Z2 Z3 Z':U7}{f g h:M D}
theorem U8{a:α}:U3 a Z=.ok a Z:=rfl
theorem Kb:U0 Z=.ok [] Z:=rfl
theorem Yq{o:Option α}{a:α}(h:o=O a):Kq o Z=.ok a Z:=by subst h;rfl
theorem Za{f}{k}{x:α}{r:Res β}(h:f Z=.ok x Z1)(h2:k x Z1=r):Kp f k Z=r:=by unfold Kp;rw[h];exact h2
theorem KY{f}{k:α->β}{x}(h:f Z=.ok x Z1):Ke k f Z=.ok (k x) Z1:=by unfold Ke Kp;rw[h];rfl
theorem U2{i:Nat}{d:D}(h:Z[i]?=O (O (.pub d))):UZ i Z=.ok d Z:=by unfold UZ;rw[h]
theorem Yc  {ds:wb}(h:Z[i]?=O (O (.own ds)))(h2:Z.set i (O (.pub (.list ds)))=Z'):UZ i Z=.ok (.list ds) Z':=by unfold UZ;simp_all
theorem Kf  {x y}{r:β}(h1:f Z=.ok x Z1)(h2:g Z1=.ok y Z2)(h3:op x y=O r):U5 op f g Z=.ok r Z2:=by exact Za h1 (Za h2 (Yq h3))
theorem U6{g}{x}{xs}(h1:f Z=.ok x Z1)(h2:g Z1=.ok xs Z2):U1 f g Z=.ok (x::xs) Z2:=by exact Za h1 (Za h2 v3)
theorem ZE{g}{xs:wb}(h1:g Z=.ok xs Z1)(h2:xs.length<=1000000):Kt g Z=.ok (.tuple xs) Z1:=by exact Za h1 (by rw[Qq h2];rfl)
theorem ZJ{g}{xs:wb}(h1:g Z=.ok xs Z1)(h2:xs.length<=1000000):KF g Z=.ok (.list xs) Z1:=by exact Za h1 (by rw[Qq h2];rfl)
theorem WO{g}{xs:wb}(h1:g Z=.ok xs Z1)(h2:xs.length<=1000000):(Kp g λxs=>if xs.length<=1000000 then U3 xs else λ_=>.bad) Z=.ok xs Z1:=
 Za h1 (by rw[Qq h2];rfl)
theorem Ko  {d y r}(h:Z[i]?=O (O (.pub d)))(h1:g Z=.ok y Z1)(h2:oIx d y=O r):U9 i g Z=.ok r Z1:=by unfold U9;rw[h];exact Za h1 (Yq h2)
theorem W3  {ds es:wb}{y r}(h:Z[i]?=O (O (.own ds)))(h1:g Z=.ok y Z1)(h3:Z1[i]?=O (O (.own es)))(h2:oIx (.list es) y=O r):U9 i g Z=.ok r Z1:=by unfold U9;rw[h];exact Za h1 (by rw[h3];exact Yq h2)
theorem ZI  {g}{xs}{r}(h1:g Z=.ok xs Z1)(h2:p xs=O r):Zt p g Z=.ok r Z1:=by exact Za h1 (Yq h2)
theorem Kx   {g}{xs}{r}(h1:g Z=.ok xs Z1)(h2:xs.length=n)(h3:F xs=O r):Kd n F g Z=.ok r Z1:=by exact Za h1 (by rw[Qq h2];exact Yq h3)
theorem Tr  (h1:f Z=.ok (.int i) Z1):Yg f Z=.ok (.int (-i)) Z1:=by exact Za h1 v3
theorem Zq   (h:Z[i]?=O (O (.pub d)))(h2:Kr [d]=O r):K7 i Z=.ok r Z:=by unfold K7;rw[h];exact Yq h2
theorem CD   (h:Z[i]?=O (O (.own ds))):K7 i Z=.ok (.int ds.length) Z:=by unfold K7;rw[h]
theorem We{g}{i}{r}(h1:g Z=.ok [.int i] Z1)(h2:RC [.int i]=O r):Xv g Z=.ok r Z1:=by exact Za h1 (Yq h2)
theorem LW{g}{i j}{r}(h1:g Z=.ok [.int i,.int j] Z1)(h2:RB [.int i,.int j]=O r):Ph g Z=.ok r Z1:=by exact Za h1 (Yq h2)
theorem WN{g}{xs r}(h1:g Z=.ok xs Z1)(h2:RA xs=O r):XI g Z=.ok r Z1:=by exact Za h1 (Yq h2)
theorem YT  (h1:f Z=.ok (.int i) Z1):(Kp f λx=>Kq (YD x)) Z=.ok (O i) Z1:=Za h1 v3
theorem XA{f:M Bool}{t:Bool}(h1:f Z=.ok t Z1):K9 f Z=.ok (!t) Z1:=KY h1
theorem Wd  (h1:f Z=.ok (.bool t) Z1):Yr f Z=.ok t Z1:=by exact Za h1 v3
theorem Pt{f g}{t u}(h1:f Z=.ok t Z)(h2:t=v5->g Z=.ok u Z):ZN f g Z=.ok (t&&u) Z:=by
 refine Za h1 ?_;cases t with
 |true=>exact h2 v3
 |false=>rfl
theorem Ey{f g}{t u}(h1:f Z=.ok t Z)(h2:t=wa->g Z=.ok u Z):mOr f g Z=.ok (t || u) Z:=by
 refine Za h1 ?_;cases t with
 |false=>exact h2 v3
 |true=>rfl
theorem W8  (h1:f Z=.ok (.bool t) Z)(h2:t=v5->g Z=.ok (.bool u) Z):V6 f g Z=.ok (.bool (t&&u)) Z:=by
 refine Za h1 ?_;cases t with
 |true=>exact h2 v3
 |false=>rfl
theorem MK  (h1:f Z=.ok (.bool t) Z)(h2:t=wa->g Z=.ok (.bool u) Z):Vm f g Z=.ok (.bool (t || u)) Z:=by
 refine Za h1 ?_;cases t with
 |false=>exact h2 v3
 |true=>rfl
theorem Bw  (h1:f Z=.ok (.bool t) Z1):Ov f Z=.ok (.bool (!t)) Z1:=by exact Za h1 v3
theorem MJ{f}{g h:M α}{r}(h1:f Z=.ok v5 Z1)(h2:g Z1=r):mIf f g h Z=r:=by exact Za h1 (by exact h2)
theorem OM{f}{g h:M α}{r}(h1:f Z=.ok wa Z1)(h2:h Z1=r):mIf f g h Z=r:=by exact Za h1 (by exact h2)
theorem Ex{f}{g h}{t}{x y:α}(h1:f Z=.ok t Z1)(h2:g Z1=.ok x Z1)(h3:h Z1=.ok y Z1):mIf f g h Z=.ok (if t=v5 then x else y) Z1:=by
 refine Za h1 ?_;cases t with
 |true=>exact h2
 |false=>exact h3
theorem P6  {x y z}{t u}(h1:f Z=.ok x Z)(h2:g Z=.ok y Z)(h3:p x y=O t)(h4:t=v5->h Z=.ok z Z)(h5:t=v5->q y z=O u):Rc p q f g h Z=.ok (t&&u) Z:=by
 refine Za h1 (Za h2 (Za (Yq h3) ?_));cases t with
 |true=>exact Za (h4 v3) (Yq (h5 v3))
 |false=>rfl
theorem Zf{i j:Int}:Kg (.int i) (.int j)=O (.int (i+j)):=rfl
theorem Xg{x y:wb}(h:x.length+y.length<=1000000):Kg (.list x) (.list y)=O (.list (x++y)):=by exact Qq h
theorem Y9{i j:Int}:Zv (.int i) (.int j)=O (.int (i-j)):=rfl
theorem R1  (h1 : -18446744073709551616<i)(h2:i<18446744073709551616):KR (.int i) (.int j)=O (.int (i*j)):=by exact Qq (.inl ⟨by lia,by lia⟩)
theorem WU{i j}(h1 : -18446744073709551616<j)(h2:j<18446744073709551616):KR (.int i) (.int j)=O (.int (i*j)):=by exact Qq (.inr ⟨by lia,by lia⟩)
theorem Fi{x:wb}{k}(h : -1000000<=k/\k<=1000000/\x.length*k.toNat<=1000000):KR (.list x) (.int k)=O (.list (UL k.toNat x).flatten):=by exact Qq h
theorem W7{i j}(h:0<j):ZV (.int i) (.int j)=O (.int (i % j)):=by exact Qq h
theorem Av{i j}(h:0<j)(h2:j<2 ^ 200):Wm (.int i) (.int j)=O (.int (i / j)):=by exact Qq ⟨h,h2⟩
theorem LV{i j}(h:0<j)(h2:j<18446744073709551616):Wm (.int i) (.int j)=O (.int (i / j)):=Av h (Int.lt_trans h2 (by decide))
theorem Bv{i j}(h:0<=j/\j<=1000000/\i.natAbs<2 ^ 64):Vk (.int i) (.int j)=O (.int (i ^ j.toNat)):=by exact Qq h
theorem Wh{p:Int->Int->Bool}{i j:Int}:oIB p (.int i) (.int j)=O (p i j):=rfl
theorem YL  : oEq (.int i) (.int j)=O (decide (i=j)):=by
 congr 1
theorem Zw{xs:wb}:Kr [.list xs]=O (.int xs.length):=rfl
theorem HH{xs:wb}:Kr [.tuple xs]=O (.int xs.length):=rfl
theorem Nj{i j:Int}:SU [.int i,.int j]=O (.int (if j > i then j else i)):=rfl
theorem Bu{i j:Int}:Pi [.int i,.int j]=O (.int (if j<i then j else i)):=rfl
theorem Wc  (h1:j<=1000000)(h2 : -1000000<=j):RC [.int j]=O (Z8 0 j):=by exact Qq ⟨h1,h2⟩
theorem HG{i j}(h1:j<=1000000)(h2 : -1000000<=j)(h3:i<=1000000)(h4 : -1000000<=i):RB [.int i,.int j]=O (Z8 i j):=by exact Qq ⟨h1,h2,h3,h4⟩
theorem WT{xs:wb}:RA [.list xs]=O (Yz 0 xs):=rfl
theorem KH  {d}(h1:f Z=.ok d Z1)(h2:i<Z1.length)(h3:Z1.set i (O (.pub d))=Z'):Ki i f Z=.nx Z':=by unfold Ki Zs sB gN;simp_all
theorem Yb  {f}{ds}(h1:f Z=.ok ds Z1)(h2:i<Z1.length)(h3:Z1.set i (O (.own ds))=Z'):Zk i f Z=.nx Z':=by unfold Zk sB;simp_all
theorem Xj   {wR ds}(h0:Z[i]?=O (O (.own wR)))(h1:f Z=.ok d Z1)(h2:Z1[i]?=O (O (.own ds)))(h3:ds.length<1000000)(h4:Z1.set i (O (.own (ds++[d])))=Z'):Zy i f Z=.nx Z':=by unfold Zy sB;simp_all
theorem Xz   (h1:f Z=.ok d Z1)(h2:s d Z1=O Z'):Zs f s Z=.nx Z':=by unfold Zs sB;simp_all
theorem Xi{d:D}(h1:f Z=.ok d Z1):YR f Z=.nx Z1:=by unfold YR sB;rw[h1]
theorem Ka   (h:i<Z.length)(h2:Z.set i (O (.pub d))=Z'):gN i d Z=O Z':=by unfold gN;simp_all
theorem KL:gN0 [] Z=O Z:=rfl
theorem Kh     (h1:s d Z=O Z1)(h2:t r Z1=O Z'):gNC s t (d::r) Z=O Z':=by unfold gNC;simp_all
theorem KJ   {ds:wb}(h1:ds.length=n)(h2:t ds Z=O Z'):gT n t (.tuple ds) Z=O Z':=by unfold gT;simp_all
structure Ho(g:SM)(Z:U7)(Q:Out->Prop):Prop where
 out:Q (g Z)
noncomputable def Ew(h:SM)(Q:Out->Prop):Out->Prop
 |.nx Z'=>Ho h Z' Q
 |o=>Q o
structure Pe(h:SM)(Q:Out->Prop)(o:Out):Prop where
 out:Ew h Q o
variable{Q:Out->Prop}{s t u:SM}
theorem KD(h:Ho s Z (Pe t Q)):Ho (U4 s t) Z Q:=by
 have h:=h.out.out;constructor;unfold U4;cases e:s Z with
 |nx o=>rw[e]at h;exact h.out
 |_=>rw[e]at h;exact h
theorem Kn(h1:s Z=.nx Z1)(h2:Ho t Z1 Q):Ho (U4 s t) Z Q:=by
 constructor;unfold U4;rw[h1];exact h2.out
theorem Zz{o:Out}(h1:s Z=o)(h2:Q o):Ho s Z Q:=by constructor;rw[h1];exact h2
theorem KO(h:Q (.nx Z)):Ho sNx Z Q:=⟨h⟩
theorem KB{o:U7}(h:Ho t o Q):Pe t Q (.nx o):=⟨h⟩
theorem Yo{d:D}(h:Q (.rt d)):Pe t Q (.rt d):=⟨h⟩
theorem KE{f}{b}(h1:f Z=.ok b Z1)(h2:b=v5->Ho s Z1 Q)(h3:b=wa->Ho t Z1 Q):Ho (sIf f s t) Z Q:=by
 constructor;unfold sIf sB;rw[h1];cases b with
 |true=>exact(h2 v3).out
 |false=>exact(h3 v3).out
theorem KG  (h1:f Z=.ok d Z1)(h2:Q (.rt d)):Ho (Kc f) Z Q:=by constructor;unfold Kc sB;simp_all
theorem Ni{P:Out->Prop}(h:Ho s Z P)(k:∀o,P o->Q o):Ho s Z Q:=⟨k _ h.out⟩
noncomputable def Ev(I:U7->Prop)(Q:Out->Prop):Out->Prop
 |.nx Z | .ct Z=>I Z
 |.bk Z=>Q (.nx Z)
 |.rt d=>Q (.rt d)
 |.ex Z d=>Q (.ex Z d)
 |.ro ds=>Q (.ro ds)
 |.bad=>False
structure Tq(I:U7->Prop)(Q:Out->Prop)(o:Out):Prop where
 out:Ev I Q o
theorem Zu{I:U7->Prop}(h:I Z):Tq I Q (.nx Z):=⟨h⟩
theorem RZ{I:U7->Prop}{d:D}(h:Q (.rt d)):Tq I Q (.rt d):=⟨h⟩
theorem ZX{f}{tg}{ds}(I:Nat->U7->Prop)(h1:f Z=.ok ds Z1)(h0:I 0 Z1)
  (hst:∀i d Z,ds[i]?=O d->I i Z->∃Z2,tg d Z=O Z2/\Ho s Z2 (Tq (I (i+1)) Q)) (hend:∀Z,I ds.length Z->Q (.nx Z)):Ho (KQ f tg s) Z Q:=by
 constructor;unfold KQ sB;rw[h1];refine GL   ds 0 Z1 h0 (λi d Z e p=>?_) (λZ p=>hend Z (by simp_all))
 rw[QS]at p;obtain⟨Z2,e2,q⟩:=hst i d Z e p;refine⟨Z2,e2,?_⟩;rw[QS];have q:=q.out.out;cases z:s Z2 with
 |nx o=>rw[z]at q;exact .inl ⟨o,.inl v3,q⟩
 |ct o=>rw[z]at q;exact .inl ⟨o,.inr v3,q⟩
 |rt o=>rw[z]at q;exact .inr (.inl ⟨o,rfl,q⟩)
 |bk o=>rw[z]at q;exact .inr (.inr (.inl ⟨o,rfl,q⟩))
 |ex o x=>rw[z]at q;exact .inr (.inr (.inr (.inl ⟨o,x,rfl,q⟩)))
 |ro o=>rw[z]at q;exact .inr (.inr (.inr (.inr ⟨o,rfl,q⟩)))
 |bad=>rw[z]at q;exact q.elim
theorem WI   {P:D->Prop}(h0:X9 N ds=Z)(h:Ho s Z λo=>∃d,o=.rt d/\P d):∃d,Kl N s ds=O d/\P d:=by subst h0;obtain⟨d,e,p⟩:=h.out;refine⟨d,?_,p⟩;unfold Kl;rw[e]
theorem Ze    (h0:X9 N ds=Z)(h:Ho s Z λo=>o=.rt d):Kl N s ds=O d:=by obtain⟨d',e,p⟩:=WI  h0 (Ni h λo e=>⟨d,e,rfl⟩);simp_all
end
section
variable{α β:Type}{Z Z1 Z2 Z3 Z':U7}{f g h:M D}
theorem Xy  {x r}{a b}(h1:f Z=.ok x Z1)(h2:l Z1=.ok a Z2)(h3:u Z2=.ok b Z3)(h4:YI x a b=O r):ZG f l u Z=.ok r Z3:=by exact Za h1 (Za h2 (Za h3 (Yq h4)))
theorem Dr{f g}(h1:f Z=.ok v5 Z1):mOr f g Z=.ok v5 Z1:=by exact Za h1 v3
theorem XJ{f g}{u}(h1:f Z=.ok wa Z1)(h2:g Z1=.ok u Z2):mOr f g Z=.ok u Z2:=by exact Za h1 (by exact h2)
theorem PN{f g}(h1:f Z=.ok wa Z1):ZN f g Z=.ok wa Z1:=by exact Za h1 v3
theorem LU{f g}{u}(h1:f Z=.ok v5 Z1)(h2:g Z1=.ok u Z2):ZN f g Z=.ok u Z2:=by exact Za h1 (by exact h2)
theorem WS  {d}{t}(h:f Z=.ok d Z1)(ht:(!Zb d c)=t):K9 (Yr (Ke (λd=>.bool (Zb d c)) f)) Z=.ok t Z1:=by subst ht;exact XA (Wd (KY  h))
theorem ZD   (h1:f Z=.ok x Z1)(h2:O9 x=O r):K8 f Z=.ok r Z1:=by exact Za h1 (Yq h2)
theorem Yk  {i}{d y}{r:β}(h:Z[i]?=O (O (.pub d)))(h1:g Z=.ok y Z1)(h2:p d y=O r):K6 p i g Z=.ok r Z1:=by unfold K6;rw[h];exact Za h1 (Yq h2)
theorem HF  {i}{ds es}{y}{r:β}(h:Z[i]?=O (O (.own ds)))(h1:g Z=.ok y Z1)(h3:Z1[i]?=O (O (.own es)))(h2:p (.list es) y=O r):K6 p i g Z=.ok r Z1:=by unfold K6;rw[h];exact Za h1 (by rw[h3];exact Yq h2)
theorem Yj{f}{k}{s}{t}{ds es}(h1:f Z=.ok ds Z1)(h2:Zp s t g ds (KT Z1++UL k v4) []=O es):ZC f k s t g Z=.ok es Z1:=by unfold ZC;simp_all
theorem TK   (p)(q)(I:U7->Prop):∀(ds:wb)(Z:U7)(es:wb),(∀d∈ds,∀Z,I Z->∃Z1,s d Z=O Z1/\t Z1=.ok (p d) Z1/\(p d=v5->g Z1=.ok (q d) Z1)/\I (KT Z1))->I Z->es.length+ds.length<=1000000 ->
  Zp s t g ds Z es=O (es++(ds.filter p).map q)
 |[],Z,es,_,_,_=>by rw[Zp];simp
 |d::r,Z,es,st,h0,hz=>by
  obtain⟨Z1,e1,e2,e3,h1⟩:=st d Qo Z h0;have ih:=λes' hz'=>TK p q I r _ es' (λd' hd=>st d' (Qk _ hd)) h1 hz';rw[Qv]at hz;rw[Zp,e1];dsimp only;rw[e2];dsimp only
  cases hp:p d with
  |true=>rw[Qq v3,e3 hp];dsimp only;rw[Qq (by lia),ih _ (by rw[Qj,QD];lia),List.filter_cons_of_pos hp,Q2];rfl
  |false=>rw[QB (by decide),ih _ (by lia),List.filter_cons_of_neg (by rw[hp];decide)]
theorem Tw  {d}{k}{wR ds}(h1:f Z=.ok d Z1)(h0:Z1[j]?=O (O (.own wR)))(h2:g Z1=.ok (.int k) Z2)(h3:Z2[j]?=O (O (.own ds)))(h4:0<=k/\k<ds.length)(h5:Z2.set j (O (.own (ds.set k.toNat d)))=Z'):WF j g f Z=.nx Z':=by unfold WF sB;simp_all
theorem TD{xs:wb}{a b:wg}:YI (.list xs) a b=O (.list (DL.cutD xs a b)):=rfl
theorem YB{xs:wb}:O9 (.list xs)=O xs:=rfl
theorem vy(bs):Tg (bs.map UN)=O bs:=by
 induction bs with
 |nil=>rfl
 |cons b r ih=>rw[QF,Tg,ih];rfl
theorem LS{bs:List Bool}:Yv [.list (bs.map UN)]=O (.bool (bs.all id)):=by unfold Yv;dsimp only;rw[vy];rfl
end
section
variable{α β:Type}{Z Z1 Z2 Z3 Z4 Z':U7}{f g h:M D}{s:SM}
theorem MI  {xs:wb}(h1:f Z=.ok (.list xs) Z1)(h2:l Z1=.ok v4 Z2)(h3:u Z2=.ok v4 Z3)(h4:t Z3=.ok (O (-1)) Z4):Wo f l u t Z=.ok (.list xs.reverse) Z4:=by exact Za h1 (Za h2 (Za h3 (Za h4 (Yq (by unfold TM;exact Qq v3)))))
theorem Rq    (h:Z[i]?=O (O (.pub d)))(h2:X6 [d]=O ds):WK i Z=.ok ds Z:=by unfold WK;rw[h];exact Yq h2
theorem RG   (h0:X9 N ds=Z)(h:Ho s Z λo=>∃Z',o=.nx Z'):Kl N s ds=O .none:=by subst h0;obtain⟨Z',e⟩:=h.out;unfold Kl;rw[e]
theorem PM  : oNe (.int i) (.int j)=O (!decide (i=j)):=by
 congr 1
theorem Au{xs:wc}{j}{v}:(xs.map int).set j (.int v)=(xs.set j v).map int:=by simp_all
theorem At{xs:wc}{a b:Int}(ha:0<=a)(hb:0<=b)(hl:b<=xs.length):DL.cutD (xs.map int) (O a) (O b)=((xs.drop a.toNat).take (b.toNat-a.toNat)).map int:=by
 unfold DL.cutD HT.sIx;dsimp only;rw[QB (by lia),QB (by lia),Qb,Uh];have e2:min b.toNat xs.length=b.toNat:=by lia
 rw[e2];by_cases hab:a.toNat<=xs.length
 .simp_all
 .have e3:b.toNat-a.toNat=0:=by lia
  grind
end
section
variable{Z Z1:U7}
theorem As   (h1:g Z=.ok xs Z1)(h2:Ra xs=O r):ON g Z=.ok r Z1:=by exact Za h1 (Yq h2)
theorem jQ{xs:wb}:Ra [.list xs]=O (Yz 1 xs):=rfl
end
section
variable{X:Cx}{B G0:Hp}{KX:XW}{e o a b c tg i:UF}{pos p2:Pos}{es rest:wf}
noncomputable def W0(f:M Bool)(g:SM):Nat->SM
 |0,_=>.bad
 |n+1,Z=>match f Z with
  |.bad=>.bad
  |.ok t Z1=>if t=v5 then(match g Z1 with
   |.nx Z2=>W0 f g n Z2
   |.ct Z2=>W0 f g n Z2
   |.bk Z2=>.nx Z2
   |.rt d=>.rt d
   |.ro ds=>.ro ds
   |.ex Z2 d=>.ex Z2 d
   |.bad=>.bad)else .nx Z1
theorem Ar  {f}{g}(n)(hp:PassesOwn (model X.prog X.w) X.A X.env X.xe)(hc:PT X c (tBo X.K B G0 f))(hb:PSs X body (tS X.K B G0 KX g)):PS X (.While c body [] pos) (tS X.K B G0 KX (W0 f g n)):=
 ZU (qJ hp hc hb) λDn σ H ⟨G,Z,k,a⟩=>by
  refine⟨λm σ' H'=>∃G' Z',EOk X.K B G0 G' H' σ' Z'/\aftS X.K B G0 KX (W0 f g m Z') G' Dn,⟨n,G,Z,k,a⟩,?_⟩;rintro m σ' H' ⟨G',Z',k',a'⟩;cases m with
  |zero=>exact a'.elim
  |succ m=>
   rw[W0]at a';refine⟨G',Z',k',?_⟩;cases z:f Z' with
   |bad=>rw[z]at a';exact a'.elim
   |ok t Z1=>
    rw[z]at a';dsimp only at a';intro v G1 H1 k1 s1 e1;subst e1;cases v with
    |false=>exact a' _ G1 H1 k1 s1
    |true=>
     refine⟨λσ2 H2=>∃G2 Z2,EOk X.K B G0 G2 H2 σ2 Z2/\aftS X.K B G0 KX _ G2 Dn,λσ2 H2 h2=>⟨m,Ul m,h2⟩,G1,Z1,k1,?_⟩;cases z2:g Z1 with
     |nx Z2=>rw[z2]at a';exact λσ4 G4 H4 k4 s4=>⟨G4,Z2,k4,aftS.mono (s1.trans s4) a'⟩
     |ct Z2=>rw[z2]at a';exact λσ4 G4 H4 k4 s4=>⟨G4,Z2,k4,aftS.mono (s1.trans s4) a'⟩
     |bk Z2=>rw[z2]at a';exact λσ4 G4 H4 k4 s4=>a' σ4 G4 H4 k4 (s1.trans s4)
     |rt d=>rw[z2]at a';exact a'
     |ro ds=>rw[z2]at a';exact a'
     |ex Z2 d=>rw[z2]at a';exact λv σ4 G4 H4 k4 s4 r4=>a' v σ4 G4 H4 k4 (s1.trans s4) r4
     |bad=>rw[z2]at a';exact a'.elim
noncomputable def XQ(op:Int->Int->wd)(j:Nat)(f:M D):SM:=λZ=>match Z[j]? with
 |some (O (.pub (.int a)))=>sB f (λy Z1=>match y with
  |.int b=>(match op a b with
   |some d=>if j<Z1.length then .nx (Z1.set j (O (.pub d)))else .bad
   |none=>.bad)
  |_=>.bad) Z
 |_=>.bad
def IpD(X:Cx)(op:Operator)(p:Int->Int->wd):Prop:=∃ti,PIp X op ti/\∀i j d,p i j=O d->∃v:V,(∀G,Rep X.K G v d)/\∀H(Q:VK),Q v H->ti (.int i) (.int j) H Q
theorem Bt:IpD X .Mult Xn:=⟨_,BW,λi j d e=>by
 unfold Xn at e;split at e
 .rename_i h
  cases e;exact⟨_,λ_=>.int _,λH Q q=>⟨i,j,rfl,rfl,h,q⟩⟩
 simp_all⟩
theorem Dq  {x:Str}{op}{p}{f:M D}{pos':Pos}(hN:X.N.Nodup)(hi:X.N[j]?=O x)(hx:Loc X.env.scope x)(ho:IpD X op p)(he:PE X e (tD X.K B G0 f))(hf:X.fn x=v5∨X.env.scope.names.lookup x=O .local:=by first|exact .inl rfl|exact .inr rfl|assumption) :
  PS X (.AugAssign (.Name x pos') op e pos) (tS X.K B G0 KX (XQ p j f)):=by
 obtain⟨ti,hti,hp⟩:=ho;refine ZU (Cp hN hi hx he hti hf) λDn σ H ⟨G,Z,k,a⟩=>?_;unfold XQ at a
 cases q:Z[j]? with
 |none=>rw[q]at a;exact a.elim
 |some o0=>
  cases o0 with
  |none=>rw[q]at a;exact a.elim
  |some sl=>
   cases sl with
   |deep _ _=>rw[q]at a;exact a.elim
   |own ds=>rw[q]at a;exact a.elim
   |pub d0=>
    rw[q]at a;cases d0 with
    |int i0=>
     dsimp only at a;obtain⟨v,h1,h2⟩:=k.pub j _ q;cases h2.int_inv;refine⟨.int i0,h1,G,Z,k,?_⟩;unfold sB at a;cases z:f Z with
     |bad=>rw[z]at a;exact a.elim
     |ok y Z1=>
      rw[z]at a;intro u G1 H1 k1 s1 r1;cases y with
      |int i1=>
       cases r1.int_inv;dsimp only at a;cases w:p i0 i1 with
       |none=>rw[w]at a;exact a.elim
       |some d=>
        rw[w]at a;dsimp only at a;split at a
        .rename_i hl
         obtain⟨v',rv,hq⟩:=hp i0 i1 d w;exact hq H1 _ (a _ G1 H1 (k1.setPub (rv G1) hl) s1)
        .exact a.elim
      |_=>exact a.elim
    |_=>exact a.elim
noncomputable def Tp(Z:U7)(j:Nat):Option wb:=match Z[j]? with
 |some (O (.own ds))=>O ds
 |_=>v4
theorem NO    (h:Tp Z j=O ds):Z[j]?=O (O (.own ds)):=by
 unfold Tp at h;split at h
 .simp_all
 simp_all
end
section
variable{X:Cx}{B G0:Hp}{e o a b c tg i:UF}{pos p2:Pos}{es rest:wf}
theorem jP:MtR X "list.index" (λv vs H Q=>∃l k,∃ns:wc,v=.ref l/\vs=[.int k]/\SqL X.K H l (ns.map V.int)/\PyData.layable0 (.list (ns.map .int))=v5/\k∈ns/\Q (.int (ns.idxOf k:Nat)) H):=by intro pins s σ H x vs v us Q I rx rv h;obtain⟨l,k,ns,rfl,rfl,hq,hl,hk,q⟩:=h;cases rx;obtain⟨u,rfl,ru⟩:=rv.one;obtain⟨t,rfl⟩:=ru;obtain⟨its,rv,p,hz⟩:=I.list hq;exact index_list_ints p.isList (Vf rv) hl hk ⟨.int _,H,I.tok _,⟨_,rfl⟩,q⟩
noncomputable def Rj(y:D)(xs:wb):wd:=match y,xs with
 |.list ds,[.int k]=>(match YE ds with
  |some ns=>if PyData.layable0 (.list (ns.map .int))=v5/\k∈ns then O (.int (ns.idxOf k:Nat))else v4
  |none=>v4)
 |_,_=>v4
theorem vw{ds xs:wb}{d}(h:Rj (.list ds) xs=O d):∃k ns,xs=[.int k]/\YE ds=O ns/\PyData.layable0 (.list (ns.map .int))=v5/\k∈ns/\d=.int (ns.idxOf k:Nat):=by
 unfold Rj at h;split at h
 .rename_i ds' k e1
  cases e1;cases z:YE ds with
  |none=>simp_all
  |some ns=>simp_all
 simp_all
noncomputable def Ps(f:M D)(g:M wb):M D:=Kp f λy=>Kp g λxs=>Kq (match y with | .list ds=>Rj (.list ds) xs|_=>v4)
theorem jO{apos cpos}{f}{g}(ho:PE X o (tD X.K B G0 f))(ha:PA X (e::es) (tDs X.K B G0 g))
  (hbase:attributeBase o "index" X.env (eval o X.env)=eval o X.env:=by rfl)
  (hfew:((backTo cpos (UI (e::es) X.env)).all (λx=>!x.1)&&(backToKw cpos (keywordEach [] X.env)).all (λx=>x.1.isSome)
   && decide ((e::es).length+([]:List Keyword).length+(if([]:List Keyword).isEmpty then 0 else 1)<30))=v5:=by rfl)
  (hline:(apos.endLine==cpos.line)=v5:=by rfl) (hs:UI (e::es) X.env=(wa,eval e X.env)::UI es X.env:=by rfl) (hplain:(backTo cpos (UI es X.env)).any (·.1)=wa:=by rfl) :
  PE X (.Call (.Attribute o "index" apos) (e::es) [] cpos) (tD X.K B G0 (Ps f g)):=
 KM (Pl F.plainAttrs_list F.slot_list_index F.type_list_index jP ho ha hbase hfew hline hs hplain) λσ H Q q=>by
  refine tM.one  q λv H2 G Z y k r a=>?_
  cases y with
  |list ds=>
   obtain⟨l,ws,rfl,h1,r1⟩:=r.lst_inv;refine⟨.inl ⟨rfl,ws,k.gh.seq h1⟩,?_⟩;refine tM.nx  k a λxs H3 G3 Z3 es k3 s3 r3 a3=>?_
   obtain⟨d,e,a3⟩:=a3.opt;obtain⟨x,ns,rfl,z,hl,hk,rfl⟩:=vw e;obtain⟨u,rfl,ru⟩:=r3.one_inv;have:=Rr r1 z;subst this;exact⟨l,x,ns,rfl,by rw[ru.int_inv],k3.gh.seq (s3.seq h1),hl,hk,aft.now a3 k3 (.int _)⟩
  |_=>
   unfold Kp at a;cases z:g Z with
   |bad=>rw[z]at a;exact a.elim
   |ok xs Z1=>rw[z]at a;exact a.elim
theorem Aq   {Z Z1 Z2}{ds:wb}{x d}(h1:f Z=.ok (.list ds) Z1)(h2:g Z1=.ok [x] Z2)(h3:Rj (.list ds) [x]=O d):Ps f g Z=.ok d Z2:=by unfold Ps Kp;rw[h1];dsimp only;rw[h2];dsimp only;rw[h3];rfl
end
end DL
namespace DL
open PySem PySem.Spec PySem.W PyProof.Rows
noncomputable def Ky{α:Type}(lt:Nat->Nat->Bool):KasT α->α
 |.ret a=>a
 |.ask i j k=>Ky lt (k (lt i j))
theorem Rm   {f:α->KasT β}:∀t:KasT α,Ky lt (t.bind f)=Ky lt (f (Ky lt t))
 |.ret _=>rfl
 |.ask i j k=>by show Ky lt ((k _).bind f)=_;rw[Rm];rfl
section
variable{key:Nat->Int}{p:Array Nat}
noncomputable def KA(key:Nat->Int)(p:Array Nat)(i:Nat):Int:=key (p.getD i 0)
def srt(key:Nat->Int)(p:Array Nat)(m:Nat):Prop:=∀i j,i<=j->j<m->KA key p i<=KA key p j
def dsc(key:Nat->Int)(p:Array Nat)(m:Nat):Prop:=∀i j,i<=j->j<m->KA key p j<=KA key p i
noncomputable abbrev kl(key:Nat->Int)(i j:Nat):Bool:=decide (key i<key j)
theorem GK  (hk:k<p.size)(hd:d<=k):KA key (bubble p k d) i=if i=k-d then KA key p k else if k-d<i/\i<=k then KA key p (i-1)else KA key p i:=by
 unfold KA;simp only[JB];rw[getElem?_bubble hk d hd]
 repeat' split
 all_goals rfl
theorem RF{i j k}(hj:j<=p.size):KA key (kas_rev p i j) k=if i<=k/\k<j then KA key p (i+j-1-k)else KA key p k:=by
 unfold KA kas_rev;simp only[JB];rw[getElem?_mirror_all hj]
 split<;>rfl
theorem TC{i j:Nat}:(kas_rev p i j).size=p.size:=mirror_size _ _ _ _
theorem Vh{i j:Nat}:(kas_rev p i j).Perm p:=mirror_perm _ _ _ _
theorem Nw:∀(f n:Nat),1<=n->srt key p n->srt key p (Ky (kl key) (kas_asc p f n))/\n<=Ky (kl key) (kas_asc p f n)/\Ky (kl key) (kas_asc p f n)<=n+f /\
  (Ky (kl key) (kas_asc p f n)<n+f->KA key p (Ky (kl key) (kas_asc p f n))<KA key p (Ky (kl key) (kas_asc p f n)-1))
 |0,n,h1,hs=>⟨hs,Qp _,Qp _,λh=>absurd h (Jv _)⟩
 |f+1,n,h1,hs=>by
  unfold kas_asc Ky;cases c:kl key (p.getD n 0) _ with
  |true=>exact⟨hs,Qp _,by show n<=n+(f+1);lia,λ_=>Qa c⟩
  |false=>
   dsimp only;rw[QB (by decide)];have hle   :=Uz.mp (Jp c)
   obtain⟨a1,a2,a3,a4⟩:=Nw f (n+1) (by lia) (λi j hij hj=>by
    by_cases yk:j=n
    .subst yk
     by_cases hin:i=j
     .subst hin;exact Ja _
     .exact JW (hs i (j-1) (by lia) (by lia)) hle
    .exact hs i j hij (by lia))
   exact⟨a1,by lia,by lia,λh=>a4 (by lia)⟩
def eqs(key:Nat->Int)(p:Array Nat)(n q:Nat):Prop:=∀i,n-1-q<=i->i<n->KA key p i=KA key p (n-1)
theorem Oj:∀(f:Nat)(p:Array Nat)(n q:Nat),1<=n->q+1<=n->n+f<=p.size->dsc key p n->eqs key p n q ->
  let r:=Ky (kl key) (kas_desc f p n q)
  r.1.Perm p/\r.1.size=p.size/\dsc key r.1 r.2.1/\eqs key r.1 r.2.1 r.2.2/\r.2.2+1<=r.2.1/\n<=r.2.1/\r.2.1<=n+f
 |0,p,n,q,h1,hq,hz,hd,he=>⟨Up _,rfl,hd,he,hq,Qp _,Qp _⟩
 |f+1,p,n,q,h1,hq,hz,hd,he=>by
  intro r;have hr:r=Ky (kl key) (kas_desc (f+1) p n q):=rfl;unfold kas_desc Ky at hr;cases c:kl key (p.getD n 0) (p.getD (n-1) 0)with
  |true=>
   rw[c]at hr;(try dsimp only at hr);rw[if_pos v3]at hr;have hlt:KA key p n<KA key p (n-1):=Qa c
   have ext:∀p':Array Nat,(∀i,KA key p' i=KA key p i)->dsc key p' (n+1)/\eqs key p' (n+1) 0:=λp' hp=>⟨λi j hij hj=>by
     rw[hp,hp];by_cases yk:j=n
     .subst yk
      by_cases hin:i=j
      .subst hin;exact Ja _
      .exact JW (Int.le_of_lt hlt) (hd i (j-1) (by lia) (by lia))
     .exact hd i j hij (by lia),λi hi1 hi2=>by
     have:i=n:=by lia
     subst this;rfl⟩
   by_cases hq0:q > 0
   .rw[Qq hq0]at hr
    have same:∀i,KA key (kas_rev p (n-(q+1)) n) i=KA key p i:=λi=>by
     rw[RF (by lia)];split
     .rw[he _ (by lia) (by lia),he i (by lia) (by lia)]
     .rfl
    obtain⟨d1,e1⟩:=ext _ same;obtain⟨a1,a2,a3,a4,a5,a6,a7⟩:=Oj f (kas_rev p (n-(q+1)) n) (n+1) 0 (by lia) (by lia) (by rw[TC];lia) d1 e1;rw[←hr]at a1 a2 a3 a4 a5 a6 a7;exact⟨a1.trans Vh,a2.trans TC,a3,a4,a5,by lia,by lia⟩
   .rw[QB hq0]at hr
    obtain⟨d1,e1⟩:=ext p λ_=>rfl
    obtain⟨a1,a2,a3,a4,a5,a6,a7⟩:=Oj f p (n+1) 0 (by lia) (by lia) (by lia) d1 e1;rw[←hr]at a1 a2 a3 a4 a5 a6 a7;exact⟨a1,a2,a3,a4,a5,by lia,by lia⟩
  |false=>
   rw[c]at hr;(try dsimp only at hr);rw[if_neg (by decide)]at hr;unfold Ky at hr;have hle:KA key p (n-1)<=KA key p n:=Uz.mp (Jp c);cases d:kl key (p.getD (n-1) 0) (p.getD n 0)with
   |true=>rw[d]at hr;(try dsimp only at hr);rw[if_pos v3]at hr;unfold Ky at hr;rw[hr];exact⟨Up _,rfl,hd,he,hq,Qp _,by show n<=n+(f+1);lia⟩
   |false=>
    rw[d]at hr;(try dsimp only at hr);rw[if_neg (by decide)]at hr;have hge:KA key p n<=KA key p (n-1):=Uz.mp (Jp d)
    obtain⟨a1,a2,a3,a4,a5,a6,a7⟩:=Oj f p (n+1) (q+1) (by lia) (by lia) (by lia) (λi j hij hj=>by
     by_cases yk:j=n
     .subst yk
      by_cases hin:i=j
      .subst hin;exact Ja _
      .exact JW hge (hd i (j-1) (by lia) (by lia))
     .exact hd i j hij (by lia)) (λi hi1 hi2=>by
     have e0:KA key p n=KA key p (n-1):=Uc hge hle;rw[Nat.add_sub_cancel,e0];by_cases hin:i=n
     .subst hin;exact e0
     .exact he i (by lia) (by lia))
    rw[←hr]at a1 a2 a3 a4 a5 a6 a7;exact⟨a1,a2,a3,a4,a5,by lia,by lia⟩
theorem Fh  (h1:1<=n)(hn:n<=nrem)(hz:nrem<=p.size)(hd:dsc key p n) :
  let r:=Ky (kl key) (kas_tail3 n nrem p)
  r.2.Perm p/\r.2.size=p.size/\srt key r.2 r.1/\1<=r.1/\r.1<=nrem:=by
 intro r;have hr:r=Ky _ _:=rfl;unfold kas_tail3 at hr;rw[Rm]at hr;have hs:srt key (kas_rev p 0 n) n:=λi j hij hj=>by rw[RF (by lia),RF (by lia),Qq (by lia),Qq (by lia)];exact hd _ _ (by lia) (by lia)
 obtain⟨a1,a2,a3,_⟩:=Nw   _ n h1 hs;rw[hr];exact⟨Vh,TC,a1,by show 1<=Ky _ _;lia,by show Ky _ _<=_;lia⟩
theorem FT{n nrem:Nat}(h1:1<=n)(hn:n+1<=nrem)(hz:nrem<=p.size)(hd:dsc key p (n+1)) :
  let r:=Ky (kl key) (kas_descPart n nrem p)
  r.2.Perm p/\r.2.size=p.size/\srt key r.2 r.1/\1<=r.1/\r.1<=nrem:=by
 intro r;have hr:r=Ky (kl key) _:=rfl;unfold kas_descPart at hr;rw[Rm]at hr
 obtain⟨a1,a2,a3,a4,a5,a6,a7⟩:=Oj (key:=key) (nrem-(n+1)) p (n+1) 0 (by lia) (by lia) (by lia) hd (λi hi1 hi2=>by
  have:i=n:=by lia
  subst this;rfl)
 generalize Ky (kl key) (kas_desc _ p (n+1) 0)=d at hr a1 a2 a3 a4 a5 a6 a7;obtain⟨p1,n1,q1⟩:=d;dsimp only at hr a1 a2 a3 a4 a5 a6 a7;by_cases hq:q1 > 0
 .rw[Qq hq]at hr
  have same:∀i,KA key (kas_rev p1 (n1-(q1+1)) n1) i=KA key p1 i:=λi=>by
   rw[RF (by lia)];split
   .rw[a4 _ (by lia) (by lia),a4 i (by lia) (by lia)]
   .rfl
  obtain⟨b1,b2,b3,b4,b5⟩:=Fh (key:=key) (p:=kas_rev p1 (n1-(q1+1)) n1) (n:=n1) (nrem:=nrem) (by lia) (by lia) (by rw[TC];lia) (λi j hij hj=>by rw[same,same];exact a3 i j hij hj);rw[hr];exact⟨(b1.trans Vh).trans a1,(b2.trans TC).trans a2,b3,b4,b5⟩
 .rw[QB hq]at hr
  obtain⟨b1,b2,b3,b4,b5⟩:=Fh (key:=key) (p:=p1) (n:=n1) (nrem:=nrem) (by lia) (by lia) (by lia) a3;rw[hr];exact⟨b1.trans a1,b2.trans a2,b3,b4,b5⟩
theorem kZ{nrem:Nat}(h1:1<=nrem)(hz:nrem<=p.size) :
  let r:=Ky (kl key) (kas_count nrem p)
  r.2.Perm p/\r.2.size=p.size/\srt key r.2 r.1/\1<=r.1/\r.1<=nrem:=by
 intro r;have hr:r=Ky (kl key) (kas_count nrem p):=rfl;unfold kas_count at hr;rw[Rm]at hr
 obtain⟨a1,a2,a3,a4⟩:=Nw (key:=key) (p:=p) (nrem-1) 1 (Qp _) (λi j hij hj=>by
  have:i=j:=by lia
  subst this;exact Ja _)
 generalize Ky (kl key) (kas_asc p (nrem-1) 1)=n at hr a1 a2 a3 a4;by_cases hn:(n==nrem)=v5
 .rw[Qq hn]at hr
  unfold Ky at hr;rw[hr];exact⟨Up _,rfl,a1,a2,by show n<=nrem;lia⟩
 .rw[QB hn]at hr
  have hlt:=a4 (by lia);by_cases hn1:n > 1
  .rw[Qq hn1]at hr
   unfold Ky at hr;cases c:kl key (p.getD 0 0) (p.getD (n-1) 0)with
   |true=>rw[c]at hr;(try dsimp only at hr);rw[if_pos v3]at hr;unfold Ky at hr;rw[hr];exact⟨Up _,rfl,a1,a2,by show n<=nrem;lia⟩
   |false=>
    rw[c]at hr;(try dsimp only at hr);rw[if_neg (by decide)]at hr;have hge:KA key p (n-1)<=KA key p 0:=Uz.mp (Jp c);have all   :=λi hi=>Uc (JW (a1 i (n-1) (by lia) (by lia)) hge) (a1 0 i (by lia) hi)
    have same:∀i,KA key (kas_rev p 0 n) i=KA key p i:=λi=>by
     rw[RF (by lia)];split
     .rw[all _ (by lia),all i (by lia)]
     .rfl
    obtain⟨b1,b2,b3,b4,b5⟩:=FT (key:=key) (p:=kas_rev p 0 n) (n:=n) (nrem:=nrem) a2 (by lia) (by rw[TC];exact hz) (λi j hij hj=>by
     rw[same,same];by_cases yk:j=n
     .subst yk
      by_cases hin:i=j
      .subst hin;exact Ja _
      .rw[all i (by lia)]
       rw[all (j-1) (by lia)]at hlt;exact Int.le_of_lt hlt
     .rw[all i (by lia),all j (by lia)];exact Ja _)
    rw[hr];exact⟨b1.trans Vh,b2.trans TC,b3,b4,b5⟩
  .rw[QB hn1]at hr
   have:n=1:=by lia
   subst this
   obtain⟨b1,b2,b3,b4,b5⟩:=FT (key:=key) (p:=p) (n:=1) (nrem:=nrem) (Qp _) (by lia) hz (λi j hij hj=>by
    by_cases hij2:i=j
    .subst hij2;exact Ja _
    .have h0:i=0:=by lia
     have h1:j=1:=by lia
     subst h0;subst h1;exact Int.le_of_lt hlt)
   rw[hr];exact⟨b1,b2,b3,b4,b5⟩
theorem N5{k:Nat}(hs:srt key p k):∀(f l r:Nat),l<=r->r<=k->r-l<=f->(∀i,i<l->KA key p i<=KA key p k)->(∀i,r<=i->i<k->KA key p k<KA key p i) ->
  let m:=Ky (kl key) (kas_place p k f l r)
  m<=k/\(∀i,i<m->KA key p i<=KA key p k)/\(∀i,m<=i->i<k->KA key p k<KA key p i)
 |0,l,r,hlr,hrk,hf,h1,h2=>⟨by show l<=k;lia,h1,λi (hi:l<=i)=>h2 i (by lia)⟩
 |f+1,l,r,hlr,hrk,hf,h1,h2=>by
  intro m;have hm:m=Ky (kl key) _:=rfl;unfold kas_place at hm;by_cases hge:l ≥ r
  .rw[Qq hge]at hm
   unfold Ky at hm;rw[hm];exact⟨by lia,h1,λi hi=>h2 i (by lia)⟩
  .rw[QB hge]at hm
   unfold Ky at hm;cases c:kl key (p.getD k 0) (p.getD ((l+r) / 2) 0)with
   |true=>rw[c]at hm;rw[hm];have hlt   :=Qa c;exact N5 hs f l ((l+r) / 2) (by lia) (by lia) (by lia) h1 λi hi hik=>Int.lt_of_lt_of_le hlt (hs _ _ hi hik)
   |false=>rw[c]at hm;(try dsimp only at hm);rw[hm];have hle   :=Uz.mp (Jp c);exact N5 hs f ((l+r) / 2+1) r (by lia) hrk (by lia) (λi hi=>JW (hs i ((l+r) / 2) (by lia) (by lia)) hle) h2
theorem HE:∀(f:Nat)(p:Array Nat)(k:Nat),k+f<=p.size->srt key p k->let r:=Ky (kl key) (kas_bin f p k);r.Perm p/\r.size=p.size/\srt key r (k+f)
 |0,p,k,_,hs=>⟨Up _,rfl,hs⟩
 |f+1,p,k,hz,hs=>by
  intro r;have hr:r=Ky (kl key) _:=rfl;unfold kas_bin at hr;rw[Rm]at hr;obtain⟨a1,a2,a3⟩:=N5 (key:=key) hs k 0 k (J6 _) (Qp _) (by omega) (λi hi=>by omega) (λi h1 h2=>by omega);generalize Ky (kl key) (kas_place p k k 0 k)=l at hr a1 a2 a3;have hk:k<p.size:=by omega
  obtain⟨b1,b2,b3⟩:=HE f (bubble p k (k-l)) (k+1) (by rw[bubble_size];omega) (λi j hij hj=>by
   rw[GK hk (by omega),GK hk (by omega),show k-(k-l)=l by omega];by_cases hi:i=l
   .rw[Qq hi]
    by_cases ww:j=l
    .rw[Qq ww];exact Ja _
    .rw[QB ww,Qq (by omega)]
     exact Int.le_of_lt (a3 (j-1) (by omega) (by omega))
   .rw[QB hi]
    by_cases hi2:l<i/\i<=k
    .rw[Qq hi2,QB (show ¬j=l by omega),Qq (by omega)]
     exact hs _ _ (by omega) (by omega)
    .rw[QB hi2]
     by_cases ww:j=l
     .rw[Qq ww];exact a2 i (by omega)
     .rw[QB ww]
      split
      .exact hs _ _ (by omega) (by omega)
      .exact hs _ _ (by omega) (by omega))
  rw[hr];exact⟨b1.trans (bubble_perm _ _ _),b2.trans (bubble_size _ _ _),by rw[show k+(f+1)=k+1+f by omega];exact b3⟩
theorem jN{n:Nat}(h1:1<=n):let r:=Ky (kl key) (kas_sort n);r.Perm (List.toArray (UK n))/\r.size=n/\srt key r n:=by
 intro r;have hr:r=Ky (kl key) _:=rfl;unfold kas_sort at hr;rw[Rm]at hr;have hsz:(List.toArray (UK n)).size=n:=by simp
 obtain⟨a1,a2,a3,a4,a5⟩:=kZ   (nrem:=n) h1 (by rw[hsz];exact Qp _);generalize Ky (kl key) (kas_count n _)=d at hr a1 a2 a3 a4 a5;by_cases hlt:d.1<n
 .rw[Qq hlt]at hr
  have hmax:max d.1 1=d.1:=by lia
  rw[hmax]at hr;obtain⟨b1,b2,b3⟩:=HE  (n-d.1) d.2 d.1 (by lia) a3;rw[hr];exact⟨b1.trans a1,by lia,by rw[show d.1+(n-d.1)=n by lia]at b3;exact b3⟩
 .rw[QB hlt]at hr
  unfold Ky at hr;rw[hr];exact⟨a1,by lia,by rw[show d.1=n by lia]at a3;exact a3⟩
noncomputable def Asks{α:Type}(N:Nat)(R:α->Prop):KasT α->Prop
 |.ret a=>R a
 |.ask i j k=>i<N/\j<N/\∀b,Asks N R (k b)
theorem Asks.bind   {R:α->Prop}{S:β->Prop}{f}(hf:∀a,R a->Asks N S (f a)):∀{t},Asks N R t->Asks N S (t.bind f)
 |.ret a,h=>hf a h
 |.ask _ _ k,⟨h1,h2,h3⟩=>⟨h1,h2,λb=>Asks.bind hf (h3 b)⟩
theorem HD   {cmp}{s}{N}{R}(hc:∀i j C,i<N->j<N->C (lt i j) s->cmp i j C s):∀(t:KasT α)(Q),Asks N R t->Q (Ky lt t) s->t.kasWp cmp Q s
 |.ret _,_,_,h=>h
 |.ask i j k,Q,⟨h1,h2,h3⟩,h=>hc i j _ h1 h2 (HD hc _ Q (h3 _) h)
def bnd(N:Nat)(p:Array Nat):Prop:=∀i,p.getD i 0<N
theorem Rp  {p q}(hN:0<N)(h:bnd N p)(e:q.Perm p):bnd N q:=λi=>by
 rw[JB];cases z:q[i]? with
 |none=>simp_all
 |some v=>have hm   :=Array.mem_of_getElem? z;have hm2   :=e.mem_iff.mp hm;obtain⟨j,hj,e2⟩:=Array.mem_iff_getElem.mp hm2;have:=h j;simp_all
section
variable{N:Nat}(hN:0<N)
include hN
theorem Nv{p}(h:bnd N p):∀(f n),Asks N (λ_=>True) (kas_asc p f n)
 |0,_=>trivial
 |f+1,n=>⟨h _,h _,λb=>by
  cases b with
  |true=>trivial
  |false=>exact Nv h f _⟩
theorem Oi:∀(f)(p)(n q),bnd N p->Asks N (λr=>bnd N r.1) (kas_desc f p n q)
 |0,p,_,_,h=>h
 |f+1,p,n,q,h=>⟨h _,h _,λb=>by
  cases b with
  |true=>
   dsimp only;rw[Qq v3];split
   .exact Oi f _ _ _ (Rp hN h Vh)
   .exact Oi f _ _ _ h
  |false=>
   refine⟨h _,h _,λb=>?_⟩;cases b with
   |true=>exact h
   |false=>exact Oi f _ _ _ h⟩
theorem Fg{p}{n nrem}(h:bnd N p):Asks N (λr=>bnd N r.2) (kas_tail3 n nrem p):=
 Asks.bind   (S:=λr   =>bnd N r.2) (f:=λm=>.ret (m,kas_rev p 0 n)) (λ_ _=>Rp   hN h Vh) (Nv hN (Rp hN h Vh) _ _)
theorem FS{p}{n nrem}(h:bnd N p):Asks N (λr=>bnd N r.2) (kas_descPart n nrem p):=
 Asks.bind (λr hr=>by
  split
  .exact Fg hN (Rp hN hr Vh)
  .exact Fg hN hr) (Oi hN _ _ _ _ h)
theorem xL{p}{nrem}(h:bnd N p):Asks N (λr=>bnd N r.2) (kas_count nrem p):=
 Asks.bind  (λn _=>by
  split
  .exact h
  .split
   .refine⟨h _,h _,λb=>?_⟩
    cases b with
    |true=>exact h
    |false=>exact FS hN (Rp hN h Vh)
   .exact FS hN h) (Nv hN h _ _)
theorem N4{p}(h:bnd N p)(k):∀(f l r),Asks N (λ_=>True) (kas_place p k f l r)
 |0,_,_=>trivial
 |f+1,l,r=>by
  unfold kas_place;split
  .trivial
  .refine⟨h _,h _,λb=>?_⟩
   cases b with
   |true=>exact N4 h k f _ _
   |false=>exact N4 h k f _ _
theorem HC:∀(f)(p)(k),bnd N p->Asks N (λ_=>True) (kas_bin f p k)
 |0,_,_,_=>trivial
 |f+1,p,k,h=>Asks.bind  (λl _=>HC f _ _ (Rp hN h (bubble_perm _ _ _))) (N4 hN h k _ _ _)
end
theorem jM  (hn:0<n):Asks n (λ_=>True) (kas_sort n):=by
 have hb:bnd n (List.toArray (UK n)):=λi=>by
  by_cases hi:i<n
  .simp_all
  simp_all
 refine Asks.bind (λr hr=>?_) (xL hn hb);split
 .exact HC hn _ _ _ hr
 .trivial
end
noncomputable def KW(q:Int×Int):Int:=q.1*10000000+q.2
def okP(q:Int×Int):Prop:=-1000000<=q.2/\q.2<=1000000
theorem Bs  (hx:okP x)(hy:okP y):KW x<KW y ↔ (x.1<y.1∨x.1=y.1/\x.2<y.2):=by
 unfold KW okP at *
 lia
theorem Ap  (hx:okP x)(hy:okP y)(h:KW x=KW y):x=y:=by
 unfold KW okP at *
 grind
section
variable{prog:UC}{w:World}{A:Around}{E:UA->UB->Prop}{s:UB}
def PD(h:Heap)(v:UA)(q:Int×Int):Prop:=∃a t u o n,v=.ref a/\h.get? a=O o/\o.cls=.type "tuple" /\ o.data=.seq #[.int q.1 t,.int q.2 u] n
theorem Br{x y:UA}{p q:Int×Int}{Q:Bool->UB->Prop}(hx:PD s.heap x p)(hy:PD s.heap y q)(h:Q (decide (p.1<q.1∨p.1=q.1/\p.2<q.2)) s):UH (model prog w) A (keyLt' (tuples' v5) x y) Q E s:=by
 obtain⟨a,t,u,o,n,rfl,e1,c1,d1⟩:=hx;obtain⟨b,t',u',o',n',rfl,e2,c2,d2⟩:=hy;refine kat_lt e1 d1 e2 d2 ?_;refine kat_cons (wpAny_eqBool_int ?_);by_cases h1:p.1=q.1
 .have e:(p.1==q.1)=v5:=by simpa using h1
  rw[e];refine kat_yes (kat_cons (wpAny_eqBool_int ?_));by_cases h2:p.2=q.2
  .have e:(p.2==q.2)=v5:=by simpa using h2
   rw[e];have:decide (p.1<q.1∨p.1=q.1/\p.2<q.2)=wa:=QG (by lia);rw[this]at h;exact h
  .have e:(p.2==q.2)=wa:=by simpa using h2
   rw[e];refine kat_no (kat_one _ _ (PyProof.Rows.lt_int ?_))
   have:decide (p.1<q.1∨p.1=q.1/\p.2<q.2)=decide (p.2<q.2):=by
    by_cases z:p.2<q.2
    .rw[QJ z,QJ (.inr ⟨h1,z⟩)]
    .rw[QG z,QG (by lia)]
   rw[this]at h;exact h
 .have e:(p.1==q.1)=wa:=by simpa using h1
  rw[e];refine kat_no (oneLt_int ?_)
  have:decide (p.1<q.1∨p.1=q.1/\p.2<q.2)=decide (p.1<q.1):=by
   by_cases z:p.1<q.1
   .rw[QJ z,QJ (.inl z)]
   .rw[QG z,QG (by lia)]
  rw[this]at h;exact h
noncomputable def YY(h:Heap):we->LP->Prop
 |[],[]=>True
 |v::vs,q::qs=>PD h v q/\YY h vs qs
 |_,_=>False
theorem YY.get  : ∀{vs}{qs},YY h vs qs->vs.length=qs.length/\∀(i)(hi:i<vs.length),PD h (vs.getD i .none) (qs.getD i (0,0))
 |[],[],_=>⟨rfl,λi hi=>absurd hi (Ud _)⟩
 |v::vs,q::qs,⟨h1,h2⟩=>by
  obtain⟨e,f⟩:=YY.get h2;refine⟨by simp_all,λi hi=>?_⟩;cases i with
  |zero=>exact h1
  |succ i=>exact f i (by simpa using hi)
theorem YY.tups  : ∀{vs}{qs},YY h vs qs->∃fs:we,KatTups h vs fs/\fs.length=vs.length/\∀v∈fs,∃i t,v=.int i t
 |[],[],_=>⟨[],trivial,rfl,λ_ h=>by cases h⟩
 |v::vs,q::qs,⟨hp,h2⟩=>by
  obtain⟨a,t,u,o,n,rfl,e1,c1,d1⟩:=hp;obtain⟨fs,f1,f2,f3⟩:=YY.tups h2;refine⟨.int q.1 t::fs,.cons e1 c1 d1 v3 f1,by simp_all,λv hv=>?_⟩;rcases QQ.mp hv with rfl|hv
  .exact⟨_,_,rfl⟩
  .exact f3 v hv
theorem YY.mono  (k:∀b o,h.get? b=O o->h'.get? b=O o):∀{vs}{qs},YY h vs qs->YY h' vs qs
 |[],[],_=>trivial
 |v::vs,q::qs,⟨hp,h2⟩=>by obtain⟨a,t,u,o,n,rfl,e1,c1,d1⟩:=hp;exact⟨⟨a,t,u,o,n,rfl,k _ _ e1,c1,d1⟩,YY.mono k h2⟩
def Pd(qs:LP)(π:wn):Prop:=π.Perm (UK qs.length)/\(π.map λi=>qs.getD i (0,0)).Pairwise λx y=>KW x<=KW y
theorem vW{a:UD}{vs:we}{qs:LP}{n:Nat}{P:Fin->UB->Prop}(ho:s.heap.get? a=O (seqObj "list" vs.toArray n))
  (hp:YY ((s.heap.update a (Obj.mapSeq λ_=>#[]))) vs qs) (hq:∀q∈qs,okP q) (h64:vs.length<64)
  (h:∀π:wn,Pd qs π->P (.done (.ret .none)) {s with heap:=sortedHeap s.heap a vs (List.toArray (π.map λi=>vs.getD i .none))}) :
  UH (model prog w) A (Builtin.«list.sort» ⟨[.ref a],[]⟩) P E s:=by
 obtain⟨hl,hget⟩:=hp.get;rw[list_sort_plain];have ha:a<s.heap.objs.size:=Ql ho;refine Qe (listItems_at ho v3 ?_);refine Qe (listUpdate_at ho v3 ?_);obtain⟨e1,ho1⟩:∃e1,(s.heap.update a (Obj.mapSeq λ_=>#[])).get? a=O (seqObj "list" #[] e1):=⟨_,get?_update_seq ho (λ_=>#[])⟩
 refine Qe (seqEpoch_at ho1 v3 ?_);refine Qe (wpAny_newTuple ?_);refine Qe (wpAny_newList ?_);refine wpAny_holding ?_;have ho6:(((s.heap.update a (Obj.mapSeq λ_=>#[])).push (seqObj "tuple" vs.toArray 0)).push (seqObj "list" #[] 0)).get? a=O (seqObj "list" #[] e1):=by rw[Heap.get?_push_ne _ _ _ (by rw[size_push',Heap.size_update];exact QY (Uj ha)),Heap.get?_push_ne _ _ _ (by rw[Heap.size_update];exact QY ha)];exact ho1
 have hp6:YY (((s.heap.update a (Obj.mapSeq λ_=>#[])).push (seqObj "tuple" vs.toArray 0)).push (seqObj "list" #[] 0)) vs qs:=hp.mono λb o e=>Qi _ (Qi _ e)
 dsimp only;have hsz:vs.toArray.size=vs.length:=by simp
 by_cases h2:vs.toArray.size<2
 .rw[Qq h2,Qq h2]
  refine Qe (Qm ?_);rw[StateT.run_pure];refine Qe (Qm ?_);dsimp only;refine Qe (seqEpoch_at ho6 v3 ?_);refine Qe (listUpdate_at ho6 v3 ?_ (hsz2:=by rw[Array.size_map];show(pairsOf vs).size<=_;rw[pairsOf_size,sizeLine_eq];lia));simp only[bne_self_eq_false,J8,if_false]
  have hid:(arrOf (SortSt.mk' general' (vs.toArray.zip vs.toArray) #[] 7 v4)).map (·.2)=List.toArray ((UK vs.length).map λi=>vs.getD i .none):=by
   show(vs.toArray.zip vs.toArray).map (·.2)=_
   apply Array.toList_inj.mp;apply Jt;intro i;simp only[Array.toList_map,Array.toList_zip,Qf,List.getElem?_zip_eq_some];by_cases hi:i<vs.length
   .simp[List.getElem?_zip_eq_some,hi,List.getElem?_range]
   .simp[hi]
  rw[hid];refine Qm (h (UK vs.length) ⟨by rw[hl],?_⟩);rw[List.pairwise_map];rw[hsz]at h2
  rcases(show vs.length=0∨vs.length=1 by lia)with z|z<;>rw[z]
  .exact .nil
  .exact List.pairwise_singleton _ _
 .rw[QB h2,QB h2]
  rw[hsz]at h2;obtain⟨fs,f1,f2,f3⟩:=hp6.tups;refine Qe (kat_kind (T:=.type "int") f1 (by lia) (λv hv=>by obtain⟨i,t,rfl⟩:=f3 v hv;exact(show Looks _ _ (pure (Value.type "int")) _ from .now)) v3 ?_)
  refine Qe (QL (kat_run (ks:=vs) (G:=λp s'=>s' = {s with heap:=((s.heap.update a (Obj.mapSeq λ_=>#[])).push (seqObj "tuple" vs.toArray 0)).push (seqObj "list" #[] 0)}/\p=Ky (kl λi=>KW (qs.getD i (0,0))) (kas_sort vs.length))
   (Q:=λst' s'=>s' = {s with heap:=((s.heap.update a (Obj.mapSeq λ_=>#[])).push (seqObj "tuple" vs.toArray 0)).push (seqObj "list" #[] 0)}/\failedOf st'=v4/\arrOf st'=(Ky (kl λi=>KW (qs.getD i (0,0))) (kas_sort vs.length)).map (kas_item (vs.toArray.zip vs.toArray)))
   rfl (by lia) h64 (λp st' s' a1 a2 a3 a4=>⟨a4.1,a3,by rw[a2,a4.2]⟩) ?_) ?_ λ_ _ e=>e)
  .refine HD (N:=vs.length) (R:=λ_=>True) (lt:=kl λi=>KW (qs.getD i (0,0))) (λi j C hi hj hC=>?_) _ _ (jM (by lia)) ⟨rfl,rfl⟩
   refine Br (YY.get hp6 |>.2 i hi) (YY.get hp6 |>.2 j hj) ?_;have oi:okP (qs.getD i (0,0)):=hq _ (by rw[Qh,Qd (by lia)];exact Jq _);have oj:okP (qs.getD j (0,0)):=hq _ (by rw[Qh,Qd (by lia)];exact Jq _);have e:decide ((qs.getD i (0,0)).1<(qs.getD j (0,0)).1∨(qs.getD i (0,0)).1=(qs.getD j (0,0)).1/\(qs.getD i (0,0)).2<(qs.getD j (0,0)).2)=kl (λi=>KW (qs.getD i (0,0))) i j:=by unfold kl;exact decide_eq_decide.mpr (Bs oi oj).symm
   rw[e];exact hC
  .rintro⟨⟨⟩,st'⟩ s' ⟨rfl,hf,har⟩
   dsimp only;obtain⟨b1,b2,b3⟩:=jN (key:=λi=>KW (qs.getD i (0,0))) (n:=vs.length) (by lia);generalize Ky (kl λi=>KW (qs.getD i (0,0))) (kas_sort vs.length)=p at har b1 b2 b3;have hout:=kat_snds (ks:=vs) (vs:=vs) v3 har;have hsz2:((arrOf st').map (·.2)).size=vs.length:=by rw[hout,Jb,Qb,JP,b2]
   refine Qe (seqEpoch_at ho6 v3 ?_);refine Qe (listUpdate_at ho6 v3 ?_ (hsz2:=by rw[hsz2,sizeLine_eq];lia));rw[hf];simp only[bne_self_eq_false,J8,if_false];rw[hout];refine Qm (h p.toList ⟨?_,?_⟩)
   .have:=Array.perm_iff_toList_perm.mp b1
    rw[←hl];exact this
   .rw[List.pairwise_map,List.pairwise_iff_getElem]
    intro i j hi hj hij;rw[JP,b2]at hi hj;have:=b3 i j (by lia) hj;unfold KA at this;rw[JB,JB,Array.getElem?_eq_getElem (by lia),Array.getElem?_eq_getElem (by lia)]at this;simpa using this
end
section
variable{prog:UC}{w:World}{A:Around}{E:UA->UB->Prop}{s:UB}
theorem vH{l:UD}{vs:we}{qs:LP}{Q:UA->UB->Prop}(hl:s.heap.IsList l vs.toArray)(hp:YY s.heap vs qs)(hq:∀q∈qs,okP q)(h64:vs.length<64)
  (h:∀π:wn,Pd qs π->Q (.ref (s.heap.objs.size+1)) {s with heap:=sortedAll s.heap vs (List.toArray (π.map λi=>vs.getD i .none))}) :
  UH (model prog w) A (call (.builtin "sorted") [.ref l]) Q E s:=by
 refine Calls.call_function_entry kind_sorted plain_sorted entry_sorted (args_sorted1 _) ?_;unfold Builtin.«sorted»;refine Qe  (Qm ?_);refine Qe (collect_list hl ?_);refine Qe (wpAny_newList ?_);have hsz:((s.heap.push (seqObj "list" #[] 0)).update s.heap.objs.size (Obj.mapSeq (· ++ vs.toArray))).objs.size=s.heap.objs.size+1:=by rw[Heap.size_update,size_push']
 have hoL:(((s.heap.push (seqObj "list" #[] 0)).update s.heap.objs.size (Obj.mapSeq (· ++ vs.toArray))).push (seqObj "list" vs.toArray 0)).get? (s.heap.objs.size+1)=O (seqObj "list" vs.toArray 0):=by rw[←hsz];exact QA _ v3
 rw[hsz];refine Qe (wpAny_holding (wpAny_call_entry slot_list_sort ⟨_,hoL,rfl⟩ entry_list_sort (vW (qs:=qs) hoL (hp.mono λb o e=>?_) hq h64 λπ a1=>⟨_,rfl,?_⟩) (args_list_sort _)))
 .have hlt:b<s.heap.objs.size:=Ql e
  dsimp only;have yI:(b:Nat)<s.heap.objs.size:=hlt;rw[Heap.get?_update_ne _ _ _ _ (QY (Uj yI)),Heap.get?_push_ne _ _ _ (by rw[hsz];exact QY (Uj yI)),Heap.get?_update_ne _ _ _ _ (QY hlt),Heap.get?_push_ne _ _ _ (QY hlt)];exact e
 .exact Qm ⟨_,rfl,h π a1⟩
end
end DL
namespace DL
open PySem PySem.Spec L2
open PyProof.Rows hiding St
section
variable{X:Cx}
theorem Gc   {σ:St}{H}(I:Inv X pins σ H s):∀{as:wk}{us}{qs},Vals (as.map V.ref) us->as.length=qs.length->(∀(i:Nat) a q,as[i]?=O a->qs[i]?=O q->SqT X.K H a [.int q.1,.int q.2])->YY s.heap us qs
 |[],_,[],.nil,_,_=>trivial
 |a::as,_,q::qs,.cons r t,hl,h=>by refine⟨?_,Gc I t (by simpa using hl) λi a q h1 h2=>h (i+1) a q (by simpa using h1) (by simpa using h2)⟩;cases r;obtain⟨its,rv,⟨o,e,c,n,d⟩,_⟩:=I.tuple (h 0 a q v3 v3);obtain⟨u,v,rfl,r1,r2⟩:=rv.two;obtain⟨t1,rfl⟩:=r1;obtain⟨t2,rfl⟩:=r2;exact⟨a,t1,t2,o,n,rfl,e,c,by simpa using d⟩
theorem GJ{as:wk}{us}(r:Vals (as.map V.ref) us):∀(π:wn),(∀i∈π,i<as.length)->Vals (π.map λi=>V.ref (as.getD i 0)) (π.map λi=>us.getD i .none)
 |[],_=>.nil
 |i::π,h=>by
  refine .cons ?_ (GJ r π λj hj=>h j (Qk _ hj));have hi:=h i Qo;have e:(as.map V.ref)[i]?=O (.ref (as.getD i 0)):=by simp[List.getD,List.getElem?_eq_getElem hi]
  obtain⟨u,e2,ru⟩:=r.get e;simp only[List.getD,e2];exact ru
theorem xK:YS X (.builtin "sorted") (λxs H Q=>∃l,∃as:wk,∃qs:LP,xs=[.ref l]/\SqL X.K H l (as.map V.ref)/\as.length=qs.length/\(∀(i:Nat) a q,as[i]?=O a->qs[i]?=O q->SqT X.K H a [.int q.1,.int q.2])/\(∀q∈qs,okP q)/\qs.length<64 /\
  ∀π p,Pd qs π->H p=v4->Q (.ref p) (upd H p (.lst (π.map λi=>V.ref (as.getD i 0))))):=by
 intro pins s σ H xs us Q I rx h;obtain⟨l,as,qs,rfl,hq,hl,ht,ho,hb,q⟩:=h;obtain⟨u,rfl,ru⟩:=rx.one;cases ru;obtain⟨its,rv,p,hz⟩:=I.list hq;have hn:its.length=qs.length:=by have:=rv.length;rw[Qb]at this;lia
 refine vH (qs:=qs) p.isList (Gc I rv hl ht) ho (by lia) λπ hπ=>?_
 obtain⟨e,he⟩:=sortedAll_at s.heap its _
 have hπl:∀i∈π,i<as.length:=λi hi=>by
  have:=hπ.1.mem_iff.mp hi;rw[Q3]at this
  lia
 refine⟨.ref _,_,I.laid  (λb o=>sortedAll_old) (JA _) (show YK X.prog X.w _ _ _ (.lst _)from⟨?_,_,e,GJ rv π hπl,he⟩),rfl,q π _ hπ (I.hok.fresh (JA _))⟩;rw[Qb,hπ.1.length_eq,Qx];rw[Qb]at hz
 lia
noncomputable def PB:D->Option (Int×Int)
 |.tuple [.int a,.int b]=>O (a,b)
 |_=>v4
noncomputable def Te:wb->Option LP
 |[]=>O []
 |d::r=>(PB d).bind λq=>(Te r).map (q :: ·)
noncomputable def Zc(q:Int×Int):D:=.tuple [.int q.1,.int q.2]
theorem jL   (h:PB d=O q):d=Zc q:=by
 unfold PB at h;split at h
 .cases h;rfl
 simp_all
theorem FJ:∀{ds}{qs},Te ds=O qs->ds=qs.map Zc
 |[],qs,h=>by cases h;rfl
 |d::r,qs,h=>by
  unfold Te at h;cases z:PB d with
  |none=>simp_all
  |some q=>
   rw[z]at h;cases z2:Te r with
   |none=>simp_all
   |some qs'=>rw[z2]at h;cases h;rw[jL z,FJ z2];rfl
theorem FA:∀qs:LP,Te (qs.map Zc)=O qs
 |[]=>rfl
 |q::r=>by rw[QF,Te,FA r];rfl
noncomputable def WY(qs:LP):LP:=qs.mergeSort λx y=>decide (KW x<=KW y)
theorem Ff(qs:LP):(WY qs).Perm qs:=List.mergeSort_perm ..
theorem GZ(qs):(WY qs).Pairwise λx y=>KW x<=KW y:=by have:=List.pairwise_mergeSort (le:=λx y   =>decide (KW x<=KW y)) (by intro a b c;simp;lia) (by intro a b;simp;lia) qs;exact this.imp (by simp)
theorem NE:∀{a b:LP},(∀x∈a,okP x)->a.Perm b->a.Pairwise (λx y=>KW x<=KW y)->b.Pairwise (λx y=>KW x<=KW y)->a=b
 |[],b,_,p,_,_=>by simp_all
 |x::a,[],_,p,_,_=>by simp_all
 |x::a,y::b,ok,p,ha,hb=>by
  have hx:KW y<=KW x:=by
   rcases QQ.1 (p.mem_iff.1 (Qo ..))with e|e
   .simp_all
   .exact(JT.1 hb).1 x e
  have hy:KW x<=KW y:=by
   rcases QQ.1 (p.mem_iff.2 (Qo ..))with e|e
   .simp_all
   .exact(JT.1 ha).1 y e
  have oky   :=ok y (p.mem_iff.2 (Qo ..));have e:=Ap (ok x (Qo ..)) oky (Uc hy hx);subst e;rw[NE (λz hz=>ok z (Qk _ hz)) (List.Perm.cons_inv p) (JT.1 ha).2 (JT.1 hb).2]
theorem Ao   (ok:∀q∈qs,okP q)(h:Pd qs π):(π.map λi=>qs.getD i (0,0))=WY qs:=by
 have hp   :=by
  have h1:=h.1.map λi=>qs.getD i (0,0)
  have e:(UK qs.length).map (λi=>qs.getD i (0,0))=qs:=by
   apply Jt;intro i;rw[Qf];by_cases hi:i<qs.length
   .rw[List.getElem?_range hi];simp[List.getD,List.getElem?_eq_getElem hi]
   .simp_all
  rw[e]at h1;exact h1
 exact NE (λx hx=>ok x (hp.mem_iff.mp hx)) (hp.trans (Ff qs).symm) h.2 (GZ qs)
noncomputable def okPB(q:Int×Int):Bool:=decide (-1000000<=q.2/\q.2<=1000000)
noncomputable def RO:wb->wd
 |[.list ds]=>(match Te ds with
  |some qs=>if qs.length<64/\qs.all okPB=v5 then O (.list ((WY qs).map Zc))else v4
  |none=>v4)
 |_=>v4
theorem xJ   (h:RO xs=O d):∃qs:LP,xs=[.list (qs.map Zc)]/\qs.length<64/\(∀q∈qs,okP q)/\d=.list ((WY qs).map Zc):=by
 unfold RO at h;split at h
 .rename_i ds
  cases z:Te ds with
  |none=>simp_all
  |some qs=>
   rw[z]at h;dsimp only at h;split at h
   .rename_i c
    cases h;exact⟨qs,by rw[FJ z],c.1,λq hq=>(show -1000000<=q.2/\q.2<=1000000 from Qa (Jf.mp c.2 q hq)),rfl⟩
   simp_all
 simp_all
theorem GY{K}{G}:∀{vs}{qs:LP},Reps K G vs (qs.map Zc)->∃as:wk,vs=as.map V.ref/\as.length=qs.length/\∀(i:Nat) a q,as[i]?=O a->qs[i]?=O q->SqT K G a [.int q.1,.int q.2]
 |_,[],.nil=>⟨[],rfl,rfl,λi a q h=>by simp_all⟩
 |_,q::qs,.cons r t=>by
  obtain⟨as,rfl,hl,h⟩:=GY t;obtain⟨a,ws,rfl,h1,r1⟩:=r.tup_inv;cases r1 with
  |cons ra rb=>
   obtain⟨v,rfl,rb'⟩:=rb.one_inv;refine⟨a::as,rfl,by simp_all,λi a' q' e1 e2=>?_⟩;cases i with
   |zero=>cases e1;cases e2;rw[ra.int_inv,rb'.int_inv]at h1;simp_all
   |succ i=>exact h i a' q' (by simpa using e1) (by simpa using e2)
theorem An{K}{G}{a}{q}(h:SqT K G a [.int q.1,.int q.2]):Rep K G (.ref a) (Zc q):=.tup h (.cons (.int _) (.cons (.int _) .nil))
theorem GX{K}{G}{as:wk}{qs:LP}(hl:as.length=qs.length)(h:∀(i:Nat) a q,as[i]?=O a->qs[i]?=O q->SqT K G a [.int q.1,.int q.2]):∀π:wn,(∀i∈π,i<qs.length)->Reps K G (π.map λi=>V.ref (as.getD i 0)) ((π.map λi=>qs.getD i (0,0)).map Zc)
 |[],_=>.nil
 |i::π,hb=>by
  refine .cons ?_ (GX hl h π λj hj=>hb j (Qk _ hj));have hi:=hb i Qo;refine An (h i _ _ ?_ ?_)
  .simp_all
  simp_all
theorem Bq:YW X (.builtin "sorted") RO:=by refine⟨_,xK,λvs G H ds d Q s r e k=>?_⟩;obtain⟨qs,rfl,h64,ok,rfl⟩:=xJ e;obtain⟨v,rfl,q1⟩:=r.one_inv;obtain⟨l,ws,rfl,h1,r1⟩:=q1.lst_inv;obtain⟨as,rfl,hl,ht⟩:=GY r1;refine⟨l,as,qs,rfl,s.seq h1,hl,λi a q e1 e2=>Xd s (ht i a q e1 e2),ok,h64,λπ p hπ hp=>?_⟩;have hb:∀i∈π,i<qs.length:=λi hi=>Q3.mp (hπ.1.mem_iff.mp hi);have rr:=(GX hl ht π hb).mono (Yi (s.free hp):Same G (upd G p (.lst (π.map λi=>V.ref (as.getD i 0)))));rw[Ao ok hπ]at rr;exact k _ _ _ (Ext.new s hp) (.lst (SqL.of Yd) rr)
theorem YW.or   (h1:YW X f p)(h2:YW X f q):YW X f (λxs=>(p xs).orElse λ_=>q xs):=by
 obtain⟨r1,c1,k1⟩:=h1;obtain⟨r2,c2,k2⟩:=h2;refine⟨λxs H Q=>r1 xs H Q∨r2 xs H Q,λpins s σ H xs us Q I rx h=>?_,λvs G H ds d Q s r e k=>?_⟩
 .rcases h with h|h
  .exact c1 pins s σ H xs us Q I rx h
  .exact c2 pins s σ H xs us Q I rx h
 .dsimp only at e
  cases z:p ds with
  |some d'=>rw[z]at e;cases e;exact .inl (k1 vs G H ds _ Q s r z k)
  |none=>rw[z]at e;exact .inr (k2 vs G H ds _ Q s r e k)
noncomputable def To(xs:wb):wd:=(SZ xs).orElse λ_=>RO xs
theorem Dp:YW X (.builtin "sorted") To:=CF.or Bq
theorem Fe  (h:ns.length<64):To [.list (ns.map .int)]=O (.list ((YC ns).map .int)):=by unfold To;rw[jR h];rfl
theorem jK  (h:qs.length<64)(ok:∀q∈qs,okP q):To [.list (qs.map Zc)]=O (.list ((WY qs).map Zc)):=by
 cases qs with
 |nil=>
  have e1:WY []=[]:=by unfold WY;simp
  have e2:YC []=[]:=by unfold YC;simp
  have:=Fe (ns:=[]) (by decide);rw[e2]at this;rw[e1];exact this
 |cons q r=>unfold To;unfold RO;dsimp only;rw[FA];exact Qq ⟨h,Jf.mpr λq hq=>QJ (ok q hq)⟩
end
noncomputable def RN(Z:U7)(j:Nat):wd:=match Z[j]? with
 |some (O (.pub d))=>O d
 |some (O (.own ds))=>O (.list ds)
 |some (O (.deep _ d))=>O d
 |_=>v4
theorem EOk.tree{K}{B G0 G H}{σ}{Z}{j}{d}(k:EOk K B G0 G H σ Z)(h:RN Z j=O d):∃v,σ[j]?=O (O v)/\Rep K H v d:=by
 unfold RN at h;split at h
 .rename_i d' e
  cases h;obtain⟨v,h1,h2⟩:=k.pub j _ e;exact⟨v,h1,h2.mono k.gh⟩
 .rename_i ds e
  cases h;obtain⟨a,vs,h1,h2,h3,h4,h5⟩:=k.own j ds e;exact⟨.ref a,h1,.lst (SqL.of h4) (h5.mono k.gh)⟩
 .rename_i p d' e
  cases h;obtain⟨ω,k1,k2⟩:=k.dp;obtain⟨v,fp,s,r,_⟩:=k1 j p _ e;exact⟨v,s,r.rep k.gh⟩
 simp_all
end DL
namespace HT
open PySem PyProof.Rows
end HT
namespace DL
open PySem PySem.Spec L2
open PyProof.Rows hiding St
section
variable{X:Cx}
noncomputable def SY(x y:D):Option wb:=match x,y with
 |.list xs,.int k=>if -1000000<=k/\k<=1000000/\xs.length*k.toNat<=1000000 then O (UL k.toNat xs).flatten else v4
 |_,_=>v4
theorem jJ   (h:SY x y=O ds):∃xs k,x=.list xs/\y=.int k/\(-1000000<=k/\k<=1000000/\xs.length*k.toNat<=1000000)/\ds=(UL k.toNat xs).flatten:=by
 unfold SY at h;split at h
 .simp_all
 simp_all
noncomputable def SX(f g:M D):M wb:=Kp f λx=>Kp g λy=>Kq (SY x y)
theorem LR{f g}(ha:PE X a (tD X.K B G0 f))(hb:PE X b (tD X.K B G0 g)):PE X (.BinOp a .Mult b pos) (tL X.K B G0 (SX f g)):=
 KM (Mu L4 ha hb) λσ H Q ⟨G,Z,k,q⟩=>by
  refine⟨G,Z,k,?_⟩;unfold SX Kp at q;cases z:f Z with
  |bad=>simp_all
  |ok x Z1=>
   rw[z]at q;dsimp only at q;intro v G1 H1 k1 s1 r1;refine⟨G1,Z1,k1,?_⟩;cases z2:g Z1 with
   |bad=>simp_all
   |ok y Z2=>
    rw[z2]at q;dsimp only[Kq]at q;intro u G2 H2 k2 s2 r2;cases z3:SY x y with
    |none=>simp_all
    |some ds=>rw[z3]at q;obtain⟨xs,i,rfl,rfl,c,rfl⟩:=jJ z3;obtain⟨l,vs,rfl,h1,w⟩:=r1.lst_inv;exact⟨l,i,vs,rfl,r2.int_inv,k2.gh.seq (s2.seq h1),by lia,by lia,by rw[w.length];exact QE c.2.2 lim,λp hp=>q p _ G2 _ (k2.ext (Ext.hid k2.gh hp)) (s1.trans s2) (NewL.of k2 hp ((w.mono s2).rep _))⟩
theorem LQ  {Z Z1 Z2}{x}{n}(h1:f Z=.ok (.list [x]) Z1)(h2:g Z1=.ok (.int n) Z2)(h:n<=1000):SX f g Z=.ok (UL n x) Z2:=by
 unfold SX Kp;rw[h1];dsimp only;rw[h2];dsimp only[Kq];have e:SY (.list [x]) (.int n)=O (UL n x):=by unfold SY;dsimp only;rw[Qq ⟨by lia,by lia,by show 1*_<=_;lia⟩];simp_all
 rw[e]
end
end DL
namespace DL
open PySem
theorem lz0{P:we->Prop}{us}(hl:us.length=0)(h:P []):P us:=by simp_all
theorem lzS{P:we->Prop}{us}{n}(hl:us.length=n+1)(h:∀a r,r.length=n->P (a::r)):P us:=by
 cases us with
 |nil=>simp_all
 |cons a r=>exact h a r (Nat.succ.inj hl)
theorem lz1{P:we->Prop}{us}(hl:us.length=1)(h:∀a,P [a]):P us:=lzS hl λa r e=>lz0 (P:=λr=>P _) e (h a)
theorem lz2{P:we->Prop}{us}(hl:us.length=2)(h:∀a b,P [a,b]):P us:=lzS hl λa r e=>lz1 (P:=λr=>P _) e (h a)
theorem lz3{P:we->Prop}{us}(hl:us.length=3)(h:∀a b c,P [a,b,c]):P us:=lzS hl λa r e=>lz2 (P:=λr=>P _) e (h a)
theorem lz4{P:we->Prop}{us}(hl:us.length=4)(h:∀a b c d,P [a,b,c,d]):P us:=lzS hl λa r e=>lz3 (P:=λr=>P _) e (h a)
theorem lz5{P:we->Prop}{us}(hl:us.length=5)(h:∀a b c d e,P [a,b,c,d,e]):P us:=lzS hl λa r e=>lz4 (P:=λr=>P _) e (h a)
theorem bz1  {ps:List Str}{us}(hl:us.length=1)(h:∀a,bindArgs fd {pos:=[a]}=pure (ps.zip [a])):bindArgs fd {pos:=us}=pure (ps.zip us):=lz1 (P:=λus=>bindArgs fd {pos:=us}=pure _) hl h
theorem bz2  {ps:List Str}{us}(hl:us.length=2)(h:∀a b,bindArgs fd {pos:=[a,b]}=pure (ps.zip [a,b])):bindArgs fd {pos:=us}=pure (ps.zip us):=lz2 (P:=λus=>bindArgs fd {pos:=us}=pure _) hl h
theorem bz3  {ps:List Str}{us}(hl:us.length=3)(h:∀a b c,bindArgs fd {pos:=[a,b,c]}=pure (ps.zip [a,b,c])):bindArgs fd {pos:=us}=pure (ps.zip us):=lz3 (P:=λus=>bindArgs fd {pos:=us}=pure _) hl h
theorem bz4  {ps:List Str}{us}(hl:us.length=4)(h:∀a b c d,bindArgs fd {pos:=[a,b,c,d]}=pure (ps.zip [a,b,c,d])):bindArgs fd {pos:=us}=pure (ps.zip us):=lz4 (P:=λus=>bindArgs fd {pos:=us}=pure _) hl h
theorem bz5  {ps:List Str}{us}(hl:us.length=5)(h:∀a b c d e,bindArgs fd {pos:=[a,b,c,d,e]}=pure (ps.zip [a,b,c,d,e])):bindArgs fd {pos:=us}=pure (ps.zip us):=lz5 (P:=λus=>bindArgs fd {pos:=us}=pure _) hl h
end DL
namespace DL
open PySem PySem.Spec L2
open PyProof.Rows hiding St
noncomputable def whole(h:Heap):Frag:=(UK h.objs.size).filterMap λa=>(h.get? a).map λo=>(a,o)
theorem GW{g:UD->Option Obj}{x}:∀l:wk,(l.filterMap λa=>(g a).map λo=>(a,o)).lookup x=if x∈l then g x else v4
 |[]=>rfl
 |y::l=>by
  have ih:=GW (g:=g) (x:=x) l;by_cases e:x=y
  .subst e
   rw[Qq Qo];cases z:g x with
   |none=>rw[List.filterMap_cons_none (by simp_all),ih,z];split<;>rfl
   |some o=>simp_all
  .have m:(x∈y::l)=(x∈l):=by simp_all
   have b:(x==y)=wa:=by simpa using e
   have ih':(if x∈y::l then g x else v4)=_:=(by simp only[m];exact ih.symm)
   rw[ih'];cases z:g y with
   |none=>simp_all
   |some o=>rw[List.filterMap_cons_some (by rw[z];rfl),QX,b]
theorem Y2   : (whole h).lookup a=h.get? a:=by
 unfold whole;rw[GW];split
 .rfl
 .rename_i n
  cases z:h.get? a with
  |none=>rfl
  |some o=>exact absurd (Q3.mpr (Ql z)) n
theorem Am(h:Heap):(whole h).In h:=λa o e=>by rw[Y2]at e;exact e
noncomputable def Eu(st:Stmt):Option DefRec:=match st with
 |.FunctionDef name a b _ _ _ sc _ _ pos=>O ⟨name,a,b,sc,pos⟩
 |_=>v4
noncomputable def OO(st:Stmt):Option Str:=match st with
 |.FunctionDef name _ _ _ _ _ _ _ _ _=>O name
 |_=>v4
noncomputable def Et(st:Stmt):Pos:=match st with
 |.FunctionDef _ _ _ _ _ _ _ _ _ pos=>pos
 |_=>⟨0,0,0,0⟩
noncomputable abbrev Zn(p:UC)(i:Nat):Stmt:=p.main.body.getD i (.Pass ⟨0,0,0,0⟩)
noncomputable def RM(p:UC)(ix:wn):List DefRec:=ix.filterMap λi=>Eu (Zn p i)
section
variable{p q:UC}{loose:List Str}{mean:ExcName->wj}{mg mb:Str->wj}{h:Heap}{w:World}
theorem MH  (T:Top q loose mean mg mb h)(e:recsOf q=RM p ix)(i:Nat)(x:Str)(hi:ix.contains i=v5)(hn:OO (Zn p i)=O x):∃f fd,mg x=O (.ref f)/\Fun (whole h) x x (Zn p i) f fd:=by
 cases hs:Zn p i with
 |FunctionDef name a b _ _ _ sc _ _ pos=>
  rw[hs]at hn;cases hn;have hd:(⟨x,a,b,sc,pos⟩)∈recsOf q:=by rw[e];exact List.mem_filterMap.mpr ⟨i,by simpa using hi,by rw[hs];rfl⟩
  obtain⟨f,⟨oc,od,dt,osl⟩,pm,cd,doc,h1,h2,h3,h4⟩:=T.fn _ hd;subst h3;refine⟨f,_,h1,⟨⟨oc,od,.none,doc,pm,_,cd,_,osl,rfl,by rw[Y2];exact h2,?_⟩,?_⟩⟩
  .obtain⟨c,⟨_,_,dc,_⟩,vs,t,rfl,g1,g2,g3⟩:=h4
   subst g2;unfold PySem.W.codeIn;dsimp only;rw[Y2,g1];dsimp only;have g4:vs.toList[1]?=O (.str x t):=by rw[Array.getElem?_toList];exact g3
   cases hv:vs.toList with
   |nil=>rw[hv]at g4;cases g4
   |cons v0 r=>
    rw[hv]at g4;cases r with
    |nil=>cases g4
    |cons v1 r=>cases g4;exact beq_self_eq_true _
  .unfold PySem.W.keepIn
   dsimp only;rw[Y2,h2]
 |_=>rw[hs]at hn;cases hn
theorem ka{K}{x qual y}{st}{f}{fd}(F:Fun K x qual st f fd)
  (hb:∀(kV doc pm)(an)(cdv ct v),bindArgs (PySem.W.fnOf x qual (W5 st) (XF st) (ZT st) .none kV doc pm an cdv ct) ⟨[v],[]⟩=pure [(y,v)]) (s) (v):BindsTo s fd ⟨[v],[]⟩ [(y,v)]:=by
 obtain⟨oc,od,kV,doc,pm,an,cdv,ct,osl,rfl,lk,hcd⟩:=F.ex;exact .of_eq (hb kV doc pm an cdv ct v)
noncomputable def Pc(q:UC)(loose:List Str)(x:Str):Bool:=
 !startupNames.contains x && !loose.contains x && !((recsOf q).map (·.name)).contains x && !((litsOf q).map (·.1)).contains x && !((clssOf q loose).map (·.name)).contains x
theorem YX(T:Top q loose mean mg mb h){xs:List Str}(e:xs.all (Pc q loose)=v5){x}(hx:x∈xs):mg x=v4:=by have:=Jf.mp e x hx;unfold Pc at this;simp only[QI,Bool.not_eq_true',List.contains_eq_mem,decide_eq_false_iff_not]at this;exact T.free x this.1.1.1.1 this.1.1.1.2 this.1.1.2 this.1.2 this.2
theorem Oh(T:Top q loose mean mg mb h){x}{i}(e:valOf q x=O (.int i)):∃t,mg x=O (.int i t):=by obtain⟨v,h1,h2⟩:=T.const x _ e;have:=h2 h;cases this;exact⟨_,h1⟩
theorem Mp:∀{vs}{ss},StrsAre vs ss->Vals (ss.map V.str) vs
 |_,_,.nil=>.nil
 |_,_,.cons y t r=>.cons ⟨t,rfl⟩ (Mp r)
theorem j9(B:Tables q w mg h){x}{ss}(e:tupStrsOf q x=O ss)(hl:ss.length<=1000) :
  ∃ad o its n,mg x=O (.ref ad)/\(whole h).lookup ad=O o/\o.cls=.type "tuple" /\ o.data=.seq its n/\its.size<=UG/\Vals (ss.map V.str) its.toList:=by
 obtain⟨a,vs,h1,⟨o,h2,h3,n,h4⟩,h5⟩:=B.tupS x ss e;have r:=Mp h5;refine⟨a,o,_,n,h1,by rw[Y2];exact h2,h3,h4,?_,r⟩;have:=r.length;rw[Qb]at this;have l:(1000)<=UG:=by decide
 rw[Jb]
 lia
end
noncomputable def scOk(sc:Scope)(N gl:List Str):Bool:=(N.all λx=>match sc.names.lookup x with|some .local=>v5|some .cell=>v5|_=>wa)&&gl.all λx=>match sc.names.lookup x with|some .globalImplicit=>v5|_=>wa
noncomputable def fnB(sc:Scope)(N gl:List Str):Bool:=decide (sc.kind=.function) && !sc.isCoroutine && !sc.isGenerator&&decide N.Nodup&&(sc.names.all λy=>match y.2 with | .free=>wa|_=>v5)&&scOk sc N gl
structure FnNm(sc:Scope)(N gl:List Str):Prop where
 kind:sc.kind=.function
 co:sc.isCoroutine=wa
 gen:sc.isGenerator=wa
 nd:N.Nodup
 nofree:∀y∈sc.names,y.2≠.free
 nm:∀x∈N,sc.names.lookup x=O .local∨sc.names.lookup x=O .cell
 gl:∀x∈gl,sc.names.lookup x=O .globalImplicit
theorem K0   (H:fnB sc N gl=v5):FnNm sc N gl:=by
 unfold fnB scOk at H;simp only[QI,Jo,Bool.not_eq_true',Jf]at H;obtain⟨⟨⟨⟨⟨h1,h2⟩,h3⟩,h4⟩,h5⟩,h6,h7⟩:=H;refine⟨h1,h2,h3,h4,λy hy e=>?_,λx hx=>?_,λx hx=>?_⟩
 .have:=h5 y hy;rw[e]at this;cases this
 .have:=h6 x hx
  split at this
  .rename_i e;exact .inl e
  .rename_i e;exact .inr e
  .simp_all
 .have:=h7 x hx
  split at this
  .rename_i e;exact e
  .simp_all
section
variable{sc:Scope}{N gl:List Str}{x:Str}
theorem nq(H:FnNm sc N gl):N.Nodup:=H.nd
theorem fq(H:FnNm sc N gl)(n):RP N (N.take n) sc:=⟨H.kind,H.co,H.gen,H.nd,by grind,λx hx=>H.nm x (List.mem_of_mem_take hx),H.nofree⟩
theorem lq(H:FnNm sc N gl)(i:Nat)(h:N[i]?=O x:=by rfl):L2.Loc sc x:=H.nm x (Qr h)
theorem gq(H:FnNm sc N gl)(i:Nat)(h:gl[i]?=O x:=by rfl):sc.names.lookup x=O .globalImplicit:=H.gl x (Qr h)
theorem pq{X}{pos}(H:FnNm X.env.scope X.N gl)(i)(h:X.N[i]?=O x:=by rfl)(hd:(x==("__debug__" : Str))=wa:=by decide)(hc:(x==("__classdict__" : Str))=wa:=by decide):PE X (.Name x pos) (Ye i):=
 M0 h ((H.nm x (Qr h)).elim .inl λz=>.inr (.inl z)) hd hc
end
theorem K3  {loose}{mean}{mg mb}{h}{ix}(P)(w)(base){ps}{k n:Nat}{F}(T:Top q loose mean mg mb h)(e:recsOf q=RM p ix)(i:Nat)(x)(hi:ix.contains i=v5)(hn:OO (Zn p i)=O x)
  (ok:∀{f}{fd},Fun (whole h) x x (Zn p i) f fd->FnOk P w (whole h) mg base CX0 k f fd ps (spD (whole h) n F))
  (hb:∀(kV doc pm)(an)(cdv ct)(us),us.length=ps.length->bindArgs (PySem.W.fnOf x x (W5 (Zn p i)) (XF (Zn p i)) (ZT (Zn p i)) .none kV doc pm an cdv ct) ⟨us,[]⟩=pure (ps.zip us)):Def P w (whole h) mg base x k n F:=by
 obtain⟨f,fd,m,FU⟩:=MH T e i x hi hn;exact Def.mk m FU (FU.binds hb) (ok FU)
section
variable{X:Cx}{B G0:Hp}{e:UF}{pos:Pos}{es:wf}
theorem pdf{k kk n}{F}{g}{x}{p2}(d:Def X.prog X.w X.K X.mg X.base x k n F)(hr:Room kk X.A)(hg:Gl X x)(ha:PA X (e::es) (tDs X.K B G0 g))(hk:k<=kk:=by decide)(hn:(e::es).length=n:=by rfl)
  (hdb:(x==("__debug__" : Str))=wa:=by decide) (he:UI (e::es) X.env=(wa,eval e X.env)::UI es X.env:=by rfl) (hpl:(backTo pos (UI es X.env)).any (·.1)=wa:=by rfl) :
  PE X (.Call (.Name x p2) (e::es) [] pos) (tD X.K B G0 (Kd n F g)):=CP d (hr.mono hk) hg ha hn hdb he hpl
end
theorem Es  {loose}{mean}{mg mb}{h:Heap}{ix}{P}{w}{k:Nat}{F}{y:Str}{fa:UD}(T:Top q loose mean mg mb h)(e:recsOf q=RM p ix)(i:Nat)(x:Str)(hi:ix.contains i=v5)(hn:OO (Zn p i)=O x)(hfa:mg x=O (.ref fa))
  (hb:∀(kV doc pm)(an)(cdv ct v),bindArgs (PySem.W.fnOf x x (W5 (Zn p i)) (XF (Zn p i)) (ZT (Zn p i)) .none kV doc pm an cdv ct) ⟨[v],[]⟩=pure [(y,v)])
  (ok:∀(base:Heap){f:UD}{fd},Fun (whole h) x x (Zn p i) f fd->FnOk P w (whole h) mg base CX0 k f fd [y] (spD (whole h) 1 F)) :
  ∃fd:UE,(∀(s)(v),BindsTo s fd ⟨[v],[]⟩ [(y,v)])/\∀base:Heap,FnOk P w (whole h) mg base CX0 k fa fd [y] (spD (whole h) 1 F):=by
 obtain⟨f,fd,m,FU⟩:=MH T e i x hi hn;cases hfa.symm.trans m;exact⟨fd,ka FU hb,λbase=>ok base FU⟩
def CK(K:Frag)(mg:Str->wj)(x:Str):Prop:=∃D bm,mg x=O (.ref D)/\ClsK K x D bm
noncomputable def Pz(x:Str):D->Bool
 |.dict [(.none,.tuple [.str nm,_])]=>decide (x=nm) || decide (x = "DealError")
 |_=>wa
noncomputable def Ry(x:Str)(g h:SM):SM:=λZ=>match g Z with
 |.ex Z1 d=>if Pz x d=v5 then(match h Z1 with
  |.nx Z2=>.nx Z2
  |.bk Z2=>.bk Z2
  |.ct Z2=>.ct Z2
  |.rt d2=>.rt d2
  |_=>.bad)else .bad
 |o=>o
section
variable{X:Cx}{B G0:Hp}{KX:XW}{e a b c:UF}{pos p2 cpos np hpos:Pos}{es:wf}{x n:Str}{k kk:Nat}
theorem j8{K}{G}{v}{d}{D'}{bmD}(r:Rep K G v d)(h:Pz x d=v5)(cD:ClsK K x D' bmD) :
  ∃a C dd bm,v=.ref a/\KC K C bm/\G a=O (.ext (XO wa a C dd))/\(Value.ref C::bm).contains (.ref D')=v5:=by
 unfold Pz at h;split at h
 .obtain⟨a,C,dd,bm,yw,vs,ds,rfl,e0,c,hx,_,_⟩:=r.exc_inv
  cases e0;exact⟨a,C,dd,bm,rfl,⟨_,c⟩,hx,by rw[c.has cD];exact h⟩
 simp_all
theorem Bp{g h:SM}{body suite:List Stmt}{b₀:Stmt}{st:List Env}(cD:CK X.K X.mg x)(hg:Gl X x)
  (hb:∀(KX':XW)(W)(pn),OQ wa (X.tried W pn) KX'->PSs (X.tried W pn) body (tS X.K B G0 KX' g)) (hs:∀a,PSs (X.suite a) (b₀::suite) (tS X.K B G0 KX0 h))
  (wK:X.stack=X.env::st:=by rfl) (hfr:X.env.frame=O X.env.locals:=by rfl) (hdb:(x==("__debug__" : Str))=wa:=by decide) :
  PS X (.Try body [.ExceptHandler (O (.Name x np)) v4 (b₀::suite) hpos] [] [] pos) (tS X.K B G0 KX (Ry x g h)):=PS.kin λkin=>by
 obtain⟨D',bmD,hm,ck⟩:=cD;obtain⟨fD,xD⟩:=ck.cls _ X.base kin;refine ZU (BL (KC:=KC X.K)   wK hfr (Oz kin) xD hg hm hb hs hdb) λDn σ H ⟨G,Z,k,a⟩=>?_
 refine⟨G,Z,k,?_⟩;unfold Ry at a;cases z:g Z with
 |nx Z1=>rw[z]at a;exact a
 |rt d=>rw[z]at a;exact a
 |ro ds=>rw[z]at a;exact a
 |bk Z1=>rw[z]at a;exact a
 |ct Z1=>rw[z]at a;exact a
 |bad=>rw[z]at a;exact a.elim
 |ex Z1 d=>
  rw[z]at a;dsimp only at a;intro v σ1 G1 H1 k1 s1 r;by_cases hc:Pz x d=v5
  .rw[Qq hc]at a
   obtain⟨ad,C,dd,bm,rfl,kc,hx,hct⟩:=j8 r hc ck;refine⟨ad,C,dd,bm,rfl,kc,k1.gh _ _ hx,hct,G1,_,k1,?_⟩;cases z2:h Z1 with
   |nx Z2=>rw[z2]at a;exact λσ2 G2 H2 k2 s2=>a _ G2 H2 k2 (s1.trans s2)
   |bk Z2=>rw[z2]at a;exact λσ2 G2 H2 k2 s2=>a _ G2 H2 k2 (s1.trans s2)
   |ct Z2=>rw[z2]at a;exact λσ2 G2 H2 k2 s2=>a _ G2 H2 k2 (s1.trans s2)
   |rt d2=>rw[z2]at a;exact a
   |ex _ _=>rw[z2]at a;exact a.elim
   |ro _=>rw[z2]at a;exact a.elim
   |bad=>rw[z2]at a;exact a.elim
  .rw[QB hc]at a;exact a.elim
end
def Mo(o:UF)(name:Str)(apos:Pos)(args:wf)(pos:Pos):Prop:=∀env:Env,∃pl:Sem Bool,eval (.Call (.Attribute o name apos) args [] pos) env=(do
   let ov ←eval o env
   standAt apos.atName
   let (f,first) ←holding [ov] (getMethod ov name pl)
   callWith pos f first (backTo pos (UI args env)) (backToKw pos (keywordEach [] env)))
section
variable{P:UC}{w:World}{K:Frag}{mg:Str->wj}{base:Heap}{st:Stmt}{f f0 D:UD}{fd fd0:UE}{q:Str}{p1 p2 p3 p4 p5 p6 p7 p8 p9 r1 r2 r3 r4 r5 r6 r7 r8 r9 q1 q2:Pos}{j1 j2:Nat}
theorem Bo(F:Fun K "__init__" q st f fd)(hn:FnNm (ZT st) ["self", "text"] ["ValueError"])(hm:mg "ValueError" = v4)
  (hb:XF st=[.Expr (.Call (.Attribute (.Name "ValueError" p1) "__init__" p2) [.Name "self" p3,.Name "text" p4] [] p5) p6])
  (ht:Mo (.Name "ValueError" p1) "__init__" p2 [.Name "self" p3,.Name "text" p4] p5) :
  FnOk P w K mg base CX0 1 f fd ["self", "text"] (L7 (KC K)):=by
 refine F.ok (fq hn 2) (λvs H Q E ⟨a,C,dd,bm,x,e,_⟩=>by rw[e];rfl) λcdv A outer s H vs Q E hr ⟨a,C,dd,bm,x,e,kc,hx,hq⟩=>?_
 subst e;rw[hb];obtain⟨pl,ht⟩:=ht (Y7 CX0 P w K mg base ["self", "text"] q _ f cdv A outer s H E).nox.env;refine⟨Mv (MS (KC K) _),PSs.kin λkin=>L0 (Nh (qA  (Oz kin) (gq hn 0) hm (WQ (pq hn 0) (WQ (pq hn 1) V9)) (ht:=ht))),?_⟩;exact⟨_,rfl,_,rfl,a,C,dd,bm,_,rfl,kc,hx,hq⟩
end
structure XSt(h:Heap)(nm:Str)(own:Option Stmt)(C N:UD)(bm:we)(mN:Str->wj):Prop where
 ad:h.nsMap mainGlobals nm=O (.ref C)
 obj:∃q bs sn sub ab col dd k0 k1 k2 k3 k5,h.get? C=O (excClassObj nm q C N bs bm v5 sn sub ab col dd k0 k1 k2 k3 k5 "ValueError.__new__")
 ns:h.Ns N mN
 quiet:∀x∈OP,mN x=v4
 up:nm = "DealError" /\ bm=VB∨nm ≠ "DealError" /\ ∃D,h.nsMap mainGlobals "DealError" = O (.ref D)/\bm=.ref D::VB
 init:match own with
  |none=>mN "__init__" = v4
  |some st=>∃f o pm cd doc,mN "__init__" = O (.ref f)/\h.get? f=O o/\o.cls=.type "function" /\ o.data=.func (methDef "__init__" (SR nm) (W5 st) (XF st) (ZT st) pm cd doc)/\h.CodeRec cd (SR nm)
section
variable{h h':Heap}{nm:Str}{own:Option Stmt}{C N:UD}{bm:we}{mN:Str->wj}
theorem FI    (e:h.nsMap a x=O v)(k:∀b o,h.get? b=O o->h'.get? b=O o):h'.nsMap a x=O v:=by
 unfold Heap.nsMap at e⊢;cases z:h.get? a with
 |none=>simp_all
 |some o=>rw[k _ _ z];rw[z]at e;exact e
theorem XSt.keeps(x:XSt h nm own C N bm mN)(k:∀b o,h.get? b=O o->h'.get? b=O o):XSt h' nm own C N bm mN where
 ad:=FI x.ad k
 obj:=let ⟨q,bs,sn,sub,ab,col,dd,k0,k1,k2,k3,k5,e⟩:=x.obj;⟨q,bs,sn,sub,ab,col,dd,k0,k1,k2,k3,k5,k _ _ e⟩
 ns:=x.ns.keeps k
 quiet:=x.quiet
 up:=x.up.imp id λ⟨a,D,b,c⟩=>⟨a,D,FI b k,c⟩
 init:=by
  have z:=x.init;cases own with
  |none=>exact z
  |some st=>obtain⟨f,o,pm,cd,doc,h1,h2,h3,h4,h5⟩:=z;exact⟨f,o,pm,cd,doc,h1,k _ _ h2,h3,h4,h5.keeps k⟩
theorem dA(st:Stmt):Mr st=W5 st:=by cases st<;>rfl
theorem dB(st:Stmt):Mq st=XF st:=by cases st<;>rfl
theorem dS(st:Stmt):M4 st=ZT st:=by cases st<;>rfl
structure XYP(p:UC)(l:XL0)(h:Heap):Prop where
 st:∃mc,h.Ns cStatics mc/\mc "thirdparty.any" = v4
 cl:∀c∈l,∃C N bm mN,XSt h c.1 (c.2.map λi=>Ta (Zn p i)) C N bm mN
theorem XYP.keeps   (x:XYP p l h)(k:∀b o,h.get? b=O o->h'.get? b=O o):XYP p l h':=
 ⟨let ⟨mc,a,b⟩:=x.st;⟨mc,a.keeps k,b⟩,λc hc=>let ⟨C,N,bm,mN,z⟩:=x.cl c hc;⟨C,N,bm,mN,z.keeps k⟩⟩
theorem Do{st:Stmt}{n}(b:xB h nm n=v5)(hown:own=v4->n=wa)(hs:∀st,own=O st->xSh h nm=O (v5,TL nm st)):∃C N bm mN,XSt h nm own C N bm mN:=by
 unfold xB at b;split at b
 .rename_i C hC
  split at b
  .rename_i t dd cd sl ho
   simp only[QI,Bool.not_eq_true',beq_iff_eq,Bool.or_eq_true,Jf,Option.isNone_iff_eq_none]at b;obtain⟨⟨⟨⟨⟨⟨⟨⟨b1,b2⟩,b3⟩,b4⟩,b5⟩,b6⟩,b7⟩,b8⟩,b9⟩:=b;obtain⟨cn,cb,cm,cns,cq,chd,csn,csub,cab,ccol,cdel⟩:=cd;simp only at b2 b3 b4 b6 b7 b8 b9;subst b1 b2 b3 b4;split at b5
   .rename_i k0 k1 k2 k3 k4 k5 hsl
    have b5:=Qa b5;subst b5;have hsl':sl=#[k0,k1,k2,k3,O (.builtin "ValueError.__new__"),k5]:=by rw[←Array.toList_inj,hsl]
    subst hsl'
    have key:∃bm,cm=.ref C::bm/\(cn = "DealError" /\ bm=VB∨cn ≠ "DealError" /\ ∃D,h.nsMap mainGlobals "DealError" = O (.ref D)/\bm=.ref D::VB):=by
     split at b9
     .rename_i e
      exact⟨VB,Qa b9,.inl ⟨e,rfl⟩⟩
     .rename_i e
      split at b9
      .rename_i D hD
       exact⟨.ref D::VB,Qa b9,.inr ⟨e,D,hD,rfl⟩⟩
      .cases b9
    obtain⟨bm,rfl,up⟩:=key;refine⟨C,cns,bm,h.nsMap cns,hC,⟨_,_,_,_,_,_,_,_,_,_,_,_,ho⟩,.of_isNs b6,b7,up,?_⟩;cases own with
    |none=>
     rcases b8 with b8|b8
     .rw[hown v3]at b8;cases b8
     .exact b8
    |some st=>
     have e:=hs st v3;unfold xSh at e;rw[hC]at e;dsimp only at e;rw[ho]at e;dsimp only at e;split at e
     .rename_i a o fd sh hf hsh
      simp only[Option.some.injEq,Prod.mk.injEq,Jo]at e;obtain⟨e1,rfl⟩:=e;obtain⟨g1,g2,g3⟩:=Heap.fnAt_spec hf;unfold Heap.shapeAt at hsh;rw[hf]at hsh;obtain⟨n,q,ps,b,sc,g,cl,df,kd,doc,pm,an,code,ct,bi⟩:=fd;simp only[Option.map_some,TL,dA,dB,dS,Option.some.injEq,FnShape.mk.injEq]at hsh;obtain⟨rfl,rfl,rfl,rfl,rfl,rfl,rfl,rfl,rfl,rfl,rfl,rfl,hc⟩:=hsh;exact⟨a,o,pm,code,doc,g1,g2,e1,g3,.of_ok hc⟩
     .cases e
   .cases b5
  .cases b
 .cases b
theorem Dm  {l}{s}(e:xSeen l s=xGood p l):XYP p l s.heap:=by
 obtain⟨e1,e2⟩:=JS e;obtain⟨e1,e3⟩:=Uk.mp e1;refine⟨⟨_,.of_isNs e1,Option.isNone_iff_eq_none.mp e3⟩,λc hc=>?_⟩;have q:=List.map_inj_left.mp e2 c hc;obtain⟨q1,q2⟩:=JS q;refine Do (st:=.Pass ⟨0,0,0,0⟩) q1 (λz=>?_) λst z=>?_
 .simp_all
 .cases hz:c.2 with
  |none=>simp_all
  |some i=>simp_all
end
theorem MG:mroOf (.type "ValueError")=pure VB:=by kernel_rfl
theorem Er:typeLookup (.type "ValueError") "__setattr__" = pure (O (.builtin "object.__setattr__")):=by kernel_rfl
theorem Ep:typeLookup (.type "ValueError") "__getattribute__" = pure (O (.builtin "BaseException.__getattribute__")):=by kernel_rfl
theorem Eo:typeLookup (.type "ValueError") "__getattr__" = pure v4:=by kernel_rfl
theorem En:typeLookup (.type "ValueError") "__class__" = pure (O (.builtin "object.__class__")):=by kernel_rfl
theorem Bm:typeLookup (.type "ValueError") "part" = pure v4:=by kernel_rfl
theorem j7:typeLookup (.type "ValueError") "number" = pure v4:=by kernel_rfl
theorem Dl:typeLookup (.type "ValueError") "row" = pure v4:=by kernel_rfl
theorem LZ(v:UA):refuseLoop v "__setattr__" VB=pure ():=by kernel_rfl
section
variable{h h':Heap}{nm:Str}{own ownD:Option Stmt}{C N D ND:UD}{bm:we}{mN mD:Str->wj}{M:Model}
theorem XSt.along(x:XSt h nm own C N bm mN)(xD:XSt h "DealError" ownD D ND VB mD){y}{r}(hy:y∈OP)(hB:typeLookup (.type "ValueError") y=pure r):Z6 M C y r h:=by
 obtain⟨q,bs,sn,sub,ab,col,dd,k0,k1,k2,k3,k5,e⟩:=x.obj;obtain⟨q',bs',sn',sub',yr,col',w6,k0',k1',k2',k3',k5',e'⟩:=xD.obj;refine Z6.of e (Xe.miss e x.ns (x.quiet y hy) ?_);rcases x.up with ⟨_,rfl⟩|⟨_,D',wH,rfl⟩
 .exact Xe.base MG hB
 .have:=wH.symm.trans xD.ad
  cases this;exact Xe.miss e' xD.ns (xD.quiet y hy) (Xe.base MG hB)
theorem XSt.tail(x:XSt h nm own C N bm mN):Tail VB bm:=by
 rcases x.up with ⟨_,rfl⟩|⟨_,D',_,rfl⟩
 .exact Tail.base
 .exact Tail.own Tail.base
def Pb(h:Heap)(own ownD:Option Stmt)(mN mD:Str->wj)(nm:Str)(f:UD):Prop:=match own with
 |some _=>mN "__init__" = O (.ref f)
 |none=>mD "__init__" = O (.ref f)
theorem XSt.xcls(x:XSt h nm own C N bm mN){std:Stmt}(xD:XSt h "DealError" (O std) D ND VB mD){f:UD}(hf:Pb h own (O std) mN mD nm f):XCls M h C bm f:=by
 have hD:=xD.init;obtain⟨fD,oD,pmD,cdD,docD,g1,g2,g3,g4,g5⟩:=hD;obtain⟨q,bs,sn,sub,ab,col,dd,k0,k1,k2,k3,k5,e⟩:=id x.obj;obtain⟨q',bs',sn',sub',yr,col',w6,k0',k1',k2',k3',k5',e'⟩:=id xD.obj
 have fin:Z6 M C "__init__" (O (.ref f)) h/\∃o,h.get? f=O o/\o.cls=.type "function" :=by
  have z:=x.init;unfold Pb at hf;cases own with
  |some st=>obtain⟨f',o,pm,cd,doc,h1,h2,h3,h4,h5⟩:=z;have hf:mN "__init__" = O (.ref f):=hf;rw[h1]at hf;cases hf;exact⟨Z6.of e (Xe.hit e x.ns h1),o,h2,h3⟩
  |none=>
   rw[g1]at hf;cases hf;refine⟨Z6.of e (Xe.miss e x.ns z ?_),oD,g2,g3⟩;rcases x.up with ⟨hn,rfl⟩|⟨_,D',wH,rfl⟩
   .subst hn
    have:=x.ad.symm.trans xD.ad;cases this;rw[e]at e';cases e';have:=x.ns.eq_nsMap.trans xD.ns.eq_nsMap.symm;rw[this]at z;rw[g1]at z;cases z
   .have:=wH.symm.trans xD.ad
    cases this;exact Xe.hit e' xD.ns g1
 refine⟨⟨nm,q,N,bs,sn,sub,ab,col,dd,k0,k1,k2,k3,k5,e⟩,x.tail,fin.1,fin.2,x.along xD (by decide) Er,x.along xD (by decide) Ep,x.along xD (by decide) Eo,x.along xD (by decide) En,λv=>?_⟩;rcases x.up with ⟨_,rfl⟩|⟨_,D',_,rfl⟩
 .exact LZ v
 .rw[refuseLoop_ref];exact LZ v
theorem Ol(k:(whole h).In h'):∀b o,h.get? b=O o->h'.get? b=O o:=λb o e=>k b o (by rw[Y2];exact e)
theorem N0  {a}(n:h.Ns a mA)(y):PySem.W.nsIn (whole h) a y=O (mA y):=by
 obtain⟨⟨oc,od,dt,os⟩,es,ep,ho,hd,hk,hf⟩:=n;subst hd;unfold PySem.W.nsIn;rw[Y2,ho];dsimp only;have:=hf y;unfold nsFind findBy at this;rw[←Array.find?_toList]at this;rw[←this];cases z:es.toList.find? _ with
 |some e=>rfl
 |none=>
  rw[QB]
  .rfl
  .rw[List.any_eq_true]
   rintro⟨e,he,hr⟩;obtain⟨n,t,hk⟩:=hk e (Array.mem_toList_iff.mp he);unfold DictEntry.refKey at hr;simp_all
theorem XSt.nmd(x:XSt h nm own C N bm mN):NmAt (whole h) nm C:=by obtain⟨q,bs,sn,sub,ab,col,dd,k0,k1,k2,k3,k5,e⟩:=x.obj;exact⟨_,_,by rw[Y2];exact e,rfl,rfl⟩
theorem FH  (n:h.Ns mainGlobals mg)(e:h.nsMap mainGlobals nm=O (.ref C)):Pk (whole h) nm=O C:=by unfold Pk;rw[N0 n,n.eq_nsMap,e]
theorem XSt.clsK  (n:h.Ns mainGlobals mg)(x:XSt h nm own C N bm mN){std:Stmt}(xD:XSt h "DealError" (O std) D ND VB mD){f:UD}(hf:Pb h own (O std) mN mD nm f):ClsK (whole h) nm C bm where
 ad:=FH n x.ad
 nmd:=x.nmd
 up:=x.up.imp id λ⟨a,D',b,c⟩=>⟨a,D',FH n b,c,by have:=b.symm.trans xD.ad;cases this;exact xD.nmd⟩
 cls:=λM h' k=>⟨f,(x.keeps (Ol k)).xcls (xD.keeps (Ol k)) (by unfold Pb at hf⊢;cases own<;>exact hf)⟩
 fld:=λM h' k y hy=>by
  have z:=x.keeps (Ol k);have zD:=xD.keeps (Ol k);simp only[List.mem_cons,List.not_mem_nil,or_false]at hy;rcases hy with rfl|rfl|rfl
  .exact z.along zD (by decide) Bm
  .exact z.along zD (by decide) j7
  .exact z.along zD (by decide) Dl
theorem XSt.fun{st}(x:XSt h nm (O st) C N bm mN):∃f fd,mN "__init__" = O (.ref f)/\Fun (whole h) "__init__" (SR nm) st f fd:=by
 obtain⟨f,⟨oc,od,dt,osl⟩,pm,cd,doc,h1,h2,h3,h4,h5⟩:=x.init;subst h4;refine⟨f,_,h1,⟨⟨oc,od,.none,doc,pm,_,cd,_,osl,rfl,by rw[Y2];exact h2,?_⟩,?_⟩⟩
 .obtain⟨c,⟨_,_,dc,_⟩,vs,t,rfl,g1,g2,g3⟩:=h5
  subst g2;unfold PySem.W.codeIn;dsimp only;rw[Y2,g1];dsimp only;have g4:vs.toList[1]?=O (.str (SR nm) t):=by simp_all
  cases hv:vs.toList with
  |nil=>simp_all
  |cons v0 r=>
   rw[hv]at g4;cases r with
   |nil=>cases g4
   |cons v1 r=>cases g4;exact beq_self_eq_true _
 .unfold PySem.W.keepIn
  dsimp only;rw[Y2,h2]
theorem tf1{K}:PySem.W.findIn K (.type "type") "__init__" = O (O (.builtin "type.__init__")):=by kernel_rfl
theorem tf2{K}:PySem.W.specialIn K (.builtin "type.__init__") "__get__" = O (O (.builtin "wrapper_descriptor.__get__")):=by kernel_rfl
theorem tf3{K:Frag}:PySem.W.takesIn K (.builtin "type.__init__")=O wa:=by kernel_rfl
theorem tf4{K}:PySem.W.findIn K (.type "type") "__getattribute__" = O (O (.builtin "type.__getattribute__")):=by kernel_rfl
theorem tf5{K:Frag}:PySem.W.subIn K (.type "type") (.type "type")=O v5:=by kernel_rfl
theorem XSt.clsFn{st:Stmt}(x:XSt h "DealError" (O st) D ND VB mD)(hs:∃mc,h.Ns cStatics mc/\mc "thirdparty.any" = v4){f:UD}(hf:mD "__init__" = O (.ref f)):My (whole h) D "__init__" f:=by
 obtain⟨f',o,pm,cd,doc,h1,h2,h3,h4,h5⟩:=x.init;rw[h1]at hf;cases hf;obtain⟨q,bs,sn,sub,ab,col,dd,k0,k1,k2,k3,k5,e⟩:=x.obj;obtain⟨mc,hc1,hc2⟩:=hs;have tD:PySem.W.typeIn (whole h) (.ref D)=O (.type "type"):=by unfold PySem.W.typeIn;dsimp only;rw[Y2,e];rfl
 have tf:PySem.W.typeIn (whole h) (.ref f)=O (.type "function"):=by unfold PySem.W.typeIn;dsimp only;rw[Y2,h2];exact Us O h3
 refine⟨?_,?_,?_,?_⟩
 .unfold PySem.W.specialIn
  rw[tD];exact tf4 (K:=whole h)
 .unfold PySem.W.readsIn
  rw[N0 hc1,hc2,tD,tf4,tf5];rfl
 .unfold PySem.W.findCls
  rw[tf1];dsimp only[Option.bind_some];rw[tf2];dsimp only[Option.bind_some];rw[tf3];have hfi:PySem.W.findIn (whole h) (.ref D) "__init__" = O (O (.ref f)):=by unfold PySem.W.findIn;dsimp only;rw[Y2,e];dsimp only;unfold PySem.W.alongIn PySem.W.ownIn;dsimp only;rw[Y2,e];dsimp only;rw[N0 x.ns,h1]
  rw[hfi];dsimp only[Option.bind_some];rw[tf];rfl
 .unfold PySem.W.keepIn
  dsimp only;rw[Y2,h2];obtain⟨oc,od,dt,osl⟩:=o;subst h4;rfl
end
section
variable{h:Heap}{mg:Str->wj}{p:UC}{l:XL0}{i j:Nat}{c:Str×Option Nat}{p1 p2 p3 p4 p5 p6 p7 p8 p9 r1 r2 r3 r4 r5 r6 r7 r8 r9 q1 q2:Pos}{j1 j2:Nat}
structure Root(p:UC)(h:Heap)(mg:Str->wj)(i:Nat)(D f:UD)(fd:UE):Prop where
 at':mg "DealError" = O (.ref D)
 ex:∃ND mD,XSt h "DealError" (O (Ta (Zn p i))) D ND VB mD/\mD "__init__" = O (.ref f)
 cf:My (whole h) D "__init__" f
 bd:WW (whole h) fd ["self", "text"] []
 ok:∀(P:UC)(w:World)(base:Heap),FnOk P w (whole h) mg base CX0 1 f fd ["self", "text"] (L7 (KC (whole h)))
theorem XSt.root     (x:XSt h "DealError" own C N bm mN):bm=VB:=by
 rcases x.up with ⟨_,rfl⟩|⟨z,_⟩
 .rfl
 .exact absurd v3 z
theorem Bl(n:h.Ns mainGlobals mg)(Y:XYP p l h)(hD:(((("DealError" : Str),O i):Str×Option Nat)∈l))(hm:mg "ValueError" = v4)(hn:FnNm (ZT (Ta (Zn p i))) ["self", "text"] ["ValueError"])
  (hb:XF (Ta (Zn p i))=[.Expr (.Call (.Attribute (.Name "ValueError" p1) "__init__" p2) [.Name "self" p3,.Name "text" p4] [] p5) p6])
  (ht:Mo (.Name "ValueError" p1) "__init__" p2 [.Name "self" p3,.Name "text" p4] p5)
  (hbz:∀(kV doc pm)(an)(cdv ct)(us),us.length=(["self", "text"]:List Str).length->bindArgs (PySem.W.fnOf "__init__" (SR "DealError") (W5 (Ta (Zn p i))) (XF (Ta (Zn p i))) (ZT (Ta (Zn p i))) .none kV doc pm an cdv ct) ⟨us,[]⟩=pure ((["self", "text"]:List Str).zip us)) :
  ∃D f fd,Root p h mg i D f fd:=by
 obtain⟨D,ND,bm,mD,x⟩:=Y.cl _ hD;have:=x.root;subst this;obtain⟨f,fd,hf,FU⟩:=XSt.fun  x;exact⟨D,f,fd,by rw[n.eq_nsMap];exact x.ad,⟨ND,mD,x,hf⟩,XSt.clsFn  x Y.st hf,FU.binds hbz,λP w base=>Bo FU hn hm hb ht⟩
theorem Em(n:h.Ns mainGlobals mg)(Y:XYP p l h){D f}{fd}(R:Root p h mg i D f fd)(hc:c∈l):CK (whole h) mg c.1:=by
 obtain⟨C,N,bm,mN,x⟩:=Y.cl _ hc;obtain⟨ND,mD,xD,hf⟩:=R.ex;cases hz:c.2 with
 |none=>rw[hz]at x;exact⟨C,bm,by rw[n.eq_nsMap];exact x.ad,XSt.clsK n x xD  hf⟩
 |some k=>rw[hz]at x;obtain⟨f',o,pm,cd,doc,h1,h2⟩:=x.init;exact⟨C,bm,by rw[n.eq_nsMap];exact x.ad,XSt.clsK n x xD  h1⟩
end
theorem j6{l:PySem.W.OpenLaw}{n k:Nat}{q}{loose}{XP}{YP}{d}{F}{x:Str}
  (hn:l.most=O n) (hn2:n<=UG) (hdf:d.params.defaults=[]) (hr:Room k callerA)
  (hF:∀(w)(s₀)(mg mb)(fa)(h:Heap),PySem.W.Ground q loose [] XP w s₀ mg mb h->YP w h->mg d.name=O (.ref fa) ->
   ∃fd:UE,(∀(s)(u),BindsTo s fd ⟨[u],[]⟩ [(x,u)])/\∀base:Heap,FnOk l.prog w (whole h) mg base CX0 k fa fd [x] (spD (whole h) 1 F))
  (hl:∀ns:wc,ns.length<=n->F [.list (ns.map int)]=O (.bool v5)) :
  PySem.W.WalkO q loose XP YP l.row.toRowW d [] (λf vs=>PySem.call f vs):=by
 refine Att.attach_call hn hdf λw s₀ s₁ mg mb fa o pm cd doc a vs ns G Y ho hd hcd hmg hobj hints hlen hg=>?_
 obtain⟨fd,hb,hF⟩:=hF w s₀ mg mb fa _ G Y hmg;exact qC (Am _) G.T.g G.T.b G.T.builtins G.T.nolimit hg hobj hints (QE hlen hn2) hr (λbase _ _=>hF base) hb (λH hO hS=>E1 hS (hl ns hlen)) λH e s' z=>z
section
variable{α β:Type}{Z Z1 Z2 Z3 Z':U7}{f:M D}{s t:SM}{Q:Out->Prop}{d:D}{ds fs:wb}{nm x:Str}{o:Out}
theorem Al(h1:s Z=.nx Z1):Ry x s t Z=.nx Z1:=by unfold Ry;rw[h1]
theorem Ak  {t}(h:f Z=.ok d Z1)(ht:Zb d c=t):Ke (λd=>UN (Zb d c)) f Z=.ok (UN t) Z1:=by subst ht;exact KY  h
theorem Dk  {kvs:List (D×D)}(h:f Z=.ok (.dict kvs) Z1)(hc:(("dict" == c) || ("" == c))=wa:=by decide):Ke (λd=>UN (Zb d c)) f Z=.ok (UN wa) Z1:=Ak h (nty hc)
end
end DL
namespace L2
open PySem PySem.Spec PyProof.Rows
end L2
namespace DL
open PySem PySem.Spec L2
open PyProof.Rows hiding St
end DL
namespace DL
open PySem PySem.Spec L2 PySem.SeqAt PySem.AutoSeq1
open PyProof.Rows hiding St
end DL
namespace DL
open PySem PySem.Spec L2
open PyProof.Rows hiding St
end DL
namespace L2
open PySem PySem.Spec PyProof.Rows
end L2
namespace DL
open PySem PySem.Spec L2
open PyProof.Rows hiding St
section
variable{X:Cx}
noncomputable def X5:wc->Int
 |[]=>0
 |[n]=>n
 |n::r=>if X5 r<n then X5 r else n
theorem NN:∀{ns},0<ns.length->X5 ns∈ns
 |[n],_=>QM.2 v3
 |n::m::r,_=>by
  have ih:=NN (ns:=m::r) (Uu _);unfold X5;split
  .exact Qk _ ih
  .exact Qo ..
theorem NC:∀{ns}{a},a∈ns->X5 ns<=a
 |[n],a,h=>by rw[QM.1 h];exact Ja _
 |n::m::r,a,h=>by
  have ih:∀b,b∈m::r->X5 _<=b:=λb hb=>NC hb;unfold X5;rcases QQ.1 h with e|h
  .subst e;split<;>lia
  grind
theorem Aj  {M}(h1:M∈ns)(h2:∀a,a∈ns->M<=a):X5 ns=M:=
 Uc (NC h1) (h2 _ (NN (List.length_pos_of_mem h1)))
theorem j4(hc:X.calm=v5):YS X (.builtin "min") (λxs H Q=>∃l,∃ns:wc,xs=[.ref l]/\SqL X.K H l (ns.map V.int)/\0<ns.length/\Q (.int (X5 ns)) H):=by
 intro pins s σ H xs us Q I rx h;obtain⟨l,ns,rfl,hq,hb,q⟩:=h;obtain⟨u,rfl,ru⟩:=rx.one;cases ru;obtain⟨its,rv,p,hz⟩:=I.list hq;have hi:=Vf rv;obtain⟨ys,e⟩:=hi.allInts.items;have hns:ns=ys.toList.map (·.1):=by rw[←hi.numsOf,←nums_intItems,←e]
 have hsz:0<ys.size:=by simp_all
 have hl:=p.isList;rw[e]at hl;refine min_intList (I.ok.hd hc) hl hsz λv h' tk hv hk=>?_
 obtain⟨t,rfl⟩:=intItems_at hv;obtain⟨h1,h2⟩:=argBest_lt (numAt ys) (ys.size-1);refine⟨.int _,H,I.kept hk,⟨t,?_⟩,q⟩;rw[Aj  ?_ ?_]
 .rw[hns,numAt_eq];exact getD_mem (by rw[Qb,JP];omega)
 .intro a ha
  rw[hns]at ha;obtain⟨j,hj,rfl⟩:=mem_getD ha;rw[Qb,JP]at hj;rw[←numAt_eq];exact h2 j (by omega)
noncomputable def V8:wb->wd
 |[.list ds]=>(match YE ds with
  |some ns=>if 0<ns.length then O (.int (X5 ns))else v4
  |none=>v4)
 |_=>v4
theorem jZ   (h:V8 xs=O d):∃ds ns,xs=[.list ds]/\YE ds=O ns/\0<ns.length/\d=.int (X5 ns):=by
 unfold V8 at h;split at h
 .rename_i ds
  cases z:YE ds with
  |none=>simp_all
  |some ns=>simp_all
 simp_all
theorem Dj(hc:X.calm=v5):YW X (.builtin "min") V8:=by refine⟨_,j4 hc,λvs G H ds d Q s r e k=>?_⟩;obtain⟨ds,ns,rfl,z,c,rfl⟩:=jZ e;obtain⟨v,rfl,q1⟩:=r.one_inv;obtain⟨l,ws,rfl,h1,r1⟩:=q1.lst_inv;have:=Rr r1 z;subst this;exact⟨l,ns,rfl,s.seq h1,c,k _ G H (.refl s) (.int _)⟩
theorem Ai  (h:0<ns.length):V8 [.list (ns.map .int)]=O (.int (X5 ns)):=by unfold V8;simp only[Rt,Qq h]
end
end DL
namespace L2
open PySem PySem.Spec PyProof.Rows
end L2
namespace DL
open PySem PySem.Spec L2
open PyProof.Rows hiding St
end DL
namespace L2
open PySem PySem.Spec PyProof.Rows
end L2
namespace DL
open PySem PySem.Spec L2
open PyProof.Rows hiding St
theorem EOk.lent{K}{B G0 G H}{σ}{Z}(k:EOk K B G0 G H σ Z):EOk K H H H H σ (Yh Z) where
 bh:=.refl _
 gh:=.refl _
 g0:=.refl _
 np:=λ_ _ e n=>by lia
 len:=by unfold Yh;rw[Qb];exact k.len
 pub:=λi d e=>by
  rcases GS e with e2|⟨ds,rfl,e2⟩|⟨p,e2⟩
  .exact k.tree (by unfold RN;rw[e2])
  .exact k.tree (by unfold RN;rw[e2])
  .exact k.tree (by unfold RN;rw[e2])
 own:=λi ds e=>(Rn e).elim
 sep:=λi j a ds es e=>(Rn e).elim
 dp:=.of (λ_ _ _ q=>Fn q) λ_ _ q=>Rn q
end DL
namespace L2
open PySem PySem.Spec PyProof.Rows
end L2
namespace DL
open PySem PySem.Spec L2
open PyProof.Rows hiding St
end DL
namespace L2
open PySem PySem.Spec PyProof.Rows
end L2
namespace DL
open PySem PySem.Spec L2
open PyProof.Rows hiding St
noncomputable def isT:Option HO->Bool
 |some (.tup _)=>v5
 |some (.frz _ (.tup _))=>v5
 |_=>wa
theorem Di{u:MO}:isT (O u.ho)=wa:=by cases u<;>rfl
noncomputable def ZL(fp:wk)(G H:Hp):Hp:=λb=>if b∈fp∨isT (H b)=v5 then H b else G b
section
variable{K:Frag}{B G0 G H:Hp}{fp:wk}
theorem qX(gh:Same G H):Same G (ZL fp G H):=λb o e=>by
 unfold ZL;split
 .exact gh b o e
 .exact e
theorem Bk(gh:Same G H):Same (ZL fp G H) H:=λb o e=>by
 unfold ZL at e;split at e
 .exact e
 .exact gh b o e
theorem Lw{b:UD}(h:b∈fp∨isT (H b)=v5):ZL fp G H b=H b:=by unfold ZL;rw[Qq h]
theorem Lv  (h:b∉fp)(h2:isT (H b)=wa):ZL fp G H b=G b:=by
 unfold ZL;rw[QB];rintro(z|z)
 .exact h z
 lia
theorem Ext.pubT  (ex:Ext G H G' H')(fr:∀a∈fp,H a=v4):Ext G H (ZL fp G' H') H':=
 ⟨ex.h,ex.g.trans (qX ex.gh),Bk ex.gh,λa u e n=>by rw[Lv (λm=>by simp_all) (by rw[ex.h a _ e];exact Di)];exact ex.np a u e n⟩
noncomputable def nl0:D->Bool
 |.tuple ds=>ds.all flat
 |d=>flat d
theorem Rep.nl{G' G2 H'}{v}{d}(r:Rep K G' v d)(h:nl0 d=v5)(gh:Same G' H'):Rep K (ZL fp G2 H') v d:=by
 cases r with
 |tup hs rr=>
  refine .tup ?_ (rr.flat h);rcases hs with (hs|⟨o,hs⟩)|hs
  .have:=gh _ _ hs
   exact .inl (.inl ((Lw (.inr (by rw[this];rfl))).trans this))
  .have:=gh _ _ hs
   exact .inl (.inr ⟨o,(Lw (.inr (by rw[this];rfl))).trans this⟩)
  .exact .inr hs
 |non=>exact .non
 |bl b=>exact .bl b
 |int i=>exact .int i
 |str x=>exact .str x
 |lst _ _=>cases h
 |dic _=>cases h
 |exc _ _ _ _=>cases h
 |dct _ _ _ _ _=>cases h
 |dtt _ _ _ _=>cases h
theorem Reps.nl{G' G2 H'}(gh:Same G' H'):∀{vs}{ds},Reps K G' vs ds->ds.all nl0=v5->Reps K (ZL fp G2 H') vs ds
 |_,_,.nil,_=>.nil
 |_,_,.cons r t,h=>by rw[List.all_cons,QI]at h;exact .cons (r.nl h.1 gh) (Reps.nl gh t h.2)
end
noncomputable def WH(f:M wb):M wb:=λZ=>match f (Yh Z)with
 |.ok ds _=>if ds.all nl0=v5 then .ok ds Z else .bad
 |.bad=>.bad
section
variable{Z Z1 Z2 Z':U7}{pt:Pat}
theorem Ah   (h:f (Yh Z)=.ok ds Z')(hf:ds.all nl0=v5):WH f Z=.ok ds Z:=by unfold WH;rw[h];dsimp only;rw[if_pos hf]
end
theorem NewL.back{K}{B G0 G H G' H':Hp}{σ:St}{Z Z1:U7}{ad:UD}{vs:List V}{ds}(k:EOk K B G0 G H σ Z)(k':EOk K H H G' H' σ Z1)(n:NewL K H G' H' σ Z1 ad vs ds)(hf:ds.all nl0=v5) :
  EOk K B G0 (ZL [] G H') H' σ Z/\Same G (ZL [] G H')/\NewL K B (ZL [] G H') H' σ Z ad vs ds:=by
 have ex:Ext G H G H':=⟨k'.bh,.refl _,k.gh.trans k'.bh,λ_ _ _ n=>n⟩;have ex2:Ext G H (ZL [] G H') H':=ex.pubT (λa m=>by cases m);refine⟨k.ext ex2,ex2.g,⟨k.bh.free n.b,?_,n.h,n.r.nl k'.gh hf,λj es q w=>?_,λj pt d v fp q s r=>k.freshD k'.bh n.b q s r⟩⟩
 .rw[Lv (by simp) (by rw[n.h];rfl)]
  exact k.gh.free n.b
 .obtain⟨b,us,g1,g2,g3,g4,g5⟩:=k.own j es q
  rw[g1]at w;cases w;rw[n.b]at g4;cases g4
section
variable{X:Cx}{B G0:Hp}{KX:XW}
theorem El{l:Bool}{y:Str}{j:Nat}{py:Pos}{spos:Pos}{tg elt iter:UF}{ifs:wf}{gs:List Comprehension}{scope:Scope}{pos:Pos}{N2:List Str}{k:Nat}{f:M wb}{s}{t:M Bool}{rd:RdB}(hN:X.N.Nodup)(hj:X.N[j]?=O y)(hy:X.env.scope.names.lookup y=O .local)(hc:X.calm=v5)
  (hi:∀B' G',PI X tg iter (iD X.K B' G' f)) (wq:Yn X N2 scope (.ListComp elt (⟨tg,iter,ifs,0⟩::gs) scope pos) tg ifs s t rd) (hb:SS X.env.scope scope X.N N2 k) (hs:∀x,UY iter X.env x=pure x:=by intro _;rfl)
  (hsw:swapsWith (.ListComp elt (⟨tg,iter,ifs,0⟩::gs) scope pos) (O (.Name y py)) spos.line X.env=pure v5:=by rfl) :
  PS X (.Assign [.Name y py] (.ListComp elt (⟨tg,iter,ifs,0⟩::gs) scope pos) spos) (tS X.K B G0 KX (Zk j (WH (dCG l f k s t rd)))):=by
 intro pins s0 σ H Dn I ⟨G,Z,k0,a⟩;unfold Zk sB WH at a;cases z:dCG l f k s t rd (Yh Z)with
 |bad=>rw[z]at a;exact a.elim
 |ok es Z1=>
 rw[z]at a;dsimp only at a;by_cases hnl:es.all nl0=v5
 case neg=>rw[QB hnl]at a;exact a.elim
 rw[Qq hnl]at a;dsimp only at a;by_cases hl:j<Z.length
 .rw[Qq hl]at a
  obtain⟨ds,ZF,zf,zl,hfl⟩:=Nb z;rw[exec_Assign_Name_used _ _ _ _ hsw];refine Qe (JF (Qe ?_));refine Qe (QL (Ny   hc (hi H H) wq hb hs I k0.lent zf zl hfl λC D vs G' H' s4 m I7 hm hC hL hz hcl hp k' s' n=>?_) (λ_ s' hq=>Qm (Qm hq)) λ_ _ e=>e);refine wpAny_assign_Name (NF I7 hN hj (.inl hy) (v:=.ref D) v3 (λs5 I8 ⟨ad,sb,hx⟩=>?_) (.inr hy))
  have hCa:C≠ad:=by
   rcases hx with e|e
   .rw[e];exact hL
   .exact Ne.symm (hcl y ad e)
  refine⟨m,hm.sameBut sb hCa,λh' sb'=>⟨_,H',I8.turned (t':=s5.toks) (it:=C) (λb o hb e=>(sb'.2 b hb).trans e) hC hL (.inr hz) hcl hp,?_⟩⟩;obtain⟨k2,s2,n2⟩:=NewL.back k0 k' n hnl;exact a _ _ H' (k2.setOwn n2 hl) s2
 .rw[QB hl]at a;exact a.elim
theorem qW  (h:∀Z es Z',F Z=.ok es Z'->F' Z=.ok es Z')(Z)(es)(Z')(e:WH F Z=.ok es Z'):WH F' Z=.ok es Z':=by
 unfold WH at e⊢;cases z:F _ with
 |bad=>rw[z]at e;cases e
 |ok ds Z1=>rw[z]at e;rw[h _ _ _ z];exact e
theorem ES   {j:Nat}{py:Pos}{spos:Pos}{tg elt iter:UF}{ifs}{gs}{scope}{pos:Pos}{f}{s}{t}{rd:RdB}{F}(SC:Scope)(N1 N2)(k:Nat)(le:∀Z es Z',F Z=.ok es Z'->dCG l f k s t rd Z=.ok es Z')(hN:X.N.Nodup)(hj:X.N[j]?=O y)(hy:X.env.scope.names.lookup y=O .local)(hc:X.calm=v5)
  (hi:∀B' G',PI X tg iter (iD X.K B' G' f)) (wq:Yn X N2 scope (.ListComp elt (⟨tg,iter,ifs,0⟩::gs) scope pos) tg ifs s t rd) (h1:X.env.scope=SC) (h2:X.N=N1) (hb:WL V5 SC scope N1 N2 k=v5) (hs:∀x,UY iter X.env x=pure x:=by intro _;rfl)
  (hsw:swapsWith (.ListComp elt (⟨tg,iter,ifs,0⟩::gs) scope pos) (O (.Name y py)) spos.line X.env=pure v5:=by rfl) :
  PS X (.Assign [.Name y py] (.ListComp elt (⟨tg,iter,ifs,0⟩::gs) scope pos) spos) (tS X.K B G0 KX (Zk j (WH F))):=
 ZU (El hN hj hy hc hi wq (by rw[h1,h2];exact Na hb) hs hsw) λ_ _ _ q=>ML (qW le) q
end
noncomputable def PZ(f:M D):M Bool:=Kp f λx=>match x with | .list ds=>U3 (!ds.isEmpty)|_=>λ_=>.bad
noncomputable def WD:Nat:=10 ^ 60
section
variable{X:Cx}{B G0:Hp}{e:UF}
theorem xX{α β:Type}{xs:List α}{ys:List β}(h:xs.length=ys.length):xs.isEmpty=ys.isEmpty:=by cases xs<;>cases ys<;>first|rfl|simp_all
theorem Bj  (h:PE X e (tD X.K B G0 f))(he:∀whole,isTrue e X.env whole=(do let v ←whole;standAt e.pos;holding [v] (truthy v)):=by intro _;rfl):PT X e (tBo X.K B G0 (PZ f)):=
 Y4 (qG h he) λσ H Q q=>tM.one  q λv H2 G Z x k r a=>by
  cases x with
  |list ds=>obtain⟨l,vs,rfl,h1,r1⟩:=r.lst_inv;refine⟨!vs.isEmpty,.inl ⟨vs,k.gh.seq h1,rfl⟩,?_⟩;exact aft.now  a k (by rw[xX r1.length])
  |_=>exact a.elim
theorem qV   {ds:wb}(h1:f Z=.ok (.list ds) Z1):PZ f Z=.ok (!ds.isEmpty) Z1:=by exact Za h1 v3
end
end DL
namespace L2
open PySem PySem.Spec PyProof.Rows PySem.Calls PyProof.V
end L2
namespace DL
open PySem PySem.Spec L2
open PyProof.Rows hiding St
noncomputable def tgN:UF->List Str
 |.Name x _=>[x]
 |.Tuple [.Name x _] _ _=>[x]
 |.Tuple [.Name x _,.Name y _] _ _=>[x,y]
 |.Tuple [.Name x _,.Name y _,.Name z _] _ _=>[x,y,z]
 |.Tuple [.Name x _,.Name y _,.Name z _,.Name u _] _ _=>[x,y,z,u]
 |_=>[]
noncomputable def adN(vs:List Str):List Str->List Str
 |[]=>vs
 |x::r=>adN (if vs.elem x then vs else vs++[x]) r
noncomputable def TU(vs:List Str):List Comprehension->List Str
 |[]=>vs
 |⟨tg,_,_,_⟩::r=>TU (adN vs (tgN tg)) r
noncomputable def dotN(x:Str):Str:=("." : Str)++x
noncomputable def blN(N:List Str)(gs:List Comprehension):List Str:=N.map (λx=>if(TU [] gs).elem x then dotN x else x)++TU [] gs
noncomputable def glN(sc:Scope):List Str:=sc.names.filterMap λy=>match y.2 with | .globalImplicit=>O y.1|_=>v4
abbrev NmF(s:Stmt)(N:List Str):Prop:=FnNm (ZT s) N (glN (ZT s))
theorem mq{α:Type}{l:List α}{x:α}(n:Nat)(h:l[n]?=O x):x∈l:=Qr h
section
variable{sc:Scope}{N gl:List Str}{x:Str}
theorem gA(H:FnNm sc N gl)(h:gl.elem x=v5):sc.names.lookup x=O .globalImplicit:=H.gl x (by simp_all)
end
section
variable{X:Cx}{B G0:Hp}{KX:XW}{e e1 e2 o a b c i:UF}{gl:List Str}{pos p2:Pos}{x:Str}{j:Nat}
theorem ER(H:FnNm X.env.scope X.N gl)(hi:X.N[j]?=O x:=by rfl)(hf:X.fn x=v5∨X.env.scope.names.lookup x=O .local:=by first|exact .inl rfl|exact .inr rfl|assumption):PG X (.Name x pos) (tG X.K B G0 (gN j)):=WP (WR H.nd hi (lq H j hi) hf)
theorem Dh{N'}{scope}{cl}{C}{s₀}{H₀}{ex}(hN:N'.Nodup:=by decide +kernel)(hi:N'[j]?=O x:=by rfl)(hl:locK (scope.names.lookup x)=v5:=by rfl):PG (X.blk N' scope cl C s₀ H₀ ex) (.Name x pos) (tG X.K B G0 (gN j)):=WP (WR hN hi (Rk hl).1 (Rk hl).2)
theorem aSet  (H:FnNm X.env.scope X.N gl)(he:PE X e (tD X.K B G0 f))(hi:X.N[j]?=O x:=by rfl)(hs:swapsWith e (O (.Name x p2)) pos.line X.env=pure wa:=by rfl)
  (hf:X.fn x=v5∨X.env.scope.names.lookup x=O .local:=by first|exact .inl rfl|exact .inr rfl|assumption):PS X (.Assign [.Name x p2] e pos) (tS X.K B G0 KX (Ki j f)):=E3 H.nd hi (lq H j hi) he hs hf
theorem Mn  (H:FnNm X.env.scope X.N gl)(he:PE X e (tL X.K B G0 f))(hi:X.N[j]?=O x:=by rfl)(hs:swapsWith e (O (.Name x p2)) pos.line X.env=pure wa:=by rfl)
  (hf:X.fn x=v5∨X.env.scope.names.lookup x=O .local:=by first|exact .inl rfl|exact .inr rfl|assumption):PS X (.Assign [.Name x p2] e pos) (tS X.K B G0 KX (Zk j f)):=Hd H.nd hi (lq H j hi) he hs hf
theorem aAug    {pos'}(H:FnNm X.env.scope X.N gl)(ho:IpD X op p)(he:PE X e (tD X.K B G0 f))(hi:X.N[j]?=O x:=by rfl)(hf:X.fn x=v5∨X.env.scope.names.lookup x=O .local:=by first|exact .inl rfl|exact .inr rfl|assumption):PS X (.AugAssign (.Name x pos') op e pos) (tS X.K B G0 KX (XQ p j f)):=Dq H.nd hi (lq H j hi) ho he hf
theorem EQ  {tg elt iter}{ifs}{gs}{scope}{f}{s}{t}{rd}{F}{k}{SC}{N1}(H:FnNm SC N1 gl)(le:∀Z es Z',F Z=.ok es Z'->dCG l f k s t rd Z=.ok es Z')(hc:X.calm=v5)
  (hi:PI X tg iter (iD X.K B G0 f)) (wq:Yn X (blN N1 (⟨tg,iter,ifs,0⟩::gs)) scope (.ListComp elt (⟨tg,iter,ifs,0⟩::gs) scope pos) tg ifs s t rd) (hb:WL V5 SC scope N1 (blN N1 (⟨tg,iter,ifs,0⟩::gs)) k=v5) (h1:X.env.scope=SC:=by rfl) (h2:X.N=N1:=by rfl) (hs:∀x,UY iter X.env x=pure x:=by intro _;rfl) :
  PE X (.ListComp elt (⟨tg,iter,ifs,0⟩::gs) scope pos) (tL X.K B G0 F):=EG _ _ _ k le hc hi wq h1 h2 hb hs
theorem EO   {py spos:Pos}{tg elt iter:UF}{ifs}{gs}{scope:Scope}{f}{s}{t}{rd:RdB}{F}{k:Nat}{SC:Scope}{N1}(H:FnNm SC N1 gl)(le:∀Z es Z',F Z=.ok es Z'->dCG l f k s t rd Z=.ok es Z')(hc:X.calm=v5)
  (hi:PI X tg iter (iD X.K B G0 f)) (wq:Yn X (blN N1 (⟨tg,iter,ifs,0⟩::gs)) scope (.ListComp elt (⟨tg,iter,ifs,0⟩::gs) scope pos) tg ifs s t rd) (hb:WL V5 SC scope N1 (blN N1 (⟨tg,iter,ifs,0⟩::gs)) k=v5) (hj:N1[j]?=O y:=by rfl) (hy:SC.names.lookup y=O .local:=by rfl) (h1:X.env.scope=SC:=by rfl) (h2:X.N=N1:=by rfl) (hs:∀x,UY iter X.env x=pure x:=by intro _;rfl)
  (hsw:swapsWith (.ListComp elt (⟨tg,iter,ifs,0⟩::gs) scope pos) (O (.Name y py)) spos.line X.env=pure v5:=by rfl) :
  PS X (.Assign [.Name y py] (.ListComp elt (⟨tg,iter,ifs,0⟩::gs) scope pos) spos) (tS X.K B G0 KX (Zk j F)):=sD_1 _ _ _ k le (h2 ▸ H.nd) (h2 ▸ hj) (h1 ▸ hy) hc hi wq h1 h2 hb hs hsw
theorem Dg        {N2}{tg elt iter}{ifs}{gs}{scope}{f}{s}{t}{rd}{F}{k}(le:∀Z es Z',F Z=.ok es Z'->dCG l f k s t rd Z=.ok es Z')(hc:X.calm=v5)
  (hi:PI (X.blk N2 scope0 cl C s₀ H₀ ex) tg iter (iD X.K B G0 f)) (wq:Yn (X.blk N2 scope0 cl C s₀ H₀ ex) (blN N2 (⟨tg,iter,ifs,0⟩::gs)) scope (.ListComp elt (⟨tg,iter,ifs,0⟩::gs) scope pos) tg ifs s t rd) (hb:WL V5 scope0 scope N2 (blN N2 (⟨tg,iter,ifs,0⟩::gs)) k=v5) (hs:∀x,UY iter (X.blk N2 scope0 cl C s₀ H₀ ex).env x=pure x:=by intro _;rfl) :
  PE (X.blk N2 scope0 cl C s₀ H₀ ex) (.ListComp elt (⟨tg,iter,ifs,0⟩::gs) scope pos) (tL X.K B G0 F):=EX _ k le hc hi wq hb hs
end
end DL
namespace DL
open PySem PySem.Spec L2
open PyProof.Rows hiding St
open Builtin Builtin.Str
end DL
namespace DL
open PySem PySem.Spec L2
open PyProof.Rows hiding St
end DL
namespace DL
open PySem PySem.Spec L2
open PyProof.Rows hiding St
open PySem.SeqRoads2 PySem.SeqAt
end DL
namespace DL
open PySem PySem.Spec L2
open PyProof.Rows hiding St
end DL
namespace L2
open PySem PySem.Spec PyProof.Rows
end L2
namespace DL
open PySem PySem.Spec L2
open PyProof.Rows hiding St
end DL
namespace DL
open PySem PySem.Spec L2
open PyProof.Rows hiding St
open PySem.SeqRoads2 PySem.SeqAt
end DL
namespace DL
open PySem PySem.Spec L2
open PyProof.Rows hiding St
section
variable{X:Cx}{B G0:Hp}{KX:XW}{e e':UF}{es es':wf}{st st':Stmt}{sts yh:List Stmt}{pos p2:Pos}{x:Str}{j:Nat}{gl:List Str}
theorem Ag  (q:st::sts=yh)(h1:PS X st (tS X.K B G0 KX g))(h2:PSs X sts (tS X.K B G0 KX h)):PSs X yh (tS X.K B G0 KX (U4 g h)):=q ▸ Rg h1 h2
theorem Df  (q:Stmt.Assign [.Name x p2] e pos=st')(H:FnNm X.env.scope X.N gl)(he:PE X e (tL X.K B G0 f))(hi:X.N[j]?=O x:=by rfl)(hs:swapsWith e (O (.Name x p2)) pos.line X.env=pure wa:=by rfl)
  (hf:X.fn x=v5∨X.env.scope.names.lookup x=O .local:=by first|exact .inl rfl|exact .inr rfl|assumption):PS X st' (tS X.K B G0 KX (Zk j f)):=q ▸ Mn H he hi hs hf
theorem Af  (q:Expr.List es pos=e')(h:PA X es (tDs X.K B G0 f)):PE X e' (tL X.K B G0 (Kp f λxs=>if xs.length<=1000000 then U3 xs else λ_=>.bad)):=q ▸ Hc h
theorem qU   (q:e::es=es')(ha:PE X e (tD X.K B G0 f))(hr:PA X es (tDs X.K B G0 g))(hs:UI (e::es) X.env=(wa,eval e X.env)::UI es X.env:=by rfl):PA X es' (tDs X.K B G0 (U1 f g)):=q ▸ XE ha hr hs
end
section
variable{X:Cx}{B G0:Hp}{KX:XW}{a b e e':UF}{es es':wf}{st st':Stmt}{sts yh:List Stmt}{pos p2:Pos}{x:Str}{j:Nat}{gl:List Str}
theorem EN  (q:Stmt.Assign [.Name x p2] e pos=st')(H:FnNm X.env.scope X.N gl)(he:PE X e (tD X.K B G0 f))(hi:X.N[j]?=O x:=by rfl)(hs:swapsWith e (O (.Name x p2)) pos.line X.env=pure wa:=by rfl)
  (hf:X.fn x=v5∨X.env.scope.names.lookup x=O .local:=by first|exact .inl rfl|exact .inr rfl|assumption):PS X st' (tS X.K B G0 KX (Ki j f)):=q ▸ aSet H he hi hs hf
theorem Ae  (q:Expr.List es pos=e')(h:PA X es (tDs X.K B G0 f)):PE X e' (tD X.K B G0 (KF f)):=q ▸ Nc h
theorem Ad   (q:Expr.Tuple es x1 pos=e')(h:PA X es (tDs X.K B G0 f)):PE X e' (tD X.K B G0 (Kt f)):=q ▸ PR h
theorem MF    (o:OpD X (binaryOp op) p)(q:Expr.BinOp a op b pos=e')(ha:PE X a (tD X.K B G0 f))(hb:PE X b (tD X.K B G0 g)):PE X e' (tD X.K B G0 (U5 p f g)):=q ▸ V7 o ha hb
end
section
variable{X:Cx}{B G0:Hp}{KX:XW}{e o:UF}{es:wf}{pos apos cpos p2:Pos}
theorem Reps.erase{K}{G}:∀{vs}{ds}(m),Reps K G vs ds->Reps K G (vs.eraseIdx m) (ds.eraseIdx m)
 |_,_,_,.nil=>.nil
 |_,_,0,.cons _ t=>t
 |_,_,m+1,.cons r t=>.cons r (Reps.erase m t)
noncomputable def XV(j:Nat)(f:M D):M D:=λZ=>match Tp Z j with
 |none=>.bad
 |some _=>match f Z with
  |.bad=>.bad
  |.ok d Z1=>match d,Tp Z1 j with
   |.int i,O ds=>if ds.length<=1000000 then(match ixN ds.length i with
    |some m=>(match ds[m]? with
     |some y=>.ok y (Z1.set j (O (.own (ds.eraseIdx m))))
     |none=>.bad)
    |none=>.bad)else .bad
   |_,_=>.bad
theorem Bh  {f:M D}(ho:PE X o (Ye j))(he:PE X e (tD X.K B G0 f))
  (hbase:attributeBase o "pop" X.env (eval o X.env)=eval o X.env:=by rfl)
  (hfew:((backTo cpos (UI [e] X.env)).all (λx=>!x.1)&&(backToKw cpos (keywordEach [] X.env)).all (λx=>x.1.isSome)
   && decide ([e].length+([]:List Keyword).length+(if([]:List Keyword).isEmpty then 0 else 1)<30))=v5:=by rfl)
  (hline:(apos.endLine==cpos.line)=v5:=by rfl) (hs:UI [e] X.env=[(wa,eval e X.env)]:=by rfl) :
  PE X (.Call (.Attribute o "pop" apos) [e] [] cpos) (tD X.K B G0 (XV j f)):=
 KM (Pl PySem.F.plainAttrs_list PySem.F.slot_list_pop PySem.F.type_list_pop qD ho (WQ he V9 (by rw[hs];rfl)) hbase hfew hline (by rw[hs];rfl) v3) λσ H Q ⟨G,Z,k,a⟩=>by
  unfold XV at a;cases q0:Tp Z j with
  |none=>rw[q0]at a;exact a.elim
  |some wR=>
  rw[q0]at a;obtain⟨ad,vs0,h1,h2,h3,h4,h5⟩:=k.own j wR (NO q0);refine⟨.ref ad,h1,.inl ⟨rfl,_,SqL.of h4⟩,G,Z,k,?_⟩;cases z:f Z with
  |bad=>rw[z]at a;exact a.elim
  |ok d Z1=>
  rw[z]at a;dsimp only at a;intro v G1 H1 k1 s1 r1;cases d with
  |int i=>
   cases q1:Tp Z1 j with
   |none=>rw[q1]at a;exact a.elim
   |some ds=>
   rw[q1]at a;dsimp only at a;split at a
   .cases q2:ixN ds.length i with
    |none=>rw[q2]at a;exact a.elim
    |some m=>
    rw[q2]at a;dsimp only at a;cases q3:ds[m]? with
    |none=>rw[q3]at a;exact a.elim
    |some y=>
    rw[q3]at a;obtain⟨ad1,vs,g1,g2,g3,g4,g5⟩:=k1.own j ds (NO q1);rw[h1]at g1;cases g1;obtain⟨w,hw,wW⟩:=g5.get q3;obtain⟨i1,i2,i3,i4⟩:=L8 q2;refine⟨ad,vs,i,m,w,rfl,by rw[r1.int_inv],g4,by lia,by lia,by rw[g5.length];exact i1,hw,?_⟩;exact a w G1 _ (k1.change (NO q1) h1 (Reps.erase m g5)) s1 wW
   .exact a.elim
  |_=>exact a.elim
theorem ME   {Z Z1}{wR ds}{m}{y:D}(h0:Z[j]?=O (O (.own wR)))(h1:f Z=.ok (.int (m:Nat)) Z1)(h2:Z1[j]?=O (O (.own ds)))(hl:ds.length<=1000000)(h3:ds[m]?=O y):XV j f Z=.ok y (Z1.set j (O (.own (ds.eraseIdx m)))):=by have hm:=(Qg.mp h3).1;unfold XV Tp;rw[h0];rw[h1];dsimp only;rw[h2];dsimp only;rw[Qq hl,show ixN ds.length (m)=O m by unfold ixN;rw[Qq (by lia),Qq (by lia),Qz]];dsimp only;rw[h3]
end
end DL
namespace L2
open PySem PySem.Spec PyProof.Rows PySem.Calls PyProof.V
end L2
namespace DL
open PySem PySem.Spec L2
open PyProof.Rows hiding St
end DL
namespace L2
open PySem PySem.Spec PyProof.Rows
end L2
namespace DL
open PySem PySem.Spec L2
open PyProof.Rows hiding St
def TabP(w:World)(nm:Str)(D:List (Str×Int))(h:Heap):Prop:=h.Ns mainGlobals (h.nsMap mainGlobals)/\∃a o es ep,h.nsMap mainGlobals nm=O (.ref a)/\(a==sysModules)=wa/\h.get? a=O o/\o.ExactDict/\o.data=.dict es ep/\es.toList.map Vi=D.map λp=>(hashStr w p.1,O p.1,O p.2)
def Vo(w:World)(K:Frag)(mg:Str->wj)(nm:Str)(D:List (Str×Int)):Prop:=∃a o es ep,mg nm=O (.ref a)/\(a==sysModules)=wa/\K.lookup a=O o/\o.ExactDict/\o.data=.dict es ep/\es.toList.map Vi=D.map λp=>(hashStr w p.1,O p.1,O p.2)
theorem De  {nm}{D}{h}(e:SQ nm h=SW w D):TabP w nm D h:=by
 unfold SQ SW at e;split at e
 case h_2=>cases e
 rename_i a ha;split at e
 case h_2=>cases e
 rename_i t es ep sl ho;obtain⟨e1,e2⟩:=JS (Q7 e);simp only[QI,beq_iff_eq]at e1;obtain⟨⟨⟨rfl,h2⟩,h3⟩,h4⟩:=e1;exact⟨.of_isNs h4,a,_,es,ep,ha,by simpa using h3,ho,⟨rfl,rfl,Array.eq_empty_of_size_eq_zero h2⟩,rfl,e2⟩
theorem TabP.keeps   {D}{h h'}(x:TabP w nm D h)(k:∀b o,h.get? b=O o->h'.get? b=O o):TabP w nm D h':=by obtain⟨n,a,o,es,ep,h1,h2,h3,h4,h5,h6⟩:=x;have e:=(n.keeps k).eq_nsMap;refine⟨e ▸ n.keeps k,a,o,es,ep,?_,h2,k _ _ h3,h4,h5,h6⟩;rw[←e];exact h1
theorem Bg   {D}{h}{mg}(n:h.Ns mainGlobals mg)(x:TabP w nm D h):Vo w (whole h) mg nm D:=by obtain⟨_,a,o,es,ep,h1,h2,h3,h4,h5,h6⟩:=x;exact⟨a,o,es,ep,by rw[n.eq_nsMap];exact h1,h2,by rw[Y2];exact h3,h4,h5,h6⟩
noncomputable def Xl(D:List (Str×Int)):List (Key×V):=D.map λp=>(.inr p.1,.int p.2)
theorem Ga  {w:World}:∀{es}{D},es.map Vi=D.map (λp=>(hashStr w p.1,O p.1,O p.2))->∃vs,Pairs (Wk P w) es vs/\KV (Xl D) vs/\∀e∈es,∃k,(Wk P w).is k e.key=v5/\e.hash=(Wk P w).hash k
 |[],[],_=>⟨[],.nil,.nil,λ_ m=>nomatch m⟩
 |[],_::_,h=>by cases h
 |_::_,[],h=>by cases h
 |e::es,p::D,h=>by
  obtain⟨h1,h2⟩:=Ux h;obtain⟨vs,g1,g2,g3⟩:=Ga (P:=P) h2;obtain⟨hh,key,val⟩:=e;obtain⟨x,i⟩:=p;obtain⟨h3,h4⟩:=JS h1;obtain⟨h5,h6⟩:=JS h4;dsimp only at h3 h5 h6
  have hk:∃t,key=.str x t:=by
   cases key with
   |str y t=>cases h5;exact⟨t,rfl⟩
   |_=>cases h5
  have hv:∃u,val=.int i u:=by
   cases val with
   |int y t=>cases h6;exact⟨t,rfl⟩
   |_=>cases h6
  obtain⟨t,rfl⟩:=hk;obtain⟨u,rfl⟩:=hv;refine⟨(.inr x,.int i u)::vs,.cons (NX P w x t) v3 g1,.cons ⟨rfl,u,rfl⟩ g2,λe m=>?_⟩;rcases QQ.mp m with rfl|m
  .exact⟨.inr x,NX P w x t,h3⟩
  .exact g3 e m
theorem Bf{D}{z}:(Xk (Xl D) (.inr z)).getD .non=match D.lookup z with|some i=>.int i|none=>.non:=by
 induction D with
 |nil=>rfl
 |cons p D ih=>
  obtain⟨x,i⟩:=p;by_cases e:x=z
  .subst e
   have:(Xl ((x,i)::D))=(.inr x,.int i)::Xl D:=rfl;rw[this,HP v3,QX,beq_self_eq_true];rfl
  .have:(Xl ((x,i)::D))=(.inr x,.int i)::Xl D:=rfl
   have b:(z==x)=wa:=by simpa using λq=>e q.symm
   rw[this,HN (λq=>e (Sum.inr.inj q)),ih,QX,b]
noncomputable def Pa(T:List (Str×Int))(g:M wb):M D:=Kp g λks=>Kq (match ks with | [.str z]=>O (match T.lookup z with|some i=>.int i|none=>.none)|_=>v4)
section
variable{X:Cx}{B G0:Hp}{e:UF}{es:wf}{apos cpos p2:Pos}
theorem Be{L:List (Str×Int)}{t:TA}{x:Str}(T:Vo X.w X.K X.mg x L)(hND:(L.map (·.1)).Nodup)(hg:Gl X x)(ha:PA X (e::es) t)(hdb:(x==("__debug__" : Str))=wa)
  (hbase:attributeBase (.Name x p2) "get" X.env (eval (.Name x p2) X.env)=eval (.Name x p2) X.env)
  (hfew:((backTo cpos (UI (e::es) X.env)).all (λx=>!x.1)&&(backToKw cpos (keywordEach [] X.env)).all (λx=>x.1.isSome)
   && decide ((e::es).length+([]:List Keyword).length+(if([]:List Keyword).isEmpty then 0 else 1)<30))=v5)
  (hline:(apos.endLine==cpos.line)=v5) (hs:UI (e::es) X.env=(wa,eval e X.env)::UI es X.env) (hplain:(backTo cpos (UI es X.env)).any (·.1)=wa) :
  PE X (.Call (.Attribute (.Name x p2) "get" apos) (e::es) [] cpos) (λσ H Q=>t σ H λxs H2=>∃z,xs=[.str z]/\Q (match L.lookup z with|some i=>.int i|none=>.non) H2):=by
 intro pins s σ H Q I q;obtain⟨a,o,es',ep,hm,hsm,hk,hx,hd,hes⟩:=T;have at':∀{H1:Hp}{s1:UB}{p1:List (UD×Obj)}{σ1:St},Inv X p1 σ1 H1 s1->s1.heap.get? a=O o:=λI1=>I1.kIn a o hk;refine wpAny_Call_method_late hbase hfew hline v3 (PU I hg hm ?_ hdb)
 refine⟨"dict", "dict.get", F.plainAttrs_dict,F.slot_dict_get,F.type_dict_get,⟨o,at' I,hx.1⟩,λb e=>by cases e;exact⟨o,at' I,hx.2.1⟩,?_⟩;have hA:=ha cpos pins s σ H _ I q;rw[hs]at hA⊢;refine Calls.callWith_builtin (by show(wa || (backTo cpos (UI es X.env)).any (·.1))=wa;rw[hplain]<;>rfl) (Calls.evalArgs_plain ?_);refine thn hA λus s2 ⟨vs,H2,I2,r2,z,e2,q2⟩=>?_;subst e2
 obtain⟨u,rfl,ru⟩:=r2.one;obtain⟨ws,g1,g2,g3⟩:=Ga (P:=X.prog) hes;have dd:s2.heap.DictOf (Wk X.prog X.w) a ws:=⟨o,es',ep,at' I2,hx,hd,λe m=>g3 e (by simpa using m),g1,by have   :=g2.keys.symm;rw[this];unfold Xl;rw[QT];have:=List.Pairwise.map (S:=λa b:Key=>a≠b) _ (λ_ _ h e=>h (Sum.inr.inj e)) hND;rw[QT]at this;exact this⟩
 refine call_meetsIn PySem.F.slot_dict_get dd.typeIs PySem.F.entry_dict_get (PySem.F.args_dict_get_2 _ _) (meets_dict_get (Wk X.prog X.w) a (FZ (k:=.inr z) ru) hsm) ⟨_,dd.mapOf,?_⟩;exact⟨_,H2,I2.tok _,Bf ▸ (g2.val (.inr z)).getD (d:=.non) v3,q2⟩
theorem AX   {x}(T:Vo X.w X.K X.mg x L)(hND:(L.map (·.1)).Nodup)(hg:Gl X x)(ha:PA X (e::es) (tDs X.K B G0 g))(hdb:(x==("__debug__" : Str))=wa:=by decide)
  (hbase:attributeBase (.Name x p2) "get" X.env (eval (.Name x p2) X.env)=eval (.Name x p2) X.env:=by rfl)
  (hfew:((backTo cpos (UI (e::es) X.env)).all (λx=>!x.1)&&(backToKw cpos (keywordEach [] X.env)).all (λx=>x.1.isSome)
   && decide ((e::es).length+([]:List Keyword).length+(if([]:List Keyword).isEmpty then 0 else 1)<30))=v5:=by rfl)
  (hline:(apos.endLine==cpos.line)=v5:=by rfl) (hs:UI (e::es) X.env=(wa,eval e X.env)::UI es X.env:=by rfl) (hplain:(backTo cpos (UI es X.env)).any (·.1)=wa:=by rfl) :
  PE X (.Call (.Attribute (.Name x p2) "get" apos) (e::es) [] cpos) (tD X.K B G0 (Pa L g)):=
 KM (Be T hND hg ha hdb hbase hfew hline hs hplain) λσ H Q q=>by
  refine tM.one  q λv H2 G Z y k r a=>?_
  obtain⟨d,e,a'⟩:=a.opt;split at e
  .rename_i z
   cases e;obtain⟨u,rfl,ru⟩:=r.one_inv;have:=ru.str_inv;subst this;refine⟨z,rfl,a'.now k ?_⟩;cases L.lookup z with
   |none=>exact .non
   |some i=>exact .int i
  simp_all
end
theorem Bd  {g}{Z Z1}{z}{r}(h:g Z=.ok [.str z] Z1)(h3:(match L.lookup z with|some i=>int i|none=>.none)=r):Pa L g Z=.ok r Z1:=by exact Za h (Yq (Us O h3))
end DL
namespace L2
open PySem PySem.Spec PyProof.Rows
end L2
namespace DL
open PySem PySem.Spec L2
open PyProof.Rows hiding St
end DL
namespace DL
open PySem PySem.Spec L2
open PyProof.Rows hiding St
open Builtin Builtin.Str
end DL
namespace DL
open PySem PySem.Spec L2
open PyProof.Rows hiding St
end DL
namespace W
open PySem PySem.Spec L2 DL
open PyProof.Rows hiding St
noncomputable def top(i:Nat):Stmt:=PySem.Challenge.pw_wishdeal_k75_whole_fewest_moved.main.body.getD i (.Pass ⟨0,0,0,0⟩)
abbrev GG(s:Stmt)(x:Str):Prop:=(ZT s).names.lookup x=O NameKind.globalImplicit
abbrev VV(s:Stmt)(x:Str):Prop:=L2.Vis (ZT s) x
abbrev LL(s:Stmt)(x:Str):Prop:=L2.Loc (ZT s) x
theorem vk{s:Stmt}{x:Str}(h:(ZT s).names.lookup x=O .local∨(ZT s).names.lookup x=O .cell∨(ZT s).names.lookup x=O .free):VV s x:=h
theorem lk{s:Stmt}{x:Str}(h:(ZT s).names.lookup x=O .local∨(ZT s).names.lookup x=O .cell):LL s x:=h
structure Txt(K:Frag)(mg:Str->wj):Prop where
 b_ValueError:mg "ValueError" = v4
 b_all:mg "all" = v4
 b_bool:mg "bool" = v4
 b_enumerate:mg "enumerate" = v4
 b_int:mg "int" = v4
 b_isinstance:mg "isinstance" = v4
 b_len:mg "len" = v4
 b_list:mg "list" = v4
 b_max:mg "max" = v4
 b_min:mg "min" = v4
 b_range:mg "range" = v4
 b_set:mg "set" = v4
 b_sorted:mg "sorted" = v4
 b_str:mg "str" = v4
 b_sum:mg "sum" = v4
 b_tuple:mg "tuple" = v4
 c_MOST_ASKERS:∃t,mg "MOST_ASKERS" = O (Value.int 7 t)
 c_MOST_COPIES:∃t,mg "MOST_COPIES" = O (Value.int 7 t)
 c_MOST_RANKS:∃t,mg "MOST_RANKS" = O (Value.int 5 t)
 c_MOST_THINGS:∃t,mg "MOST_THINGS" = O (Value.int 6 t)
 c_ORDERS:∃ad o its n,mg "ORDERS" = O (.ref ad)/\K.lookup ad=O o/\o.cls=.type "tuple" /\ o.data=.seq its n/\its.size<=UG/\Vals ((["firsts", "full", "lasts"]:List Str).map V.str) its.toList
 x_NoWishes:CK K mg "NoWishes"
noncomputable abbrev O7:List (Str×Int):=[("list", 3),("copies", 3),("come", 2),("go", 2),("thing", 2)]
noncomputable abbrev Sce:Stmt:=top 79
noncomputable abbrev N_ce:List Str:=["_law_old", "_law_found", "_law_had"]
theorem Hce:NmF Sce N_ce:=K0 (by decide +kernel)
noncomputable def TX:SM:=
 U4 (Zk 2 (ZC (Xv (U1 (K7 0) (U0))) 1 (gN 3) (Ke (λd=>!isNon d) (U9 0 (UZ 3))) (UZ 3)))
 (Kc (Ke UM (ZC (K8 (UZ 2)) 1 (gN 3) (U5 oNe (U9 1 (UZ 3)) (U9 0 (UZ 3))) (UZ 3))))
noncomputable def Xs:wb->wd:=Kl N_ce TX
noncomputable abbrev Sbv:Stmt:=top 70
noncomputable abbrev N_bv:List Str:=["_law_wishes_here", "_law_asker"]
theorem Hbv:NmF Sbv N_bv:=K0 (by decide +kernel)
noncomputable def g_bv:SM:=
 Kc (Zt To (U1 (Zt Wf (U1 (U5 oIx (U9 0 (U3 (.int 1))) (UZ 1)) (U1 (KF (U0)) (U0)))) (U0)))
noncomputable def XZ:wb->wd:=Kl N_bv g_bv
noncomputable abbrev Sbt:Stmt:=top 68
noncomputable abbrev N_bt:List Str:=["_law_wishes_here", "_law_asker", "_law_thing", "_law_k", "_law_row"]
theorem Hbt:NmF Sbt N_bt:=K0 (by decide +kernel)
noncomputable def Bc:SM:=
 sIf (K6 oIn 2 (UZ 4))
 (Kc (U5 Kg (UZ 3) (U3 (.int 1))))
 (sNx)
noncomputable def g_bt:SM:=
 U4 (KQ (XI (U1 (U5 oIx (U9 0 (U3 (.int 1))) (UZ 1)) (U0))) (gT 2 (gNC (gN 3) (gNC (gN 4) (gN0)))) Bc)
 (Kc (U3 (.int 0)))
noncomputable def Vx:wb->wd:=Kl N_bt g_bt
noncomputable abbrev Sbu:Stmt:=top 69
noncomputable abbrev N_bu:List Str:=["_law_wishes_here"]
theorem Hbu:NmF Sbu N_bu:=K0 (by decide +kernel)
noncomputable def g_bu:SM:=
 Kc (Zt WV (U1 (Ke UM (ZC (K8 (U9 0 (U3 (.int 1)))) 1 (gN 1) (U3 v5) (K7 1))) (U0)))
noncomputable def Vw:wb->wd:=Kl N_bu g_bu
noncomputable abbrev Sbx:Stmt:=top 72
noncomputable abbrev N_bx:List Str:=["_law_wishes_here", "_law_aim", "_law_asker", "_law_thing", "_law_order", "_law_old", "_law_turns", "_law_base", "_law_ranks_here", "_law_rank_here", "_law_powers", "_law_k", "_law_worth_here", "_law_pick", "_law_one"]
theorem Hbx:NmF Sbx N_bx:=K0 (by decide +kernel)
noncomputable def PY:SM:=
 U4 (Ki 12 (U5 KR (UZ 12) (U5 Kg (UZ 8) (U3 (.int 1)))))
 (U4 (Ki 13 (U5 KR (UZ 13) (U5 Kg (UZ 8) (U3 (.int 1)))))
 (sIf (K6 oEq 14 (UZ 2))
 (Ki 13 (U5 Zv (U5 Kg (U5 Kg (UZ 13) (UZ 8)) (U3 (.int 1))) (UZ 9)))
 (sNx)))
noncomputable def Lu:SM:=
 Zy 10 (U5 KR (U9 10 (Yg (U3 (.int 1)))) (UZ 7))
noncomputable def T6:SM:=
 U4 (Zs (UZ 1) (gT 3 (gNC (gN 4) (gNC (gN 5) (gNC (gN 6) (gN0))))))
 (U4 (Ki 7 (U5 Kg (Zt Kr (U1 (U9 0 (U3 (.int 1))) (U0))) (U3 (.int 1))))
 (U4 (Ki 8 (Kd 1 Vw (U1 (UZ 0) (U0))))
 (U4 (Ki 9 (Kd 3 Vx (U1 (UZ 0) (U1 (UZ 2) (U1 (UZ 3) (U0))))))
 (U4 (Zk 10 (Kp (U1 (U3 (.int 1)) (U0)) λxs=>if xs.length<=1000000 then U3 xs else λ_=>.bad))
 (U4 (KQ (Xv (U1 (UZ 8) (U0))) (gN 11) Lu)
 (U4 (Ki 12 (U9 10 (U5 Zv (UZ 8) (UZ 9))))
 (U4 (sIf (K6 oEq 4 (U3 (.str "full")))
 (Ki 12 (U5 Kg (UZ 12) (U9 10 (UZ 8))))
 (sNx))
 (U4 (sIf (K6 oEq 4 (U3 (.str "lasts")))
 (Ki 12 (U5 Zv (U9 10 (UZ 8)) (U9 10 (U5 Zv (UZ 9) (U3 (.int 1))))))
 (sNx))
 (U4 (Ki 12 (U5 KR (UZ 12) (UZ 7)))
 (U4 (sIf (ZN (Ke (λd=>!isNon d) (UZ 5)) (U5 oEq (U9 5 (UZ 2)) (UZ 3)))
 (Ki 12 (U5 Kg (UZ 12) (U3 (.int 1))))
 (sNx))
 (U4 (Ki 13 (U3 (.int 0)))
 (U4 (KQ (K8 (UZ 6)) (gN 14) PY)
 (Kc (U5 Kg (UZ 12) (UZ 13)))))))))))))))
noncomputable def Vu:wb->wd:=Kl N_bx T6
noncomputable abbrev Sby:Stmt:=top 73
noncomputable abbrev N_by:List Str:=["_law_wishes_here", "_law_aim", "_law_found", "_law_asker", "_law_some", "_law_thing", "_law_longer", "_law_dealing", "_law_worth_here", "_law_more", "_law_most"]
theorem Hby:NmF Sby N_by:=K0 (by decide +kernel)
noncomputable def Lr:SM:=
 sIf (mOr (Ke isNon (UZ 5)) (U5 (oIB λi j=>decide (i<j)) (Ts (UZ 7) (U1 (UZ 5) (U0))) (U5 oIx (U9 0 (U3 (.int 0))) (UZ 5))))
 (Zy 6 (Kt (U1 (U5 Kg (UZ 7) (KF (U1 (UZ 5) (U0)))) (U1 (U5 Kg (UZ 8) (UZ 9)) (U0)))))
 (sNx)
noncomputable def Lq:SM:=
 KQ (K8 (UZ 4)) (gT 2 (gNC (gN 5) (gNC (gN 9) (gN0)))) Lr
noncomputable def Lp:SM:=
 Zy 4 (Kt (U1 (UZ 5) (U1 (Kd 4 Vu (U1 (UZ 0) (U1 (UZ 1) (U1 (UZ 3) (U1 (UZ 5) (U0)))))) (U0))))
noncomputable def Lo:SM:=
 U4 (Zk 4 (Kp (U1 (Kt (U1 (U3 .none) (U1 (U3 (.int 0)) (U0)))) (U0)) λxs=>if xs.length<=1000000 then U3 xs else λ_=>.bad))
 (U4 (KQ (K8 (Kd 2 XZ (U1 (UZ 0) (U1 (UZ 3) (U0))))) (gN 5) Lp)
 (U4 (Zk 6 (Kp (U0) λxs=>if xs.length<=1000000 then U3 xs else λ_=>.bad))
 (U4 (KQ (K8 (UZ 2)) (gT 2 (gNC (gN 7) (gNC (gN 8) (gN0)))) Lq)
 (Ki 2 (UZ 6)))))
noncomputable def T5:SM:=
 U4 (Zk 2 (Kp (U1 (Kt (U1 (KF (U0)) (U1 (U3 (.int 0)) (U0)))) (U0)) λxs=>if xs.length<=1000000 then U3 xs else λ_=>.bad))
 (U4 (KQ (Xv (U1 (Zt Kr (U1 (U9 0 (U3 (.int 1))) (U0))) (U0))) (gN 3) Lo)
 (U4 (Ki 10 (Zt WV (U1 (Ke UM (ZC (K8 (UZ 2)) 2 (gT 2 (gNC (gN 11) (gNC (gN 12) (gN0)))) (U3 v5) (UZ 12))) (U0))))
 (Kc (Ke UM (ZC (K8 (UZ 2)) 2 (gT 2 (gNC (gN 11) (gNC (gN 12) (gN0)))) (K6 oEq 12 (UZ 10)) (UZ 11))))))
noncomputable def Wu:wb->wd:=Kl N_by T5
noncomputable abbrev Scd:Stmt:=top 78
noncomputable abbrev N_cd:List Str:=["_law_change_here", "_law_dealing", "_law_found"]
theorem Hcd:NmF Scd N_cd:=K0 (by decide +kernel)
noncomputable def TY:SM:=
 U4 (Zk 2 (WK 1))
 (U4 (sIf (U5 oEq (U9 0 (U3 (.int 0))) (U3 (.str "come")))
 (Zy 2 (U3 .none))
 (sNx))
 (U4 (sIf (U5 oEq (U9 0 (U3 (.int 0))) (U3 (.str "go")))
 (YR (XV 2 (U9 0 (U3 (.int 1)))))
 (sNx))
 (Kc (UZ 2))))
noncomputable def Ws:wb->wd:=Kl N_cd TY
noncomputable abbrev Scc:Stmt:=top 77
noncomputable abbrev N_cc:List Str:=["_law_wishes_here", "_law_change_here", "_law_copies", "_law_lists", "_law_word"]
theorem Hcc:NmF Scc N_cc:=K0 (by decide +kernel)
noncomputable def TZ:SM:=
 U4 (Zk 2 (Kp (U1 (U9 0 (U3 (.int 0))) (U0)) λxs=>Kq (X6 xs)))
 (U4 (Zk 3 (Kp (U1 (U9 0 (U3 (.int 1))) (U0)) λxs=>Kq (X6 xs)))
 (U4 (Ki 4 (U9 1 (U3 (.int 0))))
 (U4 (sIf (K6 oEq 4 (U3 (.str "list")))
 (WF 3 (U9 1 (U3 (.int 1))) (U9 1 (U3 (.int 2))))
 (sNx))
 (U4 (sIf (K6 oEq 4 (U3 (.str "copies")))
 (WF 2 (U9 1 (U3 (.int 1))) (U9 1 (U3 (.int 2))))
 (sNx))
 (U4 (sIf (K6 oEq 4 (U3 (.str "come")))
 (Zy 3 (U9 1 (U3 (.int 1))))
 (sNx))
 (U4 (sIf (K6 oEq 4 (U3 (.str "go")))
 (YR (XV 3 (U9 1 (U3 (.int 1)))))
 (sNx))
 (U4 (sIf (K6 oEq 4 (U3 (.str "thing")))
 (Zy 2 (U9 1 (U3 (.int 1))))
 (sNx))
 (Kc (Kt (U1 (UZ 2) (U1 (UZ 3) (U0))))))))))))
noncomputable def Wt:wb->wd:=Kl N_cc TZ
noncomputable abbrev Sbi:Stmt:=top 52
noncomputable abbrev N_bi:List Str:=["askers", "worths", "prices", "asks", "asker", "thing", "worth"]
theorem Hbi:NmF Sbi N_bi:=K0 (by decide +kernel)
noncomputable def Ln:SM:=
 WF 3 (UZ 4) (Zt SU (U1 (U9 3 (UZ 4)) (U1 (U5 Zv (UZ 6) (U9 2 (UZ 5))) (U0))))
noncomputable def Se:SM:=
 U4 (Zk 3 (SX (KF (U1 (U3 (.int 0)) (U0))) (UZ 0)))
 (U4 (KQ (K8 (UZ 1)) (gT 3 (gNC (gN 4) (gNC (gN 5) (gNC (gN 6) (gN0))))) Ln)
 (Kc (UZ 3)))
noncomputable def VE:wb->wd:=Kl N_bi Se
noncomputable abbrev Sax:Stmt:=top 41
noncomputable abbrev N_ax:List Str:=["nothing", "got"]
theorem Hax:NmF Sax N_ax:=K0 (by decide +kernel)
noncomputable def g_ax:SM:=
 Kc (mIf (Ke isNon (UZ 1)) (UZ 0) (UZ 1))
noncomputable def Wz:wb->wd:=Kl N_ax g_ax
noncomputable abbrev Say:Stmt:=top 42
noncomputable abbrev SK:List Str:=["nothing", "worths", "dealing", "had", "asker", "thing", "worth", "told"]
theorem Hay:FnNm (ZT Say) SK ["place_of", "enumerate", "len"]:=K0 (by decide +kernel)
noncomputable def Lm:SM:=
 sIf (U5 oNe (U9 2 (UZ 4)) (UZ 5))
 (Zy 7 (Kt (U1 (Kd 2 Wz (U1 (UZ 0) (U1 (U9 2 (UZ 4)) (U0)))) (U1 (UZ 5) (U1 (U5 Zv (UZ 6) (U9 3 (UZ 4))) (U1 (UZ 4) (U0)))))))
 (sNx)
noncomputable def Ll:SM:=
 sIf (U5 oEq (U9 2 (UZ 4)) (UZ 5))
 (WF 3 (UZ 4) (UZ 6))
 (sNx)
noncomputable def Sq:SM:=
 U4 (Zk 3 (SX (KF (U1 (U3 (.int 0)) (U0))) (K7 2)))
 (U4 (KQ (K8 (UZ 1)) (gT 3 (gNC (gN 4) (gNC (gN 5) (gNC (gN 6) (gN0))))) Ll)
 (U4 (Zk 7 (WH (ZC (XI (U1 (UZ 2) (U0))) 2 (gT 2 (gNC (gN 8) (gNC (gN 9) (gN0)))) (Ke (λd=>!isNon d) (UZ 9)) (Kt (U1 (UZ 9) (U1 (UZ 0) (U1 (Yg (U9 3 (UZ 8))) (U1 (UZ 8) (U0)))))))))
 (U4 (KQ (K8 (UZ 1)) (gT 3 (gNC (gN 4) (gNC (gN 5) (gNC (gN 6) (gN0))))) Lm)
 (Kc (UZ 7)))))
noncomputable def VL:wb->wd:=Kl SK Sq
noncomputable abbrev Saa:Stmt:=top 1
noncomputable abbrev N_aa:List Str:=["thing"]
theorem Haa:NmF Saa N_aa:=K0 (by decide +kernel)
noncomputable def g_aa:SM:=
 Kc (V6 (Ke (λd=>.bool (Zb d "int")) (UZ 0)) (Ov (Ke (λd=>.bool (Zb d "bool")) (UZ 0))))
noncomputable def WC:wb->wd:=Kl N_aa g_aa
noncomputable abbrev Sab:Stmt:=top 2
noncomputable abbrev N_ab:List Str:=["thing", "many"]
theorem Hab:NmF Sab N_ab:=K0 (by decide +kernel)
noncomputable def g_ab:SM:=
 Kc (V6 (Kd 1 WC (U1 (UZ 0) (U0))) (Ke UN (Rc (oIB λi j=>decide (i<=j)) (oIB λi j=>decide (i<j)) (U3 (.int 0)) (UZ 0) (UZ 1))))
noncomputable def ZB:wb->wd:=Kl N_ab g_ab
noncomputable abbrev Sad:Stmt:=top 14
noncomputable abbrev N_ad:List Str:=["thing", "things"]
theorem Had:NmF Sad N_ad:=K0 (by decide +kernel)
noncomputable def g_ad:SM:=
 U4 (sIf (mOr (K9 (Yr (Ke (λd=>.bool (Zb d "list")) (UZ 0)))) (U5 oEq (K7 0) (U3 (.int 0))))
 (Kc (U3 (.bool wa)))
 (sNx))
 (Kc (Zt Yv (U1 (Ke UM (ZC (K8 (UZ 0)) 1 (gN 2) (U3 v5) (Kd 2 ZB (U1 (UZ 2) (U1 (UZ 1) (U0)))))) (U0))))
noncomputable def WB:wb->wd:=Kl N_ad g_ad
noncomputable abbrev Sae:Stmt:=top 15
noncomputable abbrev N_ae:List Str:=["thing", "things", "wished"]
theorem Hae:NmF Sae N_ae:=K0 (by decide +kernel)
noncomputable def SE:SM:=
 U4 (sIf (mOr (K9 (Yr (Ke (λd=>.bool (Zb d "list")) (UZ 0)))) (U5 (oIB λi j=>decide (j<i)) (K7 0) (U3 (.int 5))))
 (Kc (U3 (.bool wa)))
 (sNx))
 (U4 (sIf (K9 (Yr (Zt Yv (U1 (Ke UM (ZC (K8 (UZ 0)) 1 (gN 3) (U3 v5) (Kd 2 WB (U1 (UZ 3) (U1 (UZ 1) (U0)))))) (U0)))))
 (Kc (U3 (.bool wa)))
 (sNx))
 (U4 (Zk 2 (RK (K8 (UZ 0)) 2 (gN 3) (U3 v5) (K8 (UZ 3)) (gN 4) (U3 v5) (UZ 4)))
 (Kc (Ke UN (U5 oEq (Zt W9 (U1 (UZ 2) (U0))) (K7 2))))))
noncomputable def V1:wb->wd:=Kl N_ae SE
noncomputable abbrev Saf:Stmt:=top 16
noncomputable abbrev N_af:List Str:=["lists", "things", "asker", "ranks"]
theorem Haf:NmF Saf N_af:=K0 (by decide +kernel)
noncomputable def Bb:SM:=
 sIf (K9 (Yr (Kd 2 V1 (U1 (UZ 3) (U1 (UZ 1) (U0))))))
 (Wa)
 (sNx)
noncomputable def SD:SM:=
 U4 (sIf (mOr (K9 (Yr (Ke (λd=>.bool (Zb d "list")) (UZ 0)))) (K9 (Rc (oIB λi j=>decide (i<=j)) (oIB λi j=>decide (i<=j)) (U3 (.int 1)) (K7 0) (U3 (.int 7)))))
 (Wa)
 (sNx))
 (KQ (XI (U1 (UZ 0) (U0))) (gT 2 (gNC (gN 2) (gNC (gN 3) (gN0)))) Bb)
noncomputable def V0:wb->wd:=Kl N_af SD
noncomputable abbrev Sac:Stmt:=top 13
noncomputable abbrev N_ac:List Str:=["copies", "number", "many"]
theorem Hac:NmF Sac N_ac:=K0 (by decide +kernel)
noncomputable def Lk:SM:=
 sIf (K9 (Yr (Kd 2 ZB (U1 (UZ 2) (U1 (U5 Kg (U3 (.int 7)) (U3 (.int 1))) (U0))))))
 (Wa)
 (sNx)
noncomputable def SF:SM:=
 U4 (sIf (mOr (K9 (Yr (Ke (λd=>.bool (Zb d "list")) (UZ 0)))) (K9 (Rc (oIB λi j=>decide (i<=j)) (oIB λi j=>decide (i<=j)) (U3 (.int 1)) (K7 0) (U3 (.int 6)))))
 (Wa)
 (sNx))
 (KQ (XI (U1 (UZ 0) (U0))) (gT 2 (gNC (gN 1) (gNC (gN 2) (gN0)))) Lk)
noncomputable def V2:wb->wd:=Kl N_ac SF
noncomputable abbrev Sag:Stmt:=top 17
noncomputable abbrev N_ag:List Str:=["thing", "copies", "lists"]
theorem Hag:NmF Sag N_ag:=K0 (by decide +kernel)
noncomputable def g_ag:SM:=
 U4 (sIf (mOr (K9 (Yr (Ke (λd=>.bool (Zb d "tuple")) (UZ 0)))) (U5 oNe (K7 0) (U3 (.int 2))))
 (Wa)
 (sNx))
 (U4 (Zs (UZ 0) (gT 2 (gNC (gN 1) (gNC (gN 2) (gN0)))))
 (U4 (YR (Kd 1 V2 (U1 (UZ 1) (U0))))
 (YR (Kd 2 V0 (U1 (UZ 2) (U1 (K7 1) (U0)))))))
noncomputable def ZQ:wb->wd:=Kl N_ag g_ag
noncomputable abbrev Sal:Stmt:=top 23
noncomputable abbrev N_al:List Str:=["wishes", "dealing"]
theorem Hal:NmF Sal N_al:=K0 (by decide +kernel)
noncomputable def g_al:SM:=
 U4 (YR (Kd 1 ZQ (U1 (UZ 0) (U0))))
 (Kc (Ke UM (ZC (XI (U1 (U9 0 (U3 (.int 0))) (U0))) 2 (gT 2 (gNC (gN 2) (gNC (gN 3) (gN0)))) (U3 v5) (U5 Zv (UZ 3) (Ts (UZ 1) (U1 (UZ 2) (U0)))))))
noncomputable def VU:wb->wd:=Kl N_al g_al
noncomputable abbrev Saz:Stmt:=top 43
noncomputable abbrev N_az:List Str:=["wishes", "dealing", "nothing", "left", "to_nothing"]
theorem Haz:NmF Saz N_az:=K0 (by decide +kernel)
noncomputable def So:SM:=
 U4 (Ki 2 (Zt Kr (U1 (U9 0 (U3 (.int 0))) (U0))))
 (U4 (Ki 3 (Kd 2 VU (U1 (UZ 0) (U1 (UZ 1) (U0)))))
 (U4 (Zk 4 (ZC (XI (U1 (UZ 3) (U0))) 2 (gT 2 (gNC (gN 5) (gNC (gN 6) (gN0)))) (K6 (oIB λi j=>decide (j<i)) 6 (U3 (.int 0))) (Kt (U1 (UZ 5) (U1 (UZ 2) (U1 (U3 (.int 0)) (U1 (U3 .none) (U0))))))))
 (Kc (U5 Kg (UZ 4) (Ke UM (ZC (Xv (U1 (UZ 2) (U0))) 1 (gN 5) (U3 v5) (Kt (U1 (UZ 2) (U1 (UZ 5) (U1 (U3 (.int 0)) (U1 (U3 .none) (U0))))))))))))
noncomputable def VJ:wb->wd:=Kl N_az So
noncomputable abbrev Sba:Stmt:=top 44
noncomputable abbrev N_ba:List Str:=["wishes", "worths", "dealing"]
theorem Hba:NmF Sba N_ba:=K0 (by decide +kernel)
noncomputable def g_ba:SM:=
 Kc (U5 Kg (Kd 3 VL (U1 (Zt Kr (U1 (U9 0 (U3 (.int 0))) (U0))) (U1 (UZ 1) (U1 (UZ 2) (U0))))) (Kd 2 VJ (U1 (UZ 0) (U1 (UZ 2) (U0)))))
noncomputable def Xu:wb->wd:=Kl N_ba g_ba
noncomputable abbrev Sbb:Stmt:=top 45
noncomputable abbrev N_bb:List Str:=["walks", "steps", "told", "step", "ahead", "behind", "gain", "asker", "gained", "walked"]
theorem Hbb:NmF Sbb N_bb:=K0 (by decide +kernel)
noncomputable def Lj:SM:=
 U4 (Zs (UZ 3) (gT 4 (gNC (gN 4) (gNC (gN 5) (gNC (gN 6) (gNC (gN 7) (gN0)))))))
 (U4 (Zs (U9 0 (UZ 4)) (gT 2 (gNC (gN 8) (gNC (gN 9) (gN0)))))
 (sIf (U5 (oIB λi j=>decide (j<i)) (U5 Kg (UZ 8) (UZ 6)) (U5 oIx (U9 2 (UZ 5)) (U3 (.int 0))))
 (WF 2 (UZ 5) (Kt (U1 (U5 Kg (UZ 8) (UZ 6)) (U1 (U5 Kg (UZ 9) (KF (U1 (UZ 3) (U0)))) (U0)))))
 (sNx)))
noncomputable def Sn:SM:=
 U4 (Zk 2 (WK 0))
 (U4 (KQ (K8 (UZ 1)) (gN 3) Lj)
 (Kc (UZ 2)))
noncomputable def VI:wb->wd:=Kl N_bb Sn
noncomputable abbrev Sbc:Stmt:=top 46
noncomputable abbrev N_bc:List Str:=["places", "steps", "told", "turn"]
theorem Hbc:NmF Sbc N_bc:=K0 (by decide +kernel)
noncomputable def Ba:SM:=
 Ki 2 (Kd 2 VI (U1 (UZ 2) (U1 (UZ 1) (U0))))
noncomputable def Sm:SM:=
 U4 (Ki 2 (U5 KR (KF (U1 (Kt (U1 (U3 (.int 0)) (U1 (KF (U0)) (U0)))) (U0))) (UZ 0)))
 (U4 (KQ (Xv (U1 (UZ 0) (U0))) (gN 3) Ba)
 (Kc (UZ 2)))
noncomputable def X1:wb->wd:=Kl N_bc Sm
noncomputable abbrev Sbh:Stmt:=top 51
noncomputable abbrev N_bh:List Str:=["wishes", "worths", "dealing", "nothing", "walks"]
theorem Hbh:NmF Sbh N_bh:=K0 (by decide +kernel)
noncomputable def Sf:SM:=
 U4 (Ki 3 (Zt Kr (U1 (U9 0 (U3 (.int 0))) (U0))))
 (U4 (Ki 4 (Kd 2 X1 (U1 (U5 Kg (UZ 3) (U3 (.int 1))) (U1 (Kd 3 Xu (U1 (UZ 0) (U1 (UZ 1) (U1 (UZ 2) (U0))))) (U0)))))
 (Kc (Ke UM (ZC (K8 (ZG (UZ 4) (U3 v4) (Kp (UZ 3) λx=>Kq (YD x)))) 2 (gT 2 (gNC (gN 5) (gNC (gN 6) (gN0)))) (U3 v5) (UZ 5)))))
noncomputable def VF:wb->wd:=Kl N_bh Sf
noncomputable abbrev Sbj:Stmt:=top 53
noncomputable abbrev N_bj:List Str:=["wishes", "worths", "dealing", "prices"]
theorem Hbj:NmF Sbj N_bj:=K0 (by decide +kernel)
noncomputable def g_bj:SM:=
 U4 (Ki 3 (Kd 3 VF (U1 (UZ 0) (U1 (UZ 1) (U1 (UZ 2) (U0))))))
 (Kc (Kt (U1 (U3 (.int 1)) (U1 (Kd 3 VE (U1 (Zt Kr (U1 (U9 0 (U3 (.int 1))) (U0))) (U1 (UZ 1) (U1 (UZ 3) (U0))))) (U1 (UZ 3) (U0))))))
noncomputable def VD:wb->wd:=Kl N_bj g_bj
noncomputable abbrev Sbd:Stmt:=top 47
noncomputable abbrev N_bd:List Str:=["walk", "end", "step", "begin"]
theorem Hbd:NmF Sbd N_bd:=K0 (by decide +kernel)
noncomputable def Li:SM:=
 sIf (U5 oEq (U5 oIx (U9 0 (UZ 3)) (U3 (.int 0))) (U9 2 (U3 (.int 1))))
 (Kc (ZG (UZ 0) (Kp (UZ 3) λx=>Kq (YD x)) (Kp (U5 Kg (UZ 1) (U3 (.int 1))) λx=>Kq (YD x))))
 (sNx)
noncomputable def Lh:SM:=
 KQ (Xv (U1 (U5 Kg (UZ 1) (U3 (.int 1))) (U0))) (gN 3) Li
noncomputable def Sk:SM:=
 U4 (KQ (XI (U1 (UZ 0) (U0))) (gT 2 (gNC (gN 1) (gNC (gN 2) (gN0)))) Lh)
 (Kc (KF (U0)))
noncomputable def VH:wb->wd:=Kl N_bd Sk
noncomputable abbrev Sbe:Stmt:=top 48
noncomputable abbrev N_be:List Str:=["nothing", "steps", "begin", "number", "step", "way", "ahead", "behind", "gain", "asker"]
theorem Hbe:NmF Sbe N_be:=K0 (by decide +kernel)
noncomputable def Lg:SM:=
 sIf (Ke (λd=>!isNon d) (UZ 9))
 (Zy 5 (Kt (U1 (UZ 9) (U1 (mIf (K6 oEq 7 (UZ 0)) (U3 .none) (UZ 7)) (U0)))))
 (sNx)
noncomputable def Lf:SM:=
 sIf (U5 oEq (U9 4 (U3 (.int 0))) (UZ 0))
 (Ki 2 (UZ 3))
 (sNx)
noncomputable def Sj:SM:=
 U4 (Ki 2 (U3 (.int 0)))
 (U4 (KQ (XI (U1 (UZ 1) (U0))) (gT 2 (gNC (gN 3) (gNC (gN 4) (gN0)))) Lf)
 (U4 (Zk 5 (Kp (U0) λxs=>if xs.length<=1000000 then U3 xs else λ_=>.bad))
 (U4 (KQ (K8 (U5 Kg (ZG (UZ 1) (Kp (UZ 2) λx=>Kq (YD x)) (U3 v4)) (ZG (UZ 1) (U3 v4) (Kp (UZ 2) λx=>Kq (YD x))))) (gT 4 (gNC (gN 6) (gNC (gN 7) (gNC (gN 8) (gNC (gN 9) (gN0)))))) Lg)
 (Kc (UZ 5)))))
noncomputable def Wy:wb->wd:=Kl N_be Sj
noncomputable abbrev Sbf:Stmt:=top 49
noncomputable abbrev N_bf:List Str:=["wishes", "worths", "dealing", "nothing", "gained", "walk"]
theorem Hbf:NmF Sbf N_bf:=K0 (by decide +kernel)
noncomputable def Le:SM:=
 sIf (U5 oEq (K7 5) (U5 Kg (UZ 3) (U3 (.int 1))))
 (Kc (Kd 2 Wy (U1 (UZ 3) (U1 (Kd 1 VH (U1 (UZ 5) (U0))) (U0)))))
 (sNx)
noncomputable def Sh:SM:=
 U4 (Ki 3 (Zt Kr (U1 (U9 0 (U3 (.int 0))) (U0))))
 (U4 (KQ (K8 (Kd 2 X1 (U1 (U5 Kg (UZ 3) (U3 (.int 1))) (U1 (Kd 3 Xu (U1 (UZ 0) (U1 (UZ 1) (U1 (UZ 2) (U0))))) (U0))))) (gT 2 (gNC (gN 4) (gNC (gN 5) (gN0)))) Le)
 (Kc (KF (U0))))
noncomputable def Wx:wb->wd:=Kl N_bf Sh
noncomputable abbrev Saw:Stmt:=top 39
noncomputable abbrev N_aw:List Str:=["dealing", "way", "told", "asker", "taken"]
theorem Haw:NmF Saw N_aw:=K0 (by decide +kernel)
noncomputable def Ld:SM:=
 WF 2 (UZ 3) (UZ 4)
noncomputable def Sr:SM:=
 U4 (Zk 2 (WK 0))
 (U4 (KQ (K8 (UZ 1)) (gT 2 (gNC (gN 3) (gNC (gN 4) (gN0)))) Ld)
 (Kc (UZ 2)))
noncomputable def VM:wb->wd:=Kl N_aw Sr
noncomputable abbrev Sbg:Stmt:=top 50
noncomputable abbrev N_bg:List Str:=["wishes", "worths", "dealing", "way"]
theorem Hbg:NmF Sbg N_bg:=K0 (by decide +kernel)
noncomputable def PX:SM:=
 U4 (Ki 2 (Kd 2 VM (U1 (UZ 2) (U1 (UZ 3) (U0)))))
 (Ki 3 (Kd 3 Wx (U1 (UZ 0) (U1 (UZ 1) (U1 (UZ 2) (U0))))))
noncomputable def Sg:SM:=
 U4 (Ki 2 (U5 KR (KF (U1 (U3 .none) (U0))) (Zt Kr (U1 (U9 0 (U3 (.int 1))) (U0)))))
 (U4 (Ki 3 (Kd 3 Wx (U1 (UZ 0) (U1 (UZ 1) (U1 (UZ 2) (U0))))))
 (U4 (W0 (PZ (UZ 3)) PX WD)
 (Kc (UZ 2))))
noncomputable def VG:wb->wd:=Kl N_bg Sg
noncomputable abbrev Sak:Stmt:=top 21
noncomputable abbrev N_ak:List Str:=["wishes"]
theorem Hak:NmF Sak N_ak:=K0 (by decide +kernel)
noncomputable def SA:SM:=
 U4 (YR (Kd 1 ZQ (U1 (UZ 0) (U0))))
 (Kc (Zt To (U1 (Ke UM (RJ (XI (U1 (U9 0 (U3 (.int 1))) (U0))) 4 (gT 2 (gNC (gN 1) (gNC (gN 2) (gN0)))) (U3 v5) (K8 (UZ 2)) (gN 3) (U3 v5) (K8 (UZ 3)) (gN 4) (U3 v5) (Kt (U1 (UZ 1) (U1 (UZ 4) (U0)))))) (U0))))
noncomputable def VW:wb->wd:=Kl N_ak SA
noncomputable abbrev Sar:Stmt:=top 33
noncomputable abbrev N_ar:List Str:=["base", "times", "told", "step"]
theorem Har:NmF Sar N_ar:=K0 (by decide +kernel)
noncomputable def C9:SM:=
 XQ Xn 2 (UZ 0)
noncomputable def g_ar:SM:=
 U4 (Ki 2 (U3 (.int 1)))
 (U4 (KQ (Xv (U1 (UZ 1) (U0))) (gN 3) C9)
 (Kc (UZ 2)))
noncomputable def ZP:wb->wd:=Kl N_ar g_ar
noncomputable abbrev Sat:Stmt:=top 35
noncomputable abbrev N_at:List Str:=["turns", "base", "asker", "rank", "behind"]
theorem Hat:NmF Sat N_at:=K0 (by decide +kernel)
noncomputable def Sv:SM:=
 U4 (sIf (K6 Y5 2 (UZ 0))
 (Kc (U3 (.int 0)))
 (sNx))
 (U4 (Ki 4 (U5 Zv (U5 Zv (K7 0) (U3 (.int 1))) (Ps (UZ 0) (U1 (UZ 2) (U0)))))
 (Kc (U5 KR (U5 Zv (UZ 1) (UZ 3)) (Kd 2 ZP (U1 (UZ 1) (U1 (UZ 4) (U0)))))))
noncomputable def VO:wb->wd:=Kl N_at Sv
noncomputable abbrev Sas:Stmt:=top 34
noncomputable abbrev N_as:List Str:=["order", "base", "most", "rank"]
theorem Has:NmF Sas N_as:=K0 (by decide +kernel)
noncomputable def Sw:SM:=
 U4 (sIf (K6 oEq 0 (U3 (.str "firsts")))
 (Kc (Kd 2 ZP (U1 (UZ 1) (U1 (U5 Zv (UZ 2) (UZ 3)) (U0)))))
 (sNx))
 (U4 (sIf (K6 oEq 0 (U3 (.str "full")))
 (Kc (U5 Kg (Kd 2 ZP (U1 (UZ 1) (U1 (UZ 2) (U0)))) (Kd 2 ZP (U1 (UZ 1) (U1 (U5 Zv (UZ 2) (UZ 3)) (U0))))))
 (sNx))
 (Kc (U5 Zv (Kd 2 ZP (U1 (UZ 1) (U1 (UZ 2) (U0)))) (Kd 2 ZP (U1 (UZ 1) (U1 (U5 Zv (UZ 3) (U3 (.int 1))) (U0)))))))
noncomputable def VP:wb->wd:=Kl N_as Sw
noncomputable abbrev Sai:Stmt:=top 19
noncomputable abbrev N_ai:List Str:=["ranks", "thing", "number", "rank"]
theorem Hai:NmF Sai N_ai:=K0 (by decide +kernel)
noncomputable def C8:SM:=
 sIf (K6 oIn 1 (UZ 3))
 (Kc (UZ 2))
 (sNx)
noncomputable def g_ai:SM:=
 U4 (KQ (ON (U1 (UZ 0) (U0))) (gT 2 (gNC (gN 2) (gNC (gN 3) (gN0)))) C8)
 (Kc (U3 (.int 0)))
noncomputable def VY:wb->wd:=Kl N_ai g_ai
noncomputable abbrev Sau:Stmt:=top 36
noncomputable abbrev N_au:List Str:=["wishes", "aim", "most", "asker", "thing", "order", "old", "turns", "lists", "rank", "base", "kept", "by_counts"]
theorem Hau:NmF Sau N_au:=K0 (by decide +kernel)
noncomputable def Su:SM:=
 U4 (Zs (UZ 1) (gT 3 (gNC (gN 5) (gNC (gN 6) (gNC (gN 7) (gN0))))))
 (U4 (Ki 8 (U9 0 (U3 (.int 1))))
 (U4 (Ki 9 (Kd 2 VY (U1 (U9 8 (UZ 3)) (U1 (UZ 4) (U0)))))
 (U4 (Ki 10 (U5 Kg (K7 8) (U3 (.int 1))))
 (U4 (Ki 11 (mIf (ZN (Ke (λd=>!isNon d) (UZ 6)) (U5 oEq (U9 6 (UZ 3)) (UZ 4))) (U3 (.int 1)) (U3 (.int 0))))
 (U4 (Ki 12 (U5 Kg (U5 KR (Kd 4 VP (U1 (UZ 5) (U1 (UZ 10) (U1 (UZ 2) (U1 (UZ 9) (U0)))))) (UZ 10)) (UZ 11)))
 (Kc (U5 Kg (U5 KR (UZ 12) (Kd 2 ZP (U1 (U5 Kg (UZ 2) (U3 (.int 1))) (U1 (K7 7) (U0))))) (Kd 4 VO (U1 (UZ 7) (U1 (U5 Kg (UZ 2) (U3 (.int 1))) (U1 (UZ 3) (U1 (UZ 9) (U0)))))))))))))
noncomputable def WA:wb->wd:=Kl N_au Su
noncomputable abbrev Saj:Stmt:=top 20
noncomputable abbrev N_aj:List Str:=["wishes"]
theorem Haj:NmF Saj N_aj:=K0 (by decide +kernel)
noncomputable def g_aj:SM:=
 U4 (YR (Kd 1 ZQ (U1 (UZ 0) (U0))))
 (Kc (Zt WV (U1 (Ke UM (ZC (K8 (U9 0 (U3 (.int 1)))) 1 (gN 1) (U3 v5) (K7 1))) (U0))))
noncomputable def VX:wb->wd:=Kl N_aj g_aj
noncomputable abbrev Sap:Stmt:=top 30
noncomputable abbrev N_ap:List Str:=["thing", "askers"]
theorem Hap:NmF Sap N_ap:=K0 (by decide +kernel)
noncomputable def Sy:SM:=
 U4 (sIf (mOr (K9 (Yr (Ke (λd=>.bool (Zb d "list")) (UZ 0)))) (K9 (Yr (Zt Yv (U1 (Ke UM (ZC (K8 (UZ 0)) 1 (gN 2) (U3 v5) (Kd 2 ZB (U1 (UZ 2) (U1 (UZ 1) (U0)))))) (U0))))))
 (Kc (U3 (.bool wa)))
 (sNx))
 (Kc (Ke UN (U5 oEq (Zt W9 (U1 (UZ 0) (U0))) (K7 0))))
noncomputable def VR:wb->wd:=Kl N_ap Sy
noncomputable abbrev Sao:Stmt:=top 29
noncomputable abbrev N_ao:List Str:=["thing", "askers", "things"]
theorem Hao:NmF Sao N_ao:=K0 (by decide +kernel)
noncomputable def Sz:SM:=
 U4 (sIf (Ke isNon (UZ 0))
 (Kc (U3 (.bool v5)))
 (sNx))
 (U4 (sIf (mOr (K9 (Yr (Ke (λd=>.bool (Zb d "list")) (UZ 0)))) (U5 oNe (K7 0) (UZ 1)))
 (Kc (U3 (.bool wa)))
 (sNx))
 (Kc (Zt Yv (U1 (Ke UM (ZC (K8 (UZ 0)) 1 (gN 3) (U3 v5) (Vm (Ke (λd=>.bool (isNon d)) (UZ 3)) (Kd 2 ZB (U1 (UZ 3) (U1 (UZ 2) (U0))))))) (U0)))))
noncomputable def VS:wb->wd:=Kl N_ao Sz
noncomputable abbrev Sam:Stmt:=top 26
noncomputable abbrev N_am:List Str:=["thing"]
theorem Ham:NmF Sam N_am:=K0 (by decide +kernel)
noncomputable def g_am:SM:=
 Kc (V6 (Ke (λd=>.bool (Zb d "str")) (UZ 0)) (Ke UN (K6 oIn 0 (U3 (.tuple ((["firsts", "full", "lasts"]:List Str).map UO))))))
noncomputable def VT:wb->wd:=Kl N_am g_am
noncomputable abbrev San:Stmt:=top 27
noncomputable abbrev N_an:List Str:=["thing"]
theorem Han:NmF San N_an:=K0 (by decide +kernel)
noncomputable def g_an:SM:=
 sIf (K9 (Yr (Kd 1 VT (U1 (UZ 0) (U0)))))
 (Wa)
 (sNx)
noncomputable def X2:wb->wd:=Kl N_an g_an
noncomputable abbrev Saq:Stmt:=top 31
noncomputable abbrev N_aq:List Str:=["wishes", "thing", "copies", "lists", "order", "old", "turns"]
theorem Haq:NmF Saq N_aq:=K0 (by decide +kernel)
noncomputable def Sx:SM:=
 U4 (YR (Kd 1 ZQ (U1 (UZ 0) (U0))))
 (U4 (sIf (mOr (K9 (Yr (Ke (λd=>.bool (Zb d "tuple")) (UZ 1)))) (U5 oNe (K7 1) (U3 (.int 3))))
 (Wa)
 (sNx))
 (U4 (Zs (UZ 0) (gT 2 (gNC (gN 2) (gNC (gN 3) (gN0)))))
 (U4 (Zs (UZ 1) (gT 3 (gNC (gN 4) (gNC (gN 5) (gNC (gN 6) (gN0))))))
 (U4 (YR (Kd 1 X2 (U1 (UZ 4) (U0))))
 (U4 (sIf (K9 (Yr (Kd 3 VS (U1 (UZ 5) (U1 (K7 3) (U1 (K7 2) (U0)))))))
 (Wa)
 (sNx))
 (sIf (K9 (Yr (Kd 2 VR (U1 (UZ 6) (U1 (K7 3) (U0))))))
 (Wa)
 (sNx)))))))
noncomputable def VQ:wb->wd:=Kl N_aq Sx
noncomputable abbrev Sav:Stmt:=top 37
noncomputable abbrev N_av:List Str:=["wishes", "aim", "most"]
theorem Hav:NmF Sav N_av:=K0 (by decide +kernel)
noncomputable def Ss:SM:=
 U4 (YR (Kd 2 VQ (U1 (UZ 0) (U1 (UZ 1) (U0)))))
 (U4 (Ki 2 (Kd 1 VX (U1 (UZ 0) (U0))))
 (Kc (Ke UM (ZC (K8 (Kd 1 VW (U1 (UZ 0) (U0)))) 2 (gT 2 (gNC (gN 3) (gNC (gN 4) (gN0)))) (U3 v5) (Kt (U1 (UZ 3) (U1 (UZ 4) (U1 (Kd 5 WA (U1 (UZ 0) (U1 (UZ 1) (U1 (UZ 2) (U1 (UZ 3) (U1 (UZ 4) (U0))))))) (U0)))))))))
noncomputable def VN:wb->wd:=Kl N_av Ss
noncomputable abbrev Sbk:Stmt:=top 55
noncomputable abbrev N_bk:List Str:=["wishes", "aim", "worths", "dealing"]
theorem Hbk:NmF Sbk N_bk:=K0 (by decide +kernel)
noncomputable def g_bk:SM:=
 U4 (Ki 2 (Kd 2 VN (U1 (UZ 0) (U1 (UZ 1) (U0)))))
 (U4 (Ki 3 (Kd 2 VG (U1 (UZ 0) (U1 (UZ 2) (U0)))))
 (Kc (Kt (U1 (UZ 3) (U1 (Kd 3 VD (U1 (UZ 0) (U1 (UZ 2) (U1 (UZ 3) (U0))))) (U0))))))
noncomputable def Ww:wb->wd:=Kl N_bk g_bk
noncomputable abbrev Sah:Stmt:=top 18
noncomputable abbrev N_ah:List Str:=["wishes", "copies", "lists"]
theorem Hah:NmF Sah N_ah:=K0 (by decide +kernel)
noncomputable def SB:SM:=
 U4 (Zs (UZ 0) (gT 2 (gNC (gN 1) (gNC (gN 2) (gN0)))))
 (Kc (Kt (U1 (Ke UM (WK 1)) (U1 (Ke UM (ZC (K8 (UZ 2)) 1 (gN 3) (U3 v5) (Ke UM (ZC (K8 (UZ 3)) 1 (gN 4) (U3 v5) (Ke UM (WK 4)))))) (U0)))))
noncomputable def VZ:wb->wd:=Kl N_ah SB
noncomputable abbrev Sbm:Stmt:=top 59
noncomputable abbrev N_bm:List Str:=["wishes", "change", "copies", "lists", "word"]
theorem Hbm:NmF Sbm N_bm:=K0 (by decide +kernel)
noncomputable def Sc:SM:=
 U4 (Zs (UZ 0) (gT 2 (gNC (gN 2) (gNC (gN 3) (gN0)))))
 (U4 (Ki 4 (U9 1 (U3 (.int 0))))
 (U4 (sIf (K6 oEq 4 (U3 (.str "list")))
 (Kc (Kt (U1 (UZ 2) (U1 (U5 Kg (U5 Kg (ZG (UZ 3) (U3 v4) (Kp (U9 1 (U3 (.int 1))) λx=>Kq (YD x))) (KF (U1 (U9 1 (U3 (.int 2))) (U0)))) (ZG (UZ 3) (Kp (U5 Kg (U9 1 (U3 (.int 1))) (U3 (.int 1))) λx=>Kq (YD x)) (U3 v4))) (U0)))))
 (sNx))
 (U4 (sIf (K6 oEq 4 (U3 (.str "copies")))
 (Kc (Kt (U1 (U5 Kg (U5 Kg (ZG (UZ 2) (U3 v4) (Kp (U9 1 (U3 (.int 1))) λx=>Kq (YD x))) (KF (U1 (U9 1 (U3 (.int 2))) (U0)))) (ZG (UZ 2) (Kp (U5 Kg (U9 1 (U3 (.int 1))) (U3 (.int 1))) λx=>Kq (YD x)) (U3 v4))) (U1 (UZ 3) (U0)))))
 (sNx))
 (U4 (sIf (K6 oEq 4 (U3 (.str "come")))
 (Kc (Kt (U1 (UZ 2) (U1 (U5 Kg (UZ 3) (KF (U1 (U9 1 (U3 (.int 1))) (U0)))) (U0)))))
 (sNx))
 (U4 (sIf (K6 oEq 4 (U3 (.str "go")))
 (Kc (Kt (U1 (UZ 2) (U1 (U5 Kg (ZG (UZ 3) (U3 v4) (Kp (U9 1 (U3 (.int 1))) λx=>Kq (YD x))) (ZG (UZ 3) (Kp (U5 Kg (U9 1 (U3 (.int 1))) (U3 (.int 1))) λx=>Kq (YD x)) (U3 v4))) (U0)))))
 (sNx))
 (Kc (Kt (U1 (U5 Kg (UZ 2) (KF (U1 (U9 1 (U3 (.int 1))) (U0)))) (U1 (UZ 3) (U0))))))))))
noncomputable def VA:wb->wd:=Kl N_bm Sc
noncomputable abbrev Sbl:Stmt:=top 58
noncomputable abbrev N_bl:List Str:=["wishes", "thing", "copies", "lists"]
theorem Hbl:NmF Sbl N_bl:=K0 (by decide +kernel)
noncomputable def Sd:SM:=
 U4 (sIf (mOr (K9 (Yr (Ke (λd=>.bool (Zb d "tuple")) (UZ 1)))) (mOr (U5 oEq (K7 1) (U3 (.int 0))) (K9 (Yr (Ke (λd=>.bool (Zb d "str")) (U9 1 (U3 (.int 0))))))))
 (Kc (U3 (.bool wa)))
 (sNx))
 (U4 (sIf (U5 oNe (Pa O7 (U1 (U9 1 (U3 (.int 0))) (U0))) (K7 1))
 (Kc (U3 (.bool wa)))
 (sNx))
 (U4 (Zs (UZ 0) (gT 2 (gNC (gN 2) (gNC (gN 3) (gN0)))))
 (U4 (sIf (U5 oIn (U9 1 (U3 (.int 0))) (Kt (U1 (U3 (.str "list")) (U1 (U3 (.str "go")) (U0)))))
 (Kc (Kd 2 ZB (U1 (U9 1 (U3 (.int 1))) (U1 (K7 3) (U0)))))
 (sNx))
 (U4 (sIf (U5 oEq (U9 1 (U3 (.int 0))) (U3 (.str "copies")))
 (Kc (Kd 2 ZB (U1 (U9 1 (U3 (.int 1))) (U1 (K7 2) (U0)))))
 (sNx))
 (Kc (U3 (.bool v5)))))))
noncomputable def VC:wb->wd:=Kl N_bl Sd
noncomputable abbrev Sbn:Stmt:=top 60
noncomputable abbrev N_bn:List Str:=["wishes", "change", "told"]
theorem Hbn:NmF Sbn N_bn:=K0 (by decide +kernel)
noncomputable def Sb:SM:=
 U4 (YR (Kd 1 ZQ (U1 (UZ 0) (U0))))
 (U4 (sIf (K9 (Yr (Kd 2 VC (U1 (UZ 0) (U1 (UZ 1) (U0))))))
 (Wa)
 (sNx))
 (U4 (Ki 2 (Kd 2 VA (U1 (UZ 0) (U1 (UZ 1) (U0)))))
 (U4 (Ry "NoWishes" (YR (Kd 1 ZQ (U1 (UZ 2) (U0)))) (Wa))
 (Kc (Kd 1 VZ (U1 (UZ 2) (U0)))))))
noncomputable def X0:wb->wd:=Kl N_bn Sb
noncomputable abbrev Sbo:Stmt:=top 61
noncomputable abbrev N_bo:List Str:=["wishes", "change", "dealing"]
theorem Hbo:NmF Sbo N_bo:=K0 (by decide +kernel)
noncomputable def Sa:SM:=
 U4 (YR (Kd 2 X0 (U1 (UZ 0) (U1 (UZ 1) (U0)))))
 (U4 (sIf (U5 oEq (U9 1 (U3 (.int 0))) (U3 (.str "come")))
 (Kc (U5 Kg (UZ 2) (KF (U1 (U3 .none) (U0)))))
 (sNx))
 (U4 (sIf (U5 oEq (U9 1 (U3 (.int 0))) (U3 (.str "go")))
 (Kc (U5 Kg (ZG (UZ 2) (U3 v4) (Kp (U9 1 (U3 (.int 1))) λx=>Kq (YD x))) (ZG (UZ 2) (Kp (U5 Kg (U9 1 (U3 (.int 1))) (U3 (.int 1))) λx=>Kq (YD x)) (U3 v4))))
 (sNx))
 (Kc (Ke UM (WK 2)))))
noncomputable def Vz:wb->wd:=Kl N_bo Sa
noncomputable abbrev Sbp:Stmt:=top 63
noncomputable abbrev N_bp:List Str:=["wishes", "change", "order", "dealing", "now", "old", "best", "paper", "moved"]
theorem Hbp:NmF Sbp N_bp:=K0 (by decide +kernel)
noncomputable def T9:SM:=
 U4 (YR (Kd 1 ZQ (U1 (UZ 0) (U0))))
 (U4 (YR (Kd 1 X2 (U1 (UZ 2) (U0))))
 (U4 (Ki 4 (Kd 2 X0 (U1 (UZ 0) (U1 (UZ 1) (U0)))))
 (U4 (Ki 5 (Kd 3 Vz (U1 (UZ 0) (U1 (UZ 1) (U1 (UZ 3) (U0))))))
 (U4 (Zs (Kd 2 Ww (U1 (UZ 4) (U1 (Kt (U1 (UZ 2) (U1 (UZ 5) (U1 (KF (U0)) (U0))))) (U0)))) (gT 2 (gNC (gN 6) (gNC (gN 7) (gN0)))))
 (U4 (Zk 8 (ZC (XI (U1 (UZ 5) (U0))) 2 (gT 2 (gNC (gN 9) (gNC (gN 10) (gN0)))) (ZN (Ke (λd=>!isNon d) (UZ 10)) (U5 oNe (U9 6 (UZ 9)) (UZ 10))) (UZ 9)))
 (Kc (Kt (U1 (UZ 4) (U1 (UZ 6) (U1 (UZ 8) (U1 (UZ 7) (U0))))))))))))
noncomputable def Wv:wb->wd:=Kl N_bp T9
noncomputable abbrev Scb:Stmt:=top 76
noncomputable abbrev N_cb:List Str:=["_law_wishes_here", "_law_change_here", "_law_copies", "_law_lists", "_law_word"]
theorem Hcb:NmF Scb N_cb:=K0 (by decide +kernel)
noncomputable def T2:SM:=
 U4 (Zs (UZ 0) (gT 2 (gNC (gN 2) (gNC (gN 3) (gN0)))))
 (U4 (Ki 4 (U9 1 (U3 (.int 0))))
 (U4 (sIf (K6 oEq 4 (U3 (.str "copies")))
 (Kc (V6 (Ke UN (U5 (oIB λi j=>decide (i<j)) (U9 1 (U3 (.int 1))) (K7 2))) (Ke UN (U5 (oIB λi j=>decide (i<j)) (U9 1 (U3 (.int 2))) (U3 (.int 8))))))
 (sNx))
 (U4 (sIf (K6 oEq 4 (U3 (.str "go")))
 (Kc (V6 (Ke UN (U5 (oIB λi j=>decide (i<j)) (U9 1 (U3 (.int 1))) (K7 3))) (Ke UN (U5 (oIB λi j=>decide (j<i)) (K7 3) (U3 (.int 1))))))
 (sNx))
 (U4 (sIf (K6 oEq 4 (U3 (.str "thing")))
 (Kc (V6 (Ke UN (U5 (oIB λi j=>decide (i<j)) (K7 2) (U3 (.int 6)))) (Ke UN (U5 (oIB λi j=>decide (i<j)) (U9 1 (U3 (.int 1))) (U3 (.int 8))))))
 (sNx))
 (U4 (sIf (mOr (ZN (K6 oEq 4 (U3 (.str "list"))) (U5 (oIB λi j=>decide (j<=i)) (U9 1 (U3 (.int 1))) (K7 3))) (ZN (K6 oEq 4 (U3 (.str "come"))) (U5 (oIB λi j=>decide (j<i)) (K7 3) (U3 (.int 6)))))
 (Kc (U3 (.bool wa)))
 (sNx))
 (Kc (Zt Yv (U1 (Ke UM (ZC (K8 (Zt Wf (U1 (U9 1 (Yg (U3 (.int 1)))) (U1 (KF (U0)) (U0))))) 1 (gN 5) (U3 v5) (Ke UN (K6 (oIB λi j=>decide (i<j)) 5 (K7 2))))) (U0)))))))))
noncomputable def Vr:wb->wd:=Kl N_cb T2
noncomputable abbrev Sbq:Stmt:=top 65
noncomputable abbrev N_bq:List Str:=["_law_script", "_law_k"]
theorem Hbq:NmF Sbq N_bq:=K0 (by decide +kernel)
noncomputable def g_bq:SM:=
 U4 (sIf (K6 (oIB λi j=>decide (i<j)) 1 (K7 0))
 (Kc (U9 0 (UZ 1)))
 (sNx))
 (Kc (U3 (.int 0)))
noncomputable def YJ:wb->wd:=Kl N_bq g_bq
noncomputable abbrev Sbz:Stmt:=top 74
noncomputable abbrev N_bz:List Str:=["_law_places", "_law_things", "_law_ranks_here", "_law_rank_here", "_law_row"]
theorem Hbz:NmF Sbz N_bz:=K0 (by decide +kernel)
noncomputable def Lc:SM:=
 U4 (Zk 4 (ZC (Xv (U1 (UZ 1) (U0))) 1 (gN 5) (U5 oEq (U9 0 (UZ 5)) (UZ 3)) (UZ 5)))
 (sIf (K6 oNe 4 (KF (U0)))
 (Zy 2 (UZ 4))
 (sNx))
noncomputable def T4:SM:=
 U4 (Zk 2 (Kp (U0) λxs=>if xs.length<=1000000 then U3 xs else λ_=>.bad))
 (U4 (KQ (Ph (U1 (U3 (.int 1)) (U1 (U3 (.int 6)) (U0)))) (gN 3) Lc)
 (Kc (UZ 2)))
noncomputable def Vt:wb->wd:=Kl N_bz T4
noncomputable abbrev Sbr:Stmt:=top 66
noncomputable abbrev N_br:List Str:=["_law_cell", "_law_salt", "_law_sizes", "_law_number", "_law_left", "_law_found", "_law_k", "_law_one"]
theorem Hbr:NmF Sbr N_br:=K0 (by decide +kernel)
noncomputable def O6:SM:=
 sIf (ZN (K6 (oIB λi j=>decide (j<=i)) 3 (U5 Vk (U3 (.int 10)) (U3 (.int 18)))) (K6 (oIB λi j=>decide (j<i)) 4 (U3 (.int 0))))
 (U4 (Zy 5 (U5 ZV (UZ 4) (U9 2 (UZ 6))))
 (Ki 4 (U5 Wm (UZ 4) (U9 2 (UZ 6)))))
 (U4 (Ki 7 (U5 ZV (U5 Kg (U5 Kg (U5 Kg (UZ 3) (U5 KR (U3 (.int 7919)) (UZ 1))) (U5 KR (U5 KR (U3 (.int 101)) (UZ 6)) (UZ 6))) (UZ 6)) (U3 (.int 2147483647))))
 (U4 (Ki 7 (U5 ZV (U5 KR (UZ 7) (U3 (.int 48271))) (U3 (.int 2147483647))))
 (U4 (Ki 7 (U5 ZV (U5 KR (U5 ZV (U5 KR (UZ 7) (UZ 7)) (U3 (.int 2147483629))) (U3 (.int 48271))) (U3 (.int 2147483647))))
 (Zy 5 (U5 ZV (U5 Wm (UZ 7) (U3 (.int 16))) (U9 2 (UZ 6)))))))
noncomputable def g_br:SM:=
 U4 (Ki 3 (Zt SU (U1 (UZ 0) (U1 (U5 Zv (Yg (U3 (.int 1))) (UZ 0)) (U0)))))
 (U4 (Ki 4 (UZ 3))
 (U4 (Zk 5 (Kp (U0) λxs=>if xs.length<=1000000 then U3 xs else λ_=>.bad))
 (U4 (KQ (Xv (U1 (K7 2) (U0))) (gN 6) O6)
 (Kc (UZ 5)))))
noncomputable def Yw:wb->wd:=Kl N_br g_br
noncomputable abbrev Sca:Stmt:=top 75
noncomputable abbrev N_ca:List Str:=["_law_wishes_here", "_law_cell", "_law_salt", "_law_copies", "_law_lists", "_law_digits", "_law_asker", "_law_ranks_here"]
theorem Hca:NmF Sca N_ca:=K0 (by decide +kernel)
noncomputable def T3:SM:=
 U4 (Zs (UZ 0) (gT 2 (gNC (gN 3) (gNC (gN 4) (gN0)))))
 (U4 (Ki 5 (Kd 3 Yw (U1 (UZ 1) (U1 (UZ 2) (U1 (U5 Kg (U5 Kg (KF (U1 (U3 (.int 6)) (U1 (U3 (.int 8)) (U1 (U3 (.int 7)) (U1 (U3 (.int 10)) (U1 (U3 (.int 9)) (U0))))))) (U5 KR (KF (U1 (U3 (.int 6)) (U0))) (U3 (.int 7)))) (KF (U1 (U3 (.int 2)) (U0)))) (U0))))))
 (U4 (Ki 6 (U5 ZV (U9 5 (U3 (.int 1))) (U5 Kg (K7 4) (U3 (.int 1)))))
 (U4 (Ki 7 (Kd 2 Vt (U1 (ZG (UZ 5) (Kp (U3 (.int 5)) λx=>Kq (YD x)) (U3 v4)) (U1 (U5 Kg (K7 3) (Zt Pp (U1 (Ke UN (U5 oEq (U9 5 (U3 (.int 4))) (U3 (.int 0)))) (U0)))) (U0)))))
 (U4 (sIf (U5 oEq (U9 5 (U3 (.int 12))) (U3 (.int 1)))
 (Zk 7 (ZC (K8 (UZ 7)) 1 (gN 8) (U3 v5) (Wo (UZ 8) (U3 v4) (U3 v4) (Kp (Yg (U3 (.int 1))) λx=>Kq (YD x)))))
 (sNx))
 (U4 (sIf (U5 (oIB λi j=>decide (i<j)) (U9 5 (U3 (.int 0))) (U3 (.int 2)))
 (Kc (Kt (U1 (U3 (.str "list")) (U1 (UZ 6) (U1 (UZ 7) (U0))))))
 (sNx))
 (U4 (sIf (U5 oEq (U9 5 (U3 (.int 0))) (U3 (.int 2)))
 (Kc (Kt (U1 (U3 (.str "copies")) (U1 (U5 ZV (U9 5 (U3 (.int 2))) (U5 Kg (K7 3) (U3 (.int 1)))) (U1 (U9 5 (U3 (.int 3))) (U0))))))
 (sNx))
 (U4 (sIf (U5 oEq (U9 5 (U3 (.int 0))) (U3 (.int 3)))
 (Kc (Kt (U1 (U3 (.str "come")) (U1 (UZ 7) (U0)))))
 (sNx))
 (U4 (sIf (U5 oEq (U9 5 (U3 (.int 0))) (U3 (.int 4)))
 (Kc (Kt (U1 (U3 (.str "go")) (U1 (UZ 6) (U0)))))
 (sNx))
 (Kc (Kt (U1 (U3 (.str "thing")) (U1 (U9 5 (U3 (.int 3))) (U0)))))))))))))
noncomputable def Vs:wb->wd:=Kl N_ca T3
noncomputable abbrev Sbw:Stmt:=top 71
noncomputable abbrev N_bw:List Str:=["_law_wishes_here", "_law_cell", "_law_salt", "_law_left", "_law_digits", "_law_found", "_law_asker", "_law_some", "_law_thing"]
theorem Hbw:NmF Sbw N_bw:=K0 (by decide +kernel)
noncomputable def O5:SM:=
 U4 (Ki 7 (U5 Kg (Ke UM (RL (K8 (Kd 2 XZ (U1 (UZ 0) (U1 (UZ 6) (U0))))) 1 (gN 9) (U5 (oIB λi j=>decide (j<i)) (U9 3 (UZ 9)) (U3 (.int 0))) (UZ 9))) (KF (U1 (U3 .none) (U0)))))
 (U4 (Ki 8 (U9 7 (U5 ZV (U9 4 (UZ 6)) (K7 7))))
 (U4 (sIf (Ke (λd=>!isNon d) (UZ 8))
 (WF 3 (UZ 8) (U5 Zv (U9 3 (UZ 8)) (U3 (.int 1))))
 (sNx))
 (Zy 5 (UZ 8))))
noncomputable def T7:SM:=
 U4 (Zk 3 (Kp (U1 (U9 0 (U3 (.int 0))) (U0)) λxs=>Kq (X6 xs)))
 (U4 (Ki 4 (Kd 3 Yw (U1 (UZ 1) (U1 (UZ 2) (U1 (U5 KR (KF (U1 (U3 (.int 61)) (U0))) (Zt Kr (U1 (U9 0 (U3 (.int 1))) (U0)))) (U0))))))
 (U4 (Zk 5 (Kp (U0) λxs=>if xs.length<=1000000 then U3 xs else λ_=>.bad))
 (U4 (KQ (Xv (U1 (Zt Kr (U1 (U9 0 (U3 (.int 1))) (U0))) (U0))) (gN 6) O5)
 (Kc (UZ 5)))))
noncomputable def Vv:wb->wd:=Kl N_bw T7
noncomputable abbrev Sbs:Stmt:=top 67
noncomputable abbrev N_bs:List Str:=["_law_script", "_law_at", "_law_most_things", "_law_most_askers", "_law_most_ranks", "_law_sizes", "_law_digits", "_law_copies", "_law_lists", "_law_asker", "_law_cell", "_law_places", "_law_ranks_here", "_law_rank_here", "_law_row"]
theorem Hbs:NmF Sbs N_bs:=K0 (by decide +kernel)
noncomputable def O4:SM:=
 U4 (Zk 14 (ZC (Xv (U1 (K7 7) (U0))) 1 (gN 15) (U5 oEq (U9 11 (UZ 15)) (UZ 13)) (UZ 15)))
 (sIf (K6 oNe 14 (KF (U0)))
 (Zy 12 (U5 oIx (KF (U1 (UZ 14) (U1 (Wo (UZ 14) (U3 v4) (U3 v4) (Kp (Yg (U3 (.int 1))) λx=>Kq (YD x))) (U0)))) (U9 11 (Yg (U3 (.int 1))))))
 (sNx))
noncomputable def O3:SM:=
 U4 (Ki 10 (Kd 2 YJ (U1 (UZ 0) (U1 (U5 Kg (U5 Kg (UZ 1) (U3 (.int 1))) (UZ 9)) (U0)))))
 (U4 (Ki 5 (U5 Kg (U5 KR (KF (U1 (U5 Kg (UZ 4) (U3 (.int 1))) (U0))) (UZ 2)) (KF (U1 (U3 (.int 2)) (U0)))))
 (U4 (Ki 11 (Kd 3 Yw (U1 (UZ 10) (U1 (U5 Kg (U5 Kg (U5 KR (U3 (.int 11)) (UZ 1)) (U5 KR (U3 (.int 3)) (UZ 9))) (U3 (.int 1))) (U1 (UZ 5) (U0))))))
 (U4 (Zk 12 (Kp (U0) λxs=>if xs.length<=1000000 then U3 xs else λ_=>.bad))
 (U4 (KQ (Ph (U1 (U3 (.int 1)) (U1 (U5 Kg (UZ 4) (U3 (.int 1))) (U0)))) (gN 13) O4)
 (Zy 8 (UZ 12))))))
noncomputable def T8:SM:=
 U4 (Ki 5 (U5 Kg (KF (U1 (UZ 2) (U1 (UZ 3) (U0)))) (U5 KR (KF (U1 (U3 (.int 11)) (U0))) (UZ 2))))
 (U4 (Ki 6 (Kd 3 Yw (U1 (Kd 2 YJ (U1 (UZ 0) (U1 (UZ 1) (U0)))) (U1 (UZ 1) (U1 (UZ 5) (U0))))))
 (U4 (Zk 7 (ZC (K8 (ZG (UZ 6) (Kp (U3 (.int 2)) λx=>Kq (YD x)) (Kp (U5 Kg (U3 (.int 3)) (U9 6 (U3 (.int 0)))) λx=>Kq (YD x)))) 1 (gN 15) (U3 v5) (U5 oIx (KF (U1 (U3 (.int 1)) (U1 (U3 (.int 1)) (U1 (U3 (.int 2)) (U1 (U3 (.int 0)) (U1 (U3 (.int 3)) (U1 (U3 (.int 7)) (U1 (U3 (.int 1)) (U1 (U3 (.int 4)) (U1 (U3 (.int 5)) (U1 (U3 (.int 6)) (U1 (U3 (.int 1)) (U0))))))))))))) (UZ 15))))
 (U4 (Zk 8 (Kp (U0) λxs=>if xs.length<=1000000 then U3 xs else λ_=>.bad))
 (U4 (KQ (Xv (U1 (U5 Kg (U3 (.int 1)) (U9 6 (U3 (.int 1)))) (U0))) (gN 9) O3)
 (Kc (Kt (U1 (UZ 7) (U1 (UZ 8) (U0)))))))))
noncomputable def Vy:wb->wd:=Kl N_bs T8
noncomputable abbrev Scf:Stmt:=top 80
noncomputable abbrev N_cf:List Str:=["_law_script", "_law_at", "_law_wishes_here", "_law_dealing", "_law_digits", "_law_order", "_law_change_here", "_law_behind_here", "_law_found", "_law_moved_here", "_law_paper", "_law_due", "_law_old", "_law_best"]
theorem Hcf:NmF Scf N_cf:=K0 (by decide +kernel)
noncomputable def TW:SM:=
 U4 (Ki 2 (Kd 5 Vy (U1 (UZ 0) (U1 (UZ 1) (U1 (U3 (.int 3)) (U1 (U3 (.int 3)) (U1 (U3 (.int 3)) (U0))))))))
 (U4 (Ki 3 (Kd 3 Vv (U1 (UZ 2) (U1 (Kd 2 YJ (U1 (UZ 0) (U1 (U5 Kg (UZ 1) (U3 (.int 6))) (U0)))) (U1 (U5 Kg (UZ 1) (U3 (.int 6))) (U0))))))
 (U4 (Ki 4 (Kd 3 Yw (U1 (Kd 2 YJ (U1 (UZ 0) (U1 (U5 Kg (UZ 1) (U3 (.int 7))) (U0)))) (U1 (U5 Kg (UZ 1) (U3 (.int 7))) (U1 (KF (U1 (U3 (.int 3)) (U1 (U3 (.int 8)) (U0)))) (U0))))))
 (U4 (Ki 5 (U5 oIx (KF (U1 (U3 (.str "firsts")) (U1 (U3 (.str "full")) (U1 (U3 (.str "lasts")) (U0))))) (U9 4 (U3 (.int 0)))))
 (U4 (Ki 6 (Kd 3 Vs (U1 (UZ 2) (U1 (Kd 2 YJ (U1 (UZ 0) (U1 (U5 Kg (UZ 1) (U3 (.int 8))) (U0)))) (U1 (U5 Kg (UZ 1) (U3 (.int 8))) (U0))))))
 (U4 (sIf (K9 (Yr (Kd 2 Vr (U1 (UZ 2) (U1 (UZ 6) (U0))))))
 (Ki 6 (Kt (U1 (U3 (.str "copies")) (U1 (U3 (.int 0)) (U1 (U9 4 (U3 (.int 1))) (U0))))))
 (sNx))
 (U4 (Zs (Kd 4 Wv (U1 (UZ 2) (U1 (UZ 6) (U1 (UZ 5) (U1 (UZ 3) (U0)))))) (gT 4 (gNC (gN 7) (gNC (gN 8) (gNC (gN 9) (gNC (gN 10) (gN0)))))))
 (U4 (Ki 11 (Kd 2 Wt (U1 (UZ 2) (U1 (UZ 6) (U0)))))
 (U4 (Ki 12 (Kd 2 Ws (U1 (UZ 6) (U1 (UZ 3) (U0)))))
 (U4 (sIf (mOr (K6 oNe 7 (UZ 11)) (K6 oNe 9 (Kd 2 Xs (U1 (UZ 12) (U1 (UZ 8) (U0))))))
 (Kc (U3 (.bool wa)))
 (sNx))
 (U4 (Ki 13 (Kd 2 Wu (U1 (UZ 11) (U1 (Kt (U1 (UZ 5) (U1 (U3 .none) (U1 (KF (U0)) (U0))))) (U0)))))
 (U4 (sIf (K6 Y5 8 (UZ 13))
 (Kc (U3 (.bool wa)))
 (sNx))
 (Kc (Ke UN (U5 oEq (K7 9) (Zt V8 (U1 (Ke UM (ZC (K8 (UZ 13)) 1 (gN 14) (U3 v5) (Zt Kr (U1 (Kd 2 Xs (U1 (UZ 12) (U1 (UZ 14) (U0)))) (U0))))) (U0)))))))))))))))))
noncomputable def Vq:wb->wd:=Kl N_cf TW
noncomputable abbrev Scg:Stmt:=top 81
noncomputable abbrev N_cg:List Str:=["_law_script", "_law_at"]
theorem Hcg:NmF Scg N_cg:=K0 (by decide +kernel)
noncomputable def Lb:SM:=
 sIf (K9 (Yr (Kd 2 Vq (U1 (UZ 0) (U1 (UZ 1) (U0))))))
 (Kc (U3 (.bool wa)))
 (sNx)
noncomputable def TV:SM:=
 U4 (KQ (Po (U1 (U3 (.int 0)) (U1 (Zt SU (U1 (U3 (.int 1)) (U1 (Zt Pi (U1 (U3 (.int 63)) (U1 (K7 0) (U0)))) (U0)))) (U1 (U3 (.int 10)) (U0))))) (gN 1) Lb)
 (Kc (U3 (.bool v5)))
noncomputable def Vp:wb->wd:=Kl N_cg TV
set_option hygiene false in
local macro_rules | `(tactic| walk_at "g")=>`(tactic| first | exact gA nm rfl | exact EY rfl)
set_option hygiene false in
local macro_rules | `(tactic| walk_at "v")=>`(tactic| first | exact pq nm _ | exact pvb _)
set_option hygiene false in
local macro_rules | `(tactic| walk_at "b")=>`(tactic| first | ((with_reducible show OpB _ (compareOp CmpOp.Eq) _);first | exact B_eq hu) | ((with_reducible show OpB _ (compareOp CmpOp.NotEq) _);first | exact B_ne hu) | ((with_reducible show OpB _ (compareOp CmpOp.Lt) _);first | exact B_lt) | ((with_reducible show OpB _ (compareOp CmpOp.LtE) _);first | exact B_le) | ((with_reducible show OpB _ (compareOp CmpOp.Gt) _);first | exact B_gt) | ((with_reducible show OpB _ (compareOp CmpOp.GtE) _);first | exact B_ge) | ((with_reducible show OpB _ (compareOp CmpOp.In) _);first | exact B_in hu) | ((with_reducible show OpB _ (compareOp CmpOp.NotIn) _);first | exact EB hu))
set_option hygiene false in
local macro_rules | `(tactic| walk_at "m")=>`(tactic| first | exact OT _ | exact rfl)
set_option hygiene false in
local macro_rules | `(tactic| walk_at "k")=>`(tactic| first | exact HJ | exact jC | exact jB | exact jA)
set_option hygiene false in
local macro_rules | `(tactic| walk_at "w")=>`(tactic| first | exact PassesOwn.never)
set_option hygiene false in
local macro_rules | `(tactic| walk_at "x")=>`(tactic| first | assumption | exact wants_cx)
set_option hygiene false in
local macro_rules | `(tactic| walk_at "c")=>`(tactic| first | exact T.c_MOST_ASKERS | exact T.c_MOST_COPIES | exact T.c_MOST_RANKS | exact T.c_MOST_THINGS | exact T.c_ORDERS)
set_option hygiene false in
local macro_rules | `(tactic| walk_at "ck")=>`(tactic| first | exact T.x_NoWishes)
section
variable{P:UC}{w:World}{K:Frag}{mg:Str->wj}{base:Heap}{f:UD}{fd:UE}(T:Txt K mg)
include T
theorem Kay(yp:Def P w K mg base "place_of" 1 2 Wz)(F:Fun K "steps_of_askers" "steps_of_askers" Say f fd):FnOk P w K mg base CX0 2 f fd ["nothing", "worths", "dealing"] (spD K 3 VL):=
 okD (k:=1) (g:=Sq) F (fq Hay 3) v3 λcdv A outer s H E B G0 hr=>
 have hu:=hr.units;have hgd:=hr.gd
 (Rg (Hd (i:=3) (nq Hay) v3 (lq Hay 3) (LR (Nc (XE MR Ri)) (HL (gq Hay 2) T.b_len (pq Hay 2))))
 (Rg (OL UT v3 (OK (Ys (pq Hay 1))) (Pu v3 (Va (WP (WR (i:=4) (nq Hay) v3 (lq Hay 4))) (Va (WP (WR (i:=5) (nq Hay) v3 (lq Hay 5))) (Va (WP (WR (i:=6) (nq Hay) v3 (lq Hay 6))) Pv))))
 (Rb (Ou (Nd (B_eq hu) (Rh (pq Hay 2) (Ys (pq Hay 4)) (λ_ _=>rfl)) (Ys (pq Hay 5)) (OT _))
 (Rb (LK (Ys (pq Hay 6)) (pq Hay 3) (Ys (pq Hay 4))))
 OU)))
 (Rg (ES (j:=7) (ZT Say) SK ["nothing", "worths", "dealing", "had", ".asker", "thing", "worth", "told", "asker", "got"] 2 HJ (nq Hay) v3 v3 v3 (λB' G'=>(Hb (gq Hay 1) T.b_enumerate (XE (Ys (pq Hay 2)) Ri))) (λcl C s0 H0 ex=>⟨λB' G'=>(Pu v3 (Va (WP (WR (i:=8) (show(["nothing", "worths", "dealing", "had", ".asker", "thing", "worth", "told", "asker", "got"]:List Str).Nodup by decide +kernel) v3 (Rk v3).1 (Rk v3).2)) (Va (WP (WR (i:=9) (show(["nothing", "worths", "dealing", "had", ".asker", "thing", "worth", "told", "asker", "got"]:List Str).Nodup by decide +kernel) v3 (Rk v3).1 (Rk v3).2)) Pv))),λB' G'=>(LM (HM (Ys (pvb 9)))),(GR v3 v3 v3 λB' G'=>(PR (XE (Ys (pvb 9)) (XE (Ys (pvb 0)) (XE (LN (Rh (pvb 3) (Ys (pvb 8)) (λ_ _=>rfl))) (XE (Ys (pvb 8)) Ri))))))⟩) v3 v3 (by decide +kernel))
 (Rg (OL UT v3 (OK (Ys (pq Hay 1))) (Pu v3 (Va (WP (WR (i:=4) (nq Hay) v3 (lq Hay 4))) (Va (WP (WR (i:=5) (nq Hay) v3 (lq Hay 5))) (Va (WP (WR (i:=6) (nq Hay) v3 (lq Hay 6))) Pv))))
 (Rb (Ou (Nd (B_ne hu) (Rh (pq Hay 2) (Ys (pq Hay 4)) (λ_ _=>rfl)) (Ys (pq Hay 5)) (OT _))
 (Rb (MM (pq Hay 7) (PR (XE (pdf yp hr (gq Hay 0) (XE (Ys (pq Hay 0)) (XE (Rh (pq Hay 2) (Ys (pq Hay 4)) (λ_ _=>rfl)) Ri))) (XE (Ys (pq Hay 5)) (XE (V7 Mh (Ys (pq Hay 6)) (Rh (pq Hay 3) (Ys (pq Hay 4)) (λ_ _=>rfl))) (XE (Ys (pq Hay 4)) Ri)))))))
 OU)))
 (Rb (MN (Ys (pq Hay 7))))))))
end
theorem oks:((∀{P w K mg base f fd}(T:Txt K mg)(_:Fun K "_law_moved" "_law_moved" Sce f fd),FnOk P w K mg base CX0 1 f fd ["_law_old", "_law_found"] (spD K 2 Xs)) /\
 (∀{P w K mg base f fd}(T:Txt K mg)(_:Fun K "_law_wished" "_law_wished" Sbv f fd),FnOk P w K mg base CX0 1 f fd ["_law_wishes_here", "_law_asker"] (spD K 2 XZ)) /\
 (∀{P w K mg base f fd}(T:Txt K mg)(_:Fun K "_law_rank" "_law_rank" Sbt f fd),FnOk P w K mg base CX0 1 f fd ["_law_wishes_here", "_law_asker", "_law_thing"] (spD K 3 Vx)) /\
 (∀{P w K mg base f fd}(T:Txt K mg)(_:Fun K "_law_longest" "_law_longest" Sbu f fd),FnOk P w K mg base CX0 1 f fd ["_law_wishes_here"] (spD K 1 Vw)) /\
 (∀{P w K mg base f fd}(T:Txt K mg)(_:Def P w K mg base "_law_rank" 1 3 Vx)(_:Def P w K mg base "_law_longest" 1 1 Vw)(_:Fun K "_law_worth" "_law_worth" Sbx f fd),FnOk P w K mg base CX0 2 f fd ["_law_wishes_here", "_law_aim", "_law_asker", "_law_thing"] (spD K 4 Vu)) /\
 (∀{P w K mg base f fd}(T:Txt K mg)(_:Def P w K mg base "_law_wished" 1 2 XZ)(_:Def P w K mg base "_law_worth" 2 4 Vu)(_:Fun K "_law_bests" "_law_bests" Sby f fd),FnOk P w K mg base CX0 3 f fd ["_law_wishes_here", "_law_aim"] (spD K 2 Wu)) /\
 (∀{P w K mg base f fd}(T:Txt K mg)(_:Fun K "_law_carried" "_law_carried" Scd f fd),FnOk P w K mg base CX0 1 f fd ["_law_change_here", "_law_dealing"] (spD K 2 Ws)) /\
 (∀{P w K mg base f fd}(T:Txt K mg)(_:Fun K "_law_behind" "_law_behind" Scc f fd),FnOk P w K mg base CX0 1 f fd ["_law_wishes_here", "_law_change_here"] (spD K 2 Wt))) /\
 ((∀{P w K mg base f fd}(T:Txt K mg)(_:Fun K "asks_beyond" "asks_beyond" Sbi f fd),FnOk P w K mg base CX0 1 f fd ["askers", "worths", "prices"] (spD K 3 VE)) /\
 (∀{P w K mg base f fd}(T:Txt K mg)(_:Fun K "place_of" "place_of" Sax f fd),FnOk P w K mg base CX0 1 f fd ["nothing", "got"] (spD K 2 Wz)) /\
 (∀{P w K mg base f fd}(T:Txt K mg)(_:Fun K "is_whole" "is_whole" Saa f fd),FnOk P w K mg base CX0 1 f fd ["thing"] (spD K 1 WC)) /\
 (∀{P w K mg base f fd}(T:Txt K mg)(_:Def P w K mg base "is_whole" 1 1 WC)(_:Fun K "is_number_below" "is_number_below" Sab f fd),FnOk P w K mg base CX0 2 f fd ["thing", "many"] (spD K 2 ZB)) /\
 (∀{P w K mg base f fd}(T:Txt K mg)(_:Def P w K mg base "is_number_below" 2 2 ZB)(_:Fun K "is_rank" "is_rank" Sad f fd),FnOk P w K mg base CX0 3 f fd ["thing", "things"] (spD K 2 WB)) /\
 (∀{P w K mg base f fd}(T:Txt K mg)(_:Def P w K mg base "is_rank" 3 2 WB)(_:Fun K "is_asker_list" "is_asker_list" Sae f fd),FnOk P w K mg base CX0 4 f fd ["thing", "things"] (spD K 2 V1)) /\
 (∀{P w K mg base f fd}(T:Txt K mg)(_:Def P w K mg base "is_asker_list" 4 2 V1)(_:Fun K "look_at_lists" "look_at_lists" Saf f fd),FnOk P w K mg base CX0 5 f fd ["lists", "things"] (spD K 2 V0)) /\
 (∀{P w K mg base f fd}(T:Txt K mg)(_:Def P w K mg base "is_number_below" 2 2 ZB)(_:Fun K "look_at_copies" "look_at_copies" Sac f fd),FnOk P w K mg base CX0 3 f fd ["copies"] (spD K 1 V2))) /\
 ((∀{P w K mg base f fd}(T:Txt K mg)(_:Def P w K mg base "look_at_lists" 5 2 V0)(_:Def P w K mg base "look_at_copies" 3 1 V2)(_:Fun K "look_at_wishes" "look_at_wishes" Sag f fd),FnOk P w K mg base CX0 6 f fd ["thing"] (spD K 1 ZQ)) /\
 (∀{P w K mg base f fd}(T:Txt K mg)(_:Def P w K mg base "look_at_wishes" 6 1 ZQ)(_:Fun K "copies_left" "copies_left" Sal f fd),FnOk P w K mg base CX0 7 f fd ["wishes", "dealing"] (spD K 2 VU)) /\
 (∀{P w K mg base f fd}(T:Txt K mg)(_:Def P w K mg base "copies_left" 7 2 VU)(_:Fun K "steps_of_copies" "steps_of_copies" Saz f fd),FnOk P w K mg base CX0 8 f fd ["wishes", "dealing"] (spD K 2 VJ)) /\
 (∀{P w K mg base f fd}(T:Txt K mg)(_:Def P w K mg base "steps_of_askers" 2 3 VL)(_:Def P w K mg base "steps_of_copies" 8 2 VJ)(_:Fun K "all_steps" "all_steps" Sba f fd),FnOk P w K mg base CX0 9 f fd ["wishes", "worths", "dealing"] (spD K 3 Xu)) /\
 (∀{P w K mg base f fd}(T:Txt K mg)(_:Fun K "longer_walks" "longer_walks" Sbb f fd),FnOk P w K mg base CX0 1 f fd ["walks", "steps"] (spD K 2 VI)) /\
 (∀{P w K mg base f fd}(T:Txt K mg)(_:Def P w K mg base "longer_walks" 1 2 VI)(_:Fun K "widest_walks" "widest_walks" Sbc f fd),FnOk P w K mg base CX0 2 f fd ["places", "steps"] (spD K 2 X1)) /\
 (∀{P w K mg base f fd}(T:Txt K mg)(_:Def P w K mg base "all_steps" 9 3 Xu)(_:Def P w K mg base "widest_walks" 2 2 X1)(_:Fun K "prices_for" "prices_for" Sbh f fd),FnOk P w K mg base CX0 10 f fd ["wishes", "worths", "dealing"] (spD K 3 VF)) /\
 (∀{P w K mg base f fd}(T:Txt K mg)(_:Def P w K mg base "asks_beyond" 1 3 VE)(_:Def P w K mg base "prices_for" 10 3 VF)(_:Fun K "paper_for" "paper_for" Sbj f fd),FnOk P w K mg base CX0 11 f fd ["wishes", "worths", "dealing"] (spD K 3 VD))) /\
 ((∀{P w K mg base f fd}(T:Txt K mg)(_:Fun K "round_within" "round_within" Sbd f fd),FnOk P w K mg base CX0 1 f fd ["walk"] (spD K 1 VH)) /\
 (∀{P w K mg base f fd}(T:Txt K mg)(_:Fun K "way_round" "way_round" Sbe f fd),FnOk P w K mg base CX0 1 f fd ["nothing", "steps"] (spD K 2 Wy)) /\
 (∀{P w K mg base f fd}(T:Txt K mg)(_:Def P w K mg base "all_steps" 9 3 Xu)(_:Def P w K mg base "widest_walks" 2 2 X1)(_:Def P w K mg base "round_within" 1 1 VH)(_:Def P w K mg base "way_round" 1 2 Wy)(_:Fun K "gaining_way" "gaining_way" Sbf f fd),FnOk P w K mg base CX0 10 f fd ["wishes", "worths", "dealing"] (spD K 3 Wx)) /\
 (∀{P w K mg base f fd}(T:Txt K mg)(_:Fun K "behind_way" "behind_way" Saw f fd),FnOk P w K mg base CX0 1 f fd ["dealing", "way"] (spD K 2 VM)) /\
 (∀{P w K mg base f fd}(T:Txt K mg)(_:Def P w K mg base "gaining_way" 10 3 Wx)(_:Def P w K mg base "behind_way" 1 2 VM)(_:Fun K "best_by" "best_by" Sbg f fd),FnOk P w K mg base CX0 11 f fd ["wishes", "worths"] (spD K 2 VG)) /\
 (∀{P w K mg base f fd}(T:Txt K mg)(_:Def P w K mg base "look_at_wishes" 6 1 ZQ)(_:Fun K "all_wishes" "all_wishes" Sak f fd),FnOk P w K mg base CX0 7 f fd ["wishes"] (spD K 1 VW)) /\
 (∀{P w K mg base f fd}(T:Txt K mg)(_:Fun K "power" "power" Sar f fd),FnOk P w K mg base CX0 1 f fd ["base", "times"] (spD K 2 ZP)) /\
 (∀{P w K mg base f fd}(T:Txt K mg)(_:Def P w K mg base "power" 1 2 ZP)(_:Fun K "worth_by_turns" "worth_by_turns" Sat f fd),FnOk P w K mg base CX0 2 f fd ["turns", "base", "asker", "rank"] (spD K 4 VO))) /\
 ((∀{P w K mg base f fd}(T:Txt K mg)(_:Def P w K mg base "power" 1 2 ZP)(_:Fun K "worth_by_order" "worth_by_order" Sas f fd),FnOk P w K mg base CX0 2 f fd ["order", "base", "most", "rank"] (spD K 4 VP)) /\
 (∀{P w K mg base f fd}(T:Txt K mg)(_:Fun K "rank_in" "rank_in" Sai f fd),FnOk P w K mg base CX0 1 f fd ["ranks", "thing"] (spD K 2 VY)) /\
 (∀{P w K mg base f fd}(T:Txt K mg)(_:Def P w K mg base "power" 1 2 ZP)(_:Def P w K mg base "worth_by_turns" 2 4 VO)(_:Def P w K mg base "worth_by_order" 2 4 VP)(_:Def P w K mg base "rank_in" 1 2 VY)(_:Fun K "worth_by_aim" "worth_by_aim" Sau f fd),FnOk P w K mg base CX0 3 f fd ["wishes", "aim", "most", "asker", "thing"] (spD K 5 WA)) /\
 (∀{P w K mg base f fd}(T:Txt K mg)(_:Def P w K mg base "look_at_wishes" 6 1 ZQ)(_:Fun K "longest" "longest" Saj f fd),FnOk P w K mg base CX0 7 f fd ["wishes"] (spD K 1 VX)) /\
 (∀{P w K mg base f fd}(T:Txt K mg)(_:Def P w K mg base "is_number_below" 2 2 ZB)(_:Fun K "is_turns" "is_turns" Sap f fd),FnOk P w K mg base CX0 3 f fd ["thing", "askers"] (spD K 2 VR)) /\
 (∀{P w K mg base f fd}(T:Txt K mg)(_:Def P w K mg base "is_number_below" 2 2 ZB)(_:Fun K "is_old" "is_old" Sao f fd),FnOk P w K mg base CX0 3 f fd ["thing", "askers", "things"] (spD K 3 VS)) /\
 (∀{P w K mg base f fd}(T:Txt K mg)(_:Fun K "is_order" "is_order" Sam f fd),FnOk P w K mg base CX0 1 f fd ["thing"] (spD K 1 VT)) /\
 (∀{P w K mg base f fd}(T:Txt K mg)(_:Def P w K mg base "is_order" 1 1 VT)(_:Fun K "look_at_order" "look_at_order" San f fd),FnOk P w K mg base CX0 2 f fd ["thing"] (spD K 1 X2))) /\
 ((∀{P w K mg base f fd}(T:Txt K mg)(_:Def P w K mg base "is_turns" 3 2 VR)(_:Def P w K mg base "is_old" 3 3 VS)(_:Def P w K mg base "look_at_order" 2 1 X2)(_:Def P w K mg base "look_at_wishes" 6 1 ZQ)(_:Fun K "look_at_aim" "look_at_aim" Saq f fd),FnOk P w K mg base CX0 7 f fd ["wishes", "thing"] (spD K 2 VQ)) /\
 (∀{P w K mg base f fd}(T:Txt K mg)(_:Def P w K mg base "all_wishes" 7 1 VW)(_:Def P w K mg base "worth_by_aim" 3 5 WA)(_:Def P w K mg base "longest" 7 1 VX)(_:Def P w K mg base "look_at_aim" 7 2 VQ)(_:Fun K "all_worths" "all_worths" Sav f fd),FnOk P w K mg base CX0 8 f fd ["wishes", "aim"] (spD K 2 VN)) /\
 (∀{P w K mg base f fd}(T:Txt K mg)(_:Def P w K mg base "paper_for" 11 3 VD)(_:Def P w K mg base "best_by" 11 2 VG)(_:Def P w K mg base "all_worths" 8 2 VN)(_:Fun K "best_dealing" "best_dealing" Sbk f fd),FnOk P w K mg base CX0 12 f fd ["wishes", "aim"] (spD K 2 Ww)) /\
 (∀{P w K mg base f fd}(T:Txt K mg)(_:Fun K "copied_wishes" "copied_wishes" Sah f fd),FnOk P w K mg base CX0 1 f fd ["wishes"] (spD K 1 VZ)) /\
 (∀{P w K mg base f fd}(T:Txt K mg)(_:Fun K "behind_change" "behind_change" Sbm f fd),FnOk P w K mg base CX0 1 f fd ["wishes", "change"] (spD K 2 VA)) /\
 (∀{P w K mg base f fd}(T:Txt K mg)(_:Def P w K mg base "is_number_below" 2 2 ZB)(_:Vo w K mg "SIZES" O7)(_:Fun K "has_change_form" "has_change_form" Sbl f fd),FnOk P w K mg base CX0 3 f fd ["wishes", "thing"] (spD K 2 VC)) /\
 (∀{P w K mg base f fd}(T:Txt K mg)(_:Def P w K mg base "copied_wishes" 1 1 VZ)(_:Def P w K mg base "look_at_wishes" 6 1 ZQ)(_:Def P w K mg base "behind_change" 1 2 VA)(_:Def P w K mg base "has_change_form" 3 2 VC)(_:Fun K "changed" "changed" Sbn f fd),FnOk P w K mg base CX0 7 f fd ["wishes", "change"] (spD K 2 X0)) /\
 (∀{P w K mg base f fd}(T:Txt K mg)(_:Def P w K mg base "changed" 7 2 X0)(_:Fun K "carried" "carried" Sbo f fd),FnOk P w K mg base CX0 8 f fd ["wishes", "change", "dealing"] (spD K 3 Vz))) /\
 ((∀{P w K mg base f fd}(T:Txt K mg)(_:Def P w K mg base "best_dealing" 12 2 Ww)(_:Def P w K mg base "carried" 8 3 Vz)(_:Def P w K mg base "changed" 7 2 X0)(_:Def P w K mg base "look_at_order" 2 1 X2)(_:Def P w K mg base "look_at_wishes" 6 1 ZQ)(_:Fun K "mended" "mended" Sbp f fd),FnOk P w K mg base CX0 13 f fd ["wishes", "change", "order", "dealing"] (spD K 4 Wv)) /\
 (∀{P w K mg base f fd}(T:Txt K mg)(_:Fun K "_law_good" "_law_good" Scb f fd),FnOk P w K mg base CX0 1 f fd ["_law_wishes_here", "_law_change_here"] (spD K 2 Vr)) /\
 (∀{P w K mg base f fd}(T:Txt K mg)(_:Fun K "_law_cell_at" "_law_cell_at" Sbq f fd),FnOk P w K mg base CX0 1 f fd ["_law_script", "_law_k"] (spD K 2 YJ)) /\
 (∀{P w K mg base f fd}(T:Txt K mg)(_:Fun K "_law_ranks" "_law_ranks" Sbz f fd),FnOk P w K mg base CX0 1 f fd ["_law_places", "_law_things"] (spD K 2 Vt)) /\
 (∀{P w K mg base f fd}(T:Txt K mg)(_:Fun K "_law_numbers" "_law_numbers" Sbr f fd),FnOk P w K mg base CX0 1 f fd ["_law_cell", "_law_salt", "_law_sizes"] (spD K 3 Yw)) /\
 (∀{P w K mg base f fd}(T:Txt K mg)(_:Def P w K mg base "_law_ranks" 1 2 Vt)(_:Def P w K mg base "_law_numbers" 1 3 Yw)(_:Fun K "_law_change" "_law_change" Sca f fd),FnOk P w K mg base CX0 2 f fd ["_law_wishes_here", "_law_cell", "_law_salt"] (spD K 3 Vs)) /\
 (∀{P w K mg base f fd}(T:Txt K mg)(_:Def P w K mg base "_law_wished" 1 2 XZ)(_:Def P w K mg base "_law_numbers" 1 3 Yw)(_:Fun K "_law_dealt" "_law_dealt" Sbw f fd),FnOk P w K mg base CX0 2 f fd ["_law_wishes_here", "_law_cell", "_law_salt"] (spD K 3 Vv)) /\
 (∀{P w K mg base f fd}(T:Txt K mg)(_:Def P w K mg base "_law_numbers" 1 3 Yw)(_:Def P w K mg base "_law_cell_at" 1 2 YJ)(_:Fun K "_law_wishes" "_law_wishes" Sbs f fd),FnOk P w K mg base CX0 2 f fd ["_law_script", "_law_at", "_law_most_things", "_law_most_askers", "_law_most_ranks"] (spD K 5 Vy))) /\
 ((∀{P w K mg base f fd}(T:Txt K mg)(_:Def P w K mg base "_law_moved" 1 2 Xs)(_:Def P w K mg base "_law_bests" 3 2 Wu)(_:Def P w K mg base "_law_carried" 1 2 Ws)(_:Def P w K mg base "_law_behind" 1 2 Wt)(_:Def P w K mg base "mended" 13 4 Wv)(_:Def P w K mg base "_law_good" 1 2 Vr)(_:Def P w K mg base "_law_cell_at" 1 2 YJ)(_:Def P w K mg base "_law_change" 2 3 Vs)(_:Def P w K mg base "_law_numbers" 1 3 Yw)(_:Def P w K mg base "_law_dealt" 2 3 Vv)(_:Def P w K mg base "_law_wishes" 2 5 Vy)(_:Fun K "_law_block" "_law_block" Scf f fd),FnOk P w K mg base CX0 14 f fd ["_law_script", "_law_at"] (spD K 2 Vq)) /\
 (∀{P w K mg base f fd}(T:Txt K mg)(_:Def P w K mg base "_law_block" 14 2 Vq)(_:Fun K "law" "law" Scg f fd),FnOk P w K mg base CX0 15 f fd ["_law_script"] (spD K 1 Vp))):=by
 refine⟨⟨λT F=>okD (k:=0) (g:=TX) F (fq Hce 2) v3 λcdv A outer s H E B G0 hr=>have nm:=Hce;?_,
 λT F=>okD (k:=0) (g:=g_bv) F (fq Hbv 2) v3 λcdv A outer s H E B G0 hr=>have nm:=Hbv;?_,
 λT F=>okD (k:=0) (g:=g_bt) F (fq Hbt 3) v3 λcdv A outer s H E B G0 hr=>have nm:=Hbt;?_,
 λT F=>okD (k:=0) (g:=g_bu) F (fq Hbu 1) v3 λcdv A outer s H E B G0 hr=>have nm:=Hbu;?_,
 λT _ _ F=>okD (k:=1) (g:=T6) F (fq Hbx 4) v3 λcdv A outer s H E B G0 hr=>have nm:=Hbx;?_,
 λT _ _ F=>okD (k:=2) (g:=T5) F (fq Hby 2) v3 λcdv A outer s H E B G0 hr=>have nm:=Hby;?_,
 λT F=>okD (k:=0) (g:=TY) F (fq Hcd 2) v3 λcdv A outer s H E B G0 hr=>have nm:=Hcd;?_,
 λT F=>okD (k:=0) (g:=TZ) F (fq Hcc 2) v3 λcdv A outer s H E B G0 hr=>have nm:=Hcc;?_⟩,
 ⟨λT F=>okD (k:=0) (g:=Se) F (fq Hbi 3) v3 λcdv A outer s H E B G0 hr=>have nm:=Hbi;?_,
 λT F=>okD (k:=0) (g:=g_ax) F (fq Hax 2) v3 λcdv A outer s H E B G0 hr=>have nm:=Hax;?_,
 λT F=>okD (k:=0) (g:=g_aa) F (fq Haa 1) v3 λcdv A outer s H E B G0 hr=>have nm:=Haa;?_,
 λT _ F=>okD (k:=1) (g:=g_ab) F (fq Hab 2) v3 λcdv A outer s H E B G0 hr=>have nm:=Hab;?_,
 λT _ F=>okD (k:=2) (g:=g_ad) F (fq Had 2) v3 λcdv A outer s H E B G0 hr=>have nm:=Had;?_,
 λT _ F=>okD (k:=3) (g:=SE) F (fq Hae 2) v3 λcdv A outer s H E B G0 hr=>have nm:=Hae;?_,
 λT _ F=>okD (k:=4) (g:=SD) F (fq Haf 2) v3 λcdv A outer s H E B G0 hr=>have nm:=Haf;?_,
 λT _ F=>okD (k:=2) (g:=SF) F (fq Hac 1) v3 λcdv A outer s H E B G0 hr=>have nm:=Hac;?_⟩,
 ⟨λT _ _ F=>okD (k:=5) (g:=g_ag) F (fq Hag 1) v3 λcdv A outer s H E B G0 hr=>have nm:=Hag;?_,
 λT _ F=>okD (k:=6) (g:=g_al) F (fq Hal 2) v3 λcdv A outer s H E B G0 hr=>have nm:=Hal;?_,
 λT _ F=>okD (k:=7) (g:=So) F (fq Haz 2) v3 λcdv A outer s H E B G0 hr=>have nm:=Haz;?_,
 λT _ _ F=>okD (k:=8) (g:=g_ba) F (fq Hba 3) v3 λcdv A outer s H E B G0 hr=>have nm:=Hba;?_,
 λT F=>okD (k:=0) (g:=Sn) F (fq Hbb 2) v3 λcdv A outer s H E B G0 hr=>have nm:=Hbb;?_,
 λT _ F=>okD (k:=1) (g:=Sm) F (fq Hbc 2) v3 λcdv A outer s H E B G0 hr=>have nm:=Hbc;?_,
 λT _ _ F=>okD (k:=9) (g:=Sf) F (fq Hbh 3) v3 λcdv A outer s H E B G0 hr=>have nm:=Hbh;?_,
 λT _ _ F=>okD (k:=10) (g:=g_bj) F (fq Hbj 3) v3 λcdv A outer s H E B G0 hr=>have nm:=Hbj;?_⟩,
 ⟨λT F=>okD (k:=0) (g:=Sk) F (fq Hbd 1) v3 λcdv A outer s H E B G0 hr=>have nm:=Hbd;?_,
 λT F=>okD (k:=0) (g:=Sj) F (fq Hbe 2) v3 λcdv A outer s H E B G0 hr=>have nm:=Hbe;?_,
 λT _ _ _ _ F=>okD (k:=9) (g:=Sh) F (fq Hbf 3) v3 λcdv A outer s H E B G0 hr=>have nm:=Hbf;?_,
 λT F=>okD (k:=0) (g:=Sr) F (fq Haw 2) v3 λcdv A outer s H E B G0 hr=>have nm:=Haw;?_,
 λT _ _ F=>okD (k:=10) (g:=Sg) F (fq Hbg 2) v3 λcdv A outer s H E B G0 hr=>have nm:=Hbg;?_,
 λT _ F=>okD (k:=6) (g:=SA) F (fq Hak 1) v3 λcdv A outer s H E B G0 hr=>have nm:=Hak;?_,
 λT F=>okD (k:=0) (g:=g_ar) F (fq Har 2) v3 λcdv A outer s H E B G0 hr=>have nm:=Har;?_,
 λT _ F=>okD (k:=1) (g:=Sv) F (fq Hat 4) v3 λcdv A outer s H E B G0 hr=>have nm:=Hat;?_⟩,
 ⟨λT _ F=>okD (k:=1) (g:=Sw) F (fq Has 4) v3 λcdv A outer s H E B G0 hr=>have nm:=Has;?_,
 λT F=>okD (k:=0) (g:=g_ai) F (fq Hai 2) v3 λcdv A outer s H E B G0 hr=>have nm:=Hai;?_,
 λT _ _ _ _ F=>okD (k:=2) (g:=Su) F (fq Hau 5) v3 λcdv A outer s H E B G0 hr=>have nm:=Hau;?_,
 λT _ F=>okD (k:=6) (g:=g_aj) F (fq Haj 1) v3 λcdv A outer s H E B G0 hr=>have nm:=Haj;?_,
 λT _ F=>okD (k:=2) (g:=Sy) F (fq Hap 2) v3 λcdv A outer s H E B G0 hr=>have nm:=Hap;?_,
 λT _ F=>okD (k:=2) (g:=Sz) F (fq Hao 3) v3 λcdv A outer s H E B G0 hr=>have nm:=Hao;?_,
 λT F=>okD (k:=0) (g:=g_am) F (fq Ham 1) v3 λcdv A outer s H E B G0 hr=>have nm:=Ham;?_,
 λT _ F=>okD (k:=1) (g:=g_an) F (fq Han 1) v3 λcdv A outer s H E B G0 hr=>have nm:=Han;?_⟩,
 ⟨λT _ _ _ _ F=>okD (k:=6) (g:=Sx) F (fq Haq 2) v3 λcdv A outer s H E B G0 hr=>have nm:=Haq;?_,
 λT _ _ _ _ F=>okD (k:=7) (g:=Ss) F (fq Hav 2) v3 λcdv A outer s H E B G0 hr=>have nm:=Hav;?_,
 λT _ _ _ F=>okD (k:=11) (g:=g_bk) F (fq Hbk 2) v3 λcdv A outer s H E B G0 hr=>have nm:=Hbk;?_,
 λT F=>okD (k:=0) (g:=SB) F (fq Hah 1) v3 λcdv A outer s H E B G0 hr=>have nm:=Hah;?_,
 λT F=>okD (k:=0) (g:=Sc) F (fq Hbm 2) v3 λcdv A outer s H E B G0 hr=>have nm:=Hbm;?_,
 λT _ _ F=>okD (k:=2) (g:=Sd) F (fq Hbl 2) v3 λcdv A outer s H E B G0 hr=>have nm:=Hbl;?_,
 λT _ _ _ _ F=>okD (k:=6) (g:=Sb) F (fq Hbn 2) v3 λcdv A outer s H E B G0 hr=>have nm:=Hbn;?_,
 λT _ F=>okD (k:=7) (g:=Sa) F (fq Hbo 3) v3 λcdv A outer s H E B G0 hr=>have nm:=Hbo;?_⟩,
 ⟨λT _ _ _ _ _ F=>okD (k:=12) (g:=T9) F (fq Hbp 4) v3 λcdv A outer s H E B G0 hr=>have nm:=Hbp;?_,
 λT F=>okD (k:=0) (g:=T2) F (fq Hcb 2) v3 λcdv A outer s H E B G0 hr=>have nm:=Hcb;?_,
 λT F=>okD (k:=0) (g:=g_bq) F (fq Hbq 2) v3 λcdv A outer s H E B G0 hr=>have nm:=Hbq;?_,
 λT F=>okD (k:=0) (g:=T4) F (fq Hbz 2) v3 λcdv A outer s H E B G0 hr=>have nm:=Hbz;?_,
 λT F=>okD (k:=0) (g:=g_br) F (fq Hbr 3) v3 λcdv A outer s H E B G0 hr=>have nm:=Hbr;?_,
 λT _ _ F=>okD (k:=1) (g:=T3) F (fq Hca 3) v3 λcdv A outer s H E B G0 hr=>have nm:=Hca;?_,
 λT _ _ F=>okD (k:=1) (g:=T7) F (fq Hbw 3) v3 λcdv A outer s H E B G0 hr=>have nm:=Hbw;?_,
 λT _ _ F=>okD (k:=1) (g:=T8) F (fq Hbs 5) v3 λcdv A outer s H E B G0 hr=>have nm:=Hbs;?_⟩,
 ⟨λT _ _ _ _ _ _ _ _ _ _ _ F=>okD (k:=13) (g:=TW) F (fq Hcf 2) v3 λcdv A outer s H E B G0 hr=>have nm:=Hcf;?_,
 λT _ F=>okD (k:=14) (g:=TV) F (fq Hcg 1) v3 λcdv A outer s H E B G0 hr=>have nm:=Hcg;?_⟩⟩<;>(have hu:=hr.units;have hgd:=hr.gd;repeat' (first|((with_reducible show PSs _ (XF _) _);show PSs _ (_::_) _)|((with_reducible show PSs _ (Stmt.Assign _ _ _::_::_) _);generalize hS:(_::_:List Stmt)=sts;refine Ag hS ?_ ?_)|((with_reducible show PS _ (Stmt.Assign [Expr.Name _ _] (Expr.List _ _) _) (tS _ _ _ _ (Zk _ _)));generalize hS:Stmt.Assign _ _ _=st;refine Df hS nm ?_)|((with_reducible show PS _ (Stmt.Assign [Expr.Name _ _] (Expr.BinOp _ _ _ _) _) (tS _ _ _ _ (Ki _ _)));generalize hS:Stmt.Assign _ _ _=st;refine EN hS nm ?_)|((with_reducible show PE _ (Expr.List _ _) _);generalize hS:Expr.List _ _=e;first|refine Af hS ?_|refine Ae hS ?_)|((with_reducible show PE _ (Expr.Tuple _ _ _) _);generalize hS:Expr.Tuple _ _ _=e;refine Ad hS ?_)|((with_reducible show PE _ (Expr.BinOp _ Operator.Add _ _) (tD _ _ _ _));generalize hS:Expr.BinOp _ _ _ _=e;refine MF Mi hS ?_ ?_)|((with_reducible show PE _ (Expr.BinOp _ Operator.Mult _ _) (tD _ _ _ _));generalize hS:Expr.BinOp _ _ _ _=e;refine MF Mg hS ?_ ?_)|((with_reducible show PA _ (_::_) (tDs _ _ _ _));generalize hS:(_::_:wf)=es;refine qU hS ?_ ?_)|((with_reducible show PE _ _ (tD _ _ _ _));first|first|((with_reducible show PE _ (Expr.Name _ _) _);first|exact Ys (pq nm _)|exact Ys (pvb _)|exact ED (by walk_at "g") (by walk_at "c")|exact EA (by walk_at "g") (by walk_at "c"))|((with_reducible show PE _ (Expr.Constant _ _ _) _);first|exact MR|exact Ac|exact CB|exact BF)|((with_reducible show PE _ (Expr.Subscript _ _ _) _);first|refine Rh (by walk_at "v") ?_ (λ_ _=>rfl)|refine xn ?_ ?_ ?_|refine CI ?_ ?_ ?_ ?_|refine E7 ?_ ?_ (λ_ _=>rfl))|((with_reducible show PE _ (Expr.BinOp _ Operator.Add _ _) _);first|refine V7 Mi ?_ ?_)|((with_reducible show PE _ (Expr.BinOp _ Operator.Sub _ _) _);first|refine V7 Mh ?_ ?_)|((with_reducible show PE _ (Expr.BinOp _ Operator.Mult _ _) _);first|refine V7 Mg ?_ ?_)|((with_reducible show PE _ (Expr.BinOp _ Operator.Mod _ _) _);first|refine V7 EL ?_ ?_)|((with_reducible show PE _ (Expr.BinOp _ Operator.FloorDiv _ _) _);first|refine V7 EK ?_ ?_)|((with_reducible show PE _ (Expr.BinOp _ Operator.Pow _ _) _);first|refine V7 EJ ?_ ?_)|((with_reducible show PE _ (Expr.Call (Expr.Name "len" _) _ _ _) _);first|refine HL (by walk_at "g") T.b_len (by walk_at "v")|refine Tk EI (by walk_at "g") T.b_len boot_len ?_|refine xm v3 (by walk_at "g") T.b_len (by walk_at "g") T.b_set ?_)|((with_reducible show PE _ (Expr.Call (Expr.Name "max" _) _ _ _) _);first|refine Tk (E6 v3) (by walk_at "g") T.b_max boot_max ?_|refine Tk (Du v3) (by walk_at "g") T.b_max boot_max ?_)|((with_reducible show PE _ (Expr.Call (Expr.Name "min" _) _ _ _) _);first|refine Tk (E5 v3) (by walk_at "g") T.b_min boot_min ?_|refine Tk (Dj v3) (by walk_at "g") T.b_min boot_min ?_)|((with_reducible show PE _ (Expr.Call (Expr.Name "sorted" _) _ _ _) _);first|refine Tk Dp (by walk_at "g") T.b_sorted PyProof.Rows.boot_sorted ?_)|((with_reducible show PE _ (Expr.Call (Expr.Name "sum" _) _ _ _) _);first|refine Tk (Dt v3) (by walk_at "g") T.b_sum PyProof.Rows.boot_sum ?_)|((with_reducible show PE _ (Expr.Call (Expr.Name "all" _) _ _ _) _);first|refine Tk (EF v3) (by walk_at "g") T.b_all PyProof.Rows.boot_all ?_)|((with_reducible show PE _ (Expr.Call (Expr.Name "int" _) _ _ _) _);first|refine xr Dv (by walk_at "g") T.b_int PyProof.Rows.boot_int ?_)|((with_reducible show PE _ (Expr.Call (Expr.Name "isinstance" _) [_,Expr.Name "int" _] _ _) _);first|refine R4 (c:= "int") (by decide) (by walk_at "g") T.b_isinstance (by walk_at "g") T.b_int (by decide +kernel) ?_ (by decide) (by decide))|((with_reducible show PE _ (Expr.Call (Expr.Name "isinstance" _) [_,Expr.Name "list" _] _ _) _);first|refine R4 (c:= "list") (by decide) (by walk_at "g") T.b_isinstance (by walk_at "g") T.b_list (by decide +kernel) ?_ (by decide) (by decide))|((with_reducible show PE _ (Expr.Call (Expr.Name "isinstance" _) [_,Expr.Name "tuple" _] _ _) _);first|refine R4 (c:= "tuple") (by decide) (by walk_at "g") T.b_isinstance (by walk_at "g") T.b_tuple (by decide +kernel) ?_ (by decide) (by decide))|((with_reducible show PE _ (Expr.Call (Expr.Name "isinstance" _) [_,Expr.Name "bool" _] _ _) _);first|refine R4 (c:= "bool") (by decide) (by walk_at "g") T.b_isinstance (by walk_at "g") T.b_bool (by decide +kernel) ?_ (by decide) (by decide))|((with_reducible show PE _ (Expr.Call (Expr.Name "isinstance" _) [_,Expr.Name "str" _] _ _) _);first|refine R4 (c:= "str") (by decide) (by walk_at "g") T.b_isinstance (by walk_at "g") T.b_str (by decide +kernel) ?_ (by decide) (by decide))|((with_reducible show PE _ (Expr.Call (Expr.Name _ _) _ _ _) _);first|refine pdf (by assumption) hr (by walk_at "g") ?_)|((with_reducible show PE _ (Expr.Call _ _ _ _) (tD _ _ _ (Pa _ _)));first|refine AX (by assumption) (by decide) (by walk_at "g") ?_)|((with_reducible show PE _ (Expr.Call _ _ _ _) _);first|refine jV hu ?_ ?_|refine Bh (by walk_at "v") ?_|refine jO ?_ ?_)|refine Nc ?_|refine PR ?_|((with_reducible show PE _ (Expr.Compare _ _ _ _) _);first|refine CV ?_|refine CJ (by walk_at "b") (by walk_at "v") ?_ (by walk_at "m")|refine B6 (by walk_at "b") ?_ ?_ (by walk_at "m")|refine kG (by walk_at "b") (by walk_at "b") ?_ ?_ ?_)|refine CM ?_|refine LN ?_|refine CY ?_|refine C0 ?_ ?_|refine E8 ?_ ?_|refine CZ ?_|refine kY ?_ ?_ ?_)|((with_reducible show PA _ _ (tDs _ _ _ _));first|refine XE ?_ ?_|exact Ri)|((with_reducible show PSs _ _ (tS _ _ _ _ _));first|refine Rg ?_ ?_|refine Rb ?_|exact OU|exact sD_nevers)|((with_reducible show PS _ _ _);first|((with_reducible show PS _ (Stmt.Assign [Expr.Name _ _] _ _) _);first|refine aSet nm ?_|refine EO nm (by walk_at "k") v3 ?_ ?_ (by decide +kernel)|refine Mn nm ?_)|((with_reducible show PS _ (Stmt.Assign _ _ _) _);first|refine E4 ?_ ?_|refine LK ?_ (by walk_at "v") ?_)|refine Ou ?_ ?_ ?_|refine MN ?_|refine OL (by walk_at "w") v3 ?_ ?_ ?_|((with_reducible show PS _ (Stmt.Expr _ _) _);first|refine MM (by walk_at "v") ?_|refine CQ ?_)|refine aAug nm Bt ?_|exact qt|refine Ar _ (by walk_at "w") ?_ ?_|refine Bp (by walk_at "ck") (by walk_at "g") (λKX' W pn hw=>?_) (λa=>?_))|((with_reducible show PT _ _ _);first|((with_reducible show PT _ (Expr.Compare _ _ _ _) _);first|refine CW ?_|refine HM ?_|refine CL (by walk_at "b") (by walk_at "v") ?_ (by walk_at "m")|refine Nd (by walk_at "b") ?_ ?_ (by walk_at "m")|refine kH (by walk_at "b") (by walk_at "b") ?_ ?_ ?_)|((with_reducible show PT _ (Expr.BoolOp _ _ _) _);refine PW.pt ?_)|refine C4 ?_|refine C3 ?_|refine Bj ?_)|((with_reducible show PW _ _ _);first|refine C5 ?_ ?_|refine E9 ?_ ?_|refine qx ?_|refine B4 ?_)|((with_reducible show PE _ _ (tL _ _ _ _));first|refine EQ nm (by walk_at "k") v3 ?_ ?_ (by decide +kernel)|refine Dg (by walk_at "k") v3 ?_ ?_ (by decide +kernel)|refine jw (by walk_at "g") T.b_list (by walk_at "v")|refine qN (by walk_at "g") T.b_list ?_|refine Hc ?_|refine LR ?_ ?_)|((with_reducible show PI _ _ _ _);first|refine kX (by walk_at "g") T.b_range ?_|refine kW (by walk_at "g") T.b_range ?_|refine jq (by walk_at "g") T.b_range ?_|refine Hb (by walk_at "g") T.b_enumerate ?_|refine qK (by walk_at "g") T.b_enumerate ?_|refine OK ?_)|((with_reducible show PG _ _ _);first|exact ER nm|exact Dh|refine Pu v3 ?_)|((with_reducible show PGs _ _ _);first|exact Pv|refine Va ?_ ?_)|((with_reducible show PO _ _ _);first|exact qw|refine qv ?_)|((with_reducible show Yn _ _ _ _ _ _ _ _ _);refine λcl C s0 H0 ex=>⟨λB' G'=>?_,λB' G'=>?_,?_⟩)|((with_reducible show Xr _ _ _);first|exact CN|refine LM ?_)|((with_reducible show Rw _ _ _ _ _ _);first|refine GR v3 v3 v3 λB' G'=>?_|refine jD v3 v3 v3 v3 (λ_=>rfl) (λB' G'=>?_) (λB' G'=>?_) (λB' G'=>?_) ?_)))
theorem K1:recsOf q0=RM p0 ixL:=by show recsOf (PySem.W.view PySem.Challenge.pw_wishdeal_k75_whole_fewest_moved Xf)=RM PySem.Challenge.pw_wishdeal_k75_whole_fewest_moved ixL;rw[PySem.W.Fast.te3399658132070893891,PySem.W.Fast.te882690996177290288];kernel_rfl
theorem YV:(["ValueError", "all", "bool", "enumerate", "int", "isinstance", "len", "list", "max", "min", "range", "set", "sorted", "str", "sum", "tuple"]:List Str).all (Pc q0 (PySem.W.looseW q0 ["SIZES"]))=v5:=by show List.all _ (Pc (PySem.W.view PySem.Challenge.pw_wishdeal_k75_whole_fewest_moved Xf) (PySem.W.looseW (PySem.W.view PySem.Challenge.pw_wishdeal_k75_whole_fewest_moved Xf) ["SIZES"]))=v5;k_qdec
theorem vR:valOf q0 "MOST_ASKERS" = O (.int 7):=by show valOf (PySem.W.view PySem.Challenge.pw_wishdeal_k75_whole_fewest_moved Xf) _=_;rw[Jz,PySem.W.Fast.te882690996177290288];kernel_rfl
theorem vQ:valOf q0 "MOST_COPIES" = O (.int 7):=by show valOf (PySem.W.view PySem.Challenge.pw_wishdeal_k75_whole_fewest_moved Xf) _=_;rw[Jz,PySem.W.Fast.te882690996177290288];kernel_rfl
theorem vU:valOf q0 "MOST_RANKS" = O (.int 5):=by show valOf (PySem.W.view PySem.Challenge.pw_wishdeal_k75_whole_fewest_moved Xf) _=_;rw[Jz,PySem.W.Fast.te882690996177290288];kernel_rfl
theorem vP:valOf q0 "MOST_THINGS" = O (.int 6):=by show valOf (PySem.W.view PySem.Challenge.pw_wishdeal_k75_whole_fewest_moved Xf) _=_;rw[Jz,PySem.W.Fast.te882690996177290288];kernel_rfl
theorem qT:tupStrsOf q0 "ORDERS" = O (["firsts", "full", "lasts"]:List Str):=by show tupStrsOf (PySem.W.view PySem.Challenge.pw_wishdeal_k75_whole_fewest_moved Xf) _=_;rw[PySem.W.Fast.te14491516231548247274,PySem.W.Fast.te882690996177290288];kernel_rfl
theorem Dd{l:PySem.W.OpenLaw}{w:World}{s0:UB}{mg mb:Str->wj}{fa:UD}{h:Heap}{XP:(Str->wj)->Heap->Prop}(G:PySem.W.Ground q0 ["SIZES"] [] XP w s0 mg mb h)(Y0:XYP p0 clsL h/\TabP w "SIZES" [("list", 3),("copies", 3),("come", 2),("go", 2),("thing", 2)] h)(hfa:mg "law" = O (.ref fa)) :
  ∃fd:UE,(∀(s:UB)(v:UA),BindsTo s fd ⟨[v],[]⟩ [("_law_script", v)])/\∀base:Heap,FnOk l.prog w (whole h) mg base CX0 15 fa fd ["_law_script"] (spD (whole h) 1 Vp):=by
 have Y:=Y0.1;obtain⟨D0,f0,fd0,R⟩:=Bl (i:=4) G.T.g Y (mq 0 v3) (YX G.T YV (mq 0 v3)) (K0 (by decide +kernel)) v3 (λ_=>⟨_,rfl⟩) (λ_ _ _ _ _ _ us hl=>bz2 (us:=us) hl λ_ _=>rfl);have T:Txt (whole h) mg:=⟨YX G.T YV (mq 0 v3),YX G.T YV (mq 1 v3),YX G.T YV (mq 2 v3),YX G.T YV (mq 3 v3),YX G.T YV (mq 4 v3),YX G.T YV (mq 5 v3),YX G.T YV (mq 6 v3),YX G.T YV (mq 7 v3),YX G.T YV (mq 8 v3),YX G.T YV (mq 9 v3),YX G.T YV (mq 10 v3),YX G.T YV (mq 11 v3),YX G.T YV (mq 12 v3),YX G.T YV (mq 13 v3),YX G.T YV (mq 14 v3),YX G.T YV (mq 15 v3),Oh G.T vR,Oh G.T vQ,Oh G.T vU,Oh G.T vP,j9 G.B qT (by decide),Em (c:=("NoWishes", O 5)) G.T.g Y R (mq 1 v3)⟩
 refine Es G.T K1 81 "law" rfl v3 hfa (λ_ _ _ _ _ _ _=>rfl) λbase=>?_
 have d_ce:=K3 l.prog w base G.T K1 79 "_law_moved" rfl v3 (λF=>oks.1.1 T  F) λ_ _ _ _ _ _ us hl=>bz2 (us:=us) hl λ_ _=>rfl
 have yV:=K3 l.prog w base G.T K1 70 "_law_wished" rfl v3 (λF=>oks.1.2.1 T  F) λ_ _ _ _ _ _ us hl=>bz2 (us:=us) hl λ_ _=>rfl
 have d_bt:=K3 l.prog w base G.T K1 68 "_law_rank" rfl v3 (λF=>oks.1.2.2.1 T  F) λ_ _ _ _ _ _ us hl=>bz3 (us:=us) hl λ_ _ _=>rfl
 have d_bu:=K3 l.prog w base G.T K1 69 "_law_longest" rfl v3 (λF=>oks.1.2.2.2.1 T  F) λ_ _ _ _ _ _ us hl=>bz1 (us:=us) hl λ_=>rfl
 have d_bx:=K3 l.prog w base G.T K1 72 "_law_worth" rfl v3 (λF=>oks.1.2.2.2.2.1 T d_bt d_bu F) λ_ _ _ _ _ _ us hl=>bz4 (us:=us) hl λ_ _ _ _=>rfl
 have d_by:=K3 l.prog w base G.T K1 73 "_law_bests" rfl v3 (λF=>oks.1.2.2.2.2.2.1 T yV d_bx F) λ_ _ _ _ _ _ us hl=>bz2 (us:=us) hl λ_ _=>rfl
 have d_cd:=K3 l.prog w base G.T K1 78 "_law_carried" rfl v3 (λF=>oks.1.2.2.2.2.2.2.1 T  F) λ_ _ _ _ _ _ us hl=>bz2 (us:=us) hl λ_ _=>rfl
 have d_cc:=K3 l.prog w base G.T K1 77 "_law_behind" rfl v3 (λF=>oks.1.2.2.2.2.2.2.2 T  F) λ_ _ _ _ _ _ us hl=>bz2 (us:=us) hl λ_ _=>rfl
 have d_bi:=K3 l.prog w base G.T K1 52 "asks_beyond" rfl v3 (λF=>oks.2.1.1 T  F) λ_ _ _ _ _ _ us hl=>bz3 (us:=us) hl λ_ _ _=>rfl
 have yp:=K3 l.prog w base G.T K1 41 "place_of" rfl v3 (λF=>oks.2.1.2.1 T  F) λ_ _ _ _ _ _ us hl=>bz2 (us:=us) hl λ_ _=>rfl
 have d_ay:=K3 l.prog w base G.T K1 42 "steps_of_askers" rfl v3 (λF=>Kay T yp F) λ_ _ _ _ _ _ us hl=>bz3 (us:=us) hl λ_ _ _=>rfl
 have d_aa:=K3 l.prog w base G.T K1 1 "is_whole" rfl v3 (λF=>oks.2.1.2.2.1 T  F) λ_ _ _ _ _ _ us hl=>bz1 (us:=us) hl λ_=>rfl
 have wS:=K3 l.prog w base G.T K1 2 "is_number_below" rfl v3 (λF=>oks.2.1.2.2.2.1 T d_aa F) λ_ _ _ _ _ _ us hl=>bz2 (us:=us) hl λ_ _=>rfl
 have d_ad:=K3 l.prog w base G.T K1 14 "is_rank" rfl v3 (λF=>oks.2.1.2.2.2.2.1 T wS F) λ_ _ _ _ _ _ us hl=>bz2 (us:=us) hl λ_ _=>rfl
 have d_ae:=K3 l.prog w base G.T K1 15 "is_asker_list" rfl v3 (λF=>oks.2.1.2.2.2.2.2.1 T d_ad F) λ_ _ _ _ _ _ us hl=>bz2 (us:=us) hl λ_ _=>rfl
 have d_af:=K3 l.prog w base G.T K1 16 "look_at_lists" rfl v3 (λF=>oks.2.1.2.2.2.2.2.2.1 T d_ae F) λ_ _ _ _ _ _ us hl=>bz2 (us:=us) hl λ_ _=>rfl
 have d_ac:=K3 l.prog w base G.T K1 13 "look_at_copies" rfl v3 (λF=>oks.2.1.2.2.2.2.2.2.2 T wS F) λ_ _ _ _ _ _ us hl=>bz1 (us:=us) hl λ_=>rfl
 have wD:=K3 l.prog w base G.T K1 17 "look_at_wishes" rfl v3 (λF=>oks.2.2.1.1 T d_af d_ac F) λ_ _ _ _ _ _ us hl=>bz1 (us:=us) hl λ_=>rfl
 have d_al:=K3 l.prog w base G.T K1 23 "copies_left" rfl v3 (λF=>oks.2.2.1.2.1 T wD F) λ_ _ _ _ _ _ us hl=>bz2 (us:=us) hl λ_ _=>rfl
 have d_az:=K3 l.prog w base G.T K1 43 "steps_of_copies" rfl v3 (λF=>oks.2.2.1.2.2.1 T d_al F) λ_ _ _ _ _ _ us hl=>bz2 (us:=us) hl λ_ _=>rfl
 have yZ:=K3 l.prog w base G.T K1 44 "all_steps" rfl v3 (λF=>oks.2.2.1.2.2.2.1 T d_ay d_az F) λ_ _ _ _ _ _ us hl=>bz3 (us:=us) hl λ_ _ _=>rfl
 have d_bb:=K3 l.prog w base G.T K1 45 "longer_walks" rfl v3 (λF=>oks.2.2.1.2.2.2.2.1 T  F) λ_ _ _ _ _ _ us hl=>bz2 (us:=us) hl λ_ _=>rfl
 have yY:=K3 l.prog w base G.T K1 46 "widest_walks" rfl v3 (λF=>oks.2.2.1.2.2.2.2.2.1 T d_bb F) λ_ _ _ _ _ _ us hl=>bz2 (us:=us) hl λ_ _=>rfl
 have d_bh:=K3 l.prog w base G.T K1 51 "prices_for" rfl v3 (λF=>oks.2.2.1.2.2.2.2.2.2.1 T yZ yY F) λ_ _ _ _ _ _ us hl=>bz3 (us:=us) hl λ_ _ _=>rfl
 have d_bj:=K3 l.prog w base G.T K1 53 "paper_for" rfl v3 (λF=>oks.2.2.1.2.2.2.2.2.2.2 T d_bi d_bh F) λ_ _ _ _ _ _ us hl=>bz3 (us:=us) hl λ_ _ _=>rfl
 have d_bd:=K3 l.prog w base G.T K1 47 "round_within" rfl v3 (λF=>oks.2.2.2.1.1 T  F) λ_ _ _ _ _ _ us hl=>bz1 (us:=us) hl λ_=>rfl
 have d_be:=K3 l.prog w base G.T K1 48 "way_round" rfl v3 (λF=>oks.2.2.2.1.2.1 T  F) λ_ _ _ _ _ _ us hl=>bz2 (us:=us) hl λ_ _=>rfl
 have d_bf:=K3 l.prog w base G.T K1 49 "gaining_way" rfl v3 (λF=>oks.2.2.2.1.2.2.1 T yZ yY d_bd d_be F) λ_ _ _ _ _ _ us hl=>bz3 (us:=us) hl λ_ _ _=>rfl
 have d_aw:=K3 l.prog w base G.T K1 39 "behind_way" rfl v3 (λF=>oks.2.2.2.1.2.2.2.1 T  F) λ_ _ _ _ _ _ us hl=>bz2 (us:=us) hl λ_ _=>rfl
 have d_bg:=K3 l.prog w base G.T K1 50 "best_by" rfl v3 (λF=>oks.2.2.2.1.2.2.2.2.1 T d_bf d_aw F) λ_ _ _ _ _ _ us hl=>bz2 (us:=us) hl λ_ _=>rfl
 have d_ak:=K3 l.prog w base G.T K1 21 "all_wishes" rfl v3 (λF=>oks.2.2.2.1.2.2.2.2.2.1 T wD F) λ_ _ _ _ _ _ us hl=>bz1 (us:=us) hl λ_=>rfl
 have yq:=K3 l.prog w base G.T K1 33 "power" rfl v3 (λF=>oks.2.2.2.1.2.2.2.2.2.2.1 T  F) λ_ _ _ _ _ _ us hl=>bz2 (us:=us) hl λ_ _=>rfl
 have d_at:=K3 l.prog w base G.T K1 35 "worth_by_turns" rfl v3 (λF=>oks.2.2.2.1.2.2.2.2.2.2.2 T yq F) λ_ _ _ _ _ _ us hl=>bz4 (us:=us) hl λ_ _ _ _=>rfl
 have d_as:=K3 l.prog w base G.T K1 34 "worth_by_order" rfl v3 (λF=>oks.2.2.2.2.1.1 T yq F) λ_ _ _ _ _ _ us hl=>bz4 (us:=us) hl λ_ _ _ _=>rfl
 have d_ai:=K3 l.prog w base G.T K1 19 "rank_in" rfl v3 (λF=>oks.2.2.2.2.1.2.1 T  F) λ_ _ _ _ _ _ us hl=>bz2 (us:=us) hl λ_ _=>rfl
 have d_au:=K3 l.prog w base G.T K1 36 "worth_by_aim" rfl v3 (λF=>oks.2.2.2.2.1.2.2.1 T yq d_at d_as d_ai F) λ_ _ _ _ _ _ us hl=>bz5 (us:=us) hl λ_ _ _ _ _=>rfl
 have d_aj:=K3 l.prog w base G.T K1 20 "longest" rfl v3 (λF=>oks.2.2.2.2.1.2.2.2.1 T wD F) λ_ _ _ _ _ _ us hl=>bz1 (us:=us) hl λ_=>rfl
 have d_ap:=K3 l.prog w base G.T K1 30 "is_turns" rfl v3 (λF=>oks.2.2.2.2.1.2.2.2.2.1 T wS F) λ_ _ _ _ _ _ us hl=>bz2 (us:=us) hl λ_ _=>rfl
 have d_ao:=K3 l.prog w base G.T K1 29 "is_old" rfl v3 (λF=>oks.2.2.2.2.1.2.2.2.2.2.1 T wS F) λ_ _ _ _ _ _ us hl=>bz3 (us:=us) hl λ_ _ _=>rfl
 have d_am:=K3 l.prog w base G.T K1 26 "is_order" rfl v3 (λF=>oks.2.2.2.2.1.2.2.2.2.2.2.1 T  F) λ_ _ _ _ _ _ us hl=>bz1 (us:=us) hl λ_=>rfl
 have y0:=K3 l.prog w base G.T K1 27 "look_at_order" rfl v3 (λF=>oks.2.2.2.2.1.2.2.2.2.2.2.2 T d_am F) λ_ _ _ _ _ _ us hl=>bz1 (us:=us) hl λ_=>rfl
 have d_aq:=K3 l.prog w base G.T K1 31 "look_at_aim" rfl v3 (λF=>oks.2.2.2.2.2.1.1 T d_ap d_ao y0 wD F) λ_ _ _ _ _ _ us hl=>bz2 (us:=us) hl λ_ _=>rfl
 have d_av:=K3 l.prog w base G.T K1 37 "all_worths" rfl v3 (λF=>oks.2.2.2.2.2.1.2.1 T d_ak d_au d_aj d_aq F) λ_ _ _ _ _ _ us hl=>bz2 (us:=us) hl λ_ _=>rfl
 have d_bk:=K3 l.prog w base G.T K1 55 "best_dealing" rfl v3 (λF=>oks.2.2.2.2.2.1.2.2.1 T d_bj d_bg d_av F) λ_ _ _ _ _ _ us hl=>bz2 (us:=us) hl λ_ _=>rfl
 have d_ah:=K3 l.prog w base G.T K1 18 "copied_wishes" rfl v3 (λF=>oks.2.2.2.2.2.1.2.2.2.1 T  F) λ_ _ _ _ _ _ us hl=>bz1 (us:=us) hl λ_=>rfl
 have d_bm:=K3 l.prog w base G.T K1 59 "behind_change" rfl v3 (λF=>oks.2.2.2.2.2.1.2.2.2.2.1 T  F) λ_ _ _ _ _ _ us hl=>bz2 (us:=us) hl λ_ _=>rfl
 have d_bl:=K3 l.prog w base G.T K1 58 "has_change_form" rfl v3 (λF=>oks.2.2.2.2.2.1.2.2.2.2.2.1 T wS (Bg G.T.g Y0.2) F) λ_ _ _ _ _ _ us hl=>bz2 (us:=us) hl λ_ _=>rfl
 have yX:=K3 l.prog w base G.T K1 60 "changed" rfl v3 (λF=>oks.2.2.2.2.2.1.2.2.2.2.2.2.1 T d_ah wD d_bm d_bl F) λ_ _ _ _ _ _ us hl=>bz2 (us:=us) hl λ_ _=>rfl
 have d_bo:=K3 l.prog w base G.T K1 61 "carried" rfl v3 (λF=>oks.2.2.2.2.2.1.2.2.2.2.2.2.2 T yX F) λ_ _ _ _ _ _ us hl=>bz3 (us:=us) hl λ_ _ _=>rfl
 have d_bp:=K3 l.prog w base G.T K1 63 "mended" rfl v3 (λF=>oks.2.2.2.2.2.2.1.1 T d_bk d_bo yX y0 wD F) λ_ _ _ _ _ _ us hl=>bz4 (us:=us) hl λ_ _ _ _=>rfl
 have d_cb:=K3 l.prog w base G.T K1 76 "_law_good" rfl v3 (λF=>oks.2.2.2.2.2.2.1.2.1 T  F) λ_ _ _ _ _ _ us hl=>bz2 (us:=us) hl λ_ _=>rfl
 have yW:=K3 l.prog w base G.T K1 65 "_law_cell_at" rfl v3 (λF=>oks.2.2.2.2.2.2.1.2.2.1 T  F) λ_ _ _ _ _ _ us hl=>bz2 (us:=us) hl λ_ _=>rfl
 have d_bz:=K3 l.prog w base G.T K1 74 "_law_ranks" rfl v3 (λF=>oks.2.2.2.2.2.2.1.2.2.2.1 T  F) λ_ _ _ _ _ _ us hl=>bz2 (us:=us) hl λ_ _=>rfl
 have w8:=K3 l.prog w base G.T K1 66 "_law_numbers" rfl v3 (λF=>oks.2.2.2.2.2.2.1.2.2.2.2.1 T  F) λ_ _ _ _ _ _ us hl=>bz3 (us:=us) hl λ_ _ _=>rfl
 have d_ca:=K3 l.prog w base G.T K1 75 "_law_change" rfl v3 (λF=>oks.2.2.2.2.2.2.1.2.2.2.2.2.1 T d_bz w8 F) λ_ _ _ _ _ _ us hl=>bz3 (us:=us) hl λ_ _ _=>rfl
 have d_bw:=K3 l.prog w base G.T K1 71 "_law_dealt" rfl v3 (λF=>oks.2.2.2.2.2.2.1.2.2.2.2.2.2.1 T yV w8 F) λ_ _ _ _ _ _ us hl=>bz3 (us:=us) hl λ_ _ _=>rfl
 have d_bs:=K3 l.prog w base G.T K1 67 "_law_wishes" rfl v3 (λF=>oks.2.2.2.2.2.2.1.2.2.2.2.2.2.2 T w8 yW F) λ_ _ _ _ _ _ us hl=>bz5 (us:=us) hl λ_ _ _ _ _=>rfl
 have d_cf:=K3 l.prog w base G.T K1 80 "_law_block" rfl v3 (λF=>oks.2.2.2.2.2.2.2.1 T d_ce d_by d_cd d_cc d_bp d_cb yW d_ca w8 d_bw d_bs F) λ_ _ _ _ _ _ us hl=>bz2 (us:=us) hl λ_ _=>rfl
 exact λ{_ _} F=>oks.2.2.2.2.2.2.2.2 T d_cf F
noncomputable abbrev d_cg:DefRec:=⟨"law", W5 Scg,XF Scg,ZT Scg,Et Scg⟩
theorem walk{XP:(Str->wj)->Heap->Prop}(hlaw:∀ns:wc,ns.length<=63->Vp [.list (ns.map int)]=O (.bool v5)):PySem.W.WalkO q0 ["SIZES"] XP (λw h=>XYP p0 clsL h/\TabP w "SIZES" [("list", 3),("copies", 3),("come", 2),("go", 2),("thing", 2)] h) (PySem.Challenge.rw_wishdeal_k75_whole_fewest_moved).row.toRowW d_cg [] (λf vs=>PySem.call f vs):=
 j6 (n:=63) (k:=15) (x:= "_law_script") v3 (by decide) v3 ⟨rfl,by decide,by decide,rfl⟩ (λ_ _ _ _ _ _ G Y hm=>Dd G Y hm) hlaw
theorem C7{g:M wb}{Z Z1:U7}{xs r:wb}(h1:g Z=.ok xs Z1)(h2:Tl xs=O r):Po g Z=.ok r Z1:=by unfold Po;exact Za h1 (Yq h2)
theorem Mm{f:M D}{Z Z1:U7}{d:D}{t:Bool}(h:f Z=.ok d Z1)(ht:(!isNon d)=t):Ke (λd=>!isNon d) f Z=.ok t Z1:=by subst ht;exact KY (k:=λd=>!isNon d) h
theorem Fd{sizes found:wc}{z d}(h:∀(j:Nat) d z,found[j]?=O d->sizes[j]?=O z->0<=d/\d<z)(hz:sizes[found.length]?=O z)(h0:0<=d/\d<z) :
  ∀(j:Nat) d' z',(found++[d])[j]?=O d'->sizes[j]?=O z'->0<=d'/\d'<z':=by
 intro j d' z' e1 e2;by_cases hj:j<found.length
 .rw[Qu hj]at e1
  exact h j d' z' e1 e2
 .by_cases hj2:j=found.length
  .simp_all
  .rw[Q0 (by rw[Qj,QD];lia)]at e1
   cases e1
noncomputable abbrev pb(d:D):Option Sl:=O (.pub d)
def inv(c s:Int)(sizes:wc)(n:Int)(i:Nat)(Z:U7):Prop:=∃left found x6 x7,Z=[O (Sl.pub (.int c)),pb (.int s),pb (.list (sizes.map .int)),pb (.int n),pb (.int left),O (.own ((found:wc).map .int)),x6,x7] /\
 found.length=i/\∀(j:Nat) d z,found[j]?=O d->sizes[j]?=O z->0<=d/\d<z
theorem qS{c s n:Int}{sizes:wc}(hs:∀x∈sizes,0<x/\x<18446744073709551616)(hl:sizes.length<=1000){i:Nat}{d:D}{Z:U7}{Q:Out->Prop}(hi:(Z8 0 sizes.length)[i]?=O d)(h:inv c s sizes n i Z) :
  ∃Z2,gN 6 d Z=O Z2/\Ho O6 Z2 (Tq (inv c s sizes n (i+1)) Q):=by
 obtain⟨left,found,x6,x7,rfl,hf,hfd⟩:=h;obtain⟨rfl,hlt⟩:=Wi hi;obtain⟨z,hz⟩:∃z,sizes[i]?=O z:=⟨sizes[i]'(by lia),Qd _⟩
 obtain⟨z1,z2⟩:=hs z (Qr hz);have hix:oIx (.list (sizes.map int)) (.int (0+(i:Int)))=O (.int z):=by rw[JL];exact Z7 (by rw[Qf,hz];rfl)
 generalize hk:(0:Int)+(i:Int)=k at hix⊢;have hk1:k<18446744073709551616:=by lia
 have hk2 : -18446744073709551616<k:=by lia
 have hlen:(found.map int).length<1000000:=by rw[Qb];lia
 have pw:Vk (.int 10) (.int 18)=O (.int 1000000000000000000):=by rw[Bv (by decide)];rfl
 refine⟨_,Ka (Qa v3) v3,?_⟩;unfold O6;apply KE
 case h1=>exact Pt (Yk v3 (Kf U8 U8 pw) v3) λ_=>Yk v3 U8 v3
 case h2=>intro _;refine Kn (Xj v3 (Kf (U2 v3) (Ko v3 (U2 v3) hix) (W7 (by lia))) v3 hlen v3) ?_;refine Zz (KH (Kf (U2 v3) (Ko v3 (U2 v3) hix) (LV (by lia) (by lia))) (Qa v3) v3) (Zu ?_);exact⟨_,found++[left % z],_,_,by rw[Qt];rfl,by rw[Qj,hf];rfl,Fd hfd (by rw[hf];exact hz) ⟨Uq _ (by lia),J9 _ z1⟩⟩
 case h3=>intro _;refine Kn (KH (Kf (Kf (Kf (Kf (U2 v3) (Kf U8 (U2 v3) (R1 (by decide) (by decide))) Zf) (Kf (Kf U8 (U2 v3) (R1 (by decide) (by decide))) (U2 v3) (WU hk2 hk1)) Zf) (U2 v3) Zf) U8 (W7 (by decide))) (Qa v3) v3) ?_;refine Kn (KH (Kf (Kf (U2 v3) U8 (WU (by decide) (by decide))) U8 (W7 (by decide))) (Qa v3) v3) ?_;refine Kn (KH (Kf (Kf (Kf (Kf (U2 v3) (U2 v3) (WU (by lia) (by lia))) U8 (W7 (by decide))) U8 (WU (by decide) (by decide))) U8 (W7 (by decide))) (Qa v3) v3) ?_;refine Zz (Xj v3 (Kf (Kf (U2 v3) U8 (LV (by decide) (by decide))) (Ko v3 (U2 v3) hix) (W7 (by lia))) v3 hlen v3) (Zu ?_);exact⟨_,found++[_ % z],_,_,by rw[Qt];rfl,by rw[Qj,hf];rfl,Fd hfd (by rw[hf];exact hz) ⟨Uq _ (by lia),J9 _ z1⟩⟩
theorem R8(c s:Int){sizes:wc}(hs:∀x∈sizes,0<x/\x<18446744073709551616)(hl:sizes.length<=1000) :
  ∃r,Yw [.int c,.int s,.list (sizes.map int)]=O r/\∃ds:wc,r=.list (ds.map .int)/\ds.length=sizes.length/\∀(j:Nat) d z,ds[j]?=O d->sizes[j]?=O z->0<=d/\d<z:=by
 refine WI  rfl ?_;refine Kn (KH (ZI (U6 (U2 v3) (U6 (Kf (Tr U8) (U2 v3) Y9) Kb)) Nj) (Qa v3) v3) ?_;refine Kn (KH (U2 v3) (Qa v3) v3) ?_;refine Kn (Yb (WO Kb (Qa v3)) (Qa v3) v3) ?_;apply KD;apply ZX  (inv c s sizes _)
 case h1=>exact We (U6 (Zq v3 (by rw[Zw,Qb])) Kb) (Wc (by lia) (by lia))
 case h0=>exact⟨_,[],v4,v4,rfl,rfl,λj d z e=>by cases e⟩
 case hst=>exact λi d Z e h=>qS hs hl e h
 case hend=>rintro Z ⟨left,found,x6,x7,rfl,hf,hfd⟩;rw[XG]at hf;exact KB (KG (Yc rfl rfl) ⟨_,rfl,found,rfl,by lia,hfd⟩)
mutual
theorem HZ:∀(d:PyData),d.canLay0=v5->US d d=v5
 |.none,_=>rfl
 |.bool b,_=>by cases b<;>rfl
 |.int i,_=>by simp[US]
 |.str s,_=>by simp[US]
 |.list xs,h=>eqvAll_refl xs h
 |.tuple xs,h=>eqvAll_refl xs h
 |.dict _,h=>by cases h
theorem eqvAll_refl:∀(xs:List PyData),UQ xs=v5->PyData.eqvAll xs xs=v5
 |[],_=>rfl
 |x::r,h=>by
  have h:(PyData.canLay0 x&&UQ r)=v5:=h;rw[QI]at h
  show(US x x&&PyData.eqvAll r r)=v5
  rw[HZ x h.1,eqvAll_refl r h.2];rfl
end
theorem Tj:∀{xs:wb},(∀x∈xs,PyData.canLay0 x=v5)->UQ xs=v5
 |[],_=>rfl
 |x::r,h=>by
  show(PyData.canLay0 x&&UQ r)=v5
  rw[h x Qo,Tj λy hy=>h y (Qk _ hy)];rfl
theorem TJ  : ∀{xs:wb},(∀x∈xs,UR x<=n)->PyData.depthAll xs<=n
 |[],_=>by simp[PyData.depthAll]
 |x::r,h=>by
  have h1:=h x Qo;have h2:=TJ  λy hy=>h y (Qk _ hy);simp only[PyData.depthAll]
  lia
noncomputable def Zg(r:wc):D:=.list (r.map int)
noncomputable def KI(rs:List wc):D:=.list (rs.map Zg)
noncomputable def Kw(cs:wc)(ls:L3):D:=.tuple [.list (cs.map int),.list (ls.map KI)]
structure Yp(n:Nat)(rs:List wc):Prop where
 few:rs.length<=5
 some:∀r∈rs,r≠[]
 there:∀r∈rs,∀t∈r,0<=t/\t<n
 once:rs.flatten.Nodup
structure Good(cs:wc)(ls:L3):Prop where
 c1:1<=cs.length
 c6:cs.length<=6
 c7:∀c∈cs,0<=c/\c<8
 l1:1<=ls.length
 l7:ls.length<=7
 rk:∀rs∈ls,Yp cs.length rs
theorem P5(r):(Zg r).canLay0=v5:=Tj λx hx=>by obtain⟨y,_,rfl⟩:=Qn.mp hx;rfl
theorem jg(rs):(KI rs).canLay0=v5:=Tj λx hx=>by obtain⟨y,_,rfl⟩:=Qn.mp hx;exact P5 y
theorem AW(cs)(ls):(Kw cs ls).canLay0=v5:=Tj λx hx=>by
 have hx   :=by simpa using hx
 rcases hx with rfl|rfl
 .exact P5 cs
 .exact Tj λx hx=>by obtain⟨y,_,rfl⟩:=Qn.mp hx;exact jg y
theorem LH(i:Int):(int i).depth<=1:=by simp[UR]
theorem RR  {xs:wb}(h:PyData.depthAll xs<=n):(UM xs).depth<=n+1:=by simp only[UR];lia
theorem P4(r):(Zg r).depth<=2:=RR (TJ λx hx=>by obtain⟨y,_,rfl⟩:=Qn.mp hx;exact LH y)
theorem jf(rs):(KI rs).depth<=3:=RR (TJ λx hx=>by obtain⟨y,_,rfl⟩:=Qn.mp hx;exact P4 y)
theorem AV(cs:wc)(ls:L3):(Kw cs ls).depth<=60:=by
 have h:PyData.depthAll [.list (cs.map int),.list (ls.map KI)]<=4:=TJ λx hx=>by
  have hx:x=.list (cs.map int)∨x=.list (ls.map KI):=by simpa using hx
  rcases hx with rfl|rfl
  .have:=P4 cs;unfold Zg at this;omega
  .exact RR (TJ λx hx=>by obtain⟨y,_,rfl⟩:=Qn.mp hx;exact jf y)
 unfold Kw;simp only[UR]at h⊢;omega
theorem je(i):WC [.int i]=O (.bool v5):=by refine Ze  rfl ?_;exact KG (W8 (KY (U2 v3)) (λ_=>Bw (KY (U2 v3)))) v3
theorem Og  (h0:0<=i)(h1:i<m):ZB [.int i,.int m]=O (.bool v5):=by
 refine Ze  rfl ?_;have hb:(decide (0<=i)&&decide (i<m))=v5:=by simp_all
 refine KG (W8   (Kx (U6 (U2 v3) Kb) v3 (je i)) (λ_=>?_)) v3;rw[←hb];exact KY (P6 U8 (U2 v3) v3 (λ_=>U2 v3) (λ_=>rfl))
theorem Of{α:Type}(l:List α):Yv [.list (l.map λ_=>.bool v5)]=O (.bool v5):=by
 have:(l.map λ_=>UN v5)=(l.map λ_=>v5).map UN:=by rw[QT];rfl
 rw[this,LS];simp_all
theorem xI{r:wc}{n:Int}(hne:r≠[])(hl:r.length<=1000)(h:∀t∈r,0<=t/\t<n):WB [Zg r,.int n]=O (.bool v5):=by
 refine Ze  rfl ?_;apply KD;have hlen:Kr [Zg r]=O (.int r.length):=by unfold Zg;rw[Zw,Qb]
 have hp:0<r.length:=JQ.mpr hne;apply KE
 case h1=>exact XJ  (WS (U2 v3) v3) (Kf (Zq v3 hlen) U8 YL)
 case h2=>intro hh;lia
 case h3=>
  intro _;refine KO (KB ?_)
  have hc:Zp (gN 2) (U3 v5) (Kd 2 ZB (U1 (UZ 2) (U1 (UZ 1) (U0)))) (r.map int) (KT [pb (Zg r),pb (.int n)]++UL 1 v4) []=O (r.map λ_=>.bool v5):=by
   rw[TK (λ_=>v5) (λ_=>.bool v5) (λZ=>∃x,Z=[pb (Zg r),pb (.int n),x])]
   .rw[JY.mpr (λ_ _=>rfl),Jd,QT];rfl
   .rintro d hm Z ⟨x,rfl⟩
    obtain⟨t,ht,rfl⟩:=Qn.mp hm;exact⟨_,Ka (Qa v3) v3,rfl,λ_=>Kx (U6 (U2 v3) (U6 (U2 v3) Kb)) v3 (Og (h t ht).1 (h t ht).2),_,rfl⟩
   .exact⟨v4,rfl⟩
   .rw[Qb,QC];lia
  exact KG (ZI (U6 (KY (Yj (ZD (U2 v3) v3) hc)) Kb) (Of r)) v3
theorem GV  (ha:K5 a=a)(hb:K5 b=b)(hc:K5 c=c)(hx:K5 x3=x3):∀(ds es:wb)(x4),es.length+ds.length<=1000000 ->
  ∃y,YZ (gN 4) (U3 v5) (UZ 4) ds [a,b,c,x3,x4] es=O (es++ds,[a,b,c,x3,y])
 |[],es,x4,_=>⟨x4,by rw[YZ,Jc]⟩
 |d::r,es,x4,h=>by
  rw[Qv]at h;obtain⟨y,e⟩:=GV ha hb hc hx r (es++[d]) _ (by rw[Qj,QD];lia);refine⟨y,?_⟩;rw[YZ];have h1:gN 4 d [a,b,c,x3,x4]=O [a,b,c,x3,pb d]:=Ka (Qa v3) v3;rw[h1];dsimp only[U3];rw[Qq v3];have h2:UZ 4 [a,b,c,x3,pb d]=.ok d [a,b,c,x3,pb d]:=U2 v3;rw[h2];dsimp only;rw[Qq (by lia)];have h3:KT [a,b,c,x3,pb d]=[a,b,c,x3,pb d]:=by unfold KT;simp only[QF,ha,hb,hc,hx];rfl
  rw[h3,e,Q2];rfl
theorem FG{a b:D}:∀(rs:List wc)(es:wb)(x3 x4:Option Sl),es.length+rs.flatten.length<=1000000 ->
  WM (gN 3) (U3 v5) (K8 (UZ 3)) (gN 4) (U3 v5) (UZ 4) (rs.map Zg) [pb a,pb b,v4,x3,x4] es=O (es++rs.flatten.map int)
 |[],es,_,_,_=>by rw[List.map_nil,WM];simp
 |r::rs,es,x3,x4,h=>by rw[Jg,Qj]at h;rw[QF,WM];have h1:gN 3 (Zg r) [pb a,pb b,v4,x3,x4]=O [pb a,pb b,v4,pb (Zg r),x4]:=Ka (Qa v3) v3;rw[h1];dsimp only[U3];rw[Qq v3];have h2:K8 (UZ 3) [pb a,pb b,v4,O _,x4]=.ok (r.map int) [pb a,pb b,v4,pb (Zg r),x4]:=ZD (U2 v3) v3;rw[h2];dsimp only;have h3:KT [pb a,pb b,v4,pb (Zg r),x4]=[pb a,pb b,v4,O _,K5 x4]:=rfl;rw[h3];obtain⟨y,e⟩:=GV (a:=O (.pub a)) (b:=O (.pub b)) (c:=v4) (x3:=O (.pub (Zg r))) v3 v3 v3 v3 (r.map int) es (K5 x4) (by rw[Qb];lia);rw[e];dsimp only;have ih:=FG (a:=a) (b:=b) rs (es++r.map int) (O (.pub (Zg r))) y (by rw[Qj,Qb];lia);refine Eq.trans ih ?_;rw[Jg,Qt,Q2]
theorem Fc  (h:ns.Nodup):RH ns=ns.length:=by
 have:∀i,i<=ns.length->(PyProof.Rows.firstMet (λi=>ns.getD i 0) i).length=i:=by
  intro i;induction i with
  |zero=>intro _;rfl
  |succ i ih=>
   intro hi;rw[PyProof.Rows.firstMet_succ]
   have hany:(PyProof.Rows.firstMet (λi=>ns.getD i 0) i).any (· == ns.getD i 0)=wa:=by
    rw[PyProof.Rows.firstMet_any,List.any_eq_false];intro x hx;obtain⟨j,hj,rfl⟩:=Qn.mp hx;have hj:=Q3.mp hj;intro e;have e   :=by simpa using e
    have l1:j<ns.length:=by lia
    have l2:i<ns.length:=by lia
    simp only[Qd l1,Qd l2]at e;exact absurd ((List.getElem_inj h).mp e) (by lia)
   unfold PyProof.Rows.step_dedup;rw[hany];rw[QB (by decide),Qj,ih (by lia)];rfl
 exact this ns.length (Qp _)
theorem xW{rs:List wc}{n:Nat}(g:Yp n rs)(hn:n<=6)(hf:rs.flatten.length<=1000):V1 [KI rs,.int n]=O (.bool v5):=by
 refine Ze (Z:=[pb (KI rs),pb (.int n),v4]) v3 ?_;unfold SE;have hlen:Kr [KI rs]=O (.int rs.length):=by unfold KI;rw[Zw,Qb]
 have h5:=g.few;have wM:∀r∈rs,r.length<=1000:=λr hr=>QE (List.Sublist.length_le (List.sublist_flatten_of_mem hr)) hf;apply KD;apply KE
 case h1=>exact XJ  (WS (U2 v3) v3) (Kf (Zq v3 hlen) U8 v3)
 case h2=>intro hh;lia
 case h3=>
  intro _;refine KO (KB ?_)
  have hc:Zp (gN 3) (U3 v5) (Kd 2 WB (U1 (UZ 3) (U1 (UZ 1) (U0)))) (rs.map Zg) (KT [pb (KI rs),pb (.int n),v4]++UL 1 v4) []=O (rs.map λ_=>.bool v5):=by
   rw[TK (λ_=>v5) (λ_=>.bool v5) (λZ=>∃x,Z=[pb (KI rs),pb (.int n),v4,x])]
   .rw[JY.mpr (λ_ _=>rfl),Jd,QT];rfl
   .rintro d hm Z ⟨x,rfl⟩
    obtain⟨r,hr,rfl⟩:=Qn.mp hm;exact⟨_,Ka (Qa v3) v3,rfl,λ_=>Kx (U6 (U2 v3) (U6 (U2 v3) Kb)) v3 (xI (g.some r hr) (wM r hr) (g.there r hr)),_,rfl⟩
   .exact⟨v4,rfl⟩
   .rw[Qb,QC];lia
  apply KD;apply KE
  case h1=>exact XA (Wd (ZI (U6 (KY (Yj (ZD (U2 v3) v3) hc)) Kb) (Of rs)))
  case h2=>intro hh;cases hh
  case h3=>
   intro _;refine KO (KB ?_);have h2:RK (K8 (UZ 0)) 2 (gN 3) (U3 v5) (K8 (UZ 3)) (gN 4) (U3 v5) (UZ 4) [pb (KI rs),pb (.int n),v4]=.ok (rs.flatten.map int) [pb (KI rs),pb (.int n),v4]:=by unfold RK;have e1:K8 (UZ 0) [pb (KI rs),pb (.int n),v4]=.ok (rs.map Zg) [pb (KI rs),pb (.int n),v4]:=ZD (U2 v3) v3;rw[e1];dsimp only;have e2:=FG (a:=KI rs) (b:=.int n) rs [] v4 v4 (by rw[QC];lia);have e3:WM (gN 3) (U3 v5) (K8 (UZ 3)) (gN 4) (U3 v5) (UZ 4) (rs.map Zg) (KT [pb (KI rs),pb (.int n),v4]++UL 2 v4) []=O ([]++rs.flatten.map int):=e2;rw[e3];rfl
   refine Kn (Yb h2 (Qa v3) v3) ?_;have hls:W9 [.list (rs.flatten.map int)]=O (.int rs.flatten.length):=by unfold W9;dsimp only;rw[Rt];dsimp only;rw[Qq (by lia),Fc g.once]
   refine KG (KY (Kf (ZI (U6 (Yc v3 v3) Kb) hls) (Zq v3 Zw) YL)) ?_;rw[Qb];simp
theorem Wb  : ∀{xs}{k i:Nat},(Yz k xs)[i]?=O d->∃x,xs[i]?=O x/\d=.tuple [.int ((k+i:Nat):Int),x]
 |[],k,i,h=>by cases h
 |x::r,k,0,h=>by cases h;exact⟨x,rfl,rfl⟩
 |x::r,k,i+1,h=>by obtain⟨y,e,q⟩:=Wb   (i:=i) h;exact⟨y,e,by rw[q];congr 4;lia⟩
theorem RY:∀(n:Nat)(l:wc),l.Nodup->(∀x∈l,0<=x/\x<n)->l.length<=n
 |0,[],_,_=>Qp _
 |0,x::r,_,h=>by have:=h x Qo;lia
 |n+1,l,hn,h=>by
  by_cases hm:(n:Int)∈l
  .have:=RY n (l.erase (n)) (hn.erase _) λx hx=>by
    have h1:=(List.Nodup.mem_erase_iff hn).mp hx;have h2:=h x h1.2
    lia
   simp_all
  .have:=RY n l hn λx hx=>by
    have h2:=h x hx;have h3:x≠(n):=λe=>hm (e ▸ hx)
    lia
   lia
theorem TB   (g:Yp n rs):rs.flatten.length<=n:=RY n _ g.once λx hx=>by obtain⟨r,hr,hxr⟩:=J0.mp hx;exact g.there r hr x hxr
theorem jd{cs:wc}(h1:1<=cs.length)(h6:cs.length<=6)(h:∀c∈cs,0<=c/\c<8):V2 [.list (cs.map int)]=O .none:=by
 refine RG  rfl ?_;unfold SF;have hlen:Kr [.list (cs.map int)]=O (.int cs.length):=by rw[Zw,Qb]
 apply KD;apply KE
 case h1=>exact XJ  (WS (U2 v3) v3) (XA (P6 U8 (Zq v3 hlen) v3 (λ_=>U8) (λ_=>rfl)))
 case h2=>
  intro hh;have a1:(1:Int)<=(cs.length:Int):=by lia
  have a2:(cs.length:Int)<=6:=by lia
  simp[a1,a2]at hh
 case h3=>
  intro _;refine KO (KB ?_);apply ZX (λ_ Z=>∃x1 x2,Z=[O _,x1,x2])
  case h1=>exact WN (U6 (U2 v3) Kb) WT
  case h0=>exact⟨_,_,rfl⟩
  case hst=>
   rintro i d Z hi ⟨x1,x2,rfl⟩;obtain⟨x,hx,rfl⟩:=Wb hi;obtain⟨c,hc,rfl⟩:=Qn.mp (Qr hx);refine⟨_,KJ v3 (Kh (Ka (Qa v3) v3) (Kh (Ka (Qa v3) v3) KL)),?_⟩;unfold Lk;apply KE
   case h1=>exact XA (Wd (Kx (U6 (U2 v3) (U6 (Kf U8 U8 Zf) Kb)) v3 (Og (h c hc).1 (by have:=(h c hc).2;lia))))
   case h2=>intro hh;cases hh
   case h3=>exact λ_=>KO (Zu ⟨_,_,rfl⟩)
  case hend=>exact λZ ⟨x1,x2,e⟩=>⟨_,rfl⟩
theorem AU{ls:L3}{n:Nat}(hn:n<=6)(h1:1<=ls.length)(h7:ls.length<=7)(h:∀rs∈ls,Yp n rs):V0 [.list (ls.map KI),.int n]=O .none:=by
 refine RG  rfl ?_;unfold SD;have hlen:Kr [.list (ls.map KI)]=O (.int ls.length):=by rw[Zw,Qb]
 apply KD;apply KE
 case h1=>exact XJ  (WS (U2 v3) v3) (XA (P6 U8 (Zq v3 hlen) v3 (λ_=>U8) (λ_=>rfl)))
 case h2=>
  intro hh;have a1:(1:Int)<=(ls.length:Int):=by lia
  have a2:(ls.length:Int)<=7:=by lia
  simp[a1,a2]at hh
 case h3=>
  intro _;refine KO (KB ?_);apply ZX (λ_ Z=>∃x2 x3,Z=[O _,pb (.int n),x2,x3])
  case h1=>exact WN (U6 (U2 v3) Kb) WT
  case h0=>exact⟨_,_,rfl⟩
  case hst=>
   rintro i d Z hi ⟨x1,x2,rfl⟩;obtain⟨x,hx,rfl⟩:=Wb hi;obtain⟨rs,hrs,rfl⟩:=Qn.mp (Qr hx);refine⟨_,KJ v3 (Kh (Ka (Qa v3) v3) (Kh (Ka (Qa v3) v3) KL)),?_⟩;have hfl:=TB (h rs hrs);apply KE
   case h1=>exact XA (Wd (Kx (U6 (U2 v3) (U6 (U2 v3) Kb)) v3 (xW (h rs hrs) hn (by lia))))
   case h2=>intro hh;cases hh
   case h3=>exact λ_=>KO (Zu ⟨_,_,rfl⟩)
  case hend=>exact λZ ⟨x1,x2,e⟩=>⟨_,rfl⟩
theorem TH  {ls}(g:Good cs ls):ZQ [Kw cs ls]=O .none:=by
 refine RG  rfl ?_;apply KD;apply KE
 case h1=>exact XJ  (WS (U2 v3) v3) (Kf (Zq v3 v3) U8 PM)
 case h2=>intro hh;cases hh
 case h3=>
  intro _;refine KO (KB ?_);have hlen:Kr [.list (cs.map int)]=O (.int (cs.length:Nat)):=by rw[Zw,Qb]
  refine Kn (Xz (U2 v3) (KJ v3 (Kh (Ka (Qa v3) v3) (Kh (Ka (Qa v3) v3) KL)))) ?_;refine Kn (Xi (Kx (U6 (U2 v3) Kb) v3 (jd g.c1 g.c6 g.c7))) ?_;exact Zz (Xi (Kx (U6 (U2 v3) (U6 (Zq v3 hlen) Kb)) v3 (AU g.c6 g.l1 g.l7 g.rk))) ⟨_,rfl⟩
theorem HY:∀(xs ys:wc),PyData.eqvAll (xs.map int) (ys.map int)=decide (xs=ys)
 |[],[]=>rfl
 |[],y::ys=>by simp[PyData.eqvAll]
 |x::xs,[]=>by simp[PyData.eqvAll]
 |x::xs,y::ys=>by
  have ih:=HY xs ys
  show(US _ _&&PyData.eqvAll _ _)=_
  have:US (.int x) (.int y)=decide _:=rfl;simp_all
theorem GU  : oNe (.list (xs.map int)) (.list [])=O (!decide (xs=[])):=by
 unfold oNe;have h1   :=P5 xs;have h3:(UM (xs.map int)).depth<=60:=by have:=P4 xs;unfold Zg at this;lia
 rw[Qq ⟨h1,rfl,h3⟩]
 congr 2
 exact HY xs []
theorem LG{xs:wb}{x}(h:xs.getLast?=O x):oIx (.list xs) (.int (-1))=O x:=by
 have hl:xs≠[]:=by rintro rfl;cases h
 have hp   :=JQ.mpr hl;rw[List.getLast?_eq_getElem?]at h
 show(ixN xs.length _).bind _=_
 unfold ixN;rw[QB (by decide),Qq (by lia)];have e2:(-1+(xs.length:Int)).toNat=xs.length-1:=by lia
 rw[e2];exact h
theorem RQ{xs:wc}{k}(h:k<xs.length):oIx (.list (xs.map int)) (.int k)=O (.int (xs.getD k 0)):=by refine Z7 ?_;simp[List.getD,List.getElem?_eq_getElem h]
theorem N8(ns:wc)(k:Nat)(hl:ns.length<=1000):∃v,YJ [.list (ns.map int),.int k]=O (.int v):=by
 have hlen:Kr [.list (ns.map int)]=O (.int ns.length):=by rw[Zw,Qb]
 by_cases h:k<ns.length
 .refine⟨ns.getD k 0,Ze  rfl ?_⟩
  apply KD;apply KE
  case h1=>exact Yk v3 (Zq v3 hlen) v3
  case h2=>exact λ_=>KG (Ko v3 (U2 v3) (RQ h)) (Yo v3)
  case h3=>lia
 .refine⟨0,Ze  rfl ?_⟩
  apply KD;apply KE
  case h1=>exact Yk v3 (Zq v3 hlen) v3
  case h2=>lia
  case h3=>exact λ_=>KO (KB (KG U8 v3))
noncomputable def tab:wc:=[1,1,2,0,3,7,1,4,5,6,1]
theorem MD  (h0:0<=z)(h1:z<11):oIx (.list (tab.map int)) (.int z)=O (.int (tab.getD z.toNat 0))/\0<=tab.getD z.toNat 0/\tab.getD z.toNat 0<8:=by
 have e:z=0∨z=1∨z=2∨z=3∨z=4∨z=5∨z=6∨z=7∨z=8∨z=9∨z=10:=by lia
 rcases e with rfl|rfl|rfl|rfl|rfl|rfl|rfl|rfl|rfl|rfl|rfl<;>exact⟨rfl,by decide,by decide⟩
structure WG(n:Nat)(pl:wc)(j:Nat)(rs:List wc):Prop where
 few:rs.length<=j
 some:∀r∈rs,r≠[]
 there:∀r∈rs,∀t∈r,(0<=t/\t<n)/\pl.getD t.toNat 0<1+(j:Int)
 once:rs.flatten.Nodup
noncomputable def X4(n:Nat)(pl:wc)(r:Int):wc:=((UK n).filter λk=>decide (pl.getD k 0=r)).map λk:Nat=>(k:Int)
theorem FF(n)(pl)(r):(X4 n pl r).Nodup:=by refine List.Pairwise.map _ (λa b h e=>h (by lia)) ((List.nodup_range).filter _)
theorem Gw    (h:t∈X4 n pl r):(0<=t/\t<n)/\pl.getD t.toNat 0=r:=by obtain⟨k,hk,rfl⟩:=Qn.mp h;simp_all
theorem WG.add{n:Nat}{pl:wc}{j:Nat}{rs}{row}(g:WG n pl j rs)(hne:row≠[])(hm:∀t∈row,t∈X4 n pl (1+(j:Int)))(hn:row.Nodup):WG n pl (j+1) (rs++[row]) where
 few:=by rw[Qj,QD];have:=g.few;lia
 some:=λr hr=>by
  rcases QW.mp hr with z|z
  .exact g.some r z
  .rw[QM.mp z];exact hne
 there:=λr hr t ht=>by
  rcases QW.mp hr with z|z
  .have:=g.there r z t ht;exact⟨this.1,by lia⟩
  .rw[QM.mp z]at ht
   have:=Gw (hm t ht);exact⟨this.1,by lia⟩
 once:=by
  rw[List.flatten_append,List.flatten_singleton];refine List.nodup_append.mpr ⟨g.once,hn,λa ha b hb e=>?_⟩;subst e;obtain⟨r,hr,har⟩:=J0.mp ha;have h1:=(g.there r hr a har).2;have h2:=(Gw (hm a hb)).2
  lia
theorem WG.next    {rs}(g:WG n pl j rs):WG n pl (j+1) rs:=
 ⟨by have:=g.few;lia,g.some,λr hr t ht=>⟨(g.there r hr t ht).1,by have:=(g.there r hr t ht).2;lia⟩,g.once⟩
theorem WG.good{n:Nat}{pl:wc}{rs:List wc}(g:WG n pl 5 rs):Yp n rs:=⟨g.few,g.some,λr hr t ht=>(g.there r hr t ht).1,g.once⟩
theorem xH{a c:Int}{n i:Nat}{d:D}(h:(WJ a c n)[i]?=O d):d=.int (a+i*c):=by have hl:i<(WJ a c n).length:=(Qg.mp h).1;unfold WJ at h hl;rw[Qb,Qx]at hl;rw[Qf,Qd (by rw[Qx];exact hl),List.getElem_range]at h;cases h;rfl
theorem PV{x:D}{m:Nat}(h:m<=1000):KR (.list [x]) (.int m)=O (.list (UL m x)):=by rw[Fi ⟨by lia,by lia,by show 1*m<=_;lia⟩];simp_all
noncomputable def szG(T A:Nat):wc:=(T:Int)::(A:Int)::UL T 11
noncomputable def YF(T R:Nat):wc:=UL T ((R:Int)+1)++[2]
theorem LF{T A:Nat}:(szG T A).length=T+2:=by unfold szG;simp
theorem HX{T R:Nat}:(YF T R).length=T+1:=by unfold YF;simp
theorem Dc  (h1:1<=T)(h2:T<=6)(h3:1<=A)(h4:A<=7):∀x∈szG T A,0<x/\x<18446744073709551616:=λx hx=>by
 unfold szG at hx
 grind
theorem C6{T R}(h:R<=5):∀x∈YF T R,0<x/\x<18446744073709551616:=λx hx=>by unfold YF at hx;simp only[List.mem_append,QM,List.mem_replicate]at hx;rcases hx with ⟨_,rfl⟩|rfl<;>lia
theorem jc{T R:Nat}:(YF T R)[T]?=O 2:=by unfold YF;simp
theorem Db{T A k}(h:k<T):(szG T A)[2+k]?=O 11:=by unfold szG;rw[show 2+k=k+1+1 by lia,JZ,JZ,Qy,Qq h]
def Ow(T A R:Nat)(S dz sz:D)(at_ n:Nat)(cs pl:wc)(ls:L3)(x9 x10:Option Sl)(j:Nat)(Z:U7):Prop:=∃(rs:List wc)(yt wB:Option Sl),
 Z=[pb S,pb (.int at_),pb (.int (T:Nat)),pb (.int (A:Nat)),pb (.int (R:Nat)),pb sz,pb dz,O (.own (cs.map int)),O (.own (ls.map KI)),x9,x10,pb (.list (pl.map int)),O (.own (rs.map Zg)),yt,wB]/\WG n pl j rs
theorem xG{T A R:Nat}{S dz sz:D}{at_ n:Nat}{cs pl:wc}{ls:L3}{v9 v10:D}{j:Nat}{d:D}{Z:U7}{Q:Out->Prop}(hcs:cs.length=n)(hT:T<=6)(hR:R<=5)(hn:n<=T)(hpl:pl.length=T+1)(wu:pl.getD T 0=0∨pl.getD T 0=1)
  (hj:(Z8 1 ((R:Int)+1))[j]?=O d) (h:Ow T A R S dz sz at_ n cs pl ls (O (.pub v9)) (O (.pub v10)) j Z) :
  ∃Z2,gN 13 d Z=O Z2/\Ho O4 Z2 (Tq (Ow T A R S dz sz at_ n cs pl ls (O (.pub v9)) (O (.pub v10)) (j+1)) Q):=by
 obtain⟨rs,yt,wB,rfl,g⟩:=h;obtain⟨rfl,hlt⟩:=Wi hj;have hj5:j<R:=by lia
 refine⟨_,Ka (Qa v3) v3,?_⟩;unfold O4
 have hrd:Z8 0 ((n:Nat):Int)=(UK n).map λk=>.int (k:Int):=by
  unfold Z8;have:((n:Int)-0).toNat=n:=by lia
  rw[this];apply Js;intro k _;rw[JL]
 have hc:Zp (gN 15) (U5 oEq (U9 11 (UZ 15)) (UZ 13)) (UZ 15) (Z8 0 ((n:Nat):Int)) (KT [pb S,pb (.int at_),pb (.int (T:Nat)),pb (.int (A:Nat)),pb (.int (R:Nat)),pb sz,pb dz,O (.own (cs.map int)),O (.own (ls.map KI)),pb v9,pb v10,pb (.list (pl.map int)),O (.own (rs.map Zg)),pb (.int (1+(j:Int))),wB]++UL 1 v4) []=O ((X4 n pl (1+(j:Int))).map int):=by
  rw[hrd,TK (λd=>match d with | .int k=>decide (pl.getD k.toNat 0=1+(j:Int))|_=>wa) (λd=>d) (λZ=>∃x,Z=[pb S,pb (.int at_),pb (.int (T:Nat)),pb (.int (A:Nat)),pb (.int (R:Nat)),pb sz,pb dz,v4,v4,pb v9,pb v10,pb (.list (pl.map int)),v4,pb (.int (1+(j:Int))),K5 wB,x])]
  .rw[Jd,List.map_id',List.filter_map]
   unfold X4;rw[QT];rfl
  .rintro d hm Z ⟨x,rfl⟩
   obtain⟨k,hk,rfl⟩:=Qn.mp hm;have hk:=Q3.mp hk;refine⟨_,Ka (Qa v3) v3,Kf (Ko v3 (U2 v3) (RQ (by lia))) (U2 v3) YL,λ_=>U2 v3,pb (.int k),?_⟩;unfold KT;cases wB with
   |none=>rfl
   |some sl=>cases sl<;>rfl
  .exact⟨v4,rfl⟩
  .rw[Qb,Qx,QC];lia
 have hlen:(cs.map int).length=n:=by rw[Qb,hcs]
 refine Kn (Yb (Yj (We (U6 (CD v3) Kb) (by rw[hlen];exact Wc (by lia) (by lia))) hc) (Qa v3) v3) ?_;generalize wX:X4 n pl (1+(j:Int))=row;apply KE
 case h1=>exact HF v3 (ZJ Kb (by decide)) v3 GU
 case h2=>
  intro hh;have hne:row≠[]:=by simpa using hh
  have hlx:oIx (.list (pl.map int)) (.int (-1))=O (.int (pl.getD T 0)):=LG (by rw[List.getLast?_eq_getElem?,Qb,hpl,Qf,Nat.add_sub_cancel,Qd (show T<pl.length by lia)];simp[List.getD,List.getElem?_eq_getElem (show T<pl.length by lia)])
  obtain⟨wJ,hix,wL⟩:∃wJ:wc,oIx (.list [.list (row.map int),.list (row.map int).reverse]) (.int (pl.getD T 0))=O (Zg wJ)/\(wJ=row∨wJ=row.reverse):=by
   rcases wu with e|e
   .rw[e];exact⟨row,rfl,.inl v3⟩
   .rw[e];exact⟨row.reverse,by show O (UM (row.map int).reverse)=_;unfold Zg;rw[List.map_reverse],.inr v3⟩
  have wM:(rs.map Zg).length<1000000:=by rw[Qb];have:=g.few;lia
  refine Zz (Xj v3 (Kf (ZJ (U6 (Yc v3 v3) (U6 (MI (U2 v3) U8 U8 (YT (Tr U8))) Kb)) (Qa v3)) (Ko v3 (Tr U8) hlx) hix) v3 wM v3) ?_;refine Zu ⟨rs++[wJ],pb (.int (1+(j:Int))),pb (.list (row.map int)),by rw[Qt];rfl,g.add ?_ ?_ ?_⟩
  .rcases wL with e|e<;>rw[e]
   .exact hne
   .exact λz=>hne (List.reverse_eq_nil_iff.mp z)
  .intro t ht
   rw[wX];rcases wL with e|e<;>rw[e]at ht
   .exact ht
   .exact Uw.mp ht
  .have hnd:=FF n pl (1+(j:Int))
   rw[wX]at hnd;rcases wL with e|e<;>rw[e]
   .exact hnd
   .exact(List.reverse_perm row).nodup_iff.mpr hnd
 case h3=>exact λ_=>KO (Zu ⟨rs,_,_,rfl,g.next⟩)
def Oy(T A R:Nat)(S dz:D)(at_ n:Nat)(cs:wc)(i:Nat)(Z:U7):Prop:=∃(sz:D)(ls:L3)(x9 x10 wy x12 yt wB:Option Sl),
 Z=[pb S,pb (.int at_),pb (.int (T:Nat)),pb (.int (A:Nat)),pb (.int (R:Nat)),pb sz,pb dz,O (.own (cs.map int)),O (.own (ls.map KI)),x9,x10,wy,x12,yt,wB]/\ls.length=i/\∀rs∈ls,Yp n rs/\rs.length<=R
theorem xV{T A R:Nat}{ns:wc}{dz:D}{at_ n:Nat}{cs:wc}{i:Nat}{m:Int}{d:D}{Z:U7}{Q:Out->Prop}(hns:ns.length<=1000)(hT:T<=6)(hR:R<=5)(hcs:cs.length=n)(hn:n<=T)(hm:m<=100)
  (hi:(Z8 0 m)[i]?=O d) (h:Oy T A R (.list (ns.map int)) dz at_ n cs i Z) :
  ∃Z2,gN 9 d Z=O Z2/\Ho O3 Z2 (Tq (Oy T A R (.list (ns.map int)) dz at_ n cs (i+1)) Q):=by
 obtain⟨sz,ls,x9,x10,wy,x12,yt,wB,rfl,hl,hg⟩:=h;obtain⟨rfl,hlt⟩:=Wi hi;refine⟨_,Ka (Qa v3) v3,?_⟩;unfold O3;obtain⟨v,hv⟩:=N8 ns (at_+1+i) hns;have ev:((at_:Int)+1+(0+(i:Int)))=((at_+1+i:Nat):Int):=by lia
 rw[←ev]at hv;refine Kn (KH (Kx (U6 (U2 v3) (U6 (Kf (Kf (U2 v3) U8 Zf) (U2 v3) Zf) Kb)) v3 hv) (Qa v3) v3) ?_;obtain⟨r,hF,pl,rfl,hpl,hpb⟩:=R8 v (11*(at_:Int)+3*(0+(i:Int))+1) (sizes:=YF T R) (C6 hR) (by rw[HX];lia);have hpl7:pl.length=T+1:=by rw[hpl,HX]
 have hmul:KR (.list [.int ((R:Int)+1)]) (.int (T:Nat))=O (.list (UL T (.int ((R:Int)+1)))):=PV (by lia);have hadd:Kg (.list (UL T (.int ((R:Int)+1)))) (.list [.int 2])=O (.list ((YF T R).map int)):=by rw[Xg (by rw[QR];show T+1<=_;lia)];unfold YF;rw[Qt,List.map_replicate];rfl
 refine Kn (KH (Kf (Kf (ZJ (U6 (Kf (U2 v3) U8 Zf) Kb) (Qa v3)) (U2 v3) hmul) (ZJ (U6 U8 Kb) (Qa v3)) hadd) (Qa v3) v3) ?_;refine Kn (KH (Kx (U6 (U2 v3) (U6 (Kf (Kf (Kf U8 (U2 v3) (R1 (by decide) (by decide))) (Kf U8 (U2 v3) (R1 (by decide) (by decide))) Zf) U8 Zf) (U6 (U2 v3) Kb))) v3 hF) (Qa v3) v3) ?_;refine Kn (Yb (WO Kb (Qa v3)) (Qa v3) v3) ?_
 have wu:pl.getD T 0=0∨pl.getD T 0=1:=by
  have e:pl[T]?=O pl[T]:=Qd (by lia);have:=hpb T pl[T] 2 e jc;have e2:pl.getD T 0=pl[T]:=by simp[List.getD,e]
  rw[e2];lia
 apply KD;apply ZX (Ow T A R (.list (ns.map int)) dz (.list ((YF T R).map int)) at_ n cs pl ls (O (.pub (.int (0+(i:Int))))) (O (.pub (.int v))))
 case h1=>exact LW (U6 U8 (U6 (Kf (U2 v3) U8 Zf) Kb)) (HG (by lia) (by lia) (by decide) (by decide))
 case h0=>exact⟨[],yt,wB,rfl,⟨Qp _,λ_ h=>(by cases h),λ_ h=>(by cases h),List.nodup_nil⟩⟩
 case hst=>exact λj d Z e h=>xG hcs hT hR hn hpl7 wu e h
 case hend=>
  rintro Z ⟨rs,y13,y14,rfl,g⟩;refine KB ?_;have hl5:(Z8 1 ((R:Int)+1)).length=R:=by rw[XG];lia
  rw[hl5]at g;have wv:(ls.map KI).length<1000000:=by rw[Qb];lia
  refine Zz (Xj v3 (Yc v3 v3) v3 wv v3) ?_;refine Zu ⟨_,ls++[rs],pb (.int (0+(i:Int))),pb (.int v),pb (.list (pl.map int)),pb (.list (rs.map Zg)),y13,y14,by rw[Qt];rfl,by rw[Qj,hl];rfl,λx hx=>?_⟩;rcases QW.mp hx with z|z
  .exact hg x z
  .rw[QM.mp z];exact⟨⟨by have:=g.few;lia,g.some,λr hr t ht=>(g.there r hr t ht).1,g.once⟩,g.few⟩
theorem vd(T A R:Nat){ns:wc}(hns:ns.length<=1000)(at_:Nat)(hT1:1<=T:=by decide)(hT:T<=6:=by decide)(hA1:1<=A:=by decide)(hA:A<=7:=by decide)(hR:R<=5:=by decide):∃r,Vy [.list (ns.map int),.int at_,.int (T:Nat),.int (A:Nat),.int (R:Nat)]=O r/\∃cs ls,r=Kw cs ls/\Good cs ls/\cs.length<=T/\ls.length<=A/\∀rs∈ls,rs.length<=R:=by
 obtain⟨v,hv⟩:=N8 ns at_ hns;obtain⟨r,hF,ds,rfl,hl,hd⟩:=R8 v at_ (sizes:=szG T A) (Dc hT1 hT hA1 hA) (by rw[LF];lia);have hl8:ds.length=T+2:=by rw[hl,LF]
 have at':∀(j:Nat)(k z:Int),k=j->(szG T A)[j]?=O z->∃d,oIx (.list (ds.map int)) (.int k)=O (.int d)/\ds[j]?=O d/\0<=d/\d<z:=λj k z hk hz=>by
  subst hk;have hj:j<ds.length:=by rw[hl];exact(Qg.mp hz).1
  have e:ds[j]?=O ds[j]:=Qd hj;obtain⟨p0,p1⟩:=hd j ds[j] z e hz;exact⟨ds[j],Z7 (by rw[Qf,e];rfl),e,p0,p1⟩
 obtain⟨d0,x0,e0,p0,q0⟩:=at' 0 0 T v3 v3;obtain⟨d1,x1,e1,p1,q1⟩:=at' 1 1 A v3 v3;have hmul:KR (.list [.int 11]) (.int (T:Nat))=O (.list (UL T (.int 11))):=PV (by lia);have hadd:Kg (.list [.int (T:Nat),.int (A:Nat)]) (.list (UL T (.int 11)))=O (.list ((szG T A).map int)):=by rw[Xg (by rw[QR];show 2+T<=_;lia)];unfold szG;rw[QF,QF,List.map_replicate];rfl
 obtain⟨n,hn⟩:∃n:Nat,1+d0=n:=⟨(1+d0).toNat,by lia⟩
 refine WI (Z:=[pb (.list (ns.map int)),pb (.int at_),pb (.int (T:Nat)),pb (.int (A:Nat)),pb (.int (R:Nat)),v4,v4,v4,v4,v4,v4,v4,v4,v4,v4]) v3 ?_;unfold T8;refine Kn (KH (Kf (ZJ (U6 (U2 v3) (U6 (U2 v3) Kb)) (Qa v3)) (Kf (ZJ (U6 U8 Kb) (Qa v3)) (U2 v3) hmul) hadd) (Qa v3) v3) ?_;refine Kn (KH (Kx (U6 (Kx (U6 (U2 v3) (U6 (U2 v3) Kb)) v3 hv) (U6 (U2 v3) (U6 (U2 v3) Kb))) v3 hF) (Qa v3) v3) ?_
 have wQ:DL.cutD (ds.map int) (O 2) (O (3+d0))=((ds.drop 2).take n).map int:=by
  rw[At (by decide) (by lia) (by lia)];have:(3+d0).toNat-(2:Int).toNat=n:=by lia
  rw[this];rfl
 have ya:((ds.drop 2).take n).length=n:=by rw[Q6,Jl,hl8];lia
 have each:∀z∈(ds.drop 2).take n,0<=z/\z<11:=λz hz=>by
  have hz:=List.mem_of_mem_take hz;obtain⟨k,hk,e⟩:=List.getElem_of_mem hz;rw[Jl,hl8]at hk;rw[List.getElem_drop]at e;have e2:ds[2+k]?=O z:=by rw[←e];exact Qd _
  refine hd (2+k) z 11 e2 (Db ?_)
  lia
 let cs:wc:=((ds.drop 2).take n).map λz=>tab.getD z.toNat 0
 have hcl:cs.length=n:=by show(List.map _ _).length=n;rw[Qb,ya]
 have hc:∀xs:List (Option Sl),KT xs=xs->xs.length=15->Zp (gN 15) (U3 v5) (U5 oIx (KF (U1 (U3 (.int 1)) (U1 (U3 (.int 1)) (U1 (U3 (.int 2)) (U1 (U3 (.int 0)) (U1 (U3 (.int 3)) (U1 (U3 (.int 7)) (U1 (U3 (.int 1)) (U1 (U3 (.int 4)) (U1 (U3 (.int 5)) (U1 (U3 (.int 6)) (U1 (U3 (.int 1)) (U0))))))))))))) (UZ 15)) (((ds.drop 2).take n).map int) (KT xs++UL 1 v4) []=O (cs.map int):=by
  intro xs hx hxl;rw[hx,TK (λ_=>v5) (λd=>match d with | .int z=>.int (tab.getD z.toNat 0)|_=>.none) (λZ=>∃x,Z=xs++[x])]
  .rw[JY.mpr (λ_ _=>rfl),Jd,QT]
   show _=O ((((ds.drop 2).take n).map λz=>tab.getD z.toNat 0).map int);rw[QT];rfl
  .rintro d hm Z ⟨x,rfl⟩
   obtain⟨z,hz,rfl⟩:=Qn.mp hm;have ht:=MD (each z hz).1 (each z hz).2;have hset:(xs++[x]).set 15 (O (Sl.pub (.int z)))=xs++[pb (.int z)]:=by rw[List.set_append_right _ _ (by lia),hxl];rfl
   have hget:(xs++[O (Sl.pub (.int z))])[15]?=O (O (Sl.pub (.int z))):=by rw[Qw (by lia),hxl];rfl
   refine⟨_,Ka (by rw[Qj,hxl];exact Qa v3) hset,rfl,λ_=>?_,pb (.int z),?_⟩
   .exact Kf (ZJ (U6 U8 (U6 U8 (U6 U8 (U6 U8 (U6 U8 (U6 U8 (U6 U8 (U6 U8 (U6 U8 (U6 U8 (U6 U8 Kb))))))))))) (Qa v3)) (U2 hget) ht.1
   .unfold KT at hx⊢
    rw[Qt,hx];rfl
  .exact⟨v4,rfl⟩
  .rw[Qb,ya,QC];lia
 refine Kn (Yb (Yj (ZD (Xy (U2 v3) (YT U8) (YT (Kf U8 (Ko v3 U8 x0) Zf)) (by rw[TD,wQ])) YB) (hc _ v3 v3)) (Qa v3) v3) ?_;refine Kn (Yb (WO Kb (Qa v3)) (Qa v3) v3) ?_;apply KD;apply ZX (Oy T A R (.list (ns.map int)) (.list (ds.map int)) at_ n cs)
 case h1=>exact We (U6 (Kf U8 (Ko v3 U8 x1) Zf) Kb) (Wc (by lia) (by lia))
 case h0=>exact⟨_,[],_,_,_,_,_,_,rfl,rfl,λ_ h=>by cases h⟩
 case hst=>exact λi d Z e h=>xV hns hT hR hcl (by lia) (by lia) e h
 case hend=>rintro Z ⟨sz,ls,y9,y10,y11,y12,y13,y14,rfl,wv,hg⟩;rw[XG]at wv;refine KB (KG (ZE (U6 (Yc rfl rfl) (U6 (Yc rfl rfl) Kb)) (Qa rfl)) ⟨_,rfl,cs,ls,rfl,⟨?_,by lia,by lia,λrs hrs=>(hg rs hrs).2⟩⟩);exact⟨by lia,by lia,λc hc=>by obtain⟨z,hz,rfl⟩:=Qn.mp hc;exact(MD (each z hz).1 (each z hz).2).2,by lia,by lia,λrs hrs=>by rw[hcl];exact(hg rs hrs).1⟩
noncomputable def Zi(t:Int)(rs:List wc):Nat:=if rs.findIdx (λr=>r.contains t)<rs.length then rs.findIdx (λr=>r.contains t)+1 else 0
theorem O2(t)(r):oIn (.int t) (Zg r)=O (r.contains t):=by
 have h1:UQ (r.map int)=v5:=by
  induction r with
  |nil=>rfl
  |cons x r ih=>rw[QF];unfold UQ;rw[ih];rfl
 unfold oIn Zg;dsimp only;rw[Qq ⟨rfl,h1,J6 _⟩]
 congr 1
 rw[List.any_map];clear h1;induction r with
 |nil=>rfl
 |cons x r ih=>
  rw[List.any_cons]
  congr 1
  exact Ub.2 ⟨λh=>beq_iff_eq.2 (beq_iff_eq.1 h).symm,λh=>beq_iff_eq.2 (beq_iff_eq.1 h).symm⟩
theorem Gv  {rs}{i}{r}(hr:rs[i]?=O r)(h:r.contains t=v5)(hb:∀j r,j<i->rs[j]?=O r->r.contains t=wa):Zi t rs=1+i:=by obtain⟨hi,e⟩:=List.getElem?_eq_some_iff.1 hr;have hf   :=(List.findIdx_eq hi).2 ⟨by rw[e];exact h,λj hj=>hb j _ hj (Qd _)⟩;unfold Zi;rw[hf,Qq hi,Nat.add_comm]
theorem Gu  {rs}(hb:∀j r,j<rs.length->rs[j]?=O r->r.contains t=wa):Zi t rs=0:=by
 have hf   :=List.findIdx_eq_length.2 λr hr=>by obtain⟨j,hj,e⟩:=List.mem_iff_getElem.1 hr;exact hb j r hj (by simp_all)
 unfold Zi;rw[hf,QB (Jv _)]
theorem xF(t:Int)(rs):VY [KI rs,.int t]=O (.int (Zi t rs:Nat)):=by
 refine Ze  rfl ?_;apply KD;apply ZX (λi Z=>(∃x2 x3,Z=[O _,pb (.int t),x2,x3])/\∀j r,j<i->rs[j]?=O r->r.contains t=wa)
 case h1=>exact As (U6 (U2 v3) Kb) jQ
 case h0=>exact⟨⟨_,_,rfl⟩,λj r h=>absurd h (Ud _)⟩
 case hst=>
  rintro i d Z hi ⟨⟨x2,x3,rfl⟩,hb⟩;obtain⟨x,hx,rfl⟩:=Wb hi;rw[Qf]at hx;cases hr:rs[i]? with
  |none=>rw[hr]at hx;cases hx
  |some r=>
   rw[hr]at hx;cases hx;refine⟨_,KJ v3 (Kh (Ka (Qa v3) v3) (Kh (Ka (Qa v3) v3) KL)),?_⟩;apply KE
   case h1=>exact Yk v3 (U2 v3) (O2 t r)
   case h2=>intro hh;refine KG (U2 v3) (RZ ?_);rw[Gv hr hh hb];exact⟨rfl⟩
   case h3=>
    intro hh;refine KO (Zu ⟨⟨_,_,rfl⟩,λj r' hj hr'=>?_⟩);rcases Nat.lt_succ_iff_lt_or_eq.1 hj with h|rfl
    .exact hb j r' h hr'
    .rw[hr]at hr';cases hr';exact hh
 case hend=>rintro Z ⟨⟨x2,x3,rfl⟩,hb⟩;rw[Y1,Qb]at hb;refine KB ?_;rw[Gu hb];exact KG U8 rfl
noncomputable def Kk:wg->D
 |none=>.none
 |some t=>.int t
noncomputable def Kz(ws:LO):D:=.list (ws.map Kk)
structure Deal(cs:wc)(ls:L3)(ws:LO):Prop where
 len:ws.length=ls.length
 wish:∀(i:Nat) t rs,ws[i]?=O (O t)->ls[i]?=O rs->t∈rs.flatten
 cop:∀(k:Nat) c,cs[k]?=O c->((ws.count (O (k:Int)):Nat):Int)<=c
theorem Op   (h:t∈rs.flatten):Zi t rs≠0:=by unfold Zi;simp_all
theorem NB(ws:LO):UQ (ws.map Kk)=v5:=Tj λx hx=>by obtain⟨y,_,rfl⟩:=Qn.mp hx;cases y<;>rfl
theorem O1(a b):US (Kk a) (Kk b)=decide (a=b):=by rw[Ub];cases a<;>cases b<;>simp[Kk,US]
theorem Fb   : Tf (Kz ws) (.int k)=O (.int (ws.count (O k):Nat)):=by
 unfold Kz Tf;dsimp only;rw[if_pos ⟨rfl,NB ws,by simp[UR]⟩]
 congr 3
 induction ws with
 |nil=>rfl
 |cons w r ih=>rw[QF,List.countP_cons,Ue,ih];have:=O1 w (O k);have e:Kk (O k)=.int k:=rfl;simp_all
theorem AT   {s}{t}{g}{Z Z1}{ds es}(h1:f Z=.ok ds Z1)(h2:Zp s t g ds (Yh Z1++UL k v4) []=O es)(h3:es.all flat=v5):RL f k s t g Z=.ok es Z1:=by unfold RL;rw[h1];dsimp only;rw[h2];dsimp only;rw[if_pos h3]
theorem Gs  {ls}{rs}{i:Nat}(hi:ls[i]?=O rs)(hl:rs.flatten.length<64):XZ [Kw cs ls,.int i]=O (.list ((YC rs.flatten).map int)):=by
 refine Ze  rfl ?_;have i1:oIx (Kw cs ls) (.int 1)=O _:=Z7 (j:=1) v3;have i2:oIx (.list (ls.map KI)) (.int i)=O (KI rs):=Z7 (by rw[Qf,hi];rfl)
 have hs:Wf [KI rs,.list []]=O (.list (rs.flatten.map int)):=by
  have e:KI rs=.list ((rs.map λr=>r.map int).map UM):=by unfold KI;rw[QT];rfl
  have e2:(rs.map λr=>r.map int).flatten=rs.flatten.map int:=by rw[Um]
  rw[e];unfold Wf;dsimp only;rw[Fj];dsimp only;rw[e2,Qq (by rw[Qb];lia)]
 exact KG (ZI (U6 (ZI (U6 (Kf (Ko v3 U8 i1) (U2 v3) i2) (U6 (ZJ Kb (Qa v3)) Kb)) hs) Kb) (Fe hl)) v3
structure Tv(cs:wc)(ls:L3)(lf:wc)(ws:LO):Prop where
 wish:∀(i:Nat) t rs,ws[i]?=O (O t)->ls[i]?=O rs->t∈rs.flatten
 len:lf.length=cs.length
 cop:∀(k:Nat) c,cs[k]?=O c->lf[k]?=O (c-((ws.count (O (k:Int)):Nat):Int))/\0<=c-((ws.count (O (k:Int)):Nat):Int)
theorem Gr{ls:L3}{ws}{o:wg}{rs}(h:∀(i:Nat) t rs,ws[i]?=O (O t)->ls[i]?=O rs->t∈rs.flatten)(hi:ls[ws.length]?=O rs)(ho:∀t,o=O t->t∈rs.flatten) :
  ∀(i:Nat) t rs,(ws++[o])[i]?=O (O t)->ls[i]?=O rs->t∈rs.flatten:=by
 intro j t rs' e1 e2;by_cases hj:j<ws.length
 .rw[Qu hj]at e1;exact h j t rs' e1 e2
 .by_cases hj2:j=ws.length
  .subst hj2
   rw[hi]at e2;cases e2;rw[Qw (Qp _),Nat.sub_self]at e1;cases e1;exact ho t v3
  .rw[Q0 (by rw[Qj,QD];lia)]at e1
   cases e1
theorem Tv.none     {rs}(d:Tv cs ls lf ws)(hi:ls[ws.length]?=O rs):Tv cs ls lf (ws++[Option.none]) where
 wish:=Gr d.wish hi λt e=>by cases e
 len:=d.len
 cop:=λk c e=>by simpa using d.cop k c e
theorem Tv.give{cs:wc}{ls}{lf:wc}{ws}{rs}{t v:Int}(d:Tv cs ls lf ws)(hi:ls[ws.length]?=O rs)(ht:t∈rs.flatten)(h0:0<=t)(hv:lf[t.toNat]?=O v)(hp:0<v):Tv cs ls (lf.set t.toNat (v-1)) (ws++[O t]) where
 wish:=Gr d.wish hi λt' e=>by cases e;exact ht
 len:=by rw[QZ];exact d.len
 cop:=λk c e=>by
  obtain⟨h1,h2⟩:=d.cop k c e;rw[List.count_append];by_cases hk:t=(k:Int)
  .subst hk
   rw[Qz]at hv⊢;rw[h1]at hv;cases hv;have hl:k<lf.length:=(Qg.mp h1).1;rw[QN hl];simp only[List.count_singleton_self];refine⟨by congr 1;lia,by lia⟩
  .have hne:t.toNat≠k:=by lia
   rw[Qs hne];have:List.count (O (k:Int)) [O t]=0:=by rw[List.count_eq_zero];intro z;have:=QM.mp z;exact hk (Q7 this).symm
   rw[this];exact⟨h1,h2⟩
theorem OI{os:LO}{k:Nat}(h):oIx (.list (os.map Kk)) (.int k)=O (Kk os[k]):=Z7 (by simp_all)
theorem HW{ws:LO}{o:wg}:(ws++[o]).map Kk=ws.map Kk++[Kk o]:=by rw[Qt];rfl
def TR(cs:wc)(ls:L3)(c s:D)(dg:wc)(i:Nat)(Z:U7):Prop:=∃(lf:wc)(ws:LO)(x6 x7 x8:Option Sl),
 Z=[pb (Kw cs ls),pb c,pb s,O (.own (lf.map int)),pb (.list (dg.map int)),O (.own (ws.map Kk)),x6,x7,x8]/\ws.length=i/\Tv cs ls lf ws
theorem xE{cs:wc}{ls:L3}{c s:D}{dg:wc}{i:Nat}{d:D}{Z:U7}{Q:Out->Prop}(g:Good cs ls)(hdl:dg.length=ls.length)(hd0:∀x∈dg,0<=x)(hi:(Z8 0 ls.length)[i]?=O d)(h:TR cs ls c s dg i Z) :
  ∃Z2,gN 6 d Z=O Z2/\Ho O5 Z2 (Tq (TR cs ls c s dg (i+1)) Q):=by
 obtain⟨lf,ws,x6,x7,x8,rfl,hw,dl⟩:=h;obtain⟨rfl,hlt⟩:=Wi hi;have wt:i<ls.length:=by omega
 have hls:ls[i]?=O ls[i]:=Qd wt;have gr:=g.rk _ (Qr hls);have hfl:=TB gr;refine⟨_,Ka (Qa v3) v3,?_⟩;unfold O5;rw[JL];generalize hrs:ls[i]=rs at *;have hmem:∀t∈YC rs.flatten,t∈rs.flatten:=λt ht=>(Xa _).mem_iff.mp ht
 have hthere:∀t∈rs.flatten,0<=t/\t<lf.length:=λt ht=>by obtain⟨r,hr,htr⟩:=J0.mp ht;have:=gr.there r hr t htr;rw[dl.len];exact this
 let L:=(YC rs.flatten).filter λt=>decide (0<lf.getD t.toNat 0)
 have hc:Zp (gN 9) (U5 (oIB λi j=>decide (j<i)) (U9 3 (UZ 9)) (U3 (.int 0))) (UZ 9) ((YC rs.flatten).map int) (Yh [pb (Kw cs ls),pb c,pb s,O (.own (lf.map int)),pb (.list (dg.map int)),O (.own (ws.map Kk)),pb (.int (i:Int)),x7,x8]++UL 1 v4) []=O (L.map int):=by
  rw[TK (λd=>match d with | .int t=>decide (0<lf.getD t.toNat 0)|_=>wa) (λd=>d) (λZ=>∃x y7 y8,Z=[pb (Kw cs ls),pb c,pb s,pb (.list (lf.map int)),pb (.list (dg.map int)),pb (.list (ws.map Kk)),pb (.int (i:Int)),y7,y8,x])]
  .rw[Jd,List.map_id',List.filter_map]
   rfl
  .rintro d hm Z ⟨x,y7,y8,rfl⟩
   obtain⟨t,ht,rfl⟩:=Qn.mp hm;obtain⟨h0,h1⟩:=hthere t (hmem t ht);obtain⟨k,rfl⟩:∃k:Nat,t=k:=⟨t.toNat,by omega⟩
   refine⟨_,Ka (Qa v3) v3,Kf (Ko v3 (U2 v3) (RQ (by omega))) U8 v3,λ_=>U2 v3,pb (.int k),K5 y7,K5 y8,rfl⟩
  .exact⟨v4,Ot x7,Ot x8,rfl⟩
  .rw[Qb,QC,(Xa _).length_eq];have:=g.c6;omega
 have hLl:L.length<=6:=by have:L.length<=(YC rs.flatten).length:=JJ _ _;rw[(Xa _).length_eq]at this;have:=g.c6;omega
 have hadd:Kg (.list (L.map int)) (.list [.none])=O (.list ((L.map O++[v4]).map Kk)):=by rw[Xg (by rw[Qb];show L.length+1<=_;omega),Qt,QT];rfl
 refine Kn (KH (Kf (KY (AT (ZD (Kx (U6 (U2 v3) (U6 (U2 v3) Kb)) v3 (Gs (cs:=cs) hls (by have:=g.c6;omega))) YB) hc (by rw[List.all_map,Jf];exact λ_ _=>rfl))) (ZJ (U6 U8 Kb) (Qa v3)) hadd) (Qa v3) v3) ?_;have yc:(L.map O++[v4]:LO).length=L.length+1:=by rw[Qj,Qb];rfl
 have hlen:Kr [.list ((L.map O++[v4]:LO).map Kk)]=O (.int ((L.length+1:Nat):Int)):=by rw[Zw,Qb,yc]
 have hdi:dg[i]?=O dg[i]:=Qd (by omega);have hx0:=hd0 _ (Qr hdi);have hix:oIx (.list (dg.map int)) (.int (i:Int))=O (.int dg[i]):=Z7 (by rw[Qf,hdi];rfl);have hm0:0<=dg[i] % ((L.length+1:Nat):Int):=Uq _ (by omega);have hm1:dg[i] % ((L.length+1:Nat):Int)<((L.length+1:Nat):Int):=J9 _ (by omega);obtain⟨k,hk⟩:∃k:Nat,dg[i] % ((L.length+1:Nat):Int)=k:=⟨(dg[i] % ((L.length+1:Nat):Int)).toNat,by omega⟩
 have wO:k<(L.map O++[v4]:LO).length:=by rw[yc];omega
 have wN:=OI (os:=L.map O++[v4]) wO;rw[←hk]at wN;generalize ho:(L.map O++[v4]:LO)[k]=o at wN;refine Kn (KH (Ko v3 (Kf (Ko v3 (U2 v3) hix) (Zq v3 hlen) (W7 (by omega))) wN) (Qa v3) v3) ?_;have wE:(ws.map Kk).length<1000000:=by rw[Qb];have:=g.l7;omega
 have yJ:ls[ws.length]?=O rs:=by rw[hw];exact hls
 cases o with
 |none=>
  apply KD;apply KE
  case h1=>exact Mm (U2 v3) v3
  case h2=>intro hh;cases hh
  case h3=>intro _;refine KO (KB ?_);refine Zz (Xj v3 (U2 v3) v3 wE v3) ?_;exact Zu ⟨lf,ws++[v4],_,_,_,by rw[HW (ws:=ws)];rfl,by rw[Qj,hw];rfl,dl.none yJ⟩
 |some t=>
  have htL:t∈L:=by
   have hm:O t∈(L.map O++[v4]:LO):=ho ▸ Jq wO;rcases QW.mp hm with z|z
   .obtain⟨t',h1,h2⟩:=Qn.mp z
    cases h2;exact h1
   .cases QM.mp z
  obtain⟨htm,htp⟩:=Jx.mp htL;have htf:=hmem t htm;obtain⟨h0,h1⟩:=hthere t htf;have hv:lf[t.toNat]?=O lf[t.toNat]:=Qd (by omega);have hvd:lf.getD t.toNat 0=lf[t.toNat]:=by simp[List.getD,hv]
  have hpos:0<lf[t.toNat]:=by rw[hvd]at htp;simpa using htp
  have hvx:oIx (.list (lf.map int)) (.int t)=O (.int lf[t.toNat]):=Ds h0 (by rw[Qf,hv];rfl);apply KD;apply KE
  case h1=>exact Mm (U2 v3) v3
  case h2=>intro _;refine Zz (Tw (Kf (W3 v3 (U2 v3) v3 hvx) U8 Y9) v3 (U2 v3) v3 ⟨h0,by rw[Qb];exact h1⟩ v3) ?_;refine KB ?_;refine Zz (Xj v3 (U2 v3) v3 wE v3) ?_;exact Zu ⟨lf.set t.toNat (lf[t.toNat]-1),ws++[O t],_,_,_,by rw[HW (ws:=ws),←Au];rfl,by rw[Qj,hw];rfl,dl.give yJ htf h0 hv hpos⟩
  case h3=>intro hh;cases hh
theorem kF{cs:wc}{ls:L3}(g:Good cs ls)(c s:Int):∃r,Vv [Kw cs ls,.int c,.int s]=O r/\∃ws,r=Kz ws/\Deal cs ls ws:=by
 refine WI (Z:=[pb (Kw cs ls),pb (.int c),pb (.int s),v4,v4,v4,v4,v4,v4]) v3 ?_;unfold T7;have i0:oIx (Kw cs ls) (.int 0)=O (.list (cs.map int)):=Z7 (j:=0) v3;have i1:oIx (Kw cs ls) (.int 1)=O (.list (ls.map KI)):=Z7 (j:=1) v3;have hlen:Kr [.list (ls.map KI)]=O (.int ls.length):=by rw[Zw,Qb]
 refine Kn (Yb (Za (U6 (Ko v3 U8 i0) Kb) (Yq (show X6 [.list (cs.map int)]=O (cs.map int)from rfl))) (Qa v3) v3) ?_
 have hmul:KR (.list [.int 61]) (.int ls.length)=O (.list ((UL ls.length (61:Int)).map int)):=by
  rw[Fi ⟨by omega,by have:=g.l7;omega,by show 1*_<=_;have:=g.l7;omega⟩]
  congr 2
  rw[Qz];generalize ls.length=n;induction n with
  |zero=>rfl
  |succ n ih=>rw[JO,Jg,ih,JO,QF];rfl
 obtain⟨r,hF,dg,rfl,hdl,hdb⟩:=R8 c s (sizes:=UL ls.length (61:Int)) (λx hx=>by rw[(List.mem_replicate.mp hx).2];decide) (by rw[QR];have:=g.l7;omega);rw[QR]at hdl;refine Kn (KH (Kx (U6 (U2 v3) (U6 (U2 v3) (U6 (Kf (ZJ (U6 U8 Kb) (Qa v3)) (ZI (U6 (Ko v3 U8 i1) Kb) hlen) hmul) Kb))) v3 hF) (Qa v3) v3) ?_;refine Kn (Yb (WO Kb (Qa v3)) (Qa v3) v3) ?_;apply KD;apply ZX (TR cs ls (.int c) (.int s) dg)
 case h1=>exact We (U6 (ZI (U6 (Ko v3 U8 i1) Kb) hlen) Kb) (Wc (by have:=g.l7;omega) (by omega))
 case h0=>exact⟨cs,[],_,_,_,rfl,rfl,⟨λ_ _ _ h=>(by cases h),rfl,λk c e=>by have:=g.c7 c (Qr e);simp only[List.count_nil];exact⟨by rw[e];congr 1;omega,by omega⟩⟩⟩
 case hst=>exact λi d Z e h=>xE g hdl (λx hx=>by obtain⟨j,hj,e⟩:=List.mem_iff_getElem.mp hx;exact(hdb j x 61 (by rw[Qd hj,e]) (by rw[Qy,Qq (by omega)])).1) e h
 case hend=>rintro Z ⟨lf,ws,x6,x7,x8,rfl,hw,dl⟩;rw[XG]at hw;refine KB (KG (Yc rfl rfl) ⟨_,rfl,ws,rfl,⟨by omega,dl.wish,λk c e=>by have:=(dl.cop k c e).2;omega⟩⟩)
theorem rngS{m c:Int}(h1 : -1000000<=m)(h2:m<=1000000)(h3:0<c)(h4:c<=1000000):Tl [.int 0,.int m,.int c]=O (WJ 0 c (Builtin.Range.rangeSize 0 m c).toNat):=by unfold Tl;exact Qq ⟨h3,h4,by decide,by decide,h1,h2⟩
theorem AS(ws):(Kz ws).depth<=2:=RR (TJ λx hx=>by obtain⟨y,_,rfl⟩:=Qn.mp hx;cases y<;>simp[Kk,UR])
theorem Vd    (I:U7->Prop):∀(ds qs:wb)(Z:U7)(es:wb),qs.length=ds.length ->
  (∀(i:Nat) d e,ds[i]?=O d->qs[i]?=O e->∀Z,I Z->∃Z1,s d Z=O Z1/\t Z1=.ok v5 Z1/\g Z1=.ok e Z1/\I (KT Z1))->I Z->es.length+ds.length<=1000000->Zp s t g ds Z es=O (es++qs)
 |[],[],Z,es,_,_,_,_=>by rw[Zp,Jc]
 |d::r,e::q,Z,es,hl,st,h0,hz=>by obtain⟨Z1,e1,e2,e3,h1⟩:=st 0 d e v3 v3 Z h0;rw[Qv]at hz;rw[Zp,e1];dsimp only;rw[e2];dsimp only;rw[Qq v3,e3];dsimp only;rw[if_pos (by lia),Vd I r q _ _ (by simpa using hl) (λi d' e' x y=>st (i+1) d' e' (by simpa using x) (by simpa using y)) h1 (by rw[List.length_append,List.length_singleton];lia),List.append_assoc];rfl
noncomputable def rg(rs:List wc):wg->Int
 |none=>0
 |some t=>(Zi t rs:Nat)
noncomputable def Km(ls:L3)(ws:LO):wc:=List.zipWith rg ls ws
noncomputable def lng(ls:L3):Nat:=(most (ls.map λrs=>(rs.length:Int))).toNat
noncomputable def KS(L:Nat)(got:wc):wc:=(UK L).map (λr:Nat=>((got.count (1+(r:Int)):Nat):Int))++[((got.count 0:Nat):Int)]
noncomputable def Xx(cs:wc)(ws:LO):wc:=(UK cs.length).map λk:Nat=>cs.getD k 0-((ws.count (O (k:Int)):Nat):Int)
theorem O0  (h:1<=ls.length):most (ls.map λrs=>(rs.length:Int))=(lng ls:Nat):=by
 have hm:most _∈ls.map λrs=>(rs.length):=R3 (by rw[Qb];lia)
 obtain⟨rs,_,e⟩:=Qn.mp hm;unfold lng
 lia
theorem OH   (h:rs∈ls):rs.length<=lng ls:=by
 have h1:(_)<=most (ls.map λrs=>(rs.length)):=PQ (Qn.mpr ⟨rs,h,rfl⟩);have h2:=O0  (List.length_pos_of_mem h)
 lia
theorem OG   (h1:1<=ls.length)(h:∀rs∈ls,rs.length<=n):lng ls<=n:=by
 have hm:most _∈ls.map λrs=>(rs.length):=R3 (by rw[Qb];lia)
 obtain⟨rs,hr,e⟩:=Qn.mp hm;have:=h rs hr;unfold lng
 lia
theorem Oe(t:Int)(rs:List wc):Zi t rs<=rs.length:=by
 unfold Zi
 split<;>lia
section
variable{cs:wc}{ls:L3}{ws:LO}
theorem SO:oIx (Kw cs ls) (.int 0)=O (.list (cs.map int)):=Z7 (j:=0) v3
theorem WX:oIx (Kw cs ls) (.int 1)=O (.list (ls.map KI)):=Z7 (j:=1) v3
theorem Ml{i:Nat}{rs}(h:ls[i]?=O rs):oIx (.list (ls.map KI)) (.int i)=O (KI rs):=Z7 (by simp_all)
theorem Gq(rs):Kr [KI rs]=O (.int rs.length):=by unfold KI;rw[Zw,Qb]
theorem kE(g:Good cs ls):VX [Kw cs ls]=O (.int (lng ls:Nat)):=by
 refine Ze  rfl ?_;have hw:=TH g
 have hc:Zp (gN 1) (U3 v5) (K7 1) (ls.map KI) (KT [pb (Kw cs ls)]++UL 1 v4) []=O ((ls.map λrs=>(rs.length)).map int):=by
  refine Vd (λZ=>∃x,Z=[O _,x]) _ _ _ _ (by rw[Qb,Qb,Qb]) ?_ ⟨v4,rfl⟩ (by rw[Qb,QC];have:=g.l7;lia);rintro i d e hd he Z ⟨x,rfl⟩;rw[Qf]at hd;rw[Qf,Qf]at he;cases hl:ls[i]? with
  |none=>rw[hl]at hd;cases hd
  |some rs=>
  rw[hl]at hd he;cases hd;cases he;exact⟨_,Ka (Qa v3) v3,rfl,Zq v3 (Gq rs),_,rfl⟩
 refine Kn (Xi (Kx (U6 (U2 v3) Kb) v3 hw)) ?_;refine KG (ZI (U6 (KY (Yj (ZD (Ko v3 U8 WX) YB) hc)) Kb) (Nx (by rw[Qb];have:=g.l1;lia))) ?_;rw[O0 g.l1]
theorem AR{i:Nat}{rs}{o}(h1:ls[i]?=O rs)(h2:ws[i]?=O o):(Km ls ws)[i]?=O (rg rs o):=by unfold Km;rw[List.getElem?_zipWith,h1,h2]
theorem vO(g:Good cs ls):VU [Kw cs ls,Kz ws]=O (.list ((Xx cs ws).map int)):=by
 refine Ze  rfl ?_;have hw:=TH g
 have hc:Zp (gT 2 (gNC (gN 2) (gNC (gN 3) (gN0)))) (U3 v5) (U5 Zv (UZ 3) (Ts (UZ 1) (U1 (UZ 2) (U0)))) (Yz 0 (cs.map int)) (KT [pb (Kw cs ls),pb (Kz ws)]++UL 2 v4) []=O ((Xx cs ws).map int):=by
  refine Vd (λZ=>∃x y,Z=[O _,pb (Kz ws),x,y]) _ _ _ _ (by unfold Xx;rw[Qb,Qb,Qx,Y1,Qb]) ?_ ⟨v4,v4,rfl⟩ (by rw[Y1,Qb,QC];have:=g.c6;lia);rintro i d e hd he Z ⟨x,y,rfl⟩;obtain⟨z,hz,rfl⟩:=Wb hd;rw[Qf]at hz;cases hci:cs[i]? with
  |none=>rw[hci]at hz;cases hz
  |some c=>
  rw[hci]at hz;cases hz;have wt:i<cs.length:=(Qg.mp hci).1;unfold Xx at he;rw[Qf,Qf,Qd (by rw[Qx];exact wt),List.getElem_range]at he;cases he;rw[QS];have e:cs.getD i 0=c:=by simp[List.getD,hci]
  dsimp only;rw[e];exact⟨_,KJ v3 (Kh (Ka (Qa v3) v3) (Kh (Ka (Qa v3) v3) KL)),rfl,Kf (U2 v3) (HI (U2 v3) (U6 (U2 v3) Kb) Fb) Y9,_,_,rfl⟩
 refine Kn (Xi (Kx (U6 (U2 v3) Kb) v3 hw)) ?_;exact KG (KY (Yj (WN (U6 (Ko v3 U8 SO) Kb) WT) hc)) v3
end
def okR(L:Nat)(got:wc):Prop:=∀r∈got,0<=r/\r<=L
theorem Td(L)(got):(KS L got).length=L+1:=by unfold KS;simp_all
noncomputable def V4(xs:wc)(p:Nat)(d:Int):wc:=xs.set p (xs.getD p 0+d)
theorem Gp    : (V4 xs p d).length=xs.length:=by unfold V4;rw[QZ]
theorem jb  {p q}{d v}(h:xs[q]?=O v):(V4 xs p d)[q]?=O (if q=p then v+d else v):=by
 unfold V4;have hq   :=(Qg.mp h).1;by_cases e:q=p
 .subst e
  rw[QN hq];simp[List.getD,h]
 .rw[Qs (λz=>e z.symm),QB e,h]
theorem Fa:∀(qs:wn)(n:Nat),(∀q∈qs,q<n)->((UK n).map λp=>((qs.count p:Nat):Int)).sum=qs.length
 |[],n,_=>by
  have:((UK n).map λp=>((([]:wn).count p:Nat):Int))=(UK n).map λ_=>(0:Int):=by apply List.map_congr_left;intro p _;simp
  clear this;induction n with
  |zero=>rfl
  |succ n ih=>rw[Uf,Qt,Ug,ih (λq hq=>by cases hq)];rfl
 |q::r,n,h=>by
  have ih:=Fa r n λx hx=>h x (Qk _ hx);have hq:=h q Qo
  have e:((UK n).map λp=>(((q::r).count p:Nat):Int)).sum=((UK n).map λp=>((r.count p:Nat):Int)).sum+((UK n).map λp=>if q=p then(1:Int)else 0).sum:=by
   clear ih hq h;induction n with
   |zero=>rfl
   |succ n ih=>
    rw[Uf,Qt,Qt,Qt,Ug,Ug,Ug,ih];simp only[QF,List.map_nil,Jw,List.sum_nil,Ue,beq_iff_eq]
    split<;>omega
  rw[e,ih]
  have one:∀m:Nat,((UK m).map λp=>if q=p then(1:Int)else 0).sum=if q<m then 1 else 0:=by
   intro m;induction m with
   |zero=>simp
   |succ m ih=>
    rw[Uf,Qt,Ug,ih];simp only[QF,List.map_nil,Jw,List.sum_nil]
    split<;>split<;>split<;>omega
  rw[one n,Qq hq,Qv];omega
theorem PL   : okR (lng ls) (Km ls ws):=λr hr=>by
 unfold Km at hr;obtain⟨i,hi,e⟩:=List.mem_iff_getElem.mp hr;rw[List.getElem_zipWith]at e;rw[List.length_zipWith]at hi;have hm:ls[i]'(by omega)∈ls:=Jq _;have h1:=OH hm;rw[←e];cases ws[i]'_ with
 |none=>exact⟨Ja _,by show(0)<=_;omega⟩
 |some t=>have h2:=Oe t (ls[i]'(by omega));exact⟨by show(0)<=((Zi t _):Int);omega,by show((Zi t _):Int)<=_;omega⟩
theorem LD  (h1:d.canLay0=v5)(h2:d.depth<=60):oNe d d=O wa:=by unfold oNe;rw[Qq ⟨h1,h1,h2⟩,HZ _ h1];rfl
theorem OF  : oEq (Kk a) (Kk b)=O (decide (a=b)):=by unfold oEq;rw[if_pos ⟨by cases a<;>rfl,by cases b<;>rfl,by cases a<;>simp[Kk,UR]⟩,O1]
theorem OE  : oNe (Kk a) (Kk b)=O (!decide (a=b)):=by unfold oNe;rw[if_pos ⟨by cases a<;>rfl,by cases b<;>rfl,by cases a<;>simp[Kk,UR]⟩,O1]
theorem DG  {a:Nat}(h:a<=xs.length):DL.cutD xs v4 (O (a:Int))=xs.take a:=by
 unfold DL.cutD HT.sIx;dsimp only;rw[QB (by lia),Qz];have:min a xs.length=a:=by lia
 rw[this];simp
theorem AQ  {a:Nat}(h:a<=xs.length):DL.cutD xs (O (a:Int)) v4=xs.drop a:=by
 unfold DL.cutD HT.sIx;dsimp only;rw[QB (by lia),Qz];have:min a xs.length=a:=by lia
 rw[this,List.take_of_length_le (by simp_all)]
theorem Fx    (I:U7->Prop):∀(ds qs:wb)(Z:U7)(es:wb),qs.length=ds.length ->
  (∀(i:Nat) d e,ds[i]?=O d->qs[i]?=O e->∀Z,I Z->∃Z1,s d Z=O Z1/\t Z1=.ok v5 Z1/\g Z1=.ok e Z1/\I (KT Z1))->I Z->es.length+ds.length<=1000000->∃Z',YZ s t g ds Z es=O (es++qs,Z')/\I Z'
 |[],[],Z,es,_,_,h0,_=>⟨Z,by rw[YZ,Jc],h0⟩
 |d::r,e::q,Z,es,hl,st,h0,hz=>by obtain⟨Z1,e1,e2,e3,h1⟩:=st 0 d e v3 v3 Z h0;rw[Qv]at hz;obtain⟨Z',e',h'⟩:=Fx I r q _ (es++[e]) (by simpa using hl) (λi d' e' x y=>st (i+1) d' e' (by simpa using x) (by simpa using y)) h1 (by rw[List.length_append,List.length_singleton];lia);refine⟨Z',?_,h'⟩;rw[YZ,e1];dsimp only;rw[e2];dsimp only;rw[Qq v3,e3];dsimp only;rw[Qq (by lia),e',Q2];rfl
theorem NZ    {Rd}(I:U7->Prop):∀(ds:wb)(qs:List wb)(Z:U7)(es:wb),qs.length=ds.length ->
  (∀(i:Nat) d q,ds[i]?=O d->qs[i]?=O q->∀Z es,I Z->es.length+q.length<=1000000->∃Z1 xs Z2 Z3,s d Z=O Z1/\t Z1=.ok v5 Z1/\f Z1=.ok xs Z2/\Rd xs (KT Z2) es=O (es++q,Z3)/\I Z3)->I Z->es.length+qs.flatten.length<=1000000->∃Z',XB s t f Rd ds Z es=O (es++qs.flatten,Z')/\I Z'
 |[],[],Z,es,_,_,h0,_=>⟨Z,by rw[XB,List.flatten_nil,Jc],h0⟩
 |d::r,q::qr,Z,es,hl,st,h0,hz=>by rw[Jg,Qj]at hz;obtain⟨Z1,xs,Z2,Z3,e1,e2,e3,e4,h1⟩:=st 0 d q v3 v3 Z es h0 (by lia);obtain⟨Z',e',h'⟩:=NZ I r qr Z3 (es++q) (by simpa using hl) (λi d' e' x y=>st (i+1) d' e' (by simpa using x) (by simpa using y)) h1 (by rw[List.length_append];lia);refine⟨Z',?_,h'⟩;rw[XB,e1];dsimp only;rw[e2];dsimp only;rw[Qq v3,e3];dsimp only;rw[e4];dsimp only;rw[e',Jg,Q2]
noncomputable def WE(i:Nat)(rs:List wc):LP:=rs.flatten.map λt=>((i:Int),t)
noncomputable def Yl(k:Nat):L3->LP
 |[]=>[]
 |rs::ls=>WE k rs++Yl (k+1) ls
noncomputable def KP(k:Nat):L3->LP
 |[]=>[]
 |rs::ls=>(YC rs.flatten).map (λt=>((k:Int),t))++KP (k+1) ls
theorem R6:∀(ls)(k),(KP k ls).Perm (Yl k ls)
 |[],_=>.nil
 |rs::ls,k=>((Xa rs.flatten).map _).append (R6 ls _)
theorem Nu:∀(ls)(k),∀q∈KP k ls,(k:Int)<=q.1
 |[],_,q,h=>by cases h
 |rs::ls,k,q,h=>by
  rcases QW.mp h with h|h
  .obtain⟨t,_,rfl⟩:=Qn.mp h;exact Ja _
  .have:=Nu ls _ q h;lia
theorem Vg:∀{ls}{k}{q},q∈KP k ls->∃i rs,ls[i]?=O rs/\q.1=((k+i:Nat):Int)/\q.2∈rs.flatten
 |[],_,q,h=>by cases h
 |rs::ls,k,q,h=>by
  rcases QW.mp h with h|h
  .obtain⟨t,ht,rfl⟩:=Qn.mp h
   exact⟨0,rs,rfl,rfl,(Xa _).mem_iff.mp ht⟩
  .obtain⟨i,rs',h1,h2,h3⟩:=Vg h
   exact⟨i+1,rs',by simpa using h1,by rw[h2];congr 1;lia,h3⟩
theorem Nt:∀{ls}{k i}{rs}{t},ls[i]?=O rs->t∈rs.flatten->(((k+i:Nat):Int),t)∈KP k ls
 |rs::ls,k,0,rs',t,h,ht=>by cases h;exact Q8 _ (Qn.mpr ⟨t,(Xa _).mem_iff.mpr ht,rfl⟩)
 |rs::ls,k,i+1,rs',t,h,ht=>by have:=Nt  (k:=k+1)  (by simpa using h) ht;rw[show k+1+i=k+(i+1)by lia]at this;exact QK _ this
theorem HV{n:Nat}(hn:n<=6):∀(ls:L3)(k),(∀rs∈ls,∀t∈rs.flatten,0<=t/\t<n)->(KP k ls).Pairwise λx y=>KW x<=KW y
 |[],_,_=>.nil
 |rs::ls,k,h=>by
  refine List.pairwise_append.mpr ⟨?_,HV hn ls _ λrs' hr=>h rs' (Qk _ hr),λx hx y hy=>?_⟩
  .rw[List.pairwise_map]
   refine(GO rs.flatten).imp λ{a b} hab=>?_
   unfold KW;simp_all
  .obtain⟨t,ht,rfl⟩:=Qn.mp hx
   have h1:=Nu ls _ y hy;have h2:=h rs Qo t ((Xa _).mem_iff.mp ht);obtain⟨i,rs',g1,g2,g3⟩:=Vg hy;have h3:=h rs' (Qk _ (Qr g1)) y.2 g3;unfold KW
   lia
theorem Yp.flat   (g:Yp n rs):∀t∈rs.flatten,0<=t/\t<n:=λt ht=>by obtain⟨r,h1,h2⟩:=J0.mp ht;exact g.there r h1 t h2
section
variable{cs:wc}{ls:L3}
theorem HB(n):∀(ls)(k),(∀rs∈ls,rs.flatten.length<=n)->(Yl k ls).length<=ls.length*n
 |[],_,_=>by simp[Yl]
 |rs::ls,k,h=>by
  have h1:=HB n ls (k+1) λr hr=>h r (Qk _ hr);have h2:=h rs Qo
  show(WE k rs++Yl _ ls).length<=_
  rw[Qj,Qv];unfold WE;rw[Qb]
  lia
theorem kC(g:Good cs ls):WY (Yl 0 ls)=KP 0 ls:=by
 have hf   :=λrs hr=>(g.rk rs hr).flat
 have ok:∀q∈KP 0 ls,okP q:=λq hq=>by obtain⟨i,rs,h1,h2,h3⟩:=Vg hq;have:=hf rs (Qr h1) q.2 h3;have:=g.c6;exact⟨by lia,by lia⟩
 exact(NE ok ((R6 ls 0).trans (Ff _).symm) (HV g.c6 ls 0 hf) (GZ _)).symm
theorem DF(g:Good cs ls):∀q∈Yl 0 ls,okP q:=λq hq=>by obtain⟨i,rs,h1,h2,h3⟩:=Vg ((R6 ls 0).mem_iff.mpr hq);have:=(g.rk rs (Qr h1)).flat q.2 h3;have:=g.c6;exact⟨by lia,by lia⟩
theorem PK(g:Good cs ls):(Yl 0 ls).length<=42:=by
 have h:=HB 6 ls 0 λrs hr=>QE (TB (g.rk rs hr)) g.c6
 have:=g.l7
 lia
theorem OZ:∀(ls)(k),((ls.zipIdx k).map λp=>(WE p.2 p.1).map Zc).flatten=(Yl k ls).map Zc
 |[],_=>rfl
 |rs::ls,k=>by rw[List.zipIdx_cons,QF,Jg,OZ ls _];show _=(WE k rs++Yl _ ls).map Zc;simp_all
theorem vG(g:Good cs ls):VW [Kw cs ls]=O (.list ((KP 0 ls).map Zc)):=by
 refine Ze (Z:=[pb (Kw cs ls)]) v3 ?_;unfold SA;refine Kn (Xi (Kx (U6 (U2 v3) Kb) v3 (TH g))) ?_
 have hc:∃Z',XB (gT 2 (gNC (gN 1) (gNC (gN 2) (gN0)))) (U3 v5) (K8 (UZ 2)) (XB (gN 3) (U3 v5) (K8 (UZ 3)) (YZ (gN 4) (U3 v5) (Kt (U1 (UZ 1) (U1 (UZ 4) (U0)))))) (Yz 0 (ls.map KI)) (KT [pb (Kw cs ls)]++UL 4 v4) []=O ((Yl 0 ls).map Zc,Z'):=by
  have key:=NZ (s:=gT 2 (gNC (gN 1) (gNC (gN 2) (gN0)))) (t:=U3 v5) (f:=K8 (UZ 2)) (Rd:=XB (gN 3) (U3 v5) (K8 (UZ 3)) (YZ (gN 4) (U3 v5) (Kt (U1 (UZ 1) (U1 (UZ 4) (U0))))))
   (λZ=>∃x1 x2 x3 x4,Z=[pb (Kw cs ls),x1,x2,x3,x4]) (Yz 0 (ls.map KI)) ((ls.zipIdx 0).map λp=>(WE p.2 p.1).map Zc) (KT [pb (Kw cs ls)]++UL 4 v4) [] (by rw[Qb,List.length_zipIdx,Y1,Qb]) ?_ ⟨v4,v4,v4,v4,rfl⟩ (by rw[OZ,Qb,QC];have:=PK g;lia)
  .obtain⟨Z',e,_⟩:=key
   rw[OZ,Jd]at e;exact⟨Z',e⟩
  rintro i d q hd hq Z es ⟨x1,x2,x3,x4,rfl⟩ hlen;obtain⟨z,hz,rfl⟩:=Wb hd;rw[Qf]at hz;rw[Qf,List.getElem?_zipIdx]at hq;cases hls:ls[i]? with
  |none=>rw[hls]at hz;cases hz
  |some rs=>
  rw[hls]at hz hq;cases hz;cases hq;rw[QS]at *;dsimp only at hlen⊢
  have inner:=NZ (s:=gN 3) (t:=U3 v5) (f:=K8 (UZ 3)) (Rd:=YZ (gN 4) (U3 v5) (Kt (U1 (UZ 1) (U1 (UZ 4) (U0)))))
   (λZ=>∃x3 x4,Z=[pb (Kw cs ls),pb (.int i),pb (KI rs),x3,x4]) (rs.map Zg) (rs.map λr=>r.map λt=>Zc ((i:Int),t)) _ es (by rw[Qb,Qb]) ?_ ⟨K5 x3,K5 x4,rfl⟩ ?_
  .obtain⟨Z3,e3,y3,y4,h3⟩:=inner
   have ef:(rs.map λr=>r.map λt=>Zc ((i:Int),t)).flatten=(WE i rs).map Zc:=by unfold WE;rw[QT,Um];rfl
   rw[ef]at e3;exact⟨_,_,_,Z3,KJ v3 (Kh (Ka (Qa v3) v3) (Kh (Ka (Qa v3) v3) KL)),rfl,ZD (U2 v3) v3,e3,_,_,_,_,h3⟩
  .rintro j d q hd hq Z es' ⟨y3,y4,rfl⟩ yd
   rw[Qf]at hd hq;cases hr:rs[j]? with
   |none=>rw[hr]at hd;cases hd
   |some r=>
   rw[hr]at hd hq;cases hd;cases hq
   obtain⟨Z3,e3,z4,h3⟩:=Fx (s:=gN 4) (t:=U3 v5) (g:=Kt (U1 (UZ 1) (U1 (UZ 4) (U0)))) (λZ=>∃x4,Z=[pb (Kw cs ls),pb (.int i),pb (KI rs),pb (Zg r),x4]) (r.map int) (r.map λt=>Zc ((i:Int),t)) _ es' (by rw[Qb,Qb]) (by
    rintro m d e hd he Z ⟨x4,rfl⟩;rw[Qf]at hd he;cases hm:r[m]? with
    |none=>rw[hm]at hd;cases hd
    |some t=>
    rw[hm]at hd he;cases hd;cases he;exact⟨_,Ka (Qa v3) v3,rfl,ZE (U6 (U2 v3) (U6 (U2 v3) Kb)) (Qa v3),_,rfl⟩) ⟨K5 y4,rfl⟩ (by rw[Qb]at yd⊢;exact yd)
   exact⟨_,_,_,Z3,Ka (Qa v3) v3,rfl,ZD (U2 v3) v3,e3,_,_,h3⟩
  .have ef:(rs.map λr=>r.map λt=>Zc ((i:Int),t)).flatten=(WE i rs).map Zc:=by
    unfold WE;rw[QT,Um];rfl
   rw[ef];exact hlen
 obtain⟨Z',hc⟩:=hc;have hs:=jK (qs:=Yl 0 ls) (by have:=PK g;lia) (DF g);rw[kC g]at hs;exact KG (ZI (U6 (KY (qR (WN (U6 (Ko v3 U8 WX) Kb) WT) hc)) Kb) hs) v3
end
noncomputable def fnz:wc->Int
 |[]=>0
 |x::r=>if x=0 then fnz r else x
inductive Ord where|firsts|full|lasts
noncomputable def Ord.tx:Ord->Str
 |.firsts=> "firsts" | .full=> "full" | .lasts=> "lasts"
noncomputable def Ord.isF:Ord->Bool
 |.firsts=>v5|_=>wa
noncomputable def Ord.isU:Ord->Bool
 |.full=>v5|_=>wa
theorem DE(o:Ord):oEq (.str o.tx) (.str "firsts")=O o.isF:=by cases o<;>decide +kernel
theorem MC(o:Ord):oEq (.str o.tx) (.str "full")=O o.isU:=by cases o<;>decide +kernel
noncomputable def KU(xs ys:wc):wc:=(xs.zip ys).map λp=>p.1-p.2
noncomputable def V3(o:Ord)(xs ys:wc):wc:=match o with
 |.firsts=>KU xs ys
 |.full=>((KU xs ys).map λx=>-x).drop ((KU xs ys).length-1)++KU xs ys
 |.lasts=>((KU xs ys).map λx=>-x).reverse
theorem vF(o:Ord):VT [.str o.tx]=O (.bool v5):=by
 refine Ze  rfl ?_;have h:oIn (.str o.tx) (.tuple ((["firsts", "full", "lasts"]:List Str).map UO))=O v5:=by cases o<;>decide +kernel
 exact KG (W8 (KY  (U2 v3)) (λ_=>KY (Yk v3 U8 h))) v3
theorem Go(o:Ord):X2 [.str o.tx]=O .none:=by
 refine RG  rfl ?_;apply KE
 case h1=>exact XA (Wd (Kx (U6 (U2 v3) Kb) v3 (vF o)))
 case h2=>simp_all
 case h3=>exact λ_=>KO ⟨_,rfl⟩
noncomputable def Wl:wm->D
 |none=>.none
 |some ws=>Kz ws
noncomputable def ZO(o:Ord)(old:wm)(ts:wc):D:=.tuple [.str o.tx,Wl old,.list (ts.map int)]
structure YA(n m:Nat)(old:wm)(ts:wc):Prop where
 len:∀ws,old=O ws->ws.length=m
 old:∀ws t,old=O ws->O t∈ws->0<=t/\t<n
 once:ts.Nodup
 there:∀a∈ts,0<=a/\a<m
theorem YA.few  {old}{ts}(g:YA n m old ts):ts.length<=m:=RY m ts g.once g.there
theorem ja{n m:Nat}{old:wm}(h1:∀ws,old=O ws->ws.length=m)(h2:∀ws t,old=O ws->O t∈ws->0<=t/\t<n)(hm:m<=1000):VS [Wl old,.int m,.int n]=O (.bool v5):=by
 refine Ze  rfl ?_;unfold Sz;apply KD;cases old with
 |none=>
  apply KE
  case h1=>exact KY (U2 v3)
  case h2=>exact λ_=>KG U8 (Yo v3)
  case h3=>intro hh;cases hh
 |some ws=>
  have hl:=h1 ws v3;have hlen:Kr [Kz ws]=O (.int m):=by unfold Kz;rw[Zw,Qb,hl]
  apply KE
  case h1=>exact KY (U2 v3)
  case h2=>intro hh;cases hh
  case h3=>
   intro _;refine KO (KB ?_);apply KD;apply KE
   case h1=>exact XJ  (WS (U2 v3) v3) (Kf (Zq v3 hlen) (U2 v3) PM)
   case h2=>intro hh;simp at hh
   case h3=>
    intro _;refine KO (KB ?_)
    have hc:Zp (gN 3) (U3 v5) (Vm (Ke (λd=>.bool (isNon d)) (UZ 3)) (Kd 2 ZB (U1 (UZ 3) (U1 (UZ 2) (U0))))) (ws.map Kk) (KT [pb (Kz ws),pb (.int m),pb (.int n)]++UL 1 v4) []=O (ws.map λ_=>.bool v5):=by
     refine Vd (λZ=>∃x,Z=[pb (Kz ws),pb (.int m),pb (.int n),x]) _ _ _ _ (by simp only[Qb]) ?_ ⟨v4,rfl⟩ (by rw[Qb,QC];lia);rintro i d e hd he Z ⟨x,rfl⟩;rw[Qf]at hd he;cases hw:ws[i]? with
     |none=>rw[hw]at hd;cases hd
     |some o=>
     rw[hw]at hd he;cases hd;cases he;refine⟨_,Ka (Qa v3) v3,rfl,?_,_,rfl⟩;cases o with
     |none=>exact MK (t:=v5) (u:=v5) (KY  (x:=.none) (U2 v3)) (λh=>nomatch h)
     |some t=>have hb:=h2 ws t v3 (Qr hw);exact MK (t:=wa) (u:=v5) (KY (k:=λd=>UN (isNon d)) (x:=.int t) (U2 v3)) (λ_=>Kx (U6 (U2 v3) (U6 (U2 v3) Kb)) v3 (Og hb.1 hb.2))
    exact KG (ZI (U6 (KY (Yj (ZD (U2 v3) v3) hc)) Kb) (Of ws)) v3
theorem xU{m:Nat}{ts:wc}(h1:ts.Nodup)(h2:∀a∈ts,0<=a/\a<m)(hm:m<=1000):VR [.list (ts.map int),.int m]=O (.bool v5):=by
 refine Ze  rfl ?_;unfold Sy;have hl:=RY m ts h1 h2;apply KD
 have hc:Zp (gN 2) (U3 v5) (Kd 2 ZB (U1 (UZ 2) (U1 (UZ 1) (U0)))) (ts.map int) (KT [pb (.list (ts.map int)),pb (.int m)]++UL 1 v4) []=O (ts.map λ_=>.bool v5):=by
  refine Vd (λZ=>∃x,Z=[O _,pb (.int m),x]) _ _ _ _ (by simp only[Qb]) ?_ ⟨v4,rfl⟩ (by rw[Qb,QC];lia);rintro i d e hd he Z ⟨x,rfl⟩;rw[Qf]at hd he;cases hw:ts[i]? with
  |none=>rw[hw]at hd;cases hd
  |some t=>
  rw[hw]at hd he;cases hd;cases he;have hb:=h2 t (Qr hw);exact⟨_,Ka (Qa v3) v3,rfl,Kx (U6 (U2 v3) (U6 (U2 v3) Kb)) v3 (Og hb.1 hb.2),_,rfl⟩
 apply KE
 case h1=>exact XJ  (WS (U2 v3) v3) (XA (Wd (ZI (U6 (KY (Yj (ZD (U2 v3) YB) hc)) Kb) (Of ts))))
 case h2=>intro hh;cases hh
 case h3=>
  intro _;refine KO (KB ?_);have hs:W9 [.list (ts.map int)]=O (.int ts.length):=by unfold W9;dsimp only;rw[Rt];dsimp only;rw[Qq (by lia),Fc h1]
  have hlen:Kr [.list (ts.map int)]=O (.int ts.length):=by rw[Zw,Qb]
  refine KG (KY (Kf (ZI (U6 (U2 v3) Kb) hs) (Zq v3 hlen) YL)) ?_;simp
section
variable{cs:wc}{ls:L3}{o:Ord}{old:wm}{ts:wc}
theorem DD(g:Good cs ls)(ga:YA cs.length ls.length old ts):VQ [Kw cs ls,ZO o old ts]=O .none:=by
 refine RG  rfl ?_;unfold Sx;have l7:=g.l7;have c6:=g.c6;have wv:Kr [.list (ls.map KI)]=O (.int ls.length):=by rw[Zw,Qb]
 have wY:Kr [.list (cs.map int)]=O (.int cs.length):=by rw[Zw,Qb]
 refine Kn (Xi (Kx (U6 (U2 v3) Kb) v3 (TH g))) ?_;apply KD;apply KE
 case h1=>exact XJ  (WS (U2 v3) v3) (Kf (Zq v3 (show Kr [ZO o old ts]=O (.int 3)from rfl)) U8 PM)
 case h2=>intro hh;simp at hh
 case h3=>
  intro _;refine KO (KB ?_);refine Kn (Xz (U2 v3) (KJ v3 (Kh (Ka (Qa v3) v3) (Kh (Ka (Qa v3) v3) KL)))) ?_;refine Kn (Xz (U2 v3) (KJ v3 (Kh (Ka (Qa v3) v3) (Kh (Ka (Qa v3) v3) (Kh (Ka (Qa v3) v3) KL))))) ?_;refine Kn (Xi (Kx (U6 (U2 v3) Kb) v3 (Go o))) ?_;apply KD;apply KE
  case h1=>exact XA (Wd (Kx (U6 (U2 v3) (U6 (Zq v3 wv) (U6 (Zq v3 wY) Kb))) v3 (ja ga.len ga.old (by lia))))
  case h2=>intro hh;cases hh
  case h3=>
   intro _;refine KO (KB ?_);apply KE
   case h1=>exact XA (Wd (Kx (U6 (U2 v3) (U6 (Zq v3 wv) Kb)) v3 (xU ga.once ga.there (by lia))))
   case h2=>intro hh;cases hh
   case h3=>exact λ_=>KO ⟨_,rfl⟩
end
theorem BE{t:Int}{r:wc}:oIn (.int t) (.list (r.map int))=O (r.contains t):=O2 t r
theorem BD  {j}{f}{Z Z1 Z':U7}{a b}{d}(h0:Z[j]?=O (O (.pub (.int a))))(h1:f Z=.ok (.int b) Z1)(h2:op a b=O d)(h3:j<Z1.length)(h4:Z1.set j (O (.pub d))=Z'):XQ op j f Z=.nx Z':=by unfold XQ;dsimp only[sB];simp_all
theorem mulN{i j}(h : -1000<j/\j<1000):Xn i j=O (.int (i*j)):=by exact Qq (.inr ⟨by lia,by lia⟩)
theorem RX{b n:Int}(hb : -1000<b/\b<1000)(hn : -1000<=n/\n<=1000):ZP [.int b,.int n]=O (.int (b ^ n.toNat)):=by
 refine Ze  rfl ?_;refine Kn (KH U8 (Qa v3) v3) ?_;apply KD;apply ZX (λi Z=>∃x3,Z=[O _,O _,pb (.int (b ^ i)),x3])
 case h1=>exact We (U6 (U2 v3) Kb) (Wc (by lia) (by lia))
 case h0=>exact⟨_,by rw[Int.pow_zero];rfl⟩
 case hst=>rintro i d Z hi ⟨x3,rfl⟩;refine⟨_,Ka (Qa v3) v3,?_⟩;refine Zz (BD v3 (U2 v3) (mulN hb) (Qa v3) v3) ?_;exact Zu ⟨_,by rw[Int.pow_succ];rfl⟩
 case hend=>
  rintro Z ⟨x3,rfl⟩;refine KB (KG (U2 rfl) ?_);rw[XG]
  lia
noncomputable def ZM:Ord->Int->Int->Int->Int
 |.firsts,b,M,r=>b ^ (M-r).toNat
 |.full,b,M,r=>b ^ M.toNat+b ^ (M-r).toNat
 |.lasts,b,M,r=>b ^ M.toNat-b ^ (r-1).toNat
theorem xT(o:Ord){b M r:Int}(hb : -1000<b/\b<1000)(hM:0<=M/\M<=100)(hr:0<=r/\r<=100):VP [.str o.tx,.int b,.int M,.int r]=O (.int (ZM o b M r)):=by
 refine Ze  rfl ?_;unfold Sw;have p1:ZP [.int b,.int (M-r)]=O (.int (b ^ (M-r).toNat)):=RX hb ⟨by lia,by lia⟩;have p2:ZP [.int b,.int M]=O (.int (b ^ M.toNat)):=RX hb ⟨by lia,by lia⟩;have p3:ZP [.int b,.int (r-1)]=O _:=RX hb ⟨by lia,by lia⟩;apply KD;apply KE
 case h1=>exact Yk v3 U8 (DE o)
 case h2=>
  intro h;cases o with
  |firsts=>exact KG (Kx (U6 (U2 v3) (U6 (Kf (U2 v3) (U2 v3) Y9) Kb)) v3 p1) (Yo v3)
  |full=>cases h
  |lasts=>cases h
 case h3=>
  intro h;refine KO (KB ?_);apply KD;apply KE
  case h1=>exact Yk v3 U8 (MC o)
  case h2=>
   intro h';cases o with
   |full=>exact KG (Kf (Kx (U6 (U2 v3) (U6 (U2 v3) Kb)) v3 p2) (Kx (U6 (U2 v3) (U6 (Kf (U2 v3) (U2 v3) Y9) Kb)) v3 p1) Zf) (Yo v3)
   |firsts=>cases h
   |lasts=>cases h'
  case h3=>
   intro h';refine KO (KB ?_);cases o with
   |firsts=>cases h
   |full=>cases h'
   |lasts=>exact KG (Kf (Kx (U6 (U2 v3) (U6 (U2 v3) Kb)) v3 p2) (Kx (U6 (U2 v3) (U6 (Kf (U2 v3) U8 Y9) Kb)) v3 p3) Y9) v3
noncomputable def Xc(ts:wc)(b i r:Int):Int:=if i∈ts then(b-r)*b ^ (ts.length-1-ts.idxOf i)else 0
theorem Fz  : ∀{xs:wb},(∀x∈xs,PyData.weight x<=n)->PyData.weightAll xs<=xs.length*(n+1)
 |[],_=>by simp[PyData.weightAll]
 |x::xs,h=>by
  have h1:=h x Qo;have h2:=Fz  λy hy=>h y (Qk _ hy);rw[PyData.weightAll,Qv]
  lia
theorem kB  (h:0<=i/\i<1000):(int i).weight<=10:=by
 simp only[PyData.weight];split
 .lia
 .have h0:i.natAbs≠0:=by simp_all
  have:=(Nat.log2_lt h0 (k:=10)).mpr (by lia)
  lia
theorem vc{ts:wc}(h:∀a∈ts,0<=a/\a<1000)(hl:ts.length<=1000):PyData.layable0 (.list (ts.map int))=v5:=by
 unfold PyData.layable0;have h1:(UM (ts.map int)).canLay0=v5:=Tj λx hx=>by obtain⟨y,_,rfl⟩:=Qn.mp hx;rfl
 have h2:(UM (ts.map int)).depth<=64:=QE (RR (n:=1) (TJ λx hx=>by obtain⟨y,_,rfl⟩:=Qn.mp hx;exact LH y)) (by decide)
 have h3:(UM (ts.map int)).weight<=2 ^ 20:=by
  have:=Fz  (xs:=ts.map int) λx hx=>by obtain⟨y,hy,rfl⟩:=Qn.mp hx;exact kB (h y hy)
  rw[Qb]at this;simp only[PyData.weight]
  lia
 rw[h1,QJ h2,QJ h3];rfl
theorem AO{ts:wc}{k}(hb:∀a∈ts,0<=a/\a<1000)(hl:ts.length<=1000)(h:k∈ts):Rj (.list (ts.map int)) [.int k]=O (.int (ts.idxOf k:Nat)):=by unfold Rj;dsimp only;rw[Rt];exact Qq ⟨vc hb hl,h⟩
theorem AN  {r:wc}:Y5 (.int t) (.list (r.map int))=O (!r.contains t):=by unfold Y5;rw[BE];rfl
theorem xS  {b i r:Int}(hb : -1000<b/\b<1000)(hr : -1000<r/\r<1000)(hl:ts.length<=100)(ht:∀a∈ts,0<=a/\a<1000):VO [.list (ts.map int),.int b,.int i,.int r]=O (.int (Xc ts b i r)):=by
 refine Ze  rfl ?_;unfold Sv Xc;apply KD;apply KE
 case h1=>exact Yk v3 (U2 v3) AN
 case h2=>
  intro h;have:¬i∈ts:=by simpa using h
  rw[QB this];exact KG U8 (Yo v3)
 case h3=>
  intro h;have hm:i∈ts:=by simpa using h
  rw[Qq hm];refine KO (KB ?_);have hi:=List.idxOf_lt_length_of_mem hm;have hlen:Kr [.list (ts.map int)]=O (.int ts.length):=by rw[Zw,Qb]
  refine Kn (KH (Kf (Kf (Zq v3 hlen) U8 Y9) (Aq (U2 v3) (U6 (U2 v3) Kb) (AO ht (by lia) hm)) Y9) (Qa v3) v3) ?_;have hp:=RX (b:=b) (n:=(ts.length:Int)-1-(ts.idxOf i:Nat)) hb ⟨by lia,by lia⟩;have e:((ts.length:Int)-1-(ts.idxOf i:Nat)).toNat=ts.length-1-ts.idxOf i:=by lia
  rw[e]at hp;exact KG (Kf (Kf (U2 v3) (U2 v3) Y9) (Kx (U6 (U2 v3) (U6 (U2 v3) Kb)) v3 hp) (R1 (by lia) (by lia))) v3
noncomputable def YU(old:wm)(i:Nat)(t:Int):Int:=match old with
 |none=>0
 |some ws=>if ws[i]?=O (O t)then 1 else 0
section
variable{cs:wc}{ls:L3}{o:Ord}{old:wm}{ts:wc}
noncomputable def Zr(ls:L3)(o:Ord)(old:wm)(ts:wc)(i:Nat)(rs:List wc)(t:Int):Int:=
 (ZM o (ls.length+1) (lng ls) (Zi t rs)*(ls.length+1)+YU old i t)*((lng ls:Int)+1) ^ ts.length+Xc ts (lng ls+1) i (Zi t rs)
theorem Gn{b:Int}(h0:0<=b)(h:b<=8):∀{n k},n<=k->b ^ n<=8 ^ k:=λ{n k} hk=>by
 have e:b=((b.toNat)):=by lia
 rw[e];have h1:b.toNat ^ n<=8 ^ n:=Nat.pow_le_pow_left (by lia) n;have h2:8 ^ n<=8 ^ k:=Nat.pow_le_pow_right (by lia) hk
 lia
theorem q9(g:Good cs ls)(ga:YA cs.length ls.length old ts){i:Nat}{rs:List wc}(hi:ls[i]?=O rs)(t:Int):WA [Kw cs ls,ZO o old ts,.int (lng ls:Nat),.int i,.int t]=O (.int (Zr ls o old ts i rs t)):=by
 have l7:=g.l7;have l1:=g.l1;have hL:lng ls<=5:=OG l1 λrs h=>(g.rk rs h).few;have hrk:Zi t rs<=5:=by have:=Oe t rs;have:=(g.rk rs (Qr hi)).few;lia
 have yx:=ga.few;have hlt:i<ls.length:=(Qg.mp hi).1;refine Ze (Z:=[pb (Kw cs ls),pb (ZO o old ts),pb (.int (lng ls:Nat)),pb (.int i),pb (.int t),v4,v4,v4,v4,v4,v4,v4,v4]) v3 ?_;unfold Su Zr;refine Kn (Xz (U2 v3) (KJ v3 (Kh (Ka (Qa v3) v3) (Kh (Ka (Qa v3) v3) (Kh (Ka (Qa v3) v3) KL))))) ?_;refine Kn (KH (Ko v3 U8 WX) (Qa v3) v3) ?_;refine Kn (KH (Kx (U6 (Ko v3 (U2 v3) (Ml hi)) (U6 (U2 v3) Kb)) v3 (xF t rs)) (Qa v3) v3) ?_;have wv:Kr [.list (ls.map KI)]=O (.int ls.length):=by rw[Zw,Qb]
 have htl':Kr [.list (ts.map int)]=O (.int ts.length):=by rw[Zw,Qb]
 refine Kn (KH (Kf (Zq v3 wv) U8 Zf) (Qa v3) v3) ?_
 have hk:∀Z:U7,Z[6]?=O (O (.pub (Wl old)))->Z[3]?=O (O (.pub (.int i)))->Z[4]?=O (O (.pub (.int t))) ->
   mIf (ZN (Ke (λd=>!isNon d) (UZ 6)) (U5 oEq (U9 6 (UZ 3)) (UZ 4))) (U3 (int 1)) (U3 (.int 0)) Z=.ok (.int (YU old i t)) Z:=λZ r6 r3 r4=>by
  cases old with
  |none=>exact OM (PN (KY (U2 r6))) U8
  |some ws=>
   have hw:ws.length=ls.length:=ga.len ws v3;have hwi:ws[i]?=O ws[i]:=Qd (by lia);have hx:oIx (.list (ws.map Kk)) (.int i)=O (Kk ws[i]):=OI (by lia)
   have ht:(ZN (Ke (λd=>!isNon d) (UZ 6)) (U5 oEq (U9 6 (UZ 3)) (UZ 4))) Z=.ok (decide (ws[i]=O t)) Z:=
    LU (KY (U2 r6)) (Kf (Ko r6 (U2 r3) hx) (U2 r4) (OF (b:=O t)))
   rw[Ex ht U8 U8]
   congr 1
   unfold YU;dsimp only;rw[hwi];by_cases h:ws[i]=O t
   .rw[QJ h,Qq v3,Qq (by rw[h])]
   .rw[QG h,QB (by decide),QB (λe=>h (Q7 e))]
 refine Kn (KH (hk _ v3 v3 v3) (Qa v3) v3) ?_;have h1:=xT o (b:=(ls.length:Int)+1) (M:=(lng ls:Nat)) (r:=(Zi t rs:Nat)) ⟨by lia,by lia⟩ ⟨by lia,by lia⟩ ⟨by lia,by lia⟩;have h2:=RX (b:=(lng ls:Int)+1) (n:=(ts.length:Nat)) ⟨by lia,by lia⟩ ⟨by lia,by lia⟩;have h3:=xS (ts:=ts) (b:=(lng ls:Int)+1) (i:=i) (r:=(Zi t rs:Nat)) ⟨by lia,by lia⟩ ⟨by lia,by lia⟩ (by lia) (λa ha=>by have:=ga.there a ha;lia);rw[Qz]at h2;refine Kn (KH (Kf (Kf (Kx (U6 (U2 v3) (U6 (U2 v3) (U6 (U2 v3) (U6 (U2 v3) Kb)))) v3 h1) (U2 v3) (WU (by lia) (by lia))) (U2 v3) Zf) (Qa v3) v3) ?_;have hp:((lng ls:Int)+1) ^ ts.length<=8 ^ 7:=Gn (by lia) (by lia) (by lia);exact KG (Kf (Kf (U2 v3) (Kx (U6 (Kf (U2 v3) U8 Zf) (U6 (Zq v3 htl') Kb)) v3 h2) (WU (by lia) (by lia))) (Kx (U6 (U2 v3) (U6 (Kf (U2 v3) U8 Zf) (U6 (U2 v3) (U6 (U2 v3) Kb)))) v3 h3) Zf) v3
end
theorem NM   {g:M D}(I:U7->Prop):∀(ds:wb)(qs:List wd)(Z:U7)(es:wb),qs.length=ds.length ->
  (∀(i:Nat) d e,ds[i]?=O d->qs[i]?=O e->∀Z,I Z->∃Z1,s d Z=O Z1/\t Z1=.ok e.isSome Z1/\(∀x,e=O x->g Z1=.ok x Z1)/\I (KT Z1))->I Z->es.length+ds.length<=1000000->Zp s t g ds Z es=O (es++qs.filterMap id)
 |[],[],Z,es,_,_,_,_=>by rw[Zp];simp
 |d::r,e::q,Z,es,hl,st,h0,hz=>by
  obtain⟨Z1,e1,e2,e3,h1⟩:=st 0 d e v3 v3 Z h0;rw[Qv]at hz;have ih:=λes' hz'=>NM I r q (KT Z1) es' (by simpa using hl) (λi d' e' x y=>st (i+1) d' e' (by simpa using x) (by simpa using y)) h1 hz'
  rw[Zp,e1];dsimp only;rw[e2];dsimp only;cases e with
  |none=>rw[ih es (by lia)];rfl
  |some x=>rw[Qq (show(O x).isSome=v5 from rfl),e3 x v3];dsimp only;rw[Qq (by lia),ih (es++[x]) (by rw[Qj,QD];lia),Q2];rfl
noncomputable def K2(W:Nat->List wc->Int->Int):Nat->L3->LO->LO
 |k,rs::ls,o::r=>(o.map (W k rs))::K2 W (k+1) ls r
 |_,_,_=>[]
noncomputable def K4(l:LO):Int:=(l.filterMap id).sum
theorem Tz   : K4 (o::l)=o.getD 0+K4 l:=by
 cases o with
 |none=>show K4 l=0+K4 l;lia
 |some x=>rfl
section
variable{cs:wc}{ls:L3}{o:Ord}{old:wm}{ts:wc}{ws:LO}
noncomputable def Zl(ls:L3)(o:Ord)(old:wm)(ts:wc)(a t:Int):Int:=Zr ls o old ts a.toNat (ls.getD a.toNat []) t
noncomputable def ZZ(V:Int->Int->Int)(q:Int×Int):D:=.tuple [.int q.1,.int q.2,.int (V q.1 q.2)]
theorem vE(g:Good cs ls)(ga:YA cs.length ls.length old ts):VN [Kw cs ls,ZO o old ts]=O (.list ((KP 0 ls).map (ZZ (Zl ls o old ts)))):=by
 refine Ze  rfl ?_;unfold Ss;refine Kn (Xi (Kx (U6 (U2 v3) (U6 (U2 v3) Kb)) v3 (DD g ga))) ?_;refine Kn (KH (Kx (U6 (U2 v3) Kb) v3 (kE g)) (Qa v3) v3) ?_;have few:(KP 0 ls).length<=42:=by rw[(R6 ls 0).length_eq];exact PK g
 have hc:Zp (gT 2 (gNC (gN 3) (gNC (gN 4) (gN0)))) (U3 v5) (Kt (U1 (UZ 3) (U1 (UZ 4) (U1 (Kd 5 WA (U1 (UZ 0) (U1 (UZ 1) (U1 (UZ 2) (U1 (UZ 3) (U1 (UZ 4) (U0))))))) (U0))))) ((KP 0 ls).map Zc) (KT [pb (Kw cs ls),pb (ZO o old ts),pb (.int (lng ls:Nat))]++UL 2 v4) []=O ((KP 0 ls).map (ZZ (Zl ls o old ts))):=by
  refine Vd (λZ=>∃x y,Z=[pb (Kw cs ls),pb (ZO o old ts),pb (.int (lng ls:Nat)),x,y]) _ _ _ _ (by simp only[Qb]) ?_ ⟨v4,v4,rfl⟩ (by rw[Qb,QC];lia);rintro i d e hd he Z ⟨x,y,rfl⟩;rw[Qf]at hd he;cases hw:(KP 0 ls)[i]? with
  |none=>rw[hw]at hd;cases hd
  |some q=>
  rw[hw]at hd he;cases hd;cases he;obtain⟨a,t⟩:=q;obtain⟨j,rs,hj,ha,ht⟩:=Vg (Qr hw);have ha:a=(j:Int):=by rw[QS]at ha;exact ha
  subst ha;have hv:Zl ls o old ts j t=Zr ls o old ts j rs t:=by unfold Zl;rw[Qz,Qh,hj];rfl
  refine⟨_,KJ v3 (Kh (Ka (Qa v3) v3) (Kh (Ka (Qa v3) v3) KL)),rfl,?_,_,_,rfl⟩;unfold ZZ;dsimp only;rw[hv];exact ZE (U6 (U2 v3) (U6 (U2 v3) (U6 (Kx (U6 (U2 v3) (U6 (U2 v3) (U6 (U2 v3) (U6 (U2 v3) (U6 (U2 v3) Kb))))) v3 (q9 g ga hj t)) Kb))) (Qa v3)
 exact KG (KY (Yj (ZD (Kx (U6 (U2 v3) Kb) v3 (vG g)) YB) hc)) v3
end
section
variable{cs:wc}{ls:L3}{ws:LO}
theorem vN(g:Good cs ls):Vw [Kw cs ls]=O (.int (lng ls:Nat)):=by
 refine Ze  rfl ?_
 have hc:Zp (gN 1) (U3 v5) (K7 1) (ls.map KI) (KT [pb (Kw cs ls)]++UL 1 v4) []=O ((ls.map λrs=>(rs.length)).map int):=by
  refine Vd (λZ=>∃x,Z=[O _,x]) _ _ _ _ (by rw[Qb,Qb,Qb]) ?_ ⟨v4,rfl⟩ (by rw[Qb,QC];have:=g.l7;lia);rintro i d e hd he Z ⟨x,rfl⟩;rw[Qf]at hd;rw[Qf,Qf]at he;cases hl:ls[i]? with
  |none=>rw[hl]at hd;cases hd
  |some rs=>
  rw[hl]at hd he;cases hd;cases he;exact⟨_,Ka (Qa v3) v3,rfl,Zq v3 (Gq rs),_,rfl⟩
 refine KG (ZI (U6 (KY (Yj (ZD (Ko v3 U8 WX) YB) hc)) Kb) (Nx (by rw[Qb];have:=g.l1;lia))) ?_;rw[O0 g.l1]
theorem xR{i:Nat}{rs:List wc}(h:ls[i]?=O rs)(t:Int):Vx [Kw cs ls,.int i,.int t]=O (.int (Zi t rs:Nat)):=by
 refine Ze  rfl ?_;apply KD;apply ZX (λi' Z=>(∃x2 x3,Z=[pb (Kw cs ls),pb (.int i),pb (.int t),x2,x3])/\∀j r,j<i'->rs[j]?=O r->r.contains t=wa)
 case h1=>exact WN (U6 (Kf (Ko v3 U8 WX) (U2 v3) (Ml h)) Kb) WT
 case h0=>exact⟨⟨_,_,rfl⟩,λj r h=>absurd h (Ud _)⟩
 case hst=>
  rintro k d Z hi ⟨⟨x2,x3,rfl⟩,hb⟩;obtain⟨x,hx,rfl⟩:=Wb hi;rw[Qf]at hx;cases hr:rs[k]? with
  |none=>rw[hr]at hx;cases hx
  |some r=>
   rw[hr]at hx;cases hx;refine⟨_,KJ v3 (Kh (Ka (Qa v3) v3) (Kh (Ka (Qa v3) v3) KL)),?_⟩;apply KE
   case h1=>exact Yk v3 (U2 v3) (O2 t r)
   case h2=>
    intro hh;refine KG (Kf (U2 v3) U8 Zf) (RZ ?_);rw[Gv hr hh hb];refine⟨?_⟩
    congr 2
    lia
   case h3=>
    intro hh;refine KO (Zu ⟨⟨_,_,rfl⟩,λj r' hj e=>?_⟩);rcases JX.mp hj with hj|rfl
    .exact hb j r' hj e
    .rw[hr]at e;cases e;exact hh
 case hend=>rintro Z ⟨⟨x2,x3,rfl⟩,hb⟩;refine KB (KG U8 ?_);rw[Gu (λj r hj e=>hb j r (by rw[Y1,Qb];exact hj) e)];rfl
noncomputable def KZ(n:Nat)(qs:wn):wc:=(UK n).map λp=>((qs.count p:Nat):Int)
theorem XM(n)(qs):(KZ n qs).length=n:=by unfold KZ;simp_all
theorem P3{n p}{qs}(h:p<n):(KZ n qs)[p]?=O ((qs.count p:Nat):Int):=by unfold KZ;rw[Qf,QU h];rfl
theorem AM(n):KZ n []=UL n 0:=by unfold KZ;rw[List.eq_replicate_iff];simp_all
theorem HA(hl:ws.length=ls.length):(Km ls ws).length=ls.length:=by unfold Km;rw[List.length_zipWith];omega
end
noncomputable def Xb(c:wc):Int:=c.getD (c.length-1) 0
noncomputable def Yu:Ord->wc->wc
 |.firsts,c=>c
 |.full,c=>(0-Xb c)::c
 |.lasts,c=>c.reverse.map λx=>0-x
noncomputable def Zh(old:wm)(ws:LO):Nat:=match old with
 |none=>0
 |some os=>((os.zip ws).filter λp=>decide (p.1=p.2)&&p.2.isSome).length
noncomputable def ZS(ls:L3)(ws:LO)(a:Int):Int:=match ws.getD a.toNat v4 with
 |none=>0
 |some t=>(lng ls:Int)+1-(Zi t (ls.getD a.toNat []):Nat)
noncomputable def btr:LP->Bool
 |[]=>wa
 |(m,y)::r=>if m=y then btr r else decide (y=0) || (decide (0<m)&&decide (m<y))
noncomputable def rgA(ls:L3)(ws:LO)(a:Int):Int:=(Km ls ws).getD a.toNat 0
noncomputable def Vn(o:Ord)(c1 c2:wc)(k1 k2:Int)(r1 r2:wc):Bool:=if fnz (V3 o c1 c2)=0 then(if k1=k2 then btr (r1.zip r2)else decide (k2<k1))else decide (0<fnz (V3 o c1 c2))
theorem OY(a b):fnz (a++b)=if fnz a=0 then fnz b else fnz a:=by
 induction a with
 |nil=>rfl
 |cons x r ih=>
  show(if x=0 then fnz _ else x)=if(if x=0 then fnz r else x)=0 then fnz b else(if x=0 then fnz r else x)
  by_cases h:x=0
  .simp_all
  simp_all
theorem LC:∀{xs ys},xs.length=ys.length->HT.Xw ys xs=decide (0<fnz (KU xs ys))
 |[],[],_=>rfl
 |x::xs,y::ys,h=>by
  rw[HT.Oq];show _=decide (0<if x-y=0 then fnz (KU xs ys)else x-y);by_cases e:y=x
  .rw[if_pos e,if_pos (by omega),LC (by simpa using h)]
  lia
theorem Od  (h:a.length=c.length):KU (a++b) (c++d)=KU a c++KU b d:=by unfold KU;rw[List.zip_append h,Qt]
theorem R5  (h:a.length=b.length):(KU a b).length=a.length:=by unfold KU;grind
theorem NL  {i:Nat}{x y}(h1:a[i]?=O x)(h2:b[i]?=O y):(KU a b)[i]?=O (x-y):=by unfold KU;rw[Qf,List.getElem?_zip_eq_some.mpr (by exact(⟨h1,h2⟩:a[i]?=O (x,y).1/\b[i]?=O (x,y).2))];rfl
theorem Hz   (h:a.length=b.length):(Yu o a).length=(Yu o b).length:=by
 cases o with
 |firsts=>exact h
 |full=>show(_::a).length=(_::b).length;rw[Qv,Qv,h]
 |lasts=>show(a.reverse.map _).length=(b.reverse.map _).length;simp_all
theorem Gm{o:Ord}{a b:wc}(h:a.length=b.length)(hne:a≠[]):KU (Yu o a) (Yu o b)=V3 o a b:=by
 have hp:0<a.length:=JQ.mpr hne;cases o with
 |firsts=>rfl
 |full=>
  have yj:=R5 h;have hx:a[a.length-1]?=O (Xb a):=by unfold Xb;rw[Qh,Qd (by omega)];rfl
  have hy:b[a.length-1]?=O (Xb b):=by unfold Xb;rw[←h,Qh,Qd (by omega)];rfl
  have hm:=NL hx hy
  show(0-Xb a-(0-Xb b))::KU a b=((KU a b).map λx=>-x).drop ((KU a b).length-1)++KU a b
  have hd:((KU a b).map λx=>-x).drop ((KU a b).length-1)=[-(Xb a-Xb b)]:=by
   rw[yj];have hl:a.length-1<((KU a b).map λx=>-x).length:=by rw[Qb,yj];omega
   rw[Je hl,List.drop_of_length_le (by rw[Qb,yj];omega)];have e:((KU a b).map λx=>-x)[a.length-1]?=O (-(Xb a-Xb b)):=by rw[Qf,hm];rfl
   rw[Qd hl]at e;rw[Q7 e]
  rw[hd]
  congr 1
  omega
 |lasts=>
  show KU (a.reverse.map λx=>0-x) (b.reverse.map λx=>0-x)=((KU a b).map λx=>-x).reverse;apply Jt;intro i;have yj:=R5 h;by_cases hi:i<a.length
  .obtain⟨x,hx⟩:∃x,a[a.length-1-i]?=O x:=⟨_,Qd (by omega)⟩
   obtain⟨y,hy⟩:∃y,b[a.length-1-i]?=O y:=⟨_,Qd (by omega)⟩
   have e1:(a.reverse.map λx=>0-x)[i]?=O (0-x):=by rw[Qf,Ui hi,hx];rfl
   have e2:(b.reverse.map λx=>0-x)[i]?=O (0-y):=by rw[Qf,Ui (by omega),←h,hy];rfl
   rw[NL e1 e2,Ui (by rw[Qb,yj];exact hi),Qb,yj,Qf,NL hx hy];show O (0-x-(0-y))=O (-(x-y))
   congr 1
   omega
  .rw[Q0 (by rw[R5 (by rw[Qb,Qb,JH,JH,h]),Qb,JH];omega),Q0 (by rw[JH,Qb,yj];omega)]
noncomputable def tf(L:Nat)(r:Int):Int:=if r=0 then 0 else(L:Int)+1-r
theorem NK{L:Nat}:∀{xs ys:wc},(∀r∈xs,0<=r/\r<=L)->(∀r∈ys,0<=r/\r<=L)->decide (0<fnz (KU (xs.map (tf L)) (ys.map (tf L))))=btr (xs.zip ys)
 |[],ys,_,_=>by cases ys<;>rfl
 |_::_,[],_,_=>rfl
 |x::xs,y::ys,hx,hy=>by
  have bx:=hx x Qo;have by':=hy y Qo;rw[List.zip_cons_cons,btr];show decide (0<if tf L x-tf L y=0 then fnz (KU _ _)else tf L x-tf L y)=_;by_cases e:x=y
  .rw[Qq e,Qq (by rw[e];omega),NK (λr h=>hx r (Qk _ h)) (λr h=>hy r (Qk _ h))]
  .have hne:tf L x-tf L y≠0:=by unfold tf;split<;>split<;>omega
   rw[QB e,QB hne];apply Ub.2;rw[Jo,Bool.or_eq_true,QI,Jo,Jo,Jo];unfold tf
   split<;>split<;>omega
section
variable{cs:wc}{ls:L3}{ws us:LO}{o:Ord}{old:wm}{ts:wc}
theorem RW(g:Good cs ls)(dl:Deal cs ls ws)(ga:YA cs.length ls.length old ts):ts.map (ZS ls ws)=(ts.map (rgA ls ws)).map (tf (lng ls)):=by
 rw[QT];apply Js;intro z hz;have h:=ga.there z hz;obtain⟨a,rfl⟩:∃a:Nat,z=a:=⟨z.toNat,by omega⟩
 have hal:a<ls.length:=by omega
 have wE:a<ws.length:=by have:=dl.len;omega
 have hls   :=Qd hal;have hwa   :=Qd wE;have hg:=AR hls hwa;show ZS ls ws a=tf (lng ls) (rgA ls ws a);unfold ZS rgA;rw[Qz,Qh,Qh,Qh,hwa,hls,hg]
 show(match ws[a]with|none=>(0:Int)|some t=>(lng ls:Int)+1-(Zi t ls[a]:Nat))=tf (lng ls) _
 have hp:=λt (e:ws[a]=O t)=>Op (dl.wish a t ls[a] (by rw[hwa,e]) hls)
 generalize ws[a]=w at hp;cases w with
 |none=>rfl
 |some t=>have:=hp t v3;show _=tf (lng ls) ((Zi t ls[a]:Nat):Int);unfold tf;rw[QB (by omega)]
theorem RE  : 0<=rgA ls ws z/\rgA ls ws z<=lng ls:=by
 unfold rgA;rw[Qh];cases h:(Km ls ws)[z.toNat]? with
 |none=>simp_all
 |some r=>exact PL r (Qr h)
theorem AL(g:Good cs ls)(d1:Deal cs ls ws)(d2:Deal cs ls us)(ga:YA cs.length ls.length old ts) :
  HT.Xw (Yu o (KS (lng ls) (Km ls us))++[(Zh old us:Int)]++ts.map (ZS ls us)) (Yu o (KS (lng ls) (Km ls ws))++[(Zh old ws:Int)]++ts.map (ZS ls ws)) =
   Vn o (KS (lng ls) (Km ls ws)) (KS (lng ls) (Km ls us)) (Zh old ws) (Zh old us) (ts.map (rgA ls ws)) (ts.map (rgA ls us)):=by
 have hl:(KS (lng ls) (Km ls ws)).length=(KS (lng ls) (Km ls us)).length:=by rw[Td,Td]
 have hne:KS (lng ls) (Km ls ws)≠[]:=λe=>by have:=Td (lng ls) (Km ls ws);rw[e]at this;cases this
 have yc:=Hz (o:=o) hl;rw[LC (by simp only[Qj,Qb,yc];rfl),Od (by rw[Qj,Qj,yc];rfl),Od yc,Gm hl hne,OY,OY,RW g d1 ga,RW g d2 ga];have ht:=NK  (xs:=ts.map (rgA ls ws)) (ys:=ts.map (rgA ls us)) (λr h=>by obtain⟨z,_,rfl⟩:=Qn.mp h;exact RE) (λr h=>by obtain⟨z,_,rfl⟩:=Qn.mp h;exact RE);unfold Vn;rw[←ht]
 have hk:fnz (KU [(Zh old ws:Int)] [(Zh old us:Int)])=(Zh old ws:Int)-Zh old us:=by
  show(if(Zh old ws:Int)-Zh old us=0 then(0:Int)else(Zh old ws:Int)-Zh old us)=_
  split<;>omega
 rw[hk];by_cases h1:fnz (V3 o (KS (lng ls) (Km ls ws)) (KS (lng ls) (Km ls us)))=0
 .rw[Qq h1,Qq h1]
  by_cases h2:(Zh old ws:Int)=Zh old us
  .rw[Qq h2,Qq (by omega)]
  .rw[QB h2,QB (by omega)]
   exact Ub.2 (by rw[Jo,Jo];omega)
 .rw[QB h1,QB h1,QB h1]
end
noncomputable def val(B:Int):wc->Int
 |[]=>0
 |d::r=>d*B ^ r.length+val B r
theorem Nr{B:Int}(h:0<B)(n:Nat):0<B ^ n:=Int.pow_pos h
theorem NJ  (hB:0<B):∀{l},(∀d∈l, -(B-1)<=d/\d<=B-1) -> -(B ^ l.length-1)<=val B l/\val B l<=B ^ l.length-1
 |[],_=>by simp[val]
 |d::r,h=>by
  have h1:=h d Qo;have h2:=NJ hB  λx hx=>h x (Qk _ hx);have hp:=Nr hB r.length;rw[val,Qv,Int.pow_succ];generalize B ^ r.length=P at h2 hp;generalize val B r=v at h2;have u1:d*P<=_*P:=Jr h1.2 (by omega)
  have u2 : -_*P<=d*P:=Jr h1.1 (by omega);have e1:(B-1)*P=P*B-P:=by rw[Int.sub_mul,Int.one_mul,Int.mul_comm]
  have e2 : -(B-1)*P = -(P*B-P):=by rw[Int.neg_mul,e1]
  omega
theorem NI{X Y P}(hP:0<P)(hY : -(P-1)<=Y/\Y<=P-1):(0<X*P+Y ↔ 0<X∨X=0/\0<Y)/\(X*P+Y=0 ↔ X=0/\Y=0):=by
 rcases Int.lt_trichotomy X 0 with h|h|h
 .have:X*P <= -1*P:=Jr (by omega) (by omega)
  lia
 .lia
 .have:1*P<=X*P:=Jr (by omega) (by omega)
  lia
theorem OX  (hB:0<B):∀{l},(∀d∈l, -(B-1)<=d/\d<=B-1)->(0<val B l ↔ 0<fnz l)/\(val B l=0 ↔ fnz l=0)
 |[],_=>by simp[val,fnz]
 |d::r,h=>by
  have hr:=λx hx=>h x (Qk d hx);have ih:=OX hB  hr;have tp:=NI (X:=d) (Nr hB r.length) (NJ hB hr)
  show(0<d*B ^ r.length+val B r ↔ 0<if d=0 then fnz r else d)/\(d*B ^ r.length+val B r=0 ↔ (if d=0 then fnz r else d)=0)
  by_cases hd:d=0
  .rw[Qq hd]
   constructor
   .rw[tp.1,ih.1];omega
   .rw[tp.2,ih.2];omega
  .rw[QB hd]
   constructor
   .rw[tp.1];omega
   .rw[tp.2];omega
theorem Nq  : ∀{xs ys},xs.length=ys.length->val B (KU xs ys)=val B xs-val B ys
 |[],[],_=>rfl
 |x::xs,y::ys,h=>by
  have hl   :=by simpa using h
  show(x-y)*B ^ (KU xs ys).length+val B (KU xs ys)=_
  rw[Nq hl,R5 hl,val,val,←hl,Int.sub_mul];omega
theorem BC  (l):val B (l.map λx=>-x) = -val B l:=by
 induction l with
 |nil=>rfl
 |cons d r ih=>rw[QF,val,val,ih,Qb,Int.neg_mul];omega
theorem Gk  : ∀{xs}{p},p<xs.length->val B (V4 xs p 1)=val B xs+B ^ (xs.length-1-p)
 |x::xs,0,_=>by
  show(x+1)*B ^ xs.length+val B xs=x*B ^ xs.length+val B xs+B ^ xs.length
  lia
 |x::xs,p+1,h=>by
  have hp   :=by simpa using h
  have ih:=Gk (B:=B) hp;have e:V4 (x::xs) (p+1) 1=x::V4 xs p 1:=by rfl
  rw[e,val,val,ih,Gp]
  grind
theorem q8  {qs}:V4 (KZ n qs) p 1=KZ n (p::qs):=by
 apply Jt;intro k;by_cases hk:k<n
 .rw[jb (P3 hk),P3 hk,Ue]
  congr 1
  by_cases e:k=p
  .simp_all
  .have:¬(p==k)=v5:=by rw[beq_iff_eq];exact λz=>e z.symm
   rw[QB e,QB this];omega
 .rw[Q0 (by rw[Gp,XM];omega),Q0 (by rw[XM];omega)]
theorem qZ  (n):val B (UL n 0)=0:=by
 induction n with
 |zero=>rfl
 |succ n ih=>rw[JO,val,ih,Int.zero_mul];rfl
theorem Np  {n}:∀{qs},(∀p∈qs,p<n)->val B (KZ n qs)=(qs.map λp=>B ^ (n-1-p)).sum
 |[],_=>by rw[AM,qZ];rfl
 |p::qs,h=>by rw[←q8,Gk (by rw[XM];simp_all),Np (λq hq=>h q (List.mem_cons_of_mem _ hq)),XM,List.map_cons,List.sum_cons];omega
theorem BB  {n:Nat}:∀{qs},(∀p∈qs,p<n)->val B (KZ n qs).reverse=(qs.map λp=>B ^ p).sum:=λ{qs} h=>by
 have e:(KZ n qs).reverse=KZ n (qs.map λp=>n-1-p):=by
  apply Jt;intro k;by_cases hk:k<n
  .rw[Ui (by rw[XM];exact hk),XM,P3 (by omega),P3 hk]
   congr 2
   rw[List.count,List.count,List.countP_map];apply List.countP_congr;intro p hp;have:=h p hp;simp only[Function.comp,beq_iff_eq];omega
  .rw[Q0 (by rw[JH,XM];omega),Q0 (by rw[XM];omega)]
 rw[e,Np (λp hp=>by obtain⟨q,hq,rfl⟩:=Qn.mp hp;have:=h q hq;omega),QT]
 congr 1
 apply Js;intro p hp;have:=h p hp;show B ^ (n-1-(n-1-p))=B ^ p
 congr 1
 omega
noncomputable def Zo(o:Ord)(L:Nat)(qs:wn):wc:=match o with
 |.firsts=>KZ L qs
 |.full=>(qs.length:Int)::KZ L qs
 |.lasts=>(qs.length:Int)::(KZ L qs).reverse.map λx=>-x
theorem LB{α:Type}(f g:α->Int)(l:List α):(l.map λx=>f x+g x).sum=(l.map f).sum+(l.map g).sum:=by
 induction l with
 |nil=>rfl
 |cons a r ih=>rw[QF,Jw,ih,QF,Jw,QF,Jw];omega
theorem BA{α:Type}(f g:α->Int)(l:List α):(l.map λx=>f x-g x).sum=(l.map f).sum-(l.map g).sum:=by
 induction l with
 |nil=>rfl
 |cons a r ih=>rw[QF,Jw,ih,QF,Jw,QF,Jw];omega
theorem NW{α:Type}(c)(l:List α):(l.map λ_=>c).sum=(l.length:Int)*c:=by
 induction l with
 |nil=>simp
 |cons a r ih=>rw[QF,Jw,ih,Qv,Int.natCast_add,Int.add_mul];omega
theorem Bz(o:Ord){B:Int}{L:Nat}{sr:wc}(h:∀r∈sr,1<=r/\r<=L):(sr.map (ZM o B L)).sum=val B (Zo o L (sr.map λr=>(r-1).toNat)):=by
 have hq:∀p∈sr.map (λr=>(r-1).toNat),p<L:=λp hp=>by obtain⟨r,hr,rfl⟩:=Qn.mp hp;have:=h r hr;omega
 have e1:(sr.map λr=>B ^ ((L:Int)-r).toNat).sum=val B (KZ L (sr.map λr=>(r-1).toNat)):=by
  rw[Np hq,QT]
  congr 1
  apply Js;intro r hr;have:=h r hr;show B ^ _=B ^ (L-1-(r-1).toNat)
  congr 1
  omega
 have e2:(sr.map λr=>B ^ (r-1).toNat).sum=val B (KZ L (sr.map λr=>(r-1).toNat)).reverse:=by rw[BB hq,QT];rfl
 have e3:(sr.map λ_=>B ^ (L:Int).toNat).sum=((sr.map λr=>(r-1).toNat).length:Int)*B ^ L:=by rw[NW,Qb,Qz]
 cases o with
 |firsts=>exact e1
 |full=>
  show(sr.map λr=>B ^ (L:Int).toNat+B ^ ((L:Int)-r).toNat).sum=((sr.map λr=>(r-1).toNat).length:Int)*B ^ (KZ L _).length+val B _
  rw[LB,e1,e3,XM]
 |lasts=>
  show(sr.map λr=>B ^ (L:Int).toNat-B ^ (r-1).toNat).sum=((sr.map λr=>(r-1).toNat).length:Int)*B ^ ((KZ L (sr.map λr=>(r-1).toNat)).reverse.map λx=>-x).length+val B _
  rw[BA,e2,e3,BC,Qb,Qb,JH,XM];omega
noncomputable def srv(got:wc):wc:=got.filter λr=>decide (r≠0)
noncomputable def plQ(got:wc):wn:=(srv got).map λr=>(r-1).toNat
theorem Fw   (h:okR L got):KS L got=KZ L (plQ got)++[(got.length:Int)-(plQ got).length]:=by
 unfold KS
 congr 1
 .apply Js
  intro p _
  congr 1
  unfold plQ srv;rw[List.count,List.count,List.countP_map,List.countP_filter];apply List.countP_congr;intro r hr;have:=h r hr;simp only[Function.comp,beq_iff_eq,QI,Jo];omega
 .congr 1
  unfold plQ srv;rw[Qb,List.count]
  have e:got.length=got.countP (λr=>decide (r≠0))+got.countP (λr=>r==0):=by
   rw[List.length_eq_countP_add_countP]
   congr 1
   apply List.countP_congr;intro r _;simp
  rw[List.countP_eq_length_filter]at e;omega
theorem FQ:∀{a b},a.length=b.length->fnz (KU a b)=0->a=b
 |[],[],_,_=>rfl
 |x::a,y::b,h,e=>by
  have e:(if x-y=0 then fnz (KU a b)else x-y)=0:=e;by_cases hxy:x-y=0
  .rw[Qq hxy]at e
   rw[FQ (by simpa using h) e,show x=y by omega]
  simp_all
theorem Hy{n:Nat}{qs:wn}(h:∀p∈qs,p<n):(KZ n qs).sum=qs.length:=Fa qs n h
theorem MB   (h:okR L got):∀p∈plQ got,p<L:=λp hp=>by
 obtain⟨r,hr,rfl⟩:=Qn.mp hp;obtain⟨hr,h0⟩:=Jx.mp hr;have:=h r hr
 lia
theorem AK{o:Ord}{L:Nat}{g1 g2:wc}(h1:okR L g1)(h2:okR L g2)(hl:g1.length=g2.length):fnz (V3 o (KS L g1) (KS L g2))=fnz (KU (Zo o L (plQ g1)) (Zo o L (plQ g2))):=by
 have hcl:(KS L g1).length=(KS L g2).length:=by rw[Td,Td]
 have hne:KS L g1≠[]:=λe=>by have:=Td L g1;rw[e]at this;cases this
 rw[←Gm hcl hne,Fw h1,Fw h2];have l1:=XM L (plQ g1);have l2:=XM L (plQ g2);have s1:=Hy (MB h1);have s2:=Hy (MB h2);generalize hc1:KZ L (plQ g1)=C1 at *;generalize hc2:KZ L (plQ g2)=C2 at *;have hC:C1.length=C2.length:=by rw[l1,l2]
 have last:∀(C:wc)(z:Int),Xb (C++[z])=z:=λC z=>by
  unfold Xb;rw[Qj,Qh,Qw (by show C.length<=C.length+1-1;omega)]
  show([z][C.length+1-1-C.length]?).getD 0=z
  rw[show C.length+1-1-C.length=0 by omega];rfl
 have tail:fnz (KU C1 C2++KU [(g1.length:Int)-(plQ g1).length] [(g2.length:Int)-(plQ g2).length])=fnz (KU C1 C2):=by
  rw[OY];by_cases e:fnz (KU C1 C2)=0
  .have:=FQ hC e
   rw[Qq e,e]
   show(if(g1.length:Int)-(plQ g1).length-((g2.length:Int)-(plQ g2).length)=0 then(0:Int)else _)=0
   rw[Qq (by rw[this]at s1;omega)]
  .rw[QB e]
 cases o with
 |firsts=>show fnz (KU (C1++_) (C2++_))=fnz (KU (KZ L (plQ g1)) (KZ L (plQ g2)));rw[hc1,hc2,Od hC,tail]
 |full=>
  show fnz (KU ((0-Xb (C1++_))::(C1++_)) ((0-Xb (C2++_))::(C2++_)))=fnz (KU (((plQ g1).length:Int)::KZ L (plQ g1)) (((plQ g2).length:Int)::KZ L (plQ g2)));rw[hc1,hc2,last,last]
  show(if(0-((g1.length:Int)-(plQ g1).length))-(0-((g2.length:Int)-(plQ g2).length))=0 then fnz (KU (C1++_) (C2++_))else _)=_
  rw[Od hC,tail];have e:(0-((g1.length:Int)-(plQ g1).length))-(0-((g2.length:Int)-(plQ g2).length))=((plQ g1).length:Int)-(plQ g2).length:=by omega
  rw[e]
  congr 1
 |lasts=>
  show fnz (KU ((C1++[_]).reverse.map λx=>0-x) ((C2++[_]).reverse.map λx=>0-x))=fnz (KU (((plQ g1).length:Int)::(KZ L (plQ g1)).reverse.map λx=>-x) (((plQ g2).length:Int)::(KZ L (plQ g2)).reverse.map λx=>-x));rw[hc1,hc2,List.reverse_append,List.reverse_append];have e0:(λx:Int=>0-x)=λx=>-x:=by funext x;omega
  rw[e0]
  show(if -((g1.length:Int)-(plQ g1).length) - -((g2.length:Int)-(plQ g2).length)=0 then fnz (KU (C1.reverse.map λx=>-x) (C2.reverse.map λx=>-x))else _)=_
  have e : -((g1.length:Int)-(plQ g1).length) - -((g2.length:Int)-(plQ g2).length)=((plQ g1).length:Int)-(plQ g2).length:=by omega
  rw[e]
  congr 1
theorem No  {c}(h:∀i rs t,W i rs t=W1 i rs t*c+W2 i rs t):∀(ls)(ws)(k),K4 (K2 W k ls ws)=K4 (K2 W1 k ls ws)*c+K4 (K2 W2 k ls ws)
 |[],_,_=>by simp[K2,K4]
 |_::_,[],_=>by simp[K2,K4]
 |rs::ls,o::ws,k=>by
  rw[K2,K2,K2,Tz,Tz,Tz,No h ls ws _,Int.add_mul];cases o with
  |none=>simp_all
  |some t=>show W k rs t+_=W1 k rs t*c+_+(W2 k rs t+_);rw[h];omega
theorem Hx  : ∀(ls)(ws)(k:Nat),(∀(i:Nat) t rs,ws[i]?=O (O t)->ls[i]?=O rs->Zi t rs≠0)->K4 (K2 (λ_ rs t=>f (Zi t rs:Nat)) k ls ws)=((srv (Km ls ws)).map f).sum
 |[],_,_,_=>by simp[K2,K4,Km,srv]
 |_::_,[],_,_=>by simp[K2,K4,Km,srv]
 |rs::ls,o::ws,k,h=>by
  have ih:=Hx (f:=f) ls ws (k+1) λi t r h1 h2=>h (i+1) t r (by simpa using h1) (by simpa using h2)
  have e:Km (rs::ls) (o::ws)=rg rs o::Km ls ws:=rfl;rw[K2,Tz,ih,e];cases o with
  |none=>
   have:srv (rg rs none::Km ls ws)=srv (Km ls ws):=rfl;rw[this]
   show(0:Int)+_=_
   omega
  |some t=>
   have h0:=h 0 t rs v3 v3;have:srv (rg rs (O t)::Km ls ws)=((Zi t rs:Nat):Int)::srv (Km ls ws):=by unfold srv;rw[List.filter_cons_of_pos (by show decide (((Zi t rs:Nat):Int)≠0)=v5;simpa using h0)];rfl
   rw[this,QF];rfl
theorem NY  {h:Nat->Int}:∀(ls)(ws)(k:Nat),ws.length=ls.length->(∀(i:Nat) rs o,ls[i]?=O rs->ws[i]?=O o->(o.map (W (k+i) rs)).getD 0=h (k+i))->K4 (K2 W k ls ws)=((UK ls.length).map λi=>h (k+i)).sum
 |[],[],_,_,_=>by simp[K2,K4]
 |rs::ls,o::ws,k,hl,hh=>by
  have ih:=NY (h:=h) ls ws (k+1) (by simpa using hl) λi rs' o' h1 h2=>by have:=hh (i+1) rs' o' (by simpa using h1) (by simpa using h2);rw[show k+1+i=k+(i+1)by omega];exact this
  have h0:=hh 0 rs o v3 v3;rw[K2,Tz,ih,Qv,List.range_succ_eq_map,QF,QT]
  congr 2
  apply Js;intro i _;show h (k+1+i)=h _;rw[show k+1+i=k+(i+1)by omega]
theorem LA{c:Int}{a}:∀n:Nat,((UK n).map λi=>if i=a then c else 0).sum=if a<n then c else 0
 |0=>by simp
 |n+1=>by
  rw[Uf,Qt,Ug,LA n];show _+(_+0)=_;by_cases h:a<n
  .lia
  lia
theorem Hw{b:Int}{g:Int->Int}{n:Nat}:∀{ts:wc},ts.Nodup->(∀a∈ts,0<=a/\a<n)->((UK n).map λi:Nat=>if(i:Int)∈ts then g i*b ^ (ts.length-1-ts.idxOf (i:Int))else 0).sum=val b (ts.map g)
 |[],_,_=>by
  have:(λi:Nat=>if(i:Int)∈([]:wc)then g i*b ^ (([]:wc).length-1-([]:wc).idxOf (i:Int))else 0)=λ_=>(0:Int):=by funext i;rw[if_neg (by simp)]
  rw[this,NW];simp[val]
 |a::r,hn,hb=>by
  obtain⟨ha,hr⟩:=List.nodup_cons.mp hn;have h0:=hb a Qo;have ih:=Hw (b:=b) (g:=g) (n:=n) hr λx hx=>hb x (Qk _ hx)
  have e:(λi:Nat=>if(i:Int)∈a::r then g i*b ^ ((a::r).length-1-(a::r).idxOf (i:Int))else 0) =
    λi:Nat=>(if i=a.toNat then g a*b ^ r.length else 0)+(if(i:Int)∈r then g i*b ^ (r.length-1-r.idxOf (i:Int))else 0):=by
   funext i;by_cases h:(i:Int)=a
   .have hi:i=a.toNat:=by omega
    rw[Qq (by rw[h];exact Qo),Qq hi,QB (by rw[h];exact ha),h,Qv];simp
   .have hi:¬i=a.toNat:=by omega
    rw[QB hi,JL];by_cases h2:(i:Int)∈r
    .have hb:(a==(i:Int))=wa:=by simpa using Ne.symm h
     rw[Qq (Qk _ h2),Qq h2,List.idxOf_cons,hb,Qv];show g i*b ^ (r.length+1-1-(r.idxOf (i:Int)+1))=_
     congr 2
     omega
    .rw[if_neg h2,if_neg (by simp[h,h2])]
  rw[e,LB,LA,Qq (by omega),ih,QF,val,Qb]
section
variable{cs:wc}{ls:L3}{ws us:LO}{o:Ord}{old:wm}{ts:wc}
theorem qY(hl:ws.length=ls.length)(ga:YA cs.length ls.length old ts):K4 (K2 (λi rs t=>Xc ts (lng ls+1) i (Zi t rs:Nat)) 0 ls ws)=val ((lng ls:Int)+1) (ts.map (ZS ls ws)):=by
 rw[NY  ls ws 0 hl,←Hw ga.once ga.there]
 .congr 2
  funext i;rw[QS]
 .intro i rs o' h1 h2
  rw[QS];have e:ZS ls ws (i)=(o'.map λt=>(lng ls:Int)+1-(Zi t rs)).getD 0:=by unfold ZS;rw[Qz,Qh,Qh,h1,h2];cases o'<;>rfl
  rw[e];cases o' with
  |none=>
   show(0)=if(i:Int)∈ts then 0*_ else 0
   split
   .rw[Int.zero_mul]
   .rfl
  |some t=>rfl
theorem Gj{os:LO}:∀(ls)(ws)(k:Nat),ws.length=ls.length->K4 (K2 (λi _ t=>if os[i]?=O (O t)then 1 else 0) k ls ws)=((((os.drop k).zip ws).filter λp=>decide (p.1=p.2)&&p.2.isSome).length:Nat)
 |[],[],k,_=>by simp[K2,K4]
 |rs::ls,o::ws,k,hl=>by
  have ih:=Gj (os:=os) ls ws (k+1) (by simpa using hl);rw[K2,Tz,ih];by_cases hk:k<os.length
  .rw[Je hk,List.zip_cons_cons,Qd hk]
   cases o with
   |none=>rw[List.filter_cons_of_neg (by simp)];show(0:Int)+_=_;omega
   |some t=>
    show(if O os[k]=O (O t)then(1:Int)else 0)+_=_
    by_cases e:os[k]=O t
    .rw[if_pos (by rw[e]),List.filter_cons_of_pos (by simp[e]),List.length_cons];omega
    .rw[if_neg (by simpa using e),List.filter_cons_of_neg (by simp[e])];omega
  .rw[J7 (by omega),J7 (by omega),List.zip_nil_left,List.zip_nil_left,Q0 (by omega)]
   cases o with
   |none=>rfl
   |some t=>rfl
theorem AJ(hl:ws.length=ls.length):K4 (K2 (λi _ t=>YU old i t) 0 ls ws)=(Zh old ws:Int):=by
 cases old with
 |none=>
  rw[NY (h:=λ_=>0) ls ws 0 hl,NW]
  .simp[Zh]
  .intro i rs o' _ _
   cases o'<;>rfl
 |some os=>exact Gj ls ws 0 hl
theorem Gi(dl:Deal cs ls ws)(ga:YA cs.length ls.length old ts):K4 (K2 (Zr ls o old ts) 0 ls ws) =
  (val ((ls.length:Int)+1) (Zo o (lng ls) (plQ (Km ls ws)))*((ls.length:Int)+1)+Zh old ws)*((lng ls:Int)+1) ^ ts.length+val ((lng ls:Int)+1) (ts.map (ZS ls ws)):=by
 rw[No (W:=Zr ls o old ts)    (λ_ _ _=>rfl) ls ws 0,
  No    (λ_ _ _=>rfl) ls ws 0,qY dl.len ga,AJ dl.len,
  Hx  ls ws 0 (λi t rs h1 h2=>Op (dl.wish i t rs h1 h2)),Bz o]
 .rfl
 .intro r hr
  obtain⟨hr,h0⟩:=Jx.mp hr;have:=PL   r hr
  lia
end
theorem Nn{lo n}{a b}(ha:∀x∈a,lo<=x/\x<=lo+n)(hb:∀x∈b,lo<=x/\x<=lo+n):∀d∈KU a b, -n<=d/\d<=n:=λd hd=>by
 obtain⟨p,hp,rfl⟩:=Qn.mp hd;obtain⟨h1,h2⟩:=List.of_mem_zip   hp
 grind
theorem PJ   {m}(h:(qs.length:Int)<=m):∀x∈KZ n qs,0<=x/\x<=0+m:=λx hx=>by
 obtain⟨p,_,rfl⟩:=Qn.mp hx
 grind
theorem AI(o)(L)(p q):(Zo o L p).length=(Zo o L q).length:=by cases o<;>simp[Zo,XM]
theorem By(o:Ord){L:Nat}{p q}{m:Int}(hp:(p.length:Int)<=m)(hq:(q.length:Int)<=m):∀d∈KU (Zo o L p) (Zo o L q), -m<=d/\d<=m:=by
 have hc:=Nn (PJ (n:=L) hp) (PJ (n:=L) hq);cases o with
 |firsts=>exact hc
 |full=>
  intro d hd;rcases QQ.mp (show d∈((p.length:Int)-q.length)::KU _ _ from hd)with rfl|h
  .omega
  .exact hc d h
 |lasts=>
  intro d hd;rcases QQ.mp (show d∈((p.length:Int)-q.length)::KU _ _ from hd)with rfl|h
  .omega
  .refine Nn (lo:=-m)  (λx hx=>?_) (λx hx=>?_) d h
   .obtain⟨y,hy,rfl⟩:=Qn.mp hx
    have:=PJ (n:=L) hp y (Uw.mp hy);omega
   .obtain⟨y,hy,rfl⟩:=Qn.mp hx
    have:=PJ (n:=L) hq y (Uw.mp hy);omega
theorem AH   (h:Yu o a=Yu o b):a=b:=by
 cases o with
 |firsts=>exact h
 |full=>exact(Ux h).2
 |lasts=>have:=(List.map_inj_right (λx y (e)=>by omega)).mp h;exact List.reverse_inj.mp this
theorem kA{a a' k k' t t' B P:Int}:((a*B+k)*P+t)-((a'*B+k')*P+t')=((a-a')*B+(k-k'))*P+(t-t'):=by
 lia
section
variable{cs:wc}{ls:L3}{ws us:LO}{o:Ord}{old:wm}{ts:wc}
theorem Lz:((plQ (Km ls ws)).length:Int)<=ls.length:=by
 have h1:(plQ (Km ls ws)).length<=(Km ls ws).length:=by unfold plQ srv;rw[Qb];exact JJ _ _
 have h2:(Km ls ws).length<=ls.length:=by unfold Km;grind
 omega
theorem Gh(hl:ws.length=ls.length):(Zh old ws:Int)<=ls.length:=by
 cases old with
 |none=>show((0))<=_;omega
 |some os=>
  have h:=JJ (λp   =>decide (p.1=p.2)&&p.2.isSome) (os.zip ws);rw[List.length_zip]at h
  show((((os.zip ws).filter λp=>decide _&&p.2.isSome).length):Int)<=_
  omega
theorem Hv(g:Good cs ls)(dl:Deal cs ls ws)(ga:YA cs.length ls.length old ts):∀x∈ts.map (ZS ls ws),0<=x/\x<=0+(lng ls:Int):=λx hx=>by
 rw[RW g dl ga]at hx;obtain⟨y,hy,rfl⟩:=Qn.mp hx;obtain⟨z,_,rfl⟩:=Qn.mp hy;have:=RE (ls:=ls) (ws:=ws) (z:=z);unfold tf
 lia
theorem kz(g:Good cs ls)(d1:Deal cs ls ws)(d2:Deal cs ls us)(ga:YA cs.length ls.length old ts){w1 w2:Int}(e1:w1=K4 (K2 (Zr ls o old ts) 0 ls ws))(e2:w2=K4 (K2 (Zr ls o old ts) 0 ls us)) :
  (w2<w1 ↔ 0<fnz (V3 o (KS (lng ls) (Km ls ws)) (KS (lng ls) (Km ls us)))∨fnz (V3 o (KS (lng ls) (Km ls ws)) (KS (lng ls) (Km ls us)))=0/\((Zh old us:Int)<Zh old ws∨(Zh old ws:Int)=Zh old us/\0<fnz (KU (ts.map (ZS ls ws)) (ts.map (ZS ls us))))) /\
  (w1=w2 ↔ fnz (V3 o (KS (lng ls) (Km ls ws)) (KS (lng ls) (Km ls us)))=0/\(Zh old ws:Int)=Zh old us/\fnz (KU (ts.map (ZS ls ws)) (ts.map (ZS ls us)))=0):=by
 have hgl:(Km ls ws).length=(Km ls us).length:=by rw[HA d1.len,HA d2.len]
 rw[AK (PL (ls:=ls) (ws:=ws)) (PL (ls:=ls) (ws:=us)) hgl];have hB:(0:Int)<(ls.length:Int)+1:=by omega
 have hM:(0:Int)<(lng ls:Int)+1:=by omega
 have bd1:=By o (L:=lng ls) (Lz (ls:=ls) (ws:=ws)) (Lz (ls:=ls) (ws:=us));have bd2:=Nn (Hv g d1 ga) (Hv g d2 ga);have k1:=Gh (old:=old) d1.len;have k2:=Gh (old:=old) d2.len;have hl1:=AI o (lng ls) (plQ (Km ls ws)) (plQ (Km ls us));have hl2:(ts.map (ZS ls ws)).length=(ts.map (ZS ls us)).length:=by rw[Qb,Qb]
 have v1:=Nq (B:=(ls.length:Int)+1) hl1;have v2:=Nq (B:=(lng ls:Int)+1) hl2;have ml:(KU (ts.map (ZS ls ws)) (ts.map (ZS ls us))).length=ts.length:=by rw[R5 hl2,Qb]
 have f1:=OX hB (l:=KU (Zo o (lng ls) (plQ (Km ls ws))) (Zo o (lng ls) (plQ (Km ls us)))) (λd hd=>by have:=bd1 d hd;omega);have f2:=OX hM (l:=KU (ts.map (ZS ls ws)) (ts.map (ZS ls us))) (λd hd=>by have:=bd2 d hd;omega);have sm:=NJ hM (l:=KU (ts.map (ZS ls ws)) (ts.map (ZS ls us))) (λd hd=>by have:=bd2 d hd;omega);rw[ml]at sm;have w9:=NI (X:=val ((ls.length:Int)+1) (KU (Zo o (lng ls) (plQ (Km ls ws))) (Zo o (lng ls) (plQ (Km ls us))))) (Y:=(Zh old ws:Int)-Zh old us) hB (by omega);have yg:=NI (X:=val ((ls.length:Int)+1) (KU (Zo o (lng ls) (plQ (Km ls ws))) (Zo o (lng ls) (plQ (Km ls us))))*((ls.length:Int)+1)+((Zh old ws:Int)-Zh old us)) (Nr hM ts.length) sm;have df:w1-w2=(val ((ls.length:Int)+1) (KU (Zo o (lng ls) (plQ (Km ls ws))) (Zo o (lng ls) (plQ (Km ls us))))*((ls.length:Int)+1)+((Zh old ws:Int)-Zh old us))*((lng ls:Int)+1) ^ ts.length+val ((lng ls:Int)+1) (KU (ts.map (ZS ls ws)) (ts.map (ZS ls us))):=by rw[e1,e2,Gi d1 ga,Gi d2 ga,v1,v2];exact kA
 rw[←df]at yg;generalize val ((ls.length:Int)+1) (KU (Zo o (lng ls) (plQ (Km ls ws))) (Zo o (lng ls) (plQ (Km ls us))))*((ls.length:Int)+1)+((Zh old ws:Int)-Zh old us)=X at w9 yg;generalize val ((lng ls:Int)+1) (KU (ts.map (ZS ls ws)) (ts.map (ZS ls us)))=Y at yg f2;generalize fnz (KU (Zo o (lng ls) (plQ (Km ls ws))) (Zo o (lng ls) (plQ (Km ls us))))=A at f1⊢;generalize fnz (KU (ts.map (ZS ls ws)) (ts.map (ZS ls us)))=C at f2⊢;constructor
 .constructor
  .intro h
   rcases yg.1.mp (by omega)with h1|⟨h1,h2⟩
   .rcases w9.1.mp h1 with h3|⟨h3,h4⟩
    .exact .inl (f1.1.mp h3)
    .exact .inr ⟨f1.2.mp h3,.inl (by omega)⟩
   .obtain⟨h3,h4⟩:=w9.2.mp h1
    exact .inr ⟨f1.2.mp h3,.inr ⟨by omega,f2.1.mp h2⟩⟩
  .intro h
   have:0<w1-w2:=yg.1.mpr (by
    rcases h with h|⟨h,h2|⟨h2,h3⟩⟩
    .exact .inl (w9.1.mpr (.inl (f1.1.mpr h)))
    .exact .inl (w9.1.mpr (.inr ⟨f1.2.mpr h,by omega⟩))
    .exact .inr ⟨w9.2.mpr ⟨f1.2.mpr h,by omega⟩,f2.1.mpr h3⟩)
   omega
 .constructor
  .intro h
   obtain⟨h1,h2⟩:=yg.2.mp (by omega);obtain⟨h3,h4⟩:=w9.2.mp h1;exact⟨f1.2.mp h3,by omega,f2.2.mp h2⟩
  .rintro⟨h1,h2,h3⟩
   have:=yg.2.mpr ⟨w9.2.mpr ⟨f1.2.mpr h1,by omega⟩,f2.2.mpr h3⟩;omega
theorem NV(g:Good cs ls)(d1:Deal cs ls ws)(d2:Deal cs ls us)(ga:YA cs.length ls.length old ts) :
  Vn o (KS (lng ls) (Km ls ws)) (KS (lng ls) (Km ls us)) (Zh old ws) (Zh old us) (ts.map (rgA ls ws)) (ts.map (rgA ls us))=decide (K4 (K2 (Zr ls o old ts) 0 ls us)<K4 (K2 (Zr ls o old ts) 0 ls ws)):=by
 have ht:=NK  (xs:=ts.map (rgA ls ws)) (ys:=ts.map (rgA ls us)) (λr h=>by obtain⟨z,_,rfl⟩:=Qn.mp h;exact RE) (λr h=>by obtain⟨z,_,rfl⟩:=Qn.mp h;exact RE);rw[←RW g d1 ga,←RW g d2 ga]at ht;have hs:=(kz (o:=o) g d1 d2 ga v3 v3).1;unfold Vn
 lia
end
noncomputable def whB:D->Bool
 |.int _=>v5
 |_=>wa
noncomputable def belB(n:Int):D->Bool
 |.int i=>decide (0<=i)&&decide (i<n)
 |_=>wa
theorem Gg(d):WC [d]=O (.bool (whB d)):=by
 cases d with
 |dict kvs=>exact Ze  rfl (KG (W8  (u:=wa) (Dk (U2 v3)) λz=>by cases z) v3)
 |_=>rfl
theorem Ge(d)(n):ZB [d,.int n]=O (.bool (belB n d)):=by
 refine Ze  rfl ?_;cases d with
 |int i=>exact KG (W8   (Kx (U6 (U2 v3) Kb) v3 (Gg _)) (λ_=>KY (P6 U8 (U2 v3) v3 (λ_=>U2 v3) (λ_=>rfl)))) v3
 |_=>exact KG (W8 (t:=wa) (u:=wa) (Kx (U6 (U2 v3) Kb) v3 (Gg _)) (λz=>by cases z)) v3
section
variable{cs:wc}{ls:L3}{o:Ord}{old:wm}{ts:wc}
theorem Fv  {b a r x:Int}(hn:(ts++[x]).Nodup):Xc (ts++[x]) b a r=Xc ts b a r*b+if x=a then b-r else 0:=by
 have hx   :=λz=>(List.nodup_append.mp hn).2.2 x z x (List.mem_singleton.mpr v3) v3;unfold Xc
 by_cases h:a∈ts
 .have hxa:¬x=a:=λe=>hx (e ▸ h)
  have hlt:=List.idxOf_lt_length_of_mem h;rw[Qq (Q8 _ h),Qq h,QB hxa,List.idxOf_append,Qq h,Qj,QD,show ts.length+1-1-ts.idxOf a=(ts.length-1-ts.idxOf a)+1 by lia,Int.pow_succ,Int.add_zero,Int.mul_assoc]
 .rw[QB h,Int.zero_mul,JL]
  by_cases e:x=a
  .subst e
   rw[if_pos (by simp),if_pos v3,List.idxOf_append,if_neg h,List.length_append,List.length_singleton,List.idxOf_cons_self,show ts.length+1-1-_=0 by lia,Int.pow_zero,Int.mul_one]
  .rw[if_neg (by simp[h];exact λz=>e z.symm),if_neg e]
noncomputable def pwL(b:Int)(n:Nat):wc:=(UK (n+1)).map λj:Nat=>b ^ j
theorem Ly  {n j}(h:j<=n):(pwL b n)[j]?=O (b ^ j):=by unfold pwL;rw[Qf,QU (by lia)];rfl
theorem Lx   : (pwL b n).length=n+1:=by unfold pwL;simp_all
theorem AG   : pwL b (n+1)=pwL b n++[b ^ n*b]:=by unfold pwL;rw[Uf,Qt,←Int.pow_succ];rfl
theorem OJ  {n:Nat}{k:Int}(h0:0<=k)(h:k<=n):oIx (.list ((pwL b n).map int)) (.int k)=O (.int (b ^ k.toNat)):=by
 have e:k=((k.toNat)):=by lia
 rw[e];refine Z7 ?_;rw[Qf,Ly (by lia)];rfl
theorem AF{ws:LO}{i:Nat}{t}(h):oEq (Kk ws[i]) (.int t)=O (decide (ws[i]=O t)):=OF (b:=O t)
noncomputable def Ord.isL:Ord->Bool
 |.lasts=>v5
 |_=>wa
theorem DC(o:Ord):oEq (.str o.tx) (.str "lasts")=O o.isL:=by cases o<;>decide +kernel
theorem vb(g:Good cs ls)(ga:YA cs.length ls.length old ts){i:Nat}{rs:List wc}(hi:ls[i]?=O rs){t:Int}(ht:t∈rs.flatten):Vu [Kw cs ls,ZO o old ts,.int i,.int t]=O (.int (Zr ls o old ts i rs t)):=by
 have l7:=g.l7;have l1:=g.l1;have hL:lng ls<=5:=OG l1 λrs h=>(g.rk rs h).few;have hrs:rs∈ls:=Qr hi;have wM:=OH hrs;have hrk:Zi t rs<=lng ls:=by have:=Oe t rs;lia
 have hrp:1<=Zi t rs:=by have:=Op ht;lia
 have yx:=ga.few;have hlt:i<ls.length:=(Qg.mp hi).1;refine Ze (Z:=[pb (Kw cs ls),pb (ZO o old ts),pb (.int i),pb (.int t),v4,v4,v4,v4,v4,v4,v4,v4,v4,v4,v4]) v3 ?_;unfold T6;refine Kn (Xz (U2 v3) (KJ v3 (Kh (Ka (Qa v3) v3) (Kh (Ka (Qa v3) v3) (Kh (Ka (Qa v3) v3) KL))))) ?_;have wv:Kr [.list (ls.map KI)]=O (.int ls.length):=by rw[Zw,Qb]
 refine Kn (KH (Kf (ZI (U6 (Ko v3 U8 WX) Kb) wv) U8 Zf) (Qa v3) v3) ?_;refine Kn (KH (Kx (U6 (U2 v3) Kb) v3 (vN g)) (Qa v3) v3) ?_;refine Kn (KH (Kx (U6 (U2 v3) (U6 (U2 v3) (U6 (U2 v3) Kb))) v3 (xR hi t)) (Qa v3) v3) ?_;refine Kn (Yb (WO (U6 U8 Kb) (Qa v3)) (Qa v3) v3) ?_
 let S0:Option Sl:=O (.pub (Kw cs ls))
 let S1:Option Sl:=O (.pub (ZO o old ts))
 let S2:Option Sl:=O (.pub (.int i))
 let S3:Option Sl:=O (.pub (.int t))
 let S4:Option Sl:=O (.pub (.str o.tx))
 let S5:Option Sl:=O (.pub (Wl old))
 let S6:Option Sl:=O (.pub (.list (ts.map int)))
 let b:Int:=(ls.length:Int)+1
 let M:Nat:=lng ls
 let r:Nat:=Zi t rs
 let S7:Option Sl:=O (.pub (.int b))
 let S8:Option Sl:=O (.pub (.int (M:Int)))
 let S9:Option Sl:=O (.pub (.int (r:Int)))
 apply KD;apply ZX (λj Z=>∃wy,Z=[S0,S1,S2,S3,S4,S5,S6,S7,S8,S9,O (.own ((pwL b j).map int)),wy,v4,v4,v4])
 case h1=>exact We (U6 (U2 v3) Kb) (Wc (by lia) (by lia))
 case h0=>exact⟨_,rfl⟩
 case hst=>
  rintro j d Z hj ⟨wy,rfl⟩;refine⟨_,Ka (Qa v3) v3,?_⟩;unfold Lu;obtain⟨_,ww⟩:=Wi hj
  have wu:oIx (.list ((pwL b j).map int)) (.int (-1))=O (.int (b ^ j)):=LG (by
   rw[List.getLast?_eq_getElem?,Qb,Lx,Qf,Nat.add_sub_cancel,Ly (Qp j)]
   rfl)
  refine Zz (Xj v3 (Kf (W3 v3 (Tr U8) v3 wu) (U2 v3) (WU (by lia) (by lia))) v3 (by rw[Qb,Lx];lia) v3) (Zu ⟨O (.pub d),?_⟩);rw[AG,Qt];rfl
 case hend=>
  rintro Z ⟨wy,rfl⟩;have er:(Z8 0 (M:Int)).length=M:=by rw[XG];lia
  rw[er];refine KB ?_
  let S10:Option Sl:=O (.own ((pwL b M).map int))
  have e1:((M:Int)-(r:Int)).toNat=M-r:=by lia
  have p1:oIx (.list ((pwL b M).map int)) (.int ((M:Int)-(r:Int)))=O (.int (b ^ (M-r))):=by rw[OJ (by lia) (by lia),e1]
  have p2:oIx (.list ((pwL b M).map int)) (.int (M:Int))=O (.int (b ^ M)):=by rw[OJ (by lia) (by lia)];rfl
  have p3:oIx (.list ((pwL b M).map int)) (.int ((r:Int)-1))=O (.int (b ^ (r-1))):=by rw[OJ (by lia) (by lia),show((r:Int)-1).toNat=r-1 by lia]
  refine Kn (Z1:=[S0,S1,S2,S3,S4,S5,S6,S7,S8,S9,S10,wy,pb (.int (b ^ (M-r))),v4,v4]) (KH (W3 v3 (Kf (U2 v3) (U2 v3) Y9) v3 p1) (Qa v3) v3) ?_
  have eo:ZM o b M r=match o with | .firsts=>b ^ (M-r) | .full=>b ^ (M-r)+b ^ M | .lasts=>b ^ M-b ^ (r-1):=by
   cases o with
   |firsts=>show b ^ ((M:Int)-(r:Int)).toNat=_;rw[e1]
   |full=>show b ^ ((M:Int)).toNat+b ^ ((M:Int)-(r:Int)).toNat=_;rw[e1,Int.add_comm];rfl
   |lasts=>show b ^ ((M:Int)).toNat-b ^ ((r:Int)-1).toNat=_;rw[show((r:Int)-1).toNat=r-1 by lia];rfl
  have done:∀w:Int,w=ZM o b M r->Ho (U4 (Ki 12 (U5 KR (UZ 12) (UZ 7)))
    (U4 (sIf (ZN (Ke (λd=>!isNon d) (UZ 5)) (U5 oEq (U9 5 (UZ 2)) (UZ 3)))
    (Ki 12 (U5 Kg (UZ 12) (U3 (.int 1))))
    (sNx))
    (U4 (Ki 13 (U3 (.int 0)))
    (U4 (KQ (K8 (UZ 6)) (gN 14) PY)
    (Kc (U5 Kg (UZ 12) (UZ 13))))))) [S0,S1,S2,S3,S4,S5,S6,S7,S8,S9,S10,wy,pb (.int w),v4,v4] (λo'=>o'=.rt (.int (Zr ls o old ts i rs t))):=by
   rintro w rfl;refine Kn (Z1:=[S0,S1,S2,S3,S4,S5,S6,S7,S8,S9,S10,wy,pb (.int (ZM o b M r*b)),v4,v4]) (KH (Kf (U2 rfl) (U2 rfl) (WU (by lia) (by lia))) (Qa rfl) rfl) ?_
   have rest:∀v:Int,v=ZM o b M r*b+YU old i t->Ho (U4 (Ki 13 (U3 (.int 0)))
    (U4 (KQ (K8 (UZ 6)) (gN 14) PY)
    (Kc (U5 Kg (UZ 12) (UZ 13))))) [S0,S1,S2,S3,S4,S5,S6,S7,S8,S9,S10,wy,pb (.int v),v4,v4] (λo'=>o'=.rt (.int (Zr ls o old ts i rs t))):=by
    intro v hv;refine Kn (KH U8 (Qa v3) v3) ?_;apply KD;apply ZX (λj Z=>∃wB,Z=[S0,S1,S2,S3,S4,S5,S6,S7,S8,S9,S10,wy,pb (.int (v*((M:Int)+1) ^ j)),pb (.int (Xc (ts.take j) ((M:Int)+1) i r)),wB])
    case h1=>exact ZD (U2 v3) YB
    case h0=>exact⟨v4,by rw[Int.pow_zero,Int.mul_one];rfl⟩
    case hst=>
     rintro j d Z hj ⟨wB,rfl⟩;rw[Qf]at hj;cases hz:ts[j]? with
     |none=>rw[hz]at hj;cases hj
     |some a=>
     rw[hz]at hj;cases hj;have ww:j<ts.length:=(Qg.mp hz).1;have ha:ts[j]=a:=(Qg.mp hz).2;have hts:ts.take (j+1)=ts.take j++[a]:=by rw[List.take_succ_eq_append_getElem ww,ha]
     have hnd:(ts.take j++[a]).Nodup:=by rw[←hts];exact List.Nodup.sublist (List.take_sublist _ _) ga.once
     refine⟨_,Ka (Qa v3) v3,?_⟩;unfold PY;refine Kn (Z1:=[S0,S1,S2,S3,S4,S5,S6,S7,S8,S9,S10,wy,pb (.int (v*((M:Int)+1) ^ (j+1))),pb (.int (Xc (ts.take j) ((M:Int)+1) i r)),pb (.int a)]) (KH (Kf (U2 v3) (Kf (U2 v3) U8 Zf) (WU (by lia) (by lia))) (Qa v3) (by rw[Int.mul_assoc,←Int.pow_succ];rfl)) ?_;refine Kn (Z1:=[S0,S1,S2,S3,S4,S5,S6,S7,S8,S9,S10,wy,pb (.int (v*((M:Int)+1) ^ (j+1))),pb (.int (Xc (ts.take j) ((M:Int)+1) i r*((M:Int)+1))),pb (.int a)]) (KH (Kf (U2 v3) (Kf (U2 v3) U8 Zf) (WU (by lia) (by lia))) (Qa v3) v3) ?_;refine KE (Yk v3 (U2 v3) YL) (λhh=>?_) (λhh=>?_)
     .have e:a=(i:Int):=by simpa using hh
      refine Zz (KH (Kf (Kf (Kf (U2 v3) (U2 v3) Zf) U8 Zf) (U2 v3) Y9) (Qa v3) v3) (Zu ⟨O (.pub (.int a)),?_⟩);rw[hts,Fv hnd,Qq e];have:Xc (ts.take j) ((M:Int)+1) i r*((M:Int)+1)+(M:Int)+1-(r:Int)=Xc (ts.take j) ((M:Int)+1) i r*((M:Int)+1)+((M:Int)+1-(r:Int)):=by lia
      rw[←this];rfl
     .have e:¬a=(i:Int):=by simpa using hh
      refine KO (Zu ⟨O (.pub (.int a)),?_⟩);rw[hts,Fv hnd,QB e,Int.add_zero]
    case hend=>rintro Z ⟨wB,rfl⟩;refine KB (KG (Kf (U2 rfl) (U2 rfl) Zf) ?_);rw[Qb,Jj,hv];rfl
   have hkk:ZN (Ke (λd=>!isNon d) (UZ 5)) (U5 oEq (U9 5 (UZ 2)) (UZ 3)) [S0,S1,S2,S3,S4,S5,S6,S7,S8,S9,S10,wy,pb (.int (ZM o b M r*b)),v4,v4]=.ok (decide (YU old i t=1)) [S0,S1,S2,S3,S4,S5,S6,S7,S8,S9,S10,wy,pb (.int (ZM o b M r*b)),v4,v4]:=by
    cases old with
    |none=>exact PN (KY (k:=λd=>!isNon d) (x:=PyData.none) (U2 v3))
    |some ws=>
     have hw:ws.length=ls.length:=ga.len ws v3;have hwi:ws[i]?=O ws[i]:=Qd (by lia);have hx:oIx (.list (ws.map Kk)) (.int i)=O (Kk ws[i]):=OI (by lia)
     have e:decide (YU (O ws) i t=1)=decide (ws[i]=O t):=by
      refine decide_eq_decide.mpr ?_
      show(if ws[i]?=O (O t)then(1:Int)else 0)=1 ↔ _
      rw[hwi];by_cases z:ws[i]=O t
      .rw[if_pos (by rw[z])];simp[z]
      .rw[if_neg (λy=>z (Option.some.inj y))];simp[z]
     rw[e];exact LU (KY (k:=λd=>!isNon d) (x:=Wl (O ws)) (U2 v3)) (Kf (Ko v3 (U2 v3) hx) (U2 v3) (AF (by lia)))
   apply KD;refine KE hkk (λhh=>?_) (λhh=>?_)
   .have e:YU old i t=1:=by simpa using hh
    exact Zz (KH (Kf (U2 v3) U8 Zf) (Qa v3) v3) (KB (rest _ (by rw[e])))
   .have e:YU old i t=0:=by
     have hn:¬YU old i t=1:=by simpa using hh
     unfold YU at hn⊢;split at hn
     .rfl
     .split at hn
      .exact absurd v3 hn
      .rename_i hz;rw[QB hz]
    exact KO (KB (rest _ (by rw[e,Int.add_zero])))
  have f2:=DC o;apply KD;refine KE (Yk v3 U8 (MC o)) (λhh=>?_) (λhh=>?_)
  .cases o with
   |full=>refine Zz (KH (Kf (U2 v3) (W3 v3 (U2 v3) v3 p2) Zf) (Qa v3) v3) (KB ?_);apply KD;exact KE (b:=wa) (Yk v3 U8 f2) (λz=>by cases z) λ_=>KO (KB (done _ eo.symm))
   |firsts=>cases hh
   |lasts=>cases hh
  .refine KO (KB ?_)
   apply KD;refine KE (Yk v3 U8 f2) (λh2=>?_) (λh2=>?_)
   .cases o with
    |lasts=>exact Zz (KH (Kf (W3 v3 (U2 v3) v3 p2) (W3 v3 (Kf (U2 v3) U8 Y9) v3 p3) Y9) (Qa v3) v3) (KB (done _ eo.symm))
    |firsts=>cases h2
    |full=>cases h2
   .cases o with
    |firsts=>exact KO (KB (done _ eo.symm))
    |full=>cases hh
    |lasts=>cases h2
end
theorem ky{α β:Type}{f:α->β}(hf:∀a b,f a=f b->a=b){l:List α}(h:l.Nodup):(l.map f).Nodup:=by unfold List.Nodup at h⊢;rw[List.pairwise_map];exact h.imp λhne e=>hne (hf _ _ e)
theorem Fu:∀(ls)(k),(∀rs∈ls,rs.flatten.Nodup)->(KP k ls).Nodup
 |[],_,_=>List.nodup_nil
 |rs::ls,k,h=>by
  show((YC rs.flatten).map _++KP _ ls).Nodup
  rw[List.nodup_append];refine⟨?_,Fu ls _ λr hr=>h r (Qk _ hr),λa ha b hb e=>?_⟩
  .exact ky (λx y e=>(JS e).2) ((Xa _).nodup_iff.mpr (h rs Qo))
  .subst e
   obtain⟨t,_,rfl⟩:=Qn.mp ha;have:=Nu ls _ _ hb;simp at this
   lia
noncomputable def papD(tm:Int)(as ps:wc):D:=.tuple [.int tm,.list (as.map int),.list (ps.map int)]
noncomputable def Ox(ps cs:wc):wc:=(ps.zip cs).map λp=>p.1*p.2
noncomputable def RD(cs as ps:wc):Int:=as.sum+(Ox ps cs).sum
theorem Bx   (g:Good cs ls):∀q∈KP 0 ls,(0<=q.1/\q.1<ls.length)/\0<=q.2/\q.2<cs.length:=λq hq=>by
 obtain⟨i,rs,h1,h2,h3⟩:=Vg hq;have:=(g.rk rs (Qr h1)).flat q.2 h3;have:=(Qg.mp h1).1
 lia
theorem D6{ns:wc}{k:Int}(h0:0<=k)(h1:k<ns.length):oIx (.list (ns.map int)) (.int k)=O (.int (ns.getD k.toNat 0)):=by
 obtain⟨j,rfl⟩:∃j:Nat,k=j:=⟨k.toNat,by lia⟩
 exact RQ (by lia)
section
variable{cs:wc}{ls:L3}{o:Ord}{old:wm}{ts:wc}
theorem AE(g:Good cs ls)(ga:YA cs.length ls.length old ts){q:Int×Int}(hq:q∈KP 0 ls):0<=Zl ls o old ts q.1 q.2/\Zl ls o old ts q.1 q.2<18446744073709551616:=by
 obtain⟨i,rs,h1,h2,h3⟩:=Vg hq;have l7:=g.l7;have l1:=g.l1;have hL:lng ls<=5:=OG l1 λrs h=>(g.rk rs h).few;have wM:=OH (Qr h1);have hr1:1<=Zi q.2 rs:=by have:=Op h3;lia
 have wG:Zi q.2 rs<=lng ls:=by have:=Oe q.2 rs;lia
 have yx:=ga.few
 have e:Zl ls o old ts q.1 q.2=Zr ls o old ts i rs q.2:=by
  unfold Zl;rw[h2,QS,Qz]
  congr 1
  simp[List.getD,h1]
 rw[e];unfold Zr;have pw:∀{b:Int}{n k:Nat},1<=b->b<=8->n<=k->1<=b ^ n/\b ^ n<=8 ^ k:=λ{b n k} h0 h8 hk=>⟨Int.pow_pos h0,Gn (by lia) h8 hk⟩
 have hb1:(1:Int)<=(ls.length:Int)+1:=by lia
 have yP:(ls.length:Int)+1<=8:=by lia
 have hM1:(1:Int)<=(lng ls:Int)+1:=by lia
 have hM8:(lng ls:Int)+1<=8:=by lia
 have a1:=pw hb1 yP (n:=lng ls) (k:=5) hL;have a2:=pw hb1 yP (n:=((lng ls:Int)-(Zi q.2 rs:Nat)).toNat) (k:=5) (by lia);have a3:=pw hb1 yP (n:=((Zi q.2 rs:Nat)-1:Int).toNat) (k:=5) (by lia)
 have a4:((ls.length:Int)+1) ^ ((Zi q.2 rs:Nat)-1:Int).toNat<=((ls.length:Int)+1) ^ lng ls:=by
  have:((Zi q.2 rs:Nat)-1:Int).toNat<=lng ls:=by lia
  obtain⟨k,hk⟩:=Nat.exists_eq_add_of_le this;rw[hk,Int.pow_add];have:=(pw hb1 yP (n:=k) (k:=5) (by lia)).1;have hm:=Int.mul_le_mul_of_nonneg_left this (show 0<=((ls.length:Int)+1) ^ ((Zi q.2 rs:Nat)-1:Int).toNat by lia);rw[Int.mul_one]at hm;exact hm
 have b1:0<=ZM o (ls.length+1) (lng ls) (Zi q.2 rs)/\ZM o (ls.length+1) (lng ls) (Zi q.2 rs)<=65536:=by
  cases o with
  |firsts=>show 0<=_ ^ _/\_ ^ _<=65536;lia
  |full=>show 0<=_ ^ ((lng ls:Int)).toNat+_ ^ _/\_ ^ ((lng ls:Int)).toNat+_ ^ _<=65536;rw[Qz];lia
  |lasts=>show 0<=_ ^ ((lng ls:Int)).toNat-_ ^ _/\_ ^ ((lng ls:Int)).toNat-_ ^ _<=65536;rw[Qz];lia
 have b2:0<=YU old i q.2/\YU old i q.2<=1:=by
  unfold YU;split
  .lia
  .split<;>lia
 have b3:=pw hM1 hM8 (n:=ts.length) (k:=7) (by lia)
 have b4:0<=Xc ts ((lng ls:Int)+1) i (Zi q.2 rs)/\Xc ts ((lng ls:Int)+1) i (Zi q.2 rs)<=8*8 ^ 7:=by
  unfold Xc;split
  .have b5:=pw hM1 hM8 (n:=ts.length-1-ts.idxOf (i:Int)) (k:=7) (by lia)
   refine⟨Int.mul_nonneg (by lia) (by lia),?_⟩;exact Int.mul_le_mul (by lia) b5.2 (by lia) (by decide)
  .exact⟨by lia,by decide⟩
 have c1:0<=ZM o (ls.length+1) (lng ls) (Zi q.2 rs)*(ls.length+1)+YU old i q.2/\ZM o (ls.length+1) (lng ls) (Zi q.2 rs)*(ls.length+1)+YU old i q.2<=600000:=by
  have d1:0<=ZM o (ls.length+1) (lng ls) (Zi q.2 rs)*((ls.length:Int)+1):=Int.mul_nonneg b1.1 (by lia);have d2   :=Int.mul_le_mul b1.2 yP (by lia) (by decide)
  lia
 have d3:0<=(ZM o (ls.length+1) (lng ls) (Zi q.2 rs)*(ls.length+1)+YU old i q.2)*((lng ls:Int)+1) ^ ts.length:=Int.mul_nonneg c1.1 (by lia);have d4   :=Int.mul_le_mul c1.2 b3.2 (by lia) (by decide)
 lia
end
structure OkP(n m:Nat)(V:Int->Int->Int)(qs:LP)(tm:Int)(as ps:wc):Prop where
 t0:0<=tm
 la:as.length=m
 lp:ps.length=n
 aa:∀a∈as,0<=a
 pp:∀p∈ps,0<=p
 le:∀q∈qs,tm*V q.1 q.2<=as.getD q.1.toNat 0+ps.getD q.2.toNat 0
noncomputable def pz(ps:wc)(ws:LO):Int:=(ws.map λo=>match o with|some t=>ps.getD t.toNat 0|none=>0).sum
noncomputable def ZA(n:Nat)(f:Nat->Int):Int:=((UK n).map f).sum
theorem Tx   : ZA (n+1) f=ZA n f+f n:=by unfold ZA;rw[Uf];simp
theorem Hu  : ∀(n),ZA n (λk=>f k+h k)=ZA n f+ZA n h
 |0=>rfl
 |n+1=>by rw[Tx,Tx,Tx,Hu n];lia
theorem PH  : ∀(n),(∀k,k<n->f k<=h k)->ZA n f<=ZA n h
 |0,_=>Ja _
 |n+1,e=>by
  have h1:=PH n λk hk=>e k (by lia)
  have h2:=e n (by lia);rw[Tx,Tx]
  lia
theorem NU:∀(n)(f),(∀k,k<n->f k=0)->ZA n f=0
 |0,_,_=>rfl
 |n+1,f,e=>by rw[Tx,NU n f λk hk=>e k (by lia),e n (by lia)];rfl
theorem Ht{p:Nat->Int}{j}:∀(n),j<n->ZA n (λk=>if k=j then p k else 0)=p j
 |n+1,h=>by
  rw[Tx];by_cases e:n=j
  .subst e
   rw[Qq v3,NU n _ λk hk=>QB (by lia)]
   lia
  .rw[QB e,Ht n (by lia)]
   lia
theorem NH  {n}(e:∀k,k<n->f k=h k):ZA n f=ZA n h:=Int.le_antisymm (PH n λk hk=>by rw[e k hk];exact Int.le_refl _) (PH n λk hk=>by simp_all)
theorem NT  {n:Nat}:∀(ws:LO),(∀t,O t∈ws->0<=t/\t<n)->pz ps ws=ZA n λk=>((ws.count (O (k:Int)):Nat):Int)*ps.getD k 0
 |[],_=>by rw[NU n _ λk _=>by simp];rfl
 |o::ws,h=>by
  have ih:=NT (ps:=ps) ws λt ht=>h t (Qk _ ht)
  cases o with
  |none=>
   show((0:Int)::_).sum=_
   rw[Jw];unfold pz at ih;rw[ih,JL];exact NH λk _=>by simp
  |some t=>
   have ht:=h t Qo
   show(ps.getD t.toNat 0::_).sum=_
   rw[Jw];unfold pz at ih;rw[ih,←Ht (p:=λk=>ps.getD k 0) (j:=t.toNat) n (by lia),←Hu];refine NH λk _=>?_;rw[Ue]
   by_cases e:k=t.toNat
   .subst e
    have:(O t==O ((t.toNat:Nat):Int))=v5:=by simp;lia
    rw[Qq v3,Qq this,Int.natCast_add,Int.add_mul]
    lia
   .have:¬(O t==O ((k:Nat):Int))=v5:=by simp;lia
    rw[QB e,QB this,JL,Nat.add_zero]
theorem Ft:∀(ps cs),ps.length=cs.length->(Ox ps cs).sum=ZA cs.length λk=>cs.getD k 0*ps.getD k 0
 |ps,cs,h=>by
  unfold ZA Ox
  congr 1
  apply Jt;intro i;rw[Qf,Qf];by_cases hi:i<cs.length
  .rw[QU hi]
   have h1:ps[i]?=O ps[i]:=Qd (by lia);have h2   :=Qd hi;have hz:_[i]?=O (ps[i],cs[i]):=List.getElem?_zip_eq_some.mpr ⟨h1,h2⟩;rw[hz];simp only[Option.map_some,Qh,h1,h2,Option.getD_some,Int.mul_comm]
  .rw[Q0  (by rw[List.length_zip];lia),Q0  (by rw[Qx];lia)]
   rfl
structure Stp where
 a:Nat
 b:Nat
 g:Int
 w:Option Nat
abbrev Tab:=List (Int×List Stp)
noncomputable def ent(T:Tab)(p:Nat):Int×List Stp:=T.getD p (0,[])
noncomputable def YQ(W T:Tab)(s:Stp):Tab:=if(ent T s.b).1<(ent W s.a).1+s.g then T.set s.b ((ent W s.a).1+s.g,(ent W s.a).2++[s])else T
noncomputable def Pr(W:Tab)(S:List Stp):Tab:=S.foldl (YQ W) W
noncomputable def Zd(n:Nat)(S:List Stp):Nat->Tab
 |0=>UL n (0,[])
 |t+1=>Pr (Zd n S t) S
theorem va{T:Tab}{p}{x}(h:p<T.length):ent (T.set p x) p=x:=by unfold ent;rw[Qh,QN h];rfl
theorem NG  {p q}{x}(h:p≠q):ent (T.set p x) q=ent T q:=by unfold ent;simp_all
theorem jo(W T)(s):(YQ W T s).length=T.length:=by
 unfold YQ;split
 .simp_all
 .rfl
structure Rf(W T:Tab)(S:List Stp):Prop where
 len:T.length=W.length
 up:∀p,(ent W p).1<=(ent T p).1
 how:∀p,ent T p=ent W p ∨ ∃s∈S,s.b=p/\ent T p=((ent W s.a).1+s.g,(ent W s.a).2++[s])/\(ent W p).1<(ent T p).1
theorem xZ{W T:Tab}{S:List Stp}{s:Stp}(hs:s∈S)(hb:s.b<W.length)(k:Rf W T S):Rf W (YQ W T s) S/\(∀p,(ent T p).1<=(ent (YQ W T s) p).1)/\(ent W s.a).1+s.g<=(ent (YQ W T s) s.b).1:=by
 have w5:s.b<T.length:=by rw[k.len];exact hb
 unfold YQ;split
 .have self:=va (x:=((ent W s.a).1+s.g,(ent W s.a).2++[s])) w5
  refine⟨⟨by rw[QZ];exact k.len,λp=>?_,λp=>?_⟩,λp=>?_,by rw[self];exact Ja _⟩
  .by_cases z:s.b=p
   .subst z;rw[self];have:=k.up s.b;show _<=(ent W s.a).1+s.g;lia
   .rw[NG z];exact k.up p
  .by_cases z:s.b=p
   .subst z;right;exact⟨s,hs,rfl,self,by rw[self];have:=k.up s.b;show _<(ent W s.a).1+s.g;lia⟩
   .rw[NG z];exact k.how p
  .by_cases z:s.b=p
   .subst z;rw[self];show _<=(ent W s.a).1+s.g;lia
   .rw[NG z];exact Ja _
 .exact⟨k,λp=>Ja _,by lia⟩
theorem FP  {S}(hS:∀s∈S,s.b<W.length):∀(R:List Stp)(T),(∀s∈R,s∈S)->Rf W T S->Rf W (R.foldl (YQ W) T) S/\(∀p,(ent T p).1<=(ent (R.foldl (YQ W) T) p).1)/\∀s∈R,(ent W s.a).1+s.g<=(ent (R.foldl (YQ W) T) s.b).1
 |[],T,_,k=>⟨k,λ_=>Ja _,λs h=>by cases h⟩
 |s::R,T,hR,k=>by
  obtain⟨k1,u1,c1⟩:=xZ (hR s Qo) (hS s (hR s Qo)) k;obtain⟨k2,u2,c2⟩:=FP hS R _ (λx hx=>hR x (Qk _ hx)) k1;refine⟨k2,λp=>JW (u1 p) (u2 p),λx hx=>?_⟩;rcases QQ.mp hx with rfl|hx
  .exact JW c1 (u2 x.b)
  .exact c2 x hx
theorem FR  {S}(hS:∀s∈S,s.b<W.length):Rf W (Pr W S) S/\∀s∈S,(ent W s.a).1+s.g<=(ent (Pr W S) s.b).1:=by obtain⟨k,_,c⟩:=FP hS S W (λ_ h=>h) ⟨rfl,λ_=>Ja _,λ_=>.inl v3⟩;exact⟨k,c⟩
section
variable{n:Nat}{S:List Stp}(hS:∀s∈S,s.a<n/\s.b<n)
include hS
theorem Rs:∀t,(Zd n S t).length=n
 |0=>by unfold Zd;rw[QR]
 |t+1=>by unfold Zd;rw[(FR (λs h=>by rw[Rs t];simp_all)).1.len,Rs t]
theorem TF(t):Rf (Zd n S t) (Zd n S (t+1)) S/\∀s∈S,(ent (Zd n S t) s.a).1+s.g<=(ent (Zd n S (t+1)) s.b).1:=
 FR (λs h=>by rw[Rs hS t];simp_all)
theorem RV(p):ent (Zd n S 0) p=(0,[]):=by
 unfold ent Zd;rw[Qh,Qy]
 split<;>rfl
theorem Oo:∀t,(∀p,(ent (Zd n S t) p).2.length<=t)/\(∀p,0<t->ent (Zd n S t) p≠ent (Zd n S (t-1)) p->(ent (Zd n S t) p).2.length=t)
 |0=>⟨λp=>by rw[RV hS];exact Qp _,λp h=>absurd h (Jv _)⟩
 |t+1=>by
  obtain⟨h1,h2⟩:=Oo t;obtain⟨k,c⟩:=TF hS t
  have key:∀p,ent _ p≠ent (Zd n S t) p->(ent _ p).2.length=t+1:=λp hne=>by
   rcases k.how p with e|⟨s,hs,hb,e,lt⟩
   .exact absurd e hne
   .rw[e,Qj]
    congr 1
    cases t with
    |zero=>rw[RV hS];rfl
    |succ t=>
     refine h2 s.a (Uu t) λz=>?_
     obtain⟨k0,c0⟩:=TF hS t;have:=c0 s hs;rw[Nat.add_sub_cancel]at z;rw[e,z,←hb]at lt;exact absurd lt (by lia)
  refine⟨λp=>?_,λp _ hne=>key p (by exact hne)⟩;by_cases z:ent (Zd n S (t+1)) p=ent (Zd n S t) p
  .rw[z];exact Nat.le_succ_of_le (h1 p)
  .rw[key p z];exact Qp _
end
inductive Walk(S:List Stp):Nat->List Stp->Prop where
 |nil (p:Nat):Walk S p []
 |snoc {w:List Stp} {s:Stp} (hs:s∈S) (h:Walk S s.a w):Walk S s.b (w++[s])
noncomputable def KN(w:List Stp):Int:=(w.map Stp.g).sum
theorem Hs:KN []=0:=rfl
theorem Vb(u v):KN (u++v)=KN u+KN v:=by unfold KN;simp_all
theorem Ro(s:Stp):KN [s]=s.g:=by unfold KN;simp
section
variable{n:Nat}{S:List Stp}(hS:∀s∈S,s.a<n/\s.b<n)
include hS
theorem R7:∀t p,Walk S p (ent (Zd n S t) p).2/\KN (ent (Zd n S t) p).2=(ent (Zd n S t) p).1
 |0,p=>by rw[RV hS];exact⟨.nil p,rfl⟩
 |t+1,p=>by
  rcases(TF hS t).1.how p with e|⟨s,hs,hb,e,_⟩
  .rw[e];exact R7 t p
  .obtain⟨h1,h2⟩:=R7 t s.a
   rw[e,←hb];exact⟨.snoc hs h1,by rw[Vb,Ro,h2]⟩
theorem Gd  (h:t<=u)(p):(ent (Zd n S t) p).1<=(ent (Zd n S u) p).1:=by
 induction h with
 |refl=>exact Ja _
 |step _ ih=>exact JW ih ((TF hS _).1.up p)
theorem jn   (h:Walk S p w):∀(t),w.length<=t->KN w<=(ent (Zd n S t) p).1:=by
 induction h with
 |nil p=>intro t _;have:=Gd hS (J6 t) p;rw[RV hS]at this;exact this
 |@snoc w s hs h ih=>
  intro t hl;rw[Qj,QD]at hl;obtain⟨u,rfl⟩:∃u,t=u+1:=⟨t-1,by lia⟩
  have:=ih u (by lia);have:=(TF hS u).2 s hs;rw[Vb,Ro]
  lia
theorem ku  (h0:0<t)(h:∀p,p<n->(ent (Zd n S t) p).2.length≠t):∀s∈S,(ent (Zd n S t) s.a).1+s.g<=(ent (Zd n S t) s.b).1:=λs hs=>by
 obtain⟨u,rfl⟩:∃u,t=u+1:=⟨t-1,by lia⟩
 have e   :=Classical.byContradiction λz=>h s.a (hS s hs).1 ((Oo hS _).2 s.a h0 z);rw[e]
 exact(TF hS u).2 s hs
end
inductive Path(S:List Stp):Nat->List Stp->Nat->Prop where
 |nil (p:Nat):Path S p [] p
 |cons {s:Stp} {w:List Stp} {p:Nat} (hs:s∈S) (h:Path S s.b w p):Path S s.a (s::w) p
section
variable{S:List Stp}
theorem Path.append  {u v}(h1:Path S q u m)(h2:Path S m v p):Path S q (u++v) p:=by
 induction h1 with
 |nil p=>simp_all
 |cons hs h ih=>exact .cons hs (ih h2)
theorem Path.split  {v}:∀{u}{q},Path S q (u++v) p->∃m,Path S q u m/\Path S m v p
 |[],q,h=>⟨q,.nil q,h⟩
 |s::u,q,h=>by
  cases h with
  |cons hs h=>obtain⟨m,h1,h2⟩:=Path.split  h;exact⟨m,.cons hs h1,h2⟩
theorem Path.mem  {w}(h:Path S q w p):∀s∈w,s∈S:=by
 induction h with
 |nil p=>simp_all
 |cons hs h ih=>simp_all
theorem Walk.path   (h:Walk S p w):∃q,Path S q w p:=by
 induction h with
 |nil p=>exact⟨p,.nil p⟩
 |snoc hs h ih=>obtain⟨q,hq⟩:=ih;exact⟨q,hq.append (.cons hs (.nil _))⟩
theorem Path.walk  : ∀{w}{q},Path S q w p->∀{u},Walk S q u->Walk S p (u++w)
 |[],q,h,u,hu=>by cases h;simp_all
 |s::w,q,h,u,hu=>by
  cases h with
  |cons hs h=>have:=Path.walk h (Walk.snoc hs hu);simp_all
theorem Path.head{q p:Nat}{s:Stp}{w:List Stp}(h:Path S q (s::w) p):q=s.a:=by cases h;rfl
theorem Path.step  {s}{w}(h:Path S q (s::w) p):s∈S/\Path S s.b w p:=by cases h with|cons hs h=>exact⟨hs,h⟩
theorem Path.at  {w}(h:Path S q w p){i}{s}(hi:w[i]?=O s):Path S q (w.take i) s.a/\Path S q (w.take (i+1)) s.b/\Path S s.b (w.drop (i+1)) p:=by
 have hl   :=(Qg.mp hi).1
 have e:w.drop i=s::w.drop (i+1):=by
  rw[Je hl]
  congr 1
  exact(Qg.mp hi).2
 have h':Path S q (w.take i++w.drop i) p:=by rw[JU];exact h
 obtain⟨m,h1,h2⟩:=h'.split;rw[e]at h2;have hm:=h2.head;subst hm;obtain⟨hs,h3⟩:=h2.step;refine⟨h1,?_,h3⟩;rw[J4,hi];exact h1.append (.cons hs (.nil _))
theorem Path.next  {w}(h:Path S q w p){i}{s t}(hi:w[i]?=O s)(hj:w[i+1]?=O t):t.a=s.b:=by obtain⟨_,_,h3⟩:=h.at hi;have hl   :=(Qg.mp hj).1;rw[Je hl]at h3;rw[←(Qg.mp hj).2];exact h3.head.symm
structure OW(w:List Stp)(i j:Nat):Prop where
 ij:i<=j
 jl:j<w.length
 same:∀s t,w[i]?=O s->w[j]?=O t->s.a=t.b
 first:∀j'<j,∀i' ≤ j',∀s t,w[i']?=O s->w[j']?=O t->s.a≠t.b
def LJ(w:List Stp):Prop:=∀j<w.length,∀i ≤ j,∀s t,w[i]?=O s->w[j]?=O t->s.a≠t.b
theorem AD{n:Nat}(hS:∀s∈S,s.a<n/\s.b<n){q p:Nat}{w:List Stp}(h:Path S q w p)(hl:n<=w.length)(h0:0<n):¬LJ w:=λhn=>by
 obtain⟨s0,w0,rfl⟩:∃s0 w0,w=s0::w0:=by
  cases w with
  |nil=>rw[QC]at hl;lia
  |cons a b=>exact⟨a,b,rfl⟩
 let P:wn:=s0.a::(s0::w0).map Stp.b
 have key:∀k l:Nat,k<l->∀x y:Nat,P[k]?=O x->P[l]?=O y->x≠y:=λk l wO x y hx hy=>by
  obtain⟨l,rfl⟩:∃m,l=m+1:=⟨l-1,by lia⟩
  have hy:((s0::w0).map Stp.b)[l]?=O y:=hy;rw[Qf]at hy;cases ht:(s0::w0)[l]? with
  |none=>rw[ht]at hy;cases hy
  |some t=>
  rw[ht]at hy;cases hy;have wv   :=(Qg.mp ht).1;obtain⟨s,hs⟩:∃s,(s0::w0)[k]?=O s:=⟨_,Qd (by lia)⟩
  have hxs:x=s.a:=by
   cases k with
   |zero=>cases hs;cases hx;rfl
   |succ k=>
    have hx:((s0::w0).map Stp.b)[k]?=O x:=hx;rw[Qf]at hx;obtain⟨r,hr⟩:∃r,(s0::w0)[k]?=O r:=⟨_,Qd (by lia)⟩
    rw[hr]at hx;cases hx;exact(h.next hr hs).symm
  rw[hxs];exact hn l wv k (by lia) s t hs ht
 have nd:P.Nodup:=by rw[List.nodup_iff_pairwise_ne,List.pairwise_iff_getElem];intro k l hk hl2 wO;exact key k l wO _ _ (Qd hk) (Qd hl2)
 have bound:∀x∈P,x<n:=λx hx=>by
  rcases QQ.mp hx with rfl|hx
  .exact(hS s0 h.step.1).1
  .obtain⟨s,hs,rfl⟩:=Qn.mp hx
   exact(hS s (h.mem s hs)).2
 have le:P.length<=n:=by
  have:=List.Nodup.length_le_of_subset nd (l₂:=UK n) λx hx=>Q3.mpr (bound x hx)
  rwa[Qx]at this
 have:P.length=(s0::w0).length+1:=by show((s0::w0).map Stp.b).length+1=_;rw[Qb]
 lia
theorem kt{n:Nat}(hS:∀s∈S,s.a<n/\s.b<n)(h0:0<n){p:Nat}(hw:(ent (Zd n S n) p).2.length=n){i j:Nat}(r:OW (ent (Zd n S n) p).2 i j) :
  ∃x,Path S x (((ent (Zd n S n) p).2.take (j+1)).drop i) x/\0<KN (((ent (Zd n S n) p).2.take (j+1)).drop i):=by
 obtain⟨yF,hg⟩:=R7 hS n p;generalize hW:(ent (Zd n S n) p).2=w at hw r yF hg⊢;obtain⟨q,hp⟩:=yF.path;have hij:=r.ij;have ww:=r.jl;obtain⟨s,hs⟩:∃s,w[i]?=O s:=⟨_,Qd (by lia)⟩
 obtain⟨t,ht⟩:∃t,w[j]?=O t:=⟨_,Qd ww⟩
 have hst:=r.same s t hs ht;obtain⟨a1,a2,a3⟩:=hp.at hs;obtain⟨b1,b2,b3⟩:=hp.at ht;have e1   :=by have:=(JU i (w.take (j+1))).symm;rw[List.take_take,Ur (by lia)]at this;exact this
 rw[e1]at b2;obtain⟨m,c1,c2⟩:=b2.split
 have hm:m=s.a:=by
  have e2:(w.take (j+1)).drop i=s::(w.take (j+1)).drop (i+1):=by
   rw[Je (by rw[Q6];lia)]
   congr 1
   rw[List.getElem_take];exact(Qg.mp hs).2
  rw[e2]at c2;exact c2.head
 subst hm;rw[←hst]at c2 b3;refine⟨s.a,c2,?_⟩;have hsh   :=a1.append b3;have yG:=hsh.walk (u:=[]) (.nil q);rw[Jd]at yG;have hlen:(w.take i++w.drop (j+1)).length<=n-1:=by rw[Qj,Q6,Jl];lia
 have most:=jn hS yG (n-1) hlen;have hgw:KN w=KN (w.take i)+KN ((w.take (j+1)).drop i)+KN (w.drop (j+1)):=by rw[←Vb,←e1,←Vb,JU]
 rw[Vb]at most
 have lt:(ent (Zd n S (n-1)) p).1<(ent (Zd n S n) p).1:=by
  obtain⟨k,_⟩:=TF hS (n-1);rw[Nat.sub_add_cancel h0]at k;rcases k.how p with e|⟨_,_,_,_,lt⟩
  .have:=(Oo hS (n-1)).1 p
   rw[←e,hW,hw]at this
   lia
  .exact lt
 lia
theorem xQ  {w}(h:Path S q w p){i j:Nat}(r:OW w i j):(((w.take (j+1)).drop i).map Stp.a).Nodup:=by
 rw[List.nodup_iff_pairwise_ne,List.pairwise_iff_getElem];intro k l hk hl wO;have ww:=r.jl;simp only[Qb,Jl,Q6]at hk hl;simp only[J5,List.getElem_drop,List.getElem_take];obtain⟨m,rfl⟩:∃m,l=m+1:=⟨l-1,by lia⟩
 have e1:w[i+m]?=O w[i+m]:=Qd (by lia);have e2:w[i+m+1]?=O w[i+(m+1)]:=Qd (by lia);have e3:w[i+k]?=O w[i+k]:=Qd (by lia);rw[h.next e1 e2];exact r.first (i+m) (by lia) (i+k) (by lia) _ _ e3 e1
end
noncomputable def Kv(f:Int×Int->Int)(i:Nat):wg->Int
 |none=>0
 |some t=>f ((i:Int),t)
noncomputable def plF(n:Nat):wg->Nat
 |none=>n
 |some t=>t.toNat
noncomputable def Y3(n b:Nat):wg:=if b=n then v4 else O (b:Int)
noncomputable def Ku(f:Int×Int->Int)(k:Nat):LO->Int
 |[]=>0
 |o::r=>Kv f k o+Ku f (k+1) r
theorem Hr(f){o'}:∀{d}{k i}{o},d[i]?=O o->Ku f k (d.set i o')=Ku f k d+Kv f (k+i) o'-Kv f (k+i) o
 |[],_,_,_,h=>by cases h
 |x::d,k,0,o,h=>by
  cases h;show Kv f k o'+Ku f _ d=Kv f k x+Ku f _ d+Kv f k o'-Kv f k x
  lia
 |x::d,k,i+1,o,h=>by
  rw[List.set_cons_succ];unfold Ku;rw[Hr f     (by simpa using h)]
  lia
theorem GB  : ∀{d:LO}{i}{o},d[i]?=O o->(((d.set i o').count x:Nat):Int)=(d.count x:Nat)+(if o'=x then 1 else 0)-(if o=x then 1 else 0)
 |[],_,_,h=>by cases h
 |y::d,0,o,h=>by cases h;by_cases h1:o'=x<;>by_cases h2:y=x<;>simp[h1,h2]<;>lia
 |y::d,i+1,o,h=>by
  have ih:=GB (o':=o') (x:=x)    (by simpa using h);rw[List.set_cons_succ,Ue,Ue]
  lia
structure ZH(cs:wc)(qs:LP)(m:Nat)(ws:LO):Prop where
 len:ws.length=m
 wish:∀(i:Nat) t,ws[i]?=O (O t)->((i:Int),t)∈qs
 cop:∀(k:Nat) c,cs[k]?=O c->((ws.count (O (k:Int)):Nat):Int)<=c
structure Pairs(n m:Nat)(qs:LP):Prop where
 nd:qs.Nodup
 lo:∀q∈qs,0<=q.1/\q.1<m/\0<=q.2/\q.2<n
inductive IsSt(cs:wc)(f:Int×Int->Int)(qs:LP)(ws:LO):Stp->Prop where
 |mv {i:Nat} {o o':wg} (h:ws[i]?=O o) (hne:o'≠o) (hq:∀t,o'=O t->((i:Int),t)∈qs):IsSt cs f qs ws ⟨plF cs.length o,plF cs.length o',Kv f i o'-Kv f i o,O i⟩
 |left {t:Nat} {c:Int} (h:cs[t]?=O c) (hl:((ws.count (O (t:Int)):Nat):Int)<c):IsSt cs f qs ws ⟨t,cs.length,0,v4⟩
 |give {t:Nat} (h:t<cs.length):IsSt cs f qs ws ⟨cs.length,t,0,v4⟩
noncomputable def app(n:Nat)(d:LO)(s:Stp):LO:=match s.w with
 |some i=>d.set i (Y3 n s.b)
 |none=>d
noncomputable def nIn(t:Nat)(R:List Stp):Nat:=(R.filter λs=>s.w.isSome&&s.b==t).length
noncomputable def Wn(t:Nat)(R:List Stp):Nat:=(R.filter λs=>s.w.isSome&&s.a==t).length
section
variable{cs:wc}{f:Int×Int->Int}{qs:LP}{m:Nat}{ws:LO}
theorem EM(hp:Pairs cs.length m qs){i:Nat}{o}(h:∀t,o=O t->((i:Int),t)∈qs):Y3 cs.length (plF cs.length o)=o:=by
 cases o with
 |none=>unfold Y3 plF;simp_all
 |some t=>
  have:=hp.lo _ (h t v3)
  show(if t.toNat=cs.length then v4 else O ((t.toNat):Int))=O t
  grind
theorem Pq(hp:Pairs cs.length m qs){i:Nat}{o}{t}(ht:t<cs.length)(h:∀t,o=O t->((i:Int),t)∈qs):plF cs.length o=t ↔ o=O (t:Int):=by
 cases o with
 |none=>exact⟨λe=>by have e:cs.length=t:=e;lia,λe=>by cases e⟩
 |some u=>
  have:=hp.lo _ (h u v3);show u.toNat=t ↔ _;constructor
  .grind
  .lia
theorem P2(hp:Pairs cs.length m qs)(hd:ZH cs qs m ws):∀(R:List Stp)(d:LO),(∀s∈R,IsSt cs f qs ws s)->(R.map Stp.a).Nodup->(∀s∈R,∀i,s.w=O i->d[i]?=ws[i]?)->d.length=ws.length->(∀(i:Nat) t,d[i]?=O (O t)->((i:Int),t)∈qs) ->
  Ku f 0 (R.foldl (app cs.length) d)=Ku f 0 d+KN R/\(R.foldl (app cs.length) d).length=ws.length/\(∀(i:Nat) t,(R.foldl (app cs.length) d)[i]?=O (O t)->((i:Int),t)∈qs) /\
  ∀t,t<cs.length->(((R.foldl (app cs.length) d).count (O (t:Int)):Nat):Int)=(d.count (O (t:Int)):Nat)+(nIn t R:Nat)-(Wn t R:Nat)
 |[],d,_,_,_,hl,hq=>⟨by show _=_+KN [];rw[Hs];show Ku f 0 d=_;lia,hl,hq,λt _=>by show((d.count _:Nat):Int)=_+((0:Nat):Int)-((0:Nat):Int);lia⟩
 |s::R,d,hR,hn,ha,hl,hq=>by
  rw[QF,List.nodup_cons]at hn;have hgc:KN (s::R)=s.g+KN R:=by show KN ([s]++R)=_;rw[Vb,Ro]
  rw[Ua,hgc];cases hR s Qo with
  |@mv i o o' h hne yH=>
   have hdi:d[i]?=O o:=(ha _ Qo i v3).trans h;have ho:∀t,o=O t->((i:Int),t)∈qs:=λt e=>hd.wish i t (by rw[h,e])
   have wt:i<d.length:=(Qg.mp hdi).1;have eapp:app cs.length d ⟨plF cs.length o,plF cs.length o',Kv f i o'-Kv f i o,O i⟩=d.set i o':=by show d.set i (Y3 cs.length (plF cs.length o'))=_;rw[EM hp yH]
   rw[eapp]
   obtain⟨k1,k2,k3,k4⟩:=P2 hp hd R (d.set i o') (λs hs=>hR s (Qk _ hs)) hn.2 (λs hs j hj=>by
    have hji:i≠j:=λz=>by
     subst z;cases hR s (Qk _ hs)with
     |@mv i2 o2 o2' h2 _ _=>cases hj;rw[h]at h2;cases h2;exact hn.1 (Qn.mpr ⟨_,hs,rfl⟩)
     |left _ _=>cases hj
     |give _=>cases hj
    rw[Qs hji];exact ha s (Qk _ hs) j hj) (by rw[QZ];exact hl) (λj t e=>by
    by_cases z:i=j
    .subst z
     rw[QN wt]at e;cases e;exact yH t v3
    .rw[Qs z]at e;exact hq j t e)
   refine⟨?_,k2,k3,λt ht=>?_⟩
   .rw[k1,Hr f hdi,QS]
    lia
   .rw[k4 t ht,GB hdi]
    have e1:(if o'=O (t:Int)then(1:Int)else 0)=if plF cs.length o'=t then 1 else 0:=by
     by_cases z:o'=O (t:Int)
     .rw[Qq z,Qq ((Pq hp ht yH).mpr z)]
     .rw[QB z,QB (λy=>z ((Pq hp ht yH).mp y))]
    have e2:(if o=O (t:Int)then(1:Int)else 0)=if plF cs.length o=t then 1 else 0:=by
     by_cases z:o=O (t:Int)
     .rw[Qq z,Qq ((Pq hp ht ho).mpr z)]
     .rw[QB z,QB (λy=>z ((Pq hp ht ho).mp y))]
    have e3:∀(x:Nat),((nIn t (⟨plF cs.length o,plF cs.length o',Kv f i o'-Kv f i o,O i⟩::R):Nat):Int)=(if plF cs.length o'=t then 1 else 0)+(nIn t R:Nat):=λx=>by
     unfold nIn;rw[Uo];by_cases z:plF cs.length o'=t
     .rw[if_pos z,if_pos (by simp[z]),List.length_cons];lia
     .rw[if_neg z,if_neg (by simp[z])];lia
    have e4:∀(x:Nat),((Wn t (⟨plF cs.length o,plF cs.length o',Kv f i o'-Kv f i o,O i⟩::R):Nat):Int)=(if plF cs.length o=t then 1 else 0)+(Wn t R:Nat):=λx=>by
     unfold Wn;rw[Uo];by_cases z:plF cs.length o=t
     .rw[if_pos z,if_pos (by simp[z]),List.length_cons];lia
     .rw[if_neg z,if_neg (by simp[z])];lia
    rw[e1,e2,e3 0,e4 0]
    lia
  |left _ _=>obtain⟨k1,k2,k3,k4⟩:=P2 hp hd R d (λs hs=>hR s (Qk _ hs)) hn.2 (λs hs=>ha s (Qk _ hs)) hl hq;refine⟨?_,k2,k3,k4⟩;show Ku f 0 (R.foldl _ d)=Ku f 0 d+(0+KN R);rw[k1];lia
  |give _=>obtain⟨k1,k2,k3,k4⟩:=P2 hp hd R d (λs hs=>hR s (Qk _ hs)) hn.2 (λs hs=>ha s (Qk _ hs)) hl hq;refine⟨?_,k2,k3,k4⟩;show Ku f 0 (R.foldl _ d)=Ku f 0 d+(0+KN R);rw[k1];lia
theorem MA(t):∀R:List Stp,nIn t R<=(R.map Stp.b).count t
 |[]=>Qp _
 |s::R=>by
  have ih:=MA t R;unfold nIn at ih⊢
  grind
theorem AC(hp:Pairs cs.length m qs)(hd:ZH cs qs m ws){R:List Stp}(hR:∀s∈R,IsSt cs f qs ws s)(hn:(R.map Stp.a).Nodup)(hb:(R.map Stp.b).Perm (R.map Stp.a)):ZH cs qs m (R.foldl (app cs.length) ws)/\Ku f 0 (R.foldl (app cs.length) ws)=Ku f 0 ws+KN R:=by
 obtain⟨k1,k2,k3,k4⟩:=P2 hp hd R ws hR hn (λs hs i e=>rfl) v3 hd.wish;refine⟨⟨by rw[k2];exact hd.len,k3,λt c hc=>?_⟩,k1⟩;have ht   :=(Qg.mp hc).1;rw[k4 t ht];have h0:=hd.cop t c hc;have h1   :=List.nodup_iff_count.mp hn t;have h2:=MA t R;rw[hb.count_eq]at h2;by_cases z:nIn t R=0
 .lia
 .have hmem:t∈R.map Stp.a:=List.count_pos_iff.mp (by lia)
  obtain⟨s,hs,hst⟩:=Qn.mp hmem;cases hR s hs with
  |@mv i o o' h hne yH=>
   have:1<=Wn t R:=by exact List.length_pos_iff.mpr (List.ne_nil_of_mem (List.mem_filter.mpr ⟨hs,by simpa using hst⟩))
   lia
  |@left u c' h hl=>
   have hst:u=t:=hst;subst hst;rw[h]at hc;cases hc
   lia
  |@give u h=>
   lia
end
theorem D5   {w}(h:Path S q w p):w.map Stp.a++[p]=q::w.map Stp.b:=by
 induction h with
 |nil p=>rfl
 |cons hs h ih=>simp_all
theorem kr    (h:Path S x w x):(w.map Stp.b).Perm (w.map Stp.a):=by have e:=D5 h;have p1:(w.map Stp.a++[x]).Perm _:=List.perm_append_comm;simp_all
noncomputable def ZY(f:Int×Int->Int)(V:Nat->Int)(qs:LP)(i:Int):Int:=qs.foldl (λa q=>if q.1=i then max a (f q-V q.2.toNat)else a) 0
theorem On(f:Int×Int->Int)(V:Nat->Int)(i:Int):∀(qs:LP)(a),a<=qs.foldl (λa q=>if q.1=i then max a (f q-V q.2.toNat)else a) a /\
  (∀q∈qs,q.1=i->f q-V q.2.toNat<=qs.foldl (λa q=>if q.1=i then max a (f q-V q.2.toNat)else a) a) /\
  ∀B,a<=B->(∀q∈qs,q.1=i->f q-V q.2.toNat<=B)->qs.foldl (λa q=>if q.1=i then max a (f q-V q.2.toNat)else a) a<=B
 |[],a=>⟨Ja _,(λq h=>by cases h),λB h _=>h⟩
 |q::qs,a=>by
  rw[Ua];obtain⟨h1,h2,h3⟩:=On f V i qs _;have hb:a<=(if q.1=i then max a (f q-V q.2.toNat)else a):=by split<;>lia
  refine⟨JW hb h1,λp hp e=>?_,λB ha hB=>h3 B ?_ λp hp=>hB p (Qk _ hp)⟩
  .rcases QQ.mp hp with rfl|hp
   .lia
   .exact h2 p hp e
  .have:=hB q Qo
   split
   .lia
   .exact ha
theorem GA   : ∀(ws)(k:Nat)(A),(∀(j:Nat) o,ws[j]?=O o->A (k+j)=Kv f (k+j) o-(match o with|some t=>ps.getD t.toNat 0|none=>0))->((List.range' k ws.length).map A).sum=Ku f k ws-pz ps ws
 |[],k,A,_=>by show(0:Int)=0-0;lia
 |o::ws,k,A,h=>by
  rw[Qv,List.range'_succ,QF,Jw,GA ws (k+1) A λj o' e=>by have:=h (j+1) o' (by simpa using e);rw[show k+1+j=k+(j+1)by lia];exact this];have h0:=h 0 o v3;rw[Nat.add_zero]at h0;rw[h0];cases o with
  |none=>show Kv f k v4-0+_=Kv f k v4+Ku f (k+1) ws-(0+pz ps ws);lia
  |some t=>show Kv f k _-ps.getD t.toNat 0+_=Kv f k (O t)+Ku f (k+1) ws-(ps.getD t.toNat 0+pz ps ws);lia
section
variable{cs:wc}{f:Int×Int->Int}{qs:LP}{m:Nat}{ws:LO}{S:List Stp}
theorem IsSt.lt(hp:Pairs cs.length m qs)(hd:ZH cs qs m ws){s}(h:IsSt cs f qs ws s):s.a<cs.length+1/\s.b<cs.length+1:=by
 have key:∀{i:Nat}{o:wg},(∀t,o=O t->((i:Int),t)∈qs)->plF cs.length o<cs.length+1:=λ{i o} h=>by
  cases o with
  |none=>exact Ul _
  |some t=>have:=hp.lo _ (h t v3);show t.toNat<_;lia
 cases h with
 |mv h hne hq=>exact⟨key λt e=>hd.wish _ t (by rw[h,e]),key hq⟩
 |left h hl=>have:=(Qg.mp h).1;exact⟨Uj this,Ul _⟩
 |give h=>exact⟨Ul _,Uj h⟩
theorem AB{V:Nat->Int}(still:∀s∈S,V s.a+s.g<=V s.b){q p}{w}(h:Path S q w p):V q+KN w<=V p:=by
 induction h with
 |nil p=>rw[Hs];lia
 |@cons s w p hs h ih=>
  have:=still s hs;have e:KN (s::w)=s.g+KN w:=by show KN ([s]++w)=_;rw[Vb,Ro]
  lia
theorem jm(hp:Pairs cs.length m qs)(hd:ZH cs qs m ws){V:Nat->Int}(st:∀s,IsSt cs f qs ws s->V s.a+s.g<=V s.b)(vn:V cs.length=0) :
  OkP cs.length m (λa b=>f (a,b)) qs 1 ((UK m).map λi:Nat=>ZY f V qs (i:Int)) ((UK cs.length).map V)/\RD cs ((UK m).map λi:Nat=>ZY f V qs (i:Int)) ((UK cs.length).map V)=Ku f 0 ws:=by
 have v0:∀p,p<cs.length->0<=V p:=λp yA=>by
  have h3:V cs.length+0<=V p:=st _ (.give yA)
  lia
 have psD:∀k,k<cs.length->((UK cs.length).map V).getD k 0=V k:=λk hk=>by rw[Qh,Qf,QU hk];rfl
 have ask:∀(i:Nat) o,ws[i]?=O o->ZY f V qs (i:Int)=Kv f i o-(match o with|some t=>((UK cs.length).map V).getD t.toNat 0|none=>0):=λi o h=>by
  obtain⟨a1,a2,a3⟩:=On f V (i:Int) qs 0;cases o with
  |none=>
   have:ZY f V qs (i:Int)<=0:=a3 0 (Ja _) λq hq e=>by
    have h1:=st _ ((.mv (f:=f) h (o':=O q.2) (by intro z;cases z) λt et=>by cases et;rw[←e];exact hq));have h1:V cs.length+(f ((i:Int),q.2)-0)<=V q.2.toNat:=h1;rw[←e]at h1;have:f (q.1,q.2)=f q:=rfl
    lia
   show ZY f V qs (i:Int)=0-0;have:0<=ZY f V qs (i:Int):=a1
   lia
  |some t=>
   have hq:=hd.wish i t h;have hb:=hp.lo _ hq;have hup:=st _ ((.mv (f:=f) h (o':=v4) (by intro z;cases z) λt et=>by cases et));have hup:V t.toNat+(0-f ((i:Int),t))<=V cs.length:=hup;show ZY f V qs (i:Int)=f ((i:Int),t)-((UK cs.length).map V).getD t.toNat 0;rw[psD t.toNat (by lia)];have lo:f ((i:Int),t)-V t.toNat<=ZY f V qs (i:Int):=a2 _ hq v3
   have hi:ZY f V qs (i:Int)<=f ((i:Int),t)-V t.toNat:=a3 _ (by lia) λq hq e=>by
    by_cases z:q.2=t
    .have:q=((i:Int),t):=by rw[←e,←z]
     rw[this];exact Ja _
    .have h1:=st _ ((.mv (f:=f) h (o':=O q.2) (by intro y;cases y;exact z v3) λt et=>by cases et;rw[←e];exact hq))
     have h1:V t.toNat+(f ((i:Int),q.2)-f ((i:Int),t))<=V q.2.toNat:=h1;have:f (((i:Int)),q.2)=f q:=by rw[←e]
     lia
   lia
 refine⟨⟨by decide,by rw[Qb,Qx],by rw[Qb,Qx],λa ha=>?_,λp yA=>?_,λq hq=>?_⟩,?_⟩
 .obtain⟨i,_,rfl⟩:=Qn.mp ha
  exact(On f V (i:Int) qs 0).1
 .obtain⟨i,_,rfl⟩:=Qn.mp yA
  exact v0 i (Q3.mp (by assumption))
 .have hb:=hp.lo q hq
  rw[psD q.2.toNat (by lia),Qh,Qf,QU (by lia)];have h2:=(On f V q.1 qs 0).2.1 q hq v3;show 1*f q<=ZY f V qs ((q.1.toNat:Nat):Int)+V q.2.toNat;have e:((q.1.toNat:Nat):Int)=q.1:=by lia
  rw[e];have h2:f q-V q.2.toNat<=ZY f V qs q.1:=h2
  lia
 .unfold RD
  rw[List.range_eq_range' (n:=m),←hd.len,GA (f:=f) (ps:=(UK cs.length).map V) ws 0 (λi:Nat=>ZY f V qs (i:Int)) λj o e=>by rw[QS];exact ask j o e];have yy:∀t,O t∈ws->0<=t/\t<cs.length:=λt ht=>by obtain⟨i,hi⟩:=List.mem_iff_getElem?.mp ht;have:=hp.lo _ (hd.wish i t hi);exact⟨this.2.2.1,this.2.2.2⟩
  rw[NT ws yy,Ft _ _ (by rw[Qb,Qx])]
  have e:ZA cs.length (λk=>cs.getD k 0*((UK cs.length).map V).getD k 0)=ZA cs.length λk=>((ws.count (O (k:Int)):Nat):Int)*((UK cs.length).map V).getD k 0:=NH λk hk=>by
   rw[psD k hk];have hc:cs[k]?=O (cs.getD k 0):=by rw[Qh,Qd hk];rfl
   have hle:=hd.cop k _ hc;by_cases z:((ws.count (O (k:Int)):Nat):Int)=cs.getD k 0
   .rw[z]
   .have h1:=st _ ((.left (f:=f) (qs:=qs) hc (by lia)))
    have h1:V k+0<=V cs.length:=h1;have:=v0 k hk;have hz:V k=0:=by lia
    rw[hz,Int.mul_zero,Int.mul_zero]
  rw[e]
  lia
theorem AA(hp:Pairs cs.length m qs)(hd:ZH cs qs m ws)(hin:∀s∈S,IsSt cs f qs ws s)(hall:∀s,IsSt cs f qs ws s->s∈S){V:Nat->Int}(hV:∀p,V p=(ent (Zd (cs.length+1) S (cs.length+1)) p).1)
  (still:∀p,p<cs.length+1->(ent (Zd (cs.length+1) S (cs.length+1)) p).2.length≠cs.length+1):(∀s∈S,V s.a+s.g<=V s.b)/\V cs.length=0:=by
 have hS   :=λs hs=>(hin s hs).lt hp hd;have st:∀s∈S,V s.a+s.g<=V s.b:=λs hs=>by rw[hV,hV];exact ku hS (Uu _) still s hs
 have v0:∀p,0<=V p:=λp=>by have:=Gd hS (J6 (cs.length+1)) p;rw[RV hS]at this;rw[hV];exact this
 have vn:V cs.length=0:=by
  obtain⟨hw,hg⟩:=R7 hS _ cs.length;obtain⟨q,hq⟩:=hw.path;have h1:=AB st hq;rw[hg,←hV]at h1;have h2:=v0 q;by_cases z:q=cs.length
  .lia
  .have hql:q<cs.length:=by
    cases hw2:(ent _ cs.length).2 with
    |nil=>rw[hw2]at hq;cases hq;exact absurd v3 z
    |cons s w=>
     rw[hw2]at hq;have:=(hS s hq.step.1).1;rw[←hq.head]at this
     lia
   have h3:=st _ (hall _ (.give hql));have:=v0 cs.length
   lia
 exact⟨st,vn⟩
theorem Az(hp:Pairs cs.length m qs)(hd:ZH cs qs m ws)(hin:∀s∈S,IsSt cs f qs ws s)(hall:∀s,IsSt cs f qs ws s->s∈S){V}(hV:∀p,V p=(ent (Zd (cs.length+1) S (cs.length+1)) p).1)
  (still:∀p,p<cs.length+1->(ent (Zd (cs.length+1) S (cs.length+1)) p).2.length≠cs.length+1) :
  OkP cs.length m (λa b=>f (a,b)) qs 1 ((UK m).map λi:Nat=>ZY f V qs (i:Int)) ((UK cs.length).map V)/\RD cs ((UK m).map λi:Nat=>ZY f V qs (i:Int)) ((UK cs.length).map V)=Ku f 0 ws:=by
 obtain⟨st,vn⟩:=AA hp hd hin hall hV still;exact jm hp hd (λs hs=>st s (hall s hs)) vn
end
noncomputable def Xq:Option Nat->D
 |some i=>.int i
 |none=>.none
noncomputable def Ks(s:Stp):D:=.tuple [.int s.a,.int s.b,.int s.g,Xq s.w]
noncomputable def Yy(x:Int×List Stp):D:=.tuple [.int x.1,.list (x.2.map Ks)]
noncomputable def Kj(V:Int->Int->Int)(q:Int×Int):Int:=V q.1 q.2
noncomputable def ZK(n:Nat)(f:Int×Int->Int)(ws:LO):List Stp:=(UK ws.length).filterMap λi=>match ws.getD i v4 with
 |none=>v4
 |some t=>O ⟨t.toNat,n, -(Kv f i (O t)),O i⟩
noncomputable def Zx(n:Nat)(f:Int×Int->Int)(qs:LP)(ws:LO):List Stp:=qs.filterMap λq=>if ws.getD q.1.toNat v4≠O q.2 then O ⟨plF n (ws.getD q.1.toNat v4),q.2.toNat,f q-Kv f q.1.toNat (ws.getD q.1.toNat v4),O q.1.toNat⟩else v4
noncomputable def YH(cs:wc)(ws:LO):List Stp:=(UK cs.length).filterMap λt=>if 0<cs.getD t 0-((ws.count (O (t:Int)):Nat):Int)then O ⟨t,cs.length,0,v4⟩else v4
noncomputable def YG(n:Nat):List Stp:=(UK n).map λt=>⟨n,t,0,v4⟩
noncomputable def Y8(cs:wc)(f:Int×Int->Int)(qs:LP)(ws:LO):List Stp:=ZK cs.length f ws++Zx cs.length f qs ws++(YH cs ws++YG cs.length)
theorem jk{m j}{h h'}(hj:j<m)(e:∀i,i≠j->h' i=h i):(((UK m).map h).map int).set j (.int (h' j))=((UK m).map h').map int:=by
 apply Jt;intro i;by_cases z:j=i
 .simp_all
 .rw[Qs z,Qf,Qf,Qf,Qf]
  by_cases hi:i<m
  .rw[QU hi]
   show O _=O _;rw[e i λy=>z y.symm]
  .simp_all
theorem Hq   {j}(hj:j<m):oIx (.list (((UK m).map h).map int)) (.int (j:Int))=O (.int (h j)):=Z7 (by rw[Qf,Qf,QU hj];rfl)
section
variable{cs:wc}{ls:L3}{ws:LO}{V:Int->Int->Int}{qs:LP}
theorem xP{n:Nat}{o}(h:∀t,o=O t->0<=t):Wz [.int n,Kk o]=O (.int (plF n o)):=by
 refine Ze  rfl ?_;cases o with
 |none=>exact KG (MJ (KY  (x:=PyData.none) (U2 v3)) (U2 v3)) v3
 |some t=>
  refine KG (OM (KY  (x:=int t) (U2 v3)) (U2 v3)) ?_;have:=h t v3;show Out.rt (.int t)=Out.rt (.int ((t.toNat)))
  grind
noncomputable def Yx(V:Int->Int->Int)(ws:LO)(qs:LP)(i:Nat):Int:=match ws.getD i v4 with
 |none=>0
 |some t=>if((i:Int),t)∈qs then V i t else 0
theorem Tu{k:Int}(h0:0<=k)(h1:k<ws.length):oIx (Kz ws) (.int k)=O (Kk (ws.getD k.toNat v4)):=by
 obtain⟨j,rfl⟩:∃j:Nat,k=j:=⟨k.toNat,by lia⟩
 refine Z7 ?_;simp_all
theorem Hn   (h:ws[i]?=O o):ws.getD i v4=o:=by simp_all
theorem jj(hp:Pairs cs.length ws.length qs)(hd:ZH cs qs ws.length ws)(hm:ws.length<=1000)(hq1:qs.length<=1000):VL [.int (cs.length:Nat),.list (qs.map (ZZ V)),Kz ws]=O (.list ((ZK cs.length (Kj V) ws++Zx cs.length (Kj V) qs ws).map Ks)):=by
 refine Ze (Z:=[pb (.int (cs.length:Nat)),pb (.list (qs.map (ZZ V))),pb (Kz ws),v4,v4,v4,v4,v4]) v3 ?_;unfold Sq;have hlen:Kr [Kz ws]=O (.int ws.length):=by show Kr [.list (ws.map Kk)]=_;rw[Zw,Qb]
 have pos:∀i t,ws.getD i v4=O t->i<ws.length/\((i:Int),t)∈qs:=λi t e=>by
  by_cases hi:i<ws.length
  .rw[Qh,Qd hi]at e
   exact⟨hi,hd.wish i t (by rw[Qd hi];exact Us O e)⟩
  .rw[Qh,Q0 (by lia)]at e;cases e
 refine Kn (Yb (LQ (n:=ws.length) (ZJ (U6 U8 Kb) (Qa v3)) (Zq v3 hlen) hm) (Qa v3) v3) ?_;apply KD;apply ZX (λk Z=>∃x4 x5 x6,Z=[pb (.int (cs.length:Nat)),pb (.list (qs.map (ZZ V))),pb (Kz ws),O (.own (((UK ws.length).map (Yx V ws (qs.take k))).map int)),x4,x5,x6,v4])
 case h1=>exact ZD (U2 v3) YB
 case h0=>
  refine⟨v4,v4,v4,?_⟩
  have e:((UK ws.length).map (Yx V ws (qs.take 0))).map int=UL ws.length (.int 0):=by
   rw[List.eq_replicate_iff];refine⟨by rw[Qb,Qb,Qx],λb hb=>?_⟩;obtain⟨x,hx,rfl⟩:=Qn.mp hb;obtain⟨i,_,rfl⟩:=Qn.mp hx;unfold Yx;split
   .rfl
   .rw[if_neg (by rw[List.take_zero];simp)]
  rw[e];rfl
 case hst=>
  rintro k d Z hk ⟨x4,x5,x6,rfl⟩;rw[Qf]at hk;cases hq:qs[k]? with
  |none=>rw[hq]at hk;cases hk
  |some q=>
  rw[hq]at hk;cases hk;have hb:=hp.lo q (Qr hq);refine⟨_,KJ v3 (Kh (Ka (Qa v3) v3) (Kh (Ka (Qa v3) v3) (Kh (Ka (Qa v3) v3) KL))),?_⟩;unfold Ll;have wF:qs.take (k+1)=qs.take k++[q]:=by rw[J4,hq];rfl
  apply KE
  case h1=>exact Kf (Ko v3 (U2 v3) (Tu hb.1 hb.2.1)) (U2 v3) (OF (b:=O q.2))
  case h2=>
   intro hh;have hh:ws.getD q.1.toNat v4=O q.2:=Qa hh;refine Zz (Tw (U2 v3) v3 (U2 v3) v3 ⟨hb.1,by rw[Qb,Qb,Qx];exact hb.2.1⟩ v3) (Zu ⟨O (.pub (.int q.1)),pb (.int q.2),pb (.int (V q.1 q.2)),?_⟩)
   have e:=jk (m:=ws.length) (j:=q.1.toNat) (h:=Yx V ws (qs.take k)) (h':=Yx V ws (qs.take (k+1))) (by lia) λi hne=>by
    unfold Yx;cases ws.getD i v4 with
    |none=>rfl
    |some t=>
     dsimp only;rw[wF];by_cases z:((i:Int),t)∈qs.take k
     .rw[Qq z,Qq (Q8 _ z)]
     .rw[QB z,QB]
      intro y;rcases QW.mp y with y|y
      .exact z y
      .have:=QM.mp y
       rw[←this]at hne;exact hne (by show i=((i:Int)).toNat;rw[Qz])
   have ev:Yx V ws (qs.take (k+1)) q.1.toNat=V q.1 q.2:=by
    unfold Yx;rw[hh];have ei:((q.1.toNat:Nat):Int)=q.1:=by lia
    dsimp only;rw[ei,if_pos (by rw[wF];exact List.mem_append_right _ (by simp))]
   rw[ev]at e;rw[←e];rfl
  case h3=>
   intro hh;have hh:¬ws.getD q.1.toNat v4=O q.2:=Jp hh;refine KO (Zu ⟨O (.pub (.int q.1)),pb (.int q.2),pb (.int (V q.1 q.2)),?_⟩)
   have e:(UK ws.length).map (Yx V ws (qs.take (k+1)))=(UK ws.length).map (Yx V ws (qs.take k)):=Js λi _=>by
    unfold Yx;cases hw:ws.getD i v4 with
    |none=>rfl
    |some t=>
     dsimp only;rw[wF];by_cases z:((i:Int),t)∈qs.take k
     .rw[Qq z,Qq (Q8 _ z)]
     .rw[QB z,QB]
      intro y;rcases QW.mp y with y|y
      .exact z y
      .have y:=QM.mp y
       rw[←y]at hh;exact hh (by show ws.getD ((i:Int)).toNat v4=O t;rw[Qz];exact hw)
   rw[e];rfl
 case hend=>
  rintro Z ⟨x4,x5,x6,rfl⟩;refine KB ?_;have yy:qs.take (qs.map (ZZ V)).length=qs:=by rw[Qb,Jj]
  rw[yy]
  have yQ:∀i,Yx V ws qs i=Kv (Kj V) i (ws.getD i v4):=λi=>by
   unfold Yx;cases hw:ws.getD i v4 with
   |none=>rfl
   |some t=>exact Qq (pos i t hw).2
  have hc:∀y4 y5 y6 y7:Option Sl,Zp (gT 2 (gNC (gN 8) (gNC (gN 9) (gN0)))) (Ke (λd=>!isNon d) (UZ 9)) (Kt (U1 (UZ 9) (U1 (UZ 0) (U1 (Yg (U9 3 (UZ 8))) (U1 (UZ 8) (U0)))))) (Yz 0 (ws.map Kk)) ([pb (.int (cs.length:Nat)),pb (.list (qs.map (ZZ V))),pb (Kz ws),pb (.list (((UK ws.length).map (Yx V ws qs)).map int)),y4,y5,y6,y7]++UL 2 v4) []=O ((ZK cs.length (Kj V) ws).map Ks):=by
   intro y4 y5 y6 y7
   have em:(ZK cs.length (Kj V) ws).map Ks=((UK ws.length).map λi=>(match ws.getD i v4 with|none=>v4|some t=>O (Ks ⟨t.toNat,cs.length, -(Kv (Kj V) i (O t)),O i⟩):wd)).filterMap id:=by
    unfold ZK;rw[List.map_filterMap,List.filterMap_map]
    congr 1
    funext i;dsimp only[Function.comp,id];cases ws.getD i v4<;>rfl
   rw[em];refine NM (λZ=>∃z4 z5 z6 z7 x y,Z=[pb (.int (cs.length:Nat)),pb (.list (qs.map (ZZ V))),pb (Kz ws),pb (.list (((UK ws.length).map (Yx V ws qs)).map int)),z4,z5,z6,z7,x,y]) _ _ _ _ (by rw[Qb,Qx,Y1,Qb]) ?_ ⟨y4,y5,y6,y7,v4,v4,rfl⟩ (by rw[Y1,Qb,QC];lia);rintro i d e hdd he Z ⟨z4,z5,z6,z7,x,y,rfl⟩;obtain⟨z,hz,rfl⟩:=Wb hdd;rw[Qf]at hz;cases hw:ws[i]? with
   |none=>rw[hw]at hz;cases hz
   |some o=>
   rw[hw]at hz;cases hz;have wt:i<ws.length:=(Qg.mp hw).1;have hg:=Hn hw;rw[Qf,QU wt]at he;have he:O (match ws.getD i v4 with|none=>v4|some t=>O (Ks ⟨t.toNat,cs.length, -(Kv (Kj V) i (O t)),O i⟩):wd)=O e:=he;rw[hg]at he;cases he;rw[QS];refine⟨_,KJ v3 (Kh (Ka (Qa v3) v3) (Kh (Ka (Qa v3) v3) KL)),?_,?_,_,_,_,_,_,_,rfl⟩
   .cases o with
    |none=>exact KY (k:=λd=>!isNon d) (x:=PyData.none) (U2 v3)
    |some t=>exact KY (k:=λd=>!isNon d) (x:=int t) (U2 v3)
   .intro v hv
    cases o with
    |none=>cases hv
    |some t=>
     cases hv;have hb:=hp.lo _ (pos i t hg).2;have et:((t.toNat:Nat):Int)=t:=by have:=hb.2.2.1;lia
     show _=Res.ok (PyData.tuple [.int ((t.toNat:Nat):Int),.int ((cs.length:Nat):Int),.int (-(Kv (Kj V) i (O t))),.int (i:Nat)]) _;rw[et,show Kv (Kj V) i (O t)=Yx V ws qs i by rw[yQ,hg]];exact ZE (U6 (U2 v3) (U6 (U2 v3) (U6 (Tr (Ko v3 (U2 v3) (Hq wt))) (U6 (U2 v3) Kb)))) (Qa v3)
  have nlS:∀S:List Stp,(S.map Ks).all nl0=v5:=λS=>Jf.mpr λd hd=>by obtain⟨s,_,rfl⟩:=Qn.mp hd;obtain⟨a,b,g,w⟩:=s;cases w<;>rfl
  have hcl:∀x4 x5 x6:Option Sl,WH (ZC (XI (U1 (UZ 2) (U0))) 2 (gT 2 (gNC (gN 8) (gNC (gN 9) (gN0)))) (Ke (λd=>!isNon d) (UZ 9)) (Kt (U1 (UZ 9) (U1 (UZ 0) (U1 (Yg (U9 3 (UZ 8))) (U1 (UZ 8) (U0))))))) [pb (.int (cs.length:Nat)),pb (.list (qs.map (ZZ V))),pb (Kz ws),O (.own (((UK ws.length).map (Yx V ws qs)).map int)),x4,x5,x6,v4]=.ok ((ZK cs.length (Kj V) ws).map Ks) [pb (.int (cs.length:Nat)),pb (.list (qs.map (ZZ V))),pb (Kz ws),O (.own (((UK ws.length).map (Yx V ws qs)).map int)),x4,x5,x6,v4]:=λx4 x5 x6=>
   Ah (Z':=Yh [pb (.int (cs.length:Nat)),pb (.list (qs.map (ZZ V))),pb (Kz ws),O (.own (((UK ws.length).map (Yx V ws qs)).map int)),x4,x5,x6,v4]) (Yj (WN (U6 (U2 v3) Kb) WT) (hc _ _ _ _)) (nlS _)
  refine Kn (Yb (hcl _ _ _) (Qa v3) v3) ?_;apply KD;apply ZX (λk Z=>∃x4 x5 x6,Z=[pb (.int (cs.length:Nat)),pb (.list (qs.map (ZZ V))),pb (Kz ws),O (.own (((UK ws.length).map (Yx V ws qs)).map int)),x4,x5,x6,O (.own ((ZK cs.length (Kj V) ws++Zx cs.length (Kj V) (qs.take k) ws).map Ks))])
  case h1=>exact ZD (U2 v3) YB
  case h0=>exact⟨_,_,_,by rw[List.take_zero];show _=[_,_,_,_,_,_,_,O (Sl.own ((ZK cs.length (Kj V) ws++[]).map Ks))];rw[Jc];rfl⟩
  case hst=>
   rintro k d Z hk ⟨x4,x5,x6,rfl⟩;rw[Qf]at hk;cases hq:qs[k]? with
   |none=>rw[hq]at hk;cases hk
   |some q=>
   rw[hq]at hk;cases hk;have hb:=hp.lo q (Qr hq);have wF:qs.take (k+1)=qs.take k++[q]:=by rw[J4,hq];rfl
   have wO:k<qs.length:=(Qg.mp hq).1
   have hsz:((ZK cs.length (Kj V) ws++Zx cs.length (Kj V) (qs.take k) ws).map Ks).length<1000000:=by
    rw[Qb,Qj];have h1:(ZK cs.length (Kj V) ws).length<=ws.length:=by unfold ZK;have:=Jm (λi=>match ws.getD i v4 with|none=>v4|some t=>O (⟨t.toNat,cs.length, -(Kv (Kj V) i (O t)),O i⟩:Stp)) (UK ws.length);rw[Qx]at this;exact this
    have h2:(Zx cs.length (Kj V) (qs.take k) ws).length<=qs.length:=by unfold Zx;refine QE (Jm _ _) ?_;rw[Q6];lia
    lia
   refine⟨_,KJ v3 (Kh (Ka (Qa v3) v3) (Kh (Ka (Qa v3) v3) (Kh (Ka (Qa v3) v3) KL))),?_⟩;unfold Lm;have e2:∀r:List Stp,Zx cs.length (Kj V) [q] ws=r->Zx cs.length (Kj V) (qs.take (k+1)) ws=Zx cs.length (Kj V) (qs.take k) ws++r:=λr hr=>by rw[wF];unfold Zx at hr⊢;rw[List.filterMap_append,hr]
   apply KE
   case h1=>exact Kf (Ko v3 (U2 v3) (Tu hb.1 hb.2.1)) (U2 v3) (OE (b:=O q.2))
   case h2=>
    intro hh;have hh:¬ws.getD q.1.toNat v4=O q.2:=by simpa using hh
    have hpl:Wz [.int (cs.length:Nat),Kk (ws.getD q.1.toNat v4)]=O (.int (plF cs.length (ws.getD q.1.toNat v4))):=xP λt e=>by have:=hp.lo _ (pos _ t e).2;exact this.2.2.1
    refine Zz (Xj v3 (ZE (U6 (Kx (U6 (U2 v3) (U6 (Ko v3 (U2 v3) (Tu hb.1 hb.2.1)) Kb)) v3 hpl) (U6 (U2 v3) (U6 (Kf (U2 v3) (W3 v3 (U2 v3) v3 (show oIx _ (.int q.1)=O (.int (Yx V ws qs q.1.toNat))from by have:=Hq (m:=ws.length) (h:=Yx V ws qs) (j:=q.1.toNat) (by lia);rw[show((q.1.toNat:Nat):Int)=q.1 by lia]at this;exact this)) Y9) (U6 (U2 v3) Kb)))) (Qa v3)) v3 hsz v3) (Zu ⟨O (.pub (.int q.1)),pb (.int q.2),pb (.int (V q.1 q.2)),?_⟩);have er:Zx cs.length (Kj V) [q] ws=[⟨plF cs.length (ws.getD q.1.toNat v4),q.2.toNat,Kj V q-Kv (Kj V) q.1.toNat (ws.getD q.1.toNat v4),O q.1.toNat⟩]:=by unfold Zx;rw[JG,Qq hh];rfl
    rw[e2 _ er,←Q2,Qt (l₂:=[_])];show _=[_,_,_,_,_,_,_,O (Sl.own (_++[PyData.tuple [_,.int ((q.2.toNat:Nat):Int),.int (Kj V q-Kv (Kj V) q.1.toNat (ws.getD q.1.toNat v4)),.int ((q.1.toNat:Nat):Int)]]))];rw[show((q.2.toNat:Nat):Int)=q.2 by lia,show((q.1.toNat:Nat):Int)=q.1 by lia,←yQ];rfl
   case h3=>
    intro hh;have hh:ws.getD q.1.toNat v4=O q.2:=by simpa using hh
    refine KO (Zu ⟨O (.pub (.int q.1)),pb (.int q.2),pb (.int (V q.1 q.2)),?_⟩);have er:Zx cs.length (Kj V) [q] ws=[]:=by unfold Zx;rw[List.filterMap_cons,if_neg (by rw[hh];simp)];rfl
    rw[e2 _ er,Jc];rfl
  case hend=>rintro Z ⟨x4,x5,x6,rfl⟩;rw[yy];exact KB (KG (Yc rfl rfl) rfl)
end
section
variable{cs:wc}{ls:L3}{ws:LO}{V:Int->Int->Int}{qs:LP}
theorem ji(g:Good cs ls)(hm:ws.length=ls.length):VJ [Kw cs ls,Kz ws]=O (.list ((YH cs ws++YG cs.length).map Ks)):=by
 refine Ze  rfl ?_;unfold So;have c6:=g.c6;have wY:Kr [.list (cs.map int)]=O (.int cs.length):=by rw[Zw,Qb]
 refine Kn (KH (ZI (U6 (Ko v3 U8 SO) Kb) wY) (Qa v3) v3) ?_;refine Kn (KH (Kx (U6 (U2 v3) (U6 (U2 v3) Kb)) v3 (vO g)) (Qa v3) v3) ?_;have wv:(Xx cs ws).length=cs.length:=by unfold Xx;rw[Qb,Qx]
 have hc:Zp (gT 2 (gNC (gN 5) (gNC (gN 6) (gN0)))) (K6 (oIB λi j=>decide (j<i)) 6 (U3 (.int 0))) (Kt (U1 (UZ 5) (U1 (UZ 2) (U1 (U3 (.int 0)) (U1 (U3 .none) (U0)))))) (Yz 0 ((Xx cs ws).map int)) (KT [pb (Kw cs ls),pb (Kz ws),pb (.int cs.length),pb (.list ((Xx cs ws).map int)),v4]++UL 2 v4) []=O ((YH cs ws).map Ks):=by
  have em:(YH cs ws).map Ks=((UK cs.length).map λt=>(if 0<cs.getD t 0-((ws.count (O (t:Int)):Nat):Int)then O (Ks ⟨t,cs.length,0,v4⟩)else none:wd)).filterMap id:=by
   unfold YH;rw[List.map_filterMap,List.filterMap_map]
   congr 1
   funext i;dsimp only[Function.comp,id]
   split<;>rfl
  rw[em];refine NM (λZ=>∃x y,Z=[pb (Kw cs ls),pb (Kz ws),pb (.int cs.length),pb (.list ((Xx cs ws).map int)),v4,x,y]) _ _ _ _ (by rw[Qb,Qx,Y1,Qb,wv]) ?_ ⟨v4,v4,rfl⟩ (by rw[Y1,Qb,wv,QC];lia);rintro i d e hd he Z ⟨x,y,rfl⟩;obtain⟨z,hz,rfl⟩:=Wb hd;rw[Qf]at hz
  have wt:i<cs.length:=by
   rw[←wv];cases hw:(Xx cs ws)[i]? with
   |none=>rw[hw]at hz;cases hz
   |some v=>exact(Qg.mp hw).1
  have hlv:(Xx cs ws)[i]?=O (cs.getD i 0-((ws.count (O (i:Int)):Nat):Int)):=by unfold Xx;rw[Qf,QU wt];rfl
  rw[hlv]at hz;cases hz;rw[Qf,QU wt]at he;cases he;rw[QS];refine⟨_,KJ v3 (Kh (Ka (Qa v3) v3) (Kh (Ka (Qa v3) v3) KL)),?_,?_,_,_,rfl⟩
  .have e:(if 0<cs.getD i 0-((ws.count (O (i:Int)):Nat):Int)then O (Ks ⟨i,cs.length,0,v4⟩)else none:wd).isSome=decide (0<cs.getD i 0-((ws.count (O (i:Int)):Nat):Int)):=by
    by_cases h:0<cs.getD i 0-((ws.count (O (i:Int)):Nat):Int)
    .rw[Qq h,QJ h];rfl
    .rw[QB h,QG h];rfl
   rw[e];exact Yk v3 U8 v3
  .intro v hv
   dsimp only at hv;split at hv
   .cases hv
    exact ZE (U6 (U2 v3) (U6 (U2 v3) (U6 U8 (U6 U8 Kb)))) (Qa v3)
   .cases hv
 refine Kn (Yb (Yj (WN (U6 (U2 v3) Kb) WT) hc) (Qa v3) v3) ?_;have wM:(Z8 0 (cs.length:Int)).length=cs.length:=by rw[XG];lia
 have hc2:∀x4:Option Sl,Zp (gN 5) (U3 v5) (Kt (U1 (UZ 2) (U1 (UZ 5) (U1 (U3 (.int 0)) (U1 (U3 .none) (U0)))))) (Z8 0 (cs.length:Int)) (KT [pb (Kw cs ls),pb (Kz ws),pb (.int cs.length),pb (.list ((Xx cs ws).map int)),x4]++UL 1 v4) []=O ((YG cs.length).map Ks):=λx4=>by refine Vd (λZ=>∃z x,Z=[pb (Kw cs ls),pb (Kz ws),pb (.int cs.length),pb (.list ((Xx cs ws).map int)),z,x]) _ _ _ _ (by unfold YG;rw[Qb,Qb,Qx,wM]) ?_ ⟨_,v4,rfl⟩ (by rw[wM,QC];lia);rintro i d e hd he Z ⟨z,x,rfl⟩;obtain⟨rfl,hlt⟩:=Wi hd;unfold YG at he;rw[Qf,Qf,QU (by lia)]at he;cases he;rw[JL];exact⟨_,Ka (Qa v3) v3,rfl,ZE (U6 (U2 v3) (U6 (U2 v3) (U6 U8 (U6 U8 Kb)))) (Qa v3),_,_,rfl⟩
 have h1:(YH cs ws).length<=cs.length:=by unfold YH;have:=Jm (λt=>if 0<cs.getD t 0-((ws.count (O (t:Int)):Nat):Int)then O (⟨t,cs.length,0,v4⟩:Stp)else v4) (UK cs.length);rw[Qx]at this;exact this
 have h2:(YG cs.length).length=cs.length:=by unfold YG;rw[Qb,Qx]
 refine KG (Kf (Yc v3 v3) (KY (Yj (We (U6 (U2 v3) Kb) (Wc (by lia) (by lia))) (hc2 _))) (Xg (by rw[Qb,Qb];lia))) ?_;rw[Qt]
theorem Fy(g:Good cs ls)(hm:ws.length=ls.length)(hp:Pairs cs.length ws.length qs)(hd:ZH cs qs ws.length ws)(hq1:qs.length<=1000):Xu [Kw cs ls,.list (qs.map (ZZ V)),Kz ws]=O (.list ((Y8 cs (Kj V) qs ws).map Ks)):=by
 refine Ze  rfl ?_;have c6:=g.c6;have l7:=g.l7;have wY:Kr [.list (cs.map int)]=O (.int (cs.length:Nat)):=by rw[Zw,Qb]
 have h1:(ZK cs.length (Kj V) ws).length<=ws.length:=by unfold ZK;have:=Jm (λi=>match ws.getD i v4 with|none=>v4|some t=>O (⟨t.toNat,cs.length, -(Kv (Kj V) i (O t)),O i⟩:Stp)) (UK ws.length);rw[Qx]at this;exact this
 have h2:(Zx cs.length (Kj V) qs ws).length<=qs.length:=by unfold Zx;exact Jm _ _
 have h3:(YH cs ws).length<=cs.length:=by have:=Jm (λt=>if 0<cs.getD t 0-((ws.count (O (t:Int)):Nat):Int)then O (⟨t,cs.length,0,v4⟩:Stp)else v4) (UK cs.length);rw[Qx]at this;exact this
 have h4:(YG cs.length).length=cs.length:=by unfold YG;rw[Qb,Qx]
 refine KG (Kf (Kx (U6 (ZI (U6 (Ko v3 U8 SO) Kb) wY) (U6 (U2 v3) (U6 (U2 v3) Kb))) v3 (jj hp hd (by lia) hq1)) (Kx (U6 (U2 v3) (U6 (U2 v3) Kb)) v3 (ji g hm)) (Xg (by rw[Qb,Qb,Qj,Qj];lia))) ?_;unfold Y8;rw[Qt (l₁:=ZK cs.length (Kj V) ws++Zx cs.length (Kj V) qs ws)]
theorem P1{m:Nat}{f:Int×Int->Int}(hp:Pairs cs.length m qs)(hd:ZH cs qs m ws):∀s∈Y8 cs f qs ws,IsSt cs f qs ws s:=λs hs=>by
 have gt:∀{i:Nat}{o:wg},i<ws.length->ws.getD i v4=o->ws[i]?=O o:=λ{i o} hi e=>by rw[Qh,Qd hi]at e;rw[Qd hi];exact Us O e
 unfold Y8 at hs;rcases QW.mp hs with hs|hs
 .rcases QW.mp hs with hs|hs
  .unfold ZK at hs
   obtain⟨i,hi,e⟩:=Jy.mp hs;have hi:=Q3.mp hi;cases hw:ws.getD i v4 with
   |none=>rw[hw]at e;cases e
   |some t=>
    rw[hw]at e;have e:=Q7 e;subst e;have:=IsSt.mv (cs:=cs) (f:=f) (qs:=qs) (gt hi hw) (o':=v4) (by intro z;cases z) (λt e=>by cases e);have e2:Kv f i v4-Kv f i (O t) = -(Kv f i (O t)):=by show 0-_=_;lia
    rw[e2]at this;exact this
  .unfold Zx at hs
   obtain⟨q,hq,e⟩:=Jy.mp hs;have hb:=hp.lo q hq;split at e
   .rename_i hne
    have e:=Q7 e;subst e;have hi:q.1.toNat<ws.length:=by rw[hd.len];lia
    have ei:((q.1.toNat:Nat):Int)=q.1:=by lia
    have:=IsSt.mv (cs:=cs) (f:=f) (qs:=qs) (gt hi v3) (o':=O q.2) (λz=>hne z.symm) (λt e=>by cases e;rw[ei];exact hq);have e2:Kv f q.1.toNat (O q.2)=f q:=by show f (((q.1.toNat:Nat):Int),q.2)=_;rw[ei]
    rw[e2]at this;exact this
   .cases e
 .rcases QW.mp hs with hs|hs
  .unfold YH at hs
   obtain⟨t,ht,e⟩:=Jy.mp hs;have ht:=Q3.mp ht;split at e
   .rename_i hl
    have e:=Q7 e;subst e;exact .left (c:=cs.getD t 0) (by rw[Qh,Qd ht];rfl) (by lia)
   .cases e
  .obtain⟨t,ht,rfl⟩:=Qn.mp hs
   exact .give (Q3.mp ht)
theorem jh{m:Nat}{f}(hp:Pairs cs.length m qs)(hd:ZH cs qs m ws):∀s,IsSt cs f qs ws s->s∈Y8 cs f qs ws:=λs hs=>by
 unfold Y8;cases hs with
 |@mv i o o' h hne hq=>
  have hi:i<ws.length:=(Qg.mp h).1;have hg:=Hn h;refine Q8 _ ?_;cases o' with
  |none=>
   refine Q8 _ ?_;cases o with
   |none=>exact absurd v3 hne
   |some t=>refine Jy.mpr ⟨i,Q3.mpr hi,?_⟩;rw[hg];show O (⟨t.toNat,cs.length, -_,O i⟩:Stp)=O ⟨t.toNat,cs.length,0-Kv f i (O t),O i⟩;rw[show(0:Int)-Kv f i (O t) = -(Kv f i (O t))by lia]
  |some t=>refine QK _ ?_;have hqt:=hq t v3;refine Jy.mpr ⟨((i:Int),t),hqt,?_⟩;dsimp only;rw[Qz,hg,Qq (λz=>hne z.symm)];rfl
 |@left t c h hl=>
  refine QK _ (Q8 _ ?_);have ht:t<cs.length:=(Qg.mp h).1;unfold YH;refine Jy.mpr ⟨t,Q3.mpr ht,?_⟩;have e:cs.getD t 0=c:=by rw[Qh,h];rfl
  rw[e,Qq (by lia)]
 |@give t h=>refine QK _ (QK _ ?_);unfold YG;exact Qn.mpr ⟨t,Q3.mpr h,rfl⟩
end
theorem LI  {p:Nat}(h:p<W.length):oIx (.list (W.map Yy)) (.int (p:Int))=O (Yy (ent W p)):=by refine Z7 ?_;unfold ent;rw[Qf,Qh,Qd h];rfl
theorem qo{W:Tab}{S:List Stp}(hS:∀s∈S,s.a<W.length/\s.b<W.length)(hW:∀p,(ent W p).2.length<=1000)(hl:W.length<=1000):VI [.list (W.map Yy),.list (S.map Ks)]=O (.list ((Pr W S).map Yy)):=by
 refine Ze  rfl ?_;unfold Sn;refine Kn (Yb (Rq v3 (show X6 [.list (W.map Yy)]=O (W.map Yy)from rfl)) (Qa v3) v3) ?_;apply KD;apply ZX (λk Z=>∃x3 x4 x5 x6 x7 x8 x9,Z=[pb (.list (W.map Yy)),pb (.list (S.map Ks)),O (.own (((S.take k).foldl (YQ W) W).map Yy)),x3,x4,x5,x6,x7,x8,x9])
 case h1=>exact ZD (U2 v3) YB
 case h0=>exact⟨_,_,_,_,_,_,_,rfl⟩
 case hst=>
  rintro k d Z hk ⟨x3,x4,x5,x6,x7,x8,x9,rfl⟩;rw[Qf]at hk;cases hq:S[k]? with
  |none=>rw[hq]at hk;cases hk
  |some s=>
  rw[hq]at hk;cases hk;have hs:=hS s (Qr hq);have wF:S.take (k+1)=S.take k++[s]:=by rw[J4,hq];rfl
  have hfl:(S.take (k+1)).foldl (YQ W) W=YQ W ((S.take k).foldl (YQ W) W) s:=by rw[wF,List.foldl_append];rfl
  have hTl:∀(R:List Stp)(T:Tab),(R.foldl (YQ W) T).length=T.length:=λR=>by
   induction R with
   |nil=>intro T;rfl
   |cons x R ih=>intro T;rw[Ua,ih,jo]
  generalize hT:(S.take k).foldl (YQ W) W=T at hfl⊢;have yf:T.length=W.length:=by rw[←hT,hTl]
  refine⟨_,Ka (Qa v3) v3,?_⟩;unfold Lj;refine Kn (Xz (U2 v3) (KJ v3 (Kh (Ka (Qa v3) v3) (Kh (Ka (Qa v3) v3) (Kh (Ka (Qa v3) v3) (Kh (Ka (Qa v3) v3) KL)))))) ?_;refine Kn (Xz (Ko v3 (U2 v3) (LI hs.1)) (KJ v3 (Kh (Ka (Qa v3) v3) (Kh (Ka (Qa v3) v3) KL)))) ?_;have i0:oIx (Yy (ent T s.b)) (.int 0)=O (.int (ent T s.b).1):=Z7 (j:=0) v3;apply KE
  case h1=>exact Kf (Kf (U2 v3) (U2 v3) Zf) (Kf (W3 v3 (U2 v3) v3 (LI (by rw[yf];exact hs.2))) U8 i0) v3
  case h2=>
   intro hh;have hh:(ent T s.b).1<(ent W s.a).1+s.g:=Qa hh;have hadd:Kg (.list ((ent W s.a).2.map Ks)) (.list [Ks s])=O (.list (((ent W s.a).2++[s]).map Ks)):=by rw[Xg (by rw[Qb];have:=hW s.a;show _+1<=_;lia),Qt];rfl
   refine Zz (Tw (ZE (U6 (Kf (U2 v3) (U2 v3) Zf) (U6 (Kf (U2 v3) (ZJ (U6 (U2 v3) Kb) (Qa v3)) hadd) Kb)) (Qa v3)) v3 (U2 v3) v3 ⟨Int.natCast_nonneg _,by rw[Qb,yf];have:=hs.2;lia⟩ v3) (Zu ⟨O (.pub (Ks s)),pb (.int s.a),pb (.int s.b),pb (.int s.g),pb (Xq s.w),pb (.int (ent W s.a).1),pb (.list ((ent W s.a).2.map Ks)),?_⟩);rw[hfl];unfold YQ;rw[Qq hh,Uv];rw[Qz];rfl
  case h3=>intro hh;have hh:¬(ent T s.b).1<(ent W s.a).1+s.g:=Jp hh;refine KO (Zu ⟨O (.pub (Ks s)),pb (.int s.a),pb (.int s.b),pb (.int s.g),pb (Xq s.w),pb (.int (ent W s.a).1),pb (.list ((ent W s.a).2.map Ks)),?_⟩);rw[hfl];unfold YQ;rw[QB hh];rfl
 case hend=>rintro Z ⟨x3,x4,x5,x6,x7,x8,x9,rfl⟩;refine KB (KG (Yc rfl rfl) ?_);rw[Qb,Jj];rfl
theorem Gz{n:Nat}{S:List Stp}(hS:∀s∈S,s.a<n/\s.b<n)(hn:n<=100):X1 [.int (n:Nat),.list (S.map Ks)]=O (.list ((Zd n S n).map Yy)):=by
 refine Ze  rfl ?_;unfold Sm;have hmul:KR (.list [.tuple [.int 0,.list []]]) (.int (n:Nat))=O (.list ((Zd n S 0).map Yy)):=by rw[PV (by lia)];unfold Zd;rw[List.map_replicate];rfl
 refine Kn (KH (Kf (ZJ (U6 (ZE (U6 U8 (U6 (ZJ Kb (Qa v3)) Kb)) (Qa v3)) Kb) (Qa v3)) (U2 v3) hmul) (Qa v3) v3) ?_;apply KD;apply ZX (λk Z=>k<=n/\∃x3,Z=[pb (.int (n:Nat)),O _,pb (.list ((Zd n S k).map Yy)),x3])
 case h1=>exact We (U6 (U2 v3) Kb) (Wc (by lia) (by lia))
 case h0=>exact⟨J6 _,_,rfl⟩
 case hst=>rintro k d Z hk ⟨_,x3,rfl⟩;obtain⟨rfl,hlt⟩:=Wi hk;refine⟨_,Ka (Qa v3) v3,?_⟩;have hl:=Rs hS k;have hlo:=qo (W:=Zd n S k) (S:=S) (by rw[hl];exact hS) (λp=>QE ((Oo hS k).1 p) (by lia)) (by rw[hl];lia);exact Zz (KH (Kx (U6 (U2 v3) (U6 (U2 v3) Kb)) v3 hlo) (Qa v3) v3) (Zu ⟨by lia,_,rfl⟩)
 case hend=>rintro Z ⟨_,x3,rfl⟩;refine KB (KG (U2 rfl) ?_);rw[XG,show((n:Int)-0).toNat=n by lia]
theorem DB  {i j:Nat}(hij:i<=j)(hj:j<=xs.length):DL.cutD xs (O (i:Int)) (O (j:Int))=(xs.take j).drop i:=by unfold DL.cutD HT.sIx;dsimp only;rw[QB (by lia),QB (by lia),Qz,Qz,Ur hj,Ur (show i<=xs.length by lia),List.drop_take]
theorem vZ{w:List Stp}(hl:w.length<=1000):∃d,VH [.list (w.map Ks)]=O d/\∃r,d=.list (r.map Ks)/\((LJ w/\r=[]) ∨ ∃i j,OW w i j/\r=(w.take (j+1)).drop i):=by
 refine WI (Z:=[pb (.list (w.map Ks)),v4,v4,v4]) v3 ?_;unfold Sk;apply KD;apply ZX (λk Z=>(∃x1 x2 x3,Z=[pb (.list (w.map Ks)),x1,x2,x3])/\∀j'<k,∀i' ≤ j',∀s t,w[i']?=O s->w[j']?=O t->s.a≠t.b)
 case h1=>exact WN (U6 (U2 v3) Kb) WT
 case h0=>exact⟨⟨_,_,_,rfl⟩,λj' h=>absurd h (Ud _)⟩
 case hst=>
  rintro k d Z hk ⟨⟨x1,x2,x3,rfl⟩,hb⟩;obtain⟨z,hz,rfl⟩:=Wb hk;rw[Qf]at hz;cases ht:w[k]? with
  |none=>rw[ht]at hz;cases hz
  |some t=>
  rw[ht]at hz;cases hz;have wO:k<w.length:=(Qg.mp ht).1;rw[QS];refine⟨_,KJ v3 (Kh (Ka (Qa v3) v3) (Kh (Ka (Qa v3) v3) KL)),?_⟩;unfold Lh;apply ZX (λl Z=>(∃x3,Z=[pb (.list (w.map Ks)),pb (.int (k:Nat)),pb (Ks t),x3])/\∀i'<l,∀s,w[i']?=O s->s.a≠t.b)
  case h1=>exact We (U6 (Kf (U2 v3) U8 Zf) Kb) (Wc (by lia) (by lia))
  case h0=>exact⟨⟨_,rfl⟩,λi' h=>absurd h (Ud _)⟩
  case hst=>
   rintro l d Z hl2 ⟨⟨x3,rfl⟩,hc⟩;obtain⟨rfl,hlt⟩:=Wi hl2;have hlk:l<=k:=by lia
   obtain⟨s,hs⟩:∃s,w[l]?=O s:=⟨_,Qd (by lia)⟩
   refine⟨_,Ka (Qa v3) v3,?_⟩;have zl:(0:Int)+(l:Int)=l:=by lia
   rw[zl];unfold Li;have il:oIx (.list (w.map Ks)) (.int (l:Int))=O (Ks s):=Z7 (by rw[Qf,hs];rfl);have i0:oIx (Ks s) (.int 0)=O (.int s.a):=Z7 (j:=0) v3;have i1:oIx (Ks t) (.int 1)=O (.int t.b):=Z7 (j:=1) v3;apply KE
   case h1=>exact Kf (Kf (Ko v3 (U2 v3) il) U8 i0) (Ko v3 U8 i1) YL
   case h2=>
    intro hh;have hh:(s.a:Int)=(t.b:Int):=Qa hh;have wQ:YI (.list (w.map Ks)) (O (l:Int)) (O ((k:Int)+1))=O (.list (((w.take (k+1)).drop l).map Ks)):=by rw[TD,show((k:Int)+1)=((k+1:Nat):Int)by lia,DB (by lia) (by rw[Qb];lia),Uy,Uh]
    refine KG (Xy (U2 v3) (YT (U2 v3)) (YT (Kf (U2 v3) U8 Zf)) wQ) (RZ (RZ (Yo ⟨_,rfl,_,rfl,.inr ⟨l,k,⟨hlk,wO,λs' t' e1 e2=>?_,hb⟩,rfl⟩⟩)));rw[hs]at e1;rw[ht]at e2;cases e1;cases e2
    lia
   case h3=>
    intro hh;refine KO (Zu ⟨⟨_,rfl⟩,λi' hi' s' e=>?_⟩);rcases JX.mp hi' with hi'|rfl
    .exact hc i' hi' s' e
    .rw[hs]at e;cases e;lia
  case hend=>
   rintro Z ⟨⟨x3,rfl⟩,hc⟩;refine Zu ⟨⟨_,_,_,rfl⟩,λj' hj' i' hi' s' t' e1 e2=>?_⟩;rcases JX.mp hj' with hj'|rfl
   .exact hb j' hj' i' hi' s' t' e1 e2
   .rw[ht]at e2
    cases e2;exact hc i' (by rw[XG];lia) s' e1
 case hend=>rintro Z ⟨⟨x1,x2,x3,rfl⟩,hb⟩;refine KB (KG (ZJ Kb (Qa rfl)) ⟨_,rfl,[],rfl,.inl ⟨λj hj=>hb j (by rw[Y1,Qb];exact hj),rfl⟩⟩)
noncomputable def X8(n:Nat)(s:Stp):Option (Nat×wg):=s.w.map λi=>(i,Y3 n s.b)
noncomputable def YM(p:Nat×wg):D:=.tuple [.int (p.1:Nat),Kk p.2]
noncomputable def rot(b:Nat)(r:List Stp):List Stp:=r.drop b++r.take b
theorem Hm(b)(r):(rot b r).Perm r:=by have:=List.perm_append_comm (l₁:=r.drop b) (l₂:=r.take b);rw[JU]at this;exact this
theorem vv{n:Nat}{r:List Stp}(hl:r.length<=1000):∃b,b<=r.length/\((∃s,r[b]?=O s/\s.a=n)∨(b=0/\∀s∈r,s.a≠n))/\Wy [.int (n:Nat),.list (r.map Ks)]=O (.list (((rot b r).filterMap (X8 n)).map YM)):=by
 have key:∃d,Wy [.int (n:Nat),.list (r.map Ks)]=O d/\∃b,b<=r.length/\((∃s,r[b]?=O s/\s.a=n)∨(b=0/\∀s∈r,s.a≠n))/\d=.list (((rot b r).filterMap (X8 n)).map YM):=by
  refine WI  rfl ?_;unfold Sj;refine Kn (KH U8 (Qa v3) v3) ?_;apply KD;apply ZX (λk Z=>∃(b:Nat)(x3 x4:Option Sl),Z=[pb (.int (n:Nat)),pb (.list (r.map Ks)),pb (.int (b:Nat)),x3,x4,v4,v4,v4,v4,v4]/\b<=r.length/\((∃s,r[b]?=O s/\s.a=n)∨(b=0/\∀s∈r.take k,s.a≠n)))
  case h1=>exact WN (U6 (U2 v3) Kb) WT
  case h0=>exact⟨0,_,_,rfl,J6 _,.inr ⟨rfl,λs h=>by rw[List.take_zero]at h;cases h⟩⟩
  case hst=>
   rintro k d Z hk ⟨b,x3,x4,rfl,yn,hb⟩;obtain⟨z,hz,rfl⟩:=Wb hk;rw[Qf]at hz;cases ht:r[k]? with
   |none=>rw[ht]at hz;cases hz
   |some t=>
   rw[ht]at hz;cases hz;have wO:k<r.length:=(Qg.mp ht).1;rw[QS];refine⟨_,KJ v3 (Kh (Ka (Qa v3) v3) (Kh (Ka (Qa v3) v3) KL)),?_⟩;unfold Lf;have i0:oIx (Ks t) (.int 0)=O (.int t.a):=Z7 (j:=0) v3;apply KE
   case h1=>exact Kf (Ko v3 U8 i0) (U2 v3) YL
   case h2=>intro hh;have hh:(t.a:Int)=(n:Int):=Qa hh;exact Zz (KH (U2 v3) (Qa v3) v3) (Zu ⟨k,_,_,rfl,by lia,.inl ⟨t,ht,by lia⟩⟩)
   case h3=>
    intro hh;have hh:¬(t.a:Int)=(n:Int):=Jp hh;refine KO (Zu ⟨b,_,_,rfl,yn,?_⟩);rcases hb with hb|⟨hb,hc⟩
    .exact .inl hb
    .refine .inr ⟨hb,λs hs=>?_⟩
     rw[J4,ht]at hs;rcases QW.mp hs with hs|hs
     .exact hc s hs
     .rw[QM.mp hs];lia
  case hend=>
   rintro Z ⟨b,x3,x4,rfl,yn,hb⟩;refine KB ?_;have hb':(∃s,r[b]?=O s/\s.a=n)∨(b=0/\∀s∈r,s.a≠n):=by rw[Y1,Qb,Jj]at hb;exact hb
   refine Kn (Yb (WO Kb (Qa v3)) (Qa v3) v3) ?_;have c1:YI (.list (r.map Ks)) (O (b:Int)) v4=O (.list ((r.drop b).map Ks)):=by rw[TD,AQ (by rw[Qb];exact yn),Uy]
   have c2:YI (.list (r.map Ks)) v4 (O (b:Int))=O (.list ((r.take b).map Ks)):=by rw[TD,DG (by rw[Qb];exact yn),Uh]
   have c3:Kg (.list ((r.drop b).map Ks)) (.list ((r.take b).map Ks))=O (.list ((rot b r).map Ks)):=by rw[Xg (by rw[Qb,Qb,Jl,Q6];lia)];unfold rot;rw[Qt]
   apply KD;apply ZX (λk Z=>∃x6 x7 x8 x9,Z=[pb (.int (n:Nat)),pb (.list (r.map Ks)),pb (.int (b:Nat)),x3,x4,O (.own ((((rot b r).take k).filterMap (X8 n)).map YM)),x6,x7,x8,x9])
   case h1=>exact ZD (Kf (Xy (U2 v3) (YT (U2 v3)) U8 c1) (Xy (U2 v3) U8 (YT (U2 v3)) c2) c3) YB
   case h0=>exact⟨_,_,_,_,rfl⟩
   case hst=>
    rintro k d Z hk ⟨x6,x7,x8,x9,rfl⟩;rw[Qf]at hk;cases hq:(rot b r)[k]? with
    |none=>rw[hq]at hk;cases hk
    |some s=>
    rw[hq]at hk;cases hk;have wO:k<(rot b r).length:=(Qg.mp hq).1;have wM:(rot b r).length=r.length:=(Hm b r).length_eq;have wF:(rot b r).take (k+1)=(rot b r).take k++[s]:=by rw[J4,hq];rfl
    refine⟨_,KJ v3 (Kh (Ka (Qa v3) v3) (Kh (Ka (Qa v3) v3) (Kh (Ka (Qa v3) v3) (Kh (Ka (Qa v3) v3) KL)))),?_⟩;unfold Lg
    have hsz:((((rot b r).take k).filterMap (X8 n)).map YM).length<1000000:=by
     rw[Qb];have:=Jm (X8 n) ((rot b r).take k);rw[Q6]at this
     lia
    cases hw:s.w with
    |none=>
     apply KE
     case h1=>exact KY (k:=λd=>!isNon d) (x:=Xq v4) (U2 v3)
     case h2=>intro hh;cases hh
     case h3=>
      intro _;refine KO (Zu ⟨O (.pub (.int s.a)),pb (.int s.b),pb (.int s.g),pb (Xq v4),?_⟩);rw[wF,List.filterMap_append];have:[s].filterMap (X8 n)=[]:=by unfold X8;rw[JG,hw];rfl
      rw[this,Jc];rfl
    |some i=>
     apply KE
     case h1=>exact KY (k:=λd=>!isNon d) (x:=Xq (O i)) (U2 v3)
     case h3=>intro hh;cases hh
     case h2=>
      intro _
      have htest:∀Z:U7,Z[7]?=O (O (.pub (.int (s.b:Int))))->Z[0]?=O (O (.pub (.int (n:Int))))->mIf (K6 oEq 7 (UZ 0)) (U3 .none) (UZ 7) Z=.ok (Kk (Y3 n s.b)) Z:=λZ h7 h0=>by
       unfold Y3;by_cases z:s.b=n
       .rw[Qq z]
        exact MJ (Yk h7 (U2 h0) (by rw[YL,QJ (by rw[z])])) U8
       .rw[QB z]
        exact OM (Yk h7 (U2 h0) (by rw[YL,QG (by lia)])) (U2 h7)
      refine Zz (Xj v3 (ZE (U6 (U2 v3) (U6 (htest _ v3 v3) Kb)) (Qa v3)) v3 hsz v3) (Zu ⟨O (.pub (.int s.a)),pb (.int s.b),pb (.int s.g),pb (Xq (O i)),?_⟩);rw[wF,List.filterMap_append];have:[s].filterMap (X8 n)=[(i,Y3 n s.b)]:=by unfold X8;rw[JG,hw];rfl
      rw[this,Qt];rfl
   case hend=>rintro Z ⟨x6,x7,x8,x9,rfl⟩;refine KB (KG (Yc rfl rfl) ⟨_,rfl,b,yn,hb',?_⟩);rw[Qb,Jj]
 obtain⟨d,e,b,h1,h2,rfl⟩:=key;exact⟨b,h1,h2,e⟩
theorem NS(n):∀(R:List Stp)(d),(R.filterMap (X8 n)).foldl (λd p=>d.set p.1 p.2) d=R.foldl (app n) d
 |[],d=>rfl
 |s::R,d=>by
  rw[Ua,JG];unfold X8 app;cases s.w with
  |none=>exact NS n R d
  |some i=>exact NS n R _
theorem qm{ws:LO}{tk:List (Nat×wg)}(h:∀p∈tk,p.1<ws.length):VM [Kz ws,.list (tk.map YM)]=O (Kz (tk.foldl (λd p=>d.set p.1 p.2) ws)):=by
 refine Ze  rfl ?_;unfold Sr;refine Kn (Yb (Rq v3 (rfl)) (Qa v3) v3) ?_
 have hlen:∀(R:List (Nat×wg))(d:LO),(R.foldl (λd p=>d.set p.1 p.2) d).length=d.length:=λR=>by
  induction R with
  |nil=>intro d;rfl
  |cons p R ih=>intro d;rw[Ua,ih,QZ]
 apply KD;apply ZX (λk Z=>∃x3 x4,Z=[pb (Kz ws),O _,O (.own (((tk.take k).foldl (λd p=>d.set p.1 p.2) ws).map Kk)),x3,x4])
 case h1=>exact ZD (U2 v3) YB
 case h0=>exact⟨_,_,rfl⟩
 case hst=>
  rintro k d Z hk ⟨x3,x4,rfl⟩;rw[Qf]at hk;cases hq:tk[k]? with
  |none=>rw[hq]at hk;cases hk
  |some p=>
  rw[hq]at hk;cases hk;have hpl:=h p (Qr hq);have wF:tk.take (k+1)=tk.take k++[p]:=by rw[J4,hq];rfl
  refine⟨_,KJ v3 (Kh (Ka (Qa v3) v3) (Kh (Ka (Qa v3) v3) KL)),?_⟩;unfold Ld;refine Zz (Tw (U2 v3) v3 (U2 v3) v3 ⟨Int.natCast_nonneg _,by rw[Qb,hlen];lia⟩ v3) (Zu ⟨O (.pub (.int (p.1:Nat))),pb (Kk p.2),?_⟩);rw[wF,List.foldl_append];show [_,_,O _,_,_]=[_,_,O (Sl.own ((((tk.take k).foldl (λd p=>d.set p.1 p.2) ws).set p.1 p.2).map Kk)),_,_];rw[Qz,Uv]
 case hend=>rintro Z ⟨x3,x4,rfl⟩;refine KB (KG (Yc rfl rfl) ?_);rw[Qb,Jj];rfl
def Re(cs:wc)(f:Int×Int->Int)(qs:LP)(ws:LO):Prop:=∀p,p<cs.length+1->(ent (Zd (cs.length+1) (Y8 cs f qs ws) (cs.length+1)) p).2.length≠cs.length+1
structure Pf(cs:wc)(f:Int×Int->Int)(qs:LP)(ws:LO)(r:List Stp)(b:Nat):Prop where
 rnd:∃x,Path (Y8 cs f qs ws) x r x
 nd:(r.map Stp.a).Nodup
 pos:0<KN r
 bl:b<=r.length
 bat:(∃s,r[b]?=O s/\s.a=cs.length)∨(b=0/\∀s∈r,s.a≠cs.length)
noncomputable def Yt(n b:Nat)(r:List Stp):List (Nat×wg):=(rot b r).filterMap (X8 n)
theorem Rl(s)(R):KN (s::R)=s.g+KN R:=by show KN ([s]++R)=_;rw[Vb,Ro]
theorem ql  (h:u.Perm v):KN u=KN v:=by
 induction h with
 |nil=>rfl
 |cons x _ ih=>rw[Rl,Rl,ih]
 |swap x y l=>rw[Rl,Rl,Rl,Rl];lia
 |trans _ _ ih1 ih2=>simp_all
theorem qk  (h:∀s∈R,s.g=0):KN R=0:=by
 induction R with
 |nil=>rfl
 |cons s R ih=>
  have e:KN (s::R)=s.g+KN R:=by show KN ([s]++R)=_;rw[Vb,Ro]
  rw[e,h s Qo,ih λx hx=>h x (Qk _ hx)];rfl
section
variable{cs:wc}{ls:L3}{ws:LO}{V:Int->Int->Int}{qs:LP}{f:Int×Int->Int}{m:Nat}
theorem Pf.does(hp:Pairs cs.length m qs)(hd:ZH cs qs m ws){r}{b:Nat}(h:Pf cs f qs ws r b):ZH cs qs m ((Yt cs.length b r).foldl (λd p=>d.set p.1 p.2) ws)/\Ku f 0 ((Yt cs.length b r).foldl (λd p=>d.set p.1 p.2) ws)=Ku f 0 ws+KN r/\Yt cs.length b r≠[]/\∀p∈Yt cs.length b r,p.1<ws.length:=by
 obtain⟨x,hx⟩:=h.rnd;have hin   :=λs hs=>P1 hp hd s (hx.mem s hs);have pr:=Hm b r;have yM   :=λs hs=>hin s (pr.mem_iff.mp hs);have ndR   :=(pr.map Stp.a).nodup_iff.mpr h.nd;have pbR   :=((pr.map Stp.b).trans (kr hx)).trans (pr.map Stp.a).symm
 obtain⟨h1,h2⟩:=AC hp hd yM ndR pbR;unfold Yt;rw[NS];refine⟨h1,by rw[h2,ql pr],λz=>?_,λp hpm=>?_⟩
 .have   :=qk λs hs=>by
   have hw   :=by have:=List.filterMap_eq_nil_iff.mp z s (pr.mem_iff.mpr hs);exact this
   cases hin s hs with
   |mv _ _ _=>cases hw
   |left _ _=>rfl
   |give _=>rfl
  have:=h.pos
  lia
 .obtain⟨s,hs,e⟩:=Jy.mp hpm
  cases yM s hs with
  |@mv i o o' hw _ _=>cases e;exact(Qg.mp hw).1
  |left _ _=>cases e
  |give _=>cases e
theorem Fs(g:Good cs ls)(hm:ws.length=ls.length)(hp:Pairs cs.length ws.length qs)(hd:ZH cs qs ws.length ws)(hq1:qs.length<=500):∃d,Wx [Kw cs ls,.list (qs.map (ZZ V)),Kz ws]=O d/\((d=.list []/\Re cs (Kj V) qs ws) ∨ ∃r b,d=.list ((Yt cs.length b r).map YM)/\Pf cs (Kj V) qs ws r b):=by
 refine WI  rfl ?_;unfold Sh;have c6:=g.c6;have l7:=g.l7;have wY:Kr [.list (cs.map int)]=O (.int cs.length):=by rw[Zw,Qb]
 have hS:∀s∈Y8 cs (Kj V) qs ws,s.a<cs.length+1/\s.b<cs.length+1:=λs hs=>(P1 hp hd s hs).lt hp hd;have hwd:=Gz hS (by lia)
 have yi:=Fy (V:=V) g hm hp hd (by lia);refine Kn (KH (ZI (U6 (Ko v3 U8 SO) Kb) wY) (Qa v3) v3) ?_;have hadd:Kg (.int (cs.length:Int)) (.int 1)=O (.int ((cs.length+1:Nat):Int)):=by rw[Zf];rfl
 apply KD;apply ZX (λk Z=>(∃x4 x5,Z=[pb (Kw cs ls),pb (.list (qs.map (ZZ V))),pb (Kz ws),pb (.int cs.length),x4,x5])/\∀p<k,(ent (Zd (cs.length+1) (Y8 cs (Kj V) qs ws) (cs.length+1)) p).2.length≠cs.length+1)
 case h1=>exact ZD (Kx (U6 (Kf (U2 v3) U8 hadd) (U6 (Kx (U6 (U2 v3) (U6 (U2 v3) (U6 (U2 v3) Kb))) v3 yi) Kb)) v3 hwd) YB
 case h0=>exact⟨⟨_,_,rfl⟩,λp h=>absurd h (Ud _)⟩
 case hst=>
  rintro k d Z hk ⟨⟨x4,x5,rfl⟩,hb⟩;rw[Qf]at hk;cases hq:(Zd (cs.length+1) (Y8 cs (Kj V) qs ws) (cs.length+1))[k]? with
  |none=>rw[hq]at hk;cases hk
  |some e=>
  rw[hq]at hk;cases hk;have he:ent (Zd (cs.length+1) (Y8 cs (Kj V) qs ws) (cs.length+1)) k=e:=by unfold ent;rw[Qh,hq];rfl
  refine⟨_,KJ v3 (Kh (Ka (Qa v3) v3) (Kh (Ka (Qa v3) v3) KL)),?_⟩;unfold Le;have hlw:Kr [.list (e.2.map Ks)]=O (.int e.2.length):=by rw[Zw,Qb]
  apply KE
  case h1=>exact Kf (Zq v3 hlw) (Kf (U2 v3) U8 hadd) YL
  case h2=>
   intro hh;have hh:((e.2.length:Nat):Int)=((cs.length+1:Nat):Int):=Qa hh;have hlen:e.2.length=cs.length+1:=by lia
   obtain⟨d,hrw,r,rfl,hr⟩:=vZ (w:=e.2) (by lia);have yF:=R7 hS (cs.length+1) k;rw[he]at yF;obtain⟨q,yb⟩:=yF.1.path;rcases hr with ⟨hno,rfl⟩|⟨i,j,hra,rfl⟩
   .exact absurd hno (AD hS yb (by lia) (Uu _))
   .have hlr:((e.2.take (j+1)).drop i).length<=1000:=by rw[Jl,Q6];lia
    obtain⟨b,yn,hbat,hway⟩:=vv (n:=cs.length) hlr;have hrg:=kt hS (Uu _) (p:=k) (by rw[he];exact hlen) (by rw[he];exact hra);rw[he]at hrg;obtain⟨x,hx,hgp⟩:=hrg;exact KG (Kx (U6 (U2 v3) (U6 (Kx (U6 (U2 v3) Kb) v3 hrw) Kb)) v3 hway) (RZ (Yo ⟨_,rfl,.inr ⟨_,b,rfl,⟨⟨x,hx⟩,xQ yb hra,hgp,yn,hbat⟩⟩⟩))
  case h3=>
   intro hh;refine KO (Zu ⟨⟨_,_,rfl⟩,λp hpk=>?_⟩);rcases JX.mp hpk with hpk|rfl
   .exact hb p hpk
   .rw[he];lia
 case hend=>rintro Z ⟨⟨x4,x5,rfl⟩,hb⟩;refine KB (KG (ZJ Kb (Qa rfl)) ⟨_,rfl,.inl ⟨rfl,λp hpn=>hb p ?_⟩⟩);rw[Qb,Rs hS];exact hpn
theorem La{M:Int}(yo:0<=M)(hM:∀q∈qs,f q<=M):∀(ws)(k:Nat),(∀(i:Nat) t,ws[i]?=O (O t)->(((k+i:Nat):Int),t)∈qs)->Ku f k ws<=ws.length*M
 |[],k,_=>by show(0)<=((0:Nat))*M;rw[show(((0:Nat)):Int)=0 from rfl,Int.zero_mul];exact Ja _
 |o::ws,k,h=>by
  have ih:=La yo hM ws (k+1) λi t e=>by have:=h (i+1) t (by simpa using e);rw[show k+1+i=k+(i+1)by lia];exact this
  have h0:Kv f k o<=M:=by
   cases o with
   |none=>exact yo
   |some t=>exact hM _ (by have:=h 0 t v3;exact this)
  rw[Qv];show Kv f k o+Ku f (k+1) ws<=_
  lia
theorem Gy(g:Good cs ls)(hm:m=ls.length)(hp:Pairs cs.length m qs)(hq1:qs.length<=500){M:Int}(yo:0<=M)(hM:∀q∈qs,Kj V q<=M):∀(N:Nat)(ws:LO)(d:D),ZH cs qs m ws->((d=.list []/\Re cs (Kj V) qs ws) ∨ ∃r b,d=.list ((Yt cs.length b r).map YM)/\Pf cs (Kj V) qs ws r b) ->
  (m*M-Ku (Kj V) 0 ws<N)->∃wU,ZH cs qs m wU/\Re cs (Kj V) qs wU/\W0 (PZ (UZ 3)) PX N [pb (Kw cs ls),pb (.list (qs.map (ZZ V))),pb (Kz ws),pb d]=.nx [pb (Kw cs ls),pb (.list (qs.map (ZZ V))),pb (Kz wU),pb (.list [])]
 |0,ws,d,hd,_,hN=>by have:=La yo hM ws 0 (λi t e=>by rw[QS];exact hd.wish i t e);rw[hd.len]at this;exact absurd hN (by lia)
 |N+1,ws,d,hd,hg,hN=>by
  rcases hg with ⟨rfl,hst⟩|⟨r,b,rfl,hgr⟩
  .refine⟨ws,hd,hst,?_⟩
   unfold W0;rfl
  .obtain⟨h1,h2,h3,h4⟩:=hgr.does hp hd
   generalize hws':(Yt cs.length b r).foldl (λd p=>d.set p.1 p.2) ws=wU at h1 h2;have wx:=qm h4;rw[hws']at wx;obtain⟨d',hgw,hg'⟩:=Fs (V:=V) (ws:=wU) g (by rw[h1.len,hm]) (by rw[h1.len];exact hp) (by rw[h1.len];exact h1) hq1;obtain⟨ws2,k1,k2,k3⟩:=Gy g hm hp hq1 yo hM N wU d' h1 hg' (by have:=hgr.pos;lia);refine⟨ws2,k1,k2,?_⟩;unfold W0;rw[qV  (U2 v3)]
   have hne:(!((Yt cs.length b r).map YM).isEmpty)=v5:=by
    cases hw:Yt cs.length b r with
    |nil=>exact absurd hw h3
    |cons _ _=>rfl
   dsimp only;rw[Qq hne];have hb:Ho PX [pb (Kw cs ls),pb (.list (qs.map (ZZ V))),pb (Kz ws),pb (.list ((Yt cs.length b r).map YM))] (λo=>o=.nx [pb (Kw cs ls),pb (.list (qs.map (ZZ V))),pb (Kz wU),pb d']):=by unfold PX;refine Kn (KH (Kx (U6 (U2 v3) (U6 (U2 v3) Kb)) v3 wx) (Qa v3) v3) ?_;exact Zz (KH (Kx (U6 (U2 v3) (U6 (U2 v3) (U6 (U2 v3) Kb))) v3 hgw) (Qa v3) v3) v3
   rw[hb.out];exact k3
theorem kq(g:Good cs ls)(hp:Pairs cs.length ls.length qs)(hq1:qs.length<=500){M:Int}(yo:0<=M)(hM:∀q∈qs,Kj V q<=M)(hF:ls.length*M<10 ^ 60):∃d,VG [Kw cs ls,.list (qs.map (ZZ V))]=O d/\∃ws,d=Kz ws/\ZH cs qs ls.length ws/\Re cs (Kj V) qs ws:=by
 refine WI  rfl ?_;unfold Sg;have l7:=g.l7;have wv:Kr [.list (ls.map KI)]=O (.int (ls.length:Nat)):=by rw[Zw,Qb]
 let ws0:LO:=UL ls.length v4
 have hmul:KR (.list [.none]) (.int (ls.length:Nat))=O (Kz ws0):=by rw[PV (by lia)];show _=O (UM _);rw[List.map_replicate];rfl
 have hd0:ZH cs qs ls.length ws0:=⟨by show(UL _ _).length=_;rw[QR],(λi t h=>by
  rw[Qy]at h;split at h
  .cases h
  .cases h),λk c e=>by
  have h0:ws0.count (O (k:Int))=0:=List.count_eq_zero.mpr λh=>by cases (List.mem_replicate.mp h).2
  rw[h0];have:=g.c7 c (Qr e)
  show(0:Int)<=c
  lia⟩
 refine Kn (KH (Kf (ZJ (U6 U8 Kb) (Qa v3)) (ZI (U6 (Ko v3 U8 WX) Kb) wv) hmul) (Qa v3) v3) ?_;obtain⟨d',hgw,hg'⟩:=Fs (V:=V) (ws:=ws0) g hd0.len (by rw[hd0.len];exact hp) (by rw[hd0.len];exact hd0) hq1;refine Kn (KH (Kx (U6 (U2 v3) (U6 (U2 v3) (U6 (U2 v3) Kb))) v3 hgw) (Qa v3) v3) ?_
 have h0:∀(n k:Nat),Ku (Kj V) k (UL n v4)=0:=λn=>by
  induction n with
  |zero=>intro k;rfl
  |succ n ih=>intro k;rw[JO];show 0+Ku (Kj V) (k+1) (UL n v4)=0;rw[ih];rfl
 have hfu:ls.length*M-Ku (Kj V) 0 ws0<(WD:Nat):=by
  have e:Ku (Kj V) 0 ws0=0:=h0 _ _;have e2:((WD:Nat):Int)=10 ^ 60:=by unfold WD;rfl
  rw[e,e2]
  lia
 obtain⟨wU,k1,k2,k3⟩:=Gy g v3 hp hq1 yo hM WD ws0 d' hd0 hg' hfu;refine Kn k3 ?_;exact KG (U2 v3) ⟨_,rfl,wU,rfl,k1,k2⟩
end
section
variable{cs:wc}{ls:L3}{as ps:wc}
theorem D4(g:Good cs ls):(KP 0 ls).length<=42:=by rw[(R6 ls 0).length_eq];exact PK g
end
theorem Hl  {ps:wc}:∀(ws)(as:wc)(k:Nat),as.length=ws.length->(∀a∈as,0<=a)->(∀(i:Nat) t,ws[i]?=O (O t)->f (((k+i:Nat):Int),t)<=as.getD i 0+ps.getD t.toNat 0)->Ku f k ws<=as.sum+pz ps ws
 |[],[],k,_,_,_=>by show(0:Int)<=0+0;lia
 |o::ws,a::as,k,hl,ha,h=>by
  have ih:=Hl (f:=f) (ps:=ps) ws as (k+1) (by simpa using hl) (λx hx=>ha x (List.mem_cons_of_mem _ hx)) λi t e=>by have:=h (i+1) t (by simpa using e);rw[show k+1+i=k+(i+1)by lia];simpa using this
  have h0:=ha a Qo;cases o with
  |none=>
   show 0+Ku f (k+1) ws<=a+as.sum+(0+pz ps ws)
   lia
  |some t=>
   have h1:=h 0 t v3;have h1:f ((k:Int),t)<=a+ps.getD t.toNat 0:=by simpa using h1
   show f ((k:Int),t)+Ku f (k+1) ws<=a+as.sum+(ps.getD t.toNat 0+pz ps ws)
   lia
 |[],_::_,_,hl,_,_=>by cases hl
 |_::_,[],_,hl,_,_=>by cases hl
section
variable{cs:wc}{ls:L3}{ws:LO}{qs:LP}{f:Int×Int->Int}{m:Nat}{as ps:wc}
theorem qi(hp:Pairs cs.length m qs)(hd:ZH cs qs m ws)(ok:OkP cs.length m (λa b=>f (a,b)) qs 1 as ps):Ku f 0 ws<=RD cs as ps:=by
 have h1:=Hl (f:=f) (ps:=ps) ws as 0 (by rw[ok.la,hd.len]) ok.aa λi t e=>by have:=ok.le _ (hd.wish i t e);rw[QS];rw[Int.one_mul]at this;exact this
 have yy:∀t,O t∈ws->0<=t/\t<cs.length:=λt ht=>by obtain⟨i,hi⟩:=List.mem_iff_getElem?.mp ht;have:=hp.lo _ (hd.wish i t hi);exact⟨this.2.2.1,this.2.2.2⟩
 rw[NT ws yy]at h1;unfold RD;rw[Ft _ _ ok.lp]
 have h2   :=PH _ λk hk=>by
  have hc:cs[k]?=O (cs.getD k 0):=by rw[Qh,Qd hk];rfl
  have hk2:0<=ps.getD k 0:=by rw[Qh,Qd (by rw[ok.lp];exact hk)];exact ok.pp _ (Jq _)
  exact Jr (hd.cop k _ hc) hk2
 lia
theorem ko(hp:Pairs cs.length m qs)(hd:ZH cs qs m ws)(st:Re cs f qs ws){us}(hu:ZH cs qs m us):Ku f 0 us<=Ku f 0 ws:=by obtain⟨ok,e⟩:=Az hp hd (P1 hp hd) (jh hp hd)  (λ_=>rfl) st;have:=qi hp hu ok;simp_all
end
section
variable{cs:wc}{ls:L3}{ws:LO}{qs:LP}{V:Int->Int->Int}
noncomputable def prW(cs:wc)(f:Int×Int->Int)(qs:LP)(ws:LO)(p:Nat):Int:=(ent (Zd (cs.length+1) (Y8 cs f qs ws) (cs.length+1)) p).1
theorem qh(g:Good cs ls)(hp:Pairs cs.length ls.length qs)(hd:ZH cs qs ls.length ws)(hq1:qs.length<=500):VF [Kw cs ls,.list (qs.map (ZZ V)),Kz ws]=O (.list (((UK cs.length).map (prW cs (Kj V) qs ws)).map int)):=by
 refine Ze  rfl ?_;unfold Sf;have c6:=g.c6;have hS:∀s∈Y8 cs (Kj V) qs ws,s.a<cs.length+1/\s.b<cs.length+1:=λs hs=>(P1 hp hd s hs).lt hp hd;have wY:Kr [.list (cs.map int)]=O (.int cs.length):=by rw[Zw,Qb]
 have has:Xu [Kw cs ls,.list (qs.map (ZZ V)),Kz ws]=O (.list ((Y8 cs (Kj V) qs ws).map Ks)):=Fy g hd.len (by rw[hd.len];exact hp) (by rw[hd.len];exact hd) (by lia);have hwd:=Gz hS (by lia);generalize hT:Zd (cs.length+1) (Y8 cs (Kj V) qs ws) (cs.length+1)=T at hwd;have hTl:T.length=cs.length+1:=by rw[←hT];exact Rs hS _
 refine Kn (KH (ZI (U6 (Ko v3 U8 SO) Kb) wY) (Qa v3) v3) ?_;refine Kn (KH (Kx (U6 (Kf (U2 v3) U8 Zf) (U6 (Kx (U6 (U2 v3) (U6 (U2 v3) (U6 (U2 v3) Kb))) v3 has) Kb)) v3 hwd) (Qa v3) v3) ?_
 have hcd:DL.cutD (T.map Yy) v4 (O (cs.length:Int))=(T.take cs.length).map Yy:=by
  have h2:HT.sIx (T.map Yy).length (T.map Yy).length (O (cs.length:Int))=cs.length:=by
   rw[Qb,hTl];unfold HT.sIx;simp
   lia
  unfold DL.cutD;rw[h2,show HT.sIx (T.map Yy).length 0 v4=0 from rfl,List.drop_zero,Nat.sub_zero,Uh]
 have wQ:YI (.list (T.map Yy)) v4 (O (cs.length:Int))=O (.list ((T.take cs.length).map Yy)):=by rw[TD,hcd]
 have hc:Zp (gT 2 (gNC (gN 5) (gNC (gN 6) (gN0)))) (U3 v5) (UZ 5) ((T.take cs.length).map Yy) (KT [pb (Kw cs ls),pb (.list (qs.map (ZZ V))),pb (Kz ws),pb (.int cs.length),pb (.list (T.map Yy))]++UL 2 v4) []=O ([]++((UK cs.length).map (prW cs (Kj V) qs ws)).map int):=by
  refine Vd (λZ=>∃x y,Z=[pb (Kw cs ls),pb (.list (qs.map (ZZ V))),pb (Kz ws),pb (.int cs.length),pb (.list (T.map Yy)),x,y]) _ _ _ _ ?_ ?_ ⟨v4,v4,rfl⟩ ?_
  .rw[Qb,Qb,Qb,Q6,Qx];lia
  .rintro i d e hd' he Z ⟨x,y,rfl⟩
   rw[Qf,Qf]at he
   have wt:i<cs.length:=by
    have:=(Qg.mp hd').1;rw[Qb,Q6]at this
    lia
   rw[QU wt]at he;cases he;rw[Qf,List.getElem?_take_of_lt wt,Qd (by lia)]at hd';cases hd';have hv:prW cs (Kj V) qs ws i=T[i].1:=by unfold prW ent;rw[hT,Qh,Qd (by lia)];rfl
   rw[hv];exact⟨_,KJ v3 (Kh (Ka (Qa v3) v3) (Kh (Ka (Qa v3) v3) KL)),rfl,U2 v3,_,_,rfl⟩
  .rw[QC,Qb,Q6];lia
 exact KG (KY (Yj (ZD (Xy (U2 v3) U8 (YT (U2 v3)) wQ) YB) hc)) v3
theorem D3{n m:Nat}(hp:Pairs n m qs)(hm:m<=1000)(P:Nat->Int):VE [.int (m:Nat),.list (qs.map (ZZ V)),.list (((UK n).map P).map int)]=O (.list (((UK m).map λi:Nat=>ZY (Kj V) P qs (i:Int)).map int)):=by
 refine Ze  rfl ?_;unfold Se;refine Kn (Yb (LQ (n:=m) (ZJ (U6 U8 Kb) (Qa v3)) (U2 v3) hm) (Qa v3) v3) ?_;apply KD;apply ZX (λk Z=>∃x4 x5 x6,Z=[pb (.int (m:Nat)),pb (.list (qs.map (ZZ V))),pb (.list (((UK n).map P).map int)),O (.own (((UK m).map λi:Nat=>ZY (Kj V) P (qs.take k) (i:Int)).map int)),x4,x5,x6])
 case h1=>exact ZD (U2 v3) YB
 case h0=>
  refine⟨v4,v4,v4,?_⟩
  have e:(UL m (int 0))=((UK m).map λi:Nat=>ZY (Kj V) P (qs.take 0) (i:Int)).map int:=by
   rw[QT];apply List.ext_getElem
   .rw[QR,Qb,Qx]
   .intro i h1 h2
    rw[List.getElem_replicate,J5];rfl
  rw[←e];rfl
 case hst=>
  rintro k d Z hk ⟨x4,x5,x6,rfl⟩;rw[Qf]at hk;cases hq:qs[k]? with
  |none=>rw[hq]at hk;cases hk
  |some q=>
  rw[hq]at hk;cases hk;have hb:=hp.lo q (Qr hq);obtain⟨⟨a,ha⟩,⟨t,ht⟩⟩:(∃a:Nat,q.1=a)/\∃t:Nat,q.2=t:=⟨⟨q.1.toNat,by lia⟩,⟨q.2.toNat,by lia⟩⟩
  have ham:a<m:=by lia
  have htn:t<n:=by lia
  refine⟨_,KJ v3 (Kh (Ka (Qa v3) v3) (Kh (Ka (Qa v3) v3) (Kh (Ka (Qa v3) v3) KL))),?_⟩;unfold Ln;have h1:oIx (.list (((UK m).map λi:Nat=>ZY (Kj V) P (qs.take k) (i:Int)).map int)) (.int q.1)=O (.int (ZY (Kj V) P (qs.take k) (a:Int))):=by rw[ha];exact Z7 (by rw[Qf,Qf,QU ham];rfl)
  have h2:oIx (.list (((UK n).map P).map int)) (.int q.2)=O (.int (P t)):=by rw[ht];exact Z7 (by rw[Qf,Qf,QU htn];rfl)
  refine Zz (Tw (ZI (U6 (W3 v3 (U2 v3) v3 h1) (U6 (Kf (U2 v3) (Ko v3 (U2 v3) h2) Y9) Kb)) Nj) v3 (U2 v3) v3 ⟨hb.1,by rw[Qb,Qb,Qx];exact hb.2.1⟩ v3) (Zu ⟨O (.pub (.int q.1)),pb (.int q.2),pb (.int (V q.1 q.2)),?_⟩);have e:∀i:Nat,ZY (Kj V) P (qs.take (k+1)) (i:Int)=if q.1=(i:Int)then max (ZY (Kj V) P (qs.take k) (i:Int)) (Kj V q-P q.2.toNat)else ZY (Kj V) P (qs.take k) (i:Int):=λi=>by unfold ZY;rw[List.take_add_one,hq,List.foldl_append];rfl
  have e2:((((UK m).map λi:Nat=>ZY (Kj V) P (qs.take k) (i:Int)).map int).set q.1.toNat (.int (if V q.1 q.2-P t > ZY (Kj V) P (qs.take k) (a:Int)then V q.1 q.2-P t else ZY (Kj V) P (qs.take k) (a:Int))))=((UK m).map λi:Nat=>ZY (Kj V) P (qs.take (k+1)) (i:Int)).map int:=by
   apply List.ext_getElem
   .rw[QZ,Qb,Qb,Qb,Qb]
   .intro i h1 h2
    rw[List.getElem_set,J5,J5,J5,J5,List.getElem_range,e];by_cases hia:a=i
    .subst hia
     rw[Qq (by lia),Qq ha,show q.2.toNat=t by lia]
     congr 1
     show _=max _ (V q.1 q.2-P t)
     split<;>lia
    .rw[QB (by lia),QB (by lia)]
  rw[←e2];rfl
 case hend=>rintro Z ⟨x4,x5,x6,rfl⟩;refine KB (KG (Yc rfl rfl) ?_);rw[Qb,Jj]
noncomputable abbrev askL(m:Nat)(f:Int×Int->Int)(P:Nat->Int)(qs:LP):wc:=(UK m).map λi:Nat=>ZY f P qs (i:Int)
theorem vq(g:Good cs ls)(hp:Pairs cs.length ls.length qs)(hd:ZH cs qs ls.length ws)(hq1:qs.length<=500):VD [Kw cs ls,.list (qs.map (ZZ V)),Kz ws]=O (papD 1 (askL ls.length (Kj V) (prW cs (Kj V) qs ws) qs) ((UK cs.length).map (prW cs (Kj V) qs ws))):=by
 refine Ze  rfl ?_;have l7:=g.l7;have wv:Kr [.list (ls.map KI)]=O (.int ls.length):=by rw[Zw,Qb]
 refine Kn (KH (Kx (U6 (U2 v3) (U6 (U2 v3) (U6 (U2 v3) Kb))) v3 (qh g hp hd hq1)) (Qa v3) v3) ?_;exact KG (ZE (U6 U8 (U6 (Kx (U6 (ZI (U6 (Ko v3 U8 WX) Kb) wv) (U6 (U2 v3) (U6 (U2 v3) Kb))) v3 (D3 hp (by omega) _)) (U6 (U2 v3) Kb))) (Qa v3)) v3
theorem Om(g:Good cs ls):Pairs cs.length ls.length (KP 0 ls) where
 nd:=Fu ls 0 λrs hr=>(g.rk rs hr).once
 lo:=λq hq=>by have:=Bx g q hq;simp_all
theorem vY{o:Ord}{old}{ts:wc}(g:Good cs ls)(ga:YA cs.length ls.length old ts):∃ws,Ww [Kw cs ls,ZO o old ts]=O (.tuple [Kz ws,papD 1 (askL ls.length (Kj (Zl ls o old ts)) (prW cs (Kj (Zl ls o old ts)) (KP 0 ls) ws) (KP 0 ls)) ((UK cs.length).map (prW cs (Kj (Zl ls o old ts)) (KP 0 ls) ws))])/\ZH cs (KP 0 ls) ls.length ws/\Re cs (Kj (Zl ls o old ts)) (KP 0 ls) ws:=by have hq:=D4 g;have l7:=g.l7;obtain⟨d,hb,ws,rfl,hd,hst⟩:=kq (V:=Zl ls o old ts) g (Om g) (by omega)  (by decide) (λq hq=>Int.le_of_lt (AE g ga hq).2) (by omega);refine⟨ws,?_,hd,hst⟩;refine Ze  rfl ?_;refine Kn (KH (Kx (U6 (U2 v3) (U6 (U2 v3) Kb)) v3 (vE g ga)) (Qa v3) v3) ?_;refine Kn (KH (Kx (U6 (U2 v3) (U6 (U2 v3) Kb)) v3 hb) (Qa v3) v3) ?_;exact KG (ZE (U6 (U2 v3) (U6 (Kx (U6 (U2 v3) (U6 (U2 v3) (U6 (U2 v3) Kb))) v3 (vq g (Om g) hd (by omega))) Kb)) (Qa v3)) v3
end
section
variable{cs:wc}{ls:L3}{ws:LO}{o:Ord}{old:wm}{ts:wc}
theorem NR(h:ZH cs (KP 0 ls) ls.length ws):Deal cs ls ws where
 len:=h.len
 wish:=λi t rs hw hrs=>by
  obtain⟨i',rs',h1,h2,h3⟩:=Vg (h.wish i t hw);have hii:i=i':=by lia
  subst hii;rw[hrs]at h1;cases h1;exact h3
 cop:=h.cop
theorem Tt(ls):∀(ws)(l2)(k:Nat),(∀(j:Nat) rs,l2[j]?=O rs->ls.getD (k+j) []=rs)->ws.length=l2.length->Ku (Kj (Zl ls o old ts)) k ws=K4 (K2 (Zr ls o old ts) k l2 ws)
 |[],[],_,_,_=>rfl
 |[],_::_,_,_,h=>by cases h
 |_::_,[],_,_,h=>by cases h
 |x::ws,rs::l2,k,hj,hl=>by
  have ih:=Tt ls ws l2 _ (λj r h=>by rw[show k+1+j=k+(j+1)by lia];exact hj _ r h) (by simpa using hl);show Kv _ k x+Ku _ _ ws=K4 (x.map _::K2 _ _ l2 ws);rw[Tz,ih]
  congr 1
  cases x with
  |none=>rfl
  |some t=>show Zl ls o old ts (k) t=Zr ls o old ts k rs t;unfold Zl;rw[Qz,show ls.getD k []=rs from hj 0 rs v3]
end
section
variable{cs:wc}{ls:L3}{o:Ord}{old:wm}{ts:wc}{ws:LO}
theorem RU(du:Deal cs ls ws):ZH cs (KP 0 ls) ls.length ws:=⟨du.len,λi t h=>by
 have wt:i<ls.length:=by have:=(Qg.mp h).1;have:=du.len;lia
 have hrs   :=Qd wt;have:=Nt (k:=0) hrs (du.wish i t _ h hrs);simp_all,du.cop⟩
end
theorem Ti{α:Type}{s}{t:M Bool}{g:M D}(f)(p)(e)(I:U7->Prop):∀(xs:List α)(Z:U7)(es:wb),(∀a∈xs,∀Z,I Z->∃Z1,s (f a) Z=O Z1/\t Z1=.ok (p a) Z1/\(p a=v5->g Z1=.ok (e a) Z1)/\I (KT Z1))->I Z->es.length+xs.length<=1000000->Zp s t g (xs.map f) Z es=O (es++(xs.filter p).map e)
 |[],Z,es,_,_,_=>by rw[List.map_nil,Zp];simp
 |a::xs,Z,es,h,h0,hl=>by
  rw[Qv]at hl;obtain⟨Z1,h1,h2,h3,h4⟩:=h a Qo Z h0;have h':=λb hb=>h b (Qk _ hb);rw[QF,Zp,h1];dsimp only;rw[h2];dsimp only
  cases c:p a with
  |true=>rw[Qq v3,h3 c];dsimp only;rw[Qq (by lia),Ti f p e I xs _ _ h' h4 (by rw[Qj,QD];lia),List.filter_cons_of_pos c,Q2];rfl
  |false=>rw[if_neg (by decide),Ti f p e I xs _ _ h' h4 (by lia),List.filter_cons_of_neg (by rw[c];simp)]
section
variable{cs:wc}{ls:L3}{ws:LO}{qs:LP}{V:Int->Int->Int}{T:List Stp}{n m:Nat}{P:Nat->Int}
theorem Nm:∀(us vs:LO),PyData.eqvAll (us.map Kk) (vs.map Kk)=decide (us=vs)
 |[],[]=>rfl
 |[],_::_=>by simp[PyData.eqvAll]
 |_::_,[]=>by simp[PyData.eqvAll]
 |u::us,v::vs=>by
  show(US _ _&&PyData.eqvAll _ _)=_
  have e:US (Kk u) (Kk v)=decide (u=v):=by
   cases u with
   |none=>cases v<;>simp[Kk,US]
   |some a=>
    cases v with
    |none=>simp[Kk,US]
    |some b=>by_cases h:a=b<;>simp[Kk,US,h]
  rw[Nm us vs,e];simp_all
theorem Ay(us)(L:List LO):oIn (Kz us) (.list (L.map Kz))=O (decide (us∈L)):=by
 have hlay:UQ (L.map Kz)=v5:=Tj λx hx=>by obtain⟨y,_,rfl⟩:=Qn.mp hx;exact NB y
 have hd:=AS us
 show(if(Kz us).canLay0=v5/\UQ _=v5/\(Kz us).depth<=60 then O _ else v4)=_
 rw[Qq ⟨NB us,hlay,by lia⟩]
 congr 1
 rw[Ub,List.any_eq_true,Jo];constructor
 .rintro⟨y,hy,e⟩
  obtain⟨v,hv,rfl⟩:=Qn.mp hy;have e:PyData.eqvAll (v.map Kk) _=v5:=e;rw[Nm]at e;rw[←Qa e];exact hv
 .intro h
  refine⟨Kz us,Qn.mpr ⟨us,h,rfl⟩,?_⟩;show PyData.eqvAll _ _=v5;rw[Nm];simp
end
section
variable{cs:wc}{f:Int×Int->Int}{qs:LP}{m:Nat}{ws us:LO}{T:List Stp}{as ps:wc}{L:List LO}
structure Rv(cs:wc)(f:Int×Int->Int)(qs:LP)(m:Nat)(us:LO):Prop where
 dl:ZH cs qs m us
 mx:∀vs,ZH cs qs m vs->Ku f 0 vs<=Ku f 0 us
end
theorem D2{xs:wb}{a:Nat}:DL.cutD xs v4 (O (a:Int))=xs.take a:=by
 unfold DL.cutD HT.sIx;dsimp only;rw[QB (by omega),List.drop_zero,Nat.sub_zero,Qz];rcases Nat.le_total a xs.length with h|h
 .rw[Ur h]
 .rw[Nat.min_eq_right h,Jj,List.take_of_length_le h]
theorem qg{xs:wb}{a:Nat}:DL.cutD xs (O (a:Int)) v4=xs.drop a:=by
 unfold DL.cutD HT.sIx;dsimp only;rw[QB (by omega),Qz];rcases Nat.le_total a xs.length with h|h
 .rw[Ur h,←Jl,Jj]
 .rw[Nat.min_eq_right h,List.drop_length,List.drop_of_length_le h,Nat.sub_self];rfl
theorem Wq{α:Type}{s:D->U7->wl}{f:M D}(e k:α->D)(I:U7->Prop):∀(l:List α)(Z:U7)(es:wb),(∀x∈l,∀Z,I Z->∃Z1,s (e x) Z=O Z1/\f Z1=.ok (k x) Z1/\I (KT Z1))->I Z->es.length+l.length<=1000000 ->
  Zp s (U3 v5) f (l.map e) Z es=O (es++l.map k)
 |[],Z,es,_,_,_=>by rw[List.map_nil,Zp,List.map_nil,Jc]
 |x::l,Z,es,st,h0,hz=>by rw[Qv]at hz;obtain⟨Z1,e1,e2,e3⟩:=st x Qo Z h0;rw[QF,Zp,e1];dsimp only[U3];rw[Qq v3,e2];dsimp only;rw[Qq (by omega),QF];refine(Wq e k I l _ (es++[k x]) (λy hy=>st y (Qk _ hy)) e3 (by rw[Qj,QD];omega)).trans ?_;rw[Q2];rfl
inductive Chg where
 |lst (a:Nat) (rs:List wc)
 |cop (t k:Nat)
 |com (rs:List wc)
 |go (a:Nat)
 |thg (k:Nat)
noncomputable def chD:Chg->D
 |.lst a rs=>.tuple [.str "list", .int a,KI rs]
 |.cop t k=>.tuple [.str "copies", .int t,.int k]
 |.com rs=>.tuple [.str "come", KI rs]
 |.go a=>.tuple [.str "go", .int a]
 |.thg k=>.tuple [.str "thing", .int k]
noncomputable def YO(n m:Nat):Chg->Prop
 |.lst a rs=>a<=m/\Yp 7 rs
 |.cop t k=>t<=n/\k<10
 |.com rs=>Yp 7 rs
 |.go a=>a<=m
 |.thg k=>k<10
noncomputable def chW(cs:wc)(ls:L3):Chg->wc×L3
 |.lst a rs=>(cs,ls.set a rs)
 |.cop t k=>(cs.set t k,ls)
 |.com rs=>(cs,ls++[rs])
 |.go a=>(cs,ls.eraseIdx a)
 |.thg k=>(cs++[(k:Int)],ls)
noncomputable def Ru(n:Nat)(rs:List wc):Bool:=rs.flatten.all λt=>decide (t<(n:Int))
noncomputable def Z9(n m:Nat):Chg->Bool
 |.lst a rs=>decide (a<m)&&Ru n rs
 |.cop t k=>decide (t<n)&&decide (k<8)
 |.com rs=>decide (m<7)&&Ru n rs
 |.go a=>decide (a<m)&&decide (1<m)
 |.thg k=>decide (n<6)&&decide (k<8)
theorem vM{pl:wc}{n:Nat}(hn:n<=7)(hp:n<=pl.length):∃r,Vt [.list (pl.map int),.int n]=O r/\∃rs,r=KI rs/\Yp n rs:=by
 let P:Option Sl:=O (.pub (.list (pl.map int)))
 let N:Option Sl:=O (.pub (.int n))
 refine WI (Z:=[P,N,v4,v4,v4]) v3 ?_;unfold T4;refine Kn (Z1:=[P,N,O (.own []),v4,v4]) (Yb (WO Kb (Qa v3)) (Qa v3) v3) ?_;apply KD;apply ZX (ds:=Z8 1 6) (λj Z=>∃rs x3 x4,Z=[P,N,O (.own (rs.map Zg)),x3,x4]/\WG n pl j rs)
 case h1=>exact LW (U6 U8 (U6 U8 Kb)) (HG (by decide) (by decide) (by decide) (by decide))
 case h0=>exact⟨[],v4,v4,rfl,⟨Nat.le_refl 0,by simp,by simp,List.nodup_nil⟩⟩
 case hst=>
  rintro j d Z hj ⟨rs,x3,x4,rfl,g⟩;obtain⟨rfl,hlt⟩:=Wi hj;refine⟨[P,N,O (.own (rs.map Zg)),pb (.int (1+(j:Int))),x4],Ka (Qa v3) v3,?_⟩;unfold Lc
  have hrd:Z8 0 ((n:Nat):Int)=(UK n).map λk=>.int (k:Int):=by
   unfold Z8;have:((n:Int)-0).toNat=n:=by lia
   rw[this];apply Js;intro k _;rw[JL]
  have hc:Zp (gN 5) (U5 oEq (U9 0 (UZ 5)) (UZ 3)) (UZ 5) (Z8 0 ((n:Nat):Int)) (KT [P,N,O (.own (rs.map Zg)),pb (.int (1+(j:Int))),x4]++UL 1 v4) []=O ((X4 n pl (1+(j:Int))).map int):=by
   rw[hrd,TK (λd=>match d with | .int k=>decide (pl.getD k.toNat 0=1+(j:Int))|_=>wa) (λd=>d) (λZ=>∃x,Z=[P,N,v4,pb (.int (1+(j:Int))),K5 x4,x])]
   .rw[Jd,List.map_id',List.filter_map]
    unfold X4;rw[QT];rfl
   .rintro d hm Z ⟨x,rfl⟩
    obtain⟨k,hk,rfl⟩:=Qn.mp hm;have hk:=Q3.mp hk;refine⟨_,Ka (Qa v3) v3,Kf (Ko v3 (U2 v3) (RQ (by lia))) (U2 v3) YL,λ_=>U2 v3,pb (.int k),?_⟩;unfold KT;cases x4 with
    |none=>rfl
    |some sl=>cases sl<;>rfl
   .exact⟨v4,rfl⟩
   .rw[Qb,Qx,QC];lia
  refine Kn (Z1:=[P,N,O (.own (rs.map Zg)),pb (.int (1+(j:Int))),O (.own ((X4 n pl (1+(j:Int))).map int))]) (Yb (Yj (We (U6 (U2 v3) Kb) (Wc (by lia) (by lia))) hc) (Qa v3) v3) ?_;have hnd:=FF n pl (1+(j:Int));have hall:∀t∈X4 n pl (1+(j:Int)),t∈X4 n pl (1+(j:Int)):=λ_ h=>h;generalize wX:X4 n pl (1+(j:Int))=row at hnd hall⊢;apply KE
  case h1=>exact HF v3 (ZJ Kb (by decide)) v3 GU
  case h2=>
   intro hh;have hne:row≠[]:=by simpa using hh
   have wM:(rs.map Zg).length<1000000:=by rw[Qb];have:=g.few;lia
   exact Zz (Xj v3 (Yc v3 v3) v3 wM v3) (Zu ⟨rs++[row],_,pb (Zg row),by rw[Qt];rfl,g.add hne (by rw[wX];exact λ_ h=>h) hnd⟩)
  case h3=>exact λ_=>KO (Zu ⟨rs,_,_,rfl,g.next⟩)
 case hend=>rintro Z ⟨rs,x3,x4,rfl,g⟩;exact KB (KG (Yc rfl rfl) ⟨_,rfl,rs,rfl,g.good⟩)
theorem Yp.rev{n:Nat}{rs:List wc}(g:Yp n rs):Yp n (rs.map List.reverse):=by
 refine⟨by rw[Qb];exact g.few,λr hr=>?_,λr hr t ht=>?_,?_⟩
 .obtain⟨q,hq,rfl⟩:=Qn.mp hr
  exact λz=>g.some q hq (List.reverse_eq_nil_iff.mp z)
 .obtain⟨q,hq,rfl⟩:=Qn.mp hr
  exact g.there q hq t (Uw.mp ht)
 .have:(rs.map List.reverse).flatten.Perm rs.flatten:=by
   induction rs with
   |nil=>exact .refl _
   |cons r rs ih=>rw[QF,Jg,Jg];refine(List.reverse_perm r).append (ih ⟨QE (JA _) g.few,λq hq=>g.some q (Qk _ hq),λq hq=>g.there q (Qk _ hq),?_⟩);have:=g.once;rw[Jg]at this;exact(List.nodup_append.mp this).2.1
  exact this.nodup_iff.mpr g.once
theorem Yp.wide{n m:Nat}{rs:List wc}(g:Yp n rs)(h:n<=m):Yp m rs:=⟨g.few,g.some,λr hr t ht=>by have:=g.there r hr t ht;lia,g.once⟩
theorem A5{rs:List wc}{A B C E F G H:Option Sl}(h:rs.length<=1000):ZC (K8 (UZ 7)) 1 (gN 8) (U3 v5) (Wo (UZ 8) (U3 v4) (U3 v4) (Kp (Yg (U3 (.int 1))) λx=>Kq (YD x))) [A,B,C,E,F,G,H,pb (KI rs)]=.ok ((rs.map List.reverse).map Zg) [A,B,C,E,F,G,H,pb (KI rs)]:=by
 refine Yj (ds:=rs.map Zg) (ZD (U2 v3) v3) ?_;rw[QT];refine(Wq Zg (λr=>Zg r.reverse) (λZ=>∃x,Z=[K5 A,K5 B,K5 C,K5 E,K5 F,K5 G,K5 H,pb (KI rs),x]) rs _ [] ?_ ?_ (by rw[QC];lia)).trans v3
 .rintro r hr Z ⟨x,rfl⟩
  refine⟨_,Ka (Qa v3) v3,?_,pb (Zg r),?_⟩
  .have e:Zg r.reverse=.list (r.map int).reverse:=by unfold Zg;rw[List.map_reverse]
   rw[e];exact MI (U2 v3) U8 U8 (YT (Tr U8))
  .have hh:∀s:Option Sl,K5 (K5 s)=K5 s:=λs=>by cases s with|none=>rfl|some sl=>cases sl<;>rfl
   show [K5 (K5 A),K5 (K5 B),K5 (K5 C),K5 (K5 E),K5 (K5 F),K5 (K5 G),K5 (K5 H),_,_]=_;rw[hh,hh,hh,hh,hh,hh,hh];rfl
 .exact⟨v4,rfl⟩
noncomputable def szH:wc:=[6,8,7,10,9,6,6,6,6,6,6,6,2]
theorem DA:∀x∈szH,0<x/\x<18446744073709551616:=by decide
theorem xO{cs:wc}{ls:L3}(g:Good cs ls)(c s:Int):∃r,Vs [Kw cs ls,.int c,.int s]=O r/\∃ch,r=chD ch/\YO cs.length ls.length ch:=by
 obtain⟨r,hn,ds,rfl,hdl,hdb⟩:=R8 c s (sizes:=szH) DA (by decide)
 match ds,hdl with
 |[d0,d1,d2,d3,d4,d5,d6,d7,d8,d9,d10,d11,d12],_=>
 have b0:=hdb 0 d0 6 v3 v3;have b1:=hdb 1 d1 8 v3 v3;have b2:=hdb 2 d2 7 v3 v3;have b3:=hdb 3 d3 10 v3 v3;have c6:=g.c6;have l7:=g.l7
 let W:Option Sl:=O (.pub (Kw cs ls))
 let C:Option Sl:=O (.pub (.int c))
 let S:Option Sl:=O (.pub (.int s))
 let A:Option Sl:=O (.pub (.list (cs.map int)))
 let L:Option Sl:=O (.pub (.list (ls.map KI)))
 let E:Option Sl:=O (.pub (.list ([d0,d1,d2,d3,d4,d5,d6,d7,d8,d9,d10,d11,d12].map int)))
 have la:Kr [.list (cs.map int)]=O (.int cs.length):=by rw[Zw,Qb]
 have ll:Kr [.list (ls.map KI)]=O (.int ls.length):=by rw[Zw,Qb]
 obtain⟨a,ha,hal⟩:∃a:Nat,d1 % ((ls.length:Int)+1)=(a:Int)/\a<=ls.length:=by have h1:=Uq d1 (show(ls.length:Int)+1≠0 by lia);have h2:=J9 d1 (show 0<(ls.length:Int)+1 by lia);exact⟨(d1 % ((ls.length:Int)+1)).toNat,by lia,by lia⟩
 obtain⟨t,ht,yx⟩:∃t:Nat,d2 % ((cs.length:Int)+1)=(t:Int)/\t<=cs.length:=by have h1:=Uq d2 (show(cs.length:Int)+1≠0 by lia);have h2:=J9 d2 (show 0<(cs.length:Int)+1 by lia);exact⟨(d2 % ((cs.length:Int)+1)).toNat,by lia,by lia⟩
 obtain⟨k,rfl⟩:∃k:Nat,d3=(k:Int):=⟨d3.toNat,by lia⟩
 have ma:ZV (.int d1) (.int ((ls.length:Int)+1))=O (.int (a:Int)):=by rw[W7 (by lia),ha]
 have mt:ZV (.int d2) (.int ((cs.length:Int)+1))=O (.int (t:Int)):=by rw[W7 (by lia),ht]
 have hsz:∀Z:U7,(U5 Kg (U5 Kg (KF (U1 (U3 (.int 6)) (U1 (U3 (.int 8)) (U1 (U3 (.int 7)) (U1 (U3 (.int 10)) (U1 (U3 (.int 9)) (U0))))))) (U5 KR (KF (U1 (U3 (.int 6)) (U0))) (U3 (.int 7)))) (KF (U1 (U3 (.int 2)) (U0)))) Z=.ok (.list (szH.map int)) Z:=λZ=>rfl
 obtain⟨n,hn2,hn7⟩:∃n:Nat,(Pp [.bool (decide (d4=0))]=O (.int ((n:Int)-cs.length)))/\n<=7:=by
  by_cases h:d4=0
  .rw[QJ h];exact⟨cs.length+1,by show O (int 1)=_;rw[show((cs.length+1:Nat):Int)-cs.length=1 by lia],by lia⟩
  .rw[QG h];exact⟨cs.length,by show O (int 0)=_;rw[show((cs.length:Nat):Int)-cs.length=0 by lia],by lia⟩
 obtain⟨r,hr,rs,rfl,gr⟩:=vM (pl:=[d5,d6,d7,d8,d9,d10,d11,d12]) (n:=n) hn7 (QE hn7 (JA 7));have gr:=gr.wide hn7;refine WI (Z:=[W,C,S,v4,v4,v4,v4,v4]) v3 ?_;unfold T3;refine Kn (Z1:=[W,C,S,A,L,v4,v4,v4]) (Xz (U2 v3) (KJ v3 (Kh (Ka (Qa v3) v3) (Kh (Ka (Qa v3) v3) KL)))) ?_;refine Kn (Z1:=[W,C,S,A,L,E,v4,v4]) (KH (Kx (U6 (U2 v3) (U6 (U2 v3) (U6 (hsz _) Kb))) v3 hn) (Qa v3) v3) ?_;refine Kn (Z1:=[W,C,S,A,L,E,pb (.int a),v4]) (KH (Kf (Ko v3 U8 v3) (Kf (Zq v3 ll) U8 Zf) ma) (Qa v3) v3) ?_;have add:Kg (.int cs.length) (.int ((n:Int)-cs.length))=O (.int (n:Int)):=by rw[Zf];exact Us (λz=>O (int z)) (by lia)
 refine Kn (Z1:=[W,C,S,A,L,E,pb (.int a),pb (KI rs)]) (KH (Kx (U6 (Xy (r:=.list ([d5,d6,d7,d8,d9,d10,d11,d12].map int)) (U2 v3) (YT U8) U8 v3) (U6 (Kf (Zq v3 la) (ZI (U6 (KY (Kf (Ko v3 U8 v3) U8 YL)) Kb) hn2) add) Kb)) v3 hr) (Qa v3) v3) ?_
 have key:∀(rs:List wc)(x7:Option Sl)(Z':U7),Yp 7 rs->UZ 7 [W,C,S,A,L,E,pb (.int a),x7]=.ok (KI rs) Z'->Ho (U4 (sIf (U5 (oIB λi j=>decide (i<j)) (U9 5 (U3 (.int 0))) (U3 (.int 2)))
   (Kc (Kt (U1 (U3 (.str "list")) (U1 (UZ 6) (U1 (UZ 7) (U0))))))
   (sNx))
   (U4 (sIf (U5 oEq (U9 5 (U3 (.int 0))) (U3 (.int 2)))
   (Kc (Kt (U1 (U3 (.str "copies")) (U1 (U5 ZV (U9 5 (U3 (.int 2))) (U5 Kg (K7 3) (U3 (.int 1)))) (U1 (U9 5 (U3 (.int 3))) (U0))))))
   (sNx))
   (U4 (sIf (U5 oEq (U9 5 (U3 (.int 0))) (U3 (.int 3)))
   (Kc (Kt (U1 (U3 (.str "come")) (U1 (UZ 7) (U0)))))
   (sNx))
   (U4 (sIf (U5 oEq (U9 5 (U3 (.int 0))) (U3 (.int 4)))
   (Kc (Kt (U1 (U3 (.str "go")) (U1 (UZ 6) (U0)))))
   (sNx))
   (Kc (Kt (U1 (U3 (.str "thing")) (U1 (U9 5 (U3 (.int 3))) (U0))))))))) [W,C,S,A,L,E,O (.pub (.int a)),x7] (λo=>∃d,o=.rt d/\∃ch,d=chD ch/\YO cs.length ls.length ch):=λrs x7 Z' gr h7=>by
  apply KD;refine KE (Kf (Ko v3 U8 v3) U8 Wh) (λ_=>KG (ZE (U6 U8 (U6 (U2 v3) (U6 h7 Kb))) (Qa v3)) (Yo ⟨_,rfl,.lst a rs,rfl,hal,gr⟩)) λ_=>KO (KB ?_);apply KD;refine KE (Kf (Ko v3 U8 v3) U8 YL) (λ_=>KG (ZE (U6 U8 (U6 (Kf (Ko v3 U8 v3) (Kf (Zq v3 la) U8 Zf) mt) (U6 (Ko v3 U8 v3) Kb))) (Qa v3)) (Yo ⟨_,rfl,.cop t k,rfl,yx,by lia⟩)) λ_=>KO (KB ?_)
  apply KD;refine KE (Kf (Ko v3 U8 v3) U8 YL) (λ_=>KG (ZE (U6 U8 (U6 h7 Kb)) (Qa v3)) (Yo ⟨_,rfl,.com rs,rfl,gr⟩)) λ_=>KO (KB ?_);apply KD;refine KE (Kf (Ko v3 U8 v3) U8 YL) (λ_=>KG (ZE (U6 U8 (U6 (U2 v3) Kb)) (Qa v3)) (Yo ⟨_,rfl,.go a,rfl,hal⟩)) λ_=>KO (KB ?_);exact KG (ZE (U6 U8 (U6 (Ko v3 U8 v3) Kb)) (Qa v3)) ⟨_,rfl,.thg k,rfl,show k<10 by lia⟩
 apply KD;refine KE (Kf (Ko v3 U8 v3) U8 YL) (λ_=>?_) λ_=>KO (KB (key rs _ _ gr (U2 v3)));exact Zz (Yb (A5 (by have:=gr.few;lia)) (Qa v3) v3) (KB (key (rs.map List.reverse) _ _ gr.rev (Yc v3 v3)))
theorem Xp{a b:Nat}:decide ((a:Int)<(b:Int))=decide (a<b):=by
 by_cases h:a<b
 .rw[QJ h,QJ (by lia)]
 .rw[QG h,QG (by lia)]
theorem qf{n:Nat}{rs:List wc}(g:Yp n rs)(hn:n<=7):Wf [KI rs,.list []]=O (.list (rs.flatten.map int)):=by
 have h:=Aw (ls:=rs.map (List.map int)) (by
  rw[←Um,Qb];have:=TB g
  lia)
 rw[QT,←Um]at h;exact h
theorem xN{cs:wc}{ls:L3}{ch:Chg}(g:Good cs ls)(hc:YO cs.length ls.length ch):Vr [Kw cs ls,chD ch]=O (.bool (Z9 cs.length ls.length ch)):=by
 have c6:=g.c6;have l7:=g.l7
 let W:Option Sl:=O (.pub (Kw cs ls))
 let A:Option Sl:=O (.pub (.list (cs.map int)))
 let L:Option Sl:=O (.pub (.list (ls.map KI)))
 have la:Kr [.list (cs.map int)]=O (.int cs.length):=by rw[Zw,Qb]
 have ll:Kr [.list (ls.map KI)]=O (.int ls.length):=by rw[Zw,Qb]
 have e0:∀{x:Str}{w1:Option Sl}{v:Bool}{y:Str},oEq (.str x) (.str y)=O v->K6 oEq 4 (U3 (.str y)) [W,w1,A,L,pb (.str x)]=.ok v [W,w1,A,L,pb (.str x)]:=λh=>Yk v3 U8 h
 have tail:∀(rs:List wc)(X Y:Option Sl)(d:D),Yp 7 rs->X=O (.pub d)->oIx d (.int (-1))=O (KI rs)->Ho (Kc (Zt Yv (U1 (Ke UM (ZC (K8 (Zt Wf (U1 (U9 1 (Yg (U3 (.int 1)))) (U1 (KF (U0)) (U0))))) 1 (gN 5) (U3 v5) (Ke UN (K6 (oIB λi j=>decide (i<j)) 5 (K7 2))))) (U0)))) [W,X,A,L,Y] (λo=>o=.rt (.bool (Ru cs.length rs))):=by
  rintro rs X Y d gr rfl hix;have hl:rs.flatten.length<=7:=TB gr;refine KG (ZI (U6 (KY (Yj (ds:=rs.flatten.map int) (es:=(rs.flatten.map λt=>decide (t<(cs.length:Int))).map UN) (ZD (ZI (U6 (Ko rfl (Tr U8) hix) (U6 (ZJ Kb (Qa rfl)) Kb)) (qf gr (Qp 7))) rfl) ?_)) Kb) LS) ?_
  .rw[QT]
   refine(Wq int (λt=>UN (decide (t<(cs.length:Int)))) (λZ=>∃x,Z=[W,pb d,A,L,K5 Y,x]) rs.flatten _ [] ?_ ⟨v4,rfl⟩ (by rw[QC];lia)).trans v3;rintro t ht Z ⟨x,rfl⟩;refine⟨_,Ka (Qa v3) v3,KY (Yk v3 (Zq v3 la) Wh),pb (.int t),?_⟩;cases Y with
   |none=>rfl
   |some sl=>cases sl<;>rfl
  .unfold Ru
   rw[List.all_map];rfl
 refine Ze (Z:=[W,pb (chD ch),v4,v4,v4]) v3 ?_;unfold T2;refine Kn (Z1:=[W,pb (chD ch),A,L,v4]) (Xz (U2 v3) (KJ v3 (Kh (Ka (Qa v3) v3) (Kh (Ka (Qa v3) v3) KL)))) ?_;cases ch with
 |cop t k=>
  refine Kn (KH (Ko v3 U8 v3) (Qa v3) v3) ?_;apply KD;refine KE (e0 (show _=O v5 by kernel_rfl)) (λ_=>?_) λz=>by cases z
  refine KG (W8 (KY (Kf (Ko v3 U8 v3) (Zq v3 la) Wh)) λ_=>KY (Kf (Ko v3 U8 v3) U8 Wh)) (Yo ?_);rw[Z9,Xp,show decide ((k:Int)<8)=decide (k<8)from Xp (b:=8)]
 |go a=>
  refine Kn (KH (Ko v3 U8 v3) (Qa v3) v3) ?_;apply KD;refine KE (e0 (show _=O wa by kernel_rfl)) (λz=>by cases z) λ_=>KO (KB ?_)
  apply KD;refine KE (e0 (show _=O v5 by kernel_rfl)) (λ_=>?_) λz=>by cases z
  refine KG (W8 (KY (Kf (Ko v3 U8 v3) (Zq v3 ll) Wh)) λ_=>KY (Kf (Zq v3 ll) U8 Wh)) (Yo ?_);rw[Z9,Xp,show decide ((1:Int)<(ls.length:Int))=decide (1<ls.length)from Xp (a:=1)]
 |thg k=>
  refine Kn (KH (Ko v3 U8 v3) (Qa v3) v3) ?_;apply KD;refine KE (e0 (show _=O wa by kernel_rfl)) (λz=>by cases z) λ_=>KO (KB ?_)
  apply KD;refine KE (e0 (show _=O wa by kernel_rfl)) (λz=>by cases z) λ_=>KO (KB ?_)
  apply KD;refine KE (e0 (show _=O v5 by kernel_rfl)) (λ_=>?_) λz=>by cases z
  refine KG (W8 (KY (Kf (Zq v3 la) U8 Wh)) λ_=>KY (Kf (Ko v3 U8 v3) U8 Wh)) (Yo ?_);rw[Z9,show decide ((cs.length:Int)<6)=decide (cs.length<6)from Xp (b:=6),show decide ((k:Int)<8)=decide (k<8)from Xp (b:=8)]
 |lst a rs=>
  refine Kn (KH (Ko v3 U8 v3) (Qa v3) v3) ?_;apply KD;refine KE (e0 (show _=O wa by kernel_rfl)) (λz=>by cases z) λ_=>KO (KB ?_)
  apply KD;refine KE (e0 (show _=O wa by kernel_rfl)) (λz=>by cases z) λ_=>KO (KB ?_)
  apply KD;refine KE (e0 (show _=O wa by kernel_rfl)) (λz=>by cases z) λ_=>KO (KB ?_)
  apply KD;refine KE (Ey (Pt (e0 (show _=O v5 by kernel_rfl)) λ_=>Kf (Ko v3 U8 v3) (Zq v3 ll) Wh) λ_=>PN (e0 (show _=O wa by kernel_rfl))) (λhb=>KG U8 (Yo ?_)) λhb=>KO (KB (Ni (tail rs _ _ _ hc.2 v3 v3) ?_))
  .have h:ls.length<=a:=by simpa using hb
   rw[Z9,QG (show ¬a<ls.length by lia)];rfl
  .rintro _ rfl
   have h:a<ls.length:=by simpa using hb
   rw[Z9,QJ h];rfl
 |com rs=>
  refine Kn (KH (Ko v3 U8 v3) (Qa v3) v3) ?_;apply KD;refine KE (e0 (show _=O wa by kernel_rfl)) (λz=>by cases z) λ_=>KO (KB ?_)
  apply KD;refine KE (e0 (show _=O wa by kernel_rfl)) (λz=>by cases z) λ_=>KO (KB ?_)
  apply KD;refine KE (e0 (show _=O wa by kernel_rfl)) (λz=>by cases z) λ_=>KO (KB ?_)
  apply KD;refine KE (XJ (PN (e0 (show _=O wa by kernel_rfl))) (Pt (e0 (show _=O v5 by kernel_rfl)) λ_=>Kf (Zq v3 ll) U8 Wh)) (λhb=>KG U8 (Yo ?_)) λhb=>KO (KB (Ni (tail rs _ _ _ hc v3 v3) ?_))
  .have h:(6:Int)<ls.length:=by simpa using hb
   rw[Z9,QG (show ¬ls.length<7 by lia)];rfl
  .rintro _ rfl
   have h:¬(6:Int)<ls.length:=by simpa using hb
   rw[Z9,QJ (show ls.length<7 by lia)];rfl
section
variable{W w1 x2 x3:Option Sl}{x y:Str}{s t:SM}{Q:Out->Prop}{Z':U7}
theorem ZR(h:oEq (.str x) (.str y)=O wa)(k:Ho t [W,w1,x2,x3,pb (.str x)] Q):Ho (U4 (sIf (K6 oEq 4 (U3 (.str y))) s sNx) t) [W,w1,x2,x3,pb (.str x)] Q:=
 KD (KE (Yk v3 U8 h) (λz=>by cases z) λ_=>KO (KB k))
theorem W6(h:oEq (.str x) (.str y)=O v5)(k:Ho s [W,w1,x2,x3,pb (.str x)] (Pe t Q)):Ho (U4 (sIf (K6 oEq 4 (U3 (.str y))) s sNx) t) [W,w1,x2,x3,pb (.str x)] Q:=
 KD (KE (Yk v3 U8 h) (λ_=>k) λz=>by cases z)
end
noncomputable def beD(cs:wc)(ls:L3)(ch:Chg):D:=Kw (chW cs ls ch).1 (chW cs ls ch).2
theorem A4{cs:wc}{ls:L3}{ch:Chg}(g:Good cs ls)(hb:Z9 cs.length ls.length ch=v5):Wt [Kw cs ls,chD ch]=O (beD cs ls ch):=by
 have c6:=g.c6;have l7:=g.l7
 let W:Option Sl:=O (.pub (Kw cs ls))
 let A:Option Sl:=O (.own (cs.map int))
 let L:Option Sl:=O (.own (ls.map KI))
 refine Ze (Z:=[W,pb (chD ch),v4,v4,v4]) v3 ?_;unfold TZ;refine Kn (Z1:=[W,pb (chD ch),A,v4,v4]) (Yb (Za (U6 (Ko v3 U8 v3) Kb) (Yq v3)) (Qa v3) v3) ?_;refine Kn (Z1:=[W,pb (chD ch),A,L,v4]) (Yb (Za (U6 (Ko v3 U8 v3) Kb) (Yq v3)) (Qa v3) v3) ?_
 have fin:∀(X Y:Option Sl)(cs2:wc)(ls2:L3),chW cs ls ch=(cs2,ls2)->Ho (Kc (Kt (U1 (UZ 2) (U1 (UZ 3) (U0))))) [W,X,O (.own (cs2.map int)),O (.own (ls2.map KI)),Y] (λo=>o=.rt (beD cs ls ch)):=λX Y cs2 ls2 e=>
  KG (ZE (U6 (Yc v3 v3) (U6 (Yc v3 v3) Kb)) (Qa v3)) (by unfold beD;rw[e];rfl)
 cases ch with
 |lst a rs=>
  have h:a<ls.length:=by rw[Z9,QI]at hb;exact Qa hb.1
  refine Kn (KH (Ko v3 U8 v3) (Qa v3) v3) ?_;refine W6 (by kernel_rfl) (Zz (Tw (k:=(a:Int)) (d:=KI rs) (Ko v3 U8 v3) v3 (Ko v3 U8 v3) v3 ⟨by lia,by rw[Qb];lia⟩ v3) (KB ?_));refine ZR (by kernel_rfl) (ZR (by kernel_rfl) (ZR (by kernel_rfl) (ZR (by kernel_rfl) ?_)));have:=fin (O (.pub (chD (.lst a rs)))) (O (.pub (.str "list"))) cs (ls.set a rs) v3;rw[Uv]at this;exact this
 |cop t k=>
  have h:t<cs.length:=by rw[Z9,QI]at hb;exact Qa hb.1
  refine Kn (KH (Ko v3 U8 v3) (Qa v3) v3) ?_;refine ZR (by kernel_rfl) (W6 (by kernel_rfl) (Zz (Tw (k:=(t:Int)) (d:=.int k) (Ko v3 U8 v3) v3 (Ko v3 U8 v3) v3 ⟨by lia,by rw[Qb];lia⟩ v3) (KB ?_)));refine ZR (by kernel_rfl) (ZR (by kernel_rfl) (ZR (by kernel_rfl) ?_));have:=fin (O (.pub (chD (.cop t k)))) (O (.pub (.str "copies"))) (cs.set t k) ls v3;rw[Uv]at this;exact this
 |com rs=>refine Kn (KH (Ko v3 U8 v3) (Qa v3) v3) ?_;refine ZR (by kernel_rfl) (ZR (by kernel_rfl) (W6 (by kernel_rfl) (Zz (Xj (d:=KI rs) v3 (Ko v3 U8 v3) v3 (by rw[Qb];lia) v3) (KB ?_))));refine ZR (by kernel_rfl) (ZR (by kernel_rfl) ?_);have:=fin (O (.pub (chD (.com rs)))) (O (.pub (.str "come"))) cs (ls++[rs]) v3;rw[Qt]at this;exact this
 |go a=>
  have h:a<ls.length:=by rw[Z9,QI]at hb;exact Qa hb.1
  refine Kn (KH (Ko v3 U8 v3) (Qa v3) v3) ?_;refine ZR (by kernel_rfl) (ZR (by kernel_rfl) (ZR (by kernel_rfl) (W6 (by kernel_rfl) (Zz (Xi (ME (m:=a) v3 (Ko v3 U8 v3) v3 (by rw[Qb];lia) (Qd (by rw[Qb];exact h)))) (KB ?_)))));refine ZR (by kernel_rfl) ?_;have:=fin (O (.pub (chD (.go a)))) (O (.pub (.str "go"))) cs (ls.eraseIdx a) v3;rw[Q4,Qt,Uh,Uy,←Q4]at this;exact this
 |thg k=>refine Kn (KH (Ko v3 U8 v3) (Qa v3) v3) ?_;refine ZR (by kernel_rfl) (ZR (by kernel_rfl) (ZR (by kernel_rfl) (ZR (by kernel_rfl) (W6 (by kernel_rfl) (Zz (Xj (d:=.int k) v3 (Ko v3 U8 v3) v3 (by rw[Qb];lia) v3) (KB ?_))))));have:=fin (O (.pub (chD (.thg k)))) (O (.pub (.str "thing"))) (cs++[(k:Int)]) ls v3;rw[Qt]at this;exact this
noncomputable def SN(n m:Nat):Chg->Bool
 |.lst a _ | .go a=>decide (a<m)
 |.cop t _=>decide (t<n)
 |_=>v5
theorem M9{a n:Nat}:belB (n:Int) (.int (a:Int))=decide (a<n):=by
 show(decide ((0:Int)<=(a:Int))&&decide ((a:Int)<(n:Int)))=_
 rw[QJ (show(0:Int)<=(a:Int)by lia),Xp];rfl
theorem D1{cs:wc}{ls:L3}{ch:Chg}:VC [Kw cs ls,chD ch]=O (.bool (SN cs.length ls.length ch)):=by
 let W:Option Sl:=O (.pub (Kw cs ls))
 let A:Option Sl:=O (.pub (.list (cs.map int)))
 let L:Option Sl:=O (.pub (.list (ls.map KI)))
 have la:Kr [.list (cs.map int)]=O (.int cs.length):=by rw[Zw,Qb]
 have ll:Kr [.list (ls.map KI)]=O (.int ls.length):=by rw[Zw,Qb]
 obtain⟨w,d,ds,hd,hz,hin⟩:∃(w:Str)(d:D)(ds:wb),chD ch=.tuple (.str w::d::ds)/\(match O7.lookup w with|some i=>int i|none=>.none)=.int ((ds.length+2:Nat):Int) /\
   ((∃a:Nat,d=.int a/\oIn (.str w) (.tuple [.str "list", .str "go"])=O v5/\SN cs.length ls.length ch=decide (a<ls.length)) ∨
    (oIn (.str w) (.tuple [.str "list", .str "go"])=O wa/\∃t:Nat,d=.int t/\oEq (.str w) (.str "copies")=O v5/\SN cs.length ls.length ch=decide (t<cs.length)) ∨
    (oIn (.str w) (.tuple [.str "list", .str "go"])=O wa/\oEq (.str w) (.str "copies")=O wa/\SN cs.length ls.length ch=v5)):=by
  cases ch with
  |lst a rs=>exact⟨_,_,_,rfl,by kernel_rfl,.inl ⟨a,rfl,by kernel_rfl,rfl⟩⟩
  |cop t k=>exact⟨_,_,_,rfl,by kernel_rfl,.inr (.inl ⟨by kernel_rfl,t,rfl,by kernel_rfl,rfl⟩)⟩
  |com rs=>exact⟨_,_,_,rfl,by kernel_rfl,.inr (.inr ⟨by kernel_rfl,by kernel_rfl,rfl⟩)⟩
  |go a=>exact⟨_,_,_,rfl,by kernel_rfl,.inl ⟨a,rfl,by kernel_rfl,rfl⟩⟩
  |thg k=>exact⟨_,_,_,rfl,by kernel_rfl,.inr (.inr ⟨by kernel_rfl,by kernel_rfl,rfl⟩)⟩
 rw[hd];have i0:oIx (.tuple (.str w::d::ds)) (.int 0)=O (.str w):=Z7 (j:=0) v3;have i1:oIx (.tuple (.str w::d::ds)) (.int 1)=O d:=Z7 (j:=1) v3;refine Ze (Z:=[W,pb (.tuple (.str w::d::ds)),v4,v4]) v3 ?_;unfold Sd;apply KD;refine KE (b:=wa) (XJ (WS (U2 v3) v3) (XJ (Kf (Zq v3 HH) U8 (YL.trans (by rw[QG (by rw[Qv];lia)]))) (WS (Ko v3 U8 i0) v3))) (λz=>by cases z) λ_=>KO (KB ?_)
 apply KD;refine KE (b:=wa) (Kf (Bd (U6 (Ko v3 U8 i0) Kb) hz) (Zq v3 HH) (PM.trans (by rw[QJ (by rw[Qv,Qv])];rfl))) (λz=>by cases z) λ_=>KO (KB ?_)
 refine Kn (Z1:=[W,pb (.tuple (.str w::d::ds)),A,L]) (Xz (U2 v3) (KJ v3 (Kh (Ka (Qa v3) v3) (Kh (Ka (Qa v3) v3) KL)))) ?_;have tup:∀Z:U7,Kt (U1 (U3 (.str "list")) (U1 (U3 (.str "go")) (U0))) Z=.ok (.tuple [.str "list", .str "go"]) Z:=λZ=>ZE (U6 U8 (U6 U8 Kb)) (Qa v3)
 rcases hin with ⟨a,rfl,h1,h2⟩|⟨h1,t,rfl,h2,h3⟩|⟨h1,h2,h3⟩
 .apply KD
  refine KE (b:=v5) (Kf (Ko v3 U8 i0) (tup _) h1) (λ_=>KG (Kx (U6 (Ko v3 U8 i1) (U6 (Zq v3 ll) Kb)) v3 (Ge _ _)) (Yo ?_)) λz=>by cases z
  rw[h2,M9]
 .apply KD
  refine KE (b:=wa) (Kf (Ko v3 U8 i0) (tup _) h1) (λz=>by cases z) λ_=>KO (KB ?_)
  apply KD;refine KE (b:=v5) (Kf (Ko v3 U8 i0) U8 h2) (λ_=>KG (Kx (U6 (Ko v3 U8 i1) (U6 (Zq v3 la) Kb)) v3 (Ge _ _)) (Yo ?_)) λz=>by cases z
  rw[h3,M9]
 .apply KD
  refine KE (b:=wa) (Kf (Ko v3 U8 i0) (tup _) h1) (λz=>by cases z) λ_=>KO (KB ?_)
  apply KD;refine KE (b:=wa) (Kf (Ko v3 U8 i0) U8 h2) (λz=>by cases z) λ_=>KO (KB ?_)
  refine KG U8 ?_;rw[h3]
section
variable{W Cg A L w:Option Sl}{d:D}{xs:wb}{a:Nat}{y:D}
theorem Pg:YI (.list xs) v4 (O (a:Int))=O (.list (xs.take a)):=by rw[TD,D2]
theorem PF:YI (.list xs) (O ((a:Int)+1)) v4=O (.list (xs.drop (a+1))):=by rw[TD,show((a:Int)+1)=((a+1:Nat):Int)by lia,qg]
theorem M8(h:xs.length<=1000)(ha:a<xs.length):∃z,Kg (.list (xs.take a)) (.list [y])=O z/\Kg z (.list (xs.drop (a+1)))=O (.list (xs.set a y)):=by
 have l1:(xs.take a).length<=1000:=QE (List.length_take_le' _ _) h;have l2:(xs.drop (a+1)).length<=1000:=by rw[Jl];lia
 refine⟨_,Xg (by rw[QD];lia),?_⟩;rw[Xg (by rw[Qj,QD];lia),List.set_eq_take_append_cons_drop,Qq ha,Q2];rfl
theorem DZ(h:xs.length<=1000):Kg (.list (xs.take a)) (.list (xs.drop (a+1)))=O (.list (xs.eraseIdx a)):=by
 have l1:(xs.take a).length<=1000:=QE (List.length_take_le' _ _) h;have l2:(xs.drop (a+1)).length<=1000:=by rw[Jl];lia
 rw[Xg (by lia),Q4]
end
theorem xM{cs:wc}{ls:L3}{ch:Chg}(g:Good cs ls)(hf:SN cs.length ls.length ch=v5):VA [Kw cs ls,chD ch]=O (beD cs ls ch):=by
 have c6:=g.c6;have l7:=g.l7
 let W:Option Sl:=O (.pub (Kw cs ls))
 let A:Option Sl:=O (.pub (.list (cs.map int)))
 let L:Option Sl:=O (.pub (.list (ls.map KI)))
 have lA:(cs.map int).length<=1000:=by rw[Qb];lia
 have lL:(ls.map KI).length<=1000:=by rw[Qb];lia
 refine Ze (Z:=[W,pb (chD ch),v4,v4,v4]) v3 ?_;unfold Sc;refine Kn (Z1:=[W,pb (chD ch),A,L,v4]) (Xz (U2 v3) (KJ v3 (Kh (Ka (Qa v3) v3) (Kh (Ka (Qa v3) v3) KL)))) ?_;cases ch with
 |lst a rs=>obtain⟨z,z1,z2⟩:=M8 (y:=KI rs) lL (a:=a) (by rw[Qb];exact Qa hf);refine Kn (KH (Ko v3 U8 v3) (Qa v3) v3) ?_;refine W6 (by kernel_rfl) (KG (ZE (U6 (U2 v3) (U6 (Kf (Kf (Xy (U2 v3) U8 (YT (Ko v3 U8 v3)) Pg) (ZJ (U6 (Ko v3 U8 v3) Kb) (Qa v3)) z1) (Xy (U2 v3) (YT (Kf (Ko v3 U8 v3) U8 Zf)) U8 PF) z2) Kb)) (Qa v3)) (Yo ?_));rw[←Uv];rfl
 |cop t k=>obtain⟨z,z1,z2⟩:=M8 (y:=.int k) lA (a:=t) (by rw[Qb];exact Qa hf);refine Kn (KH (Ko v3 U8 v3) (Qa v3) v3) ?_;refine ZR (by kernel_rfl) (W6 (by kernel_rfl) (KG (ZE (U6 (Kf (Kf (Xy (U2 v3) U8 (YT (Ko v3 U8 v3)) Pg) (ZJ (U6 (Ko v3 U8 v3) Kb) (Qa v3)) z1) (Xy (U2 v3) (YT (Kf (Ko v3 U8 v3) U8 Zf)) U8 PF) z2) (U6 (U2 v3) Kb)) (Qa v3)) (Yo ?_)));rw[←Uv];rfl
 |com rs=>refine Kn (KH (Ko v3 U8 v3) (Qa v3) v3) ?_;refine ZR (by kernel_rfl) (ZR (by kernel_rfl) (W6 (by kernel_rfl) (KG (ZE (U6 (U2 v3) (U6 (Kf (U2 v3) (ZJ (U6 (Ko v3 U8 v3) Kb) (Qa v3)) (Xg (by rw[QD];lia))) Kb)) (Qa v3)) (Yo ?_))));show _=Out.rt (Kw cs (ls++[rs]));unfold Kw;rw[Qt];rfl
 |go a=>refine Kn (KH (Ko v3 U8 v3) (Qa v3) v3) ?_;refine ZR (by kernel_rfl) (ZR (by kernel_rfl) (ZR (by kernel_rfl) (W6 (by kernel_rfl) (KG (ZE (U6 (U2 v3) (U6 (Kf (Xy (U2 v3) U8 (YT (Ko v3 U8 v3)) Pg) (Xy (U2 v3) (YT (Kf (Ko v3 U8 v3) U8 Zf)) U8 PF) (DZ lL)) Kb)) (Qa v3)) (Yo ?_)))));rw[Q4,←Uh,←Uy,←Qt,←Q4];rfl
 |thg k=>refine Kn (KH (Ko v3 U8 v3) (Qa v3) v3) ?_;refine ZR (by kernel_rfl) (ZR (by kernel_rfl) (ZR (by kernel_rfl) (ZR (by kernel_rfl) (KG (ZE (U6 (Kf (U2 v3) (ZJ (U6 (Ko v3 U8 v3) Kb) (Qa v3)) (Xg (by rw[QD];lia))) (U6 (U2 v3) Kb)) (Qa v3)) ?_))));show _=Out.rt (Kw (cs++[(k:Int)]) ls);unfold Kw;rw[Qt];rfl
theorem Fq{n:Nat}{rs:List wc}(g:Yp 7 rs)(h:Ru n rs=v5):Yp n rs:=
 ⟨g.few,g.some,λr hr t ht=>⟨(g.there r hr t ht).1,by have:=Jf.mp h t (List.mem_flatten.mpr ⟨r,hr,ht⟩);exact Qa this⟩,g.once⟩
section
variable{cs:wc}{ls:L3}{ch:Chg}{us:LO}
theorem OV(g:Good cs ls)(hc:YO cs.length ls.length ch)(hb:Z9 cs.length ls.length ch=v5):Good (chW cs ls ch).1 (chW cs ls ch).2:=by
 have c1:=g.c1;have c6:=g.c6;have l1:=g.l1;have l7:=g.l7;cases ch with
 |lst a rs=>
  rw[Z9,QI]at hb;refine⟨c1,c6,g.c7,by show 1<=(ls.set a rs).length;rw[QZ];exact l1,by show(ls.set a rs).length<=7;rw[QZ];exact l7,λq hq=>?_⟩;rcases List.mem_or_eq_of_mem_set hq with hq|rfl
  .exact g.rk q hq
  .exact Fq hc.2 hb.2
 |cop t k=>
  rw[Z9,QI]at hb;have h8:=Qa hb.2;refine⟨by show 1<=(cs.set t k).length;rw[QZ];exact c1,by show(cs.set t k).length<=6;rw[QZ];exact c6,λc w4=>?_,l1,l7,λq hq=>by show Yp (cs.set t k).length q;rw[QZ];exact g.rk q hq⟩;rcases List.mem_or_eq_of_mem_set w4 with w4|rfl
  .exact g.c7 c w4
  .exact⟨by lia,by lia⟩
 |com rs=>
  rw[Z9,QI]at hb;have h7:=Qa hb.1;refine⟨c1,c6,g.c7,by show 1<=(ls++[rs]).length;rw[Qj];lia,by show(ls++[rs]).length<=7;rw[Qj,QD];lia,λq hq=>?_⟩;rcases QW.mp hq with hq|hq
  .exact g.rk q hq
  .rw[QM.mp hq];exact Fq hc hb.2
 |go a=>rw[Z9,QI]at hb;have h1:=Qa hb.1;have h2:=Qa hb.2;have hl:(ls.eraseIdx a).length=ls.length-1:=List.length_eraseIdx_of_lt h1;exact⟨c1,c6,g.c7,by show 1<=(ls.eraseIdx a).length;lia,by show(ls.eraseIdx a).length<=7;lia,λq hq=>g.rk q (List.mem_of_mem_eraseIdx hq)⟩
 |thg k=>
  rw[Z9,QI]at hb;have h6:=Qa hb.1;have h8:=Qa hb.2;have hl:(cs++[(k:Int)]).length=cs.length+1:=by rw[Qj,QD]
  refine⟨by show 1<=(cs++[(k:Int)]).length;lia,by show(cs++[(k:Int)]).length<=6;lia,λc w4=>?_,l1,l7,λq hq=>by show Yp (cs++[(k:Int)]).length q;rw[hl];exact(g.rk q hq).wide (JA _)⟩;rcases QW.mp w4 with w4|w4
  .exact g.c7 c w4
  .rw[QM.mp w4];exact⟨by lia,by lia⟩
theorem qe(hb:Z9 cs.length ls.length ch=v5):SN cs.length ls.length ch=v5:=by cases ch<;>first|rfl|(rw[Z9,QI]at hb;exact hb.1)
end
section
variable{cs:wc}{ls:L3}{ch:Chg}{us:LO}
theorem qd(g:Good cs ls):VZ [Kw cs ls]=O (Kw cs ls):=by have l7:=g.l7;refine Ze (Z:=[pb (Kw cs ls),v4,v4]) v3 ?_;unfold SB;refine Kn (Z1:=[pb (Kw cs ls),pb (.list (cs.map int)),pb (.list (ls.map KI))]) (Xz (U2 v3) (KJ v3 (Kh (Ka (Qa v3) v3) (Kh (Ka (Qa v3) v3) KL)))) ?_;refine KG (ZE (U6 (KY (Rq v3 v3)) (U6 (KY (Yj (ds:=ls.map KI) (es:=ls.map KI) (ZD (U2 v3) v3) ?_)) Kb)) (Qa v3)) v3;refine(Wq KI KI (λZ=>∃x,Z=[pb (Kw cs ls),pb (.list (cs.map int)),pb (.list (ls.map KI)),x]) ls _ [] ?_ ⟨v4,rfl⟩ (by rw[QC];lia)).trans v3;rintro rs hrs Z ⟨x,rfl⟩;have hf:=(g.rk rs hrs).few;refine⟨_,Ka (Qa v3) v3,KY (x:=rs.map Zg) (Yj (ds:=rs.map Zg) (ZD (U2 v3) v3) ?_),_,rfl⟩;refine(Wq Zg Zg (λZ=>∃x,Z=[pb (Kw cs ls),pb (.list (cs.map int)),pb (.list (ls.map KI)),pb (KI rs),x]) rs _ [] ?_ ⟨v4,rfl⟩ (by rw[QC];lia)).trans v3;rintro r hr Z ⟨x,rfl⟩;exact⟨_,Ka (Qa v3) v3,KY (x:=r.map int) (Rq v3 v3),_,rfl⟩
end
theorem Mz:∀(xs ys),xs.length=ys.length->HT.Xw xs ys=wa->HT.Xw ys xs=wa->xs=ys
 |[],[],_,_,_=>rfl
 |[],_::_,h,_,_=>by cases h
 |_::_,[],h,_,_=>by cases h
 |x::xs,y::ys,h,h1,h2=>by
  unfold HT.Xw at h1 h2
  have e:x=y:=by
   lia
  subst e;simp at h1 h2;rw[Mz xs ys (by simpa using h) h1 h2]
theorem O8:∀{xs ys r s},xs.length=ys.length->HT.Xw (xs++r) (ys++s)=wa->HT.Xw xs ys=wa/\(xs=ys->HT.Xw r s=wa)
 |[],[],r,s,_,h=>⟨rfl,λ_=>h⟩
 |[],_::_,_,_,h,_=>by cases h
 |_::_,[],_,_,h,_=>by cases h
 |x::xs,y::ys,r,s,hl,h=>by
  have h:HT.Xw (x::_) (y::_)=wa:=h;rw[HT.Oq]at h;rw[HT.Oq];by_cases e:x=y
  .rw[Qq e]at h
   rw[Qq e];obtain⟨h1,h2⟩:=O8   (by simpa using hl) h;exact⟨h1,λq=>h2 (Ux q).2⟩
  .rw[QB e]at h
   rw[QB e];exact⟨h,λq=>absurd (Ux q).1 e⟩
section
variable{cs:wc}{ls:L3}{ws us:LO}{o:Ord}{old:wm}{ts:wc}
theorem ga0  : YA n m v4 []:=⟨λws h=>(by cases h),λws t h=>(by cases h),List.nodup_nil,λa h=>(by cases h)⟩
noncomputable abbrev whW(ls:L3)(o:Ord)(old:wm)(ts:wc)(ws:LO):Int:=K4 (K2 (Zr ls o old ts) 0 ls ws)
structure OptQ(cs:wc)(ls:L3)(o:Ord)(old:wm)(ts:wc)(ws:LO):Prop where
 dl:Deal cs ls ws
 mx:∀us,Deal cs ls us->whW ls o old ts us<=whW ls o old ts ws
theorem P0(g:Good cs ls)(ga:YA cs.length ls.length old ts):∃ws d,Ww [Kw cs ls,ZO o old ts]=O (.tuple [Kz ws,d])/\OptQ cs ls o old ts ws:=by obtain⟨ws,hbd,hdq,hst⟩:=vY  g ga;have dl:=NR hdq;refine⟨ws,_,hbd,dl,λus du=>?_⟩;have:=ko (Om g) hdq hst (RU du);rw[Tt ls us ls 0 (λj rs h=>by rw[QS,Qh,h];rfl) du.len,Tt ls ws ls 0 (λj rs h=>by rw[QS,Qh,h];rfl) dl.len]at this;simp_all
noncomputable def TQ(ls:L3)(o:Ord)(old:wm)(ts:wc)(ws:LO):wc:=Yu o (KS (lng ls) (Km ls ws))++[(Zh old ws:Int)]++ts.map (ZS ls ws)
theorem Hk(g:Good cs ls)(dw:Deal cs ls ws)(du:Deal cs ls us)(ga:YA cs.length ls.length old ts)(h:whW ls o old ts us<=whW ls o old ts ws):HT.Xw (TQ ls o old ts ws) (TQ ls o old ts us)=wa:=by have hb:=NV (o:=o) g du dw ga;have h:K4 _<=K4 _:=h;rw[QG (by omega)]at hb;have hk:=AL (o:=o) g du dw ga;rw[hb]at hk;exact hk
theorem Hj(g:Good cs ls)(ga:YA cs.length ls.length old ts)(h1:OptQ cs ls o v4 [] us)(h2:OptQ cs ls o old ts ws):KS (lng ls) (Km ls ws)=KS (lng ls) (Km ls us)/\Zh old us<=Zh old ws:=by
 have k1:=Hk g h1.dl h2.dl ga0 (h1.mx ws h2.dl);have k2:=Hk g h2.dl h1.dl ga (h2.mx us h1.dl);have hl:(Yu o (KS (lng ls) (Km ls us))).length=(Yu o (KS (lng ls) (Km ls ws))).length:=Hz (by rw[Td,Td]);unfold TQ at k1 k2;rw[Q2,Q2]at k1 k2;have c1:=(O8 hl k1).1;obtain⟨c2,c3⟩:=O8 hl.symm k2;have e:=Mz _ _ hl.symm c2 c1;refine⟨AH e,?_⟩;have c4:=c3 e;have c4:HT.Xw ((Zh old ws:Int)::ts.map _) ((Zh old us:Int)::ts.map _)=wa:=c4;rw[HT.Oq]at c4;by_cases z:(Zh old ws:Int)=Zh old us
 .omega
 .rw[QB z]at c4
  have:=Jp c4;omega
end
section
variable{cs:wc}{ls:L3}{ws us:LO}{o:Ord}{old:wm}{ts:wc}
theorem kn(g:Good cs ls)(d1:Deal cs ls ws)(d2:Deal cs ls us)(e:KS (lng ls) (Km ls ws)=KS (lng ls) (Km ls us)):whW ls o v4 [] ws=whW ls o v4 [] us:=by
 have h1:=NV (o:=o) g d1 d2 ga0;have h2:=NV (o:=o) g d2 d1 ga0;rw[e]at h1 h2;have h   :=h1.symm.trans h2
 lia
theorem Hi(h:Rv cs (Kj (Zl ls o old ts)) (KP 0 ls) ls.length us):OptQ cs ls o old ts us:=by have du:=NR h.dl;refine⟨du,λvs dv=>?_⟩;have:=h.mx vs (RU dv);rw[Tt ls us ls 0 (λj rs h=>by rw[QS,Qh,h];rfl) du.len,Tt ls vs ls 0 (λj rs h=>by rw[QS,Qh,h];rfl) dv.len]at this;simp_all
theorem Hh(h:OptQ cs ls o old ts us):Rv cs (Kj (Zl ls o old ts)) (KP 0 ls) ls.length us:=by refine⟨RU h.dl,λvs hv=>?_⟩;have dv:=NR hv;rw[Tt ls us ls 0 (λj rs h=>by rw[QS,Qh,h];rfl) h.dl.len,Tt ls vs ls 0 (λj rs h=>by rw[QS,Qh,h];rfl) dv.len];exact h.mx vs dv
theorem km(g:Good cs ls)(ga:YA cs.length ls.length old ts)(h:Rv cs (Kj (Zl ls o old ts)) (KP 0 ls) ls.length us):Rv cs (Kj (Zl ls o v4 [])) (KP 0 ls) ls.length us:=by obtain⟨w0,_,_,h0⟩:=P0  g ga0;have hu:=Hi h;have e:=kn (o:=o) g hu.dl h0.dl (Hj g ga h0 hu).1;exact Hh ⟨hu.dl,λvs dv=>by rw[e];exact h0.mx vs dv⟩
end
section
variable{cs:wc}{ls:L3}{o:Ord}
noncomputable abbrev plain(ls:L3)(o:Ord):Int×Int->Int:=Kj (Zl ls o v4 [])
theorem Oc(f:Int×Int->Int)(x:wg):∀(ws:LO)(k:Nat),Ku f k (ws++[x])=Ku f k ws+Kv f (k+ws.length) x
 |[],k=>by show Kv f k x+0=0+Kv f k x;lia
 |w::ws,k=>by
  show Kv f k w+Ku f (k+1) (ws++[x])=Kv f k w+Ku f (k+1) ws+Kv f (k+(ws.length+1)) x;rw[Oc f x ws (k+1),show k+1+ws.length=k+(ws.length+1)by lia]
  lia
noncomputable def Xm(ls:L3)(o:Ord)(j:Nat):List (wg×Int):=(v4,0)::(YC (ls.getD j []).flatten).map λt=>(O t,plain ls o ((j:Int),t))
noncomputable def XU(cs:wc)(ws:LO):wg->Bool
 |none=>v5
 |some t=>decide (((ws.count (O t):Nat):Int)<cs.getD t.toNat 0)
noncomputable def Zm(cs:wc)(S:List (wg×Int))(p:LO×Int):List (LO×Int):=(S.filter λs=>XU cs p.1 s.1).map λs=>(p.1++[s.1],p.2+s.2)
noncomputable def Ym(cs:wc)(ls:L3)(o:Ord):Nat->List (LO×Int)
 |0=>[([],0)]
 |j+1=>(Ym cs ls o j).flatMap (Zm cs (Xm ls o j))
noncomputable def dvD(p:LO×Int):D:=.tuple [Kz p.1,.int p.2]
noncomputable def ovD(s:wg×Int):D:=.tuple [Kk s.1,.int s.2]
theorem Hg(g:Good cs ls){j:Nat}(hj:j<ls.length):(Xm ls o j).length<=7:=by
 unfold Xm;have e:ls.getD j []=ls[j]:=by rw[Qh,Qd hj];rfl
 have:=TB (g.rk _ (Jq hj));have:=g.c6;rw[Qv,Qb,(Xa _).length_eq,e]
 lia
theorem Hf(S:List (wg×Int))(p:LO×Int):(Zm cs S p).length<=S.length:=by unfold Zm;rw[Qb];exact JJ _ _
theorem Nl{S:List (wg×Int)}(hS:S.length<=7):∀F:List (LO×Int),(F.flatMap (Zm cs S)).length<=F.length*7
 |[]=>Qp _
 |p::F=>by
  have h1:=Hf (cs:=cs) S p;have h2:=Nl hS F;rw[List.flatMap_cons,Qj,Qv]
  lia
theorem He(g:Good cs ls):∀j,j<=ls.length->(Ym cs ls o j).length<=7 ^ j
 |0,_=>Qp _
 |j+1,h=>by
  have h1:=He g j (by lia);have h2:=Nl (cs:=cs) (Hg (o:=o) g (j:=j) (by lia)) (Ym cs ls o j)
  show((Ym cs ls o j).flatMap _).length<=_
  rw[Nat.pow_succ]
  lia
theorem Tc(g:Good cs ls):∀j,j<=ls.length->∀ws v,(ws,v)∈Ym cs ls o j ↔ ZH cs (KP 0 ls) j ws/\v=Ku (plain ls o) 0 ws
 |0,_,ws,v=>by
  show(ws,v)∈[([],0)] ↔ _
  rw[QM];constructor
  .intro e
   cases e;exact⟨⟨rfl,λi t h=>by simp at h,λk c h=>by have:=(g.c7 c (List.mem_of_getElem? h)).1;simpa using this⟩,rfl⟩
  .rintro⟨d,rfl⟩
   have:=List.eq_nil_of_length_eq_zero d.len;subst this;rfl
 |j+1,hj,ws,v=>by
  have ih:=Tc g j (by lia);have ww:j<ls.length:=by lia
  have e:ls.getD j []=ls[j]:=by rw[Qh,Qd ww];rfl
  show(ws,v)∈(Ym cs ls o j).flatMap (Zm cs (Xm ls o j)) ↔ _
  rw[List.mem_flatMap];constructor
  .rintro⟨⟨us,u⟩,hu,h⟩
   obtain⟨d,rfl⟩:=(ih us u).mp hu;obtain⟨⟨s,w⟩,hs,e2⟩:=Qn.mp h;obtain⟨hs,hf⟩:=Jx.mp hs;cases e2
   have hw:(s=v4/\w=0) ∨ ∃t,s=O t/\w=plain ls o ((j:Int),t)/\t∈ls[j].flatten:=by
    rcases QQ.mp hs with h|h
    .cases h;exact .inl ⟨rfl,rfl⟩
    .obtain⟨t,ht,e3⟩:=Qn.mp h
     cases e3;rw[e]at ht;exact .inr ⟨t,rfl,rfl,(Xa _).mem_iff.mp ht⟩
   have hl:=d.len;refine⟨⟨by rw[Qj,QD,hl],λi t h=>?_,λk c hck=>?_⟩,?_⟩
   .by_cases hi:i<us.length
    .rw[Qu hi]at h
     exact d.wish i t h
    .have hi2:i=us.length:=by
      have:=(Qg.mp h).1;rw[Qj,QD]at this
      lia
     subst hi2;rw[Qw (Qp _),Nat.sub_self]at h;rcases hw with ⟨rfl,_⟩|⟨t',rfl,_,ht⟩
     .cases h
     .cases h
      rw[hl];have:=Nt (k:=0) (Qd ww) ht;rwa[QS]at this
   .rw[List.count_append]
    have h0:=d.cop k c hck;rcases hw with ⟨rfl,_⟩|⟨t',rfl,_,ht⟩
    .simpa using h0
    .by_cases z:t'=(k:Int)
     .subst z
      have hf:((us.count (O (k:Int)):Nat):Int)<cs.getD ((k:Int)).toNat 0:=Qa hf;rw[Qz,Qh,hck]at hf;have hf:((us.count (O (k:Int)):Nat):Int)<c:=hf;have:List.count (O (k:Int)) [O (k:Int)]=1:=by simp
      lia
     .have:List.count (O (k:Int)) [O t']=0:=by simp[z]
      lia
   .rw[Oc,QS,hl]
    rcases hw with ⟨rfl,rfl⟩|⟨t',rfl,rfl,ht⟩<;>rfl
  .rintro⟨d,rfl⟩
   have hl:=d.len;obtain⟨us,s,rfl⟩:∃us s,ws=us++[s]:=⟨ws.dropLast,ws.getLast (λz=>by rw[z]at hl;cases hl),(List.dropLast_concat_getLast _).symm⟩
   rw[Qj,QD]at hl;have hl:us.length=j:=by lia
   have du:ZH cs (KP 0 ls) j us:=⟨hl,λi t h=>d.wish i t (by rw[Qu (Qg.mp h).1];exact h),λk c h=>by
    have:=d.cop k c h;rw[List.count_append]at this
    lia⟩
   refine⟨(us,Ku (plain ls o) 0 us),(ih us _).mpr ⟨du,rfl⟩,?_⟩;unfold Zm;have wu:(us++[s])[us.length]?=O s:=by rw[Qw (Qp _),Nat.sub_self];rfl
   cases s with
   |none=>exact Qn.mpr ⟨(v4,0),Jx.mpr ⟨Qo,rfl⟩,by rw[Oc];rfl⟩
   |some t=>
    have hq:=d.wish us.length t wu;obtain⟨i,rs,h1,h2,h3⟩:=Vg hq;have hij:i=j:=by have h2:(us.length:Int)=((0+i:Nat):Int):=h2;lia
    subst hij;have hrs:rs=ls[i]:=by rw[Qd ww]at h1;exact(Q7 h1).symm
    subst hrs;have hlo:=(Om g).lo _ hq;refine Qn.mpr ⟨(O t,plain ls o ((i:Int),t)),Jx.mpr ⟨Qk _ (Qn.mpr ⟨t,by rw[e];exact(Xa _).mem_iff.mpr h3,rfl⟩),?_⟩,by rw[Oc,QS,hl];rfl⟩;have hk:t.toNat<cs.length:=by lia
    have hc:=d.cop t.toNat cs[t.toNat] (Qd hk);rw[show((t.toNat:Nat):Int)=t by lia,List.count_append]at hc;have h1:List.count (O t) [O t]=1:=by simp
    show decide (((us.count (O t):Nat):Int)<cs.getD t.toNat 0)=v5;rw[Qh,Qd hk];exact QJ (by show((us.count (O t):Nat):Int)<cs[t.toNat];lia)
end
section
variable{cs:wc}{ls:L3}{o:Ord}
theorem A3{us:LO}{s:wg×Int}(hlo:∀t,s.1=O t->0<=t/\t<cs.length){Z:U7}{S0:D}(h0:Z[0]?=O (O (.pub (Kw cs ls))))(h5:Z[5]?=O (O (.pub (Kk s.1))))(h7:Z[7]?=O (O (.pub (Kz us)))):mOr (Ke isNon (UZ 5)) (U5 (oIB λi j=>decide (i<j)) (Ts (UZ 7) (U1 (UZ 5) (U0))) (U5 oIx (U9 0 (U3 (.int 0))) (UZ 5))) Z=.ok (XU cs us s.1) Z:=by
 obtain⟨s,v⟩:=s;cases s with
 |none=>exact Dr (KY (k:=isNon) (x:=PyData.none) (U2 h5))
 |some t=>obtain⟨l1,l2⟩:=hlo t v3;exact XJ (KY (k:=isNon) (x:=int t) (U2 h5)) (Kf (HI (U2 h7) (U6 (U2 h5) Kb) Fb) (Kf (Ko h0 U8 SO) (U2 h5) (D6 l1 (by lia))) Wh)
theorem A1(g:Good cs ls):∃X:List LO,Wu [Kw cs ls,ZO o v4 []]=O (.list (X.map Kz))/\(∀us,us∈X ↔ Rv cs (plain ls o) (KP 0 ls) ls.length us)/\X.length<=900000:=by
 have l7:=g.l7;have h7j:∀j,j<=ls.length->(Ym cs ls o j).length<=823543:=λj hj=>QE (He g j hj) (QE (Nat.pow_le_pow_right (by decide) (QE hj l7)) (by decide))
 let G:=Ym cs ls o ls.length
 let M:Int:=most (G.map Prod.snd)
 let X:=(G.filter λp=>decide (p.2=M)).map Prod.fst
 refine⟨X,?_,λus=>?_,?_⟩
 .refine Ze (Z:=[pb (Kw cs ls),pb (ZO o v4 []),v4,v4,v4,v4,v4,v4,v4,v4,v4]) v3 ?_
  unfold T5
  let S0:Option Sl:=O (.pub (Kw cs ls))
  let S1:Option Sl:=O (.pub (ZO o v4 []))
  refine Kn (Z1:=[S0,S1,O (.own ((Ym cs ls o 0).map dvD)),v4,v4,v4,v4,v4,v4,v4,v4]) (Yb (WO (U6 (ZE (U6 (ZJ Kb (Qa v3)) (U6 U8 Kb)) (Qa v3)) Kb) (Qa v3)) (Qa v3) v3) ?_;apply KD;apply ZX (λj Z=>∃s2 x3 x4 x5 x6 x7 x8 x9,Z=[S0,S1,s2,x3,x4,x5,x6,x7,x8,x9,v4]/\(s2=O (.pub (.list ((Ym cs ls o j).map dvD)))∨s2=O (.own ((Ym cs ls o j).map dvD))))
  case h1=>exact We (U6 (ZI (U6 (Ko v3 U8 WX) Kb) Zw) Kb) (Wc (by rw[Qb];lia) (by lia))
  case h0=>exact⟨_,_,_,_,_,_,_,_,rfl,.inr v3⟩
  case hst=>
   rintro j d Z hj ⟨s2,x3,x4,x5,x6,x7,x8,x9,rfl,hs2⟩;obtain⟨rfl,ww⟩:=Wi hj;rw[Qb]at ww;have hjm:j<ls.length:=by lia
   have hls:ls[j]?=O ls[j]:=Qd hjm;have e:ls.getD j []=ls[j]:=by rw[Qh,hls];rfl
   have gr:=g.rk _ (Jq hjm);have hfl:=TB gr;have c6:=g.c6;refine⟨_,Ka (Qa v3) v3,?_⟩;rw[JL];unfold Lo
   let S3:Option Sl:=O (.pub (.int (j:Nat)))
   let ts:=YC ls[j].flatten
   have yx:ts.length<=6:=by show(YC _).length<=6;rw[(Xa _).length_eq];lia
   let so:Nat->List (wg×Int):=λb=>(v4,0)::(ts.take b).map λt=>(O t,plain ls o ((j:Int),t))
   refine Kn (Z1:=[S0,S1,s2,S3,O (.own ((so 0).map ovD)),x5,x6,x7,x8,x9,v4]) (Yb (WO (U6 (ZE (U6 U8 (U6 U8 Kb)) (Qa v3)) Kb) (Qa v3)) (Qa v3) v3) ?_;apply KD;apply ZX (λb Z=>∃x5,Z=[S0,S1,s2,S3,O (.own ((so b).map ovD)),x5,x6,x7,x8,x9,v4])
   case h1=>exact ZD (Kx (U6 (U2 v3) (U6 (U2 v3) Kb)) v3 (Gs (cs:=cs) hls (by lia))) YB
   case h0=>exact⟨_,rfl⟩
   case hst=>
    rintro b d Z hb ⟨x5,rfl⟩;rw[Qf]at hb;cases hz:(YC ls[j].flatten)[b]? with
    |none=>rw[hz]at hb;cases hb
    |some t=>
    rw[hz]at hb;cases hb;have htf:t∈ls[j].flatten:=(Xa _).mem_iff.mp (Qr hz);have hb6:b<6:=by have:=(Qg.mp hz).1;have:ts.length<=6:=yx;have:b<ts.length:=(Qg.mp hz).1;lia
    have hF:plain ls o ((j:Int),t)=Zr ls o v4 [] j ls[j] t:=by show Zr ls o v4 [] (j:Int).toNat (ls.getD (j:Int).toNat []) t=_;rw[Qz,e]
    have hwo:=vb (o:=o) g (ga0 (n:=cs.length)) hls htf;rw[←hF]at hwo;refine⟨_,Ka (Qa v3) v3,?_⟩;unfold Lp;refine Zz (Xj v3 (ZE (U6 (U2 v3) (U6 (Kx (U6 (U2 v3) (U6 (U2 v3) (U6 (U2 v3) (U6 (U2 v3) Kb)))) v3 hwo) Kb)) (Qa v3)) v3 (by rw[Qb,Qv,Qb,Q6];lia) v3) (Zu ⟨O (.pub (.int t)),?_⟩);have:so (b+1)=so b++[(O t,plain ls o ((j:Int),t))]:=by show _::(ts.take (b+1)).map _=_::(ts.take b).map _++_;rw[List.take_add_one,show ts[b]?=O t from hz,Qt];rfl
    rw[this,Qt];rfl
   case hend=>
   rintro Z ⟨x5,rfl⟩;rw[Qb];have eS:so (YC ls[j].flatten).length=Xm ls o j:=by show _::(ts.take ts.length).map _=_;rw[Jj];unfold Xm;rw[e]
   rw[eS];refine KB ?_
   let S:=Xm ls o j
   let F:=Ym cs ls o j
   have hS7:S.length<=7:=Hg g hjm;have hFl:F.length<=823543:=h7j j (by lia);have hnl:(F.flatMap (Zm cs S)).length<=823543:=h7j (j+1) hjm
   have hSlo:∀s∈S,∀t,s.1=O t->0<=t/\t<cs.length:=λs hs t h=>by
    rcases QQ.mp hs with z|z
    .subst z;cases h
    .obtain⟨t',ht',rfl⟩:=Qn.mp z
     cases h;rw[e]at ht';have hm:=(Xa _).mem_iff.mp ht';obtain⟨r,hr,hm⟩:=J0.mp hm;exact gr.there r hr _ hm
   let S2:Option Sl:=O (.pub (.list (F.map dvD)))
   refine Kn (Z1:=[S0,S1,s2,S3,O (.own (S.map ovD)),x5,O (.own []),x7,x8,x9,v4]) (Yb (WO Kb (Qa v3)) (Qa v3) v3) ?_
   have hv:UZ 2 [S0,S1,s2,S3,O (.own (S.map ovD)),x5,O (.own []),x7,x8,x9,v4]=.ok (.list (F.map dvD)) [S0,S1,S2,S3,O (.own (S.map ovD)),x5,O (.own []),x7,x8,x9,v4]:=by
    rcases hs2 with rfl|rfl
    .exact U2 v3
    .exact Yc v3 v3
   apply KD;apply ZX (λa Z=>∃s4 x5 x7 x8 x9,Z=[S0,S1,S2,S3,s4,x5,O (.own (((F.take a).flatMap (Zm cs S)).map dvD)),x7,x8,x9,v4]/\(s4=O (.pub (.list (S.map ovD)))∨s4=O (.own (S.map ovD))))
   case h1=>exact ZD hv YB
   case h0=>exact⟨_,_,_,_,_,rfl,.inr v3⟩
   case hst=>
    rintro a d Z ha ⟨s4,x5,x7,x8,x9,rfl,hs4⟩;rw[Qf]at ha;cases hp:F[a]? with
    |none=>rw[hp]at ha;cases ha
    |some p=>
    rw[hp]at ha;cases ha;obtain⟨us,u⟩:=p;refine⟨_,KJ v3 (Kh (Ka (Qa v3) v3) (Kh (Ka (Qa v3) v3) KL)),?_⟩;unfold Lq
    let S4:Option Sl:=O (.pub (.list (S.map ovD)))
    let S7:Option Sl:=O (.pub (Kz us))
    let S8:Option Sl:=O (.pub (.int u))
    let E:=(F.take a).flatMap (Zm cs S)
    have hul:us.length<=7:=by
     have:=((Tc (o:=o) g j (by lia) us u).mp (Qr hp)).1.len
     lia
    have eN:(F.take (a+1)).flatMap (Zm cs S)=E++Zm cs S (us,u):=by
     rw[List.take_add_one,hp]
     show(F.take a++[(us,u)]).flatMap _=_
     rw[List.flatMap_append,List.flatMap_cons,List.flatMap_nil,Jc]
    have hEl:E.length+7<=1000000:=by
     have h1:=Nl (cs:=cs) hS7 (F.take a)
     have h2:((F.take a).flatMap (Zm cs S)).length<=(F.flatMap (Zm cs S)).length:=by
      have e3:F.flatMap (Zm cs S)=(F.take a).flatMap (Zm cs S)++(F.drop a).flatMap (Zm cs S):=by rw[←List.flatMap_append,JU]
      rw[e3,Qj]
      lia
     have:E.length<=823543:=QE h2 hnl
     lia
    have hv4:UZ 4 [S0,S1,S2,S3,s4,x5,O (.own (E.map dvD)),S7,S8,x9,v4]=.ok (.list (S.map ovD)) [S0,S1,S2,S3,S4,x5,O (.own (E.map dvD)),S7,S8,x9,v4]:=by
     rcases hs4 with rfl|rfl
     .exact U2 v3
     .exact Yc v3 v3
    apply ZX (λb Z=>∃x5 x9,Z=[S0,S1,S2,S3,S4,x5,O (.own ((E++Zm cs (S.take b) (us,u)).map dvD)),S7,S8,x9,v4])
    case h1=>exact ZD hv4 YB
    case h0=>exact⟨_,_,by show _=[S0,S1,S2,S3,S4,_,O (.own ((E++[]).map dvD)),S7,S8,_,v4];rw[Jc]⟩
    case hst=>
     rintro b d Z hb ⟨x5,x9,rfl⟩;rw[Qf]at hb;cases hs:S[b]? with
     |none=>rw[hs]at hb;cases hb
     |some s=>
     rw[hs]at hb;cases hb;have hsm:=Qr hs;refine⟨_,KJ v3 (Kh (Ka (Qa v3) v3) (Kh (Ka (Qa v3) v3) KL)),?_⟩;unfold Lr
     let S5:Option Sl:=O (.pub (Kk s.1))
     let S9:Option Sl:=O (.pub (.int s.2))
     let E2:=E++Zm cs (S.take b) (us,u)
     have e2:Zm cs (S.take (b+1)) (us,u)=Zm cs (S.take b) (us,u)++if XU cs us s.1=v5 then [(us++[s.1],u+s.2)]else []:=by
      unfold Zm;rw[List.take_add_one,hs]
      show((S.take b++[s]).filter _).map _=_
      rw[List.filter_append,Qt]
      congr 1
      cases hf:XU cs us s.1 with
      |true=>rw[List.filter_cons_of_pos (by exact hf)];rfl
      |false=>rw[List.filter_cons_of_neg (by rw[show XU cs (us,u).1 s.1=wa from hf];decide)];rfl
     have hE2:E2.length<1000000:=by
      have h1:=Hf (cs:=cs) (S.take b) (us,u);rw[Q6]at h1;have h2:b<S.length:=(Qg.mp hs).1
      show(E++_).length<_
      rw[Qj]
      lia
     refine KE (b:=XU cs us s.1) (Z1:=[S0,S1,S2,S3,S4,S5,O (.own (E2.map dvD)),S7,S8,S9,v4]) (A3 (ls:=ls) (s:=s) (S0:=.none) (hSlo s hsm) v3 v3 v3) (λh=>?_) λh=>?_
     .refine Zz (Xj v3 (ZE (U6 (Kf (U2 v3) (ZJ (U6 (U2 v3) Kb) (Qa v3)) (Xg (x:=us.map Kk) (y:=[Kk s.1]) (by rw[Qb,QD];lia))) (U6 (Kf (U2 v3) (U2 v3) Zf) Kb)) (Qa v3)) v3 (by rw[Qb];exact hE2) v3) (Zu ⟨S5,S9,?_⟩)
      rw[e2,Qq h,←Q2,Qt (l₂:=[(us++[s.1],u+s.2)])];show _=[S0,S1,S2,S3,S4,S5,O (.own (E2.map dvD++[dvD (us++[s.1],u+s.2)])),S7,S8,S9,v4];have e9:dvD (us++[s.1],u+s.2)=.tuple [.list (us.map Kk++[Kk s.1]),.int (u+s.2)]:=by unfold dvD Kz;rw[Qt];rfl
      rw[e9];rfl
     .refine KO (Zu ⟨S5,S9,?_⟩)
      rw[e2,QB (by rw[h];decide),Jc]
    case hend=>rintro Z ⟨x5,x9,rfl⟩;rw[Qb,Jj];exact Zu ⟨_,_,_,_,_,by rw[eN],.inl rfl⟩
   case hend=>rintro Z ⟨s4,x5,x7,x8,x9,rfl,hs4⟩;rw[Qb,Jj];exact KB (Zz (KH (Yc rfl rfl) (Qa rfl) rfl) (Zu ⟨_,_,_,_,_,_,_,_,rfl,.inl rfl⟩))
  case hend=>
  rintro Z ⟨s2,x3,x4,x5,x6,x7,x8,x9,rfl,hs2⟩;rw[XG,Qb,show((ls.length:Int)-0).toNat=ls.length by lia]at hs2;have hG:G.length<=823543:=h7j ls.length (Qp _);have hpos:0<(G.map Prod.snd).length:=by rw[Qb];obtain⟨w0,_,_,h0⟩:=P0 (o:=o) g ga0;exact JQ.mpr (List.ne_nil_of_mem ((Tc g ls.length (Qp _) w0 _).mpr ⟨RU h0.dl,rfl⟩))
  let S2:Option Sl:=O (.pub (.list (G.map dvD)))
  have hv:UZ 2 [S0,S1,s2,x3,x4,x5,x6,x7,x8,x9,v4]=.ok (.list (G.map dvD)) [S0,S1,S2,x3,x4,x5,x6,x7,x8,x9,v4]:=by
   rcases hs2 with rfl|rfl
   .exact U2 v3
   .exact Yc v3 v3
  have hm:WV [.list ((G.map Prod.snd).map int)]=O (.int M):=Nx hpos;refine KB (Kn (Z1:=[S0,S1,S2,x3,x4,x5,x6,x7,x8,x9,pb (.int M)]) (KH (ZI (U6 (KY (Yj (ZD hv YB) ((Ti dvD (λ_=>v5) (λp=>int p.2) (λZ=>∃y3 y4 y5 y6 y7 y8 y9 x y,Z=[S0,S1,S2,y3,y4,y5,y6,y7,y8,y9,v4,x,y]) G _ [] ?_ ⟨_,_,_,_,_,_,_,v4,v4,rfl⟩ (by rw[QC];lia)).trans (by rw[Jd,JY.mpr (λ_ _=>rfl)])))) Kb) (by rw[show(G.map λp=>int p.2)=(G.map Prod.snd).map int by rw[QT];rfl];exact hm)) (Qa v3) v3) ?_)
  .rintro p _ Z ⟨y3,y4,y5,y6,y7,y8,y9,x,y,rfl⟩
   exact⟨_,KJ v3 (Kh (Ka (Qa v3) v3) (Kh (Ka (Qa v3) v3) KL)),rfl,λ_=>U2 v3,K5 y3,K5 y4,K5 y5,K5 y6,K5 y7,K5 y8,K5 y9,_,_,rfl⟩
  refine KG (KY (Yj (ZD (U2 v3) YB) ((Ti dvD (λp=>decide (p.2=M)) (λp=>Kz p.1) (λZ=>∃y3 y4 y5 y6 y7 y8 y9 x y,Z=[S0,S1,S2,y3,y4,y5,y6,y7,y8,y9,pb (.int M),x,y]) G _ [] ?_ ⟨_,_,_,_,_,_,_,v4,v4,rfl⟩ (by rw[QC];lia)).trans (by rw[Jd];show _=O ((List.map Prod.fst _).map Kz);rw[QT];rfl)))) v3;rintro p _ Z ⟨y3,y4,y5,y6,y7,y8,y9,x,y,rfl⟩;exact⟨_,KJ v3 (Kh (Ka (Qa v3) v3) (Kh (Ka (Qa v3) v3) KL)),Yk v3 (U2 v3) YL,λ_=>U2 v3,K5 y3,K5 y4,K5 y5,K5 y6,K5 y7,K5 y8,K5 y9,_,_,rfl⟩
 .have hpos:0<(G.map Prod.snd).length:=by
   rw[Qb];obtain⟨w0,_,_,h0⟩:=P0 (o:=o) g ga0;exact JQ.mpr (List.ne_nil_of_mem ((Tc g ls.length (Qp _) w0 _).mpr ⟨RU h0.dl,rfl⟩))
  have top:∀vs,ZH cs (KP 0 ls) ls.length vs->Ku (plain ls o) 0 vs<=M:=λvs hv=>PQ (Qn.mpr ⟨(vs,Ku (plain ls o) 0 vs),(Tc g ls.length (Qp _) vs _).mpr ⟨hv,rfl⟩,rfl⟩);constructor
  .intro h
   obtain⟨⟨w,v⟩,hp,rfl⟩:=Qn.mp h;obtain⟨h1,h2⟩:=Jx.mp hp;obtain⟨d,rfl⟩:=(Tc g ls.length (Qp _) w v).mp h1;have h2:Ku (plain ls o) 0 w=M:=Qa h2;exact⟨d,λvs hv=>by rw[h2];exact top vs hv⟩
  .intro h
   obtain⟨⟨w,v⟩,hp,e⟩:=Qn.mp (R3 hpos);obtain⟨d,rfl⟩:=(Tc g ls.length (Qp _) w v).mp hp;have e:Ku (plain ls o) 0 w=M:=e;have h1:=h.mx w d;have h2:=top us h.dl;exact Qn.mpr ⟨(us,Ku (plain ls o) 0 us),Jx.mpr ⟨(Tc g ls.length (Qp _) us _).mpr ⟨h.dl,rfl⟩,QJ (by show Ku (plain ls o) 0 us=M;lia)⟩,rfl⟩
 .show(List.map _ _).length<=_
  rw[Qb];exact QE (JJ _ _) (QE (h7j ls.length (Qp _)) (by decide))
end
noncomputable def usW(us:LO):Chg->LO
 |.com _=>us++[v4]
 |.go a=>us.eraseIdx a
 |_=>us
section
variable{cs:wc}{ls:L3}{ch:Chg}{us:LO}
theorem M7{a:Nat}:(us.map Kk).eraseIdx a=(us.eraseIdx a).map Kk:=by rw[Q4,←Uh,←Uy,←Qt,←Q4]
theorem M6(ch:Chg):∃(w:Str),oIx (chD ch) (.int 0)=O (.str w) /\
  ((∃rs,ch=.com rs/\oEq (.str w) (.str "come")=O v5) ∨
   (∃a,ch=.go a/\oEq (.str w) (.str "come")=O wa/\oEq (.str w) (.str "go")=O v5/\oIx (chD ch) (.int 1)=O (.int (a:Nat))) ∨
   ((∀us,usW us ch=us)/\oEq (.str w) (.str "come")=O wa/\oEq (.str w) (.str "go")=O wa)):=by
 cases ch with
 |lst a rs=>exact⟨_,rfl,.inr (.inr ⟨λ_=>rfl,by kernel_rfl,by kernel_rfl⟩)⟩
 |cop t k=>exact⟨_,rfl,.inr (.inr ⟨λ_=>rfl,by kernel_rfl,by kernel_rfl⟩)⟩
 |com rs=>exact⟨_,rfl,.inl ⟨rs,rfl,by kernel_rfl⟩⟩
 |go a=>exact⟨_,rfl,.inr (.inl ⟨a,rfl,by kernel_rfl,by kernel_rfl,rfl⟩)⟩
 |thg k=>exact⟨_,rfl,.inr (.inr ⟨λ_=>rfl,by kernel_rfl,by kernel_rfl⟩)⟩
theorem xY(h:∀a,ch=.go a->a<us.length)(hl:us.length<=7):Ws [chD ch,Kz us]=O (Kz (usW us ch)):=by
 let C:Option Sl:=O (.pub (chD ch))
 let U:Option Sl:=O (.pub (Kz us))
 have lu:(us.map Kk).length<=7:=by rw[Qb];exact hl
 refine Ze (Z:=[C,U,v4]) v3 ?_;unfold TY;refine Kn (Z1:=[C,U,O (.own (us.map Kk))]) (Yb (Rq v3 v3) (Qa v3) v3) ?_;obtain⟨w,i0,q|q|q⟩:=M6 ch
 .obtain⟨rs,rfl,h1⟩:=q
  apply KD;refine KE (b:=v5) (Kf (Ko v3 U8 i0) U8 h1) (λ_=>Zz (Xj v3 U8 v3 (by lia) v3) (KB ?_)) λz=>by cases z
  apply KD
  refine KE (b:=wa) (Kf (Ko v3 U8 i0) U8 (by
   have:w = "come" :=by cases i0;rfl
   subst this
   kernel_rfl)) (λz=>by cases z) λ_=>KO (KB ?_)
  refine KG (Yc v3 v3) ?_;show _=Out.rt (Kz (us++[v4]));unfold Kz;rw[Qt];rfl
 .obtain⟨a,rfl,h1,h2,i1⟩:=q
  have ha:=h a v3;apply KD;refine KE (b:=wa) (Kf (Ko v3 U8 i0) U8 h1) (λz=>by cases z) λ_=>KO (KB ?_)
  apply KD;refine KE (b:=v5) (Kf (Ko v3 U8 i0) U8 h2) (λ_=>Zz (Xi (ME (m:=a) v3 (Ko v3 U8 i1) v3 (by lia) (Qd (by rw[Qb];exact ha)))) (KB ?_)) λz=>by cases z
  refine KG (Yc v3 v3) ?_;show Out.rt (UM ((us.map Kk).eraseIdx a))=_;rw[M7];rfl
 .obtain⟨h0,h1,h2⟩:=q
  apply KD;refine KE (b:=wa) (Kf (Ko v3 U8 i0) U8 h1) (λz=>by cases z) λ_=>KO (KB ?_)
  apply KD;refine KE (b:=wa) (Kf (Ko v3 U8 i0) U8 h2) (λz=>by cases z) λ_=>KO (KB ?_)
  rw[h0];exact KG (Yc v3 v3) v3
end
noncomputable def nSm(ws:LO):Nat:=(ws.filter Option.isSome).length
section
variable{cs:wc}{ls:L3}{ch:Chg}{us ws:LO}{o:Ord}
theorem Fp(g:Good cs ls)(hc:YO cs.length ls.length ch)(hb:Z9 cs.length ls.length ch=v5):X0 [Kw cs ls,chD ch]=O (beD cs ls ch):=by
 let W:Option Sl:=O (.pub (Kw cs ls))
 let C:Option Sl:=O (.pub (chD ch))
 have gb:=OV g hc hb;have hf:=qe hb;refine Ze (Z:=[W,C,v4]) v3 ?_;unfold Sb;refine Kn (Xi (Kx (U6 (U2 v3) Kb) v3 (TH g))) ?_;apply KD;refine KE (b:=wa) (XA (t:=v5) (Wd (Kx (U6 (U2 v3) (U6 (U2 v3) Kb)) v3 (D1.trans (by rw[hf]))))) (λz=>by cases z) λ_=>KO (KB ?_)
 refine Kn (Z1:=[W,C,pb (beD cs ls ch)]) (KH (Kx (U6 (U2 v3) (U6 (U2 v3) Kb)) v3 (xM g hf)) (Qa v3) v3) ?_;refine Kn (Al (Xi (Kx (U6 (U2 v3) Kb) v3 (TH gb)))) ?_;exact KG (Kx (U6 (U2 v3) Kb) v3 (qd gb)) v3
theorem kj(g:Good cs ls)(hc:YO cs.length ls.length ch)(hu:us.length=ls.length)(hb:Z9 cs.length ls.length ch=v5):Vz [Kw cs ls,chD ch,Kz us]=O (Kz (usW us ch)):=by
 have l7:=g.l7
 let W:Option Sl:=O (.pub (Kw cs ls))
 let C:Option Sl:=O (.pub (chD ch))
 let U:Option Sl:=O (.pub (Kz us))
 have lu:(us.map Kk).length<=1000:=by rw[Qb];lia
 refine Ze (Z:=[W,C,U]) v3 ?_;unfold Sa;refine Kn (Xi (Kx (U6 (U2 v3) (U6 (U2 v3) Kb)) v3 (Fp g hc hb))) ?_;obtain⟨w,i0,h|h|h⟩:=M6 ch
 .obtain⟨rs,rfl,h1⟩:=h
  apply KD;refine KE (b:=v5) (Kf (Ko v3 U8 i0) U8 h1) (λ_=>KG (Kf (U2 v3) (ZJ (U6 U8 Kb) (Qa v3)) (Xg (x:=us.map Kk) (y:=[PyData.none]) (by rw[QD];lia))) (Yo ?_)) λz=>by cases z
  show Out.rt (.list (us.map Kk++[.none]))=Out.rt (Kz (us++[v4]));unfold Kz;rw[Qt];rfl
 .obtain⟨a,rfl,h1,h2,i1⟩:=h
  apply KD;refine KE (b:=wa) (Kf (Ko v3 U8 i0) U8 h1) (λz=>by cases z) λ_=>KO (KB ?_)
  apply KD;refine KE (b:=v5) (Kf (Ko v3 U8 i0) U8 h2) (λ_=>KG (Kf (Xy (U2 v3) U8 (YT (Ko v3 U8 i1)) Pg) (Xy (U2 v3) (YT (Kf (Ko v3 U8 i1) U8 Zf)) U8 PF) (Xg (by rw[Q6,Jl];lia))) (Yo ?_)) λz=>by cases z
  rw[←Q4,M7];rfl
 .obtain⟨h0,h1,h2⟩:=h
  apply KD;refine KE (b:=wa) (Kf (Ko v3 U8 i0) U8 h1) (λz=>by cases z) λ_=>KO (KB ?_)
  apply KD;refine KE (b:=wa) (Kf (Ko v3 U8 i0) U8 h2) (λz=>by cases z) λ_=>KO (KB ?_)
  exact KG (KY (Rq v3 v3)) (by rw[h0 us];rfl)
theorem M5(hu:us.length=ls.length)(hb:Z9 cs.length ls.length ch=v5):(usW us ch).length=(chW cs ls ch).2.length:=by
 cases ch with
 |lst a rs=>show us.length=(ls.set a rs).length;rw[QZ,hu]
 |cop t k=>exact hu
 |com rs=>show(us++[v4]).length=(ls++[rs]).length;rw[Qj,Qj,hu];rfl
 |go a=>
  show(us.eraseIdx a).length=(ls.eraseIdx a).length
  rw[List.length_eraseIdx,List.length_eraseIdx,hu]
 |thg k=>exact hu
theorem DY{t:Int}(h:O t∈usW us ch):O t∈us:=by
 cases ch with
 |com rs=>
  rcases QW.mp h with h|h
  .exact h
  .cases QM.mp h
 |go a=>exact List.mem_of_mem_eraseIdx h
 |lst a rs=>exact h
 |cop t k=>exact h
 |thg k=>exact h
theorem A0:cs.length<=(chW cs ls ch).1.length:=by
 cases ch with
 |cop t k=>show cs.length<=(cs.set t k).length;rw[QZ];exact Qp _
 |thg k=>show cs.length<=(cs++[(k:Int)]).length;rw[Qj];lia
 |lst a rs=>exact Qp _
 |com rs=>exact Qp _
 |go a=>exact Qp _
noncomputable def mvd(old us:LO):wn:=(UK old.length).filter λi=>(old.getD i v4).isSome&&decide (us.getD i v4≠old.getD i v4)
theorem Nk:∀(old us:LO),us.length=old.length->(mvd old us).length+Zh (O old) us=nSm old
 |[],[],_=>rfl
 |[],_::_,h=>by cases h
 |_::_,[],h=>by cases h
 |a::old,u::us,h=>by
  have ih:=Nk old us (by simpa using h)
  have e:(mvd (a::old) (u::us)).length=(if a.isSome&&decide (u≠a)then 1 else 0)+(mvd old us).length:=by
   unfold mvd;rw[Qv,List.range_succ_eq_map,Uo,List.filter_map,List.getD_cons_zero,List.getD_cons_zero];have e2:(UK old.length).filter ((λi=>((a::old).getD i v4).isSome&&decide ((u::us).getD i v4≠(a::old).getD i v4)) ∘ Nat.succ)=(UK old.length).filter λi=>(old.getD i v4).isSome&&decide (us.getD i v4≠old.getD i v4):=rfl;rw[e2];split
   .rw[Qv,Qb];lia
   .rw[Qb];lia
  have e3:Zh (O (a::old)) (u::us)=(if decide (a=u)&&u.isSome then 1 else 0)+Zh (O old) us:=by
   show(((a,u)::old.zip us).filter λp=>decide (p.1=p.2)&&p.2.isSome).length=_
   rw[Uo]
   show(if(decide (a=u)&&u.isSome)=v5 then _ else _:List (wg×wg)).length=_
   split
   .rw[Qv]
    show _+1=1+((old.zip us).filter _).length
    lia
   .rw[QS];rfl
  have e4:nSm (a::old)=(if a.isSome then 1 else 0)+nSm old:=by
   unfold nSm;rw[Uo];cases a with
   |none=>simp
   |some t=>simp;lia
  rw[e,e3,e4];cases a with
  |none=>cases u<;>simp<;>lia
  |some t=>
   cases u with
   |none=>simp;lia
   |some s=>
    by_cases z:t=s
    .subst z;simp;lia
    .have z2:¬s=t:=λk=>z k.symm
     simp[z,z2];lia
theorem Gx(hl:us.length=ws.length)(h7:us.length<=100):Xs [Kz us,Kz ws]=O (.list ((mvd us ws).map λi:Nat=>int i)):=by
 refine Ze (Z:=[pb (Kz us),pb (Kz ws),v4]) v3 ?_;unfold TX
 let S0:Option Sl:=O (.pub (Kz us))
 let S1:Option Sl:=O (.pub (Kz ws))
 let H:=(UK us.length).filter λi=>(us.getD i v4).isSome
 let S2:Option Sl:=O (.own (H.map λi:Nat=>int i))
 have hlen:Kr [Kz us]=O (.int (us.length:Nat)):=by show O (int ((us.map Kk).length:Nat))=_;rw[Qb]
 have er:Z8 0 (us.length:Nat)=(UK us.length).map λi:Nat=>int i:=by
  refine Jt λi=>?_
  cases hi:(Z8 0 ((us.length:Nat):Int))[i]? with
  |none=>have h:=JV.mp hi;rw[XG]at h;exact(JV.mpr (by rw[Qb,Qx];lia)).symm
  |some d=>obtain⟨rfl,hlt⟩:=Wi hi;rw[Qf,QU (by lia),JL];rfl
 refine Kn (Z1:=[S0,S1,S2]) (Yb (Yj (We (U6 (Zq v3 hlen) Kb) ((Wc (by lia) (by lia)).trans (Us O er))) ((Ti (λi:Nat=>int i) (λi=>(us.getD i v4).isSome) (λi:Nat=>int i) (λZ=>∃x,Z=[S0,S1,v4,x]) (UK us.length) _ [] ?_ ⟨v4,rfl⟩ (by rw[QC,Qx];lia)).trans (by rw[Jd]))) (Qa v3) v3) ?_
 .rintro i hi Z ⟨x,rfl⟩
  have hi:=Q3.mp hi;have h:=Tu (ws:=us) (k:=(i:Int)) (by lia) (by lia);rw[Qz]at h;refine⟨_,Ka (Qa v3) v3,?_,λ_=>U2 v3,_,rfl⟩;have e:(!isNon (Kk (us.getD i v4)))=(us.getD i v4).isSome:=by cases us.getD i v4<;>rfl
  rw[←e];exact KY (Ko v3 (U2 v3) h)
 have hH:∀i∈H,i<us.length:=λi hi=>Q3.mp (Jx.mp hi).1;have hHl:H.length<=100:=QE (JJ _ _) (by rw[Qx];exact h7)
 refine KG (KY (Yj (ZD (Yc v3 v3) YB) ((Ti (λi:Nat=>int i) (λi=>decide (ws.getD i v4≠us.getD i v4)) (λi:Nat=>int i) (λZ=>∃x,Z=[S0,S1,pb (.list (H.map λi:Nat=>int i)),x]) H _ [] ?_ ⟨v4,rfl⟩ (by rw[QC];lia)).trans (by rw[Jd,List.filter_filter];unfold mvd;congr 2;refine List.filter_congr λi _=>?_;rw[Bool.and_comm])))) v3;rintro i hi Z ⟨x,rfl⟩;have hi:=hH i hi;have h:=Tu (ws:=us) (k:=(i:Int)) (by lia) (by lia);have h2:=Tu (ws:=ws) (k:=(i:Int)) (by lia) (by lia);rw[Qz]at h h2;refine⟨_,Ka (Qa v3) v3,Kf (Ko v3 (U2 v3) h2) (Ko v3 (U2 v3) h) ?_,λ_=>U2 v3,_,rfl⟩;rw[OE]
 congr 1
 by_cases z:ws.getD i v4=us.getD i v4
 .rw[QJ z,QG (λk=>k z)];rfl
 .rw[QG z,QJ z];rfl
end
section
variable{cs:wc}{ls:L3}{ch:Chg}{us ws:LO}{o:Ord}
theorem qc(g:Good cs ls)(hc:YO cs.length ls.length ch)(hu:Deal cs ls us)(hb:Z9 cs.length ls.length ch=v5):∃w p,Wv [Kw cs ls,chD ch,.str o.tx,Kz us]=O (.tuple [beD cs ls ch,Kz w,.list ((mvd (usW us ch) w).map λi:Nat=>int i),p])/\OptQ (chW cs ls ch).1 (chW cs ls ch).2 o (O (usW us ch)) [] w/\YA (chW cs ls ch).1.length (chW cs ls ch).2.length (O (usW us ch)) []:=by
 have gb:=OV g hc hb;have l7:=gb.l7;have hl:=M5 (us:=us) hu.len hb
 have ga:YA (chW cs ls ch).1.length (chW cs ls ch).2.length (O (usW us ch)) []:=⟨λws e=>by cases e;exact hl,λws t e m=>by
  cases e;have m:=DY m;obtain⟨i,hi⟩:=List.getElem?_of_mem m;have wt:i<ls.length:=by have:=(Qg.mp hi).1;have:=hu.len;lia
  have h:=hu.wish i t _ hi (Qd wt);obtain⟨r,hr,ht⟩:=J0.mp h;have:=(g.rk _ (Jq wt)).there r hr t ht;have:=A0 (cs:=cs) (ls:=ls) (ch:=ch)
  lia,List.nodup_nil,λa h=>by cases h⟩
 obtain⟨w,p,hbd,hq⟩:=P0 (o:=o) gb ga;refine⟨w,p,?_,hq,ga⟩
 let old:=usW us ch
 have wE:w.length=old.length:=hq.dl.len.trans hl.symm;refine Ze (Z:=[pb (Kw cs ls),pb (chD ch),pb (.str o.tx),pb (Kz us),v4,v4,v4,v4,v4]) v3 ?_;unfold T9
 let S0:Option Sl:=O (.pub (Kw cs ls))
 let S1:Option Sl:=O (.pub (chD ch))
 let S2:Option Sl:=O (.pub (.str o.tx))
 let S3:Option Sl:=O (.pub (Kz us))
 let S4:Option Sl:=O (.pub (beD cs ls ch))
 let S5:Option Sl:=O (.pub (Kz old))
 let S6:Option Sl:=O (.pub (Kz w))
 let S7:Option Sl:=O (.pub p)
 refine Kn (Xi (Kx (U6 (U2 v3) Kb) v3 (TH g))) ?_;refine Kn (Xi (Kx (U6 (U2 v3) Kb) v3 (Go o))) ?_;refine Kn (Z1:=[S0,S1,S2,S3,S4,v4,v4,v4,v4]) (KH (Kx (U6 (U2 v3) (U6 (U2 v3) Kb)) v3 (Fp g hc hb)) (Qa v3) v3) ?_;refine Kn (Z1:=[S0,S1,S2,S3,S4,S5,v4,v4,v4]) (KH (Kx (U6 (U2 v3) (U6 (U2 v3) (U6 (U2 v3) Kb))) v3 (kj g hc hu.len hb)) (Qa v3) v3) ?_;refine Kn (Z1:=[S0,S1,S2,S3,S4,S5,S6,S7,v4]) (Xz (Kx (U6 (U2 v3) (U6 (ZE (U6 (U2 v3) (U6 (U2 v3) (U6 (ZJ Kb (Qa v3)) Kb))) (Qa v3)) Kb)) v3 hbd) (KJ v3 (Kh (Ka (Qa v3) v3) (Kh (Ka (Qa v3) v3) KL)))) ?_
 have eE:Yz 0 (old.map Kk)=(UK old.length).map λi:Nat=>PyData.tuple [.int i,Kk (old.getD i v4)]:=by
  refine Jt λi=>?_
  cases hi:(Yz 0 (old.map Kk))[i]? with
  |none=>have h:=JV.mp hi;rw[Y1,Qb]at h;exact(JV.mpr (by rw[Qb,Qx];exact h)).symm
  |some d=>obtain⟨x,hx,rfl⟩:=Wb hi;have wt:=(Qg.mp hx).1;rw[Qb]at wt;rw[Qf,Qd wt]at hx;cases hx;rw[Qf,QU wt,QS];show _=O (PyData.tuple [.int i,Kk (old.getD i v4)]);rw[Qh,Qd wt];rfl
 have yc:old.length<=7:=by show(usW us ch).length<=7;lia
 refine Kn (Z1:=[S0,S1,S2,S3,S4,S5,S6,S7,O (.own ((mvd old w).map λi:Nat=>int i))]) (Yb (Yj (WN (U6 (U2 v3) Kb) (WT.trans (Us O eE))) ((Ti (λi:Nat=>PyData.tuple [.int i,Kk (old.getD i v4)]) (λi=>(old.getD i v4).isSome&&decide (w.getD i v4≠old.getD i v4)) (λi:Nat=>int i) (λZ=>∃x y,Z=[S0,S1,S2,S3,S4,S5,S6,S7,v4,x,y]) (UK old.length) _ [] ?_ ⟨v4,v4,rfl⟩ (by rw[QC,Qx];lia)).trans (by rw[Jd];rfl))) (Qa v3) v3) ?_
 .rintro i hi Z ⟨x,y,rfl⟩
  have hi:=Q3.mp hi;have h:=Tu (ws:=w) (k:=(i:Int)) (by lia) (by lia);rw[Qz]at h;have e:(!isNon (Kk (old.getD i v4)))=(old.getD i v4).isSome:=by cases old.getD i v4<;>rfl
  refine⟨_,KJ v3 (Kh (Ka (Qa v3) v3) (Kh (Ka (Qa v3) v3) KL)),?_,λ_=>U2 v3,_,_,rfl⟩;rw[←e];refine Pt (KY (U2 v3)) λ_=>Kf (Ko v3 (U2 v3) h) (U2 v3) ?_;rw[OE]
  congr 1
  by_cases z:w.getD i v4=old.getD i v4
  .rw[QJ z,QG (λk=>k z)];rfl
  .rw[QG z,QJ z];rfl
 exact KG (ZE (U6 (U2 v3) (U6 (U2 v3) (U6 (Yc v3 v3) (U6 (U2 v3) Kb)))) (Qa v3)) v3
theorem DX(l:wn):oNe (.list (l.map λi:Nat=>int i)) (.list (l.map λi:Nat=>int i))=O wa:=by rw[show(l.map λi:Nat=>int i)=(l.map λi:Nat=>(i:Int)).map int by rw[QT];rfl];exact LD (P5 _) (by have h:=P4 (l.map λi:Nat=>(i:Int));have h:(UM ((l.map λi:Nat=>(i:Int)).map int)).depth<=2:=h;lia)
theorem OD(ns:wc)(hns:ns.length<=63)(s:Int)(h:0<=s):∃v,YJ [.list (ns.map int),.int s]=O (.int v):=by obtain⟨v,hv⟩:=N8 ns s.toNat (by lia);rw[Int.toNat_of_nonneg h]at hv;exact⟨v,hv⟩
theorem AZ(ns:wc)(hns:ns.length<=63)(at_:Nat):Vq [.list (ns.map int),.int at_]=O (.bool v5):=by
 refine Ze (Z:=[pb (.list (ns.map int)),pb (.int (at_:Nat)),v4,v4,v4,v4,v4,v4,v4,v4,v4,v4,v4,v4]) v3 ?_;unfold TW;obtain⟨r,hr,cs,ls,rfl,g,_,_,_⟩:=vd 3 3 3 (ns:=ns) (by lia) at_;obtain⟨v6,hv6⟩:=OD ns hns ((at_:Int)+6) (by lia);obtain⟨v7,hv7⟩:=OD ns hns ((at_:Int)+7) (by lia);obtain⟨v8,hv8⟩:=OD ns hns ((at_:Int)+8) (by lia);obtain⟨r,hd,us,rfl,du⟩:=kF g v6 ((at_:Int)+6)
 obtain⟨r,hn,dg,rfl,hdl,hdb⟩:=R8 v7 ((at_:Int)+7) (sizes:=[3,8]) (λx hx=>by
  rcases QQ.mp hx with rfl|hx
  .decide
  .rw[QM.mp hx];decide) (by decide)
 obtain⟨d0,d1,rfl⟩:∃d0 d1,dg=[d0,d1]:=by
  match dg,hdl with
  |[a,b],_=>exact⟨a,b,rfl⟩
 have b0:=hdb 0 d0 3 v3 v3;have b1:=hdb 1 d1 8 v3 v3
 obtain⟨o,ho⟩:∃o:Ord,oIx (.list [.str "firsts", .str "full", .str "lasts"]) (.int d0)=O (.str o.tx):=by
  have:d0=0∨d0=1∨d0=2:=by lia
  rcases this with rfl|rfl|rfl
  .exact⟨.firsts,rfl⟩
  .exact⟨.full,rfl⟩
  .exact⟨.lasts,rfl⟩
 obtain⟨r,hch,y2,rfl,hc0⟩:=xO g v8 ((at_:Int)+8)
 let S0:Option Sl:=O (.pub (.list (ns.map int)))
 let S1:Option Sl:=O (.pub (.int (at_:Nat)))
 let S2:Option Sl:=O (.pub (Kw cs ls))
 let S3:Option Sl:=O (.pub (Kz us))
 let S4:Option Sl:=O (.pub (.list [.int d0,.int d1]))
 let S5:Option Sl:=O (.pub (.str o.tx))
 refine Kn (Z1:=[S0,S1,S2,v4,v4,v4,v4,v4,v4,v4,v4,v4,v4,v4]) (KH (Kx (U6 (U2 v3) (U6 (U2 v3) (U6 U8 (U6 U8 (U6 U8 Kb))))) v3 hr) (Qa v3) v3) ?_;refine Kn (Z1:=[S0,S1,S2,S3,v4,v4,v4,v4,v4,v4,v4,v4,v4,v4]) (KH (Kx (U6 (U2 v3) (U6 (Kx (U6 (U2 v3) (U6 (Kf (U2 v3) U8 Zf) Kb)) v3 hv6) (U6 (Kf (U2 v3) U8 Zf) Kb))) v3 hd) (Qa v3) v3) ?_;refine Kn (Z1:=[S0,S1,S2,S3,S4,v4,v4,v4,v4,v4,v4,v4,v4,v4]) (KH (Kx (U6 (Kx (U6 (U2 v3) (U6 (Kf (U2 v3) U8 Zf) Kb)) v3 hv7) (U6 (Kf (U2 v3) U8 Zf) (U6 (ZJ (U6 U8 (U6 U8 Kb)) (Qa v3)) Kb))) v3 hn) (Qa v3) v3) ?_;refine Kn (Z1:=[S0,S1,S2,S3,S4,S5,v4,v4,v4,v4,v4,v4,v4,v4]) (KH (Kf (ZJ (U6 U8 (U6 U8 (U6 U8 Kb))) (Qa v3)) (Ko v3 U8 (Z7 (j:=0) v3)) ho) (Qa v3) v3) ?_;refine Kn (Z1:=[S0,S1,S2,S3,S4,S5,pb (chD y2),v4,v4,v4,v4,v4,v4,v4]) (KH (Kx (U6 (U2 v3) (U6 (Kx (U6 (U2 v3) (U6 (Kf (U2 v3) U8 Zf) Kb)) v3 hv8) (U6 (Kf (U2 v3) U8 Zf) Kb))) v3 hch) (Qa v3) v3) ?_;have fin:∀ch:Chg,YO cs.length ls.length ch->Z9 cs.length ls.length ch=v5->∀t:SM,t=(U4 (Zs (Kd 4 Wv (U1 (UZ 2) (U1 (UZ 6) (U1 (UZ 5) (U1 (UZ 3) (U0)))))) (gT 4 (gNC (gN 7) (gNC (gN 8) (gNC (gN 9) (gNC (gN 10) (gN0)))))))
 (U4 (Ki 11 (Kd 2 Wt (U1 (UZ 2) (U1 (UZ 6) (U0)))))
 (U4 (Ki 12 (Kd 2 Ws (U1 (UZ 6) (U1 (UZ 3) (U0)))))
 (U4 (sIf (mOr (K6 oNe 7 (UZ 11)) (K6 oNe 9 (Kd 2 Xs (U1 (UZ 12) (U1 (UZ 8) (U0))))))
 (Kc (U3 (.bool wa)))
 (sNx))
 (U4 (Ki 13 (Kd 2 Wu (U1 (UZ 11) (U1 (Kt (U1 (UZ 5) (U1 (U3 .none) (U1 (KF (U0)) (U0))))) (U0)))))
 (U4 (sIf (K6 Y5 8 (UZ 13))
 (Kc (U3 (.bool wa)))
 (sNx))
 (Kc (Ke UN (U5 oEq (K7 9) (Zt V8 (U1 (Ke UM (ZC (K8 (UZ 13)) 1 (gN 14) (U3 v5) (Zt Kr (U1 (Kd 2 Xs (U1 (UZ 12) (U1 (UZ 14) (U0)))) (U0))))) (U0))))))))))))->Ho t [S0,S1,S2,S3,S4,S5,pb (chD ch),v4,v4,v4,v4,v4,v4,v4] (λo=>o=.rt (.bool v5)):=by
  rintro ch hc hb t rfl;obtain⟨w,p,hm,hq,ga⟩:=qc (o:=o) g hc du hb;have gb:=OV g hc hb;have l7:=gb.l7;have hl:=M5 (us:=us) du.len hb
  let old:=usW us ch
  have yc:old.length<=7:=by show(usW us ch).length<=7;lia
  have wE:old.length=w.length:=hl.trans hq.dl.len.symm
  let S6:Option Sl:=O (.pub (chD ch))
  let S7:Option Sl:=O (.pub (beD cs ls ch))
  let S8:Option Sl:=O (.pub (Kz w))
  let S9:Option Sl:=O (.pub (.list ((mvd old w).map λi:Nat=>int i)))
  let S10:Option Sl:=O (.pub p)
  let S12:Option Sl:=O (.pub (Kz old))
  refine Kn (Z1:=[S0,S1,S2,S3,S4,S5,S6,S7,S8,S9,S10,v4,v4,v4]) (Xz (Kx (U6 (U2 v3) (U6 (U2 v3) (U6 (U2 v3) (U6 (U2 v3) Kb)))) v3 hm) (KJ v3 (Kh (Ka (Qa v3) v3) (Kh (Ka (Qa v3) v3) (Kh (Ka (Qa v3) v3) (Kh (Ka (Qa v3) v3) KL)))))) ?_;refine Kn (Z1:=[S0,S1,S2,S3,S4,S5,S6,S7,S8,S9,S10,S7,v4,v4]) (KH (Kx (U6 (U2 v3) (U6 (U2 v3) Kb)) v3 (A4 g hb)) (Qa v3) v3) ?_;have hgo:∀a,ch=.go a->a<us.length:=λa e=>by subst e;have hb:(decide (a<ls.length)&&decide (1<ls.length))=v5:=hb;have:=Qa (Uk.mp hb).1;rw[du.len];exact this
  have u7:us.length<=7:=by rw[du.len];exact g.l7
  refine Kn (Z1:=[S0,S1,S2,S3,S4,S5,S6,S7,S8,S9,S10,S7,S12,v4]) (KH (Kx (U6 (U2 v3) (U6 (U2 v3) Kb)) v3 (xY hgo u7)) (Qa v3) v3) ?_;have nw:oNe (beD cs ls ch) (beD cs ls ch)=O wa:=LD (AW _ _) (QE (AV _ _) (by decide));apply KD;refine KE (b:=wa) (Z1:=[S0,S1,S2,S3,S4,S5,S6,S7,S8,S9,S10,S7,S12,v4]) (XJ (Yk v3 (U2 v3) nw) (Yk v3 (Kx (U6 (U2 v3) (U6 (U2 v3) Kb)) v3 (Gx wE (by lia))) (DX _))) (λz=>by cases z) λ_=>KO (KB ?_)
  obtain⟨X,hX,hXm,hXl⟩:=A1 (o:=o) gb
  let S13:Option Sl:=O (.pub (.list (X.map Kz)))
  refine Kn (Z1:=[S0,S1,S2,S3,S4,S5,S6,S7,S8,S9,S10,S7,S12,S13]) (KH (Kx (U6 (U2 v3) (U6 (ZE (U6 (U2 v3) (U6 U8 (U6 (ZJ Kb (Qa v3)) Kb))) (Qa v3)) Kb)) v3 hX) (Qa v3) v3) ?_;have hwX:w∈X:=(hXm w).mpr (km gb ga (Hh hq));have hin:Y5 (Kz w) (.list (X.map Kz))=O wa:=by unfold Y5;rw[Ay,QJ hwX];rfl
  apply KD;refine KE (b:=wa) (Z1:=[S0,S1,S2,S3,S4,S5,S6,S7,S8,S9,S10,S7,S12,S13]) (Yk v3 (U2 v3) hin) (λz=>by cases z) λ_=>KO (KB ?_)
  have ye:∀x∈X,x.length=old.length:=λx hx=>((hXm x).mp hx).dl.len.trans hl.symm
  have hle:∀x∈X,(mvd old w).length<=(mvd old x).length:=λx hx=>by
   have k1:=Nk old w wE.symm;have k2:=Nk old x (ye x hx);have k3:=(Hj gb ga (Hi ((hXm x).mp hx)) hq).2;have k3:Zh (O old) x<=Zh (O old) w:=k3
   lia
  have hmin:V8 [.list ((X.map λx=>((mvd old x).length:Int)).map int)]=O (.int ((mvd old w).length:Nat)):=by
   have hpos:0<(X.map λx=>((mvd old x).length:Int)).length:=by rw[Qb];exact JQ.mpr (List.ne_nil_of_mem hwX)
   rw[Ai hpos];have h1:=NC (ns:=X.map λx=>((mvd old x).length:Int)) (Qn.mpr ⟨w,hwX,rfl⟩);obtain⟨x,hx,e⟩:=Qn.mp (NN hpos);have h2:=hle x hx
   congr 2
   lia
  have hlen:Kr [.list ((mvd old w).map λi:Nat=>int i)]=O (.int ((mvd old w).length:Nat)):=by rw[Zw,Qb]
  refine KG (KY (Kf (Zq v3 hlen) (ZI (U6 (KY (Yj (ZD (U2 v3) YB) ((Ti Kz (λ_=>v5) (λx=>int ((mvd old x).length:Int)) (λZ=>∃x,Z=[S0,S1,S2,S3,S4,S5,S6,S7,S8,S9,S10,S7,S12,S13,x]) X _ [] ?_ ⟨v4,rfl⟩ (by rw[QC];lia)).trans (by rw[Jd,JY.mpr (λ_ _=>rfl)])))) Kb) (by rw[show(X.map λx=>int ((mvd old x).length:Int))=(X.map λx=>((mvd old x).length:Int)).map int by rw[QT];rfl];exact hmin)) YL)) (by rw[QJ v3]);rintro x hx Z ⟨y,rfl⟩;refine⟨_,Ka (Qa v3) v3,rfl,λ_=>ZI (U6 (Kx (U6 (U2 v3) (U6 (U2 v3) Kb)) v3 (Gx (ye x hx).symm (by lia))) Kb) (by rw[Zw,Qb]),_,rfl⟩
 apply KD;have hgd:=xN g hc0;cases hb:Z9 cs.length ls.length y2 with
 |true=>rw[hb]at hgd;exact KE (b:=wa) (Z1:=[S0,S1,S2,S3,S4,S5,pb (chD y2),v4,v4,v4,v4,v4,v4,v4]) (XA (t:=v5) (Wd (Kx (U6 (U2 v3) (U6 (U2 v3) Kb)) v3 hgd))) (λz=>by cases z) λ_=>KO (KB (fin y2 hc0 hb _ v3))
 |false=>
  rw[hb]at hgd;obtain⟨k,rfl⟩:∃k:Nat,d1=k:=⟨d1.toNat,by lia⟩
  have hc:YO cs.length ls.length (.cop 0 k):=⟨J6 _,by lia⟩
  have hb:Z9 cs.length ls.length (.cop 0 k)=v5:=Bool.and_eq_true_iff.mpr ⟨QJ g.c1,QJ (by lia)⟩;exact KE (b:=v5) (Z1:=[S0,S1,S2,S3,S4,S5,pb (chD y2),v4,v4,v4,v4,v4,v4,v4]) (XA (t:=wa) (Wd (Kx (U6 (U2 v3) (U6 (U2 v3) Kb)) v3 hgd))) (λ_=>Zz (KH (ZE (U6 U8 (U6 U8 (U6 (Ko v3 U8 (Z7 (j:=1) v3)) Kb))) (Qa v3)) (Qa v3) v3) (KB (fin (.cop 0 k) hc hb _ v3))) λz=>by cases z
end
theorem AY:∀ns:wc,ns.length<=63->Vp [.list (ns.map int)]=O (.bool v5):=by
 intro ns hns;refine Ze (Z:=[pb (.list (ns.map int)),v4]) v3 ?_;unfold TV
 let S0:Option Sl:=O (.pub (.list (ns.map int)))
 have hlen:Kr [.list (ns.map int)]=O (.int ns.length):=by rw[Zw,Qb]
 apply KD;apply ZX (λ_ Z=>∃x,Z=[S0,x])
 case h1=>exact C7 (U6 U8 (U6 (ZI (U6 U8 (U6 (ZI (U6 U8 (U6 (Zq v3 hlen) Kb)) Bu) Kb)) Nj) (U6 U8 Kb))) (rngS (by split<;>(try split)<;>lia) (by split<;>(try split)<;>lia) (by decide) (by decide))
 case h0=>exact⟨_,rfl⟩
 case hst=>
  rintro i d Z hi ⟨x,rfl⟩;have hd:=xH hi;obtain⟨at_,hat⟩:∃k:Nat,(0:Int)+(i:Int)*10=k:=⟨i*10,by lia⟩
  rw[hat]at hd;subst hd;refine⟨_,Ka (Qa v3) v3,?_⟩;unfold Lb;exact KE (b:=wa) (XA (t:=v5) (Wd (Kx (U6 (U2 v3) (U6 (U2 v3) Kb)) v3 (AZ ns hns at_)))) (λz=>by cases z) λ_=>KO (Zu ⟨_,rfl⟩)
 case hend=>rintro Z ⟨x,rfl⟩;exact KB (KG U8 rfl)
end W
open PySem PySem.W PyProof.Rows
set_option maxRecDepth 100000 in
set_option maxHeartbeats 0 in
theorem PySem.Challenge.cw_wishdeal_k75_whole_fewest_moved_holds : PySem.Challenge.rw_wishdeal_k75_whole_fewest_moved.Holds := by
 w_on;o_law
 refine holds_open (q:=W.q0) (loose:=["SIZES"]) (Xt:=λs=>xlAt W.q0 [] s&&recOk [] s) (XP:=XL W.q0 []) (Yf:=λs=>(DL.xSeen W.clsL s,DL.SQ "SIZES" s.heap)) (Ya:=λw=>(DL.xGood W.p0 W.clsL,DL.SW w [("list", 3),("copies", 3),("come", 2),("go", 2),("thing", 2)])) (YP:=λw h=>DL.XYP W.p0 W.clsL h/\DL.TabP w "SIZES" [("list", 3),("copies", 3),("come", 2),("go", 2),("thing", 2)] h) (N:=6032) (d:=W.d_cg) (kwd:=[])
  W.Dy (λ_ _ e=>⟨DL.Dm (JS e).1,DL.De (JS e).2⟩) (λ_ _ _ y k=>⟨y.1.keeps k,y.2.keeps k⟩) (λs e=>xl_of s (Uk.mp e).1) XL.keeps (by rfl) (by rfl) (by rfl)
  (λs e=>recFacts_of (Uk.mp e).2) (by rfl) (by assumption) (by decide +kernel) ⟨rfl,rfl,rfl,rfl,rfl,by decide +kernel⟩ ?hw (W.walk W.AY)
 case hw=>w_witness2


import PyProof.Rows.All
import Wide.All
import OpenK.AllK
import Wide.FinOn
import Lean
import PyProof.EqAt
import PyProof.EqKinds
import PyProof.TupleCall
import PyProof.EnumMake
import PyProof.ZipIter
import PyProof.ExcClass2
import PyProof.ExcInit
import PyProof.ExcBaseAll.ValueError
import PyProof.FString2
import PyProof.ExcArgsOwn
import PyProof.InstStoreFacts
import ObjForm.Fk.InstStore
import ObjForm.Fk.InstLoad
import PyProof.StationsW
import PyProof.RulesAs
import PyProof.NsDelKeeps
import OpenK.KMore
import PyProof.IsiBase
import OpenK.KNot
import PyProof.Rows.RuleN_isinstance
import PyProof.NeData
import PyProof.P3In
import PyProof.StrWalks
import PyProof.ConsumeWalk
import PyProof.SliceStr2
import PyProof.MeetsStr
import KE.KItem
import KE.KUnpack
import KE.KRevSl
import PyProof.Rows.SetFrom
import PyProof.SetRoads
import PyProof.Rows.Range3
import PyProof.CallType
import PyProof.Rows.CallKwBuiltin
import PyProof.Rows.MinMaxN
import PyProof.SumWalkG
import PyProof.Rows.SeqMore
import PyProof.Rows.SortWalk
import PyProof.Rows.SumAny
import PyProof.Rows.SeqMore2
import KE.KSortTup
import PyProof.Rows.SortShellK
import PyProof.ReprRoads
import PyProof.ReprBulk
import PyProof.CallFns
import PyProof.NeKinds
import PyProof.Rows.StrJoinMade
import PyProof.StrCalls
import KE.KIntText
import PyProof.ReprDict
import PyProof.DictIter
import PyProof.Rows.DictUnroll
import PyProof.MeetsStr2
import PyProof.Rows.StrNews
import PyProof.StrLawsChain
import PyProof.Rows.StrItems
import PyProof.SeqRoads2
import PySem.Challenge.RW_wishdeal_k71_wishes_changed
set_option compiler.extract_closed false
set_option Elab.async false
set_option linter.all false
set_option maxRecDepth 100000
set_option maxHeartbeats 4000000
open Option renaming some→O,none→B0
open Bool renaming true→B2,false→B3
theorem Z.{u}{α:Sort u}{a:α}:a=a:=rfl
abbrev B6:=List Int
abbrev Ac:=Option Int
abbrev Ad:=List Nat
abbrev Af:=Option Bool
theorem Qa:type_of% @of_decide_eq_true:=@of_decide_eq_true
theorem Qr:type_of% @if_pos:=@if_pos
theorem QD:type_of% @if_neg:=@if_neg
theorem QE:type_of% @decide_eq_true:=@decide_eq_true
theorem QP:type_of% @decide_eq_false:=@decide_eq_false
theorem QY:type_of% @decide_eq_true_eq:=@decide_eq_true_eq
theorem JQ:type_of% @congrArg:=@congrArg
theorem JT:type_of% @if_false:=@if_false
open PySem renaming wpAny_bind→Qb,wpAny_pure→Qg,wpAny_loadPart_at→Qh,wpAny_mono→QA,wpAny_isSubtype_exc→QC,wpAny_field→Q4,wpAny_standAt→Q6,wpAny_setField→Q8,mem_of_lookup→Q9,wpAny_truthy_bool→Ja,wpAny_Call_Name_kw→Jk,wpAny_execs_nil→Js,codeAny_mono→Jt,wpAny_newObj_type→Jv,Value→JU,Shared→JV,Program→JW,Addr→JX,FuncData→JY,Expr→JZ,sizeLine→J0,wpAny→J4,starEach→J5,compareOp→J6,assignEach→Uk,foldedSetIterable→Ul
open List renaming length_map→Qd,getElem?_set_ne→Qi,mem_cons_of_mem→Qj,mem_cons_self→Qk,mem_append_right→Qm,length_append→Qo,getElem?_eq_getElem→Qp,mem_append_left→Qs,map_cons→Qu,getElem?_append_left→Qv,mem_map→Qw,getElem?_eq_some_iff→Qy,getElem?_append_right→Qz,length_cons→QB,mem_append→QG,nodup_append→QH,getElem?_replicate→QI,mem_singleton→QJ,length_singleton→QK,getElem?_set_self→QL,mem_cons→QM,flatten_cons→QN,getElem?_map→QO,length_set→QQ,all_eq_true→QS,append_nil→QT,size_toArray→QU,lookup_cons→QW,length_nil→QX,contains_cons→Q1,map_append→Q2,mem_of_getElem?→Q3,length_replicate→Q5,nodup_cons→Jc,append_assoc→Jf,map_map→Jg,eraseIdx_eq_take_drop_succ→Jh,replicate_succ→Jj,nil_append→Jp,all_cons→Ju,mem_range→Jz,drop_eq_getElem_cons→JA,reverse_cons→JC,filter_eq_self→JG,length_drop→JH,getElem?_cons_succ→JI,zip_cons_cons→JL,length_take→JN,map_nil→JO,range→J7,replicate→J8,Pairwise→Ui
open PySem.Heap renaming get?_push_of_some→Qe,lt_size→Qf,get?_update_other→Ql,get?_push_size→QF,get?_update_self→QR,size_push→Jm
open Bool renaming and_eq_true→Qn,false_eq_true→Jy,true_and→JM,or_true→JP
open Nat renaming le_trans→Qq,le_refl→Qt,lt_of_lt_of_le→Qx,ne_of_lt→QZ,le_of_not_lt→Q0,ne_of_gt→Ji,le_succ→Jn,lt_irrefl→Jo,le_of_lt→JR,zero_le→JS
open Option.some renaming inj→Q7
open Array renaming getElem?_eq_some_iff→Jb,getElem?_setIfInBounds_ne→Jr
open PySem.Obj renaming data_mapFields→Jd,isFreed_of_fields→Je
open PySem.W.Fast renaming te1987589406359920131→Jl
open PySem.W renaming kia_one→Jq,callWith_K→JK
open PySem.F renaming plainAttrs_list→Jw,slot_list_append→JE,type_list_append→JF
open PyProof.Rows renaming callWith_type1→Jx
open Prod.mk renaming inj→JB
open Int renaming toNat_natCast→JD
open Option renaming getD_some→JJ
open PySem.PyData renaming list→J9,bool→Ua,str→Ub,strOk→Uc,canLayAll0→Ud,depth→Ue,eqv→Uf,shown→Uj
open PySem.PassesOwn renaming never→Ug
open PySem.Str renaming ofString→Uh
abbrev B5:=List JU
abbrev B7:=Option JU
abbrev B8:=List JZ
abbrev Aa:=List JX
abbrev Ae:=Option JX
abbrev L3:=List (List B6)
open PySem.W (Frag)
open PySem.PyData (int)
open List (replicate)
namespace DL
open PySem PySem.Spec PySem.W PyProof.Rows
def topRunT(tb:String->Option Builtin)(p:JW)(w:World)(m:Nat)(ann:B7):Nat->SharedT->Thread->Option SharedT
 |0,_,_=>B0
 |n+1,s,t=>match through t,stepOk m ann t with
  |true,_=>O s
  |false,B3=>B0
  |false,B2=>match stepT (denote tb) p w s t with
   |some x=>topRunT tb p w m ann n x.1 x.2
   |none=>B0
theorem NZ{tb:String->Option Builtin}{p:JW}{w:World}{m:Nat}{ann:B7}:∀{n:Nat}{s s':SharedT}{t:Thread},topRunT tb p w m ann n s t=O s'->topRun tb p w m ann n s.abs t=O s'.abs
 |0,_,_,_,h=>by cases h
 |n+1,s,s',t,h=>by
  rw[topRunT]at h;rw[topRun];cases ht:through t with
  |true=>rw[ht]at h;cases h;rfl
  |false=>
   rw[ht]at h;cases hk:stepOk m ann t with
   |false=>rw[hk]at h;cases h
   |true=>
    rw[hk]at h;dsimp only at h⊢;cases hs:stepT (denote tb) p w s t with
    |none=>rw[hs]at h;cases h
    |some x=>rw[hs]at h;rw[stepT_spec hs];exact NZ h
def btOf(l:List Obj):BT:=(l.foldl (λ(x:BT×Nat) o=>(x.1.ins x.2 o,x.2+1)) (.nil,0)).1
noncomputable def T0 (w:World) (os:OsState):SharedT:=⟨btOf (boot_heap w.params).objs.toList,11,(boot_heap w.params).life,#[],boot_drawn,boot_toks,os⟩
theorem Dd(w:World)(os:OsState):(T0 w os).abs=⟨boot_heap w.params,#[],boot_drawn,boot_toks,os⟩:=by kernel_rfl
theorem Cy(w:World):((boot_heap w.params).isNs mainGlobals&&(#[]:Array GenState).size==0,(boot_heap w.params).objs.size,(boot_heap w.params).nsMap mainGlobals "__annotations__")=(B2,11,O (.ref 6)):=by kernel_rfl
noncomputable abbrev ML (p q:JW) (loose:List Str) (Xt:JV->Bool) (w:World) (t:SharedT):=
 ((staticsOk (importedModules p.main.body) (boot_heap w.params) t.abs.heap&&namesBound p t.abs.heap&&gensDone t.abs&&laidKept (boot_heap w.params) t.abs.heap),openSeen q loose (importedModules p.main.body) Xt B2 t.abs)
abbrev VB0:B5:=[.type "ValueError", .type "Exception", .type "BaseException", .type "object"]
def Sy:List Str:=["__setattr__", "__getattribute__", "__getattr__", "__class__", "part", "number", "row"]
def XY(nm:Str):Str:=nm ++ "." ++ "__init__"
def xB(h:Heap)(nm:Str)(own:Bool):Bool:=match h.nsMap mainGlobals nm with
 |some (.ref C)=>(match h.get? C with
  |some ⟨.type t,_,.cls cd,sl⟩=>(t == "type")&&(cd.name==nm)&&cd.hasDict && !cd.hasDel&&(match sl.toList with | [_,_,_,_,k4,_]=>decide (k4=O (.builtin "ValueError.__new__"))|_=>B3)&&h.isNs cd.ns&&(Sy.all λx=>(h.nsMap cd.ns x).isNone)&&(own || (h.nsMap cd.ns "__init__").isNone) &&
   (if nm = "DealError" then decide (cd.mro=.ref C::VB0)else match h.nsMap mainGlobals "DealError" with|some (.ref D)=>decide (cd.mro=.ref C::.ref D::VB0)|_=>B3)
  |_=>B3)
 |_=>B3
def xSh(h:Heap)(nm:Str):Option (Bool×FnShape):=match h.nsMap mainGlobals nm with
 |some (.ref C)=>(match h.get? C with
  |some ⟨_,_,.cls cd,_⟩=>(match h.fnAt cd.ns "__init__", h.shapeAt cd.ns "__init__" with|some (_,o,_),O sh=>O (decide (o.cls=.type "function"),sh)|_,_=>B0)
  |_=>B0)
 |_=>B0
def ZG(st:Stmt):Stmt:=match st with
 |.ClassDef _ _ _ (m::_) _ _ _ _ _ _ _=>m
 |_=>.Pass ⟨0,0,0,0⟩
def RZ(s:Stmt):Arguments:=match s with
 |.FunctionDef _ a _ _ _ _ _ _ _ _=>a
 |_=>default
def RY(s:Stmt):List Stmt:=match s with
 |.FunctionDef _ _ b _ _ _ _ _ _ _=>b
 |_=>[]
def Pv(s:Stmt):Scope:=match s with
 |.FunctionDef _ _ _ _ _ _ sc _ _ _=>sc
 |_=>{kind:=.function,names:=[],isGenerator:=B3,isCoroutine:=B3}
def WC(nm:Str)(st:Stmt):FnShape:=⟨"__init__", XY nm,RZ st,.stmts (RY st),Pv st,mainGlobals,[],.none,.none,B0,.none,builtinsNs,B2⟩
abbrev XL0:=List (Str×Option Nat)
def xSeen(l:XL0)(s:JV):Bool×List (Bool×Option (Bool×FnShape)):=(s.heap.isNs cStatics&&(s.heap.nsMap cStatics "thirdparty.any").isNone,l.map λc=>(xB s.heap c.1 c.2.isSome,if c.2.isSome then xSh s.heap c.1 else B0))
def xGood(p:JW)(l:XL0):Bool×List (Bool×Option (Bool×FnShape)):=(B2,l.map λc=>(B2,c.2.map λi=>(B2,WC c.1 (ZG (p.main.body.getD i (.Pass ⟨0,0,0,0⟩))))))
theorem Dc{α:Type}{Yf:JV->α}{Ya:World->α}{p q:JW}{loose:List Str}{Xt:JV->Bool}{N M:Nat}(e:opening p=plainProg p.main.scope.names)(hN:Nat.ble 600 N=B2)(f:∀s,fenceModules? p s=O s)(le:Nat.ble M N=B2)
  (run:∀(w:World)(os:OsState),(topRunT treeTable p w 11 (O (.ref 6)) M (T0 w os) (topStub p)).map (λt=>(ML p q loose Xt w t,Yf t.abs))=O ((B2,openGood q loose),Ya w)):LeftO p q loose Xt Yf Ya N:=λw=>by
 obtain⟨⟨h,gs,d,k,os⟩,e0,e'⟩:=Option.map_eq_some_iff.mp (boot_open e hN f w);have e':(h,gs,d,k)=(boot_heap w.params,#[],boot_drawn,boot_toks):=e';obtain⟨rfl,rfl,rfl,rfl⟩:h=boot_heap w.params/\gs=#[]/\d=boot_drawn/\k=boot_toks:=by simpa only[Prod.mk.injEq]using e'
 obtain⟨t,ht,l⟩:=Option.map_eq_some_iff.mp (run w os);have hr:=NZ ht;rw[Dd]at hr;have r:=topRun_mono (N-M) _ _ _ _ hr;rw[show M+(N-M)=N by have:=Nat.le_of_ble_eq_true le;lia]at r;obtain⟨l0,l3⟩:=JB l;obtain⟨l1,l2⟩:=JB l0;have z:=Cy w;obtain⟨z1,z2,z3⟩:_/\_/\_:=by simpa only[Prod.mk.injEq]using z
 have tf:topFrom treeTable p w N ⟨boot_heap w.params,#[],boot_drawn,boot_toks,os⟩=O t.abs:=by
  unfold topFrom;dsimp only;rw[z1,z2,z3,r]
  show(match staticsOk (importedModules p.main.body) (boot_heap w.params) t.abs.heap&&namesBound p t.abs.heap&&gensDone t.abs&&laidKept (boot_heap w.params) t.abs.heap with|true=>O t.abs|false=>B0)=_
  rw[l1]
 unfold openEnds;rw[e0]
 show(topFrom treeTable p w N _).map _=_
 rw[tf];exact JQ O (Prod.ext l2 l3)
def YD(e:DictEntry):Int×Option Str×Ac:=(e.hash,match e.key with | .str x _=>O x|_=>B0,match e.val with | .int i _=>O i|_=>B0)
def Va(nm:Str)(h:Heap):Option (Bool×List (Int×Option Str×Ac)):=match h.nsMap mainGlobals nm with
 |some (.ref a)=>(match h.get? a with
  |some ⟨.type t,B0,.dict es _,sl⟩=>O ((t == "dict")&&(sl.size==0)&&(a != sysModules)&&h.isNs mainGlobals,es.toList.map YD)
  |_=>B0)
 |_=>B0
def W9(w:World)(D:List (Str×Int)):Option (Bool×List (Int×Option Str×Ac)):=O (B2,D.map λp=>(hashStr w p.1,O p.1,O p.2))
end DL
open PySem in
lay_quick PySem.Challenge.pw_wishdeal_k71_wishes_changed DL.topRunT PySem.W.openGood PySem.W.staticsOk PySem.W.namesBound PySem.W.laidKept PySem.W.xlAt DL.xSeen DL.xGood
namespace W
open PySem PySem.Spec DL
noncomputable abbrev p0:JW:=PySem.Challenge.pw_wishdeal_k71_wishes_changed
noncomputable def ZV:Ad:=[1,2,3,4,6,7,9,10,11,12,13,14,15,16,17,18,20,21,22,23,25,26,27,28,29,30,31,32,33,34,35,36,37]
noncomputable def ixL:Ad:=[6,7,13,14,15,16,17,18,21,22,23,25,26,27,28,29,30,31,32,33,34,35,36,37]
noncomputable abbrev q0:JW:=PySem.W.view p0 ZV
noncomputable def clsL:XL0:=[("DealError", O 1),("NoWishes", O 2),("NoAim", O 3),("NoChange", B0)]
theorem Hv:∀(w:World)(os:OsState),(PySem.W.Fast.tw10708255244068714335 PySem.W.Fast.tw14364793385576792824 PySem.W.Fast.tw5785691039854041590 (w.withFollow "special-get-raises" true) 11 (O (.ref 6)) 1912 (T0 (w.withFollow "special-get-raises" true) os) (PySem.W.topStub PySem.W.Fast.tw5785691039854041590)).map (λt=>(((PySem.W.Fast.tw13471830651028734593 (PySem.W.Fast.tw5923862056798008813 (Program.main PySem.W.Fast.tw5785691039854041590).body) (PySem.W.boot_heap (w.withFollow "special-get-raises" true).params) t.abs.heap&&PySem.W.Fast.tw4683006035507612052 PySem.W.Fast.tw5785691039854041590 t.abs.heap&&PySem.W.gensDone t.abs&&PySem.W.Fast.tw16898566250750103049 (PySem.W.boot_heap (w.withFollow "special-get-raises" true).params) t.abs.heap),PySem.W.Fast.tw4187177175401517315 (PySem.W.view PySem.W.Fast.tw5785691039854041590 ZV) ["SIZES"] (PySem.W.Fast.tw5923862056798008813 (Program.main PySem.W.Fast.tw5785691039854041590).body) (λs=>PySem.W.Fast.tw4757257242682413121 (PySem.W.view PySem.W.Fast.tw5785691039854041590 ZV) [] s&&PySem.W.recOk [] s) B2 t.abs),(PySem.W.Fast.tw11121216462471823999 clsL t.abs,Va "SIZES" t.abs.heap)))=O ((B2,PySem.W.Fast.tw3486900944545009338 (PySem.W.view PySem.W.Fast.tw5785691039854041590 ZV) ["SIZES"]),(PySem.W.Fast.tw18030470931243306169 PySem.W.Fast.tw5785691039854041590 clsL,W9 (w.withFollow "special-get-raises" true) [("list", 3),("copies", 3),("come", 2),("go", 2),("thing", 2)])):=by intro w os;kernel_rfl
theorem Hu:∀(w:World)(os:OsState),(PySem.W.Fast.tw10708255244068714335 PySem.W.Fast.tw14364793385576792824 PySem.W.Fast.tw5785691039854041590 (w.withFollow "special-get-raises" false) 11 (O (.ref 6)) 1912 (T0 (w.withFollow "special-get-raises" false) os) (PySem.W.topStub PySem.W.Fast.tw5785691039854041590)).map (λt=>(((PySem.W.Fast.tw13471830651028734593 (PySem.W.Fast.tw5923862056798008813 (Program.main PySem.W.Fast.tw5785691039854041590).body) (PySem.W.boot_heap (w.withFollow "special-get-raises" false).params) t.abs.heap&&PySem.W.Fast.tw4683006035507612052 PySem.W.Fast.tw5785691039854041590 t.abs.heap&&PySem.W.gensDone t.abs&&PySem.W.Fast.tw16898566250750103049 (PySem.W.boot_heap (w.withFollow "special-get-raises" false).params) t.abs.heap),PySem.W.Fast.tw4187177175401517315 (PySem.W.view PySem.W.Fast.tw5785691039854041590 ZV) ["SIZES"] (PySem.W.Fast.tw5923862056798008813 (Program.main PySem.W.Fast.tw5785691039854041590).body) (λs=>PySem.W.Fast.tw4757257242682413121 (PySem.W.view PySem.W.Fast.tw5785691039854041590 ZV) [] s&&PySem.W.recOk [] s) B2 t.abs),(PySem.W.Fast.tw11121216462471823999 clsL t.abs,Va "SIZES" t.abs.heap)))=O ((B2,PySem.W.Fast.tw3486900944545009338 (PySem.W.view PySem.W.Fast.tw5785691039854041590 ZV) ["SIZES"]),(PySem.W.Fast.tw18030470931243306169 PySem.W.Fast.tw5785691039854041590 clsL,W9 (w.withFollow "special-get-raises" false) [("list", 3),("copies", 3),("come", 2),("go", 2),("thing", 2)])):=by intro w os;kernel_rfl
theorem MK:PySem.W.LeftO p0 q0 ["SIZES"] (λs=>PySem.W.xlAt q0 [] s&&PySem.W.recOk [] s) (λs=>(xSeen clsL s,Va "SIZES" s.heap)) (λw=>(xGood p0 clsL,W9 w [("list", 3),("copies", 3),("come", 2),("go", 2),("thing", 2)])) 3724:=by
 refine Dc (M:=1912) (by kernel_rfl) Z (λs=>by kernel_rfl) Z λw os=>?_
 cases e:w.params.followText "special-get-raises" with
 |true=>
  have hw:w.withFollow "special-get-raises" true=w:=by rw[←e,PySem.World.withFollow_self]
  have h:=Hv w os;rw[←PySem.W.Fast.te10708255244068714335,←PySem.W.Fast.te14364793385576792824,←PySem.W.Fast.te4187177175401517315,←PySem.W.Fast.te5923862056798008813,←PySem.W.Fast.te13471830651028734593,←PySem.W.Fast.te4683006035507612052,←PySem.W.Fast.te16898566250750103049,←PySem.W.Fast.te4757257242682413121,←PySem.W.Fast.te3486900944545009338,←PySem.W.Fast.te11121216462471823999,←PySem.W.Fast.te18030470931243306169,←PySem.W.Fast.te5785691039854041590,hw]at h;exact h
 |false=>
  have hw:w.withFollow "special-get-raises" false=w:=by rw[←e,PySem.World.withFollow_self]
  have h:=Hu w os;rw[←PySem.W.Fast.te10708255244068714335,←PySem.W.Fast.te14364793385576792824,←PySem.W.Fast.te4187177175401517315,←PySem.W.Fast.te5923862056798008813,←PySem.W.Fast.te13471830651028734593,←PySem.W.Fast.te4683006035507612052,←PySem.W.Fast.te16898566250750103049,←PySem.W.Fast.te4757257242682413121,←PySem.W.Fast.te3486900944545009338,←PySem.W.Fast.te11121216462471823999,←PySem.W.Fast.te18030470931243306169,←PySem.W.Fast.te5785691039854041590,hw]at h;exact h
end W
namespace L2
open PySem PySem.Spec PyProof.Rows
abbrev Key:=Sum Int Str
abbrev Ag:=List Key
noncomputable def Wl:Key->JU->Bool
 |.inl k,v=>Value.isInt k v
 |.inr x,v=>Value.isStrOf x v
noncomputable def keyH(w:World):Key->Int
 |.inl k=>hashInt k
 |.inr x=>hashStr w x
theorem Y5:∀{k:Key}{v:JU},Wl k v=B2->(∃i t,k=Sum.inl i/\v=Value.int i t)∨(∃x t,k=Sum.inr x/\v=Value.str x t)
 |.inl i,v,h=>by obtain⟨t,e⟩:=Value.isInt_shape (k:=i) (v:=v) h;exact .inl ⟨i,t,rfl,e⟩
 |.inr x,v,h=>by obtain⟨t,e⟩:=Value.isStrOf_shape (x:=x) (v:=v) h;exact .inr ⟨x,t,rfl,e⟩
theorem Cw(i:Int)(t:Tok):Wl (.inl i) (.int i t)=B2:=by simp[Wl,Value.isInt]
theorem Cv(x:Str)(t:Tok):Wl (.inr x) (.str x t)=B2:=by simp[Wl,Value.isStrOf]
theorem Ht(a b:Int):decide ((Sum.inl a:Key)=Sum.inl b)=(a==b):=by
 by_cases e:a=b
 .subst e;simp
 .have h:¬(Sum.inl a:Key)=Sum.inl b:=λq=>e (Sum.inl.inj q)
  rw[QP h];exact(beq_eq_false_iff_ne.mpr e).symm
theorem Hs(a b:Str):decide ((Sum.inr a:Key)=Sum.inr b)=decide (a=b):=by
 by_cases e:a=b
 .subst e;simp
 .have h:¬(Sum.inr a:Key)=Sum.inr b:=λq=>e (Sum.inr.inj q)
  rw[QP h,QP e]
theorem Hr(a:Int)(b:Str):decide ((Sum.inl a:Key)=Sum.inr b)=B3:=QP (λq=>nomatch q)
theorem Hq(a:Str)(b:Int):decide ((Sum.inr a:Key)=Sum.inl b)=B3:=QP (λq=>nomatch q)
noncomputable def ZY(prog:JW)(w:World):PySem.KeyKind prog w Key where
 is:=Wl
 hash:=keyH w
 inj:=λv a b ha hb=>by
  rcases Y5 ha with ⟨i,t,rfl,rfl⟩|⟨x,t,rfl,rfl⟩
  .rcases Y5 hb with ⟨j,u,rfl,e⟩|⟨y,u,rfl,e⟩
   .injection e with e1 _;rw[e1]
   .exact nomatch e
  .rcases Y5 hb with ⟨j,u,rfl,e⟩|⟨y,u,rfl,e⟩
   .exact nomatch e
   .injection e with e1 _;rw[e1]
 byValue:=λk v h=>by rcases Y5 h with ⟨i,t,rfl,rfl⟩|⟨x,t,rfl,rfl⟩<;>rfl
 pyHash:=λhv h=>by
  rcases Y5 hv with ⟨i,t,rfl,rfl⟩|⟨x,t,rfl,rfl⟩
  .exact wpAny_pyHash_int h
  .exact wpAny_pyHash_str h
 eqBool:=λhu hv h=>by
  rcases Y5 hu with ⟨i,t,rfl,rfl⟩|⟨x,t,rfl,rfl⟩
  .rcases Y5 hv with ⟨j,u,rfl,rfl⟩|⟨y,u,rfl,rfl⟩
   .rw[Ht]at h;exact wpAny_eqBool_int h
   .rw[Hr]at h;exact SeqAt.EqAt.int_str i t y u _ _ _ _ h
  .rcases Y5 hv with ⟨j,u,rfl,rfl⟩|⟨y,u,rfl,rfl⟩
   .rw[Hq]at h;exact SeqAt.EqAt.str_int x t j u _ _ _ _ h
   .rw[Hs]at h;exact wpAny_eqBool_str h
 «strs»:=λk x t v h=>by
  rcases Y5 h with ⟨i,u,rfl,e⟩|⟨y,u,rfl,e⟩
  .exact nomatch e
  .injection e with e1 _
   subst e1;cases v<;>rfl
theorem Bp(prog:JW)(w:World)(i:Int)(t:Tok):(ZY prog w).is (.inl i) (.int i t)=B2:=Cw i t
theorem Rz(prog:JW)(w:World)(x:Str)(t:Tok):(ZY prog w).is (.inr x) (.str x t)=B2:=Cv x t
inductive V where
 |non|bl (b:Bool)|int (i:Int)|str (x:Str)|byt (b:Array UInt8)|flt (b:UInt64)|ref (a:JX)|ty (n:String)
 deriving DecidableEq
noncomputable def RelV:V->JU->Prop
 |.non,u=>u=Value.none
 |.bl b,u=>u=Value.bool b
 |.int i,u=>∃t,u=Value.int i t
 |.str x,u=>∃t,u=Value.str x t
 |.byt b,u=>∃t,u=Value.bytes b t
 |.flt b,u=>∃t,u=Value.float b t
 |.ref a,u=>u=Value.ref a
 |.ty n,u=>u=Value.type n
noncomputable abbrev Vals:List V->B5->Prop:=Paired RelV
theorem Vals.length{xs:List V}{us:B5}(r:Vals xs us):xs.length=us.length:=Paired.length r
theorem Vals.get:∀{xs:List V}{us:B5}{i:Nat}{x:V},Vals xs us->xs[i]?=O x->∃u,us[i]?=O u/\RelV x u
 |_,_,_,_,.nil,e=>by simp at e
 |_,_,0,_,.cons r _,e=>by simp at e;subst e;exact⟨_,rfl,r⟩
 |_,_,i+1,x,.cons _ t,e=>by obtain⟨u,h1,h2⟩:=Vals.get (i:=i) (x:=x) t (by simpa using e);exact⟨u,by simpa using h1,h2⟩
theorem Vals.set{x:V}{u:JU}(r:RelV x u):∀{xs:List V}{us:B5}(i:Nat),Vals xs us->Vals (xs.set i x) (us.set i u)
 |_,_,_,.nil=>.nil
 |_,_,0,.cons _ t=>.cons r t
 |_,_,i+1,.cons q t=>.cons q (Vals.set r i t)
theorem Vals.append:∀{xs ys:List V}{us ws:B5},Vals xs us->Vals ys ws->Vals (xs++ys) (us++ws)
 |_,_,_,_,.nil,s=>s
 |_,_,_,_,.cons r t,s=>.cons r (Vals.append t s)
theorem Vals.take:∀{xs:List V}{us:B5}(n:Nat),Vals xs us->Vals (xs.take n) (us.take n)
 |_,_,0,_=>.nil
 |_,_,_+1,.nil=>.nil
 |_,_,n+1,.cons r t=>.cons r (Vals.take n t)
theorem Vals.drop:∀{xs:List V}{us:B5}(n:Nat),Vals xs us->Vals (xs.drop n) (us.drop n)
 |_,_,0,r=>r
 |_,_,_+1,.nil=>.nil
 |_,_,n+1,.cons _ t=>Vals.drop n t
noncomputable def RelO:Option V->B7->Prop
 |some v,O u=>RelV v u
 |none,B0=>True
 |_,_=>False
noncomputable def KV{κ:Type}:List (κ×V)->List (κ×JU)->Prop:=Paired λ(p:κ×V) (q:κ×JU)=>p.1=q.1/\RelV p.2 q.2
noncomputable def kV:Key->V
 |.inl i=>.int i
 |.inr x=>.str x
inductive HO where
  |lst (xs:List V)
  |tup (xs:List V)
  |dK (kvs:List (Key×V))|dT (kvs:List (Ag×V))
  |set (S:Int->Bool) (n:Nat)
  |ins (C dx:JX) (fs:List (Str×V))
  |own (x:JX)
  |xd (fs:List (Str×V))
  |met (f x:JX)
  |rng (lo hi:Int)
  |frz (o:Obj) (u:HO)
  |tbl (ps:Array JU)
  |ext (φ:Heap->Prop)
abbrev Hp:=JX->Option HO
noncomputable def upd(H:Hp)(a:JX)(o:HO):Hp:=λb=>if b=a then O o else H b
theorem UW{H:Hp}{a:JX}{o:HO}:upd H a o a=O o:=by unfold upd;rw[Qr Z]
theorem UI{H:Hp}{a b:JX}{o:HO}(h:b≠a):upd H a o b=H b:=by unfold upd;rw[QD h]
theorem Ob{H:Hp}{a:JX}{o u:HO}:upd (upd H a o) a u=upd H a u:=by funext b;unfold upd;split<;>rfl
theorem ZC{H:Hp}{a b:JX}{o:HO}(h:H a=O o)(h':H b=B0):a≠b:=by intro e;subst e;rw[h]at h';cases h'
section
variable(P:JW)(w:World)
noncomputable def K2(H:Hp)(h:Heap)(a:JX):HO->Prop
 |.lst xs=>xs.length<=J0/\∃(its:B5)(n:Nat),Vals xs its/\h.get? a=O {cls:=.type "list", data:=.seq its.toArray n}
 |.tup xs=>xs.length<=J0/\∃its:B5,Vals xs its/\IsTup h a its.toArray
 |.dK kvs=>kvs.length<=J0/\(a==sysModules)=B3/\∃vs,KV kvs vs/\h.DictOf (ZY P w) a vs
 |.dT kvs=>kvs.length<=J0/\(a==sysModules)=B3/\∃xs:List (Ag×JX×JU),
   Paired (λ(p:Ag×V) (q:Ag×JX×JU)=>p.1=q.1/\H q.2.1=O (.tup (p.1.map kV))/\RelV p.2 q.2.2) kvs xs /\
   ∃o es ep,h.get? a=O o/\o.ExactDict/\o.data=.dict es ep/\es.toList=xs.map (entryOfKey (tupleKind (ZY P w)))/\(xs.map (·.1)).Nodup
 |.set S n=>h.SetOf (intKind P w) a S n
 |.ins C dx fs=>H dx=O (.own a)/\fs.length<=1000/\dx≠a/\h.get? a=O (PySem.W.instObj C dx) /\
   ∃mA,h.Ns1 dx mA/\(∀f,RelO (fs.lookup f) (mA f))/\PySem.Within mA (fs.map (·.1))
 |.own _=>∃o,h.get? a=O o
 |.xd fs=>∃mA,h.Ns1 a mA/\∀f,RelO (fs.lookup f) (mA f)
 |.rng lo hi=>∃t u v,h.get? a=O {cls:=.type "range", data:=.fields #[.int lo t,.int hi u,.int 1 v]}
 |.frz o u=>h.get? a=O o/\K2 H h a u
 |.tbl ps=>h.get? a=O {cls:=.none,data:=.fields ps}
 |.met f x=>h.get? a=O (PySem.W.methodObj (.ref f) (.ref x))
 |.ext φ=>φ h/\(∃o,h.get? a=O o)/\∀h1 h2:Heap,φ h1->(∀o,h1.get? a=O o->h2.get? a=O o)->φ h2
def HOk(H:Hp)(h:Heap):Prop:=∀a o,H a=O o->K2 P w H h a o
end
section
variable{P:JW}{w:World}{H H':Hp}{h h':Heap}{a:JX}{o:HO}
theorem K2.lt(x:K2 P w H h a o):a<h.objs.size:=by
 cases o with
 |lst xs=>obtain⟨_,_,_,_,e⟩:=x;exact Qf e
 |tup xs=>obtain⟨_,_,_,p⟩:=x;exact p.lt
 |dK kvs=>obtain⟨_,_,_,_,o,_,_,e,_⟩:=x;exact Qf e
 |dT kvs=>obtain⟨_,_,_,_,o,_,_,e,_⟩:=x;exact Qf e
 |set S n=>obtain⟨o,_,_,_,e,_⟩:=x;exact Qf e
 |ins C dx fs=>obtain⟨_,_,_,e,_⟩:=x;exact Qf e
 |own y=>obtain⟨_,e⟩:=x;exact Qf e
 |xd fs=>obtain⟨_,⟨_,_,_,e,_⟩,_⟩:=x;exact Qf e
 |rng lo hi=>obtain⟨_,_,_,e⟩:=x;exact Qf e
 |frz ob u=>obtain⟨e,_⟩:=x;exact Qf e
 |tbl ps=>exact Qf (show h.get? a=O _ from x)
 |met f y=>exact Qf (show h.get? a=O _ from x)
 |ext φ=>obtain⟨_,⟨_,e⟩,_⟩:=x;exact Qf e
theorem Paired.mapP{α β:Type}{F G:α->β->Prop}:∀{l₁:List α}{l₂:List β},Paired F l₁ l₂->(∀a b,F a b->G a b)->Paired G l₁ l₂
 |_,_,.nil,_=>.nil
 |_,_,.cons r t,f=>.cons (f _ _ r) (Paired.mapP t f)
theorem K2.stay(x:K2 P w H h a o)(k:∀b u,(b=a∨H b=O (.own a))->h.get? b=O u->h'.get? b=O u)
  (ho:∀b,H b=O (.own a)->H' b=O (.own a)) (ht:∀b xs,H b=O (.tup xs)->H' b=O (.tup xs)):K2 P w H' h' a o:=by
 induction o with
 |lst xs=>obtain⟨z,its,n,r,e⟩:=x;exact⟨z,its,n,r,k _ _ (.inl Z) e⟩
 |tup xs=>obtain⟨z,its,r,ob,e,c⟩:=x;exact⟨z,its,r,ob,k _ _ (.inl Z) e,c⟩
 |dK kvs=>obtain⟨z,y,vs,r,ob,es,ep,e,c⟩:=x;exact⟨z,y,vs,r,ob,es,ep,k _ _ (.inl Z) e,c⟩
 |dT kvs=>obtain⟨z,y,xs,r,ob,es,ep,e,c⟩:=x;exact⟨z,y,xs,Paired.mapP r λp q z=>⟨z.1,ht _ _ z.2.1,z.2.2⟩,ob,es,ep,k _ _ (.inl Z) e,c⟩
 |set S n=>obtain⟨ob,es,ep,t,e,c⟩:=x;exact⟨ob,es,ep,t,k _ _ (.inl Z) e,c⟩
 |ins C dx fs=>obtain⟨d,z,ne,e,mA,⟨od,es,ep,e2,c⟩,r⟩:=x;exact⟨ho _ d,z,ne,k _ _ (.inl Z) e,mA,⟨od,es,ep,k _ _ (.inr d) e2,c⟩,r⟩
 |own y=>obtain⟨ob,e⟩:=x;exact⟨ob,k _ _ (.inl Z) e⟩
 |xd fs=>obtain⟨mA,⟨od,es,ep,e,c⟩,r⟩:=x;exact⟨mA,⟨od,es,ep,k _ _ (.inl Z) e,c⟩,r⟩
 |rng lo hi=>obtain⟨t,u,v,e⟩:=x;exact⟨t,u,v,k _ _ (.inl Z) e⟩
 |frz ob u ih=>obtain⟨e,q⟩:=x;exact⟨k _ _ (.inl Z) e,ih q⟩
 |tbl ps=>have e:h.get? a=O {cls:=.none,data:=.fields ps}:=x;show h'.get? a=O {cls:=.none,data:=.fields ps};exact k a _ (.inl Z) e
 |met f y=>have e:h.get? a=O (PySem.W.methodObj (.ref f) (.ref y)):=x;show h'.get? a=O (PySem.W.methodObj (.ref f) (.ref y));exact k a _ (.inl Z) e
 |ext φ=>obtain⟨p,⟨o,e⟩,st⟩:=x;exact⟨st _ _ p λo q=>k _ _ (.inl Z) q,⟨o,k _ _ (.inl Z) e⟩,st⟩
theorem HOk.lt(x:HOk P w H h)(e:H a=O o):a<h.objs.size:=(x a o e).lt
theorem HOk.fresh(x:HOk P w H h)(e:h.objs.size<=a):H a=B0:=by
 cases q:H a with
 |none=>rfl
 |some u=>exact absurd (Qx (x.lt q) e) (Jo _)
theorem HOk.kept(x:HOk P w H h)(k:∀b u,h.get? b=O u->h'.get? b=O u):HOk P w H h':=λa o e=>
 (x a o e).stay (λb u _ q=>k b u q) (λ_ q=>q) λ_ _ q=>q
theorem HOk.laid(x:HOk P w H h)(k:∀b u,h.get? b=O u->h'.get? b=O u)(hp:h.objs.size<=a)(new:K2 P w (upd H a o) h' a o):HOk P w (upd H a o) h':=λb u e=>by
 have hn:=x.fresh hp;by_cases hb:b=a
 .subst hb;rw[UW]at e;cases e;exact new
 .rw[UI hb]at e
  exact(x b u e).stay (λc v _ q=>k c v q) (λc q=>by rw[UI (ZC q hn)];exact q) λc xs q=>by rw[UI (ZC q hn)];exact q
end
def Rd(H:Hp)(a:JX)(u:HO):Prop:=H a=O u ∨ ∃o,H a=O (.frz o u)
theorem Rd.ok{P:JW}{w:World}{H:Hp}{h:Heap}{a:JX}{u:HO}(r:Rd H a u)(x:HOk P w H h):K2 P w H h a u:=by
 rcases r with r|⟨o,r⟩
 .exact x a u r
 .obtain⟨_,q⟩:=x a _ r
  exact q
noncomputable def Mut:Option HO->Prop
 |some (.lst _)=>True
 |some (.dK _)=>True
 |some (.dT _)=>True
 |some (.set _ _)=>True
 |some (.ins _ _ _)=>True
 |some (.ext _)=>True
 |_=>False
section
variable{P:JW}{w:World}{H:Hp}{h h':Heap}{x e:JX}{o':HO}
theorem HOk.write(ok:HOk P w H h)(mu:Mut (H x))(he:e=x∨H e=O (.own x))(k:∀b u,b≠e->h.get? b=O u->h'.get? b=O u)(qx:∃u,h'.get? e=O u)
  (new:K2 P w (upd H x o') h' x o'):HOk P w (upd H x o') h':=λb u q=>by
 have nown:∀c y,H c=O (.own y)->c≠x:=λc y r z=>by subst z;rw[r]at mu;exact mu
 have ntup:∀c xs,H c=O (.tup xs)->c≠x:=λc xs r z=>by subst z;rw[r]at mu;exact mu
 by_cases hb:b=x
 .subst hb;rw[UW]at q;cases q;exact new
 .rw[UI hb]at q
  by_cases AE:b=e
  .have q':H b=O (.own x):=by
    rcases he with z|z
    .exact absurd (AE.trans z) hb
    .rw[AE];exact z
   rw[q]at q';cases q';obtain⟨v,hv⟩:=qx;exact⟨v,by rw[AE];exact hv⟩
  .refine(ok b u q).stay (λc v hc r=>k c v ?_ r) (λc r=>by rw[UI (nown c b r)];exact r) λc xs r=>by rw[UI (ntup c xs r)];exact r
   rcases hc with rfl|hc
   .exact AE
   .rintro rfl
    rcases he with z|z
    .exact nown c b hc z
    .rw[hc]at z;cases z;exact hb Z
end
structure Un(fs ex:Aa)(H H':Hp)(h h':Heap):Prop where
 keep:∀b o,h.get? b=O o->H b=B0->b∉fs->b∉ex->h'.get? b=O o
 slot:∀b o,h.get? b=O o->H b=B0->b∈fs->b∉ex->∃sl,h'.get? b=O {o with slots:=sl}
 free:∀b o,h.get? b=O o->H b=B0->b∉ex->H' b=B0
 there:∀b o,h.get? b=O o->b∉ex->∃o',h'.get? b=O o'
 tups:∀b xs,H b=O (.tup xs)->H' b=O (.tup xs)
 frzs:∀b o u,H b=O (.frz o u)->H' b=O (.frz o u)
 tbls:∀b ps,H b=O (.tbl ps)->∃more,H' b=O (.tbl (ps++more))
section
variable{fs fs' ex ex':Aa}{H H1 H2:Hp}{h h1 h2 h':Heap}{a x e:JX}{o:HO}
theorem Un.any(u:Un fs ex H H1 h h1){b:JX}{ob:Obj}(q:h.get? b=O ob)(n:H b=B0)(hx:b∉ex):∃sl,h1.get? b=O {ob with slots:=sl}:=by
 by_cases hb:b∈fs
 .exact u.slot b ob q n hb hx
 .exact⟨ob.slots,u.keep b ob q n hb hx⟩
theorem Un.kept(k:∀b u,h.get? b=O u->h'.get? b=O u):Un fs ex H H h h':=
 ⟨λb ob q _ _ _=>k b ob q,λb ob q _ _ _=>⟨ob.slots,k b ob q⟩,λ_ _ _ n _=>n,λb ob q _=>⟨ob,k b ob q⟩,λ_ _ q=>q,λ_ _ _ q=>q,λ_ ps q=>⟨#[],by rw[q];simp⟩⟩
theorem Un.refl:Un fs ex H H h h:=Un.kept λ_ _ q=>q
theorem Un.laid(k:∀b u,h.get? b=O u->h'.get? b=O u)(hp:h.objs.size<=a)(hn:H a=B0):Un fs ex H (upd H a o) h h' where
 keep:=λb u q _ _ _=>k b u q
 slot:=λb u q _ _ _=>⟨u.slots,k b u q⟩
 free:=λb u q n _=>by rw[UI (QZ (Qx (Qf q) hp))];exact n
 there:=λb u q _=>⟨u,k b u q⟩
 tups:=λb xs q=>by rw[UI (ZC q hn)];exact q
 frzs:=λb u xs q=>by rw[UI (ZC q hn)];exact q
 tbls:=λb ps q=>⟨#[],by rw[UI (ZC q hn),q];simp⟩
theorem Un.write(mu:Mut (H x))(he:e=x∨H e=O (.own x))(k:∀b u,b≠e->h.get? b=O u->h'.get? b=O u)(qx:∃u,h'.get? e=O u):Un fs ex H (upd H x o) h h':=by
 have hx:∀b,H b=B0->b≠x:=λb n z=>by subst z;rw[n]at mu;exact mu
 have hb:∀b,H b=B0->b≠e:=λb n z=>by
  subst z;rcases he with r|r
  .exact hx b n r
  .rw[n]at r;cases r
 have hm:∀b u,H b=O u->¬Mut (O u)->b≠x:=λb u q nm z=>by subst z;rw[q]at mu;exact nm mu
 refine⟨λb u q n _ _=>k b u (hb b n) q,λb u q n _ _=>⟨u.slots,k b u (hb b n) q⟩,λb u q n _=>by rw[UI (hx b n)];exact n,λb u q _=>?_,
  λb xs q=>by rw[UI (hm b _ q λz=>z)];exact q,λb u xs q=>by rw[UI (hm b _ q λz=>z)];exact q,λb ps q=>⟨#[],by rw[UI (hm b _ q λz=>z),q];simp⟩⟩
 by_cases AE:b=e
 .subst AE;exact qx
 .exact⟨u,k b u AE q⟩
end
noncomputable def trk(h:Heap)(H:Hp):Aa:=(J7 h.objs.size).filter λa=>(H a).isSome
noncomputable def Zl(h:Heap)(H:Hp):Heap:=PySem.W.hideAll h (trk h H)
theorem Cu(h:Heap)(H:Hp):(Zl h H).objs.size=h.objs.size:=PySem.W.hideAll_size _ _
theorem Db{h:Heap}{H:Hp}{b:JX}{o:Obj}(e:h.get? b=O o)(n:H b=B0):(Zl h H).get? b=O o:=
 PySem.W.hideAll_get _ e λhm=>by have q:(H b).isSome=B2:=(List.mem_filter.mp hm).2;rw[n]at q;simp at q
theorem FO{h:Heap}{H:Hp}{b:JX}{o:Obj}(e:(Zl h H).get? b=O o):h.get? b=O o/\H b=B0:=by
 have e':h.get? b=O o:=PySem.W.of_hideAll (trk h H) e;refine⟨e',?_⟩;cases q:H b with
 |none=>rfl
 |some x=>have hm:b∈trk h H:=List.mem_filter.mpr ⟨List.mem_range.mpr (Heap.lt_size e'),by simp[q]⟩;have z:(Zl h H).get? b=B0:=PySem.W.hideAll_none (trk h H) hm;rw[z]at e;cases e
structure Mod(K:Frag)(mg:Str->B7)(base:Heap):Prop where
 kin:K.In base
 glob:base.Ns mainGlobals mg
 blt:∃mb,base.Ns builtinsNs mb/\∀x:Str,x ≠ "__name__" -> mb x=bootBuiltins x
 nolimit:base.NoLimit
structure Cx where
 prog:JW
 w:World
 K:Frag
 mg:Str->B7
 base:Heap
 A:Around
 N:List Str
 s₀:JV
 H₀:Hp
 env:Env
 outer:List Env
 stack:List Env
 ex:Aa
 fn:Str->Bool
 calm:Bool
 pn:List (JX×Obj)
 xe:JU->JV->Prop
noncomputable def frs(l:List Env):Aa:=l.filterMap (·.frame)
noncomputable abbrev Cx.fs(X:Cx):Aa:=frs X.outer
def Vis(sc:Scope)(x:Str):Prop:=sc.names.lookup x=O .local∨sc.names.lookup x=O .cell∨sc.names.lookup x=O .free
def Loc(sc:Scope)(x:Str):Prop:=sc.names.lookup x=O .local∨sc.names.lookup x=O .cell
def Look(env:Env)(h:Heap)(m:Str->B7)(x:Str)(u:JU):Prop:=
 (env.kindOf x=O .local/\m x=O u)∨((env.kindOf x=O .cell∨env.kindOf x=O .free)/\∃c,env.cells.lookup x=O c/\h.IsCell c (O u))
structure Cx.Ok(X:Cx):Prop where
 mod:Mod X.K X.mg X.base
 kind:X.env.scope.kind=.function
 glob:X.env.globals=mainGlobals
 blt:X.env.builtins=builtinsNs
 above:X.s₀.heap.objs.size<=X.env.locals
 inj:∀x y c,X.env.cells.lookup x=O c->X.env.cells.lookup y=O c->x=y
 has:∀x,(X.env.kindOf x=O .cell∨X.env.kindOf x=O .free)->∃c,X.env.cells.lookup x=O c
 cab:∀x c,X.fn x=B2->X.env.cells.lookup x=O c->X.s₀.heap.objs.size<=c
 hd:X.calm=B2->X.A.handled=B0
 frames:X.A.frames=O X.stack
 stk:X.stack=X.outer∨(X.stack=X.env::X.outer/\X.env.frame=O X.env.locals)
 exf:∀b∈X.ex,b≠X.env.locals/\∀x c,X.env.cells.lookup x=O c->c≠b
 bs:∀b o,X.base.get? b=O o->X.s₀.heap.get? b=O o/\X.H₀ b=B0
 bsz:X.base.objs.size<=X.s₀.heap.objs.size
 noex:∀b o,X.base.get? b=O o->b∉X.ex
 exfs:∀b∈X.ex,b∉X.fs
 funs:X.s₀.heap.FunFrames X.base X.outer
 frf:∀b∈X.fs,X.H₀ b=B0
structure Inv(X:Cx)(pins:List (JX×Obj))(σ:List (Option V))(H:Hp)(s:JV):Prop where
 ok:X.Ok
 os:s.os=X.s₀.os
 bare:AllBare s.gens
 base:Un X.fs X.ex X.H₀ H X.s₀.heap s.heap
 loc:∃m,s.heap.Ns X.env.locals m/\∀(i:Nat)(x:Str)(v:V),X.N[i]?=O x->σ[i]?=O (O v)->Vis X.env.scope x->∃u,RelV v u/\Look X.env s.heap m x u
 cell:∀x c,X.env.cells.lookup x=O c->∃v,s.heap.IsCell c v
 free:H X.env.locals=B0
 freeC:∀x c,X.env.cells.lookup x=O c->H c=B0
 pin:∀p∈X.pn++pins,s.heap.get? p.1=O p.2/\H p.1=B0/\p.1≠X.env.locals/\p.1∉X.fs/\∀v,p.2.data≠.cell v
 hok:HOk X.prog X.w H s.heap
 len:σ.length=X.N.length
section
variable{X:Cx}{pins:List (JX×Obj)}{σ:List (Option V)}{H H':Hp}{s:JV}{h':Heap}
theorem Cx.Ok.nofr(ok:X.Ok){b:JX}{o:Obj}(e:X.base.get? b=O o):b∉X.fs:=λhb=>by have:=(ok.funs.mem hb).1;rw[e]at this;cases this
theorem Inv.bs(I:Inv X pins σ H s):∀b o,X.base.get? b=O o->s.heap.get? b=O o/\H b=B0:=λb o e=>
 ⟨I.base.keep b o (I.ok.bs b o e).1 (I.ok.bs b o e).2 (I.ok.nofr e) (I.ok.noex b o e),I.base.free b o (I.ok.bs b o e).1 (I.ok.bs b o e).2 (I.ok.noex b o e)⟩
theorem Inv.bk(I:Inv X pins σ H s):∀b o,X.base.get? b=O o->s.heap.get? b=O o:=λb o e=>(I.bs b o e).1
theorem Inv.mod(I:Inv X pins σ H s):Mod X.K X.mg X.base:=I.ok.mod
theorem Inv.kIn(I:Inv X pins σ H s):X.K.In s.heap:=I.ok.mod.kin.keeps I.bk
theorem Inv.fr(I:Inv X pins σ H s):∃m,Fr X.base X.env.locals s.heap m:=
 let ⟨m,hn,_⟩:=I.loc
 ⟨m,hn,I.bk,Qq I.ok.bsz I.ok.above⟩
theorem Inv.lt(I:Inv X pins σ H s):X.env.locals<s.heap.objs.size:=let ⟨_,hn,_⟩:=I.loc;hn.lt
theorem Inv.sz(I:Inv X pins σ H s):X.s₀.heap.objs.size<=s.heap.objs.size:=Qq I.ok.above (JR I.lt)
theorem Inv.nofs(I:Inv X pins σ H s){a:JX}(h:s.heap.objs.size<=a):a∉X.fs:=λhb=>by obtain⟨_,o,ho,_⟩:=I.ok.funs.mem hb;exact absurd (Qx (Qf ho) (Qq I.sz h)) (Jo _)
theorem Inv.cne(I:Inv X pins σ H s):∀x c,X.env.cells.lookup x=O c->c≠X.env.locals:=λx c e z=>by obtain⟨v,o,ho,hd⟩:=I.cell x c e;obtain⟨m,⟨o',es,ep,ho',hd',_⟩,_⟩:=I.loc;rw[z,ho']at ho;cases ho;rw[hd']at hd;cases hd
theorem Inv.funs(I:Inv X pins σ H s):s.heap.FunFrames X.base X.outer:=by
 have all:∀(l:List Env),(∀b∈frs l,b∈X.fs)->X.s₀.heap.FunFrames X.base l->s.heap.FunFrames X.base l:=by
  intro l;induction l with
  |nil=>intro _ _;trivial
  |cons env r ih=>
   intro hs hl;obtain⟨hk,⟨L,o,hf,hn,ho,hd⟩,hr⟩:=hl;have hL:L∈X.fs:=hs L (by unfold frs;rw[List.filterMap_cons,hf];exact Qk);obtain⟨sl,e⟩:=I.base.slot L o ho (I.ok.frf L hL) hL λz=>I.ok.exfs L z hL
   exact⟨hk,⟨L,_,hf,hn,e,hd⟩,ih (λb hb=>hs b (by unfold frs;rw[List.filterMap_cons,hf];exact Qj _ hb)) hr⟩
 exact all X.outer (λ_ hb=>hb) I.ok.funs
theorem Inv.stack(I:Inv X pins σ H s):s.heap.FunFrames X.base X.stack:=by
 rcases I.ok.stk with e|⟨e,hf⟩
 .rw[e];exact I.funs
 .rw[e]
  obtain⟨m,hn,_⟩:=I.loc;refine .cons (by rw[I.ok.kind];decide) hf hn ?_ I.funs;exact Heap.get?_none_of_le (Qq I.ok.bsz I.ok.above)
theorem Inv.stkSub(I:Inv X pins σ H s):∀b∈frs X.stack,b∈X.env.locals::X.fs:=λb hb=>by
 rcases I.ok.stk with e|⟨e,hf⟩
 .rw[e]at hb;exact Qj _ hb
 .rw[e]at hb
  unfold frs at hb;rw[List.filterMap_cons,hf]at hb;exact hb
theorem Inv.stkFree(I:Inv X pins σ H s):∀b∈frs X.stack,H b=B0:=λb hb=>by
 rcases QM.mp (I.stkSub b hb)with e|hb
 .rw[e];exact I.free
 .obtain⟨_,o,ho,_⟩:=I.ok.funs.mem hb
  exact I.base.free b o ho (I.ok.frf b hb) λz=>I.ok.exfs b z hb
theorem Inv.step{g':Array GenState}{t':Nat}{d':Drawn}{ch:Aa}(I:Inv X pins σ H s)
  (hch:∀b∈ch,(b∈X.ex∨X.s₀.heap.objs.size<=b)/\b≠X.env.locals/\(∀x c,X.env.cells.lookup x=O c->c≠b)/\∀p∈X.pn++pins,p.1≠b)
  (keep:∀b o,b≠X.env.locals->b∉X.fs->b∉ch->s.heap.get? b=O o->H b=B0->h'.get? b=O o)
  (slot:∀b o,b≠X.env.locals->b∈X.fs->b∉ch->s.heap.get? b=O o->H b=B0->∃sl,h'.get? b=O {o with slots:=sl}) (free:∀b o,b∉ch->s.heap.get? b=O o->H b=B0->H' b=B0)
  (there:∀b o,b∉ch->s.heap.get? b=O o->∃o',h'.get? b=O o')
  (tups:∀b xs,H b=O (.tup xs)->H' b=O (.tup xs)) (frzs:∀b o u,H b=O (.frz o u)->H' b=O (.frz o u)) (tbls:∀b ps,H b=O (.tbl ps)->∃more,H' b=O (.tbl (ps++more)))
  (ns:∀m,s.heap.Ns X.env.locals m->h'.Ns X.env.locals m) (hok:HOk X.prog X.w H' h') (hg:AllBare g') :
  Inv X pins σ H' {s with heap:=h',gens:=g',drawn:=d',toks:=t'}:=by
 have neL:∀b o,X.s₀.heap.get? b=O o->b≠X.env.locals:=λb o e=>QZ (Qx (Qf e) I.ok.above)
 have neC:∀b o,X.s₀.heap.get? b=O o->b∉X.ex->b∉ch:=λb o e hx hb=>by
  rcases(hch b hb).1 with z|z
  .exact hx z
  .exact absurd (Qx (Qf e) z) (Jo _)
 have cellK:∀x c,X.env.cells.lookup x=O c->∀v,s.heap.IsCell c v->h'.IsCell c v:=λx c e v ⟨o,ho,hd⟩=>by
  have nch:c∉ch:=λz=>(hch c z).2.2.1 x c e Z
  by_cases hc:c∈X.fs
  .obtain⟨sl,q⟩:=slot c o (I.cne x c e) hc nch ho (I.freeC x c e)
   exact⟨_,q,hd⟩
  .exact⟨o,keep c o (I.cne x c e) hc nch ho (I.freeC x c e),hd⟩
 refine⟨I.ok,I.os,hg,⟨λb o e n hb hx=>?_,λb o e n hb hx=>?_,λb o e n hx=>?_,λb o e hx=>?_,λb xs e=>tups b xs (I.base.tups b xs e),λb o xs e=>frzs b o xs (I.base.frzs b o xs e),λb ps e=>?_⟩,?_,λx c e=>?_,?_,λx c e=>?_,λp hp=>?_,hok,I.len⟩
 .exact keep b o (neL b o e) hb (neC b o e hx) (I.base.keep b o e n hb hx) (I.base.free b o e n hx)
 .obtain⟨sl,e1⟩:=I.base.slot b o e n hb hx
  obtain⟨AD,e2⟩:=slot b _ (neL b o e) hb (neC b o e hx) e1 (I.base.free b o e n hx);exact⟨AD,e2⟩
 .obtain⟨o',e1⟩:=I.base.there b o e hx
  exact free b o' (neC b o e hx) e1 (I.base.free b o e n hx)
 .obtain⟨o',e1⟩:=I.base.there b o e hx
  exact there b o' (neC b o e hx) e1
 .obtain⟨m1,e1⟩:=I.base.tbls b ps e
  obtain⟨m2,e2⟩:=tbls b _ e1;exact⟨m1++m2,by rw[e2,Array.append_assoc]⟩
 .obtain⟨m,hn,hl⟩:=I.loc
  refine⟨m,ns m hn,λi x v e1 e2 e3=>?_⟩;obtain⟨u,r,l⟩:=hl i x v e1 e2 e3;refine⟨u,r,?_⟩;rcases l with l|⟨k,c,e,z⟩
  .exact .inl l
  .exact .inr ⟨k,c,e,cellK x c e _ z⟩
 .obtain⟨v,z⟩:=I.cell x c e
  exact⟨v,cellK x c e v z⟩
 .obtain⟨m,⟨o,_,_,ho,_⟩,_⟩:=I.loc
  exact free _ o (λz=>(hch _ z).2.1 Z) ho I.free
 .obtain⟨v,o,ho,hd⟩:=I.cell x c e
  exact free c o (λz=>(hch c z).2.2.1 x c e Z) ho (I.freeC x c e)
 .obtain⟨e,n,ne,nf,d⟩:=I.pin p hp
  have nch:p.1∉ch:=λz=>(hch p.1 z).2.2.2 p hp Z
  exact⟨keep p.1 p.2 ne nf nch e n,free p.1 p.2 nch e n,ne,nf,d⟩
theorem Inv.un{t':Nat}(I:Inv X pins σ H s)(u:Un X.fs [] H H' s.heap h')(hok:HOk X.prog X.w H' h'):Inv X pins σ H' {s with heap:=h',toks:=t'}:=by obtain⟨m,⟨o,es,ep,ho,r⟩,_⟩:=id I.loc;obtain⟨sl,hL⟩:=u.any ho I.free (by simp);exact I.step (g':=s.gens) (d':=s.drawn) (ch:=[]) (λ_ z=>nomatch z) (λb o _ hb _ e n=>u.keep b o e n hb (by simp)) (λb o _ hb _ e n=>u.slot b o e n hb (by simp)) (λb o _ e n=>u.free b o e n (by simp)) (λb o _ e=>u.there b o e (by simp)) u.tups u.frzs u.tbls (λm' hm=>by obtain⟨o',es',ep',ho',r'⟩:=hm;rw[ho]at ho';cases ho';exact⟨_,es',ep',hL,r'⟩) hok I.bare
theorem Inv.call{g':Array GenState}{t':Nat}{d':Drawn}{ch:Aa}(I:Inv X pins σ H s)(u:Un (frs X.stack) ch H H' s.heap h')(hok:HOk X.prog X.w H' h')(hg:AllBare g')
  (hch:∀b∈ch,(b∈X.ex∨X.s₀.heap.objs.size<=b)/\b≠X.env.locals/\(∀x c,X.env.cells.lookup x=O c->c≠b)/\∀p∈X.pn++pins,p.1≠b) :
  Inv X pins σ H' {s with heap:=h',gens:=g',drawn:=d',toks:=t'}:=by
 obtain⟨m,⟨o,es,ep,ho,r⟩,_⟩:=id I.loc;obtain⟨sl,hL⟩:=u.any ho I.free λz=>(hch _ z).2.1 Z
 exact I.step (ch:=ch) hch (λb o hL hb hc e n=>u.keep b o e n (λz=>(QM.mp (I.stkSub b z)).elim hL hb) hc) (λb o _ _ hc e n=>u.any e n hc) (λb o hc e n=>u.free b o e n hc) (λb o hc e=>u.there b o e hc) u.tups u.frzs u.tbls (λm' hm=>by obtain⟨o',es',ep',ho',r'⟩:=hm;rw[ho]at ho';cases ho';exact⟨_,es',ep',hL,r'⟩) hok hg
theorem Inv.turned{t':Nat}{it:JX}(I:Inv X pins σ H s)(k:∀b o,b≠it->s.heap.get? b=O o->h'.get? b=O o)(hn:H it=B0)(hL:it≠X.env.locals)
  (h1:it∈X.ex∨X.s₀.heap.objs.size<=it) (h2:∀x c,X.env.cells.lookup x=O c->c≠it) (h3:∀p∈X.pn++pins,p.1≠it):Inv X pins σ H {s with heap:=h',toks:=t'}:=by
 have nit:∀b u,H b=O u->b≠it:=λb u e z=>by rw[z,hn]at e;cases e
 refine I.step (g':=s.gens) (d':=s.drawn) (ch:=[it]) (λb hb=>?_) (λb o _ _ hc e _=>k b o (λz=>hc (by simp[z])) e) (λb o _ _ hc e _=>⟨o.slots,k b o (λz=>hc (by simp[z])) e⟩) (λ_ _ _ _ n=>n)
  (λb o hc e=>⟨o,k b o (λz=>hc (by simp[z])) e⟩) (λ_ _ e=>e) (λ_ _ _ e=>e) (λb ps e=>⟨#[],by rw[e];simp⟩) (λm hm=>?_) (λb u e=>?_) I.bare
 .have e:b=it:=by simpa using hb
  subst e;exact⟨h1,hL,h2,h3⟩
 .obtain⟨o,es,ep,ho,r⟩:=hm
  exact⟨o,es,ep,k _ o (Ne.symm hL) ho,r⟩
 .refine(I.hok b u e).stay (λc v hc q=>k c v ?_ q) (λ_ q=>q) λ_ _ q=>q
  rcases hc with z|z
  .rw[z];exact nit b u e
  .exact nit c _ z
theorem Inv.tok(I:Inv X pins σ H s)(t:Nat):Inv X pins σ H {s with toks:=t}:=I.un (h':=s.heap) (t':=t) Un.refl I.hok
theorem Inv.kept{t':Nat}(I:Inv X pins σ H s)(k:∀b u,s.heap.get? b=O u->h'.get? b=O u):Inv X pins σ H {s with heap:=h',toks:=t'}:=I.un (Un.kept k) (I.hok.kept k)
theorem Inv.laid{a:JX}{o:HO}{t':Nat}(I:Inv X pins σ H s)(k:∀b u,s.heap.get? b=O u->h'.get? b=O u)(hp:s.heap.objs.size<=a)(new:K2 X.prog X.w (upd H a o) h' a o) :
  Inv X pins σ (upd H a o) {s with heap:=h',toks:=t'}:=I.un (Un.laid k hp (I.hok.fresh hp)) (I.hok.laid k hp new)
theorem Inv.write{x e:JX}{o:HO}{t':Nat}(I:Inv X pins σ H s)(mu:Mut (H x))(he:e=x∨H e=O (.own x))(k:∀b u,b≠e->s.heap.get? b=O u->h'.get? b=O u)(qx:∃u,h'.get? e=O u)
  (new:K2 X.prog X.w (upd H x o) h' x o):Inv X pins σ (upd H x o) {s with heap:=h',toks:=t'}:=I.un (Un.write mu he k qx) (I.hok.write mu he k qx new)
theorem Inv.pins_of{pins':List (JX×Obj)}(I:Inv X pins σ H s)(h:∀p∈pins',s.heap.get? p.1=O p.2/\H p.1=B0/\p.1≠X.env.locals/\p.1∉X.fs/\∀v,p.2.data≠.cell v):Inv X pins' σ H s:=
 ⟨I.ok,I.os,I.bare,I.base,I.loc,I.cell,I.free,I.freeC,λp hp=>(QG.mp hp).elim (λz=>I.pin p (Qs _ z)) (h p),I.hok,I.len⟩
theorem O1{N:List Str}(hN:N.Nodup){i j:Nat}{x:Str}(a:N[i]?=O x)(b:N[j]?=O x):i=j:=by obtain⟨h1,e1⟩:=Qy.mp a;obtain⟨h2,e2⟩:=Qy.mp b;exact(List.getElem_inj hN).mp (e1.trans e2.symm)
theorem O2{M:Model}{A:Around}{E:JU->JV->Prop}{i:Nat}{x:Str}{v:V}{u:JU}{Q:Unit->JV->Prop}(I:Inv X pins σ H s)(hN:X.N.Nodup)(hi:X.N[i]?=O x)(hx:Loc X.env.scope x)(r:RelV v u)
  (h:∀s',Inv X pins (σ.set i (O v)) H s'->(∃a,Heap.SameBut a s.heap s'.heap/\(a=X.env.locals∨X.env.cells.lookup x=O a))->Q () s') (hf:X.fn x=B2∨X.env.scope.names.lookup x=O .local:=by first|exact .inl rfl|exact .inr rfl|assumption):J4 M A (storeName X.env x u) Q E s:=by
 obtain⟨m,hn,hl⟩:=id I.loc;have hcls:(X.env.scope.kind==.class || (X.env.scope.kind==.module&&X.env.locals != X.env.globals))=B3:=by rw[I.ok.kind];rfl
 have hiσ:i<σ.length:=by rw[I.len];exact(Qy.mp hi).1
 have cne:=I.cne
 have tracked:∀{a:JX}{h':Heap},(∃o,s.heap.get? a=O o/\H a=B0)->Heap.SameBut a s.heap h'->HOk X.prog X.w H h':=λ{a h'} ha hs b ob e=>by
  obtain⟨_,_,hfree⟩:=ha;refine(I.hok b ob e).stay (λc w' hc q=>(hs.2 c ?_).trans q) (λ_ q=>q) λ_ _ q=>q
  rintro rfl;rcases hc with rfl|hc
  .rw[hfree]at e;cases e
  .rw[hfree]at hc;cases hc
 rcases hx with hk|hk
 .refine wpAny_storeName_local hk hn (λh' hn' hs=>?_) hcls
  obtain⟨oL,_,_,hoL,_⟩:=id hn;refine h _ ⟨I.ok,I.os,I.bare,⟨λb o e n hb hx=>?_,λb o e n hb hx=>?_,I.base.free,λb o e hx=>?_,I.base.tups,I.base.frzs,I.base.tbls⟩,⟨_,hn',λj y v' e1 e2 e3=>?_⟩,λy c e=>?_,I.free,I.freeC,λp hp=>?_,tracked ⟨oL,hoL,I.free⟩ hs,by simpa using I.len⟩ ⟨_,hs,.inl Z⟩
  .exact(hs.2 b (QZ (Qx (Qf e) I.ok.above))).trans (I.base.keep b o e n hb hx)
  .obtain⟨sl,e1⟩:=I.base.slot b o e n hb hx
   exact⟨sl,(hs.2 b (QZ (Qx (Qf e) I.ok.above))).trans e1⟩
  .obtain⟨o',e1⟩:=I.base.there b o e hx
   exact⟨o',(hs.2 b (QZ (Qx (Qf e) I.ok.above))).trans e1⟩
  .by_cases hj:j=i
   .subst hj
    rw[hi]at e1;cases e1;rw[QL hiσ]at e2;cases e2;exact⟨u,r,.inl ⟨hk,by simp⟩⟩
   .rw[Qi (Ne.symm hj)]at e2
    obtain⟨u',r',q⟩:=hl j y v' e1 e2 e3;refine⟨u',r',?_⟩;rcases q with ⟨k,e⟩|⟨k,c,e,z⟩
    .refine .inl ⟨k,?_⟩
     have:y≠x:=λe=>hj (O1 hN e1 (e ▸ hi))
     simp[this,e]
    .exact .inr ⟨k,c,e,z.sameBut hs (cne y c e)⟩
  .obtain⟨w',z⟩:=I.cell y c e
   exact⟨w',z.sameBut hs (cne y c e)⟩
  .obtain⟨e,n,ne,nf,d⟩:=I.pin p hp
   exact⟨(hs.2 p.1 ne).trans e,n,ne,nf,d⟩
 .have hfn:X.fn x=B2:=by
   rcases hf with z|z
   .exact z
   .rw[z]at hk;cases hk
  obtain⟨c,hc⟩:=I.ok.has x (.inl hk);obtain⟨w',z⟩:=I.cell x c hc;refine wpAny_storeName_cell I.ok.kind hk hc z (λh' hc' hs=>?_);obtain⟨oc,hoc,hocd⟩:=id z;refine h {s with heap:=h'} ⟨I.ok,I.os,I.bare,⟨λb o e n hb hx=>?_,λb o e n hb hx=>?_,I.base.free,λb o e hx=>?_,I.base.tups,I.base.frzs,I.base.tbls⟩,⟨m,hn.sameBut hs (Ne.symm (cne x c hc)),λj y v' e1 e2 e3=>?_⟩,λy c' e=>?_,I.free,I.freeC,λp hp=>?_,tracked ⟨oc,hoc,I.freeC x c hc⟩ hs,by simpa using I.len⟩ ⟨c,hs,.inr hc⟩
  .exact(hs.2 b (QZ (Qx (Qf e) (I.ok.cab x c hfn hc)))).trans (I.base.keep b o e n hb hx)
  .obtain⟨sl,e1⟩:=I.base.slot b o e n hb hx
   exact⟨sl,(hs.2 b (QZ (Qx (Qf e) (I.ok.cab x c hfn hc)))).trans e1⟩
  .obtain⟨o',e1⟩:=I.base.there b o e hx
   exact⟨o',(hs.2 b (QZ (Qx (Qf e) (I.ok.cab x c hfn hc)))).trans e1⟩
  .by_cases hj:j=i
   .subst hj
    rw[hi]at e1;cases e1;rw[QL hiσ]at e2;cases e2;exact⟨u,r,.inr ⟨.inl hk,c,hc,hc'⟩⟩
   .rw[Qi (Ne.symm hj)]at e2
    obtain⟨u',r',q⟩:=hl j y v' e1 e2 e3;refine⟨u',r',?_⟩;rcases q with q|⟨k,c',e,z'⟩
    .exact .inl q
    .refine .inr ⟨k,c',e,z'.sameBut hs ?_⟩
     rintro rfl;exact hj (O1 hN e1 (I.ok.inj _ _ _ e hc ▸ hi))
  .by_cases hcc:c'=c
   .subst hcc;exact⟨_,hc'⟩
   .obtain⟨w2,z2⟩:=I.cell y c' e
    exact⟨w2,z2.sameBut hs hcc⟩
  .obtain⟨e,n,ne,nf,d⟩:=I.pin p hp
   refine⟨(hs.2 p.1 ?_).trans e,n,ne,nf,d⟩;intro q;rw[q,hoc]at e;have q':oc=p.2:=Q7 e;exact d w' (by rw[←q'];exact hocd)
theorem TY{M:Model}{A:Around}{E:JU->JV->Prop}{i:Nat}{x:Str}{v:V}{u:JU}{Q:Unit->JV->Prop}(I:Inv X pins σ H s)(hN:X.N.Nodup)(hi:X.N[i]?=O x)(hx:Loc X.env.scope x)(r:RelV v u)
  (h:∀s',Inv X pins (σ.set i (O v)) H s'->Q () s') (hf:X.fn x=B2∨X.env.scope.names.lookup x=O .local:=by first|exact .inl rfl|exact .inr rfl|assumption):J4 M A (storeName X.env x u) Q E s:=
 O2 I hN hi hx r (λs' I' _=>h s' I') hf
theorem Inv.call'{s':JV}{ch:Aa}(I:Inv X pins σ H s)(ho:s'.os=s.os)(u:Un (frs X.stack) ch H H' s.heap s'.heap)(hok:HOk X.prog X.w H' s'.heap)(hg:AllBare s'.gens)
  (hch:∀b∈ch,(b∈X.ex∨X.s₀.heap.objs.size<=b)/\b≠X.env.locals/\(∀x c,X.env.cells.lookup x=O c->c≠b)/\∀p∈X.pn++pins,p.1≠b):Inv X pins σ H' s':=by
 obtain⟨h',g',d',t',o'⟩:=s';have e:o'=s.os:=ho;subst e;exact I.call (g':=g') (t':=t') (d':=d') u hok hg hch
end
abbrev XK:=JU->Ae->Hp->Prop
abbrev St:=List (Option V)
abbrev VK:=V->Hp->Prop
abbrev TE:=St->Hp->VK->Prop
abbrev TT:=St->Hp->(Bool->Hp->Prop)->Prop
abbrev TA:=St->Hp->(List V->Hp->Prop)->Prop
structure Ends where
 nx:St->Hp->Prop
 rt:VK
 bk:St->Hp->Prop:=λ_ _=>False
 ct:St->Hp->Prop:=λ_ _=>False
abbrev TS:=Ends->St->Hp->Prop
def EP(X:Cx)(pins:List (JX×Obj))(σ:St)(Q:VK)(u:JU)(s':JV):Prop:=∃v H',Inv X pins σ H' s'/\RelV v u/\Q v H'
def TP(X:Cx)(pins:List (JX×Obj))(σ:St)(Q:Bool->Hp->Prop)(b:Bool)(s':JV):Prop:=∃H',Inv X pins σ H' s'/\Q b H'
def AP(X:Cx)(pins:List (JX×Obj))(σ:St)(Q:List V->Hp->Prop)(us:B5)(s':JV):Prop:=∃vs H',Inv X pins σ H' s'/\Vals vs us/\Q vs H'
def SP(X:Cx)(pins:List (JX×Obj))(D:Ends)(f:Flow)(s':JV):Prop:=
 match f with
 |.next=>∃σ' H',Inv X pins σ' H' s'/\D.nx σ' H'
 |.brk=>∃σ' H',Inv X pins σ' H' s'/\D.bk σ' H'
 |.cont=>∃σ' H',Inv X pins σ' H' s'/\D.ct σ' H'
 |.ret u=>∃v σ' H',Inv X pins σ' H' s'/\RelV v u/\D.rt v H'
def PE(X:Cx)(e:JZ)(t:TE):Prop:=
 ∀(pins:List (JX×Obj))(s:JV)(σ:St)(H:Hp)(Q:VK),Inv X pins σ H s->t σ H Q->J4 (model X.prog X.w) X.A (eval e X.env) (EP X pins σ Q) X.xe s
def PT(X:Cx)(e:JZ)(t:TT):Prop:=
 ∀(pins:List (JX×Obj))(s:JV)(σ:St)(H:Hp)(Q:Bool->Hp->Prop),Inv X pins σ H s->t σ H Q->J4 (model X.prog X.w) X.A (isTrue e X.env (eval e X.env)) (TP X pins σ Q) X.xe s
def PW(X:Cx)(e:JZ)(t:TT):Prop:=
 ∀(whole:Sem JU)(pins:List (JX×Obj))(s:JV)(σ:St)(H:Hp)(Q:Bool->Hp->Prop),Inv X pins σ H s->t σ H Q->J4 (model X.prog X.w) X.A (isTrue e X.env whole) (TP X pins σ Q) X.xe s
theorem PW.pt{X:Cx}{e:JZ}{t:TT}(h:PW X e t):PT X e t:=h _
def PA(X:Cx)(es:B8)(t:TA):Prop:=
 ∀(pos:Pos)(pins:List (JX×Obj))(s:JV)(σ:St)(H:Hp)(Q:List V->Hp->Prop),Inv X pins σ H s->t σ H Q->J4 (model X.prog X.w) X.A (spliced (backTo pos (J5 es X.env))) (AP X pins σ Q) X.xe s
def PS(X:Cx)(st:Stmt)(t:TS):Prop:=
 ∀(pins:List (JX×Obj))(s:JV)(σ:St)(H:Hp)(D:Ends),Inv X pins σ H s->t D σ H->J4 (model X.prog X.w) X.A (exec st X.env) (SP X pins D) X.xe s
def PSs(X:Cx)(st:List Stmt)(t:TS):Prop:=
 ∀(pins:List (JX×Obj))(s:JV)(σ:St)(H:Hp)(D:Ends),Inv X pins σ H s->t D σ H->J4 (model X.prog X.w) X.A (execs st X.env) (SP X pins D) X.xe s
theorem thn{α:Type}{t:Sem α}{Q Q':α->JV->Prop}{M:Model}{A:Around}{E:JU->JV->Prop}{s:JV}(h:J4 M A t Q E s)(hQ:∀a s,Q a s->Q' a s):J4 M A t Q' E s:=QA h hQ λ_ _ x=>x
section
variable{X:Cx}
noncomputable def UZ(i:Nat):TE:=λσ H Q=>∃v,σ[i]?=O (O v)/\Q v H
noncomputable def tC(v:V):TE:=λ_ H Q=>Q v H
theorem Pu{i:Nat}{x:Str}{pos:Pos}(hN:X.N[i]?=O x)(hv:Vis X.env.scope x)(hd:(x==("__debug__" : Str))=B3:=by decide)(hcd:(x==("__classdict__" : Str))=B3:=by decide):PE X (.Name x pos) (UZ i):=by
 intro pins s σ H Q I h;obtain⟨v,e,h⟩:=h;obtain⟨m,hn,hl⟩:=I.loc;obtain⟨u,r,l⟩:=hl i x v hN e hv;have fin:EP X pins σ Q u s:=⟨v,H,I,r,h⟩;rcases l with ⟨hk,hm⟩|⟨hk,c,hc,hcell⟩
 .exact wpAny_Name (wpAny_loadName_local I.ok.kind hk hn hm fin) hd
 .rcases hk with hk|hk
  .exact wpAny_Name (wpAny_loadName_cell I.ok.kind hk hc hcell fin) hd
  .exact wpAny_Name (wpAny_loadName_free I.ok.kind hk hc hcell fin hcd) hd
theorem VG{i j pos}:PE X (.Constant (.int i) j pos) (tC (.int i)):=λ_ _ _ H _ I h=>wpAny_Constant_int ⟨.int i,H,I.tok _,⟨_,rfl⟩,h⟩
theorem MJ{b j pos}:PE X (.Constant (.bool b) j pos) (tC (.bl b)):=λ_ _ _ H _ I h=>Constant_bool ⟨.bl b,H,I,rfl,h⟩
theorem Hn{j pos}:PE X (.Constant .none j pos) (tC .non):=λ_ _ _ H _ I h=>Constant_none ⟨.non,H,I,rfl,h⟩
theorem Tv{x j pos}:PE X (.Constant (.str x) j pos) (tC (.str x)):=λ_ _ _ H _ I h=>Calls.Constant_str ⟨.str x,H,I.tok _,⟨_,rfl⟩,h⟩
def Gl(X:Cx)(x:Str):Prop:=X.env.kindOf x=O .globalImplicit
theorem Y3{E:JU->JV->Prop}{pins:List (JX×Obj)}{s:JV}{σ:St}{H:Hp}{x:Str}{u:JU}{pos:Pos}{Q:JU->JV->Prop}(I:Inv X pins σ H s)(hg:Gl X x)(hm:X.mg x=O u)(h:Q u s)
  (hd:(x==("__debug__" : Str))=B3:=by decide):J4 (model X.prog X.w) X.A (eval (.Name x pos) X.env) Q E s:=
 Calls.Name_function_global I.ok.kind hg (Calls.loadGlobal_global (by rw[I.ok.glob];exact I.mod.glob.keeps I.bk) hm h) hd
theorem Wv{E:JU->JV->Prop}{pins:List (JX×Obj)}{s:JV}{σ:St}{H:Hp}{x:Str}{u:JU}{pos:Pos}{Q:JU->JV->Prop}(I:Inv X pins σ H s)(hg:Gl X x)(hm:X.mg x=B0)(hv:bootBuiltins x=O u)(h:Q u s)
  (hn:x ≠ "__name__" :=by decide) (hd:(x==("__debug__" : Str))=B3:=by decide):J4 (model X.prog X.w) X.A (eval (.Name x pos) X.env) Q E s:=by
 obtain⟨mb,h1,h2⟩:=I.mod.blt;exact Calls.Name_function_global I.ok.kind hg (Calls.loadGlobal_builtin (by rw[I.ok.glob];exact I.mod.glob.keeps I.bk) hm (by rw[I.ok.blt];exact h1.keeps I.bk) ((h2 x hn).trans hv) h) hd
theorem TH{x:Str}{v:V}{u:JU}{pos:Pos}(hg:Gl X x)(hm:X.mg x=O u)(r:RelV v u)(hd:(x==("__debug__" : Str))=B3:=by decide):PE X (.Name x pos) (tC v):=
 λ_ _ _ H _ I h=>Y3 I hg hm ⟨v,H,I,r,h⟩ hd
theorem FN{x:Str}{v:V}{u:JU}{pos:Pos}(hg:Gl X x)(hm:X.mg x=B0)(hv:bootBuiltins x=O u)(r:RelV v u)(hn:x ≠ "__name__" :=by decide)(hd:(x==("__debug__" : Str))=B3:=by decide):PE X (.Name x pos) (tC v):=
 λ_ _ _ H _ I h=>Wv I hg hm hv ⟨v,H,I,r,h⟩ hn hd
variable{a b:JZ}{ta tb:TE}{pos:Pos}
noncomputable def tB(t:TE):TT:=λσ H Q=>t σ H λx H1=>∃c,x=.bl c/\Q c H1
theorem Gm{e:JZ}{t:TE}(h:PE X e t)(he:∀whole,isTrue e X.env whole=(do let v ←whole;standAt e.pos;holding [v] (truthy v)):=by intro _;rfl):PT X e (tB t):=by intro pins s σ H Q I hw;refine isTrue_plain (thn (h pins s σ H _ I hw) λv s1 ⟨x,H1,I1,r1,q1⟩=>?_) (he _);obtain⟨d,rfl,q⟩:=q1;cases r1;exact Ja ⟨H1,I1,q⟩
variable{tA tB':TT}{rest:B8}
noncomputable def tAnd(t u:TT):TT:=λσ H Q=>t σ H λc H1=>if c=B2 then u σ H1 Q else Q B3 H1
noncomputable def tOr(t u:TT):TT:=λσ H Q=>t σ H λc H1=>if c=B2 then Q B2 H1 else u σ H1 Q
noncomputable def tNot(t:TT):TT:=λσ H Q=>t σ H λc H1=>Q (!c) H1
theorem FM(ha:PT X a tA):PW X (.BoolOp .And [a] pos) tA:=by
 intro wh pins s σ H Q I h;refine isTrue_and (thn (ha pins s σ H Q I h) λc s1 e=>?_);cases c with
 |true=>exact isTrue_and_nil e
 |false=>exact e
theorem Gk(ha:PT X a tA):PW X (.BoolOp .Or [a] pos) tA:=by
 intro wh pins s σ H Q I h;refine isTrue_or (thn (ha pins s σ H Q I h) λc s1 e=>?_);cases c with
 |false=>exact isTrue_or_nil e
 |true=>exact e
theorem Gj(ha:PT X a tA)(hb:PW X (.BoolOp .And (b::rest) pos) tB'):PW X (.BoolOp .And (a::b::rest) pos) (tAnd tA tB'):=by
 intro wh pins s σ H Q I h;refine isTrue_and (thn (ha pins s σ H _ I h) λc s1 ⟨H1,I1,q1⟩=>?_);cases c with
 |true=>exact hb wh pins s1 σ H1 Q I1 q1
 |false=>exact⟨H1,I1,q1⟩
theorem MI(ha:PT X a tA)(hb:PW X (.BoolOp .Or (b::rest) pos) tB'):PW X (.BoolOp .Or (a::b::rest) pos) (tOr tA tB'):=by
 intro wh pins s σ H Q I h;refine isTrue_or (thn (ha pins s σ H _ I h) λc s1 ⟨H1,I1,q1⟩=>?_);cases c with
 |true=>exact⟨H1,I1,q1⟩
 |false=>exact hb wh pins s1 σ H1 Q I1 q1
theorem Gi(ha:PT X a tA):PT X (.UnaryOp .Not a pos) (tNot tA):=by intro pins s σ H Q I h;exact isTrue_not (ha pins s σ H (λc H1=>Q (!c) H1) I h)
noncomputable def MH(ta tb:TE):TE:=λσ H Q=>ta σ H λx H1=>∃c,x=.bl c/\if c=B2 then tb σ H1 Q else Q (.bl B3) H1
noncomputable def MG(ta:TE):TE:=λσ H Q=>ta σ H λx H1=>∃c,x=.bl c/\Q (.bl (!c)) H1
theorem Gh{op}{t:TE}(h:PE X a t):PE X (.BoolOp op [a] pos) t:=λpins s σ H Q I hw=>BoolOp_one (h pins s σ H Q I hw)
theorem Gg(ha:PE X a ta)(hb:PE X (.BoolOp .And (b::rest) pos) tb):PE X (.BoolOp .And (a::b::rest) pos) (MH ta tb):=by
 intro pins s σ H Q I h;refine BoolOp_and (thn (ha pins s σ H _ I h) λv s1 ⟨x,H1,I1,r1,q1⟩=>?_);obtain⟨c,rfl,q1⟩:=q1;cases r1;refine Ja ?_;cases c with
 |true=>exact hb pins s1 σ H1 Q I1 q1
 |false=>exact⟨.bl B3,H1,I1,rfl,q1⟩
theorem Ge(ha:PE X a ta):PE X (.UnaryOp .Not a pos) (MG ta):=by intro pins s σ H Q I h;refine UnaryOp_ (thn (ha pins s σ H _ I h) λv s1 ⟨x,H1,I1,r1,q1⟩=>?_);obtain⟨c,rfl,q1⟩:=q1;cases r1;exact not_of (Ja ⟨.bl (!c),H1,I1,rfl,q1⟩)
end
def SqL(K:Frag)(H:Hp)(a:JX)(xs:List V):Prop:=
 Rd H a (.lst xs) ∨
  ∃(o:Obj)(its:Array JU)(n:Nat),K.lookup a=O o/\o.cls=.type "list" /\ o.dict=B0/\o.data=.seq its n/\its.size<=J0/\Vals xs its.toList
def SqT(K:Frag)(H:Hp)(a:JX)(xs:List V):Prop:=
 Rd H a (.tup xs) ∨
  ∃(o:Obj)(its:Array JU)(n:Nat),K.lookup a=O o/\o.cls=.type "tuple" /\ o.data=.seq its n/\its.size<=J0/\Vals xs its.toList
noncomputable def absV:JU->Option V
 |.none=>O .non
 |.bool b=>O (.bl b)
 |.int i _=>O (.int i)
 |.str x _=>O (.str x)
 |.bytes b _=>O (.byt b)
 |.float b _=>O (.flt b)
 |.ref a=>O (.ref a)
 |.type n=>O (.ty n)
 |_=>B0
theorem RelV.abs{x:V}{u:JU}(r:RelV x u):absV u=O x:=by
 cases x with
 |non=>cases r;rfl
 |bl _=>cases r;rfl
 |int _=>obtain⟨t,rfl⟩:=r;rfl
 |str _=>obtain⟨t,rfl⟩:=r;rfl
 |byt _=>obtain⟨t,rfl⟩:=r;rfl
 |flt _=>obtain⟨t,rfl⟩:=r;rfl
 |ref _=>cases r;rfl
 |ty _=>cases r;rfl
theorem RelV.inj{x y:V}{u:JU}(r:RelV x u)(q:RelV y u):x=y:=Q7 (r.abs.symm.trans q.abs)
theorem Vals.inj:∀{xs ys:List V}{us:B5},Vals xs us->Vals ys us->xs=ys
 |_,_,_,.nil,.nil=>rfl
 |_,_,_,.cons r t,.cons r' t'=>by rw[r.inj r',Vals.inj t t']
section
variable{X:Cx}{pins:List (JX×Obj)}{σ:St}{H:Hp}{s:JV}{a:JX}{xs ys:List V}
theorem SqL.of{K:Frag}(h:H a=O (.lst xs)):SqL K H a xs:=.inl (.inl h)
theorem SqT.of{K:Frag}(h:H a=O (.tup xs)):SqT K H a xs:=.inl (.inl h)
theorem Inv.list(I:Inv X pins σ H s)(h:SqL X.K H a xs):∃its:B5,Vals xs its/\PlainL s.heap a its.toArray/\xs.length<=J0:=by
 rcases h with h|⟨o,its,n,hk,hc,hd,hs,hz,r⟩
 .obtain⟨z,its,n,r,e⟩:=h.ok I.hok
  exact⟨its,r,⟨_,n,e,rfl,rfl,rfl⟩,z⟩
 .refine⟨its.toList,r,⟨o,n,I.kIn a o hk,hc,hd,by simpa using hs⟩,?_⟩
  have e:=r.length;simp only[Array.length_toList]at e;omega
theorem Inv.tuple(I:Inv X pins σ H s)(h:SqT X.K H a xs):∃its:B5,Vals xs its/\IsTup s.heap a its.toArray/\xs.length<=J0:=by
 rcases h with h|⟨o,its,n,hk,hc,hs,hz,r⟩
 .obtain⟨z,its,r,p⟩:=h.ok I.hok
  exact⟨its,r,p,z⟩
 .refine⟨its.toList,r,⟨o,I.kIn a o hk,hc,n,by simpa using hs⟩,?_⟩
  have e:=r.length;simp only[Array.length_toList]at e;omega
theorem Inv.list_inj(I:Inv X pins σ H s)(h:SqL X.K H a xs)(h':SqL X.K H a ys):xs=ys:=by
 obtain⟨its,r,⟨o,n,e,_,_,d⟩,_⟩:=I.list h;obtain⟨its',r',⟨o',n',e',_,_,d'⟩,_⟩:=I.list h';rw[e]at e';cases e';rw[d]at d';injection d' with d1 _
 have:its=its':=by simpa using congrArg Array.toList d1
 subst this;exact r.inj r'
theorem Inv.tuple_inj(I:Inv X pins σ H s)(h:SqT X.K H a xs)(h':SqT X.K H a ys):xs=ys:=by
 obtain⟨its,r,⟨o,e,_,n,d⟩,_⟩:=I.tuple h;obtain⟨its',r',⟨o',e',_,n',d'⟩,_⟩:=I.tuple h';rw[e]at e';cases e';rw[d]at d';injection d' with d1 _
 have:its=its':=by simpa using congrArg Array.toList d1
 subst this;exact r.inj r'
end
noncomputable abbrev Cx.wish(X:Cx)(E:JU->JV->Prop):Cx:={X with xe:=E}
noncomputable abbrev Cx.nox(X:Cx):Cx:=X.wish λ_ _=>False
theorem Cx.Ok.wish{X:Cx}(ok:X.Ok)(E:JU->JV->Prop):(X.wish E).Ok:=
 ⟨ok.mod,ok.kind,ok.glob,ok.blt,ok.above,ok.inj,ok.has,ok.cab,ok.hd,ok.frames,ok.stk,ok.exf,ok.bs,ok.bsz,ok.noex,ok.exfs,ok.funs,ok.frf⟩
theorem Cx.Ok.unwish{X:Cx}{E:JU->JV->Prop}(ok:(X.wish E).Ok):X.Ok:=
 ⟨ok.mod,ok.kind,ok.glob,ok.blt,ok.above,ok.inj,ok.has,ok.cab,ok.hd,ok.frames,ok.stk,ok.exf,ok.bs,ok.bsz,ok.noex,ok.exfs,ok.funs,ok.frf⟩
section
variable{X:Cx}{pins:List (JX×Obj)}{σ:St}{H:Hp}{s:JV}{E:JU->JV->Prop}
theorem Inv.wish(I:Inv X pins σ H s)(E:JU->JV->Prop):Inv (X.wish E) pins σ H s:=⟨I.ok.wish E,I.os,I.bare,I.base,I.loc,I.cell,I.free,I.freeC,I.pin,I.hok,I.len⟩
theorem Inv.unwish(I:Inv (X.wish E) pins σ H s):Inv X pins σ H s:=⟨I.ok.unwish,I.os,I.bare,I.base,I.loc,I.cell,I.free,I.freeC,I.pin,I.hok,I.len⟩
theorem SP.unwish{D:Ends}{f:Flow}{s':JV}(h:SP (X.wish E) pins D f s'):SP X pins D f s':=by
 cases f with
 |next=>obtain⟨σ',H',I,q⟩:=h;exact⟨σ',H',I.unwish,q⟩
 |brk=>obtain⟨σ',H',I,q⟩:=h;exact⟨σ',H',I.unwish,q⟩
 |cont=>obtain⟨σ',H',I,q⟩:=h;exact⟨σ',H',I.unwish,q⟩
 |ret u=>obtain⟨v,σ',H',I,r,q⟩:=h;exact⟨v,σ',H',I.unwish,r,q⟩
theorem PSs.nox{st:List Stmt}{t:TS}(h:PSs X.nox st t):PSs X st t:=λpins s σ H D I hw=>
 QA (h pins s σ H D (I.wish _) hw) (λ_ _ q=>q.unwish) λ_ _ z=>False.elim z
end
section
variable{X:Cx}{st:Stmt}{rest:List Stmt}{t u:TS}{e:JZ}{te:TE}{pos:Pos}
noncomputable def MF:TS:=λD σ H=>D.nx σ H
noncomputable def Zu(t u:TS):TS:=λD σ H=>t {D with nx:=u D} σ H
theorem FL:PSs X [] MF:=λ_ _ σ H _ I h=>Js ⟨σ,H,I,h⟩
theorem Wx(h1:PS X st t)(h2:PSs X rest u):PSs X (st::rest) (Zu t u):=by
 intro pins s σ H D I h;refine wpAny_execs_cons (thn (h1 pins s σ H {D with nx:=u D} I h) λf s1 q=>?_);cases f with
 |next=>obtain⟨σ',H',I',q⟩:=q;exact h2 pins s1 σ' H' D I' q
 |ret v=>exact q
 |brk=>exact q
 |cont=>exact q
theorem Vh(h1:PS X st t):PSs X [st] t:=by
 intro pins s σ H D I h;refine wpAny_execs_cons (thn (h1 pins s σ H D I h) λf s1 q=>?_);cases f with
 |next=>exact Js q
 |ret v=>exact q
 |brk=>exact q
 |cont=>exact q
theorem Inv.quiet{pins:List (JX×Obj)}{σ:St}{H:Hp}{s:JV}(I:Inv X pins σ H s):interactive X.env=B3:=by simp[interactive,I.ok.kind]
noncomputable def Tl(te:TE):TS:=λD σ H=>te σ H λ_ H1=>D.nx σ H1
theorem Xk(he:PE X e te)(hs:swapsWith e B0 pos.line X.env=pure B3:=by rfl):PS X (.Expr e pos) (Tl te):=by intro pins s σ H D I h;exact wpAny_Expr_any (thn (he pins s σ H _ I h) λv s1 ⟨x,H1,I1,r1,q1⟩=>⟨σ,H1,I1,q1⟩) I.quiet hs
noncomputable def tRet(te:TE):TS:=λD σ H=>te σ H D.rt
theorem Pt(he:PE X e te):PS X (.Return (O e) pos) (tRet te):=by intro pins s σ H D I h;exact wpAny_Return_some (thn (he pins s σ H _ I h) λv s1 ⟨x,H1,I1,r1,q1⟩=>⟨x,σ,H1,I1,r1,q1⟩)
noncomputable def tIfS(c:TT)(t u:TS):TS:=λD σ H=>c σ H λb H1=>if b=B2 then t D σ H1 else u D σ H1
theorem ME{c:JZ}{a b:List Stmt}{tc:TT}(hc:PT X c tc)(ha:PSs X a t)(hb:PSs X b u):PS X (.If c a b pos) (tIfS tc t u):=by
 intro pins s σ H D I h;refine wpAny_If (thn (hc pins s σ H _ I h) λd s1 ⟨H1,I1,q1⟩=>?_);cases d with
 |true=>exact ha pins s1 σ H1 D I1 q1
 |false=>exact hb pins s1 σ H1 D I1 q1
end
abbrev TG:=V->St->Hp->(St->Hp->Prop)->Prop
abbrev TGs:=List V->St->Hp->(St->Hp->Prop)->Prop
def PG(X:Cx)(target:JZ)(t:TG):Prop:=
 ∀(pins:List (JX×Obj))(s:JV)(σ:St)(H:Hp)(v:V)(u:JU)(Q:St->Hp->Prop),Inv X pins σ H s->RelV v u->t v σ H Q ->
  J4 (model X.prog X.w) X.A (assign target X.env u) (λ_ s'=>∃σ' H',Inv X pins σ' H' s'/\Q σ' H') X.xe s
def PGs(X:Cx)(ts:B8)(t:TGs):Prop:=
 ∀(pins:List (JX×Obj))(s:JV)(σ:St)(H:Hp)(vs:List V)(us:B5)(Q:St->Hp->Prop),Inv X pins σ H s->Vals vs us->t vs σ H Q ->
  J4 (model X.prog X.w) X.A (assignInOrder ((Uk ts X.env).map (·.2)) us) (λ_ s'=>∃σ' H',Inv X pins σ' H' s'/\Q σ' H') X.xe s
section
variable{X:Cx}{pos:Pos}
noncomputable def Sm(i:Nat):TG:=λv σ H Q=>Q (σ.set i (O v)) H
theorem SH{i:Nat}{x:Str}(hN:X.N.Nodup)(hi:X.N[i]?=O x)(hx:Loc X.env.scope x)(hf:X.fn x=B2∨X.env.scope.names.lookup x=O .local:=by first|exact .inl rfl|exact .inr rfl|assumption):PG X (.Name x pos) (Sm i):=by intro pins s σ H v u Q I r h;exact wpAny_assign_Name (TY I hN hi hx r (λs' I'=>⟨_,H,I',h⟩) hf)
noncomputable def gNil:TGs:=λvs σ H Q=>vs=[]/\Q σ H
noncomputable def MD(t:TG)(u:TGs):TGs:=λvs σ H Q=>∃v r,vs=v::r/\t v σ H λσ' H'=>u r σ' H' Q
theorem FJ:PGs X [] gNil:=by intro pins s σ H vs us Q I r h;obtain⟨e,h⟩:=h;subst e;cases r;exact assignInOrder_nil ⟨σ,H,I,h⟩
theorem DJ{e:JZ}{es:B8}{t:TG}{u:TGs}(h1:PG X e t)(h2:PGs X es u)
  (hs:(Uk (e::es) X.env).map (·.2)=assign e X.env::(Uk es X.env).map (·.2):=by rfl):PGs X (e::es) (MD t u):=by
 intro pins s σ H vs us Q I r h;obtain⟨v,vr,e1,h⟩:=h;subst e1;cases r with
 |cons r rr=>rw[hs];refine assignInOrder_cons (thn (h1 pins s σ H _ _ _ I r h) λ_ s1 ⟨σ1,H1,I1,q1⟩=>?_);exact h2 pins s1 σ1 H1 _ _ Q I1 rr q1
noncomputable def gTup(K:Frag)(n:Nat)(t:TGs):TG:=λv σ H Q=>∃a xs,v=.ref a/\SqT K H a xs/\xs.length=n/\t xs σ H Q
theorem Gd{es:B8}{k:Nat}{t:TGs}{n:Nat}(hc:X.calm=B2)(h:PGs X es t)
  (hn:(Uk es X.env).length=n:=by rfl) (hst:(Uk es X.env).findIdx? (·.1)=B0:=by rfl):PG X (.Tuple es k pos) (gTup X.K n t):=by
 intro pins s σ H v u Q I r hw;obtain⟨a,xs,e1,hq,hl,hw⟩:=hw;subst e1;cases r;obtain⟨its,rv,ht,hz⟩:=I.tuple hq;refine assign_Tuple_tuple (I.ok.hd hc) ht (by simp[hn,←hl,rv.length]) hst λh' hx=>?_
 have I1:Inv X pins σ H {s with heap:=h'}:=I.kept (t':=s.toks) λb o e=>hx b o (QZ (Qf e)) e;exact h pins _ σ H xs _ Q I1 (by simpa using rv) hw
noncomputable def tAsg(te:TE)(g:TG):TS:=λD σ H=>te σ H λx H1=>g x σ H1 D.nx
theorem Gc{tg e:JZ}{te:TE}{g:TG}(he:PE X e te)(hg:PG X tg g)(hs:swapsWithSole [tg] e pos.line X.env=pure B3:=by rfl)(hw:swappedStores [tg] e X.env=pure B0:=by rfl)
  (h1:(Uk [tg] X.env).map (·.2)=[assign tg X.env]:=by rfl):PS X (.Assign [tg] e pos) (tAsg te g):=by
 intro pins s σ H D I h;refine wpAny_Assign_stores (thn (he pins s σ H _ I h) λv s1 ⟨x,H1,I1,r1,q1⟩=>?_) hs hw;rw[h1];exact thn (hg pins s1 σ H1 x v _ I1 r1 q1) λ_ s2 q=>q
theorem Tu{i:Nat}{x:Str}{e:JZ}{te:TE}{pos':Pos}(hN:X.N.Nodup)(hi:X.N[i]?=O x)(hx:Loc X.env.scope x)(he:PE X e te)(hs:swapsWith e (O (.Name x pos')) pos.line X.env=pure B3:=by rfl)(hf:X.fn x=B2∨X.env.scope.names.lookup x=O .local:=by first|exact .inl rfl|exact .inr rfl|assumption) :
  PS X (.Assign [.Name x pos'] e pos) (tAsg te (Sm i)):=by
 intro pins s σ H D I h;refine wpAny_Assign_Name (thn (he pins s σ H _ I h) λv s1 ⟨y,H1,I1,r1,q1⟩=>?_) hs;exact TY I1 hN hi hx r1 (λs2 I2=>⟨_,H1,I2,q1⟩) hf
end
structure It where
 go:Nat->Hp->Prop
 yld:Nat->Hp->V->Hp->Prop
 stop:Nat->Hp->Prop
def Kg(X:Cx)(pins:List (JX×Obj))(H:Hp)(b:JX):Prop:=
 H b=B0/\b≠X.env.locals/\b∉X.fs/\(b∈X.ex∨X.s₀.heap.objs.size<=b)/\(∀x c,X.env.cells.lookup x=O c->c≠b)/\∀p∈X.pn++pins,p.1≠b
theorem Inv.fpOk{X:Cx}{pins:List (JX×Obj)}{σ:St}{H H':Hp}{s:JV}{b:JX}(I:Inv X pins σ H s)(hb:s.heap.objs.size<=b)(hn:H' b=B0):Kg X pins H' b:=by
 refine⟨hn,Ji (Qx I.lt hb),I.nofs hb,.inr (Qq I.sz hb),λx c e z=>?_,λp hp z=>?_⟩
 .obtain⟨v,q⟩:=I.cell x c e
  exact absurd (Qx q.lt (by rw[z];exact hb)) (Jo _)
 .exact absurd (Qx (Qf (I.pin p hp).1) (by rw[z];exact hb)) (Jo _)
structure Turn(P:JW)(w:World)(K:Frag)(tg:JZ)(J:It)(fp:Aa)(it:JX)(tn:Nat->Heap->Prop):Prop where
 mem:it∈fp
 obj:∀i h,tn i h->∀b∈fp,∃o,h.get? b=O o/\∀v,o.data≠.cell v
 keep:∀i h h',tn i h->(∀b∈fp,∀o,h.get? b=O o->h'.get? b=O o)->tn i h'
 item:∀(X:Cx),X.prog=P->X.w=w->X.K=K->X.calm=B2->∀(i:Nat)(pins:List (JX×Obj))(s:JV)(σ:St)(H:Hp)(E:JU->JV->Prop),Inv X pins σ H s->(∀b∈fp,Kg X pins H b)->tn i s.heap->J.go i H ->
  J4 (model P w) X.A (pyNext (.ref it)) (λr s1=>∃u,r=O u /\
   J4 (model P w) X.A (letOwnedTupleGo tg (.ref it) u) (λ_ s2=>∃x H',Inv X pins σ H' s2/\RelV x u/\J.yld i H x H'/\tn (i+1) s2.heap/\∀b∈fp,H' b=B0) E s1) E s
 done:∀(X:Cx),X.prog=P->X.w=w->X.K=K->X.calm=B2->∀(i:Nat)(pins:List (JX×Obj))(s:JV)(σ:St)(H:Hp)(E:JU->JV->Prop),Inv X pins σ H s->(∀b∈fp,Kg X pins H b)->tn i s.heap->J.stop i H ->
  J4 (model P w) X.A (pyNext (.ref it)) (λr s1=>r=B0/\Inv X pins σ H s1) E s
 self:∀(A:Around)(i:Nat)(s:JV)(Q:JU->JV->Prop)(E:JU->JV->Prop),tn i s.heap->Q (.ref it) s->J4 (model P w) A (pyIter (.ref it)) Q E s
abbrev TI:=St->Hp->(It->Hp->Prop)->Prop
def PIE(X:Cx)(pins:List (JX×Obj))(σ:St)(tg:JZ)(R:It->Hp->Prop)(itv:JU)(s2:JV):Prop:=
 ∃(it:JX)(fp:Aa)(tn:Nat->Heap->Prop)(J:It)(H':Hp),itv=.ref it/\Inv X pins σ H' s2/\Turn X.prog X.w X.K tg J fp it tn/\tn 0 s2.heap/\(∀b∈fp,Kg X pins H' b)/\R J H'
def PI(X:Cx)(tg iter:JZ)(wi:TI):Prop:=
 ∀(pins:List (JX×Obj))(s:JV)(σ:St)(H:Hp)(R:It->Hp->Prop),Inv X pins σ H s->wi σ H R ->
  J4 (model X.prog X.w) X.A (eval iter X.env) (λv s1=>J4 (model X.prog X.w) X.A (pyIter v) (PIE X pins σ tg R) X.xe s1) X.xe s
theorem Tk{M:Model}{A:Around}{E:JU->JV->Prop}{s:JV}{tg:JZ}{it:JX}{u:JU}{o:Obj}{n:String}{vs:Array JU}{Q:Unit->JV->Prop}(ho:s.heap.get? it=O o)(hc:o.cls=.type n)(hd:o.data=.fields vs)
  (hn:["enumerate", "zip", "dict_itemiterator", "dict_reverseitemiterator", "odict_iterator", "itertools.zip_longest", "itertools.pairwise"].contains n=B3) (hQ:Q () s):J4 M A (letOwnedTupleGo tg (.ref it) u) Q E s:=by
 unfold letOwnedTupleGo
 cases tg<;>first
  |exact Qg hQ
  |(cases u<;>first
    |exact Qg hQ
    |(
      refine Qb (wpAny_load ho ?_);rw[hc,hd];show J4 M A (if(["enumerate", "zip", "dict_itemiterator", "dict_reverseitemiterator", "odict_iterator", "itertools.zip_longest", "itertools.pairwise"].contains n&&vs[0]?==O (rawInt _))=B2 then _ else _) Q E s;rw[QD (by intro h;rw[hn,Bool.false_and]at h;cases h)];exact Qg hQ))
noncomputable def Itl(K:Frag)(a:JX):It:=
 ⟨λi H=>∃xs x,SqL K H a xs/\xs[i]?=O x,λi H x H'=>H'=H/\∀xs,SqL K H a xs->xs[i]?=O x,λi H=>∃xs,SqL K H a xs/\xs.length<=i⟩
noncomputable def Itt(K:Frag)(a:JX):It:=
 ⟨λi H=>∃xs x,SqT K H a xs/\xs[i]?=O x,λi H x H'=>H'=H/\∀xs,SqT K H a xs->xs[i]?=O x,λi H=>∃xs,SqT K H a xs/\xs.length<=i⟩
noncomputable def Itr(lo:Int)(n:Nat):It:=⟨λi _=>i<n,λi H x H'=>H'=H/\x=.int (lo+i),λi _=>n<=i⟩
theorem Nj{P:JW}{w:World}{K:Frag}{tg:JZ}(a it:JX):Turn P w K tg (Itl K a) [it] it (λi h=>h.IsListIter it a i) where
 mem:=by simp
 obj:=λi h st b hb=>by
  have e:b=it:=by simpa using hb
  subst e;obtain⟨o,e,c,d⟩:=st;exact⟨o,e,λv z=>by rw[d]at z;cases z⟩
 keep:=λi h h' st k=>st.at λo e=>k it (by simp) o e
 item:=by
  intro X hP hw hK hc i pins s σ H E I hf st hg;subst hP hw hK;obtain⟨xs,x,hq,hx⟩:=hg;obtain⟨its,rv,p,hz⟩:=I.list hq;obtain⟨u,hu,ru⟩:=rv.get hx;obtain⟨f0,f1,f2,f3,f4,f5⟩:=hf it (by simp);refine wpAny_pyNext_list_item st p.isList (x:=u) (by simpa using hu) λh' st' sb=>?_
  have I1:Inv X pins σ H {s with heap:=h'}:=I.turned (t':=s.toks) (λb o hb e=>(sb.2 b hb).trans e) f0 f1 f3 f4 f5;obtain⟨o,e,c,d⟩:=id st';exact⟨u,rfl,Tk (s:={s with heap:=h'}) e c d (by decide) ⟨x,H,I1,ru,⟨rfl,λys hy=>by rw[I.list_inj hy hq];exact hx⟩,st',λb hb=>(hf b hb).1⟩⟩
 done:=by intro X hP hw hK hc i pins s σ H E I hf st hg;subst hP hw hK;obtain⟨xs,hq,hx⟩:=hg;obtain⟨its,rv,p,hz⟩:=I.list hq;obtain⟨f0,f1,f2,f3,f4,f5⟩:=hf it (by simp);have hl:=rv.length;exact wpAny_pyNext_list_end (I.ok.hd hc) st p.isList (by simp;omega) λh' eb=>⟨rfl,I.turned (t':=s.toks) (λb o hb e=>eb b o hb e) f0 f1 f3 f4 f5⟩
 self:=λ_ _ _ _ _ st h=>wpAny_pyIter_listiter st h
theorem Bf{P:JW}{w:World}{K:Frag}{tg:JZ}(a it:JX):Turn P w K tg (Itt K a) [it] it (λi h=>h.IsTupleIter it a i) where
 mem:=by simp
 obj:=λi h st b hb=>by
  have e:b=it:=by simpa using hb
  subst e;obtain⟨o,e,c,d⟩:=st;exact⟨o,e,λv z=>by rw[d]at z;cases z⟩
 keep:=λi h h' st k=>st.at λo e=>k it (by simp) o e
 item:=by
  intro X hP hw hK hc i pins s σ H E I hf st hg;subst hP hw hK;obtain⟨xs,x,hq,hx⟩:=hg;obtain⟨its,rv,p,hz⟩:=I.tuple hq;obtain⟨u,hu,ru⟩:=rv.get hx;obtain⟨f0,f1,f2,f3,f4,f5⟩:=hf it (by simp);refine wpAny_pyNext_tuple_item st (show s.heap.IsTuple a its.toArray from p) (x:=u) (by simpa using hu) λh' st' sb=>?_
  have I1:Inv X pins σ H {s with heap:=h'}:=I.turned (t':=s.toks) (λb o hb e=>(sb.2 b hb).trans e) f0 f1 f3 f4 f5;obtain⟨o,e,c,d⟩:=id st';exact⟨u,rfl,Tk (s:={s with heap:=h'}) e c d (by decide) ⟨x,H,I1,ru,⟨rfl,λys hy=>by rw[I.tuple_inj hy hq];exact hx⟩,st',λb hb=>(hf b hb).1⟩⟩
 done:=by intro X hP hw hK hc i pins s σ H E I hf st hg;subst hP hw hK;obtain⟨xs,hq,hx⟩:=hg;obtain⟨its,rv,p,hz⟩:=I.tuple hq;obtain⟨f0,f1,f2,f3,f4,f5⟩:=hf it (by simp);have hl:=rv.length;exact wpAny_pyNext_tuple_end (I.ok.hd hc) st (show s.heap.IsTuple a its.toArray from p) (by simp;omega) λh' eb=>⟨rfl,I.turned (t':=s.toks) (λb o hb e=>eb b o hb e) f0 f1 f3 f4 f5⟩
 self:=λ_ _ _ _ _ st h=>wpAny_pyIter_tupleiter st h
theorem Be{P:JW}{w:World}{K:Frag}{tg:JZ}(it:JX)(lo:Int)(n:Nat):Turn P w K tg (Itr lo n) [it] it (λi h=>IsRangeIter h it (lo+(i:Nat)*1) ((n:Int)-(i:Nat)) 1) where
 mem:=by simp
 obj:=λi h st b hb=>by
  have e:b=it:=by simpa using hb
  subst e;exact⟨_,st,λv z=>by have z':Data.fields _=Data.cell v:=z;cases z'⟩
 keep:=λi h h' st k=>k it (by simp) _ st
 item:=by
  intro X hP hw hK hc i pins s σ H E I hf st hg;subst hP hw hK;obtain⟨f0,f1,f2,f3,f4,f5⟩:=hf it (by simp);have W:=Walks.range (prog:=X.prog) (w:=X.w) (I.ok.hd hc) it lo 1 n;refine W.item i s _ _ hg st λv h' tk hv st' kk=>?_
  obtain⟨t,rfl⟩:=hv;have I1:Inv X pins σ H {s with heap:=h',toks:=tk}:=I.turned (λb o hb e=>kk b o (by simpa using hb) e) f0 f1 f3 f4 f5;refine⟨_,rfl,Tk (s:={s with heap:=h',toks:=tk}) (n:= "range_iterator") st' Z Z (by decide) ⟨.int (lo+i),H,I1,⟨t,?_⟩,⟨rfl,rfl⟩,st',λb hb=>(hf b hb).1⟩⟩;rw[Int.mul_one]
 done:=by intro X hP hw hK hc i pins s σ H E I hf st hg;subst hP hw hK;obtain⟨f0,f1,f2,f3,f4,f5⟩:=hf it (by simp);exact wpAny_pyNext_range_end (I.ok.hd hc) st (by have:n<=i:=hg;omega) λh' eb=>⟨rfl,I.turned (t':=s.toks) (λb o hb e=>eb b o hb e) f0 f1 f3 f4 f5⟩
 self:=λ_ _ _ _ _ st h=>wpAny_pyIter_rangeiter st h
section
variable{X:Cx}{tg:JZ}
noncomputable def MC(K:Frag)(tl:TE):TI:=λσ H R=>tl σ H λx H1=>∃a,x=.ref a/\(∃xs,SqL K H1 a xs)/\R (Itl K a) H1
theorem FI{l:JZ}{tl:TE}(hl:PE X l tl):PI X tg l (MC X.K tl):=by
 intro pins s σ H R I h;refine thn (hl pins s σ H _ I h) λv s1 ⟨x,H1,I1,r1,q1⟩=>?_
 obtain⟨a,e,⟨xs,hq⟩,q⟩:=q1;subst e;cases r1;obtain⟨its,rv,p,hz⟩:=I1.list hq;refine wpAny_pyIter_list p.isList ?_;refine⟨s1.heap.objs.size,[s1.heap.objs.size],_,_,H1,rfl,I1.kept (t':=s1.toks) λb o e=>Qe _ e,Nj a _,⟨_,QF _ Z,rfl,rfl⟩,λb hb=>?_,q⟩;have e:b=s1.heap.objs.size:=by simpa using hb
 subst e;exact I1.fpOk (Qt _) (I1.hok.fresh (Qt _))
theorem OG{pins:List (JX×Obj)}{σ:St}{H:Hp}{s:JV}{R:It->Hp->Prop}{E:JU->JV->Prop}{lo hi:Int}{t u v:Tok}{tk:Nat}(I:Inv X pins σ H s)(h1 : -(2 ^ 62)<=lo)(h2:lo<2 ^ 62)(h3 : -(2 ^ 62)<=hi)(h4:hi<2 ^ 62)
  (q:R (Itr lo (hi-lo).toNat) H):J4 (model X.prog X.w) X.A (pyIter (.ref s.heap.objs.size)) (PIE X pins σ tg R) E {s with heap:=s.heap.push {cls:=.type "range", data:=.fields #[.int lo t,.int hi u,.int 1 v]},toks:=tk}:=by
 refine wpAny_pyIter_range (IsRange.new ..) (small_one h1 h2 h3 h4) ?_;have I1:Inv X pins σ H {s with heap:=s.heap.push {cls:=.type "range", data:=.fields #[.int lo t,.int hi u,.int 1 v]},toks:=tk}:=I.kept λb o e=>Qe _ e
 refine⟨(s.heap.push {cls:=.type "range", data:=.fields #[.int lo t,.int hi u,.int 1 v]}).objs.size,[(s.heap.push {cls:=.type "range", data:=.fields #[.int lo t,.int hi u,.int 1 v]}).objs.size],_,_,H,rfl,
  I1.kept (t':=tk) λb o e=>Qe _ e,Be _ lo (hi-lo).toNat,?_,λb hb=>?_,q⟩
 .have e1:lo+((0:Nat):Int)*1=lo:=by simp
  have e2:(((hi-lo).toNat:Nat):Int)-((0:Nat):Int)=Builtin.Range.rangeSize lo hi 1:=by rw[rangeSize_one];split<;>omega
  show IsRangeIter _ _ (lo+((0:Nat):Int)*1) ((((hi-lo).toNat:Nat):Int)-((0:Nat):Int)) 1;rw[e1,e2];exact QF _ Z
 .have e:b=(s.heap.push {cls:=.type "range", data:=.fields #[.int lo t,.int hi u,.int 1 v]}).objs.size:=by simpa using hb
  subst e;exact I1.fpOk (Qt _) (I1.hok.fresh (Qt _))
noncomputable def MB(ta:TA):TI:=λσ H R=>ta σ H λvs H1=>∃j:Int,vs=[.int j] /\ -(2 ^ 62)<=j/\j<2 ^ 62/\R (Itr 0 j.toNat) H1
noncomputable def MA(ta:TA):TI:=λσ H R=>ta σ H λvs H1=>∃i j:Int,vs=[.int i,.int j]/\(-(2 ^ 62)<=i/\i<2 ^ 62 /\ -(2 ^ 62)<=j/\j<2 ^ 62)/\R (Itr i (j-i).toNat) H1
theorem Ct{a:JZ}{ta:TA}{p pos:Pos}(hg:Gl X "range")(hm:X.mg "range" = B0)(ha:PA X [a] ta)(hs:J5 [a] X.env=[(B3,eval a X.env)]:=by rfl):PI X tg (.Call (.Name "range" p) [a] [] pos) (MB ta):=by
 intro pins s σ H R I h;refine Call_ (Wv I hg hm boot_range (Jx (thn (ha pos pins s σ H _ I h) λus s1 ⟨vs,H1,I1,r1,q1⟩=>?_) hs Z));obtain⟨j,e,q1,q2,q⟩:=q1;subst e;cases r1 with
 |cons r rr=>cases rr;obtain⟨t,rfl⟩:=r;exact call_range_1 (OG I1 (by omega) (by omega) q1 q2 (by simpa using q))
theorem Cs{a b:JZ}{ta:TA}{p pos:Pos}(hg:Gl X "range")(hm:X.mg "range" = B0)(ha:PA X [a,b] ta)(hs:J5 [a,b] X.env=[(B3,eval a X.env),(B3,eval b X.env)]:=by rfl)(hs2:J5 [b] X.env=[(B3,eval b X.env)]:=by rfl) :
  PI X tg (.Call (.Name "range" p) [a,b] [] pos) (MA ta):=by
 intro pins s σ H R I h;refine Call_ (Wv I hg hm boot_range (Jx (thn (ha pos pins s σ H _ I h) λus s1 ⟨vs,H1,I1,r1,q1⟩=>?_) (by rw[hs,hs2]) (by rw[hs2];rfl)));obtain⟨i,j,e,⟨q1,q2,q3,q4⟩,q⟩:=q1;subst e;cases r1 with
 |cons r rr=>
  cases rr with
  |cons r' rr=>cases rr;obtain⟨t,rfl⟩:=r;obtain⟨t',rfl⟩:=r';exact call_range_2 (OG I1 q1 q2 q3 q4 q)
noncomputable def tFor(wi:TI)(g:TG)(tb:TS):TS:=λD σ H=>wi σ H λJ H1=>∃W:Nat->Nat->St->Hp->Prop,(∃m,W 0 m σ H1)/\∀i m σ H,W i m σ H ->
 (J.stop i H/\D.nx σ H)∨(J.go i H/\∃N:St->Hp->Prop,(∀σ' H',N σ' H'->∃m',m'<m/\W (i+1) m' σ' H')/\∀x H',J.yld i H x H'->g x σ H' λσ2 H2=>tb {D with nx:=N,ct:=N,bk:=D.nx} σ2 H2)
noncomputable def Vg(fp:Aa)(h:Heap):List (JX×Obj):=fp.filterMap λb=>(h.get? b).map λo=>(b,o)
theorem Vo{fp:Aa}{h:Heap}{b:JX}{o:Obj}(hb:b∈fp)(e:h.get? b=O o):(b,o)∈Vg fp h:=List.mem_filterMap.mpr ⟨b,hb,by rw[e];rfl⟩
theorem Cr{fp:Aa}{h:Heap}{p:JX×Obj}(hp:p∈Vg fp h):p.1∈fp/\h.get? p.1=O p.2:=by
 obtain⟨b,hb,e⟩:=List.mem_filterMap.mp hp;cases q:h.get? b with
 |none=>rw[q]at e;cases e
 |some o=>rw[q]at e;have e':(b,o)=p:=Q7 e;subst e';exact⟨hb,q⟩
theorem Inv.pinned{pins:List (JX×Obj)}{σ:St}{H:Hp}{s:JV}{fp:Aa}(I:Inv X pins σ H s)(hf:∀b∈fp,Kg X pins H b)(ho:∀b∈fp,∃o,s.heap.get? b=O o/\∀v,o.data≠.cell v):Inv X (pins++Vg fp s.heap) σ H s:=
 I.pins_of λp hp=>(QG.mp hp).elim (λz=>I.pin p (Qm _ z)) λz=>by obtain⟨hb,e⟩:=Cr z;obtain⟨f0,f1,f2,_⟩:=hf p.1 hb;obtain⟨o,e',d⟩:=ho p.1 hb;rw[e]at e';cases e';exact⟨e,f0,f1,f2,d⟩
theorem Inv.unpinned{pins pl:List (JX×Obj)}{σ:St}{H:Hp}{s:JV}(I:Inv X (pins++pl) σ H s):Inv X pins σ H s:=I.pins_of λp hp=>I.pin p (Qm _ (Qs _ hp))
theorem Ps{iter:JZ}{body:List Stmt}{wi:TI}{g:TG}{tb:TS}{pos:Pos}(hp:PassesOwn (model X.prog X.w) X.A X.env X.xe)(hc:X.calm=B2)(hi:PI X tg iter wi)(hg:PG X tg g)(hb:PSs X body tb)
  (hs:∀x,Ul iter X.env x=pure x:=by intro _;rfl):PS X (.For tg iter body [] pos) (tFor wi g tb):=by
 intro pins s σ H D I h;refine wpAny_For (thn (hi pins s σ H _ I h) λv s1 h1=>thn h1 λitv s2 h2=>?_) hs;obtain⟨it,fp,tn,J,H2,e,I2,T,st2,f2,W,⟨m0,w0⟩,turn⟩:=h2;subst e;have stat:∀{H':Hp},(∀b∈fp,H' b=B0)->∀b∈fp,Kg X pins H' b:=λhn b hb=>⟨hn b hb,(f2 b hb).2⟩;refine codeAny_forLoop_any (λn s'=>∃i σ' H',Inv X pins σ' H' s'/\tn i s'.heap/\(∀b∈fp,H' b=B0)/\W i n σ' H') ?_ m0 ⟨0,σ,H2,I2,st2,λb hb=>(f2 b hb).1,w0⟩;rintro n s3 ⟨i,σ3,H3,I3,st3,fr3,w3⟩;rcases turn i n σ3 H3 w3 with ⟨stop,qn⟩|⟨go,N,hN,step⟩
 .refine wpAny_passesOwn hp (thn (T.done X Z Z Z hc i pins s3 σ3 H3 X.xe I3 (stat fr3) st3 stop) λr s4 ⟨hr,I4⟩=>?_)
  subst hr;exact Js ⟨σ3,H3,I4,qn⟩
 .refine wpAny_passesOwn hp (thn (T.item X Z Z Z hc i pins s3 σ3 H3 X.xe I3 (stat fr3) st3 go) λr s4 ⟨u,hr,h4⟩=>?_)
  subst hr;refine wpAny_passesOwn hp (thn h4 λ_ s5 ⟨x,H5,I5,r5,y5,AJ,qM⟩=>?_);have I5':=I5.pinned (stat qM) (T.obj _ _ AJ);refine wpAny_passesOwn hp (thn (hg _ s5 σ3 H5 x u _ I5' r5 (step x H5 y5)) λ_ s6 ⟨σ6,H6,I6,q6⟩=>?_);refine wpAny_passesOwn hp (thn (hb _ s6 σ6 H6 _ I6 q6) λf s7 q7=>?_);have again:∀{σ7:St}{H7:Hp},Inv X (pins++Vg fp s5.heap) σ7 H7 s7->N σ7 H7->∃m,m<n/\∃i σ' H',Inv X pins σ' H' s7/\tn i s7.heap/\(∀b∈fp,H' b=B0)/\W i m σ' H':=λ{σ7 H7} I7 n7=>by obtain⟨m',hm,w7⟩:=hN σ7 H7 n7;refine⟨m',hm,i+1,σ7,H7,I7.unpinned,T.keep _ _ _ AJ λb hb o e=>(I7.pin (b,o) (Qm _ (Qm _ (Vo hb e)))).1,λb hb=>?_,w7⟩;obtain⟨o,e,d⟩:=T.obj _ _ AJ b hb;exact(I7.pin (b,o) (Qm _ (Qm _ (Vo hb e)))).2.1
  cases f with
  |next=>obtain⟨σ7,H7,I7,n7⟩:=q7;exact again I7 n7
  |cont=>obtain⟨σ7,H7,I7,n7⟩:=q7;exact again I7 n7
  |brk=>obtain⟨σ7,H7,I7,q7⟩:=q7;exact⟨σ7,H7,I7.unpinned,q7⟩
  |ret v=>obtain⟨x7,σ7,H7,I7,r7,q7⟩:=q7;exact⟨x7,σ7,H7,I7.unpinned,r7,q7⟩
end
abbrev R2:=V->V->Hp->VK->Prop
def OpR(X:Cx)(f:JU->JU->Sem JU)(r:R2):Prop:=
 ∀(pins:List (JX×Obj))(s:JV)(σ:St)(H:Hp)(x y:V)(v u:JU)(Q:VK),Inv X pins σ H s->RelV x v->RelV y u->r x y H Q ->
  J4 (model X.prog X.w) X.A (f v u) (EP X pins σ Q) X.xe s
def UnR(X:Cx)(f:JU->Sem JU)(r:V->Hp->VK->Prop):Prop:=
 ∀(pins:List (JX×Obj))(s:JV)(σ:St)(H:Hp)(x:V)(v:JU)(Q:VK),Inv X pins σ H s->RelV x v->r x H Q ->
  J4 (model X.prog X.w) X.A (f v) (EP X pins σ Q) X.xe s
def ZA(X:Cx)(f:JU)(r:List V->Hp->VK->Prop):Prop:=
 ∀(pins:List (JX×Obj))(s:JV)(σ:St)(H:Hp)(xs:List V)(us:B5)(Q:VK),Inv X pins σ H s->Vals xs us->r xs H Q ->
  J4 (model X.prog X.w) X.A (call f us) (EP X pins σ Q) X.xe s
noncomputable def tOp(r:R2)(ta tb:TE):TE:=λσ H Q=>ta σ H λx H1=>tb σ H1 λy H2=>r x y H2 Q
noncomputable def tUn(r:V->Hp->VK->Prop)(ta:TE):TE:=λσ H Q=>ta σ H λx H1=>r x H1 Q
noncomputable def rI(C:Int->Int->Prop)(g:Int->Int->V):R2:=λx y H Q=>∃i j,x=.int i/\y=.int j/\C i j/\Q (g i j) H
noncomputable def rI0(g:Int->Int->V):R2:=λx y H Q=>∃i j,x=.int i/\y=.int j/\Q (g i j) H
noncomputable def rU(g:Int->V):V->Hp->VK->Prop:=λx H Q=>∃i,x=.int i/\Q (g i) H
section
variable{X:Cx}{a b c:JZ}{ta tb tc:TE}{pos:Pos}
theorem W2(ha:PE X a ta)(hb:PE X b tb){pins:List (JX×Obj)}{s:JV}{σ:St}{H:Hp}{R:V->V->Hp->Prop}(I:Inv X pins σ H s)
  (h:ta σ H λx H1=>tb σ H1 λy H2=>R x y H2) {Q:JU->JV->Prop} {f:JU->JU->Sem JU}
  (hf:∀v u s2 x y H2,Inv X pins σ H2 s2->RelV x v->RelV y u->R x y H2->J4 (model X.prog X.w) X.A (f v u) Q X.xe s2) :
  J4 (model X.prog X.w) X.A (eval a X.env) (λv s₁=>J4 (model X.prog X.w) X.A (eval b X.env) (λu s₂=>J4 (model X.prog X.w) X.A (f v u) Q X.xe s₂) X.xe s₁) X.xe s:=by
 refine thn (ha pins s σ H _ I h) λv s1 ⟨x,H1,I1,r1,q1⟩=>?_;refine thn (hb pins s1 σ H1 _ I1 q1) λu s2 ⟨y,H2,I2,r2,q2⟩=>?_;exact hf v u s2 x y H2 I2 r1 r2 q2
theorem Mz{op:Operator}{r:R2}(ho:OpR X (binaryOp op) r)(ha:PE X a ta)(hb:PE X b tb):PE X (.BinOp a op b pos) (tOp r ta tb):=by intro pins s σ H Q I h;exact wpAny_BinOp (W2 ha hb I h λv u s2 x y H2 I2 rx ry q=>ho pins s2 σ H2 x y v u Q I2 rx ry q)
theorem My{op:UnaryOp}{r:V->Hp->VK->Prop}(ho:UnR X (unaryOp op) r)(ha:PE X a ta):PE X (.UnaryOp op a pos) (tUn r ta):=by intro pins s σ H Q I h;exact UnaryOp_ (thn (ha pins s σ H _ I h) λv s1 ⟨x,H1,I1,r1,q1⟩=>ho pins s1 σ H1 x v Q I1 r1 q1)
theorem opI{f:JU->JU->Sem JU}{C:Int->Int->Prop}{g:Int->Int->Int}
  (rule:∀(i j:Int)(t u:Tok)(s:JV)(Q:JU->JV->Prop)(E:JU->JV->Prop),C i j->Q (.int (g i j) s.toks) {s with toks:=s.toks+1}->J4 (model X.prog X.w) X.A (f (.int i t) (.int j u)) Q E s) :
  OpR X f (rI C λi j=>.int (g i j)):=by
 intro pins s σ H x y v u Q I rx ry h;obtain⟨i,j,rfl,rfl,hc,q⟩:=h;obtain⟨t,rfl⟩:=rx;obtain⟨t',rfl⟩:=ry;exact rule i j t t' s _ _ hc ⟨.int (g i j),H,I.tok _,⟨_,rfl⟩,q⟩
theorem opI0{f:JU->JU->Sem JU}{g:Int->Int->Int}
  (rule:∀(i j:Int)(t u:Tok)(s:JV)(Q:JU->JV->Prop)(E:JU->JV->Prop),Q (.int (g i j) s.toks) {s with toks:=s.toks+1}->J4 (model X.prog X.w) X.A (f (.int i t) (.int j u)) Q E s) :
  OpR X f (rI0 λi j=>.int (g i j)):=by
 intro pins s σ H x y v u Q I rx ry h;obtain⟨i,j,rfl,rfl,q⟩:=h;obtain⟨t,rfl⟩:=rx;obtain⟨t',rfl⟩:=ry;exact rule i j t t' s _ _ ⟨.int (g i j),H,I.tok _,⟨_,rfl⟩,q⟩
theorem Xp{f:JU->JU->Sem JU}{g:Int->Int->Bool}
  (rule:∀(i j:Int)(t u:Tok)(s:JV)(Q:JU->JV->Prop)(E:JU->JV->Prop),Q (.bool (g i j)) s->J4 (model X.prog X.w) X.A (f (.int i t) (.int j u)) Q E s) :
  OpR X f (rI0 λi j=>.bl (g i j)):=by
 intro pins s σ H x y v u Q I rx ry h;obtain⟨i,j,rfl,rfl,q⟩:=h;obtain⟨t,rfl⟩:=rx;obtain⟨t',rfl⟩:=ry;exact rule i j t t' s _ _ ⟨.bl (g i j),H,I,rfl,q⟩
def CPow(i j:Int):Prop:=0<=j/\j<=1000000/\i.natAbs<2 ^ 64
def CMul(i j:Int):Prop:=(-(2 ^ 64)<i/\i<2 ^ 64)∨(-(2 ^ 64)<j/\j<2 ^ 64)
theorem CMul.ok{i j:Int}(h:CMul i j):IntMulOk i j:=by
 rcases h with ⟨h1,h2⟩|⟨h1,h2⟩
 .exact .of_left (intBits_le_64 h1 h2)
 .exact .of_right (intBits_le_64 h1 h2)
theorem Ga:OpR X (binaryOp .Add) (rI0 λi j=>.int (i+j)):=opI0 λ_ _ _ _ _ _ _ q=>add_int q
theorem HZ:OpR X (binaryOp .Sub) (rI0 λi j=>.int (i-j)):=opI0 λ_ _ _ _ _ _ _ q=>sub_int q
theorem HY:OpR X (binaryOp .Mult) (rI CMul λi j=>.int (i*j)):=opI λ_ _ _ _ _ _ _ hc q=>mul_int q hc.ok
theorem HX:OpR X (binaryOp .Mod) (rI (λ_ j=>0<j) λi j=>.int (i % j)):=opI λi j _ _ _ _ _ hc q=>by have h1:(0:Int)<j:=hc;exact mod_int' (by omega) (by rw[Int.fmod_eq_emod_of_nonneg i (by omega)];exact q)
theorem HW:OpR X (binaryOp .Pow) (rI CPow λi j=>.int (i ^ j.toNat)):=opI λ_ _ _ _ _ _ _ hc q=>pow_int_small hc.1 hc.2.1 hc.2.2 q
theorem unI{f:JU->Sem JU}{g:Int->Int}
  (rule:∀(i:Int)(t:Tok)(s:JV)(Q:JU->JV->Prop)(E:JU->JV->Prop),Q (.int (g i) s.toks) {s with toks:=s.toks+1}->J4 (model X.prog X.w) X.A (f (.int i t)) Q E s) :
  UnR X f (rU λi=>.int (g i)):=by
 intro pins s σ H x v Q I rx h;obtain⟨i,rfl,q⟩:=h;obtain⟨t,rfl⟩:=rx;exact rule i t s _ _ ⟨.int (g i),H,I.tok _,⟨_,rfl⟩,q⟩
theorem HV:UnR X (unaryOp .USub) (rU λi=>.int (-i)):=unI λ_ _ _ _ _ q=>neg_int q
end
section
variable{X:Cx}{a b c:JZ}{ta tb tc:TE}{pos:Pos}
theorem HU{pins:List (JX×Obj)}{σ:St}{H:Hp}{s:JV}{Q:VK}{k k':Bool}(I:Inv X pins σ H s)(q:Q (.bl k) H)(e:k=k'):EP X pins σ Q (.bool k') s:=by subst e;exact⟨.bl k,H,I,rfl,q⟩
theorem Mx:OpR X (J6 .Lt) (rI0 λi j=>.bl (decide (i<j))):=Xp λ_ _ _ _ _ _ _ q=>lt_int q
theorem Mw:OpR X (J6 .LtE) (rI0 λi j=>.bl (decide (i<=j))):=Xp λ_ _ _ _ _ _ _ q=>le_int q
theorem Mv:OpR X (J6 .Gt) (rI0 λi j=>.bl (decide (j<i))):=Xp λ_ _ _ _ _ _ _ q=>gt_int q
theorem Mu:OpR X (J6 .GtE) (rI0 λi j=>.bl (decide (j<=i))):=Xp λ_ _ _ _ _ _ _ q=>ge_int q
theorem Cq:OpR X (J6 .In) (λx y H Q=>∃i j,x=.str i/\y=.str j/\Q (.bl (!(Builtin.Str.occurrences j i 0 j.length 1).isEmpty)) H):=by intro pins s σ H x y v u Q I rx ry h;obtain⟨i,j,rfl,rfl,q⟩:=h;obtain⟨t,rfl⟩:=rx;obtain⟨t',rfl⟩:=ry;exact in_str (HU I q Z)
theorem OpR.or{f:JU->JU->Sem JU}{r r':R2}(h:OpR X f r)(h':OpR X f r'):OpR X f (λx y H Q=>r x y H Q∨r' x y H Q):=by
 intro pins s σ H x y v u Q I rx ry q;rcases q with q|q
 .exact h pins s σ H x y v u Q I rx ry q
 .exact h' pins s σ H x y v u Q I rx ry q
theorem HS(b:JZ){op:CmpOp}(h:op≠.In:=by decide)(h2:op≠.NotIn:=by decide):behindInMarks op b=B3:=by
 have e1:(op==CmpOp.In)=B3:=by cases op<;>first|rfl|exact absurd Z h
 have e2:(op==CmpOp.NotIn)=B3:=by cases op<;>first|rfl|exact absurd Z h2
 cases b<;>simp[behindInMarks,e1,e2]
theorem Oa{op:CmpOp}{r:R2}(ho:OpR X (J6 op) r)(ha:PE X a ta)(hb:PE X b tb)(hm:behindInMarks op b=B3):PE X (.Compare a [op] [b] pos) (tOp r ta tb):=by intro pins s σ H Q I h;exact wpAny_Compare1 (W2 ha hb I h λv u s2 x y H2 I2 rx ry q=>ho pins s2 σ H2 x y v u Q I2 rx ry q) hm
noncomputable def R4(t:TE):TT:=λσ H Q=>t σ H λx H'=>∃k,x=.bl k/\Q k H'
theorem P9{op:CmpOp}{r:R2}(ho:OpR X (J6 op) r)(ha:PE X a ta)(hb:PE X b tb)(hm:behindInMarks op b=B3):PT X (.Compare a [op] [b] pos) (R4 (tOp r ta tb)):=by
 intro pins s σ H Q I h
 refine wpAny_isTrue_Compare1 (thn (ha pins s σ H _ I h) λv s1 ⟨x,H1,I1,r1,q1⟩=>thn (hb pins s1 σ H1 _ I1 q1) λu s2 ⟨y,H2,I2,r2,q2⟩=>
  thn (ho pins s2 σ H2 x y v u _ I2 r1 r2 q2) λc s3 ⟨z,H3,I3,r3,k,e,q3⟩=>?_) hm
 subst e;cases r3;exact Ja ⟨H3,I3,q3⟩
noncomputable def Pr(r r':R2)(ta tb tc:TE):TE:=λσ H Q=>ta σ H λx H1=>tb σ H1 λy H2=>r x y H2 λz H3=>∃k,z=.bl k /\
 (if k=B2 then tc σ H3 λw' H4=>r' y w' H4 Q else Q (.bl B3) H3)
theorem DI{op op':CmpOp}{r r':R2}(ho:OpR X (J6 op) r)(ho':OpR X (J6 op') r')(ha:PE X a ta)(hb:PE X b tb)(hc:PE X c tc)
  (hm:lastMarks [op,op'] [b,c]=B3:=by with_unfolding_all rfl):PE X (.Compare a [op,op'] [b,c] pos) (Pr r r' ta tb tc):=by
 intro pins s σ H Q I h
 refine Compare_chain (thn (ha pins s σ H _ I h) λv s1 ⟨x,H1,I1,r1,q1⟩=>chain_link (thn (hb pins s1 σ H1 _ I1 q1) λu s2 ⟨y,H2,I2,r2,q2⟩=>
  thn (ho pins s2 σ H2 x y v u _ I2 r1 r2 q2) λd s3 ⟨z,H3,I3,r3,k,e,q3⟩=>?_)) hm
 subst e;cases r3;refine Ja ?_;cases k with
 |false=>exact ite_ff ⟨.bl B3,H3,I3,rfl,q3⟩
 |true=>exact ite_tt (chain_last (thn (hc pins s3 σ H3 _ I3 q3) λw' s4 ⟨z',H4,I4,r4,q4⟩=>ho' pins s4 σ H4 y z' u w' Q I4 r2 r4 q4))
theorem DH{op op':CmpOp}{r r':R2}(ho:OpR X (J6 op) r)(ho':OpR X (J6 op') r')(ha:PE X a ta)(hb:PE X b tb)(hc:PE X c tc)
  (hm:lastMarks [op,op'] [b,c]=B3:=by with_unfolding_all rfl):PT X (.Compare a [op,op'] [b,c] pos) (R4 (Pr r r' ta tb tc)):=by
 intro pins s σ H Q I h
 refine isTrue_chain (thn (ha pins s σ H _ I h) λv s1 ⟨x,H1,I1,r1,q1⟩=>test_link (thn (hb pins s1 σ H1 _ I1 q1) λu s2 ⟨y,H2,I2,r2,q2⟩=>
  thn (ho pins s2 σ H2 x y v u _ I2 r1 r2 q2) λd s3 ⟨z,H3,I3,r3,k,e,q3⟩=>?_)) hm
 subst e;cases r3;refine Ja ?_;cases k with
 |false=>obtain⟨k',e',q'⟩:=q3;cases e';exact ite_ff ⟨H3,I3,q'⟩
 |true=>refine ite_tt (test_last (thn (hc pins s3 σ H3 _ I3 q3) λw' s4 ⟨z',H4,I4,r4,q4⟩=>thn (ho' pins s4 σ H4 y z' u w' _ I4 r2 r4 q4) λd' s5 ⟨z2,H5,I5,r5,k2,e2,q5⟩=>?_));subst e2;cases r5;exact Ja ⟨H5,I5,q5⟩
theorem Tt:(J0:Nat)<2 ^ 63:=by rw[sizeLine_eq];decide
theorem Bd:OpR X (binaryOp .Add) (λx y H Q=>∃i j,x=.str i/\y=.str j/\i.length+j.length<=J0/\Q (.str (i++j)) H):=by intro pins s σ H x y v u Q I rx ry h;obtain⟨i,j,rfl,rfl,hz,q⟩:=h;obtain⟨t,rfl⟩:=rx;obtain⟨t',rfl⟩:=ry;exact add_str (λt' tk=>⟨.str (i++j),H,I.tok _,⟨_,rfl⟩,q⟩) hz
theorem Tj{x:V}{us:B5}(r:Vals [x] us):∃u,us=[u]/\RelV x u:=by
 cases r with
 |cons r1 r2=>cases r2;exact⟨_,rfl,r1⟩
theorem W8{x y:V}{us:B5}(r:Vals [x,y] us):∃u w',us=[u,w']/\RelV x u/\RelV y w':=by
 cases r with
 |cons r1 r2=>
  cases r2 with
  |cons r3 r4=>cases r4;exact⟨_,_,rfl,r1,r3⟩
theorem C3(hc:X.calm=B2):ZA X (.builtin "max") (λxs H Q=>∃i j,xs=[.int i,.int j]/\Q (.int (if j > i then j else i)) H):=by
 intro pins s σ H xs us Q I r h;obtain⟨i,j,rfl,q⟩:=h;obtain⟨u,w',rfl,⟨t,rfl⟩,⟨t',rfl⟩⟩:=W8 r;refine max_two_ints (I.ok.hd hc) λh' tk k=>⟨_,H,I.kept k,?_,q⟩
 by_cases hj:j > i
 .rw[Qr hj,Qr hj];exact⟨_,rfl⟩
 .rw[QD hj,QD hj];exact⟨_,rfl⟩
theorem C0(hc:X.calm=B2):ZA X (.builtin "min") (λxs H Q=>∃i j,xs=[.int i,.int j]/\Q (.int (if j<i then j else i)) H):=by
 intro pins s σ H xs us Q I r h;obtain⟨i,j,rfl,q⟩:=h;obtain⟨u,w',rfl,⟨t,rfl⟩,⟨t',rfl⟩⟩:=W8 r;refine min_two_ints (I.ok.hd hc) λh' tk k=>⟨_,H,I.kept k,?_,q⟩
 by_cases hj:j<i
 .rw[Qr hj,Qr hj];exact⟨_,rfl⟩
 .rw[QD hj,QD hj];exact⟨_,rfl⟩
theorem CZ:ZA X (.type "int") (λxs H Q=>(∃i,xs=[.int i]/\Q (.int i) H) ∨ ∃k,xs=[.bl k]/\Q (.int (if k then 1 else 0)) H):=by
 intro pins s σ H xs us Q I r h;rcases h with ⟨i,rfl,q⟩|⟨k,rfl,q⟩
 .obtain⟨u,rfl,t,rfl⟩:=Tj r
  exact call_int_int ⟨.int i,H,I,⟨_,rfl⟩,q⟩
 .obtain⟨u,rfl,r1⟩:=Tj r
  cases r1;exact call_int_bool ⟨.int (if k then 1 else 0),H,I.tok _,⟨_,rfl⟩,q⟩
def LenV(K:Frag)(x:V)(H:Hp)(n:Nat):Prop:=
 match x with
 |.str y=>y.length<=J0/\n=y.length
 |.byt y=>y.size<=J0/\n=y.size
 |.ref p=>(∃xs,SqL K H p xs/\n=xs.length) ∨ ∃xs,SqT K H p xs/\n=xs.length
 |_=>False
theorem OF:ZA X (.builtin "len") (λxs H Q=>∃x n,xs=[x]/\LenV X.K x H n/\Q (.int n) H):=by
 intro pins s σ H xs us Q I r h;obtain⟨x,n,rfl,e,q⟩:=h;obtain⟨u,rfl,rx⟩:=Tj r;have hl:=Tt;have hs:J0=16777216:=sizeLine_eq;cases x with
 |str y=>obtain⟨t,rfl⟩:=rx;obtain⟨hy,e'⟩:y.length<=J0/\n=y.length:=e;subst e';exact len_str (by omega) ⟨.int _,H,I.tok _,⟨_,rfl⟩,q⟩
 |byt y=>obtain⟨t,rfl⟩:=rx;obtain⟨hy,e'⟩:y.size<=J0/\n=y.size:=e;subst e';exact PySem.W.len_bytes (by omega) ⟨.int _,H,I.tok _,⟨_,rfl⟩,q⟩
 |ref p=>
  cases rx;have e':(∃xs,SqL X.K H p xs/\n=xs.length) ∨ ∃xs,SqT X.K H p xs/\n=xs.length:=e;rcases e' with ⟨xs,hx,e'⟩|⟨xs,hx,e'⟩
  .subst e'
   obtain⟨its,r',pl,hz⟩:=I.list hx;have hlen:=r'.length;exact Calls.call_len_list pl.isList (by simp only[QU];omega) ⟨.int xs.length,H,I.tok _,⟨_,by simp only[QU];rw[hlen]⟩,q⟩
  .subst e'
   obtain⟨its,r',pl,hz⟩:=I.tuple hx;have hlen:=r'.length;exact len_tuple pl (by simp only[QU];omega) ⟨.int xs.length,H,I.tok _,⟨_,by simp only[QU];rw[hlen]⟩,q⟩
 |_=>exact(show False from e).elim
end
noncomputable def KD(f:Str)(v:V):List (Str×V)->List (Str×V)
 |[]=>[(f,v)]
 |(g,x)::r=>if g=f then(g,v)::r else(g,x)::KD f v r
theorem RI(f g:Str)(v:V):∀fs:List (Str×V),(KD f v fs).lookup g=if g=f then O v else fs.lookup g
 |[]=>by
  show List.lookup g [(f,v)]=_;by_cases h:g=f
  .have hb:(g==f)=B2:=beq_iff_eq.mpr h
   simp only[List.lookup,hb,Qr h]
  .have hb:(g==f)=B3:=beq_eq_false_iff_ne.mpr h
   simp only[List.lookup,hb,QD h]
 |(k,x)::r=>by
  have ih:=RI f g v r;rw[show KD f v ((k,x)::r)=(if k=f then(k,v)::r else(k,x)::KD f v r)from rfl];by_cases hk:k=f
  .rw[Qr hk]
   by_cases h:g=k
   .have hb:(g==k)=B2:=beq_iff_eq.mpr h
    simp only[List.lookup,hb,Qr (h.trans hk)]
   .have hb:(g==k)=B3:=beq_eq_false_iff_ne.mpr h
    simp only[List.lookup,hb,QD (λe:g=f=>h (e.trans hk.symm))]
  .rw[QD hk]
   by_cases h:g=k
   .have hb:(g==k)=B2:=beq_iff_eq.mpr h
    simp only[List.lookup,hb,QD (λe:g=f=>hk (h.symm.trans e))]
   .have hb:(g==k)=B3:=beq_eq_false_iff_ne.mpr h
    simp only[List.lookup,hb];exact ih
theorem Rv(f:Str)(v:V):∀fs:List (Str×V),f∈(KD f v fs).map (·.1)/\∀g,g∈fs.map (·.1)->g∈(KD f v fs).map (·.1)
 |[]=>⟨by simp[KD],λg h=>by simp at h⟩
 |(k,x)::r=>by
  obtain⟨i1,i2⟩:=Rv f v r;rw[show KD f v ((k,x)::r)=(if k=f then(k,v)::r else(k,x)::KD f v r)from rfl];by_cases hk:k=f
  .rw[Qr hk]
   subst hk;exact⟨by simp,λg h=>by simpa using h⟩
  .rw[QD hk]
   refine⟨?_,λg h=>?_⟩
   .rw[Qu]
    exact Qj _ i1
   .rw[Qu]at h⊢
    rcases QM.mp h with e|e
    .exact List.mem_cons.mpr (.inl e)
    .exact Qj _ (i2 g e)
structure Room(k:Nat)(A:Around):Prop where
 hd:A.handled=B0
 dp:A.depth+3*k+5<recursionLimit
 un:A.units+16*k+200<cLine
 gd:A.guards=O []
theorem Room.mono{j k:Nat}{A:Around}(r:Room k A)(h:j<=k):Room j A:=⟨r.hd,by have:=r.dp;omega,by have:=r.un;omega,r.gd⟩
theorem Room.deeper{k:Nat}{A:Around}(r:Room (k+1) A)(env:Env):Room k (A.deeper env):=
 ⟨r.hd,by have:=r.dp;show A.depth+1+3*k+5<_;omega,by have:=r.un;show A.units+3+16*k+200<_;omega,r.gd⟩
theorem NQ{A:Around}{C:JX}{us:B5}{kw:List (Str×JU)}:(A.under (.builtin "type.__call__" ⟨.ref C::us,kw⟩)).depth=A.depth+1:=by
 first|rfl|simp[Around.under,Code.weight,Code.isCreation,Code.isGuard,Code.isCaller,Code.frames,Code.isFrame,guardIds]
theorem NP{A:Around}{C:JX}{us:B5}{kw:List (Str×JU)}:(A.under (.builtin "type.__call__" ⟨.ref C::us,kw⟩)).units=A.units+1:=by
 first|rfl|simp[Around.under,Code.cUnits,Code.frames,Code.isFrame]
theorem Room.make{k:Nat}{A:Around}(r:Room (k+1) A)(C:JX)(us:B5)(kw:List (Str×JU)):Room k (A.under (.builtin "type.__call__" ⟨.ref C::us,kw⟩)):=
 ⟨r.hd,by have:=r.dp;rw[NQ];omega,by have:=r.un;rw[NP];omega,(by first|exact r.gd|(simp[Around.under,guardIds];exact r.gd))⟩
theorem Room.depth{k:Nat}{A:Around}(r:Room k A):A.depth<recursionLimit:=by have:=r.dp;omega
theorem Room.units{k:Nat}{A:Around}(r:Room k A):A.units+64<cLine:=by have:=r.un;omega
noncomputable def Xn:TA:=λ_ H Q=>Q [] H
noncomputable def Wk(ta:TE)(tr:TA):TA:=λσ H Q=>ta σ H λx H1=>tr σ H1 λxs H2=>Q (x::xs) H2
section
variable{X:Cx}{e:JZ}{es:B8}{te:TE}{t:TA}{pos:Pos}
theorem Zd:PA X [] Xn:=λ_ _ _ _ H Q I h=>Calls.spliced_nil ⟨[],H,I,.nil,h⟩
theorem KI(ha:PE X e te)(hr:PA X es t)(hs:J5 (e::es) X.env=(B3,eval e X.env)::J5 es X.env:=by rfl):PA X (e::es) (Wk te t):=by intro pos pins s σ H Q I h;rw[hs];show J4 _ _ (spliced ((B3,eval e X.env)::backTo pos (J5 es X.env))) _ _ s;refine Calls.spliced_cons (thn (ha pins s σ H _ I h) λu s1 ⟨x,H1,I1,r1,q1⟩=>?_);exact thn (hr pos pins s1 σ H1 _ I1 q1) λus s2 ⟨xs,H2,I2,r2,q2⟩=>⟨x::xs,H2,I2,.cons r1 r2,q2⟩
noncomputable def tTup(t:TA):TE:=λσ H Q=>t σ H λxs H1=>xs.length<=J0/\∀p,H1 p=B0->Q (.ref p) (upd H1 p (.tup xs))
noncomputable def tLst(t:TA):TE:=λσ H Q=>t σ H λxs H1=>xs.length<=J0/\∀p,H1 p=B0->Q (.ref p) (upd H1 p (.lst xs))
theorem SD{x1}(h:PA X es t):PE X (.Tuple es x1 pos) (tTup t):=by intro pins s σ H Q I hq;refine wpAny_Tuple_spliced (thn (h pos pins s σ H _ I hq) λus s1 ⟨xs,H1,I1,r,z,q⟩=>⟨by rw[←r.length];exact z,?_⟩);have hf:H1 s1.heap.objs.size=B0:=I1.hok.fresh (Qt _);refine⟨.ref s1.heap.objs.size,upd H1 s1.heap.objs.size (.tup xs),I1.laid (t':=s1.toks) (λb u e=>Qe _ e) (Qt _) ?_,rfl,q _ hf⟩;exact⟨z,us,r,⟨_,QF _ Z,rfl,_,rfl⟩⟩
theorem Ts(h:PA X es t):PE X (.List es pos) (tLst t):=by intro pins s σ H Q I hq;refine wpAny_List_spliced (thn (h pos pins s σ H _ I hq) λus s1 ⟨xs,H1,I1,r,z,q⟩=>⟨by rw[←r.length];exact z,?_⟩);have hf:H1 s1.heap.objs.size=B0:=I1.hok.fresh (Qt _);refine⟨.ref s1.heap.objs.size,upd H1 s1.heap.objs.size (.lst xs),I1.laid (t':=s1.toks) (λb u e=>Qe _ e) (Qt _) ?_,rfl,q _ hf⟩;exact⟨z,us,0,r,QF _ Z⟩
end
abbrev Sp:=List V->Hp->VK->XK->Prop
abbrev CXT:=List Env->Hp->JV->XK->JU->JV->Prop
structure Env0(P:JW)(w:World)(K:Frag)(mg:Str->B7)(base:Heap)(A:Around)(outer:List Env)(s:JV)(H:Hp):Prop where
 frames:A.frames=O outer
 mod:Mod K mg base
 bs:∀b o,base.get? b=O o->s.heap.get? b=O o/\H b=B0
 bsz:base.objs.size<=s.heap.objs.size
 funs:s.heap.FunFrames base outer
 frf:∀b∈frs outer,H b=B0
 hok:HOk P w H s.heap
 bare:AllBare s.gens
def CE(outer:List Env)(P:JW)(w:World)(H:Hp)(s:JV)(Q:VK)(u:JU)(s':JV):Prop:=
 ∃v H',s'.os=s.os/\AllBare s'.gens/\Un (frs outer) [] H H' s.heap s'.heap/\HOk P w H' s'.heap/\RelV v u/\Q v H'
def CR(CX:CXT)(outer:List Env)(P:JW)(w:World)(H:Hp)(s:JV)(Q:VK)(E:XK)(r:Result)(s':JV):Prop:=
 match r with
 |.ok (.ret u)=>CE outer P w H s Q u s'
 |.ok _=>False
 |.error e=>CX outer H s E e s'
structure FnOk(P:JW)(w:World)(K:Frag)(mg:Str->B7)(base:Heap)(CX:CXT)(k:Nat)(f:JX)(fd:JY)(ps:List Str)(sp:Sp):Prop where
 len:∀vs H Q E,sp vs H Q E->vs.length=ps.length
 run:∀(A:Around)(outer:List Env)(s:JV)(H:Hp)(args:Args)(us:B5)(vs:List V)(Q:VK)(E:XK),Room k A->Env0 P w K mg base A outer s H->BindsTo s fd args (ps.zip us)->Vals vs us->sp vs H Q E ->
  codeAny (model P w) A (.call (.ref f) args) (CR CX outer P w H s Q E) s
theorem FnOk.imp{P:JW}{w:World}{K:Frag}{mg:Str->B7}{base:Heap}{CX:CXT}{k:Nat}{f:JX}{fd:JY}{ps:List Str}{sp sp':Sp}(F:FnOk P w K mg base CX k f fd ps sp)
  (h:∀vs H Q E,sp' vs H Q E->sp vs H Q E):FnOk P w K mg base CX k f fd ps sp':=
 ⟨λvs H Q E q=>F.len vs H Q E (h _ _ _ _ q),λA outer s H args us vs Q E hr he hb hv hs=>F.run A outer s H args us vs Q E hr he hb hv (h _ _ _ _ hs)⟩
theorem Env0.make{P:JW}{w:World}{K:Frag}{mg:Str->B7}{base:Heap}{A:Around}{outer:List Env}{s:JV}{H:Hp}(e:Env0 P w K mg base A outer s H)(C:JX)(us:B5)(kw:List (Str×JU)) :
  Env0 P w K mg base (A.under (.builtin "type.__call__" ⟨.ref C::us,kw⟩)) outer s H:=⟨by first|exact e.frames|(simpa[Around.under,Code.envs,Code.isFrame,pushEnvs]using e.frames),e.mod,e.bs,e.bsz,e.funs,e.frf,e.hok,e.bare⟩
section
variable{X:Cx}{pins:List (JX×Obj)}{σ:St}{H:Hp}{s s':JV}
theorem Inv.env0(I:Inv X pins σ H s):Env0 X.prog X.w X.K X.mg X.base X.A X.stack s H:=
 ⟨I.ok.frames,I.ok.mod,I.bs,Qq I.ok.bsz I.sz,I.stack,I.stkFree,I.hok,I.bare⟩
theorem Inv.after{Q:VK}{u:JU}(I:Inv X pins σ H s)(h:CE X.stack X.prog X.w H s Q u s'):EP X pins σ Q u s':=by obtain⟨v,H',os,bare,un,hok,r,q⟩:=h;obtain⟨hh,g,d,t,os'⟩:=s';obtain rfl:os'=s.os:=os;exact⟨v,H',I.call (h':=hh) (g':=g) (d':=d) (t':=t) (ch:=[]) un hok bare (λb z=>absurd z (by simp)),r,q⟩
end
noncomputable def Sk(sp:Sp)(dvs:List V)(E:XK)(t:TA):TE:=λσ H Q=>t σ H λvs H1=>sp (vs++dvs) H1 Q E
def Ze(K:Frag)(fd:JY)(ps:List Str)(ds:B5):Prop:=
 ∀(s:JV)(us:B5),K.In s.heap->(us++ds).length=ps.length->BindsTo s fd ⟨us,[]⟩ (ps.zip (us++ds))
theorem Ze.all{K:Frag}{fd:JY}{ps:List Str}(h:∀us:B5,us.length=ps.length->bindArgs fd ⟨us,[]⟩=pure (ps.zip us)):Ze K fd ps []:=λs us _ hl=>by rw[QT]at hl⊢;exact .of_eq (h us hl)
def SB(CX:CXT)(X:Cx)(E:XK):Prop:=∀(pins:List (JX×Obj))(σ:St)(H:Hp)(s:JV)(e:JU)(s':JV),Inv X pins σ H s->CX X.stack H s E e s'->X.xe e s'
section
variable{X:Cx}{CX:CXT}{k:Nat}{f C:JX}{fd:JY}{ps:List Str}{sp:Sp}{dvs:List V}{ds:B5}{E:XK}{x m:Str}{p pos apos:Pos}{e o:JZ}{es:B8}{ta:TE}{t:TA}
theorem Pq{pins:List (JX×Obj)}{σ:St}{H:Hp}{s:JV}{Q:VK}{us:B5}{vs:List V}(F:FnOk X.prog X.w X.K X.mg X.base CX k f fd ps sp)(hr:Room k X.A)(hb:Ze X.K fd ps ds)(hd:Vals dvs ds)(hx:SB CX X E)
  (I:Inv X pins σ H s) (r:Vals vs us) (h:sp (vs++dvs) H Q E):J4 (model X.prog X.w) X.A (call (.ref f) us) (EP X pins σ Q) X.xe s:=by
 have r2:Vals (vs++dvs) (us++ds):=r.append hd;have hl:(us++ds).length=ps.length:=by rw[←r2.length];exact F.len _ _ _ _ h
 refine wpAny_call (Jt (F.run X.A X.stack s H ⟨us,[]⟩ (us++ds) (vs++dvs) Q E hr I.env0 (hb s us I.kIn hl) r2 h) λr s' hq=>?_);cases r with
 |error e=>exact hx pins σ H s e s' I hq
 |ok fl=>
  cases fl with
  |ret u=>exact I.after hq
  |next=>exact False.elim hq
  |brk=>exact False.elim hq
  |cont=>exact False.elim hq
theorem Oh(F:FnOk X.prog X.w X.K X.mg X.base CX k f fd ps sp)(hr:Room k X.A)(hg:Gl X x)(hm:X.mg x=O (.ref f))(hk:PySem.W.keepIn X.K (.ref f)=B2)(hb:Ze X.K fd ps ds)(hd:Vals dvs ds)(hx:SB CX X E)
  (ha:PA X (e::es) t) (hdb:(x==("__debug__" : Str))=B3:=by decide) (he:J5 (e::es) X.env=(B3,eval e X.env)::J5 es X.env:=by rfl) (hpl:(backTo pos (J5 es X.env)).any (·.1)=B3:=by rfl) :
  PE X (.Call (.Name x p) (e::es) [] pos) (Sk sp dvs E t):=by
 intro pins s σ H Q I h;refine Jk (Y3 I hg hm ?_ hdb);refine JK (h₀:=X.base) I.ok.mod.kin hk (thn (ha pos pins s σ H _ I h) λus s1 ⟨vs,H1,I1,r,q⟩=>⟨I1.kIn,?_⟩) he hpl;exact Pq F hr hb hd hx I1 r q
end
structure Xj(N P:List Str)(sc:Scope):Prop where
 kind:sc.kind=.function
 co:sc.isCoroutine=B3
 gen:sc.isGenerator=B3
 nd:N.Nodup
 pre:N.take P.length=P
 par:∀x∈P,sc.names.lookup x=O .local∨sc.names.lookup x=O .cell
 nofree:∀y∈sc.names,y.2≠.free
theorem Ni{kindOf:Str->Option NameKind}{x:Str}:∀{binds:List (Str×JU)}{m:Str->B7},(∀v,(x,v)∉binds)->bindL kindOf binds m x=m x
 |[],_,_=>rfl
 |(n,v)::r,m,h=>by
  unfold bindL;rw[Ni λw hw=>h w (Qj _ hw)];split
  .have:x≠n:=by rintro rfl;exact h v Qk
   simp[this]
  .rfl
theorem Nh{kindOf:Str->Option NameKind}{x:Str}:∀{binds:List (Str×JU)}{m:Str->B7},(∀v,(x,v)∉binds)->bindC kindOf binds m x=m x
 |[],_,_=>rfl
 |(n,v)::r,m,h=>by
  unfold bindC;rw[Nh λw hw=>h w (Qj _ hw)];split
  .rfl
  .have:x≠n:=by rintro rfl;exact h v Qk
   simp[this]
theorem Ng{kindOf:Str->Option NameKind}{x:Str}{v:JU}:∀{P:List Str}{vs:B5}{i:Nat}{m:Str->B7},P.Nodup->P[i]?=O x->vs[i]?=O v->kindOf x=O .local ->
  bindL kindOf (P.zip vs) m x=O v
 |[],_,_,_,_,h,_,_=>by simp at h
 |_::_,[],_,_,_,_,h,_=>by simp at h
 |p::P,w::vs,0,m,nd,h1,h2,hk=>by simp at h1 h2;subst h1;subst h2;show bindL kindOf ((p,w)::P.zip vs) m p=_;unfold bindL;rw[Ni λv hv=>(Jc.mp nd).1 (List.of_mem_zip hv).1,Qr hk];simp
 |p::P,w::vs,i+1,m,nd,h1,h2,hk=>by show bindL kindOf ((p,w)::P.zip vs) m x=_;unfold bindL;exact Ng (i:=i) (List.nodup_cons.mp nd).2 (by simpa using h1) (by simpa using h2) hk
theorem Nf{kindOf:Str->Option NameKind}{x:Str}{v:JU}:∀{P:List Str}{vs:B5}{i:Nat}{m:Str->B7},P.Nodup->P[i]?=O x->vs[i]?=O v->kindOf x≠O .local ->
  bindC kindOf (P.zip vs) m x=O v
 |[],_,_,_,_,h,_,_=>by simp at h
 |_::_,[],_,_,_,_,h,_=>by simp at h
 |p::P,w::vs,0,m,nd,h1,h2,hk=>by simp at h1 h2;subst h1;subst h2;show bindC kindOf ((p,w)::P.zip vs) m p=_;unfold bindC;rw[Nh λv hv=>(Jc.mp nd).1 (List.of_mem_zip hv).1,QD hk];simp
 |p::P,w::vs,i+1,m,nd,h1,h2,hk=>by show bindC kindOf ((p,w)::P.zip vs) m x=_;unfold bindC;exact Nf (i:=i) (List.nodup_cons.mp nd).2 (by simpa using h1) (by simpa using h2) hk
noncomputable def ZU(N:List Str)(vs:List V):St:=vs.map O++J8 (N.length-vs.length) B0
noncomputable def Kl(CX:CXT)(P:JW)(w:World)(K:Frag)(mg:Str->B7)(base:Heap)(N:List Str)(qual:Str)(scope:Scope)(f:JX)(cd:JU)(A:Around)(outer:List Env)(s:JV)(H:Hp)(E:XK):Cx where
 prog:=P
 w:=w
 K:=K
 mg:=mg
 base:=base
 A:=A.deeper (envOfC qual scope s.heap.objs.size f cd)
 N:=N
 s₀:=s
 H₀:=H
 env:=envOfC qual scope s.heap.objs.size f cd
 outer:=outer
 stack:=envOfC qual scope s.heap.objs.size f cd::outer
 ex:=[]
 calm:=B2
 fn:=λ_=>B2
 pn:=[]
 xe:=λe s'=>J4 (model P w) (A.deeper (envOfC qual scope s.heap.objs.size f cd)) (leaving (envOfC qual scope s.heap.objs.size f cd) e) (λ_ s''=>CX outer H s E e s'') (λe' s''=>CX outer H s E e' s'') s'
theorem Rn{sc:Scope}{n:Nat}{x:Str}(h:sc.names.lookup x=O .cell):∃c,(cellsFrom n sc.names []).lookup x=O c:=by have q:=PySem.W.cellsFrom_some sc.names n [] (.inl h);exact Option.isSome_iff_exists.mp q
theorem Nd{CX:CXT}{P:JW}{w:World}{K:Frag}{mg:Str->B7}{base:Heap}{N ps:List Str}{qual:Str}{scope:Scope}{f:JX}{cd:JU}{A:Around}{outer:List Env}{s s1:JV}{H:Hp}{E:XK}{us:B5}{vs:List V}
  (S:Xj N ps scope) (hd:A.handled=B0) (e0:Env0 P w K mg base A outer s H) (hl:vs.length=ps.length) (r:Vals vs us)
  (x:InCallC s s.heap.objs.size (bindL (envOfC qual scope s.heap.objs.size f cd).kindOf (ps.zip us) λ_=>B0) (cellsFrom (s.heap.objs.size+1) scope.names []) (bindC (envOfC qual scope s.heap.objs.size f cd).kindOf (ps.zip us) λ_=>B0) s1) :
  Inv (Kl CX P w K mg base N qual scope f cd A outer s H E) [] (ZU N vs) H s1:=by
 have hpl:ps.length<=N.length:=by have:=JQ List.length S.pre;rw[JN]at this;omega
 obtain⟨h1,tk,rfl,hk⟩:=x.done;have noA:∀b:JX,b∉(Kl CX P w K mg base N qual scope f cd A outer s H E).ex:=λb z=>absurd (show b∈([]:Aa)from z) (by simp)
 refine⟨⟨e0.mod,S.kind,rfl,rfl,Qt _,λy z c h1 h2=>?_,λy hy=>?_,λy c _ h=>?_,λ_=>hd,Around.frames_deeper e0.frames,.inr ⟨rfl,rfl⟩,λb z=>absurd z (noA b),e0.bs,e0.bsz,λb _ _=>noA b,λb z=>absurd z (noA b),e0.funs,e0.frf⟩,
  rfl,e0.bare,Un.kept hk,⟨_,x.toInCall.ns,λi y v h1 h2 h3=>?_⟩,λy c h=>⟨_,x.cell y c h⟩,e0.hok.fresh (Nat.le_refl _),λy c h=>?_,λp hp=>absurd (show p∈([]:List (JX×Obj))from hp) (by simp),e0.hok.kept hk,?_⟩
 .exact name_of_addr x.apart (Q9 h1) (Q9 h2)
 .have hy:scope.names.lookup y=O .cell∨scope.names.lookup y=O .free:=hy
  rcases hy with hy|hy
  .exact Rn hy
  .exact absurd Z (S.nofree _ (Q9 hy))
 .exact JR (x.above y c (Q9 h))
 .have hi:i<vs.length:=by
   unfold ZU at h2;by_cases hi:i<vs.length
   .exact hi
   .rw[List.getElem?_append_right (by simpa using hi)]at h2
    rw[QI]at h2;split at h2<;>cases h2
  have ha:vs[i]?=O v:=by
   unfold ZU at h2;rw[List.getElem?_append_left (by simpa using hi),List.getElem?_map]at h2;cases e:vs[i]? with
   |none=>rw[e]at h2;cases h2
   |some a=>rw[e]at h2;cases h2;rfl
  obtain⟨u,hu,rv⟩:=r.get ha;have hp:ps[i]?=O y:=by rw[←S.pre,List.getElem?_take_of_lt (by omega)];exact h1
  have ndP:ps.Nodup:=by rw[←S.pre];exact S.nd.sublist (List.take_sublist _ _)
  refine⟨u,rv,?_⟩;rcases S.par y (Q3 hp)with k|k
  .exact .inl ⟨k,Ng ndP hp hu k⟩
  .obtain⟨c,e⟩:=Rn (n:=s.heap.objs.size+1) k
   refine .inr ⟨.inl k,c,e,?_⟩;have q:=x.cell y c e;rw[Nf ndP hp hu (by show scope.names.lookup y≠_;rw[k];decide)]at q;exact q
 .exact e0.hok.fresh (JR (x.above y c (Q9 h)))
 .unfold ZU
  show _=N.length;rw[Qo,Qd,Q5];omega
theorem R3{CX:CXT}{P:JW}{w:World}{K:Frag}{mg:Str->B7}{base:Heap}{k:Nat}{f:JX}{name qual:Str}{params:Arguments}{body:List Stmt}{scope:Scope}{dV kV doc pm cdv ct oc:JU}{an od:Ae}
  {osl:Array B7} {N ps:List Str} {sp:Sp} (lk:K.lookup f=O ⟨oc,od,.func (PySem.W.fnOf name qual params body scope dV kV doc pm an cdv ct),osl⟩) (hcd:PySem.W.codeIn K cdv qual=B2) (S:Xj N ps scope)
  (len:∀vs H Q E,sp vs H Q E->vs.length=ps.length)
  (hbody:∀(A:Around)(outer:List Env)(s:JV)(H:Hp)(vs:List V)(Q:VK)(E:XK),Room k (A.deeper (envOfC qual scope s.heap.objs.size f cdv))->sp vs H Q E ->
   ∃t,PSs (Kl CX P w K mg base N qual scope f cdv A outer s H E) body t/\t {nx:=λ_ H'=>Q .non H',rt:=Q} (ZU N vs) H) :
  FnOk P w K mg base CX (k+1) f (PySem.W.fnOf name qual params body scope dV kV doc pm an cdv ct) ps sp:=by
 refine⟨len,λA outer s H args us vs Q E hr e0 hb r AG=>?_⟩;have hl:=len _ _ _ _ AG;have KX:K.In s.heap:=e0.mod.kin.keeps λb o e=>(e0.bs b o e).1;have lim:s.heap.NoLimit:=e0.mod.nolimit.keeps λb o e=>(e0.bs b o e).1
 have hkind:∀y∈ps.zip us,scope.names.lookup y.1=O .local∨(scope.names.lookup y.1=O .cell/\((cellsFrom (s.heap.objs.size+1) scope.names []).lookup y.1).isSome=B2):=λ⟨n,v⟩ hy=>by
  rcases S.par n (List.of_mem_zip hy).1 with q|q
  .exact .inl q
  .exact .inr ⟨q,PySem.W.cellsFrom_some _ _ _ (.inl q)⟩
 refine codeAny_call_function hr.depth (KX _ _ lk) Z S.co S.gen Z (PySem.W.codeRec_of KX hcd) (hb _ _ _ _ ?_);refine wpAny_newFunctionEnv_cells S.kind hkind λenv he s1 x=>?_;subst he
 refine⟨lim.keeps x.toInCall.keep,codeAny_func ?_⟩;obtain⟨t,ht,hq⟩:=hbody A outer s H vs Q E (hr.deeper _) AG;have I:Inv (Kl CX P w K mg base N qual scope f cdv A outer s H E) [] (ZU N vs) H s1:=Nd S hr.hd e0 hl r x;refine QA (ht [] s1 (ZU N vs) H _ I hq) (λfl s' hs=>?_) λe s' hs=>hs
 have fin:∀{σ':St}{H':Hp}{v:V}{u:JU},Inv (Kl CX P w K mg base N qual scope f cdv A outer s H E) [] σ' H' s'->RelV v u->Q v H'->CE outer P w H s Q u s':=
  λ{σ' H' v u} J rv q=>⟨v,H',J.os,J.bare,J.base,J.hok,rv,q⟩
 cases fl with
 |ret u=>obtain⟨v,σ',H',J,rv,q⟩:=hs;exact fin J rv q
 |next=>obtain⟨σ',H',J,q⟩:=hs;exact fin (v:=V.non) (u:=Value.none) J Z q
 |brk=>obtain⟨_,_,_,q⟩:=hs;exact False.elim q
 |cont=>obtain⟨_,_,_,q⟩:=hs;exact False.elim q
section
variable{X:Cx}{x:Str}{p pos:Pos}{e:JZ}{es:B8}{t:TA}{id T:String}{r:List V->Hp->VK->Prop}
noncomputable def tCB(r:List V->Hp->VK->Prop)(t:TA):TE:=λσ H Q=>t σ H λvs H1=>r vs H1 Q
theorem Vn(hc:ZA X (.builtin id) r)(hg:Gl X x)(hm:X.mg x=B0)(hv:bootBuiltins x=O (.builtin id))(ha:PA X (e::es) t)(hn:x ≠ "__name__" :=by decide)(hdb:(x==("__debug__" : Str))=B3:=by decide)
  (he:J5 (e::es) X.env=(B3,eval e X.env)::J5 es X.env:=by rfl) (hpl:(backTo pos (J5 es X.env)).any (·.1)=B3:=by rfl):PE X (.Call (.Name x p) (e::es) [] pos) (tCB r t):=by
 intro pins s σ H Q I h;refine Jk (Wv I hg hm hv ?_ hn hdb);exact PyProof.Rows.callWith_builtin1 (thn (ha pos pins s σ H _ I h) λus s1 ⟨vs,H1,I1,r1,q1⟩=>hc pins s1 σ H1 vs us Q I1 r1 q1) he hpl
theorem TQ(hc:ZA X (.type T) r)(hg:Gl X x)(hm:X.mg x=B0)(hv:bootBuiltins x=O (.type T))(ha:PA X (e::es) t)(hn:x ≠ "__name__" :=by decide)(hdb:(x==("__debug__" : Str))=B3:=by decide)
  (he:J5 (e::es) X.env=(B3,eval e X.env)::J5 es X.env:=by rfl) (hpl:(backTo pos (J5 es X.env)).any (·.1)=B3:=by rfl):PE X (.Call (.Name x p) (e::es) [] pos) (tCB r t):=by
 intro pins s σ H Q I h;refine Jk (Wv I hg hm hv ?_ hn hdb);exact Jx (thn (ha pos pins s σ H _ I h) λus s1 ⟨vs,H1,I1,r1,q1⟩=>hc pins s1 σ H1 vs us Q I1 r1 q1) he hpl
end
end L2
namespace HT
open PySem PyProof.Rows
section
variable{prog:JW}{w:World}{A:Around}{E:JU->JV->Prop}{s:JV}
noncomputable def sIx(n d:Nat):Ac->Nat
 |none=>d
 |some v=>if v<0 then(v+(n:Int)).toNat else min v.toNat n
end
end HT
namespace L2
open PySem PySem.Spec PyProof.Rows
abbrev TO:=St->Hp->(Ac->Hp->Prop)->Prop
def PO(X:Cx)(e:Option JZ)(t:TO):Prop:=
 ∀(pins:List (JX×Obj))(s:JV)(σ:St)(H:Hp)(Q:Ac->Hp->Prop),Inv X pins σ H s->t σ H Q ->
  J4 (model X.prog X.w) X.A (evalPart e X.env) (λu s'=>∃o H',Inv X pins σ H' s'/\IsPart u o/\Q o H') X.xe s
noncomputable def FH:TO:=λ_ H Q=>Q B0 H
noncomputable def Mt(t:TE):TO:=λσ H Q=>t σ H λx H1=>∃i,x=.int i/\Q (O i) H1
section
variable{X:Cx}{e:JZ}{te:TE}{lo hi:Option JZ}{tl th:TO}{pos p2:Pos}
theorem FG:PO X B0 FH:=by intro pins s σ H Q I h;rw[evalPart_none];exact Qg ⟨B0,H,I,.none,h⟩
theorem FF(h:PE X e te):PO X (O e) (Mt te):=by
 intro pins s σ H Q I hw;rw[evalPart_some];refine thn (h pins s σ H _ I hw) λu s1 ⟨x,H1,I1,r1,q1⟩=>?_
 obtain⟨i,rfl,q⟩:=q1;obtain⟨t,rfl⟩:=r1;exact⟨O i,H1,I1,.int i t,q⟩
def SlR(X:Cx)(r:V->Ac->Ac->Hp->VK->Prop):Prop:=
 ∀(pins:List (JX×Obj))(s:JV)(σ:St)(H:Hp)(x:V)(v vl vu:JU)(lo hi:Ac)(sl:JX)(Q:VK),Inv X pins σ H s->RelV x v->s.heap.IsSliceOf sl vl vu .none->IsPart vl lo->IsPart vu hi->r x lo hi H Q ->
  ∃T id,typeLookup (.type T) "__getitem__" = pure (O (.builtin id))/\s.TypeIs v T/\J4 (model X.prog X.w) X.A (getItem v (.ref sl)) (EP X pins σ Q) X.xe s
theorem SlR.or{r r':V->Ac->Ac->Hp->VK->Prop}(h:SlR X r)(h':SlR X r'):SlR X (λx lo hi H Q=>r x lo hi H Q∨r' x lo hi H Q):=by
 intro pins s σ H x v vl vu lo hi sl Q I rx hs pl pu q;rcases q with q|q
 .exact h pins s σ H x v vl vu lo hi sl Q I rx hs pl pu q
 .exact h' pins s σ H x v vl vu lo hi sl Q I rx hs pl pu q
noncomputable def tSl(r:V->Ac->Ac->Hp->VK->Prop)(te:TE)(tl th:TO):TE:=λσ H Q=>te σ H λx H1=>tl σ H1 λl H2=>th σ H2 λu H3=>r x l u H3 Q
theorem DG{r:V->Ac->Ac->Hp->VK->Prop}(hr:SlR X r)(he:PE X e te)(hl:PO X lo tl)(hu:PO X hi th):PE X (.Subscript e (.Slice lo hi B0 p2) pos) (tSl r te tl th):=by
 intro pins s σ H Q I h;refine Subscript_ (thn (he pins s σ H _ I h) λv s1 ⟨x,H1,I1,r1,q1⟩=>?_);refine wpAny_Slice (thn (hl pins s1 σ H1 _ I1 q1) λvl s2 ⟨l,H2,I2,pl,q2⟩=>thn (hu pins s2 σ H2 _ I2 q2) λvu s3 ⟨u,H3,I3,pu,q3⟩=>?_);rw[evalPart_none];refine Qg ?_;have I4:Inv X pins σ H3 {s3 with heap:=s3.heap.push {cls:=.type "slice", data:=.fields #[vl,vu,.none]}}:=I3.kept (t':=s3.toks) λb ob q=>Qe _ q
 obtain⟨T,id,hT,ht,hg⟩:=hr pins {s3 with heap:=s3.heap.push {cls:=.type "slice", data:=.fields #[vl,vu,.none]}} σ H3 x v vl vu l u s3.heap.objs.size Q I4 r1 (Heap.IsSliceOf.new ..) pl pu q3;show J4 (model X.prog X.w) X.A (subscriptTail e (.Slice lo hi B0 p2) v (.ref s3.heap.objs.size)) (EP X pins σ Q) X.xe {s3 with heap:=s3.heap.push {cls:=.type "slice", data:=.fields #[vl,vu,.none]}};exact tail_any (ops:=[.ref s3.heap.objs.size,v]) ht hT hg (by with_unfolding_all rfl)
noncomputable def Yd(xs:List V)(lo hi:Ac):List V:=(xs.drop (HT.sIx xs.length 0 lo)).take (HT.sIx xs.length xs.length hi-HT.sIx xs.length 0 lo)
theorem Bo(xs:List V)(lo hi:Ac):(Yd xs lo hi).length<=xs.length:=by unfold Yd;rw[JN,JH];omega
end
noncomputable def ixN(n:Nat)(i:Int):Option Nat:=if 0<=i then(if i<n then O i.toNat else B0)else if -(n:Int)<=i then O (i+n).toNat else B0
noncomputable def atI{α:Type}(xs:List α)(i:Int):Option α:=(ixN xs.length i).bind λj=>xs[j]?
theorem Og{n:Nat}{i:Int}{j:Nat}(h:ixN n i=O j):seqIndex? i n=O j/\j<n /\ -(n:Int)<=i/\i<n:=by
 unfold ixN at h;by_cases h0:0<=i
 .rw[Qr h0]at h
  by_cases h1:i<n
  .rw[Qr h1]at h
   have e:i.toNat=j:=Q7 h;exact⟨by rw[seqIndex_of h0 h1,e],by omega,by omega,h1⟩
  .rw[QD h1]at h;cases h
 .rw[QD h0]at h
  by_cases h1 : -(n:Int)<=i
  .rw[Qr h1]at h
   have e:(i+n).toNat=j:=Q7 h;exact⟨by rw[seqIndex_neg (by omega) h1,e],by omega,h1,by omega⟩
  .rw[QD h1]at h;cases h
theorem SG{α:Type}{xs:List α}{i:Int}{v:α}(h:atI xs i=O v):∃j,seqIndex? i xs.length=O j/\xs[j]?=O v/\j<xs.length /\ -(xs.length:Int)<=i/\i<xs.length:=by
 unfold atI at h;cases e:ixN xs.length i with
 |none=>rw[e]at h;cases h
 |some j=>rw[e]at h;obtain⟨h1,h2,h3,h4⟩:=Og e;exact⟨j,h1,h,h2,h3,h4⟩
theorem YC{α:Type}{xs:List α}{j:Nat}{v:α}(h:xs[j]?=O v):atI xs (j:Int)=O v:=by
 have hj:j<xs.length:=(Qy.mp h).1;have e:ixN xs.length (j:Int)=O j:=by unfold ixN;rw[if_pos (by omega),if_pos (by omega)];simp
 unfold atI;rw[e];exact h
def TF(b:JZ):Prop:=∀o i,subscripted b B3 o i=operate [o,i] (getItem o i)
def IxR(X:Cx)(r:R2):Prop:=
 ∀(value slice:JZ)(pins:List (JX×Obj))(s:JV)(σ:St)(H:Hp)(x y:V)(v u:JU)(Q:VK),Inv X pins σ H s->RelV x v->RelV y u->r x y H Q ->
  subscripted slice B3 v u=operate [v,u] (getItem v u)->J4 (model X.prog X.w) X.A (subscriptTail value slice v u) (EP X pins σ Q) X.xe s
def MtR(X:Cx)(id:String)(r:V->List V->Hp->VK->Prop):Prop:=
 ∀(pins:List (JX×Obj))(s:JV)(σ:St)(H:Hp)(x:V)(xs:List V)(v:JU)(us:B5)(Q:VK),Inv X pins σ H s->RelV x v->Vals xs us->r x xs H Q ->
  J4 (model X.prog X.w) X.A (call (.builtin id) (v::us)) (EP X pins σ Q) X.xe s
section
variable{X:Cx}{a b:JZ}{ta tb:TE}{pos:Pos}
theorem IxR.or{r r':R2}(h:IxR X r)(h':IxR X r'):IxR X (λx y H Q=>r x y H Q∨r' x y H Q):=by
 intro value slice pins s σ H x y v u Q I rx ry q hs;rcases q with q|q
 .exact h value slice pins s σ H x y v u Q I rx ry q hs
 .exact h' value slice pins s σ H x y v u Q I rx ry q hs
theorem Sr{r:R2}(hr:IxR X r)(ha:PE X a ta)(hb:PE X b tb)(hs:TF b):PE X (.Subscript a b pos) (tOp r ta tb):=by intro pins s σ H Q I h;exact Subscript_ (W2 ha hb I h λv u s2 x y H2 I2 rx ry q=>hr a b pins s2 σ H2 x y v u Q I2 rx ry q (hs _ _))
noncomputable def rIxL(K:Frag):R2:=λx y H Q=>∃p xs i v,x=.ref p/\y=.int i/\SqL K H p xs/\atI xs i=O v/\Q v H
noncomputable def rIxT(K:Frag):R2:=λx y H Q=>∃p xs i v,x=.ref p/\y=.int i/\SqT K H p xs/\atI xs i=O v/\Q v H
noncomputable def rIxS:R2:=λx y H Q=>∃z i c,x=.str z/\y=.int i/\z.length<=J0/\atI z.cps.toList i=O c/\Q (.str ⟨#[c]⟩) H
theorem Ec:IxR X (rIxL X.K):=by
 intro value slice pins s σ H x y v u Q I rx ry h hs;obtain⟨p,xs,i,z,rfl,rfl,hq,he,q⟩:=h;cases rx;obtain⟨t,rfl⟩:=ry;obtain⟨its,r,pl,hz⟩:=I.list hq;obtain⟨j,h1,h2,h3,h4,h5⟩:=SG he;obtain⟨w,ew,qf⟩:=r.get h2;have hl:=r.length;have hn:=Tt;have fin:EP X pins σ Q w s:=⟨z,H,I,qf,q⟩
 by_cases h0:0<=i
 .have hj:i.toNat=j:=by
   rw[seqIndex_of h0 h5]at h1;exact Q7 h1
  exact item_listR pl.isList h0 (by omega) (by rw[hj];simpa using ew) fin hs
 .have hj:(i+(its.toArray.size:Int)).toNat=j:=by
   rw[seqIndex_neg (by omega) h4]at h1;rw[QU,←hl];exact Q7 h1
  exact subscriptTail_builtinR (x:=w) pl.isList.typeIs slot_list_getitem.lookup
   (wpAny_getItem_list_neg (Q:=λr s'=>r=w/\EP X pins σ Q r s') pl.isList (by omega) (by rw[List.size_toArray]<;>omega) (by omega) (by rw[hj];simpa using ew) ⟨rfl,fin⟩) hs
theorem HR:IxR X (rIxT X.K):=by
 intro value slice pins s σ H x y v u Q I rx ry h hs;obtain⟨p,xs,i,z,rfl,rfl,hq,he,q⟩:=h;cases rx;obtain⟨t,rfl⟩:=ry;obtain⟨its,r,pl,hz⟩:=I.tuple hq;obtain⟨j,h1,h2,h3,h4,h5⟩:=SG he;obtain⟨w,ew,qf⟩:=r.get h2;have hl:=r.length;have hn:=Tt;have fin:EP X pins σ Q w s:=⟨z,H,I,qf,q⟩
 exact subscriptTail_builtinR (x:=w) pl.typeIs slot_tuple_getitem.lookup
  (getItem_tuple (j:=j) (Q:=λr s'=>r=w/\EP X pins σ Q r s') pl (by omega) (by omega) (by rw[List.size_toArray,←hl];exact h1) (by simpa using ew) ⟨rfl,fin⟩) hs
theorem HQ:IxR X rIxS:=by
 intro value slice pins s σ H x y v u Q I rx ry h hs;obtain⟨z,i,c,rfl,rfl,hz,he,q⟩:=h;obtain⟨t,rfl⟩:=rx;obtain⟨t',rfl⟩:=ry;obtain⟨j,h1,h2,h3,h4,h5⟩:=SG he;have hl:z.cps.toList.length=z.length:=by simp[Str.length]
 rw[hl]at h1 h4 h5;have hn:=Tt;exact tail_any (typeIs_str s z t) slot_str_getitem.lookup (getItem_str (c:=c) (by have e1:decide (i < -(2 ^ 63:Int))=B3:=QP (by omega);have e2:decide (i ≥ 2 ^ 63)=B3:=QP (by omega);rw[e1,e2,Bool.or_false]) (by rw[h1];simpa using h2) ⟨.str ⟨#[c]⟩,H,I.tok _,⟨_,rfl⟩,q⟩) hs
noncomputable def rIx(K:Frag):R2:=λx y H Q=>rIxL K x y H Q∨rIxT K x y H Q∨rIxS x y H Q
theorem SA:IxR X (rIx X.K):=Ec.or (HR.or HQ)
theorem BL(lo hi:Ac)(n:Nat):(sliceBounds lo hi B0 n).1=((HT.sIx n 0 lo:Nat):Int)/\(sliceBounds lo hi B0 n).2.1=((HT.sIx n n hi:Nat):Int)/\(sliceBounds lo hi B0 n).2.2=1:=by
 refine⟨?_,?_,rfl⟩
 .cases lo with
  |none=>simp[sliceBounds,HT.sIx]
  |some i=>
   simp only[sliceBounds,HT.sIx,Option.getD_none,show(1:Int) > 0 by decide,if_true];by_cases h:i<0
   .simp only[h,if_true]<;>omega
   .simp only[h,JT]<;>omega
 .cases hi with
  |none=>simp[sliceBounds,HT.sIx]
  |some i=>
   simp only[sliceBounds,HT.sIx,Option.getD_none,show(1:Int) > 0 by decide,if_true];by_cases h:i<0
   .simp only[h,if_true]<;>omega
   .simp only[h,JT]<;>omega
theorem BR(its:B5)(lo hi:Ac):slicePick its.toArray lo hi B0=((its.drop (HT.sIx its.length 0 lo)).take (HT.sIx its.length its.length hi-HT.sIx its.length 0 lo)).toArray:=by obtain⟨h1,h2,h3⟩:=BL lo hi its.toArray.size;unfold slicePick;rw[h1,h2,h3];simp only[sliceRange_one,pick_run,QU]<;>rfl
noncomputable def rSlL(K:Frag):V->Ac->Ac->Hp->VK->Prop:=λx lo hi H Q=>∃a xs,x=.ref a/\SqL K H a xs/\∀p,H p=B0->Q (.ref p) (upd H p (.lst (Yd xs lo hi)))
theorem Eb:SlR X (rSlL X.K):=by intro pins s σ H x v vl vu lo hi sl Q I rx hs pl pu h;obtain⟨a,xs,rfl,hx,q⟩:=h;cases rx;obtain⟨its,r,ht,hz⟩:=I.list hx;have hlen:=r.length;refine⟨"list", _,slot_list_getitem.lookup,ht.isList.typeIs,?_⟩;refine wpAny_getItem_list_slice ht.isList hs pl pu .none (by simp) ?_ (by rw[List.size_toArray]<;>omega);rw[BR,←hlen];refine⟨.ref s.heap.objs.size,_,I.laid (t':=s.toks) (o:=.lst (Yd xs lo hi)) (λb ob q=>Qe _ q) (Qt _) ?_,rfl,q _ (I.hok.fresh (Qt _))⟩;exact⟨Qq (Bo xs lo hi) hz,_,0,(r.drop (HT.sIx xs.length 0 lo)).take (HT.sIx xs.length xs.length hi-HT.sIx xs.length 0 lo),QF _ Z⟩
theorem NY:ZA X (.type "list") (λxs H Q=>∃p ys,xs=[.ref p]/\(SqL X.K H p ys∨SqT X.K H p ys)/\∀l,H l=B0->Q (.ref l) (upd H l (.lst ys))):=by
 intro pins s σ H xs us Q I r h;obtain⟨p,ys,rfl,hq,q⟩:=h;obtain⟨u,rfl,rx⟩:=Tj r;cases rx
 have fin:∀(its:B5),Vals ys its->ys.length<=J0->∀(h':Heap)(c':Nat),(∀b o',s.heap.get? b=O o'->h'.get? b=O o') ->
   h'.get? s.heap.objs.size=O {cls:=.type "list", dict:=B0,data:=.seq its.toArray c',slots:=#[]}->EP X pins σ Q (.ref s.heap.objs.size) {s with heap:=h'}:=λits r' hz h' c' kp e=>
  ⟨.ref s.heap.objs.size,_,I.laid (t':=s.toks) kp (Qt _) (show K2 X.prog X.w _ h' _ (.lst ys)from⟨hz,its,c',r',e⟩),rfl,q _ (I.hok.fresh (Qt _))⟩
 rcases hq with hq|hq
 .obtain⟨its,r',pl,hz⟩:=I.list hq
  have hlen:=r'.length;obtain⟨o,ho,hc,n,hd⟩:=pl.isList;exact call_list_seq p (.inl Z) ho hc hd (λh' c' kp e=>fin its r' hz h' c' kp e) (by simp only[QU]<;>omega)
 .obtain⟨its,r',pl,hz⟩:=I.tuple hq
  have hlen:=r'.length;obtain⟨o,ho,hc,n,hd⟩:=pl;exact call_list_seq p (.inr Z) ho hc hd (λh' c' kp e=>fin its r' hz h' c' kp e) (by simp only[QU]<;>omega)
def tyV(K:Frag)(T:String)(x:V)(H:Hp):Prop:=match x with
 |.str _=>T = "str"
 |.int _=>T = "int"
 |.ref p=>(T = "list" /\ ∃xs,SqL K H p xs)∨(T = "tuple" /\ ∃o,K.lookup p=O o/\o.cls=.type "tuple" /\ o.dict=B0) ∨
   (T = "dict" /\ ((∃kvs,H p=O (.dK kvs)) ∨ ∃kvs,H p=O (.dT kvs)))∨(T = "set" /\ ∃S n,H p=O (.set S n))
 |_=>False
theorem HP{pins:List (JX×Obj)}{σ:St}{H:Hp}{s:JV}{T:String}{x:V}{v:JU}(I:Inv X pins σ H s)(r:RelV x v)(ty:tyV X.K T x H) :
  s.TypeIs v T/\∀a,v=.ref a->∃ob,s.heap.get? a=O ob/\ob.dict=B0:=by
 cases x with
 |str z=>obtain⟨t,rfl⟩:=r;cases (show T = "str" from ty);exact⟨typeIs_str s z t,λ_ e=>nomatch e⟩
 |int i=>obtain⟨t,rfl⟩:=r;cases (show T = "int" from ty);exact⟨typeIs_int s i t,λ_ e=>nomatch e⟩
 |ref p=>
  cases r;rcases ty with ⟨rfl,xs,hq⟩|⟨rfl,o,hk,hc,hd⟩|⟨rfl,hk⟩|⟨rfl,S,n,hk⟩
  .obtain⟨its,_,pl,_⟩:=I.list hq
   refine⟨pl.isList.typeIs,λa e=>?_⟩;cases e;obtain⟨o,n,e,c,hd,_⟩:=pl;exact⟨o,e,hd⟩
  .refine⟨⟨o,I.kIn p o hk,hc⟩,λa e=>?_⟩
   cases e;exact⟨o,I.kIn _ o hk,hd⟩
  .have z:∃o,s.heap.get? p=O o/\o.ExactDict:=by
    rcases hk with ⟨kvs,hk⟩|⟨kvs,hk⟩
    .obtain⟨_,_,_,_,o,_,_,e,ex,_⟩:=I.hok p _ hk
     exact⟨o,e,ex⟩
    .obtain⟨_,_,_,_,o,_,_,e,ex,_⟩:=I.hok p _ hk
     exact⟨o,e,ex⟩
   obtain⟨o,e,ex⟩:=z;refine⟨⟨o,e,ex.1⟩,λa e2=>?_⟩;cases e2;exact⟨o,e,ex.2.1⟩
  .obtain⟨o,_,_,_,e,ex,_⟩:=I.hok p _ hk
   refine⟨⟨o,e,ex.1⟩,λa e2=>?_⟩;cases e2;exact⟨o,e,ex.2.1⟩
 |_=>exact False.elim ty
noncomputable def tBM(K:Frag)(T:String)(r:V->List V->Hp->VK->Prop)(to:TE)(t:TA):TE:=λσ H Q=>to σ H λx H1=>tyV K T x H1/\t σ H1 λxs H2=>r x xs H2 Q
variable{o e:JZ}{es:B8}{to:TE}{t:TA}{name:Str}{apos cpos:Pos}{T id:String}{r:V->List V->Hp->VK->Prop}
theorem VD(pa:PlainAttrs T)(slot:Slot T name id)(hty:typeOf (.builtin id)=pure (.type "method_descriptor"))(hm:MtR X id r)(ho:PE X o to)(ha:PA X (e::es) t)
  (hbase:attributeBase o name X.env (eval o X.env)=eval o X.env:=by rfl)
  (hfew:((backTo cpos (J5 (e::es) X.env)).all (λx=>!x.1)&&(backToKw cpos (keywordEach [] X.env)).all (λx=>x.1.isSome)
   && decide ((e::es).length+([]:List Keyword).length+(if([]:List Keyword).isEmpty then 0 else 1)<30))=B2:=by rfl)
  (hline:(apos.endLine==cpos.line)=B2:=by rfl) (hs:J5 (e::es) X.env=(B3,eval e X.env)::J5 es X.env:=by rfl) (hplain:(backTo cpos (J5 es X.env)).any (·.1)=B3:=by rfl) :
  PE X (.Call (.Attribute o name apos) (e::es) [] cpos) (tBM X.K T r to t):=by
 intro pins s σ H Q I h;refine wpAny_Call_method_late hbase hfew hline Z (thn (ho pins s σ H _ I h) λv s1 ⟨x,H1,I1,r1,ty,q1⟩=>?_);obtain⟨h1,h2⟩:=HP I1 r1 ty;refine⟨T,id,pa,slot,hty,h1,h2,?_⟩;have hA:=ha cpos pins s1 σ H1 _ I1 q1;rw[hs]at hA⊢;refine Calls.callWith_builtin (by show(B3 || (backTo cpos (J5 es X.env)).any (·.1))=B3;rw[hplain]<;>rfl) (Calls.evalArgs_plain ?_);exact thn hA λus s2 ⟨vs,H2,I2,r2,q2⟩=>hm pins s2 σ H2 x vs v us Q I2 r1 r2 q2
end
def MtM(X:Cx)(id:String)(r:V->List V->Hp->VK->Prop):Prop:=
 ∀(pins:List (JX×Obj))(s:JV)(σ:St)(H:Hp)(x:V)(xs:List V)(v:JU)(us:B5)(Q:VK),Inv X pins σ H s->RelV x v->Vals xs us->r x xs H Q ->
  J4 (model X.prog X.w) X.A (call (.builtin id) (v::us)) (EP X pins σ Q) X.xe s
theorem Vals.one:∀{x:V}{us:B5},Vals [x] us->∃u,us=[u]/\RelV x u
 |_,_,.cons r .nil=>⟨_,rfl,r⟩
theorem Vals.eraseIdx:∀{xs:List V}{us:B5}(i:Nat),Vals xs us->Vals (xs.eraseIdx i) (us.eraseIdx i)
 |_,_,_,.nil=>.nil
 |_,_,0,.cons _ t=>t
 |_,_,i+1,.cons r t=>.cons r (Vals.eraseIdx i t)
theorem Vals.reverse{xs:List V}{us:B5}(h:Vals xs us):Vals xs.reverse us.reverse:=by
 induction h with
 |nil=>exact .nil
 |cons r t ih=>rw[JC,JC];exact Vals.append ih (.cons r .nil)
theorem Vals.rep{xs:List V}{us:B5}(h:Vals xs us):∀k:Nat,Vals (J8 k xs).flatten (J8 k us).flatten
 |0=>.nil
 |k+1=>by rw[Jj,Jj,QN,QN];exact Vals.append h (Vals.rep h k)
theorem Nc{α:Type}:∀(l:List α)(i:Nat),(l.eraseIdx i).length<=l.length
 |[],_=>Qt _
 |_::_,0=>Jn _
 |_::r,i+1=>Nat.succ_le_succ (Nc r i)
theorem Nb(its:B5):∀(k:Nat)(acc:B5),
  List.foldl (λx1 x2=>x1++x2) acc.toArray (J8 k its.toArray)=(acc++(J8 k its).flatten).toArray
 |0,acc=>by simp
 |k+1,acc=>by
  have e:acc.toArray++its.toArray=(acc++its).toArray:=by simp
  have e2:(acc++its)++(J8 k its).flatten=acc++(J8 (k+1) its).flatten:=by rw[Jj,QN,Jf]
  rw[←e2,←Nb its k (acc++its),←e,Jj,List.foldl_cons]
section
variable{X:Cx}{pins:List (JX×Obj)}{σ:St}{H:Hp}{s:JV}{l b:JX}{xs ys zs:List V}
theorem Inv.lset{its its':B5}{n:Nat}{f:Array JU->Array JU}{t':Nat}(I:Inv X pins σ H s)(hH:H l=O (.lst xs))
  (e:s.heap.get? l=O {cls:=.type "list", data:=.seq its.toArray n}) (hf:f its.toArray=its'.toArray) (hv:Vals ys its') (hz:ys.length<=J0) :
  Inv X pins σ (upd H l (.lst ys)) {s with heap:=s.heap.update l (Obj.mapSeq f),toks:=t'}:=by
 have q:=PySem.IsL.update e f;rw[hf]at q;refine I.write (x:=l) (e:=l) (by rw[hH];exact trivial) (.inl Z) (λb' u hb hu=>(Ql s.heap (Obj.mapSeq f) (Ne.symm hb)).trans hu) ⟨_,q⟩ ?_;exact⟨hz,its',_,hv,q⟩
theorem Inv.lnew{its:B5}{t':Nat}(I:Inv X pins σ H s)(hv:Vals ys its)(hz:ys.length<=J0) :
  Inv X pins σ (upd H s.heap.objs.size (.lst ys)) {s with heap:=s.heap.push {cls:=.type "list", data:=.seq its.toArray},toks:=t'}:=
 I.laid (λ_ _ q=>Qe _ q) (Qt _) ⟨hz,its,0,hv,QF _ Z⟩
theorem Inv.fresh(I:Inv X pins σ H s):H s.heap.objs.size=B0:=I.hok.fresh (Qt _)
theorem Inv.lstM(I:Inv X pins σ H s)(hH:H l=O (.lst xs)):xs.length<=J0/\∃(its:B5)(n:Nat),Vals xs its/\xs.length=its.length/\s.heap.get? l=O {cls:=.type "list", data:=.seq its.toArray n}:=by obtain⟨z,its,n,r,e⟩:=I.hok l _ hH;exact⟨z,its,n,r,r.length,e⟩
theorem DF{n:Nat}(h:n<=J0):Builtin.List.listTooLong n=B3:=by unfold Builtin.List.listTooLong;exact QP (by omega)
end
section
variable{X:Cx}
noncomputable def Ea:V->List V->Hp->VK->Prop:=λx vs H Q=>∃l xs y,x=.ref l/\vs=[y]/\H l=O (.lst xs)/\xs.length<J0/\Q .non (upd H l (.lst (xs++[y])))
theorem Vq:MtM X "list.append" Ea:=by intro pins s σ H x vs v us Q I rx rv h;obtain⟨l,xs,y,rfl,rfl,hH,hz,q⟩:=h;cases rx;obtain⟨u,rfl,ru⟩:=rv.one;obtain⟨z,its,n,r,hl,e⟩:=I.lstM hH;refine call_meets F.slot_list_append ⟨_,e,rfl⟩ F.entry_list_append (F.args_list_append_2 _ _) (PySem.list_append l its.toArray n u (by rw[QU];omega)) ⟨e,?_⟩;refine⟨.non,_,I.lset (its':=its++[u]) hH e (by simp) (r.append (.cons ru .nil)) ?_,rfl,q⟩;rw[Qo,QK];omega
noncomputable def HN:V->List V->Hp->VK->Prop:=λx vs H Q=>∃l xs i k y,x=.ref l/\vs=[.int i]/\H l=O (.lst xs) /\ -(2 ^ 63)<=i/\i<2 ^ 63/\seqIndex? i xs.length=O k/\xs[k]?=O y/\Q y (upd H l (.lst (xs.eraseIdx k)))
theorem DE:MtM X "list.pop" HN:=by
 intro pins s σ H x vs v us Q I rx rv h;obtain⟨l,xs,i,k,y,rfl,rfl,hH,h1,h2,hk,hy,q⟩:=h;cases rx;obtain⟨u,rfl,ru⟩:=rv.one;obtain⟨t,rfl⟩:=ru;obtain⟨z,its,n,r,hl,e⟩:=I.lstM hH;obtain⟨w,hw,qf⟩:=r.get hy
 refine call_meets F.slot_list_pop ⟨_,e,rfl⟩ F.entry_list_pop (F.args_list_pop_2 _ _)
  (MeetsSeq.list_pop_at l its.toArray n i t k w (fitsIndex_both h1 h2) (by rw[QU,←hl];exact hk) (by rw[←Array.getElem?_toList];exact hw) (by rw[QU];omega)) ⟨e,?_⟩
 refine⟨y,_,I.lset (its':=its.eraseIdx k) hH e ?_ (r.eraseIdx k) ?_,qf,q⟩
 .show its.toArray.eraseIdxIfInBounds k=(its.eraseIdx k).toArray
  rw[List.eraseIdxIfInBounds_toArray]
 .have:=Nc xs k
  omega
theorem F9{α:Type}(xs:List α)(k:Nat):(J8 k xs).flatten.length=k*xs.length:=by
 induction k with
 |zero=>simp
 |succ k ih=>rw[Jj,QN,Qo,ih,Nat.succ_mul,Nat.add_comm]
end
section
variable{prog:JW}{w:World}{A:Around}{E:JU->JV->Prop}{s:JV}
set_option maxRecDepth 100000 in
end
end L2
namespace Att
open PySem PySem.W PySem.Calls PyProof.Rows
theorem BY{P:Params}{h:Heap}:∀(ns:B6)(vs:B5),WellAll P h vs (ns.map WData.int)->IntsAre vs ns:=by
 intro ns;induction ns with
 |nil=>intro vs w;rw[JO]at w;cases w;exact .nil
 |cons n ns ih=>
  intro vs w;rw[Qu]at w;cases w with
  |cons a b=>cases a;exact .cons _ _ (ih _ b)
theorem CY{l:OpenLaw}{n:Nat}(hn:l.most=O n){P:Params}{h:Heap}{args:List WData}{vals:B5}
  (hpre:l.row.toRowW.claim.pre args=B2) (hwl:WellAll P h vals args) :
  ∃a vs ns,vals=[Value.ref a]/\args=[WData.list (ns.map WData.int)]/\h.get? a=O {cls:=.type "list", data:=.seq vs.toArray}/\IntsAre vs ns/\ns.length<=n:=by
 have hsh:WShape.hasAll [] args [.list .int]=B2:=(pre_splitW hpre).1;have hc:l.pre.holds [] {args:=args}=B2:=(pre_splitW hpre).2;obtain⟨d,r,rfl,h1,h2⟩:=hasAllW_cons hsh;obtain rfl:=hasAllW_nil h2;obtain⟨xs,rfl,h3⟩:=hasW_list h1;obtain⟨ns,rfl⟩:=items_int h3
 have hlen:ns.length<=n:=by
  unfold OpenLaw.pre at hc;have h4:(WTm.not (.lt (.lit (.int (n:Int))) (.len (.arg 0)))).holds [] {args:=[.list (ns.map .int)]}=B2:=by have h4:=(holds_andW hc).1;rw[hn]at h4;exact h4
  have h5:=condW_of h4 (w_not (w_lt w_lit (w_len_list (w_arg Z))));rw[Qd]at h5;refine Q0 λq=>?_;have q':(n:Int)<((ns.length:Nat):Int):=by omega
  first
   |(rw[QE q']at h5;exact absurd h5 (by decide))
   |(simp at h5;omega)
 cases hwl with
 |cons w1 w2=>
  cases w2;cases w1 with
  |list ho hall=>exact⟨_,_,ns,rfl,rfl,ho,BY ns _ hall,hlen⟩
theorem CW(l:OpenLaw)(args:List WData):l.row.toRowW.claim.post args (.bool B2) args=B2:=
 postW_of (r:=l.row.toRowW) (X:=(B2==B2))
  (show WShape.has [] (.bool B2) .bool=B2 by first|rfl|decide|simp[WShape.has,WShape.arms,WShape.armsAll])
  (show(WTm.eq .res (.lit (.bool B2))).value [] {args:=args,res:=O (.bool B2),after:=args}=O (.bool (B2==B2))from w_eq_bool (w_res Z) w_lit) Z
theorem attach_call{l:OpenLaw}{n:Nat}{q:JW}{loose:List Str}{XP:(Str->B7)->Heap->Prop}{YP:World->Heap->Prop}{d:DefRec}
  (hn:l.most=O n) (hdf:d.params.defaults=[])
  (call:∀(w:World)(s₀ s₁:JV)(mg mb:Str->B7)(fa:JX)(o:Obj)(pm cd doc:JU)(a:JX)(vs:B5)(ns:B6),
   Ground q loose [] XP w s₀ mg mb s₁.heap->YP w s₁.heap ->
   s₁.heap.get? fa=O o->o.data=.func (docDef d.name d.params d.body d.scope pm cd doc)->s₁.heap.CodeRec cd d.name->mg d.name=O (.ref fa) ->
   s₁.heap.get? a=O {cls:=.type "list", data:=.seq vs.toArray}->IntsAre vs ns->ns.length<=n->s₁.gens=#[] ->
   codeAny (model l.prog w) callerA (.call (.ref fa) ⟨[.ref a],[]⟩) (λr s'=>r=.ok (.ret (.bool B2))/\OldK s₁.heap s'.heap/\s'.os=s₁.os/\AllBare s'.gens) s₁) :
  WalkO q loose XP YP l.row.toRowW d [] (λf vs=>PySem.call f vs):=by
 intro w s₀ s₁ mg mb G Y fa o pm cd doc dV kV ho hd hcd hD hmg hg args vals as hpre hlay hrd hwl hlo;obtain rfl:dV=.none:=Dflts.none hD hdf;obtain rfl:kV=.none:=Dflts.noKw hD;obtain⟨a,vs,ns,rfl,rfl,hobj,hints,hlen⟩:=CY hn hpre hwl;refine enter_call (Jt (call w s₀ s₁ mg mb fa o pm cd doc a vs ns G Y ho (fd_plain hd) hcd hmg hobj hints hlen hg) λr s' hq=>?_);obtain⟨rfl,h2,h3,h4⟩:=hq;exact⟨.inl ⟨.bool B2,.bool B2,[],rfl,λ_=>rfl,.bool B2,CW l _,λ_=>⟨List.Pairwise.nil,λ_ hm=>(nomatch hm)⟩⟩,h2,h3,h4⟩
end Att
namespace L2
open PySem PySem.Spec PyProof.Rows
theorem VZ:∀{vs:B5}{ns:B6},IntsAre vs ns->Vals (ns.map V.int) vs
 |_,_,.nil=>.nil
 |_,_,.cons n t h=>.cons ⟨t,rfl⟩ (VZ h)
def Only(H:Hp):Prop:=∀b,H b=B0 ∨ ∃o xs,H b=O (.frz o (.lst xs))
theorem DD{P:JW}{w:World}{K:Frag}{mg mb:Str->B7}{CX:CXT}{k:Nat}{fa a:JX}{fd:JY}{x:Str}{sp:Sp}{s₁:JV}{vs:B5}{ns:B6}
  (KX:K.In s₁.heap) (hns:s₁.heap.Ns mainGlobals mg) (hb:s₁.heap.Ns builtinsNs mb) (hbb:∀x:Str,x ≠ "__name__" -> mb x=bootBuiltins x) (hlim:s₁.heap.NoLimit) (hg:s₁.gens=#[])
  (ha:s₁.heap.get? a=O {cls:=.type "list", data:=.seq vs.toArray}) (hi:IntsAre vs ns) (hl:ns.length<=J0) (hr:Room k callerA)
  (F:∀base:Heap,K.In base->base.Ns mainGlobals mg->FnOk P w K mg base CX k fa fd [x] sp) (hbind:∀(s:JV)(u:JU),BindsTo s fd ⟨[u],[]⟩ [(x,u)])
  (AG:∀H:Hp,Only H->SqL K H a (ns.map V.int)->sp [.ref a] H (λv _=>v=.bl B2) λ_ _ _=>False)
  (hCX:∀H e s',CX [] H s₁ (λ_ _ _=>False) e s'->False) :
  codeAny (model P w) callerA (.call (.ref fa) ⟨[.ref a],[]⟩) (λr s'=>r=.ok (.ret (.bool B2))/\OldK s₁.heap s'.heap/\s'.os=s₁.os/\AllBare s'.gens) s₁:=by
 have rv:=VZ hi;have lenV:=hi.length
 have core:∀H:Hp,Only H->SqL K H a (ns.map V.int)->HOk P w H s₁.heap->(∀b,H b≠B0->b=a)->(H a≠B0->K.lookup a=B0) ->
   codeAny (model P w) callerA (.call (.ref fa) ⟨[.ref a],[]⟩) (λr s'=>r=.ok (.ret (.bool B2))/\OldK s₁.heap s'.heap/\s'.os=s₁.os/\AllBare s'.gens) s₁:=by
  intro H hO hS hok hA hK;have base_of:∀{b:JX}{o:Obj},s₁.heap.get? b=O o->H b=B0->(Zl s₁.heap H).get? b=O o:=λe n=>Db e n
  have noA:∀{b:JX}{o:Obj}{es:Array DictEntry}{ep:Nat},s₁.heap.get? b=O o->o.data=.dict es ep->H b=B0:=λ{b o es ep} e d=>by
   cases q:H b with
   |none=>rfl
   |some u=>have e':b=a:=hA b (by rw[q];simp);subst e';rw[ha]at e;cases e;have d':Data.seq vs.toArray _=Data.dict es ep:=d;cases d'
  have nsK:∀{b:JX}{m:Str->B7},s₁.heap.Ns b m->(Zl s₁.heap H).Ns b m:=λ{b m} ⟨o,es,ep,e,d,r⟩=>⟨o,es,ep,base_of e (noA e d),d,r⟩
  have hKb:K.In (Zl s₁.heap H):=λb o e=>base_of (KX b o e) (by
   cases q:H b with
   |none=>rfl
   |some u=>have e':b=a:=hA b (by rw[q];simp);subst e';rw[hK (by rw[q];simp)]at e;cases e)
  have hM:Mod K mg (Zl s₁.heap H):=⟨hKb,nsK hns,⟨mb,nsK hb,hbb⟩,let ⟨mc,h1,h2⟩:=hlim;⟨mc,nsK h1,h2⟩⟩
  have e0:Env0 P w K mg (Zl s₁.heap H) callerA [] s₁ H:=⟨rfl,hM,λb o e=>FO e,Nat.le_of_eq (Cu _ _),trivial,λb hb=>absurd (show b∈([]:Aa)from hb) (by simp),hok,.of_eq hg⟩
  refine Jt ((F _ hKb (nsK hns)).run callerA [] s₁ H ⟨[.ref a],[]⟩ [.ref a] [.ref a] _ _ hr e0 (hbind s₁ (.ref a)) (.cons Z .nil) (AG H hO hS)) λr s' h=>?_
  cases r with
  |error e=>exact(hCX H e s' h).elim
  |ok fl=>
   cases fl with
   |next=>exact False.elim h
   |brk=>exact False.elim h
   |cont=>exact False.elim h
   |ret u=>
    obtain⟨v,H',os,bare,un,hok',r',q⟩:=h;have q':v=.bl B2:=q;subst q';obtain rfl:u=Value.bool B2:=r';refine⟨rfl,OldK.of_keep λb o e=>?_,os,bare⟩;cases q:H b with
    |none=>exact un.keep b o e q (by intro z;exact absurd (show b∈([]:Aa)from z) (by simp)) (by simp)
    |some u=>
     rcases hO b with z|⟨ob,xs,z⟩
     .rw[q]at z;cases z
     .have z2:=un.frzs b ob _ z
      obtain⟨e1,_⟩:=hok b _ z;obtain⟨e2,_⟩:=hok' b _ z2;rw[e]at e1;cases e1;exact e2
 cases hk:K.lookup a with
 |some o=>have e:=KX a o hk;rw[ha]at e;cases e;refine core (λ_=>B0) (λ_=>.inl Z) (.inr ⟨_,vs.toArray,_,hk,rfl,rfl,rfl,by rw[List.size_toArray,lenV];exact hl,by simpa using rv⟩) (λb u z=>by have z':(none:Option HO)=O u:=z;cases z') (λb z=>absurd Z z) λz=>absurd Z z
 |none=>
  refine core (λb=>if b=a then O (.frz {cls:=.type "list", data:=.seq vs.toArray} (.lst (ns.map V.int)))else B0) (λb=>?_) (.inl (.inr ⟨{cls:=.type "list", data:=.seq vs.toArray},Qr Z⟩)) (λb u z=>?_) (λb z=>?_) λ_=>hk
  .by_cases hb:b=a
   .exact .inr ⟨_,_,Qr hb⟩
   .exact .inl (QD hb)
  .by_cases hb:b=a
   .have z':=(Qr hb).symm.trans z
    cases z';subst hb;exact⟨ha,by rw[Qd];exact hl,vs,_,rv,ha⟩
   .have z':=(QD hb).symm.trans z
    cases z'
  .by_cases hb:b=a
   .exact hb
   .exact absurd (QD hb) z
noncomputable def Yt(s:Stmt):Arguments:=match s with
 |.FunctionDef _ a _ _ _ _ _ _ _ _=>a
 |_=>{posonlyargs:=[],args:=[],vararg:=B0,kwonlyargs:=[],kw_defaults:=[],kwarg:=B0,defaults:=[]}
noncomputable def K5(s:Stmt):List Stmt:=match s with
 |.FunctionDef _ _ b _ _ _ _ _ _ _=>b
 |_=>[]
noncomputable def Kb(s:Stmt):Scope:=match s with
 |.FunctionDef _ _ _ _ _ _ sc _ _ _=>sc
 |_=>{kind:=.function,names:=[],isGenerator:=B3,isCoroutine:=B3}
noncomputable abbrev CX0:CXT:=λ_ _ _ _ _ _=>False
noncomputable abbrev E0:XK:=λ_ _ _=>False
theorem Sq{X:Cx}:SB CX0 X E0:=λ_ _ _ _ _ _ _ h=>h.elim
structure Fun(K:Frag)(x qual:Str)(st:Stmt)(f:JX)(fd:JY):Prop where
 ex:∃(oc:JU)(od:Ae)(kV doc pm:JU)(an:Ae)(cdv ct:JU)(osl:Array B7),
  fd=PySem.W.fnOf x qual (Yt st) (K5 st) (Kb st) .none kV doc pm an cdv ct/\K.lookup f=O ⟨oc,od,.func fd,osl⟩/\PySem.W.codeIn K cdv qual=B2
 kp:PySem.W.keepIn K (.ref f)=B2
section
variable{P:JW}{w:World}{K:Frag}{mg:Str->B7}{base:Heap}
theorem Fun.ok{x qual:Str}{st:Stmt}{f:JX}{fd:JY}{N ps:List Str}{k:Nat}{sp:Sp}(F:Fun K x qual st f fd)(S:Xj N ps (Kb st))(len:∀vs H Q E,sp vs H Q E->vs.length=ps.length)
  (hbody:∀(cdv:JU)(A:Around)(outer:List Env)(s:JV)(H:Hp)(vs:List V)(Q:VK)(E:XK),Room k (A.deeper (envOfC qual (Kb st) s.heap.objs.size f cdv))->sp vs H Q E ->
   ∃t,PSs (Kl CX0 P w K mg base N qual (Kb st) f cdv A outer s H E).nox (K5 st) t/\t {nx:=λ_ H'=>Q .non H',rt:=Q} (ZU N vs) H):FnOk P w K mg base CX0 (k+1) f fd ps sp:=by
 obtain⟨oc,od,kV,doc,pm,an,cdv,ct,osl,rfl,lk,hcd⟩:=F.ex;refine R3 lk hcd S len λA outer s H vs Q E hr AG=>?_
 obtain⟨t,h,q⟩:=hbody cdv A outer s H vs Q E hr AG;exact⟨t,h.nox,q⟩
theorem Fun.binds{x qual:Str}{st:Stmt}{f:JX}{fd:JY}{ps:List Str}(F:Fun K x qual st f fd)
  (h:∀(kV doc pm:JU)(an:Ae)(cdv ct:JU)(us:B5),us.length=ps.length->bindArgs (PySem.W.fnOf x qual (Yt st) (K5 st) (Kb st) .none kV doc pm an cdv ct) ⟨us,[]⟩=pure (ps.zip us)):Ze K fd ps []:=by
 obtain⟨oc,od,kV,doc,pm,an,cdv,ct,osl,rfl,lk,hcd⟩:=F.ex;exact .all (h kV doc pm an cdv ct)
end
def Same(H H':Hp):Prop:=∀b o,H b=O o->H' b=O o
theorem Same.refl(H:Hp):Same H H:=λ_ _ h=>h
theorem Same.trans{H H1 H2:Hp}(a:Same H H1)(b:Same H1 H2):Same H H2:=λc o h=>b c o (a c o h)
theorem Same.free{H H':Hp}(e:Same H H'){l:JX}(h:H' l=Option.none):H l=Option.none:=by
 cases q:H l with
 |none=>rfl
 |some o=>rw[e l o q]at h;cases h
theorem Same.seq{K:Frag}{H H':Hp}{a:JX}{xs:List V}(e:Same H H')(h:SqL K H a xs):SqL K H' a xs:=by
 rcases h with (h|⟨o,h⟩)|h
 .exact .inl (.inl (e _ _ h))
 .exact .inl (.inr ⟨o,e _ _ h⟩)
 .exact .inr h
section
variable{X:Cx}{pins:List (JX×Obj)}{σ:St}{H:Hp}{s:JV}{h':Heap}
theorem Inv.turnedNew{t':Nat}{fp:Aa}{p:JX}{o:HO}(I:Inv X pins σ H s)(hf:∀b∈fp,Kg X pins H b)
  (k:∀b o,b∉fp->s.heap.get? b=O o->h'.get? b=O o) (hp:s.heap.objs.size<=p) (new:K2 X.prog X.w (upd H p o) h' p o) :
  Inv X pins σ (upd H p o) {s with heap:=h',toks:=t'}:=by
 have hn:H p=B0:=I.hok.fresh hp;have trk:∀b u,H b=O u->b∉fp:=λb u e z=>by rw[(hf b z).1]at e;cases e
 refine I.step (g':=s.gens) (d':=s.drawn) (ch:=fp) (λb hb=>?_) (λb o _ _ hc e _=>k b o hc e) (λb o _ _ hc e _=>⟨o.slots,k b o hc e⟩)
  (λb o _ e n=>by rw[UI (QZ (Qx (Qf e) hp))];exact n) (λb o hc e=>⟨o,k b o hc e⟩)
  (λb xs e=>by rw[UI (ZC e hn)];exact e) (λb ob u e=>by rw[UI (ZC e hn)];exact e) (λb ps e=>⟨#[],by rw[UI (ZC e hn),e];simp⟩)
  (λm hm=>?_) (λb u e=>?_) I.bare
 .obtain⟨_,f1,_,f3,f4,f5⟩:=hf b hb
  exact⟨f3,f1,f4,f5⟩
 .obtain⟨ob,es,ep,ho,r⟩:=hm
  exact⟨ob,es,ep,k _ ob (λz=>(hf _ z).2.1 Z) ho,r⟩
 .by_cases hb:b=p
  .subst hb;rw[UW]at e;cases e;exact new
  .rw[UI hb]at e
   refine(I.hok b u e).stay (λc v hc q=>k c v ?_ q) (λc q=>by rw[UI (ZC q hn)];exact q) λc xs q=>by rw[UI (ZC q hn)];exact q
   rcases hc with z|z
   .rw[z];exact trk b u e
   .exact trk c _ z
theorem Inv.turnedL{t':Nat}{fp:Aa}(I:Inv X pins σ H s)(hf:∀b∈fp,Kg X pins H b)
  (k:∀b o,b∉fp->s.heap.get? b=O o->h'.get? b=O o):Inv X pins σ H {s with heap:=h',toks:=t'}:=by
 have trk:∀b u,H b=O u->b∉fp:=λb u e z=>by rw[(hf b z).1]at e;cases e
 refine I.step (g':=s.gens) (d':=s.drawn) (ch:=fp) (λb hb=>?_) (λb o _ _ hc e _=>k b o hc e) (λb o _ _ hc e _=>⟨o.slots,k b o hc e⟩)
  (λ_ _ _ _ n=>n) (λb o hc e=>⟨o,k b o hc e⟩) (λ_ _ e=>e) (λ_ _ _ e=>e) (λb ps e=>⟨#[],by rw[e];simp⟩) (λm hm=>?_) (λb u e=>?_) I.bare
 .obtain⟨_,f1,_,f3,f4,f5⟩:=hf b hb
  exact⟨f3,f1,f4,f5⟩
 .obtain⟨ob,es,ep,ho,r⟩:=hm
  exact⟨ob,es,ep,k _ ob (λz=>(hf _ z).2.1 Z) ho,r⟩
 .refine(I.hok b u e).stay (λc v hc q=>k c v ?_ q) (λc q=>q) λc xs q=>q
  rcases hc with z|z
  .rw[z];exact trk b u e
  .exact trk c _ z
end
noncomputable def Ite(K:Frag)(a:JX):It:=
 ⟨λi H=>∃xs x,SqL K H a xs/\xs[i]?=O x,
  λi H v H'=>∃p x,H p=B0/\v=.ref p/\(∀xs,SqL K H a xs->xs[i]?=O x)/\H'=upd H p (.tup [.int i,x]),
  λi H=>∃xs,SqL K H a xs/\xs.length<=i⟩
theorem CV{P:JW}{w:World}{K:Frag}{elts:B8}{x1}{tp:Pos}(a e it:JX)(hne:e≠it) :
  Turn P w K (.Tuple elts x1 tp) (Ite K a) [e,it] e (λi h=>(∃old,IsEnum h e it i old)/\h.IsListIter it a i) where
 mem:=by simp
 obj:=λi h st b hb=>by
  obtain⟨⟨old,he⟩,o,ho,c,d⟩:=st;have hb':b=e∨b=it:=by simpa using hb
  rcases hb' with rfl|rfl
  .exact⟨_,he,λv z=>by have z':Data.fields _=Data.cell v:=z;cases z'⟩
  .exact⟨o,ho,λv z=>by rw[d]at z;cases z⟩
 keep:=λi h h' st k=>by obtain⟨⟨old,he⟩,hi⟩:=st;exact⟨⟨old,k e (by simp) _ he⟩,hi.at λo q=>k it (by simp) o q⟩
 item:=by
  intro X hP hw hK hc i pins s σ H E I hf st hg;subst hP hw hK;obtain⟨⟨old,he⟩,hi⟩:=st;obtain⟨xs,x,hq,hx⟩:=hg;obtain⟨its,rv,p,hz⟩:=I.list hq;obtain⟨u,hu,ru⟩:=rv.get hx;refine wpAny_pyNext_enum_item he hi p.isList (x:=u) (by simpa using hu) hne λh1 out hi1 ht hsz kk=>?_
  refine⟨_,rfl,wpAny_letOwnedTupleGo_enum out λh2 qi hs2=>?_⟩;have hel:e<s.heap.objs.size:=Qf he;have qg:Heap.SameBut e h1 h2:=hs2;have ht2:h2.get? s.heap.objs.size=O {cls:=.type "tuple", data:=.seq #[.int i s.toks,u]}:=(qg.2 _ (Ji hel)).trans ht
  have kk2:∀b o,b∉[e,it]->s.heap.get? b=O o->h2.get? b=O o:=λb o hb q=>by
   have AE:b≠e:=λz=>hb (by simp[z])
   have hbi:b≠it:=λz=>hb (by simp[z])
   exact(qg.2 b AE).trans (kk b o AE hbi q)
  have hn:H s.heap.objs.size=B0:=I.hok.fresh (Qt _)
  have I2:Inv X pins σ (upd H s.heap.objs.size (.tup [.int i,x])) {s with heap:=h2,toks:=s.toks+1}:=
   I.turnedNew (fp:=[e,it]) hf kk2 (Qt _) ⟨by show 2<=J0;decide,[.int i s.toks,u],.cons ⟨_,rfl⟩ (.cons ru .nil),⟨_,ht2,rfl,_,rfl⟩⟩
  refine⟨.ref s.heap.objs.size,_,I2,rfl,⟨_,x,hn,rfl,λys hy=>by rw[I.list_inj hy hq];exact hx,rfl⟩,⟨⟨u,?_⟩,?_⟩,λb hb=>?_⟩
  .have:=qi
   simpa using this
  .have hi2:h2.IsListIter it a (i+1):=hi1.at λo q=>(qg.2 it (Ne.symm hne)).trans q
   exact hi2
  .have fr:=(hf b hb)
   have hlt:b<s.heap.objs.size:=by
    have hb':b=e∨b=it:=by simpa using hb
    rcases hb' with rfl|rfl
    .exact hel
    .obtain⟨o,ho,_⟩:=hi;exact Qf ho
   rw[UI (QZ hlt)];exact fr.1
 done:=by intro X hP hw hK hc i pins s σ H E I hf st hg;subst hP hw hK;obtain⟨⟨old,he⟩,hi⟩:=st;obtain⟨xs,hq,hx⟩:=hg;obtain⟨its,rv,p,hz⟩:=I.list hq;have hl:=rv.length;exact wpAny_pyNext_enum_end (I.ok.hd hc) he hi p.isList (by simp;omega) λh' eb=>⟨rfl,I.turnedL (t':=s.toks) hf λb o hb q=>eb b o (λz=>hb (by simp[z])) q⟩
 self:=λ_ _ _ _ _ st h=>by obtain⟨⟨old,he⟩,_⟩:=st;exact wpAny_pyIter_enum he h
section
variable{X:Cx}
noncomputable def Ms(K:Frag)(ta:TA):TI:=λσ H R=>ta σ H λvs H1=>∃a xs,vs=[.ref a]/\SqL K H1 a xs/\R (Ite K a) H1
theorem F8{a:JZ}{ta:TA}{p pos:Pos}{elts:B8}{x1}{tp:Pos}(hg:Gl X "enumerate")(hm:X.mg "enumerate" = B0)(ha:PA X [a] ta)
  (hs:J5 [a] X.env=[(B3,eval a X.env)]:=by rfl):PI X (.Tuple elts x1 tp) (.Call (.Name "enumerate" p) [a] [] pos) (Ms X.K ta):=by
 intro pins s σ H R I h;refine Call_ (Wv I hg hm boot_enumerate (Jx (thn (ha pos pins s σ H _ I h) λus s1 ⟨vs,H1,I1,r1,q1⟩=>?_) hs Z));obtain⟨l,xs,e,hq,q⟩:=q1;subst e;cases r1 with
 |cons r rr=>
  cases rr;cases (show _=Value.ref l from r);obtain⟨its,rv,pl,hz⟩:=I1.list hq;refine call_enumerate_list pl.isList λh' he hi hsz kk=>?_;have I2:Inv X pins σ H1 {s1 with heap:=h'}:=I1.kept (t':=s1.toks) kk;refine wpAny_pyIter_enum he ?_
  refine⟨s1.heap.objs.size+1,[s1.heap.objs.size+1,s1.heap.objs.size],_,_,H1,rfl,I2,CV l _ _ (Nat.succ_ne_self _),⟨⟨_,he⟩,hi⟩,λb hb=>?_,q⟩;have hb':b=s1.heap.objs.size+1∨b=s1.heap.objs.size:=by simpa using hb
  rcases hb' with rfl|rfl
  .exact I1.fpOk (Jn _) (I1.hok.fresh (Jn _))
  .exact I1.fpOk (Qt _) (I1.hok.fresh (Qt _))
end
section
variable{κ:Type}[DecidableEq κ]
noncomputable def ZH(kvs:List (κ×V))(k:κ):Option V:=(kvs.find? λkv=>decide (kv.1=k)).map (·.2)
theorem OE{p:κ×V}{r:List (κ×V)}{k:κ}(e:p.1=k):ZH (p::r) k=O p.2:=by simp[ZH,List.find?_cons,e]
theorem OD{p:κ×V}{r:List (κ×V)}{k:κ}(e:¬p.1=k):ZH (p::r) k=ZH r k:=by simp[ZH,List.find?_cons,e]
theorem RelO.getD{o:Option V}{u:B7}{d:V}{d':JU}(r:RelO o u)(rd:RelV d d'):RelV (o.getD d) (u.getD d'):=by
 cases o with
 |none=>cases u with
  |none=>exact rd
  |some _=>exact(show False from r).elim
 |some _=>cases u with
  |none=>exact(show False from r).elim
  |some _=>exact r
theorem KV.val{kvs:List (κ×V)}{vs:List (κ×JU)}(r:KV kvs vs)(k:κ):RelO (ZH kvs k) (valueAt vs k):=by
 unfold KV at r;induction r with
 |nil=>exact True.intro
 |@cons p q ps qs h t ih=>
  obtain⟨h1,h2⟩:=h;by_cases e:p.1=k
  .have e':q.1=k:=h1.symm.trans e
   have b:valueAt (q::qs) k=O q.2:=by simp[valueAt,List.find?_cons,e']
   rw[OE e,b];exact h2
  .have e':¬q.1=k:=λz=>e (h1.trans z)
   have b:valueAt (q::qs) k=valueAt qs k:=by simp[valueAt,List.find?_cons,e']
   rw[OD e,b];exact ih
theorem KV.keys{kvs:List (κ×V)}{vs:List (κ×JU)}(r:KV kvs vs):kvs.map (·.1)=vs.map (·.1):=by
 unfold KV at r;induction r with
 |nil=>rfl
 |cons h t ih=>rw[Qu,Qu,ih,h.1]
end
theorem Mr{P:JW}{w:World}{k:Key}{u:JU}(r:RelV (kV k) u):(ZY P w).is k u=B2:=by
 cases k with
 |inl i=>obtain⟨t,e⟩:=(show ∃t,u=Value.int i t from r);subst e;exact Bp P w i t
 |inr x=>obtain⟨t,e⟩:=(show ∃t,u=Value.str x t from r);subst e;exact Rz P w x t
end L2
namespace L2
open PySem PySem.Spec
def Tail(bmB bm:B5):Prop:=∀(X:String)(b:Bool),bmB.contains (.type X)=b->bm.contains (.type X)=b
theorem Tail.base{bmB:B5}:Tail bmB bmB:=λ_ _ h=>h
theorem Tail.own{bmB bm:B5}{D:JX}(T:Tail bmB bm):Tail bmB (.ref D::bm):=λX b h=>by rw[Q1,T X b h];rfl
section
variable{prog:JW}{w:World}{A:Around}{E:JU->JV->Prop}{h:Heap}{g:Array GenState}{d:Drawn}{t:Nat}{os:OsState}{R:Result->JV->Prop}
variable{nm q:Str}{C N:JX}{bs bm bmB:B5}{hdct:Bool}{sn:List Str}{sub:B5}{ab:Bool}{col:Af}{dd:Ae}{k0 k1 k2 k3 k5:B7}{B newId initId:String}
theorem Bc{M:Model}(F:ExcBaseFacts B newId initId bmB)(T:Tail bmB bm){rest:B5}{Q:Unit->JV->Prop}(hC:h.get? C=O (excClassObj nm q C N bs bm hdct sn sub ab col dd k0 k1 k2 k3 k5 newId))
  (hq:Q () ⟨h,g,d,t,os⟩):J4 M A (checkBuiltinCall newId ⟨.ref C::rest,[]⟩) Q E ⟨h,g,d,t,os⟩:=by
 have qK:(Value.ref C::bm).contains (.type B)=B2:=by rw[Q1,T _ _ F.hasB,JP]
 have hstar:=F.noStar;simp only[checkBuiltinCall,F.newKind,F.newSplit,F.newRow]
 repeat (first|refine Qh hC ?_|(refine QC hC ?_;rw[qK])|refine wpAny_staticBase_exc hC ?_|refine wpAny_madeBy_exc hC ?_|simp only[bne_self_eq_false,Jy,JT] | wp_step)
 exact hq
theorem DC(F:ExcBaseFacts B newId initId bmB)(T:Tail bmB bm){rest:B5}(hC:h.get? C=O (excClassObj nm q C N bs bm hdct sn sub ab col dd k0 k1 k2 k3 k5 newId))
  (hq:R (.ok (.ret (.ref (h.objs.size+1)))) ⟨(h.push {cls:=.type "tuple", data:=.seq rest.toArray}).push
   {cls:=.ref C,data:=.fields #[.ref h.objs.size,.none,.none,.none,.bool B3,.none]},g,d,t,os⟩) (hrest:rest.length<=J0) :
  codeAny (model prog w) A (.builtin newId ⟨.ref C::rest,[]⟩) R ⟨h,g,d,t,os⟩:=by
 have hends:=F.ends;have AB:(Value.ref C::bm).contains (.type B)=B2:=by rw[Q1,T _ _ F.hasB,JP]
 have hcA:(Value.ref C::bm).contains (.type "AttributeError")=B3:=by rw[Q1,T _ _ F.noAttr];rfl
 have hcN:(Value.ref C::bm).contains (.type "NameError")=B3:=by rw[Q1,T _ _ F.noName];rfl
 refine codeAny_builtinAt F.entry ?_;unfold Builtin.«BaseException.__new__»;refine wpAt_bind ?_;show wpAt _ _ _ (stack >>= _) _ _ _;refine wpAt_bind (wpAt_stack λp below=>wpAt_of_wpAny ?_)
 wp_walk
 refine wpAt_of_wpAny ?_;rw[F.owner]
 repeat (first|with_reducible refine wpAny_madeHere_exc F.canon hC ?_|with_reducible refine Qh hC ?_|(with_reducible refine QC hC ?_;first|rw[AB] | rw[hcA] | rw[hcN])|wp_step)
 show R _ _;rw[Jm];exact hq
def Pp(M:Model)(C fI:JX)(h:Heap):Prop:=∀(A:Around)(E:JU->JV->Prop)(Q:B7->JV->Prop)(h':Heap)(g:Array GenState)(d:Drawn)(t:Nat)(os:OsState),
 (∀b o,h.get? b=O o->h'.get? b=O o)->Q (O (.ref fI)) ⟨h',g,d,t,os⟩->J4 M A (typeLookup (.ref C) "__init__") Q E ⟨h',g,d,t,os⟩
theorem Bb(F:ExcBaseFacts B newId initId bmB)(T:Tail bmB bm){rest:B5}{fI:JX}{oI:Obj}{Q:Fin->JV->Prop}
  (hC:h.get? C=O (excClassObj nm q C N bs bm hdct sn sub ab col dd k0 k1 k2 k3 k5 newId)) (hi:Pp (model prog w) C fI h)
  (hfI:h.get? fI=O oI) (hfc:oI.cls=.type "function")
  (hq:∀h' e,Heap.MadeExcOf h h' e (.ref C) rest->h.objs.size<=e ->
   J4 (model prog w) A (call (.ref fI) (.ref e::rest)) (λr s'=>r=.none/\Q (.done (.ret (.ref e))) s') E ⟨h',g,d,t,os⟩) (hrest:rest.length<=J0) :
  J4 (model prog w) A (Builtin.«type.__call__» ⟨.ref C::rest,[]⟩) Q E ⟨h,g,d,t,os⟩:=by
 repeat (first|with_reducible refine Qh hC ?_|with_reducible refine wpAny_madeBy_exc hC ?_|wp_step)
 refine codeAny_call_builtin_code (Code.quiet_builtin _ F.quiet) (Bc F T hC ?_);refine DC F T hC ?_ hrest;show J4 _ _ _ _ _ _
 have hC₁:=Qe {cls:=.ref C,data:=.fields #[.ref h.objs.size,.none,.none,.none,.bool B3,.none]}
  (Qe {cls:=.type "tuple", data:=.seq rest.toArray} hC)
 have hfI₁:=Qe {cls:=.ref C,data:=.fields #[.ref h.objs.size,.none,.none,.none,.bool B3,.none]}
  (Qe {cls:=.type "tuple", data:=.seq rest.toArray} hfI)
 have hget:((h.push {cls:=.type "tuple", data:=.seq rest.toArray}).push
   {cls:=.ref C,data:=.fields #[.ref h.objs.size,.none,.none,.none,.bool B3,.none]}).get? (h.objs.size+1)=O
   {cls:=.ref C,data:=.fields #[.ref h.objs.size,.none,.none,.none,.bool B3,.none]}:=by heap_get
 have hcC:(Value.ref C::bm).contains (.ref C)=B2:=by simp
 unfold isInstance
 repeat (first|with_reducible refine Qh hget ?_|(with_reducible refine QC hC₁ ?_;rw[hcC])|wp_step)
 show J4 _ _ (typeLookup (.ref C) _) _ _ _;refine hi _ _ _ _ _ _ _ _ (λb o hb=>Qe _ (Qe _ hb)) ?_;refine wpAny_holding (Qb ?_);unfold bindSpecial;refine Qb (wpAny_typeOf (T:= "function") ⟨_,hfI₁,hfc⟩ ?_);rw[Qr (by decide)];refine Qg (Qb (QA (hq _ (h.objs.size+1) ⟨λb o hb=>Qe _ (Qe _ hb),Heap.get?_none_of_le (Jn _),h.objs.size,hget,Heap.get?_none_of_le (Qt _),?_⟩ (Jn _)) (λr s' hr=>?_) λ_ _ x=>x))
 .exact Qe _ (Heap.get?_push_at Z Z)
 .obtain⟨rfl,hQ⟩:=hr
  wp_walk
  exact hQ
theorem Na(F:ExcBaseFacts B newId initId bmB)(T:Tail bmB bm){rest:B5}{fI:JX}{oI:Obj}{Q:JU->JV->Prop}
  (hC:h.get? C=O (excClassObj nm q C N bs bm hdct sn sub ab col dd k0 k1 k2 k3 k5 newId)) (hi:Pp (model prog w) C fI h)
  (hfI:h.get? fI=O oI) (hfc:oI.cls=.type "function")
  (hq:∀h' e,Heap.MadeExcOf h h' e (.ref C) rest->h.objs.size<=e ->
   J4 (model prog w) (A.under (.builtin "type.__call__" ⟨.ref C::rest,[]⟩)) (call (.ref fI) (.ref e::rest)) (λr s'=>r=.none/\Q (.ref e) s') E ⟨h',g,d,t,os⟩) (hrest:rest.length<=J0) :
  J4 (model prog w) A (call (.ref C) rest) Q E ⟨h,g,d,t,os⟩:=by
 have f1:=tc_lookup;have f2:=tc_bind (.ref C);have hT:(⟨h,g,d,t,os⟩:JV).TypeIs (.ref C) "type" :=⟨_,hC,rfl⟩
 refine wpAny_call (codeAny_of_tree ?_);show J4 _ _ (callAny (.ref C) _) _ _ _
 repeat (any_goals (first|assumption|with_reducible refine Qh hC ?_|wp_step))
 refine⟨rfl,?_⟩;refine codeAny_call_builtin_at (Code.quiet_builtin _ (by decide +kernel)) entry_typeCall (wpAny_check_type_call_sub hC (Bb (hrest:=hrest) F T hC hi hfI hfc λh' e hm hz=>?_));exact hq h' e hm hz
end
def Kj(M:Model)(C:JX)(name:Str)(r:B7)(h:Heap):Prop:=∀(A:Around)(E:JU->JV->Prop)(Q:B7->JV->Prop)(h':Heap)(g:Array GenState)(d:Drawn)(t:Nat)(os:OsState),
 (∀b o,h.get? b=O o->h'.get? b=O o)->Q r ⟨h',g,d,t,os⟩->J4 M A (typeLookup (.ref C) name) Q E ⟨h',g,d,t,os⟩
theorem Kj.keeps{M:Model}{C:JX}{name:Str}{r:B7}{h h':Heap}(x:Kj M C name r h)(k:∀b o,h.get? b=O o->h'.get? b=O o):Kj M C name r h':=
 λA E Q h2 g d t os k2 q=>x A E Q h2 g d t os (λb o e=>k2 b o (k b o e)) q
theorem Kj.at{M:Model}{A:Around}{E:JU->JV->Prop}{Q:B7->JV->Prop}{C:JX}{name:Str}{r:B7}{h:Heap}{g:Array GenState}{d:Drawn}{t:Nat}{os:OsState}(x:Kj M C name r h)(q:Q r ⟨h,g,d,t,os⟩):J4 M A (typeLookup (.ref C) name) Q E ⟨h,g,d,t,os⟩:=
 x A E Q h g d t os (λ_ _ e=>e) q
section
variable{prog:JW}{w:World}{A:Around}{E:JU->JV->Prop}{h:Heap}{g:Array GenState}{d:Drawn}{t:Nat}{os:OsState}{R:Result->JV->Prop}
variable{nm q:Str}{C N x:JX}{bs bm bmB:B5}{hdct:Bool}{sn:List Str}{sub:B5}{ab:Bool}{col:Af}{dd:Ae}{k0 k1 k2 k3 k5:B7}{B newId sa owner:String}{mN mA:Str->B7}{name:Str}{v:JU}
def ZF(M:Model)(l:B5)(name:Str)(r:B7)(h:Heap):Prop:=∀(A:Around)(E:JU->JV->Prop)(Q:B7->JV->Prop)(h':Heap)(g:Array GenState)(d:Drawn)(t:Nat)(os:OsState),
 (∀b o,h.get? b=O o->h'.get? b=O o)->Q r ⟨h',g,d,t,os⟩->J4 M A (lookupAlong l name) Q E ⟨h',g,d,t,os⟩
theorem ZF.base{M:Model}{y:B7}(hm:mroOf (.type B)=pure bm)(hB:typeLookup (.type B) name=pure y):ZF M bm name y h:=λA E Q h' g d t os k q=>by rw[typeLookup_eq,hm]at hB;have hrest:lookupAlong bm name=pure y:=hB;rw[hrest];exact Qg q
theorem ZF.hit{M:Model}{D:JX}{c0:JU}{Au:Ae}{cd:ClassData}{sl:Array B7}(hD:h.get? D=O {cls:=c0,dict:=Au,data:=.cls cd,slots:=sl})(hn:h.Ns cd.ns mN)(hi:mN name=O v):ZF M (.ref D::bm) name (O v) h:=λA E Q h' g d t os k q=>by rw[lookupAlong_cons];refine Qb (wpAny_classOwn_cls (k _ _ hD) (hn.keeps k) ?_);rw[hi];exact Qg q
theorem ZF.miss{M:Model}{D:JX}{r:B7}{c0:JU}{Au:Ae}{cd:ClassData}{sl:Array B7}(hD:h.get? D=O {cls:=c0,dict:=Au,data:=.cls cd,slots:=sl})(hn:h.Ns cd.ns mN)(hi:mN name=B0)(f:ZF M bm name r h):ZF M (.ref D::bm) name r h:=λA E Q h' g d t os k q=>by rw[lookupAlong_cons];refine Qb (wpAny_classOwn_cls (k _ _ hD) (hn.keeps k) ?_);rw[hi];exact f A E Q h' g d t os k q
theorem Kj.of{M:Model}{r:B7}(hC:h.get? C=O (excClassObj nm q C N bs bm hdct sn sub ab col dd k0 k1 k2 k3 k5 newId))(f:ZF M (.ref C::bm) name r h):Kj M C name r h:=λA E Q h' g d t os k q=>by rw[typeLookup_eq];exact Qb (wpAny_mroOf_exc (k _ _ hC) (f A E Q h' g d t os k q))
theorem CU{M:Model}{o:Obj}{nameV:JU}{Q:Unit->JV->Prop}(SF:StoreFacts B bmB sa owner)(T:Tail bmB bm)
  (hC:h.get? C=O (excClassObj nm q C N bs bm hdct sn sub ab col dd k0 k1 k2 k3 k5 newId)) (hx:h.get? x=O o) (hc:o.cls=.ref C) (hq:Q () ⟨h,g,d,t,os⟩) :
  J4 M A (checkBuiltinCall sa ⟨[.ref x,nameV,v],[]⟩) Q E ⟨h,g,d,t,os⟩:=by
 have AB:(Value.ref C::bm).contains (.type owner)=B2:=by rw[Q1,T _ _ SF.hasOwner,JP]
 have ha:=SF.args (.ref x) nameV v;simp only[checkBuiltinCall,SF.kind,SF.split];refine Qb ?_
 .unfold isInstance
  repeat (first|(with_reducible refine Qh hx ?_;rw[hc])|(with_reducible refine QC hC ?_;rw[AB])|wp_step)
  cases hsig:Manifest.signature? sa with
  |none=>exact Qg hq
  |some sig=>simp only[argsOk,hsig]at ha;have h2:Bind.checkArgs sa sig ⟨[.ref x,nameV,v],[]⟩=pure ():=ha;show J4 M A (Bind.checkArgs sa sig ⟨[.ref x,nameV,v],[]⟩) Q E _;rw[h2];exact Qg hq
theorem BK{tk:Tok}{Q:PySem.Fin->JV->Prop}{ns:List Str}(hpass:refuseLoop (.ref x) "__setattr__" bm=pure ())
  (hC:h.get? C=O (excClassObj nm q C N bs bm B2 sn sub ab col dd k0 k1 k2 k3 k5 newId)) (hf:Kj (model prog w) C name B0 h) (I:h.InstFk x C mA)
  (hq:∀h' tk',h'.InstFk x C (λy=>if y=name then O v else mA y) ->
   (∀b o,b≠x->(∀o₀ dx,h.get? x=O o₀->o₀.dict=O dx->b≠dx)->h.get? b=O o->h'.get? b=O o) ->
   (∀o₀,h.get? x=O o₀->∃o₁,h'.get? x=O o₁/\o₁.cls=o₀.cls/\o₁.data=o₀.data/\o₁.slots=o₀.slots/\∀dx,o₀.dict=O dx->o₁.dict=O dx)->(∀o₀ o₁ dx,h.get? x=O o₀->o₀.dict=B0->h'.get? x=O o₁->o₁.dict=O dx->h.objs.size<=dx)->Q (.done (.ret .none)) ⟨h',g,d,tk',os⟩) (hw:PySem.Within mA ns) (hsz:ns.length<=1000) :
  J4 (model prog w) A (Builtin.«object.__setattr__» ⟨[.ref x,.str name tk,v],[]⟩) Q E ⟨h,g,d,t,os⟩:=by
 obtain⟨o,hx,hc,hnc,hd⟩:=I;have hs2:ns.length<=J0:=by rw[sizeLine_eq];omega
 unfold Builtin.«object.__setattr__»
 repeat (first|rw[refuse_eq] | (rw[refuseLoop_ref,hpass])|(with_reducible refine Qh hx ?_;rw[hc])|with_reducible refine wpAny_mroOf_exc hC ?_|with_reducible refine hf.at ?_|wp_step)
 rcases hd with ⟨hdn,hmA⟩|⟨dx,AU,hne,hns,hed⟩
 ·
  rw[hdn,if_neg (by simp[typeHasDict])];split
  .rename_i hcd
   cases hcd
  split
  .rename_i c hcd
   exact absurd hcd (hnc c)
  .have hx₁:(h.push {cls:=.type "dict", data:=.dict #[]}).get? x=O o:=Qe _ hx
   have hxs:x≠h.objs.size:=QZ (Qf hx);refine Qb (wpAny_alloc' ?_);refine Qb (wpAny_update' hx₁ ?_);refine Qg ?_
   have hgd:((h.push {cls:=.type "dict", data:=.dict #[]}).update x λo=>{cls:=o.cls,dict:=O h.objs.size,data:=o.data,slots:=o.slots}).get? h.objs.size
     = O {cls:=.type "dict", data:=.dict #[]}:=
    (Heap.get?_update_ne _ _ _ _ hxs.symm).trans (Heap.get?_push_at Z Z)
   have hnd:((h.push {cls:=.type "dict", data:=.dict #[]}).update x λo=>{cls:=o.cls,dict:=O h.objs.size,data:=o.data,slots:=o.slots}).Ns h.objs.size (λ_=>B0):=
    ⟨_,#[],_,hgd,rfl,λe he=>absurd he (by simp),λ_=>rfl⟩
   show J4 _ _ (Builtin.ObjectAttr.storeInDict h.objs.size (.str name tk) name v) _ _ _;unfold Builtin.ObjectAttr.storeInDict Builtin.ObjectAttr.newKeyGuard;refine Qb (Qg (Qb (wpAny_nsSet1EFk (Heap.Ns1.of_empty hnd) λh' hn' hs Ay=>?_)));obtain⟨oD,esD,epD,hoD,hdD,hcD⟩:=hn'.count (PySem.Within.cons name v PySem.Within.nil);refine Qb (wpAny_lookBehind hoD (by rw[hdD];exact pastItsLine_dict (Qq hcD (by rw[QB,QX,sizeLine_eq];omega))) ?_)
   wp_walk
   have hx':h'.get? x=O {cls:=o.cls,dict:=O h.objs.size,data:=o.data,slots:=o.slots}:=?_
   refine hq h' _ ⟨{cls:=o.cls,dict:=O h.objs.size,data:=o.data,slots:=o.slots},hx',hc,hnc,.inr ⟨h.objs.size,rfl,hxs.symm,?_,(let ⟨od',e',c',d'⟩:=Ay _ hgd;⟨od',e',c',d'⟩)⟩⟩ (λb ob hbx _ hb=>?_)
    (λo₀ h₀=>by obtain rfl:o=o₀:=Q7 (hx.symm.trans h₀);exact⟨_,hx',rfl,rfl,rfl,λdx e=>by rw[hdn]at e;cases e⟩)
    (λo₀ o₁ dx _ _ e1 e2=>by rw[hx']at e1;cases e1;cases e2;exact Qt _)
   .obtain⟨o',es,ep,e1,e2,e3,eu,e4⟩:=hn'
    exact⟨o',es,ep,e1,e2,e3,eu,λy=>by rw[e4 y];by_cases hy:y=name<;>simp[hy,hmA]⟩
   .exact(hs.2 b (QZ (Qf hb))).trans ((Heap.get?_update_ne _ _ _ _ hbx).trans (Qe _ hb))
   .refine(hs.2 x hxs).trans (QR _ hx₁ ?_)
    have hfr:=(Heap.get?_some_iff.mp hx).2;obtain⟨oc,od,odt,osl⟩:=o;cases odt<;>first|rfl|exact hfr
 ·
  rw[AU];refine Qg ?_;show J4 _ _ (Builtin.ObjectAttr.storeInDict dx (.str name tk) name v) _ _ _;unfold Builtin.ObjectAttr.storeInDict Builtin.ObjectAttr.newKeyGuard;refine Qb (Qg (Qb (wpAny_nsSet1EFk hns λh' hn' hs Ay=>?_)));obtain⟨oD,esD,epD,hoD,hdD,hcD⟩:=hn'.count (PySem.Within.cons name v hw);refine Qb (wpAny_lookBehind hoD (by rw[hdD];exact pastItsLine_dict (Qq hcD (by rw[QB,sizeLine_eq];omega))) ?_)
  wp_walk
  refine hq h' _ ⟨o,(hs.2 x hne.symm).trans hx,hc,hnc,.inr ⟨dx,AU,hne,hn',(let ⟨od,e,c,dd⟩:=hed;let ⟨od',e',c',d'⟩:=Ay od e;⟨od',e',c'.trans c,d'.trans dd⟩)⟩⟩ (λb ob _ hbd hb=>?_)
   (λo₀ h₀=>⟨o₀,(hs.2 x hne.symm).trans h₀,rfl,rfl,rfl,λ_ e=>e⟩)
   (λo₀ o₁ dx' e0 e1 _ _=>by rw[hx]at e0;cases e0;rw[AU]at e1;cases e1)
  exact(hs.2 b (hbd o dx hx AU)).trans hb
theorem N5{Q:Unit->JV->Prop}{ns:List Str}(SF:StoreFacts B bmB sa owner)(T:Tail bmB bm)(hpass:refuseLoop (.ref x) "__setattr__" bm=pure ())
  (hC:h.get? C=O (excClassObj nm q C N bs bm B2 sn sub ab col dd k0 k1 k2 k3 k5 newId)) (hfs:Kj (model prog w) C "__setattr__" (O (.builtin sa)) h) (hf:Kj (model prog w) C name B0 h) (I:h.InstFk x C mA)
  (hq:∀h' tk',h'.InstFk x C (λy=>if y=name then O v else mA y) ->
   (∀b o,b≠x->(∀o₀ dx,h.get? x=O o₀->o₀.dict=O dx->b≠dx)->h.get? b=O o->h'.get? b=O o) ->
   (∀o₀,h.get? x=O o₀->∃o₁,h'.get? x=O o₁/\o₁.cls=o₀.cls/\o₁.data=o₀.data/\o₁.slots=o₀.slots/\∀dx,o₀.dict=O dx->o₁.dict=O dx)->(∀o₀ o₁ dx,h.get? x=O o₀->o₀.dict=B0->h'.get? x=O o₁->o₁.dict=O dx->h.objs.size<=dx)->Q () ⟨h',g,d,tk',os⟩) (hw:PySem.Within mA ns) (hsz:ns.length<=1000) :
  J4 (model prog w) A (setAttr (.ref x) name v) Q E ⟨h,g,d,t,os⟩:=by
 obtain⟨o,hx,hc,_⟩:=id I;have f3:=SF.slot.bind (.ref x);unfold setAttr callSpecial? specialOf
 repeat (any_goals (first|assumption|(with_reducible refine Qh hx ?_;rw[hc])|with_reducible refine hfs.at ?_|wp_step))
 refine codeAny_call_builtin SF.slot.plain SF.entry (CU SF T hC hx hc (BK hpass hC hf I (λh' tk' I' hk hsame hnew=>?_) hw hsz))
 repeat (any_goals (first|assumption|wp_step))
 exact hq h' tk' I' hk hsame hnew
theorem CT{M:Model}{o:Obj}{nameV:JU}{Q:Unit->JV->Prop}(T:Tail bmB bm)(hb:bmB.contains (.type "BaseException")=B2)(hC:h.get? C=O (excClassObj nm q C N bs bm hdct sn sub ab col dd k0 k1 k2 k3 k5 newId))
  (hx:h.get? x=O o) (hc:o.cls=.ref C) (hq:Q () ⟨h,g,d,t,os⟩):J4 M A (checkBuiltinCall "BaseException.__getattribute__" ⟨[.ref x,nameV],[]⟩) Q E ⟨h,g,d,t,os⟩:=by
 have hk:builtinKind "BaseException.__getattribute__" = O .slot:=by decide +kernel
 have hsplit:splitId "BaseException.__getattribute__" = O ("BaseException", "__getattribute__"):=by decide +kernel
 have AB:(Value.ref C::bm).contains (.type "BaseException")=B2:=by rw[Q1,T _ _ hb];rfl
 have ha:=PySem.F.args_bexc_ga (.ref x) nameV;simp only[checkBuiltinCall,hk,hsplit];refine Qb ?_
 .unfold isInstance
  repeat (first|(with_reducible refine Qh hx ?_;rw[hc])|(with_reducible refine QC hC ?_;rw[AB])|wp_step)
  exact hq
end
theorem YF{o:Obj}{vs:Array JU}(f:Array JU->Array JU)(h:o.data=.fields vs):Obj.mapFields f o = {o with data:=.fields (f vs)}:=by obtain⟨c,d,dt,sl⟩:=o;cases h;rfl
def Tb(h:Heap)(e:JX)(vs:Array JU)(fl:JU):Prop:=∃T oT ts,vs[1]?=O (.ref T)/\T≠e/\h.get? T=O oT/\oT.data=.fields ts/\ts[3]?=O fl
def Fly(c:Bool)(h:Heap)(e:JX):Prop:=∃oe vs,h.get? e=O oe/\oe.data=.fields vs/\(vs[1]?=O .none∨Tb h e vs .none)/\(c=B2->vs[2]?=O .none)
theorem Fly.weak{c c1:Bool}{h:Heap}{e:JX}(x:Fly c1 h e)(hcc:c=B2->c1=B2):Fly c h e:=let ⟨oe,vs,a,b,d,z⟩:=x;⟨oe,vs,a,b,d,λq=>z (hcc q)⟩
structure X3(fs:Aa)(e:JX)(h h':Heap):Prop where
 keep:∀b o,b≠e->b∉fs->h.get? b=O o->h'.get? b=O o
 slot:∀b o,b≠e->h.get? b=O o->∃sl,h'.get? b=O {o with slots:=sl}
 own:∀oe,h.get? e=O oe->∃vs,h'.get? e=O {oe with data:=.fields vs}
section
variable{M:Model}{A:Around}{E:JU->JV->Prop}{s:JV}{base:Heap}{env:Env}{outer:List Env}{L e:JX}{c:Bool}
theorem newEntry{oe:Obj}{vs:Array JU}{head:JU}{hadNext:Bool}{Q:Unit->JV->Prop}(hfr:A.frames=O (env::outer))(hl:s.heap.FunFrames base (env::outer))(hf:env.frame=O L)
  (he:s.heap.get? e=O oe) (hd:oe.data=.fields vs) (hsz:1<vs.size) (hc2:c=B2->vs[2]?=O .none)
  (h:∀h',X3 (frs (env::outer)) e s.heap h'->Fly c h' e->Q () {s with heap:=h'}) :
  J4 M A (do let a ←frameOf env;let pl ←entryPlaceOf L hadNext;let b ←EntryCells.newEntry head a .none (rawInt L) .none pl;setField (.ref e) 1 b) (λ_ s'=>J4 M A (setFlight (.ref e) B0) Q E s') E s:=by
 have qh:e∉(env::outer).filterMap (·.frame):=λhm=>by obtain⟨_,o,ho,hnf⟩:=hl.mem hm;rw[he]at ho;injection ho with ho;subst ho;exact hnf vs hd
 refine Qb (wpAny_frameOf_fun hfr hl hf λh₁ hs₁=>?_);refine Qb (wpAny_entryPlaceOf λpl hpl=>?_);unfold EntryCells.newEntry newFields;refine Qb (Jv ?_ (hpl.sizeOk5 _ _ _ _ _));have he₁:h₁.get? e=O oe:=(hs₁.2.1 e qh).trans he;have he₂:=Qe (h:=h₁) {cls:=.type "traceback", dict:=B0,data:=.fields ([head,.ref L,.none,rawInt L,.none]++(if pl.isEmpty then J8 6 Value.none else pl)).toArray} he₁;refine Q8 he₂ hd hsz ?_;have AC:h₁.objs.size≠e:=Ji (Qf he₁);have hd₃:=Jd hd (·.setIfInBounds 1 (Value.ref h₁.objs.size));have he₃:=QR (Obj.mapFields (·.setIfInBounds 1 (Value.ref h₁.objs.size))) he₂ (Je hd₃)
 have hT₃:=(Ql (h₁.push {cls:=.type "traceback", dict:=B0,data:=.fields ([head,.ref L,.none,rawInt L,.none]++(if pl.isEmpty then J8 6 Value.none else pl)).toArray})
  (Obj.mapFields (·.setIfInBounds 1 (Value.ref h₁.objs.size))) (Ne.symm AC)).trans (QF h₁ Z)
 unfold setFlight;refine wpAny_bind (wpAny_field he₃ hd₃ (x:=.ref h₁.objs.size) (by simp[hsz]) ?_);rw[if_pos (show(Value.ref h₁.objs.size != Value.none)=B2 from by simp)];refine Q8 hT₃ Z (by simp only[QU,Qo,QB,QX]<;>lia) (h _ ?_ ?_)
 .have keep:∀b o,b≠e->h₁.get? b=O o ->
    (((h₁.push {cls:=.type "traceback", dict:=B0,data:=.fields ([head,.ref L,.none,rawInt L,.none]++(if pl.isEmpty then J8 6 Value.none else pl)).toArray}).update e (Obj.mapFields (·.setIfInBounds 1 (Value.ref h₁.objs.size)))).update h₁.objs.size
     (Obj.mapFields (·.setIfInBounds 3 ((none:Ae).elim Value.none λf=>rawInt f)))).get? b=O o:=λb o AE hb=>by
   have AZ:h₁.objs.size≠b:=Ji (Qf hb);rw[Ql _ _ AZ,Ql _ _ (Ne.symm AE)];exact Qe _ hb
  refine⟨λb o hb hf hg=>keep b o hb ((hs₁.2.1 b hf).trans hg),λb o hb hg=>?_,λqu z=>?_⟩
  .obtain⟨sl,hs⟩:=hs₁.2.2 b o hg
   exact⟨sl,keep b _ hb hs⟩
  .rw[he]at z;cases z
   exact⟨_,by rw[Ql _ _ AC,he₃,YF _ hd]⟩
 .refine⟨_,_,?_,hd₃,.inr ⟨h₁.objs.size,_,_,by simp[hsz],AC,Heap.get?_update_self _ hT₃ (Obj.isFreed_of_fields (Obj.data_mapFields rfl _)),Obj.data_mapFields rfl _,by first|(simp;done)|(rcases hpl with rfl|⟨_,_,_,_,_,_,_,rfl⟩<;>simp)⟩,?_⟩
  .rw[Ql _ _ AC];exact he₃
  .intro z;rw[Jr (by decide)];exact hc2 z
theorem Xr{Q:Unit->JV->Prop}(hfr:A.frames=O (env::outer))(hl:s.heap.FunFrames base (env::outer))(hf:env.frame=O L)(x:Fly c s.heap e)
  (h:∀h',X3 (frs (env::outer)) e s.heap h'->Fly c h' e->Q () {s with heap:=h'}):J4 M A (noteFrame (.ref e) env) (λ_ s'=>J4 M A (setFlight (.ref e) B0) Q E s') E s:=by
 obtain⟨oe,vs,he,hd,h1,h2⟩:=x;unfold noteFrame;simp only[hf];rcases h1 with h1|⟨T,oT,ts,h1,AC,hT,AA,h3⟩
 .refine Qb (Q4 he hd h1 ?_)
  rw[QD (by decide)];exact newEntry hfr hl hf he hd (Jb.mp h1).1 h2 h
 .refine Qb (Q4 he hd h1 ?_)
  rw[if_pos (show(Value.ref T != Value.none)=B2 from by simp)];refine Qb (Q4 hT AA h3 ?_);rw[if_neg (show ¬((Value.none==rawInt L)=B2)from by simp[rawInt])];obtain⟨qa,hv3⟩:=Jb.mp h3;refine Qb (Q8 hT AA qa ?_)
  have same:∀b o,s.heap.get? b=O o->(s.heap.update T (Obj.mapFields (·.setIfInBounds 3 Value.none))).get? b=O o:=λb o hb=>by
   by_cases AZ:b=T
   .subst AZ
    rw[hT]at hb;cases hb;rw[QR _ hT (Je (Jd AA _)),YF _ AA]
    have:ts.setIfInBounds 3 Value.none=ts:=by
     apply Array.ext_getElem?;intro i;rw[Array.getElem?_setIfInBounds];split
     .rename_i z
      subst z;exact h3.symm
     .rfl
    rw[this,←AA]
   .rw[Ql _ _ (Ne.symm AZ)];exact hb
  exact newEntry hfr (hl.of_keeps λb o hb hnf=>⟨o,same b o hb,rfl⟩) hf (same e oe he) hd (Jb.mp h1).1 h2
   λh' p t=>h h' ⟨λb o a c g=>p.keep b o a c (same b o g),λb o a g=>p.slot b o a (same b o g),λqu z=>p.own qu (same e qu z)⟩ t
theorem HM{Q:Unit->JV->Prop}(hfr:A.frames=O (env::outer))(hl:s.heap.FunFrames base (env::outer))(hf:env.frame=O L)(x:Fly c s.heap e)
  (h:∀h',X3 (frs (env::outer)) e s.heap h'->Fly c h' e->Q () {s with heap:=h'}):J4 M A (leaving env (.ref e)) Q E s:=by
 unfold leaving;exact Qb (Xr hfr hl hf x h)
end
end L2
namespace L2
open PySem PySem.Spec PyProof.Rows PySem.Calls PyProof.V
noncomputable def XO(fr:Bool)(e C:JX)(dd:Ae):Heap->Prop:=λh=>∃vs sl,h.get? e=O {cls:=.ref C,dict:=dd,data:=.fields vs,slots:=sl}/\(fr=B2->vs[1]?=O .none/\(∃t0,vs[0]?=O (.ref t0))/\vs[2]?=O .none/\4<vs.size)
theorem XO.ok{P:JW}{w:World}{H:Hp}{h:Heap}{fr:Bool}{e C:JX}{dd:Ae}(x:XO fr e C dd h):K2 P w H h e (.ext (XO fr e C dd)):=
 ⟨x,let ⟨_,_,q,_⟩:=x;⟨_,q⟩,λh1 h2 ⟨vs,sl,q,z⟩ k=>⟨vs,sl,k _ q,z⟩⟩
theorem XO.fly{c:Bool}{h:Heap}{e C:JX}{dd:Ae}(x:XO B2 e C dd h):Fly c h e:=let ⟨vs,_,q,z⟩:=x;⟨_,vs,q,rfl,.inl (z Z).1,λ_=>(z Z).2.2.1⟩
theorem XO.old{h:Heap}{fr:Bool}{e C:JX}{dd:Ae}(x:XO fr e C dd h):XO B3 e C dd h:=let ⟨vs,sl,q,_⟩:=x;⟨vs,sl,q,λz=>nomatch z⟩
noncomputable def Za(c:Bool)(P:JW)(w:World):CXT:=λouter H s E v s'=>∃e C dd H',v=.ref e/\s'.os=s.os/\AllBare s'.gens/\Un (frs outer) [] H H' s.heap s'.heap/\HOk P w H' s'.heap/\H' e=O (.ext (XO B3 e C dd))/\Fly c s'.heap e/\E (.ref e) B0 H'
abbrev CX1:=Za B2
section
variable{X:Cx}{pins:List (JX×Obj)}{σ:St}{H:Hp}{s:JV}{e C:JX}{dd:Ae}{h':Heap}
theorem Inv.passed(I:Inv X pins σ H s)(hx:H e=O (.ext (XO B3 e C dd)))(p:X3 (frs X.stack) e s.heap h'):Inv X pins σ H {s with heap:=h'}:=by
 have ne:∀b,H b=B0->b≠e:=λb n z=>by rw[z,hx]at n;cases n
 refine I.call (g':=s.gens) (t':=s.toks) (d':=s.drawn) (ch:=[]) ⟨λb o g n f _=>p.keep b o (ne b n) f g,λb o g n _ _=>p.slot b o (ne b n) g,λb o _ n _=>n,λb o g _=>?_,λ_ _ z=>z,λ_ _ _ z=>z,λb ps z=>⟨#[],by rw[z];simp⟩⟩ (λa o q=>?_) I.bare λb z=>absurd z (by simp)
 .by_cases hb:b=e
  .subst hb
   obtain⟨vs,z⟩:=p.own o g;exact⟨_,z⟩
  .obtain⟨sl,z⟩:=p.slot b o hb g
   exact⟨_,z⟩
 .by_cases ha:a=e
  .subst ha
   rw[hx]at q;cases q;obtain⟨⟨vs,sl,g,_⟩,_,_⟩:=I.hok a _ hx;obtain⟨vs',z⟩:=p.own _ g;exact XO.ok ⟨vs',sl,z,λz=>nomatch z⟩
  .refine(I.hok a o q).stay (λb u hb g=>p.keep b u ?_ (λz=>?_) g) (λ_ z=>z) λ_ _ z=>z
   .rcases hb with rfl|hb
    .exact ha
    .rintro rfl;rw[hx]at hb;cases hb
   .have n:=I.stkFree b z
    rcases hb with rfl|hb
    .rw[q]at n;cases n
    .rw[hb]at n;cases n
def ZB(c:Bool)(X:Cx)(KX:V->St->Hp->Prop):Prop:=∀(pins:List (JX×Obj))(σ:St)(H:Hp)(s:JV)(e C:JX)(dd:Ae),Inv X pins σ H s->H e=O (.ext (XO B3 e C dd))->Fly c s.heap e->KX (.ref e) σ H->X.xe (.ref e) s
theorem DB{c:Bool}{P:JW}{w:World}{K:Frag}{mg:Str->B7}{base:Heap}{N:List Str}{qual:Str}{scope:Scope}{f:JX}{cd:JU}{A:Around}{outer:List Env}{s₀:JV}{H₀:Hp}{E:XK} :
  ZB c (Kl (Za c P w) P w K mg base N qual scope f cd A outer s₀ H₀ E) λv _ H=>∃e,v=.ref e/\E (.ref e) B0 H:=by
 intro pins σ H s e C dd I hx fl ⟨e',ee,hE⟩;cases ee;refine HM (L:=s₀.heap.objs.size) I.ok.frames I.stack Z fl λh' p fl'=>?_;have I':=I.passed hx p
 exact⟨e,C,dd,H,rfl,I'.os,I'.bare,I'.base,I'.hok,hx,fl',hE⟩
theorem ZB.pass{c c1:Bool}{KX:V->St->Hp->Prop}{E:XK}{v:JU}{s':JV}(hw:ZB c X KX)(hcc:c=B2->c1=B2)(I:Inv X pins σ H s)(h:Za c1 X.prog X.w X.stack H s E v s')(hk:∀e H,E (.ref e) B0 H->KX (.ref e) σ H):X.xe v s':=by obtain⟨e,C,dd,H',rfl,os,bare,un,hok,hx,fl,hE⟩:=h;obtain⟨hh,g,d,t,os'⟩:=s';obtain rfl:os'=s.os:=os;exact hw pins σ H' _ e C dd (I.call (h':=hh) (g':=g) (d':=d) (t':=t) (ch:=[]) un hok bare (λb z=>absurd z (by simp))) hx (fl.weak hcc) (hk e H' hE)
end
noncomputable abbrev VB:B5:=[.type "ValueError", .type "Exception", .type "BaseException", .type "object"]
structure XCls(M:Model)(base:Heap)(C:JX)(bm:B5)(fI:JX):Prop where
 obj:∃nm q N bs sn sub ab col dd k0 k1 k2 k3 k5,base.get? C=O (excClassObj nm q C N bs bm B2 sn sub ab col dd k0 k1 k2 k3 k5 "ValueError.__new__")
 tail:Tail VB bm
 init:Kj M C "__init__" (O (.ref fI)) base
 fn:∃o,base.get? fI=O o/\o.cls=.type "function"
 sa:Kj M C "__setattr__" (O (.builtin "object.__setattr__")) base
 ga:Kj M C "__getattribute__" (O (.builtin "BaseException.__getattribute__")) base
 gh:Kj M C "__getattr__" none base
 cl:Kj M C "__class__" (O (.builtin "object.__class__")) base
 pass:∀v,refuseLoop v "__setattr__" bm=pure ()
section
variable{X:Cx}{k:Nat}{f C:JX}{fd:JY}{ps:List Str}{sp:Sp}{x:Str}{p pos cpos:Pos}{e:JZ}{es:B8}{t:TA}{bm:B5}
theorem CS{pins:List (JX×Obj)}{σ:St}{H:Hp}{s:JV}{Q:VK}{us:B5}{vs:List V}(M:XCls (model X.prog X.w) X.base C bm f)(F:FnOk X.prog X.w X.K X.mg X.base CX0 k f fd ps sp)(hr:Room (k+1) X.A)(hb:Ze X.K fd ps [])
  (I:Inv X pins σ H s) (r:Vals vs us) (hl:us.length<=J0)
  (h:∀a,H a=B0->sp (.ref a::vs) (upd H a (.ext (XO B2 a C B0))) (λv H2=>v=.non/\Q (.ref a) H2) E0) :
  J4 (model X.prog X.w) X.A (call (.ref C) us) (EP X pins σ Q) X.xe s:=by
 obtain⟨nm,q,N,bs,sn,sub,ab,col,dd,k0,k1,k2,k3,k5,hC⟩:=M.obj;obtain⟨oI,hfI,hfc⟩:=M.fn;obtain⟨hp,g,d,tk,os⟩:=s;refine Na PySem.F.excBase_ValueError M.tail (I.bk _ _ hC) (fI:=f) (M.init.keeps I.bk) (I.bk _ _ hfI) hfc (λh' a made hz=>?_) hl;obtain⟨t',he,htn,ht⟩:=made.there;have I2:Inv X pins σ (upd H a (.ext (XO B2 a C B0))) ⟨h',g,d,tk,os⟩:=I.laid (t':=tk) made.keeps hz (XO.ok ⟨_,_,he,λ_=>⟨rfl,⟨_,rfl⟩,rfl,by simp⟩⟩);have hq:=h a (I.hok.fresh hz);have r2:Vals (V.ref a::vs) (Value.ref a::us):=.cons Z r;have hl2:(Value.ref a::us++[]).length=ps.length:=by have e:=r2.length;rw[F.len _ _ _ _ hq]at e;rw[QT];exact e.symm
 refine wpAny_call (Jt (F.run _ X.stack _ _ ⟨Value.ref a::us,[]⟩ (Value.ref a::us) _ _ E0 (hr.make C us []) (I2.env0.make C us []) (by have:=hb _ (Value.ref a::us) I2.kIn hl2;rwa[QT]at this) r2 hq) λr s' Ax=>?_);cases r with
 |error e=>exact Ax.elim
 |ok fl=>
  cases fl with
  |ret u=>obtain⟨v,H',I3,rv,ev,q3⟩:=I2.after Ax;subst ev;exact⟨rv,⟨V.ref a,H',I3,rfl,q3⟩⟩
  |next=>exact False.elim Ax
  |brk=>exact False.elim Ax
  |cont=>exact False.elim Ax
noncomputable def tMkX(C:JX)(sp:Sp)(t:TA):TE:=λσ H Q=>t σ H λvs H1=>vs.length<=J0/\∀a,H1 a=B0->sp (.ref a::vs) (upd H1 a (.ext (XO B2 a C B0))) (λv H2=>v=.non/\Q (.ref a) H2) E0
theorem DA(M:XCls (model X.prog X.w) X.base C bm f)(F:FnOk X.prog X.w X.K X.mg X.base CX0 k f fd ps sp)(hr:Room (k+1) X.A)(hg:Gl X x)(hm:X.mg x=O (.ref C))(hk:PySem.W.keepIn X.K (.ref C)=B2)(hb:Ze X.K fd ps [])
  (ha:PA X (e::es) t) (hdb:(x==("__debug__" : Str))=B3:=by decide) (he:J5 (e::es) X.env=(B3,eval e X.env)::J5 es X.env:=by rfl) (hpl:(backTo pos (J5 es X.env)).any (·.1)=B3:=by rfl) :
  PE X (.Call (.Name x p) (e::es) [] pos) (tMkX C sp t):=by
 intro pins s σ H Q I h;refine Jk (Y3 I hg hm ?_ hdb);refine JK (h₀:=X.base) I.ok.mod.kin hk (thn (ha pos pins s σ H _ I h) λus s1 ⟨vs,H1,I1,r,hl,q⟩=>⟨I1.kIn,?_⟩) he hpl;exact CS M F hr hb I1 r (by show us.length<=J0;rw[←r.length];exact hl) q
noncomputable def HL(KC:JX->Prop)(te:TE)(KX:V->St->Hp->Prop):TS:=λ_ σ H=>te σ H λv H2=>∃a C dd,v=.ref a/\KC C/\H2 a=O (.ext (XO B2 a C dd))/\KX (.ref a) σ (upd H2 a (.ext (XO B3 a C dd)))
theorem CQ{M:Model}{A:Around}{E:JU->JV->Prop}{env:Env}{s:JV}{Q:Flow->JV->Prop}{y:Sem JU}
  (hh:A.handled=B0) (h:J4 M A y (λv s₁=>∃a C dd vs sl nm q N bs bm hdct sn sub ab col Au k0 k1 k2 k3 k5 newId,v=.ref a/\bm.contains (.type "BaseException")=B2/\s₁.heap.get? C=O (excClassObj nm q C N bs bm hdct sn sub ab col Au k0 k1 k2 k3 k5 newId) /\
   s₁.heap.get? a=O {cls:=.ref C,dict:=dd,data:=.fields vs,slots:=sl}/\vs[1]?=O .none/\E (.ref a) s₁) E s) :
  J4 M A (raiseStmt env (O y) B0) Q E s:=by
 unfold raiseStmt;refine Qb (QA h (λv s₁ h₁=>?_) λ_ _ x=>x);obtain⟨a,C,dd,vs,sl,nm,q,N,bs,bm,hdct,sn,sub,ab,col,Au,k0,k1,k2,k3,k5,newId,rfl,hbase,hC,he,h1,hE⟩:=h₁;have AB:(Value.ref C::bm).contains (.type "BaseException")=B2:=by rw[Q1,hbase,JP]
 obtain⟨hp,g,d,tk,os⟩:=s₁
 repeat (first|with_reducible refine Q4 he Z h1 ?_|with_reducible refine Qh he ?_|with_reducible refine Qh hC ?_|(with_reducible refine QC hC ?_;rw[AB])|wp_step)
 exact wpAny_raiseNew_none hh hE
theorem Inv.aged{pins:List (JX×Obj)}{σ:St}{H:Hp}{s:JV}{a C:JX}{dd:Ae}(I:Inv X pins σ H s)(hx:H a=O (.ext (XO B2 a C dd))):Inv X pins σ (upd H a (.ext (XO B3 a C dd))) s:=by obtain⟨x,_,_⟩:=I.hok a _ hx;have:=I.write (x:=a) (e:=a) (o:=.ext (XO B3 a C dd)) (t':=s.toks) (h':=s.heap) (by rw[hx];trivial) (.inl Z) (λ_ _ _ q=>q) (let ⟨_,_,q,_⟩:=x;⟨_,q⟩) (XO.ok x.old);exact this
theorem Dz{c:Bool}{KC:JX->Prop}{te:TE}{KX:V->St->Hp->Prop}{exc:JZ}(hc:X.calm=B2)(hcls:∀C,KC C->∃bm fI,XCls (model X.prog X.w) X.base C bm fI)(hw:ZB c X KX)(ht:PE X exc te):PS X (.Raise (O exc) B0 pos) (HL KC te KX):=by intro pins s σ H D I h;rw[arm_exec_Raise];refine Qb (Q6 ?_);show J4 _ _ (raiseStmt X.env (O (do let v ←eval exc X.env;standAt pos;pure v)) B0) _ _ _;refine CQ (I.ok.hd hc) (Qb (thn (ht pins s σ H _ I h) λu s1 ⟨v,H2,I2,rv,a,C,dd,ev,kc,hx,kx⟩=>Qb (Q6 (Qg ?_))));subst ev;obtain rfl:u=Value.ref a:=rv;obtain⟨bm,fI,M⟩:=hcls C kc;obtain⟨nm,q,N,bs,sn,sub,ab,col,Au,k0,k1,k2,k3,k5,hC⟩:=M.obj;obtain⟨⟨vs,sl,g,z⟩,_,_⟩:=I2.hok a _ hx;exact⟨a,C,dd,vs,sl,nm,q,N,bs,bm,B2,sn,sub,ab,col,Au,k0,k1,k2,k3,k5,_,rfl,M.tail _ _ Z,I2.bk _ _ hC,g,(z Z).1,hw pins σ _ s1 a C dd (I2.aged hx) UW (XO.fly ⟨vs,sl,g,z⟩) kx⟩
end
section
variable{M:Model}{A:Around}{E:JU->JV->Prop}{h:Heap}{g:Array GenState}{d:Drawn}{t:Nat}{os:OsState}
variable{nm q AM q':Str}{C N D N' a:JX}{bs bm bs' bm':B5}{hdct AQ:Bool}{sn sn':List Str}{sub sub':B5}{ab AV:Bool}{col col':Af}{dd Au:Ae}{k0 k1 k2 k3 k5 j0 j1 j2 j3 j5:B7}{newId newId':String}
theorem Rm{o:Obj}{b:Bool}{Q:Bool->JV->Prop}(hC:h.get? C=O (excClassObj nm q C N bs bm hdct sn sub ab col dd k0 k1 k2 k3 k5 newId))(hD:h.get? D=O (excClassObj AM q' D N' bs' bm' AQ sn' sub' AV col' Au j0 j1 j2 j3 j5 newId'))
  (hbase:bm'.contains (.type "BaseException")=B2) (ha:h.get? a=O o) (hc:o.cls=.ref C) (hb:(Value.ref C::bm).contains (.ref D)=b) (hq:Q b ⟨h,g,d,t,os⟩):J4 M A (excMatches (.ref a) (.ref D)) Q E ⟨h,g,d,t,os⟩:=by
 have AB:(Value.ref D::bm').contains (.type "BaseException")=B2:=by rw[Q1,hbase,JP]
 have f1:=tc_notTuple;have f2:=tc_sub;have hT:(⟨h,g,d,t,os⟩:JV).TypeIs (.ref D) "type" :=⟨_,hD,rfl⟩
 unfold excMatches
 repeat (any_goals (first|assumption|(with_reducible refine Qh ha ?_;rw[hc])|with_reducible refine Qh hD ?_|with_reducible refine Qh hC ?_|(with_reducible refine QC hD ?_;rw[AB])|(with_reducible refine QC hC ?_;rw[hb])|wp_step))
 cases b<;>(wp_walk;exact hq)
end
noncomputable def HK(sp:Sp)(KX:V->St->Hp->Prop)(t:TA):TE:=λσ H Q=>t σ H λvs H1=>sp vs H1 Q λv _ H'=>∀a,v=.ref a->KX (.ref a) σ H'
section
variable{X:Cx}{k:Nat}{f:JX}{fd:JY}{ps:List Str}{sp:Sp}{x n:Str}{p pos np hpos:Pos}{e:JZ}{es:B8}{t:TA}{KX:V->St->Hp->Prop}
theorem Dy{c c1:Bool}(F:FnOk X.prog X.w X.K X.mg X.base (Za c1 X.prog X.w) k f fd ps sp)(hr:Room k X.A)(hg:Gl X x)(hm:X.mg x=O (.ref f))(hk:PySem.W.keepIn X.K (.ref f)=B2)(hb:Ze X.K fd ps [])(hw:ZB c X KX)
  (ha:PA X (e::es) t) (hcc:c=B2->c1=B2:=by decide) (hdb:(x==("__debug__" : Str))=B3:=by decide) (he:J5 (e::es) X.env=(B3,eval e X.env)::J5 es X.env:=by rfl) (hpl:(backTo pos (J5 es X.env)).any (·.1)=B3:=by rfl) :
  PE X (.Call (.Name x p) (e::es) [] pos) (HK sp KX t):=by
 intro pins s σ H Q I h;refine Jk (Y3 I hg hm ?_ hdb);refine JK (h₀:=X.base) I.ok.mod.kin hk (thn (ha pos pins s σ H _ I h) λus s1 ⟨vs,H1,I1,r,q⟩=>⟨I1.kIn,?_⟩) he hpl;have hl:(us++[]).length=ps.length:=by rw[QT,←r.length];exact F.len _ _ _ _ q
 refine wpAny_call (Jt (F.run X.A X.stack s1 H1 ⟨us,[]⟩ us vs Q _ hr I1.env0 (by have:=hb s1 us I1.kIn hl;rwa[QT]at this) r q) λr s' hq=>?_);cases r with
 |error e=>exact hw.pass hcc (E:=λv _ H'=>∀a,v=.ref a->KX (.ref a) σ H') I1 hq λa H' z=>z a Z
 |ok fl=>
  cases fl with
  |ret u=>exact I1.after hq
  |next=>exact False.elim hq
  |brk=>exact False.elim hq
  |cont=>exact False.elim hq
noncomputable abbrev Cx.suite(X:Cx)(a:JX):Cx:={X with A:=X.A.mark (O (.ref a)),calm:=B3,xe:=λ_ _=>False}
theorem Cx.Ok.suite(ok:X.Ok)(a:JX):(X.suite a).Ok:=
 ⟨ok.mod,ok.kind,ok.glob,ok.blt,ok.above,ok.inj,ok.has,ok.cab,λz=>(nomatch z),ok.frames,ok.stk,ok.exf,ok.bs,ok.bsz,ok.noex,ok.exfs,ok.funs,ok.frf⟩
theorem Inv.suite{pins:List (JX×Obj)}{σ:St}{H:Hp}{s:JV}(I:Inv X pins σ H s)(a:JX):Inv (X.suite a) pins σ H s:=⟨I.ok.suite a,I.os,I.bare,I.base,I.loc,I.cell,I.free,I.freeC,I.pin,I.hok,I.len⟩
theorem Inv.unsuite{pins:List (JX×Obj)}{σ σ':St}{H H':Hp}{s s':JV}{a:JX}(I0:Inv X pins σ H s)(I:Inv (X.suite a) pins σ' H' s'):Inv X pins σ' H' s':=⟨I0.ok,I.os,I.bare,I.base,I.loc,I.cell,I.free,I.freeC,I.pin,I.hok,I.len⟩
theorem TN{pins:List (JX×Obj)}{σ:St}{H:Hp}{s:JV}{i:Nat}{Q:Unit->JV->Prop}{E:JU->JV->Prop}{A:Around}(I:Inv X pins σ H s)(hN:X.N.Nodup)(hi:X.N[i]?=O n)(hl:X.env.kindOf n=O .local)
  (h:∀s',Inv X pins (σ.set i B0) H s'->Q () s'):J4 (model X.prog X.w) A (do bindName X.env n .none;unbindBehindTheSuite X.env n pos) Q E s:=by
 have hcls:(X.env.scope.kind==.class || (X.env.scope.kind==.module&&X.env.locals != X.env.globals))=B3:=by rw[I.ok.kind];rfl
 refine Qb (wpAny_bindName (TY (v:=.non) (u:=.none) I hN hi (.inl hl) Z (λs1 I1=>?_) (.inr hl)));unfold unbindBehindTheSuite;refine wpAny_onRaise ?_;unfold unbindName;refine Qb (wpAny_point (Qb ?_));unfold deleteName;simp only[hl,hcls];rw[QD (by decide)];obtain⟨m,hn,hlk⟩:=id I1.loc;have hiσ:i<σ.length:=by rw[I.len];exact(Qy.mp hi).1
 refine Qb (wpAny_nsDel_keeps hn λh' v hn' hs=>?_)
 have hsome:(m n).isSome=B2:=by
  obtain⟨u,_,l⟩:=hlk i n .non hi (by rw[QL hiσ]) (.inl hl);rcases l with ⟨_,l⟩|⟨k,_⟩
  .rw[l];rfl
  .rcases k with k|k
   .rw[hl]at k;cases k
   .rw[hl]at k;cases k
 rw[hsome];simp only[if_true,Bool.not_true,Jy,JT];refine Qg (wpAny_point (h _ ?_));obtain⟨oL,_,_,hoL,_⟩:=id hn;have neL:∀b o,X.s₀.heap.get? b=O o->b≠X.env.locals:=λb o e=>QZ (Qx (Qf e) I.ok.above)
 refine⟨I1.ok,I1.os,I1.bare,⟨λb o e n hb hx=>(hs.2 b (neL b o e)).trans (I1.base.keep b o e n hb hx),λb o e n hb hx=>?_,I1.base.free,λb o e hx=>?_,I1.base.tups,I1.base.frzs,I1.base.tbls⟩,⟨_,hn',λj y v' e1 e2 e3=>?_⟩,λy c e=>?_,I1.free,I1.freeC,λp hp=>?_,λb ob e=>?_,?_⟩
 .obtain⟨sl,e1⟩:=I1.base.slot b o e n hb hx
  exact⟨sl,(hs.2 b (neL b o e)).trans e1⟩
 .obtain⟨o',e1⟩:=I1.base.there b o e hx
  exact⟨o',(hs.2 b (neL b o e)).trans e1⟩
 .have hj:j≠i:=by
   rintro rfl;rw[QL hiσ]at e2;cases e2
  rw[Qi (Ne.symm hj)]at e2;obtain⟨u',r',q⟩:=hlk j y v' e1 (by rw[Qi (Ne.symm hj)];exact e2) e3;have hy:y≠n:=by rintro rfl;obtain⟨h1,h2⟩:=Qy.mp e1;obtain⟨h3,h4⟩:=Qy.mp hi;exact hj ((List.getElem_inj hN).mp (h2.trans h4.symm))
  refine⟨u',r',?_⟩;rcases q with ⟨q1,q2⟩|⟨k,c,e,z⟩
  .exact .inl ⟨q1,(QD hy).trans q2⟩
  .obtain⟨o,ho,hd⟩:=z
   exact .inr ⟨k,c,e,o,(hs.2 c (I1.cne y c e)).trans ho,hd⟩
 .obtain⟨v',o,ho,hd⟩:=I1.cell y c e
  exact⟨v',o,(hs.2 c (I1.cne y c e)).trans ho,hd⟩
 .obtain⟨a,b,c,d⟩:=I1.pin p hp
  exact⟨(hs.2 _ c).trans a,b,c,d⟩
 .refine(I1.hok b ob e).stay (λc w' hc q=>(hs.2 c ?_).trans q) (λ_ q=>q) λ_ _ q=>q
  rintro rfl;rcases hc with rfl|hc
  .rw[I1.free]at e;cases e
  .rw[I1.free]at hc;cases hc
 .rw[QQ];exact I.len
theorem Rq{c:Bool}{M:Model}{A:Around}{E:JU->JV->Prop}{s:JV}{a:JX}{Q:Unit->JV->Prop}(fl:Fly c s.heap a)(h:∀h',(∀b o,s.heap.get? b=O o->h'.get? b=O o)->Q () {s with heap:=h'}):J4 M A (setFlight (.ref a) B0) Q E s:=by
 obtain⟨oe,vs,he,hd,h1,_⟩:=fl;unfold setFlight;rcases h1 with h1|⟨T,oT,ts,h1,AC,hT,AA,h3⟩
 .refine Qb (Q4 he hd h1 ?_)
  rw[QD (by decide)];exact Qg (h s.heap λ_ _ q=>q)
 .obtain⟨qa,hv3⟩:=Jb.mp h3
  refine Qb (Q4 he hd h1 ?_);rw[if_pos (show(Value.ref T != Value.none)=B2 from by simp)];refine Q8 hT AA qa (h _ λb o hb=>?_);by_cases AZ:b=T
  .subst AZ
   rw[hT]at hb;cases hb;rw[QR _ hT (Je (Jd AA _)),YF _ AA];have:ts.setIfInBounds 3 Value.none=ts:=Array.setIfInBounds_same _ _ _ h3;show O {oT with data:=.fields (ts.setIfInBounds 3 Value.none)}=_;rw[this,←AA]
  .rw[Ql _ _ (Ne.symm AZ)];exact hb
noncomputable def WB(KC:JX->B5->Prop)(D:JX)(i:Nat)(ts:TS)(Dn:Ends):V->St->Hp->Prop:=λv σ H=>∃a C dd bm,v=.ref a/\KC C bm/\H a=O (.ext (XO B3 a C dd))/\(Value.ref C::bm).contains (.ref D)=B2 /\
 ts {nx:=λσ' H'=>Dn.nx (σ'.set i B0) H',rt:=Dn.rt,bk:=λσ' H'=>Dn.bk (σ'.set i B0) H',ct:=λσ' H'=>Dn.ct (σ'.set i B0) H'} (σ.set i (O (.ref a))) H
noncomputable def tTry(KC:JX->B5->Prop)(D:JX)(i:Nat)(tb:(V->St->Hp->Prop)->TS)(ts:TS):TS:=λDn σ H=>tb (WB KC D i ts Dn) Dn σ H
noncomputable abbrev Cx.tried(X:Cx)(W:JU->JV->Prop)(pins:List (JX×Obj)):Cx:={X with xe:=W,pn:=X.pn++pins}
theorem Inv.tried{pins:List (JX×Obj)}{σ:St}{H:Hp}{s:JV}(I:Inv X pins σ H s)(W:JU->JV->Prop):Inv (X.tried W pins) [] σ H s:=
 ⟨⟨I.ok.mod,I.ok.kind,I.ok.glob,I.ok.blt,I.ok.above,I.ok.inj,I.ok.has,I.ok.cab,I.ok.hd,I.ok.frames,I.ok.stk,I.ok.exf,I.ok.bs,I.ok.bsz,I.ok.noex,I.ok.exfs,I.ok.funs,I.ok.frf⟩,I.os,I.bare,I.base,I.loc,I.cell,I.free,I.freeC,λp hp=>I.pin p (by simpa using hp),I.hok,I.len⟩
theorem Inv.untried{pins pins':List (JX×Obj)}{σ σ':St}{H H':Hp}{s s':JV}{W:JU->JV->Prop}(I0:Inv X pins σ H s)(I:Inv (X.tried W pins) pins' σ' H' s'):Inv X pins σ' H' s':=
 ⟨I0.ok,I.os,I.bare,I.base,I.loc,I.cell,I.free,I.freeC,λp hp=>I.pin p (Qs _ hp),I.hok,I.len⟩
theorem Gv{KC:JX->B5->Prop}{D fD:JX}{bmD:B5}{i:Nat}{tb:(V->St->Hp->Prop)->TS}{ts:TS}{body suite:List Stmt}{b₀:Stmt}{st:List Env}(Am:X.stack=X.env::st)(hfr:X.env.frame=O X.env.locals)
  (hcls:∀C bm,KC C bm->∃fI,XCls (model X.prog X.w) X.base C bm fI) (hD:XCls (model X.prog X.w) X.base D bmD fD) (hg:Gl X x) (hm:X.mg x=O (.ref D)) (hN:X.N.Nodup) (hi:X.N[i]?=O n) (hl:X.env.kindOf n=O .local)
  (hb:∀(KX:V->St->Hp->Prop)(W:JU->JV->Prop)(pn:List (JX×Obj)),ZB B3 (X.tried W pn) KX->PSs (X.tried W pn) body (tb KX)) (hs:∀a,PSs (X.suite a) (b₀::suite) ts) (hdb:(x==("__debug__" : Str))=B3:=by decide) :
  PS X (.Try body [.ExceptHandler (O (.Name x np)) (O n) (b₀::suite) hpos] [] [] pos) (tTry KC D i tb ts):=by
 intro pins s σ H Dn I h;refine wpAny_Try_except ?_
 let W:JU->JV->Prop:=λv s1=>∃a σ1 H1,v=.ref a/\Inv X pins σ1 H1 s1/\Fly B3 s1.heap a/\WB KC D i ts Dn (.ref a) σ1 H1
 have hw:ZB B3 (X.tried W pins) (WB KC D i ts Dn):=λpins' σ1 H1 s1 a C dd I1 hx fl hk=>⟨a,σ1,H1,rfl,I.untried I1,fl,hk⟩;refine QA (hb _ W pins hw [] s σ H Dn (I.tried W) h) (λf s1 h1=>?_) λv s1 h1=>?_
 .cases f with
  |next=>obtain⟨σ',H',I',q⟩:=h1;exact Js ⟨σ',H',I.untried I',q⟩
  |brk=>obtain⟨σ',H',I',q⟩:=h1;exact⟨σ',H',I.untried I',q⟩
  |cont=>obtain⟨σ',H',I',q⟩:=h1;exact⟨σ',H',I.untried I',q⟩
  |ret u=>obtain⟨v,σ',H',I',r,q⟩:=h1;exact⟨v,σ',H',I.untried I',r,q⟩
 .obtain⟨a,σ1,H1,rfl,I1,fl,a',C,dd,bm,ea,kc,hx,qD,q⟩:=h1
  cases ea;obtain⟨fI,XC⟩:=hcls C bm kc;have hk:=I1.ok.frames;rw[Am]at hk;have hS:=I1.stack;rw[Am]at hS;refine Xr hk hS hfr fl λh2 p2 qc=>?_;rw[←Am]at p2;have I2:=I1.passed hx p2;refine wpAny_handleBy_cons (codeAny_handlers_test ?_) (by intro q;cases q)
  refine Y3 (I2.suite a) hg hm ?_ hdb;obtain⟨nm,qn,N,bs,sn,sub,ab,col,AT,k0,k1,k2,k3,k5,hC⟩:=XC.obj;obtain⟨AM,qn',N',bs',sn',sub',AV,col',dd2,j0,j1,j2,j3,j5,Ap⟩:=hD.obj;obtain⟨⟨vs,sl,ga,_⟩,_,_⟩:=I2.hok a _ hx;refine Rm (I2.bk _ _ hC) (I2.bk _ _ Ap) (hD.tail _ _ Z) ga Z qD ?_;refine codeAny_handlers_suite_as (Rq qc λh3 k3=>?_);have I3:=I2.kept (t':=s1.toks) k3;refine TY (v:=.ref a) I3 hN hi (.inl hl) Z (λs4 I4=>?_) (.inr hl);refine QA (hs a pins s4 _ H1 _ (I4.suite a) q) (λf s5 h5=>?_) λ_ _ z=>z.elim
  cases f with
  |next=>obtain⟨σ',H',I',q'⟩:=h5;exact TN (I3.unsuite I') hN hi hl λs6 I6=>⟨_,H',I6,q'⟩
  |brk=>obtain⟨σ',H',I',q'⟩:=h5;exact TN (I3.unsuite I') hN hi hl λs6 I6=>⟨_,H',I6,q'⟩
  |cont=>obtain⟨σ',H',I',q'⟩:=h5;exact TN (I3.unsuite I') hN hi hl λs6 I6=>⟨_,H',I6,q'⟩
  |ret u=>obtain⟨v,σ',H',I',r,q'⟩:=h5;exact TN (I3.unsuite I') hN hi hl λs6 I6=>⟨v,_,H',I6,r,q'⟩
noncomputable def So(KC:JX->B5->Prop)(D:JX)(ts:TS)(Dn:Ends):V->St->Hp->Prop:=λv σ H=>∃a C dd bm,v=.ref a/\KC C bm/\H a=O (.ext (XO B3 a C dd))/\(Value.ref C::bm).contains (.ref D)=B2/\ts Dn σ H
noncomputable def Mq(KC:JX->B5->Prop)(D:JX)(tb:(V->St->Hp->Prop)->TS)(ts:TS):TS:=λDn σ H=>tb (So KC D ts Dn) Dn σ H
theorem F7{KC:JX->B5->Prop}{D fD:JX}{bmD:B5}{tb:(V->St->Hp->Prop)->TS}{ts:TS}{body suite:List Stmt}{b₀:Stmt}{st:List Env}(Am:X.stack=X.env::st)(hfr:X.env.frame=O X.env.locals)
  (hcls:∀C bm,KC C bm->∃fI,XCls (model X.prog X.w) X.base C bm fI) (hD:XCls (model X.prog X.w) X.base D bmD fD) (hg:Gl X x) (hm:X.mg x=O (.ref D))
  (hb:∀(KX:V->St->Hp->Prop)(W:JU->JV->Prop)(pn:List (JX×Obj)),ZB B3 (X.tried W pn) KX->PSs (X.tried W pn) body (tb KX)) (hs:∀a,PSs (X.suite a) (b₀::suite) ts) (hdb:(x==("__debug__" : Str))=B3:=by decide) :
  PS X (.Try body [.ExceptHandler (O (.Name x np)) B0 (b₀::suite) hpos] [] [] pos) (Mq KC D tb ts):=by
 intro pins s σ H Dn I h;refine wpAny_Try_except ?_
 let W:JU->JV->Prop:=λv s1=>∃a σ1 H1,v=.ref a/\Inv X pins σ1 H1 s1/\Fly B3 s1.heap a/\So KC D ts Dn (.ref a) σ1 H1
 have hw:ZB B3 (X.tried W pins) (So KC D ts Dn):=λpins' σ1 H1 s1 a C dd I1 hx fl hk=>⟨a,σ1,H1,rfl,I.untried I1,fl,hk⟩;refine QA (hb _ W pins hw [] s σ H Dn (I.tried W) h) (λf s1 h1=>?_) λv s1 h1=>?_
 .cases f with
  |next=>obtain⟨σ',H',I',q⟩:=h1;exact Js ⟨σ',H',I.untried I',q⟩
  |brk=>obtain⟨σ',H',I',q⟩:=h1;exact⟨σ',H',I.untried I',q⟩
  |cont=>obtain⟨σ',H',I',q⟩:=h1;exact⟨σ',H',I.untried I',q⟩
  |ret u=>obtain⟨v,σ',H',I',r,q⟩:=h1;exact⟨v,σ',H',I.untried I',r,q⟩
 .obtain⟨a,σ1,H1,rfl,I1,fl,a',C,dd,bm,ea,kc,hx,qD,q⟩:=h1
  cases ea;obtain⟨fI,XC⟩:=hcls C bm kc;have hk:=I1.ok.frames;rw[Am]at hk;have hS:=I1.stack;rw[Am]at hS;refine Xr hk hS hfr fl λh2 p2 qc=>?_;rw[←Am]at p2;have I2:=I1.passed hx p2;refine wpAny_handleBy_cons (codeAny_handlers_test ?_) (by intro q;cases q)
  refine Y3 (I2.suite a) hg hm ?_ hdb;obtain⟨nm,qn,N,bs,sn,sub,ab,col,AT,k0,k1,k2,k3,k5,hC⟩:=XC.obj;obtain⟨AM,qn',N',bs',sn',sub',AV,col',dd2,j0,j1,j2,j3,j5,Ap⟩:=hD.obj;obtain⟨⟨vs,sl,ga,_⟩,_,_⟩:=I2.hok a _ hx;refine Rm (I2.bk _ _ hC) (I2.bk _ _ Ap) (hD.tail _ _ Z) ga Z qD ?_;refine codeAny_handlers_suite (Rq qc λh3 k3=>?_);have I3:=I2.kept (t':=s1.toks) k3;refine QA (hs a pins _ _ H1 _ (I3.suite a) q) (λf s5 h5=>?_) λ_ _ z=>z.elim
  cases f with
  |next=>obtain⟨σ',H',I',q'⟩:=h5;exact⟨σ',H',I3.unsuite I',q'⟩
  |brk=>obtain⟨σ',H',I',q'⟩:=h5;exact⟨σ',H',I3.unsuite I',q'⟩
  |cont=>obtain⟨σ',H',I',q'⟩:=h5;exact⟨σ',H',I3.unsuite I',q'⟩
  |ret u=>obtain⟨v,σ',H',I',r,q'⟩:=h5;exact⟨v,σ',H',I3.unsuite I',r,q'⟩
end
section
variable{prog:JW}{w:World}{A:Around}{E:JU->JV->Prop}{h:Heap}{g:Array GenState}{d:Drawn}{t:Nat}{os:OsState}
variable{nm q:Str}{C N a:JX}{bs bm bmB:B5}{hdct:Bool}{sn:List Str}{sub:B5}{ab:Bool}{col:Af}{dd:Ae}{k0 k1 k2 k3 k5:B7}{B newId initId nid:String}
theorem Bn(F:ExcBaseFacts B nid initId bmB)(T:Tail bmB bm){M:Model}{oe:Obj}{rest:B5}{Q:Unit->JV->Prop}
  (hC:h.get? C=O (excClassObj nm q C N bs bm hdct sn sub ab col dd k0 k1 k2 k3 k5 newId)) (he:h.get? a=O oe) (hcls:oe.cls=.ref C) (hq:Q () ⟨h,g,d,t,os⟩) :
  J4 M A (checkBuiltinCall initId ⟨.ref a::rest,[]⟩) Q E ⟨h,g,d,t,os⟩:=by
 have AB:(Value.ref C::bm).contains (.type B)=B2:=by rw[Q1,T _ _ F.hasB,JP]
 have hshort:=F.noStar;simp only[checkBuiltinCall,F.initKind,F.initSplit,F.initRow]
 repeat (first|(with_reducible refine Qh he ?_;rw[hcls])|with_reducible refine Qh hC ?_|(with_reducible refine QC hC ?_;rw[AB])|wp_step)
 refine wpAny_onRaise ?_
 rw[show ∀(x1 x2:String)(n:Nat),Bind.check ⟨.positional, "*", B,.self,[⟨"args", .varPos,B3⟩]⟩ x1 x2 n (List.map (λx=>x.fst) ({pos:=Value.ref a::rest}:Args).kw)=pure ()from
  λ_ _ n=>check_star_args _ _ _ _ _ _]
 exact Qg hq
theorem Ba(F:ExcBaseFacts B nid initId bmB)(T:Tail bmB bm){oe:Obj}{vs:Array JU}{u:JU}{Q:JU->JV->Prop}
  (hC:h.get? C=O (excClassObj nm q C N bs bm hdct sn sub ab col dd k0 k1 k2 k3 k5 newId)) (he:h.get? a=O oe) (hcls:oe.cls=.ref C) (hd:oe.data=.fields vs) {t0:JX} (h0:vs[0]?=O (.ref t0))
  (hq:∀h',(∀b o,b≠a->h.get? b=O o->h'.get? b=O o)->(∃y,h'.get? a=O {oe with data:=.fields (vs.setIfInBounds 0 (.ref y))})->Q .none ⟨h',g,d,t,os⟩) :
  J4 (model prog w) A (call (.builtin initId) [.ref a,u]) Q E ⟨h,g,d,t,os⟩:=by
 refine wpAny_call (codeAny_call_builtin F.init.plain F.initEntry (Bn F T hC he hcls ?_));have he₂:(h.push {cls:=.type "tuple", data:=.seq #[u]}).get? a=O oe:=Qe _ he;have hz:0<vs.size:=(Jb.mp h0).1
 repeat (first|with_reducible refine Q4 he₂ hd h0 ?_|with_reducible refine Q8 he₂ hd hz ?_|wp_step)
 have he₃:=QR (Obj.mapFields (·.setIfInBounds 0 (Value.ref h.objs.size))) he₂ (Je (Jd hd _));refine hq _ (λb o hb g=>?_) ⟨_,by rw[he₃,YF _ hd]⟩;rw[Ql _ _ (Ne.symm hb)];exact Qe _ g
end
theorem F6:PySem.W.handedIn (.builtin "ValueError.__init__")=B2:=by decide +kernel
theorem Gu{h:Heap}:PySem.W.Frag.In [] h:=λa o z=>by cases z
theorem F5:typeOf (.type "ValueError")=pure (.type "type"):=by kernel_rfl
theorem F4:Manifest.isStub "ValueError" = B3:=by decide +kernel
theorem F3:PySem.W.findCls [] (.type "ValueError") (.type "type") "__init__" = O (.val (.builtin "ValueError.__init__")):=by kernel_rfl
section
variable{X:Cx}{k:Nat}{f D:JX}{fd:JY}{ps:List Str}{sp:Sp}{x:Str}{p pos apos:Pos}{e:JZ}{es:B8}{t:TA}
noncomputable def Sz(KC:JX->B5->Prop)(t:TA):TE:=λσ H Q=>t σ H λvs H1=>∃a C dd bm u,vs=[.ref a,u]/\KC C bm/\H1 a=O (.ext (XO B2 a C dd))/\Q .non H1
theorem OC{KC:JX->B5->Prop}{pl:Sem Bool}(hcls:∀C bm,KC C bm->∃fI,XCls (model X.prog X.w) X.base C bm fI)(hg:Gl X "ValueError")(hm:X.mg "ValueError" = B0)(ha:PA X (e::es) t)
  (hst:J5 (e::es) X.env=(B3,eval e X.env)::J5 es X.env:=by rfl) (hpl:(backTo pos (J5 es X.env)).any (·.1)=B3:=by rfl)
  (ht:eval (.Call (.Attribute (.Name "ValueError" p) "__init__" apos) (e::es) [] pos) X.env=(do
   let ov ←eval (.Name "ValueError" p) X.env
   standAt apos.atName
   let (f,first) ←holding [ov] (getMethod ov "__init__" pl)
   callWith pos f first (backTo pos (J5 (e::es) X.env)) (backToKw pos (keywordEach [] X.env))):=by rfl) :
  PE X (.Call (.Attribute (.Name "ValueError" p) "__init__" apos) (e::es) [] pos) (Sz KC t):=by
 intro pins s σ H Q I h;have hB:bootBuiltins "ValueError" = O (.type "ValueError"):=by decide +kernel
 refine PySem.W.methodCall_KW (pl:=pl) (Wv I hg hm hB ?_) ht;obtain⟨m,Fm⟩:=I.fr;refine PySem.W.method_type (K:=[]) (v:=.builtin "ValueError.__init__") Fm Gu F5 F4 F3 F6 ?_;refine PyProof.Rows.callWith_builtin1 (thn (ha pos pins _ σ H _ (I.tok _) h) λus s1 ⟨vs,H1,I1,r1,a,C,dd,bm,u,ev,kc,hx,q⟩=>?_) hst hpl;subst ev;cases r1 with
 |cons ra r1=>
 cases r1 with
 |cons ru r1=>
 cases r1;have ra':_=Value.ref a:=ra;subst ra';obtain⟨fI,XC⟩:=hcls C bm kc;obtain⟨nm,qn,N,bs,sn,sub,ab,col,AT,k0,k1,k2,k3,k5,hC⟩:=XC.obj;obtain⟨⟨vs,sl,ga,z⟩,_,_⟩:=I1.hok a _ hx;obtain⟨z1,⟨t0,z0⟩,z2⟩:=z Z;obtain⟨hp,g,d,tk,os⟩:=s1;refine Ba PySem.F.excBase_ValueError XC.tail (I1.bk _ _ hC) ga Z Z z0 λh' k ⟨y,hy⟩=>?_;have hw:=I1.write (x:=a) (e:=a) (o:=.ext (XO B2 a C dd)) (t':=tk) (h':=h') (by rw[hx];trivial) (.inl Z) k ⟨_,hy⟩ (XO.ok ⟨_,sl,hy,λ_=>⟨by rw[Array.getElem?_setIfInBounds_ne (by decide)];exact z1,⟨y,by simp[(Array.getElem?_eq_some_iff.mp z0).1]⟩,by rw[Array.getElem?_setIfInBounds_ne (by decide)];exact z2.1,by rw[Array.size_setIfInBounds];exact z2.2⟩⟩)
 have e:upd H1 a (.ext (XO B2 a C dd))=H1:=by
  funext b;by_cases hb:b=a
  .subst hb;rw[UW,hx]
  .rw[UI hb]
 rw[e]at hw;exact⟨.non,H1,hw,rfl,q⟩
end
structure Ti(K:Frag)(D:JX)(m:Str)(f:JX):Prop where
 ga:PySem.W.specialIn K (.ref D) "__getattribute__" = O (O (.builtin "type.__getattribute__"))
 rd:PySem.W.readsIn K D (.type "type")=B2
 fd:PySem.W.findCls K (.ref D) (.type "type") m=O (.val (.ref f))
 kp:PySem.W.keepIn K (.ref f)=B2
section
variable{X:Cx}{k:Nat}{f D:JX}{fd:JY}{ps:List Str}{sp:Sp}{x m:Str}{p pos apos:Pos}{e:JZ}{es:B8}{t:TA}
theorem Dx{pl:Sem Bool}(M:Ti X.K D m f)(F:FnOk X.prog X.w X.K X.mg X.base CX0 k f fd ps sp)(hr:Room k X.A)(hb:Ze X.K fd ps [])(hg:Gl X x)(hm:X.mg x=O (.ref D))(ha:PA X (e::es) t)
  (hdb:(x==("__debug__" : Str))=B3:=by decide) (hst:J5 (e::es) X.env=(B3,eval e X.env)::J5 es X.env:=by rfl) (hpl:(backTo pos (J5 es X.env)).any (·.1)=B3:=by rfl)
  (ht:eval (.Call (.Attribute (.Name x p) m apos) (e::es) [] pos) X.env=(do
   let ov ←eval (.Name x p) X.env
   standAt apos.atName
   let (f,first) ←holding [ov] (getMethod ov m pl)
   callWith pos f first (backTo pos (J5 (e::es) X.env)) (backToKw pos (keywordEach [] X.env))):=by rfl) :
  PE X (.Call (.Attribute (.Name x p) m apos) (e::es) [] pos) (Sk sp [] E0 t):=by
 intro pins s σ H Q I h;refine PySem.W.methodCall_KW (pl:=pl) (Y3 I hg hm ?_ hdb) ht;refine PySem.W.method_cls I.kIn M.ga (PySem.W.cls_value I.kIn M.rd M.fd Z ?_);refine JK (h₀:=X.base) I.ok.mod.kin M.kp (thn (ha pos pins _ σ H _ (I.tok _) h) λus s1 ⟨vs,H1,I1,r,q⟩=>⟨I1.kIn,?_⟩) hst hpl;exact Pq F hr hb .nil Sq I1 r q
end
noncomputable def XD(dx:JX)(fs:List (Str×V)):Heap->Prop:=λh=>∃mA,h.Ns1 dx mA/\h.ExactDictFk dx/\(∀f,RelO (fs.lookup f) (mA f))/\PySem.Within mA (fs.map (·.1))
theorem XD.ok{P:JW}{w:World}{H:Hp}{h:Heap}{dx:JX}{fs:List (Str×V)}(x:XD dx fs h):K2 P w H h dx (.ext (XD dx fs)):=
 ⟨x,let ⟨_,⟨o,_,_,q,_⟩,_⟩:=x;⟨o,q⟩,λh1 h2 ⟨mA,⟨o,es,ep,q,c⟩,⟨od,q2,c2⟩,r⟩ k=>⟨mA,⟨o,es,ep,k _ q,c⟩,⟨od,k _ q2,c2⟩,r⟩⟩
theorem XO.inst{h:Heap}{a C:JX}{vs:Array JU}{sl:Array B7}(g:h.get? a=O {cls:=.ref C,dict:=B0,data:=.fields vs,slots:=sl}):h.InstFk a C λ_=>B0:=
 ⟨_,g,rfl,λ_ z=>(by cases z),.inl ⟨rfl,λ_=>rfl⟩⟩
section
variable{X:Cx}{pins:List (JX×Obj)}{σ:St}{H:Hp}{s:JV}{a C dx:JX}{h':Heap}{t':Nat}
theorem Inv.xdict{fs:List (Str×V)}(I:Inv X pins σ H s)(hx:H a=O (.ext (XO B2 a C B0)))(k:∀b o,b≠a->s.heap.get? b=O o->h'.get? b=O o)(hz:s.heap.objs.size<=dx)(h1:XO B2 a C (O dx) h')(h2:XD dx fs h') :
  Inv X pins σ (upd (upd H a (.ext (XO B2 a C (O dx)))) dx (.ext (XD dx fs))) {s with heap:=h',toks:=t'}:=by
 have hn:H dx=B0:=I.hok.fresh hz;have hne:dx≠a:=λz=>by rw[z,hx]at hn;cases hn
 have ne:∀b,H b=B0->b≠a:=λb n z=>by rw[z,hx]at n;cases n
 have nd:∀b o,s.heap.get? b=O o->b≠dx:=λb o g z=>by subst z;exact absurd (Qf g) (Nat.not_lt.mpr hz)
 have oth:∀b,b≠a->b≠dx->upd (upd H a (.ext (XO B2 a C (O dx)))) dx (.ext (XD dx fs)) b=H b:=λb h1 h2=>by rw[UI h2,UI h1]
 have trk:∀b u,H b=O u->b≠dx:=λb u q z=>by rw[z,hn]at q;cases q
 have nota:∀b(u:HO),H b=O u->(∀φ,u≠.ext φ)->b≠a:=λb u q n z=>by rw[z,hx]at q;cases q;exact n _ Z
 refine I.un (t':=t') ⟨λb o g n _ _=>k b o (ne b n) g,λb o g n _ _=>⟨o.slots,k b o (ne b n) g⟩,λb o g n _=>(oth b (ne b n) (nd b o g)).trans n,λb o g _=>?_,λb xs q=>?_,λb o u q=>?_,λb ps q=>⟨#[],?_⟩⟩ λb u q=>?_
 .by_cases hb:b=a
  .subst hb;obtain⟨_,_,z,_⟩:=h1;exact⟨_,z⟩
  .exact⟨o,k b o hb g⟩
 .exact(oth b (nota b _ q λ_ z=>by cases z) (trk b _ q)).trans q
 .exact(oth b (nota b _ q λ_ z=>by cases z) (trk b _ q)).trans q
 .rw[oth b (nota b _ q λ_ z=>by cases z) (trk b _ q),q];simp
 .by_cases hb:b=dx
  .subst hb;rw[UW]at q;cases q;exact XD.ok h2
  .rw[UI hb]at q
   by_cases ql:b=a
   .subst ql;rw[UW]at q;cases q;exact XO.ok h1
   .rw[UI ql]at q
    refine(I.hok b u q).stay (λc v hc g=>k c v ?_ g) (λc r=>(oth c (nota c _ r λ_ z=>by cases z) (trk c _ r)).trans r) λc xs r=>(oth c (nota c _ r λ_ z=>by cases z) (trk c _ r)).trans r
    rcases hc with rfl|hc
    .exact ql
    .exact nota c _ hc λ_ z=>by cases z
end
noncomputable def Sn(KC:JX->B5->Prop)(ta tv:TE)(f:Str):TS:=λD σ H=>tv σ H λy H1=>ta σ H1 λx H2=>∃a C bm,x=.ref a/\KC C bm /\
 ((H2 a=O (.ext (XO B2 a C B0))/\∀dx,H2 dx=B0->dx≠a->D.nx σ (upd (upd H2 a (.ext (XO B2 a C (O dx)))) dx (.ext (XD dx [(f,y)])))) ∨
  ∃dx fs,dx≠a/\H2 a=O (.ext (XO B2 a C (O dx)))/\H2 dx=O (.ext (XD dx fs))/\fs.length<900/\D.nx σ (upd H2 dx (.ext (XD dx (KD f y fs)))))
section
variable{X:Cx}{o value:JZ}{f:Str}{pos pos':Pos}{ta tv:TE}{KC:JX->B5->Prop}
theorem Of(hcls:∀C bm,KC C bm->∃fI,XCls (model X.prog X.w) X.base C bm fI)(hf:∀C bm,KC C bm->Kj (model X.prog X.w) C f B0 X.base)(ha:PE X o ta)(hv:PE X value tv)
  (hs:swapsWith value (O (.Attribute o f pos')) pos.line X.env=pure B3):PS X (.Assign [.Attribute o f pos'] value pos) (Sn KC ta tv f):=by
 intro pins s σ H D I h;refine plainObj_wpAny_Assign_Attribute (thn (hv pins s σ H _ I h) λu s1 ⟨y,H1,I1,ry,q⟩=>thn (ha pins s1 σ H1 _ I1 q) λov s2 ⟨x,H2,I2,rx,a,C,bm,ex,kc,q2⟩=>?_) hs;subst ex;obtain rfl:ov=Value.ref a:=rx;obtain⟨fI,XC⟩:=hcls C bm kc;obtain⟨nm,qn,N,bs,sn,sub,ab,col,AT,k0,k1,k2,k3,k5,hC⟩:=XC.obj;obtain⟨hp,g,d,tk,os⟩:=s2;rcases q2 with ⟨hx,q2⟩|⟨dx,fs,hne,hx,AU,hl,q2⟩
 .obtain⟨⟨vs,sl,ga,z⟩,_,_⟩:=I2.hok a _ hx
  refine N5 (ns:=[]) PySem.F.store_ValueError XC.tail (XC.pass _) (I2.bk _ _ hC) (XC.sa.keeps I2.bk) ((hf C bm kc).keeps I2.bk) (XO.inst ga) (λh' tk' i' hk hsame hnew=>?_) PySem.Within.nil (by decide);obtain⟨o1,g1,c1,d1,qB,_⟩:=hsame _ ga;obtain⟨o2,g2,_,_,dd⟩:=i';rw[g1]at g2;cases g2;rcases dd with ⟨_,dn⟩|⟨dx,AU,hne,hns,hex⟩
  .have:=dn f;simp at this
  .have hz:=hnew _ _ dx ga Z g1 AU
   have o1e:o1 = {cls:=.ref C,dict:=O dx,data:=.fields vs,slots:=sl}:=by obtain⟨oc,od,odt,osl⟩:=o1;cases c1;cases d1;cases qB;cases AU;rfl
   have I3:=I2.xdict (t':=tk') (dx:=dx) (fs:=[(f,y)]) hx (λb ob hb gb=>hk b ob hb (λo₀ dx' e1 e2=>by rw[ga]at e1;cases e1;cases e2) gb) hz ⟨vs,sl,by rw[g1,o1e],z⟩
    ⟨_,hns,hex,λg=>?_,λg hg=>?_⟩
   .exact⟨σ,_,I3,q2 dx (I2.hok.fresh hz) hne⟩
   .show RelO ((KD f y []).lookup g) (if g=f then O u else B0)
    rw[RI];by_cases e:g=f
    .rw[Qr e,Qr e];exact ry
    .rw[QD e,QD e];trivial
   .show g∈[f]
    by_cases e:g=f
    .rw[e];simp
    .exact absurd (QD e) hg
 .obtain⟨⟨vs,sl,ga,z⟩,_,_⟩:=I2.hok a _ hx
  obtain⟨⟨mA,hns,hex,hr,hwi⟩,_,_⟩:=I2.hok dx _ AU;refine N5 (ns:=fs.map (·.1)) PySem.F.store_ValueError XC.tail (XC.pass _) (I2.bk _ _ hC) (XC.sa.keeps I2.bk) ((hf C bm kc).keeps I2.bk) ⟨_,ga,rfl,λ_ z=>(by cases z),.inr ⟨dx,rfl,hne,hns,hex⟩⟩ (λh' tk' i' hk hsame hnew=>?_) hwi (by rw[Qd];omega);obtain⟨o1,g1,c1,d1,qB,dk⟩:=hsame _ ga;have hd1:=dk dx Z;obtain⟨o2,g2,_,_,dd⟩:=i';rw[g1]at g2;cases g2;rcases dd with ⟨dn,_⟩|⟨dx2,qJ,hne2,qC,hex2⟩
  .rw[hd1]at dn;cases dn
  .rw[hd1]at qJ
   cases qJ;have o1e:o1 = {cls:=.ref C,dict:=O dx,data:=.fields vs,slots:=sl}:=by obtain⟨oc,od,odt,osl⟩:=o1;cases c1;cases d1;cases qB;cases hd1;rfl
   have I3:=I2.write (x:=dx) (e:=dx) (o:=.ext (XD dx (KD f y fs))) (t':=tk') (h':=h') (by rw[AU];trivial) (.inl Z) (λb ob hb gb=>by
    by_cases hba:b=a
    .subst hba;rw[ga]at gb;cases gb;rw[g1,o1e]
    .exact hk b ob hba (λo₀ dx' e1 e2=>by rw[ga]at e1;cases e1;cases e2;exact hb) gb) (let ⟨o,_,_,q,_⟩:=qC;⟨o,q⟩) (XD.ok ⟨_,qC,hex2,λg=>?_,λg hg=>?_⟩)
   .exact⟨σ,_,I3,q2⟩
   .show RelO ((KD f y fs).lookup g) (if g=f then O u else mA g)
    rw[RI];by_cases e:g=f
    .rw[Qr e,Qr e];exact ry
    .rw[QD e,QD e];exact hr g
   .by_cases e:g=f
    .rw[e];exact(Rv f y fs).1
    .refine(Rv f y fs).2 g (hwi g λz=>hg ?_)
     show(if g=f then O u else mA g)=B0
     rw[QD e];exact z
end
inductive FmtV:V->Str->Prop
 |str (x:Str) (h:x.length<=J0):FmtV (.str x) x
 |int (i:Int) (h:i.natAbs.log2<1920):FmtV (.int i) (toString i:String)
 |non:FmtV .non "None"
noncomputable def WA(te:TE):TE:=λσ H Q=>te σ H λv H1=>∃y,FmtV v y/\Q (.str y) H1
noncomputable def Th:List TE->Str->TE
 |[],acc=>λ_ H Q=>acc.length<=J0/\Q (.str acc) H
 |te::r,acc=>λσ H Q=>te σ H λv H1=>∃y,v=.str y/\(acc++y).length<=J0/\Th r (acc++y) σ H1 Q
inductive PEs(X:Cx):B8->List TE->Prop
 |nil:PEs X [] []
 |cons {e:JZ} {es:B8} {t:TE} {ts:List TE}:PE X e t->PEs X es ts->PEs X (e::es) (t::ts)
section
variable{X:Cx}{value:JZ}{te:TE}{pos:Pos}
theorem Po(h:PE X value te):PE X (.FormattedValue value (-1) B0 pos) (WA te):=by
 intro pins s σ H Q I hq;refine wpAny_FormattedValue_plain (thn (h pins s σ H _ I hq) λu s1 ⟨v,H1,I1,rv,y,hy,q⟩=>?_);cases hy with
 |str x hx=>
  obtain⟨t,rfl⟩:=(show ∃t,u=Value.str y t from rv)
  exact wpAny_formatField_str ⟨.str y,H1,I1,⟨_,rfl⟩,q⟩ ⟨.str y,H1,I1.tok _,⟨_,rfl⟩,q⟩ hx
 |int i hi=>
  obtain⟨t,rfl⟩:=(show ∃t,u=Value.int i t from rv)
  exact wpAny_formatField_int hi ⟨.str _,H1,I1.tok _,⟨_,rfl⟩,q⟩
 |non=>obtain rfl:u=Value.none:=rv;exact wpAny_formatField_none ⟨.str _,H1,I1.tok _,⟨_,rfl⟩,q⟩
theorem OB{E:JU->JV->Prop}:∀{es:B8}{ts:List TE}{acc:Str}{pins:List (JX×Obj)}{s:JV}{σ:St}{H:Hp}{Q:VK},PEs X es ts->Inv X pins σ H s->Th ts acc σ H Q ->
  Joins (model X.prog X.w) X.A X.xe (evalEach es X.env) acc (λout s1=>out.length<=J0/\EP X pins σ Q (.str out s1.toks) {s1 with toks:=s1.toks+1}) s
 |_,_,acc,pins,s,σ,H,Q,.nil,I,⟨hl,q⟩=>⟨hl,.str acc,H,I.tok _,⟨_,rfl⟩,q⟩
 |_,_,acc,pins,s,σ,H,Q,.cons h r,I,hq=>thn (h pins s σ H _ I hq) λu s1 ⟨v,H1,I1,rv,y,ev,hl,q⟩=>by
  subst ev;obtain⟨t,rfl⟩:=(show ∃t,u=Value.str y t from rv)
  exact⟨y,t,rfl,hl,OB (E:=E) r I1 q⟩
theorem CP{v1 v2:JZ}{rest:B8}{ts:List TE}(h:PEs X (v1::v2::rest) ts):PE X (.JoinedStr (v1::v2::rest) pos) (Th ts Str.empty):=by intro pins s σ H Q I hq;exact wpAny_JoinedStr (OB (E:=X.xe) h I hq)
end
end L2
namespace L2
open PySem PySem.Spec
section
variable{prog:JW}{w:World}{A:Around}{E:JU->JV->Prop}{h:Heap}{g:Array GenState}{d:Drawn}{t:Nat}{os:OsState}{R:Result->JV->Prop}
variable{nm q:Str}{C N a:JX}{bs bm bmB:B5}{hdct:Bool}{sn:List Str}{sub:B5}{ab:Bool}{col:Af}{dd:Ae}{k0 k1 k2 k3 k5:B7}{newId:String}{o:Obj}
theorem C9(T:Tail bmB bm)(ho:bmB.contains (.type "object")=B2)(hC:h.get? C=O (excClassObj nm q C N bs bm hdct sn sub ab col dd k0 k1 k2 k3 k5 newId))(hx:h.get? a=O o)(hc:o.cls=.ref C)(hq:R (.ok (.ret (.ref C))) ⟨h,g,d,t,os⟩) :
  codeAny (model prog w) A (.call (.builtin "getset_descriptor.__get__") ⟨[.builtin "object.__class__", .ref a,.ref C],[]⟩) R ⟨h,g,d,t,os⟩:=by
 have hT5:(⟨h,g,d,t,os⟩:JV).TypeIs (.builtin "object.__class__") "getset_descriptor" :=PySem.F.typeOf_object_class;have AB:(Value.ref C::bm).contains (.type (".".intercalate ("object.__class__".cutAt '.').dropLast))=B2:=by rw[PySem.F.owner_object_class,Q1,T _ _ ho];rfl
 refine codeAny_call_builtin PySem.F.slot_gs_get.plain PySem.F.entry_gs_get (PySem.F.slot_gs_get.check _ _ _ _ _ _ _ _ hT5 (PySem.F.args_gs_get _ _ _) ?_)
 repeat (any_goals (first|assumption|(with_reducible refine Qh hx ?_;rw[hc])|(with_reducible refine QC hC ?_;rw[AB])|wp_step))
 refine⟨Code.quiet_builtin _ (by decide +kernel),codeAny_builtin PySem.F.entry_object_class ?_⟩;unfold Builtin.«object.__class__»
 repeat (any_goals (first|assumption|(with_reducible refine Qh hx ?_;rw[hc])|wp_step))
theorem BJ{tk:Tok}{Q:PySem.Fin->JV->Prop}(T:Tail bmB bm)(ho:bmB.contains (.type "object")=B2)(hC:h.get? C=O (excClassObj nm q C N bs bm hdct sn sub ab col dd k0 k1 k2 k3 k5 newId))(fc:Kj (model prog w) C "__class__" (O (.builtin "object.__class__")) h)(hx:h.get? a=O o)(hc:o.cls=.ref C)(hq:Q (.done (.ret (.ref C))) ⟨h,g,d,t,os⟩) :
  J4 (model prog w) A (Builtin.«object.__getattribute__» ⟨[.ref a,.str "__class__" tk],[]⟩) Q E ⟨h,g,d,t,os⟩:=by
 have hT5:(⟨h,g,d,t,os⟩:JV).TypeIs (.builtin "object.__class__") "getset_descriptor" :=PySem.F.typeOf_object_class;have f5:=PySem.F.typeOf_object_class;have f6:=PySem.F.slot_gs_get.lookup;have f7:=PySem.F.slot_gs_set.lookup
 repeat (any_goals (first|assumption|(with_reducible refine Qh hx ?_;rw[hc])|with_reducible refine fc.at ?_|wp_step))
 refine C9 T ho hC hx hc ?_
 repeat (any_goals (first|assumption|wp_step))
theorem RG{Q:B7->JV->Prop}(FB:ExcAttrFacts "ValueError")(T:Tail VB bm)(hC:h.get? C=O (excClassObj nm q C N bs bm hdct sn sub ab col dd k0 k1 k2 k3 k5 newId))(fc:Kj (model prog w) C "__class__" (O (.builtin "object.__class__")) h)
  (fg:Kj (model prog w) C "__getattribute__" (O (.builtin "BaseException.__getattribute__")) h) (fa:Kj (model prog w) C "__getattr__" none h) (hx:h.get? a=O o) (hc:o.cls=.ref C) (hq:Q (O (.ref C)) ⟨h,g,d,t+1,os⟩) :
  J4 (model prog w) A (getAttr? (.ref a) "__class__") Q E ⟨h,g,d,t,os⟩:=by
 have f3:=FB.ga.bind (.ref a);have hx0:(B3&&onTheHeap (Value.builtin "BaseException.__getattribute__"))=B3:=rfl;have hx2:(Value.builtin "BaseException.__getattribute__" == Value.builtin "object.__getattribute__")=B3:=by decide +kernel
 have hx1:(onTheHeap (Value.ref C)&&Value.builtin "BaseException.__getattribute__" == Value.builtin "object.__getattribute__")=B3:=by rw[hx2];rfl
 unfold getAttr? getAttrBy?;refine Qb (wpAny_mkText (Qb (wpAny_attempt ?_)))
 repeat (any_goals (first|assumption|(with_reducible refine Qh hx ?_;rw[hc])|with_reducible refine fg.at ?_|with_reducible refine fa.at ?_|wp_step))
 refine codeAny_call_builtin FB.ga.plain PySem.F.entry_bexc_ga (CT T Z hC hx hc (BJ T Z hC fc hx hc ?_))
 repeat (any_goals (first|assumption|wp_step))
end
end L2
namespace L2
open PySem PySem.Spec PyProof.Rows
section
variable{prog:JW}{w:World}{A:Around}{E:JU->JV->Prop}{h:Heap}{g:Array GenState}{d:Drawn}{t:Nat}{os:OsState}
variable{nm q AM q':Str}{C N D N' a:JX}{bs bm bs' bm':B5}{hdct AQ:Bool}{sn sn':List Str}{sub sub':B5}{ab AV:Bool}{col col':Af}{dd Au:Ae}{k0 k1 k2 k3 k5 j0 j1 j2 j3 j5:B7}{newId newId':String}{o:Obj}{b:Bool}
theorem F2{Q:JU->JV->Prop}(T:Tail VB bm)(hC:h.get? C=O (excClassObj nm q C N bs bm hdct sn sub ab col dd k0 k1 k2 k3 k5 newId))(hD:h.get? D=O (excClassObj AM q' D N' bs' bm' AQ sn' sub' AV col' Au j0 j1 j2 j3 j5 newId'))
  (fc:Kj (model prog w) C "__class__" (O (.builtin "object.__class__")) h) (fg:Kj (model prog w) C "__getattribute__" (O (.builtin "BaseException.__getattribute__")) h) (fa:Kj (model prog w) C "__getattr__" none h)
  (hx:h.get? a=O o) (hc:o.cls=.ref C) (hb:(Value.ref C::bm).contains (.ref D)=b) (hq:∀tk,Q (.bool b) ⟨h,g,d,tk,os⟩):J4 (model prog w) A (call (.builtin "isinstance") [.ref a,.ref D]) Q E ⟨h,g,d,t,os⟩:=by
 have hT:(⟨h,g,d,t,os⟩:JV).TypeIs (.ref D) "type" :=⟨_,hD,rfl⟩
 have f2:=tc_sub;refine call_isinstance_of ?_ (λz=>nomatch z);unfold Builtin.«isinstance.nested»;refine Qb ?_;unfold typeOf;refine Qb (Qh hx (Qg ?_));rw[hc];by_cases e:C=D
 .subst e
  have hb1:b=B2:=by rw[←hb];simp
  subst hb1;rw[if_pos (by simp)];exact Qb (wpAny_rule (Qg (hq t)))
 .rw[if_neg (by simp[e])]
  refine Qb (Qb (Qh hD (Qg ?_)));rw[Qr (show(Value.type "type" == Value.type "type")=B2 by decide)]
  k_delta "plainIsInstance"
  unfold isType isInstance
  repeat (first|(with_reducible refine Qh hx ?_;rw[hc])|with_reducible refine Qh hD ?_|with_reducible refine Qh hC ?_|(with_reducible refine QC hC ?_;rw[hb])|wp_step)
  cases b with
  |true=>wp_walk;exact hq t
  |false=>
   rw[QD (by decide)];refine Qb (RG PySem.F.excAttr_ValueError T hC fc fg fa hx hc ?_)
   repeat (first|with_reducible refine Qh hC ?_|(with_reducible refine QC hC ?_;rw[hb])|wp_step)
   exact hq _
theorem Gs{Q:JU->JV->Prop}{X:String}(T:Tail VB bm)(hC:h.get? C=O (excClassObj nm q C N bs bm hdct sn sub ab col dd k0 k1 k2 k3 k5 newId))(hX:typeOf (.type X)=pure (.type "type"))
  (fc:Kj (model prog w) C "__class__" (O (.builtin "object.__class__")) h) (fg:Kj (model prog w) C "__getattribute__" (O (.builtin "BaseException.__getattribute__")) h) (fa:Kj (model prog w) C "__getattr__" none h)
  (hx:h.get? a=O o) (hc:o.cls=.ref C) (hb:(Value.ref C::bm).contains (.type X)=b) (hq:∀tk,Q (.bool b) ⟨h,g,d,tk,os⟩):J4 (model prog w) A (call (.builtin "isinstance") [.ref a,.type X]) Q E ⟨h,g,d,t,os⟩:=by
 refine call_isinstance_of ?_ (λz=>nomatch z);unfold Builtin.«isinstance.nested»;refine Qb ?_;have ty:∀{M:Model}{A:Around}{Q:JU->JV->Prop}{E:JU->JV->Prop},Q (.ref C) ⟨h,g,d,t,os⟩->J4 M A (typeOf (.ref a)) Q E ⟨h,g,d,t,os⟩:=λq=>by unfold typeOf;refine Qb (Qh hx (Qg ?_));rw[hc];exact q
 refine ty ?_;rw[if_neg (by simp)];refine Qb (wpAny_of_eq hX ?_);rw[Qr (show(Value.type "type" == Value.type "type")=B2 by decide)]
 k_delta "plainIsInstance"
 unfold isType isInstance
 repeat (first|(with_reducible refine Qh hx ?_;rw[hc])|with_reducible refine Qh hC ?_|(with_reducible refine QC hC ?_;rw[hb])|wp_step)
 cases b with
 |true=>wp_walk;exact hq t
 |false=>
  rw[QD (by decide)];refine Qb (RG PySem.F.excAttr_ValueError T hC fc fg fa hx hc ?_)
  repeat (first|with_reducible refine Qh hC ?_|(with_reducible refine QC hC ?_;rw[hb])|wp_step)
  exact hq _
end
noncomputable def rIsX(KC:JX->B5->Prop):List V->Hp->VK->Prop:=λxs H Q=>∃a C dd bm fr c b,xs=[.ref a,c]/\KC C bm/\H a=O (.ext (XO fr a C dd)) /\
 ((∃D bm',c=.ref D/\KC D bm'/\(Value.ref C::bm).contains (.ref D)=b) ∨ ∃T,c=.ty T/\typeOf (.type T)=pure (.type "type")/\(Value.ref C::bm).contains (.type T)=b)/\Q (.bl b) H
theorem OA{X:Cx}{KC:JX->B5->Prop}(hcls:∀C bm,KC C bm->∃fI,XCls (model X.prog X.w) X.base C bm fI):ZA X (.builtin "isinstance") (rIsX KC):=by
 rintro pins s σ H xs us Q I r ⟨a,C,dd,bm,fr,c,b,rfl,kc,hx,hD,q⟩;cases r with
 |cons ra r=>
 cases r with
 |cons rc r=>
 cases r;have ra':_=Value.ref a:=ra;subst ra';obtain⟨fI,XC⟩:=hcls C bm kc;obtain⟨nm,qn,N,bs,sn,sub,ab,col,AT,k0,k1,k2,k3,k5,hC⟩:=XC.obj;obtain⟨⟨vs,sl,ga,_⟩,_,_⟩:=I.hok a _ hx;obtain⟨hp,g,d,tk,os⟩:=s;rcases hD with ⟨D,bm',rfl,kd,hb⟩|⟨T,rfl,hT,hb⟩
 .have rc':_=Value.ref D:=rc
  subst rc';obtain⟨fI',XD'⟩:=hcls D bm' kd;obtain⟨AM,qn',N',bs',sn',sub',AV,col',dd2,j0,j1,j2,j3,j5,Ap⟩:=XD'.obj;exact F2 XC.tail (I.bk _ _ hC) (I.bk _ _ Ap) (XC.cl.keeps I.bk) (XC.ga.keeps I.bk) (XC.gh.keeps I.bk) ga Z hb λtk'=>⟨.bl b,H,I.tok tk',rfl,q⟩
 .have rc':_=Value.type T:=rc
  subst rc';exact Gs XC.tail (I.bk _ _ hC) hT (XC.cl.keeps I.bk) (XC.ga.keeps I.bk) (XC.gh.keeps I.bk) ga Z hb λtk'=>⟨.bl b,H,I.tok tk',rfl,q⟩
theorem CO{CX:CXT}{P:JW}{w:World}{K:Frag}{mg:Str->B7}{base:Heap}{N:List Str}{qual:Str}{scope:Scope}{f:JX}{cd:JU}{A:Around}{outer:List Env}{s:JV}{H:Hp}{E:XK} :
  PassesOwn (model P w) (Kl CX P w K mg base N qual scope f cd A outer s H E).A (Kl CX P w K mg base N qual scope f cd A outer s H E).env (Kl CX P w K mg base N qual scope f cd A outer s H E).xe:=
 PassesOwn.leaving (Q₁:=λe s''=>CX outer H s E e s'')
noncomputable def X8(KC:JX->B5->Prop):Sp:=λvs H Q _=>∃a C dd bm x,vs=[.ref a,.str x]/\KC C bm/\H a=O (.ext (XO B2 a C dd))/\Q .non H
noncomputable def SE(KC:JX->B5->Prop)(fs:List Str):Sp:=λvs H Q _=>∃a C bm us,vs=.ref a::us/\us.length=fs.length/\KC C bm/\H a=O (.ext (XO B2 a C B0))/\(∀u∈us,∃y,FmtV u y/\y.length<=4000) /\
 ∀dx,H dx=B0->dx≠a->Q .non (upd (upd H a (.ext (XO B2 a C (O dx)))) dx (.ext (XD dx (fs.zip us))))
noncomputable def KR(nm:Str):List Str:=if nm = "NoWishes" then ["part", "number"]else if nm = "NoAim" then ["part"]else if nm = "NoText" then ["row"]else []
noncomputable def Tg(K:Frag)(nm:Str):Ae:=match PySem.W.nsIn K mainGlobals nm with|some (O (.ref C))=>O C|_=>B0
def NmAt(K:Frag)(nm:Str)(C:JX):Prop:=∃o cd,K.lookup C=O o/\o.data=.cls cd/\cd.name=nm
structure ClsK(K:Frag)(nm:Str)(C:JX)(bm:B5):Prop where
 ad:Tg K nm=O C
 nmd:NmAt K nm C
 up:nm = "DealError" /\ bm=VB∨nm ≠ "DealError" /\ ∃D,Tg K "DealError" = O D/\bm=.ref D::VB/\NmAt K "DealError" D
 cls:∀(M:Model)(h:Heap),K.In h->∃fI,XCls M h C bm fI
 fld:∀(M:Model)(h:Heap),K.In h->∀f∈(["part", "number", "row"]:List Str),Kj M C f B0 h
noncomputable def KC(K:Frag):JX->B5->Prop:=λC bm=>∃nm,ClsK K nm C bm
section
variable{K:Frag}{nm x:Str}{C D:JX}{bm bm':B5}
theorem NmAt.ne(c:NmAt K nm C)(d:NmAt K x D)(h:x≠nm):C≠D:=λe=>by subst e;obtain⟨o,cd,h1,h2,h3⟩:=c;obtain⟨o',cd',g1,g2,g3⟩:=d;rw[h1]at g1;cases g1;rw[h2]at g2;cases g2;exact h (g3.symm.trans h3)
theorem ClsK.has(c:ClsK K nm C bm)(d:ClsK K x D bm'):(Value.ref C::bm).contains (.ref D)=(decide (x=nm) || decide (x = "DealError")):=by
 by_cases e:x=nm
 .subst e
  have:=c.ad.symm.trans d.ad;cases this;simp
 .have ne:=c.nmd.ne d.nmd e
  rw[QP e,Bool.false_or];have h0:(Value.ref D==Value.ref C)=B3:=by simp[Ne.symm ne]
  rw[Q1,h0,Bool.false_or];by_cases e2:x = "DealError"
  .subst e2
   rcases c.up with ⟨z,_⟩|⟨_,D',g,rfl,_⟩
   .exact absurd z.symm e
   .have:=g.symm.trans d.ad
    cases this;simp
  .rw[QP e2]
   rcases c.up with ⟨_,rfl⟩|⟨_,D',g,rfl,n⟩
   .rfl
   .have ne2:=n.ne d.nmd e2
    have h1:(Value.ref D==Value.ref D')=B3:=by simp[Ne.symm ne2]
    rw[Q1,h1,Bool.false_or];rfl
theorem ClsK.ty(c:ClsK K nm C bm)(T:String):(Value.ref C::bm).contains (.type T)=VB.contains (.type T):=by
 rcases c.up with ⟨_,rfl⟩|⟨_,D',g,rfl,n⟩
 .rfl
 .rfl
end
section
variable{X:Cx}{e:JZ}{st:Stmt}{sts:List Stmt}{t:TE}{ts:TS}
theorem PE.kin(h:X.K.In X.base->PE X e t):PE X e t:=λpins s σ H Q I q=>h I.ok.mod.kin pins s σ H Q I q
theorem PS.kin(h:X.K.In X.base->PS X st ts):PS X st ts:=λpins s σ H Q I q=>h I.ok.mod.kin pins s σ H Q I q
theorem PSs.kin(h:X.K.In X.base->PSs X sts ts):PSs X sts ts:=λpins s σ H Q I q=>h I.ok.mod.kin pins s σ H Q I q
theorem Xb(k:X.K.In X.base):∀C bm,KC X.K C bm->∃fI,XCls (model X.prog X.w) X.base C bm fI:=λ_ _ ⟨_,c⟩=>c.cls _ _ k
end
def R6(nm:Str)(us:List V):Prop:=(KR nm=[]/\∃x,us=[.str x])∨(KR nm≠[]/\us.length=(KR nm).length/\∀u∈us,∃y,FmtV u y/\y.length<=4000)
def R5(nm:Str)(C a:JX)(us:List V)(H:Hp)(dd:Ae)(H':Hp):Prop:=
 (KR nm=[]/\dd=B0/\H'=H)∨(KR nm≠[]/\us.length=(KR nm).length/\∃dx,dd=O dx/\H dx=B0/\dx≠a/\H'=upd (upd H a (.ext (XO B2 a C (O dx)))) dx (.ext (XD dx ((KR nm).zip us))))
def Tr(K:Frag)(nm:Str)(C:JX)(sp:Sp):Prop:=∀a us H Q,H a=O (.ext (XO B2 a C B0))->R6 nm us->(∀dd H',R5 nm C a us H dd H'->Q .non H')->sp (.ref a::us) H Q E0
def MkX(P:JW)(w:World)(K:Frag)(mg:Str->B7)(base:Heap)(nm:Str)(k:Nat):Prop:=
 ∃C bm f fd ps sp,mg nm=O (.ref C)/\PySem.W.keepIn K (.ref C)=B2/\ClsK K nm C bm/\(∀(M:Model)(h:Heap),K.In h->XCls M h C bm f)/\FnOk P w K mg base CX0 k f fd ps sp/\Ze K fd ps []/\Tr K nm C sp
theorem Oz{K:Frag}{nm:Str}{C:JX}{bm:B5}(c:ClsK K nm C bm)(hf:KR nm=[]):Tr K nm C (X8 (KC K)):=λa us H Q h ar q=>by
 rcases ar with ⟨_,x,rfl⟩|⟨z,_⟩
 .exact⟨a,C,B0,bm,x,rfl,⟨nm,c⟩,h,q B0 H (.inl ⟨hf,rfl,rfl⟩)⟩
 .exact absurd hf z
theorem Dw{K:Frag}{nm:Str}{C:JX}{bm:B5}(c:ClsK K nm C bm)(hf:KR nm≠[]):Tr K nm C (SE (KC K) (KR nm)):=λa us H Q h ar q=>by
 rcases ar with ⟨z,_⟩|⟨_,hl,hu⟩
 .exact absurd z hf
 .exact⟨a,C,bm,us,rfl,hl,⟨nm,c⟩,h,hu,λdx hd hne=>q (O dx) _ (.inr ⟨hf,hl,dx,rfl,hd,hne,rfl⟩)⟩
end L2
namespace DL
open PySem PySem.Spec L2
open PyProof.Rows hiding St
abbrev D:=PyData
abbrev B4:=List D
abbrev B9:=Option D
abbrev XW:=V->St->Hp->Prop
noncomputable abbrev KX0:XW:=λ_ _ _=>False
def XFs(G:Hp)(dd:Ae)(fs:List Str)(vs:List V):Prop:=match dd with
 |none=>fs=[]/\vs=[]
 |some dx=>fs.length=vs.length/\G dx=O (.ext (XD dx (fs.zip vs)))
theorem XFs.mono{G G1:Hp}{dd:Ae}{fs:List Str}{vs:List V}(e:Same G G1)(h:XFs G dd fs vs):XFs G1 dd fs vs:=by
 cases dd with
 |none=>exact h
 |some dx=>exact⟨h.1,e _ _ h.2⟩
noncomputable def kD:Key->D
 |.inl i=>.int i
 |.inr x=>.str x
noncomputable def tkD(k:Ag):D:=.tuple (k.map kD)
noncomputable def pdD(ks:List Ag)(ds:B4):List (D×D):=(.bool B2,.none)::(ks.map tkD).zip ds
mutual
inductive Rep(K:Frag)(G:Hp):V->D->Prop where
 |non:Rep K G .non .none
 |bl (b:Bool):Rep K G (.bl b) (.bool b)
 |int (i:Int):Rep K G (.int i) (.int i)
 |str (x:Str):Rep K G (.str x) (.str x)
 |lst {a:JX} {vs:List V} {ds:B4} (h:SqL K G a vs) (r:Reps K G vs ds):Rep K G (.ref a) (.list ds)
 |tup {a:JX} {vs:List V} {ds:B4} (h:SqT K G a vs) (r:Reps K G vs ds):Rep K G (.ref a) (.tuple ds)
 |dic {a:JX} (h:G a=O (.dK [])):Rep K G (.ref a) (.dict [])
 |exc {a C:JX} {dd:Ae} {bm:B5} {nm:Str} {vs:List V} {ds:B4} (c:ClsK K nm C bm) (h:G a=O (.ext (XO B3 a C dd))) (hd:XFs G dd (KR nm) vs) (r:Reps K G vs ds):Rep K G (.ref a) (.dict [(.none,.tuple [.str nm,.list ds])])
 |dct {a:JX} {ks:Ag} {vs:List V} {ds:B4} {kvs:List (D×D)} (e:kvs=(ks.map kD).zip ds) (hne:ks≠[]) (hl:ks.length=ds.length) (h:G a=O (.dK (ks.zip vs))) (r:Reps K G vs ds):Rep K G (.ref a) (.dict kvs)
 |dtt {a:JX} {o:Obj} {ks:List Ag} {vs:List V} {ds:B4} {kvs:List (D×D)} (e:kvs=pdD ks ds) (hl:ks.length=ds.length) (h:G a=O (.frz o (.dT (ks.zip vs)))) (r:Reps K G vs ds):Rep K G (.ref a) (.dict kvs)
inductive Reps(K:Frag)(G:Hp):List V->B4->Prop where
 |nil:Reps K G [] []
 |cons {v:V} {d:D} {vs:List V} {ds:B4} (h:Rep K G v d) (t:Reps K G vs ds):Reps K G (v::vs) (d::ds)
end
variable{K:Frag}{B G0 G G1 G2 H H1 H2:Hp}
theorem ZE{a:JX}{xs:List V}(e:Same G G1)(h:SqT K G a xs):SqT K G1 a xs:=by
 rcases h with (h|⟨o,h⟩)|h
 .exact .inl (.inl (e _ _ h))
 .exact .inl (.inr ⟨o,e _ _ h⟩)
 .exact .inr h
theorem Rep.mono(e:Same G G1){v:V}{d:D}(r:Rep K G v d):Rep K G1 v d:=Rep.rec (motive_1:=λv d _=>Rep K G1 v d) (motive_2:=λvs ds _=>Reps K G1 vs ds) .non .bl .int .str (λh _ r=>.lst (e.seq h) r) (λh _ r=>.tup (ZE e h) r) (λh=>.dic (e _ _ h)) (λc h hd _ r=>.exc c (e _ _ h) (hd.mono e) r) (λz n l h _ r=>.dct z n l (e _ _ h) r) (λz l h _ r=>.dtt z l (e _ _ h) r) .nil (λ_ _=>.cons) r
theorem Reps.mono(e:Same G G1){vs:List V}{ds:B4}(r:Reps K G vs ds):Reps K G1 vs ds:=Reps.rec (motive_1:=λv d _=>Rep K G1 v d) (motive_2:=λvs ds _=>Reps K G1 vs ds) .non .bl .int .str (λh _ r=>.lst (e.seq h) r) (λh _ r=>.tup (ZE e h) r) (λh=>.dic (e _ _ h)) (λc h hd _ r=>.exc c (e _ _ h) (hd.mono e) r) (λz n l h _ r=>.dct z n l (e _ _ h) r) (λz l h _ r=>.dtt z l (e _ _ h) r) .nil (λ_ _=>.cons) r
theorem CN{ks:Ag}{ds:B4}{d:D}{r:List (D×D)}(e:(.none,d)::r=(ks.map kD).zip ds):False:=by
 cases ks with
 |nil=>cases e
 |cons k ks=>
  cases ds with
  |nil=>cases e
  |cons d ds=>
   rw[Qu,JL]at e;injection e with e1 _;injection e1 with e2 _
   cases k<;>cases e2
section
variable{v:V}{vs ws:List V}{ds es:B4}
theorem Rep.bl_inv{b:Bool}(h:Rep K G v (.bool b)):v=.bl b:=by cases h;rfl
theorem Rep.int_inv{i:Int}(h:Rep K G v (.int i)):v=.int i:=by cases h;rfl
theorem Rep.str_inv{x:Str}(h:Rep K G v (.str x)):v=.str x:=by cases h;rfl
theorem Rep.lst_inv(h:Rep K G v (.list ds)):∃a vs,v=.ref a/\SqL K G a vs/\Reps K G vs ds:=by
 cases h with
 |lst h r=>exact⟨_,_,rfl,h,r⟩
theorem Rep.tup_inv(h:Rep K G v (.tuple ds)):∃a vs,v=.ref a/\SqT K G a vs/\Reps K G vs ds:=by
 cases h with
 |tup h r=>exact⟨_,_,rfl,h,r⟩
theorem Rep.exc_inv{d:D}(h:Rep K G v (.dict [(.none,d)])):∃a C dd bm nm vs ds,v=.ref a/\d=.tuple [.str nm,.list ds]/\ClsK K nm C bm/\G a=O (.ext (XO B3 a C dd))/\XFs G dd (KR nm) vs/\Reps K G vs ds:=by
 cases h with
 |exc c h hd r=>exact⟨_,_,_,_,_,_,_,rfl,rfl,c,h,hd,r⟩
 |dct e _ _ _ _=>exact(CN e).elim
 |dtt e _ _ _=>exact nomatch (JB (List.cons.inj e).1).1
theorem Reps.length:∀{vs:List V}{ds:B4},Reps K G vs ds->vs.length=ds.length
 |_,_,.nil=>rfl
 |_,_,.cons _ t=>by rw[QB,QB,Reps.length t]
theorem Reps.get:∀{vs:List V}{ds:B4}{i:Nat}{d:D},Reps K G vs ds->ds[i]?=O d->∃v,vs[i]?=O v/\Rep K G v d
 |_,_,_,_,.nil,e=>by simp at e
 |_,_,0,_,.cons h _,e=>by simp at e;subst e;exact⟨_,rfl,h⟩
 |_,_,i+1,d,.cons _ t,e=>by obtain⟨u,h1,h2⟩:=Reps.get (i:=i) (d:=d) t (by simpa using e);exact⟨u,by simpa using h1,h2⟩
theorem Reps.append:∀{vs ws:List V}{ds es:B4},Reps K G vs ds->Reps K G ws es->Reps K G (vs++ws) (ds++es)
 |_,_,_,_,.nil,s=>s
 |_,_,_,_,.cons r t,s=>.cons r (Reps.append t s)
theorem Reps.take:∀{vs:List V}{ds:B4}(n:Nat),Reps K G vs ds->Reps K G (vs.take n) (ds.take n)
 |_,_,0,_=>by rw[List.take_zero,List.take_zero];exact .nil
 |_,_,_+1,.nil=>.nil
 |_,_,n+1,.cons r t=>.cons r (Reps.take n t)
theorem Reps.drop:∀{vs:List V}{ds:B4}(n:Nat),Reps K G vs ds->Reps K G (vs.drop n) (ds.drop n)
 |_,_,0,r=>r
 |_,_,_+1,.nil=>.nil
 |_,_,n+1,.cons _ t=>Reps.drop n t
theorem Reps.reverse:∀{vs:List V}{ds:B4},Reps K G vs ds->Reps K G vs.reverse ds.reverse
 |_,_,.nil=>.nil
 |_,_,.cons r t=>by rw[JC,JC];exact Reps.append (Reps.reverse t) (.cons r .nil)
theorem Reps.set{v:V}{d:D}(r:Rep K G v d):∀{vs:List V}{ds:B4}(i:Nat),Reps K G vs ds->Reps K G (vs.set i v) (ds.set i d)
 |_,_,_,.nil=>.nil
 |_,_,0,.cons _ t=>.cons r t
 |_,_,i+1,.cons q t=>.cons q (Reps.set r i t)
theorem Reps.ints:∀(ns:B6),Reps K G (ns.map V.int) (ns.map int)
 |[]=>.nil
 |n::ns=>.cons (.int n) (Reps.ints ns)
end
inductive MO where
 |l (vs:List V)|k (kvs:List (Key×V))|t (kvs:List (Ag×V))|s (S:Int->Bool) (n:Nat)
noncomputable def MO.ho:MO->HO
 |.l vs=>.lst vs
 |.k kvs=>.dK kvs
 |.t kvs=>.dT kvs
 |.s S n=>.set S n
structure Ext(G H G' H':Hp):Prop where
 h:Same H H'
 g:Same G G'
 gh:Same G' H'
 np:∀a(u:MO),H a=O u.ho->G a=B0->G' a=B0
theorem Ext.refl(e:Same G H):Ext G H G H:=⟨.refl _,.refl _,e,λ_ _ _ q=>q⟩
theorem Ext.trans{G' H' G'' H'':Hp}(a:Ext G H G' H')(b:Ext G' H' G'' H''):Ext G H G'' H'':=
 ⟨a.h.trans b.h,a.g.trans b.g,b.gh,λx o e q=>b.np x o (a.h x _ e) (a.np x o e q)⟩
theorem KB{p:JX}{o:HO}(h:H p=B0):Same H (upd H p o):=λb u e=>by rw[UI (ZC e h)];exact e
theorem Ext.new{p:JX}{o:HO}(e:Same G H)(h:H p=B0):Ext G H (upd G p o) (upd H p o):=by
 have hg:G p=B0:=e.free h;refine⟨KB h,KB hg,λb u q=>?_,λa u q n=>?_⟩
 .by_cases z:b=p
  .subst z;rw[UW]at q⊢;exact q
  .rw[UI z]at q⊢;exact e b u q
 .rw[UI (ZC q h)];exact n
theorem Ext.hid{p:JX}{o:HO}(e:Same G H)(h:H p=B0):Ext G H G (upd H p o):=
 ⟨KB h,.refl _,e.trans (KB h),λ_ _ _ n=>n⟩
inductive Pat where
 |leaf|lst (p:Pat)|tup (ps:List Pat)|dic
mutual
inductive RepO(K:Frag)(G H:Hp):Pat->V->D->Aa->Prop where
 |leaf {v:V} {d:D} (r:Rep K G v d):RepO K G H .leaf v d []
 |lst {p:Pat} {a:JX} {vs:List V} {ds:B4} {fp:Aa} (h:H a=O (.lst vs)) (r:RepOl K G H p vs ds fp):RepO K G H (.lst p) (.ref a) (.list ds) (a::fp)
 |tup {ps:List Pat} {a:JX} {vs:List V} {ds:B4} {fp:Aa} (h:H a=O (.tup vs)) (r:RepOs K G H ps vs ds fp):RepO K G H (.tup ps) (.ref a) (.tuple ds) fp
 |dic {a:JX} {ks:Ag} {vs:List V} {ds:B4} {kvs:List (D×D)} (e:kvs=(ks.map kD).zip ds) (hl:ks.length=ds.length) (h:H a=O (.dK (ks.zip vs))) (r:Reps K G vs ds):RepO K G H .dic (.ref a) (.dict kvs) [a]
inductive RepOl(K:Frag)(G H:Hp):Pat->List V->B4->Aa->Prop where
 |nil {p:Pat}:RepOl K G H p [] [] []
 |cons {p:Pat} {v:V} {d:D} {vs:List V} {ds:B4} {f1 f2:Aa} (h:RepO K G H p v d f1) (t:RepOl K G H p vs ds f2):RepOl K G H p (v::vs) (d::ds) (f1++f2)
inductive RepOs(K:Frag)(G H:Hp):List Pat->List V->B4->Aa->Prop where
 |nil:RepOs K G H [] [] [] []
 |cons {p:Pat} {ps:List Pat} {v:V} {d:D} {vs:List V} {ds:B4} {f1 f2:Aa} (h:RepO K G H p v d f1) (t:RepOs K G H ps vs ds f2):RepOs K G H (p::ps) (v::vs) (d::ds) (f1++f2)
end
def Zo(K:Frag)(G H:Hp)(M1:Pat->V->D->Aa->Prop)(M2:Pat->List V->B4->Aa->Prop)(M3:List Pat->List V->B4->Aa->Prop):Prop:=
 (∀{p v d fp},RepO K G H p v d fp->M1 p v d fp)/\(∀{p vs ds fp},RepOl K G H p vs ds fp->M2 p vs ds fp)/\∀{ps vs ds fp},RepOs K G H ps vs ds fp->M3 ps vs ds fp
theorem RepO.ind3{M1:Pat->V->D->Aa->Prop}{M2:Pat->List V->B4->Aa->Prop}{M3:List Pat->List V->B4->Aa->Prop}
  (c1:∀{v d},Rep K G v d->M1 .leaf v d []) (c2:∀{p a vs ds fp},H a=O (.lst vs)->M2 p vs ds fp->M1 (.lst p) (.ref a) (.list ds) (a::fp)) (c3:∀{ps a vs ds fp},H a=O (.tup vs)->M3 ps vs ds fp->M1 (.tup ps) (.ref a) (.tuple ds) fp)
  (c4:∀{a:JX}{ks:Ag}{vs:List V}{ds:B4}{kvs:List (D×D)},kvs=(ks.map kD).zip ds->ks.length=ds.length->H a=O (.dK (ks.zip vs))->Reps K G vs ds->M1 .dic (.ref a) (.dict kvs) [a])
  (c5:∀{p},M2 p [] [] []) (c6:∀{p v d vs ds f1 f2},M1 p v d f1->M2 p vs ds f2->M2 p (v::vs) (d::ds) (f1++f2)) (c7:M3 [] [] [] []) (c8:∀{p ps v d vs ds f1 f2},M1 p v d f1->M3 ps vs ds f2->M3 (p::ps) (v::vs) (d::ds) (f1++f2)) :
  Zo K G H M1 M2 M3:=
 ⟨λh=>RepO.rec (motive_1:=λp v d fp _=>M1 p v d fp) (motive_2:=λp v d fp _=>M2 p v d fp) (motive_3:=λp v d fp _=>M3 p v d fp) c1 (λh _=>c2 h) (λh _=>c3 h) c4 c5 (λ_ _=>c6) c7 (λ_ _=>c8) h,
  λh=>RepOl.rec (motive_1:=λp v d fp _=>M1 p v d fp) (motive_2:=λp v d fp _=>M2 p v d fp) (motive_3:=λp v d fp _=>M3 p v d fp) c1 (λh _=>c2 h) (λh _=>c3 h) c4 c5 (λ_ _=>c6) c7 (λ_ _=>c8) h,
  λh=>RepOs.rec (motive_1:=λp v d fp _=>M1 p v d fp) (motive_2:=λp v d fp _=>M2 p v d fp) (motive_3:=λp v d fp _=>M3 p v d fp) c1 (λh _=>c2 h) (λh _=>c3 h) c4 c5 (λ_ _=>c6) c7 (λ_ _=>c8) h⟩
theorem RepO.mono3(sg:Same G G1)(sh:Same H H1):Zo K G H (RepO K G1 H1) (RepOl K G1 H1) (RepOs K G1 H1):=
 RepO.ind3 (λr=>.leaf (r.mono sg)) (λh r=>.lst (sh _ _ h) r) (λh r=>.tup (sh _ _ h) r) (λe hl h r=>.dic e hl (sh _ _ h) (r.mono sg)) .nil .cons .nil .cons
theorem RepO.mono(sg:Same G G1)(sh:Same H H1){p:Pat}{v:V}{d:D}{fp:Aa}(r:RepO K G H p v d fp):RepO K G1 H1 p v d fp:=(RepO.mono3 sg sh).1 r
theorem RepOl.mono(sg:Same G G1)(sh:Same H H1){p:Pat}{v:List V}{d:B4}{fp:Aa}(r:RepOl K G H p v d fp):RepOl K G1 H1 p v d fp:=(RepO.mono3 sg sh).2.1 r
theorem RepOs.mono(sg:Same G G1)(sh:Same H H1){p:List Pat}{v:List V}{d:B4}{fp:Aa}(r:RepOs K G H p v d fp):RepOs K G1 H1 p v d fp:=(RepO.mono3 sg sh).2.2 r
theorem RepO.upd3{a:JX}{o:HO}(nt:∀vs,H a≠O (.tup vs)):Zo K G H (λp v d fp=>a∉fp->RepO K G (upd H a o) p v d fp) (λp v d fp=>a∉fp->RepOl K G (upd H a o) p v d fp) (λp v d fp=>a∉fp->RepOs K G (upd H a o) p v d fp):=
 RepO.ind3
 (λr _=>.leaf r) (λh r n=>.lst (by rw[UI (λz=>n (by rw[z];exact Qk))];exact h) (r λz=>n (Qj _ z))) (λh r n=>.tup (by rw[UI (λz=>by subst z;exact nt _ h)];exact h) (r n))
 (λe hl h r n=>.dic e hl (by rw[UI (λz=>n (by rw[z];exact Qk))];exact h) r) (λ_=>.nil) (λh t n=>.cons (h λz=>n (Qs _ z)) (t λz=>n (Qm _ z))) (λ_=>.nil) (λh t n=>.cons (h λz=>n (Qs _ z)) (t λz=>n (Qm _ z)))
theorem RepO.upd{a:JX}{o:HO}(nt:∀vs,H a≠O (.tup vs)){p:Pat}{v:V}{d:D}{fp:Aa}(r:RepO K G H p v d fp)(n:a∉fp):RepO K G (upd H a o) p v d fp:=(RepO.upd3 nt).1 r n
theorem RepOl.upd{a:JX}{o:HO}(nt:∀vs,H a≠O (.tup vs)){p:Pat}{v:List V}{d:B4}{fp:Aa}(r:RepOl K G H p v d fp)(n:a∉fp):RepOl K G (upd H a o) p v d fp:=(RepO.upd3 nt).2.1 r n
theorem RepOs.upd{a:JX}{o:HO}(nt:∀vs,H a≠O (.tup vs)){p:List Pat}{v:List V}{d:B4}{fp:Aa}(r:RepOs K G H p v d fp)(n:a∉fp):RepOs K G (upd H a o) p v d fp:=(RepO.upd3 nt).2.2 r n
theorem RepO.rep3(gh:Same G H):Zo K G H (λ_ v d _=>Rep K H v d) (λ_ v d _=>Reps K H v d) (λ_ v d _=>Reps K H v d):=
 RepO.ind3 (λr=>r.mono gh) (λh r=>.lst (SqL.of h) r) (λh r=>.tup (SqT.of h) r)
 (λ{a ks vs ds kvs} e hl h r=>by
  cases ks with
  |nil=>subst e;exact .dic h
  |cons k ks=>exact .dct e (λz=>by cases z) hl h (r.mono gh)) .nil .cons .nil .cons
theorem RepO.rep(gh:Same G H){p:Pat}{v:V}{d:D}{fp:Aa}(r:RepO K G H p v d fp):Rep K H v d:=(RepO.rep3 gh).1 r
theorem RepO.isl3:Zo K G H (λ_ _ _ fp=>∀a∈fp,∃u:MO,H a=O u.ho) (λ_ _ _ fp=>∀a∈fp,∃u:MO,H a=O u.ho) (λ_ _ _ fp=>∀a∈fp,∃u:MO,H a=O u.ho):=
 RepO.ind3 (λ_ a m=>by cases m)
 (λh r b m=>(QM.mp m).elim (λe=>⟨.l _,e ▸ h⟩) (r b)) (λ_ r=>r) (λ_ _ h _ b m=>⟨.k _,QJ.mp m ▸ h⟩) (λa m=>by cases m) (λh t b m=>(QG.mp m).elim (h b) (t b)) (λa m=>by cases m) (λh t b m=>(QG.mp m).elim (h b) (t b))
theorem RepO.isl{p:Pat}{v:V}{d:D}{fp:Aa}(r:RepO K G H p v d fp):∀a∈fp,∃u:MO,H a=O u.ho:=RepO.isl3.1 r
theorem RepOl.isl{p:Pat}{v:List V}{d:B4}{fp:Aa}(r:RepOl K G H p v d fp):∀a∈fp,∃u:MO,H a=O u.ho:=RepO.isl3.2.1 r
theorem RepOs.isl{p:List Pat}{v:List V}{d:B4}{fp:Aa}(r:RepOs K G H p v d fp):∀a∈fp,∃u:MO,H a=O u.ho:=RepO.isl3.2.2 r
theorem RepO.uniq3(sh:Same H H1):Zo K G H (λp v _ fp=>∀d' fp',RepO K G1 H1 p v d' fp'->fp=fp') (λp v _ fp=>∀d' fp',RepOl K G1 H1 p v d' fp'->fp=fp') (λp v _ fp=>∀d' fp',RepOs K G1 H1 p v d' fp'->fp=fp'):=
 RepO.ind3
 (λ_ d' fp' h=>by cases h;rfl)
 (λh r d' fp' h'=>by
  cases h' with
  |lst h2 r2=>have e:=sh _ _ h;rw[h2]at e;cases e;rw[r _ _ r2])
 (λh r d' fp' h'=>by
  cases h' with
  |tup h2 r2=>have e:=sh _ _ h;rw[h2]at e;cases e;exact r _ _ r2)
 (λ_ _ _ _ d' fp' h=>by cases h;rfl) (λd' fp' h=>by cases h;rfl)
 (λh t d' fp' h'=>by
  cases h' with
  |cons h2 t2=>rw[h _ _ h2,t _ _ t2])
 (λd' fp' h=>by cases h;rfl)
 (λh t d' fp' h'=>by
  cases h' with
  |cons h2 t2=>rw[h _ _ h2,t _ _ t2])
theorem RepO.uniq(sh:Same H H1){p:Pat}{v:V}{d d':D}{fp fp':Aa}(r:RepO K G H p v d fp)(r':RepO K G1 H1 p v d' fp'):fp=fp':=(RepO.uniq3 sh).1 r _ _ r'
inductive Sl where
 |pub (d:D)|own (ds:B4)|deep (p:Pat) (d:D)
abbrev Um:=List (Option Sl)
abbrev Ab:=Option Um
def DpOk(K:Frag)(B G H:Hp)(σ:St)(ρ:Um):Prop:=∃ω:JX->Nat,
 (∀(i:Nat) p d,ρ[i]?=O (O (.deep p d))->∃v fp,σ[i]?=O (O v)/\RepO K G H p v d fp/\fp.Nodup/\∀a∈fp,B a=B0/\G a=B0/\ω a=i) /\
 (∀(i:Nat) ds a,ρ[i]?=O (O (.own ds))->σ[i]?=O (O (.ref a))->ω a=i)
theorem DpOk.of{σ:St}{ρ:Um}(h1:∀(i:Nat) p d,ρ[i]?=O (O (.deep p d))->False)(h2:∀(i:Nat) ds,ρ[i]?=O (O (.own ds))->False):DpOk K B G H σ ρ:=
 ⟨λ_=>0,λi p d q=>(h1 i p d q).elim,λi ds a q=>(h2 i ds q).elim⟩
theorem DpOk.map{B1:Hp}{σ σ1:St}{ρ ρ1:Um}(k:DpOk K B G H σ ρ)
  (h1:∀(i:Nat) p d,ρ1[i]?=O (O (.deep p d))->ρ[i]?=O (O (.deep p d))/\σ1[i]?=σ[i]?)
  (h2:∀(i:Nat) ds,ρ1[i]?=O (O (.own ds))->∃es,ρ[i]?=O (O (.own es))/\σ1[i]?=σ[i]?)
  (h3:∀(i:Nat) p d v fp,ρ[i]?=O (O (.deep p d))->σ[i]?=O (O v)->RepO K G H p v d fp->(∀a∈fp,B a=B0/\G a=B0)->(∀(j:Nat) ds a,ρ[j]?=O (O (.own ds))->σ[j]?=O (O (.ref a))->a∉fp)->RepO K G1 H1 p v d fp/\∀a∈fp,B1 a=B0/\G1 a=B0):DpOk K B1 G1 H1 σ1 ρ1:=by
 obtain⟨ω,k1,k2⟩:=k;refine⟨ω,λi p d q=>?_,λi ds a q s=>?_⟩
 .obtain⟨q1,e1⟩:=h1 i p d q
  obtain⟨v,fp,s,r,n,w⟩:=k1 i p d q1;obtain⟨r1,w1⟩:=h3 i p d v fp q1 s r (λa m=>⟨(w a m).1,(w a m).2.1⟩) λj ds a qj sj m=>by have z1:=k2 j ds a qj sj;have z2:=(w a m).2.2;rw[z1]at z2;subst z2;rw[q1]at qj;cases qj
  exact⟨v,fp,by rw[e1];exact s,r1,n,λa m=>⟨(w1 a m).1,(w1 a m).2,(w a m).2.2⟩⟩
 .obtain⟨es,q1,e1⟩:=h2 i ds q
  rw[e1]at s;exact k2 i es a q1 s
structure EOk(K:Frag)(B G0 G H:Hp)(σ:St)(ρ:Um):Prop where
 bh:Same B H
 gh:Same G H
 g0:Same G0 G
 np:∀a(u:MO),B a=O u.ho->G0 a=B0->G a=B0
 len:ρ.length=σ.length
 pub:∀(i:Nat) d,ρ[i]?=O (O (.pub d))->∃v,σ[i]?=O (O v)/\Rep K G v d
 own:∀(i:Nat) ds,ρ[i]?=O (O (.own ds))->∃a vs,σ[i]?=O (O (.ref a))/\B a=B0/\G a=B0/\H a=O (.lst vs)/\Reps K G vs ds
 sep:∀(i j:Nat) a ds es,ρ[i]?=O (O (.own ds))->ρ[j]?=O (O (.own es))->σ[i]?=O (O (.ref a))->σ[j]?=O (O (.ref a))->i=j
 dp:DpOk K B G H σ ρ
theorem EOk.ext{G' H':Hp}{σ:St}{ρ:Um}(k:EOk K B G0 G H σ ρ)(e:Ext G H G' H'):EOk K B G0 G' H' σ ρ where
 bh:=k.bh.trans e.h
 gh:=e.gh
 g0:=k.g0.trans e.g
 np:=λa o q n=>e.np a o (k.bh a _ q) (k.np a o q n)
 len:=k.len
 pub:=λi d q=>let ⟨v,h1,h2⟩:=k.pub i d q;⟨v,h1,h2.mono e.g⟩
 own:=λi ds q=>let ⟨a,vs,h1,h2,h3,h4,h5⟩:=k.own i ds q;⟨a,vs,h1,h2,e.np a (.l _) h4 h3,e.h a _ h4,h5.mono e.g⟩
 sep:=k.sep
 dp:=k.dp.map (λ_ _ _ q=>⟨q,rfl⟩) (λ_ ds q=>⟨ds,q,rfl⟩) λi p d v fp q s r w n=>⟨r.mono e.g e.h,λa m=>let ⟨_,hl⟩:=r.isl a m;⟨(w a m).1,e.np a _ hl (w a m).2⟩⟩
theorem EOk.publish{σ:St}{ρ:Um}{i:Nat}{ds:B4}(k:EOk K B G0 G H σ ρ)(h:ρ[i]?=O (O (.own ds))) :
  ∃a G',σ[i]?=O (O (.ref a))/\Same G G'/\Rep K G' (.ref a) (.list ds)/\EOk K B G0 G' H σ (ρ.set i (O (.pub (.list ds)))):=by
 obtain⟨a,vs,h1,h2,h3,h4,h5⟩:=k.own i ds h;have sg:Same G (upd G a (.lst vs)):=KB h3;have hr:Rep K (upd G a (.lst vs)) (.ref a) (.list ds):=.lst (SqL.of UW) (h5.mono sg);refine⟨a,upd G a (.lst vs),h1,sg,hr,⟨k.bh,λb u q=>?_,k.g0.trans sg,λb o q n=>?_,by rw[QQ];exact k.len,λj d q=>?_,λj es q=>?_,λj l c es fs q1 q2 s1 s2=>?_,?_⟩⟩
 .by_cases z:b=a
  .subst z;rw[UW]at q;cases q;exact h4
  .rw[UI z]at q;exact k.gh b u q
 .have z:b≠a:=λz=>by subst z;rw[h2]at q;cases q
  rw[UI z];exact k.np b o q n
 .by_cases z:i=j
  .subst z
   have hl:i<ρ.length:=(Qy.mp h).1;rw[QL hl]at q;cases q;exact⟨.ref a,h1,hr⟩
  .rw[Qi z]at q
   obtain⟨v,g1,g2⟩:=k.pub j d q;exact⟨v,g1,g2.mono sg⟩
 .by_cases z:i=j
  .subst z
   have hl:i<ρ.length:=(Qy.mp h).1;rw[QL hl]at q;cases q
  .rw[Qi z]at q
   obtain⟨b,ws,g1,g2,g3,g4,g5⟩:=k.own j es q;have zb:b≠a:=λe=>z (k.sep i j a ds es h q h1 (by rw[←e];exact g1))
   exact⟨b,ws,g1,g2,by rw[UI zb];exact g3,g4,g5.mono sg⟩
 .have nz:∀{m:Nat}{ts:B4},(ρ.set i (O (Sl.pub (.list ds))))[m]?=O (O (.own ts))->ρ[m]?=O (O (.own ts)):=λ{m ts} q=>by
   by_cases z:i=m
   .subst z
    have hl:i<ρ.length:=(Qy.mp h).1;rw[QL hl]at q;cases q
   .rw[Qi z]at q;exact q
  exact k.sep j l c es fs (nz q1) (nz q2) s1 s2
 .have hl:i<ρ.length:=(Qy.mp h).1
  have nz:∀{m:Nat}{s:Sl},(ρ.set i (O (Sl.pub (.list ds))))[m]?=O (O s)->(∃d,s=.pub d)∨ρ[m]?=O (O s):=λ{m s} q=>by
   by_cases z:i=m
   .subst z
    rw[QL hl]at q;cases q;exact .inl ⟨_,rfl⟩
   .rw[Qi z]at q;exact .inr q
  refine k.dp.map (λm p d q=>?_) (λm es q=>?_) λm p d v fp q s r w n=>⟨r.mono sg (.refl _),λb mb=>⟨(w b mb).1,?_⟩⟩
  .rcases nz q with ⟨_,e⟩|q
   .cases e
   .exact⟨q,rfl⟩
  .rcases nz q with ⟨_,e⟩|q
   .cases e
   .exact⟨es,q,rfl⟩
  .rw[UI (λz=>by subst z;exact n i ds b h h1 mb)];exact(w b mb).2
inductive Res(α:Type) where
 |ok (a:α) (ρ:Um)|bad
noncomputable abbrev M(α:Type):=Um->Res α
noncomputable def Up{α:Type}(a:α):M α:=λρ=>.ok a ρ
noncomputable def UB{α:Type}(o:Option α):M α:=λρ=>match o with|some a=>.ok a ρ|none=>.bad
noncomputable def UD{α β:Type}(f:M α)(k:α->M β):M β:=λρ=>match f ρ with | .ok a ρ'=>k a ρ' | .bad=>.bad
section
variable(K:Frag)(B G0:Hp)
def aft{α γ:Type}(R:Hp->γ->α->Prop)(r:Res α)(G:Hp)(σ:St)(Q:γ->Hp->Prop):Prop:=
 match r with
 |.ok d ρ'=>∀v G' H',EOk K B G0 G' H' σ ρ'->Same G G'->R G' v d->Q v H'
 |.bad=>False
noncomputable def tM{α γ:Type}(R:Hp->γ->α->Prop)(f:M α):St->Hp->(γ->Hp->Prop)->Prop:=λσ H Q=>
 ∃G ρ,EOk K B G0 G H σ ρ/\aft K B G0 R (f ρ) G σ Q
noncomputable abbrev tD(f:M D):TE:=tM K B G0 (Rep K) f
noncomputable abbrev tDs(f:M B4):TA:=tM K B G0 (Reps K) f
noncomputable abbrev tBo(f:M Bool):TT:=tM K B G0 (λ_ b c=>b=c) f
noncomputable abbrev tOi(f:M Ac):TO:=tM K B G0 (λ_ b c=>b=c) f
end
section
variable{K:Frag}{B G0:Hp}{α β γ δ ε:Type}{R:Hp->γ->α->Prop}{S:Hp->δ->β->Prop}{T:Hp->ε->α->Prop}{σ:St}{H:Hp}
theorem aft.mono{r:Res α}{G G':Hp}{Q:γ->Hp->Prop}(e:Same G G')(h:aft K B G0 R r G σ Q):aft K B G0 R r G' σ Q:=by
 cases r with
 |ok d ρ=>exact λv G2 H2 k s q=>h v G2 H2 k (e.trans s) q
 |bad=>exact h
theorem aft.done{d:α}{ρ:Um}{G G' H H':Hp}{v:γ}{Q:γ->Hp->Prop}(h:aft K B G0 R (.ok d ρ) G σ Q)(k:EOk K B G0 G H σ ρ)(e:Ext G H G' H')(r:R G' v d):Q v H':=
 h v G' H' (k.ext e) e.g r
theorem aft.now{d:α}{ρ:Um}{G H:Hp}{v:γ}{Q:γ->Hp->Prop}(h:aft K B G0 R (.ok d ρ) G σ Q)(k:EOk K B G0 G H σ ρ)(r:R G v d):Q v H:=
 h v G H k (.refl _) r
theorem aft.opt{o:Option α}{ρ:Um}{G:Hp}{Q:γ->Hp->Prop}(h:aft K B G0 R (UB o ρ) G σ Q):∃d,o=O d/\aft K B G0 R (.ok d ρ) G σ Q:=by
 cases o with
 |none=>exact h.elim
 |some d=>exact⟨d,rfl,h⟩
theorem tM.bind{f:M α}{k:α->M β}{Q:δ->Hp->Prop}(h:tM K B G0 S (UD f k) σ H Q) :
  tM K B G0 R f σ H (λv H1=>∃G ρ d,EOk K B G0 G H1 σ ρ/\R G v d/\aft K B G0 S (k d ρ) G σ Q):=by
 obtain⟨G,ρ,e,a⟩:=h;refine⟨G,ρ,e,?_⟩;unfold UD at a;cases q:f ρ with
 |bad=>rw[q]at a;exact a.elim
 |ok d ρ1=>rw[q]at a;exact λv G' H' e' s r=>⟨G',ρ1,d,e',r,aft.mono s a⟩
theorem tM.bind2{α' γ':Type}{R':Hp->γ'->α'->Prop}{f:M α}{g:α->M α'}{k:α->α'->M β}{Q:δ->Hp->Prop}(mo:∀G G' v d,Same G G'->R G v d->R G' v d)
  (h:tM K B G0 S (UD f λx=>UD (g x) λy=>k x y) σ H Q) :
  tM K B G0 R f σ H (λv H1=>∃x,tM K B G0 R' (g x) σ H1 λu H2=>∃G ρ y,EOk K B G0 G H2 σ ρ/\R G v x/\R' G u y/\aft K B G0 S (k x y ρ) G σ Q):=by
 obtain⟨G,ρ,e,a⟩:=tM.bind (R:=R) h;refine⟨G,ρ,e,?_⟩;cases q:f ρ with
 |bad=>rw[q]at a;exact a.elim
 |ok d ρ1=>
  rw[q]at a;intro v G' H' e' s r;obtain⟨G2,ρ2,d2,e2,r2,a2⟩:=a v G' H' e' s r;refine⟨d2,G2,ρ2,e2,?_⟩;unfold UD at a2;cases q2:g d2 ρ2 with
  |bad=>rw[q2]at a2;exact a2.elim
  |ok d3 ρ3=>rw[q2]at a2;exact λu G3 H3 e3 s3 r3=>⟨G3,ρ3,d3,e3,mo _ _ _ _ s3 r2,r3,aft.mono s3 a2⟩
end
theorem Oe{K:Frag}(G G':Hp)(v:V)(d:D)(e:Same G G')(r:Rep K G v d):Rep K G' v d:=r.mono e
theorem tM.two{K:Frag}{B G0:Hp}{β δ:Type}{S:Hp->δ->β->Prop}{σ:St}{H:Hp}{f g:M D}{k:D->D->M β}{Q:δ->Hp->Prop}{P:V->V->Hp->Prop}
  (h:tM K B G0 S (UD f λx=>UD g λy=>k x y) σ H Q)
  (i:∀v u H2 G ρ x y,EOk K B G0 G H2 σ ρ->Rep K G v x->Rep K G u y->aft K B G0 S (k x y ρ) G σ Q->P v u H2) :
  tD K B G0 f σ H (λv H1=>tD K B G0 g σ H1 λu H2=>P v u H2):=by
 obtain⟨G,ρ,e,a⟩:=tM.bind2 (R:=Rep K) (R':=Rep K) Oe h;refine⟨G,ρ,e,?_⟩;cases q:f ρ with
 |bad=>rw[q]at a;exact a.elim
 |ok d ρ1=>
  rw[q]at a;intro v G' H' e' s r;obtain⟨x,G2,ρ2,e2,a2⟩:=a v G' H' e' s r;refine⟨G2,ρ2,e2,?_⟩;cases q2:g ρ2 with
  |bad=>rw[q2]at a2;exact a2.elim
  |ok d3 ρ3=>rw[q2]at a2;intro u G3 H3 e3 s3 r3;obtain⟨G4,ρ4,y,e4,r4,r5,a5⟩:=a2 u G3 H3 e3 s3 r3;exact i v u H3 G4 ρ4 x y e4 r4 r5 a5
theorem tM.one{K:Frag}{B G0:Hp}{α β γ δ:Type}{R:Hp->γ->α->Prop}{S:Hp->δ->β->Prop}{σ:St}{H:Hp}{f:M α}{k:α->M β}{Q:δ->Hp->Prop}{P:γ->Hp->Prop}
  (h:tM K B G0 S (UD f k) σ H Q) (i:∀v H2 G ρ x,EOk K B G0 G H2 σ ρ->R G v x->aft K B G0 S (k x ρ) G σ Q->P v H2):tM K B G0 R f σ H P:=by
 obtain⟨G,ρ,e,a⟩:=tM.bind (R:=R) h;refine⟨G,ρ,e,?_⟩;cases q:f ρ with
 |bad=>rw[q]at a;exact a.elim
 |ok d ρ1=>rw[q]at a;intro v G' H' e' s r;obtain⟨G2,ρ2,d2,e2,r2,a2⟩:=a v G' H' e' s r;exact i v H' G2 ρ2 d2 e2 r2 a2
section
variable{X:Cx}{B G0:Hp}{e a b:JZ}{pos:Pos}
theorem UK{t t':TE}(h:PE X e t)(i:∀σ H Q,t' σ H Q->t σ H Q):PE X e t':=λpins s σ H Q I q=>h pins s σ H Q I (i σ H Q q)
theorem Z6{t t':TT}(h:PT X e t)(i:∀σ H Q,t' σ H Q->t σ H Q):PT X e t':=λpins s σ H Q I q=>h pins s σ H Q I (i σ H Q q)
theorem paof{es:B8}{t t':TA}(h:PA X es t)(i:∀σ H Q,t' σ H Q->t σ H Q):PA X es t':=λps pins s σ H Q I q=>h ps pins s σ H Q I (i σ H Q q)
theorem poof{eo:Option JZ}{t t':TO}(h:PO X eo t)(i:∀σ H Q,t' σ H Q->t σ H Q):PO X eo t':=λpins s σ H Q I q=>h pins s σ H Q I (i σ H Q q)
theorem U9{st:Stmt}{t t':TS}(h:PS X st t)(i:∀D σ H,t' D σ H->t D σ H):PS X st t':=λpins s σ H D I q=>h pins s σ H D I (i D σ H q)
theorem Wj{st:List Stmt}{t t':TS}(h:PSs X st t)(i:∀D σ H,t' D σ H->t D σ H):PSs X st t':=λpins s σ H D I q=>h pins s σ H D I (i D σ H q)
noncomputable def Uo(i:Nat):M D:=λρ=>match ρ[i]? with
 |some (O (.pub d))=>.ok d ρ
 |some (O (.own ds))=>.ok (.list ds) (ρ.set i (O (.pub (.list ds))))
 |_=>.bad
theorem Pn{i:Nat}(h:PE X e (UZ i)):PE X e (tD X.K B G0 (Uo i)):=UK h λσ H Q ⟨G,ρ,k,a⟩=>by
 unfold Uo at a;cases q:ρ[i]? with
 |none=>rw[q]at a;exact a.elim
 |some o=>
  cases o with
  |none=>rw[q]at a;exact a.elim
  |some sl=>
   cases sl with
   |deep _ _=>rw[q]at a;exact a.elim
   |pub d=>rw[q]at a;obtain⟨v,h1,h2⟩:=k.pub i d q;exact⟨v,h1,a.now k h2⟩
   |own ds=>rw[q]at a;obtain⟨ad,G',h1,h2,h3,h4⟩:=k.publish q;exact⟨.ref ad,h1,a (.ref ad) G' H h4 h2 h3⟩
theorem Tq{v:V}{d:D}(h:PE X e (tC v))(r:∀G,Rep X.K G v d):PE X e (tD X.K B G0 (Up d)):=UK h λσ H Q ⟨G,ρ,k,a⟩=>a.now k (r G)
theorem Gr{i:Int}{j}:PE X (.Constant (.int i) j pos) (tD X.K B G0 (Up (.int i))):=Tq VG λ_=>.int i
theorem F1{i:Bool}{j}:PE X (.Constant (.bool i) j pos) (tD X.K B G0 (Up (.bool i))):=Tq MJ λ_=>.bl i
theorem FZ{j}:PE X (.Constant .none j pos) (tD X.K B G0 (Up .none)):=Tq Hn λ_=>.non
theorem Gq{x:Str}{j}:PE X (.Constant (.str x) j pos) (tD X.K B G0 (Up (.str x))):=Tq Tv λ_=>.str x
noncomputable def Uw{β:Type}(op:D->D->Option β)(f g:M D):M β:=UD f λx=>UD g λy=>UB (op x y)
def OpD(X:Cx)(f:JU->JU->Sem JU)(op:D->D->B9):Prop:=
 ∃r:R2,OpR X f r/\∀v u G H x y d Q,Same G H->Rep X.K G v x->Rep X.K G u y->op x y=O d->(∀w G' H',Ext G H G' H'->Rep X.K G' w d->Q w H')->r v u H Q
theorem Wi{op:Operator}{p:D->D->B9}{f g:M D}(o:OpD X (binaryOp op) p)(ha:PE X a (tD X.K B G0 f))(hb:PE X b (tD X.K B G0 g)):PE X (.BinOp a op b pos) (tD X.K B G0 (Uw p f g)):=by
 obtain⟨r,h,i⟩:=o;refine UK (Mz h ha hb) λσ H Q q=>?_;refine tM.two q λv u H2 G ρ x y k rx ry a=>?_
 obtain⟨d,e,a⟩:=a.opt;exact i v u G H2 x y d Q k.gh rx ry e λw G' H' ex rw=>a.done k ex rw
theorem OpD.or{f:JU->JU->Sem JU}{p q:D->D->B9}(h:OpD X f p)(h':OpD X f q):OpD X f (λx y=>(p x y).orElse λ_=>q x y):=by
 obtain⟨r,h1,i1⟩:=h;obtain⟨r',h2,i2⟩:=h';refine⟨_,h1.or h2,λv u G H x y d Q s rx ry e k=>?_⟩;dsimp only at e;cases z:p x y with
 |some d'=>rw[z]at e;have e':d'=d:=Q7 e;subst e';exact .inl (i1 v u G H x y d' Q s rx ry z k)
 |none=>rw[z]at e;exact .inr (i2 v u G H x y d Q s rx ry e k)
noncomputable def oII(g:Int->Int->B9):D->D->B9
 |.int i,.int j=>g i j
 |_,_=>B0
theorem Od{g:Int->Int->B9}{x y d:D}(e:oII g x y=O d):∃i j,x=.int i/\y=.int j/\g i j=O d:=by
 unfold oII at e;split at e
 .exact⟨_,_,rfl,rfl,e⟩
 .cases e
theorem OpD.int{f:JU->JU->Sem JU}{C:Int->Int->Prop}{g:Int->Int->V}{p:Int->Int->B9}(h:OpR X f (rI C g))(i:∀i j d,p i j=O d->C i j/\∀G,Rep X.K G (g i j) d):OpD X f (oII p):=by refine⟨_,h,λv u G H x y d Q s rx ry e k=>?_⟩;obtain⟨a,b,rfl,rfl,e⟩:=Od e;obtain⟨c,r⟩:=i a b d e;exact⟨a,b,rx.int_inv,ry.int_inv,c,k _ G H (.refl s) (r G)⟩
theorem OpD.int0{f:JU->JU->Sem JU}{g:Int->Int->V}{p:Int->Int->D}(h:OpR X f (rI0 g))(i:∀i j G,Rep X.K G (g i j) (p i j)):OpD X f (oII λi j=>O (p i j)):=by refine⟨_,h,λv u G H x y d Q s rx ry e k=>?_⟩;obtain⟨a,b,rfl,rfl,e⟩:=Od e;cases e;exact⟨a,b,rx.int_inv,ry.int_inv,k _ G H (.refl s) (i a b G)⟩
end
section
variable{X:Cx}{B G0:Hp}{e a b c:JZ}{pos:Pos}
theorem Gp:OpD X (binaryOp .Add) (oII λi j=>O (.int (i+j))):=.int0 Ga λ_ _ _=>.int _
theorem Go:OpD X (binaryOp .Sub) (oII λi j=>O (.int (i-j))):=.int0 HZ λ_ _ _=>.int _
noncomputable def YH(i j:Int):B9:=if(-(2 ^ 64)<i/\i<2 ^ 64)∨(-(2 ^ 64)<j/\j<2 ^ 64)then O (.int (i*j))else B0
theorem FY:OpD X (binaryOp .Mult) (oII YH):=.int HY λi j d h=>by
 unfold YH at h;split at h
 .rename_i c
  cases h;exact⟨c,λ_=>.int _⟩
 .cases h
noncomputable def Xy(i j:Int):B9:=if 0<j then O (.int (i % j))else B0
theorem Gn:OpD X (binaryOp .Mod) (oII Xy):=.int HX λi j d h=>by
 unfold Xy at h;split at h
 .rename_i c
  cases h;exact⟨c,λ_=>.int _⟩
 .cases h
theorem Dv:OpR X (binaryOp .FloorDiv) (rI (λi j=>0<j/\j<2 ^ 200) λi j=>.int (i / j)):=opI λi j _ _ _ _ _ hc q=>by
 have h1:(0:Int)<j:=hc.1;have h2:j<2 ^ 200:=hc.2;refine floordiv_int (by lia) (by rw[Int.fdiv_eq_ediv_of_nonneg i (by lia)];exact q) (.inl (PyProof.noPylong_of_log2 ?_));have h0:j.natAbs≠0:=by lia
 have:j.natAbs.log2<200:=(Nat.log2_lt h0).mpr (by lia)
 lia
noncomputable def Xz(i j:Int):B9:=if 0<j/\j<2 ^ 200 then O (.int (i / j))else B0
theorem LQ:OpD X (binaryOp .FloorDiv) (oII Xz):=.int Dv λi j d h=>by
 unfold Xz at h;split at h
 .rename_i c
  cases h;exact⟨c,λ_=>.int _⟩
 .cases h
noncomputable def Xx(i j:Int):B9:=if 0<=j/\j<=1000000/\i.natAbs<2 ^ 64 then O (.int (i ^ j.toNat))else B0
theorem LP:OpD X (binaryOp .Pow) (oII Xx):=.int HW λi j d h=>by
 unfold Xx at h;split at h
 .rename_i c
  cases h;exact⟨c,λ_=>.int _⟩
 .cases h
theorem lim:(1000000:Nat)<=J0:=by decide
noncomputable def Tf:D->D->B9
 |.str x,.str y=>if x.length+y.length<=1000000 then O (.str (x++y))else B0
 |_,_=>B0
theorem FX:OpD X (binaryOp .Add) Tf:=by
 refine⟨_,Bd,λv u G H x y d Q s rx ry e k=>?_⟩;unfold Tf at e;split at e
 .split at e
  .rename_i c
   cases e;exact⟨_,_,rx.str_inv,ry.str_inv,Qq c lim,k _ G H (.refl s) (.str _)⟩
  .cases e
 .cases e
noncomputable def Mp(K:Frag):R2:=λx y H Q=>∃l b xs zs,x=.ref l/\y=.ref b/\SqL K H l xs/\SqL K H b zs/\xs.length+zs.length<=J0/\∀p,H p=B0->Q (.ref p) (upd H p (.lst (xs++zs)))
theorem FW:OpR X (binaryOp .Add) (Mp X.K):=by
 intro pins s σ H x y v u Q I rx ry h;obtain⟨l,b,xs,zs,rfl,rfl,hH,hB,hz,q⟩:=h;cases rx;cases ry;obtain⟨its,r,⟨⟨c1,d1,t1,s1⟩,n1,e1,qQ,qP,qO⟩,z1⟩:=I.list hH;obtain⟨its2,r2,⟨⟨c2,d2,t2,s2⟩,n2,e2,ec2,ed2,et2⟩,z2⟩:=I.list hB;simp only at qQ qP qO ec2 ed2 et2;subst qQ qP qO ec2 ed2 et2;have hl:=r.length;have hl2:=r2.length;refine concat_meets ⟨_,e1,rfl⟩ ⟨_,e2,rfl⟩ noFill_list_add seq_list_add PySem.F.slot_list_add PySem.F.entry_list_add (PySem.F.args_list_add_2 _ _) (list_addW l b its.toArray its2.toArray n1 n2 B0 B0 s1 s2 (by rw[QU,QU];lia)) ⟨e1,e2,?_⟩;have ea:its.toArray++its2.toArray=(its++its2).toArray:=by simp
 rw[ea];exact⟨.ref _,_,I.lnew (t':=s.toks) (r.append r2) (by rw[Qo];lia),rfl,q _ I.fresh⟩
theorem Mo(a:Int)(t:Tok)(l:JX)(items:Array JU)(n:Nat)(sl:Array B7) :
  Meets (Builtin.«int.__rmul__» ⟨[.int a t,.ref l],[]⟩) (λ_ R s=>s.heap.get? l=O {cls:=.type "list", dict:=B0,data:=.seq items n,slots:=sl}/\R (.ok (.ret Value.notImplemented)) s):=
 .of_wp λprog w A R s h=>by obtain⟨hp,g,d,tk,os⟩:=s;obtain⟨hl,h⟩:=h;wp_walk;exact⟨_,rfl,h⟩
theorem mulW(l:JX)(items:Array JU)(n:Nat)(x:Int)(u:Tok)(sl:Array B7)(hc0:¬(!Builtin.List.listFitsIndex x)=B2)(hc1:¬items.size*x.toNat > (2 ^ 63-1) / 8)(hc2:¬Builtin.List.listTooLong (items.size*x.toNat)=B2) :
  Meets (Builtin.«list.__mul__» ⟨[.ref l,.int x u],[]⟩) (λ_ R s=>s.heap.get? l=O {cls:=.type "list", dict:=B0,data:=.seq items n,slots:=sl}/\R (.ok (.ret (Value.ref s.heap.objs.size))) {s with heap:=s.heap.push {cls:=Value.type "list", data:=Data.seq (List.foldl (λx1 x2=>x1++x2) #[] (J8 (if items.isEmpty=B2 then 0 else x.toNat) items))},toks:=s.toks}):=
 .of_wp λprog w A R s h=>by
  obtain⟨hp,g,d,tk,os⟩:=s;obtain⟨hl,h⟩:=h;have hsz:=AutoListH.joined_fits hc2
  wp_walk;refine wpAny_ite_false (QP (Nat.not_lt.mpr hsz)) ?_;wp_walk;exact⟨_,rfl,h⟩
noncomputable def Mn(K:Frag):R2:=λx y H Q=>∃l k xs,x=.ref l/\y=.int k/\SqL K H l xs /\ -(2 ^ 63)<=k/\k<2 ^ 63/\xs.length*k.toNat<=J0 /\
 ∀p,H p=B0->Q (.ref p) (upd H p (.lst (J8 k.toNat xs).flatten))
theorem FV:OpR X (binaryOp .Mult) (Mn X.K):=by
 intro pins s σ H x y v u Q I rx ry h;obtain⟨l,k,xs,rfl,rfl,hH,h1,h2,hz,q⟩:=h;cases rx;obtain⟨t,rfl⟩:=ry;obtain⟨its,r,⟨⟨c1,d1,t1,sl⟩,n,e,qQ,qP,qO⟩,z⟩:=I.list hH;simp only at qQ qP qO;subst qQ qP qO;have hl:=r.length;have hlen:its.toArray.size*k.toNat<=J0:=by rw[QU,←hl];exact hz
 have hcap:¬its.toArray.size*k.toNat > (2 ^ 63-1) / 8:=by
  have:(J0:Nat)<=(2 ^ 63-1) / 8:=by decide
  lia
 have hfit:¬(!Builtin.List.listFitsIndex k)=B2:=by rw[fitsIndex_both h1 h2];exact Bool.false_ne_true
 have qE:¬Builtin.List.listTooLong (its.toArray.size*k.toNat)=B2:=by rw[DF hlen];exact Bool.false_ne_true
 have hnew:List.foldl (λx1 x2=>x1++x2) #[] (J8 (if its.toArray.isEmpty=B2 then 0 else k.toNat) its.toArray)=(J8 k.toNat its).flatten.toArray:=by
  have f0:∀m:Nat,List.foldl (λx1 x2=>x1++x2) #[] (J8 m its.toArray)=(J8 m its).flatten.toArray:=λm=>by have:=Nb its m [];rw[Jp]at this;exact this
  rw[f0];cases its with
  |nil=>simp
  |cons a r'=>rw[if_neg (by simp)]
 refine wpAny_binaryOp_repeat_ref (T:= "list") (U:= "int") (by decide) ⟨_,e,rfl⟩ (λs'=>typeIs_int s' k t) noFill_list_mul F.fills_int_mul F.slot_int_rmul repeat_list F.slot_int_index.lookup
  (call_meets F.slot_int_rmul (typeIs_int s k t) F.entry_int_rmul (F.args_int_rmul_2 _ _) (Mo k t l its.toArray n sl)
   ⟨e,rfl,⟨_,e,rfl⟩,call_meets F.slot_list_mul ⟨_,e,rfl⟩ F.entry_list_mul (F.args_list_mul_2 _ _) (mulW l its.toArray n k t sl hfit hcap qE) ⟨e,?_⟩⟩)
 rw[hnew];exact⟨.ref _,_,I.lnew (t':=s.toks) (r.rep k.toNat) (by rw[F9,Nat.mul_comm];exact hz),rfl,q _ I.fresh⟩
noncomputable def Te:D->D->B9
 |.list x,.list y=>if x.length+y.length<=1000000 then O (.list (x++y))else B0
 |_,_=>B0
theorem FT:OpD X (binaryOp .Add) Te:=by
 refine⟨_,FW,λv u G H x y d Q s rx ry e k=>?_⟩;unfold Te at e;split at e
 .split at e
  .rename_i c
   cases e;obtain⟨l,vs,rfl,h1,r1⟩:=rx.lst_inv;obtain⟨b,ws,rfl,h2,r2⟩:=ry.lst_inv;refine⟨l,b,vs,ws,rfl,rfl,s.seq h1,s.seq h2,by rw[r1.length,r2.length];exact Qq c lim,λp hp=>k _ _ _ (Ext.new s hp) ?_⟩;exact .lst (SqL.of UW) ((r1.append r2).mono (KB (s.free hp)))
  .cases e
 .cases e
theorem Reps.rep{K:Frag}{G:Hp}{vs:List V}{ds:B4}(r:Reps K G vs ds):∀n:Nat,Reps K G (J8 n vs).flatten (J8 n ds).flatten
 |0=>.nil
 |n+1=>by rw[Jj,Jj,QN,QN];exact r.append (r.rep n)
noncomputable def Td:D->D->B9
 |.list x,.int k=>if -1000000<=k/\k<=1000000/\x.length*k.toNat<=1000000 then O (.list (J8 k.toNat x).flatten)else B0
 |_,_=>B0
theorem FS:OpD X (binaryOp .Mult) Td:=by
 refine⟨_,FV,λv u G H x y d Q s rx ry e k=>?_⟩;unfold Td at e;split at e
 .split at e
  .rename_i c
   cases e;obtain⟨l,vs,rfl,h1,r1⟩:=rx.lst_inv;refine⟨l,_,vs,rfl,ry.int_inv,s.seq h1,by lia,by lia,by rw[r1.length];exact Qq c.2.2 lim,λp hp=>k _ _ _ (Ext.new s hp) ?_⟩;exact .lst (SqL.of UW) ((r1.rep _).mono (KB (s.free hp)))
  .cases e
 .cases e
noncomputable def UG:D->D->B9
 |.int i,.int j=>O (.int (i+j))
 |.str x,.str y=>if x.length+y.length<=1000000 then O (.str (x++y))else B0
 |.list x,.list y=>if x.length+y.length<=1000000 then O (.list (x++y))else B0
 |_,_=>B0
noncomputable def WD:D->D->B9
 |.int i,.int j=>O (.int (i-j))
 |_,_=>B0
noncomputable def U5:D->D->B9
 |.int i,.int j=>YH i j
 |.list x,.int k=>if -1000000<=k/\k<=1000000/\x.length*k.toNat<=1000000 then O (.list (J8 k.toNat x).flatten)else B0
 |_,_=>B0
noncomputable def Ky:D->D->B9
 |.int i,.int j=>Xy i j
 |_,_=>B0
noncomputable def Z9:D->D->B9
 |.int i,.int j=>Xz i j
 |_,_=>B0
noncomputable def YE:D->D->B9
 |.int i,.int j=>Xx i j
 |_,_=>B0
theorem OpD.congr{f:JU->JU->Sem JU}{p q:D->D->B9}(h:OpD X f p)(e:∀x y,q x y=p x y):OpD X f q:=by
 have:q=p:=by funext x y;exact e x y
 rw[this];exact h
theorem RQ:OpD X (binaryOp .Add) UG:=(Gp.or (FX.or FT)).congr λx y=>by cases x<;>cases y<;>first|rfl|(simp only[UG,oII,Tf,Te,Option.orElse];done)|(simp only[UG,oII,Tf,Te,Option.orElse];split<;>rfl)
theorem Mm:OpD X (binaryOp .Sub) WD:=Go.congr λx y=>by cases x<;>cases y<;>rfl
theorem RP:OpD X (binaryOp .Mult) U5:=(FY.or FS).congr λx y=>by cases x<;>cases y<;>first|rfl|(simp only[U5,oII,Td,Option.orElse];done)|(simp only[U5,oII,Td,Option.orElse];split<;>first|rfl|assumption)
theorem Lf:OpD X (binaryOp .Mod) Ky:=Gn.congr λx y=>by cases x<;>cases y<;>rfl
theorem Le:OpD X (binaryOp .FloorDiv) Z9:=LQ.congr λx y=>by cases x<;>cases y<;>rfl
theorem Ld:OpD X (binaryOp .Pow) YE:=LP.congr λx y=>by cases x<;>cases y<;>rfl
end
section
variable{X:Cx}{B G0:Hp}{e a b c:JZ}{pos:Pos}
def OpB(X:Cx)(f:JU->JU->Sem JU)(op:D->D->Af):Prop:=
 ∃r:R2,OpR X f r/\∀v u G H x y d Q,Same G H->Rep X.K G v x->Rep X.K G u y->op x y=O d->Q (.bl d) H->r v u H Q
theorem OpB.or{f:JU->JU->Sem JU}{p q:D->D->Af}(h:OpB X f p)(h':OpB X f q):OpB X f (λx y=>(p x y).orElse λ_=>q x y):=by
 obtain⟨r,h1,i1⟩:=h;obtain⟨r',h2,i2⟩:=h';refine⟨_,h1.or h2,λv u G H x y d Q s rx ry e k=>?_⟩;dsimp only at e;cases z:p x y with
 |some d'=>rw[z]at e;have e':d'=d:=Q7 e;subst e';exact .inl (i1 v u G H x y d' Q s rx ry z k)
 |none=>rw[z]at e;exact .inr (i2 v u G H x y d Q s rx ry e k)
theorem OpB.congr{f:JU->JU->Sem JU}{p q:D->D->Af}(h:OpB X f p)(e:∀x y,q x y=p x y):OpB X f q:=by
 have:q=p:=by funext x y;exact e x y
 rw[this];exact h
theorem FR{op:CmpOp}{p:D->D->Af}{f g:M D}(o:OpB X (J6 op) p)(ha:PE X a (tD X.K B G0 f))(hb:PE X b (tD X.K B G0 g))(hm:behindInMarks op b=B3) :
  PT X (.Compare a [op] [b] pos) (tBo X.K B G0 (Uw p f g)):=by
 obtain⟨r,h,i⟩:=o;refine Z6 (P9 h ha hb hm) λσ H Q q=>?_;refine tM.two q λv u H2 G ρ x y k rx ry a=>?_
 obtain⟨d,e,a⟩:=a.opt;exact i v u G H2 x y d _ k.gh rx ry e ⟨d,rfl,a.now k Z⟩
noncomputable def UA{α β:Type}(h:α->β)(f:M α):M β:=UD f λx=>Up (h x)
theorem tM.map{K:Frag}{α β γ δ:Type}{R:Hp->γ->α->Prop}{S:Hp->δ->β->Prop}{σ:St}{H:Hp}{h:α->β}{f:M α}{Q:δ->Hp->Prop}(j:γ->δ)(q:tM K B G0 S (UA h f) σ H Q)
  (i:∀G v x,R G v x->S G (j v) (h x)):tM K B G0 R f σ H (λv H'=>Q (j v) H'):=
 tM.one (R:=R) (f:=f) q λv H2 G ρ x k r a=>aft.now (show aft K B G0 S (.ok (h x) ρ) G σ Q from a) k (i G v x r)
theorem tBo.val{K:Frag}{σ:St}{H:Hp}{f:M Bool}{Q:VK}(q:tD K B G0 (UA Ua f) σ H Q):tBo K B G0 f σ H (λb H'=>Q (.bl b) H'):=
 tM.map (R:=λ_ b c=>b=c) V.bl q λG v x e=>by rw[e];exact .bl x
theorem FQ{op:CmpOp}{p:D->D->Af}{f g:M D}(o:OpB X (J6 op) p)(ha:PE X a (tD X.K B G0 f))(hb:PE X b (tD X.K B G0 g))(hm:behindInMarks op b=B3) :
  PE X (.Compare a [op] [b] pos) (tD X.K B G0 (UA Ua (Uw p f g))):=by
 obtain⟨r,h,i⟩:=o;refine UK (Oa h ha hb hm) λσ H Q q=>?_;refine tM.two (tBo.val q) λv u H2 G ρ x y k rx ry a=>?_
 obtain⟨d,e,a⟩:=a.opt;exact i v u G H2 x y d _ k.gh rx ry e (a.now k Z)
noncomputable def Xg(p q:D->D->Af)(f g h:M D):M Bool:=UD f λx=>UD g λy=>UD (UB (p x y)) λt=>if t=B2 then UD h λz=>UB (q y z)else Up B3
theorem CM{op op':CmpOp}{p q:D->D->Af}{f g h:M D}(o:OpB X (J6 op) p)(o':OpB X (J6 op') q)(ha:PE X a (tD X.K B G0 f))(hb:PE X b (tD X.K B G0 g))(hc:PE X c (tD X.K B G0 h))
  (hm:lastMarks [op,op'] [b,c]=B3:=by with_unfolding_all rfl):PT X (.Compare a [op,op'] [b,c] pos) (tBo X.K B G0 (Xg p q f g h)):=by
 obtain⟨r,h1,i⟩:=o;obtain⟨r',h2,i'⟩:=o';refine Z6 (DH h1 h2 ha hb hc hm) λσ H Q w=>?_;refine tM.two w λv u H2 G ρ x y k rx ry a=>?_
 cases z:p x y with
 |none=>rw[z]at a;exact a.elim
 |some t=>
  rw[z]at a;refine i v u G H2 x y t _ k.gh rx ry z ⟨t,rfl,?_⟩;cases t with
  |false=>rw[QD Bool.false_ne_true];exact⟨B3,rfl,aft.now a k Z⟩
  |true=>
   rw[Qr Z];refine⟨G,ρ,k,?_⟩;have a4:aft X.K B G0 (λ_ (b:Bool) c=>b=c) ((UD h λz=>UB (q y z)) ρ) G σ Q:=a;unfold UD at a4;cases z2:h ρ with
   |bad=>rw[z2]at a4;exact a4.elim
   |ok d ρ1=>rw[z2]at a4;intro w G5 H5 k5 s5 r5;obtain⟨t2,e2,a6⟩:=a4.opt;exact i' u w G5 H5 y d t2 _ k5.gh (ry.mono s5) r5 e2 ⟨t2,rfl,a6 t2 G5 H5 k5 s5 Z⟩
theorem CL{op op':CmpOp}{p q:D->D->Af}{f g h:M D}(o:OpB X (J6 op) p)(o':OpB X (J6 op') q)(ha:PE X a (tD X.K B G0 f))(hb:PE X b (tD X.K B G0 g))(hc:PE X c (tD X.K B G0 h))
  (hm:lastMarks [op,op'] [b,c]=B3:=by with_unfolding_all rfl):PE X (.Compare a [op,op'] [b,c] pos) (tD X.K B G0 (UA Ua (Xg p q f g h))):=by
 obtain⟨r,h1,i⟩:=o;obtain⟨r',h2,i'⟩:=o';refine UK (DI h1 h2 ha hb hc hm) λσ H Q w=>?_;refine tM.two (tBo.val w) λv u H2 G ρ x y k rx ry a=>?_
 cases z:p x y with
 |none=>rw[z]at a;exact a.elim
 |some t=>
  rw[z]at a;refine i v u G H2 x y t _ k.gh rx ry z ⟨t,rfl,?_⟩;cases t with
  |false=>rw[QD Bool.false_ne_true];exact aft.now (v:=B3) a k Z
  |true=>
   rw[Qr Z];refine⟨G,ρ,k,?_⟩;have a4:aft X.K B G0 (λ_ (b:Bool) c=>b=c) ((UD h λz=>UB (q y z)) ρ) G σ (λb H'=>Q (.bl b) H'):=a;unfold UD at a4;cases z2:h ρ with
   |bad=>rw[z2]at a4;exact a4.elim
   |ok d ρ1=>rw[z2]at a4;intro w G5 H5 k5 s5 r5;obtain⟨t2,e2,a6⟩:=a4.opt;exact i' u w G5 H5 y d t2 _ k5.gh (ry.mono s5) r5 e2 (a6 t2 G5 H5 k5 s5 Z)
noncomputable def oIB(g:Int->Int->Bool):D->D->Af
 |.int i,.int j=>O (g i j)
 |_,_=>B0
theorem OpB.int{f:JU->JU->Sem JU}{g:Int->Int->Bool}(h:OpR X f (rI0 λi j=>.bl (g i j))):OpB X f (oIB g):=by
 refine⟨_,h,λv u G H x y d Q s rx ry e k=>?_⟩;unfold oIB at e;split at e
 .cases e
  exact⟨_,_,rx.int_inv,ry.int_inv,k⟩
 .cases e
theorem B_lt:OpB X (J6 .Lt) (oIB λi j=>decide (i<j)):=.int Mx
theorem B_le:OpB X (J6 .LtE) (oIB λi j=>decide (i<=j)):=.int Mw
theorem B_gt:OpB X (J6 .Gt) (oIB λi j=>decide (j<i)):=.int Mv
theorem B_ge:OpB X (J6 .GtE) (oIB λi j=>decide (j<=i)):=.int Mu
mutual
theorem Xm{pins:List (JX×Obj)}{s:JV}{σ:St}{G H:Hp}(I:Inv X pins σ H s)(sg:Same G H):∀{v:V}{d:D}{u:JU},Rep X.K G v d->RelV v u->d.canLay0=B2->∃as,Reads s.heap u d as
 |_,_,_,.non,r,_=>by cases r;exact⟨_,.none⟩
 |_,_,_,.bl b,r,_=>by cases r;exact⟨_,.bool b⟩
 |_,_,_,.int i,r,_=>by obtain⟨t,rfl⟩:=r;exact⟨_,.int i t⟩
 |_,_,_,.str x,r,_=>by obtain⟨t,rfl⟩:=r;exact⟨_,.str x t⟩
 |_,_,_,.lst h q,r,c=>by cases r;obtain⟨its,rv,⟨o,n,e,hc,_,hd⟩,hz⟩:=I.list (sg.seq h);obtain⟨as,ra⟩:=readsAll_of I sg q rv (show Ud _=B2 by simpa[PyData.canLay0]using c);exact⟨_,.list e hc hd (by simpa using ra)⟩
 |_,_,_,.tup h q,r,c=>by cases r;obtain⟨its,rv,p,hz⟩:=I.tuple (ZE sg h);obtain⟨o,e,hc,n,hd⟩:=p;obtain⟨as,ra⟩:=readsAll_of I sg q rv (show Ud _=B2 by simpa[PyData.canLay0]using c);exact⟨_,.tuple e hc hd (by simpa using ra)⟩
 |_,_,_,.dic h,r,c=>by simp[PyData.canLay0]at c
 |_,_,_,.exc _ _ _ _,r,c=>by simp[PyData.canLay0]at c
 |_,_,_,.dct _ _ _ _ _,r,c=>by simp[PyData.canLay0]at c
 |_,_,_,.dtt _ _ _ _,r,c=>by simp[PyData.canLay0]at c
theorem readsAll_of{pins:List (JX×Obj)}{s:JV}{σ:St}{G H:Hp}(I:Inv X pins σ H s)(sg:Same G H):∀{vs:List V}{ds:B4}{us:B5},Reps X.K G vs ds->Vals vs us->Ud ds=B2->∃as,ReadsAll s.heap us ds as
 |_,_,_,.nil,r,_=>by cases r;exact⟨_,.nil⟩
 |_,_,_,.cons h t,r,c=>by
  cases r with
  |cons r1 r2=>have c':=c;rw[Ud,Qn]at c';obtain⟨as,ra⟩:=Xm I sg h r1 c'.1;obtain⟨bs,rb⟩:=readsAll_of I sg t r2 c'.2;exact⟨_,.cons ra rb⟩
end
noncomputable def oEq(x y:D):Af:=if x.canLay0=B2/\y.canLay0=B2/\x.depth<=60 then O (Uf x y)else B0
noncomputable def oNe(x y:D):Af:=if x.canLay0=B2/\y.canLay0=B2/\x.depth<=60 then O (!Uf x y)else B0
theorem B_eq(hu:X.A.units+64<cLine):OpB X (J6 .Eq) oEq:=by
 refine⟨λv u H Q=>∃G x y d,Same G H/\Rep X.K G v x/\Rep X.K G u y/\oEq x y=O d/\Q (.bl d) H,?_,λv u G H x y d Q s rx ry e k=>⟨G,x,y,d,s,rx,ry,e,k⟩⟩;intro pins s σ H x y v u Q I rx ry ⟨G,dx,dy,d,sg,px,py,e,q⟩;unfold oEq at e;split at e
 .rename_i c
  cases e;obtain⟨as,ra⟩:=Xm I sg px rx c.1;obtain⟨bs,rb⟩:=Xm I sg py ry c.2.1;exact SeqAt.compareEq_reads ra rb c.1 c.2.1 (by have:=c.2.2;lia) ⟨.bl _,H,I,rfl,q⟩
 .cases e
theorem B_ne(hu:X.A.units+64<cLine):OpB X (J6 .NotEq) oNe:=by
 refine⟨λv u H Q=>∃G x y d,Same G H/\Rep X.K G v x/\Rep X.K G u y/\oNe x y=O d/\Q (.bl d) H,?_,λv u G H x y d Q s rx ry e k=>⟨G,x,y,d,s,rx,ry,e,k⟩⟩;intro pins s σ H x y v u Q I rx ry ⟨G,dx,dy,d,sg,px,py,e,q⟩;unfold oNe at e;split at e
 .rename_i c
  cases e;obtain⟨as,ra⟩:=Xm I sg px rx c.1;obtain⟨bs,rb⟩:=Xm I sg py ry c.2.1;exact SeqAt.compareNe_reads ra rb c.1 c.2.1 (by have:=c.2.2;lia) ⟨.bl _,H,I,rfl,q⟩
 .cases e
end
section
variable{X:Cx}{B G0:Hp}{e a b c:JZ}{pos:Pos}{es rest:B8}
theorem tM.nx{K:Frag}{α β γ δ:Type}{R:Hp->γ->α->Prop}{S:Hp->δ->β->Prop}{σ:St}{G H:Hp}{ρ:Um}{f:M α}{g:α->M β}{Q:δ->Hp->Prop}{P:γ->Hp->Prop}
  (k:EOk K B G0 G H σ ρ) (a:aft K B G0 S (UD f g ρ) G σ Q) (i:∀v H' G' ρ' x,EOk K B G0 G' H' σ ρ'->Same G G'->R G' v x->aft K B G0 S (g x ρ') G' σ Q->P v H'):tM K B G0 R f σ H P:=by
 refine⟨G,ρ,k,?_⟩;unfold UD at a;cases q:f ρ with
 |bad=>rw[q]at a;exact a.elim
 |ok d ρ1=>rw[q]at a;exact λv G' H' e s r=>i v H' G' ρ1 d e s r (aft.mono s a)
noncomputable def Zk(f g:M Bool):M Bool:=UD f λt=>if t=B2 then g else Up B3
noncomputable def mOr(f g:M Bool):M Bool:=UD f λt=>if t=B2 then Up B2 else g
noncomputable def UR(f:M Bool):M Bool:=UA (λt=>!t) f
theorem FP{K:Frag}{f g:M Bool}{σ:St}{H:Hp}{Q:Bool->Hp->Prop}(q:tBo K B G0 (Zk f g) σ H Q):tAnd (tBo K B G0 f) (tBo K B G0 g) σ H Q:=
 tM.one (R:=λ_ b c=>b=c) q λv H2 G ρ x k r a=>by
  have r:v=x:=r;subst r;cases v with
  |true=>exact⟨G,ρ,k,a⟩
  |false=>exact aft.now (v:=B3) a k Z
theorem LO{K:Frag}{f g:M Bool}{σ:St}{H:Hp}{Q:Bool->Hp->Prop}(q:tBo K B G0 (mOr f g) σ H Q):tOr (tBo K B G0 f) (tBo K B G0 g) σ H Q:=
 tM.one (R:=λ_ b c=>b=c) q λv H2 G ρ x k r a=>by
  have r:v=x:=r;subst r;cases v with
  |false=>exact⟨G,ρ,k,a⟩
  |true=>exact aft.now (v:=B2) a k Z
theorem pwof{t t':TT}(h:PW X e t)(i:∀σ H Q,t' σ H Q->t σ H Q):PW X e t':=λwh pins s σ H Q I q=>h wh pins s σ H Q I (i σ H Q q)
theorem Du{f:M Bool}(ha:PT X a (tBo X.K B G0 f)):PW X (.BoolOp .And [a] pos) (tBo X.K B G0 f):=FM ha
theorem Em{f:M Bool}(ha:PT X a (tBo X.K B G0 f)):PW X (.BoolOp .Or [a] pos) (tBo X.K B G0 f):=Gk ha
theorem El{f g:M Bool}(ha:PT X a (tBo X.K B G0 f))(hb:PW X (.BoolOp .And (b::rest) pos) (tBo X.K B G0 g)):PW X (.BoolOp .And (a::b::rest) pos) (tBo X.K B G0 (Zk f g)):=pwof (Gj ha hb) λ_ _ _ q=>FP q
theorem LN{f g:M Bool}(ha:PT X a (tBo X.K B G0 f))(hb:PW X (.BoolOp .Or (b::rest) pos) (tBo X.K B G0 g)):PW X (.BoolOp .Or (a::b::rest) pos) (tBo X.K B G0 (mOr f g)):=pwof (MI ha hb) λ_ _ _ q=>LO q
theorem Ek{f:M Bool}(ha:PT X a (tBo X.K B G0 f)):PT X (.UnaryOp .Not a pos) (tBo X.K B G0 (UR f)):=Z6 (Gi ha) λσ H Q q=>tM.map (R:=λ_ b c=>b=c) (λt=>!t) q λ_ v x e=>by rw[e]
noncomputable def Ko(f:M D):M Bool:=UD f λx=>match x with | .bool t=>Up t|_=>λ_=>.bad
theorem Ej{f:M D}(h:PE X e (tD X.K B G0 f))(he:∀whole,isTrue e X.env whole=(do let v ←whole;standAt e.pos;holding [v] (truthy v)):=by intro _;rfl):PT X e (tBo X.K B G0 (Ko f)):=
 Z6 (Gm h he) λσ H Q q=>tM.one (R:=Rep X.K) q λv H2 G ρ x k r a=>by
  cases x with
  |bool t=>exact⟨t,r.bl_inv,aft.now (v:=t) a k Z⟩
  |_=>exact a.elim
noncomputable def Yr(f g:M D):M D:=UD f λx=>match x with | .bool B2=>g | .bool B3=>Up (.bool B3)|_=>λ_=>.bad
noncomputable def W7(f:M D):M D:=UD f λx=>match x with | .bool t=>Up (.bool (!t))|_=>λ_=>.bad
theorem Ei{f g:M D}(ha:PE X a (tD X.K B G0 f))(hb:PE X (.BoolOp .And (b::rest) pos) (tD X.K B G0 g)):PE X (.BoolOp .And (a::b::rest) pos) (tD X.K B G0 (Yr f g)):=
 UK (Gg ha hb) λσ H Q q=>tM.one (R:=Rep X.K) q λv H2 G ρ x k r a=>by
  cases x with
  |bool t=>
   refine⟨t,r.bl_inv,?_⟩;cases t with
   |true=>exact⟨G,ρ,k,a⟩
   |false=>exact aft.now a k (.bl B3)
  |_=>exact a.elim
theorem Eh{op}{f:M D}(h:PE X a (tD X.K B G0 f)):PE X (.BoolOp op [a] pos) (tD X.K B G0 f):=Gh h
theorem Eg{f:M D}(ha:PE X a (tD X.K B G0 f)):PE X (.UnaryOp .Not a pos) (tD X.K B G0 (W7 f)):=
 UK (Ge ha) λσ H Q q=>tM.one (R:=Rep X.K) q λv H2 G ρ x k r a=>by
  cases x with
  |bool t=>exact⟨t,r.bl_inv,aft.now a k (.bl _)⟩
  |_=>exact a.elim
noncomputable def Uq:M B4:=Up []
noncomputable def Ur(f:M D)(g:M B4):M B4:=UD f λx=>UD g λxs=>Up (x::xs)
theorem Ef:PA X [] (tDs X.K B G0 Uq):=paof Zd λσ H Q ⟨G,ρ,k,a⟩=>aft.now a k .nil
theorem tM.twoA{K:Frag}{σ:St}{H:Hp}{f:M D}{g:M B4}{β δ:Type}{S:Hp->δ->β->Prop}{k:D->B4->M β}{Q:δ->Hp->Prop}{P:V->List V->Hp->Prop}
  (h:tM K B G0 S (UD f λx=>UD g λy=>k x y) σ H Q)
  (i:∀v u H2 G ρ x y,EOk K B G0 G H2 σ ρ->Rep K G v x->Reps K G u y->aft K B G0 S (k x y ρ) G σ Q->P v u H2) :
  tD K B G0 f σ H (λv H1=>tDs K B G0 g σ H1 λu H2=>P v u H2):=by
 obtain⟨G,ρ,e,a⟩:=tM.bind2 (R:=Rep K) (R':=Reps K) Oe h;refine⟨G,ρ,e,?_⟩;cases q:f ρ with
 |bad=>rw[q]at a;exact a.elim
 |ok d ρ1=>
  rw[q]at a;intro v G' H' e' s r;obtain⟨x,G2,ρ2,e2,a2⟩:=a v G' H' e' s r;refine⟨G2,ρ2,e2,?_⟩;cases q2:g ρ2 with
  |bad=>rw[q2]at a2;exact a2.elim
  |ok d3 ρ3=>rw[q2]at a2;intro u G3 H3 e3 s3 r3;obtain⟨G4,ρ4,y,e4,r4,r5,a5⟩:=a2 u G3 H3 e3 s3 r3;exact i v u H3 G4 ρ4 x y e4 r4 r5 a5
theorem Oy{f:M D}{g:M B4}(ha:PE X e (tD X.K B G0 f))(hr:PA X es (tDs X.K B G0 g))(hs:J5 (e::es) X.env=(B3,eval e X.env)::J5 es X.env:=by rfl) :
  PA X (e::es) (tDs X.K B G0 (Ur f g)):=paof (KI ha hr hs) λσ H Q q=>tM.twoA q λv u H2 G ρ x y k r1 r2 a=>aft.now a k (.cons r1 r2)
noncomputable def U1(f:M B4):M D:=UD f λxs=>if xs.length<=1000000 then Up (.tuple xs)else λ_=>.bad
noncomputable def U2(f:M B4):M D:=UD f λxs=>if xs.length<=1000000 then Up (.list xs)else λ_=>.bad
theorem Oc{x1}{f:M B4}(h:PA X es (tDs X.K B G0 f)):PE X (.Tuple es x1 pos) (tD X.K B G0 (U1 f)):=
 UK (SD h) λσ H Q q=>tM.one (R:=Reps X.K) q λv H2 G ρ x k r a=>by
  split at a
  .rename_i c
   refine⟨by rw[r.length];exact Qq c lim,λp hp=>?_⟩;exact aft.done a k (Ext.new k.gh hp) (.tup (SqT.of UW) (r.mono (KB (k.gh.free hp))))
  .exact a.elim
theorem On{f:M B4}(h:PA X es (tDs X.K B G0 f)):PE X (.List es pos) (tD X.K B G0 (U2 f)):=
 UK (Ts h) λσ H Q q=>tM.one (R:=Reps X.K) q λv H2 G ρ x k r a=>by
  split at a
  .rename_i c
   refine⟨by rw[r.length];exact Qq c lim,λp hp=>?_⟩;exact aft.done a k (Ext.new k.gh hp) (.lst (SqL.of UW) (r.mono (KB (k.gh.free hp))))
  .exact a.elim
noncomputable def oIx:D->D->B9
 |.list xs,.int i=>atI xs i
 |.tuple xs,.int i=>atI xs i
 |.str z,.int i=>if z.length<=1000000 then(atI z.cps.toList i).map λc=>.str ⟨#[c]⟩else B0
 |_,_=>B0
theorem Reps.atI{K:Frag}{G:Hp}{vs:List V}{ds:B4}{i:Int}{d:D}(r:Reps K G vs ds)(h:L2.atI ds i=O d):∃v,L2.atI vs i=O v/\Rep K G v d:=by
 unfold L2.atI at h⊢;rw[r.length];cases z:ixN ds.length i with
 |none=>rw[z]at h;cases h
 |some j=>rw[z]at h;exact r.get (i:=j) h
theorem Pm{K:Frag}{v u:V}{G H:Hp}{x y d:D}{Q:VK}(s:Same G H)(rx:Rep K G v x)(ry:Rep K G u y)(e:oIx x y=O d)(k:∀w,Rep K G w d->Q w H):rIx K v u H Q:=by
 unfold oIx at e;split at e
 .obtain⟨l,vs,rfl,h1,r1⟩:=rx.lst_inv
  obtain⟨w,e1,r2⟩:=r1.atI e;exact .inl ⟨l,vs,_,w,rfl,ry.int_inv,s.seq h1,e1,k w r2⟩
 .obtain⟨l,vs,rfl,h1,r1⟩:=rx.tup_inv
  obtain⟨w,e1,r2⟩:=r1.atI e;exact .inr (.inl ⟨l,vs,_,w,rfl,ry.int_inv,ZE s h1,e1,k w r2⟩)
 .split at e
  .rename_i z i hz
   cases q:L2.atI z.cps.toList i with
   |none=>rw[q]at e;cases e
   |some ch=>rw[q]at e;cases e;exact .inr (.inr ⟨z,i,ch,rx.str_inv,ry.int_inv,Qq hz lim,q,k _ (.str _)⟩)
  .cases e
 .cases e
theorem LM{f g:M D}(ha:PE X a (tD X.K B G0 f))(hb:PE X b (tD X.K B G0 g))(hs:TF b):PE X (.Subscript a b pos) (tD X.K B G0 (Uw oIx f g)):=
 UK (Sr SA ha hb hs) λσ H Q q=>tM.two q λv u H2 G ρ x y k rx ry a=>by obtain⟨d,e,a⟩:=a.opt;exact Pm k.gh rx ry e λw r=>a.now k r
noncomputable def Ux(i:Nat)(g:M D):M D:=λρ=>match ρ[i]? with
 |some (O (.pub d))=>(UD g λy=>UB (oIx d y)) ρ
 |some (O (.own _))=>(UD g λy=>λρ'=>match ρ'[i]? with|some (O (.own ds))=>UB (oIx (.list ds) y) ρ'|_=>.bad) ρ
 |_=>.bad
theorem Ee{i:Nat}{g:M D}(ha:PE X a (UZ i))(hb:PE X b (tD X.K B G0 g))(hs:TF b):PE X (.Subscript a b pos) (tD X.K B G0 (Ux i g)):=
 UK (Sr SA ha hb hs) λσ H Q ⟨G,ρ,k,a⟩=>by
  unfold Ux at a;cases q:ρ[i]? with
  |none=>rw[q]at a;exact a.elim
  |some o=>
   cases o with
   |none=>rw[q]at a;exact a.elim
   |some sl=>
    cases sl with
    |deep _ _=>rw[q]at a;exact a.elim
    |pub d=>
     rw[q]at a;obtain⟨v,h1,h2⟩:=k.pub i d q;refine⟨v,h1,G,ρ,k,?_⟩;dsimp only[UD]at a;cases z:g ρ with
     |bad=>rw[z]at a;exact a.elim
     |ok y ρ1=>rw[z]at a;intro u G' H' k' s' r';obtain⟨d',e',a'⟩:=aft.opt a;exact Pm k'.gh (h2.mono s') r' e' λw r=>a' w G' H' k' s' r
    |own ds=>
     rw[q]at a;obtain⟨ad,vs,h1,h2,h3,h4,h5⟩:=k.own i ds q;refine⟨.ref ad,h1,G,ρ,k,?_⟩;dsimp only[UD]at a;cases z:g ρ with
     |bad=>rw[z]at a;exact a.elim
     |ok y ρ1=>
      rw[z]at a;dsimp only at a;intro u G' H' k' s' r';cases z2:ρ1[i]? with
      |none=>rw[z2]at a;exact a.elim
      |some o2=>
       cases o2 with
       |none=>rw[z2]at a;exact a.elim
       |some sl2=>
        cases sl2 with
        |deep _ _=>rw[z2]at a;exact a.elim
        |pub d2=>rw[z2]at a;exact a.elim
        |own es2=>
         rw[z2]at a;obtain⟨d',e',a'⟩:=aft.opt a;obtain⟨ad',vs',g1,g2,g3,g4,g5⟩:=k'.own i es2 z2;rw[h1]at g1;cases g1;unfold oIx at e';cases y with
         |int j=>obtain⟨w,e1,r2⟩:=g5.atI e';exact .inl ⟨ad,vs',j,w,rfl,r'.int_inv,SqL.of g4,e1,a' w G' H' k' s' r2⟩
         |_=>cases e'
noncomputable def cutD(xs:B4)(lo hi:Ac):B4:=(xs.drop (HT.sIx xs.length 0 lo)).take (HT.sIx xs.length xs.length hi-HT.sIx xs.length 0 lo)
theorem Reps.cut{K:Frag}{G:Hp}{vs:List V}{ds:B4}(r:Reps K G vs ds)(lo hi:Ac):Reps K G (Yd vs lo hi) (cutD ds lo hi):=by unfold Yd cutD;rw[r.length];exact(r.drop _).take _
noncomputable def Zz:D->Option Ac
 |.int i=>O (O i)
 |_=>B0
theorem Dt:PO X B0 (tOi X.K B G0 (Up B0)):=poof FG λσ H Q ⟨G,ρ,k,a⟩=>aft.now a k Z
theorem DT{f:M D}(h:PE X e (tD X.K B G0 f)):PO X (O e) (tOi X.K B G0 (UD f λx=>UB (Zz x))):=poof (FF h) λσ H Q q=>tM.one (R:=Rep X.K) q λv H2 G ρ x k r a=>by
 cases x with
 |int i=>exact⟨i,r.int_inv,aft.now (v:=O i) a k Z⟩
 |_=>exact a.elim
end
noncomputable def ZK:List (D×D)->Bool
 |(.none,_)::_=>B2
 |_=>B3
noncomputable def Z5:D->String
 |.none=> "NoneType"
 |.bool _=> "bool"
 |.int _=> "int"
 |.str _=> "str"
 |.list _=> "list"
 |.tuple _=> "tuple"
 |.dict kvs=>if ZK kvs=B2 then "" else "dict"
noncomputable def UU(d:D)(c:String):Bool:=Z5 d==c || (Z5 d == "bool" && c == "int")
noncomputable def Wh:D->Bool
 |.dict kvs=>ZK kvs
 |_=>B3
theorem nty{kvs:List (D×D)}{c:String}(h:(("dict" == c) || ("" == c))=B3):UU (.dict kvs) c=B3:=by
 obtain⟨h1,h2⟩:=Bool.or_eq_false_iff.mp h
 show((if ZK kvs=B2 then "" else "dict")==c || ((if ZK kvs=B2 then "" else "dict") == "bool" && c == "int"))=B3
 cases ZK kvs with
 |true=>rw[Qr Z,h2];rfl
 |false=>rw[QD (by decide),h1];rfl
theorem Pl{ks:Ag}{ds:B4}:Z5 (.dict ((ks.map kD).zip ds)) = "dict" /\ Wh (.dict ((ks.map kD).zip ds))=B3:=by
 cases ks with
 |nil=>exact⟨rfl,rfl⟩
 |cons k ks=>
  cases ds with
  |nil=>exact⟨rfl,rfl⟩
  |cons d ds=>cases k<;>exact⟨rfl,rfl⟩
theorem Ed(K:Frag)(d:D)(c:String)(nx:Wh d=B3)(hc:c = "int" ∨ c = "bool" ∨ c = "str" ∨ c = "list" ∨ c = "tuple" ∨ c = "dict"):PySem.W.kitOne K (.type (Z5 d)) (.type c)=O (UU d c):=by
 cases d with
 |dict kvs=>
  have e:Z5 (.dict kvs) = "dict" :=by
   have nx:ZK kvs=B3:=nx
   show(if ZK kvs=B2 then "" else "dict")=_
   rw[nx];rfl
  unfold UU;rw[e];rcases hc with rfl|rfl|rfl|rfl|rfl|rfl<;>rfl
 |_=>rcases hc with rfl|rfl|rfl|rfl|rfl|rfl<;>rfl
section
variable{X:Cx}{B G0:Hp}{e a b c:JZ}{pos:Pos}{es rest:B8}
def Xa(X:Cx)(f:JU)(p:B4->B9):Prop:=
 ∃r,ZA X f r/\∀vs G H ds d Q,Same G H->Reps X.K G vs ds->p ds=O d->(∀w G' H',Ext G H G' H'->Rep X.K G' w d->Q w H')->r vs H Q
noncomputable def K1(p:B4->B9)(f:M B4):M D:=UD f λxs=>UB (p xs)
theorem VY{x:Str}{p2:Pos}{id:String}{p:B4->B9}{f:M B4}(hc:Xa X (.builtin id) p)(hg:Gl X x)(hm:X.mg x=B0)(hv:bootBuiltins x=O (.builtin id))(ha:PA X (e::es) (tDs X.K B G0 f))(hn:x ≠ "__name__" :=by decide)(hdb:(x==("__debug__" : Str))=B3:=by decide)
  (he:J5 (e::es) X.env=(B3,eval e X.env)::J5 es X.env:=by rfl) (hpl:(backTo pos (J5 es X.env)).any (·.1)=B3:=by rfl):PE X (.Call (.Name x p2) (e::es) [] pos) (tD X.K B G0 (K1 p f)):=by
 obtain⟨r,h,i⟩:=hc;refine UK (Vn h hg hm hv ha hn hdb he hpl) λσ H Q q=>tM.one (R:=Reps X.K) q λv H2 G ρ x k rr a=>?_
 obtain⟨d,e,a⟩:=a.opt;exact i v G H2 x d Q k.gh rr e λw G' H' ex rw=>a.done k ex rw
theorem C8{x:Str}{p2:Pos}{T:String}{p:B4->B9}{f:M B4}(hc:Xa X (.type T) p)(hg:Gl X x)(hm:X.mg x=B0)(hv:bootBuiltins x=O (.type T))(ha:PA X (e::es) (tDs X.K B G0 f))(hn:x ≠ "__name__" :=by decide)(hdb:(x==("__debug__" : Str))=B3:=by decide)
  (he:J5 (e::es) X.env=(B3,eval e X.env)::J5 es X.env:=by rfl) (hpl:(backTo pos (J5 es X.env)).any (·.1)=B3:=by rfl):PE X (.Call (.Name x p2) (e::es) [] pos) (tD X.K B G0 (K1 p f)):=by
 obtain⟨r,h,i⟩:=hc;refine UK (TQ h hg hm hv ha hn hdb he hpl) λσ H Q q=>tM.one (R:=Reps X.K) q λv H2 G ρ x k rr a=>?_
 obtain⟨d,e,a⟩:=a.opt;exact i v G H2 x d Q k.gh rr e λw G' H' ex rw=>a.done k ex rw
theorem Reps.nil_inv{K:Frag}{G:Hp}{vs:List V}(r:Reps K G vs []):vs=[]:=by cases r;rfl
theorem Reps.one_inv{K:Frag}{G:Hp}{vs:List V}{d:D}(r:Reps K G vs [d]):∃v,vs=[v]/\Rep K G v d:=by
 cases r with
 |cons h t=>cases t;exact⟨_,rfl,h⟩
theorem Reps.two_inv{K:Frag}{G:Hp}{vs:List V}{d d':D}(r:Reps K G vs [d,d']):∃v v',vs=[v,v']/\Rep K G v d/\Rep K G v' d':=by
 cases r with
 |cons h t=>obtain⟨v',rfl,r'⟩:=t.one_inv;exact⟨_,v',rfl,h,r'⟩
noncomputable def Kc:B4->B9
 |[.list xs]=>O (.int xs.length)
 |[.tuple xs]=>O (.int xs.length)
 |[.str z]=>if z.length<=1000000 then O (.int z.length)else B0
 |_=>B0
theorem Lc:Xa X (.builtin "len") Kc:=by
 refine⟨_,OF,λvs G H ds d Q s r e k=>?_⟩;unfold Kc at e;split at e
 .cases e
  obtain⟨v,rfl,q⟩:=r.one_inv;obtain⟨l,ws,rfl,h1,r1⟩:=q.lst_inv;exact⟨.ref l,ws.length,rfl,.inl ⟨ws,s.seq h1,rfl⟩,by rw[r1.length];exact k _ G H (.refl s) (.int _)⟩
 .cases e
  obtain⟨v,rfl,q⟩:=r.one_inv;obtain⟨l,ws,rfl,h1,r1⟩:=q.tup_inv;exact⟨.ref l,ws.length,rfl,.inr ⟨ws,ZE s h1,rfl⟩,by rw[r1.length];exact k _ G H (.refl s) (.int _)⟩
 .split at e
  .rename_i z hz
   cases e;obtain⟨v,rfl,q⟩:=r.one_inv;exact⟨.str z,z.length,by rw[q.str_inv],⟨Qq hz lim,rfl⟩,k _ G H (.refl s) (.int _)⟩
  .cases e
 .cases e
noncomputable def VF:B4->B9
 |[.int i,.int j]=>O (.int (if j > i then j else i))
 |_=>B0
theorem LK(hc:X.calm=B2):Xa X (.builtin "max") VF:=by
 refine⟨_,C3 hc,λvs G H ds d Q s r e k=>?_⟩;unfold VF at e;split at e
 .cases e
  obtain⟨v,v',rfl,r1,r2⟩:=r.two_inv;exact⟨_,_,by rw[r1.int_inv,r2.int_inv],k _ G H (.refl s) (.int _)⟩
 .cases e
noncomputable def Tn:B4->B9
 |[.int i,.int j]=>O (.int (if j<i then j else i))
 |_=>B0
theorem LJ(hc:X.calm=B2):Xa X (.builtin "min") Tn:=by
 refine⟨_,C0 hc,λvs G H ds d Q s r e k=>?_⟩;unfold Tn at e;split at e
 .cases e
  obtain⟨v,v',rfl,r1,r2⟩:=r.two_inv;exact⟨_,_,by rw[r1.int_inv,r2.int_inv],k _ G H (.refl s) (.int _)⟩
 .cases e
noncomputable def Ke(i:Nat):M D:=λρ=>match ρ[i]? with
 |some (O (.pub d))=>UB (Kc [d]) ρ
 |some (O (.own ds))=>.ok (.int ds.length) ρ
 |_=>.bad
theorem DS{i:Nat}{p2:Pos}(hg:Gl X "len")(hm:X.mg "len" = B0)(ha:PE X e (UZ i))(he:J5 [e] X.env=[(B3,eval e X.env)]:=by rfl):PE X (.Call (.Name "len" p2) [e] [] pos) (tD X.K B G0 (Ke i)):=by
 refine UK (Vn OF hg hm PySem.boot_len (KI ha Zd (by rw[he];rfl)) (by decide) (by decide) (by rw[he];rfl) Z) λσ H Q ⟨G,ρ,k,a⟩=>?_
 unfold Ke at a;cases q:ρ[i]? with
 |none=>rw[q]at a;exact a.elim
 |some o=>
  cases o with
  |none=>rw[q]at a;exact a.elim
  |some sl=>
   cases sl with
   |deep _ _=>rw[q]at a;exact a.elim
   |pub d=>
    rw[q]at a;obtain⟨v,h1,h2⟩:=k.pub i d q;refine⟨v,h1,?_⟩;obtain⟨d',e',a'⟩:=aft.opt a;obtain⟨r,hr,ir⟩:=@Lc X;show ∃x n,[v]=[x]/\LenV X.K x H n/\Q (.int n) H;unfold Kc at e';split at e'
    .rename_i xs he'
     injection he' with qI qi;subst qI;cases e'
     obtain⟨l,ws,rfl,g1,r1⟩:=h2.lst_inv;exact⟨.ref l,ws.length,rfl,.inl ⟨ws,k.gh.seq g1,rfl⟩,by rw[r1.length];exact a'.now k (.int _)⟩
    .rename_i xs he'
     injection he' with qI qi;subst qI;cases e'
     obtain⟨l,ws,rfl,g1,r1⟩:=h2.tup_inv;exact⟨.ref l,ws.length,rfl,.inr ⟨ws,ZE k.gh g1,rfl⟩,by rw[r1.length];exact a'.now k (.int _)⟩
    .rename_i z he'
     injection he' with qI qi;subst qI
     split at e'
     .rename_i hz
      cases e';exact⟨.str z,z.length,by rw[h2.str_inv],⟨Qq hz lim,rfl⟩,a'.now k (.int _)⟩
     .cases e'
    .cases e'
   |own ds=>rw[q]at a;obtain⟨ad,vs,h1,g2,g3,h4,h5⟩:=k.own i ds q;exact⟨.ref ad,h1,.ref ad,vs.length,rfl,.inl ⟨vs,SqL.of h4,rfl⟩,by rw[h5.length];exact aft.now a k (.int _)⟩
theorem GW{pins:List (JX×Obj)}{s:JV}{σ:St}{G H:Hp}{v:V}{u:JU}{d:D}{cv:JU}{t:Bool}{A:Around}{E:JU->JV->Prop}{Q:JU->JV->Prop}(I:Inv X pins σ H s)(sg:Same G H)(r:Rep X.K G v d)(rv:RelV v u)(nx:Wh d=B3)
  (ek:PySem.W.kitOne X.K (.type (Z5 d)) cv=O t) (h:∀tk,Q (.bool t) {s with toks:=tk}):J4 (model X.prog X.w) A (call (.builtin "isinstance") [u,cv]) Q E s:=by
 cases r with
 |non=>cases rv;exact Jq PySem.W.kitx_none I.kIn True.intro ek (λz=>nomatch z) h
 |bl y=>cases rv;exact Jq PySem.W.kitx_bool I.kIn True.intro ek (λz=>nomatch z) h
 |int i=>obtain⟨t',rfl⟩:=rv;exact Jq PySem.W.kitx_int I.kIn True.intro ek (λz=>nomatch z) h
 |str y=>obtain⟨t',rfl⟩:=rv;exact Jq PySem.W.kitx_str I.kIn True.intro ek (λz=>nomatch z) h
 |lst hl _=>cases rv;obtain⟨its,r,⟨o,n,e,hc,_,hd⟩,hz⟩:=I.list (sg.seq hl);exact Jq PySem.W.kitx_list I.kIn ⟨o,e,hc⟩ ek (λz=>nomatch z) h
 |tup hl _=>cases rv;obtain⟨its,r,p,hz⟩:=I.tuple (ZE sg hl);obtain⟨o,e,hc,_⟩:=p;exact Jq PySem.W.kitx_tuple I.kIn ⟨o,e,hc⟩ ek (λz=>nomatch z) h
 |@dic ad hd=>
  cases rv;obtain⟨_,_,vs,_,p⟩:=(show K2 X.prog X.w H s.heap ad (.dK [])from I.hok ad _ (sg _ _ hd))
  obtain⟨o,es,ep,h1,h2,_⟩:=p;exact Jq PySem.W.kitx_dict I.kIn ⟨o,h1,h2.1⟩ ek (λz=>nomatch z) h
 |exc _ _ _ _=>cases nx
 |@dct ad ks vs ds kvs e0 _ _ hd _=>
  cases rv;subst e0;rw[Pl.1]at ek;obtain⟨_,_,vs,_,p⟩:=(show K2 X.prog X.w H s.heap ad (.dK (ks.zip _))from I.hok ad _ (sg _ _ hd))
  obtain⟨o,es,ep,h1,h2,_⟩:=p;exact Jq PySem.W.kitx_dict I.kIn ⟨o,h1,h2.1⟩ ek (λz=>nomatch z) h
 |@dtt ad ob ks vs ds kvs e0 _ hd _=>
  cases rv;subst e0;obtain⟨_,_,_,xs,_,o,es,ep,h1,h2,_⟩:=(show K2 X.prog X.w H s.heap ad (.frz ob (.dT (ks.zip _)))from I.hok ad _ (sg _ _ hd))
  exact Jq PySem.W.kitx_dict I.kIn ⟨o,h1,h2.1⟩ ek (λz=>nomatch z) h
theorem GV(c:String)(hc:c = "int" ∨ c = "bool" ∨ c = "str" ∨ c = "list" ∨ c = "tuple" ∨ c = "dict"):typeOf (.type c)=pure (.type "type"):=by rcases hc with rfl|rfl|rfl|rfl|rfl|rfl<;>kernel_rfl
theorem DR:ZA X (.builtin "isinstance") (λxs H Q=>∃v c G d,xs=[v,.ty c]/\Same G H/\Rep X.K G v d/\(c = "int" ∨ c = "bool" ∨ c = "str" ∨ c = "list" ∨ c = "tuple" ∨ c = "dict")/\Q (.bl (UU d c)) H):=by
 intro pins s σ H xs us Q I r h;obtain⟨v,c,G,d,rfl,sg,rp,hc,q⟩:=h;obtain⟨u,w',rfl,r1,r2⟩:=W8 r;cases (show w'=Value.type c from r2);by_cases nx:Wh d=B2
 .cases rp with
  |@exc a C dd bm nm vs ds ck hx hd rr=>
   refine OA (Xb I.ok.mod.kin) pins s σ H [.ref a,.ty c] [u,.type c] Q I r ⟨a,C,dd,bm,B3,.ty c,B3,rfl,⟨nm,ck⟩,sg _ _ hx,.inr ⟨c,rfl,GV c hc,?_⟩,?_⟩
   .rw[ck.ty];rcases hc with rfl|rfl|rfl|rfl|rfl|rfl<;>rfl
   .have e:UU (.dict [(.none,.tuple [.str nm,.list ds])]) c=B3:=by rcases hc with rfl|rfl|rfl|rfl|rfl|rfl<;>rfl
    rw[e]at q;exact q
  |dct e _ _ _ _=>subst e;rw[Pl.2]at nx;cases nx
  |dtt e _ _ _=>subst e;cases nx
  |_=>cases nx
 .have nx:Wh d=B3:=by simpa using nx
  exact GW I sg rp r1 nx (Ed X.K d c nx hc) λtk=>⟨.bl _,H,I.tok tk,rfl,q⟩
theorem RJ:bootBuiltins "isinstance" = O (.builtin "isinstance"):=by decide +kernel
theorem V4{f:M D}{p2 p3:Pos}{c:String}(hc:c = "int" ∨ c = "bool" ∨ c = "str" ∨ c = "list" ∨ c = "tuple" ∨ c = "dict")(hg:Gl X "isinstance")(hm:X.mg "isinstance" = B0)(AY:Gl X (Uh c))(hm2:X.mg (Uh c)=B0)
  (hv2:bootBuiltins (Uh c)=O (.type c)) (ha:PE X e (tD X.K B G0 f)) (hn2:(Uh c) ≠ "__name__") (hd2:((Uh c)==("__debug__" : Str))=B3)
  (hs:J5 [e,.Name (Uh c) p3] X.env=(B3,eval e X.env)::J5 [.Name (Uh c) p3] X.env:=by rfl)
  (hs2:J5 [.Name (Uh c) p3] X.env=[(B3,eval (.Name (Uh c) p3) X.env)]:=by rfl) :
  PE X (.Call (.Name "isinstance" p2) [e,.Name (Uh c) p3] [] pos) (tD X.K B G0 (UA (λd=>.bool (UU d c)) f)):=by
 refine UK (Vn DR hg hm RJ (KI ha (KI (FN (v:=.ty c) AY hm2 hv2 Z hn2 hd2) Zd (by rw[hs2];rfl)) hs) (by decide) (by decide) hs (by rw[hs2];rfl)) λσ H Q q=>?_
 refine tM.one (R:=Rep X.K) q λv H2 G ρ x k r a=>?_
 exact⟨v,c,G,x,rfl,k.gh,r,hc,aft.now a k (.bl _)⟩
end
noncomputable def spD(K:Frag)(n:Nat)(F:B4->B9):Sp:=λvs H Q _=>∃G ds d,vs.length=n/\Same G H/\Reps K G vs ds/\F ds=O d/\∀v G' H',Ext G H G' H'->Rep K G' v d->Q v H'
section
variable{K:Frag}{B G0 G H:Hp}{σ:St}{ρ:Um}
theorem EOk.exit(k:EOk K B G0 G H σ ρ):Ext G0 B G H:=⟨k.bh,k.g0,k.gh,k.np⟩
theorem Kp{α:Type}{l:List α}{i:Nat}{x y:α}(h:(l.set i x)[i]?=O y):y=x:=by
 by_cases hl:i<l.length
 .rw[QL hl]at h;cases h;rfl
 .rw[List.getElem?_eq_none (by rw[QQ];lia)]at h;cases h
theorem DpOk.setOther{i:Nat}{x:Option V}{y:Option Sl}(k:DpOk K B G H σ ρ)(hy:∀s,y=O s->∃d,s=.pub d):DpOk K B G H (σ.set i x) (ρ.set i y):=by
 have nz:∀{m:Nat}{s:Sl},(ρ.set i y)[m]?=O (O s)->(∃d,s=.pub d)∨(ρ[m]?=O (O s)/\(σ.set i x)[m]?=σ[m]?):=λ{m s} q=>by
  by_cases z:i=m
  .subst z
   exact .inl (hy s (Kp q).symm)
  .rw[Qi z]at q⊢;exact .inr ⟨q,rfl⟩
 refine k.map (λm p d q=>?_) (λm es q=>?_) λm p d v fp q s r w n=>⟨r,w⟩
 .rcases nz q with ⟨_,e⟩|q
  .cases e
  .exact q
 .rcases nz q with ⟨_,e⟩|q
  .cases e
  .exact⟨es,q⟩
theorem EOk.setPub{i:Nat}{v:V}{d:D}(k:EOk K B G0 G H σ ρ)(r:Rep K G v d)(hi:i<ρ.length):EOk K B G0 G H (σ.set i (O v)) (ρ.set i (O (.pub d))) where
 bh:=k.bh
 gh:=k.gh
 g0:=k.g0
 np:=k.np
 len:=by rw[QQ,QQ];exact k.len
 pub:=λj d' q=>by
  by_cases z:i=j
  .subst z
   have:=Kp q;cases this;exact⟨v,QL (by rw[←k.len];exact hi),r⟩
  .rw[Qi z]at q⊢
   exact k.pub j d' q
 own:=λj ds q=>by
  by_cases z:i=j
  .subst z
   have:=Kp q;cases this
  .rw[Qi z]at q⊢
   exact k.own j ds q
 sep:=λj l c es fs q1 q2 s1 s2=>by
  have z1:i≠j:=λz=>by subst z;have:=Kp q1;cases this
  have z2:i≠l:=λz=>by subst z;have:=Kp q2;cases this
  rw[Qi z1]at q1 s1;rw[Qi z2]at q2 s2;exact k.sep j l c es fs q1 q2 s1 s2
 dp:=k.dp.setOther (λs e=>by cases e;exact⟨_,rfl⟩)
structure NewL(K:Frag)(B G H:Hp)(σ:St)(ρ:Um)(a:JX)(vs:List V)(ds:B4):Prop where
 b:B a=B0
 g:G a=B0
 h:H a=O (.lst vs)
 r:Reps K G vs ds
 f:∀(j:Nat) es,ρ[j]?=O (O (.own es))->σ[j]?≠O (O (.ref a))
 dp:∀(j:Nat) p d v fp,ρ[j]?=O (O (.deep p d))->σ[j]?=O (O v)->RepO K G H p v d fp->a∉fp
theorem EOk.freshD{H':Hp}{a:JX}(k:EOk K B G0 G H σ ρ)(e:Same H H')(ha:H a=B0){G':Hp}{j:Nat}{p:Pat}{d:D}{v:V}{fp:Aa}(q:ρ[j]?=O (O (.deep p d)))(s:σ[j]?=O (O v))(r:RepO K G' H' p v d fp):a∉fp:=λm=>by obtain⟨ω,k1,k2⟩:=k.dp;obtain⟨v',fp',s',r',n,w⟩:=k1 j p d q;rw[s]at s';cases s';have u:=r'.uniq e r;subst u;obtain⟨ws,hl⟩:=r'.isl a m;rw[ha]at hl;cases hl
theorem EOk.setOwn{i:Nat}{a:JX}{vs:List V}{ds:B4}(k:EOk K B G0 G H σ ρ)(n:NewL K B G H σ ρ a vs ds)(hi:i<ρ.length):EOk K B G0 G H (σ.set i (O (.ref a))) (ρ.set i (O (.own ds))) where
 bh:=k.bh
 gh:=k.gh
 g0:=k.g0
 np:=k.np
 len:=by rw[QQ,QQ];exact k.len
 pub:=λj d' q=>by
  by_cases z:i=j
  .subst z
   have:=Kp q;cases this
  .rw[Qi z]at q⊢
   exact k.pub j d' q
 own:=λj es q=>by
  by_cases z:i=j
  .subst z
   have:=Kp q;cases this;exact⟨a,vs,QL (by rw[←k.len];exact hi),n.b,n.g,n.h,n.r⟩
  .rw[Qi z]at q⊢
   exact k.own j es q
 sep:=λj l c es fs q1 q2 s1 s2=>by
  have hs:i<σ.length:=by rw[←k.len];exact hi
  by_cases z1:i=j
  .subst z1
   rw[QL hs]at s1;cases s1;by_cases z2:i=l
   .exact z2
   .rw[Qi z2]at q2 s2
    exact absurd s2 (n.f l fs q2)
  .by_cases z2:i=l
   .subst z2
    rw[QL hs]at s2;cases s2;rw[Qi z1]at q1 s1;exact absurd s1 (n.f j es q1)
   .rw[Qi z1]at q1 s1
    rw[Qi z2]at q2 s2;exact k.sep j l c es fs q1 q2 s1 s2
 dp:=by
  obtain⟨ω,k1,k2⟩:=k.dp;have hs:i<σ.length:=by rw[←k.len];exact hi
  refine⟨λb=>if b=a then i else ω b,λj p d q=>?_,λj es b q s=>?_⟩
  .by_cases z:i=j
   .subst z;have:=Kp q;cases this
   .rw[Qi z]at q⊢
    obtain⟨v,fp,s,r,nn,w⟩:=k1 j p d q;refine⟨v,fp,s,r,nn,λb m=>⟨(w b m).1,(w b m).2.1,?_⟩⟩;dsimp only;rw[QD (λz=>n.dp j p d v fp q s r (by rw[←z];exact m))];exact(w b m).2.2
  .by_cases z:i=j
   .subst z
    rw[QL hs]at s;cases s;dsimp only;rw[Qr Z]
   .rw[Qi z]at q s
    dsimp only;rw[QD (λe=>n.f j es q (by rw[←e];exact s))];exact k2 j es b q s
theorem EOk.change{i:Nat}{a:JX}{vs:List V}{ds es:B4}(k:EOk K B G0 G H σ ρ)(q:ρ[i]?=O (O (.own ds)))(ha:σ[i]?=O (O (.ref a)))(r:Reps K G vs es) :
  EOk K B G0 G (upd H a (.lst vs)) σ (ρ.set i (O (.own es))):=by
 obtain⟨a',ws,h1,h2,h3,h4,h5⟩:=k.own i ds q;rw[ha]at h1;cases h1;have hi:i<ρ.length:=(Qy.mp q).1;refine⟨λb o e=>?_,λb o e=>?_,k.g0,k.np,by rw[QQ];exact k.len,λj d' e=>?_,λj fs e=>?_,λj l c fs gs q1 q2 s1 s2=>?_,?_⟩
 .rw[UI (ZC e h2)];exact k.bh b o e
 .rw[UI (ZC e h3)];exact k.gh b o e
 .by_cases z:i=j
  .subst z
   have:=Kp e;cases this
  .rw[Qi z]at e
   exact k.pub j d' e
 .by_cases z:i=j
  .subst z
   have:=Kp e;cases this;exact⟨a,vs,ha,h2,h3,UW,r⟩
  .rw[Qi z]at e
   obtain⟨c,us,g1,g2,g3,g4,g5⟩:=k.own j fs e;have zc:c≠a:=λw=>z (k.sep i j a ds fs q e ha (by rw[←w];exact g1))
   exact⟨c,us,g1,g2,g3,by rw[UI zc];exact g4,g5⟩
 .have f:∀{m:Nat}{ts:B4},(ρ.set i (O (Sl.own es)))[m]?=O (O (.own ts))->∃ts',ρ[m]?=O (O (.own ts')):=λ{m ts} e=>by
   by_cases z:i=m
   .subst z;exact⟨ds,q⟩
   .rw[Qi z]at e;exact⟨ts,e⟩
  obtain⟨f1,w1⟩:=f q1;obtain⟨f2,w2⟩:=f q2;exact k.sep j l c f1 f2 w1 w2 s1 s2
 .refine k.dp.map (λj p d e=>?_) (λj fs e=>?_) λj p d v fp qj s rj w n=>⟨rj.upd (λ_ z=>by rw[h4]at z;cases z) (n i ds a q ha),w⟩
  .by_cases z:i=j
   .subst z;have:=Kp e;cases this
   .rw[Qi z]at e;exact⟨e,rfl⟩
  .by_cases z:i=j
   .subst z;exact⟨ds,q,rfl⟩
   .rw[Qi z]at e;exact⟨fs,e,rfl⟩
end
inductive Out where
 |nx (ρ:Um)|rt (d:D)|bk (ρ:Um)|ct (ρ:Um)|ex (ρ:Um) (d:D)|ro (ds:B4)|bad
abbrev SM:=Um->Out
section
variable(K:Frag)(B G0:Hp)(KX:XW)
def aftS(o:Out)(G1:Hp)(Dn:Ends):Prop:=
 match o with
 |.nx ρ=>∀σ G H,EOk K B G0 G H σ ρ->Same G1 G->Dn.nx σ H
 |.bk ρ=>∀σ G H,EOk K B G0 G H σ ρ->Same G1 G->Dn.bk σ H
 |.ct ρ=>∀σ G H,EOk K B G0 G H σ ρ->Same G1 G->Dn.ct σ H
 |.rt d=>∀v G H,Ext G0 B G H->Rep K G v d->Dn.rt v H
 |.ro ds=>∀a vs G H,Ext G0 B G H->B a=B0->G a=B0->H a=O (.lst vs)->Reps K G vs ds->Dn.rt (.ref a) H
 |.ex ρ d=>∀v σ G H,EOk K B G0 G H σ ρ->Same G1 G->Rep K G v d->KX v σ H
 |.bad=>False
noncomputable def tS(g:SM):TS:=λDn σ H=>∃G ρ,EOk K B G0 G H σ ρ/\aftS K B G0 KX (g ρ) G Dn
noncomputable def sB{α:Type}(f:M α)(g:α->SM):SM:=λρ=>match f ρ with | .ok a ρ'=>g a ρ' | .bad=>.bad
end
section
variable{X:Cx}{B G0:Hp}{KX:XW}{e a b c:JZ}{pos:Pos}{es rest:B8}{st:Stmt}{sts sts2:List Stmt}
theorem aftS.mono{K:Frag}{o:Out}{G G':Hp}{Dn:Ends}(e:Same G G')(h:aftS K B G0 KX o G Dn):aftS K B G0 KX o G' Dn:=by
 cases o with
 |nx ρ=>exact λσ G2 H2 k s=>h σ G2 H2 k (e.trans s)
 |bk ρ=>exact λσ G2 H2 k s=>h σ G2 H2 k (e.trans s)
 |ct ρ=>exact λσ G2 H2 k s=>h σ G2 H2 k (e.trans s)
 |rt d=>exact h
 |ro ds=>exact h
 |ex ρ d=>exact λv σ G2 H2 k s r=>h v σ G2 H2 k (e.trans s) r
 |bad=>exact h
theorem tS.bnd{K:Frag}{α γ:Type}{R:Hp->γ->α->Prop}{f:M α}{g:α->SM}{Dn:Ends}{σ:St}{H:Hp}{P:γ->Hp->Prop}(q:tS K B G0 KX (sB f g) Dn σ H)
  (i:∀v H' G' ρ' x,EOk K B G0 G' H' σ ρ'->R G' v x->aftS K B G0 KX (g x ρ') G' Dn->P v H'):tM K B G0 R f σ H P:=by
 obtain⟨G,ρ,k,a⟩:=q;refine⟨G,ρ,k,?_⟩;unfold sB at a;cases z:f ρ with
 |bad=>rw[z]at a;exact a.elim
 |ok d ρ1=>rw[z]at a;exact λv G' H' e s r=>i v H' G' ρ1 d e r (aftS.mono s a)
noncomputable def sNx:SM:=λρ=>.nx ρ
noncomputable def Us(g h:SM):SM:=λρ=>match g ρ with | .nx ρ'=>h ρ'|o=>o
theorem LI:PSs X [] (tS X.K B G0 KX sNx):=Wj FL λD σ H ⟨G,ρ,k,a⟩=>a σ G H k (.refl _)
theorem Om{g h:SM}(h1:PS X st (tS X.K B G0 KX g))(h2:PSs X sts (tS X.K B G0 KX h)):PSs X (st::sts) (tS X.K B G0 KX (Us g h)):=Wj (Wx h1 h2) λD σ H ⟨G,ρ,k,a⟩=>by
 refine⟨G,ρ,k,?_⟩;unfold Us at a;cases z:g ρ with
 |nx ρ1=>rw[z]at a;exact λσ' G' H' k' s'=>⟨G',ρ1,k',aftS.mono s' a⟩
 |rt d=>rw[z]at a;exact a
 |ro ds=>rw[z]at a;exact a
 |bk ρ1=>rw[z]at a;exact a
 |ct ρ1=>rw[z]at a;exact a
 |ex ρ1 d=>rw[z]at a;exact a
 |bad=>rw[z]at a;exact a.elim
theorem LH{g:SM}(h1:PS X st (tS X.K B G0 KX g)):PSs X [st] (tS X.K B G0 KX g):=Vh h1
noncomputable def YZ:SM:=λ_=>.bad
theorem DQ:PS X st (tS X.K B G0 KX YZ):=λ_ _ _ _ _ _ ⟨_,_,_,a⟩=>a.elim
noncomputable def Uz(f:M D):SM:=sB f λd _=>.rt d
theorem LG{f:M D}(h:PE X e (tD X.K B G0 f)):PS X (.Return (O e) pos) (tS X.K B G0 KX (Uz f)):=U9 (Pt h) λD σ H q=>tS.bnd (R:=Rep X.K) q λv H' G' ρ' x k r a=>a v G' H' k.exit r
noncomputable def Wg(f:M D):SM:=sB f λ_ ρ=>.nx ρ
theorem GU{f:M D}(h:PE X e (tD X.K B G0 f))(hs:swapsWith e B0 pos.line X.env=pure B3:=by rfl):PS X (.Expr e pos) (tS X.K B G0 KX (Wg f)):=U9 (Xk h hs) λD σ H q=>tS.bnd (R:=Rep X.K) q λv H' G' ρ' x k r a=>a σ G' H' k (.refl _)
noncomputable def sIf(f:M Bool)(g h:SM):SM:=sB f λt=>if t=B2 then g else h
theorem Lb{f:M Bool}{g h:SM}(hc:PT X c (tBo X.K B G0 f))(ha:PSs X sts (tS X.K B G0 KX g))(hb:PSs X sts2 (tS X.K B G0 KX h)):PS X (.If c sts sts2 pos) (tS X.K B G0 KX (sIf f g h)):=
 U9 (ME hc ha hb) λD σ H q=>tS.bnd (R:=λ_ b c=>b=c) q λv H' G' ρ' x k r a=>by
  have r:v=x:=r;subst r;cases v with
  |true=>exact⟨G',ρ',k,a⟩
  |false=>exact⟨G',ρ',k,a⟩
noncomputable def tG(K:Frag)(B G0:Hp)(s:D->Um->Ab):TG:=λv σ H Q=>∃G ρ d ρ',EOk K B G0 G H σ ρ/\Rep K G v d/\s d ρ=O ρ'/\∀σ' G' H',EOk K B G0 G' H' σ' ρ'->Same G G'->Q σ' H'
noncomputable def tGs(K:Frag)(B G0:Hp)(s:B4->Um->Ab):TGs:=λv σ H Q=>∃G ρ d ρ',EOk K B G0 G H σ ρ/\Reps K G v d/\s d ρ=O ρ'/\∀σ' G' H',EOk K B G0 G' H' σ' ρ'->Same G G'->Q σ' H'
theorem pgof{t t':TG}(h:PG X e t)(i:∀v σ H Q,t' v σ H Q->t v σ H Q):PG X e t':=λpins s σ H v u Q I r q=>h pins s σ H v u Q I r (i v σ H Q q)
theorem RO{t t':TGs}(h:PGs X es t)(i:∀v σ H Q,t' v σ H Q->t v σ H Q):PGs X es t':=λpins s σ H v u Q I r q=>h pins s σ H v u Q I r (i v σ H Q q)
noncomputable def gN(i:Nat):D->Um->Ab:=λd ρ=>if i<ρ.length then O (ρ.set i (O (.pub d)))else B0
theorem Ol{i:Nat}(h:PG X e (Sm i)):PG X e (tG X.K B G0 (gN i)):=pgof h λv σ H Q ⟨G,ρ,d,ρ',k,r,e,q⟩=>by
 unfold gN at e;split at e
 .rename_i hi
  cases e;exact q _ G H (k.setPub r hi) (.refl _)
 .cases e
noncomputable def gN0:B4->Um->Ab:=λd ρ=>match d with | []=>O ρ|_=>B0
noncomputable def gNC(s:D->Um->Ab)(t:B4->Um->Ab):B4->Um->Ab:=λds ρ=>match ds with|d::r=>(s d ρ).bind (t r) | []=>B0
theorem LF:PGs X [] (tGs X.K B G0 gN0):=RO FJ λv σ H Q ⟨G,ρ,d,ρ',k,r,e,q⟩=>by
 cases r with
 |nil=>cases e;exact⟨rfl,q σ G H k (.refl _)⟩
 |cons _ _=>cases e
theorem GT{s:D->Um->Ab}{t:B4->Um->Ab}(h1:PG X e (tG X.K B G0 s))(h2:PGs X es (tGs X.K B G0 t))
  (hs:(Uk (e::es) X.env).map (·.2)=assign e X.env::(Uk es X.env).map (·.2):=by rfl):PGs X (e::es) (tGs X.K B G0 (gNC s t)):=RO (DJ h1 h2 hs) λv σ H Q ⟨G,ρ,d,ρ',k,r,e,q⟩=>by
 cases r with
 |nil=>cases e
 |@cons w dw ws dws rw rt=>
  unfold gNC at e;dsimp only at e;cases z:s dw ρ with
  |none=>rw[z]at e;cases e
  |some ρ1=>rw[z]at e;refine⟨w,ws,rfl,G,ρ,dw,ρ1,k,rw,z,λσ' G' H' k' s'=>?_⟩;exact⟨G',ρ1,dws,ρ',k',rt.mono s',e,λσ2 G2 H2 k2 s2=>q σ2 G2 H2 k2 (s'.trans s2)⟩
noncomputable def gT(n:Nat)(t:B4->Um->Ab):D->Um->Ab:=λd ρ=>match d with | .tuple ds=>if ds.length=n then t ds ρ else B0|_=>B0
theorem LD{k1:Nat}{t:B4->Um->Ab}{n:Nat}(hc:X.calm=B2)(h:PGs X es (tGs X.K B G0 t))
  (hn:(Uk es X.env).length=n:=by rfl) (hst:(Uk es X.env).findIdx? (·.1)=B0:=by rfl):PG X (.Tuple es k1 pos) (tG X.K B G0 (gT n t)):=pgof (Gd hc h hn hst) λv σ H Q ⟨G,ρ,d,ρ',k,r,e,q⟩=>by
 unfold gT at e;split at e
 .split at e
  .rename_i hl
   obtain⟨ad,vs,rfl,h1,r1⟩:=r.tup_inv;exact⟨ad,vs,rfl,ZE k.gh h1,by rw[r1.length];exact hl,G,ρ,_,ρ',k,r1,e,q⟩
  .cases e
 .cases e
noncomputable def KM(f:M D)(s:D->Um->Ab):SM:=sB f λd ρ=>match s d ρ with|some ρ'=>.nx ρ'|none=>.bad
theorem LC{tg:JZ}{f:M D}{s:D->Um->Ab}(he:PE X e (tD X.K B G0 f))(hg:PG X tg (tG X.K B G0 s))(hs:swapsWithSole [tg] e pos.line X.env=pure B3:=by rfl)(hw:swappedStores [tg] e X.env=pure B0:=by rfl)
  (h1:(Uk [tg] X.env).map (·.2)=[assign tg X.env]:=by rfl):PS X (.Assign [tg] e pos) (tS X.K B G0 KX (KM f s)):=
 U9 (Gc he hg hs hw h1) λD σ H q=>tS.bnd (R:=Rep X.K) q λv H' G' ρ' x k r a=>by
  cases z:s x ρ' with
  |none=>rw[z]at a;exact a.elim
  |some ρ2=>rw[z]at a;exact⟨G',ρ',x,ρ2,k,r,z,λσ2 G2 H2 k2 s2=>a σ2 G2 H2 k2 s2⟩
noncomputable def US(i:Nat)(f:M D):SM:=KM f (gN i)
theorem LB{i:Nat}{x:Str}{f:M D}{p2:Pos}(hN:X.N.Nodup)(hi:X.N[i]?=O x)(hx:Loc X.env.scope x)(he:PE X e (tD X.K B G0 f))(hs:swapsWith e (O (.Name x p2)) pos.line X.env=pure B3:=by rfl)
  (hf:X.fn x=B2∨X.env.scope.names.lookup x=O .local:=by first|exact .inl rfl|exact .inr rfl|assumption):PS X (.Assign [.Name x p2] e pos) (tS X.K B G0 KX (US i f)):=
 U9 (Tu hN hi hx he hs hf) λD σ H q=>tS.bnd (R:=Rep X.K) q λv H' G' ρ' x k r a=>by
  unfold gN at a;split at a
  .rename_i ρ2 hz
   split at hz
   .rename_i hi2
    cases hz;exact a _ G' H' (k.setPub r hi2) (.refl _)
   .cases hz
  .exact a.elim
noncomputable def tL(K:Frag)(B G0:Hp)(f:M B4):TE:=λσ H Q=>∃G ρ,EOk K B G0 G H σ ρ/\match f ρ with
 |.ok ds ρ'=>∀a vs G' H',EOk K B G0 G' H' σ ρ'->Same G G'->NewL K B G' H' σ ρ' a vs ds->Q (.ref a) H'
 |.bad=>False
noncomputable def KH(i:Nat)(f:M B4):SM:=sB f λds ρ=>if i<ρ.length then .nx (ρ.set i (O (.own ds)))else .bad
theorem GS{i:Nat}{x:Str}{f:M B4}{p2:Pos}(hN:X.N.Nodup)(hi:X.N[i]?=O x)(hx:Loc X.env.scope x)(he:PE X e (tL X.K B G0 f))(hs:swapsWith e (O (.Name x p2)) pos.line X.env=pure B3:=by rfl)
  (hf:X.fn x=B2∨X.env.scope.names.lookup x=O .local:=by first|exact .inl rfl|exact .inr rfl|assumption):PS X (.Assign [.Name x p2] e pos) (tS X.K B G0 KX (KH i f)):=
 U9 (Tu hN hi hx he hs hf) λD σ H ⟨G,ρ,k,a⟩=>by
  refine⟨G,ρ,k,?_⟩;unfold KH sB at a;cases z:f ρ with
  |bad=>rw[z]at a;exact a.elim
  |ok ds ρ1=>
   rw[z]at a;intro ad vs G' H' k' s' n;dsimp only at a;split at a
   .rename_i hl
    exact a _ G' H' (k'.setOwn n hl) s'
   .exact a.elim
theorem NewL.of{K:Frag}{G H:Hp}{σ:St}{ρ:Um}{p:JX}{vs:List V}{ds:B4}(k:EOk K B G0 G H σ ρ)(hp:H p=B0)(r:Reps K G vs ds):NewL K B G (upd H p (.lst vs)) σ ρ p vs ds where
 b:=k.bh.free hp
 g:=k.gh.free hp
 h:=UW
 r:=r
 f:=λj es q z=>by obtain⟨a,ws,h1,h2,h3,h4,h5⟩:=k.own j es q;rw[z]at h1;cases h1;rw[hp]at h4;cases h4
 dp:=λj pt d v fp q s rr=>k.freshD (KB hp) hp q s rr
theorem Oj{f:M B4}(h:PA X es (tDs X.K B G0 f)):PE X (.List es pos) (tL X.K B G0 (UD f λxs=>if xs.length<=1000000 then Up xs else λ_=>.bad)):=
 UK (Ts h) λσ H Q ⟨G,ρ,k,a⟩=>by
  refine⟨G,ρ,k,?_⟩;unfold UD at a;cases z:f ρ with
  |bad=>rw[z]at a;exact a.elim
  |ok ds ρ1=>
   rw[z]at a;dsimp only at a;intro v G' H' k' s' r;by_cases c:ds.length<=1000000
   .rw[Qr c]at a
    refine⟨by rw[r.length];exact Qq c lim,λp hp=>?_⟩;exact a p v G' _ (k'.ext (Ext.hid k'.gh hp)) s' (NewL.of k' hp r)
   .rw[QD c]at a;exact a.elim
noncomputable def KN(i:Nat)(f:M D):SM:=λρ0=>match ρ0[i]? with
 |some (O (.own _))=>sB f (λd ρ=>match ρ[i]? with
  |some (O (.own ds))=>if ds.length<1000000 then .nx (ρ.set i (O (.own (ds++[d]))))else .bad
  |_=>.bad) ρ0
 |_=>.bad
theorem LA{i:Nat}{f:M D}{o:JZ}{apos cpos:Pos}(ho:PE X o (UZ i))(he:PE X e (tD X.K B G0 f))
  (hbase:attributeBase o "append" X.env (eval o X.env)=eval o X.env:=by rfl)
  (hfew:((backTo cpos (J5 [e] X.env)).all (λx=>!x.1)&&(backToKw cpos (keywordEach [] X.env)).all (λx=>x.1.isSome)
   && decide ([e].length+([]:List Keyword).length+(if([]:List Keyword).isEmpty then 0 else 1)<30))=B2:=by rfl)
  (hline:(apos.endLine==cpos.line)=B2:=by rfl) (hs:J5 [e] X.env=[(B3,eval e X.env)]:=by rfl)
  (hsw:swapsWith (.Call (.Attribute o "append" apos) [e] [] cpos) B0 pos.line X.env=pure B3:=by rfl) :
  PS X (.Expr (.Call (.Attribute o "append" apos) [e] [] cpos) pos) (tS X.K B G0 KX (KN i f)):=
 U9 (Xk (VD Jw JE JF Vq ho (KI he Zd (by rw[hs];rfl)) hbase hfew hline (by rw[hs];rfl) Z) hsw) λD σ H ⟨G,ρ,k,a⟩=>by
  unfold KN at a;cases q0:ρ[i]? with
  |none=>rw[q0]at a;exact a.elim
  |some o0=>
   cases o0 with
   |none=>rw[q0]at a;exact a.elim
   |some sl0=>
    cases sl0 with
    |deep _ _=>rw[q0]at a;exact a.elim
    |pub d=>rw[q0]at a;exact a.elim
    |own AS=>
     rw[q0]at a;obtain⟨ad,vs0,h1,h2,h3,h4,h5⟩:=k.own i AS q0;refine⟨.ref ad,h1,.inl ⟨rfl,_,SqL.of h4⟩,G,ρ,k,?_⟩;unfold sB at a;cases z:f ρ with
     |bad=>rw[z]at a;exact a.elim
     |ok d ρ1=>
      rw[z]at a;dsimp only at a;intro v G' H' k' s' r';cases q:ρ1[i]? with
      |none=>rw[q]at a;exact a.elim
      |some o=>
       cases o with
       |none=>rw[q]at a;exact a.elim
       |some sl=>
        cases sl with
        |deep _ _=>rw[q]at a;exact a.elim
        |pub d=>rw[q]at a;exact a.elim
        |own ds=>
         rw[q]at a;dsimp only at a;split at a
         .rename_i hl
          obtain⟨ad',vs,g1,g2,g3,g4,g5⟩:=k'.own i ds q;rw[h1]at g1;cases g1;refine⟨ad,vs,v,rfl,rfl,g4,by rw[g5.length];exact Qx hl lim,?_⟩;exact a σ G' _ (k'.change q h1 (g5.append (.cons r' .nil))) s'
         .exact a.elim
end
structure Yq(K:Frag)(J:It)(ds:B4)(G1:Hp):Prop where
 go:∀i G H,Same G1 G->Same G H->i<ds.length->J.go i H
 stop:∀i G H,Same G1 G->Same G H->ds.length<=i->J.stop i H
 yld:∀i G H x H' d,Same G1 G->Same G H->ds[i]?=O d->J.yld i H x H'->∃G',Ext G H G' H'/\Rep K G' x d
noncomputable def iD(K:Frag)(B G0:Hp)(f:M B4):TI:=λσ H R=>∃G ρ,EOk K B G0 G H σ ρ/\match f ρ with
 |.ok ds ρ'=>∀J G' H',EOk K B G0 G' H' σ ρ'->Same G G'->Yq K J ds G'->R J H'
 |.bad=>False
section
variable{X:Cx}{B G0:Hp}{KX:XW}{e a b c tg:JZ}{pos:Pos}{es rest:B8}{st:Stmt}{sts sts2:List Stmt}
theorem Xo{t t':TI}(h:PI X tg e t)(i:∀σ H R,t' σ H R->t σ H R):PI X tg e t':=λpins s σ H R I q=>h pins s σ H R I (i σ H R q)
theorem tM.toI{K:Frag}{α γ:Type}{R0:Hp->γ->α->Prop}{f:M α}{g:α->M B4}{σ:St}{H:Hp}{R:It->Hp->Prop}{P:γ->Hp->Prop}(q:iD K B G0 (UD f g) σ H R)
  (i:∀v H' G' ρ' x,EOk K B G0 G' H' σ ρ'->R0 G' v x->(match g x ρ' with
   |.ok ds ρ2=>∀J G2 H2,EOk K B G0 G2 H2 σ ρ2->Same G' G2->Yq K J ds G2->R J H2
   |.bad=>False)->P v H'):tM K B G0 R0 f σ H P:=by
 obtain⟨G,ρ,k,a⟩:=q;refine⟨G,ρ,k,?_⟩;unfold UD at a;cases z:f ρ with
 |bad=>rw[z]at a;exact a.elim
 |ok d ρ1=>
  rw[z]at a;intro v G' H' e s r;refine i v H' G' ρ1 d e r ?_;dsimp only at a;cases z2:g d ρ1 with
  |bad=>rw[z2]at a;exact a.elim
  |ok ds ρ2=>rw[z2]at a;exact λJ G2 H2 k2 s2 it=>a J G2 H2 k2 (s.trans s2) it
theorem C7{K:Frag}{G1:Hp}{ad:JX}{vs:List V}{ds:B4}(h:SqL K G1 ad vs)(r:Reps K G1 vs ds):Yq K (Itl K ad) ds G1 where
 go:=λi G H s1 s2 hi=>by
  have hi':i<vs.length:=by rw[r.length];exact hi
  exact⟨vs,vs[i],(s1.trans s2).seq h,Qp hi'⟩
 stop:=λi G H s1 s2 hi=>⟨vs,(s1.trans s2).seq h,by rw[r.length];exact hi⟩
 yld:=λi G H x H' d s1 s2 e y=>by obtain⟨rfl,y⟩:=y;obtain⟨v,e1,r1⟩:=r.get e;have:=y vs ((s1.trans s2).seq h);rw[e1]at this;cases this;exact⟨G,.refl s2,r1.mono s1⟩
noncomputable def KT(lo hi:Int):B4:=(J7 (hi-lo).toNat).map λ(k:Nat)=>.int (lo+k)
theorem Vs(lo hi:Int):(KT lo hi).length=(hi-lo).toNat:=by unfold KT;rw[Qd,List.length_range]
theorem N4{K:Frag}{G1:Hp}(lo hi:Int):Yq K (Itr lo (hi-lo).toNat) (KT lo hi) G1 where
 go:=λi G H s1 s2 h=>by rw[Vs]at h;exact h
 stop:=λi G H s1 s2 h=>by rw[Vs]at h;exact h
 yld:=λi G H x H' d s1 s2 e y=>by
  obtain⟨rfl,rfl⟩:=y;unfold KT at e;rw[QO]at e;have hi:i<(J7 (hi-lo).toNat).length:=by refine Nat.lt_of_not_le λz=>?_;rw[List.getElem?_eq_none z]at e;cases e
  rw[Qp hi,List.getElem_range]at e;cases e;exact⟨G,.refl s2,.int _⟩
noncomputable def Vd:B4->Option B4
 |[.int j]=>if j<=1000000 /\ -1000000<=j then O (KT 0 j)else B0
 |_=>B0
noncomputable def Vc:B4->Option B4
 |[.int i,.int j]=>if j<=1000000 /\ -1000000<=j/\i<=1000000 /\ -1000000<=i then O (KT i j)else B0
 |_=>B0
noncomputable def Wf(f:M B4):M B4:=UD f λx=>UB (Vd x)
noncomputable def Vb(f:M B4):M B4:=UD f λx=>UB (Vc x)
theorem C6{f:M B4}{p2:Pos}(hg:Gl X "range")(hm:X.mg "range" = B0)(ha:PA X [a] (tDs X.K B G0 f))(hs:J5 [a] X.env=[(B3,eval a X.env)]:=by rfl) :
  PI X tg (.Call (.Name "range" p2) [a] [] pos) (iD X.K B G0 (Wf f)):=Xo (Ct hg hm ha hs) λσ H R q=>tM.toI (R0:=Reps X.K) q λv H' G' ρ' x k r a=>by
 cases z:Vd x with
 |none=>rw[z]at a;exact a.elim
 |some ds=>
  rw[z]at a;unfold Vd at z;split at z
  .split at z
   .rename_i j c
    cases z;obtain⟨w,rfl,r'⟩:=r.one_inv;refine⟨j,by rw[r'.int_inv],by lia,by lia,?_⟩;have it:=N4 (K:=X.K) (G1:=G') 0 j;rw[Int.sub_zero]at it;exact a _ G' H' k (.refl _) it
   .cases z
  .cases z
theorem C5{f:M B4}{p2:Pos}(hg:Gl X "range")(hm:X.mg "range" = B0)(ha:PA X [a,b] (tDs X.K B G0 f))(hs:J5 [a,b] X.env=[(B3,eval a X.env),(B3,eval b X.env)]:=by rfl)(hs2:J5 [b] X.env=[(B3,eval b X.env)]:=by rfl) :
  PI X tg (.Call (.Name "range" p2) [a,b] [] pos) (iD X.K B G0 (Vb f)):=Xo (Cs hg hm ha hs hs2) λσ H R q=>tM.toI (R0:=Reps X.K) q λv H' G' ρ' x k r a=>by
 cases z:Vc x with
 |none=>rw[z]at a;exact a.elim
 |some ds=>
  rw[z]at a;unfold Vc at z;split at z
  .split at z
   .rename_i i j c
    cases z;obtain⟨w,w',rfl,r1,r2⟩:=r.two_inv;refine⟨i,j,by rw[r1.int_inv,r2.int_inv],⟨by lia,by lia,by lia,by lia⟩,?_⟩;exact a _ G' H' k (.refl _) (N4 i j)
   .cases z
  .cases z
noncomputable def ZT(n:Nat):B4->B4
 |[]=>[]
 |d::r=>.tuple [.int n,d]::ZT (n+1) r
theorem Rx:∀(n:Nat)(ds:B4),(ZT n ds).length=ds.length
 |_,[]=>rfl
 |n,d::r=>by rw[ZT,QB,QB,Rx]
theorem O9:∀(n:Nat)(ds:B4)(i:Nat),(ZT n ds)[i]?=ds[i]?.map λd=>.tuple [.int ((n+i:Nat):Int),d]
 |_,[],i=>by simp[ZT]
 |n,d::r,0=>by simp[ZT]
 |n,d::r,i+1=>by
  rw[ZT,JI,JI,O9 (n+1) r i];have:n+1+i=n+(i+1):=by lia
  rw[this]
theorem Bm{K:Frag}{G1:Hp}{ad:JX}{vs:List V}{ds:B4}(h:SqL K G1 ad vs)(r:Reps K G1 vs ds):Yq K (Ite K ad) (ZT 0 ds) G1 where
 go:=λi G H s1 s2 hi=>by
  rw[Rx]at hi;have hi':i<vs.length:=by rw[r.length];exact hi
  exact⟨vs,vs[i],(s1.trans s2).seq h,Qp hi'⟩
 stop:=λi G H s1 s2 hi=>by rw[Rx]at hi;exact⟨vs,(s1.trans s2).seq h,by rw[r.length];exact hi⟩
 yld:=λi G H x H' d s1 s2 e y=>by
  obtain⟨p,v,hp,rfl,y,rfl⟩:=y;rw[O9]at e;cases z:ds[i]? with
  |none=>rw[z]at e;cases e
  |some d0=>rw[z]at e;cases e;obtain⟨w,e1,r1⟩:=r.get z;have:=y vs ((s1.trans s2).seq h);rw[e1]at this;cases this;refine⟨upd G p (.tup [.int i,v]),Ext.new s2 hp,.tup (SqT.of UW) (.cons ?_ (.cons ((r1.mono s1).mono (KB (s2.free hp))) .nil))⟩;rw[Nat.zero_add];exact .int _
noncomputable def VE:B4->Option B4
 |[.list ds]=>O (ZT 0 ds)
 |_=>B0
noncomputable def We(f:M B4):M B4:=UD f λx=>UB (VE x)
theorem GR{f:M B4}{p2:Pos}{elts:B8}{x1}{tp:Pos}(hg:Gl X "enumerate")(hm:X.mg "enumerate" = B0)(ha:PA X [a] (tDs X.K B G0 f))(hs:J5 [a] X.env=[(B3,eval a X.env)]:=by rfl) :
  PI X (.Tuple elts x1 tp) (.Call (.Name "enumerate" p2) [a] [] pos) (iD X.K B G0 (We f)):=Xo (F8 hg hm ha hs) λσ H R q=>tM.toI (R0:=Reps X.K) q λv H' G' ρ' x k r a=>by
 cases z:VE x with
 |none=>rw[z]at a;exact a.elim
 |some ds=>
  rw[z]at a;unfold VE at z;split at z
  .cases z
   obtain⟨w,rfl,r'⟩:=r.one_inv;obtain⟨ad,vs,rfl,h1,r1⟩:=r'.lst_inv;exact⟨ad,vs,rfl,k.gh.seq h1,a _ G' H' k (.refl _) (Bm h1 r1)⟩
  .cases z
noncomputable def YO(s:D->Um->Ab)(g:SM):B4->SM
 |[],ρ=>.nx ρ
 |d::r,ρ=>match s d ρ with
  |none=>.bad
  |some ρ1=>match g ρ1 with
   |.nx ρ2=>YO s g r ρ2
   |.ct ρ2=>YO s g r ρ2
   |.bk ρ2=>.nx ρ2
   |.rt d=>.rt d
   |.ro ds=>.ro ds
   |.ex ρ2 d=>.ex ρ2 d
   |.bad=>.bad
noncomputable def Kf(f:M B4)(s:D->Um->Ab)(g:SM):SM:=sB f λds=>YO s g ds
theorem Lz{iter:JZ}{body:List Stmt}{f:M B4}{s:D->Um->Ab}{g:SM}(hp:PassesOwn (model X.prog X.w) X.A X.env X.xe)(hc:X.calm=B2)(hi:PI X tg iter (iD X.K B G0 f))(hg:PG X tg (tG X.K B G0 s))(hb:PSs X body (tS X.K B G0 KX g))
  (hs:∀x,Ul iter X.env x=pure x:=by intro _;rfl):PS X (.For tg iter body [] pos) (tS X.K B G0 KX (Kf f s g)):=
 U9 (Ps hp hc hi hg hb hs) λDn σ H ⟨G,ρ,k,a⟩=>by
  refine⟨G,ρ,k,?_⟩;unfold Kf sB at a;cases z:f ρ with
  |bad=>rw[z]at a;exact a.elim
  |ok ds ρ1=>
   rw[z]at a;dsimp only at a⊢;intro J G1 H1 k1 s1 it;refine⟨λi m σ' H'=>m=ds.length-i/\∃G' ρ',EOk X.K B G0 G' H' σ' ρ'/\Same G1 G'/\aftS X.K B G0 KX (YO s g (ds.drop i) ρ') G' Dn,⟨ds.length,by lia,G1,ρ1,k1,.refl _,by rw[List.drop_zero];exact aftS.mono s1 a⟩,?_⟩;rintro i m σ' H' ⟨rfl,G',ρ',k',s',a'⟩;by_cases hi:i<ds.length
   .right
    refine⟨it.go i G' H' s' k'.gh hi,λσ2 H2=>∃G2 ρ2,EOk X.K B G0 G2 H2 σ2 ρ2/\Same G1 G2/\aftS X.K B G0 KX (YO s g (ds.drop (i+1)) ρ2) G2 Dn,λσ2 H2 h2=>⟨ds.length-(i+1),by lia,rfl,h2⟩,λx H2 y=>?_⟩;obtain⟨G2,ex,rx⟩:=it.yld i G' H' x H2 ds[i] s' k'.gh (Qp hi) y;rw[JA hi,YO]at a';cases z2:s ds[i] ρ' with
    |none=>rw[z2]at a';exact a'.elim
    |some ρ2=>
     rw[z2]at a';dsimp only at a';refine⟨G2,ρ',ds[i],ρ2,k'.ext ex,rx,z2,λσ3 G3 H3 k3 s3=>⟨G3,ρ2,k3,?_⟩⟩;have s13:Same G1 G3:=(s'.trans ex.g).trans s3;cases z3:g ρ2 with
     |nx ρ3=>rw[z3]at a';exact λσ4 G4 H4 k4 s4=>⟨G4,ρ3,k4,s13.trans s4,aftS.mono ((ex.g.trans s3).trans s4) a'⟩
     |ct ρ3=>rw[z3]at a';exact λσ4 G4 H4 k4 s4=>⟨G4,ρ3,k4,s13.trans s4,aftS.mono ((ex.g.trans s3).trans s4) a'⟩
     |bk ρ3=>rw[z3]at a';exact λσ4 G4 H4 k4 s4=>a' σ4 G4 H4 k4 ((ex.g.trans s3).trans s4)
     |rt d=>rw[z3]at a';exact a'
     |ro ds=>rw[z3]at a';exact a'
     |ex ρ3 d=>rw[z3]at a';exact λv σ4 G4 H4 k4 s4 r4=>a' v σ4 G4 H4 k4 ((ex.g.trans s3).trans s4) r4
     |bad=>rw[z3]at a';exact a'.elim
   .left
    rw[List.drop_eq_nil_of_le (by lia)]at a';exact⟨it.stop i G' H' s' k'.gh (by lia),a' σ' G' H' k' (.refl _)⟩
theorem DP{k:Nat}{f:JX}{fd:JY}{ps:List Str}{F:B4->B9}{g:M B4}{x:Str}{p2:Pos}{n:Nat}(FK:FnOk X.prog X.w X.K X.mg X.base CX0 k f fd ps (spD X.K n F))(hr:Room k X.A)(hg:Gl X x)(hm:X.mg x=O (.ref f))(hk:PySem.W.keepIn X.K (.ref f)=B2)
  (hb:Ze X.K fd ps []) (ha:PA X (e::es) (tDs X.K B G0 g)) (hn:(e::es).length=n) (hdb:(x==("__debug__" : Str))=B3:=by decide) (he:J5 (e::es) X.env=(B3,eval e X.env)::J5 es X.env:=by rfl) (hpl:(backTo pos (J5 es X.env)).any (·.1)=B3:=by rfl) :
  PE X (.Call (.Name x p2) (e::es) [] pos) (tD X.K B G0 (UD g λxs=>if xs.length=n then UB (F xs)else λ_=>.bad)):=
 UK (Oh FK hr hg hm hk hb .nil Sq ha hdb he hpl) λσ H Q q=>tM.one (R:=Reps X.K) q λv H2 G ρ ds k r a=>by
  split at a
  .rename_i hl
   obtain⟨d,e,a⟩:=a.opt;exact⟨G,ds,d,by rw[QT,r.length];exact hl,k.gh,by rw[QT];exact r,e,λw G' H' ex rw=>a.done k ex rw⟩
  .exact a.elim
end
noncomputable def KQ(N:List Str)(ds:B4):Um:=(ds.map λd=>O (Sl.pub d))++J8 (N.length-ds.length) B0
theorem Rf{K:Frag}{N:List Str}{G H:Hp}{vs:List V}{ds:B4}(s:Same G H)(r:Reps K G vs ds):EOk K H G G H (L2.ZU N vs) (KQ N ds) where
 bh:=.refl _
 gh:=s
 g0:=.refl _
 np:=λ_ _ _ n=>n
 len:=by unfold L2.ZU KQ;rw[Qo,Qo,Qd,Qd,Q5,Q5,r.length]
 pub:=λi d q=>by
  unfold KQ at q;unfold L2.ZU;by_cases hi:i<ds.length
  .rw[Qv (by rw[Qd];exact hi),QO]at q
   cases z:ds[i]? with
   |none=>rw[z]at q;cases q
   |some d'=>rw[z]at q;cases q;obtain⟨v,e1,r1⟩:=r.get z;refine⟨v,?_,r1⟩;rw[Qv (by rw[Qd,r.length];exact hi),QO,e1];rfl
  .rw[Qz (by rw[Qd];lia),QI]at q
   split at q<;>cases q
 own:=λi es q=>by
  unfold KQ at q;by_cases hi:i<ds.length
  .rw[Qv (by rw[Qd];exact hi),QO]at q
   cases z:ds[i]? with
   |none=>rw[z]at q;cases q
   |some d'=>rw[z]at q;cases q
  .rw[Qz (by rw[Qd];lia),QI]at q
   split at q<;>cases q
 sep:=λi j a es fs q _ _ _=>by
  unfold KQ at q;by_cases hi:i<ds.length
  .rw[Qv (by rw[Qd];exact hi),QO]at q
   cases z:ds[i]? with
   |none=>rw[z]at q;cases q
   |some d'=>rw[z]at q;cases q
  .rw[Qz (by rw[Qd];lia),QI]at q
   split at q<;>cases q
 dp:=by
  have key:∀{i:Nat}{s:Sl},(KQ N ds)[i]?=O (O s)->∃d,s=.pub d:=λ{i s} q=>by
   unfold KQ at q;by_cases hi:i<ds.length
   .rw[Qv (by rw[Qd];exact hi),QO]at q
    cases z:ds[i]? with
    |none=>rw[z]at q;cases q
    |some d'=>rw[z]at q;cases q;exact⟨_,rfl⟩
   .rw[Qz (by rw[Qd];lia),QI]at q
    split at q<;>cases q
  exact .of (λi p d q=>by obtain⟨_,e⟩:=key q;cases e) λi ds q=>by obtain⟨_,e⟩:=key q;cases e
noncomputable def UY(N:List Str)(g:SM)(ds:B4):B9:=match g (KQ N ds)with
 |.rt d=>O d
 |.nx _=>O .none
 |_=>B0
theorem okD{P:JW}{w:World}{K:Frag}{mg:Str->B7}{base:Heap}{x qual:Str}{st:Stmt}{f:JX}{fd:JY}{N ps:List Str}{k n:Nat}{g:SM}(F:Fun K x qual st f fd)(S:Xj N ps (Kb st))(hn:ps.length=n)
  (der:∀(cdv:JU)(A:Around)(outer:List Env)(s:JV)(H:Hp)(E:XK)(B G0:Hp),Room k (A.deeper (envOfC qual (Kb st) s.heap.objs.size f cdv)) ->
   PSs (Kl CX0 P w K mg base N qual (Kb st) f cdv A outer s H E).nox (K5 st) (tS K B G0 KX0 g)):FnOk P w K mg base CX0 (k+1) f fd ps (spD K n (UY N g)):=by
 refine F.ok S (λvs H Q E h=>?_) (λcdv A outer s H vs Q E hr h=>?_)
 .obtain⟨_,_,_,hl,_⟩:=h
  rw[hl,hn]
 .obtain⟨G,ds,d,hl,sg,r,hF,q⟩:=h
  refine⟨_,der cdv A outer s H E H G hr,G,KQ N ds,Rf sg r,?_⟩;unfold UY at hF;cases z:g (KQ N ds)with
  |rt d'=>rw[z]at hF;cases hF;exact λv G' H' ex rr=>q v G' H' ex rr
  |nx ρ=>rw[z]at hF;cases hF;exact λσ' G' H' k' _=>q .non G' H' k'.exit .non
  |ro ds=>rw[z]at hF;cases hF
  |bk ρ=>rw[z]at hF;cases hF
  |ct ρ=>rw[z]at hF;cases hF
  |ex ρ d=>rw[z]at hF;cases hF
  |bad=>rw[z]at hF;cases hF
section
variable{X:Cx}{B G0:Hp}{e a b c tg:JZ}{pos:Pos}{es rest:B8}
noncomputable def oNeg:D->B9
 |.int i=>O (.int (-i))
 |_=>B0
noncomputable def K9(f:M D):M D:=UD f λx=>UB (oNeg x)
theorem GQ{f:M D}(h:PE X a (tD X.K B G0 f)):PE X (.UnaryOp .USub a pos) (tD X.K B G0 (K9 f)):=
 UK (My HV h) λσ H Q q=>tM.one (R:=Rep X.K) q λv H2 G ρ x k r a=>by
  cases x with
  |int i=>exact⟨i,r.int_inv,aft.now a k (.int _)⟩
  |_=>exact a.elim
end
def Def(P:JW)(w:World)(K:Frag)(mg:Str->B7)(base:Heap)(x:Str)(k n:Nat)(F:B4->B9):Prop:=
 ∃(f:JX)(fd:JY)(ps:List Str),mg x=O (.ref f)/\PySem.W.keepIn K (.ref f)=B2/\Ze K fd ps []/\FnOk P w K mg base CX0 k f fd ps (spD K n F)
noncomputable def UC(n:Nat)(F:B4->B9)(g:M B4):M D:=UD g λxs=>if xs.length=n then UB (F xs)else λ_=>.bad
section
variable{X:Cx}{B G0:Hp}{e:JZ}{pos:Pos}{es:B8}
theorem GP{k n:Nat}{F:B4->B9}{g:M B4}{x:Str}{p2:Pos}(d:Def X.prog X.w X.K X.mg X.base x k n F)(hr:Room k X.A)(hg:Gl X x)(ha:PA X (e::es) (tDs X.K B G0 g))(hn:(e::es).length=n:=by rfl)
  (hdb:(x==("__debug__" : Str))=B3:=by decide) (he:J5 (e::es) X.env=(B3,eval e X.env)::J5 es X.env:=by rfl) (hpl:(backTo pos (J5 es X.env)).any (·.1)=B3:=by rfl) :
  PE X (.Call (.Name x p2) (e::es) [] pos) (tD X.K B G0 (UC n F g)):=by
 obtain⟨f,fd,ps,h1,h2,h3,h4⟩:=d;exact DP h4 hr hg h1 h2 h3 ha hn hdb he hpl
end
theorem Def.mk{P:JW}{w:World}{K:Frag}{mg:Str->B7}{base:Heap}{x:Str}{k n:Nat}{F:B4->B9}{st:Stmt}{f:JX}{fd:JY}{ps:List Str}(hm:mg x=O (.ref f))(FU:Fun K x x st f fd)(hb:Ze K fd ps [])(ok:FnOk P w K mg base CX0 k f fd ps (spD K n F)) :
  Def P w K mg base x k n F:=⟨f,fd,ps,hm,FU.kp,hb,ok⟩
theorem Ly{K:Frag}{H:Hp}{a:JX}{ns:B6}{F:B4->B9}{E:XK}(hS:SqL K H a (ns.map V.int))(h:F [.list (ns.map int)]=O (.bool B2)):spD K 1 F [.ref a] H (λv _=>v=.bl B2) E:=
 ⟨H,[.list (ns.map int)],.bool B2,rfl,.refl _,.cons (.lst hS (Reps.ints ns)) .nil,h,λ_ _ _ _ r=>r.bl_inv⟩
end DL
namespace L2
open PySem PySem.Spec PyProof.Rows
theorem mem_of_lookup{x:Str}{k:NameKind}:∀{l:List (Str×NameKind)},l.lookup x=O k->(x,k)∈l
 |[],h=>by cases h
 |(y,j)::r,h=>by
  rw[QW]at h;split at h
  .rename_i e
   cases h;have:x=y:=by simpa using e
   rw[this];exact Qk
  .exact Qj _ (mem_of_lookup h)
theorem Rp{env:Env}:∀(l:List (Str×NameKind))(acc:List (Str×JX)),(∀y∈l,y.2=.free->∃c,env.cells.lookup y.1=O c) ->
  ∃cl,(forIn l acc (λx r=>if(x.2==NameKind.free)=B2 then(do let a ←cellOf env x.1;pure (ForInStep.yield ((x.1,a)::r)))else pure (ForInStep.yield r)):Sem (List (Str×JX)))=pure cl /\
   (∀x c,cl.lookup x=O c->acc.lookup x=O c∨env.cells.lookup x=O c)/\(∀y∈l,y.2=.free->∃c,cl.lookup y.1=O c)/\(∀x c,acc.lookup x=O c->∃c',cl.lookup x=O c')
 |[],acc,_=>⟨acc,rfl,λ_ _ h=>.inl h,λ_ h=>absurd h (by simp),λx c h=>⟨c,h⟩⟩
 |(n,k)::r,acc,h=>by
  by_cases hk:k=.free
  .subst hk
   obtain⟨c,hc⟩:=h (n,.free) Qk Z;obtain⟨cl,e,p1,p2,p3⟩:=Rp r ((n,c)::acc) λy hy=>h y (Qj _ hy)
   have hco:cellOf env n=pure c:=by unfold cellOf;rw[hc]
   have key:∀x c',((n,c)::acc).lookup x=O c'->acc.lookup x=O c'∨env.cells.lookup x=O c':=λx c' q=>by
    rw[QW]at q;split at q
    .rename_i e1
     cases q;have:x=n:=by simpa using e1
     subst this;exact .inr hc
    .exact .inl q
   have own:((n,c)::acc).lookup n=O c:=by rw[List.lookup_cons];simp
   refine⟨cl,?_,λx c' q=>?_,λy hy hf=>?_,λx c' q=>?_⟩
   .rw[List.forIn_cons]
    have:(if(((n,NameKind.free):Str×NameKind).2==NameKind.free)=B2 then(do let a ←cellOf env n;pure (ForInStep.yield ((n,a)::acc)))else pure (ForInStep.yield acc):Sem _)=pure (ForInStep.yield ((n,c)::acc)):=by rw[Qr (show((n,NameKind.free).snd==NameKind.free)=B2 from rfl),hco];rfl
    refine Eq.trans ?_ e;dsimp only at this⊢;rw[this];rfl
   .rcases p1 x c' q with z|z
    .exact key x c' z
    .exact .inr z
   .rcases QM.mp hy with z|z
    .subst z
     exact p3 n c own
    .exact p2 y z hf
   .by_cases hx:x=n
    .subst hx;exact p3 x c own
    .refine p3 x c' ?_
     have hb:(x==n)=B3:=by simpa using hx
     rw[QW,hb];exact q
  .obtain⟨cl,e,p1,p2,p3⟩:=Rp r acc λy hy=>h y (Qj _ hy)
   refine⟨cl,?_,p1,λy hy hf=>?_,p3⟩
   .rw[List.forIn_cons]
    have hb:(k==NameKind.free)=B3:=by cases k<;>first|rfl|exact absurd Z hk
    refine Eq.trans ?_ e;dsimp only;rw[hb,QD (by decide)];rfl
   .rcases QM.mp hy with z|z
    .subst z;exact absurd hf hk
    .exact p2 y z hf
theorem NO{scope:Scope}{env:Env}(h:∀y∈scope.names,y.2=.free->∃c,env.cells.lookup y.1=O c) :
  ∃cl,closureFor scope env=pure cl/\(∀x c,cl.lookup x=O c->env.cells.lookup x=O c)/\∀y∈scope.names,y.2=.free->∃c,cl.lookup y.1=O c:=by
 obtain⟨cl,e,p1,p2,_⟩:=Rp scope.names [] h;refine⟨cl,?_,λx c q=>(p1 x c q).elim (λz=>by cases z) id,p2⟩;have e2:((forIn scope.names [] (λx r=>if(x.2==NameKind.free)=B2 then(do let a ←cellOf env x.1;pure (ForInStep.yield ((x.1,a)::r)))else pure (ForInStep.yield r)):Sem (List (Str×JX))) >>= λs=>pure s)=pure cl:=by rw[e];rfl
 exact e2
theorem N0{env:Env}{x:Str}{k:NameKind}:∀{names:List (Str×NameKind)},(names.map λ(n,k)=>if(k==NameKind.free&&env.scope.kind==.function&&env.kindOf n==O .cell)then(n,NameKind.cell)else(n,k)).lookup x=O k ->
  names.lookup x=O k∨(names.lookup x=O .free/\k=.cell)
 |[],h=>by cases h
 |(n,j)::r,h=>by
  have ih:=@N0 env x k r;have h:List.lookup x ((if(j==NameKind.free&&env.scope.kind==.function&&env.kindOf n==O .cell)=B2 then(n,NameKind.cell)else(n,j))::_)=O k:=h;cases hx:x==n with
  |true=>
   by_cases hc:(j==NameKind.free&&env.scope.kind==.function&&env.kindOf n==O .cell)=B2
   .rw[Qr hc]at h
    simp only[QW,hx]at h⊢;cases h;simp only[Qn]at hc;have:j=.free:=by have:=hc.1.1;cases j<;>first|rfl|cases this
    subst this;exact .inr ⟨rfl,rfl⟩
   .rw[QD hc]at h
    simp only[QW,hx]at h⊢;exact .inl h
  |false=>
   by_cases hc:(j==NameKind.free&&env.scope.kind==.function&&env.kindOf n==O .cell)=B2
   .rw[Qr hc]at h
    simp only[QW,hx]at h⊢;exact ih h
   .rw[QD hc]at h
    simp only[QW,hx]at h⊢;exact ih h
theorem Rw{env:Env}{x:Str}:∀{names:List (Str×NameKind)},names.lookup x=O .free ->
  (names.map λ(n,k)=>if(k==NameKind.free&&env.scope.kind==.function&&env.kindOf n==O .cell)then(n,NameKind.cell)else(n,k)).lookup x=O .free ∨
  (names.map λ(n,k)=>if(k==NameKind.free&&env.scope.kind==.function&&env.kindOf n==O .cell)then(n,NameKind.cell)else(n,k)).lookup x=O .cell
 |[],h=>by cases h
 |(n,j)::r,h=>by
  have ih:=@Rw env x r;show List.lookup x ((if(j==NameKind.free&&env.scope.kind==.function&&env.kindOf n==O .cell)=B2 then(n,NameKind.cell)else(n,j))::_)=_∨List.lookup x ((if(j==NameKind.free&&env.scope.kind==.function&&env.kindOf n==O .cell)=B2 then(n,NameKind.cell)else(n,j))::_)=_;cases hx:x==n with
  |true=>
   simp only[QW,hx]at h;cases h;by_cases hc:(NameKind.free==NameKind.free&&env.scope.kind==.function&&env.kindOf n==O .cell)=B2
   .rw[if_pos hc];simp[List.lookup_cons,hx]
   .rw[if_neg hc];simp[List.lookup_cons,hx]
  |false=>
   simp only[QW,hx]at h;by_cases hc:(j==NameKind.free&&env.scope.kind==.function&&env.kindOf n==O .cell)=B2
   .rw[Qr hc];simp only[QW,hx];exact ih h
   .rw[QD hc];simp only[QW,hx];exact ih h
theorem Wc{env:Env}{x:Str}{k:NameKind}(hk:k≠.free):∀{names:List (Str×NameKind)},names.lookup x=O k ->
  (names.map λ(n,k)=>if(k==NameKind.free&&env.scope.kind==.function&&env.kindOf n==O .cell)then(n,NameKind.cell)else(n,k)).lookup x=O k
 |[],h=>by cases h
 |(n,j)::r,h=>by
  have ih:=@Wc env x k hk r;show List.lookup x ((if(j==NameKind.free&&env.scope.kind==.function&&env.kindOf n==O .cell)=B2 then(n,NameKind.cell)else(n,j))::_)=_;cases hx:x==n with
  |true=>
   simp only[QW,hx]at h;cases h;have:(k==NameKind.free)=B3:=by cases k<;>first|rfl|exact absurd Z hk
   rw[if_neg (by rw[this];simp)];simp[List.lookup_cons,hx]
  |false=>
   simp only[QW,hx]at h;by_cases hc:(j==NameKind.free&&env.scope.kind==.function&&env.kindOf n==O .cell)=B2
   .rw[Qr hc];simp only[QW,hx];exact ih h
   .rw[QD hc];simp only[QW,hx];exact ih h
structure ClOk(env:Env)(scope:Scope)(cl:List (Str×JX))(L:JX)(h':Heap):Prop where
 old:∀x c,cl.lookup x=O c->env.cells.lookup x=O c∨(L<c/\h'.IsCell c B0)
 fre:∀x,scope.names.lookup x=O .free->∃c,cl.lookup x=O c/\env.cells.lookup x=O c
 cel:∀x,scope.names.lookup x=O .cell->∃c,cl.lookup x=O c/\L<c
 inj:∀x y c,cl.lookup x=O c->cl.lookup y=O c->L<c->x=y
theorem V2:∀(names:List (Str×NameKind))(n:Nat)(acc:List (Str×JX)),cellsFrom n names acc=cellsFrom n names []++acc
 |[],_,_=>rfl
 |(x,k)::r,n,acc=>by
  unfold cellsFrom;split
  .rw[V2 r (n+1) ((x,n)::acc),V2 r (n+1) [(x,n)],Jf];rfl
  .exact V2 r n acc
theorem Ry:∀(names:List (Str×NameKind))(n:Nat)(x:Str)(c:JX),(x,c)∈cellsFrom n names []->(x,NameKind.cell)∈names
 |[],_,_,_,h=>by cases h
 |(y,k)::r,n,x,c,h=>by
  unfold cellsFrom at h;split at h
  .rename_i hk
   rw[V2]at h;rcases QG.mp h with h|h
   .exact Qj _ (Ry r _ x c h)
   .cases QJ.mp h
    have:k=.cell:=by simpa using hk
    rw[this];exact Qk
  .exact Qj _ (Ry r _ x c h)
theorem Pk{M:Model}{A:Around}{E:JU->JV->Prop}{scope:Scope}{env:Env}{qo:List (Str×JX)}{s:JV}{Q:Env->JV->Prop}(qd:∀x c,qo.lookup x=O c->env.cells.lookup x=O c)(jb:∀y∈scope.names,y.2=.free->∃c,qo.lookup y.1=O c)(hn:∀y∈scope.names,scope.names.lookup y.1=O y.2)
  (hlt:∀x c,env.cells.lookup x=O c->c<s.heap.objs.size)
  (h:∀h' cl,h'.Ns s.heap.objs.size (λ_=>B0)->(∀b o,s.heap.get? b=O o->h'.get? b=O o)->ClOk env scope cl s.heap.objs.size h'->Q (newEnv scope s.heap.objs.size env.globals cl env.qual B0 .none (O env) builtinsNs) {s with heap:=h'}) :
  J4 M A (newFunctionEnv scope env.globals qo [] env.qual B0 .none (O env)) Q E s:=by
 simp only[newFunctionEnv,Option.isSome_some,if_true];refine Qb (wpAny_alloc ?_);refine wpAny_bind (wpAny_layCells _ (λname kind cells=>by cases hkc:kind==NameKind.cell<;>simp[hkc]) _ _ _ _ ?_);have ok:=cellsFrom_ok scope.names (s.heap.push {cls:=.type "dict", data:=.dict #[]}) (s.heap.objs.size+1) [] ⟨λ_ _ hm=>(nomatch hm),List.Pairwise.nil⟩ (by rw[Jm];exact Qt _);rw[Jm]at ok;rw[show({s with heap:=s.heap.push {cls:=.type "dict", data:=.dict #[]}}:JV).heap.objs.size=s.heap.objs.size+1 from Jm ..];rw[List.forIn_nil];refine Qb (Qg (Qg (h _ _ ((Heap.Ns.new s.heap (.type "dict")).keeps (pushCells_keeps _ _)) (λb o e=>pushCells_keeps _ _ b o (Qe _ e)) ?_)));have look:∀x,(cellsFrom (s.heap.objs.size+1) scope.names qo).lookup x=((cellsFrom (s.heap.objs.size+1) scope.names []).lookup x).or (qo.lookup x):=λx=>by rw[V2,List.lookup_append]
 have own:∀x c,(cellsFrom (s.heap.objs.size+1) scope.names []).lookup x=O c->scope.names.lookup x=O .cell:=λx c e=>hn _ (Ry _ _ _ _ (Q9 e))
 refine⟨λx c e=>?_,λx e=>?_,λx e=>?_,λx y c e1 e2 hc=>?_⟩
 .rw[look]at e
  cases z:(cellsFrom (s.heap.objs.size+1) scope.names []).lookup x with
  |none=>rw[z]at e;exact .inl (qd x c e)
  |some c'=>rw[z]at e;cases e;obtain⟨h1,h2⟩:=ok.empty x c (Q9 z);exact .inr ⟨h2,h1⟩
 .obtain⟨c,hc⟩:=jb (x,.free) (mem_of_lookup e) Z
  refine⟨c,?_,qd x c hc⟩;rw[look];cases z:(cellsFrom (s.heap.objs.size+1) scope.names []).lookup x with
  |none=>exact hc
  |some c'=>have:=own x c' z;rw[e]at this;cases this
 .obtain⟨c,hc⟩:=Rn (n:=s.heap.objs.size+1) e
  refine⟨c,by rw[look,hc];rfl,(ok.empty x c (Q9 hc)).2⟩
 .rw[look]at e1 e2
  cases z1:(cellsFrom (s.heap.objs.size+1) scope.names []).lookup x with
  |none=>rw[z1]at e1;exact absurd (hlt x c (qd x c e1)) (Nat.lt_asymm hc)
  |some c1=>
  cases z2:(cellsFrom (s.heap.objs.size+1) scope.names []).lookup y with
  |none=>rw[z2]at e2;exact absurd (hlt y c (qd y c e2)) (Nat.lt_asymm hc)
  |some c2=>rw[z1]at e1;rw[z2]at e2;cases e1;cases e2;exact name_of_addr ok.apart (Q9 z1) (Q9 z2)
noncomputable def Cx.blk(X:Cx)(N':List Str)(scope:Scope)(cl:List (Str×JX))(C:JX)(s₀:JV)(H₀:Hp)(ex:Aa):Cx:=
 {X with N:=N',s₀:=s₀,H₀:=H₀,env:=compEnvC scope cl C X.env,outer:=X.stack,ex:=ex,fn:=λx=>scope.names.lookup x==O .cell,xe:=λ_ _=>False}
section
variable{X:Cx}{N':List Str}{scope:Scope}{cl:List (Str×JX)}{C:JX}{s₀:JV}{H₀:Hp}{ex:Aa}{x:Str}
noncomputable def visK:Option NameKind->Bool
 |some .local=>B2|some .free=>B2|some .cell=>B2|_=>B3
theorem GO(h:visK (scope.names.lookup x)=B2):Vis (X.blk N' scope cl C s₀ H₀ ex).env.scope x:=by
 cases z:scope.names.lookup x with
 |none=>rw[z]at h;cases h
 |some y=>
  rw[z]at h;cases y with
  | «local»=>exact .inl (Wc (by decide) z)
  |cell=>exact .inr (.inl (Wc (by decide) z))
  |free=>
   rcases Rw (env:=X.env) z with z|z
   .exact .inr (.inr z)
   .exact .inr (.inl z)
  |_=>cases h
noncomputable def locK:Option NameKind->Bool
 |some .local=>B2|some .cell=>B2|_=>B3
theorem Oi(h:locK (scope.names.lookup x)=B2):Loc (X.blk N' scope cl C s₀ H₀ ex).env.scope x/\((X.blk N' scope cl C s₀ H₀ ex).fn x=B2∨(X.blk N' scope cl C s₀ H₀ ex).env.scope.names.lookup x=O .local):=by
 cases z:scope.names.lookup x with
 |none=>rw[z]at h;cases h
 |some y=>
  rw[z]at h;cases y with
  | «local»=>exact⟨.inl (Wc (by decide) z),.inr (Wc (by decide) z)⟩
  |cell=>exact⟨.inr (Wc (by decide) z),.inl (by show(scope.names.lookup x==O .cell)=B2;rw[z];rfl)⟩
  |_=>cases h
theorem Lx(h:scope.names.lookup x=O .globalImplicit):Gl (X.blk N' scope cl C s₀ H₀ ex) x:=Wc (by decide) h
end
noncomputable def VX(names:List (Str×NameKind))(N N2:List Str)(k:Nat):Bool:=
 N2.length==N.length+k&&(J7 N2.length).all λi=>match N2[i]? with
  |none=>B2
  |some x=>match names.lookup x with
   |some .free=>N[i]?==O x
   |some .local=>decide (N.length<=i)&&decide (i<N.length+k)
   |some .cell=>decide (N.length<=i)&&decide (i<N.length+k)
   |_=>B2
theorem BI{names:List (Str×NameKind)}{N N2:List Str}{k:Nat}(h:VX names N N2 k=B2) :
  N2.length=N.length+k/\∀(i:Nat) x,N2[i]?=O x->(names.lookup x=O .free->N[i]?=O x)/\(names.lookup x=O .local∨names.lookup x=O .cell->N.length<=i/\i<N.length+k):=by
 unfold VX at h;simp only[Qn,beq_iff_eq,QS,List.mem_range]at h;refine⟨h.1,λi x e=>?_⟩;have hi:=(Qy.mp e).1;have:=h.2 i hi;rw[e]at this;refine⟨λq=>?_,λq=>?_⟩
 .simp only[q]at this
  simpa using this
 .rcases q with q|q<;>(simp only[q]at this;simpa using this)
theorem Inv.enter{X:Cx}{pins:List (JX×Obj)}{σ:St}{H:Hp}{s3:JV}(I:Inv X pins σ H s3){scope:Scope}{cl:List (Str×JX)}{N2:List Str}{k:Nat}{h':Heap}{fp:Aa}{t':Nat}{m0:Str->B7}
  (hb:VX scope.names X.N N2 k=B2) (hkind:scope.kind=.function)
  (hfree:∀y∈scope.names,y.2=.free->X.env.scope.names.lookup y.1=O .cell∨X.env.scope.names.lookup y.1=O .free)
  (hc:ClOk X.env scope cl s3.heap.objs.size h')
  (hn:h'.Ns s3.heap.objs.size m0) (hk:∀b o,s3.heap.get? b=O o->h'.get? b=O o) (hf:∀b∈fp,Kg X pins H b) (hfo:∀b∈fp,∃o,s3.heap.get? b=O o) :
  Inv (X.blk N2 scope cl s3.heap.objs.size s3 H fp) pins (σ++J8 k B0) H {s3 with heap:=h',toks:=t'}:=by
 obtain⟨hl,hN⟩:=BI hb;have lt:∀b o,s3.heap.get? b=O o->b≠s3.heap.objs.size:=λb o e=>QZ (Qf e);have ofl:∀x,scope.names.lookup x=O .free->(x,NameKind.free)∈scope.names:=λx h=>mem_of_lookup h;have kinv:∀x kk,(X.blk N2 scope cl s3.heap.objs.size s3 H fp).env.scope.names.lookup x=O kk->scope.names.lookup x=O kk∨(scope.names.lookup x=O .free/\kk=.cell):=λx kk h=>N0 (env:=X.env) h
 have isfc:∀x,(X.blk N2 scope cl s3.heap.objs.size s3 H fp).env.scope.names.lookup x=O .cell∨(X.blk N2 scope cl s3.heap.objs.size s3 H fp).env.scope.names.lookup x=O .free->scope.names.lookup x=O .free∨scope.names.lookup x=O .cell:=λx h=>by
  rcases h with h|h
  .rcases kinv x _ h with z|z
   .exact .inr z
   .exact .inl z.1
  .rcases kinv x _ h with z|z
   .exact .inl z
   .exact .inl z.1
 have lto:∀x c,X.env.cells.lookup x=O c->c<s3.heap.objs.size:=λx c e=>let ⟨_,q⟩:=I.cell x c e;q.lt
 have ok:(X.blk N2 scope cl s3.heap.objs.size s3 H fp).Ok:=
  {
   mod:=I.ok.mod
   kind:=hkind
   glob:=I.ok.glob
   blt:=I.ok.blt
   above:=Qt _
   inj:=λx y c a b=>by
    rcases hc.old x c a with q|⟨q,_⟩
    .rcases hc.old y c b with q'|⟨q',_⟩
     .exact I.ok.inj x y c q q'
     .exact absurd (lto x c q) (Nat.lt_asymm q')
    .exact hc.inj x y c a b q
   has:=λx h=>by
    rcases isfc x h with z|z
    .exact let ⟨c,e,_⟩:=hc.fre x z;⟨c,e⟩
    .exact let ⟨c,e,_⟩:=hc.cel x z;⟨c,e⟩
   cab:=λx c h e=>by
    have z:scope.names.lookup x=O .cell:=by have h:(scope.names.lookup x==O .cell)=B2:=h;simpa using h
    obtain⟨c',e',l⟩:=hc.cel x z;have e:cl.lookup x=O c:=e;rw[e]at e';cases e';exact JR l
   hd:=I.ok.hd
   frames:=I.ok.frames
   stk:=.inl Z
   exf:=λb hb=>⟨let ⟨o,e⟩:=hfo b hb;lt b o e,λx c e=>by
    rcases hc.old x c e with q|⟨q,_⟩
    .exact(hf b hb).2.2.2.2.1 x c q
    .obtain⟨o,e'⟩:=hfo b hb
     exact Ji (Nat.lt_trans (Qf e') q)⟩
   bs:=I.bs
   bsz:=Qq I.ok.bsz I.sz
   noex:=λb o e hb=>by
    rcases(hf b hb).2.2.2.1 with z|z
    .exact I.ok.noex b o e z
    .exact absurd (Qx (Qf e) (Qq I.ok.bsz z)) (Jo _)
   exfs:=λb hb hx=>by
    rcases QM.mp (I.stkSub b hx)with z|z
    .exact(hf b hb).2.1 z
    .exact(hf b hb).2.2.1 z
   funs:=I.stack
   frf:=I.stkFree}
 refine⟨ok,rfl,I.bare,Un.kept hk,⟨m0,hn,λi x v e1 e2 e3=>?_⟩,λx c e=>?_,I.hok.fresh (Qt _),λx c e=>(hc.old x c e).elim (I.freeC x c) λq=>I.hok.fresh (JR q.1),λp hp=>?_,I.hok.kept hk,?_⟩
 .have nl:¬(scope.names.lookup x=O .local∨scope.names.lookup x=O .cell):=λz=>by
   obtain⟨g1,g2⟩:=(hN i x e1).2 z;rw[←I.len]at g1 g2;rw[Qz g1,QI]at e2;split at e2<;>cases e2
  have fr:scope.names.lookup x=O .free:=by
   rcases e3 with z|z
   .rcases kinv x _ z with q|q
    .exact absurd (.inl q) nl
    .cases q.2
   .rcases isfc x z with q|q
    .exact q
    .exact absurd (.inr q) nl
  have eN:=(hN i x e1).1 fr;have hi:i<σ.length:=by rw[I.len];exact(Qy.mp eN).1
  rw[Qv hi]at e2;obtain⟨m,hm,hlk⟩:=I.loc;have hkd:=hfree _ (ofl x fr) Z;obtain⟨u,r,l⟩:=hlk i x v eN e2 (.inr hkd);refine⟨u,r,.inr ⟨?_,?_⟩⟩
  .rcases e3 with z|z|z
   .rcases kinv x _ z with q|q
    .exact absurd (.inl q) nl
    .cases q.2
   .exact .inl z
   .exact .inr z
  .rcases l with l|⟨_,c,ec,z⟩
   .have:X.env.scope.names.lookup x=O .local:=l.1
    rcases hkd with q|q<;>(dsimp only at q;rw[this]at q;cases q)
   .obtain⟨c',ec',this⟩:=hc.fre x fr
    rw[ec]at this;cases this;obtain⟨o,ho,hd⟩:=z;exact⟨c,ec',o,hk c o ho,hd⟩
 .rcases hc.old x c e with q|⟨_,q⟩
  .obtain⟨v,o,ho,hd⟩:=I.cell x c q
   exact⟨v,o,hk c o ho,hd⟩
  .exact⟨_,q⟩
 .obtain⟨e,n,ne,nf,d⟩:=I.pin p hp
  refine⟨hk _ _ e,n,lt _ _ e,λz=>?_,d⟩;rcases QM.mp (I.stkSub _ z)with q|q
  .exact ne q
  .exact nf q
 .rw[Qo,Q5,I.len]
  exact hl.symm
noncomputable abbrev nox:JU->JV->Prop:=λ_ _=>False
def Vm(prog:JW)(w:World)(A:Around)(tg:JZ)(ifs:B8)(env:Env)(it:JU)(code:Code)(W:(JV->Prop)->JV->Prop):Prop:=
 ∀(R:Result->JV->Prop)(I:Nat->JV->Prop)(n:Nat)(s:JV),I n s ->
  (∀n s,I n s->J4 (model prog w) A (pyNext it) (λr s₁=>match r with
   |none=>R (.ok .next) s₁
   |some v=>J4 (model prog w) A (letOwnedTupleGo tg it v) (λ_ s₁'=>J4 (model prog w) A (assign tg env v) (λ_ s₂=>
     J4 (model prog w) A (forIn ifs B2 λc r=>if r=B2 then do let ok ←isTrue c env (eval c env);pure (ForInStep.yield ok)else pure (ForInStep.yield r)) (λok s₃=>
      if ok=B2 then W (λs₅=>∃m,m<n/\I m s₅) s₃ else ∃m,m<n/\I m s₃) nox s₂) nox s₁') nox s₁) nox s)->codeAny (model prog w) A code R s
section
variable{prog:JW}{w:World}{A:Around}{elt tg i:JZ}{ifs:B8}{gens:List Comprehension}{scope:Scope}{pos:Pos}{it acc:JU}{env:Env}{j:Nat}
theorem O8(hg:gens[j]?=O ⟨tg,i,ifs,0⟩)(hn:gens[j+1]?=B0):Vm prog w A tg ifs env it (.compLoop (.ListComp elt gens scope pos) j it acc env)
  (λQ s=>J4 (model prog w) A (eval elt env) (λx s₄=>J4 (model prog w) A (call (.builtin "list.append") [acc,x]) (λ_ s₅=>Q s₅) nox s₄) nox s):=by
 intro R I n s h turn;refine codeAny_loop Z I (λn s hI=>?_) n h;show J4 _ A ((compTurn (.ListComp elt gens scope pos) j it acc env).onRaise (λx=>do noteFrame x env;theTreesLotGoes x)) _ _ s;refine wpAny_noted ?_;unfold compTurn;dsimp only;simp only[hg,hn];refine Qb (Q6 (Qb (QA (turn n s hI) (λr s₁ h₁=>?_) λ_ _ h'=>h'.elim)));cases r with
 |none=>exact Qg h₁
 |some v=>
  refine Qb (QA h₁ (λ_ s₁' h₁'=>?_) λ_ _ h'=>h'.elim);refine Qb (QA h₁' (λ_ s₂ h₂=>Qb (QA h₂ (λok s₃ h₃=>?_) λ_ _ h'=>h'.elim)) λ_ _ h'=>h'.elim);cases ok with
  |false=>exact Qg ⟨rfl,h₃⟩
  |true=>exact Qb (Qb (QA h₃ (λx s₄ h₄=>Qb (QA h₄ (λ_ s₅ h₅=>Qg (Qg ⟨rfl,h₅⟩)) λ_ _ h'=>h'.elim)) λ_ _ h'=>h'.elim))
theorem C4{AI i1:JZ}{ifs1:B8}(hg:gens[j]?=O ⟨tg,i,ifs,0⟩)(hn:gens[j+1]?=O ⟨AI,i1,ifs1,0⟩)(hs:∀x,Ul i1 env x=pure x):Vm prog w A tg ifs env it (.compLoop (.ListComp elt gens scope pos) j it acc env)
  (λQ s=>J4 (model prog w) A (eval i1 env) (λx s₄=>J4 (model prog w) A (pyIter x) (λAv s₅=>codeAny (model prog w) A (.compStart (.ListComp elt gens scope pos) (j+1) Av acc env)
   (λr s₆=>match r with | .ok _=>Q s₆ | .error _=>False) s₅) nox s₄) nox s):=by
 intro R I n s h turn;refine codeAny_loop Z I (λn s hI=>?_) n h;show J4 _ A ((compTurn (.ListComp elt gens scope pos) j it acc env).onRaise (λx=>do noteFrame x env;theTreesLotGoes x)) _ _ s;refine wpAny_noted ?_;unfold compTurn;dsimp only;simp only[hg,hn];refine Qb (Q6 (Qb (QA (turn n s hI) (λr s₁ h₁=>?_) λ_ _ h'=>h'.elim)));cases r with
 |none=>exact Qg h₁
 |some v=>
  refine Qb (QA h₁ (λ_ s₁' h₁'=>?_) λ_ _ h'=>h'.elim);refine Qb (QA h₁' (λ_ s₂ h₂=>Qb (QA h₂ (λok s₃ h₃=>?_) λ_ _ h'=>h'.elim)) λ_ _ h'=>h'.elim);cases ok with
  |false=>exact Qg ⟨rfl,h₃⟩
  |true=>
   refine Qb (QA h₃ (λx s₄ h₄=>Qb (Q6 (Qb (wpAny_of_eq (hs x) (Qb (wpAny_holding (QA h₄ (λAv s₅ h₅=>?_) λ_ _ h'=>h'.elim))))))) λ_ _ h'=>h'.elim);refine Qb (wpAny_runOwn (Jt h₅ λr s₆ h₆=>?_));cases r with
   |ok f=>exact Qg ⟨rfl,h₆⟩
   |error x=>exact h₆.elim
theorem BH{R:Result->JV->Prop}{s:JV}(hg:gens[j]?=O ⟨tg,i,ifs,0⟩)
  (h0:codeAny (model prog w) A (.compLoop (.ListComp elt gens scope pos) j it acc env) R s)
  (h:J4 (model prog w) A (pyIter it) (λit' s'=>codeAny (model prog w) A (.compLoop (.ListComp elt gens scope pos) j it' acc env) R s') nox s) :
  codeAny (model prog w) A (.compStart (.ListComp elt gens scope pos) j it acc env) R s:=by
 refine codeAny_of_tree ?_;show J4 _ _ ((compStart (.ListComp elt gens scope pos) j it acc env).onRaise (λx=>do noteFrame x env;standAt theWindowsPlace)) _ _ s;refine wpAny_notedAt ?_;unfold compStart;have hc:(clausesOf (.ListComp elt gens scope pos))[j]?=O ⟨tg,i,ifs,0⟩:=hg;simp only[hc];show J4 _ _ (ask >>= _) _ _ s;refine Qb (wpAny_askSetting (wpAny_ite ?_));split
 .first
   |exact Qb (Qg (Qg (And.intro rfl h0)))
   |exact Qg (And.intro rfl h0)
 .first
   |exact Qb (wpAny_rule (Qb (Q6 (Qb (QA h (λit' s' h'=>Qg (And.intro rfl h')) λ_ _ x=>x.elim)))))
   |(refine Qb (wpAny_rule ?_);show J4 _ _ (standAt _ >>= _) _ _ s;exact Qb (Q6 (Qb (QA h (λit' s' h'=>Qg (And.intro rfl h')) λ_ _ x=>x.elim))))
end
end L2
namespace DL
open PySem PySem.Spec L2
open PyProof.Rows hiding St
noncomputable def Kn:Option Sl->Option Sl
 |some (.own _)=>B0
 |some (.deep _ _)=>B0
 |x=>x
noncomputable def UQ(ρ:Um):Um:=ρ.map Kn
theorem Cb{ρ:Um}{i:Nat}{d:D}(h:(UQ ρ)[i]?=O (O (.pub d))):ρ[i]?=O (O (.pub d)):=by
 unfold UQ at h;rw[QO]at h;cases e:ρ[i]? with
 |none=>rw[e]at h;cases h
 |some o=>
  rw[e]at h;cases o with
  |none=>cases h
  |some sl=>cases sl with
   |pub d'=>cases h;rfl
   |own ds=>cases h
   |deep p d'=>cases h
theorem Xl{ρ:Um}{i:Nat}{ds:B4}(h:(UQ ρ)[i]?=O (O (.own ds))):False:=by
 unfold UQ at h;rw[QO]at h;cases e:ρ[i]? with
 |none=>rw[e]at h;cases h
 |some o=>
  rw[e]at h;cases o with
  |none=>cases h
  |some sl=>cases sl with
   |pub d'=>cases h
   |own ds=>cases h
   |deep p d'=>cases h
theorem Ro{ρ:Um}{i:Nat}{p:Pat}{d:D}(h:(UQ ρ)[i]?=O (O (.deep p d))):False:=by
 unfold UQ at h;rw[QO]at h;cases e:ρ[i]? with
 |none=>rw[e]at h;cases h
 |some o=>
  rw[e]at h;cases o with
  |none=>cases h
  |some sl=>cases sl<;>cases h
noncomputable def KJ(s:D->Um->Ab)(t:M Bool)(g:M D):B4->Um->B4->Option B4
 |[],_,es=>O es
 |d::r,ρ,es=>match s d ρ with
  |none=>B0
  |some ρ1=>match t ρ1 with
   |.bad=>B0
   |.ok b ρ2=>if b=B2 then(match g ρ2 with
     |.bad=>B0
     |.ok e ρ3=>if es.length<1000000 then KJ s t g r (UQ ρ3) (es++[e])else B0)
    else KJ s t g r (UQ ρ2) es
noncomputable def Zq(f:M B4)(k:Nat)(s:D->Um->Ab)(t:M Bool)(g:M D):M B4:=λρ=>match f ρ with
 |.bad=>.bad
 |.ok ds ρ1=>match KJ s t g ds (UQ ρ1++J8 k B0) []with
  |none=>.bad
  |some es=>.ok es ρ1
def Zn(X:Cx)(ifs:B8)(t:TT):Prop:=
 ∀(pins:List (JX×Obj))(s:JV)(σ:St)(H:Hp)(Q:Bool->Hp->Prop),Inv X pins σ H s->t σ H Q ->
  J4 (model X.prog X.w) X.A (forIn ifs B2 λc r=>if r=B2 then do let ok ←isTrue c X.env (eval c X.env);pure (ForInStep.yield ok)else pure (ForInStep.yield r)) (TP X pins σ Q) X.xe s
section
variable{X:Cx}{B G0:Hp}
theorem GN:Zn X [] (tBo X.K B G0 (Up B2)):=λpins s σ H Q I ⟨G,ρ,k,a⟩=>wpAny_tests_nil ⟨H,I,a B2 G H k (.refl _) Z⟩
theorem GM{c:JZ}{t:M Bool}(h:PT X c (tBo X.K B G0 t)):Zn X [c] (tBo X.K B G0 t):=λpins s σ H Q I q=>wpAny_tests_one (h pins s σ H Q I q)
theorem EOk.rebase{K:Frag}{G H:Hp}{σ:St}{ρ:Um}(k:EOk K B G0 G H σ ρ):EOk K H G G H σ (UQ ρ) where
 bh:=.refl _
 gh:=k.gh
 g0:=.refl _
 np:=λ_ _ _ n=>n
 len:=by unfold UQ;rw[Qd];exact k.len
 pub:=λi d q=>k.pub i d (Cb q)
 own:=λi ds q=>(Xl q).elim
 sep:=λi j a ds es q=>(Xl q).elim
 dp:=.of (λ_ _ _ q=>Ro q) λ_ _ q=>Xl q
theorem EOk.more{K:Frag}{G H:Hp}{σ:St}{ρ:Um}(k:EOk K H G G H σ (UQ ρ))(n:Nat):EOk K H G G H (σ++J8 n B0) (UQ ρ++J8 n B0) where
 bh:=.refl _
 gh:=k.gh
 g0:=.refl _
 np:=λ_ _ _ n=>n
 len:=by rw[Qo,Qo,k.len,Q5,Q5]
 pub:=λi d q=>by
  by_cases hi:i<(UQ ρ).length
  .rw[Qv hi]at q
   rw[Qv (by rw[←k.len];exact hi)];exact k.pub i d q
  .rw[Qz (Q0 hi),QI]at q
   split at q<;>cases q
 own:=λi ds q=>by
  by_cases hi:i<(UQ ρ).length
  .rw[Qv hi]at q
   exact(Xl q).elim
  .rw[Qz (Q0 hi),QI]at q
   split at q<;>cases q
 sep:=λi j a ds es q=>by
  by_cases hi:i<(UQ ρ).length
  .rw[Qv hi]at q
   exact(Xl q).elim
  .rw[Qz (Q0 hi),QI]at q
   split at q<;>cases q
 dp:=by
  refine .of (λi p d q=>?_) λi ds q=>?_
  .by_cases hi:i<(UQ ρ).length
   .rw[Qv hi]at q;exact Ro q
   .rw[Qz (Q0 hi),QI]at q;split at q<;>cases q
  .by_cases hi:i<(UQ ρ).length
   .rw[Qv hi]at q;exact Xl q
   .rw[Qz (Q0 hi),QI]at q;split at q<;>cases q
theorem EOk.beside{K:Frag}{G H:Hp}{σ:St}{ρ:Um}{a:JX}{o:HO}(k:EOk K B G0 G H σ ρ)(hg:G a=B0):EOk K (upd H a o) G G (upd H a o) σ (UQ ρ) where
 bh:=.refl _
 gh:=λb u e=>by rw[UI (λz=>by subst z;rw[hg]at e;cases e)];exact k.gh b u e
 g0:=.refl _
 np:=λ_ _ _ n=>n
 len:=k.rebase.len
 pub:=k.rebase.pub
 own:=λi ds q=>(Xl q).elim
 sep:=λi j a ds es q=>(Xl q).elim
 dp:=.of (λ_ _ _ q=>Ro q) λ_ _ q=>Xl q
theorem lim1:1000000<=J0:=lim
noncomputable def La:Option Sl->Option Sl
 |some (.own ds)=>O (.pub (.list ds))
 |some (.deep _ d)=>O (.pub d)
 |x=>x
noncomputable def KG(ρ:Um):Um:=ρ.map La
theorem O7{ρ:Um}{i:Nat}{d:D}(h:(KG ρ)[i]?=O (O (.pub d))):ρ[i]?=O (O (.pub d))∨(∃ds,d=.list ds/\ρ[i]?=O (O (.own ds))) ∨ ∃p,ρ[i]?=O (O (.deep p d)):=by
 unfold KG at h;rw[QO]at h;cases e:ρ[i]? with
 |none=>rw[e]at h;cases h
 |some o=>
  rw[e]at h;cases o with
  |none=>cases h
  |some sl=>cases sl with
   |pub d'=>cases h;exact .inl Z
   |own ds=>cases h;exact .inr (.inl ⟨ds,rfl,rfl⟩)
   |deep p d'=>cases h;exact .inr (.inr ⟨p,rfl⟩)
theorem Vp{ρ:Um}{i:Nat}{ds:B4}(h:(KG ρ)[i]?=O (O (.own ds))):False:=by
 unfold KG at h;rw[QO]at h;cases e:ρ[i]? with
 |none=>rw[e]at h;cases h
 |some o=>
  rw[e]at h;cases o with
  |none=>cases h
  |some sl=>cases sl with
   |pub d'=>cases h
   |own ds=>cases h
   |deep p d'=>cases h
theorem NN{ρ:Um}{i:Nat}{p:Pat}{d:D}(h:(KG ρ)[i]?=O (O (.deep p d))):False:=by
 unfold KG at h;rw[QO]at h;cases e:ρ[i]? with
 |none=>rw[e]at h;cases h
 |some o=>
  rw[e]at h;cases o with
  |none=>cases h
  |some sl=>cases sl<;>cases h
noncomputable def flat:D->Bool
 |.none=>B2 | .bool _=>B2 | .int _=>B2 | .str _=>B2|_=>B3
theorem Rep.flat{K:Frag}{G G':Hp}{v:V}{d:D}(r:Rep K G v d)(h:DL.flat d=B2):Rep K G' v d:=by
 cases r with
 |non=>exact .non
 |bl b=>exact .bl b
 |int i=>exact .int i
 |str x=>exact .str x
 |lst _ _=>cases h
 |tup _ _=>cases h
 |dic _=>cases h
 |exc _ _ _ _=>cases h
 |dct _ _ _ _ _=>cases h
 |dtt _ _ _ _=>cases h
theorem Reps.flat{K:Frag}{G G':Hp}:∀{vs:List V}{ds:B4},Reps K G vs ds->ds.all DL.flat=B2->Reps K G' vs ds
 |_,_,.nil,_=>.nil
 |_,_,.cons r t,h=>by rw[Ju,Qn]at h;exact .cons (r.flat h.1) (Reps.flat t h.2)
theorem EOk.lend{K:Frag}{B G0 G H:Hp}{σ:St}{ρ:Um}{D:JX}{o:HO}(k:EOk K B G0 G H σ ρ)(hD:H D=B0)(n:Nat):EOk K (upd H D o) H H (upd H D o) (σ++J8 n B0) (KG ρ++J8 n B0) where
 bh:=.refl _
 gh:=KB hD
 g0:=.refl _
 np:=λ_ _ _ n=>n
 len:=by unfold KG;rw[Qo,Qo,Qd,k.len,Q5,Q5]
 pub:=λi d q=>by
  have hl:(KG ρ).length=ρ.length:=by unfold KG;rw[Qd]
  by_cases hi:i<(KG ρ).length
  .rw[Qv hi]at q
   rw[Qv (by rw[←k.len,←hl];exact hi)];rcases O7 q with e|⟨ds,rfl,e⟩|⟨p,e⟩
   .obtain⟨v,h1,h2⟩:=k.pub i d e
    exact⟨v,h1,h2.mono k.gh⟩
   .obtain⟨a,vs,h1,h2,h3,h4,h5⟩:=k.own i ds e
    exact⟨.ref a,h1,.lst (SqL.of h4) (h5.mono k.gh)⟩
   .obtain⟨ω,k1,k2⟩:=k.dp
    obtain⟨v,fp,s,r,_⟩:=k1 i p d e;exact⟨v,s,r.rep k.gh⟩
  .rw[Qz (Q0 hi),QI]at q
   split at q<;>cases q
 own:=λi ds q=>by
  by_cases hi:i<(KG ρ).length
  .rw[Qv hi]at q
   exact(Vp q).elim
  .rw[Qz (Q0 hi),QI]at q
   split at q<;>cases q
 sep:=λi j a ds es q=>by
  by_cases hi:i<(KG ρ).length
  .rw[Qv hi]at q
   exact(Vp q).elim
  .rw[Qz (Q0 hi),QI]at q
   split at q<;>cases q
 dp:=by
  refine .of (λi p d q=>?_) λi ds q=>?_
  .by_cases hi:i<(KG ρ).length
   .rw[Qv hi]at q;exact NN q
   .rw[Qz (Q0 hi),QI]at q;split at q<;>cases q
  .by_cases hi:i<(KG ρ).length
   .rw[Qv hi]at q;exact Vp q
   .rw[Qz (Q0 hi),QI]at q;split at q<;>cases q
end
noncomputable def Xf(s:D->Um->Ab)(t:M Bool)(g:M D):B4->Um->B4->Option (B4×Um)
 |[],ρ,es=>O (es,ρ)
 |d::r,ρ,es=>match s d ρ with
  |none=>B0
  |some ρ1=>match t ρ1 with
   |.bad=>B0
   |.ok b ρ2=>if b=B2 then(match g ρ2 with
     |.bad=>B0
     |.ok e ρ3=>if es.length<1000000 then Xf s t g r (UQ ρ3) (es++[e])else B0)
    else Xf s t g r (UQ ρ2) es
noncomputable def Ys(s0:D->Um->Ab)(t0:M Bool)(f1:M B4)(s1:D->Um->Ab)(t1:M Bool)(g:M D):B4->Um->B4->Option B4
 |[],_,es=>O es
 |d::r,ρ,es=>match s0 d ρ with
  |none=>B0
  |some ρ1=>match t0 ρ1 with
   |.bad=>B0
   |.ok b ρ2=>if b=B2 then(match f1 ρ2 with
     |.bad=>B0
     |.ok ds ρ3=>match Xf s1 t1 g ds (UQ ρ3) es with
      |none=>B0
      |some (es',ρ4)=>Ys s0 t0 f1 s1 t1 g r ρ4 es')
    else Ys s0 t0 f1 s1 t1 g r (UQ ρ2) es
noncomputable def Wu(f:M B4)(k:Nat)(s:D->Um->Ab)(t:M Bool)(f1:M B4)(qB:D->Um->Ab)(t1':M Bool)(g:M D):M B4:=λρ=>match f ρ with
 |.bad=>.bad
 |.ok ds ρ1=>match Ys s t f1 qB t1' g ds (UQ ρ1++J8 k B0) []with
  |none=>.bad
  |some es=>.ok es ρ1
abbrev RdB:=Um->B4->Option (B4×Um)
noncomputable def rL(g:M D):RdB:=λρ es=>match g ρ with
 |.bad=>B0
 |.ok e ρ3=>if es.length<1000000 then O (es++[e],UQ ρ3)else B0
noncomputable def cT(s:D->Um->Ab)(t:M Bool)(rd:RdB):B4->Um->B4->Option (B4×Um)
 |[],ρ,es=>O (es,ρ)
 |d::r,ρ,es=>match s d ρ with
  |none=>B0
  |some ρ1=>match t ρ1 with
   |.bad=>B0
   |.ok b ρ2=>if b=B2 then(match rd ρ2 es with
     |none=>B0
     |some (es',ρ')=>cT s t rd r ρ' es')
    else cT s t rd r (UQ ρ2) es
noncomputable def rN(f:M B4)(s:D->Um->Ab)(t:M Bool)(rd:RdB):RdB:=λρ es=>match f ρ with
 |.bad=>B0
 |.ok ds ρ3=>cT s t rd ds (UQ ρ3) es
structure Left(Y:Cx)(D':JX)(pins:List (JX×Obj))(H G:Hp)(es':B4)(ρ':Um)(σ':St)(H' G':Hp)(vs':List V)(s':JV):Prop where
 inv:Inv Y pins σ' H' s'
 eok:EOk Y.K H' G' G' H' σ' ρ'
 hh:∀a o,a≠D'->H a=O o->H' a=O o
 gg:Same G G'
 np:∀a(u:MO),a≠D'->H a=O u.ho->G a=B0->G' a=B0
 hd:H' D'=O (.lst vs')
 gd:G' D'=B0
 rp:Reps Y.K G' vs' es'
def Vx(Y:Cx)(D':JX)(W:(JV->Prop)->JV->Prop)(rd:RdB):Prop:=
 ∀(pins:List (JX×Obj))(sh:JV)(σ:St)(B1 G1 H G:Hp)(ρ ρ':Um)(vs:List V)(es es':B4)(Q:JV->Prop),
  Inv Y pins σ H sh->EOk Y.K B1 G1 G H σ ρ->B1 D'=O (.lst vs)->G1 D'=B0->Reps Y.K G1 vs es->rd ρ es=O (es',ρ') ->
  (∀σ' H' G' vs' s',Left Y D' pins B1 G1 es' ρ' σ' H' G' vs' s'->Q s')->W Q sh
section
variable{Y:Cx}{D':JX}
theorem Ca{elt:JZ}{g:M D}(hx:Y.xe=nox)(he:∀B1 G1,PE Y elt (tD Y.K B1 G1 g)) :
  Vx Y D' (λQ s=>J4 (model Y.prog Y.w) Y.A (eval elt Y.env) (λx s₄=>J4 (model Y.prog Y.w) Y.A (call (.builtin "list.append") [.ref D',x]) (λ_ s₅=>Q s₅) nox s₄) nox s) (rL g):=by
 intro pins sh σ B1 G1 H G ρ ρ' vs es es' Q I k hD gD r z fin;unfold rL at z;cases zg:g ρ with
 |bad=>rw[zg]at z;cases z
 |ok e ρ4=>
 rw[zg]at z;dsimp only at z;split at z
 .rename_i hle
  cases z;have h:=he B1 G1 pins sh σ H (λv H8=>∃G8,EOk Y.K B1 G1 G8 H8 σ ρ4/\Rep Y.K G8 v e) I ⟨G,ρ,k,by unfold aft;rw[zg];exact λv G8 H8 k8 _ q=>⟨G8,k8,q⟩⟩;rw[hx]at h;refine thn h λev s8 ⟨v,H8,I8,rv,G8,k8,r8⟩=>?_;have h2:=Vq pins s8 σ H8 (.ref D') [v] (.ref D') [ev] (λ_ H9=>H9=upd H8 D' (.lst (vs++[v]))) I8 Z (.cons rv .nil) ⟨D',vs,v,rfl,rfl,k8.bh _ _ hD,by have:=lim1;rw[r.length];lia,rfl⟩
  rw[hx]at h2;refine thn h2 λ_ s9 ⟨_,H9,I9,_,e9⟩=>?_;subst e9;have g8:=k8.np _ (.l _) hD gD;exact fin σ _ G8 _ s9 ⟨I9,k8.beside g8,λa o z q=>by rw[UI z];exact k8.bh a o q,k8.g0,λa o _ q w=>k8.np a o q w,UW,g8,(r.mono k8.g0).append (.cons r8 .nil)⟩
 .cases z
theorem Ox{tg:JZ}{ifs:B8}{code:Code}{W:(JV->Prop)->JV->Prop}{s:D->Um->Ab}{t:M Bool}{rd:RdB}{it:JX}(hx:Y.xe=nox)(hc:Y.calm=B2)(rule:Vm Y.prog Y.w Y.A tg ifs Y.env (.ref it) code W)
  (hg:∀B1 G1,PG Y tg (tG Y.K B1 G1 s)) (ht:∀B1 G1,Zn Y ifs (tBo Y.K B1 G1 t)) (hb:Vx Y D' W rd)
  {pins:List (JX×Obj)} {sh:JV} {σ:St} {H G:Hp} {ρ ρF:Um} {fp:Aa} {tn:Nat->Heap->Prop} {J:It} {ds es esF:B4} {vs:List V} {R:Result->JV->Prop}
  (I:Inv Y pins σ H sh) (T:Turn Y.prog Y.w Y.K tg J fp it tn) (st:tn 0 sh.heap) (hf:∀b∈fp,Kg Y pins H b)
  (k:EOk Y.K H G G H σ ρ) (its:Yq Y.K J ds G) (hD:H D'=O (.lst vs)) (gD:G D'=B0) (r:Reps Y.K G vs es) (zl:cT s t rd ds ρ es=O (esF,ρF))
  (Az:∀σ' H' G' vs' s',Left Y D' pins H G esF ρF σ' H' G' vs' s'->R (.ok .next) s'):codeAny (model Y.prog Y.w) Y.A code R sh:=by
 have stat:∀{H':Hp},(∀b∈fp,H' b=B0)->∀b∈fp,Kg Y pins H' b:=λhn b hb=>⟨hn b hb,(hf b hb).2⟩
 refine rule R (λn s'=>∃i σ' H' G' ρ' vs' es',n=ds.length-i/\tn i s'.heap/\(∀b∈fp,H' b=B0)/\Left Y D' pins H G es' ρ' σ' H' G' vs' s'/\cT s t rd (ds.drop i) ρ' es'=O (esF,ρF)) ds.length sh
  ⟨0,σ,H,G,ρ,vs,es,rfl,st,λb hb=>(hf b hb).1,⟨I,k,λ_ _ _ q=>q,.refl _,λ_ _ _ _ n=>n,hD,gD,r⟩,by rw[List.drop_zero];exact zl⟩ ?_
 rintro n s' ⟨i,σ',H',G',ρ',vs',es',rfl,qA,qN,⟨I',k',AK,AF,qv,Ap,gD',r'⟩,zc⟩;by_cases hlt:i<ds.length
 .rw[JA hlt,cT]at zc
  cases zs:s ds[i] ρ' with
  |none=>rw[zs]at zc;cases zc
  |some ρ2=>
  rw[zs]at zc;dsimp only at zc;cases zt:t ρ2 with
  |bad=>rw[zt]at zc;cases zc
  |ok b ρ3=>
  rw[zt]at zc;dsimp only at zc;refine thn (T.item Y Z Z Z hc i pins s' σ' H' nox I' (stat qN) qA (its.go i G' H' AF k'.gh hlt)) λrr s4 ⟨u,hr,h4⟩=>?_;subst hr;refine thn h4 λ_ s5 ⟨x,H5,I5,r5,y5,AJ,qM⟩=>?_
  obtain⟨G5,e5,rx⟩:=its.yld i G' H' x H5 ds[i] AF k'.gh (Qp hlt) y5;have h6:=hg H' G' _ s5 σ' H5 x u (λσ6 H6=>∃G6,EOk Y.K H' G' G6 H6 σ6 ρ2) (I5.pinned (stat qM) (T.obj _ _ AJ)) r5 ⟨G5,ρ',ds[i],ρ2,k'.ext e5,rx,zs,λσ6 G6 H6 k6 _=>⟨G6,k6⟩⟩;rw[hx]at h6;refine thn h6 λ_ s6 ⟨σ6,H6,I6,G6,k6⟩=>?_;have h7:=ht H' G' _ s6 σ6 H6 (λc H7=>c=b/\∃G7,EOk Y.K H' G' G7 H7 σ6 ρ3) I6 ⟨G6,ρ2,k6,by unfold aft;rw[zt];exact λc G7 H7 k7 _ q=>⟨q,G7,k7⟩⟩
  rw[hx]at h7;refine thn h7 λok s7 ⟨H7,I7,hb7,G7,k7⟩=>?_;subst hb7
  have again:∀{H9:Hp}{σ9:St}{s9:JV},Inv Y (pins++Vg fp s5.heap) σ9 H9 s9->Inv Y pins σ9 H9 s9/\tn (i+1) s9.heap/\∀b∈fp,H9 b=B0:=λ{H9 σ9 s9} I9=>by refine⟨I9.unpinned,T.keep _ _ _ AJ λb hb o e=>(I9.pin (b,o) (Qm _ (Qm _ (Vo hb e)))).1,λb hb=>?_⟩;obtain⟨o,e,d⟩:=T.obj _ _ AJ b hb;exact(I9.pin (b,o) (Qm _ (Qm _ (Vo hb e)))).2.1
  have lt:ds.length-(i+1)<ds.length-i:=Nat.sub_lt_sub_left hlt (Nat.lt_succ_self i);cases ok with
  |false=>rw[QD (by decide)]at zc⊢;obtain⟨J1,J2,J3⟩:=again I7;exact⟨_,lt,i+1,σ6,H7,G7,UQ ρ3,vs',es',rfl,J2,J3,⟨J1,k7.rebase,λa o z q=>k7.bh a o (AK a o z q),AF.trans k7.g0,λa o z q w=>k7.np a o (AK a _ z q) (qv a o z q w),k7.bh _ _ Ap,k7.np _ (.l _) Ap gD',r'.mono k7.g0⟩,zc⟩
  |true=>
   rw[Qr Z]at zc⊢;cases ze:rd ρ3 es' with
   |none=>rw[ze]at zc;cases zc
   |some pr=>
   obtain⟨es1,ρ5⟩:=pr;rw[ze]at zc;refine hb _ s7 σ6 H' G' H7 G7 ρ3 ρ5 vs' es' es1 _ I7 k7 Ap gD' r' ze λσ9 H9 G9 vs9 s9 L=>?_
   obtain⟨J1,J2,J3⟩:=again L.inv;exact⟨_,lt,i+1,σ9,H9,G9,ρ5,vs9,es1,rfl,J2,J3,⟨J1,L.eok,λa o z q=>L.hh a o z (AK a o z q),AF.trans L.gg,λa o z q w=>L.np a o z (AK a _ z q) (qv a o z q w),L.hd,L.gd,L.rp⟩,zc⟩
 .rw[List.drop_eq_nil_of_le (Q0 hlt),cT]at zc
  cases zc;refine thn (T.done Y Z Z Z hc i pins s' σ' H' nox I' (stat qN) qA (its.stop i G' H' AF k'.gh (Q0 hlt))) λrr s4 ⟨hr,I6⟩=>?_
  subst hr;exact Az σ' H' G' vs' s4 ⟨I6,k',AK,AF,qv,Ap,gD',r'⟩
theorem D9{elt AI i1:JZ}{ifs1:B8}{gens:List Comprehension}{scope:Scope}{pos:Pos}{j:Nat}{W:JU->(JV->Prop)->JV->Prop}{f:M B4}{s:D->Um->Ab}{t:M Bool}{rd:RdB}(hx:Y.xe=nox)(hc:Y.calm=B2)
  (hn:gens[j+1]?=O ⟨AI,i1,ifs1,0⟩) (rule:∀Av,Vm Y.prog Y.w Y.A AI ifs1 Y.env Av (.compLoop (.ListComp elt gens scope pos) (j+1) Av (.ref D') Y.env) (W Av))
  (hi:∀B1 G1,PI Y AI i1 (iD Y.K B1 G1 f)) (hg:∀B1 G1,PG Y AI (tG Y.K B1 G1 s)) (ht:∀B1 G1,Zn Y ifs1 (tBo Y.K B1 G1 t)) (hb:∀Av,Vx Y D' (W Av) rd) :
  Vx Y D' (λQ s=>J4 (model Y.prog Y.w) Y.A (eval i1 Y.env) (λx s₄=>J4 (model Y.prog Y.w) Y.A (pyIter x) (λAv s₅=>codeAny (model Y.prog Y.w) Y.A (.compStart (.ListComp elt gens scope pos) (j+1) Av (.ref D') Y.env)
   (λr s₆=>match r with | .ok _=>Q s₆ | .error _=>False) s₅) nox s₄) nox s) (rN f s t rd):=by
 intro pins sh σ B1 G1 H G ρ ρ' vs es es' Q I k hD gD r z fin;unfold rN at z;cases zf:f ρ with
 |bad=>rw[zf]at z;cases z
 |ok ds ρ3=>
 rw[zf]at z;have h:=hi B1 G1 pins sh σ H (λJ1 H8=>∃G8,EOk Y.K B1 G1 G8 H8 σ ρ3/\Yq Y.K J1 ds G8) I ⟨G,ρ,k,by rw[zf];exact λJ1 G8 H8 k8 _ q=>⟨G8,k8,q⟩⟩;rw[hx]at h;refine thn h λxv s8 h8=>thn h8 λitv s9 h9=>?_
 obtain⟨Av,fp1,tn1,J1,H9,rfl,I9,T1,st9,f9,G9,k9,its9⟩:=h9
 have loop:codeAny (model Y.prog Y.w) Y.A (.compLoop (.ListComp elt gens scope pos) (j+1) (.ref Av) (.ref D') Y.env) (λr s₆=>match r with | .ok _=>Q s₆ | .error _=>False) s9:=
  Ox hx hc (rule (.ref Av)) hg ht (hb _) I9 T1 st9 f9 k9.rebase its9 (k9.bh _ _ hD) (k9.np _ (.l _) hD gD) (r.mono k9.g0) z λσ' H' G' vs' s' L=>
   fin σ' H' G' vs' s' ⟨L.inv,L.eok,λa o z q=>L.hh a o z (k9.bh a o q),k9.g0.trans L.gg,λa o z q w=>L.np a o z (k9.bh a _ q) (k9.np a o q w),L.hd,L.gd,L.rp⟩
 exact BH hn loop (T1.self Y.A 0 _ _ _ st9 loop)
end
def Vw(Y:Cx)(e:JZ)(j:Nat)(tg:JZ)(ifs:B8)(rd:RdB):Prop:=
 ∀(D':JX)(it:JU),∃W,Vm Y.prog Y.w Y.A tg ifs Y.env it (.compLoop e j it (.ref D') Y.env) W/\Vx Y D' W rd
section
variable{Y:Cx}{elt tg i:JZ}{ifs:B8}{gens:List Comprehension}{scope:Scope}{pos:Pos}{j:Nat}
theorem D8{g:M D}(hx:Y.xe=nox)(hg:gens[j]?=O ⟨tg,i,ifs,0⟩)(hn:gens[j+1]?=B0)(he:∀B1 G1,PE Y elt (tD Y.K B1 G1 g)):Vw Y (.ListComp elt gens scope pos) j tg ifs (rL g):=
 λ_ _=>⟨_,O8 hg hn,Ca hx he⟩
theorem D7{AI i1:JZ}{ifs1:B8}{f:M B4}{s:D->Um->Ab}{t:M Bool}{rd:RdB}(hx:Y.xe=nox)(hc:Y.calm=B2)(hg:gens[j]?=O ⟨tg,i,ifs,0⟩)(hn:gens[j+1]?=O ⟨AI,i1,ifs1,0⟩)(hs:∀x,Ul i1 Y.env x=pure x)
  (hi:∀B1 G1,PI Y AI i1 (iD Y.K B1 G1 f)) (hgt:∀B1 G1,PG Y AI (tG Y.K B1 G1 s)) (ht:∀B1 G1,Zn Y ifs1 (tBo Y.K B1 G1 t)) (hb:Vw Y (.ListComp elt gens scope pos) (j+1) AI ifs1 rd):Vw Y (.ListComp elt gens scope pos) j tg ifs (rN f s t rd):=
 λD' _=>⟨_,C4 hg hn hs,D9 hx hc hn (λAv=>(Classical.choose_spec (hb D' Av)).1) hi hgt ht (λAv=>(Classical.choose_spec (hb D' Av)).2)⟩
end
noncomputable def ZL(l:Bool)(ρ:Um):Um:=match l with|true=>KG ρ|false=>UQ ρ
theorem entry{K:Frag}{B G0 G1 H2:Hp}{σ:St}{ρ1:Um}{D:JX}(l:Bool)(k1:EOk K B G0 G1 H2 σ ρ1)(hfr:H2 D=B0)(n:Nat) :
  ∃Gb,EOk K (upd H2 D (.lst [])) Gb Gb (upd H2 D (.lst [])) (σ++J8 n B0) (ZL l ρ1++J8 n B0)/\Same G1 Gb/\Gb D=B0 /\
   ∀(G' H':Hp) vs es,(l=B2->es.all flat=B2)->Same Gb G'->Same H2 H'->Same G' H'->(∀a(u:MO),H2 a=O u.ho->Gb a=B0->G' a=B0)->G' D=B0->Reps K G' vs es->∃Gf,Ext G1 H2 Gf H'/\Gf D=B0/\Reps K Gf vs es:=by
 have gD:G1 D=B0:=k1.gh.free hfr;cases l with
 |false=>exact⟨G1,(k1.beside gD).more n,.refl _,gD,λG' H' vs es _ g h gh np d r=>⟨G',⟨h,g,gh,np⟩,d,r⟩⟩
 |true=>exact⟨H2,k1.lend hfr n,k1.gh,hfr,λG' H' vs es fl _ h _ _ _ r=>⟨G1,⟨h,.refl _,k1.gh.trans h,λ_ _ _ n=>n⟩,gD,r.flat (fl Z)⟩⟩
noncomputable def dCG(l:Bool)(f:M B4)(k:Nat)(s:D->Um->Ab)(t:M Bool)(rd:RdB):M B4:=λρ=>match f ρ with
 |.bad=>.bad
 |.ok ds ρ1=>match cT s t rd ds (ZL l ρ1++J8 k B0) []with
  |none=>.bad
  |some (es,_)=>if l=B2->es.all flat=B2 then .ok es ρ1 else .bad
theorem PN{l:Bool}{f:M B4}{k:Nat}{s:D->Um->Ab}{t:M Bool}{rd:RdB}{ρ ρ':Um}{es:B4}(h:dCG l f k s t rd ρ=.ok es ρ'):∃ds ρF,f ρ=.ok ds ρ'/\cT s t rd ds (ZL l ρ'++J8 k B0) []=O (es,ρF)/\(l=B2->es.all flat=B2):=by
 unfold dCG at h;cases zf:f ρ with
 |bad=>rw[zf]at h;cases h
 |ok ds ρ1=>
 rw[zf]at h;dsimp only at h;cases zl:cT s t rd ds (ZL l ρ1++J8 k B0) []with
 |none=>rw[zl]at h;cases h
 |some pr=>
 obtain⟨esF,ρF⟩:=pr;rw[zl]at h;dsimp only at h;split at h
 .rename_i hf
  cases h;exact⟨ds,ρF,rfl,zl,hf⟩
 .cases h
section
variable{X:Cx}{B G0:Hp}{KX:XW}
def Zx(X:Cx)(N2:List Str)(scope:Scope)(e tg:JZ)(ifs:B8)(s:D->Um->Ab)(t:M Bool)(rd:RdB):Prop:=
 ∀(cl:List (Str×JX))(C:JX)(s₀:JV)(H₀:Hp)(ex:Aa),(∀B' G',PG (X.blk N2 scope cl C s₀ H₀ ex) tg (tG X.K B' G' s))/\(∀B' G',Zn (X.blk N2 scope cl C s₀ H₀ ex) ifs (tBo X.K B' G' t))/\Vw (X.blk N2 scope cl C s₀ H₀ ex) e 0 tg ifs rd
structure Wr(SC scope:Scope)(N1 N2:List Str)(k:Nat):Prop where
 b:VX scope.names N1 N2 k=B2
 kind:scope.kind=.function
 names:∀y∈scope.names,scope.names.lookup y.1=O y.2
 free:∀y∈scope.names,y.2=.free->SC.names.lookup y.1=O .cell∨SC.names.lookup y.1=O .free
theorem Ow{l:Bool}{tg elt iter:JZ}{ifs:B8}{gs:List Comprehension}{scope:Scope}{pos pos':Pos}{N2:List Str}{k:Nat}{f:M B4}{s:D->Um->Ab}{t:M Bool}{rd:RdB}{use:Option (JU->Sem Unit)}{Qc:JU->JV->Prop}(hc:X.calm=B2)
  (hi:PI X tg iter (iD X.K B G0 f)) (Al:Zx X N2 scope (.ListComp elt (⟨tg,iter,ifs,0⟩::gs) scope pos) tg ifs s t rd) (hb:Wr X.env.scope scope X.N N2 k) (hs:∀x,Ul iter X.env x=pure x)
  {pins:List (JX×Obj)} {s0:JV} {σ:St} {G H:Hp} {ρ ρ1 ρF:Um} {ds esF:B4} (I:Inv X pins σ H s0) (k0:EOk X.K B G0 G H σ ρ) (zf:f ρ=.ok ds ρ1) (zl:cT s t rd ds (ZL l ρ1++J8 k B0) []=O (esF,ρF)) (hfl:l=B2->esF.all flat=B2)
  (Az:∀(C D:JX)(vs:List V)(G' H':Hp)(s4:JV)(m:Str->B7),Inv X pins σ H' s4->s4.heap.Ns C m->H' C=B0->C≠X.env.locals->X.s₀.heap.objs.size<=C->(∀x c,X.env.cells.lookup x=O c->c≠C)->(∀p∈X.pn++pins,p.1≠C) ->
   EOk X.K B G0 G' H' σ ρ1->Same G G'->NewL X.K B G' H' σ ρ1 D vs esF->compPost (model X.prog X.w) X.A X.xe use Qc (.ref D) C (.ok .next) s4) :
  J4 (model X.prog X.w) X.A (comprehension (.ListComp elt (⟨tg,iter,ifs,0⟩::gs) scope pos) scope X.env pos' (newList []) B3 (eval iter X.env) use) Qc X.xe s0:=by
 obtain⟨qo,hcl,qd,jb⟩:=NO (scope:=scope) (env:=X.env) λy hy hf=>I.ok.has y.1 (hb.free y hy hf)
 refine wpAny_comprehension_free (use:=use) Z hs hcl hb.kind (λy hy hl=>(hb.names y hy).trans (by rw[hl])) (thn (hi pins s0 σ H (λJ H1=>∃G1,EOk X.K B G0 G1 H1 σ ρ1/\Same G G1/\Yq X.K J ds G1) I ⟨G,ρ,k0,by rw[zf];exact λJ G1 H1 k1 s1 it=>⟨G1,k1,s1,it⟩⟩) λv s1 h1=>thn h1 λitv s2 h2=>?_);obtain⟨it,fp,tn,J,H2,rfl,I2,T,st2,f2,G1,k1,sg1,its⟩:=h2;refine Jv (Pk qd jb hb.names (λx c e=>let ⟨_,q⟩:=I2.cell x c e;Qx q.lt (by first|exact Qt _|(rw[Jm];exact Jn _))) λh₁ cl hns₁ kept hco=>?_);dsimp only at hns₁ kept hco⊢;have hfr:H2 s2.heap.objs.size=B0:=I2.hok.fresh (Qt _)
 have I3:Inv X pins σ (upd H2 s2.heap.objs.size (.lst [])) {s2 with heap:=s2.heap.push {cls:=.type "list", dict:=B0,data:=.seq ([]:B5).toArray}}:=
  I2.laid (t':=s2.toks) (λb u e=>Qe _ e) (Qt _) ⟨JS _,[],0,.nil,QF _ Z⟩
 generalize hP:s2.heap.push {cls:=.type "list", dict:=B0,data:=.seq ([]:B5).toArray}=P at I3 hns₁ kept hco⊢;have old:∀b o,s2.heap.get? b=O o->P.get? b=O o:=λb o e=>hP ▸ Qe _ e;have fpo:∀b∈fp,∃o,s2.heap.get? b=O o:=λb hb=>let ⟨o,e,_⟩:=T.obj _ _ st2 b hb;⟨o,e⟩
 have fpD:∀b∈fp,b≠s2.heap.objs.size:=λb hb=>let ⟨o,e⟩:=fpo b hb;QZ (Qf e)
 have f3:∀b∈fp,Kg X pins (upd H2 s2.heap.objs.size (.lst [])) b:=λb hb=>⟨by rw[UI (fpD b hb)];exact(f2 b hb).1,(f2 b hb).2⟩
 have I4:=I3.enter (scope:=scope) (cl:=cl) (N2:=N2) (k:=k) (fp:=fp) (t':=s2.toks) hb.b hb.kind hb.free hco hns₁ kept f3 (λb hb=>let ⟨o,e⟩:=fpo b hb;⟨o,old b o e⟩);dsimp only at I4;obtain⟨Gb,kb,sgb,gbD,ex⟩:=entry l k1 hfr k;have sH:Same H2 (upd H2 s2.heap.objs.size (.lst [])):=KB hfr;have qy:upd H2 s2.heap.objs.size (.lst []) s2.heap.objs.size=O (.lst []):=UW;generalize upd H2 s2.heap.objs.size (.lst [])=H3 at I3 I4 f3 kb sH qy;generalize s2.heap.objs.size=D at *;have qz:tn 0 h₁:=T.keep 0 _ _ st2 λb hb o e=>kept b o (old b o e)
 have stat:∀b∈fp,Kg (X.blk N2 scope cl P.objs.size {s2 with heap:=P} H3 fp) pins H3 b:=λb hb=>by
  obtain⟨z0,z1,z2,z3,z4,z5⟩:=f3 b hb;obtain⟨o,e⟩:=fpo b hb;refine⟨z0,QZ (Qf (old b o e)),λz=>?_,.inl hb,λx c q=>(hco.old x c q).elim (z4 x c) λw=>Ji (Nat.lt_trans (Qf (old b o e)) w.1),z5⟩;rcases QM.mp (I3.stkSub b z)with q|q
  .exact z1 q
  .exact z2 q
 have neD:∀a o,H2 a=O o->a≠D:=λa o q z=>by subst z;rw[hfr]at q;cases q
 obtain⟨hg,ht,hcl'⟩:=Al cl P.objs.size {s2 with heap:=P} H3 fp;obtain⟨W,rule,body⟩:=hcl' D (.ref it)
 have loop:=Ox (Y:=X.blk N2 scope cl P.objs.size {s2 with heap:=P} H3 fp) (D':=D) (R:=compPost (model X.prog X.w) X.A X.xe use Qc (.ref D) P.objs.size) Z hc rule hg ht body I4 T qz stat kb
  ⟨λi G H s1 s2 hi=>its.go i G H (sgb.trans s1) s2 hi,λi G H s1 s2 hi=>its.stop i G H (sgb.trans s1) s2 hi,λi G H x H' d s1 s2 e y=>its.yld i G H x H' d (sgb.trans s1) s2 e y⟩ qy gbD .nil zl λσ' H' G' vs' s4 L=>by
   obtain⟨m,hm,_⟩:=id L.inv.loc;have I7:Inv X pins σ H' s4:=I3.call' (ch:=fp) L.inv.os L.inv.base L.inv.hok L.inv.bare λb hb=>⟨(f3 b hb).2.2.2.1,(f3 b hb).2.1,(f3 b hb).2.2.2.2.1,(f3 b hb).2.2.2.2.2⟩
   obtain⟨Gf,eF,dF,rF⟩:=ex G' H' vs' esF hfl L.gg (λa o q=>L.hh a o (neD a o q) (sH a o q)) L.eok.gh (λa o q z=>L.np a o (neD a _ q) (sH a _ q) z) L.gd L.rp
   refine Az P.objs.size D vs' Gf H' s4 m I7 hm L.inv.free (Ji I3.lt) I3.sz (λx c e z=>by obtain⟨_,q⟩:=I3.cell x c e;exact absurd q.lt (by rw[z];exact Jo _)) (λp hp z=>by have:=Qf (I3.pin p hp).1;exact absurd this (by rw[z];exact Jo _))
    (k1.ext eF) (sg1.trans eF.g) ⟨k1.bh.free hfr,dF,L.hd,rF,λj es' q z=>?_,λj pt d v fp q s r=>k1.freshD eF.h hfr q s r⟩
   obtain⟨a',ws,h1',h2',h3',qm,h5'⟩:=k1.own j es' q;rw[z]at h1';cases h1';rw[hfr]at qm;cases qm
 exact codeAny_compStart_list loop (T.self X.A 0 _ _ _ qz loop)
theorem M9{l:Bool}{tg elt iter:JZ}{ifs:B8}{gs:List Comprehension}{scope:Scope}{pos:Pos}{N2:List Str}{k:Nat}{f:M B4}{s:D->Um->Ab}{t:M Bool}{rd:RdB}(hc:X.calm=B2)
  (hi:PI X tg iter (iD X.K B G0 f)) (Al:Zx X N2 scope (.ListComp elt (⟨tg,iter,ifs,0⟩::gs) scope pos) tg ifs s t rd) (hb:Wr X.env.scope scope X.N N2 k) (hs:∀x,Ul iter X.env x=pure x:=by intro _;rfl) :
  PE X (.ListComp elt (⟨tg,iter,ifs,0⟩::gs) scope pos) (tL X.K B G0 (dCG l f k s t rd)):=by
 intro pins s0 σ H Q I ⟨G,ρ,k0,a⟩;cases z:dCG l f k s t rd ρ with
 |bad=>rw[z]at a;exact a.elim
 |ok es ρ1=>
 rw[z]at a;obtain⟨ds,ρF,zf,zl,hfl⟩:=PN z;rw[eval_ListComp];refine Ow hc hi Al hb hs I k0 zf zl hfl λC D vs G' H' s4 m I7 hm hC hL hz hcl hp k' s' n=>?_
 exact⟨m,hm,λh' sb=>⟨.ref D,H',I7.turned (t':=s4.toks) (it:=C) (λb o hb e=>(sb.2 b hb).trans e) hC hL (.inr hz) hcl hp,rfl,a D vs G' H' k' s' n⟩⟩
theorem sD_g{l:Bool}{y:Str}{j:Nat}{py:Pos}{spos:Pos}{tg elt iter:JZ}{ifs:B8}{gs:List Comprehension}{scope:Scope}{pos:Pos}{N2:List Str}{k:Nat}{f:M B4}{s:D->Um->Ab}{t:M Bool}{rd:RdB}(hN:X.N.Nodup)(hj:X.N[j]?=O y)(hy:X.env.scope.names.lookup y=O .local)(hc:X.calm=B2)
  (hi:PI X tg iter (iD X.K B G0 f)) (Al:Zx X N2 scope (.ListComp elt (⟨tg,iter,ifs,0⟩::gs) scope pos) tg ifs s t rd) (hb:Wr X.env.scope scope X.N N2 k) (hs:∀x,Ul iter X.env x=pure x:=by intro _;rfl)
  (hsw:swapsWith (.ListComp elt (⟨tg,iter,ifs,0⟩::gs) scope pos) (O (.Name y py)) spos.line X.env=pure B2:=by rfl) :
  PS X (.Assign [.Name y py] (.ListComp elt (⟨tg,iter,ifs,0⟩::gs) scope pos) spos) (tS X.K B G0 KX (KH j (dCG l f k s t rd))):=by
 intro pins s0 σ H Dn I ⟨G,ρ,k0,a⟩;unfold KH sB at a;cases z:dCG l f k s t rd ρ with
 |bad=>rw[z]at a;exact a.elim
 |ok es ρ1=>
 rw[z]at a;dsimp only at a;by_cases hl:j<ρ1.length
 .rw[Qr hl]at a
  obtain⟨ds,ρF,zf,zl,hfl⟩:=PN z;rw[exec_Assign_Name_used _ _ _ _ hsw];refine Qb (Q6 (Qb ?_));show J4 _ X.A (do let _ ←comprehension (.ListComp elt (⟨tg,iter,ifs,0⟩::gs) scope pos) scope X.env _ (newList []) B3 (eval iter X.env) (O (assign (.Name y py) X.env))) _ _ s0;refine Qb (QA (Ow (use:=O (assign (.Name y py) X.env)) (Qc:=λ_ s'=>SP X pins Dn .next s') hc hi Al hb hs I k0 zf zl hfl λC D vs G' H' s4 m I7 hm hC hL hz hcl hp k' s' n=>?_) (λ_ s' hq=>Qg (Qg hq)) λ_ _ e=>e);show J4 _ X.A (assign (.Name y py) X.env (.ref D)) _ _ s4;refine wpAny_assign_Name (O2 I7 hN hj (.inl hy) (v:=.ref D) Z (λs5 I8 ⟨ad,sb,hx⟩=>?_) (.inr hy))
  have hCa:C≠ad:=by
   rcases hx with e|e
   .rw[e];exact hL
   .exact Ne.symm (hcl y ad e)
  refine⟨m,hm.sameBut sb hCa,λh' sb'=>⟨_,H',I8.turned (t':=s5.toks) (it:=C) (λb o hb e=>(sb'.2 b hb).trans e) hC hL (.inr hz) hcl hp,?_⟩⟩;exact a _ G' H' (k'.setOwn n hl) s'
 .rw[QD hl]at a;exact a.elim
theorem M8{K:Frag}{f f':M B4}(h:∀ρ es ρ',f ρ=.ok es ρ'->f' ρ=.ok es ρ'){σ:St}{H:Hp}{Q:VK}(q:tL K B G0 f σ H Q):tL K B G0 f' σ H Q:=by
 obtain⟨G,ρ,k,a⟩:=q;refine⟨G,ρ,k,?_⟩;cases z:f ρ with
 |bad=>rw[z]at a;exact a.elim
 |ok es ρ'=>rw[z]at a;rw[h ρ es ρ' z];exact a
theorem Lw{K:Frag}{f f':M B4}{j:Nat}(h:∀ρ es ρ',f ρ=.ok es ρ'->f' ρ=.ok es ρ'){Dn:_}{σ:St}{H:Hp}(q:tS K B G0 KX (KH j f) Dn σ H):tS K B G0 KX (KH j f') Dn σ H:=by
 obtain⟨G,ρ,k,a⟩:=q;refine⟨G,ρ,k,?_⟩;unfold KH sB at a⊢;cases z:f ρ with
 |bad=>rw[z]at a;exact a.elim
 |ok es ρ'=>rw[z]at a;rw[h ρ es ρ' z];exact a
end
theorem Re{s:D->Um->Ab}{t:M Bool}{g:M D}:∀{ds:B4}{ρ:Um}{es esF:B4},KJ s t g ds ρ es=O esF->∃ρF,cT s t (rL g) ds ρ es=O (esF,ρF)
 |[],ρ,es,esF,h=>by rw[KJ]at h;cases h;exact⟨ρ,rfl⟩
 |d::r,ρ,es,esF,h=>by
  rw[KJ]at h;rw[cT];cases zs:s d ρ with
  |none=>rw[zs]at h;cases h
  |some ρ1=>
  rw[zs]at h;dsimp only at h⊢;cases zt:t ρ1 with
  |bad=>rw[zt]at h;cases h
  |ok b ρ2=>
  rw[zt]at h;dsimp only at h⊢;cases b with
  |false=>exact Re (ds:=r) h
  |true=>
   rw[Qr Z]at h⊢;unfold rL;cases zg:g ρ2 with
   |bad=>rw[zg]at h;cases h
   |ok e ρ3=>
   rw[zg]at h;dsimp only at h⊢;split at h
   .rename_i hl
    rw[Qr hl];exact Re (ds:=r) h
   .cases h
theorem Rl{s:D->Um->Ab}{t:M Bool}{g:M D}:∀{ds:B4}{ρ:Um}{es:B4},Xf s t g ds ρ es=cT s t (rL g) ds ρ es
 |[],ρ,es=>rfl
 |d::r,ρ,es=>by
  rw[Xf,cT];cases s d ρ with
  |none=>rfl
  |some ρ1=>
  dsimp only;cases t ρ1 with
  |bad=>rfl
  |ok b ρ2=>
  dsimp only;cases b with
  |false=>exact Rl (ds:=r)
  |true=>
   rw[Qr Z,Qr Z];unfold rL;cases g ρ2 with
   |bad=>rfl
   |ok e ρ3=>
   dsimp only;split
   .exact Rl (ds:=r)
   .rfl
theorem Rk{s s1:D->Um->Ab}{t t1:M Bool}{f:M B4}{g:M D}:∀{ds:B4}{ρ:Um}{es esF:B4},Ys s t f s1 t1 g ds ρ es=O esF->∃ρF,cT s t (rN f s1 t1 (rL g)) ds ρ es=O (esF,ρF)
 |[],ρ,es,esF,h=>by rw[Ys]at h;cases h;exact⟨ρ,rfl⟩
 |d::r,ρ,es,esF,h=>by
  rw[Ys]at h;rw[cT];cases zs:s d ρ with
  |none=>rw[zs]at h;cases h
  |some ρ1=>
  rw[zs]at h;dsimp only at h⊢;cases zt:t ρ1 with
  |bad=>rw[zt]at h;cases h
  |ok b ρ2=>
  rw[zt]at h;dsimp only at h⊢;cases b with
  |false=>exact Rk (ds:=r) h
  |true=>
   rw[Qr Z]at h⊢;unfold rN;cases zg:f ρ2 with
   |bad=>rw[zg]at h;cases h
   |ok ds ρ3=>
   rw[zg]at h;dsimp only at h⊢;rw[←Rl];cases zl:Xf s1 t1 g ds (UQ ρ3) es with
   |none=>rw[zl]at h;cases h
   |some pr=>rw[zl]at h;exact Rk (ds:=r) h
theorem DO{f:M B4}{k:Nat}{s:D->Um->Ab}{t:M Bool}{g:M D}(ρ:Um)(es:B4)(ρ':Um)(h:Zq f k s t g ρ=.ok es ρ'):dCG B3 f k s t (rL g) ρ=.ok es ρ':=by
 unfold Zq at h;unfold dCG;cases zf:f ρ with
 |bad=>rw[zf]at h;cases h
 |ok ds ρ1=>
 rw[zf]at h;dsimp only[ZL]at h⊢;cases zl:KJ s t g ds (UQ ρ1++J8 k B0) []with
 |none=>rw[zl]at h;cases h
 |some esF=>
 rw[zl]at h;cases h;obtain⟨ρF,e⟩:=Re zl;rw[e];exact Qr λz=>by cases z
theorem D6{f f1:M B4}{k:Nat}{s s1:D->Um->Ab}{t t1:M Bool}{g:M D}(ρ:Um)(es:B4)(ρ':Um)(h:Wu f k s t f1 s1 t1 g ρ=.ok es ρ'):dCG B3 f k s t (rN f1 s1 t1 (rL g)) ρ=.ok es ρ':=by
 unfold Wu at h;unfold dCG;cases zf:f ρ with
 |bad=>rw[zf]at h;cases h
 |ok ds ρ1=>
 rw[zf]at h;dsimp only[ZL]at h⊢;cases zl:Ys s t f1 s1 t1 g ds (UQ ρ1++J8 k B0) []with
 |none=>rw[zl]at h;cases h
 |some esF=>
 rw[zl]at h;cases h;obtain⟨ρF,e⟩:=Rk zl;rw[e];exact Qr λz=>by cases z
noncomputable def Xe(q:Option NameKind->Bool)(SC scope:Scope)(N1 N2:List Str)(k:Nat):Bool:=
 VX scope.names N1 N2 k&&decide (scope.kind=.function)&&(scope.names.all λy=>decide (scope.names.lookup y.1=O y.2))&&scope.names.all λy=>match y.2 with
  |.free=>q (SC.names.lookup y.1)
  |_=>B2
noncomputable def Wq:Option NameKind->Bool
 |some .cell=>B2|some .free=>B2|_=>B3
theorem NM{q:Option NameKind->Bool}{SC SC' scope:Scope}{N1 N2:List Str}{k:Nat}(h:Xe q SC scope N1 N2 k=B2)(f:∀x,q (SC.names.lookup x)=B2->SC'.names.lookup x=O .cell∨SC'.names.lookup x=O .free):Wr SC' scope N1 N2 k:=by unfold Xe at h;rw[Qn,Qn,Qn,QS,QS]at h;obtain⟨⟨⟨h1,h2⟩,h0⟩,h3⟩:=h;refine⟨h1,Qa h2,λy hy=>Qa (h0 y hy),λy hy e=>?_⟩;have:=h3 y hy;rw[e]at this;exact f _ this
theorem SW{SC scope:Scope}{N1 N2:List Str}{k:Nat}(h:Xe Wq SC scope N1 N2 k=B2):Wr SC scope N1 N2 k:=NM h λx e=>by
 cases z:SC.names.lookup x with
 |none=>rw[z]at e;cases e
 |some y=>rw[z]at e;cases y<;>first|exact .inl rfl|exact .inr rfl|cases e
section
variable{X:Cx}{B G0:Hp}{KX:XW}
theorem M7{l:Bool}{tg elt iter:JZ}{ifs:B8}{gs:List Comprehension}{scope:Scope}{pos:Pos}{f:M B4}{s:D->Um->Ab}{t:M Bool}{rd:RdB}{F:M B4}(SC:Scope)(N1 N2:List Str)(k:Nat)(le:∀ρ es ρ',F ρ=.ok es ρ'->dCG l f k s t rd ρ=.ok es ρ')(hc:X.calm=B2)
  (hi:PI X tg iter (iD X.K B G0 f)) (Al:Zx X N2 scope (.ListComp elt (⟨tg,iter,ifs,0⟩::gs) scope pos) tg ifs s t rd) (h1:X.env.scope=SC) (h2:X.N=N1) (hb:Xe Wq SC scope N1 N2 k=B2) (hs:∀x,Ul iter X.env x=pure x:=by intro _;rfl) :
  PE X (.ListComp elt (⟨tg,iter,ifs,0⟩::gs) scope pos) (tL X.K B G0 F):=
 UK (M9 hc hi Al (by rw[h1,h2];exact SW hb) hs) λ_ _ _ q=>M8 le q
theorem sD_1{l:Bool}{y:Str}{j:Nat}{py:Pos}{spos:Pos}{tg elt iter:JZ}{ifs:B8}{gs:List Comprehension}{scope:Scope}{pos:Pos}{f:M B4}{s:D->Um->Ab}{t:M Bool}{rd:RdB}{F:M B4}(SC:Scope)(N1 N2:List Str)(k:Nat)(le:∀ρ es ρ',F ρ=.ok es ρ'->dCG l f k s t rd ρ=.ok es ρ')(hN:X.N.Nodup)(hj:X.N[j]?=O y)(hy:X.env.scope.names.lookup y=O .local)(hc:X.calm=B2)
  (hi:PI X tg iter (iD X.K B G0 f)) (Al:Zx X N2 scope (.ListComp elt (⟨tg,iter,ifs,0⟩::gs) scope pos) tg ifs s t rd) (h1:X.env.scope=SC) (h2:X.N=N1) (hb:Xe Wq SC scope N1 N2 k=B2) (hs:∀x,Ul iter X.env x=pure x:=by intro _;rfl)
  (hsw:swapsWith (.ListComp elt (⟨tg,iter,ifs,0⟩::gs) scope pos) (O (.Name y py)) spos.line X.env=pure B2:=by rfl) :
  PS X (.Assign [.Name y py] (.ListComp elt (⟨tg,iter,ifs,0⟩::gs) scope pos) spos) (tS X.K B G0 KX (KH j F)):=
 U9 (sD_g hN hj hy hc hi Al (by rw[h1,h2];exact SW hb) hs hsw) λ_ _ _ q=>Lw le q
end
section
variable{X:Cx}{B G0:Hp}{e a b c tg:JZ}{pos:Pos}{es rest:B8}
theorem EOk.given{K:Frag}{G H:Hp}{σ:St}{ρ:Um}{a:JX}{vs:List V}{ds:B4}(k:EOk K B G0 G H σ ρ)(n:NewL K B G H σ ρ a vs ds):EOk K B G0 (upd G a (.lst vs)) H σ ρ where
 bh:=k.bh
 gh:=λb u q=>by
  by_cases z:b=a
  .subst z;rw[UW]at q;cases q;exact n.h
  .rw[UI z]at q;exact k.gh b u q
 g0:=k.g0.trans (KB n.g)
 np:=λb o q z=>by
  have zb:b≠a:=λz=>by subst z;rw[n.b]at q;cases q
  rw[UI zb];exact k.np b o q z
 len:=k.len
 pub:=λi d q=>let ⟨v,h1,h2⟩:=k.pub i d q;⟨v,h1,h2.mono (KB n.g)⟩
 own:=λi ds q=>by
  obtain⟨b,ws,h1,h2,h3,h4,h5⟩:=k.own i ds q;have zb:b≠a:=λz=>by subst z;exact n.f i ds q h1
  exact⟨b,ws,h1,h2,by rw[UI zb];exact h3,h4,h5.mono (KB n.g)⟩
 sep:=k.sep
 dp:=k.dp.map (λ_ _ _ q=>⟨q,rfl⟩) (λ_ ds q=>⟨ds,q,rfl⟩) λi p d v fp q s r w nn=>⟨r.mono (KB n.g) (.refl _),λb m=>⟨(w b m).1,by rw[UI (λz=>n.dp i p d v fp q s r (by rw[←z];exact m))];exact(w b m).2⟩⟩
theorem GL{f:M B4}(h:PE X e (tL X.K B G0 f)):PE X e (tD X.K B G0 (UA J9 f)):=
 UK h λσ H Q ⟨G,ρ,k,a⟩=>by
  refine⟨G,ρ,k,?_⟩;unfold UA UD at a;cases z:f ρ with
  |bad=>rw[z]at a;exact a.elim
  |ok ds ρ1=>rw[z]at a;intro ad vs G' H' k' s' n;exact a (.ref ad) _ H' (k'.given n) (s'.trans (KB n.g)) (.lst (SqL.of UW) (n.r.mono (KB n.g)))
theorem DN(hc:X.calm=B2):ZA X (.builtin "all") (λxs H Q=>∃l,∃bs:List Bool,xs=[.ref l]/\SqL X.K H l (bs.map V.bl)/\Q (.bl (bs.all id)) H):=by
 intro pins s σ H xs us Q I rx h;obtain⟨l,bs,rfl,hq,q⟩:=h;obtain⟨u,rfl,ru⟩:=rx.one;cases ru;obtain⟨its,rv,p,hz⟩:=I.list hq;have hl:=p.isList;have hlt:l<s.heap.objs.size:=by obtain⟨_,e,_⟩:=id hl;exact Qf e
 have key:∀(i:Nat) v,its.toArray[i]?=O v->∃t,bs[i]?=O t/\v=.bool t:=λi v e=>by
  have e:its[i]?=O v:=by simpa using e
  have hi:i<bs.length:=by
   have:=(Qy.mp e).1;have h2:=rv.length;rw[Qd]at h2
   lia
  obtain⟨u,e2,r2⟩:=rv.get (i:=i) (x:=.bl bs[i]) (by rw[QO,Qp hi];rfl);rw[e]at e2;cases e2;exact⟨bs[i],Qp hi,r2⟩
 refine call_all_walk (wpAny_pyIter_list hl ?_)
 refine⟨s.heap.objs.size,[s.heap.objs.size,l],[s.heap.objs.size],its.toArray.size,_,_,λi=>(bs[i]?).getD B2,rfl,Walks.list (A:=X.A.in1) (I.ok.hd hc) _ l (QZ hlt) its.toArray,
  ⟨⟨_,QF _ Z,rfl,rfl⟩,hl.push _⟩,λi v s' Q' E' hP hQ=>?_,λh' tk hk=>?_⟩
 .obtain⟨b,e,rfl⟩:=key i v hP
  simp only[e,JJ]at hQ;exact Ja hQ
 .have hn:its.toArray.size=bs.length:=by have:=rv.length;rw[List.length_map]at this;simp;lia
  have e:((J7 its.toArray.size).all λi=>(bs[i]?).getD B2)=bs.all id:=by
   rw[hn,Bool.eq_iff_iff,QS,QS];constructor
   .intro h b hb
    obtain⟨i,hi,e⟩:=List.getElem_of_mem hb;have:=h i (Jz.mpr hi);simp only[Qp hi,JJ,e]at this;exact this
   .intro h i hi
    have hi':=Jz.mp hi;simp only[Qp hi',JJ];exact h _ (List.getElem_mem hi')
  rw[e];exact⟨.bl (bs.all id),H,I.kept (t':=tk) λb x e=>hk b x (λhm=>by rw[QJ.mp hm]at e;exact Jo _ (Qf e)) (Qe _ e),rfl,q⟩
noncomputable def X7:B4->Option (List Bool)
 |[]=>O []
 |.bool b::r=>(X7 r).map (b :: ·)
 |_=>B0
theorem NX{K:Frag}{G:Hp}:∀{vs:List V}{ds:B4}{bs:List Bool},Reps K G vs ds->X7 ds=O bs->vs=bs.map V.bl
 |_,_,bs,.nil,e=>by cases e;rfl
 |_,_,bs,.cons (d:=d) r t,e=>by
  cases d with
  |bool b=>
   unfold X7 at e;cases z:X7 _ with
   |none=>rw[z]at e;cases e
   |some cs=>rw[z]at e;cases e;rw[r.bl_inv,NX t z];rfl
  |_=>cases e
noncomputable def KO:B4->B9
 |[.list ds]=>(X7 ds).map λbs=>.bool (bs.all id)
 |_=>B0
theorem M6(hc:X.calm=B2):Xa X (.builtin "all") KO:=by
 refine⟨_,DN hc,λvs G H ds d Q s r e k=>?_⟩;unfold KO at e;split at e
 .rename_i ds
  cases z:X7 ds with
  |none=>rw[z]at e;cases e
  |some bs=>rw[z]at e;cases e;obtain⟨v,rfl,q⟩:=r.one_inv;obtain⟨l,ws,rfl,h1,r1⟩:=q.lst_inv;have hw:=NX r1 z;subst hw;exact⟨l,bs,rfl,s.seq h1,k _ G H (.refl s) (.bl _)⟩
 .cases e
noncomputable def Its(x:Str):It:=⟨λi _=>i<x.cps.size,λi H v H'=>H'=H/\∃c,x.cps[i]?=O c/\v=.str ⟨#[c]⟩,λi _=>x.cps.size<=i⟩
theorem DM{P:JW}{w:World}{K:Frag}{tg:JZ}(x:Str)(t:Tok)(it:JX):Turn P w K tg (Its x) [it] it (λi h=>h.IsStrIter it (strIterType x) x t i) where
 mem:=by simp
 obj:=λi h st b hb=>by
  have e:b=it:=by simpa using hb
  subst e;obtain⟨o,e,c,d⟩:=st;exact⟨o,e,λv z=>by rw[d]at z;cases z⟩
 keep:=λi h h' st k=>by obtain⟨o,e,c,d⟩:=st;exact⟨o,k it (by simp) o e,c,d⟩
 item:=by
  intro X hP hw hK hc i pins s σ H E I hf st hg;subst hP hw hK;obtain⟨f0,f1,f2,f3,f4,f5⟩:=hf it (by simp);have hx:x.cps[i]?=O x.cps[i]:=Array.getElem?_eq_getElem hg
  have fin:∀h' tk(T:String),strIterType x=T->h'.IsStrIter it T x t (i+1)->Heap.SameBut it s.heap h'->["enumerate", "zip", "dict_itemiterator", "dict_reverseitemiterator", "odict_iterator", "itertools.zip_longest", "itertools.pairwise"].contains T=B3 ->
    ∃u,O (Value.str ⟨#[x.cps[i]]⟩ s.toks)=O u/\J4 (model X.prog X.w) X.A (letOwnedTupleGo tg (.ref it) u) (λ_ s2=>∃v H',Inv X pins σ H' s2/\RelV v u/\(Its x).yld i H v H'/\s2.heap.IsStrIter it (strIterType x) x t (i+1)/\∀b∈[it],H' b=B0) E {s with heap:=h',toks:=tk}:=by
   intro h' tk T eT st' sb hn;have I1:Inv X pins σ H {s with heap:=h',toks:=tk}:=I.turned (t':=tk) (λb o hb e=>(sb.2 b hb).trans e) f0 f1 f3 f4 f5;obtain⟨o,e,c,d⟩:=id st';refine⟨_,rfl,Tk (s:={s with heap:=h',toks:=tk}) e c d hn ⟨.str ⟨#[x.cps[i]]⟩,H,I1,⟨_,rfl⟩,⟨rfl,_,hx,rfl⟩,by rw[eT];exact st',λb hb=>(hf b hb).1⟩⟩
  cases ha:x.cps.all (· < 128)with
  |true=>
   have eT:strIterType x = "str_ascii_iterator" :=by simp[strIterType,ha]
   rw[eT]at st;exact wpAny_pyNext_ascii_item st hx λh' st' sb=>fin h' _ _ eT st' sb (by decide)
  |false=>
   have eT:strIterType x = "str_iterator" :=by simp[strIterType,ha]
   rw[eT]at st;exact wpAny_pyNext_wide_item st hx λh' st' sb=>fin h' _ _ eT st' sb (by decide)
 done:=by
  intro X hP hw hK hc i pins s σ H E I hf st hg;subst hP hw hK;obtain⟨f0,f1,f2,f3,f4,f5⟩:=hf it (by simp);have hx:x.cps[i]?=B0:=Array.getElem?_eq_none hg;cases ha:x.cps.all (· < 128)with
  |true=>
   have eT:strIterType x = "str_ascii_iterator" :=by simp[strIterType,ha]
   rw[eT]at st;exact wpAny_pyNext_ascii_end (I.ok.hd hc) st hx λh' eb=>⟨rfl,I.turned (t':=s.toks) (λb o hb e=>eb b o hb e) f0 f1 f3 f4 f5⟩
  |false=>
   have eT:strIterType x = "str_iterator" :=by simp[strIterType,ha]
   rw[eT]at st;exact wpAny_pyNext_wide_end (I.ok.hd hc) st hx λh' eb=>⟨rfl,I.turned (t':=s.toks) (λb o hb e=>eb b o hb e) f0 f1 f3 f4 f5⟩
 self:=λA i s Q E st h=>by
  cases ha:x.cps.all (· < 128)with
  |true=>
   have eT:strIterType x = "str_ascii_iterator" :=by simp[strIterType,ha]
   rw[eT]at st;exact wpAny_pyIter_striter_ascii st h
  |false=>
   have eT:strIterType x = "str_iterator" :=by simp[strIterType,ha]
   rw[eT]at st;exact wpAny_pyIter_striter_wide st h
noncomputable def iAny(K:Frag)(tl:TE):TI:=λσ H R=>tl σ H λx H1=>(∃a,x=.ref a/\(∃xs,SqL K H1 a xs)/\R (Itl K a) H1)∨(∃a,x=.ref a/\(∃xs,SqT K H1 a xs)/\R (Itt K a) H1) ∨ ∃z,x=.str z/\R (Its z) H1
theorem Lv{l:JZ}{tl:TE}(hl:PE X l tl):PI X tg l (iAny X.K tl):=by
 intro pins s σ H R I h;refine thn (hl pins s σ H _ I h) λv s1 ⟨x,H1,I1,r1,q1⟩=>?_
 have fpOk:∀b∈[s1.heap.objs.size],Kg X pins H1 b:=λb hb=>by
  have e:b=s1.heap.objs.size:=by simpa using hb
  subst e;exact I1.fpOk (Qt _) (I1.hok.fresh (Qt _))
 rcases q1 with ⟨a,e,⟨xs,hq⟩,q⟩|⟨a,e,⟨xs,hq⟩,q⟩|⟨z,e,q⟩
 .subst e
  cases r1;obtain⟨its,rv,p,hz⟩:=I1.list hq;refine wpAny_pyIter_list p.isList ?_;exact⟨s1.heap.objs.size,[s1.heap.objs.size],_,_,H1,rfl,I1.kept (t':=s1.toks) λb o e=>Qe _ e,Nj a _,⟨_,QF _ Z,rfl,rfl⟩,fpOk,q⟩
 .subst e
  cases r1;obtain⟨its,rv,p,hz⟩:=I1.tuple hq;refine wpAny_pyIter_tuple p ?_;exact⟨s1.heap.objs.size,[s1.heap.objs.size],_,_,H1,rfl,I1.kept (t':=s1.toks) λb o e=>Qe _ e,Bf a _,⟨_,QF _ Z,rfl,rfl⟩,fpOk,q⟩
 .subst e
  obtain⟨t,rfl⟩:=r1;refine wpAny_pyIter_strU ?_;exact⟨s1.heap.objs.size,[s1.heap.objs.size],_,_,H1,rfl,I1.kept (t':=s1.toks) λb o e=>Qe _ e,DM z t _,⟨_,QF _ Z,rfl,rfl⟩,fpOk,q⟩
noncomputable def VL(z:Str):B4:=z.cps.toList.map λc=>.str ⟨#[c]⟩
noncomputable def SV:D->Option B4
 |.list ds=>O ds
 |.tuple ds=>O ds
 |.str z=>O (VL z)
 |_=>B0
theorem BA{K:Frag}{G1:Hp}{ad:JX}{vs:List V}{ds:B4}(h:SqT K G1 ad vs)(r:Reps K G1 vs ds):Yq K (Itt K ad) ds G1 where
 go:=λi G H s1 s2 hi=>by
  have hi':i<vs.length:=by rw[r.length];exact hi
  exact⟨vs,vs[i],ZE (s1.trans s2) h,Qp hi'⟩
 stop:=λi G H s1 s2 hi=>⟨vs,ZE (s1.trans s2) h,by rw[r.length];exact hi⟩
 yld:=λi G H x H' d s1 s2 e y=>by obtain⟨rfl,y⟩:=y;obtain⟨v,e1,r1⟩:=r.get e;have:=y vs (ZE (s1.trans s2) h);rw[e1]at this;cases this;exact⟨G,.refl s2,r1.mono s1⟩
theorem D5{K:Frag}{G1:Hp}{z:Str}:Yq K (Its z) (VL z) G1 where
 go:=λi G H s1 s2 hi=>by unfold VL at hi;simpa[Its]using hi
 stop:=λi G H s1 s2 hi=>by unfold VL at hi;simpa[Its]using hi
 yld:=λi G H x H' d s1 s2 e y=>by
  obtain⟨rfl,c,hc,rfl⟩:=y;unfold VL at e;rw[QO]at e;have:z.cps.toList[i]?=O c:=by simpa using hc
  rw[this]at e;cases e;exact⟨G,.refl s2,.str _⟩
noncomputable def Kt(f:M D):M B4:=UD f λx=>UB (SV x)
theorem Lu{f:M D}(h:PE X e (tD X.K B G0 f)):PI X tg e (iD X.K B G0 (Kt f)):=Xo (Lv h) λσ H R q=>tM.toI (R0:=Rep X.K) q λv H' G' ρ' x k r a=>by
 cases x with
 |list ds=>obtain⟨ad,vs,rfl,h1,r1⟩:=r.lst_inv;exact .inl ⟨ad,rfl,⟨vs,k.gh.seq h1⟩,a _ G' H' k (.refl _) (C7 h1 r1)⟩
 |tuple ds=>obtain⟨ad,vs,rfl,h1,r1⟩:=r.tup_inv;exact .inr (.inl ⟨ad,rfl,⟨vs,ZE k.gh h1⟩,a _ G' H' k (.refl _) (BA h1 r1)⟩)
 |str z=>have:=r.str_inv;subst this;exact .inr (.inr ⟨z,rfl,a _ G' H' k (.refl _) D5⟩)
 |_=>exact a.elim
noncomputable def inS(i j:Str):Bool:=!(Builtin.Str.occurrences j i 0 j.length 1).isEmpty
noncomputable def oInS:D->D->Af
 |.str i,.str j=>O (inS i j)
 |_,_=>B0
theorem M5:OpB X (J6 .In) oInS:=⟨_,Cq,λv u G H x y d Q s rx ry e k=>by
 unfold oInS at e;split at e
 .cases e
  have:=rx.str_inv;subst this;have:=ry.str_inv;subst this;exact⟨_,_,rfl,rfl,k⟩
 .cases e⟩
theorem M4{x:Str}{i:Int}(hg:Gl X x)(hm:∃t,X.mg x=O (.int i t))(hd:(x==("__debug__" : Str))=B3:=by decide):PE X (.Name x pos) (tD X.K B G0 (Up (.int i))):=by obtain⟨t,hm⟩:=hm;exact UK (TH (v:=.int i) hg hm ⟨t,rfl⟩ hd) λσ H Q ⟨G,ρ,k,a⟩=>aft.now a k (.int _)
end
section
variable{X:Cx}{B G0:Hp}{KX:XW}{e o a b c tg i:JZ}{pos p2:Pos}{es rest:B8}{te to ti:TE}
noncomputable def Lr(te to ti:TE):TS:=λD σ H=>te σ H λv H1=>to σ H1 λx H2=>ti σ H2 λk H3=>∃l xs n,x=.ref l/\H3 l=O (.lst xs)/\k=.int n/\0<=n/\n<xs.length/\D.nx σ (upd H3 l (.lst (xs.set n.toNat v)))
theorem DK(he:PE X e te)(ho:PE X o to)(hi:PE X i ti)(hs:swapsWith e (O (.Subscript o i p2)) pos.line X.env=pure B3:=by rfl):PS X (.Assign [.Subscript o i p2] e pos) (Lr te to ti):=by
 intro pins s σ H D I h;refine wpAny_Assign_Subscript (thn (he pins s σ H _ I h) λv s1 ⟨x,H1,I1,r1,q1⟩=>thn (ho pins s1 σ H1 _ I1 q1) λov s2 ⟨y,H2,I2,r2,q2⟩=>thn (hi pins s2 σ H2 _ I2 q2) λiv s3 ⟨k,H3,I3,r3,q3⟩=>?_) hs;obtain⟨l,xs,n,rfl,hl,rfl,h0,h1,q⟩:=q3;cases r2;obtain⟨t,rfl⟩:=r3;obtain⟨z,its,m,r,hlen,ee⟩:=I3.lstM hl
 refine PySem.W.ki_setAt (items:=its.toArray) (n:=m) ee h0 (by
                                  have:J0<2 ^ 63:=by decide
                                  lia) (by simp;lia) ?_
 refine⟨σ,_,I3.lset (t':=s3.toks) (its:=its) (its':=its.set n.toNat v) (f:=(·.setIfInBounds n.toNat v)) hl ee (by simp) (r.set r1 n.toNat) (by rw[List.length_set];exact z),q⟩
noncomputable def Vv(j:Nat)(g f:M D):SM:=sB f λd ρ1=>match ρ1[j]? with
 |some (O (.own _))=>sB g (λy ρ2=>match y with
  |.int k=>(match ρ2[j]? with
   |some (O (.own ds))=>if 0<=k/\k<ds.length then .nx (ρ2.set j (O (.own (ds.set k.toNat d))))else .bad
   |_=>.bad)
  |_=>.bad) ρ1
 |_=>.bad
theorem GK{j:Nat}{f g:M D}(he:PE X e (tD X.K B G0 f))(ho:PE X o (UZ j))(hi:PE X i (tD X.K B G0 g))(hs:swapsWith e (O (.Subscript o i p2)) pos.line X.env=pure B3:=by rfl) :
  PS X (.Assign [.Subscript o i p2] e pos) (tS X.K B G0 KX (Vv j g f)):=
 U9 (DK he ho hi hs) λD σ H q=>tS.bnd (R:=Rep X.K) q λv H1 G1 ρ1 d k r a=>by
  cases q0:ρ1[j]? with
  |none=>rw[q0]at a;exact a.elim
  |some o0=>
   cases o0 with
   |none=>rw[q0]at a;exact a.elim
   |some sl0=>
    cases sl0 with
    |deep _ _=>rw[q0]at a;exact a.elim
    |pub d=>rw[q0]at a;exact a.elim
    |own AS=>
     rw[q0]at a;obtain⟨ad,vs0,h1,h2,h3,h4,h5⟩:=k.own j AS q0;refine⟨.ref ad,h1,G1,ρ1,k,?_⟩;dsimp only at a;unfold sB at a;cases z:g ρ1 with
     |bad=>rw[z]at a;exact a.elim
     |ok y ρ2=>
      rw[z]at a;dsimp only at a;intro kv G' H' k' s' r';cases y with
      |int n=>
       dsimp only at a;cases q:ρ2[j]? with
       |none=>rw[q]at a;exact a.elim
       |some oo=>
        cases oo with
        |none=>rw[q]at a;exact a.elim
        |some sl=>
         cases sl with
         |deep _ _=>rw[q]at a;exact a.elim
         |pub d=>rw[q]at a;exact a.elim
         |own ds=>
          rw[q]at a;dsimp only at a;split at a
          .rename_i hn
           obtain⟨ad',vs,g1,g2,g3,g4,g5⟩:=k'.own j ds q;rw[h1]at g1;cases g1;refine⟨ad,vs,n,rfl,g4,r'.int_inv,hn.1,by rw[g5.length];exact hn.2,?_⟩;exact a σ G' _ (k'.change q h1 (g5.set (r.mono s') n.toNat)) s'
          .exact a.elim
      |_=>exact a.elim
noncomputable def Ye(z:Str)(lo hi:Ac):Str:=if(Builtin.Str.strSliceIndices lo hi 1 z.length).length=z.length then z else⟨((Builtin.Str.strSliceIndices lo hi 1 z.length).filterMap (z.cps[·]?)).toArray⟩
theorem Lq:SlR X (λx lo hi H Q=>∃z,x=.str z/\(Ye z lo hi).length<=J0/\Q (.str (Ye z lo hi)) H):=by
 intro pins s σ H x v vl vu lo hi sl Q I rx hs pl pu h;obtain⟨z,rfl,hz,q⟩:=h;obtain⟨t,rfl⟩:=rx;refine⟨"str", _,F.slot_str_getitem.lookup,typeIs_str s z t,?_⟩
 obtain⟨l,el,e1⟩:∃l:Option (Int×Tok),vl=partValue l/\l.map (·.1)=lo:=by
  cases pl with
  |none=>exact⟨B0,rfl,rfl⟩
  |int k t'=>exact⟨O (k,t'),rfl,rfl⟩
 obtain⟨u,eu,e2⟩:∃u:Option (Int×Tok),vu=partValue u/\u.map (·.1)=hi:=by
  cases pu with
  |none=>exact⟨B0,rfl,rfl⟩
  |int k t'=>exact⟨O (k,t'),rfl,rfl⟩
 subst el eu;refine wpAny_getItem_str_slice (l:=l) (u:=u) (st:=B0) hs Z ?_;unfold sliceMade slicePicked;rw[e1,e2];unfold Ye at hz q;by_cases hw:(Builtin.Str.strSliceIndices lo hi 1 z.length).length=z.length
 .rw[Qr hw]at hz q
  rw[if_pos (by simp[hw])];exact⟨.str z,H,I,⟨t,rfl⟩,q⟩
 .rw[QD hw]at hz q
  rw[if_neg (by simp[hw])];exact⟨hz,.str _,H,I.tok _,⟨_,rfl⟩,q⟩
end
section
variable{X:Cx}{B G0:Hp}{KX:XW}{e o a b c tg i:JZ}{pos p2:Pos}{es rest:B8}{te to ti:TE}
theorem pvb(i:Nat){x:Str}{pos:Pos}{N':List Str}{scope:Scope}{cl:List (Str×JX)}{C:JX}{s₀:JV}{H₀:Hp}{ex:Aa}(hN:N'[i]?=O x:=by rfl)
  (h:visK (scope.names.lookup x)=B2:=by rfl) (hd:(x==("__debug__" : Str))=B3:=by decide) (hcd:(x==("__classdict__" : Str))=B3:=by decide) :
  PE (X.blk N' scope cl C s₀ H₀ ex) (.Name x pos) (UZ i):=Pu hN (GO h) hd hcd
noncomputable def ZJ:D->Ac->Ac->B9
 |.list xs,lo,hi=>O (.list (DL.cutD xs lo hi))
 |.str z,lo,hi=>if(Ye z lo hi).length<=1000000 then O (.str (Ye z lo hi))else B0
 |_,_,_=>B0
noncomputable def KE(f:M D)(lo hi:M Ac):M D:=UD f λx=>UD lo λl=>UD hi λh=>UB (ZJ x l h)
theorem Bl{lo hi:Option JZ}{f:M D}{l h:M Ac}(he:PE X e (tD X.K B G0 f))(hl:PO X lo (tOi X.K B G0 l))(hu:PO X hi (tOi X.K B G0 h)) :
  PE X (.Subscript e (.Slice lo hi B0 p2) pos) (tD X.K B G0 (KE f l h)):=
 UK (DG (Eb.or Lq) he hl hu) λσ H Q q=>by
  refine tM.one (R:=Rep X.K) q λv H2 G ρ x k r a=>?_;refine tM.nx (R:=λ_ b c=>b=c) k a λl' H3 G3 ρ3 xl k3 s3 r3 a3=>?_;refine tM.nx (R:=λ_ b c=>b=c) k3 a3 λh' H4 G4 ρ4 xh k4 s4 r4 a4=>?_;have r3:l'=xl:=r3;have r4:h'=xh:=r4;subst r3 r4;unfold UB ZJ at a4
  cases x with
  |list xs=>obtain⟨ad,vs,rfl,h1,r1⟩:=((r.mono s3).mono s4).lst_inv;exact .inl ⟨ad,vs,rfl,k4.gh.seq h1,λp hp=>aft.done a4 k4 (Ext.new k4.gh hp) (.lst (SqL.of UW) ((r1.cut l' h').mono (KB (k4.gh.free hp))))⟩
  |str z=>
   dsimp only at a4;have:=r.str_inv;subst this;by_cases hc:(Ye z l' h').length<=1000000
   .rw[Qr hc]at a4
    exact .inr ⟨z,rfl,Qq hc lim,aft.now a4 k4 (.str _)⟩
   .rw[QD hc]at a4;exact a4.elim
  |_=>exact a4.elim
end
section
variable{X:Cx}{B G0:Hp}{e o a b c tg:JZ}{pos p2:Pos}{es rest:B8}{te to ti:TE}
noncomputable def Kh{β:Type}(p:D->D->Option β)(i:Nat)(g:M D):M β:=λρ=>match ρ[i]? with
 |some (O (.pub d))=>(UD g λy=>UB (p d y)) ρ
 |some (O (.own _))=>(UD g λy=>λρ'=>match ρ'[i]? with|some (O (.own ds))=>UB (p (.list ds) y) ρ'|_=>.bad) ρ
 |_=>.bad
theorem RX{K:Frag}{σ:St}{H:Hp}{p:D->D->Af}{r:R2}{i:Nat}{g:M D}{Q:Bool->Hp->Prop}{QV:VK}(hq:∀t H3,Q t H3->QV (.bl t) H3)(hr:∀v u G H x y d Q,Same G H->Rep K G v x->Rep K G u y->p x y=O d->Q (.bl d) H->r v u H Q)
  (q:tBo K B G0 (Kh p i g) σ H Q):UZ i σ H λx H1=>tD K B G0 g σ H1 λy H2=>r x y H2 QV:=by
 obtain⟨G,ρ,k,a⟩:=q;unfold Kh at a;cases q:ρ[i]? with
 |none=>rw[q]at a;exact a.elim
 |some o=>
  cases o with
  |none=>rw[q]at a;exact a.elim
  |some sl=>
   cases sl with
   |deep _ _=>rw[q]at a;exact a.elim
   |pub d=>
    rw[q]at a;obtain⟨v,h1,h2⟩:=k.pub i d q;refine⟨v,h1,G,ρ,k,?_⟩;dsimp only[UD]at a;cases z:g ρ with
    |bad=>rw[z]at a;exact a.elim
    |ok y ρ1=>rw[z]at a;intro u G' H' k' s' r';obtain⟨d',e',a'⟩:=aft.opt a;exact hr v u G' H' d y d' _ k'.gh (h2.mono s') r' e' (hq _ _ (a' d' G' H' k' s' Z))
   |own ds=>
    rw[q]at a;obtain⟨ad,vs,h1,h2,h3,h4,h5⟩:=k.own i ds q;refine⟨.ref ad,h1,G,ρ,k,?_⟩;dsimp only[UD]at a;cases z:g ρ with
    |bad=>rw[z]at a;exact a.elim
    |ok y ρ1=>
     rw[z]at a;dsimp only at a;intro u G' H' k' s' r';cases q1:ρ1[i]? with
     |none=>rw[q1]at a;exact a.elim
     |some oo=>
      cases oo with
      |none=>rw[q1]at a;exact a.elim
      |some sl1=>
       cases sl1 with
       |deep _ _=>rw[q1]at a;exact a.elim
       |pub d1=>rw[q1]at a;exact a.elim
       |own ds1=>
        rw[q1]at a;dsimp only at a;obtain⟨ad',ws,g1,g2,g3,g4,g5⟩:=k'.own i ds1 q1;rw[h1]at g1;cases g1;obtain⟨d',e',a'⟩:=aft.opt a;have sg:Same G' (upd G' ad (.lst ws)):=KB g3
        have sh:Same (upd G' ad (.lst ws)) H':=λb o q=>by
         by_cases z:b=ad
         .subst z;rw[UW]at q;cases q;exact g4
         .rw[UI z]at q;exact k'.gh b o q
        exact hr (.ref ad) u _ H' (.list ds1) y d' _ sh (.lst (SqL.of UW) (g5.mono sg)) (r'.mono sg) e' (hq _ _ (a' d' G' H' k' s' Z))
theorem GJ{op:CmpOp}{p:D->D->Af}{i:Nat}{g:M D}(o:OpB X (J6 op) p)(ha:PE X a (UZ i))(hb:PE X b (tD X.K B G0 g))(hm:behindInMarks op b=B3) :
  PT X (.Compare a [op] [b] pos) (tBo X.K B G0 (Kh p i g)):=by
 obtain⟨r,h,j⟩:=o;exact Z6 (P9 h ha hb hm) λσ H Q q=>RX (λt H3 z=>⟨t,rfl,z⟩) j q
theorem GI{op:CmpOp}{p:D->D->Af}{i:Nat}{g:M D}(o:OpB X (J6 op) p)(ha:PE X a (UZ i))(hb:PE X b (tD X.K B G0 g))(hm:behindInMarks op b=B3) :
  PE X (.Compare a [op] [b] pos) (tD X.K B G0 (UA Ua (Kh p i g))):=by
 obtain⟨r,h,j⟩:=o;exact UK (Oa h ha hb hm) λσ H Q q=>RX (λt H3 z=>z) j (tBo.val q)
end
end DL
namespace L2
open PySem PySem.Spec PyProof.Rows
end L2
namespace DL
open PySem PySem.Spec L2
open PyProof.Rows hiding St
section
variable{X:Cx}{B G0:Hp}{e o a b c tg:JZ}{pos p2 p3:Pos}{es rest:B8}{te to ti:TE}
noncomputable def oIn:D->D->Af
 |.str i,.str j=>O (inS i j)
 |x,.list xs=>if x.canLay0=B2/\Ud xs=B2/\x.depth<=60 then O (xs.any λy=>Uf y x)else B0
 |x,.tuple xs=>if x.canLay0=B2/\Ud xs=B2/\x.depth<=60 then O (xs.any λy=>Uf y x)else B0
 |_,_=>B0
noncomputable def WE(x y:D):Af:=match y with
 |.list xs=>if x.canLay0=B2/\Ud xs=B2/\x.depth<=60 then O (xs.any λy=>Uf y x)else B0
 |.tuple xs=>if x.canLay0=B2/\Ud xs=B2/\x.depth<=60 then O (xs.any λy=>Uf y x)else B0
 |_=>B0
theorem M0(hu:X.A.units+64<cLine):OpB X (J6 .In) WE:=by
 refine⟨λv u H Q=>∃G x y d,Same G H/\Rep X.K G v x/\Rep X.K G u y/\WE x y=O d/\Q (.bl d) H,?_,λv u G H x y d Q s rx ry e k=>⟨G,x,y,d,s,rx,ry,e,k⟩⟩;intro pins s σ H x y v u Q I rx ry ⟨G,dx,dy,d,sg,px,py,e,q⟩;unfold WE at e;split at e
 .split at e
  .rename_i c
   cases e;obtain⟨as,ra⟩:=Xm I sg px rx c.1;obtain⟨bs,rb⟩:=Xm I sg py ry (show Ud _=B2 from c.2.1);exact SeqAt.in_list_reads rb ra c.2.1 c.1 (by have:=c.2.2;lia) ⟨.bl _,H,I,rfl,q⟩
  .cases e
 .split at e
  .rename_i c
   cases e;obtain⟨as,ra⟩:=Xm I sg px rx c.1;obtain⟨bs,rb⟩:=Xm I sg py ry (show Ud _=B2 from c.2.1);exact SeqAt.in_tuple_reads rb ra c.2.1 c.1 (by have:=c.2.2;lia) ⟨.bl _,H,I,rfl,q⟩
  .cases e
 .cases e
theorem B_in(hu:X.A.units+64<cLine):OpB X (J6 .In) oIn:=(M5.or (M0 hu)).congr λx y=>by cases x<;>cases y<;>rfl
theorem D4{tl th ts:TO}{lo hi:Option JZ}{st:JZ}(he:PE X e te)(hl:PO X lo tl)(hu:PO X hi th)(hst:PO X (O st) ts):PE X (.Subscript e (.Slice lo hi (O st) p2) pos)
  (λσ H Q=>te σ H λx H1=>tl σ H1 λl H2=>th σ H2 λu H3=>ts σ H3 λt H4=>∃a xs,x=.ref a/\SqL X.K H4 a xs/\l=B0/\u=B0/\t=O (-1)/\∀p,H4 p=B0->Q (.ref p) (upd H4 p (.lst xs.reverse))):=by
 intro pins s σ H Q I h;refine Subscript_ (thn (he pins s σ H _ I h) λv s1 ⟨x,H1,I1,r1,q1⟩=>?_);refine wpAny_Slice (thn (hl pins s1 σ H1 _ I1 q1) λvl s2 ⟨l,H2,I2,pl,q2⟩=>thn (hu pins s2 σ H2 _ I2 q2) λvu s3 ⟨u,H3,I3,pu,q3⟩=>thn (hst pins s3 σ H3 _ I3 q3) λvt s4 ⟨t,H4,I4,pt,q4⟩=>?_);obtain⟨a,xs,rfl,hx,rfl,rfl,rfl,q⟩:=q4;cases r1;have I5:Inv X pins σ H4 {s4 with heap:=s4.heap.push {cls:=.type "slice", data:=.fields #[vl,vu,vt]}}:=I4.kept (t':=s4.toks) λb ob q=>Qe _ q
 obtain⟨its,r,ht,hz⟩:=I5.list hx;have hlen:=r.length;have hg:J4 (model X.prog X.w) X.A (getItem (.ref a) (.ref s4.heap.objs.size)) (EP X pins σ Q) X.xe {s4 with heap:=s4.heap.push {cls:=.type "slice", data:=.fields #[vl,vu,vt]}}:=by refine wpAny_getItem_list_slice ht.isList (Heap.IsSliceOf.new ..) pl pu pt (by simp) ?_ (by rw[List.size_toArray]<;>lia);rw[PySem.W.krv_pick];refine⟨.ref _,_,I5.laid (t':=s4.toks) (o:=.lst xs.reverse) (λb ob q=>Qe _ q) (Qt _) ?_,rfl,q _ (I5.hok.fresh (Qt _))⟩;exact⟨by rw[List.length_reverse];exact hz,its.reverse,0,r.reverse,QF _ Z⟩
 show J4 (model X.prog X.w) X.A (subscriptTail e (.Slice lo hi (O st) p2) (.ref a) (.ref s4.heap.objs.size)) (EP X pins σ Q) X.xe {s4 with heap:=s4.heap.push {cls:=.type "slice", data:=.fields #[vl,vu,vt]}};exact tail_any (ops:=[.ref a,.ref s4.heap.objs.size]) ht.isList.typeIs slot_list_getitem.lookup hg (by with_unfolding_all rfl)
noncomputable def Xq:D->Ac->Ac->Ac->B9
 |.list xs,B0,B0,O i=>if i = -1 then O (.list xs.reverse)else B0
 |_,_,_,_=>B0
noncomputable def Yc(f:M D)(lo hi st:M Ac):M D:=UD f λx=>UD lo λl=>UD hi λh=>UD st λt=>UB (Xq x l h t)
theorem GH{lo hi:Option JZ}{st:JZ}{f:M D}{l h t:M Ac}(he:PE X e (tD X.K B G0 f))(hl:PO X lo (tOi X.K B G0 l))(hu:PO X hi (tOi X.K B G0 h))(hst:PO X (O st) (tOi X.K B G0 t)) :
  PE X (.Subscript e (.Slice lo hi (O st) p2) pos) (tD X.K B G0 (Yc f l h t)):=
 UK (D4 he hl hu hst) λσ H Q q=>by
  refine tM.one (R:=Rep X.K) q λv H2 G ρ x k r a=>?_;refine tM.nx (R:=λ_ b c=>b=c) k a λl' H3 G3 ρ3 xl k3 s3 r3 a3=>?_;refine tM.nx (R:=λ_ b c=>b=c) k3 a3 λh' H4 G4 ρ4 xh k4 s4 r4 a4=>?_;refine tM.nx (R:=λ_ b c=>b=c) k4 a4 λt' H5 G5 ρ5 xt k5 s5 r5 a5=>?_;have r3:l'=xl:=r3;have r4:h'=xh:=r4;have r5:t'=xt:=r5;subst r3 r4 r5
  cases x with
  |list xs=>
   cases l' with
   |some _=>exact a5.elim
   |none=>
   cases h' with
   |some _=>exact a5.elim
   |none=>
   cases t' with
   |none=>exact a5.elim
   |some i=>
   obtain⟨ad,vs,rfl,h1,r1⟩:=(((r.mono s3).mono s4).mono s5).lst_inv;by_cases hi:i = -1
   .subst hi
    exact⟨ad,vs,rfl,k5.gh.seq h1,rfl,rfl,rfl,λp hp=>aft.done a5 k5 (Ext.new k5.gh hp) (.lst (SqL.of UW) (r1.reverse.mono (KB (k5.gh.free hp))))⟩
   .unfold UB Xq at a5
    dsimp only at a5;rw[QD hi]at a5;exact a5.elim
  |_=>unfold UB Xq at a5;exact a5.elim
noncomputable def Yp:B4->Option B4
 |[.list xs]=>O xs
 |[.tuple xs]=>O xs
 |_=>B0
theorem O6{x l:B4}(h:Yp x=O l):x=[.list l]∨x=[.tuple l]:=by
 unfold Yp at h;split at h
 .cases h;exact .inl Z
 .cases h;exact .inr Z
 .cases h
theorem NL:bootBuiltins "list" = O (.type "list"):=by decide +kernel
theorem EH{f:M B4}(hg:Gl X "list")(hm:X.mg "list" = B0)(ha:PA X [a] (tDs X.K B G0 f))(he:J5 [a] X.env=(B3,eval a X.env)::J5 [] X.env:=by rfl) :
  PE X (.Call (.Name "list" p2) [a] [] pos) (tL X.K B G0 (UD f λxs=>UB (Yp xs))):=
 UK (TQ NY hg hm NL ha (by decide) (by decide) he Z) λσ H Q ⟨G,ρ,k,q⟩=>by
  refine⟨G,ρ,k,?_⟩;unfold UD at q;cases z:f ρ with
  |bad=>rw[z]at q;exact q.elim
  |ok xs ρ1=>
   rw[z]at q;dsimp only[UB]at q;intro vs G' H' k' s' r;cases z2:Yp xs with
   |none=>rw[z2]at q;exact q.elim
   |some l=>
    rw[z2]at q;rcases O6 z2 with rfl|rfl
    .obtain⟨v,rfl,q1⟩:=r.one_inv
     obtain⟨p,ws,rfl,h1,r1⟩:=q1.lst_inv;exact⟨p,ws,rfl,.inl (k'.gh.seq h1),λad hp=>q ad ws G' _ (k'.ext (Ext.hid k'.gh hp)) s' (NewL.of k' hp r1)⟩
    .obtain⟨v,rfl,q1⟩:=r.one_inv
     obtain⟨p,ws,rfl,h1,r1⟩:=q1.tup_inv;exact⟨p,ws,rfl,.inr (ZE k'.gh h1),λad hp=>q ad ws G' _ (k'.ext (Ext.hid k'.gh hp)) s' (NewL.of k' hp r1)⟩
noncomputable def X2(i:Nat):M B4:=λρ=>match ρ[i]? with
 |some (O (.pub d))=>UB (Yp [d]) ρ
 |some (O (.own ds))=>.ok ds ρ
 |_=>.bad
theorem D3{i:Nat}(hg:Gl X "list")(hm:X.mg "list" = B0)(ho:PE X a (UZ i))(he:J5 [a] X.env=(B3,eval a X.env)::J5 [] X.env:=by rfl) :
  PE X (.Call (.Name "list" p2) [a] [] pos) (tL X.K B G0 (X2 i)):=
 UK (TQ NY hg hm NL (KI ho Zd he) (by decide) (by decide) he Z) λσ H Q ⟨G,ρ,k,q⟩=>by
  unfold X2 at q;cases z:ρ[i]? with
  |none=>rw[z]at q;exact q.elim
  |some oo=>
   cases oo with
   |none=>rw[z]at q;exact q.elim
   |some sl=>
    cases sl with
    |deep _ _=>rw[z]at q;exact q.elim
    |own ds=>rw[z]at q;dsimp only at q;obtain⟨ad,vs,h1,h2,h3,h4,h5⟩:=k.own i ds z;exact⟨.ref ad,h1,ad,vs,rfl,.inl (SqL.of h4),λl hp=>q l vs G _ (k.ext (Ext.hid k.gh hp)) (.refl _) (NewL.of k hp h5)⟩
    |pub d=>
     rw[z]at q;dsimp only[UB]at q;obtain⟨v,h1,h2⟩:=k.pub i d z;cases z2:Yp [d]with
     |none=>rw[z2]at q;exact q.elim
     |some l=>
      rw[z2]at q;dsimp only at q;rcases O6 z2 with e|e
      .cases e
       obtain⟨p,ws,rfl,g1,r1⟩:=h2.lst_inv;exact⟨_,h1,p,ws,rfl,.inl (k.gh.seq g1),λad hp=>q ad ws G _ (k.ext (Ext.hid k.gh hp)) (.refl _) (NewL.of k hp r1)⟩
      .cases e
       obtain⟨p,ws,rfl,g1,r1⟩:=h2.tup_inv;exact⟨_,h1,p,ws,rfl,.inr (ZE k.gh g1),λad hp=>q ad ws G _ (k.ext (Ext.hid k.gh hp)) (.refl _) (NewL.of k hp r1)⟩
noncomputable def Vu:B4->B9
 |[.int i]=>O (.int i)
 |[.bool b]=>O (.int (if b then 1 else 0))
 |_=>B0
theorem Hc:Xa X (.type "int") Vu:=by
 refine⟨_,CZ,λvs G H ds d Q s r e k=>?_⟩;unfold Vu at e;split at e
 .cases e
  obtain⟨v,rfl,q⟩:=r.one_inv;rw[q.int_inv];exact .inl ⟨_,rfl,k _ G H (.refl s) (.int _)⟩
 .cases e
  obtain⟨v,rfl,q⟩:=r.one_inv;rw[q.bl_inv];exact .inr ⟨_,rfl,k _ G H (.refl s) (.int _)⟩
 .cases e
end
section
variable{X:Cx}{B G0:Hp}{e o a b c tg:JZ}{pos p2 p3 p4:Pos}{es rest:B8}{te to ti:TE}
theorem VZ:∀{ns:B6}{us:B5},Vals (ns.map V.int) us->PyProof.Rows.IntsAre us ns
 |[],_,.nil=>.nil
 |n::ns,_,.cons h t=>by obtain⟨tk,rfl⟩:=h;exact .cons n tk (VZ t)
noncomputable def YY(ns:B6):Nat:=(PyProof.Rows.firstMet (λi=>ns.getD i 0) ns.length).length
theorem DZ(hc:X.calm=B2):ZA X (.type "set") (λxs H Q=>∃l,∃ns:B6,xs=[.ref l]/\SqL X.K H l (ns.map V.int)/\ns.length+1<4096/\∀S p,H p=B0->Q (.ref p) (upd H p (.set S (YY ns)))):=by
 intro pins s σ H xs us Q I rx h;obtain⟨l,ns,rfl,hq,hb,q⟩:=h;obtain⟨u,rfl,ru⟩:=rx.one;cases ru;obtain⟨its,rv,p,hz⟩:=I.list hq;have hi:=VZ rv;have hn:its.toArray.size=ns.length:=by have:=rv.length;rw[List.length_map]at this;simp;lia
 refine call_set_list (I.ok.hd hc) p.isList (ns:=ns) (by simpa using hi) (by rw[hn];exact hb) λh' tk hS hk=>?_
 rw[hn]at hS;refine⟨.ref s.heap.objs.size,_,I.laid (t':=tk) (λb o e=>hk b o (Qf e) e) (Qt _) (show K2 X.prog X.w _ h' _ (.set _ (YY ns))from hS),rfl,q _ _ (I.hok.fresh (Qt _))⟩
theorem DY:ZA X (.builtin "len") (λxs H Q=>∃p S n,xs=[.ref p]/\H p=O (.set S n)/\Q (.int n) H):=by
 intro pins s σ H xs us Q I rx h;obtain⟨p,S,n,rfl,hp,q⟩:=h;obtain⟨u,rfl,ru⟩:=rx.one;cases ru;obtain⟨o,es,ep,t,h1,h2,h3,h4,h5,h6,h7,h8⟩:=(show s.heap.SetOf (intKind X.prog X.w) p S n from I.hok p _ hp)
 have hsb:scanBound=4096:=rfl;refine call_len_set h1 h2 h3 h7 (by lia) ?_;rw[h8];exact⟨.int n,H,I.tok _,⟨_,rfl⟩,q⟩
noncomputable def Xd:B4->Option B6
 |[]=>O []
 |.int i::r=>(Xd r).map (i :: ·)
 |_=>B0
theorem NA{K:Frag}{G:Hp}:∀{vs:List V}{ds:B4}{ns:B6},Reps K G vs ds->Xd ds=O ns->vs=ns.map V.int
 |_,_,ns,.nil,e=>by cases e;rfl
 |_,_,ns,.cons (d:=d) r t,e=>by
  cases d with
  |int b=>
   unfold Xd at e;cases z:Xd _ with
   |none=>rw[z]at e;cases e
   |some cs=>rw[z]at e;cases e;rw[r.int_inv,NA t z];rfl
  |_=>cases e
theorem NK(ns:B6):Xd (ns.map int)=O ns:=by
 induction ns with
 |nil=>rfl
 |cons b r ih=>rw[Qu,Xd,ih];rfl
noncomputable def X6:B4->B9
 |[.list ds]=>(match Xd ds with
  |some ns=>if ns.length+1<4096 then O (.int (YY ns))else B0
  |none=>B0)
 |_=>B0
theorem Bz{xs:B4}{d:D}(h:X6 xs=O d):∃ds ns,xs=[.list ds]/\Xd ds=O ns/\ns.length+1<4096/\d=.int (YY ns):=by
 unfold X6 at h;split at h
 .rename_i ds
  cases z:Xd ds with
  |none=>rw[z]at h;cases h
  |some ns=>
   rw[z]at h;dsimp only at h;split at h
   .rename_i c
    cases h;exact⟨ds,ns,rfl,z,c,rfl⟩
   .cases h
 .cases h
theorem DX:bootBuiltins "set" = O (.type "set"):=by decide +kernel
theorem Bk{f:M B4}(hc:X.calm=B2)(hg:Gl X "len")(hm:X.mg "len" = B0)(AY:Gl X "set")(hm2:X.mg "set" = B0)(ha:PA X [a] (tDs X.K B G0 f))(he:J5 [a] X.env=(B3,eval a X.env)::J5 [] X.env:=by rfl)
  (qi:J5 [.Call (.Name "set" p2) [a] [] p3] X.env=(B3,eval (.Call (.Name "set" p2) [a] [] p3) X.env)::J5 [] X.env:=by rfl) :
  PE X (.Call (.Name "len" p4) [.Call (.Name "set" p2) [a] [] p3] [] pos) (tD X.K B G0 (K1 X6 f)):=
 UK (Vn DY hg hm boot_len (KI (TQ (DZ hc) AY hm2 DX ha (by decide) (by decide) he Z) Zd qi) (by decide) (by decide) qi Z) λσ H Q q=>tM.one (R:=Reps X.K) q λvs H2 G ρ x k r a=>by obtain⟨d,e,a⟩:=a.opt;obtain⟨ds,ns,rfl,z,c,rfl⟩:=Bz e;obtain⟨v,rfl,q1⟩:=r.one_inv;obtain⟨l,ws,rfl,h1,r1⟩:=q1.lst_inv;have:=NA r1 z;subst this;refine⟨l,ns,rfl,k.gh.seq h1,c,λS p hp=>⟨p,S,YY ns,rfl,UW,?_⟩⟩;exact aft.done a k (Ext.hid k.gh hp) (.int _)
end
end DL
namespace L2
open PySem PySem.Spec PyProof.Rows
end L2
namespace DL
open PySem PySem.Spec L2
open PyProof.Rows hiding St
end DL
namespace L2
open PySem PySem.Spec PyProof.Rows
end L2
namespace DL
open PySem PySem.Spec L2
open PyProof.Rows hiding St
section
variable{prog:JW}{w:World}{A:Around}{R:Result->JV->Prop}{h0:Heap}{l I S:JX}{rs:List (JX×B5)}
def Yi(h h':Heap):Prop:=∀b o,h.get? b=O o->h'.get? b=O o
def Ls1(h:Heap)(a:JX)(its:B5)(sl:Array B7):Prop:=∃n,h.get? a=O {cls:=.type "list", dict:=B0,data:=.seq its.toArray n,slots:=sl}
def Ls(h:Heap)(a:JX)(its:B5):Prop:=∃n sl,h.get? a=O {cls:=.type "list", dict:=B0,data:=.seq its.toArray n,slots:=sl}
theorem Ls.kept{h h':Heap}{a:JX}{its:B5}(x:Ls h a its)(k:Yi h h'):Ls h' a its:=by obtain⟨n,sl,e⟩:=x;exact⟨n,sl,k _ _ e⟩
theorem Bj(hh:A.in1.handled=B0)(hI:h0.objs.size<=I)(hS:h0.objs.size<=S)(hIS:S≠I)(hl:h0.IsList l (rs.map λp=>Value.ref p.1).toArray)(hr:∀p∈rs,Ls h0 p.1 p.2) :
  ∀(k i:Nat)(s:JV)(t:JX)(acc:B5)(c:Nat)(sl:Array B7),rs.length-i=k->i<=rs.length->Yi h0 s.heap->s.heap.IsListIter I l i ->
   s.heap.get? S=O {cls:=.type "list", dict:=B0,data:=.seq #[.ref t] c,slots:=#[]}->t≠S->t≠I->Ls1 s.heap t acc sl->acc.length+((rs.drop i).map (·.2)).flatten.length<=J0 ->
   (∀p h' tk AD,Yi h0 h'->Ls1 h' p (acc++((rs.drop i).map (·.2)).flatten) AD->(p=t/\i=rs.length/\AD=sl∨h0.objs.size<=p/\AD=#[])->R (.ok (.ret (.ref p))) {s with heap:=h',toks:=tk}) ->
   codeAny (model prog w) A (.builtin "sum.loop" ⟨[.ref I,.ref S,rawInt 2,rawInt 0],[]⟩) R s:=by
 intro k;induction k with
 |zero=>
  intro i s t acc c sl hk hi hK hit hSS htS htI ht hz hR;have hin:i=rs.length:=by lia
  subst hin;refine codeAny_builtin F.entry_sum_loop ?_;rw[Around.under_plainId F.plain_sum_loop _];show J4 _ A.in1 (seqItems? (.ref S) >>= _) _ _ s;refine Qb (wpAny_seqItems hSS Z ?_);show J4 _ A.in1 (tryCatch (pyNext (.ref I)) _ >>= _) _ _ s;have hl':s.heap.IsList l (rs.map λp=>Value.ref p.1).toArray:=by obtain⟨o,e,r⟩:=hl;exact⟨o,hK _ _ e,r⟩
  refine wpAny_bind (wpAny_tryCatch (wpAny_pyNext_list_end hh hit hl' (by simp) λh' ex=>?_));refine Qg (hR t h' s.toks sl (λb o e=>?_) ?_ (.inl ⟨rfl,rfl,rfl⟩))
  .exact ex b o (QZ (Qx (Qf e) hI)) (hK b o e)
  .obtain⟨n,e⟩:=ht
   rw[List.drop_length,JO,List.flatten_nil,QT];exact⟨n,ex _ _ htI e⟩
 |succ k ih=>
  intro i s t acc c sl hk hi hK hit hSS htS htI ht hz hR;have hlt:i<rs.length:=by lia
  refine codeAny_builtin F.entry_sum_loop ?_;rw[Around.under_plainId F.plain_sum_loop _];show J4 _ A.in1 (seqItems? (.ref S) >>= _) _ _ s;refine Qb (wpAny_seqItems hSS Z ?_);show J4 _ A.in1 (tryCatch (pyNext (.ref I)) _ >>= _) _ _ s;have hl':s.heap.IsList l (rs.map λp=>Value.ref p.1).toArray:=by obtain⟨o,e,r⟩:=hl;exact⟨o,hK _ _ e,r⟩
  refine wpAny_bind (wpAny_tryCatch (wpAny_pyNext_list_item (x:=.ref (rs[i]'hlt).1) hit hl' (by simp[hlt]) λh' qG sb=>?_));show J4 _ A.in1 ((holding [Value.ref (rs[i]'hlt).1] (binaryOp .Add (.ref t) (.ref (rs[i]'hlt).1))).attempt >>= _) _ _ _;refine Qb (wpAny_attempt (wpAny_holding ?_));have hm:rs[i]'hlt∈rs:=List.getElem_mem hlt;have hd:rs.drop i=rs[i]'hlt::rs.drop (i+1):=JA hlt;have hK':Yi h0 h':=λb o e=>(sb.2 b (QZ (Qx (Qf e) hI))).trans (hK b o e)
  obtain⟨n1,e1⟩:=ht;have e1':=(sb.2 t htI).trans e1;obtain⟨n2,s2,e2⟩:=(hr _ hm).kept hK';have qL:=(sb.2 S hIS).trans hSS;rw[hd,Qu,QN,Qo]at hz;refine concat_meets ⟨_,e1',rfl⟩ ⟨_,e2,rfl⟩ noFill_list_add seq_list_add PySem.F.slot_list_add PySem.F.entry_list_add (PySem.F.args_list_add_2 _ _) (list_addW t _ acc.toArray _ n1 n2 B0 B0 sl s2 (by rw[QU,QU];lia)) ⟨e1',e2,?_⟩;have hlS:S<h'.objs.size:=Qf qL;have hlI:I<h'.objs.size:=by obtain⟨o,e,_⟩:=qG;exact Qf e
  have ea:acc.toArray++(rs[i]'hlt).2.toArray=(acc++(rs[i]'hlt).2).toArray:=by simp
  rw[ea];have hP:∀b o,h'.get? b=O o->(h'.push {cls:=Value.type "list", data:=Data.seq (acc++(rs[i]'hlt).2).toArray}).get? b=O o:=λb o e=>Qe _ e
  have hS1:=hP _ _ qL;have hNew:(h'.push {cls:=Value.type "list", data:=Data.seq (acc++(rs[i]'hlt).2).toArray}).get? h'.objs.size=O {cls:=Value.type "list", data:=Data.seq (acc++(rs[i]'hlt).2).toArray}:=QF _ Z;show J4 _ A.in1 (updateSeq S (λ_=>#[.ref h'.objs.size]) >>= _) _ _ _;refine Qb (wpAny_updateSeq hS1 Z ?_);have hS2:=QR (Obj.mapSeq λ_=>#[Value.ref h'.objs.size]) hS1 Z;refine Qb (wpAny_letGo ?_);refine Qb (wpAny_updateSeq hS2 Z (Qg ⟨plainId_quiet F.plain_sum_loop _,?_⟩));have oth:∀b o,b≠S->(h'.push {cls:=Value.type "list", data:=Data.seq (acc++(rs[i]'hlt).2).toArray}).get? b=O o->(((h'.push {cls:=Value.type "list", data:=Data.seq (acc++(rs[i]'hlt).2).toArray}).update S (Obj.mapSeq λx=>#[Value.ref h'.objs.size])).update S (Obj.mapSeq λx=>#[Value.ref h'.objs.size])).get? b=O o:=λb o hb e=>(Ql _ _ (Ne.symm hb)).trans ((Ql _ _ (Ne.symm hb)).trans e)
  refine ih (i+1) _ h'.objs.size (acc++(rs[i]'hlt).2) _ #[] (by lia) hlt ?_ ?_ (QR _ hS2 Z) (Ji hlS) (Ji hlI) ?_ (by rw[Qo];lia) λp h'' tk AD hk'' hp hq=>?_
  .exact λb o e=>oth b o (QZ (Qx (Qf e) hS)) (hP b o (hK' b o e))
  .obtain⟨o,e,r⟩:=qG
   exact⟨o,oth I o (Ne.symm hIS) (hP I o e),r⟩
  .exact⟨_,oth _ _ (Ji hlS) hNew⟩
  .refine hR p h'' tk AD hk'' ?_ (.inr ?_)
   .rw[hd,Qu,QN,←Jf];exact hp
   .rcases hq with ⟨rfl, -,e⟩|hq
    .exact⟨JR (Nat.lt_of_le_of_lt hS hlS),e⟩
    .exact hq
end
section
variable{prog:JW}{w:World}{A:Around}{E:JU->JV->Prop}{s:JV}{l z:JX}{rs:List (JX×B5)}
theorem DW(a b:JU):argsOk "sum" ⟨[a,b],[]⟩:=by unfold argsOk;kernel_rfl
theorem Bi{Q:JU->JV->Prop}(hh:A.handled=B0)(hl:s.heap.IsList l (rs.map λp=>Value.ref p.1).toArray)(hr:∀p∈rs,Ls s.heap p.1 p.2)(hz:Ls s.heap z [])(hb:(rs.map (·.2)).flatten.length<=J0)
  (h:∀p h' tk AD,Yi s.heap h'->Ls1 h' p (rs.map (·.2)).flatten AD->(p=z/\rs=[]∨s.heap.objs.size<=p/\AD=#[])->Q (.ref p) {s with heap:=h',toks:=tk}) :
  J4 (model prog w) A (call (.builtin "sum") [.ref l,.ref z]) Q E s:=by
 refine call_function_tree F.kind_sum F.plain_sum F.entry_sum (DW _ _) ?_;unfold Builtin.«sum»;simp only[QB,QX];rw[QD (by decide)];refine Qb (wpAny_of_eq (show Builtin.Builtins.bindParams "sum" ["start"] 0 ⟨[.ref z],[]⟩=pure [O (.ref z)]from rfl) ?_);refine Qb (wpAny_pyIter_list hl ?_);refine Qb (Qg ?_);obtain⟨n,sl,ez⟩:=id hz;have ty:∀h:Heap,h.get? z=O {cls:=.type "list", dict:=B0,data:=.seq [].toArray n,slots:=sl}->({s with heap:=h}:JV).TypeIs (.ref z) "list" :=λh e=>⟨_,e,rfl⟩
 have ez':(s.heap.push {cls:=.type "list_iterator", data:=.fields #[.ref l,.int 0 0]}).get? z=_:=Qe _ ez;simp only[List.forIn_cons,List.forIn_nil];refine Qb (Qb (Qb (wpAny_isInstance (T:= "list") (b:=B3) (ty _ ez') F.sub_list_str ?_)));simp only[Jy,JT];refine Qg (Qb (Qb (wpAny_isInstance (T:= "list") (b:=B3) (ty _ ez') F.sub_list_bytes ?_)));simp only[Jy,JT];refine Qg (Qb (Qb (wpAny_isInstance (T:= "list") (b:=B3) (ty _ ez') F.sub_list_bytearray ?_)));simp only[Jy,JT];refine Qg (Qg ?_);refine Qb (Jv ?_);have hzs:=Qf ez;have s1:(s.heap.push {cls:=.type "list_iterator", data:=.fields #[.ref l,.int 0 0]}).objs.size=s.heap.objs.size+1:=Jm ..;have k2:Yi s.heap ((s.heap.push {cls:=.type "list_iterator", data:=.fields #[.ref l,.int 0 0]}).push {cls:=.type "list", data:=.seq #[.ref z]}):=λb o e=>Qe _ (Qe _ e)
 refine Qg ⟨plainId_quiet F.plain_sum_loop _,Bj (h0:=s.heap) (l:=l) (I:=s.heap.objs.size) (S:=(s.heap.push {cls:=.type "list_iterator", data:=.fields #[.ref l,.int 0 0]}).objs.size) (rs:=rs) hh (Qt _) (by rw[s1];exact Jn _) (by rw[s1];exact Nat.succ_ne_self _) hl hr rs.length 0 _ z [] 0 sl Z (JS _)
  k2 ⟨_,Heap.get?_push_of_some _ (Heap.get?_push_size _ Z),rfl,rfl⟩ (Heap.get?_push_size _ Z) (by rw[s1];exact Nat.ne_of_lt (Nat.lt_succ_of_lt hzs)) (Nat.ne_of_lt hzs) ⟨n,k2 _ _ ez⟩ (by simpa using hb) λp h' tk AD hk hp hq=>?_⟩
 exact h p h' tk AD hk (by simpa using hp) (hq.imp (λe=>⟨e.1,List.eq_nil_of_length_eq_zero e.2.1.symm⟩) id)
end
section
variable{X:Cx}{pins:List (JX×Obj)}{σ:St}{H:Hp}{s:JV}
theorem PM(I:Inv X pins σ H s):∀{rs:List (JX×List V)},(∀p∈rs,SqL X.K H p.1 p.2) ->
  ∃ts:List (JX×B5),(ts.map λp=>Value.ref p.1)=(rs.map λp=>Value.ref p.1)/\(∀p∈ts,Ls s.heap p.1 p.2)/\Vals (rs.map (·.2)).flatten (ts.map (·.2)).flatten
 |[],_=>⟨[],rfl,(λ_ h=>by cases h),(show Vals [] []from Paired.nil)⟩
 |p::rs,h=>by
  obtain⟨ts,e,hl,hv⟩:=PM I λq hq=>h q (Qj _ hq)
  obtain⟨its,rv,⟨⟨c1,d1,t1,sl⟩,n,e1,ec,ed,et⟩,z⟩:=I.list (h p (Qk ..));simp only at ec ed et;subst ec ed et;refine⟨(p.1,its)::ts,by rw[Qu,Qu,e],λq hq=>?_,?_⟩
  .rcases QM.1 hq with rfl|hq
   .exact⟨n,sl,e1⟩
   .exact hl q hq
  .rw[Qu,Qu,QN,QN]
   exact rv.append hv
theorem O5:∀{as:Aa}{us:B5},Vals (as.map V.ref) us->us=as.map Value.ref
 |[],_,.nil=>rfl
 |a::as,_,.cons h t=>by cases h;rw[O5 t];rfl
theorem DV(hc:X.calm=B2):ZA X (.builtin "sum") (λxs H Q=>∃l z,∃rs:List (JX×List V),xs=[.ref l,.ref z]/\SqL X.K H l (rs.map λp=>V.ref p.1)/\(∀p∈rs,SqL X.K H p.1 p.2)/\SqL X.K H z []/\(rs.map (·.2)).flatten.length<=J0 /\
  (rs=[]->Q (.ref z) H)/\∀p,H p=B0->Q (.ref p) (upd H p (.lst (rs.map (·.2)).flatten))):=by
 intro pins s σ H xs us Q I rx h;obtain⟨l,z,rs,rfl,hq,hr,hz,hb,q0,q⟩:=h;obtain⟨u,u',rfl,ru,ru'⟩:=W8 rx;cases ru;cases ru';obtain⟨its,rv,pl, -⟩:=I.list hq;obtain⟨ts,e,hl,hv⟩:=PM I hr;have ei:its=ts.map λp=>Value.ref p.1:=by rw[e];have:=O5 (as:=rs.map (·.1)) (us:=its) (by rw[Jg];exact rv);rw[this,Jg];rfl
 subst ei;obtain⟨zi,rz,⟨⟨c1,d1,t1,sl⟩,n,e1,ec,ed,et⟩, -⟩:=I.list hz;cases rz;simp only at ec ed et;subst ec ed et;have hlen:=hv.length;refine Bi (I.ok.hd hc) pl.isList hl ⟨n,sl,e1⟩ (by lia) λp h' tk AD hk hp hq=>?_
 rcases hq with ⟨rfl,rfl⟩|⟨hp',rfl⟩
 .have hr0:rs=[]:=by
   cases rs with
   |nil=>rfl
   |cons a b=>cases e
  exact⟨.ref _,H,I.kept hk,rfl,q0 hr0⟩
 .obtain⟨m,ep⟩:=hp
  exact⟨.ref p,_,I.laid (t':=tk) hk hp' (show K2 X.prog X.w _ h' _ (.lst _)from⟨hb,_,m,hv,ep⟩),rfl,q p (I.hok.fresh hp')⟩
noncomputable def Xc:B4->Option (List B4)
 |[]=>O []
 |.list xs::r=>(Xc r).map (xs :: ·)
 |_=>B0
theorem Nz{K:Frag}{G:Hp}:∀{vs:List V}{ds:B4}{ls:List B4},Reps K G vs ds->Xc ds=O ls ->
  ∃rs:List (JX×List V),vs=(rs.map λp=>V.ref p.1)/\(∀p∈rs,SqL K G p.1 p.2)/\Reps K G (rs.map (·.2)).flatten ls.flatten/\rs.length=ls.length
 |_,_,ls,.nil,e=>by cases e;exact⟨[],rfl,(λ_ h=>by cases h),.nil,rfl⟩
 |_,_,ls,.cons (d:=d) r t,e=>by
  cases d with
  |list xs=>
   unfold Xc at e;cases z:Xc _ with
   |none=>rw[z]at e;cases e
   |some cs=>
    rw[z]at e;cases e;obtain⟨rs,rfl,h1,h2,h3⟩:=Nz t z;obtain⟨a,ws,rfl,h,rr⟩:=r.lst_inv;refine⟨(a,ws)::rs,rfl,λp hp=>?_,?_,JQ (· + 1) h3⟩
    .rcases QM.1 hp with rfl|hp
     .exact h
     .exact h1 p hp
    .rw[Qu,QN,QN]
     exact rr.append h2
  |_=>cases e
theorem Bh(ls:List B4):Xc (ls.map J9)=O ls:=by
 induction ls with
 |nil=>rfl
 |cons b r ih=>rw[Qu,Xc,ih];rfl
noncomputable def XZ:B4->B9
 |[.list ds,.list []]=>(match Xc ds with
  |some ls=>if ls.flatten.length<=1000000 then O (.list ls.flatten)else B0
  |none=>B0)
 |_=>B0
theorem DU{xs:B4}{d:D}(h:XZ xs=O d):∃ds ls,xs=[.list ds,.list []]/\Xc ds=O ls/\ls.flatten.length<=1000000/\d=.list ls.flatten:=by
 unfold XZ at h;split at h
 .rename_i ds
  cases z:Xc ds with
  |none=>rw[z]at h;cases h
  |some ls=>
   rw[z]at h;dsimp only at h;split at h
   .rename_i c
    cases h;exact⟨ds,ls,rfl,z,c,rfl⟩
   .cases h
 .cases h
theorem EG{ls:List B4}(h:ls.flatten.length<=1000000):XZ [.list (ls.map .list),.list []]=O (.list ls.flatten):=by unfold XZ;simp only[Bh,Qr h]
theorem Hb(hc:X.calm=B2):Xa X (.builtin "sum") XZ:=by
 refine⟨_,DV hc,λvs G H ds d Q s r e k=>?_⟩;obtain⟨ds,ls,rfl,z,c,rfl⟩:=DU e;obtain⟨v,v',rfl,q1,q2⟩:=r.two_inv;obtain⟨l,ws,rfl,h1,r1⟩:=q1.lst_inv;obtain⟨a,ws2,rfl,h2,r2⟩:=q2.lst_inv;have:=r2.nil_inv;subst this;obtain⟨rs,rfl,g1,g2,g3⟩:=Nz r1 z;refine⟨l,a,rs,rfl,s.seq h1,λp hp=>s.seq (g1 p hp),s.seq h2,?_,λe0=>?_,λp hp=>?_⟩
 .rw[g2.length];exact Qq c lim
 .subst e0
  have:ls=[]:=List.eq_nil_of_length_eq_zero g3.symm;subst this;exact k _ G H (.refl s) (.lst h2 .nil)
 .exact k _ _ _ (.new s hp) (.lst (SqL.of UW) (g2.mono (KB (s.free hp))))
end
@[simp] theorem mBind_ok{α β:Type}{f:M α}{k:α->M β}{ρ ρ':Um}{x:α}(h:f ρ=.ok x ρ'):UD f k ρ=k x ρ':=by unfold UD;rw[h]
theorem O4{s:D->Um->Ab}{g:SM}{P:Nat->Um->Prop}{R:Out->Prop}:∀(ds:B4)(n:Nat)(ρ:Um),P n ρ ->
  (∀i d ρ,ds[i]?=O d->P (n+i) ρ->∃ρ1,s d ρ=O ρ1/\((∃ρ2,(g ρ1=.nx ρ2∨g ρ1=.ct ρ2)/\P (n+i+1) ρ2)∨(∃x,g ρ1=.rt x/\R (.rt x))∨(∃ρ2,g ρ1=.bk ρ2/\R (.nx ρ2))∨(∃ρ2 x,g ρ1=.ex ρ2 x/\R (.ex ρ2 x)) ∨ ∃x,g ρ1=.ro x/\R (.ro x)))->(∀ρ,P (n+ds.length) ρ->R (.nx ρ))->R (YO s g ds ρ)
 |[],n,ρ,h,_,f=>f ρ h
 |d::r,n,ρ,h,st,f=>by
  obtain⟨ρ1,e1,e2⟩:=st 0 d ρ Z h;rw[YO,e1];dsimp only;rcases e2 with ⟨ρ2,e2,h2⟩|⟨x,e2,h2⟩|⟨ρ2,e2,h2⟩|⟨ρ2,x,e2,h2⟩|⟨x,e2,h2⟩
  .have goal:=O4 (R:=R) r (n+1) ρ2 h2 (λi d' ρ3 q p=>by
    have e:n+1+i=n+(i+1):=by lia
    rw[e]at p⊢;exact st (i+1) d' ρ3 (by simpa using q) p) (λρ3 p=>f ρ3 (by
    have e:n+1+r.length=n+(d::r).length:=by rw[QB];lia
    rw[e]at p;exact p))
   rcases e2 with e2|e2<;>(rw[e2];exact goal)
  .rw[e2];exact h2
  .rw[e2];exact h2
  .rw[e2];exact h2
  .rw[e2];exact h2
theorem V3{lo hi:Int}{i:Nat}{d:D}(h:(KT lo hi)[i]?=O d):d=.int (lo+i)/\(i:Int)<hi-lo:=by have hl:i<(KT lo hi).length:=(Qy.mp h).1;rw[Vs]at hl;unfold KT at h;rw[QO,Qp (by rw[List.length_range];exact hl),List.getElem_range]at h;cases h;exact⟨rfl,by lia⟩
section
variable{α β:Type}{ρ ρ1 ρ2 ρ3 ρ':Um}{f g h:M D}
theorem Uv{a:α}:Up a ρ=.ok a ρ:=rfl
theorem Uy:Uq ρ=.ok [] ρ:=rfl
theorem KS{o:Option α}{a:α}(h:o=O a):UB o ρ=.ok a ρ:=by subst h;rfl
theorem U6{f:M α}{k:α->M β}{x:α}{r:Res β}(h:f ρ=.ok x ρ1)(h2:k x ρ1=r):UD f k ρ=r:=by unfold UD;rw[h];exact h2
theorem Kq{f:M α}{k:α->β}{x:α}(h:f ρ=.ok x ρ1):UA k f ρ=.ok (k x) ρ1:=by unfold UA UD;rw[h];rfl
theorem Uu{i:Nat}{d:D}(h:ρ[i]?=O (O (.pub d))):Uo i ρ=.ok d ρ:=by unfold Uo;rw[h]
theorem Z3{i:Nat}{ds:B4}(h:ρ[i]?=O (O (.own ds)))(h2:ρ.set i (O (.pub (.list ds)))=ρ'):Uo i ρ=.ok (.list ds) ρ':=by unfold Uo;rw[h];subst h2;rfl
theorem UH{op:D->D->Option β}{x y:D}{r:β}(h1:f ρ=.ok x ρ1)(h2:g ρ1=.ok y ρ2)(h3:op x y=O r):Uw op f g ρ=.ok r ρ2:=by unfold Uw;exact U6 h1 (U6 h2 (KS h3))
theorem Ut{g:M B4}{x:D}{xs:B4}(h1:f ρ=.ok x ρ1)(h2:g ρ1=.ok xs ρ2):Ur f g ρ=.ok (x::xs) ρ2:=by unfold Ur;exact U6 h1 (U6 h2 Z)
theorem ZZ{g:M B4}{xs:B4}(h1:g ρ=.ok xs ρ1)(h2:xs.length<=1000000):U1 g ρ=.ok (.tuple xs) ρ1:=by unfold U1;exact U6 h1 (by rw[Qr h2];rfl)
theorem Z4{g:M B4}{xs:B4}(h1:g ρ=.ok xs ρ1)(h2:xs.length<=1000000):U2 g ρ=.ok (.list xs) ρ1:=by unfold U2;exact U6 h1 (by rw[Qr h2];rfl)
theorem VT{g:M B4}{xs:B4}(h1:g ρ=.ok xs ρ1)(h2:xs.length<=1000000):(UD g λxs=>if xs.length<=1000000 then Up xs else λ_=>.bad) ρ=.ok xs ρ1:=
 U6 h1 (by rw[Qr h2];rfl)
theorem UN{i:Nat}{d y r:D}(h:ρ[i]?=O (O (.pub d)))(h1:g ρ=.ok y ρ1)(h2:oIx d y=O r):Ux i g ρ=.ok r ρ1:=by unfold Ux;rw[h];exact U6 h1 (KS h2)
theorem Zh{p:B4->B9}{g:M B4}{xs:B4}{r:D}(h1:g ρ=.ok xs ρ1)(h2:p xs=O r):K1 p g ρ=.ok r ρ1:=by unfold K1;exact U6 h1 (KS h2)
theorem U0{n:Nat}{F:B4->B9}{g:M B4}{xs:B4}{r:D}(h1:g ρ=.ok xs ρ1)(h2:xs.length=n)(h3:F xs=O r):UC n F g ρ=.ok r ρ1:=by unfold UC;exact U6 h1 (by rw[Qr h2];exact KS h3)
theorem VJ{i:Int}(h1:f ρ=.ok (.int i) ρ1):K9 f ρ=.ok (.int (-i)) ρ1:=by unfold K9;exact U6 h1 Z
theorem Ki{i:Nat}{d r:D}(h:ρ[i]?=O (O (.pub d)))(h2:Kc [d]=O r):Ke i ρ=.ok r ρ:=by unfold Ke;rw[h];exact KS h2
theorem GF{i:Nat}{ds:B4}(h:ρ[i]?=O (O (.own ds))):Ke i ρ=.ok (.int ds.length) ρ:=by unfold Ke;rw[h]
theorem TD{g:M B4}{i:Int}{r:B4}(h1:g ρ=.ok [.int i] ρ1)(h2:Vd [.int i]=O r):Wf g ρ=.ok r ρ1:=by unfold Wf;exact U6 h1 (KS h2)
theorem SU{g:M B4}{i j:Int}{r:B4}(h1:g ρ=.ok [.int i,.int j] ρ1)(h2:Vc [.int i,.int j]=O r):Vb g ρ=.ok r ρ1:=by unfold Vb;exact U6 h1 (KS h2)
theorem TC{g:M B4}{xs r:B4}(h1:g ρ=.ok xs ρ1)(h2:VE xs=O r):We g ρ=.ok r ρ1:=by unfold We;exact U6 h1 (KS h2)
theorem Z2{i:Int}(h1:f ρ=.ok (.int i) ρ1):(UD f λx=>UB (Zz x)) ρ=.ok (O i) ρ1:=U6 h1 Z
theorem K0{f:M Bool}{t:Bool}(h1:f ρ=.ok t ρ1):UR f ρ=.ok (!t) ρ1:=Kq h1
theorem Zi{t:Bool}(h1:f ρ=.ok (.bool t) ρ1):Ko f ρ=.ok t ρ1:=by unfold Ko;exact U6 h1 Z
theorem Su{f g:M Bool}{t u:Bool}(h1:f ρ=.ok t ρ)(h2:t=B2->g ρ=.ok u ρ):Zk f g ρ=.ok (t&&u) ρ:=by
 unfold Zk;refine U6 h1 ?_;cases t with
 |true=>rw[Qr Z];exact h2 Z
 |false=>rfl
theorem MZ{f g:M Bool}{t u:Bool}(h1:f ρ=.ok t ρ)(h2:t=B3->g ρ=.ok u ρ):mOr f g ρ=.ok (t || u) ρ:=by
 unfold mOr;refine U6 h1 ?_;cases t with
 |false=>rw[QD (by decide)];exact h2 Z
 |true=>rfl
theorem Yw{t u:Bool}(h1:f ρ=.ok (.bool t) ρ)(h2:t=B2->g ρ=.ok (.bool u) ρ):Yr f g ρ=.ok (.bool (t&&u)) ρ:=by
 unfold Yr;refine U6 h1 ?_;cases t with
 |true=>exact h2 Z
 |false=>rfl
theorem PL{t:Bool}(h1:f ρ=.ok (.bool t) ρ1):W7 f ρ=.ok (.bool (!t)) ρ1:=by unfold W7;exact U6 h1 Z
theorem Vl{p q:D->D->Af}{x y z:D}{t u:Bool}(h1:f ρ=.ok x ρ)(h2:g ρ=.ok y ρ)(h3:p x y=O t)(h4:t=B2->h ρ=.ok z ρ)(h5:t=B2->q y z=O u):Xg p q f g h ρ=.ok (t&&u) ρ:=by
 unfold Xg;refine U6 h1 (U6 h2 (U6 (KS h3) ?_));cases t with
 |true=>rw[Qr Z];exact U6 (h4 Z) (KS (h5 Z))
 |false=>rfl
theorem Zg{i j:Int}:UG (.int i) (.int j)=O (.int (i+j)):=rfl
theorem Ww{x y:B4}(h:x.length+y.length<=1000000):UG (.list x) (.list y)=O (.list (x++y)):=by unfold UG;exact Qr h
theorem GE{i j:Int}:WD (.int i) (.int j)=O (.int (i-j)):=rfl
theorem TX{i j:Int}(h1 : -18446744073709551616<i)(h2:i<18446744073709551616):U5 (.int i) (.int j)=O (.int (i*j)):=by unfold U5 YH;exact Qr (.inl ⟨by lia,by lia⟩)
theorem TW{i j:Int}(h1 : -18446744073709551616<j)(h2:j<18446744073709551616):U5 (.int i) (.int j)=O (.int (i*j)):=by unfold U5 YH;exact Qr (.inr ⟨by lia,by lia⟩)
theorem Bg{x:B4}{k:Int}(h : -1000000<=k/\k<=1000000/\x.length*k.toNat<=1000000):U5 (.list x) (.int k)=O (.list (J8 k.toNat x).flatten):=by unfold U5;exact Qr h
theorem X5{i j:Int}(h:0<j):Ky (.int i) (.int j)=O (.int (i % j)):=by unfold Ky Xy;exact Qr h
theorem EF{i j:Int}(h:0<j)(h2:j<2 ^ 200):Z9 (.int i) (.int j)=O (.int (i / j)):=by unfold Z9 Xz;exact Qr ⟨h,h2⟩
theorem PK{i j:Int}(h:0<j)(h2:j<18446744073709551616):Z9 (.int i) (.int j)=O (.int (i / j)):=EF h (Int.lt_trans h2 (by decide))
theorem GD{i j:Int}(h:0<=j/\j<=1000000/\i.natAbs<2 ^ 64):YE (.int i) (.int j)=O (.int (i ^ j.toNat)):=by unfold YE Xx;exact Qr h
theorem YX{p:Int->Int->Bool}{i j:Int}:oIB p (.int i) (.int j)=O (p i j):=rfl
theorem Z1{i j:Int}:oEq (.int i) (.int j)=O (decide (i=j)):=by unfold oEq;rw[if_pos ⟨rfl,rfl,by simp[Ue]⟩];congr 1
theorem K3{xs:B4}:Kc [.list xs]=O (.int xs.length):=rfl
theorem Rc{xs:B4}:Kc [.tuple xs]=O (.int xs.length):=rfl
theorem PJ{i j:Int}:VF [.int i,.int j]=O (.int (if j > i then j else i)):=rfl
theorem GC{i j:Int}:Tn [.int i,.int j]=O (.int (if j<i then j else i)):=rfl
theorem TV{j:Int}(h1:j<=1000000)(h2 : -1000000<=j):Vd [.int j]=O (KT 0 j):=by unfold Vd;exact Qr ⟨h1,h2⟩
theorem Rb{i j:Int}(h1:j<=1000000)(h2 : -1000000<=j)(h3:i<=1000000)(h4 : -1000000<=i):Vc [.int i,.int j]=O (KT i j):=by unfold Vc;exact Qr ⟨h1,h2,h3,h4⟩
theorem TU{xs:B4}:VE [.list xs]=O (ZT 0 xs):=rfl
theorem Ka{i:Nat}{d:D}(h1:f ρ=.ok d ρ1)(h2:i<ρ1.length)(h3:ρ1.set i (O (.pub d))=ρ'):US i f ρ=.nx ρ':=by unfold US KM sB gN;rw[h1];dsimp only;rw[if_pos h2];subst h3;rfl
theorem Z0{i:Nat}{f:M B4}{ds:B4}(h1:f ρ=.ok ds ρ1)(h2:i<ρ1.length)(h3:ρ1.set i (O (.own ds))=ρ'):KH i f ρ=.nx ρ':=by unfold KH sB;rw[h1];dsimp only;rw[if_pos h2];subst h3;rfl
theorem X1{i:Nat}{d:D}{AS ds:B4}(h0:ρ[i]?=O (O (.own AS)))(h1:f ρ=.ok d ρ1)(h2:ρ1[i]?=O (O (.own ds)))(h3:ds.length<1000000)(h4:ρ1.set i (O (.own (ds++[d])))=ρ'):KN i f ρ=.nx ρ':=by unfold KN sB;rw[h0];dsimp only;rw[h1];dsimp only;rw[h2];dsimp only;rw[if_pos h3];subst h4;rfl
theorem Wt{d:D}{s:D->Um->Ab}(h1:f ρ=.ok d ρ1)(h2:s d ρ1=O ρ'):KM f s ρ=.nx ρ':=by unfold KM sB;rw[h1];dsimp only;rw[h2]
theorem VS{d:D}(h1:f ρ=.ok d ρ1):Wg f ρ=.nx ρ1:=by unfold Wg sB;rw[h1]
theorem UF{i:Nat}{d:D}(h:i<ρ.length)(h2:ρ.set i (O (.pub d))=ρ'):gN i d ρ=O ρ':=by unfold gN;rw[Qr h,h2]
theorem KW:gN0 [] ρ=O ρ:=rfl
theorem U7{s:D->Um->Ab}{t:B4->Um->Ab}{d:D}{r:B4}(h1:s d ρ=O ρ1)(h2:t r ρ1=O ρ'):gNC s t (d::r) ρ=O ρ':=by unfold gNC;dsimp only;rw[h1];exact h2
theorem KU{n:Nat}{t:B4->Um->Ab}{ds:B4}(h1:ds.length=n)(h2:t ds ρ=O ρ'):gT n t (.tuple ds) ρ=O ρ':=by unfold gT;dsimp only;rw[if_pos h1];exact h2
structure Ho(g:SM)(ρ:Um)(Q:Out->Prop):Prop where
 out:Q (g ρ)
noncomputable def MY(h:SM)(Q:Out->Prop):Out->Prop
 |.nx ρ'=>Ho h ρ' Q
 |o=>Q o
structure W6(h:SM)(Q:Out->Prop)(o:Out):Prop where
 out:MY h Q o
variable{Q:Out->Prop}{s t u:SM}
theorem UT(h:Ho s ρ (W6 t Q)):Ho (Us s t) ρ Q:=by
 have h:=h.out.out;constructor;unfold Us;cases e:s ρ with
 |nx o=>rw[e]at h;exact h.out
 |_=>rw[e]at h;exact h
theorem UP(h1:s ρ=.nx ρ1)(h2:Ho t ρ1 Q):Ho (Us s t) ρ Q:=by
 constructor;unfold Us;rw[h1];exact h2.out
theorem Kr{o:Out}(h1:s ρ=o)(h2:Q o):Ho s ρ Q:=by constructor;rw[h1];exact h2
theorem UX(h:Q (.nx ρ)):Ho sNx ρ Q:=⟨h⟩
theorem UV{o:Um}(h:Ho t o Q):W6 t Q (.nx o):=⟨h⟩
theorem KL{d:D}(h:Q (.rt d)):W6 t Q (.rt d):=⟨h⟩
theorem UL{f:M Bool}{b:Bool}(h1:f ρ=.ok b ρ1)(h2:b=B2->Ho s ρ1 Q)(h3:b=B3->Ho t ρ1 Q):Ho (sIf f s t) ρ Q:=by
 constructor;unfold sIf sB;rw[h1];dsimp only
 cases b with
 |true=>rw[Qr Z];exact(h2 Z).out
 |false=>rw[QD (by decide)];exact(h3 Z).out
theorem U4{d:D}(h1:f ρ=.ok d ρ1)(h2:Q (.rt d)):Ho (Uz f) ρ Q:=by constructor;unfold Uz sB;rw[h1];exact h2
theorem Vi{P:Out->Prop}(h:Ho s ρ P)(k:∀o,P o->Q o):Ho s ρ Q:=⟨k _ h.out⟩
noncomputable def MX(I:Um->Prop)(Q:Out->Prop):Out->Prop
 |.nx ρ | .ct ρ=>I ρ
 |.bk ρ=>Q (.nx ρ)
 |.rt d=>Q (.rt d)
 |.ex ρ d=>Q (.ex ρ d)
 |.ro ds=>Q (.ro ds)
 |.bad=>False
structure Vt(I:Um->Prop)(Q:Out->Prop)(o:Out):Prop where
 out:MX I Q o
theorem ZX{I:Um->Prop}(h:I ρ):Vt I Q (.nx ρ):=⟨h⟩
theorem Yu{ρ:Um}{d:D}(h:Q (.ex ρ d)):W6 t Q (.ex ρ d):=⟨h⟩
theorem YW{f:M B4}{tg:D->Um->Ab}{ds:B4}(I:Nat->Um->Prop)(h1:f ρ=.ok ds ρ1)(h0:I 0 ρ1)
  (hst:∀i d ρ,ds[i]?=O d->I i ρ->∃ρ2,tg d ρ=O ρ2/\Ho s ρ2 (Vt (I (i+1)) Q)) (hend:∀ρ,I ds.length ρ->Q (.nx ρ)):Ho (Kf f tg s) ρ Q:=by
 constructor;unfold Kf sB;rw[h1];dsimp only
 refine O4 (P:=I) (R:=Q) ds 0 ρ1 h0 (λi d ρ e p=>?_) (λρ p=>hend ρ (by rw[Nat.zero_add]at p;exact p));rw[Nat.zero_add]at p;obtain⟨ρ2,e2,q⟩:=hst i d ρ e p;refine⟨ρ2,e2,?_⟩;rw[Nat.zero_add];have q:=q.out.out;cases z:s ρ2 with
 |nx o=>rw[z]at q;exact .inl ⟨o,.inl Z,q⟩
 |ct o=>rw[z]at q;exact .inl ⟨o,.inr Z,q⟩
 |rt o=>rw[z]at q;exact .inr (.inl ⟨o,rfl,q⟩)
 |bk o=>rw[z]at q;exact .inr (.inr (.inl ⟨o,rfl,q⟩))
 |ex o x=>rw[z]at q;exact .inr (.inr (.inr (.inl ⟨o,x,rfl,q⟩)))
 |ro o=>rw[z]at q;exact .inr (.inr (.inr (.inr ⟨o,rfl,q⟩)))
 |bad=>rw[z]at q;exact q.elim
theorem VI{N:List Str}{ds:B4}{P:D->Prop}(h0:KQ N ds=ρ)(h:Ho s ρ λo=>∃d,o=.rt d/\P d):∃d,UY N s ds=O d/\P d:=by subst h0;obtain⟨d,e,p⟩:=h.out;refine⟨d,?_,p⟩;unfold UY;rw[e]
theorem Zc{N:List Str}{ds:B4}{d:D}(h0:KQ N ds=ρ)(h:Ho s ρ λo=>o=.rt d):UY N s ds=O d:=by obtain⟨d',e,p⟩:=VI (P:=λx=>x=d) h0 (Vi h λo e=>⟨d,e,rfl⟩);rw[e,p]
end
section
variable{α β:Type}{ρ ρ1 ρ2 ρ3 ρ':Um}{f g h:M D}
theorem YV{l u:M Ac}{x r:D}{a b:Ac}(h1:f ρ=.ok x ρ1)(h2:l ρ1=.ok a ρ2)(h3:u ρ2=.ok b ρ3)(h4:ZJ x a b=O r):KE f l u ρ=.ok r ρ3:=by unfold KE;exact U6 h1 (U6 h2 (U6 h3 (KS h4)))
theorem YU{f g:M Bool}(h1:f ρ=.ok B2 ρ1):mOr f g ρ=.ok B2 ρ1:=by unfold mOr;exact U6 h1 Z
theorem Zb{f g:M Bool}{u:Bool}(h1:f ρ=.ok B3 ρ1)(h2:g ρ1=.ok u ρ2):mOr f g ρ=.ok u ρ2:=by unfold mOr;exact U6 h1 (by rw[QD (by decide)];exact h2)
theorem P1{f g:M Bool}(h1:f ρ=.ok B3 ρ1):Zk f g ρ=.ok B3 ρ1:=by unfold Zk;exact U6 h1 Z
theorem KP{c:String}{d:D}{t:Bool}(h:f ρ=.ok d ρ1)(ht:(!UU d c)=t):UR (Ko (UA (λd=>.bool (UU d c)) f)) ρ=.ok t ρ1:=by subst ht;exact K0 (Zi (Kq (k:=λd=>Ua (UU d c)) h))
theorem Zp{x:D}{r:B4}(h1:f ρ=.ok x ρ1)(h2:SV x=O r):Kt f ρ=.ok r ρ1:=by unfold Kt;exact U6 h1 (KS h2)
theorem Yv{p:D->D->Option β}{i:Nat}{d y:D}{r:β}(h:ρ[i]?=O (O (.pub d)))(h1:g ρ=.ok y ρ1)(h2:p d y=O r):Kh p i g ρ=.ok r ρ1:=by unfold Kh;rw[h];exact U6 h1 (KS h2)
theorem Ov{p:D->D->Option β}{i:Nat}{ds es:B4}{y:D}{r:β}(h:ρ[i]?=O (O (.own ds)))(h1:g ρ=.ok y ρ1)(h3:ρ1[i]?=O (O (.own es)))(h2:p (.list es) y=O r):Kh p i g ρ=.ok r ρ1:=by unfold Kh;rw[h];exact U6 h1 (by rw[h3];exact KS h2)
theorem YB{f:M B4}{k:Nat}{s:D->Um->Ab}{t:M Bool}{ds es:B4}(h1:f ρ=.ok ds ρ1)(h2:KJ s t g ds (UQ ρ1++J8 k B0) []=O es):Zq f k s t g ρ=.ok es ρ1:=by unfold Zq;rw[h1];dsimp only;rw[h2]
theorem Wa{s:D->Um->Ab}{t:M Bool}(p:D->Bool)(q:D->D)(I:Um->Prop):∀(ds:B4)(ρ:Um)(es:B4),(∀d∈ds,∀ρ,I ρ->∃ρ1,s d ρ=O ρ1/\t ρ1=.ok (p d) ρ1/\(p d=B2->g ρ1=.ok (q d) ρ1)/\I (UQ ρ1))->I ρ->es.length+ds.length<=1000000 ->
  KJ s t g ds ρ es=O (es++(ds.filter p).map q)
 |[],ρ,es,_,_,_=>by rw[KJ];simp
 |d::r,ρ,es,st,h0,hz=>by
  obtain⟨ρ1,e1,e2,e3,h1⟩:=st d Qk ρ h0;have ih:=λes' hz'=>Wa p q I r (UQ ρ1) es' (λd' hd=>st d' (Qj _ hd)) h1 hz';rw[QB]at hz;rw[KJ,e1];dsimp only;rw[e2];dsimp only
  cases hp:p d with
  |true=>rw[Qr Z,e3 hp];dsimp only;rw[Qr (by lia),ih _ (by rw[Qo,QK];lia),List.filter_cons_of_pos hp,Qu,Jf];rfl
  |false=>rw[QD (by decide),ih _ (by lia),List.filter_cons_of_neg (by rw[hp];decide)]
theorem P0{j:Nat}{d:D}{k:Int}{AS ds:B4}(h1:f ρ=.ok d ρ1)(h0:ρ1[j]?=O (O (.own AS)))(h2:g ρ1=.ok (.int k) ρ2)(h3:ρ2[j]?=O (O (.own ds)))(h4:0<=k/\k<ds.length)(h5:ρ2.set j (O (.own (ds.set k.toNat d)))=ρ'):Vv j g f ρ=.nx ρ':=by unfold Vv sB;rw[h1];dsimp only;rw[h0];dsimp only;rw[h2];dsimp only;rw[h3];dsimp only;rw[if_pos h4];subst h5;rfl
theorem TR{xs:B4}{a b:Ac}:ZJ (.list xs) a b=O (.list (DL.cutD xs a b)):=rfl
theorem SS{xs:B4}:SV (.list xs)=O xs:=rfl
theorem By(bs:List Bool):X7 (bs.map Ua)=O bs:=by
 induction bs with
 |nil=>rfl
 |cons b r ih=>rw[Qu,X7,ih];rfl
theorem SR{bs:List Bool}:KO [.list (bs.map Ua)]=O (.bool (bs.all id)):=by unfold KO;dsimp only;rw[By];rfl
end
section
variable{α β:Type}{ρ ρ1 ρ2 ρ3 ρ4 ρ':Um}{f g h:M D}{s:SM}
theorem Pj{l u t:M Ac}{xs:B4}(h1:f ρ=.ok (.list xs) ρ1)(h2:l ρ1=.ok B0 ρ2)(h3:u ρ2=.ok B0 ρ3)(h4:t ρ3=.ok (O (-1)) ρ4):Yc f l u t ρ=.ok (.list xs.reverse) ρ4:=by unfold Yc;exact U6 h1 (U6 h2 (U6 h3 (U6 h4 (KS (by unfold Xq;exact Qr Z)))))
theorem EE{i:Nat}{d:D}{ds:B4}(h:ρ[i]?=O (O (.pub d)))(h2:Yp [d]=O ds):X2 i ρ=.ok ds ρ:=by unfold X2;rw[h];exact KS h2
theorem Sx{N:List Str}{ds:B4}(h0:KQ N ds=ρ)(h:Ho s ρ λo=>∃ρ',o=.nx ρ'):UY N s ds=O .none:=by subst h0;obtain⟨ρ',e⟩:=h.out;unfold UY;rw[e]
theorem VR{i j:Int}:oNe (.int i) (.int j)=O (!decide (i=j)):=by unfold oNe;rw[if_pos ⟨rfl,rfl,by simp[Ue]⟩];congr 1
theorem ED{xs:B6}{a b:Int}(ha:0<=a)(hb:0<=b)(hl:b<=xs.length):DL.cutD (xs.map int) (O a) (O b)=((xs.drop a.toNat).take (b.toNat-a.toNat)).map int:=by
 unfold DL.cutD HT.sIx;dsimp only;rw[QD (by lia),QD (by lia),Qd,List.map_take,List.map_drop];have e2:min b.toNat xs.length=b.toNat:=by lia
 rw[e2];by_cases hab:a.toNat<=xs.length
 .have e1:min a.toNat xs.length=a.toNat:=by lia
  rw[e1]
 .have e3:b.toNat-a.toNat=0:=by lia
  have e4:b.toNat-min a.toNat xs.length=0:=by lia
  rw[e3,e4,List.take_zero,List.take_zero]
end
section
variable{X:Cx}{B G0:Hp}{KX:XW}{e o a b c tg i:JZ}{pos p2:Pos}{es rest:B8}
noncomputable def Wp(ρ:Um)(j:Nat):Option B4:=match ρ[j]? with
 |some (O (.own ds))=>O ds
 |_=>B0
theorem Rj{ρ:Um}{j:Nat}{ds:B4}(h:Wp ρ j=O ds):ρ[j]?=O (O (.own ds)):=by
 unfold Wp at h;split at h
 .rename_i es e;cases h;exact e
 .cases h
end
end DL
namespace DL
open PySem PySem.Spec PySem.W PyProof.Rows
end DL
namespace DL
open PySem PySem.Spec L2
open PyProof.Rows hiding St
section
variable{X:Cx}
theorem CJ:bootBuiltins "repr" = O (.builtin "repr"):=by decide +kernel
end
noncomputable def VH(ρ:Um)(j:Nat):B9:=match ρ[j]? with
 |some (O (.pub d))=>O d
 |some (O (.own ds))=>O (.list ds)
 |some (O (.deep _ d))=>O d
 |_=>B0
theorem EOk.tree{K:Frag}{B G0 G H:Hp}{σ:St}{ρ:Um}{j:Nat}{d:D}(k:EOk K B G0 G H σ ρ)(h:VH ρ j=O d):∃v,σ[j]?=O (O v)/\Rep K H v d:=by
 unfold VH at h;split at h
 .rename_i d' e
  cases h;obtain⟨v,h1,h2⟩:=k.pub j _ e;exact⟨v,h1,h2.mono k.gh⟩
 .rename_i ds e
  cases h;obtain⟨a,vs,h1,h2,h3,h4,h5⟩:=k.own j ds e;exact⟨.ref a,h1,.lst (SqL.of h4) (h5.mono k.gh)⟩
 .rename_i p d' e
  cases h;obtain⟨ω,k1,k2⟩:=k.dp;obtain⟨v,fp,s,r,_⟩:=k1 j p _ e;exact⟨v,s,r.rep k.gh⟩
 .cases h
end DL
namespace HT
open PySem PyProof.Rows
end HT
namespace DL
open PySem PySem.Spec L2
open PyProof.Rows hiding St
end DL
namespace DL
open PySem
theorem lz0{P:B5->Prop}{us:B5}(hl:us.length=0)(h:P []):P us:=by
 cases us with
 |nil=>exact h
 |cons a r=>cases hl
theorem lzS{P:B5->Prop}{us:B5}{n:Nat}(hl:us.length=n+1)(h:∀a r,r.length=n->P (a::r)):P us:=by
 cases us with
 |nil=>cases hl
 |cons a r=>exact h a r (Nat.succ.inj hl)
theorem lz1{P:B5->Prop}{us:B5}(hl:us.length=1)(h:∀a,P [a]):P us:=lzS hl λa r e=>lz0 (P:=λr=>P (a::r)) e (h a)
theorem lz2{P:B5->Prop}{us:B5}(hl:us.length=2)(h:∀a b,P [a,b]):P us:=lzS hl λa r e=>lz1 (P:=λr=>P (a::r)) e (h a)
theorem lz3{P:B5->Prop}{us:B5}(hl:us.length=3)(h:∀a b c,P [a,b,c]):P us:=lzS hl λa r e=>lz2 (P:=λr=>P (a::r)) e (h a)
theorem lz4{P:B5->Prop}{us:B5}(hl:us.length=4)(h:∀a b c d,P [a,b,c,d]):P us:=lzS hl λa r e=>lz3 (P:=λr=>P (a::r)) e (h a)
theorem lz5{P:B5->Prop}{us:B5}(hl:us.length=5)(h:∀a b c d e,P [a,b,c,d,e]):P us:=lzS hl λa r e=>lz4 (P:=λr=>P (a::r)) e (h a)
theorem bz1{fd:JY}{ps:List Str}{us:B5}(hl:us.length=1)(h:∀a,bindArgs fd {pos:=[a]}=pure (ps.zip [a])):bindArgs fd {pos:=us}=pure (ps.zip us):=lz1 (P:=λus=>bindArgs fd {pos:=us}=pure (ps.zip us)) hl h
theorem bz2{fd:JY}{ps:List Str}{us:B5}(hl:us.length=2)(h:∀a b,bindArgs fd {pos:=[a,b]}=pure (ps.zip [a,b])):bindArgs fd {pos:=us}=pure (ps.zip us):=lz2 (P:=λus=>bindArgs fd {pos:=us}=pure (ps.zip us)) hl h
theorem bz3{fd:JY}{ps:List Str}{us:B5}(hl:us.length=3)(h:∀a b c,bindArgs fd {pos:=[a,b,c]}=pure (ps.zip [a,b,c])):bindArgs fd {pos:=us}=pure (ps.zip us):=lz3 (P:=λus=>bindArgs fd {pos:=us}=pure (ps.zip us)) hl h
theorem bz5{fd:JY}{ps:List Str}{us:B5}(hl:us.length=5)(h:∀a b c d e,bindArgs fd {pos:=[a,b,c,d,e]}=pure (ps.zip [a,b,c,d,e])):bindArgs fd {pos:=us}=pure (ps.zip us):=lz5 (P:=λus=>bindArgs fd {pos:=us}=pure (ps.zip us)) hl h
end DL
namespace DL
open PySem PySem.Spec L2
open PyProof.Rows hiding St
noncomputable def whole(h:Heap):Frag:=(J7 h.objs.size).filterMap λa=>(h.get? a).map λo=>(a,o)
theorem O3{g:JX->Option Obj}{x:JX}:∀l:Aa,(l.filterMap λa=>(g a).map λo=>(a,o)).lookup x=if x∈l then g x else B0
 |[]=>rfl
 |y::l=>by
  have ih:=O3 (g:=g) (x:=x) l;by_cases e:x=y
  .subst e
   rw[Qr Qk];cases z:g x with
   |none=>rw[List.filterMap_cons_none (by rw[z];rfl),ih,z];split<;>rfl
   |some o=>rw[List.filterMap_cons_some (by rw[z];rfl),QW,beq_self_eq_true]
  .have m:(x∈y::l)=(x∈l):=by simp[List.mem_cons,e]
   have b:(x==y)=B3:=by simpa using e
   have ih':(if x∈y::l then g x else B0)=_:=(by simp only[m];exact ih.symm)
   rw[ih'];cases z:g y with
   |none=>rw[List.filterMap_cons_none (by rw[z];rfl)]
   |some o=>rw[List.filterMap_cons_some (by rw[z];rfl),QW,b]
theorem Zj{h:Heap}{a:JX}:(whole h).lookup a=h.get? a:=by
 unfold whole;rw[O3];split
 .rfl
 .rename_i n
  cases z:h.get? a with
  |none=>rfl
  |some o=>exact absurd (Jz.mpr (Qf z)) n
theorem EC(h:Heap):(whole h).In h:=λa o e=>by rw[Zj]at e;exact e
noncomputable def MW(st:Stmt):Option DefRec:=match st with
 |.FunctionDef name a b _ _ _ sc _ _ pos=>O ⟨name,a,b,sc,pos⟩
 |_=>B0
noncomputable def VN(st:Stmt):Option Str:=match st with
 |.FunctionDef name _ _ _ _ _ _ _ _ _=>O name
 |_=>B0
noncomputable def MV(st:Stmt):Pos:=match st with
 |.FunctionDef _ _ _ _ _ _ _ _ _ pos=>pos
 |_=>⟨0,0,0,0⟩
noncomputable abbrev UM(p:JW)(i:Nat):Stmt:=p.main.body.getD i (.Pass ⟨0,0,0,0⟩)
noncomputable def Ws(p:JW)(ix:Ad):List DefRec:=ix.filterMap λi=>MW (UM p i)
section
variable{p q:JW}{loose:List Str}{mean:ExcName->B7}{mg mb:Str->B7}{h:Heap}{w:World}
theorem Tp{ix:Ad}(T:Top q loose mean mg mb h)(e:recsOf q=Ws p ix)(i:Nat)(x:Str)(hi:ix.contains i=B2)(hn:VN (UM p i)=O x):∃f fd,mg x=O (.ref f)/\Fun (whole h) x x (UM p i) f fd:=by
 cases hs:UM p i with
 |FunctionDef name a b _ _ _ sc _ _ pos=>
  rw[hs]at hn;cases hn;have hd:(⟨x,a,b,sc,pos⟩:DefRec)∈recsOf q:=by rw[e];exact List.mem_filterMap.mpr ⟨i,by simpa using hi,by rw[hs];rfl⟩
  obtain⟨f,⟨oc,od,dt,osl⟩,pm,cd,doc,h1,h2,h3,h4⟩:=T.fn _ hd;have h3:dt=_:=h3;subst h3;refine⟨f,_,h1,⟨⟨oc,od,.none,doc,pm,_,cd,_,osl,rfl,by rw[Zj];exact h2,?_⟩,?_⟩⟩
  .obtain⟨c,⟨_,_,dc,_⟩,vs,t,rfl,g1,g2,g3⟩:=h4
   have g2:dc=_:=g2;subst g2;unfold PySem.W.codeIn;dsimp only;rw[Zj,g1];dsimp only;have g4:vs.toList[1]?=O (.str x t):=by rw[Array.getElem?_toList];exact g3
   cases hv:vs.toList with
   |nil=>rw[hv]at g4;cases g4
   |cons v0 r=>
    rw[hv]at g4;cases r with
    |nil=>cases g4
    |cons v1 r=>cases g4;exact beq_self_eq_true _
  .unfold PySem.W.keepIn
   dsimp only;rw[Zj,h2]
 |_=>rw[hs]at hn;cases hn
theorem Cn{K:Frag}{x qual y:Str}{st:Stmt}{f:JX}{fd:JY}(F:Fun K x qual st f fd)
  (hb:∀(kV doc pm:JU)(an:Ae)(cdv ct v:JU),bindArgs (PySem.W.fnOf x qual (Yt st) (K5 st) (Kb st) .none kV doc pm an cdv ct) ⟨[v],[]⟩=pure [(y,v)]) (s:JV) (v:JU):BindsTo s fd ⟨[v],[]⟩ [(y,v)]:=by
 obtain⟨oc,od,kV,doc,pm,an,cdv,ct,osl,rfl,lk,hcd⟩:=F.ex;exact .of_eq (hb kV doc pm an cdv ct v)
noncomputable def Ta(q:JW)(loose:List Str)(x:Str):Bool:=
 !startupNames.contains x && !loose.contains x && !((recsOf q).map (·.name)).contains x && !((litsOf q).map (·.1)).contains x && !((clssOf q loose).map (·.name)).contains x
theorem Zs(T:Top q loose mean mg mb h){xs:List Str}(e:xs.all (Ta q loose)=B2){x:Str}(hx:x∈xs):mg x=B0:=by have:=QS.mp e x hx;unfold Ta at this;simp only[Qn,Bool.not_eq_true',List.contains_eq_mem,decide_eq_false_iff_not]at this;exact T.free x this.1.1.1.1 this.1.1.1.2 this.1.1.2 this.1.2 this.2
theorem TM(T:Top q loose mean mg mb h){x:Str}{i:Int}(e:valOf q x=O (.int i)):∃t,mg x=O (.int i t):=by obtain⟨v,h1,h2⟩:=T.const x _ e;have:=h2 h;cases this;exact⟨_,h1⟩
end
noncomputable def scOk(sc:Scope)(N gl:List Str):Bool:=(N.all λx=>match sc.names.lookup x with|some .local=>B2|some .cell=>B2|_=>B3)&&gl.all λx=>match sc.names.lookup x with|some .globalImplicit=>B2|_=>B3
noncomputable def fnB(sc:Scope)(N gl:List Str):Bool:=decide (sc.kind=.function) && !sc.isCoroutine && !sc.isGenerator&&decide N.Nodup&&(sc.names.all λy=>match y.2 with | .free=>B3|_=>B2)&&scOk sc N gl
structure FnNm(sc:Scope)(N gl:List Str):Prop where
 kind:sc.kind=.function
 co:sc.isCoroutine=B3
 gen:sc.isGenerator=B3
 nd:N.Nodup
 nofree:∀y∈sc.names,y.2≠.free
 nm:∀x∈N,sc.names.lookup x=O .local∨sc.names.lookup x=O .cell
 gl:∀x∈gl,sc.names.lookup x=O .globalImplicit
theorem Ks{sc:Scope}{N gl:List Str}(H:fnB sc N gl=B2):FnNm sc N gl:=by
 unfold fnB scOk at H;simp only[Qn,QY,Bool.not_eq_true',QS]at H;obtain⟨⟨⟨⟨⟨h1,h2⟩,h3⟩,h4⟩,h5⟩,h6,h7⟩:=H;refine⟨h1,h2,h3,h4,λy hy e=>?_,λx hx=>?_,λx hx=>?_⟩
 .have:=h5 y hy;rw[e]at this;cases this
 .have:=h6 x hx
  split at this
  .rename_i e;exact .inl e
  .rename_i e;exact .inr e
  .cases this
 .have:=h7 x hx
  split at this
  .rename_i e;exact e
  .cases this
section
variable{sc:Scope}{N gl:List Str}{x:Str}
theorem nq(H:FnNm sc N gl):N.Nodup:=H.nd
theorem fq(H:FnNm sc N gl)(n:Nat):Xj N (N.take n) sc:=⟨H.kind,H.co,H.gen,H.nd,by rw[JN,List.take_eq_take_iff];lia,λx hx=>H.nm x (List.mem_of_mem_take hx),H.nofree⟩
theorem lq(H:FnNm sc N gl)(i:Nat)(h:N[i]?=O x:=by rfl):L2.Loc sc x:=H.nm x (Q3 h)
theorem gq(H:FnNm sc N gl)(i:Nat)(h:gl[i]?=O x:=by rfl):sc.names.lookup x=O .globalImplicit:=H.gl x (Q3 h)
theorem pq{X:Cx}{pos:Pos}(H:FnNm X.env.scope X.N gl)(i:Nat)(h:X.N[i]?=O x:=by rfl)(hd:(x==("__debug__" : Str))=B3:=by decide)(hc:(x==("__classdict__" : Str))=B3:=by decide):PE X (.Name x pos) (UZ i):=
 Pu h ((H.nm x (Q3 h)).elim .inl λz=>.inr (.inl z)) hd hc
end
theorem K4{q p:JW}{loose:List Str}{mean:ExcName->B7}{mg mb:Str->B7}{h:Heap}{ix:Ad}(P:JW)(w:World)(base:Heap){ps:List Str}{k n:Nat}{F:B4->B9}(T:Top q loose mean mg mb h)(e:recsOf q=Ws p ix)(i:Nat)(x:Str)(hi:ix.contains i=B2)(hn:VN (UM p i)=O x)
  (ok:∀{f:JX}{fd:JY},Fun (whole h) x x (UM p i) f fd->FnOk P w (whole h) mg base CX0 k f fd ps (spD (whole h) n F))
  (hb:∀(kV doc pm:JU)(an:Ae)(cdv ct:JU)(us:B5),us.length=ps.length->bindArgs (PySem.W.fnOf x x (Yt (UM p i)) (K5 (UM p i)) (Kb (UM p i)) .none kV doc pm an cdv ct) ⟨us,[]⟩=pure (ps.zip us)):Def P w (whole h) mg base x k n F:=by
 obtain⟨f,fd,m,FU⟩:=Tp T e i x hi hn;exact Def.mk m FU (FU.binds hb) (ok FU)
section
variable{X:Cx}{B G0:Hp}{e:JZ}{pos:Pos}{es:B8}
theorem pdf{k kk n:Nat}{F:B4->B9}{g:M B4}{x:Str}{p2:Pos}(d:Def X.prog X.w X.K X.mg X.base x k n F)(hr:Room kk X.A)(hg:Gl X x)(ha:PA X (e::es) (tDs X.K B G0 g))(hk:k<=kk:=by decide)(hn:(e::es).length=n:=by rfl)
  (hdb:(x==("__debug__" : Str))=B3:=by decide) (he:J5 (e::es) X.env=(B3,eval e X.env)::J5 es X.env:=by rfl) (hpl:(backTo pos (J5 es X.env)).any (·.1)=B3:=by rfl) :
  PE X (.Call (.Name x p2) (e::es) [] pos) (tD X.K B G0 (UC n F g)):=GP d (hr.mono hk) hg ha hn hdb he hpl
end
theorem MU{q p:JW}{loose:List Str}{mean:ExcName->B7}{mg mb:Str->B7}{h:Heap}{ix:Ad}{P:JW}{w:World}{k:Nat}{F:B4->B9}{y:Str}{fa:JX}(T:Top q loose mean mg mb h)(e:recsOf q=Ws p ix)(i:Nat)(x:Str)(hi:ix.contains i=B2)(hn:VN (UM p i)=O x)(hfa:mg x=O (.ref fa))
  (hb:∀(kV doc pm:JU)(an:Ae)(cdv ct v:JU),bindArgs (PySem.W.fnOf x x (Yt (UM p i)) (K5 (UM p i)) (Kb (UM p i)) .none kV doc pm an cdv ct) ⟨[v],[]⟩=pure [(y,v)])
  (ok:∀(base:Heap){f:JX}{fd:JY},Fun (whole h) x x (UM p i) f fd->FnOk P w (whole h) mg base CX0 k f fd [y] (spD (whole h) 1 F)) :
  ∃fd:JY,(∀(s:JV)(v:JU),BindsTo s fd ⟨[v],[]⟩ [(y,v)])/\∀base:Heap,FnOk P w (whole h) mg base CX0 k fa fd [y] (spD (whole h) 1 F):=by
 obtain⟨f,fd,m,FU⟩:=Tp T e i x hi hn;cases hfa.symm.trans m;exact⟨fd,Cn FU hb,λbase=>ok base FU⟩
noncomputable def Y9:D->Bool
 |.str x=>decide (x.length<=1000)
 |.int i=>decide (0<=i)&&decide (i<10 ^ 10)
 |.none=>B2
 |_=>B3
noncomputable def Y8(nm:Str)(ds:B4):Option B4:=match KR nm with
 |[]=>(match ds with | [.str _]=>O [] | _=>B0)
 |f::fs=>if ds.length=(f::fs).length/\ds.all Y9=B2 then O ds else B0
noncomputable abbrev exD(nm:Str)(ds:B4):D:=.dict [(.none,.tuple [.str nm,.list ds])]
section
variable{K:Frag}{G H H':Hp}{nm:Str}{C a:JX}{bm:B5}{vs:List V}{ds fs:B4}{dd:Ae}
theorem Ha{v:V}{d:D}(r:Rep K G v d)(h:Y9 d=B2):∃y,FmtV v y/\y.length<=4000:=by
 cases r with
 |non=>exact⟨_,.non,by decide⟩
 |bl b=>cases h
 |int i=>
  unfold Y9 at h;simp only[Qn,QY]at h;have h64:i.natAbs<2 ^ 64:=by have:=h.2;have:=h.1;lia
  refine⟨_,.int i ?_,Qq (toString_length_le h.1 (by decide:0<10) h.2) (by decide)⟩;by_cases z:i.natAbs=0
  .rw[z];decide
  .have:=(Nat.log2_lt z).mpr h64
   lia
 |str x=>unfold Y9 at h;have h:=Qa h;exact⟨x,.str x (Qq h (by decide)),Qq h (by decide)⟩
 |lst _ _=>cases h
 |tup _ _=>cases h
 |dic _=>cases h
 |exc _ _ _ _=>cases h
 |dct _ _ _ _ _=>cases h
 |dtt _ _ _ _=>cases h
theorem PZ:∀{vs:List V}{ds:B4},Reps K G vs ds->ds.all Y9=B2->∀u∈vs,∃y,FmtV u y/\y.length<=4000
 |_,_,.nil,_,u,hu=>by cases hu
 |_,_,.cons r t,h,u,hu=>by
  rw[Ju,Qn]at h;rcases QM.mp hu with rfl|hu
  .exact Ha r h.1
  .exact PZ t h.2 u hu
theorem EB(r:Reps K G vs ds)(e:Y8 nm ds=O fs):R6 nm vs:=by
 unfold Y8 at e;split at e
 .rename_i hf
  split at e
  .obtain⟨v,rfl,q⟩:=r.one_inv
   exact .inl ⟨hf,_,by rw[q.str_inv]⟩
  .cases e
 .rename_i f l hf
  split at e
  .rename_i c
   refine .inr ⟨by rw[hf];simp,by rw[r.length,hf];exact c.1,PZ r c.2⟩
  .cases e
theorem GB(c:ClsK K nm C bm)(s:Same G H)(ha:H a=B0)(r:Reps K G vs ds)(e:Y8 nm ds=O fs)(p:R5 nm C a vs (upd H a (.ext (XO B2 a C B0))) dd H') :
  ∃G',Ext G H G' (upd H' a (.ext (XO B3 a C dd)))/\Rep K G' (.ref a) (exD nm fs)/\H' a=O (.ext (XO B2 a C dd)):=by
 unfold Y8 at e;rcases p with ⟨hf,rfl,rfl⟩|⟨hf,hl,dx,rfl,hd,hne,rfl⟩
 .rw[hf]at e
  dsimp only at e;split at e
  .cases e
   refine⟨upd G a (.ext (XO B3 a C B0)),?_,.exc (vs:=[]) c UW ⟨hf,rfl⟩ .nil,UW⟩;rw[Ob];exact Ext.new s ha
  .cases e
 .split at e
  .rename_i hf';exact absurd hf' hf
  .rename_i f l hf'
   split at e
   .cases e
    have hd':H dx=B0:=by rw[UI hne]at hd;exact hd
    have eH:upd (upd (upd (upd H a (.ext (XO B2 a C B0))) a (.ext (XO B2 a C (O dx)))) dx (.ext (XD dx ((KR nm).zip vs)))) a (.ext (XO B3 a C (O dx)))=upd (upd H a (.ext (XO B3 a C (O dx)))) dx (.ext (XD dx ((KR nm).zip vs))):=by
     funext b;by_cases h1:b=a
     .subst h1;rw[UW,UI (Ne.symm hne),UW]
     .rw[UI h1]
      by_cases h2:b=dx
      .subst h2;rw[UW,UW]
      .rw[UI h2,UI h1,UI h1,UI h2,UI h1]
    have x1:Ext G H (upd G a (.ext (XO B3 a C (O dx)))) (upd H a (.ext (XO B3 a C (O dx)))):=Ext.new s ha;have hd2:upd H a (.ext (XO B3 a C (O dx))) dx=B0:=by rw[UI hne];exact hd'
    have x2:=x1.trans (Ext.new (o:=.ext (XD dx ((KR nm).zip vs))) x1.gh hd2);exact⟨_,by rw[eH];exact x2,.exc (dd:=O dx) (vs:=vs) c (by rw[UI (Ne.symm hne)];exact UW) ⟨hl.symm,UW⟩ (r.mono x2.g),by rw[UI (Ne.symm hne)];exact UW⟩
   .cases e
end
noncomputable def Y2(nm:Str)(g:M B4):SM:=sB g λds ρ=>match Y8 nm ds with|some fs=>.ex ρ (exD nm fs)|none=>.bad
section
variable{X:Cx}{B G0:Hp}{KX:XW}{e a b c:JZ}{pos p2 cpos:Pos}{es:B8}{st:Stmt}{sts:List Stmt}{nm x:Str}{k kk n:Nat}
theorem EA{c:Bool}{g:M B4}(mk:MkX X.prog X.w X.K X.mg X.base nm k)(hr:Room kk X.A)(hc:X.calm=B2)(hw:ZB c X KX)(hg:Gl X nm)(ha:PA X (e::es) (tDs X.K B G0 g))(hk:k+1<=kk:=by decide)
  (hdb:(nm==("__debug__" : Str))=B3:=by decide) (he:J5 (e::es) X.env=(B3,eval e X.env)::J5 es X.env:=by rfl) (hpl:(backTo cpos (J5 es X.env)).any (·.1)=B3:=by rfl) :
  PS X (.Raise (O (.Call (.Name nm p2) (e::es) [] cpos)) B0 pos) (tS X.K B G0 KX (Y2 nm g)):=PS.kin λkin=>by
 obtain⟨C,bm,f,fd,ps,sp,hm,hkp,ck,xc,F,hb,AG⟩:=mk;refine U9 (Dz (KC:=λC'=>C'=C) hc (λC' z=>by subst z;exact⟨bm,f,xc _ _ kin⟩) hw (DA (xc _ _ kin) F (hr.mono hk) hg hm hkp hb ha hdb he hpl)) λDn σ H q=>?_
 refine tS.bnd (R:=Reps X.K) q λvs H1 G1 ρ1 ds k1 r a=>?_
 cases z:Y8 nm ds with
 |none=>rw[z]at a;exact a.elim
 |some fs=>
  rw[z]at a;have ar:=EB r z;refine⟨?_,λad had=>AG ad vs _ _ UW ar λdd H' p=>⟨rfl,?_⟩⟩
  .rcases ar with ⟨_,x,rfl⟩|⟨_,hl,_⟩
   .exact(show 1<=J0 by decide)
   .rw[hl]
    unfold KR;split
    .decide
    .split
     .decide
     .split<;>decide
  .obtain⟨G',ex,rp,hx⟩:=GB ck k1.gh had r z p
   exact⟨ad,C,dd,rfl,rfl,hx,a (.ref ad) σ G' _ (k1.ext ex) ex.g rp⟩
inductive XR where
 |val (d:D)|exc (d:D)
noncomputable def spX(K:Frag)(n:Nat)(F:B4->Option XR):Sp:=λvs H Q E=>∃G ds r,vs.length=n/\Same G H/\Reps K G vs ds/\F ds=O r/\match r with
 |.val d=>∀v G' H',Ext G H G' H'->Rep K G' v d->Q v H'
 |.exc d=>∀ad G' H',Ext G H G' H'->Rep K G' (.ref ad) d->E (.ref ad) B0 H'
def V9(c:Bool)(P:JW)(w:World)(K:Frag)(mg:Str->B7)(base:Heap)(x:Str)(k n:Nat)(F:B4->Option XR):Prop:=
 ∃(f:JX)(fd:JY)(ps:List Str),mg x=O (.ref f)/\PySem.W.keepIn K (.ref f)=B2/\Ze K fd ps []/\FnOk P w K mg base (Za c P w) k f fd ps (spX K n F)
abbrev XX:=V9 B2
def aftX(K:Frag)(B G0:Hp)(KX:XW)(r:Res XR)(G:Hp)(σ:St)(Q:VK):Prop:=match r with
 |.ok (.val d) ρ=>∀v G' H',EOk K B G0 G' H' σ ρ->Same G G'->Rep K G' v d->Q v H'
 |.ok (.exc d) ρ=>∀v G' H',EOk K B G0 G' H' σ ρ->Same G G'->Rep K G' v d->KX v σ H'
 |.bad=>False
noncomputable def tX(K:Frag)(B G0:Hp)(KX:XW)(f:M XR):TE:=λσ H Q=>∃G ρ,EOk K B G0 G H σ ρ/\aftX K B G0 KX (f ρ) G σ Q
noncomputable def YN(n:Nat)(F:B4->Option XR)(g:M B4):M XR:=UD g λxs=>if xs.length=n then UB (F xs)else λ_=>.bad
theorem Ez{c c1:Bool}{F:B4->Option XR}{g:M B4}(d:V9 c1 X.prog X.w X.K X.mg X.base x k n F)(hr:Room kk X.A)(hw:ZB c X KX)(hg:Gl X x)(ha:PA X (e::es) (tDs X.K B G0 g))(hk:k<=kk:=by decide)(hn:(e::es).length=n:=by rfl)(hcc:c=B2->c1=B2:=by decide)
  (hdb:(x==("__debug__" : Str))=B3:=by decide) (he:J5 (e::es) X.env=(B3,eval e X.env)::J5 es X.env:=by rfl) (hpl:(backTo pos (J5 es X.env)).any (·.1)=B3:=by rfl) :
  PE X (.Call (.Name x p2) (e::es) [] pos) (tX X.K B G0 KX (YN n F g)):=by
 obtain⟨f,fd,ps,h1,h2,h3,h4⟩:=d;refine UK (Dy h4 (hr.mono hk) hg h1 h2 h3 hw ha hcc hdb he hpl) λσ H Q ⟨G,ρ,k0,a⟩=>?_
 refine⟨G,ρ,k0,?_⟩;unfold YN UD at a;cases z:g ρ with
 |bad=>rw[z]at a;exact a.elim
 |ok xs ρ1=>
  rw[z]at a;dsimp only at a;intro vs G1 H1 k1 s1 r;by_cases hl:xs.length=n
  .rw[Qr hl]at a
   cases zF:F xs with
   |none=>rw[zF]at a;exact a.elim
   |some rr=>
    rw[zF]at a;refine⟨G1,xs,rr,by rw[r.length];exact hl,k1.gh,r,zF,?_⟩;cases rr with
    |val d=>exact λv G' H' ex rv=>a v G' H' (k1.ext ex) (s1.trans ex.g) rv
    |exc d=>intro ad' G' H' ex rv ad ev;cases ev;exact a _ G' H' (k1.ext ex) (s1.trans ex.g) rv
  .rw[QD hl]at a;exact a.elim
noncomputable def sX(f:M XR)(g:D->SM):SM:=λρ=>match f ρ with
 |.ok (.val d) ρ'=>g d ρ'
 |.ok (.exc d) ρ'=>.ex ρ' d
 |.bad=>.bad
theorem tS.bndX{K:Frag}{f:M XR}{g:D->SM}{Dn:Ends}{σ:St}{H:Hp}{P:V->Hp->Prop}(q:tS K B G0 KX (sX f g) Dn σ H)
  (i:∀v H' G' ρ' x,EOk K B G0 G' H' σ ρ'->Rep K G' v x->aftS K B G0 KX (g x ρ') G' Dn->P v H'):tX K B G0 KX f σ H P:=by
 obtain⟨G,ρ,k,a⟩:=q;refine⟨G,ρ,k,?_⟩;unfold sX at a;cases z:f ρ with
 |bad=>rw[z]at a;exact a.elim
 |ok r ρ1=>
  rw[z]at a;cases r with
  |val d=>exact λv G' H' e s r=>i v H' G' ρ1 d e r (aftS.mono s a)
  |exc d=>exact λv G' H' e s r=>a v σ G' H' e s r
theorem Ey{f:M XR}(h:PE X e (tX X.K B G0 KX f))(hs:swapsWith e B0 pos.line X.env=pure B3:=by rfl):PS X (.Expr e pos) (tS X.K B G0 KX (sX f λ_ ρ=>.nx ρ)):=U9 (Xk h hs) λD σ H q=>tS.bndX q λv H' G' ρ' x k r a=>a σ G' H' k (.refl _)
theorem GA{i:Nat}{y:Str}{f:M XR}(hN:X.N.Nodup)(hi:X.N[i]?=O y)(hx:Loc X.env.scope y)(he:PE X e (tX X.K B G0 KX f))(hs:swapsWith e (O (.Name y p2)) pos.line X.env=pure B3:=by rfl)
  (hf:X.fn y=B2∨X.env.scope.names.lookup y=O .local:=by first|exact .inl rfl|exact .inr rfl|assumption):PS X (.Assign [.Name y p2] e pos) (tS X.K B G0 KX (sX f λd ρ=>match gN i d ρ with|some ρ'=>.nx ρ'|none=>.bad)):=
 U9 (Tu hN hi hx he hs hf) λD σ H q=>tS.bndX q λv H' G' ρ' x k r a=>by
  unfold gN at a;split at a
  .rename_i ρ2 hz
   split at hz
   .rename_i hi2
    cases hz;exact a _ G' H' (k.setPub r hi2) (.refl _)
   .cases hz
  .exact a.elim
noncomputable def Zv(N:List Str)(g:SM)(ds:B4):Option XR:=match g (KQ N ds)with
 |.rt d=>O (.val d)
 |.nx _=>O (.val .none)
 |.ex _ d=>if Wh d=B2 then O (.exc d)else B0
 |_=>B0
noncomputable abbrev kxE(E:XK):XW:=λv _ H=>∃e,v=.ref e/\E (.ref e) B0 H
theorem okX{c:Bool}{P:JW}{w:World}{K:Frag}{mg:Str->B7}{base:Heap}{x qual:Str}{st:Stmt}{f:JX}{fd:JY}{N ps:List Str}{k n:Nat}{g:SM}(F:Fun K x qual st f fd)(S:Xj N ps (Kb st))(hn:ps.length=n)
  (der:∀(cdv:JU)(A:Around)(outer:List Env)(s:JV)(H:Hp)(E:XK)(B G0:Hp),Room k (A.deeper (envOfC qual (Kb st) s.heap.objs.size f cdv)) ->
   PSs (Kl (Za c P w) P w K mg base N qual (Kb st) f cdv A outer s H E) (K5 st) (tS K B G0 (kxE E) g)):FnOk P w K mg base (Za c P w) (k+1) f fd ps (spX K n (Zv N g)):=by
 obtain⟨oc,od,kV,doc,pm,an,cdv,ct,osl,rfl,lk,hcd⟩:=F.ex;refine R3 lk hcd S (λvs H Q E h=>?_) λA outer s H vs Q E hr h=>?_
 .obtain⟨_,_,_,hl,_⟩:=h
  rw[hl,hn]
 .obtain⟨G,ds,r,hl,sg,rp,hF,q⟩:=h
  refine⟨_,der cdv A outer s H E H G hr,G,KQ N ds,Rf sg rp,?_⟩;unfold Zv at hF;cases z:g (KQ N ds)with
  |rt d'=>rw[z]at hF;cases hF;exact λv G' H' ex rr=>q v G' H' ex rr
  |nx ρ=>rw[z]at hF;cases hF;exact λσ' G' H' k' _=>q .non G' H' k'.exit .non
  |ex ρ d=>
   rw[z]at hF;dsimp only at hF;split at hF
   .rename_i hx
    cases hF;intro v σ' G' H' k' _ rv
    obtain⟨ad,rfl⟩:∃ad,v=.ref ad:=by
     cases rv with
     |exc _ _ _ _=>exact⟨_,rfl⟩
     |dct _ _ _ _ _=>exact⟨_,rfl⟩
     |dtt _ _ _ _=>exact⟨_,rfl⟩
     |_=>cases hx
    exact⟨ad,rfl,q ad G' H' k'.exit rv⟩
   .cases hF
  |ro ds=>rw[z]at hF;cases hF
  |bk ρ=>rw[z]at hF;cases hF
  |ct ρ=>rw[z]at hF;cases hF
  |bad=>rw[z]at hF;cases hF
end
section
variable{K:Frag}{B G0 G H:Hp}{σ:St}{ρ:Um}
theorem EOk.unset{i:Nat}(k:EOk K B G0 G H σ ρ):EOk K B G0 G H (σ.set i B0) (ρ.set i B0) where
 bh:=k.bh
 gh:=k.gh
 g0:=k.g0
 np:=k.np
 len:=by rw[QQ,QQ];exact k.len
 pub:=λj d' q=>by
  by_cases z:i=j
  .subst z
   have:=Kp q;cases this
  .rw[Qi z]at q⊢
   exact k.pub j d' q
 own:=λj ds q=>by
  by_cases z:i=j
  .subst z
   have:=Kp q;cases this
  .rw[Qi z]at q⊢
   exact k.own j ds q
 sep:=λj l c es fs q1 q2 s1 s2=>by
  have z1:i≠j:=λz=>by subst z;have:=Kp q1;cases this
  have z2:i≠l:=λz=>by subst z;have:=Kp q2;cases this
  rw[Qi z1]at q1 s1;rw[Qi z2]at q2 s2;exact k.sep j l c es fs q1 q2 s1 s2
 dp:=k.dp.setOther (λs e=>by cases e)
end
def CK(K:Frag)(mg:Str->B7)(x:Str):Prop:=∃D bm,mg x=O (.ref D)/\ClsK K x D bm
noncomputable def YT(x:Str):D->Bool
 |.dict [(.none,.tuple [.str nm,_])]=>decide (x=nm) || decide (x = "DealError")
 |_=>B3
noncomputable def K7(i:Nat)(x:Str)(g h:SM):SM:=λρ=>match g ρ with
 |.ex ρ1 d=>if YT x d=B2/\i<ρ1.length then(match h (ρ1.set i (O (.pub d)))with
  |.nx ρ2=>.nx (ρ2.set i B0)
  |.bk ρ2=>.bk (ρ2.set i B0)
  |.ct ρ2=>.ct (ρ2.set i B0)
  |.rt d2=>.rt d2
  |_=>.bad)else .bad
 |o=>o
noncomputable def Wo(x:Str)(g h:SM):SM:=λρ=>match g ρ with
 |.ex ρ1 d=>if YT x d=B2 then(match h ρ1 with
  |.nx ρ2=>.nx ρ2
  |.bk ρ2=>.bk ρ2
  |.ct ρ2=>.ct ρ2
  |.rt d2=>.rt d2
  |_=>.bad)else .bad
 |o=>o
section
variable{X:Cx}{B G0:Hp}{KX:XW}{e a b c:JZ}{pos p2 cpos np hpos:Pos}{es:B8}{x n:Str}{k kk:Nat}
theorem Ri{K:Frag}{G:Hp}{v:V}{d:D}{D':JX}{bmD:B5}(r:Rep K G v d)(h:YT x d=B2)(cD:ClsK K x D' bmD) :
  ∃a C dd bm,v=.ref a/\KC K C bm/\G a=O (.ext (XO B3 a C dd))/\(Value.ref C::bm).contains (.ref D')=B2:=by
 unfold YT at h;split at h
 .obtain⟨a,C,dd,bm,AM,vs,ds,rfl,e0,c,hx,_,_⟩:=r.exc_inv
  cases e0;exact⟨a,C,dd,bm,rfl,⟨_,c⟩,hx,by rw[c.has cD];exact h⟩
 .cases h
theorem L9{i:Nat}{g h:SM}{body suite:List Stmt}{b₀:Stmt}{st:List Env}(cD:CK X.K X.mg x)(hg:Gl X x)(hN:X.N.Nodup)(hi:X.N[i]?=O n)(hl:X.env.kindOf n=O .local)
  (hb:∀(KX':XW)(W:JU->JV->Prop)(pn:List (JX×Obj)),ZB B3 (X.tried W pn) KX'->PSs (X.tried W pn) body (tS X.K B G0 KX' g)) (hs:∀a,PSs (X.suite a) (b₀::suite) (tS X.K B G0 KX0 h))
  (Am:X.stack=X.env::st:=by rfl) (hfr:X.env.frame=O X.env.locals:=by rfl) (hdb:(x==("__debug__" : Str))=B3:=by decide) :
  PS X (.Try body [.ExceptHandler (O (.Name x np)) (O n) (b₀::suite) hpos] [] [] pos) (tS X.K B G0 KX (K7 i x g h)):=PS.kin λkin=>by
 obtain⟨D',bmD,hm,ck⟩:=cD;obtain⟨fD,xD⟩:=ck.cls (model X.prog X.w) X.base kin;refine U9 (Gv (KC:=KC X.K) (tb:=λKX'=>tS X.K B G0 KX' g) (ts:=tS X.K B G0 KX0 h) Am hfr (Xb kin) xD hg hm hN hi hl hb hs hdb) λDn σ H ⟨G,ρ,k,a⟩=>?_
 refine⟨G,ρ,k,?_⟩;unfold K7 at a;cases z:g ρ with
 |nx ρ1=>rw[z]at a;exact a
 |rt d=>rw[z]at a;exact a
 |ro ds=>rw[z]at a;exact a
 |bk ρ1=>rw[z]at a;exact a
 |ct ρ1=>rw[z]at a;exact a
 |bad=>rw[z]at a;exact a.elim
 |ex ρ1 d=>
  rw[z]at a;dsimp only at a;intro v σ1 G1 H1 k1 s1 r;by_cases hc:YT x d=B2/\i<ρ1.length
  .rw[Qr hc]at a
   obtain⟨ad,C,dd,bm,rfl,kc,hx,hct⟩:=Ri r hc.1 ck;refine⟨ad,C,dd,bm,rfl,kc,k1.gh _ _ hx,hct,G1,_,k1.setPub r hc.2,?_⟩;cases z2:h (ρ1.set i (O (.pub d)))with
   |nx ρ2=>rw[z2]at a;exact λσ2 G2 H2 k2 s2=>a _ G2 H2 k2.unset (s1.trans s2)
   |bk ρ2=>rw[z2]at a;exact λσ2 G2 H2 k2 s2=>a _ G2 H2 k2.unset (s1.trans s2)
   |ct ρ2=>rw[z2]at a;exact λσ2 G2 H2 k2 s2=>a _ G2 H2 k2.unset (s1.trans s2)
   |rt d2=>rw[z2]at a;exact a
   |ex _ _=>rw[z2]at a;exact a.elim
   |ro _=>rw[z2]at a;exact a.elim
   |bad=>rw[z2]at a;exact a.elim
  .rw[QD hc]at a;exact a.elim
theorem Gz{g h:SM}{body suite:List Stmt}{b₀:Stmt}{st:List Env}(cD:CK X.K X.mg x)(hg:Gl X x)
  (hb:∀(KX':XW)(W:JU->JV->Prop)(pn:List (JX×Obj)),ZB B3 (X.tried W pn) KX'->PSs (X.tried W pn) body (tS X.K B G0 KX' g)) (hs:∀a,PSs (X.suite a) (b₀::suite) (tS X.K B G0 KX0 h))
  (Am:X.stack=X.env::st:=by rfl) (hfr:X.env.frame=O X.env.locals:=by rfl) (hdb:(x==("__debug__" : Str))=B3:=by decide) :
  PS X (.Try body [.ExceptHandler (O (.Name x np)) B0 (b₀::suite) hpos] [] [] pos) (tS X.K B G0 KX (Wo x g h)):=PS.kin λkin=>by
 obtain⟨D',bmD,hm,ck⟩:=cD;obtain⟨fD,xD⟩:=ck.cls (model X.prog X.w) X.base kin;refine U9 (F7 (KC:=KC X.K) (tb:=λKX'=>tS X.K B G0 KX' g) (ts:=tS X.K B G0 KX0 h) Am hfr (Xb kin) xD hg hm hb hs hdb) λDn σ H ⟨G,ρ,k,a⟩=>?_
 refine⟨G,ρ,k,?_⟩;unfold Wo at a;cases z:g ρ with
 |nx ρ1=>rw[z]at a;exact a
 |rt d=>rw[z]at a;exact a
 |ro ds=>rw[z]at a;exact a
 |bk ρ1=>rw[z]at a;exact a
 |ct ρ1=>rw[z]at a;exact a
 |bad=>rw[z]at a;exact a.elim
 |ex ρ1 d=>
  rw[z]at a;dsimp only at a;intro v σ1 G1 H1 k1 s1 r;by_cases hc:YT x d=B2
  .rw[Qr hc]at a
   obtain⟨ad,C,dd,bm,rfl,kc,hx,hct⟩:=Ri r hc ck;refine⟨ad,C,dd,bm,rfl,kc,k1.gh _ _ hx,hct,G1,_,k1,?_⟩;cases z2:h ρ1 with
   |nx ρ2=>rw[z2]at a;exact λσ2 G2 H2 k2 s2=>a _ G2 H2 k2 (s1.trans s2)
   |bk ρ2=>rw[z2]at a;exact λσ2 G2 H2 k2 s2=>a _ G2 H2 k2 (s1.trans s2)
   |ct ρ2=>rw[z2]at a;exact λσ2 G2 H2 k2 s2=>a _ G2 H2 k2 (s1.trans s2)
   |rt d2=>rw[z2]at a;exact a
   |ex _ _=>rw[z2]at a;exact a.elim
   |ro _=>rw[z2]at a;exact a.elim
   |bad=>rw[z2]at a;exact a.elim
  .rw[QD hc]at a;exact a.elim
noncomputable def Z8(x:Str):D->B9
 |.dict [(.none,.tuple [.str nm,_])]=>O (.bool (decide (x=nm) || decide (x = "DealError")))
 |_=>B0
theorem Gy{f:M D}{p3:Pos}(cD:CK X.K X.mg x)(hg:Gl X "isinstance")(hm:X.mg "isinstance" = B0)(AY:Gl X x)(ha:PE X e (tD X.K B G0 f))(hdb:(x==("__debug__" : Str))=B3:=by decide)
  (hs:J5 [e,.Name x p3] X.env=(B3,eval e X.env)::J5 [.Name x p3] X.env:=by rfl)
  (hs2:J5 [.Name x p3] X.env=[(B3,eval (.Name x p3) X.env)]:=by rfl) :
  PE X (.Call (.Name "isinstance" p2) [e,.Name x p3] [] pos) (tD X.K B G0 (UD f λd=>UB (Z8 x d))):=PE.kin λkin=>by
 obtain⟨D',bmD,hm2,ck⟩:=cD;refine UK (Vn (OA (Xb kin)) hg hm RJ (KI ha (KI (TH (v:=.ref D') AY hm2 Z hdb) Zd (by rw[hs2];rfl)) hs) (by decide) (by decide) hs (by rw[hs2];rfl)) λσ H Q q=>?_
 refine tM.one (R:=Rep X.K) q λv H2 G ρ d k r a=>?_
 obtain⟨d',e',a'⟩:=aft.opt a;unfold Z8 at e';split at e'
 .obtain⟨ad,C,dd,bm,AM,vs,ds,rfl,e0,c,hx,_,_⟩:=r.exc_inv
  cases e0;cases e';exact⟨ad,C,dd,bm,B3,.ref D',_,rfl,⟨_,c⟩,k.gh _ _ hx,.inl ⟨D',bmD,rfl,⟨_,ck⟩,c.has ck⟩,a'.now k (.bl _)⟩
 .cases e'
end
def V8(o:JZ)(name:Str)(apos:Pos)(args:B8)(pos:Pos):Prop:=∀env:Env,∃pl:Sem Bool,eval (.Call (.Attribute o name apos) args [] pos) env=(do
   let ov ←eval o env
   standAt apos.atName
   let (f,first) ←holding [ov] (getMethod ov name pl)
   callWith pos f first (backTo pos (J5 args env)) (backToKw pos (keywordEach [] env)))
section
variable{P:JW}{w:World}{K:Frag}{mg:Str->B7}{base:Heap}{st:Stmt}{f f0 D:JX}{fd fd0:JY}{q:Str}{p1 p2 p3 p4 p5 p6 p7 p8 p9 r1 r2 r3 r4 r5 r6 r7 r8 r9 q1 q2:Pos}{j1 j2:Nat}
theorem Gx(F:Fun K "__init__" q st f fd)(hn:FnNm (Kb st) ["self", "text"] ["ValueError"])(hm:mg "ValueError" = B0)
  (hb:K5 st=[.Expr (.Call (.Attribute (.Name "ValueError" p1) "__init__" p2) [.Name "self" p3,.Name "text" p4] [] p5) p6])
  (ht:V8 (.Name "ValueError" p1) "__init__" p2 [.Name "self" p3,.Name "text" p4] p5) :
  FnOk P w K mg base CX0 1 f fd ["self", "text"] (X8 (KC K)):=by
 refine F.ok (fq hn 2) (λvs H Q E ⟨a,C,dd,bm,x,e,_⟩=>by rw[e];rfl) λcdv A outer s H vs Q E hr ⟨a,C,dd,bm,x,e,kc,hx,hq⟩=>?_
 subst e;rw[hb];obtain⟨pl,ht⟩:=ht (Kl CX0 P w K mg base ["self", "text"] q (Kb st) f cdv A outer s H E).nox.env;refine⟨Tl (Sz (KC K) (Wk (UZ 0) (Wk (UZ 1) Xn))),PSs.kin λkin=>Vh (Xk (OC (pl:=pl) (Xb kin) (gq hn 0) hm (KI (pq hn 0) (KI (pq hn 1) Zd)) (ht:=ht))),?_⟩;exact⟨_,rfl,_,rfl,a,C,dd,bm,_,rfl,kc,hx,hq⟩
theorem ZW(x y:Str):(x++y).length=x.length+y.length:=by
 show(x.cps++y.cps).size=x.cps.size+y.cps.size
 exact Array.size_append
theorem Gw{t1 t2:Str}(M:Ti K D "__init__" f0)(F0:FnOk P w K mg base CX0 1 f0 fd0 ["self", "text"] (X8 (KC K)))(hb0:Ze K fd0 ["self", "text"] [])(hm:mg "DealError" = O (.ref D))
  (F:Fun K "__init__" q st f fd) (hn:FnNm (Kb st) ["self", "part", "number"] ["DealError"])
  (hb:K5 st=[.Expr (.Call (.Attribute (.Name "DealError" p1) "__init__" p2) [.Name "self" p3,.JoinedStr [.Constant (.str t1) j1 p4,.FormattedValue (.Name "part" p5) (-1) B0 p6,.Constant (.str t2) j2 p7,.FormattedValue (.Name "number" p8) (-1) B0 p9] r1] [] r2) r3,
   .Assign [.Attribute (.Name "self" r4) "part" r5] (.Name "part" r6) r7,.Assign [.Attribute (.Name "self" r8) "number" r9] (.Name "number" q1) q2])
  (ht:V8 (.Name "DealError" p1) "__init__" p2 [.Name "self" p3,.JoinedStr [.Constant (.str t1) j1 p4,.FormattedValue (.Name "part" p5) (-1) B0 p6,.Constant (.str t2) j2 p7,.FormattedValue (.Name "number" p8) (-1) B0 p9] r1] r2)
  (hl1:t1.length<=1000) (hl2:t2.length<=1000) :
  FnOk P w K mg base CX0 2 f fd ["self", "part", "number"] (SE (KC K) ["part", "number"]):=by
 refine F.ok (fq hn 3) (λvs H Q E ⟨a,C,bm,us,e,hl,_⟩=>by rw[e,QB,hl];rfl) λcdv A outer s H vs Q E hr ⟨a,C,bm,us,e,hl,kc,hx,hf,hq⟩=>?_
 subst e
 match us,hl with
 |[u1,u2],_=>
 rw[hb];obtain⟨pl,ht⟩:=ht (Kl CX0 P w K mg base ["self", "part", "number"] q (Kb st) f cdv A outer s H E).nox.env;obtain⟨y1,f1,g1⟩:=hf u1 (by simp);obtain⟨y2,f2,g2⟩:=hf u2 (by simp)
 refine⟨Zu (Tl (Sk (X8 (KC K)) [] E0 (Wk (UZ 0) (Wk (Th [tC (.str t1),WA (UZ 1),tC (.str t2),WA (UZ 2)] Str.empty) Xn)))) (Zu (Sn (KC K) (UZ 0) (UZ 1) "part") (Sn (KC K) (UZ 0) (UZ 2) "number")),
  PSs.kin λkin=>Wx (Xk (Dx (pl:=pl) M F0 hr hb0 (gq hn 0) hm (KI (pq hn 0) (KI (CP (.cons Tv (.cons (Po (pq hn 1)) (.cons Tv (.cons (Po (pq hn 2)) .nil))))) Zd)) (ht:=ht)))
   (Wx (Of (Xb kin) (λC bm ⟨nm,c⟩=>c.fld _ _ kin "part" (by decide)) (pq hn 0) (pq hn 1) Z) (Vh (Of (Xb kin) (λC bm ⟨nm,c⟩=>c.fld _ _ kin "number" (by decide)) (pq hn 0) (pq hn 2) Z))),?_⟩
 have e0:(Str.empty:Str).length=0:=rfl;have lz:(10000:Nat)<=J0:=by decide
 refine⟨_,rfl,t1,rfl,by rw[ZW];lia,_,rfl,y1,f1,_,rfl,by rw[ZW,ZW];lia,t2,rfl,by rw[ZW,ZW,ZW];lia,_,rfl,y2,f2,_,rfl,by rw[ZW,ZW,ZW,ZW];lia,by rw[ZW,ZW,ZW,ZW];lia,?_⟩;refine⟨a,C,B0,bm,_,rfl,kc,hx,?_⟩;refine⟨_,rfl,_,rfl,a,C,bm,rfl,kc,.inl ⟨hx,λdx hd hne=>?_⟩⟩;refine⟨_,rfl,_,rfl,a,C,bm,rfl,kc,.inr ⟨dx,_,hne,by rw[UI (Ne.symm hne)];exact UW,UW,(show 1<900 by decide),?_⟩⟩;rw[Ob];exact hq dx hd hne
end
structure XSt(h:Heap)(nm:Str)(own:Option Stmt)(C N:JX)(bm:B5)(mN:Str->B7):Prop where
 ad:h.nsMap mainGlobals nm=O (.ref C)
 obj:∃q bs sn sub ab col dd k0 k1 k2 k3 k5,h.get? C=O (excClassObj nm q C N bs bm B2 sn sub ab col dd k0 k1 k2 k3 k5 "ValueError.__new__")
 ns:h.Ns N mN
 quiet:∀x∈Sy,mN x=B0
 up:nm = "DealError" /\ bm=VB∨nm ≠ "DealError" /\ ∃D,h.nsMap mainGlobals "DealError" = O (.ref D)/\bm=.ref D::VB
 init:match own with
  |none=>mN "__init__" = B0
  |some st=>∃f o pm cd doc,mN "__init__" = O (.ref f)/\h.get? f=O o/\o.cls=.type "function" /\ o.data=.func (methDef "__init__" (XY nm) (Yt st) (K5 st) (Kb st) pm cd doc)/\h.CodeRec cd (XY nm)
section
variable{h h':Heap}{nm:Str}{own:Option Stmt}{C N:JX}{bm:B5}{mN:Str->B7}
theorem Ny{a:JX}{x:Str}{v:JU}(e:h.nsMap a x=O v)(k:∀b o,h.get? b=O o->h'.get? b=O o):h'.nsMap a x=O v:=by
 unfold Heap.nsMap at e⊢;cases z:h.get? a with
 |none=>rw[z]at e;cases e
 |some o=>rw[k _ _ z];rw[z]at e;exact e
theorem XSt.keeps(x:XSt h nm own C N bm mN)(k:∀b o,h.get? b=O o->h'.get? b=O o):XSt h' nm own C N bm mN where
 ad:=Ny x.ad k
 obj:=let ⟨q,bs,sn,sub,ab,col,dd,k0,k1,k2,k3,k5,e⟩:=x.obj;⟨q,bs,sn,sub,ab,col,dd,k0,k1,k2,k3,k5,k _ _ e⟩
 ns:=x.ns.keeps k
 quiet:=x.quiet
 up:=x.up.imp id λ⟨a,D,b,c⟩=>⟨a,D,Ny b k,c⟩
 init:=by
  have z:=x.init;cases own with
  |none=>exact z
  |some st=>obtain⟨f,o,pm,cd,doc,h1,h2,h3,h4,h5⟩:=z;exact⟨f,o,pm,cd,doc,h1,k _ _ h2,h3,h4,h5.keeps k⟩
theorem dA(st:Stmt):RZ st=Yt st:=by cases st<;>rfl
theorem dB(st:Stmt):RY st=K5 st:=by cases st<;>rfl
theorem dS(st:Stmt):Pv st=Kb st:=by cases st<;>rfl
structure XYP(p:JW)(l:XL0)(h:Heap):Prop where
 st:∃mc,h.Ns cStatics mc/\mc "thirdparty.any" = B0
 cl:∀c∈l,∃C N bm mN,XSt h c.1 (c.2.map λi=>ZG (UM p i)) C N bm mN
theorem XYP.keeps{p:JW}{l:XL0}(x:XYP p l h)(k:∀b o,h.get? b=O o->h'.get? b=O o):XYP p l h':=
 ⟨let ⟨mc,a,b⟩:=x.st;⟨mc,a.keeps k,b⟩,λc hc=>let ⟨C,N,bm,mN,z⟩:=x.cl c hc;⟨C,N,bm,mN,z.keeps k⟩⟩
theorem L8{st:Stmt}{n:Bool}(b:xB h nm n=B2)(hown:own=B0->n=B3)(hs:∀st,own=O st->xSh h nm=O (B2,WC nm st)):∃C N bm mN,XSt h nm own C N bm mN:=by
 unfold xB at b;split at b
 .rename_i C hC
  split at b
  .rename_i t dd cd sl ho
   simp only[Qn,Bool.not_eq_true',beq_iff_eq,Bool.or_eq_true,QS,Option.isNone_iff_eq_none]at b;obtain⟨⟨⟨⟨⟨⟨⟨⟨b1,b2⟩,b3⟩,b4⟩,b5⟩,b6⟩,b7⟩,b8⟩,b9⟩:=b;obtain⟨cn,cb,cm,cns,cq,chd,csn,csub,cab,ccol,cdel⟩:=cd;simp only at b2 b3 b4 b6 b7 b8 b9;subst b1 b2 b3 b4;split at b5
   .rename_i k0 k1 k2 k3 k4 k5 hsl
    have b5:=Qa b5;subst b5;have hsl':sl=#[k0,k1,k2,k3,O (.builtin "ValueError.__new__"),k5]:=by rw[←Array.toList_inj,hsl]
    subst hsl'
    have key:∃bm,cm=.ref C::bm/\(cn = "DealError" /\ bm=VB∨cn ≠ "DealError" /\ ∃D,h.nsMap mainGlobals "DealError" = O (.ref D)/\bm=.ref D::VB):=by
     split at b9
     .rename_i e
      exact⟨VB,Qa b9,.inl ⟨e,rfl⟩⟩
     .rename_i e
      split at b9
      .rename_i D hD
       exact⟨.ref D::VB,Qa b9,.inr ⟨e,D,hD,rfl⟩⟩
      .cases b9
    obtain⟨bm,rfl,up⟩:=key;refine⟨C,cns,bm,h.nsMap cns,hC,⟨_,_,_,_,_,_,_,_,_,_,_,_,ho⟩,.of_isNs b6,b7,up,?_⟩;cases own with
    |none=>
     rcases b8 with b8|b8
     .rw[hown Z]at b8;cases b8
     .exact b8
    |some st=>
     have e:=hs st Z;unfold xSh at e;rw[hC]at e;dsimp only at e;rw[ho]at e;dsimp only at e;split at e
     .rename_i a o fd sh hf hsh
      simp only[Option.some.injEq,Prod.mk.injEq,QY]at e;obtain⟨e1,rfl⟩:=e;obtain⟨g1,g2,g3⟩:=Heap.fnAt_spec hf;unfold Heap.shapeAt at hsh;rw[hf]at hsh;obtain⟨n,q,ps,b,sc,g,cl,df,kd,doc,pm,an,code,ct,bi⟩:=fd;simp only[Option.map_some,WC,dA,dB,dS,Option.some.injEq,FnShape.mk.injEq]at hsh;obtain⟨rfl,rfl,rfl,rfl,rfl,rfl,rfl,rfl,rfl,rfl,rfl,rfl,hc⟩:=hsh;exact⟨a,o,pm,code,doc,g1,g2,e1,g3,.of_ok hc⟩
     .cases e
   .cases b5
  .cases b
 .cases b
theorem L7{p:JW}{l:XL0}{s:JV}(e:xSeen l s=xGood p l):XYP p l s.heap:=by
 unfold xSeen xGood at e;obtain⟨e1,e2⟩:=JB e;obtain⟨e1,e3⟩:=Bool.and_eq_true_iff.mp e1;refine⟨⟨_,.of_isNs e1,Option.isNone_iff_eq_none.mp e3⟩,λc hc=>?_⟩;have q:=List.map_inj_left.mp e2 c hc;obtain⟨q1,q2⟩:=JB q;refine L8 (st:=.Pass ⟨0,0,0,0⟩) q1 (λz=>?_) λst z=>?_
 .cases hz:c.2 with
  |none=>rfl
  |some i=>rw[hz]at z;cases z
 .cases hz:c.2 with
  |none=>rw[hz]at z;cases z
  |some i=>rw[hz]at z q2;cases z;exact q2
end
theorem Pi:mroOf (.type "ValueError")=pure VB:=by kernel_rfl
theorem MT:typeLookup (.type "ValueError") "__setattr__" = pure (O (.builtin "object.__setattr__")):=by kernel_rfl
theorem MS:typeLookup (.type "ValueError") "__getattribute__" = pure (O (.builtin "BaseException.__getattribute__")):=by kernel_rfl
theorem MR:typeLookup (.type "ValueError") "__getattr__" = pure B0:=by kernel_rfl
theorem MQ:typeLookup (.type "ValueError") "__class__" = pure (O (.builtin "object.__class__")):=by kernel_rfl
theorem Fw:typeLookup (.type "ValueError") "part" = pure B0:=by kernel_rfl
theorem Cm:typeLookup (.type "ValueError") "number" = pure B0:=by kernel_rfl
theorem L6:typeLookup (.type "ValueError") "row" = pure B0:=by kernel_rfl
theorem PY(v:JU):refuseLoop v "__setattr__" VB=pure ():=by kernel_rfl
section
variable{h h':Heap}{nm:Str}{own ownD:Option Stmt}{C N D ND:JX}{bm:B5}{mN mD:Str->B7}{M:Model}
theorem XSt.along(x:XSt h nm own C N bm mN)(xD:XSt h "DealError" ownD D ND VB mD){y:Str}{r:B7}(hy:y∈Sy)(hB:typeLookup (.type "ValueError") y=pure r):Kj M C y r h:=by
 obtain⟨q,bs,sn,sub,ab,col,dd,k0,k1,k2,k3,k5,e⟩:=x.obj;obtain⟨q',bs',sn',sub',AV,col',Au,k0',k1',k2',k3',k5',e'⟩:=xD.obj;refine Kj.of e (ZF.miss e x.ns (x.quiet y hy) ?_);rcases x.up with ⟨_,rfl⟩|⟨_,D',Ap,rfl⟩
 .exact ZF.base Pi hB
 .have:=Ap.symm.trans xD.ad
  cases this;exact ZF.miss e' xD.ns (xD.quiet y hy) (ZF.base Pi hB)
theorem XSt.tail(x:XSt h nm own C N bm mN):Tail VB bm:=by
 rcases x.up with ⟨_,rfl⟩|⟨_,D',_,rfl⟩
 .exact Tail.base
 .exact Tail.own Tail.base
def V7(h:Heap)(own ownD:Option Stmt)(mN mD:Str->B7)(nm:Str)(f:JX):Prop:=match own with
 |some _=>mN "__init__" = O (.ref f)
 |none=>mD "__init__" = O (.ref f)
theorem XSt.xcls(x:XSt h nm own C N bm mN){std:Stmt}(xD:XSt h "DealError" (O std) D ND VB mD){f:JX}(hf:V7 h own (O std) mN mD nm f):XCls M h C bm f:=by
 have hD:=xD.init;obtain⟨fD,oD,pmD,cdD,docD,g1,g2,g3,g4,g5⟩:=hD;obtain⟨q,bs,sn,sub,ab,col,dd,k0,k1,k2,k3,k5,e⟩:=id x.obj;obtain⟨q',bs',sn',sub',AV,col',Au,k0',k1',k2',k3',k5',e'⟩:=id xD.obj
 have fin:Kj M C "__init__" (O (.ref f)) h/\∃o,h.get? f=O o/\o.cls=.type "function" :=by
  have z:=x.init;unfold V7 at hf;cases own with
  |some st=>obtain⟨f',o,pm,cd,doc,h1,h2,h3,h4,h5⟩:=z;have hf:mN "__init__" = O (.ref f):=hf;rw[h1]at hf;cases hf;exact⟨Kj.of e (ZF.hit e x.ns h1),o,h2,h3⟩
  |none=>
   have hf:mD "__init__" = O (.ref f):=hf;have z:mN "__init__" = B0:=z;rw[g1]at hf;cases hf;refine⟨Kj.of e (ZF.miss e x.ns z ?_),oD,g2,g3⟩;rcases x.up with ⟨hn,rfl⟩|⟨_,D',Ap,rfl⟩
   .subst hn
    have:=x.ad.symm.trans xD.ad;cases this;rw[e]at e';cases e';have:=x.ns.eq_nsMap.trans xD.ns.eq_nsMap.symm;rw[this]at z;rw[g1]at z;cases z
   .have:=Ap.symm.trans xD.ad
    cases this;exact ZF.hit e' xD.ns g1
 refine⟨⟨nm,q,N,bs,sn,sub,ab,col,dd,k0,k1,k2,k3,k5,e⟩,x.tail,fin.1,fin.2,x.along xD (by decide) MT,x.along xD (by decide) MS,x.along xD (by decide) MR,x.along xD (by decide) MQ,λv=>?_⟩;rcases x.up with ⟨_,rfl⟩|⟨_,D',_,rfl⟩
 .exact PY v
 .rw[refuseLoop_ref];exact PY v
theorem Y4(k:(whole h).In h'):∀b o,h.get? b=O o->h'.get? b=O o:=λb o e=>k b o (by rw[Zj];exact e)
theorem Ru{mA:Str->B7}{a:JX}(n:h.Ns a mA)(y:Str):PySem.W.nsIn (whole h) a y=O (mA y):=by
 obtain⟨⟨oc,od,dt,os⟩,es,ep,ho,hd,hk,hf⟩:=n;have hd:dt=_:=hd;subst hd;unfold PySem.W.nsIn;rw[Zj,ho];dsimp only;have:=hf y;unfold nsFind findBy at this;rw[←Array.find?_toList]at this;dsimp only at this;rw[←this];cases z:es.toList.find? (·.key.isStr y)with
 |some e=>rfl
 |none=>
  dsimp only;rw[QD]
  .rfl
  .rw[List.any_eq_true]
   rintro⟨e,he,hr⟩;obtain⟨n,t,hk⟩:=hk e (Array.mem_toList_iff.mp he);unfold DictEntry.refKey at hr;rw[hk]at hr;cases hr
theorem XSt.nmd(x:XSt h nm own C N bm mN):NmAt (whole h) nm C:=by obtain⟨q,bs,sn,sub,ab,col,dd,k0,k1,k2,k3,k5,e⟩:=x.obj;exact⟨_,_,by rw[Zj];exact e,rfl,rfl⟩
theorem Nx{mg:Str->B7}(n:h.Ns mainGlobals mg)(e:h.nsMap mainGlobals nm=O (.ref C)):Tg (whole h) nm=O C:=by unfold Tg;rw[Ru n,n.eq_nsMap,e]
theorem XSt.clsK{mg:Str->B7}(n:h.Ns mainGlobals mg)(x:XSt h nm own C N bm mN){std:Stmt}(xD:XSt h "DealError" (O std) D ND VB mD){f:JX}(hf:V7 h own (O std) mN mD nm f):ClsK (whole h) nm C bm where
 ad:=Nx n x.ad
 nmd:=x.nmd
 up:=x.up.imp id λ⟨a,D',b,c⟩=>⟨a,D',Nx n b,c,by have:=b.symm.trans xD.ad;cases this;exact xD.nmd⟩
 cls:=λM h' k=>⟨f,(x.keeps (Y4 k)).xcls (xD.keeps (Y4 k)) (by unfold V7 at hf⊢;cases own<;>exact hf)⟩
 fld:=λM h' k y hy=>by
  have z:=x.keeps (Y4 k);have zD:=xD.keeps (Y4 k);simp only[QM,List.not_mem_nil,or_false]at hy;rcases hy with rfl|rfl|rfl
  .exact z.along zD (by decide) Fw
  .exact z.along zD (by decide) Cm
  .exact z.along zD (by decide) L6
theorem XSt.keep(x:XSt h nm own C N bm mN):PySem.W.keepIn (whole h) (.ref C)=B2:=by obtain⟨q,bs,sn,sub,ab,col,dd,k0,k1,k2,k3,k5,e⟩:=x.obj;unfold PySem.W.keepIn;dsimp only;rw[Zj,e];dsimp only;unfold PySem.W.specialIn PySem.W.typeIn;dsimp only;rw[Zj,e];kernel_rfl
theorem XSt.fun{st:Stmt}(x:XSt h nm (O st) C N bm mN):∃f fd,mN "__init__" = O (.ref f)/\Fun (whole h) "__init__" (XY nm) st f fd:=by
 obtain⟨f,⟨oc,od,dt,osl⟩,pm,cd,doc,h1,h2,h3,h4,h5⟩:=x.init;have h4:dt=_:=h4;subst h4;refine⟨f,_,h1,⟨⟨oc,od,.none,doc,pm,_,cd,_,osl,rfl,by rw[Zj];exact h2,?_⟩,?_⟩⟩
 .obtain⟨c,⟨_,_,dc,_⟩,vs,t,rfl,g1,g2,g3⟩:=h5
  have g2:dc=_:=g2;subst g2;unfold PySem.W.codeIn;dsimp only;rw[Zj,g1];dsimp only;have g4:vs.toList[1]?=O (.str (XY nm) t):=by rw[Array.getElem?_toList];exact g3
  cases hv:vs.toList with
  |nil=>rw[hv]at g4;cases g4
  |cons v0 r=>
   rw[hv]at g4;cases r with
   |nil=>cases g4
   |cons v1 r=>cases g4;exact beq_self_eq_true _
 .unfold PySem.W.keepIn
  dsimp only;rw[Zj,h2]
theorem tf1{K:Frag}:PySem.W.findIn K (.type "type") "__init__" = O (O (.builtin "type.__init__")):=by kernel_rfl
theorem tf2{K:Frag}:PySem.W.specialIn K (.builtin "type.__init__") "__get__" = O (O (.builtin "wrapper_descriptor.__get__")):=by kernel_rfl
theorem tf3{K:Frag}:PySem.W.takesIn K (.builtin "type.__init__")=O B3:=by kernel_rfl
theorem tf4{K:Frag}:PySem.W.findIn K (.type "type") "__getattribute__" = O (O (.builtin "type.__getattribute__")):=by kernel_rfl
theorem tf5{K:Frag}:PySem.W.subIn K (.type "type") (.type "type")=O B2:=by kernel_rfl
theorem XSt.clsFn{st:Stmt}(x:XSt h "DealError" (O st) D ND VB mD)(hs:∃mc,h.Ns cStatics mc/\mc "thirdparty.any" = B0){f:JX}(hf:mD "__init__" = O (.ref f)):Ti (whole h) D "__init__" f:=by
 obtain⟨f',o,pm,cd,doc,h1,h2,h3,h4,h5⟩:=x.init;rw[h1]at hf;cases hf;obtain⟨q,bs,sn,sub,ab,col,dd,k0,k1,k2,k3,k5,e⟩:=x.obj;obtain⟨mc,hc1,hc2⟩:=hs;have tD:PySem.W.typeIn (whole h) (.ref D)=O (.type "type"):=by unfold PySem.W.typeIn;dsimp only;rw[Zj,e];rfl
 have tf:PySem.W.typeIn (whole h) (.ref f)=O (.type "function"):=by unfold PySem.W.typeIn;dsimp only;rw[Zj,h2];exact JQ O h3
 refine⟨?_,?_,?_,?_⟩
 .unfold PySem.W.specialIn
  rw[tD];exact tf4 (K:=whole h)
 .unfold PySem.W.readsIn
  rw[Ru hc1,hc2,tD,tf4,tf5];rfl
 .unfold PySem.W.findCls
  rw[tf1];dsimp only[Option.bind_some];rw[tf2];dsimp only[Option.bind_some];rw[tf3];dsimp only[Option.bind_some];have hfi:PySem.W.findIn (whole h) (.ref D) "__init__" = O (O (.ref f)):=by unfold PySem.W.findIn;dsimp only;rw[Zj,e];dsimp only;unfold PySem.W.alongIn PySem.W.ownIn;dsimp only;rw[Zj,e];dsimp only;rw[Ru x.ns,h1]
  rw[hfi];dsimp only[Option.bind_some];rw[QD (show ¬Builtin.heldUnderItsOwnName "__init__" (.ref f)=B2 from λz=>by cases z),tf];rfl
 .unfold PySem.W.keepIn
  dsimp only;rw[Zj,h2];obtain⟨oc,od,dt,osl⟩:=o;have h4:dt=_:=h4;subst h4;rfl
end
section
variable{h:Heap}{mg:Str->B7}{p:JW}{l:XL0}{i j:Nat}{c:Str×Option Nat}{p1 p2 p3 p4 p5 p6 p7 p8 p9 r1 r2 r3 r4 r5 r6 r7 r8 r9 q1 q2:Pos}{j1 j2:Nat}
structure Root(p:JW)(h:Heap)(mg:Str->B7)(i:Nat)(D f:JX)(fd:JY):Prop where
 at':mg "DealError" = O (.ref D)
 ex:∃ND mD,XSt h "DealError" (O (ZG (UM p i))) D ND VB mD/\mD "__init__" = O (.ref f)
 cf:Ti (whole h) D "__init__" f
 bd:Ze (whole h) fd ["self", "text"] []
 ok:∀(P:JW)(w:World)(base:Heap),FnOk P w (whole h) mg base CX0 1 f fd ["self", "text"] (X8 (KC (whole h)))
theorem XSt.root{own:Option Stmt}{C N:JX}{bm:B5}{mN:Str->B7}(x:XSt h "DealError" own C N bm mN):bm=VB:=by
 rcases x.up with ⟨_,rfl⟩|⟨z,_⟩
 .rfl
 .exact absurd Z z
theorem V6(n:h.Ns mainGlobals mg)(Y:XYP p l h){D f:JX}{fd:JY}(R:Root p h mg i D f fd)(hc:c∈l):CK (whole h) mg c.1:=by
 obtain⟨C,N,bm,mN,x⟩:=Y.cl _ hc;obtain⟨ND,mD,xD,hf⟩:=R.ex;cases hz:c.2 with
 |none=>rw[hz]at x;exact⟨C,bm,by rw[n.eq_nsMap];exact x.ad,XSt.clsK n x xD (f:=f) hf⟩
 |some k=>rw[hz]at x;obtain⟨f',o,pm,cd,doc,h1,h2⟩:=x.init;exact⟨C,bm,by rw[n.eq_nsMap];exact x.ad,XSt.clsK n x xD (f:=f') h1⟩
theorem L5(n:h.Ns mainGlobals mg)(Y:XYP p l h){D f:JX}{fd:JY}(R:Root p h mg i D f fd){nm:Str}(hc:(nm,B0)∈l)(hf:KR nm=[])(P:JW)(w:World)(base:Heap):MkX P w (whole h) mg base nm 1:=by obtain⟨C,N,bm,mN,x⟩:=Y.cl _ hc;obtain⟨ND,mD,xD,hi⟩:=R.ex;have ck:=XSt.clsK n x xD (f:=f) hi;exact⟨C,bm,f,fd,_,_,by rw[n.eq_nsMap];exact x.ad,x.keep,ck,λM h' k=>(x.keeps (Y4 k)).xcls (xD.keeps (Y4 k)) hi,R.ok P w base,R.bd,Oz ck hf⟩
theorem L4(n:h.Ns mainGlobals mg)(Y:XYP p l h){D f:JX}{fd:JY}(R:Root p h mg i D f fd){nm:Str}(hc:(nm,O j)∈l)(hf:KR nm≠[]){ps:List Str}(P:JW)(w:World)(base:Heap)
  (hbz:∀(kV doc pm:JU)(an:Ae)(cdv ct:JU)(us:B5),us.length=ps.length->bindArgs (PySem.W.fnOf "__init__" (XY nm) (Yt (ZG (UM p j))) (K5 (ZG (UM p j))) (Kb (ZG (UM p j))) .none kV doc pm an cdv ct) ⟨us,[]⟩=pure (ps.zip us))
  (ok:∀{f':JX}{fd':JY},Fun (whole h) "__init__" (XY nm) (ZG (UM p j)) f' fd'->FnOk P w (whole h) mg base CX0 2 f' fd' ps (SE (KC (whole h)) (KR nm))):MkX P w (whole h) mg base nm 2:=by
 obtain⟨C,N,bm,mN,x⟩:=Y.cl _ hc;obtain⟨ND,mD,xD,hi⟩:=R.ex;obtain⟨f',fd',hf',FU⟩:=XSt.fun (st:=ZG (UM p j)) x;have ck:=XSt.clsK n x xD (f:=f') hf';exact⟨C,bm,f',fd',_,_,by rw[n.eq_nsMap];exact x.ad,x.keep,ck,λM h' k=>(x.keeps (Y4 k)).xcls (xD.keeps (Y4 k)) hf',ok FU,FU.binds hbz,Dw ck hf⟩
end
theorem To{cc:Bool}{q p:JW}{loose:List Str}{mean:ExcName->B7}{mg mb:Str->B7}{h:Heap}{ix:Ad}(P:JW)(w:World)(base:Heap){ps:List Str}{k n:Nat}{F:B4->Option XR}(T:Top q loose mean mg mb h)(e:recsOf q=Ws p ix)(i:Nat)(x:Str)(hi:ix.contains i=B2)(hn:VN (UM p i)=O x)
  (ok:∀{f:JX}{fd:JY},Fun (whole h) x x (UM p i) f fd->FnOk P w (whole h) mg base (Za cc P w) k f fd ps (spX (whole h) n F))
  (hb:∀(kV doc pm:JU)(an:Ae)(cdv ct:JU)(us:B5),us.length=ps.length->bindArgs (PySem.W.fnOf x x (Yt (UM p i)) (K5 (UM p i)) (Kb (UM p i)) .none kV doc pm an cdv ct) ⟨us,[]⟩=pure (ps.zip us)):V9 cc P w (whole h) mg base x k n F:=by
 obtain⟨f,fd,m,FU⟩:=Tp T e i x hi hn;exact⟨f,fd,ps,m,FU.kp,FU.binds hb,ok FU⟩
theorem Ck{l:PySem.W.OpenLaw}{n k:Nat}{q:JW}{loose:List Str}{XP:(Str->B7)->Heap->Prop}{YP:World->Heap->Prop}{d:DefRec}{F:B4->B9}{x:Str}
  (hn:l.most=O n) (hn2:n<=J0) (hdf:d.params.defaults=[]) (hr:Room k callerA)
  (hF:∀(w:World)(s₀:JV)(mg mb:Str->B7)(fa:JX)(h:Heap),PySem.W.Ground q loose [] XP w s₀ mg mb h->YP w h->mg d.name=O (.ref fa) ->
   ∃fd:JY,(∀(s:JV)(u:JU),BindsTo s fd ⟨[u],[]⟩ [(x,u)])/\∀base:Heap,FnOk l.prog w (whole h) mg base CX0 k fa fd [x] (spD (whole h) 1 F))
  (hl:∀ns:B6,ns.length<=n->F [.list (ns.map int)]=O (.bool B2)) :
  PySem.W.WalkO q loose XP YP l.row.toRowW d [] (λf vs=>PySem.call f vs):=by
 refine Att.attach_call hn hdf λw s₀ s₁ mg mb fa o pm cd doc a vs ns G Y ho hd hcd hmg hobj hints hlen hg=>?_
 obtain⟨fd,hb,hF⟩:=hF w s₀ mg mb fa _ G Y hmg;exact DD (EC _) G.T.g G.T.b G.T.builtins G.T.nolimit hg hobj hints (Qq hlen hn2) hr (λbase _ _=>hF base) hb (λH hO hS=>Ly hS (hl ns hlen)) λH e s' z=>z
section
variable{α β:Type}{ρ ρ1 ρ2 ρ3 ρ':Um}{f:M D}{s t:SM}{Q:Out->Prop}{d:D}{ds fs:B4}{nm x:Str}{o:Out}
theorem Y1{g:M B4}(h1:g ρ=.ok ds ρ1)(h2:Y8 nm ds=O fs):Y2 nm g ρ=.ex ρ1 (exD nm fs):=by unfold Y2 sB;rw[h1];dsimp only;rw[h2]
theorem W5{f:M XR}{g:D->SM}(h1:f ρ=.ok (.val d) ρ1)(h2:g d ρ1=o):sX f g ρ=o:=by unfold sX;rw[h1];exact h2
theorem VA{f:M XR}{g:D->SM}(h1:f ρ=.ok (.exc d) ρ1):sX f g ρ=.ex ρ1 d:=by unfold sX;rw[h1]
theorem YA{n:Nat}{F:B4->Option XR}{g:M B4}{xs:B4}{r:XR}(h1:g ρ=.ok xs ρ1)(h2:xs.length=n)(h3:F xs=O r):YN n F g ρ=.ok r ρ1:=by unfold YN;exact U6 h1 (by rw[Qr h2];exact KS h3)
theorem PX{i:Nat}(h1:s ρ=.nx ρ1):K7 i x s t ρ=.nx ρ1:=by unfold K7;rw[h1]
theorem Ex(h1:s ρ=.nx ρ1):Wo x s t ρ=.nx ρ1:=by unfold Wo;rw[h1]
theorem Ew{c:String}{t:Bool}(h:f ρ=.ok d ρ1)(ht:UU d c=t):UA (λd=>Ua (UU d c)) f ρ=.ok (Ua t) ρ1:=by subst ht;exact Kq (k:=λd=>Ua (UU d c)) h
theorem Ph{c:String}{kvs:List (D×D)}(h:f ρ=.ok (.dict kvs) ρ1)(hc:(("dict" == c) || ("" == c))=B3:=by decide):UA (λd=>Ua (UU d c)) f ρ=.ok (Ua B3) ρ1:=Ew h (nty hc)
theorem VQ{c:String}{kvs:List (D×D)}(h:f ρ=.ok (.dict kvs) ρ1)(hc:(("dict" == c) || ("" == c))=B3:=by decide):UR (Ko (UA (λd=>.bool (UU d c)) f)) ρ=.ok B2 ρ1:=KP h (by rw[nty hc];rfl)
noncomputable def OutX(r:XR):Out->Prop
 |.rt d=>r=.val d
 |.nx _=>r=.val .none
 |.ex _ d=>r=.exc d/\Wh d=B2
 |_=>False
theorem V5{N:List Str}{r:XR}(h0:KQ N ds=ρ)(h:Ho s ρ (OutX r)):Zv N s ds=O r:=by
 subst h0;have h:=h.out;unfold Zv;cases z:s (KQ N ds)with
 |rt d=>rw[z]at h;rw[show r=.val d from h]
 |nx ρ'=>rw[z]at h;rw[show r=.val .none from h]
 |ex ρ' d=>rw[z]at h;dsimp only;rw[if_pos h.2,h.1]
 |ro _=>rw[z]at h;exact h.elim
 |bk ρ'=>rw[z]at h;exact h.elim
 |ct ρ'=>rw[z]at h;exact h.elim
 |bad=>rw[z]at h;exact h.elim
noncomputable def fb(p:D->Bool):Nat->B4->Option Nat
 |_,[]=>B0
 |k,x::r=>if p x=B2 then fb p (k+1) r else O k
noncomputable def MP:Out->Prop
 |.rt _=>True
 |.ex _ _=>True
 |_=>False
structure fbQ(p:D->Bool)(xs:B4)(I:Um->Prop)(Q:Out->Prop)(x:D)(j:Nat)(o:Out):Prop where
 out:(p x=B2/\∃ρ2,o=.nx ρ2/\I ρ2)∨(p x=B3/\MP o/\(fb p 0 xs=O j->Q o))
theorem RW{p:D->Bool}{xs:B4}{I:Um->Prop}{x:D}{j:Nat}(hp:p x=B2)(h:I ρ):fbQ p xs I Q x j (.nx ρ):=⟨.inl ⟨hp,ρ,rfl,h⟩⟩
theorem RV{p:D->Bool}{xs:B4}{I:Um->Prop}{x:D}{j:Nat}(hp:p x=B3)(h:fb p 0 xs=O j->Q (.ex ρ d)):fbQ p xs I Q x j (.ex ρ d):=⟨.inr ⟨hp,trivial,h⟩⟩
theorem Ou{f:M B4}{sg:D->Um->Ab}{xs:B4}(p:D->Bool)(I:Um->Prop)(h1:f ρ=.ok (ZT 0 xs) ρ1)(h0:I ρ1)
  (hst:∀x∈xs,∀(j:Nat) ρ,j<xs.length->I ρ->∃ρ1,sg (.tuple [.int j,x]) ρ=O ρ1/\Ho s ρ1 (fbQ p xs I Q x j))
  (hend:fb p 0 xs=B0->∀ρ,I ρ->Q (.nx ρ)):Ho (Kf f sg s) ρ Q:=by
 constructor;unfold Kf sB;rw[h1];dsimp only
 have key:∀(ys:B4)(k:Nat)(ρ:Um),I ρ->(∀x∈ys,x∈xs)->k+ys.length<=xs.length->fb p k ys=fb p 0 xs->Q (YO sg s (ZT k ys) ρ):=by
  intro ys;induction ys with
  |nil=>intro k ρ hi _ _ he;exact hend he.symm ρ hi
  |cons x r ih=>
   intro k ρ hi hm hl he;rw[QB]at hl;obtain⟨ρ2,e2,a1⟩:=hst x (hm x Qk) k ρ (by lia) hi;rw[ZT,YO,e2];dsimp only;rw[fb]at he;rcases a1.out.out with ⟨hp,ρ3,e3,i3⟩|⟨hp,b1,b2⟩
   .rw[hp,Qr Z]at he
    rw[e3];exact ih (k+1) ρ3 i3 (λy hy=>hm y (Qj _ hy)) (by lia) he
   .rw[hp,QD (by decide)]at he
    have b2:=b2 he.symm;cases z:s ρ2 with
    |rt d=>rw[z]at b2;exact b2
    |ex ρ' d=>rw[z]at b2;exact b2
    |nx ρ'=>rw[z]at b1;exact b1.elim
    |ro _=>rw[z]at b1;exact b1.elim
    |bk ρ'=>rw[z]at b1;exact b1.elim
    |ct ρ'=>rw[z]at b1;exact b1.elim
    |bad=>rw[z]at b1;exact b1.elim
 exact key xs 0 ρ1 h0 (λ_ h=>h) (by lia) Z
end
end DL
namespace L2
open PySem PySem.Spec PyProof.Rows
end L2
namespace DL
open PySem PySem.Spec L2
open PyProof.Rows hiding St
end DL
namespace DL
open PySem PySem.Spec L2 PySem.SeqAt PySem.AutoSeq1
open PyProof.Rows hiding St
section
variable{X:Cx}{pins:List (JX×Obj)}{s:JV}{σ:L2.St}{G H:Hp}{A:Around}
theorem PV(I:Inv X pins σ H s){a:JX}{kvs:List (Key×V)}(h:H a=O (.dK kvs)):(a==sysModules)=B3/\∃o es n vs,s.heap.get? a=O o/\o.cls=.type "dict" /\ o.data=.dict es n/\KV kvs vs/\Pairs (ZY X.prog X.w) es.toList vs:=by
 obtain⟨_,h0,vs,kv,o,es,ep,e1,e2,e3,_,e5,_⟩:=(show kvs.length<=J0/\(a==sysModules)=B3/\∃vs,KV kvs vs/\s.heap.DictOf (ZY X.prog X.w) a vs from I.hok a _ h)
 exact⟨h0,o,es,ep,vs,e1,e2.1,e3,kv,e5⟩
end
end DL
namespace DL
open PySem PySem.Spec L2
open PyProof.Rows hiding St
noncomputable def YG:D->Bool
 |.int _=>B2
 |.str _=>B2
 |_=>B3
mutual
noncomputable def Kk:D->Bool
 |.none | .bool _ | .int _=>B2
 |.str x=>Uc x
 |.list xs | .tuple xs=>Yy xs
 |.dict kvs=>layKv kvs
noncomputable def Yy:B4->Bool
 |[]=>B2
 |x::xs=>Kk x&&Yy xs
noncomputable def layKv:List (D×D)->Bool
 |[]=>B2
 |(k,v)::r=>YG k&&Kk v&&layKv r
end
theorem Ot:∀{ks:Ag}{ds:B4},ks.length=ds.length->layKv ((ks.map kD).zip ds)=B2->Yy ds=B2
 |[],[],_,_=>rfl
 |[],_::_,h,_=>by simp at h
 |_::_,[],h,_=>by simp at h
 |k::ks,d::ds,h,c=>by rw[Qu,JL,layKv,Qn,Qn]at c;rw[Yy,c.1.2,Ot (by simpa using h) c.2];rfl
theorem NJ{P:JW}{w:World}:∀{es:List DictEntry}{vs:List (Key×JU)},Pairs (ZY P w) es vs->es.map (·.val)=vs.map (·.2)
 |_,_,.nil=>rfl
 |_,_,.cons _ h t=>by rw[Qu,Qu,h,NJ t]
theorem CI{P:JW}{w:World}{h:Heap}{es:List DictEntry}{vs:List (Key×JU)}(p:Pairs (ZY P w) es vs):ReadsAll h (es.map (·.key)) ((vs.map (·.1)).map kD) []:=by
 induction p with
 |nil=>exact .nil
 |@cons e kv es kvs hk _ t ih=>
  have hk:Wl kv.1 e.key=B2:=hk;rw[Qu,Qu,Qu];rcases Y5 hk with ⟨i,t,e1,e2⟩|⟨x,t,e1,e2⟩
  .rw[e1,e2];exact .cons (as:=[]) (.int i t) ih
  .rw[e1,e2];exact .cons (as:=[]) (.str x t) ih
theorem Os:∀{ks:Ag}{vs:List V}{ws:List (Key×JU)},ks.length=vs.length->KV (ks.zip vs) ws->ws.map (·.1)=ks/\Vals vs (ws.map (·.2))
 |[],[],_,_,h=>by cases h;exact⟨rfl,.nil⟩
 |[],_::_,_,h,_=>by simp at h
 |_::_,[],_,h,_=>by simp at h
 |k::ks,v::vs,_,hl,h=>by
  rw[JL]at h;cases h with
  |cons a b=>obtain⟨e1,e2⟩:=Os (by simpa using hl) b;exact⟨by rw[Qu,e1,←a.1],.cons a.2 e2⟩
def SmK(K:Frag):Prop:=∃o es n,K.lookup sysModules=O o/\o.data=.dict es n
theorem L1{h:Heap}(x:h.NoSeer):SmK (whole h):=by obtain⟨mm,⟨o',es,ep,e',d,_⟩,_⟩:=x.mods;exact⟨o',es,ep,by rw[Zj];exact e',d⟩
section
variable{X:Cx}{pins:List (JX×Obj)}{s:JV}{σ:L2.St}{G H:Hp}
theorem Oq(I:Inv X pins σ H s)(hK:SmK X.K):H sysModules=B0:=by obtain⟨o,es,n,e,_⟩:=hK;exact(I.bs _ _ (I.mod.kin _ _ e)).2
theorem Fv(I:Inv X pins σ H s)(hK:SmK X.K){a:JX}{xs:List V}(h:SqL X.K H a xs):a≠sysModules:=by
 intro e;subst e;rcases h with h|⟨o,its,n,hk,_,_,hs,_⟩
 .rcases h with h|⟨o,h⟩
  .rw[Oq I hK]at h;cases h
  .rw[Oq I hK]at h;cases h
 .obtain⟨o',es,m,e,d⟩:=hK
  rw[hk]at e;cases e;rw[hs]at d;cases d
mutual
theorem PU(I:Inv X pins σ H s)(sg:Same G H)(hK:SmK X.K):∀{v:V}{d:D}{u:JU},Rep X.K G v d->RelV v u->Kk d=B2->∃as,Reads s.heap u d as/\sysModules∉as
 |_,_,_,.non,r,_=>by cases r;exact⟨_,.none,by simp⟩
 |_,_,_,.bl b,r,_=>by cases r;exact⟨_,.bool b,by simp⟩
 |_,_,_,.int i,r,_=>by obtain⟨t,rfl⟩:=r;exact⟨_,.int i t,by simp⟩
 |_,_,_,.str x,r,_=>by obtain⟨t,rfl⟩:=r;exact⟨_,.str x t,by simp⟩
 |_,_,_,.lst h q,r,c=>by cases r;obtain⟨its,rv,⟨o,n,e,hc,_,hd⟩,hz⟩:=I.list (sg.seq h);obtain⟨as,ra,hn⟩:=readsAll_z I sg hK q rv (show Yy _=B2 by simpa[Kk]using c);refine⟨_,.list e hc hd (by simpa using ra),?_⟩;simp only[QM,not_or];exact⟨λz=>Fv I hK (sg.seq h) z.symm,hn⟩
 |_,_,_,.tup h q,r,c=>by cases r;obtain⟨its,rv,p,hz⟩:=I.tuple (ZE sg h);obtain⟨o,e,hc,n,hd⟩:=p;obtain⟨as,ra,hn⟩:=readsAll_z I sg hK q rv (show Yy _=B2 by simpa[Kk]using c);exact⟨_,.tuple e hc hd (by simpa using ra),hn⟩
 |_,_,_,.dic h,r,c=>by
  cases r;obtain⟨p0,o,es,n,vs,e1,e2,e3,kv,ps⟩:=PV I (sg _ _ h);cases kv
  have z1:es.toList=[]:=by
   cases hz:es.toList with
   |nil=>rfl
   |cons c r=>rw[hz]at ps;cases ps
  refine⟨_,.dict (kvs:=[]) e1 e2 e3 (by rw[z1];exact .nil) (by rw[z1];exact .nil),?_⟩;simp only[QT,QJ];intro z;rw[←z]at p0;simp at p0
 |_,_,_,.exc _ _ _ _,r,c=>by simp[Kk,layKv,YG]at c
 |_,_,_,@Rep.dct _ _ ad ks vs ds kvs e hne hl h q,r,c=>by
  cases r;obtain⟨p0,o,es,n,ws,e1,e2,e3,kv,ps⟩:=PV I (sg _ _ h);obtain⟨k1,k2⟩:=Os (by rw[hl,q.length]) kv;have cd:Yy ds=B2:=Ot hl (by rw[←e];simpa[Kk]using c);obtain⟨bs,rb,hn⟩:=readsAll_z I sg hK q k2 cd;have hkeys:=CI (h:=s.heap) ps;rw[k1]at hkeys;have f1:kvs.map (·.1)=ks.map kD:=by rw[e];exact List.map_fst_zip (by rw[Qd];lia)
  have f2:kvs.map (·.2)=ds:=by rw[e];exact List.map_snd_zip (by rw[Qd];lia)
  refine⟨_,.dict (kvs:=kvs) e1 e2 e3 (by rw[f1];exact hkeys) (by rw[f2,NJ ps];exact rb),?_⟩;simp only[List.cons_append,Jp,QM,not_or];refine⟨?_,hn⟩;intro z;rw[←z]at p0;simp at p0
 |_,_,_,.dtt e _ _ _,r,c=>by subst e;simp[Kk,layKv,YG,pdD]at c
theorem readsAll_z(I:Inv X pins σ H s)(sg:Same G H)(hK:SmK X.K):∀{vs:List V}{ds:B4}{us:B5},Reps X.K G vs ds->Vals vs us->Yy ds=B2->∃as,ReadsAll s.heap us ds as/\sysModules∉as
 |_,_,_,.nil,r,_=>by cases r;exact⟨_,.nil,by simp⟩
 |_,_,_,.cons h t,r,c=>by
  cases r with
  |cons r1 r2=>have c':=c;rw[Yy,Qn]at c';obtain⟨as,ra,n1⟩:=PU I sg hK h r1 c'.1;obtain⟨bs,rb,n2⟩:=readsAll_z I sg hK t r2 c'.2;exact⟨_,.cons ra rb,by simp[n1,n2]⟩
end
end
section
variable{X:Cx}
noncomputable def YS:B4->B9
 |[d]=>if Kk d=B2/\d.showable=B2/\d.depth<=50/\d.shown.length<=1000000 then O (.str d.shown)else B0
 |_=>B0
theorem CH(hu:X.A.units+64<cLine)(hg:X.A.guards=O [])(hK:SmK X.K):ZA X (.builtin "repr") (λxs H Q=>∃G v d,xs=[v]/\Same G H/\Rep X.K G v d/\Kk d=B2/\d.showable=B2/\d.depth<=50/\d.shown.length<=1000000/\Q (.str d.shown) H):=by
 intro pins s σ H xs us Q I rx h;obtain⟨G,v,d,rfl,sg,r,c1,c2,c4,c5,q⟩:=h;obtain⟨u,rfl,ru⟩:=rx.one;obtain⟨as,ra,hn⟩:=PU I sg hK r ru c1;have fin:∀h'(t:Tok) tk,(∀b o,s.heap.get? b=O o->h'.get? b=O o)->EP X pins σ Q (.str d.shown t) {s with heap:=h',toks:=tk}:=λh' t tk hk=>⟨.str d.shown,H,I.kept hk,⟨t,rfl⟩,q⟩
 cases r with
 |non=>cases ru;exact P.repr_of_none (fin s.heap _ _ λ_ _ e=>e)
 |bl b=>cases ru;exact P.repr_of_bool (fin s.heap _ _ λ_ _ e=>e)
 |int i=>obtain⟨t,rfl⟩:=ru;exact P.repr_of_int (by have:(int i).showable=B2:=c2;simpa[PyData.showable]using this) (fin s.heap _ _ λ_ _ e=>e)
 |str x=>obtain⟨t,rfl⟩:=ru;exact P.repr_of_str (fin s.heap _ _ λ_ _ e=>e) (Qq c5 lim)
 |lst h r=>cases ru;exact repr_of_reads' ra c2 (λ_=>hn) hg (by lia) (λ_ _ e=>e) (λh' t tk hk=>fin h' t tk hk) (Qq c5 lim)
 |tup h r=>cases ru;exact repr_of_reads' ra c2 (λ_=>hn) hg (by lia) (λ_ _ e=>e) (λh' t tk hk=>fin h' t tk hk) (Qq c5 lim)
 |dic h=>cases ru;exact repr_of_reads' ra c2 (λ_=>hn) hg (by lia) (λ_ _ e=>e) (λh' t tk hk=>fin h' t tk hk) (Qq c5 lim)
 |exc _ _ _ _=>simp[Kk,layKv,YG]at c1
 |dct _ _ _ _ _=>cases ru;exact repr_of_reads' ra c2 (λ_=>hn) hg (by lia) (λ_ _ e=>e) (λh' t tk hk=>fin h' t tk hk) (Qq c5 lim)
 |dtt e _ _ _=>subst e;simp[Kk,layKv,YG,pdD]at c1
theorem Fu(hu:X.A.units+64<cLine)(hg:X.A.guards=O [])(hK:SmK X.K):Xa X (.builtin "repr") YS:=by
 refine⟨_,CH hu hg hK,λvs G H ds d Q s r e k=>?_⟩;unfold YS at e;split at e
 .split at e
  .rename_i x c
   cases e;obtain⟨v,rfl,q1⟩:=r.one_inv;exact⟨G,v,_,rfl,s,q1,c.1,c.2.1,c.2.2.1,c.2.2.2,k _ G H (.refl s) (.str _)⟩
  .cases e
 .cases e
theorem Cj{d:D}(c:Kk d=B2/\d.showable=B2/\d.depth<=50/\d.shown.length<=1000000):YS [d]=O (.str d.shown):=by unfold YS;exact Qr c
noncomputable def Z7:D->D->Af
 |.str a,.str b=>O (!(a==b))
 |_,_=>B0
theorem MN:OpB X (J6 .NotEq) Z7:=by
 refine⟨λv u H Q=>∃a b,v=.str a/\u=.str b/\Q (.bl (!(a==b))) H,?_,λv u G H x y d Q s rx ry e k=>?_⟩
 .intro pins s σ H x y v u Q I rx ry h
  obtain⟨a,b,rfl,rfl,q⟩:=h;obtain⟨t,rfl⟩:=rx;obtain⟨t2,rfl⟩:=ry;exact SeqAt.RcNeAt.str_str a t b t2 X.prog X.w X.xe _ ⟨.bl _,H,I,rfl,q⟩
 .unfold Z7 at e
  split at e
  .cases e
   exact⟨_,_,rx.str_inv,ry.str_inv,k⟩
  .cases e
theorem Ra{a:Str}:Z7 (.str a) (.str a)=O B3:=by unfold Z7;simp
end
end DL
namespace L2
open PySem PySem.Spec PyProof.Rows
end L2
namespace DL
open PySem PySem.Spec L2
open PyProof.Rows hiding St
end DL
namespace L2
open PySem PySem.Spec PyProof.Rows
end L2
namespace DL
open PySem PySem.Spec L2
open PyProof.Rows hiding St
end DL
namespace L2
open PySem PySem.Spec PyProof.Rows
end L2
namespace DL
open PySem PySem.Spec L2
open PyProof.Rows hiding St
theorem EOk.lent{K:Frag}{B G0 G H:Hp}{σ:St}{ρ:Um}(k:EOk K B G0 G H σ ρ):EOk K H H H H σ (KG ρ) where
 bh:=.refl _
 gh:=.refl _
 g0:=.refl _
 np:=λ_ _ e n=>by rw[n]at e;cases e
 len:=by unfold KG;rw[Qd];exact k.len
 pub:=λi d e=>by
  rcases O7 e with e2|⟨ds,rfl,e2⟩|⟨p,e2⟩
  .exact k.tree (by unfold VH;rw[e2])
  .exact k.tree (by unfold VH;rw[e2])
  .exact k.tree (by unfold VH;rw[e2])
 own:=λi ds e=>(Vp e).elim
 sep:=λi j a ds es e=>(Vp e).elim
 dp:=.of (λ_ _ _ q=>NN q) λ_ _ q=>Vp q
theorem EOk.back{K:Frag}{B G0 G H H':Hp}{σ:St}{ρ:Um}(k:EOk K B G0 G H σ ρ)(e:Same H H'):EOk K B G0 G H' σ ρ:=k.ext ⟨e,.refl _,k.gh.trans e,λ_ _ _ n=>n⟩
noncomputable def Wn(f:M Bool):M Bool:=λρ=>match f (KG ρ)with
 |.ok b _=>.ok b ρ
 |.bad=>.bad
section
variable{X:Cx}{B G0:Hp}{KX:XW}{e a b c tg iter:JZ}{pos:Pos}
theorem Ev{f:M Bool}(h:∀B' G',PT X e (tBo X.K B' G' f)):PT X e (tBo X.K B G0 (Wn f)):=by
 have h':PT X e (λσ H Q=>∃B' G',tBo X.K B' G' f σ H Q):=λpins s σ H Q I ⟨B',G',q⟩=>h B' G' pins s σ H Q I q;refine Z6 h' λσ H Q ⟨G,ρ,k,a⟩=>⟨H,H,H,KG ρ,k.lent,?_⟩;unfold Wn at a
 cases z:f (KG ρ)with
 |bad=>rw[z]at a;exact a.elim
 |ok t ρ'=>rw[z]at a;dsimp only at a⊢;exact λv G' H' k' s' r=>a v G H' (k.back k'.bh) (.refl _) r
end
theorem PR{f:M Bool}{ρ ρ':Um}{b:Bool}(h:f (KG ρ)=.ok b ρ'):Wn f ρ=.ok b ρ:=by unfold Wn;rw[h]
end DL
namespace L2
open PySem PySem.Spec PyProof.Rows
end L2
namespace DL
open PySem PySem.Spec L2
open PyProof.Rows hiding St
end DL
namespace L2
open PySem PySem.Spec PyProof.Rows
end L2
namespace DL
open PySem PySem.Spec L2
open PyProof.Rows hiding St
theorem Pg{α:Type}(a:α):[a].Nodup:=by simp
section
variable{K:Frag}{B G0 G H:Hp}{σ:St}{ρ:Um}
structure NewT(K:Frag)(B G H:Hp)(σ:St)(ρ:Um)(pt:Pat)(v:V)(d:D)(fp:Aa):Prop where
 r:RepO K G H pt v d fp
 nd:fp.Nodup
 b:∀a∈fp,B a=B0/\G a=B0
 f:∀a∈fp,∀(j:Nat) es,ρ[j]?=O (O (.own es))->σ[j]?≠O (O (.ref a))
 dp:∀a∈fp,∀(j:Nat) p d v fp',ρ[j]?=O (O (.deep p d))->σ[j]?=O (O v)->RepO K G H p v d fp'->a∉fp'
theorem EOk.setDeep{i:Nat}{pt:Pat}{v:V}{d:D}{fp:Aa}(k:EOk K B G0 G H σ ρ)(n:NewT K B G H σ ρ pt v d fp)(hi:i<ρ.length):EOk K B G0 G H (σ.set i (O v)) (ρ.set i (O (.deep pt d))) where
 bh:=k.bh
 gh:=k.gh
 g0:=k.g0
 np:=k.np
 len:=by rw[QQ,QQ];exact k.len
 pub:=λj d' q=>by
  by_cases z:i=j
  .subst z;have:=Kp q;cases this
  .rw[Qi z]at q⊢
   exact k.pub j d' q
 own:=λj es q=>by
  by_cases z:i=j
  .subst z;have:=Kp q;cases this
  .rw[Qi z]at q⊢
   exact k.own j es q
 sep:=λj l c es fs q1 q2 s1 s2=>by
  have z1:i≠j:=λz=>by subst z;have:=Kp q1;cases this
  have z2:i≠l:=λz=>by subst z;have:=Kp q2;cases this
  rw[Qi z1]at q1 s1;rw[Qi z2]at q2 s2;exact k.sep j l c es fs q1 q2 s1 s2
 dp:=by
  obtain⟨ω,k1,k2⟩:=k.dp;have hs:i<σ.length:=by rw[←k.len];exact hi
  refine⟨λb=>if b∈fp then i else ω b,λj p d' q=>?_,λj es b q s=>?_⟩
  .by_cases z:i=j
   .subst z
    have:=Kp q;cases this;exact⟨v,fp,QL hs,n.r,n.nd,λa m=>⟨(n.b a m).1,(n.b a m).2,Qr m⟩⟩
   .rw[Qi z]at q⊢
    obtain⟨v',fp',s,r,nn,w⟩:=k1 j p d' q;refine⟨v',fp',s,r,nn,λb m=>⟨(w b m).1,(w b m).2.1,?_⟩⟩;dsimp only;rw[QD (λz=>n.dp b z j p d' v' fp' q s r m)];exact(w b m).2.2
  .by_cases z:i=j
   .subst z;have:=Kp q;cases this
   .rw[Qi z]at q s
    dsimp only;rw[QD (λz=>n.f b z j es q s)];exact k2 j es b q s
theorem EOk.newT{G' H':Hp}{pt:Pat}{v:V}{d:D}{fp:Aa}(k1:EOk K B G0 G H σ ρ)(sh:Same H H')(r:RepO K G' H' pt v d fp)(nd:fp.Nodup)(fr:∀a∈fp,H a=B0/\G' a=B0):NewT K B G' H' σ ρ pt v d fp where
 r:=r
 nd:=nd
 b:=λa m=>⟨k1.bh.free (fr a m).1,(fr a m).2⟩
 f:=λa m j es q w=>by obtain⟨b,us,g1,g2,g3,g4,g5⟩:=k1.own j es q;rw[g1]at w;cases w;rw[(fr a m).1]at g4;cases g4
 dp:=λa m j p d v fp' q s r=>k1.freshD sh (fr a m).1 q s r
theorem EOk.forget{i:Nat}(k:EOk K B G0 G H σ ρ):EOk K B G0 G H σ (ρ.set i B0):=by
 have nz:∀{m:Nat}{s:Sl},(ρ.set i B0)[m]?=O (O s)->ρ[m]?=O (O s):=λ{m s} q=>by
  by_cases z:i=m
  .subst z;have:=Kp q;cases this
  .rw[Qi z]at q;exact q
 exact⟨k.bh,k.gh,k.g0,k.np,by rw[QQ];exact k.len,λj d q=>k.pub j d (nz q),λj ds q=>k.own j ds (nz q),λj l c es fs q1 q2 s1 s2=>k.sep j l c es fs (nz q1) (nz q2) s1 s2,
  k.dp.map (λm p d q=>⟨nz q,rfl⟩) (λm es q=>⟨es,nz q,rfl⟩) λm p d v fp q s r w n=>⟨r,w⟩⟩
theorem RepOl.leaf:∀{vs:List V}{ds:B4},Reps K G vs ds->RepOl K G H .leaf vs ds []
 |_,_,.nil=>.nil
 |_,_,.cons h t=>.cons (f1:=[]) (f2:=[]) (.leaf h) (RepOl.leaf t)
theorem RepOl.append{p:Pat}:∀{vs ws:List V}{ds es:B4}{f1 f2:Aa},RepOl K G H p vs ds f1->RepOl K G H p ws es f2->RepOl K G H p (vs++ws) (ds++es) (f1++f2)
 |_,_,_,_,_,_,.nil,s=>s
 |_,_,_,_,_,_,.cons r t,s=>by rw[Jf];exact .cons r (RepOl.append t s)
theorem RepOl.length{p:Pat}:∀{vs:List V}{ds:B4}{fp:Aa},RepOl K G H p vs ds fp->vs.length=ds.length
 |_,_,_,.nil=>rfl
 |_,_,_,.cons _ t=>by rw[QB,QB,RepOl.length t]
noncomputable def ZS(ρ:Um)(i:Nat):Option (Pat×D):=match ρ[i]? with
 |some (O (.own ds))=>O (.lst .leaf,.list ds)
 |some (O (.deep p d))=>O (p,d)
 |_=>B0
theorem EOk.slots(k:EOk K B G0 G H σ ρ):∃ω:JX->Nat,∀(i:Nat) p d,ZS ρ i=O (p,d)->∃v fp,σ[i]?=O (O v)/\RepO K G H p v d fp/\fp.Nodup/\∀a∈fp,B a=B0/\G a=B0/\ω a=i:=by
 obtain⟨ω,k1,k2⟩:=k.dp;refine⟨ω,λi p d h=>?_⟩;unfold ZS at h;split at h
 .rename_i ds q
  cases h;obtain⟨a,vs,h1,h2,h3,h4,h5⟩:=k.own i ds q;refine⟨.ref a,[a],h1,.lst h4 (.leaf h5),Pg a,λb m=>?_⟩;rw[QJ.mp m];exact⟨h2,h3,k2 i ds a q h1⟩
 .rename_i p' d' q
  cases h;exact k1 i p d q
 .cases h
end
noncomputable def tT(K:Frag)(B G0:Hp)(pt:Pat)(f:M D):TE:=λσ H Q=>∃G ρ,EOk K B G0 G H σ ρ/\match f ρ with
 |.ok d ρ'=>∀v fp G' H',EOk K B G0 G' H' σ ρ'->Same G G'->NewT K B G' H' σ ρ' pt v d fp->Q v H'
 |.bad=>False
noncomputable def Y7(i:Nat)(pt:Pat)(f:M D):SM:=sB f λd ρ=>if i<ρ.length then .nx (ρ.set i (O (.deep pt d)))else .bad
noncomputable def spT(K:Frag)(n:Nat)(pt:Pat)(F:B4->B9):Sp:=λvs H Q _=>∃G ds d,vs.length=n/\Same G H/\Reps K G vs ds/\F ds=O d/\∀v fp G' H',Ext G H G' H'->RepO K G' H' pt v d fp->fp.Nodup->(∀a∈fp,H a=B0/\G' a=B0)->Q v H'
noncomputable def tST(K:Frag)(B G0:Hp)(pt:Pat)(g:SM)(f:M D):TS:=λDn σ H=>∃G ρ,EOk K B G0 G H σ ρ/\match g ρ with
 |.nx ρ1=>(match f ρ1 with
  |.ok d _=>∀v fp G' H',Ext G0 B G' H'->RepO K G' H' pt v d fp->fp.Nodup->(∀a∈fp,B a=B0/\G' a=B0)->Dn.rt v H'
  |.bad=>False)
 |_=>False
noncomputable def YM(N:List Str)(g:SM)(f:M D)(ds:B4):B9:=match g (KQ N ds)with
 |.nx ρ=>(match f ρ with
  |.ok r _=>O r
  |.bad=>B0)
 |_=>B0
def DefT(P:JW)(w:World)(K:Frag)(mg:Str->B7)(base:Heap)(x:Str)(k n:Nat)(pt:Pat)(F:B4->B9):Prop:=
 ∃(f:JX)(fd:JY)(ps:List Str),mg x=O (.ref f)/\PySem.W.keepIn K (.ref f)=B2/\Ze K fd ps []/\FnOk P w K mg base CX0 k f fd ps (spT K n pt F)
section
variable{X:Cx}{B G0:Hp}{KX:XW}{e o a b c:JZ}{pos:Pos}{es:B8}{st:Stmt}{sts:List Stmt}{pt:Pat}
theorem Ft{i:Nat}{x:Str}{f:M D}{p2:Pos}(hN:X.N.Nodup)(hi:X.N[i]?=O x)(hx:Loc X.env.scope x)(he:PE X e (tT X.K B G0 pt f))(hs:swapsWith e (O (.Name x p2)) pos.line X.env=pure B3:=by rfl)
  (hf:X.fn x=B2∨X.env.scope.names.lookup x=O .local:=by first|exact .inl rfl|exact .inr rfl|assumption):PS X (.Assign [.Name x p2] e pos) (tS X.K B G0 KX (Y7 i pt f)):=
 U9 (Tu hN hi hx he hs hf) λD σ H ⟨G,ρ,k,a⟩=>by
  refine⟨G,ρ,k,?_⟩;unfold Y7 sB at a;cases z:f ρ with
  |bad=>rw[z]at a;exact a.elim
  |ok ds ρ1=>
   rw[z]at a;intro v fp G' H' k' s' n;dsimp only at a;split at a
   .rename_i hl
    exact a _ G' H' (k'.setDeep n hl) s'
   .exact a.elim
theorem NewL.tree{K:Frag}{G H:Hp}{σ:St}{ρ:Um}{ad:JX}{vs:List V}{ds:B4}(n:NewL K B G H σ ρ ad vs ds){p:Pat}(r:RepOl K G H p vs ds []):NewT K B G H σ ρ (.lst p) (.ref ad) (.list ds) [ad] where
 r:=.lst n.h r
 nd:=Pg ad
 b:=λb m=>by rw[QJ.mp m];exact⟨n.b,n.g⟩
 f:=λb m=>by rw[QJ.mp m];exact n.f
 dp:=λb m=>by rw[QJ.mp m];exact n.dp
theorem Fs{f:M B4}(h:PE X e (tL X.K B G0 f)):PE X e (tT X.K B G0 (.lst .leaf) (UA J9 f)):=UK h λσ H Q ⟨G,ρ,k,a⟩=>by
 refine⟨G,ρ,k,?_⟩;unfold UA UD at a;cases z:f ρ with
 |bad=>rw[z]at a;exact a.elim
 |ok ds ρ1=>rw[z]at a;intro ad vs G' H' k' s' n;exact a _ _ G' H' k' s' (n.tree (.leaf n.r))
theorem Pf{f:M D}(h:PE X e (tT X.K B G0 pt f)):PSs X [.Return (O e) pos] (tST X.K B G0 pt sNx f):=Wj (Vh (Pt h)) λD σ H ⟨G,ρ,k,a⟩=>by
 refine⟨G,ρ,k,?_⟩;dsimp only[sNx]at a;cases z:f ρ with
 |bad=>rw[z]at a;exact a.elim
 |ok ds ρ'=>rw[z]at a;exact λv fp G' H' k' s' n=>a v fp G' H' k'.exit n.r n.nd n.b
theorem Fq{g h:SM}{f:M D}(h1:PS X st (tS X.K B G0 KX0 g))(h2:PSs X sts (tST X.K B G0 pt h f)):PSs X (st::sts) (tST X.K B G0 pt (Us g h) f):=Wj (Wx h1 h2) λD σ H ⟨G,ρ,k,a⟩=>by
 refine⟨G,ρ,k,?_⟩;unfold Us at a;cases z:g ρ with
 |nx ρ1=>rw[z]at a;exact λσ' G' H' k' s'=>⟨G',ρ1,k',a⟩
 |rt d=>rw[z]at a;exact a.elim
 |ro ds=>rw[z]at a;exact a.elim
 |bk ρ1=>rw[z]at a;exact a.elim
 |ct ρ1=>rw[z]at a;exact a.elim
 |ex ρ1 d=>rw[z]at a;exact a.elim
 |bad=>rw[z]at a;exact a.elim
theorem okT{P:JW}{w:World}{K:Frag}{mg:Str->B7}{base:Heap}{x qual:Str}{st:Stmt}{f:JX}{fd:JY}{N ps:List Str}{k n:Nat}{g:SM}{q:M D}(F:Fun K x qual st f fd)(S:Xj N ps (Kb st))(hn:ps.length=n)
  (der:∀(cdv:JU)(A:Around)(outer:List Env)(s:JV)(H:Hp)(E:XK)(B G0:Hp),Room k (A.deeper (envOfC qual (Kb st) s.heap.objs.size f cdv)) ->
   PSs (Kl CX0 P w K mg base N qual (Kb st) f cdv A outer s H E).nox (K5 st) (tST K B G0 pt g q)):FnOk P w K mg base CX0 (k+1) f fd ps (spT K n pt (YM N g q)):=by
 refine F.ok S (λvs H Q E h=>?_) (λcdv A outer s H vs Q E hr h=>?_)
 .obtain⟨_,_,_,hl,_⟩:=h
  rw[hl,hn]
 .obtain⟨G,ds,d,hl,sg,r,hF,qq⟩:=h
  refine⟨_,der cdv A outer s H E H G hr,G,KQ N ds,Rf sg r,?_⟩;unfold YM at hF;cases z:g (KQ N ds)with
  |nx ρ=>
   rw[z]at hF;dsimp only at hF⊢;cases z2:q ρ with
   |bad=>rw[z2]at hF;cases hF
   |ok d' ρ'=>rw[z2]at hF;cases hF;exact λv fp G' H' ex rr nd fr=>qq v fp G' H' ex rr nd fr
  |rt d'=>rw[z]at hF;cases hF
  |ro ds=>rw[z]at hF;cases hF
  |bk ρ=>rw[z]at hF;cases hF
  |ct ρ=>rw[z]at hF;cases hF
  |ex ρ d=>rw[z]at hF;cases hF
  |bad=>rw[z]at hF;cases hF
theorem Eu{k kk n:Nat}{F:B4->B9}{g:M B4}{x:Str}{p2:Pos}(d:DefT X.prog X.w X.K X.mg X.base x k n pt F)(hr:Room kk X.A)(hg:Gl X x)(ha:PA X (e::es) (tDs X.K B G0 g))(hk:k<=kk:=by decide)(hn:(e::es).length=n:=by rfl)
  (hdb:(x==("__debug__" : Str))=B3:=by decide) (he:J5 (e::es) X.env=(B3,eval e X.env)::J5 es X.env:=by rfl) (hpl:(backTo pos (J5 es X.env)).any (·.1)=B3:=by rfl) :
  PE X (.Call (.Name x p2) (e::es) [] pos) (tT X.K B G0 pt (UC n F g)):=by
 obtain⟨f,fd,ps,h1,h2,h3,h4⟩:=d;refine UK (Oh h4 (hr.mono hk) hg h1 h2 h3 .nil Sq ha hdb he hpl) λσ H Q ⟨G,ρ,kk0,a⟩=>?_
 refine⟨G,ρ,kk0,?_⟩;unfold UC UD at a;cases z:g ρ with
 |bad=>rw[z]at a;exact a.elim
 |ok xs ρ1=>
  rw[z]at a;dsimp only at a⊢;intro vs G1 H1 k1 s1 r1;by_cases hl:xs.length=n
  .rw[Qr hl]at a
   unfold UB at a;cases zf:F xs with
   |none=>rw[zf]at a;exact a.elim
   |some r=>rw[zf]at a;dsimp only at a;refine⟨G1,xs,r,by rw[QT,r1.length];exact hl,k1.gh,by rw[QT];exact r1,zf,λv fp G' H' ex rr nd fr=>?_⟩;exact a v fp G' H' (k1.ext ex) (s1.trans ex.g) (k1.newT ex.h rr nd fr)
  .rw[QD hl]at a
   exact a.elim
end
section
variable{K:Frag}{B G0 G H:Hp}{σ:St}{ρ:Um}
inductive MOp where
 |rev|clr|app (d:D)|set (k:Nat) (d:D)
noncomputable def MOp.dOf:MOp->Pat->B4->Option B4
 |.rev,_,ds=>O ds.reverse
 |.clr,_,_=>O []
 |.app d,.leaf,ds=>if ds.length<1000000 then O (ds++[d])else B0
 |.set k d,.leaf,ds=>if k<ds.length then O (ds.set k d)else B0
 |_,_,_=>B0
noncomputable def MOp.vOf:MOp->V->List V->List V
 |.rev,_,vs=>vs.reverse
 |.clr,_,_=>[]
 |.app _,u,vs=>vs++[u]
 |.set k _,u,vs=>vs.set k u
noncomputable def MOp.arg(K:Frag)(G:Hp):MOp->V->Prop
 |.app d,u=>Rep K G u d
 |.set _ d,u=>Rep K G u d
 |_,_=>True
theorem MOp.app_inv{d:D}{p:Pat}{ds ds':B4}(e:(MOp.app d).dOf p ds=O ds'):p=.leaf/\ds.length<1000000/\ds'=ds++[d]:=by
 cases p with
 |leaf=>
  have e:(if ds.length<1000000 then O (ds++[d])else B0)=O ds':=e;split at e
  .rename_i h;exact⟨rfl,h,(Q7 e).symm⟩
  .cases e
 |lst _=>cases e
 |tup _=>cases e
 |dic=>cases e
theorem MOp.set_inv{d:D}{k:Nat}{p:Pat}{ds ds':B4}(e:(MOp.set k d).dOf p ds=O ds'):p=.leaf/\k<ds.length/\ds'=ds.set k d:=by
 cases p with
 |leaf=>
  have e:(if k<ds.length then O (ds.set k d)else B0)=O ds':=e;split at e
  .rename_i h;exact⟨rfl,h,(Q7 e).symm⟩
  .cases e
 |lst _=>cases e
 |tup _=>cases e
 |dic=>cases e
theorem RepOl.leaf_inv:∀{vs:List V}{ds:B4}{fp:Aa},RepOl K G H .leaf vs ds fp->Reps K G vs ds/\fp=[]
 |_,_,_,.nil=>⟨.nil,rfl⟩
 |_,_,_,.cons (.leaf r) t=>by obtain⟨r2,e⟩:=RepOl.leaf_inv t;subst e;exact⟨.cons r r2,rfl⟩
theorem RepOl.reverse{p:Pat}:∀{vs:List V}{ds:B4}{fp:Aa},RepOl K G H p vs ds fp->∃fp',RepOl K G H p vs.reverse ds.reverse fp'/\fp'.Perm fp
 |_,_,_,.nil=>⟨[],.nil,.refl _⟩
 |_,_,_,.cons (f1:=f1) (f2:=f2) r t=>by obtain⟨f,r2,e⟩:=RepOl.reverse t;refine⟨f++(f1++[]),by rw[JC,JC];exact r2.append (.cons r .nil),?_⟩;rw[QT];exact(e.append_right f1).trans List.perm_append_comm
theorem MOp.ok{op:MOp}{p:Pat}{vs:List V}{ds ds':B4}{fp:Aa}{u:V}(r:RepOl K G H p vs ds fp)(e:op.dOf p ds=O ds')(ha:op.arg K G u):∃fp',RepOl K G H p (op.vOf u vs) ds' fp'/\(∀b∈fp',b∈fp)/\(fp.Nodup->fp'.Nodup):=by
 cases op with
 |rev=>cases e;obtain⟨fp',r2,pm⟩:=r.reverse;exact⟨fp',r2,λb m=>pm.mem_iff.mp m,λn=>pm.nodup_iff.mpr n⟩
 |clr=>cases e;exact⟨[],.nil,(λb m=>by simp at m),λ_=>List.nodup_nil⟩
 |app d=>obtain⟨rfl,_,rfl⟩:=MOp.app_inv e;obtain⟨r2,rfl⟩:=r.leaf_inv;exact⟨[],.leaf (r2.append (.cons ha .nil)),λb m=>m,λn=>n⟩
 |set k d=>obtain⟨rfl,_,rfl⟩:=MOp.set_inv e;obtain⟨r2,rfl⟩:=r.leaf_inv;exact⟨[],.leaf (r2.set ha k),λb m=>m,λn=>n⟩
noncomputable def Yx(op:MOp):Ad->Pat->D->B9
 |[],.lst p,.list ds=>(op.dOf p ds).map .list
 |k::r,.lst p,.list ds=>(ds[k]?).bind λd=>(Yx op r p d).map λd'=>.list (ds.set k d')
 |k::r,.tup ps,.tuple ds=>(ps[k]?).bind λp=>(ds[k]?).bind λd=>(Yx op r p d).map λd'=>.tuple (ds.set k d')
 |_,_,_=>B0
noncomputable def ZD(H:Hp):Ad->V->Option V
 |[],v=>O v
 |k::r,.ref a=>match H a with
  |some (.lst vs)=>(vs[k]?).bind (ZD H r)
  |some (.tup vs)=>(vs[k]?).bind (ZD H r)
  |_=>B0
 |_::_,_=>B0
theorem RepOl.at{p:Pat}:∀{vs:List V}{ds:B4}{fp:Aa}{k:Nat}{d:D},RepOl K G H p vs ds fp->ds[k]?=O d->fp.Nodup->∃v f,vs[k]?=O v/\RepO K G H p v d f/\f.Nodup/\(∀b∈f,b∈fp) /\
  ∀a∈f,(∀ws,H a≠O (.tup ws))->∀o d' f',RepO K G (L2.upd H a o) p v d' f'->f'.Nodup->(∀b∈f',b∈f)->∃fp',RepOl K G (L2.upd H a o) p vs (ds.set k d') fp'/\fp'.Nodup/\∀b∈fp',b∈fp
 |_,_,_,_,_,.nil,e,_=>by cases e
 |_,_,_,0,_,.cons (f1:=f1) (f2:=f2) r t,e,n=>by
  cases e;obtain⟨n1,n2,nn⟩:=QH.mp n;refine⟨_,f1,rfl,r,n1,λb m=>Qs _ m,λa m nt o d' f' r' At sub=>⟨f'++f2,.cons r' (t.upd nt (λm2=>nn a m a m2 Z)),QH.mpr ⟨At,n2,λx hx y hy=>nn x (sub x hx) y hy⟩,λb m=>?_⟩⟩;rcases QG.mp m with m|m
  .exact Qs _ (sub b m)
  .exact Qm _ m
 |_,_,_,k+1,d,.cons (f1:=f1) (f2:=f2) r t,e,n=>by
  obtain⟨n1,n2,nn⟩:=QH.mp n;obtain⟨v,f,h1,h2,h3,h4,h5⟩:=RepOl.at (k:=k) (d:=d) t (by simpa using e) n2;refine⟨v,f,by simpa using h1,h2,h3,λb m=>List.mem_append_right _ (h4 b m),λa m nt o d' f' r' At sub=>?_⟩;obtain⟨fp',g1,g2,g3⟩:=h5 a m nt o d' f' r' At sub;refine⟨f1++fp',.cons (r.upd nt (λm2=>nn a m2 a (h4 a m) Z)) g1,QH.mpr ⟨n1,g2,λx hx y hy=>nn x hx y (g3 y hy)⟩,λb m=>?_⟩;rcases QG.mp m with m|m
  .exact Qs _ m
  .exact Qm _ (g3 b m)
theorem RepOs.at:∀{ps:List Pat}{vs:List V}{ds:B4}{fp:Aa}{k:Nat}{p:Pat}{d:D},RepOs K G H ps vs ds fp->ps[k]?=O p->ds[k]?=O d->fp.Nodup->∃v f,vs[k]?=O v/\RepO K G H p v d f/\f.Nodup/\(∀b∈f,b∈fp) /\
  ∀a∈f,(∀ws,H a≠O (.tup ws))->∀o d' f',RepO K G (L2.upd H a o) p v d' f'->f'.Nodup->(∀b∈f',b∈f)->∃fp',RepOs K G (L2.upd H a o) ps vs (ds.set k d') fp'/\fp'.Nodup/\∀b∈fp',b∈fp
 |_,_,_,_,_,_,_,.nil,_,e,_=>by cases e
 |_,_,_,_,0,_,_,.cons (f1:=f1) (f2:=f2) r t,e0,e,n=>by
  cases e;cases e0;obtain⟨n1,n2,nn⟩:=QH.mp n;refine⟨_,f1,rfl,r,n1,λb m=>Qs _ m,λa m nt o d' f' r' At sub=>⟨f'++f2,.cons r' (t.upd nt (λm2=>nn a m a m2 Z)),QH.mpr ⟨At,n2,λx hx y hy=>nn x (sub x hx) y hy⟩,λb m=>?_⟩⟩;rcases QG.mp m with m|m
  .exact Qs _ (sub b m)
  .exact Qm _ m
 |_,_,_,_,k+1,p,d,.cons (f1:=f1) (f2:=f2) r t,e0,e,n=>by
  obtain⟨n1,n2,nn⟩:=QH.mp n;obtain⟨v,f,h1,h2,h3,h4,h5⟩:=RepOs.at (k:=k) (p:=p) (d:=d) t (by simpa using e0) (by simpa using e) n2;refine⟨v,f,by simpa using h1,h2,h3,λb m=>List.mem_append_right _ (h4 b m),λa m nt o d' f' r' At sub=>?_⟩;obtain⟨fp',g1,g2,g3⟩:=h5 a m nt o d' f' r' At sub;refine⟨f1++fp',.cons (r.upd nt (λm2=>nn a m2 a (h4 a m) Z)) g1,QH.mpr ⟨n1,g2,λx hx y hy=>nn x hx y (g3 y hy)⟩,λb m=>?_⟩;rcases QG.mp m with m|m
  .exact Qs _ m
  .exact Qm _ (g3 b m)
theorem RepO.mut{op:MOp}{u:V}(ha:op.arg K G u):∀(path:Ad){p:Pat}{v:V}{d d':D}{fp:Aa},RepO K G H p v d fp->fp.Nodup->Yx op path p d=O d'->∃a vs,ZD H path v=O (.ref a)/\a∈fp/\H a=O (.lst vs) /\
  (∃q ds ds',vs.length=ds.length/\op.dOf q ds=O ds')/\∃fp',RepO K G (L2.upd H a (.lst (op.vOf u vs))) p v d' fp'/\fp'.Nodup/\∀b∈fp',b∈fp
 |[],p,v,d,d',fp,r,n,e=>by
  cases r with
  |leaf r=>cases e
  |tup h r=>cases e
  |dic _ _ h r=>cases e
  |lst h r=>
   rename_i p a vs ds fp;unfold Yx at e;cases z:op.dOf p ds with
   |none=>rw[z]at e;cases e
   |some ds'=>
   rw[z]at e;cases e;obtain⟨na,nf⟩:=Jc.mp n;obtain⟨fp',r',sub,nn⟩:=MOp.ok r z ha;refine⟨a,vs,rfl,Qk,h,⟨p,ds,ds',r.length,z⟩,a::fp',.lst UW (r'.upd (λws y=>by rw[h]at y;cases y) (λm=>na (sub a m))),Jc.mpr ⟨λm=>na (sub a m),nn nf⟩,λb m=>?_⟩;rcases QM.mp m with rfl|m
   .exact Qk
   .exact Qj _ (sub b m)
 |k::path,p,v,d,d',fp,r,n,e=>by
  cases r with
  |leaf r=>cases e
  |dic _ _ h r=>cases e
  |lst h r=>
   rename_i p a0 vs ds fp;unfold Yx at e;cases z:ds[k]? with
   |none=>rw[z]at e;cases e
   |some d0=>
   rw[z]at e;dsimp only[Option.bind_some]at e;cases z2:Yx op path p d0 with
   |none=>rw[z2]at e;cases e
   |some d1=>
   rw[z2]at e;cases e;obtain⟨na,nf⟩:=Jc.mp n;obtain⟨v0,f,h1,h2,h3,h4,h5⟩:=r.at z nf;obtain⟨a,ws,g1,g2,g3,g4,f',g5,g6,g7⟩:=RepO.mut ha path h2 h3 z2;have nt:∀us,H a≠O (.tup us):=λus y=>by rw[g3]at y;cases y
   obtain⟨fp',k1,k2,k3⟩:=h5 a g2 nt _ _ _ g5 g6 g7;have hne:a0≠a:=λy=>by subst y;exact na (h4 a0 g2)
   refine⟨a,ws,?_,Qj _ (h4 a g2),g3,g4,a0::fp',.lst (by rw[UI hne];exact h) k1,Jc.mpr ⟨λm=>na (k3 a0 m),k2⟩,λb m=>?_⟩
   .unfold ZD
    rw[h];dsimp only;rw[h1];exact g1
   .rcases QM.mp m with rfl|m
    .exact Qk
    .exact Qj _ (k3 b m)
  |tup h r=>
   rename_i ps a0 vs ds;unfold Yx at e;cases zp:ps[k]? with
   |none=>rw[zp]at e;cases e
   |some p0=>
   rw[zp]at e;dsimp only[Option.bind_some]at e;cases z:ds[k]? with
   |none=>rw[z]at e;cases e
   |some d0=>
   rw[z]at e;dsimp only[Option.bind_some]at e;cases z2:Yx op path p0 d0 with
   |none=>rw[z2]at e;cases e
   |some d1=>
   rw[z2]at e;cases e;obtain⟨v0,f,h1,h2,h3,h4,h5⟩:=r.at zp z n;obtain⟨a,ws,g1,g2,g3,g4,f',g5,g6,g7⟩:=RepO.mut ha path h2 h3 z2;have nt:∀us,H a≠O (.tup us):=λus y=>by rw[g3]at y;cases y
   obtain⟨fp',k1,k2,k3⟩:=h5 a g2 nt _ _ _ g5 g6 g7;have hne:a0≠a:=λy=>by subst y;rw[h]at g3;cases g3
   refine⟨a,ws,?_,h4 a g2,g3,g4,fp',.tup (by rw[UI hne];exact h) k1,k2,k3⟩;unfold ZD;rw[h];dsimp only;rw[h1];exact g1
noncomputable def Yo(K:Frag):Ad->V->Hp->VK->Prop
 |[],v,H,Q=>Q v H
 |k::r,v,H,Q=>rIx K v (.int k) H λu H'=>Yo K r u H' Q
noncomputable def ZI(K:Frag)(i:Nat)(path:Ad):TE:=λσ H Q=>∃v,σ[i]?=O (O v)/\Yo K path v H Q
theorem Et{v u:V}{Q Q':VK}(h:rIx K v u H Q)(i:∀w H',Q w H'->Q' w H'):rIx K v u H Q':=by
 rcases h with ⟨p,xs,j,w,a,b,c,d,q⟩|⟨p,xs,j,w,a,b,c,d,q⟩|⟨z,j,w,a,b,c,d,q⟩
 .exact .inl ⟨p,xs,j,w,a,b,c,d,i _ _ q⟩
 .exact .inr (.inl ⟨p,xs,j,w,a,b,c,d,i _ _ q⟩)
 .exact .inr (.inr ⟨z,j,w,a,b,c,d,i _ _ q⟩)
theorem NI{k:Nat}{Q:VK}:∀{path:Ad}{v:V}{H:Hp},Yo K (path++[k]) v H Q->Yo K path v H λx H1=>rIx K x (.int k) H1 Q
 |[],v,H,h=>h
 |j::r,v,H,h=>Et h λw H' q=>NI q
theorem Yo.of{Q:VK}:∀{path:Ad}{v u:V},ZD H path v=O u->Q u H->Yo K path v H Q
 |[],v,u,e,q=>by cases e;exact q
 |k::r,v,u,e,q=>by
  cases v with
  |ref a=>
   unfold ZD at e;split at e
   .rename_i vs h
    cases z:vs[k]? with
    |none=>rw[z]at e;cases e
    |some w=>rw[z]at e;exact .inl ⟨a,vs,k,w,rfl,rfl,SqL.of h,YC z,Yo.of e q⟩
   .rename_i vs h
    cases z:vs[k]? with
    |none=>rw[z]at e;cases e
    |some w=>rw[z]at e;exact .inr (.inl ⟨a,vs,k,w,rfl,rfl,SqT.of h,YC z,Yo.of e q⟩)
   .cases e
  |_=>cases e
end
section
variable{X:Cx}{B G0:Hp}{KX:XW}{e o a b c:JZ}{pos:Pos}{es:B8}
theorem X4{i:Nat}(h:PE X e (UZ i)):PE X e (ZI X.K i []):=h
theorem VP{i:Nat}{path:Ad}{k:Nat}{j}{p1:Pos}(h:PE X a (ZI X.K i path))(hs:TF (.Constant (.int (k:Int)) j p1):=by exact λ_ _=>rfl):PE X (.Subscript a (.Constant (.int (k:Int)) j p1) pos) (ZI X.K i (path++[k])):=
 UK (Sr SA h VG hs) λσ H Q ⟨v,hv,q⟩=>⟨v,hv,NI q⟩
noncomputable def VM(f:M D):M D:=λρ=>match f (KG ρ)with
 |.ok d _=>if flat d=B2 then .ok d ρ else .bad
 |.bad=>.bad
theorem Es{f:M D}(h:∀B' G',PE X e (tD X.K B' G' f)):PE X e (tD X.K B G0 (VM f)):=by
 have h':PE X e (λσ H Q=>∃B' G',tD X.K B' G' f σ H Q):=λpins s σ H Q I ⟨B',G',q⟩=>h B' G' pins s σ H Q I q;refine UK h' λσ H Q ⟨G,ρ,k,a⟩=>⟨H,H,H,KG ρ,k.lent,?_⟩;unfold VM at a
 cases z:f (KG ρ)with
 |bad=>rw[z]at a;exact a.elim
 |ok d ρ'=>
  rw[z]at a;dsimp only at a⊢;split at a
  .rename_i hf
   exact λv G' H' k' s' r=>a v G H' (k.back k'.bh) (.refl _) (r.flat hf)
  .exact a.elim
end
noncomputable def isT:Option HO->Bool
 |some (.tup _)=>B2
 |some (.frz _ (.tup _))=>B2
 |_=>B3
theorem L0{u:MO}:isT (O u.ho)=B3:=by cases u<;>rfl
noncomputable def Kx(fp:Aa)(G H:Hp):Hp:=λb=>if b∈fp∨isT (H b)=B2 then H b else G b
section
variable{K:Frag}{B G0 G H:Hp}{fp:Aa}
theorem Rh(gh:Same G H):Same G (Kx fp G H):=λb o e=>by
 unfold Kx;split
 .exact gh b o e
 .exact e
theorem Fp(gh:Same G H):Same (Kx fp G H) H:=λb o e=>by
 unfold Kx at e;split at e
 .exact e
 .exact gh b o e
theorem SQ{b:JX}(h:b∈fp∨isT (H b)=B2):Kx fp G H b=H b:=by unfold Kx;rw[Qr h]
theorem Fo{b:JX}(h:b∉fp)(h2:isT (H b)=B3):Kx fp G H b=G b:=by
 unfold Kx;rw[QD];rintro(z|z)
 .exact h z
 .rw[h2]at z;cases z
theorem RepO.give3(gh:Same G H):Zo K G H (λ_ v d f=>(∀b∈f,b∈fp)->Rep K (Kx fp G H) v d) (λ_ v d f=>(∀b∈f,b∈fp)->Reps K (Kx fp G H) v d) (λ_ v d f=>(∀b∈f,b∈fp)->Reps K (Kx fp G H) v d):=
 RepO.ind3 (λr _=>r.mono (Rh gh)) (λh r m=>.lst (SqL.of ((SQ (.inl (m _ Qk))).trans h)) (r λb z=>m b (Qj _ z))) (λh r m=>.tup (SqT.of ((SQ (.inr (by rw[h];rfl))).trans h)) (r m))
 (λ{a ks vs ds kvs} e hl h r m=>by
  have h':=(SQ (fp:=fp) (G:=G) (H:=H) (.inl (m _ Qk))).trans h;cases ks with
  |nil=>subst e;exact .dic h'
  |cons k ks=>exact .dct e (λz=>by cases z) hl h' (r.mono (Rh gh)))
 (λ_=>.nil) (λh t m=>.cons (h λb z=>m b (Qs _ z)) (t λb z=>m b (Qm _ z))) (λ_=>.nil) (λh t m=>.cons (h λb z=>m b (Qs _ z)) (t λb z=>m b (Qm _ z)))
theorem RepO.give(gh:Same G H){p:Pat}{v:V}{d:D}{f:Aa}(r:RepO K G H p v d f)(m:∀b∈f,b∈fp):Rep K (Kx fp G H) v d:=(RepO.give3 gh).1 r m
theorem Ext.pubT{G' H':Hp}(ex:Ext G H G' H')(fr:∀a∈fp,H a=B0):Ext G H (Kx fp G' H') H':=
 ⟨ex.h,ex.g.trans (Rh ex.gh),Fp ex.gh,λa u e n=>by rw[Fo (λm=>by rw[fr a m]at e;cases e) (by rw[ex.h a _ e];exact L0)];exact ex.np a u e n⟩
end
noncomputable def Pat.is:Pat->Pat->Bool
 |.leaf,.leaf=>B2
 |.lst p,.lst q=>p.is q
 |_,_=>B3
theorem Pat.is_eq:∀{p q:Pat},p.is q=B2->p=q
 |.leaf,.leaf,_=>rfl
 |.lst p,.lst q,h=>by rw[Pat.is_eq (p:=p) (q:=q) h]
 |.leaf,.lst _,h=>by cases h
 |.leaf,.tup _,h=>by cases h
 |.lst _,.leaf,h=>by cases h
 |.lst _,.tup _,h=>by cases h
 |.tup _,.leaf,h=>by cases h
 |.tup _,.lst _,h=>by cases h
 |.tup _,.tup _,h=>by cases h
section
variable{X:Cx}{B G0:Hp}{KX:XW}{e o a b c:JZ}{pos:Pos}{es:B8}{pt:Pat}
theorem DefT.def{P:JW}{w:World}{K:Frag}{mg:Str->B7}{base:Heap}{x:Str}{k n:Nat}{F:B4->B9}(d:DefT P w K mg base x k n pt F):Def P w K mg base x k n F:=by obtain⟨f,fd,ps,h1,h2,h3,h4⟩:=d;refine⟨f,fd,ps,h1,h2,h3,h4.imp λvs H Q E ⟨G,ds,d,hl,sg,r,hF,q⟩=>⟨G,ds,d,hl,sg,r,hF,λv fp G' H' ex rr nd fr=>?_⟩⟩;exact q v (Kx fp G' H') H' (ex.pubT λa m=>(fr a m).1) (rr.give ex.gh λb m=>m)
end
theorem Sw{q p:JW}{loose:List Str}{mean:ExcName->B7}{mg mb:Str->B7}{h:Heap}{ix:Ad}(P:JW)(w:World)(base:Heap){ps:List Str}{k n:Nat}{pt:Pat}{F:B4->B9}(T:PyProof.Rows.Top q loose mean mg mb h)(e:recsOf q=Ws p ix)(i:Nat)(x:Str)(hi:ix.contains i=B2)(hn:VN (UM p i)=O x)
  (ok:∀{f:JX}{fd:JY},Fun (whole h) x x (UM p i) f fd->FnOk P w (whole h) mg base CX0 k f fd ps (spT (whole h) n pt F))
  (hb:∀(kV doc pm:JU)(an:Ae)(cdv ct:JU)(us:B5),us.length=ps.length->bindArgs (PySem.W.fnOf x x (Yt (UM p i)) (K5 (UM p i)) (Kb (UM p i)) .none kV doc pm an cdv ct) ⟨us,[]⟩=pure (ps.zip us)):DefT P w (whole h) mg base x k n pt F:=by
 obtain⟨f,fd,m,FU⟩:=Tp T e i x hi hn;exact⟨f,fd,ps,m,FU.kp,FU.binds hb,ok FU⟩
section
variable{ρ ρ1 ρ2 ρ':Um}{pt:Pat}
theorem PQ{i:Nat}{f:M D}{d:D}(h1:f ρ=.ok d ρ1)(h2:i<ρ1.length)(h3:ρ1.set i (O (.deep pt d))=ρ'):Y7 i pt f ρ=.nx ρ':=by unfold Y7 sB;rw[h1];dsimp only;rw[if_pos h2];subst h3;rfl
theorem Er{f:M D}{d:D}(h:f (KG ρ)=.ok d ρ')(hf:flat d=B2):VM f ρ=.ok d ρ:=by unfold VM;rw[h];dsimp only;rw[if_pos hf]
theorem MM{N:List Str}{g:SM}{f:M D}{ds:B4}{P:D->Prop}(h0:KQ N ds=ρ)(h:Ho g ρ λo=>∃ρ1,o=.nx ρ1/\∃d ρ2,f ρ1=.ok d ρ2/\P d):∃d,YM N g f ds=O d/\P d:=by subst h0;obtain⟨ρ1,e,d,ρ2,e2,p⟩:=h.out;refine⟨d,?_,p⟩;unfold YM;rw[e];dsimp only;rw[e2]
end
noncomputable def KZ(fp:Aa)(H:Hp):Hp:=λb=>if b∈fp then B0 else H b
section
variable{K:Frag}{B G0 G H:Hp}{fp:Aa}
theorem Fn{b:JX}(h:b∈fp):KZ fp H b=B0:=by unfold KZ;rw[Qr h]
theorem Wb{b:JX}(h:b∉fp):KZ fp H b=H b:=by unfold KZ;rw[QD h]
theorem RepO.cut3(hl:∀a∈fp,∃u:MO,H a=O u.ho):Zo K G H (λp v d f=>(∀a∈f,a∉fp)->RepO K G (KZ fp H) p v d f) (λp v d f=>(∀a∈f,a∉fp)->RepOl K G (KZ fp H) p v d f) (λp v d f=>(∀a∈f,a∉fp)->RepOs K G (KZ fp H) p v d f):=
 RepO.ind3 (λr _=>.leaf r) (λh r n=>.lst ((Wb (n _ Qk)).trans h) (r λb m=>n b (Qj _ m))) (λh r n=>.tup ((Wb (λm=>by obtain⟨u,e⟩:=hl _ m;rw[h]at e;cases u<;>cases e)).trans h) (r n)) (λe hl' h r n=>.dic e hl' ((Wb (n _ Qk)).trans h) r)
 (λ_=>.nil) (λh t n=>.cons (h λb m=>n b (Qs _ m)) (t λb m=>n b (Qm _ m))) (λ_=>.nil) (λh t n=>.cons (h λb m=>n b (Qs _ m)) (t λb m=>n b (Qm _ m)))
theorem RepO.cut(hl:∀a∈fp,∃u:MO,H a=O u.ho){p:Pat}{v:V}{d:D}{f:Aa}(r:RepO K G H p v d f)(n:∀a∈f,a∉fp):RepO K G (KZ fp H) p v d f:=(RepO.cut3 hl).1 r n
end
section
variable{X:Cx}{B G0:Hp}{KX:XW}{e a b:JZ}{pos:Pos}{es:B8}
theorem EOk.eaten{K:Frag}{G H G' H':Hp}{σ:St}{ρ:Um}{i1 i2:Nat}{ω:JX->Nat}{fp:Aa}(k:EOk K B G0 G H σ ρ)
  (ks:∀(i:Nat) p d,ZS ρ i=O (p,d)->∃v fp,σ[i]?=O (O v)/\RepO K G H p v d fp/\fp.Nodup/\∀a∈fp,B a=B0/\G a=B0/\ω a=i)
  (hl:∀a∈fp,∃u:MO,H a=O u.ho) (hf:∀a∈fp,B a=B0/\(ω a=i1∨ω a=i2)) (ex:Ext G (KZ fp H) G' H'):EOk K B G0 G' H' σ ((ρ.set i1 B0).set i2 B0):=by
 have nz:∀{m:Nat}{s:Sl},((ρ.set i1 B0).set i2 B0)[m]?=O (O s)->ρ[m]?=O (O s)/\i1≠m/\i2≠m:=λ{m s} q=>by
  by_cases y2:i2=m
  .subst y2;have:=Kp q;cases this
  .rw[Qi y2]at q
   by_cases y1:i1=m
   .subst y1;have:=Kp q;cases this
   .rw[Qi y1]at q;exact⟨q,y1,y2⟩
 have bo:∀{b:JX}{u:HO},B b=O u->b∉fp:=λ{b u} e m=>by rw[(hf b m).1]at e;cases e
 refine⟨λb u e=>ex.h b u ((Wb (bo e)).trans (k.bh b u e)),ex.gh,k.g0.trans ex.g,λb u e n=>ex.np b u ((Wb (bo e)).trans (k.bh b _ e)) (k.np b u e n),by rw[QQ,QQ];exact k.len,
  λj d q=>let ⟨v,h1,h2⟩:=k.pub j d (nz q).1;⟨v,h1,h2.mono ex.g⟩,λj ds q=>?_,λj l c es fs q1 q2 s1 s2=>k.sep j l c es fs (nz q1).1 (nz q2).1 s1 s2,ω,λj p d q=>?_,λj ds ad q s=>?_⟩
 .obtain⟨q,y1,y2⟩:=nz q
  obtain⟨ad,vs,h1,h2,h3,h4,h5⟩:=k.own j ds q;obtain⟨v,f,hv,r,nd,w⟩:=ks j (.lst .leaf) (.list ds) (by unfold ZS;rw[q]);rw[h1]at hv;cases hv;have m:ad∈f:=by cases r with|lst h rl=>exact Qk
  have no:ad∉fp:=λz=>by
   rcases(hf ad z).2 with z|z
   .exact y1 (z.symm.trans (w ad m).2.2)
   .exact y2 (z.symm.trans (w ad m).2.2)
  have hc:KZ fp H ad=O (.lst vs):=(Wb no).trans h4;exact⟨ad,vs,h1,h2,ex.np ad (.l vs) hc h3,ex.h ad _ hc,h5.mono ex.g⟩
 .obtain⟨q,y1,y2⟩:=nz q
  obtain⟨v,f,hv,r,nd,w⟩:=ks j p d (by unfold ZS;rw[q])
  have no:∀b∈f,b∉fp:=λb m z=>by
   rcases(hf b z).2 with z|z
   .exact y1 (z.symm.trans (w b m).2.2)
   .exact y2 (z.symm.trans (w b m).2.2)
  refine⟨v,f,hv,(r.cut hl no).mono ex.g ex.h,nd,λb m=>?_⟩;obtain⟨vs,hb⟩:=r.isl b m;exact⟨(w b m).1,ex.np b vs ((Wb (no b m)).trans hb) (w b m).2.1,(w b m).2.2⟩
 .obtain⟨q,y1,y2⟩:=nz q
  obtain⟨v,f,hv,r,nd,w⟩:=ks j (.lst .leaf) (.list ds) (by unfold ZS;rw[q]);rw[s]at hv;cases hv;have m:ad∈f:=by cases r with|lst h rl=>exact Qk
  exact(w ad m).2.2
end
end DL
namespace L2
open PySem PySem.Spec PyProof.Rows PySem.Calls PyProof.V
end L2
namespace DL
open PySem PySem.Spec L2
open PyProof.Rows hiding St
noncomputable def tgN:JZ->List Str
 |.Name x _=>[x]
 |.Tuple [.Name x _] _ _=>[x]
 |.Tuple [.Name x _,.Name y _] _ _=>[x,y]
 |.Tuple [.Name x _,.Name y _,.Name z _] _ _=>[x,y,z]
 |.Tuple [.Name x _,.Name y _,.Name z _,.Name u _] _ _=>[x,y,z,u]
 |_=>[]
noncomputable def adN(vs:List Str):List Str->List Str
 |[]=>vs
 |x::r=>adN (if vs.elem x then vs else vs++[x]) r
noncomputable def WI(vs:List Str):List Comprehension->List Str
 |[]=>vs
 |⟨tg,_,_,_⟩::r=>WI (adN vs (tgN tg)) r
noncomputable def dotN(x:Str):Str:=("." : Str)++x
noncomputable def blN(N:List Str)(gs:List Comprehension):List Str:=N.map (λx=>if(WI [] gs).elem x then dotN x else x)++WI [] gs
noncomputable def glN(sc:Scope):List Str:=sc.names.filterMap λy=>match y.2 with | .globalImplicit=>O y.1|_=>B0
abbrev NmF(s:Stmt)(N:List Str):Prop:=FnNm (Kb s) N (glN (Kb s))
theorem mq{α:Type}{l:List α}{x:α}(n:Nat)(h:l[n]?=O x):x∈l:=Q3 h
section
variable{sc:Scope}{N gl:List Str}{x:Str}
theorem gA(H:FnNm sc N gl)(h:gl.elem x=B2):sc.names.lookup x=O .globalImplicit:=H.gl x (by simpa using h)
end
section
variable{X:Cx}{B G0:Hp}{KX:XW}{e e1 e2 o a b c i:JZ}{gl:List Str}{pos p2:Pos}{x:Str}{j:Nat}
theorem Lp(H:FnNm X.env.scope X.N gl)(hi:X.N[j]?=O x:=by rfl)(hf:X.fn x=B2∨X.env.scope.names.lookup x=O .local:=by first|exact .inl rfl|exact .inr rfl|assumption):PG X (.Name x pos) (tG X.K B G0 (gN j)):=Ol (SH H.nd hi (lq H j hi) hf)
theorem LZ{N':List Str}{scope:Scope}{cl:List (Str×JX)}{C:JX}{s₀:JV}{H₀:Hp}{ex:Aa}(hN:N'.Nodup:=by decide +kernel)(hi:N'[j]?=O x:=by rfl)(hl:locK (scope.names.lookup x)=B2:=by rfl):PG (X.blk N' scope cl C s₀ H₀ ex) (.Name x pos) (tG X.K B G0 (gN j)):=Ol (SH hN hi (Oi hl).1 (Oi hl).2)
theorem aSet{f:M D}(H:FnNm X.env.scope X.N gl)(he:PE X e (tD X.K B G0 f))(hi:X.N[j]?=O x:=by rfl)(hs:swapsWith e (O (.Name x p2)) pos.line X.env=pure B3:=by rfl)
  (hf:X.fn x=B2∨X.env.scope.names.lookup x=O .local:=by first|exact .inl rfl|exact .inr rfl|assumption):PS X (.Assign [.Name x p2] e pos) (tS X.K B G0 KX (US j f)):=LB H.nd hi (lq H j hi) he hs hf
theorem RU{f:M B4}(H:FnNm X.env.scope X.N gl)(he:PE X e (tL X.K B G0 f))(hi:X.N[j]?=O x:=by rfl)(hs:swapsWith e (O (.Name x p2)) pos.line X.env=pure B3:=by rfl)
  (hf:X.fn x=B2∨X.env.scope.names.lookup x=O .local:=by first|exact .inl rfl|exact .inr rfl|assumption):PS X (.Assign [.Name x p2] e pos) (tS X.K B G0 KX (KH j f)):=GS H.nd hi (lq H j hi) he hs hf
theorem Lo{f:M D}{pt:Pat}(H:FnNm X.env.scope X.N gl)(he:PE X e (tT X.K B G0 pt f))(hi:X.N[j]?=O x:=by rfl)(hs:swapsWith e (O (.Name x p2)) pos.line X.env=pure B3:=by rfl)
  (hf:X.fn x=B2∨X.env.scope.names.lookup x=O .local:=by first|exact .inl rfl|exact .inr rfl|assumption):PS X (.Assign [.Name x p2] e pos) (tS X.K B G0 KX (Y7 j pt f)):=Ft H.nd hi (lq H j hi) he hs hf
theorem Ln{f:M XR}(H:FnNm X.env.scope X.N gl)(he:PE X e (tX X.K B G0 KX f))(hi:X.N[j]?=O x:=by rfl)(hs:swapsWith e (O (.Name x p2)) pos.line X.env=pure B3:=by rfl)
  (hf:X.fn x=B2∨X.env.scope.names.lookup x=O .local:=by first|exact .inl rfl|exact .inr rfl|assumption):PS X (.Assign [.Name x p2] e pos) (tS X.K B G0 KX (sX f λd ρ=>match gN j d ρ with|some ρ'=>.nx ρ'|none=>.bad)):=GA H.nd hi (lq H j hi) he hs hf
theorem Lm{l:Bool}{tg elt iter:JZ}{ifs:B8}{gs:List Comprehension}{scope:Scope}{f:M B4}{s:D->Um->Ab}{t:M Bool}{rd:RdB}{F:M B4}{k:Nat}{SC:Scope}{N1:List Str}(H:FnNm SC N1 gl)(le:∀ρ es ρ',F ρ=.ok es ρ'->dCG l f k s t rd ρ=.ok es ρ')(hc:X.calm=B2)
  (hi:PI X tg iter (iD X.K B G0 f)) (Al:Zx X (blN N1 (⟨tg,iter,ifs,0⟩::gs)) scope (.ListComp elt (⟨tg,iter,ifs,0⟩::gs) scope pos) tg ifs s t rd) (hb:Xe Wq SC scope N1 (blN N1 (⟨tg,iter,ifs,0⟩::gs)) k=B2) (h1:X.env.scope=SC:=by rfl) (h2:X.N=N1:=by rfl) (hs:∀x,Ul iter X.env x=pure x:=by intro _;rfl) :
  PE X (.ListComp elt (⟨tg,iter,ifs,0⟩::gs) scope pos) (tL X.K B G0 F):=M7 _ _ _ k le hc hi Al h1 h2 hb hs
theorem Ll{l:Bool}{y:Str}{py spos:Pos}{tg elt iter:JZ}{ifs:B8}{gs:List Comprehension}{scope:Scope}{f:M B4}{s:D->Um->Ab}{t:M Bool}{rd:RdB}{F:M B4}{k:Nat}{SC:Scope}{N1:List Str}(H:FnNm SC N1 gl)(le:∀ρ es ρ',F ρ=.ok es ρ'->dCG l f k s t rd ρ=.ok es ρ')(hc:X.calm=B2)
  (hi:PI X tg iter (iD X.K B G0 f)) (Al:Zx X (blN N1 (⟨tg,iter,ifs,0⟩::gs)) scope (.ListComp elt (⟨tg,iter,ifs,0⟩::gs) scope pos) tg ifs s t rd) (hb:Xe Wq SC scope N1 (blN N1 (⟨tg,iter,ifs,0⟩::gs)) k=B2) (hj:N1[j]?=O y:=by rfl) (hy:SC.names.lookup y=O .local:=by rfl) (h1:X.env.scope=SC:=by rfl) (h2:X.N=N1:=by rfl) (hs:∀x,Ul iter X.env x=pure x:=by intro _;rfl)
  (hsw:swapsWith (.ListComp elt (⟨tg,iter,ifs,0⟩::gs) scope pos) (O (.Name y py)) spos.line X.env=pure B2:=by rfl) :
  PS X (.Assign [.Name y py] (.ListComp elt (⟨tg,iter,ifs,0⟩::gs) scope pos) spos) (tS X.K B G0 KX (KH j F)):=sD_1 _ _ _ k le (h2 ▸ H.nd) (h2 ▸ hj) (h1 ▸ hy) hc hi Al h1 h2 hb hs hsw
end
end DL
namespace DL
open PySem PySem.Spec L2
open PyProof.Rows hiding St
open Builtin Builtin.Str
end DL
namespace DL
open PySem PySem.Spec L2
open PyProof.Rows hiding St
end DL
namespace DL
open PySem PySem.Spec L2
open PyProof.Rows hiding St
open PySem.SeqRoads2 PySem.SeqAt
end DL
namespace DL
open PySem PySem.Spec L2
open PyProof.Rows hiding St
end DL
namespace L2
open PySem PySem.Spec PyProof.Rows
end L2
namespace DL
open PySem PySem.Spec L2
open PyProof.Rows hiding St
end DL
namespace DL
open PySem PySem.Spec L2
open PyProof.Rows hiding St
open PySem.SeqRoads2 PySem.SeqAt
end DL
namespace DL
open PySem PySem.Spec L2
open PyProof.Rows hiding St
section
variable{X:Cx}{B G0:Hp}{KX:XW}{e e':JZ}{es es':B8}{st st':Stmt}{sts qe:List Stmt}{pos p2:Pos}{x:Str}{j:Nat}{gl:List Str}
theorem Ep{g h:SM}(q:st::sts=qe)(h1:PS X st (tS X.K B G0 KX g))(h2:PSs X sts (tS X.K B G0 KX h)):PSs X qe (tS X.K B G0 KX (Us g h)):=q ▸ Om h1 h2
theorem LY{f:M B4}(q:Stmt.Assign [.Name x p2] e pos=st')(H:FnNm X.env.scope X.N gl)(he:PE X e (tL X.K B G0 f))(hi:X.N[j]?=O x:=by rfl)(hs:swapsWith e (O (.Name x p2)) pos.line X.env=pure B3:=by rfl)
  (hf:X.fn x=B2∨X.env.scope.names.lookup x=O .local:=by first|exact .inl rfl|exact .inr rfl|assumption):PS X st' (tS X.K B G0 KX (KH j f)):=q ▸ RU H he hi hs hf
theorem Eo{f:M B4}(q:Expr.List es pos=e')(h:PA X es (tDs X.K B G0 f)):PE X e' (tL X.K B G0 (UD f λxs=>if xs.length<=1000000 then Up xs else λ_=>.bad)):=q ▸ Oj h
theorem Ci{f:M D}{g:M B4}(q:e::es=es')(ha:PE X e (tD X.K B G0 f))(hr:PA X es (tDs X.K B G0 g))(hs:J5 (e::es) X.env=(B3,eval e X.env)::J5 es X.env:=by rfl):PA X es' (tDs X.K B G0 (Ur f g)):=q ▸ Oy ha hr hs
end
section
variable{X:Cx}{B G0:Hp}{KX:XW}{a b e e':JZ}{es es':B8}{st st':Stmt}{sts qe:List Stmt}{pos p2:Pos}{x:Str}{j:Nat}{gl:List Str}
theorem Lk{f:M D}(q:Stmt.Assign [.Name x p2] e pos=st')(H:FnNm X.env.scope X.N gl)(he:PE X e (tD X.K B G0 f))(hi:X.N[j]?=O x:=by rfl)(hs:swapsWith e (O (.Name x p2)) pos.line X.env=pure B3:=by rfl)
  (hf:X.fn x=B2∨X.env.scope.names.lookup x=O .local:=by first|exact .inl rfl|exact .inr rfl|assumption):PS X st' (tS X.K B G0 KX (US j f)):=q ▸ aSet H he hi hs hf
theorem En{f:M B4}(q:Expr.List es pos=e')(h:PA X es (tDs X.K B G0 f)):PE X e' (tD X.K B G0 (U2 f)):=q ▸ On h
theorem Da{x1}{f:M B4}(q:Expr.Tuple es x1 pos=e')(h:PA X es (tDs X.K B G0 f)):PE X e' (tD X.K B G0 (U1 f)):=q ▸ Oc h
theorem Pe{op:Operator}{p:D->D->B9}{f g:M D}(o:OpD X (binaryOp op) p)(q:Expr.BinOp a op b pos=e')(ha:PE X a (tD X.K B G0 f))(hb:PE X b (tD X.K B G0 g)):PE X e' (tD X.K B G0 (Uw p f g)):=q ▸ Wi o ha hb
end
section
variable{X:Cx}{B G0:Hp}{KX:XW}{e o:JZ}{es:B8}{pos apos cpos p2:Pos}
theorem Reps.erase{K:Frag}{G:Hp}:∀{vs:List V}{ds:B4}(m:Nat),Reps K G vs ds->Reps K G (vs.eraseIdx m) (ds.eraseIdx m)
 |_,_,_,.nil=>.nil
 |_,_,0,.cons _ t=>t
 |_,_,m+1,.cons r t=>.cons r (Reps.erase m t)
noncomputable def YI(j:Nat)(f:M D):M D:=λρ=>match Wp ρ j with
 |none=>.bad
 |some _=>match f ρ with
  |.bad=>.bad
  |.ok d ρ1=>match d,Wp ρ1 j with
   |.int i,O ds=>if ds.length<=1000000 then(match ixN ds.length i with
    |some m=>(match ds[m]? with
     |some y=>.ok y (ρ1.set j (O (.own (ds.eraseIdx m))))
     |none=>.bad)
    |none=>.bad)else .bad
   |_,_=>.bad
theorem Fl{j:Nat}{f:M D}(ho:PE X o (UZ j))(he:PE X e (tD X.K B G0 f))
  (hbase:attributeBase o "pop" X.env (eval o X.env)=eval o X.env:=by rfl)
  (hfew:((backTo cpos (J5 [e] X.env)).all (λx=>!x.1)&&(backToKw cpos (keywordEach [] X.env)).all (λx=>x.1.isSome)
   && decide ([e].length+([]:List Keyword).length+(if([]:List Keyword).isEmpty then 0 else 1)<30))=B2:=by rfl)
  (hline:(apos.endLine==cpos.line)=B2:=by rfl) (hs:J5 [e] X.env=[(B3,eval e X.env)]:=by rfl) :
  PE X (.Call (.Attribute o "pop" apos) [e] [] cpos) (tD X.K B G0 (YI j f)):=
 UK (VD Jw PySem.F.slot_list_pop PySem.F.type_list_pop DE ho (KI he Zd (by rw[hs];rfl)) hbase hfew hline (by rw[hs];rfl) Z) λσ H Q ⟨G,ρ,k,a⟩=>by
  unfold YI at a;cases q0:Wp ρ j with
  |none=>rw[q0]at a;exact a.elim
  |some AS=>
  rw[q0]at a;dsimp only at a;obtain⟨ad,vs0,h1,h2,h3,h4,h5⟩:=k.own j AS (Rj q0);refine⟨.ref ad,h1,.inl ⟨rfl,_,SqL.of h4⟩,G,ρ,k,?_⟩;cases z:f ρ with
  |bad=>rw[z]at a;exact a.elim
  |ok d ρ1=>
  rw[z]at a;dsimp only at a;intro v G1 H1 k1 s1 r1;cases d with
  |int i=>
   cases q1:Wp ρ1 j with
   |none=>rw[q1]at a;exact a.elim
   |some ds=>
   rw[q1]at a;dsimp only at a;split at a
   .rename_i hl
    cases q2:ixN ds.length i with
    |none=>rw[q2]at a;exact a.elim
    |some m=>
    rw[q2]at a;dsimp only at a;cases q3:ds[m]? with
    |none=>rw[q3]at a;exact a.elim
    |some y=>
    rw[q3]at a;obtain⟨ad1,vs,g1,g2,g3,g4,g5⟩:=k1.own j ds (Rj q1);rw[h1]at g1;cases g1;obtain⟨w,hw,qf⟩:=g5.get q3;obtain⟨i1,i2,i3,i4⟩:=Og q2;refine⟨ad,vs,i,m,w,rfl,by rw[r1.int_inv],g4,by lia,by lia,by rw[g5.length];exact i1,hw,?_⟩;exact a w G1 _ (k1.change (Rj q1) h1 (Reps.erase m g5)) s1 qf
   .exact a.elim
  |_=>exact a.elim
theorem LX{j:Nat}{f:M D}{ρ ρ1:Um}{AS ds:B4}{m:Nat}{y:D}(h0:ρ[j]?=O (O (.own AS)))(h1:f ρ=.ok (.int (m:Nat)) ρ1)(h2:ρ1[j]?=O (O (.own ds)))(hl:ds.length<=1000000)(h3:ds[m]?=O y):YI j f ρ=.ok y (ρ1.set j (O (.own (ds.eraseIdx m)))):=by have hm:=(Qy.mp h3).1;unfold YI Wp;rw[h0];dsimp only;rw[h1];dsimp only;rw[h2];dsimp only;rw[Qr hl,show ixN ds.length (m:Int)=O m by unfold ixN;rw[Qr (by lia),Qr (by lia),JD]];dsimp only;rw[h3]
end
structure Sg(K:Frag)(B G H:Hp)(σ:St)(ρ:Um)(pts:List Pat)(vs:List V)(ds:B4)(fp:Aa):Prop where
 r:RepOs K G H pts vs ds fp
 nd:fp.Nodup
 b:∀a∈fp,B a=B0/\G a=B0
 f:∀a∈fp,∀(j:Nat) es,ρ[j]?=O (O (.own es))->σ[j]?≠O (O (.ref a))
 dp:∀a∈fp,∀(j:Nat) p d v fp',ρ[j]?=O (O (.deep p d))->σ[j]?=O (O v)->RepO K G H p v d fp'->a∉fp'
noncomputable def tTs(K:Frag)(B G0:Hp)(pts:List Pat)(f:M B4):TA:=λσ H Q=>∃G ρ,EOk K B G0 G H σ ρ/\match f ρ with
 |.ok ds ρ'=>∀vs fp G' H',EOk K B G0 G' H' σ ρ'->Same G G'->Sg K B G' H' σ ρ' pts vs ds fp->Q vs H'
 |.bad=>False
noncomputable def Vf(f:M D)(g:M B4):M B4:=λρ=>match f ρ with
 |.ok d ρ1=>(match g (UQ ρ1)with
  |.ok ds _=>.ok (d::ds) ρ1
  |.bad=>.bad)
 |.bad=>.bad
section
variable{X:Cx}{B G0:Hp}{KX:XW}{e:JZ}{es:B8}{pos:Pos}{p:Pat}{pts:List Pat}
theorem Fk:PA X [] (tTs X.K B G0 [] Uq):=λpos pins s σ H Q I ⟨G,ρ,k,a⟩=>Zd pos pins s σ H Q I (a [] [] G H k (.refl _) ⟨.nil,List.nodup_nil,λa m=>(by cases m),λa m=>(by cases m),λa m=>(by cases m)⟩)
theorem E9{f:M D}{g:M B4}(h1:PE X e (tT X.K B G0 p f))(h2:∀B' G',PA X es (tTs X.K B' G' pts g))(hs:J5 (e::es) X.env=(B3,eval e X.env)::J5 es X.env:=by rfl):PA X (e::es) (tTs X.K B G0 (p::pts) (Vf f g)):=by
 have h2':PA X es (λσ H Q=>∃B' G',tTs X.K B' G' pts g σ H Q):=λpos pins s σ H Q I ⟨B',G',q⟩=>h2 B' G' pos pins s σ H Q I q;intro pos pins s σ H Q I ⟨G,ρ,k,a⟩;refine KI h1 h2' hs pos pins s σ H Q I ⟨G,ρ,k,?_⟩;unfold Vf at a
 cases z:f ρ with
 |bad=>rw[z]at a;exact a.elim
 |ok d ρ1=>
 rw[z]at a;dsimp only at a;intro v fp G1 H1 k1 s1 n1;refine⟨H1,G1,G1,UQ ρ1,k1.rebase,?_⟩;cases z2:g (UQ ρ1)with
 |bad=>rw[z2]at a;exact a.elim
 |ok ds ρ2=>
 rw[z2]at a;dsimp only at a⊢;intro vs fp2 G2 H2 k2 s2 n2;have ex:=k2.exit;refine a (v::vs) (fp++fp2) G2 H2 (k1.ext ex) (s1.trans s2) ⟨.cons (n1.r.mono ex.g ex.h) n2.r,?_,λb m=>?_,λb m j es' q w=>?_,λb m j p' d' v' fp' q w r=>?_⟩
 .refine QH.mpr ⟨n1.nd,n2.nd,λx hx y hy z=>?_⟩
  subst z;obtain⟨u,hu⟩:=n1.r.isl x hx;rw[(n2.b x hy).1]at hu;cases hu
 .rcases QG.mp m with m|m
  .obtain⟨u,hu⟩:=n1.r.isl b m
   exact⟨(n1.b b m).1,ex.np b u hu (n1.b b m).2⟩
  .exact⟨k1.bh.free (n2.b b m).1,(n2.b b m).2⟩
 .rcases QG.mp m with m|m
  .exact n1.f b m j es' q w
  .obtain⟨c,us,g1,g2,g3,g4,g5⟩:=k1.own j es' q
   rw[g1]at w;cases w;rw[(n2.b b m).1]at g4;cases g4
 .rcases QG.mp m with m|m
  .obtain⟨ω,d1,d2⟩:=k1.dp
   obtain⟨v0,f0,w0,r0,_,_⟩:=d1 j p' d' q;rw[w]at w0;cases w0;rw[←r0.uniq ex.h r];exact n1.dp b m j p' d' v' f0 q w r0
  .exact k1.freshD ex.h (n2.b b m).1 q w r
theorem RepOs.length{K:Frag}{G H:Hp}:∀{ps:List Pat}{vs:List V}{ds:B4}{fp:Aa},RepOs K G H ps vs ds fp->vs.length=ds.length
 |_,_,_,_,.nil=>rfl
 |_,_,_,_,.cons _ t=>by rw[QB,QB,RepOs.length t]
theorem Sg.hid{K:Frag}{G H:Hp}{σ:St}{ρ:Um}{vs:List V}{ds:B4}{fp:Aa}{a:JX}{o:HO}(k:EOk K B G0 G H σ ρ)(n:Sg K B G H σ ρ pts vs ds fp)(ha:H a=B0):EOk K B G0 G (upd H a o) σ ρ/\RepOs K G (upd H a o) pts vs ds fp/\a∉fp/\(∀b∈fp,∀(j:Nat) p d v fp',ρ[j]?=O (O (.deep p d))->σ[j]?=O (O v)->RepO K G (upd H a o) p v d fp'->b∉fp'):=by
 have sh:Same H (upd H a o):=KB ha;refine⟨k.ext (Ext.hid k.gh ha),n.r.mono (.refl _) sh,λm=>?_,λb m j p d v fp' q w r=>?_⟩
 .obtain⟨u,hu⟩:=n.r.isl a m
  rw[ha]at hu;cases hu
 .obtain⟨ω,d1,d2⟩:=k.dp
  obtain⟨v0,f0,w0,r0,_,_⟩:=d1 j p d q;rw[w]at w0;cases w0;rw[←r0.uniq sh r];exact n.dp b m j p d v f0 q w r0
theorem E8{k1}{f:M B4}(h:PA X es (tTs X.K B G0 pts f)):PE X (.Tuple es k1 pos) (tT X.K B G0 (.tup pts) (UD f λxs=>if xs.length<=1000000 then Up (.tuple xs)else λ_=>.bad)):=UK (SD h) λσ H Q ⟨G,ρ,k,a⟩=>by
 refine⟨G,ρ,k,?_⟩;unfold UD at a;cases z:f ρ with
 |bad=>rw[z]at a;exact a.elim
 |ok ds ρ1=>
 rw[z]at a;dsimp only at a;intro vs fp G' H' k' s' n;by_cases c:ds.length<=1000000
 .rw[Qr c]at a
  refine⟨by rw[n.r.length];exact Qq c lim,λad had=>?_⟩;obtain⟨k2,r2,n2,dp2⟩:=n.hid k' had (o:=.tup vs);exact a (.ref ad) fp G' _ k2 s' ⟨.tup UW r2,n.nd,n.b,n.f,dp2⟩
 .rw[QD c]at a;exact a.elim
end
section
variable{f:M D}{g:M B4}{ρ ρ1 ρ2:Um}{d:D}{ds:B4}
theorem Op(h1:f ρ=.ok d ρ1)(h2:g (UQ ρ1)=.ok ds ρ2):Vf f g ρ=.ok (d::ds) ρ1:=by unfold Vf;rw[h1];dsimp only;rw[h2]
theorem E7{c:B4->D}(h1:g ρ=.ok ds ρ1)(h2:ds.length<=1000000):(UD g λxs=>if xs.length<=1000000 then Up (c xs)else λ_=>.bad) ρ=.ok (c ds) ρ1:=U6 h1 (by rw[Qr h2];rfl)
end
noncomputable def cTT(s:D->Um->Ab)(t:M Bool)(g:M D):B4->Um->B4->Option B4
 |[],_,es=>O es
 |d::r,ρ,es=>match s d ρ with
  |none=>B0
  |some ρ1=>match t ρ1 with
   |.bad=>B0
   |.ok b ρ2=>if b=B2 then(match g ρ2 with
     |.ok x ρ3=>if es.length<1000000 then cTT s t g r (UQ ρ3) (es++[x])else B0
     |.bad=>B0)
    else cTT s t g r (UQ ρ2) es
noncomputable def Yz(f:M B4)(k:Nat)(s:D->Um->Ab)(t:M Bool)(g:M D):M D:=λρ=>match f ρ with
 |.bad=>.bad
 |.ok ds ρ1=>match cTT s t g ds (UQ ρ1++J8 k B0) []with
  |none=>.bad
  |some es=>.ok (.list es) ρ1
structure RT(Y:Cx)(D':JX)(pt:Pat)(pins:List (JX×Obj))(H G:Hp)(es:B4)(ρ':Um)(σ':St)(H' G':Hp)(vs:List V)(fq:Aa)(s':JV):Prop where
 inv:Inv Y pins σ' H' s'
 eok:EOk Y.K H' G' G' H' σ' ρ'
 hh:∀a o,a≠D'->H a=O o->H' a=O o
 gg:Same G G'
 np:∀a(u:MO),H a=O u.ho->G a=B0->G' a=B0
 hd:H' D'=O (.lst vs)
 gd:G' D'=B0
 pr:RepOl Y.K G' H' pt vs es fq
 nd:fq.Nodup
 fr:∀a∈fq,H a=B0/\G' a=B0
section
variable{Y:Cx}{D':JX}{pt:Pat}
theorem Ch{tg elt:JZ}{ifs:B8}{code:Code}{s:D->Um->Ab}{t:M Bool}{g:M D}{it:JX}(hx:Y.xe=nox)(hc:Y.calm=B2)
  (rule:Vm Y.prog Y.w Y.A tg ifs Y.env (.ref it) code (λQ s=>J4 (model Y.prog Y.w) Y.A (eval elt Y.env) (λx s₄=>J4 (model Y.prog Y.w) Y.A (call (.builtin "list.append") [.ref D',x]) (λ_ s₅=>Q s₅) nox s₄) nox s))
  (hg:∀B1 G1,PG Y tg (tG Y.K B1 G1 s)) (ht:∀B1 G1,Zn Y ifs (tBo Y.K B1 G1 t)) (he:∀B1 G1,PE Y elt (tT Y.K B1 G1 pt g))
  {pins:List (JX×Obj)} {sh:JV} {σ:St} {H G:Hp} {ρ:Um} {fp:Aa} {tn:Nat->Heap->Prop} {J:It} {ds esF:B4} {R:Result->JV->Prop}
  (I:Inv Y pins σ H sh) (T:Turn Y.prog Y.w Y.K tg J fp it tn) (st:tn 0 sh.heap) (hf:∀b∈fp,Kg Y pins H b)
  (k:EOk Y.K H G G H σ ρ) (its:Yq Y.K J ds G) (hD:H D'=O (.lst [])) (gD:G D'=B0) (zl:cTT s t g ds ρ []=O esF)
  (Az:∀ρ' σ' H' G' vs' fq s',RT Y D' pt pins H G esF ρ' σ' H' G' vs' fq s'->R (.ok .next) s'):codeAny (model Y.prog Y.w) Y.A code R sh:=by
 have stat:∀{H':Hp},(∀b∈fp,H' b=B0)->∀b∈fp,Kg Y pins H' b:=λhn b hb=>⟨hn b hb,(hf b hb).2⟩
 refine rule R (λn s'=>∃i σ' H' G' ρ' vs' es' fq,n=ds.length-i/\tn i s'.heap/\(∀b∈fp,H' b=B0)/\RT Y D' pt pins H G es' ρ' σ' H' G' vs' fq s'/\cTT s t g (ds.drop i) ρ' es'=O esF) ds.length sh
  ⟨0,σ,H,G,ρ,[],[],[],rfl,st,λb hb=>(hf b hb).1,⟨I,k,λ_ _ _ q=>q,.refl _,λ_ _ _ z=>z,hD,gD,.nil,List.nodup_nil,λ_ m=>nomatch m⟩,by rw[List.drop_zero];exact zl⟩ ?_
 rintro n s' ⟨i,σ',H',G',ρ',vs',es',fq,rfl,qA,qN,⟨I',k',AK,AF,qv,Ap,gD',qt,At,ff'⟩,zc⟩
 have keepN:∀{G6 H6:Hp}{σ6:St}{ρ6:Um},EOk Y.K H' G' G6 H6 σ6 ρ6->∀a(u:MO),H a=O u.ho->G a=B0->G6 a=B0:=λ{G6 H6 σ6 ρ6} k6 a u e z=>by
  by_cases hz:a=D'
  .subst hz;exact k6.np _ (.l _) Ap gD'
  .exact k6.np a u (AK a _ hz e) (qv a u e z)
 have keepF:∀{G6 H6:Hp}{σ6:St}{ρ6:Um},EOk Y.K H' G' G6 H6 σ6 ρ6->∀a∈fq,H a=B0/\G6 a=B0:=λ{G6 H6 σ6 ρ6} k6 a m=>by obtain⟨u,hu⟩:=qt.isl a m;exact⟨(ff' a m).1,k6.np a u hu (ff' a m).2⟩
 by_cases hlt:i<ds.length
 .rw[JA hlt,cTT]at zc
  cases zs:s ds[i] ρ' with
  |none=>rw[zs]at zc;cases zc
  |some ρ2=>
  rw[zs]at zc;dsimp only at zc;cases zt:t ρ2 with
  |bad=>rw[zt]at zc;cases zc
  |ok b ρ3=>
  rw[zt]at zc;dsimp only at zc;refine thn (T.item Y Z Z Z hc i pins s' σ' H' nox I' (stat qN) qA (its.go i G' H' AF k'.gh hlt)) λrr s4 ⟨u,hr,h4⟩=>?_;subst hr;refine thn h4 λ_ s5 ⟨x,H5,I5,r5,y5,AJ,qM⟩=>?_
  obtain⟨G5,e5,rx⟩:=its.yld i G' H' x H5 ds[i] AF k'.gh (Qp hlt) y5;have h6:=hg H' G' _ s5 σ' H5 x u (λσ6 H6=>∃G6,EOk Y.K H' G' G6 H6 σ6 ρ2) (I5.pinned (stat qM) (T.obj _ _ AJ)) r5 ⟨G5,ρ',ds[i],ρ2,k'.ext e5,rx,zs,λσ6 G6 H6 k6 _=>⟨G6,k6⟩⟩;rw[hx]at h6;refine thn h6 λ_ s6 ⟨σ6,H6,I6,G6,k6⟩=>?_;have h7:=ht H' G' _ s6 σ6 H6 (λc H7=>c=b/\∃G7,EOk Y.K H' G' G7 H7 σ6 ρ3) I6 ⟨G6,ρ2,k6,by unfold aft;rw[zt];exact λc G7 H7 k7 _ q=>⟨q,G7,k7⟩⟩
  rw[hx]at h7;refine thn h7 λok s7 ⟨H7,I7,hb7,G7,k7⟩=>?_;subst hb7
  have again:∀{H9:Hp}{σ9:St}{s9:JV},Inv Y (pins++Vg fp s5.heap) σ9 H9 s9->Inv Y pins σ9 H9 s9/\tn (i+1) s9.heap/\∀b∈fp,H9 b=B0:=λ{H9 σ9 s9} I9=>by refine⟨I9.unpinned,T.keep _ _ _ AJ λb hb o e=>(I9.pin (b,o) (Qm _ (Qm _ (Vo hb e)))).1,λb hb=>?_⟩;obtain⟨o,e,d⟩:=T.obj _ _ AJ b hb;exact(I9.pin (b,o) (Qm _ (Qm _ (Vo hb e)))).2.1
  have lt:ds.length-(i+1)<ds.length-i:=Nat.sub_lt_sub_left hlt (Nat.lt_succ_self i);cases ok with
  |false=>rw[QD (by decide)]at zc⊢;obtain⟨J1,J2,J3⟩:=again I7;exact⟨_,lt,i+1,σ6,H7,G7,UQ ρ3,vs',es',fq,rfl,J2,J3,⟨J1,k7.rebase,λa o z q=>k7.bh a o (AK a o z q),AF.trans k7.g0,keepN k7,k7.bh _ _ Ap,k7.np _ (.l _) Ap gD',qt.mono k7.g0 k7.bh,At,keepF k7⟩,zc⟩
  |true=>
   rw[Qr Z]at zc⊢;cases zg:g ρ3 with
   |bad=>rw[zg]at zc;cases zc
   |ok dE ρ4=>
   rw[zg]at zc;dsimp only at zc;split at zc
   .rename_i hle
    have h8:=he H' G' _ s7 σ6 H7 (λv H8=>∃fv G8,EOk Y.K H' G' G8 H8 σ6 ρ4/\NewT Y.K H' G8 H8 σ6 ρ4 pt v dE fv) I7 ⟨G7,ρ3,k7,by rw[zg];exact λv fv G8 H8 k8 _ n=>⟨fv,G8,k8,n⟩⟩;rw[hx]at h8;refine thn h8 λev s8 ⟨v,H8,I8,rv,fv,G8,k8,n8⟩=>?_;have g8:=k8.np _ (.l _) Ap gD';have hD8:=k8.bh _ _ Ap;have h2:=Vq _ s8 σ6 H8 (.ref D') [v] (.ref D') [ev] (λ_ H9=>H9=upd H8 D' (.lst (vs'++[v]))) I8 Z (.cons rv .nil) ⟨D',vs',v,rfl,rfl,hD8,by have:=lim1;rw[qt.length];omega,rfl⟩
    rw[hx]at h2;refine thn h2 λ_ s9 ⟨_,H9,I9,_,e9⟩=>?_;subst e9
    obtain⟨J1,J2,J3⟩:=again I9;have nt:∀ws,H8 D'≠O (.tup ws):=λws z=>by rw[hD8]at z;cases z
    have nq:D'∉fq:=λm=>by have:=(ff' D' m).1;rw[hD]at this;cases this
    have nv:D'∉fv:=λm=>by have:=(n8.b D' m).1;rw[Ap]at this;cases this
    have up:∀b o,b≠D'->H8 b=O o->upd H8 D' (.lst (vs'++[v])) b=O o:=λb o z q=>by rw[UI z];exact q
    have fvH:∀b∈fv,H b=B0:=λb m=>by
     cases q:H b with
     |none=>rfl
     |some o=>have:=AK b o (λz=>by subst z;exact nv m) q;rw[(n8.b b m).1]at this;cases this
    refine⟨_,lt,i+1,σ6,_,G8,_,_,_,fq++(fv++[]),rfl,J2,J3,⟨J1,k8.beside g8,λa o z q=>up a o z (k8.bh a o (AK a o z q)),AF.trans k8.g0,keepN k8,UW,g8,
     ((qt.mono k8.g0 k8.bh).upd nt nq).append (.cons (n8.r.upd nt nv) .nil),?_,λa m=>?_⟩,zc⟩
    .rw[QT]
     refine QH.mpr ⟨At,n8.nd,λx hx y hy z=>?_⟩;subst z;obtain⟨u,hu⟩:=qt.isl x hx;rw[(n8.b x hy).1]at hu;cases hu
    .rw[QT]at m
     rcases QG.mp m with m|m
     .exact keepF k8 a m
     .exact⟨fvH a m,(n8.b a m).2⟩
   .cases zc
 .rw[List.drop_eq_nil_of_le (Q0 hlt),cTT]at zc
  cases zc;refine thn (T.done Y Z Z Z hc i pins s' σ' H' nox I' (stat qN) qA (its.stop i G' H' AF k'.gh (Q0 hlt))) λrr s4 ⟨hr,I6⟩=>?_
  subst hr;exact Az ρ' σ' H' G' vs' fq s4 ⟨I6,k',AK,AF,qv,Ap,gD',qt,At,ff'⟩
end
section
variable{X:Cx}{B G0:Hp}{KX:XW}{pt:Pat}
def Vz(X:Cx)(N2:List Str)(scope:Scope)(elt tg:JZ)(ifs:B8)(s:D->Um->Ab)(t:M Bool)(pt:Pat)(g:M D):Prop:=
 ∀(cl:List (Str×JX))(C:JX)(s₀:JV)(H₀:Hp)(ex:Aa),(∀B' G',PG (X.blk N2 scope cl C s₀ H₀ ex) tg (tG X.K B' G' s))/\(∀B' G',Zn (X.blk N2 scope cl C s₀ H₀ ex) ifs (tBo X.K B' G' t))/\∀B' G',PE (X.blk N2 scope cl C s₀ H₀ ex) elt (tT X.K B' G' pt g)
theorem CG{f:M B4}{k:Nat}{s:D->Um->Ab}{t:M Bool}{g:M D}{ρ ρ':Um}{d:D}(h:Yz f k s t g ρ=.ok d ρ'):∃ds es,d=.list es/\f ρ=.ok ds ρ'/\cTT s t g ds (UQ ρ'++J8 k B0) []=O es:=by
 unfold Yz at h;cases zf:f ρ with
 |bad=>rw[zf]at h;cases h
 |ok ds ρ1=>
 rw[zf]at h;dsimp only at h;cases zl:cTT s t g ds (UQ ρ1++J8 k B0) []with
 |none=>rw[zl]at h;cases h
 |some es'=>rw[zl]at h;cases h;exact⟨ds,es',rfl,rfl,zl⟩
theorem Cf{tg elt iter:JZ}{ifs:B8}{scope:Scope}{pos pos':Pos}{N2:List Str}{k:Nat}{f:M B4}{s:D->Um->Ab}{t:M Bool}{g:M D}{use:Option (JU->Sem Unit)}{Qc:JU->JV->Prop}(hc:X.calm=B2)
  (hi:PI X tg iter (iD X.K B G0 f)) (Al:Vz X N2 scope elt tg ifs s t pt g) (hb:Wr X.env.scope scope X.N N2 k) (hs:∀x,Ul iter X.env x=pure x)
  {pins:List (JX×Obj)} {s0:JV} {σ:St} {G H:Hp} {ρ ρ1:Um} {ds esF:B4} (I:Inv X pins σ H s0) (k0:EOk X.K B G0 G H σ ρ) (zf:f ρ=.ok ds ρ1) (zl:cTT s t g ds (UQ ρ1++J8 k B0) []=O esF)
  (Az:∀(C:JX)(v:V)(fq:Aa)(u:JU)(G' H':Hp)(s4:JV)(m:Str->B7),RelV v u->Inv X pins σ H' s4->s4.heap.Ns C m->H' C=B0->C≠X.env.locals->X.s₀.heap.objs.size<=C->(∀x c,X.env.cells.lookup x=O c->c≠C)->(∀p∈X.pn++pins,p.1≠C) ->
   EOk X.K B G0 G' H' σ ρ1->Same G G'->NewT X.K B G' H' σ ρ1 (.lst pt) v (.list esF) fq->compPost (model X.prog X.w) X.A X.xe use Qc u C (.ok .next) s4) :
  J4 (model X.prog X.w) X.A (comprehension (.ListComp elt [⟨tg,iter,ifs,0⟩] scope pos) scope X.env pos' (newList []) B3 (eval iter X.env) use) Qc X.xe s0:=by
 obtain⟨qo,hcl,qd,jb⟩:=NO (scope:=scope) (env:=X.env) λy hy hf=>I.ok.has y.1 (hb.free y hy hf)
 refine wpAny_comprehension_free (use:=use) Z hs hcl hb.kind (λy hy hl=>(hb.names y hy).trans (by rw[hl])) (thn (hi pins s0 σ H (λJ H1=>∃G1,EOk X.K B G0 G1 H1 σ ρ1/\Same G G1/\Yq X.K J ds G1) I ⟨G,ρ,k0,by rw[zf];exact λJ G1 H1 k1 s1 it=>⟨G1,k1,s1,it⟩⟩) λv s1 h1=>thn h1 λitv s2 h2=>?_);obtain⟨it,fp,tn,J,H2,rfl,I2,T,st2,f2,G1,k1,sg1,its⟩:=h2;refine Jv (Pk qd jb hb.names (λx c e=>let ⟨_,q⟩:=I2.cell x c e;Qx q.lt (by first|exact Qt _|(rw[Jm];exact Jn _))) λh₁ cl hns₁ kept hco=>?_);dsimp only at hns₁ kept hco⊢;have hfr:H2 s2.heap.objs.size=B0:=I2.hok.fresh (Qt _)
 have I3:Inv X pins σ (upd H2 s2.heap.objs.size (.lst [])) {s2 with heap:=s2.heap.push {cls:=.type "list", dict:=B0,data:=.seq ([]:B5).toArray}}:=
  I2.laid (t':=s2.toks) (λb u e=>Qe _ e) (Qt _) ⟨JS _,[],0,.nil,QF _ Z⟩
 generalize hP:s2.heap.push {cls:=.type "list", dict:=B0,data:=.seq ([]:B5).toArray}=P at I3 hns₁ kept hco⊢;have old:∀b o,s2.heap.get? b=O o->P.get? b=O o:=λb o e=>hP ▸ Qe _ e;have fpo:∀b∈fp,∃o,s2.heap.get? b=O o:=λb hb=>let ⟨o,e,_⟩:=T.obj _ _ st2 b hb;⟨o,e⟩
 have fpD:∀b∈fp,b≠s2.heap.objs.size:=λb hb=>let ⟨o,e⟩:=fpo b hb;QZ (Qf e)
 have f3:∀b∈fp,Kg X pins (upd H2 s2.heap.objs.size (.lst [])) b:=λb hb=>⟨by rw[UI (fpD b hb)];exact(f2 b hb).1,(f2 b hb).2⟩
 have I4:=I3.enter (scope:=scope) (cl:=cl) (N2:=N2) (k:=k) (fp:=fp) (t':=s2.toks) hb.b hb.kind hb.free hco hns₁ kept f3 (λb hb=>let ⟨o,e⟩:=fpo b hb;⟨o,old b o e⟩);dsimp only at I4;have gD:G1 s2.heap.objs.size=B0:=k1.gh.free hfr;have kb:=(k1.beside (o:=.lst []) gD).more k;have sH:Same H2 (upd H2 s2.heap.objs.size (.lst [])):=KB hfr;have qy:upd H2 s2.heap.objs.size (.lst []) s2.heap.objs.size=O (.lst []):=UW;generalize upd H2 s2.heap.objs.size (.lst [])=H3 at I3 I4 f3 kb sH qy;generalize s2.heap.objs.size=D at *;have qz:tn 0 h₁:=T.keep 0 _ _ st2 λb hb o e=>kept b o (old b o e)
 have stat:∀b∈fp,Kg (X.blk N2 scope cl P.objs.size {s2 with heap:=P} H3 fp) pins H3 b:=λb hb=>by
  obtain⟨z0,z1,z2,z3,z4,z5⟩:=f3 b hb;obtain⟨o,e⟩:=fpo b hb;refine⟨z0,QZ (Qf (old b o e)),λz=>?_,.inl hb,λx c q=>(hco.old x c q).elim (z4 x c) λw=>Ji (Nat.lt_trans (Qf (old b o e)) w.1),z5⟩;rcases QM.mp (I3.stkSub b z)with q|q
  .exact z1 q
  .exact z2 q
 have neD:∀a o,H2 a=O o->a≠D:=λa o q z=>by subst z;rw[hfr]at q;cases q
 obtain⟨hg,ht,he⟩:=Al cl P.objs.size {s2 with heap:=P} H3 fp
 have loop:=Ch (Y:=X.blk N2 scope cl P.objs.size {s2 with heap:=P} H3 fp) (D':=D) (R:=compPost (model X.prog X.w) X.A X.xe use Qc (.ref D) P.objs.size) Z hc (O8 (elt:=elt) (gens:=[⟨tg,iter,ifs,0⟩]) (scope:=scope) (pos:=pos) (j:=0) (i:=iter) Z Z) hg ht he I4 T qz stat kb its qy gD zl λρ' σ' H' G' vs' fq s4 L=>by
   obtain⟨m,hm,_⟩:=id L.inv.loc;have I7:Inv X pins σ H' s4:=I3.call' (ch:=fp) L.inv.os L.inv.base L.inv.hok L.inv.bare λb hb=>⟨(f3 b hb).2.2.2.1,(f3 b hb).2.1,(f3 b hb).2.2.2.2.1,(f3 b hb).2.2.2.2.2⟩;have hH:Same H2 H':=λa o q=>L.hh a o (neD a o q) (sH a o q)
   have hf2:∀a,H3 a=B0->H2 a=B0:=λa q=>by
    cases z:H2 a with
    |none=>rfl
    |some o=>rw[sH a o z]at q;cases q
   have ex:Ext G1 H2 G' H':=⟨hH,L.gg,L.eok.gh,λa u e z=>L.np a u (sH a _ e) z⟩
   refine Az P.objs.size (.ref D) (D::fq) (.ref D) G' H' s4 m Z I7 hm L.inv.free (Ji I3.lt) I3.sz (λx c e z=>by obtain⟨_,q⟩:=I3.cell x c e;exact absurd q.lt (by rw[z];exact Jo _)) (λp hp z=>by have:=Qf (I3.pin p hp).1;exact absurd this (by rw[z];exact Jo _))
    (k1.ext ex) (sg1.trans L.gg) (k1.newT hH (.lst L.hd L.pr) (Jc.mpr ⟨(λm=>by have:=(L.fr D m).1;rw[qy]at this;cases this),L.nd⟩) λa m=>?_)
   rcases QM.mp m with rfl|m
   .exact⟨hfr,L.gd⟩
   .exact⟨hf2 a (L.fr a m).1,(L.fr a m).2⟩
 exact codeAny_compStart_list loop (T.self X.A 0 _ _ _ qz loop)
theorem RS{tg elt iter:JZ}{ifs:B8}{scope:Scope}{pos:Pos}{N2:List Str}{k:Nat}{f:M B4}{s:D->Um->Ab}{t:M Bool}{g:M D}(hc:X.calm=B2)
  (hi:PI X tg iter (iD X.K B G0 f)) (Al:Vz X N2 scope elt tg ifs s t pt g) (hb:Wr X.env.scope scope X.N N2 k) (hs:∀x,Ul iter X.env x=pure x:=by intro _;rfl) :
  PE X (.ListComp elt [⟨tg,iter,ifs,0⟩] scope pos) (tT X.K B G0 (.lst pt) (Yz f k s t g)):=by
 intro pins s0 σ H Q I ⟨G,ρ,k0,a⟩;cases z:Yz f k s t g ρ with
 |bad=>rw[z]at a;exact a.elim
 |ok d ρ1=>
 rw[z]at a;obtain⟨ds,es,rfl,zf,zl⟩:=CG z;rw[eval_ListComp];refine Cf hc hi Al hb hs I k0 zf zl λC v fq u G' H' s4 m rv I7 hm hC hL hz hcl hp k' s' n=>?_
 exact⟨m,hm,λh' sb=>⟨v,H',I7.turned (t':=s4.toks) (it:=C) (λb o hb e=>(sb.2 b hb).trans e) hC hL (.inr hz) hcl hp,rv,a v fq G' H' k' s' n⟩⟩
theorem LW{gl:List Str}{tg elt iter:JZ}{ifs:B8}{scope:Scope}{pos:Pos}{f:M B4}{s:D->Um->Ab}{t:M Bool}{g:M D}{k:Nat}{SC:Scope}{N1:List Str}(H:FnNm SC N1 gl)(hc:X.calm=B2)
  (hi:PI X tg iter (iD X.K B G0 f)) (Al:Vz X (blN N1 [⟨tg,iter,ifs,0⟩]) scope elt tg ifs s t pt g) (hb:Xe Wq SC scope N1 (blN N1 [⟨tg,iter,ifs,0⟩]) k=B2) (h1:X.env.scope=SC:=by rfl) (h2:X.N=N1:=by rfl) (hs:∀x,Ul iter X.env x=pure x:=by intro _;rfl) :
  PE X (.ListComp elt [⟨tg,iter,ifs,0⟩] scope pos) (tT X.K B G0 (.lst pt) (Yz f k s t g)):=RS hc hi Al (by rw[h1,h2];exact SW hb) hs
theorem Fj{scope0:Scope}{cl:List (Str×JX)}{C:JX}{s₀:JV}{H₀:Hp}{ex:Aa}{N2:List Str}{tg elt iter:JZ}{ifs:B8}{scope:Scope}{pos:Pos}{f:M B4}{s:D->Um->Ab}{t:M Bool}{g:M D}{k:Nat}(hc:X.calm=B2)
  (hi:PI (X.blk N2 scope0 cl C s₀ H₀ ex) tg iter (iD X.K B G0 f)) (Al:Vz (X.blk N2 scope0 cl C s₀ H₀ ex) (blN N2 [⟨tg,iter,ifs,0⟩]) scope elt tg ifs s t pt g) (hb:Xe Wq scope0 scope N2 (blN N2 [⟨tg,iter,ifs,0⟩]) k=B2) (hs:∀x,Ul iter (X.blk N2 scope0 cl C s₀ H₀ ex).env x=pure x:=by intro _;rfl) :
  PE (X.blk N2 scope0 cl C s₀ H₀ ex) (.ListComp elt [⟨tg,iter,ifs,0⟩] scope pos) (tT X.K B G0 (.lst pt) (Yz f k s t g)):=by
 refine RS (X:=X.blk N2 scope0 cl C s₀ H₀ ex) hc hi Al (NM hb λx e=>?_) hs;cases z:scope0.names.lookup x with
 |none=>rw[z]at e;cases e
 |some y=>
  rw[z]at e;cases y with
  |free=>exact(Rw (env:=X.env) z).symm
  |cell=>exact .inl (Wc (by decide) z)
  |_=>cases e
end
section
variable{X:Cx}{B G0:Hp}{KX:XW}{e o:JZ}{es:B8}{pos:Pos}{pt:Pat}
theorem Oo{f:M B4}{k:Nat}{s:D->Um->Ab}{t:M Bool}{g:M D}{ρ ρ1:Um}{ds es:B4}(h1:f ρ=.ok ds ρ1)(h2:cTT s t g ds (UQ ρ1++J8 k B0) []=O es):Yz f k s t g ρ=.ok (.list es) ρ1:=by unfold Yz;rw[h1];dsimp only;rw[h2]
end
section
variable{K:Frag}{B G0 G H:Hp}{σ:St}{ρ:Um}
theorem Rt{i:Nat}{p:Pat}{d:D}(h:ρ[i]?=O (O (.deep p d))):ZS ρ i=O (p,d):=by unfold ZS;rw[h]
theorem Ce{i:Nat}{ds:B4}(h:ρ[i]?=O (O (.own ds))):ZS ρ i=O (.lst .leaf,.list ds):=by unfold ZS;rw[h]
theorem EOk.mutN{j:Nat}{p pn:Pat}{d d' dn:D}{v vn:V}{fp fp' fn:Aa}{a:JX}{o:HO}(k:EOk K B G0 G H σ ρ)(hd:ρ[j]?=O (O (.deep p d)))(hv:σ[j]?=O (O v))(r:RepO K G H p v d fp)(ha:a∈fp)
  (n:NewT K B G H σ ρ pn vn dn fn) (r':RepO K G (upd H a o) p v d' fp') (At:fp'.Nodup) (sub:∀b∈fp',b∈fp∨b∈fn):EOk K B G0 G (upd H a o) σ (ρ.set j (O (.deep p d'))):=by
 obtain⟨ω,k1,k2⟩:=k.dp;obtain⟨v0,fp0,s0,r0,n0,w0⟩:=k1 j p d hd;rw[hv]at s0;cases s0;have e0:=r0.uniq (.refl _) r;subst e0;obtain⟨hb,hg,hw⟩:=w0 a ha;obtain⟨ws,hl⟩:=r.isl a ha;have nt:∀vs,H a≠O (.tup vs):=λvs z=>by rw[hl]at z;cases ws<;>cases z
 have nz:∀{m:Nat}{s:Sl},j≠m->(ρ.set j (O (.deep p d')))[m]?=O (O s)->ρ[m]?=O (O s):=λ{m s} z q=>by rw[Qi z]at q;exact q
 refine⟨λb u e=>?_,λb u e=>?_,k.g0,k.np,by rw[QQ];exact k.len,λm dm e=>?_,λm es e=>?_,λm l c es fs q1 q2 s1 s2=>?_,λb=>if b∈fn then j else ω b,λm pm dm e=>?_,λm es b e s=>?_⟩
 .rw[UI (ZC e hb)];exact k.bh b u e
 .rw[UI (ZC e hg)];exact k.gh b u e
 .by_cases z:j=m
  .subst z;have:=Kp e;cases this
  .exact k.pub m dm (nz z e)
 .by_cases z:j=m
  .subst z;have:=Kp e;cases this
  .have e:=nz z e
   obtain⟨c,us,g1,g2,g3,g4,g5⟩:=k.own m es e;have zc:c≠a:=λw=>by subst w;exact z (hw.symm.trans (k2 m es c e g1))
   exact⟨c,us,g1,g2,g3,by rw[UI zc];exact g4,g5⟩
 .have z1:j≠m:=λz=>by subst z;have:=Kp q1;cases this
  have z2:j≠l:=λz=>by subst z;have:=Kp q2;cases this
  exact k.sep m l c es fs (nz z1 q1) (nz z2 q2) s1 s2
 .by_cases z:j=m
  .subst z
   have:=Kp e;cases this;refine⟨v,fp',hv,r',At,λb mb=>?_⟩;dsimp only;by_cases hbn:b∈fn
   .rw[Qr hbn];exact⟨(n.b b hbn).1,(n.b b hbn).2,rfl⟩
   .rw[QD hbn]
    rcases sub b mb with mb|mb
    .exact w0 b mb
    .exact(hbn mb).elim
  .have e:=nz z e
   obtain⟨vm,fm,sm,rm,nm,wm⟩:=k1 m pm dm e;refine⟨vm,fm,sm,rm.upd nt (λmm=>z (hw.symm.trans (wm a mm).2.2)),nm,λb mb=>⟨(wm b mb).1,(wm b mb).2.1,?_⟩⟩;dsimp only;rw[QD (λy=>n.dp b y m pm dm vm fm e sm rm mb)];exact(wm b mb).2.2
 .have z:j≠m:=λz=>by subst z;have:=Kp e;cases this
  have e:=nz z e;dsimp only;rw[QD (λy=>n.f b y m es e s)];exact k2 m es b e s
end
abbrev TyM:=JX->Option Nat
def SpI(H:Hp)(T:TyM)(c:Nat):Prop:=∀a n,T a=O n->∃vs,H a=O (.lst vs)/\vs.length<=c/\∀m,n=m+1->∀v∈vs,∃b,v=.ref b/\T b=O m
noncomputable def YR(H:Hp):Ad->V->Option V
 |[],v=>O v
 |k::r,.ref a=>match H a with
  |some (.tup vs)=>(vs[k]?).bind (YR H r)
  |_=>B0
 |_,_=>B0
theorem T4{H:Hp}:∀{π:Ad}{v u:V},YR H π v=O u->ZD H π v=O u
 |[],v,u,e=>by cases e;rfl
 |k::r,.ref a,u,e=>by
  unfold YR at e;unfold ZD;split at e
  .rename_i vs h
   rw[h];dsimp only;cases z:vs[k]? with
   |none=>rw[z]at e;cases e
   |some w=>rw[z]at e;exact T4 e
  .cases e
 |k::r,.int _,u,e=>nomatch e
 |k::r,.non,u,e=>nomatch e
 |k::r,.bl _,u,e=>nomatch e
 |k::r,.str _,u,e=>nomatch e
abbrev Gam:=List (Nat×Ad×Nat)
def GOk(H:Hp)(T:TyM)(σ:St)(Γ:Gam):Prop:=∀x∈Γ,∃v a,σ[x.1]?=O (O v)/\YR H x.2.1 v=O (.ref a)/\T a=O x.2.2
structure SpR(H:Hp)(T:TyM)(σ:St)(ns:Ad)(top:Nat)(H':Hp)(T':TyM)(σ':St):Prop where
 oth:∀a u,T a=B0->H a=O u->H' a=O u
 ext:∀a n,T a=O n->T' a=O n
 new:∀a n,T' a=O n->T a=O n∨H a=B0
 low:∀a n,T a=O n->top<n->H' a=H a
 len:σ'.length=σ.length
 st:∀i,i∉ns->σ'[i]?=σ[i]?
section
variable{H H' H'':Hp}{T T' T'':TyM}{σ σ' σ'':St}{ns ms:Ad}{top top' c c':Nat}{Γ:Gam}
theorem SpR.refl:SpR H T σ ns top H T σ:=⟨λ_ _ _ q=>q,λ_ _ q=>q,λ_ _ q=>.inl q,λ_ _ _ _=>rfl,rfl,λ_ _=>rfl⟩
theorem SpR.trans(a:SpR H T σ ns top H' T' σ')(b:SpR H' T' σ' ms top H'' T'' σ''):SpR H T σ (ns++ms) top H'' T'' σ'' where
 oth:=λx u t h=>b.oth x u (by
  cases z:T' x with
  |none=>rfl
  |some n=>
   rcases a.new x n z with q|q
   .rw[t]at q;cases q
   .rw[h]at q;cases q) (a.oth x u t h)
 ext:=λx n q=>b.ext x n (a.ext x n q)
 new:=λx n q0=>by
  rcases b.new x n q0 with q|q
  .exact a.new x n q
  .cases z:T x with
   |some m=>have h1:=b.ext x m (a.ext x m z);rw[q0]at h1;cases h1;exact .inl Z
   |none=>
    cases y:H x with
    |none=>exact .inr Z
    |some u=>rw[a.oth x u z y]at q;cases q
 low:=λx n q l=>(b.low x n (a.ext x n q) l).trans (a.low x n q l)
 len:=b.len.trans a.len
 st:=λi h=>(b.st i λm=>h (Qm _ m)).trans (a.st i λm=>h (Qs _ m))
theorem SpR.up(a:SpR H T σ ns top H' T' σ')(h:top<=top'):SpR H T σ ns top' H' T' σ':=⟨a.oth,a.ext,a.new,λx n q l=>a.low x n q (Nat.lt_of_le_of_lt h l),a.len,a.st⟩
theorem Nw(I:SpI H T c)(a:SpR H T σ ns top H' T' σ'):∀{π:Ad}{v u:V},YR H π v=O u->YR H' π v=O u
 |[],v,u,e=>e
 |k::r,.ref x,u,e=>by
  unfold YR at e⊢;split at e
  .rename_i vs h
   have:T x=B0:=by
    cases z:T x with
    |none=>rfl
    |some n=>obtain⟨ws,hw,_⟩:=I x n z;rw[h]at hw;cases hw
   rw[a.oth x _ this h];dsimp only;cases z:vs[k]? with
   |none=>rw[z]at e;cases e
   |some w=>rw[z]at e;exact Nw I a e
  .cases e
 |k::r,.int _,u,e=>nomatch e
 |k::r,.non,u,e=>nomatch e
 |k::r,.bl _,u,e=>nomatch e
 |k::r,.str _,u,e=>nomatch e
theorem GOk.keep(I:SpI H T c)(g:GOk H T σ Γ)(a:SpR H T σ ns top H' T' σ')(h:∀x∈Γ,x.1∉ns):GOk H' T' σ' Γ:=λx m=>by obtain⟨v,b,h1,h2,h3⟩:=g x m;exact⟨v,b,by rw[a.st x.1 (h x m)];exact h1,Nw I a h2,a.ext b _ h3⟩
theorem SpI.le(I:SpI H T c)(h:c<=c'):SpI H T c':=λa n q=>let ⟨vs,h1,h2,h3⟩:=I a n q;⟨vs,h1,Qq h2 h,h3⟩
theorem SpI.put{a:JX}{n:Nat}{us:List V}(I:SpI H T c)(h:c<=c')(ha:T a=O n)(hl:us.length<=c')(ty:∀m,n=m+1->∀v∈us,∃b,v=.ref b/\T b=O m):SpI (upd H a (.lst us)) T c':=λb k q=>by
 by_cases z:b=a
 .subst z
  rw[ha]at q;cases q;exact⟨us,UW,hl,ty⟩
 .obtain⟨vs,h1,h2,h3⟩:=I b k q
  exact⟨vs,by rw[UI z];exact h1,Qq h2 h,h3⟩
theorem SpR.put{a:JX}{n:Nat}{o:HO}(ha:T a=O n)(h:n<=top):SpR H T σ ns top (upd H a o) T σ:=
 ⟨λb u q e=>by rw[UI (λz=>by subst z;rw[ha]at q;cases q)];exact e,λ_ _ q=>q,λ_ _ q=>.inl q,λb m q l=>by rw[UI (λz=>by subst z;rw[ha]at q;cases q;exact absurd l (Nat.not_lt.mpr h))],rfl,λ_ _=>rfl⟩
noncomputable def Kw(T:TyM)(a:JX)(m:Nat):TyM:=λb=>if b=a then O m else T b
theorem SpI.new{a:JX}{m:Nat}{us:List V}(I:SpI H T c)(ha:H a=B0)(hl:us.length<=c)(ty:∀k,m=k+1->us=[]):SpI (upd H a (.lst us)) (Kw T a m) c/\SpR H T σ ns top (upd H a (.lst us)) (Kw T a m) σ:=by
 have tn:T a=B0:=by
  cases z:T a with
  |none=>rfl
  |some n=>obtain⟨ws,hw,_⟩:=I a n z;rw[ha]at hw;cases hw
 have ne:∀{b n},T b=O n->b≠a:=λ{b n} q z=>by subst z;rw[tn]at q;cases q
 refine⟨λb k q=>?_,λb u q e=>?_,λb n q=>?_,λb n q=>?_,λb n q l=>?_,rfl,λ_ _=>rfl⟩
 .unfold Kw at q
  by_cases z:b=a
  .subst z
   rw[Qr Z]at q;cases q;exact⟨us,UW,hl,λk e v mv=>by rw[ty k e]at mv;cases mv⟩
  .rw[QD z]at q
   obtain⟨vs,h1,h2,h3⟩:=I b k q;refine⟨vs,by rw[UI z];exact h1,h2,λk' e v mv=>?_⟩;obtain⟨b',e1,e2⟩:=h3 k' e v mv;exact⟨b',e1,by unfold Kw;rw[QD (ne e2)];exact e2⟩
 .rw[UI (λz=>by subst z;rw[ha]at e;cases e)];exact e
 .unfold Kw;rw[QD (ne q)];exact q
 .unfold Kw at q
  by_cases z:b=a
  .subst z;exact .inr ha
  .rw[QD z]at q;exact .inl q
 .exact UI (ne q)
end
noncomputable def U8(Γ:Gam)(ns:Ad)(top:Nat)(κ:Nat->Nat):TS:=λDn σ H=>∃T c,SpI H T c/\GOk H T σ Γ/\κ c<=1000000/\(∀i∈ns,i<σ.length)/\∀σ' H' T',SpR H T σ ns top H' T' σ'->SpI H' T' (κ c)->Dn.nx σ' H'
noncomputable def Tc(Γ:Gam)(j:Nat)(π:Ad):Option Nat:=Γ.findSome? λx=>if x.1=j/\x.2.1=π then O x.2.2 else B0
theorem Rg{Γ:Gam}{j:Nat}{π:Ad}{n:Nat}(h:Tc Γ j π=O n):(j,π,n)∈Γ:=by
 obtain⟨⟨a,b,c⟩,m,e⟩:=List.exists_of_findSome?_eq_some h;split at e
 .rename_i hh
  obtain⟨h1,h2⟩:=hh;cases e;cases h1;cases h2;exact m
 .cases e
noncomputable def itK(κ:Nat->Nat):Nat->Nat->Nat
 |0,c=>c
 |n+1,c=>κ (itK κ n c)
noncomputable def kA(c:Nat):Nat:=c+1
noncomputable def kC(κ1 κ2:Nat->Nat)(c:Nat):Nat:=κ2 (κ1 c)
noncomputable def kF(κ:Nat->Nat)(c:Nat):Nat:=itK κ c c
def Inf(κ:Nat->Nat):Prop:=∀c,c<=κ c
theorem WH:Inf kA:=λc=>Jn c
theorem WG{κ1 κ2:Nat->Nat}(h1:Inf κ1)(h2:Inf κ2):Inf (kC κ1 κ2):=λc=>Qq (h1 c) (h2 _)
theorem Tx{κ:Nat->Nat}(h:∀c,c<=κ c)(c:Nat):∀{m n:Nat},m<=n->itK κ m c<=itK κ n c
 |m,0,e=>by rw[Nat.le_zero.mp e];exact Qt _
 |m,n+1,e=>by
  by_cases z:m=n+1
  .rw[z];exact Qt _
  .exact Qq (Tx h c (m:=m) (n:=n) (by omega)) (h _)
theorem WF{κ:Nat->Nat}(h:Inf κ):Inf (kF κ):=λc=>Tx h c (m:=0) (n:=c) (JS c)
section
variable{X:Cx}{B G0:Hp}{KX:XW}{e o iter:JZ}{pos:Pos}{st:Stmt}{sts body:List Stmt}{Γ:Gam}{ns ms:Ad}{top top':Nat}{κ κ1 κ2:Nat->Nat}{j n:Nat}{π:Ad}
theorem Pd{U:TS}(hn:∀x∈Γ,x.1∉ns)(h1:Inf κ2){Dn:Ends}{σ:St}{H:Hp}(h:U8 Γ (ns++ms) top (kC κ1 κ2) {Dn with nx:=U Dn} σ H):U8 Γ ns top κ1 {Dn with nx:=U8 Γ ms top κ2 {Dn with nx:=U Dn}} σ H:=by obtain⟨T,c,I,g,hk,hl,q⟩:=h;refine⟨T,c,I,g,Qq (h1 _) hk,λi m=>hl i (Qs _ m),λσ' H' T' r I'=>⟨T',κ1 c,I',g.keep I r hn,hk,λi m=>by rw[r.len];exact hl i (Qm _ m),λσ2 H2 T2 r2 I2=>q σ2 H2 T2 (r.trans r2) I2⟩⟩
theorem E6(h1:PS X st (U8 Γ ns top κ1))(h2:PSs X sts (U8 Γ ms top κ2))(hn:∀x∈Γ,x.1∉ns:=by decide +kernel)(hi:Inf κ2:=by repeat' first|exact infI|exact WH|refine WF ?_|refine WG ?_ ?_):PSs X (st::sts) (U8 Γ (ns++ms) top (kC κ1 κ2)):=
 Wj (Wx h1 h2) λDn σ H h=>Pd (U:=λD=>D.nx) hn hi h
theorem Fi(h1:PS X st (U8 Γ ns top κ)):PSs X [st] (U8 Γ ns top κ):=Vh h1
theorem Fh{U:TS}(h1:PS X st (U8 Γ ns top κ1))(h2:PSs X sts (Zu (U8 Γ ms top κ2) U))(hn:∀x∈Γ,x.1∉ns:=by decide +kernel)(hi:Inf κ2:=by repeat' first|exact infI|exact WH|refine WF ?_|refine WG ?_ ?_):PSs X (st::sts) (Zu (U8 Γ (ns++ms) top (kC κ1 κ2)) U):=
 Wj (Wx h1 h2) λDn σ H h=>Pd (U:=U) hn hi h
theorem LV{U:TS}(h1:PS X st (U8 Γ ns top κ))(h2:PSs X sts U):PSs X (st::sts) (Zu (U8 Γ ns top κ) U):=Wx h1 h2
theorem Pc{u:V}{apos cpos:Pos}(ho:PE X o (ZI X.K j π))(he:PE X e (tC u))(qH:Tc Γ j π=O 0:=by rfl)
  (hbase:attributeBase o "append" X.env (eval o X.env)=eval o X.env:=by rfl)
  (hfew:((backTo cpos (J5 [e] X.env)).all (λx=>!x.1)&&(backToKw cpos (keywordEach [] X.env)).all (λx=>x.1.isSome)
   && decide ([e].length+([]:List Keyword).length+(if([]:List Keyword).isEmpty then 0 else 1)<30))=B2:=by rfl)
  (hline:(apos.endLine==cpos.line)=B2:=by rfl) (hs:J5 [e] X.env=[(B3,eval e X.env)]:=by rfl)
  (hsw:swapsWith (.Call (.Attribute o "append" apos) [e] [] cpos) B0 pos.line X.env=pure B3:=by rfl) :
  PS X (.Expr (.Call (.Attribute o "append" apos) [e] [] cpos) pos) (U8 Γ [] top kA):=
 U9 (Xk (VD Jw JE JF Vq ho (KI he Zd (by rw[hs];rfl)) hbase hfew hline (by rw[hs];rfl) Z) hsw) λD σ H ⟨T,c,I,g,hk,hl,q⟩=>by obtain⟨v,ad,h1,h2,h3⟩:=g _ (Rg qH);obtain⟨vs,h4,h5,h6⟩:=I ad 0 h3;exact⟨v,h1,Yo.of (T4 h2) ⟨.inl ⟨rfl,_,SqL.of h4⟩,ad,vs,u,rfl,rfl,h4,Qx (Nat.lt_of_le_of_lt h5 hk) lim,q σ _ T (SpR.put h3 (JS _)) (I.put (Jn _) h3 (by rw[Qo];exact Nat.succ_le_succ h5) λm e=>(nomatch e))⟩⟩
noncomputable def RR(us:List V):TE:=λ_ H Q=>∀p,H p=B0->Q (.ref p) (upd H p (.lst us))
theorem Fg:PE X (.List [] pos) (RR []):=UK (Ts (Zd (X:=X))) λσ H Q h=>⟨by decide,h⟩
theorem Ff{us:List V}{m:Nat}{apos cpos:Pos}(ho:PE X o (ZI X.K j π))(he:PE X e (RR us))(hu:us.length<=1/\(us=[]∨m=0):=by exact⟨by decide,by first|exact .inl rfl|exact .inr Z⟩)(qH:Tc Γ j π=O (m+1):=by rfl)(ht:m+1<=top:=by decide)
  (hbase:attributeBase o "append" X.env (eval o X.env)=eval o X.env:=by rfl)
  (hfew:((backTo cpos (J5 [e] X.env)).all (λx=>!x.1)&&(backToKw cpos (keywordEach [] X.env)).all (λx=>x.1.isSome)
   && decide ([e].length+([]:List Keyword).length+(if([]:List Keyword).isEmpty then 0 else 1)<30))=B2:=by rfl)
  (hline:(apos.endLine==cpos.line)=B2:=by rfl) (hs:J5 [e] X.env=[(B3,eval e X.env)]:=by rfl)
  (hsw:swapsWith (.Call (.Attribute o "append" apos) [e] [] cpos) B0 pos.line X.env=pure B3:=by rfl) :
  PS X (.Expr (.Call (.Attribute o "append" apos) [e] [] cpos) pos) (U8 Γ [] top kA):=
 U9 (Xk (VD Jw JE JF Vq ho (KI he Zd (by rw[hs];rfl)) hbase hfew hline (by rw[hs];rfl) Z) hsw) λD σ H ⟨T,c,I,g,hk,hl,q⟩=>by
  obtain⟨v,ad,h1,h2,h3⟩:=g _ (Rg qH);obtain⟨vs,h4,h5,h6⟩:=I ad (m+1) h3;refine⟨v,h1,Yo.of (T4 h2) ⟨.inl ⟨rfl,_,SqL.of h4⟩,λp hp=>?_⟩⟩;have ne:ad≠p:=λz=>by subst z;rw[h4]at hp;cases hp
  obtain⟨I1,R1⟩:=SpI.new (σ:=σ) (ns:=[]) (top:=top) (m:=m) (us:=us) (I.le (Jn c)) hp (Qq hu.1 (Nat.le_add_left 1 c)) λk e=>hu.2.elim id λz=>by rw[z]at e;cases e
  have t1:=R1.ext ad _ h3;refine⟨ad,vs,.ref p,rfl,rfl,by rw[UI ne];exact h4,Qx (Nat.lt_of_le_of_lt h5 hk) lim,?_⟩;refine q σ _ _ (R1.trans (SpR.put t1 ht)) (I1.put (Qt _) t1 (by rw[Qo];exact Nat.succ_le_succ h5) λk e v' mv=>?_);cases e;rcases QG.mp mv with mv|mv
  .obtain⟨b,e1,e2⟩:=h6 m Z v' mv
   exact⟨b,e1,R1.ext b _ e2⟩
  .exact⟨p,QJ.mp mv,by unfold Kw;rw[Qr Z]⟩
theorem Pb{y:Str}{iy:Nat}{p1 p4:Pos}(hp:PassesOwn (model X.prog X.w) X.A X.env X.xe)(hc:X.calm=B2)(hN:X.N.Nodup)(hy:X.N[iy]?=O y)(ly:Loc X.env.scope y)(ho:PE X iter (ZI X.K j π))
  (hb:PSs X body (U8 ((iy,[],n)::Γ) ns n κ)) (qH:Tc Γ j π=O (n+1):=by rfl) (htt:n<=top:=by decide) (hi:Inf κ:=by repeat' first|exact infI|exact WH|refine WF ?_|refine WG ?_ ?_) (hn:∀x∈Γ,x.1∉iy::ns:=by decide +kernel) (hyn:iy∉ns:=by decide)
  (hfy:X.fn y=B2∨X.env.scope.names.lookup y=O .local:=by first|exact .inl rfl|exact .inr rfl|assumption) (hs:∀x,Ul iter X.env x=pure x:=by intro _;rfl) :
  PS X (.For (.Name y p1) iter body [] p4) (U8 Γ (iy::ns) top (kF κ)):=by
 refine U9 (Ps (pos:=p4) hp hc (FI ho) (SH (pos:=p1) hN hy ly hfy) hb hs) λDn σ H ⟨T,c,I,g,hk,hl,q⟩=>?_
 obtain⟨v,ad,h1,h2,h3⟩:=g _ (Rg qH);obtain⟨vs,h4,h5,h6⟩:=I ad (n+1) h3;refine⟨v,h1,Yo.of (T4 h2) ⟨ad,rfl,⟨vs,SqL.of h4⟩,λi m σ' H'=>m=vs.length-i/\i<=vs.length/\∃T',SpR H T σ (iy::ns) n H' T' σ'/\SpI H' T' (itK κ i c),⟨vs.length,rfl,JS _,T,.refl,I⟩,?_⟩⟩;rintro i m σ' H' ⟨rfl,hle,T',R,I'⟩;have qm:H' ad=O (.lst vs):=(R.low ad _ h3 (Nat.lt_succ_self n)).trans h4;have hiy:iy<σ.length:=hl iy Qk;by_cases hlt:i<vs.length
 .right
  refine⟨⟨vs,vs[i],SqL.of qm,Qp hlt⟩,λσ2 H2=>∃T2,SpR H T σ (iy::ns) n H2 T2 σ2/\SpI H2 T2 (itK κ (i+1) c),λσ2 H2 ⟨T2,r2,i2⟩=>⟨vs.length-(i+1),by omega,rfl,hlt,T2,r2,i2⟩,λx H2 yl=>?_⟩;obtain⟨rfl,yl⟩:=yl;have hx:=yl vs (SqL.of qm);rw[Qp hlt]at hx;cases hx;obtain⟨ws,w1,w2,w3⟩:=I' ad (n+1) (R.ext ad _ h3);rw[qm]at w1;cases w1;obtain⟨b,e1,e2⟩:=w3 n Z vs[i] (List.getElem_mem hlt);show U8 _ _ _ _ _ (σ'.set iy (O vs[i])) _;rw[e1];have gk:=g.keep I R hn;refine⟨T',itK κ i c,I',λx m=>?_,Qq (Tx hi c (m:=i+1) (n:=c) (Qq hlt h5)) hk,λz m=>by rw[QQ,R.len];exact hl z (Qj _ m),λσ2 H2 T2 r2 i2=>⟨T2,?_,i2⟩⟩
  .rcases QM.mp m with rfl|m
   .exact⟨.ref b,b,QL (by rw[R.len];exact hiy),rfl,e2⟩
   .obtain⟨v',b',g1,g2,g3⟩:=gk x m
    exact⟨v',b',by rw[Qi (λz=>hn x m (by rw[z];exact Qk))];exact g1,g2,g3⟩
  .have r3:=R.trans (ms:=iy::ns) (σ'':=σ2) (H'':=H2) (T'':=T2) ⟨r2.oth,r2.ext,r2.new,r2.low,by rw[r2.len,QQ],λk qF=>by
    rw[r2.st k (λz=>qF (Qj _ z)),Qi (λz=>qF (by rw[z];exact Qk))]⟩
   exact⟨r3.oth,r3.ext,r3.new,r3.low,r3.len,λk qF=>r3.st k λz=>(QG.mp z).elim qF qF⟩
 .left
  have e:i=vs.length:=by omega
  exact⟨⟨vs,SqL.of qm,Q0 hlt⟩,q σ' H' T' (R.up htt) (I'.le (Tx hi c (by rw[e];exact h5)))⟩
end
noncomputable def dep:Pat->Option Nat
 |.lst p=>O ((dep p).elim 0 (· + 1))
 |_=>B0
noncomputable def Yb:Nat->Pat->List (Ad×Nat)
 |_,.lst p=>[([],(dep p).elim 0 (· + 1))]
 |n+1,.tup ps=>ps.zipIdx.flatMap λx=>(Yb n x.1).map λy=>(x.2::y.1,y.2)
 |_,_=>[]
noncomputable def gamO(i n:Nat)(p:Pat):Gam:=(Yb n p).map λx=>(i,x)
noncomputable def eqF:Nat->Pat->Pat->Bool
 |_,.leaf,.leaf=>B2
 |n+1,.lst p,.lst q=>eqF n p q
 |n+1,.tup ps,.tup qs=>ps.length==qs.length&&(ps.zip qs).all λx=>eqF n x.1 x.2
 |_,_,_=>B3
theorem PP{f:Pat->Pat->Bool}(h:∀p q,f p q=B2->p=q):∀{ps qs:List Pat},ps.length=qs.length->(ps.zip qs).all (λx=>f x.1 x.2)=B2->ps=qs
 |[],[],_,_=>rfl
 |[],_::_,e,_=>nomatch e
 |_::_,[],e,_=>nomatch e
 |p::ps,q::qs,e,a=>by rw[JL,Ju,Qn]at a;rw[h p q a.1,PP h (Nat.succ.inj e) a.2]
theorem Tw:∀(n:Nat)(p q:Pat),eqF n p q=B2->p=q
 |0,.leaf,.leaf,_=>rfl
 |0,.lst _,_,h=>by simp[eqF]at h
 |0,.tup _,_,h=>by simp[eqF]at h
 |0,.dic,_,h=>by simp[eqF]at h
 |0,.leaf,.lst _,h=>by simp[eqF]at h
 |0,.leaf,.tup _,h=>by simp[eqF]at h
 |0,.leaf,.dic,h=>by simp[eqF]at h
 |n+1,.leaf,.leaf,_=>rfl
 |n+1,.lst p,.lst q,h=>by rw[Tw n p q h]
 |n+1,.tup ps,.tup qs,h=>by simp only[eqF,Qn,beq_iff_eq]at h;rw[PP (Tw n) h.1 h.2]
 |n+1,.leaf,.lst _,h=>by simp[eqF]at h
 |n+1,.leaf,.tup _,h=>by simp[eqF]at h
 |n+1,.leaf,.dic,h=>by simp[eqF]at h
 |n+1,.lst _,.leaf,h=>by simp[eqF]at h
 |n+1,.lst _,.tup _,h=>by simp[eqF]at h
 |n+1,.lst _,.dic,h=>by simp[eqF]at h
 |n+1,.tup _,.leaf,h=>by simp[eqF]at h
 |n+1,.tup _,.lst _,h=>by simp[eqF]at h
 |n+1,.tup _,.dic,h=>by simp[eqF]at h
 |n+1,.dic,_,h=>by simp[eqF]at h
noncomputable def U3:Nat->Nat->Pat->D->Bool
 |n+1,c,.lst p,.list ds=>decide (ds.length<=c)&&ds.all (U3 n c p)
 |n+1,c,.tup ps,.tuple ds=>(ps.zip ds).all λx=>U3 n c x.1 x.2
 |_,_,.leaf,_=>B2
 |_,_,_,_=>B3
section
variable{K:Frag}{G H:Hp}
def TyAt(H:Hp)(T:TyM)(fp:Aa)(c:Nat):Prop:=(∀a k,T a=O k->a∈fp)/\SpI H T c
theorem TyAt.join{T1 T2:TyM}{f1 f2:Aa}{c:Nat}(h1:TyAt H T1 f1 c)(h2:TyAt H T2 f2 c)(nd:(f1++f2).Nodup):∃T,TyAt H T (f1++f2) c/\(∀a k,T1 a=O k->T a=O k)/\∀a k,T2 a=O k->T a=O k:=by
 have dj:∀{a k},T2 a=O k->T1 a=B0:=λ{a k} q=>by
  cases z:T1 a with
  |none=>rfl
  |some n=>exact((QH.mp nd).2.2 a (h1.1 a n z) a (h2.1 a k q) Z).elim
 have e1:∀a k,T1 a=O k->(T1 a).or (T2 a)=O k:=λa k q=>by rw[q];rfl
 have e2:∀a k,T2 a=O k->(T1 a).or (T2 a)=O k:=λa k q=>by rw[dj q];exact q
 refine⟨λa=>(T1 a).or (T2 a),⟨λa k q=>?_,λa k q=>?_⟩,e1,e2⟩<;>dsimp only at q⊢
 .cases z:T1 a with
  |some n=>exact Qs _ (h1.1 a n z)
  |none=>rw[z]at q;exact Qm _ (h2.1 a k q)
 .cases z:T1 a with
  |some n=>rw[z]at q;cases q;obtain⟨vs,a1,a2,a3⟩:=h1.2 a k z;exact⟨vs,a1,a2,λm e v mv=>let ⟨b,b1,b2⟩:=a3 m e v mv;⟨b,b1,e1 b m b2⟩⟩
  |none=>rw[z]at q;obtain⟨vs,a1,a2,a3⟩:=h2.2 a k q;exact⟨vs,a1,a2,λm e v mv=>let ⟨b,b1,b2⟩:=a3 m e v mv;⟨b,b1,e2 b m b2⟩⟩
theorem RepO.ty3(c:Nat):Zo K G H
  (λp v d fp=>∀n,U3 n c p d=B2->fp.Nodup->∃T,TyAt H T fp c/\(∀k,dep p=O k->∃b,v=.ref b/\T b=O k)/\∀x∈Yb n p,∃a,YR H x.1 v=O (.ref a)/\T a=O x.2)
  (λp vs ds fp=>vs.length=ds.length/\∀n,ds.all (U3 n c p)=B2->fp.Nodup->∃T,TyAt H T fp c/\∀k,dep p=O k->∀v∈vs,∃b,v=.ref b/\T b=O k)
  (λps vs ds fp=>∀n,(ps.zip ds).all (λx=>U3 n c x.1 x.2)=B2->fp.Nodup->∃T,TyAt H T fp c/\∀(k i:Nat) p,ps[k]?=O p->∀x∈Yb n p,∃v a,vs[k]?=O v/\YR H x.1 v=O (.ref a)/\T a=O x.2):=
 RepO.ind3
 (λr n _ _=>⟨λ_=>B0,⟨λ_ _ q=>(nomatch q),λ_ _ q=>(nomatch q)⟩,λk e=>(nomatch e),λx m=>by cases n<;>cases m⟩)
 (λ{p a vs ds fp} h r n hl nd=>by
  cases n with
  |zero=>simp[U3]at hl
  |succ n=>
  simp only[U3,Qn,QY]at hl;obtain⟨na,nf⟩:=Jc.mp nd;obtain⟨T,t1,t2⟩:=r.2 n hl.2 nf;have hv:vs.length<=c:=by rw[r.1];exact hl.1
  have ne:∀{b k},T b=O k->b≠a:=λ{b k} q z=>by subst z;exact na (t1.1 _ _ q)
  have up:∀b k,T b=O k->Kw T a ((dep p).elim 0 (· + 1)) b=O k:=λb k q=>by unfold Kw;rw[QD (ne q)];exact q
  have me:Kw T a ((dep p).elim 0 (· + 1)) a=O ((dep p).elim 0 (· + 1)):=by unfold Kw;rw[Qr Z]
  refine⟨Kw T a ((dep p).elim 0 (· + 1)),⟨λb k q=>?_,λb k q=>?_⟩,λk e=>⟨a,rfl,by rw[me];exact e⟩,λx m=>?_⟩
  .unfold Kw at q
   by_cases z:b=a
   .subst z;exact Qk
   .rw[QD z]at q;exact Qj _ (t1.1 b k q)
  .by_cases z:b=a
   .subst z
    rw[me]at q;cases q;refine⟨vs,h,hv,λm e v mv=>?_⟩
    have zd:dep p=O m:=by
     cases zd:dep p with
     |none=>rw[zd]at e;cases e
     |some k0=>rw[zd]at e;rw[Nat.succ.inj e]
    obtain⟨b',b1,b2⟩:=t2 m zd v mv;exact⟨b',b1,up b' m b2⟩
   .unfold Kw at q
    rw[QD z]at q;obtain⟨ws,a1,a2,a3⟩:=t1.2 b k q;exact⟨ws,a1,a2,λm e v mv=>let ⟨b',b1,b2⟩:=a3 m e v mv;⟨b',b1,up b' m b2⟩⟩
  .simp only[Yb,QJ]at m
   subst m;exact⟨a,rfl,me⟩)
 (λ{ps a vs ds fp} h r n hl nd=>by
  cases n with
  |zero=>simp[U3]at hl
  |succ n=>
  simp only[U3]at hl;obtain⟨T,t1,t2⟩:=r n hl nd;refine⟨T,t1,λk e=>(nomatch e),λx m=>?_⟩;simp only[Yb,List.mem_flatMap,List.mem_map]at m;obtain⟨⟨q,k⟩,mk,y,my,rfl⟩:=m;have hk:=List.mem_zipIdx_iff_getElem?.mp mk;obtain⟨v,b,e1,e2,e3⟩:=t2 k 0 q hk y my;exact⟨b,by unfold YR;rw[h];dsimp only;rw[e1];exact e2,e3⟩)
 (λe hl h r n hh _=>by cases n<;>simp[U3]at hh)
 ⟨rfl,λn _ _=>⟨λ_=>B0,⟨λ_ _ q=>(nomatch q),λ_ _ q=>(nomatch q)⟩,λk e v m=>(nomatch m)⟩⟩
 (λh t=>⟨JQ Nat.succ t.1,λn hl nd=>by
  rw[Ju,Qn]at hl;obtain⟨n1,n2,_⟩:=QH.mp nd;obtain⟨T1,a1,a2,a3⟩:=h n hl.1 n1;obtain⟨T2,b1,b2⟩:=t.2 n hl.2 n2;obtain⟨T,c1,c2,c3⟩:=a1.join b1 nd;refine⟨T,c1,λk e v m=>?_⟩;rcases QM.mp m with rfl|m
  .obtain⟨b,e1,e2⟩:=a2 k e
   exact⟨b,e1,c2 b k e2⟩
  .obtain⟨b,e1,e2⟩:=b2 k e v m
   exact⟨b,e1,c3 b k e2⟩⟩)
 (λn _ _=>⟨λ_=>B0,⟨λ_ _ q=>(nomatch q),λ_ _ q=>(nomatch q)⟩,λk i p e=>(by cases e)⟩)
 (λh t n hl nd=>by
  rw[JL,Ju,Qn]at hl;obtain⟨n1,n2,_⟩:=QH.mp nd;obtain⟨T1,a1,a2,a3⟩:=h n hl.1 n1;obtain⟨T2,b1,b2⟩:=t n hl.2 n2;obtain⟨T,c1,c2,c3⟩:=a1.join b1 nd;refine⟨T,c1,λk i p e x m=>?_⟩;cases k with
  |zero=>cases e;obtain⟨b,e1,e2⟩:=a3 x m;exact⟨_,b,rfl,e1,c2 b _ e2⟩
  |succ k=>obtain⟨v,b,e0,e1,e2⟩:=b2 k i p (by simpa using e) x m;exact⟨v,b,by simpa using e0,e1,c3 b _ e2⟩)
end
noncomputable def X9(ns:Ad)(ρ:Um):Um:=ns.foldl (λr j=>r.set j B0) ρ
theorem Nv:∀(ns:Ad)(ρ:Um),(X9 ns ρ).length=ρ.length
 |[],ρ=>rfl
 |j::ns,ρ=>by unfold X9;rw[List.foldl_cons];exact(Nv ns (ρ.set j B0)).trans (by rw[QQ])
theorem Wz:∀{ns:Ad}{ρ:Um}{m:Nat}{s:Sl},(X9 ns ρ)[m]?=O (O s)->ρ[m]?=O (O s)/\m∉ns
 |[],ρ,m,s,e=>⟨e,λz=>(by cases z)⟩
 |j::ns,ρ,m,s,e=>by
  have e':(X9 ns (ρ.set j B0))[m]?=O (O s):=e;obtain⟨h1,h2⟩:=Wz e';by_cases z:j=m
  .subst z;have:=Kp h1;cases this
  .rw[Qi z]at h1
   exact⟨h1,λq=>(QM.mp q).elim (λy=>z y.symm) h2⟩
noncomputable def Ve(i:Nat)(p:Pat)(ns:Ad)(κ:Nat->Nat)(c:Nat):SM:=λρ=>match ZS ρ i with
 |some (q,d)=>if eqF 9 q p=B2/\U3 9 c q d=B2/\κ c<=1000000/\(∀j∈ns,j<ρ.length)then .nx (X9 (i::i::ns) ρ)else .bad
 |none=>.bad
section
variable{X:Cx}{B G0:Hp}{KX:XW}{sts:List Stmt}
theorem EOk.lose{K:Frag}{G H:Hp}{σ σ':St}{ρ:Um}{ns:Ad}(k:EOk K B G0 G H σ ρ)(hl:σ'.length=σ.length)(h:∀i,i∉ns->σ'[i]?=σ[i]?):EOk K B G0 G H σ' (X9 ns ρ):=
 ⟨k.bh,k.gh,k.g0,k.np,by rw[Nv,hl];exact k.len,λi d q=>let ⟨q1,q2⟩:=Wz q;by rw[h i q2];exact k.pub i d q1,λi d q=>let ⟨q1,q2⟩:=Wz q;by rw[h i q2];exact k.own i d q1,
  λi j a ds es q1 q2 s1 s2=>by obtain⟨q1,z1⟩:=Wz q1;obtain⟨q2,z2⟩:=Wz q2;rw[h i z1]at s1;rw[h j z2]at s2;exact k.sep i j a ds es q1 q2 s1 s2,
  k.dp.map (λm p d q=>let ⟨q1,q2⟩:=Wz q;⟨q1,h m q2⟩) (λm es q=>let ⟨q1,q2⟩:=Wz q;⟨es,q1,h m q2⟩) λm p d v fp q s r w n=>⟨r,w⟩⟩
theorem E5{i:Nat}{p:Pat}{ns:Ad}{top:Nat}{κ:Nat->Nat}{c:Nat}{h:SM}(hs:PSs X sts (Zu (U8 (gamO i 9 p) ns top κ) (tS X.K B G0 KX h))):PSs X sts (tS X.K B G0 KX (Us (Ve i p ns κ c) h)):=Wj hs λDn σ H ⟨G,ρ,k,q⟩=>by
 unfold Us Ve at q;cases z:ZS ρ i with
 |none=>rw[z]at q;exact q.elim
 |some pd=>
 obtain⟨pp,d⟩:=pd;rw[z]at q;dsimp only at q;by_cases hc:eqF 9 pp p=B2/\U3 9 c pp d=B2/\κ c<=1000000/\(∀j∈ns,j<ρ.length)
 case neg=>rw[QD hc]at q;exact q.elim
 rw[Qr hc]at q;obtain⟨c1,c2,c3,c4⟩:=hc;cases Tw 9 _ _ c1;obtain⟨ω,ks⟩:=k.slots;obtain⟨v,fp,hv,r,nd,w⟩:=ks i p d z;obtain⟨T,t1,_,t3⟩:=(RepO.ty3 c).1 r 9 c2 nd;refine⟨T,c,t1.2,λx m=>?_,c3,λj m=>by rw[←k.len];exact c4 j m,λσ' H' T' R I'=>?_⟩
 .unfold gamO at m
  obtain⟨y,my,rfl⟩:=Qw.mp m;obtain⟨a,e1,e2⟩:=t3 y my;exact⟨v,a,hv,e1,e2⟩
 .have ex:Ext G (KZ fp H) G H':=⟨λb u e=>by
    have hb:b∉fp:=λm=>by rw[Fn m]at e;cases e
    rw[Wb hb]at e;refine R.oth b u ?_ e;cases zt:T b with
    |none=>rfl
    |some n=>exact(hb (t1.1 b n zt)).elim,.refl _,λb u e=>by
    have hb:b∉fp:=λm=>by rw[(w b m).2.1]at e;cases e
    refine R.oth b u ?_ (k.gh b u e);cases zt:T b with
    |none=>rfl
    |some n=>exact(hb (t1.1 b n zt)).elim,λ_ _ _ n=>n⟩
  have k2:=(k.eaten (i1:=i) (i2:=i) ks (λb m=>r.isl b m) (λb m=>⟨(w b m).1,.inl (w b m).2.2⟩) ex).lose (ns:=ns) R.len R.st;exact⟨G,_,k2,by first|exact q|(show aftS X.K B G0 KX (h (X9 ns ((ρ.set i B0).set i B0))) G Dn;exact q)⟩
end
theorem E4{ρ ρ':Um}{i:Nat}{p q:Pat}{ns:Ad}{κ:Nat->Nat}{c:Nat}{d:D}(h1:ZS ρ i=O (q,d))(h2:eqF 9 q p=B2)(h3:U3 9 c q d=B2)(h4:κ c<=1000000)(h5:∀j∈ns,j<ρ.length)(h6:X9 (i::i::ns) ρ=ρ'):Ve i p ns κ c ρ=.nx ρ':=by unfold Ve;rw[h1];dsimp only;rw[if_pos ⟨h2,h3,h4,h5⟩,h6]
noncomputable def Vy(i:Nat)(p:Pat):M D:=λρ=>match ρ[i]? with
 |some (O (.deep q d))=>if eqF 9 q p=B2 then .ok d (ρ.set i B0)else .bad
 |_=>.bad
section
variable{X:Cx}{B G0:Hp}{e:JZ}{p:Pat}
theorem Fe{i:Nat}(h:PE X e (UZ i)):PE X e (tT X.K B G0 p (Vy i p)):=UK h λσ H Q ⟨G,ρ,k,q⟩=>by
 unfold Vy at q;cases ho:ρ[i]? with
 |none=>rw[ho]at q;exact q.elim
 |some oo=>
 cases oo with
 |none=>rw[ho]at q;exact q.elim
 |some sl=>
 cases sl with
 |pub d=>rw[ho]at q;exact q.elim
 |own ds=>rw[ho]at q;exact q.elim
 |deep pp d=>
 rw[ho]at q;dsimp only at q;by_cases hc:eqF 9 pp p=B2
 case neg=>rw[QD hc]at q;exact q.elim
 rw[Qr hc]at q;cases Tw 9 _ _ hc;obtain⟨ω,ks⟩:=k.slots;obtain⟨v,fp,hv,r,nd,w⟩:=ks i p d (Rt ho)
 have nz:∀{m:Nat}{s:Sl},(ρ.set i B0)[m]?=O (O s)->ρ[m]?=O (O s)/\i≠m:=λ{m s} q=>by
  by_cases z:i=m
  .subst z;have:=Kp q;cases this
  .rw[Qi z]at q;exact⟨q,z⟩
 have off:∀(j:Nat) p' d' v' fp',ZS ρ j=O (p',d')->i≠j->σ[j]?=O (O v')->∀b∈fp,RepO X.K G H p' v' d' fp'->b∉fp':=λj p' d' v' fp' z y hs b m rr mm=>by obtain⟨v5,f5,hv5,r5,n5,w5⟩:=ks j _ _ z;rw[hs]at hv5;cases hv5;have eu:=r5.uniq (.refl _) rr;subst eu;exact y ((w b m).2.2.symm.trans (w5 b mm).2.2)
 refine⟨v,hv,q v fp G H k.forget (.refl _) ⟨r,nd,λb m=>⟨(w b m).1,(w b m).2.1⟩,λb m j es ho' hs=>?_,λb m j p' d' v' fp' ho' hs rr mm=>?_⟩⟩
 .obtain⟨ho',y⟩:=nz ho'
  obtain⟨a5,us,i1',i2',i3',i4',i5'⟩:=k.own j es ho';rw[hs]at i1';cases i1';exact off j _ _ _ [b] (Ce ho') y hs b m (.lst i4' (.leaf i5')) (List.mem_singleton.mpr Z)
 .obtain⟨ho',y⟩:=nz ho'
  exact off j _ _ _ fp' (Rt ho') y hs b m rr mm
theorem Fd{i:Nat}{ρ:Um}{q:Pat}{d:D}(h:ρ[i]?=O (O (.deep q d)))(h2:eqF 9 q p=B2):Vy i p ρ=.ok d (ρ.set i B0):=by unfold Vy;rw[h];dsimp only;rw[if_pos h2]
end
end DL
namespace L2
open PySem PySem.Spec PyProof.Rows PySem.Calls PyProof.V
def W3(L:JX)(h0 h:Heap)(e:JX):Prop:=∃oe vs T oT ts,h.get? e=O oe/\oe.data=.fields vs/\vs[1]?=O (.ref T)/\T≠e/\h0.objs.size<=T/\h.get? T=O oT/\oT.data=.fields ts/\ts[3]?=O (rawInt L)
section
variable{M:Model}{A A2:Around}{E:JU->JV->Prop}{s:JV}{base:Heap}{env:Env}{outer:List Env}{L e:JX}{c:Bool}
theorem Lj{E2:JU->JV->Prop}{oe:Obj}{vs:Array JU}{Q:JV->Prop}(hfr:A.frames=O (env::outer))(hl:s.heap.FunFrames base (env::outer))(hf:env.frame=O L)
  (he:s.heap.get? e=O oe) (hd:oe.data=.fields vs) (h1:vs[1]?=O .none)
  (h:∀h',X3 (frs (env::outer)) e s.heap h'->W3 L s.heap h' e->Q {s with heap:=h'}) :
  J4 M A (noteFrame (.ref e) env) (λ_ s'=>J4 M A2 (do
  if(←field (.ref e) 1)==.none then unsupported "frame.own-activation:exception-without-traceback"
  setFlight (.ref e) env.frame) (λ_ s''=>Q s'') E2 s') E s:=by
 have hsz:1<vs.size:=(Jb.mp h1).1;have qh:e∉(env::outer).filterMap (·.frame):=λhm=>by obtain⟨_,o,ho,hnf⟩:=hl.mem hm;rw[he]at ho;injection ho with ho;subst ho;exact hnf vs hd
 unfold noteFrame;simp only[hf];refine Qb (Q4 he hd h1 ?_);rw[QD (by decide)];refine Qb (wpAny_frameOf_fun hfr hl hf λh₁ hs₁=>?_);refine Qb (wpAny_entryPlaceOf λpl hpl=>?_);unfold EntryCells.newEntry newFields;refine Qb (Jv ?_ (hpl.sizeOk5 _ _ _ _ _));have he₁:h₁.get? e=O oe:=(hs₁.2.1 e qh).trans he;generalize hob:({cls:=.type "traceback", dict:=B0,data:=.fields ([Value.none,.ref L,.none,rawInt L,.none]++(if pl.isEmpty then J8 6 Value.none else pl)).toArray}:Obj)=ob;have hobd:∃ts,ob.data=.fields ts/\3<ts.size:=⟨_,by rw[←hob],by simp only[QU,Qo,QB,QX]<;>lia⟩
 obtain⟨ts,hts,ht3⟩:=hobd;have he₂:=Qe (h:=h₁) ob he₁;refine Q8 he₂ hd hsz ?_;have AC:h₁.objs.size≠e:=Ji (Qf he₁);have hd₃:=Jd hd (·.setIfInBounds 1 (Value.ref h₁.objs.size));have he₃:=QR (Obj.mapFields (·.setIfInBounds 1 (Value.ref h₁.objs.size))) he₂ (Je hd₃);have hT₃:=(Ql (h₁.push ob) (Obj.mapFields (·.setIfInBounds 1 (Value.ref h₁.objs.size))) (Ne.symm AC)).trans (QF h₁ (by rw[←hob];rfl));refine wpAny_bind (wpAny_field he₃ hd₃ (x:=.ref h₁.objs.size) (by simp[hsz]) ?_);rw[if_neg (show ¬((Value.ref h₁.objs.size==Value.none)=B2)from by simp)];unfold setFlight;refine wpAny_bind (wpAny_field he₃ hd₃ (x:=.ref h₁.objs.size) (by simp[hsz]) ?_);rw[if_pos (show(Value.ref h₁.objs.size != Value.none)=B2 from by simp)];have h0:s.heap.objs.size<=h₁.objs.size:=Nat.le_of_eq hs₁.1.symm;refine Q8 hT₃ hts ht3 (h _ ?_ ?_)
 .have keep:∀b o,b≠e->h₁.get? b=O o ->
    (((h₁.push ob).update e (Obj.mapFields (·.setIfInBounds 1 (Value.ref h₁.objs.size)))).update h₁.objs.size
     (Obj.mapFields (·.setIfInBounds 3 ((O L:Ae).elim Value.none λf=>rawInt f)))).get? b=O o:=λb o AE hb=>by
   have AZ:h₁.objs.size≠b:=Ji (Qf hb);rw[Ql _ _ AZ,Ql _ _ (Ne.symm AE)];exact Qe _ hb
  refine⟨λb o hb hf hg=>keep b o hb ((hs₁.2.1 b hf).trans hg),λb o hb hg=>?_,λqu z=>?_⟩
  .obtain⟨sl,hs⟩:=hs₁.2.2 b o hg
   exact⟨sl,keep b _ hb hs⟩
  .rw[he]at z;cases z
   exact⟨_,by rw[Ql _ _ AC,he₃,YF _ hd]⟩
 .refine⟨_,_,h₁.objs.size,_,_,?_,hd₃,by simp[hsz],AC,h0,Heap.get?_update_self _ hT₃ (Obj.isFreed_of_fields (Obj.data_mapFields hts _)),Obj.data_mapFields hts _,?_⟩
  .rw[Ql _ _ AC];exact he₃
  .rw[Array.getElem?_setIfInBounds_self_of_lt ht3];rfl
theorem Fc{h0:Heap}{Q:Unit->JV->Prop}(hf:env.frame=O L)(p:X3 (frs (env::outer)) e h0 s.heap)(x:W3 L h0 s.heap e)
  (h:∀h',X3 (frs (env::outer)) e h0 h'->Fly B3 h' e->Q () {s with heap:=h'}):J4 M A (leaving env (.ref e)) Q E s:=by
 obtain⟨oe,vs,T,oT,ts,he,hd,h1,AC,h0T,hT,AA,h3⟩:=x;obtain⟨qa,hv3⟩:=Jb.mp h3;unfold leaving noteFrame;simp only[hf];refine Qb (Qb (Q4 he hd h1 ?_));rw[if_pos (show(Value.ref T != Value.none)=B2 from by simp)];refine Qb (Q4 hT AA h3 ?_);rw[if_pos (show((rawInt L:JU)==rawInt L)=B2 from by simp)];refine Qg ?_;unfold setFlight;refine Qb (Q4 he hd h1 ?_);rw[if_pos (show(Value.ref T != Value.none)=B2 from by simp)];have nT:∀b o,h0.get? b=O o->T≠b:=λb o g z=>by subst z;exact absurd (Qf g) (Nat.not_lt.mpr h0T)
 refine Q8 hT AA qa (h _ ⟨λb o a f g=>?_,λb o a g=>?_,λqu g=>?_⟩ ⟨oe,vs,?_,hd,.inr ⟨T,_,_,h1,AC,QR _ hT (Je (Jd AA _)),Jd AA _,?_⟩,λz=>nomatch z⟩)
 .rw[Ql _ _ (nT b o g)];exact p.keep b o a f g
 .obtain⟨sl,z⟩:=p.slot b o a g
  exact⟨sl,by rw[Ql _ _ (nT b o g)];exact z⟩
 .obtain⟨ws,z⟩:=p.own qu g
  exact⟨ws,by rw[Ql _ _ AC];exact z⟩
 .rw[Ql _ _ AC];exact he
 .rw[Array.getElem?_setIfInBounds_self_of_lt qa];rfl
end
theorem BG:entryFor table "proto.unchain" = O Builtin.«proto.unchain»:=entryFor_of_fast (by kernel_rfl)
section
variable{prog:JW}{w:World}{A:Around}{E:JU->JV->Prop}{s:JV}{env:Env}
theorem E3{v:JU}{b:JX}{ob:Obj}{wb:Array JU}{Q:JU->JV->Prop}(hb:s.heap.get? b=O ob)(hd:ob.data=.fields wb)(h2:wb[2]?=O .none)(h:Q .none s) :
  J4 (model prog w) A (runValue (.builtin "proto.unchain" ⟨[v,.ref b,.ref b,.bool B3],[]⟩)) Q E s:=by
 refine wpAny_runValue (codeAny_builtin BG ?_);unfold Builtin.«proto.unchain»;refine Qb (Q4 hb hd h2 ?_);rw[Qr (show((Value.none:JU)==.none)=B2 from rfl)];exact Qg h
theorem BF{α:Type}{a b:JX}{oa ob:Obj}{va wb:Array JU}{Q:α->JV->Prop}(hh:A.handled=O (.ref b))(hne:a≠b)(ha:s.heap.get? a=O oa)(hda:oa.data=.fields va)(h2:2<va.size)(hb:s.heap.get? b=O ob)(hd:ob.data=.fields wb)(ql:wb[2]?=O .none)
  (h:E (.ref a) {s with heap:=s.heap.update a (Obj.mapFields (·.setIfInBounds 2 (.ref b)))}):J4 (model prog w) A (raiseNew (.ref a):Sem α) Q E s:=by
 unfold raiseNew;refine Qb (wpAny_handled ?_);rw[hh];dsimp only;rw[if_pos (show(Value.ref b != Value.ref a)=B2 from by simp;exact Ne.symm hne)];refine Qb (wpAny_holding (E3 hb hd ql ?_));exact Qb (Q8 (x:=.ref b) ha hda h2 (wpAny_throw h))
theorem Bx{env:Env}{s:JV}{Q:Flow->JV->Prop}{y y2:Sem JU}{b:JX}(hc:∀(s:JV)(P:JU->JV->Prop),P .none s->J4 (model prog w) A y2 P E s)
  (hh:A.handled=O (.ref b)) (h:J4 (model prog w) A y (λv s₁=>∃a C dd vs sl nm q N bs bm hdct sn sub ab col Au k0 k1 k2 k3 k5 newId ob wb,v=.ref a/\bm.contains (.type "BaseException")=B2/\s₁.heap.get? C=O (excClassObj nm q C N bs bm hdct sn sub ab col Au k0 k1 k2 k3 k5 newId) /\
   s₁.heap.get? a=O {cls:=.ref C,dict:=dd,data:=.fields vs,slots:=sl}/\vs[1]?=O .none/\4<vs.size/\a≠b/\C≠a/\s₁.heap.get? b=O ob/\ob.data=.fields wb/\wb[2]?=O .none /\
   ∀h',(∀d o,d≠a->s₁.heap.get? d=O o->h'.get? d=O o)->(∃us,h'.get? a=O {cls:=.ref C,dict:=dd,data:=.fields us,slots:=sl}/\us[1]?=O .none)->E (.ref a) {s₁ with heap:=h'}) E s) :
  J4 (model prog w) A (raiseStmt env (O y) (O y2)) Q E s:=by
 unfold raiseStmt;refine Qb (QA h (λv s₁ h₁=>?_) λ_ _ x=>x);obtain⟨a,C,dd,vs,sl,nm,q,N,bs,bm,hdct,sn,sub,ab,col,Au,k0,k1,k2,k3,k5,newId,ob,wb,rfl,hbase,hC,he,h1,hsz,hab,hCa,hb,hdb,ql,hE⟩:=h₁;have AB:(Value.ref C::bm).contains (.type "BaseException")=B2:=by rw[Q1,hbase,JP]
 obtain⟨hp,g,d,tk,os⟩:=s₁;refine Qb (wpAny_holding (hc _ _ (Qb (Qg ?_))));dsimp only;refine Qb (wpAny_holding ?_);unfold excFromValue isExcClass
 repeat (first|with_reducible refine Qh he ?_|with_reducible refine Qh hC ?_|(with_reducible refine QC hC ?_;rw[AB])|wp_step)
 rw[Qr (show 3<vs.size by lia)];refine wpAny_update he ?_;have e1:(hp.update a (Obj.mapFields (·.setIfInBounds 3 Value.none))).get? a=O {cls:=.ref C,dict:=dd,data:=.fields (vs.setIfInBounds 3 .none),slots:=sl}:=QR _ he Z;have C1:=(Ql hp (Obj.mapFields (·.setIfInBounds 3 Value.none)) (Ne.symm hCa)).trans hC;refine Qb (Q8 e1 Z (by rw[Array.size_setIfInBounds];exact hsz) ?_);have e2:((hp.update a (Obj.mapFields (·.setIfInBounds 3 Value.none))).update a (Obj.mapFields (·.setIfInBounds 4 (Value.bool B2)))).get? a=O {cls:=.ref C,dict:=dd,data:=.fields ((vs.setIfInBounds 3 .none).setIfInBounds 4 (.bool B2)),slots:=sl}:=QR _ e1 Z;have C2:=(Ql (hp.update a (Obj.mapFields (·.setIfInBounds 3 Value.none))) (Obj.mapFields (·.setIfInBounds 4 (Value.bool B2))) (Ne.symm hCa)).trans C1;have b2:((hp.update a (Obj.mapFields (·.setIfInBounds 3 Value.none))).update a (Obj.mapFields (·.setIfInBounds 4 (Value.bool B2)))).get? b=O ob:=by rw[Ql _ _ hab,Ql _ _ hab];exact hb
 have f1:((vs.setIfInBounds 3 Value.none).setIfInBounds 4 (Value.bool B2))[1]?=O Value.none:=by rw[Jr (by decide),Jr (by decide)];exact h1
 have hs5:2<((vs.setIfInBounds 3 Value.none).setIfInBounds 4 (Value.bool B2)).size:=by rw[Array.size_setIfInBounds,Array.size_setIfInBounds];lia
 have oth:∀d o,d≠a->hp.get? d=O o->((hp.update a (Obj.mapFields (·.setIfInBounds 3 Value.none))).update a (Obj.mapFields (·.setIfInBounds 4 (Value.bool B2)))).get? d=O o:=λd o n g=>by rw[Ql _ _ (Ne.symm n),Ql _ _ (Ne.symm n)];exact g
 generalize ((hp.update a (Obj.mapFields (·.setIfInBounds 3 Value.none))).update a (Obj.mapFields (·.setIfInBounds 4 (Value.bool B2))))=h2 at e2 C2 b2 oth⊢;generalize ((vs.setIfInBounds 3 Value.none).setIfInBounds 4 (Value.bool B2))=v2 at e2 f1 hs5
 repeat (first|with_reducible refine Q4 e2 Z f1 ?_|with_reducible refine Qh e2 ?_|with_reducible refine Qh C2 ?_|wp_step)
 refine BF hh hab e2 Z hs5 b2 hdb ql (hE _ (λd o n g=>?_) ⟨_,QR _ e2 Z,?_⟩)
 .rw[Ql _ _ (Ne.symm n)];exact oth d o n g
 .rw[Jr (by decide)];exact f1
end
def Sv(X:Cx)(KX:V->St->Hp->Prop):Prop:=∀(pins:List (JX×Obj))(σ:St)(H:Hp)(s:JV)(e C:JX)(dd:Ae)(h':Heap),Inv X pins σ H s->H e=O (.ext (XO B3 e C dd))->X3 (frs X.stack) e s.heap h'->W3 X.env.locals s.heap h' e->KX (.ref e) σ H->X.xe (.ref e) {s with heap:=h'}
theorem Cd{P:JW}{w:World}{K:Frag}{mg:Str->B7}{base:Heap}{N:List Str}{qual:Str}{scope:Scope}{f:JX}{cd:JU}{A:Around}{outer:List Env}{s₀:JV}{H₀:Hp}{E:XK} :
  Sv (Kl (Za B3 P w) P w K mg base N qual scope f cd A outer s₀ H₀ E) λv _ H=>∃e,v=.ref e/\E (.ref e) B0 H:=by
 intro pins σ H s e C dd h' I hx p fl ⟨e',ee,hE⟩;cases ee;refine Fc (h0:=s.heap) (outer:=outer) (s:={s with heap:=h'}) (L:=s₀.heap.objs.size) Z p fl λh2 p2 qc=>?_;have I':=I.passed hx p2
 exact⟨e,C,dd,H,rfl,I'.os,I'.bare,I'.base,I'.hok,hx,qc,hE⟩
noncomputable def XS(e C:JX)(dd:Ae):Heap->Prop:=λh=>∃vs sl,h.get? e=O {cls:=.ref C,dict:=dd,data:=.fields vs,slots:=sl}/\vs[2]?=O .none
theorem XS.ok{P:JW}{w:World}{H:Hp}{h:Heap}{e C:JX}{dd:Ae}(x:XS e C dd h):K2 P w H h e (.ext (XS e C dd)):=
 ⟨x,let ⟨_,_,q,_⟩:=x;⟨_,q⟩,λh1 h2 ⟨vs,sl,q,z⟩ k=>⟨vs,sl,k _ q,z⟩⟩
section
variable{X:Cx}{x n:Str}{pos np hpos rpos cp:Pos}{cj:Nat}
noncomputable def Sf(KC:JX->B5->Prop)(D C2:JX)(KX:V->St->Hp->Prop):V->St->Hp->Prop:=λv σ H=>∃a C dd bm,v=.ref a/\KC C bm/\H a=O (.ext (XO B3 a C dd))/\(Value.ref C::bm).contains (.ref D)=B2 /\
 ∀a2,H a2=B0->KX (.ref a2) σ (upd H a2 (.ext (XO B3 a2 C2 B0)))
theorem Fb{KC:JX->B5->Prop}{D fD C2 f2:JX}{bmD qp:B5}{tb:(V->St->Hp->Prop)->TS}{te:TE}{KX:V->St->Hp->Prop}{exc:JZ}{body:List Stmt}{st:List Env}(Am:X.stack=X.env::st)(hfr:X.env.frame=O X.env.locals)
  (hcls:∀C bm,KC C bm->∃fI,XCls (model X.prog X.w) X.base C bm fI) (hD:XCls (model X.prog X.w) X.base D bmD fD) (hC2:XCls (model X.prog X.w) X.base C2 qp f2) (hg:Gl X x) (hm:X.mg x=O (.ref D))
  (hb:∀(KX:V->St->Hp->Prop)(W:JU->JV->Prop)(pn:List (JX×Obj)),ZB B2 (X.tried W pn) KX->PSs (X.tried W pn) body (tb KX)) (ht:∀a,PE (X.suite a) exc te)
  (hte:∀σ H(Q:VK),(∀a2,H a2=B0->Q (.ref a2) (upd H a2 (.ext (XO B2 a2 C2 B0))))->te σ H Q) (hw:Sv X KX) (hdb:(x==("__debug__" : Str))=B3:=by decide) :
  PS X (.Try body [.ExceptHandler (O (.Name x np)) B0 [.Raise (O exc) (O (.Constant .none cj cp)) rpos] hpos] [] [] pos) (λDn σ H=>tb (Sf KC D C2 KX) Dn σ H):=by
 intro pins s σ H Dn I h;refine wpAny_Try_except ?_
 let W:JU->JV->Prop:=λv s1=>∃a σ1 H1,v=.ref a/\Inv X pins σ1 H1 s1/\Fly B2 s1.heap a/\Sf KC D C2 KX (.ref a) σ1 H1
 have hw':ZB B2 (X.tried W pins) (Sf KC D C2 KX):=λpins' σ1 H1 s1 a C dd I1 hx fl hk=>⟨a,σ1,H1,rfl,I.untried I1,fl,hk⟩;refine QA (hb _ W pins hw' [] s σ H Dn (I.tried W) h) (λf s1 h1=>?_) λv s1 h1=>?_
 .cases f with
  |next=>obtain⟨σ',H',I',q⟩:=h1;exact Js ⟨σ',H',I.untried I',q⟩
  |brk=>obtain⟨σ',H',I',q⟩:=h1;exact⟨σ',H',I.untried I',q⟩
  |cont=>obtain⟨σ',H',I',q⟩:=h1;exact⟨σ',H',I.untried I',q⟩
  |ret u=>obtain⟨v,σ',H',I',r,q⟩:=h1;exact⟨v,σ',H',I.untried I',r,q⟩
 .obtain⟨a,σ1,H1,rfl,I1,fl,a',C,dd,bm,ea,kc,hx,qD,q⟩:=h1
  cases ea;obtain⟨fI,XC⟩:=hcls C bm kc;have hk:=I1.ok.frames;rw[Am]at hk;have hS:=I1.stack;rw[Am]at hS;refine Xr hk hS hfr fl λh2 p2 qc=>?_;rw[←Am]at p2;have I2:=I1.passed hx p2;refine wpAny_handleBy_cons (codeAny_handlers_test ?_) (by intro q;cases q)
  refine Y3 (I2.suite a) hg hm ?_ hdb;obtain⟨nm,qn,N,bs,sn,sub,ab,col,AT,k0,k1,k2,k3,k5,hC⟩:=XC.obj;obtain⟨AM,qn',N',bs',sn',sub',AV,col',dd2,j0,j1,j2,j3,j5,Ap⟩:=hD.obj;obtain⟨nm3,qn3,N3,bs3,sn3,sub3,ab3,col3,dd3,l0,l1,l2,l3,l5,hC2'⟩:=hC2.obj;obtain⟨⟨vs,sl,ga,_⟩,_,_⟩:=I2.hok a _ hx;refine Rm (I2.bk _ _ hC) (I2.bk _ _ Ap) (hD.tail _ _ Z) ga Z qD ?_;refine codeAny_handlers_suite (Rq qc λh3 k3=>?_);have I3:=I2.kept (t':=s1.toks) k3;have g3:=k3 _ _ ga;obtain⟨oe,ve,he,hde,_,hz⟩:=qc;have hz:=hz Z;rw[ga]at he;cases he;cases hde;have I4:=I3.write (x:=a) (e:=a) (o:=.ext (XS a C dd)) (t':=s1.toks) (h':=h3) (by rw[hx];trivial) (.inl Z) (λ_ _ _ q=>q) ⟨_,g3⟩ (XS.ok ⟨_,_,g3,hz⟩);refine wpAny_execs_cons ?_;rw[arm_exec_Raise];refine Qb (Q6 ?_);show J4 _ _ (raiseStmt X.env (O (do let v ←eval exc X.env;standAt rpos;pure v)) (O (do let v ←constValue X.env .none;standAt rpos;pure v))) _ _ _;refine Bx (b:=a) (λs P hp=>?_) Z (Qb (QA (ht a pins _ σ1 _ (λv H'=>∃a2,upd H1 a (.ext (XS a C dd)) a2=B0/\v=.ref a2/\H'=upd (upd H1 a (.ext (XS a C dd))) a2 (.ext (XO B2 a2 C2 B0))) (I4.suite a) (hte _ _ _ λa2 n2=>⟨a2,n2,rfl,rfl⟩)) (λu s5 h5=>Qb (Q6 (Qg ?_))) λ_ _ z=>z.elim))
  .exact Qb (Qg (Qb (Q6 (Qg hp))))
  .obtain⟨v,H5,I5',rv,a2,n2,rfl,rfl⟩:=h5
   obtain rfl:u=Value.ref a2:=rv;have I5:=I4.unsuite I5';have na:a2≠a:=λz=>by rw[z,UW]at n2;cases n2
   have nH:H1 a2=B0:=by rw[UI na]at n2;exact n2
   obtain⟨⟨us,sl2,g5,z5⟩,_,_⟩:=I5.hok a2 _ UW;obtain⟨z1,_,_,z4⟩:=z5 Z;obtain⟨⟨ws,slw,gb,wz⟩,_,_⟩:=I5.hok a _ (by rw[UI (Ne.symm na),UW]);have gC:=I5.bk _ _ hC2';refine⟨a2,C2,B0,us,sl2,nm3,qn3,N3,bs3,qp,B2,sn3,sub3,ab3,col3,dd3,l0,l1,l2,l3,l5,_,_,ws,rfl,hC2.tail _ _ Z,gC,g5,z1,z4,na,?_,gb,rfl,wz,λh' kk ⟨vs',g',z'⟩=>?_⟩
   .rintro rfl
    rw[gC]at g5;cases g5
   .have I6:=I5.write (x:=a2) (e:=a2) (o:=.ext (XO B3 a2 C2 B0)) (t':=s5.toks) (h':=h') (by rw[UW];trivial) (.inl Z) kk ⟨_,g'⟩ (XO.ok ⟨_,_,g',λz=>nomatch z⟩)
    have gb':=kk a _ (Ne.symm na) gb;have I7:=I6.write (x:=a) (e:=a) (o:=.ext (XO B3 a C dd)) (t':=s5.toks) (h':=h') (by rw[UI (Ne.symm na),UI (Ne.symm na),UW];trivial) (.inl Z) (λ_ _ _ q=>q) ⟨_,gb'⟩ (XO.ok ⟨_,_,gb',λz=>nomatch z⟩)
    have eH:upd (upd (upd (upd H1 a (.ext (XS a C dd))) a2 (.ext (XO B2 a2 C2 B0))) a2 (.ext (XO B3 a2 C2 B0))) a (.ext (XO B3 a C dd))=upd H1 a2 (.ext (XO B3 a2 C2 B0)):=by
     funext b;by_cases h1:b=a
     .subst h1;rw[UW,UI (Ne.symm na),hx]
     .rw[UI h1]
      by_cases h2:b=a2
      .subst h2;rw[UW,UW]
      .rw[UI h2,UI h2,UI h1,UI h2]
    rw[eH]at I7;have hk:=(I7.suite a).ok.frames;have hk:(X.A.mark (O (.ref a))).frames=O (X.env::st):=by rw[←Am];exact hk
    have hS:=I7.stack;rw[Am]at hS;refine Lj (A2:=X.A) (Q:=λs''=>X.xe (.ref a2) s'') hk hS hfr g' Z z' λh4 p4 f4=>?_;rw[←Am]at p4;exact hw pins σ1 _ _ a2 C2 B0 h4 I7 UW p4 f4 (q a2 nH)
end
structure Y6(k:Nat)(A:Around):Prop where
 dp:A.depth+3*k+5<recursionLimit
 un:A.units+16*k+200<cLine
 gd:A.guards=O []
theorem Y6.depth{k:Nat}{A:Around}(r:Y6 k A):A.depth<recursionLimit:=by have:=r.dp;omega
theorem Y6.make{k:Nat}{A:Around}(r:Y6 (k+1) A)(C:JX)(us:B5)(kw:List (Str×JU)):Y6 k (A.under (.builtin "type.__call__" ⟨.ref C::us,kw⟩)):=
 ⟨by have:=r.dp;rw[NQ];omega,by have:=r.un;rw[NP];omega,(by first|exact r.gd|(simp[Around.under,guardIds];exact r.gd))⟩
theorem Room.markH{k:Nat}{A:Around}(r:Room k A)(h:B7):Y6 k (A.mark h):=⟨r.dp,r.un,r.gd⟩
structure Wm(P:JW)(w:World)(K:Frag)(mg:Str->B7)(base:Heap)(k:Nat)(f:JX)(fd:JY)(ps:List Str)(sp:Sp):Prop where
 len:∀vs H Q E,sp vs H Q E->vs.length=ps.length
 run:∀(A:Around)(outer:List Env)(s:JV)(H:Hp)(args:Args)(us:B5)(vs:List V)(Q:VK),Y6 k A->Env0 P w K mg base A outer s H->BindsTo s fd args (ps.zip us)->Vals vs us->sp vs H Q E0 ->
  codeAny (model P w) A (.call (.ref f) args) (CR CX0 outer P w H s Q E0) s
noncomputable abbrev cxH(P:JW)(w:World)(K:Frag)(mg:Str->B7)(base:Heap)(N:List Str)(qual:Str)(scope:Scope)(f:JX)(cd:JU)(A:Around)(outer:List Env)(s:JV)(H:Hp):Cx:=
 {Kl CX0 P w K mg base N qual scope f cd A outer s H E0 with calm:=B3,xe:=λ_ _=>False}
theorem CF{P:JW}{w:World}{K:Frag}{mg:Str->B7}{base:Heap}{N ps:List Str}{qual:Str}{scope:Scope}{f:JX}{cd:JU}{A:Around}{outer:List Env}{s s1:JV}{H:Hp}{us:B5}{vs:List V}
  (S:Xj N ps scope) (e0:Env0 P w K mg base A outer s H) (hl:vs.length=ps.length) (r:Vals vs us)
  (x:InCallC s s.heap.objs.size (bindL (envOfC qual scope s.heap.objs.size f cd).kindOf (ps.zip us) λ_=>B0) (cellsFrom (s.heap.objs.size+1) scope.names []) (bindC (envOfC qual scope s.heap.objs.size f cd).kindOf (ps.zip us) λ_=>B0) s1) :
  Inv (cxH P w K mg base N qual scope f cd A outer s H) [] (ZU N vs) H s1:=by
 have I:=Nd (CX:=CX0) (E:=E0) (A:={A with handled:=B0}) S Z ⟨e0.frames,e0.mod,e0.bs,e0.bsz,e0.funs,e0.frf,e0.hok,e0.bare⟩ hl r x;exact⟨⟨I.ok.mod,I.ok.kind,I.ok.glob,I.ok.blt,I.ok.above,I.ok.inj,I.ok.has,I.ok.cab,λz=>(nomatch z),Around.frames_deeper e0.frames,I.ok.stk,I.ok.exf,I.ok.bs,I.ok.bsz,I.ok.noex,I.ok.exfs,I.ok.funs,I.ok.frf⟩,I.os,I.bare,I.base,I.loc,I.cell,I.free,I.freeC,I.pin,I.hok,I.len⟩
theorem LU{P:JW}{w:World}{K:Frag}{mg:Str->B7}{base:Heap}{k:Nat}{f:JX}{name qual:Str}{params:Arguments}{body:List Stmt}{scope:Scope}{dV kV doc pm cdv ct oc:JU}{an od:Ae}
  {osl:Array B7} {N ps:List Str} {sp:Sp} (lk:K.lookup f=O ⟨oc,od,.func (PySem.W.fnOf name qual params body scope dV kV doc pm an cdv ct),osl⟩) (hcd:PySem.W.codeIn K cdv qual=B2) (S:Xj N ps scope)
  (len:∀vs H Q E,sp vs H Q E->vs.length=ps.length)
  (hbody:∀(A:Around)(outer:List Env)(s:JV)(H:Hp)(vs:List V)(Q:VK),sp vs H Q E0 ->
   ∃t,PSs (cxH P w K mg base N qual scope f cdv A outer s H) body t/\t {nx:=λ_ H'=>Q .non H',rt:=Q} (ZU N vs) H) :
  Wm P w K mg base k f (PySem.W.fnOf name qual params body scope dV kV doc pm an cdv ct) ps sp:=by
 refine⟨len,λA outer s H args us vs Q hr e0 hb r AG=>?_⟩;have hl:=len _ _ _ _ AG;have KX:K.In s.heap:=e0.mod.kin.keeps λb o e=>(e0.bs b o e).1;have lim:s.heap.NoLimit:=e0.mod.nolimit.keeps λb o e=>(e0.bs b o e).1
 have hkind:∀y∈ps.zip us,scope.names.lookup y.1=O .local∨(scope.names.lookup y.1=O .cell/\((cellsFrom (s.heap.objs.size+1) scope.names []).lookup y.1).isSome=B2):=λ⟨n,v⟩ hy=>by
  rcases S.par n (List.of_mem_zip hy).1 with q|q
  .exact .inl q
  .exact .inr ⟨q,PySem.W.cellsFrom_some _ _ _ (.inl q)⟩
 refine codeAny_call_function hr.depth (KX _ _ lk) Z S.co S.gen Z (PySem.W.codeRec_of KX hcd) (hb _ _ _ _ ?_);refine wpAny_newFunctionEnv_cells S.kind hkind λenv he s1 x=>?_;subst he
 refine⟨lim.keeps x.toInCall.keep,codeAny_func ?_⟩;obtain⟨t,ht,hq⟩:=hbody A outer s H vs Q AG;have I:=CF S e0 hl r x;refine QA (ht [] s1 (ZU N vs) H _ I hq) (λfl s' hs=>?_) λe s' hs=>hs.elim
 cases fl with
 |ret u=>obtain⟨v,σ',H',J,rv,q⟩:=hs;exact⟨v,H',J.os,J.bare,J.base,J.hok,rv,q⟩
 |next=>obtain⟨σ',H',J,q⟩:=hs;exact⟨V.non,H',J.os,J.bare,J.base,J.hok,rfl,q⟩
 |brk=>obtain⟨_,_,_,q⟩:=hs;exact False.elim q
 |cont=>obtain⟨_,_,_,q⟩:=hs;exact False.elim q
section
variable{X:Cx}{k:Nat}{f C:JX}{fd:JY}{ps:List Str}{sp:Sp}{x:Str}{p pos cpos:Pos}{e:JZ}{es:B8}{t:TA}{bm:B5}
theorem CD{pins:List (JX×Obj)}{σ:St}{H:Hp}{s:JV}{Q:VK}{us:B5}{vs:List V}(M:XCls (model X.prog X.w) X.base C bm f)(F:Wm X.prog X.w X.K X.mg X.base k f fd ps sp)(hr:Y6 (k+1) X.A)(hb:Ze X.K fd ps [])
  (I:Inv X pins σ H s) (r:Vals vs us) (hl:us.length<=J0)
  (h:∀a,H a=B0->sp (.ref a::vs) (upd H a (.ext (XO B2 a C B0))) (λv H2=>v=.non/\Q (.ref a) H2) E0) :
  J4 (model X.prog X.w) X.A (call (.ref C) us) (EP X pins σ Q) X.xe s:=by
 obtain⟨nm,q,N,bs,sn,sub,ab,col,dd,k0,k1,k2,k3,k5,hC⟩:=M.obj;obtain⟨oI,hfI,hfc⟩:=M.fn;obtain⟨hp,g,d,tk,os⟩:=s;refine Na PySem.F.excBase_ValueError M.tail (I.bk _ _ hC) (fI:=f) (M.init.keeps I.bk) (I.bk _ _ hfI) hfc (λh' a made hz=>?_) hl;obtain⟨t',he,htn,ht⟩:=made.there;have I2:Inv X pins σ (upd H a (.ext (XO B2 a C B0))) ⟨h',g,d,tk,os⟩:=I.laid (t':=tk) made.keeps hz (XO.ok ⟨_,_,he,λ_=>⟨rfl,⟨_,rfl⟩,rfl,by simp⟩⟩);have hq:=h a (I.hok.fresh hz);have r2:Vals (V.ref a::vs) (Value.ref a::us):=.cons Z r;have hl2:(Value.ref a::us++[]).length=ps.length:=by have e:=r2.length;rw[F.len _ _ _ _ hq]at e;rw[QT];exact e.symm
 refine wpAny_call (Jt (F.run _ X.stack _ _ ⟨Value.ref a::us,[]⟩ (Value.ref a::us) _ _ (hr.make C us []) (I2.env0.make C us []) (by have:=hb _ (Value.ref a::us) I2.kIn hl2;rwa[QT]at this) r2 hq) λr s' Ax=>?_);cases r with
 |error e=>exact Ax.elim
 |ok fl=>
  cases fl with
  |ret u=>obtain⟨v,H',I3,rv,ev,q3⟩:=I2.after Ax;subst ev;exact⟨rv,⟨V.ref a,H',I3,rfl,q3⟩⟩
  |next=>exact False.elim Ax
  |brk=>exact False.elim Ax
  |cont=>exact False.elim Ax
theorem Cc(M:XCls (model X.prog X.w) X.base C bm f)(F:Wm X.prog X.w X.K X.mg X.base k f fd ps sp)(hr:Y6 (k+1) X.A)(hg:Gl X x)(hm:X.mg x=O (.ref C))(hk:PySem.W.keepIn X.K (.ref C)=B2)(hb:Ze X.K fd ps [])
  (ha:PA X (e::es) t) (hdb:(x==("__debug__" : Str))=B3:=by decide) (he:J5 (e::es) X.env=(B3,eval e X.env)::J5 es X.env:=by rfl) (hpl:(backTo pos (J5 es X.env)).any (·.1)=B3:=by rfl) :
  PE X (.Call (.Name x p) (e::es) [] pos) (tMkX C sp t):=by
 intro pins s σ H Q I h;refine Jk (Y3 I hg hm ?_ hdb);refine JK (h₀:=X.base) I.ok.mod.kin hk (thn (ha pos pins s σ H _ I h) λus s1 ⟨vs,H1,I1,r,hl,q⟩=>⟨I1.kIn,?_⟩) he hpl;exact CD M F hr hb I1 r (by show us.length<=J0;rw[←r.length];exact hl) q
end
end L2
namespace DL
open PySem PySem.Spec L2
open PyProof.Rows hiding St
section
variable{P:JW}{w:World}{K:Frag}{mg:Str->B7}{base:Heap}{st:Stmt}{f f0 D:JX}{fd fd0:JY}{q:Str}{p1 p2 p3 p4 p5 p6:Pos}
theorem E1(F:Fun K "__init__" q st f fd)(hn:FnNm (Kb st) ["self", "text"] ["ValueError"])(hm:mg "ValueError" = B0)
  (hb:K5 st=[.Expr (.Call (.Attribute (.Name "ValueError" p1) "__init__" p2) [.Name "self" p3,.Name "text" p4] [] p5) p6])
  (ht:V8 (.Name "ValueError" p1) "__init__" p2 [.Name "self" p3,.Name "text" p4] p5) :
  Wm P w K mg base 1 f fd ["self", "text"] (X8 (KC K)):=by
 obtain⟨oc,od,kV,doc,pm,an,cdv,ct,osl,rfl,lk,hcd⟩:=F.ex;refine LU lk hcd (fq hn 2) (λvs H Q E ⟨a,C,dd,bm,x,e,_⟩=>by rw[e];rfl) λA outer s H vs Q ⟨a,C,dd,bm,x,e,kc,hx,hq⟩=>?_
 subst e;rw[hb];obtain⟨pl,ht⟩:=ht (cxH P w K mg base ["self", "text"] q (Kb st) f cdv A outer s H).env;refine⟨Tl (Sz (KC K) (Wk (UZ 0) (Wk (UZ 1) Xn))),PSs.kin λkin=>Vh (Xk (OC (pl:=pl) (Xb kin) (gq hn 0) hm (KI (pq hn 0) (KI (pq hn 1) Zd)) (ht:=ht))),?_⟩;exact⟨_,rfl,_,rfl,a,C,dd,bm,_,rfl,kc,hx,hq⟩
def MkH(P:JW)(w:World)(K:Frag)(mg:Str->B7)(base:Heap)(nm:Str):Prop:=
 ∃C bm f fd ps sp,mg nm=O (.ref C)/\PySem.W.keepIn K (.ref C)=B2/\ClsK K nm C bm/\(∀(M:Model)(h:Heap),K.In h->XCls M h C bm f)/\Wm P w K mg base 1 f fd ps sp/\Ze K fd ps []/\Tr K nm C sp
end
section
variable{h:Heap}{mg:Str->B7}{p:JW}{l:XL0}{i:Nat}{p1 p2 p3 p4 p5 p6:Pos}
theorem EY(n:h.Ns mainGlobals mg)(Y:XYP p l h)(hD:(((("DealError" : Str),O i):Str×Option Nat)∈l))(hm:mg "ValueError" = B0)(hn:FnNm (Kb (ZG (UM p i))) ["self", "text"] ["ValueError"])
  (hb:K5 (ZG (UM p i))=[.Expr (.Call (.Attribute (.Name "ValueError" p1) "__init__" p2) [.Name "self" p3,.Name "text" p4] [] p5) p6])
  (ht:V8 (.Name "ValueError" p1) "__init__" p2 [.Name "self" p3,.Name "text" p4] p5)
  (hbz:∀(kV doc pm:JU)(an:Ae)(cdv ct:JU)(us:B5),us.length=(["self", "text"]:List Str).length->bindArgs (PySem.W.fnOf "__init__" (XY "DealError") (Yt (ZG (UM p i))) (K5 (ZG (UM p i))) (Kb (ZG (UM p i))) .none kV doc pm an cdv ct) ⟨us,[]⟩=pure ((["self", "text"]:List Str).zip us)) :
  ∃D f fd,Root p h mg i D f fd/\∀(P:JW)(w:World)(base:Heap),Wm P w (whole h) mg base 1 f fd ["self", "text"] (X8 (KC (whole h))):=by
 obtain⟨D,ND,bm,mD,x⟩:=Y.cl _ hD;have:=x.root;subst this;obtain⟨f,fd,hf,FU⟩:=XSt.fun (st:=ZG (UM p i)) x;exact⟨D,f,fd,⟨by rw[n.eq_nsMap];exact x.ad,⟨ND,mD,x,hf⟩,XSt.clsFn (st:=ZG (UM p i)) x Y.st hf,FU.binds hbz,λP w base=>Gx FU hn hm hb ht⟩,λP w base=>E1 FU hn hm hb ht⟩
theorem LS(n:h.Ns mainGlobals mg)(Y:XYP p l h){D f:JX}{fd:JY}(R:Root p h mg i D f fd)(RH:∀(P:JW)(w:World)(base:Heap),Wm P w (whole h) mg base 1 f fd ["self", "text"] (X8 (KC (whole h)))){nm:Str}(hc:(nm,B0)∈l)(hf:KR nm=[])(P:JW)(w:World)(base:Heap):MkH P w (whole h) mg base nm:=by obtain⟨C,N,bm,mN,x⟩:=Y.cl _ hc;obtain⟨ND,mD,xD,hi⟩:=R.ex;have ck:=XSt.clsK n x xD (f:=f) hi;exact⟨C,bm,f,fd,_,_,by rw[n.eq_nsMap];exact x.ad,x.keep,ck,λM h' k=>(x.keeps (Y4 k)).xcls (xD.keeps (Y4 k)) hi,RH P w base,R.bd,Oz ck hf⟩
end
noncomputable def X0(x nm:Str)(g:SM):SM:=λρ=>match g ρ with
 |.ex ρ1 d=>if YT x d=B2 then .ex ρ1 (exD nm [])else .bad
 |o=>o
section
variable{X:Cx}{B G0:Hp}{KX:XW}{pos p2 p3 cpos np hpos rpos cp:Pos}{x nm tx:Str}{kk j cj:Nat}
theorem Fa{g:SM}{body:List Stmt}{st:List Env}(cD:CK X.K X.mg x)(mk:MkH X.prog X.w X.K X.mg X.base nm)(hf:KR nm=[])(hr:Room kk X.A)(hw:Sv X KX)(hg:Gl X x)(AY:Gl X nm)
  (hb:∀(KX':XW)(W:JU->JV->Prop)(pn:List (JX×Obj)),ZB B2 (X.tried W pn) KX'->PSs (X.tried W pn) body (tS X.K B G0 KX' g)) (hk:2<=kk:=by decide)
  (Am:X.stack=X.env::st:=by rfl) (hfr:X.env.frame=O X.env.locals:=by rfl) (hdb:(x==("__debug__" : Str))=B3:=by decide) (qk:(nm==("__debug__" : Str))=B3:=by decide)
  (he:J5 [.Constant (.str tx) j p3] X.env=[(B3,eval (.Constant (.str tx) j p3) X.env)]:=by rfl) :
  PS X (.Try body [.ExceptHandler (O (.Name x np)) B0 [.Raise (O (.Call (.Name nm p2) [.Constant (.str tx) j p3] [] cpos)) (O (.Constant .none cj cp)) rpos] hpos] [] [] pos) (tS X.K B G0 KX (X0 x nm g)):=PS.kin λkin=>by
 obtain⟨D',bmD,hm,ck⟩:=cD;obtain⟨fD,xD⟩:=ck.cls (model X.prog X.w) X.base kin;obtain⟨C,bm,f,fd,ps,sp,hm2,hkp,ck2,xc,F,hbd,AG⟩:=mk;refine U9 (Fb (KC:=KC X.K) (tb:=λKX'=>tS X.K B G0 KX' g) (KX:=KX) Am hfr (Xb kin) xD (xc _ _ kin) hg hm hb (λa=>Cc (X:=X.suite a) (xc _ _ kin) F ((hr.mono hk).markH _) AY hm2 hkp hbd (KI Tv Zd (by rw[he];rfl)) qk (by rw[he];rfl) Z) (λσ H Q q=>?_) hw hdb) λDn σ H ⟨G,ρ,k,a⟩=>?_
 .refine⟨(show 1<=J0 by decide),λa2 n2=>AG a2 _ _ _ UW (.inl ⟨hf,_,rfl⟩) λdd H' p=>⟨rfl,?_⟩⟩
  rcases p with ⟨_,rfl,rfl⟩|⟨z,_⟩
  .exact q a2 n2
  .exact absurd hf z
 .refine⟨G,ρ,k,?_⟩
  unfold X0 at a;cases z:g ρ with
  |nx ρ1=>rw[z]at a;exact a
  |rt d=>rw[z]at a;exact a
  |ro ds=>rw[z]at a;exact a
  |bk ρ1=>rw[z]at a;exact a
  |ct ρ1=>rw[z]at a;exact a
  |bad=>rw[z]at a;exact a.elim
  |ex ρ1 d=>
   rw[z]at a;dsimp only at a;intro v σ1 G1 H1 k1 s1 r;by_cases hc:YT x d=B2
   .rw[Qr hc]at a
    obtain⟨ad,C',dd,bm',rfl,kc,hx,hct⟩:=Ri r hc ck;refine⟨ad,C',dd,bm',rfl,kc,k1.gh _ _ hx,hct,λa2 n2=>?_⟩;have ex:Ext G1 H1 (upd G1 a2 (.ext (XO B3 a2 C B0))) (upd H1 a2 (.ext (XO B3 a2 C B0))):=Ext.new k1.gh n2;exact a (.ref a2) σ1 _ _ (k1.ext ex) (s1.trans ex.g) (.exc (vs:=[]) ck2 UW ⟨hf,rfl⟩ .nil)
   .rw[QD hc]at a;exact a.elim
end
section
variable{K:Frag}{B G0 G H:Hp}{σ:St}{ρ:Um}{fn:Aa}
theorem RepOl.atN{p:Pat}:∀{vs:List V}{ds:B4}{fp:Aa}{k:Nat}{d:D},RepOl K G H p vs ds fp->ds[k]?=O d->fp.Nodup->(∀b∈fn,b∉fp)->∃v f,vs[k]?=O v/\RepO K G H p v d f/\f.Nodup/\(∀b∈f,b∈fp) /\
  ∀a∈f,(∀ws,H a≠O (.tup ws))->∀o d' f',RepO K G (L2.upd H a o) p v d' f'->f'.Nodup->(∀b∈f',b∈f∨b∈fn)->∃fp',RepOl K G (L2.upd H a o) p vs (ds.set k d') fp'/\fp'.Nodup/\∀b∈fp',b∈fp∨b∈fn
 |_,_,_,_,_,.nil,e,_,_=>by cases e
 |_,_,_,0,_,.cons (f1:=f1) (f2:=f2) r t,e,n,hd=>by
  cases e;obtain⟨n1,n2,nn⟩:=QH.mp n;refine⟨_,f1,rfl,r,n1,λb m=>Qs _ m,λa m nt o d' f' r' At sub=>⟨f'++f2,.cons r' (t.upd nt (λm2=>nn a m a m2 Z)),QH.mpr ⟨At,n2,λx hx y hy=>?_⟩,λb m=>?_⟩⟩
  .rcases sub x hx with m|m
   .exact nn x m y hy
   .intro e
    subst e;exact hd x m (Qm _ hy)
  .rcases QG.mp m with m|m
   .exact(sub b m).elim (λm=>.inl (Qs _ m)) .inr
   .exact .inl (Qm _ m)
 |_,_,_,k+1,d,.cons (f1:=f1) (f2:=f2) r t,e,n,hd=>by
  obtain⟨n1,n2,nn⟩:=QH.mp n;obtain⟨v,f,h1,h2,h3,h4,h5⟩:=RepOl.atN (k:=k) (d:=d) t (by simpa using e) n2 λb m y=>hd b m (List.mem_append_right _ y)
  refine⟨v,f,by simpa using h1,h2,h3,λb m=>List.mem_append_right _ (h4 b m),λa m nt o d' f' r' At sub=>?_⟩;obtain⟨fp',g1,g2,g3⟩:=h5 a m nt o d' f' r' At sub;refine⟨f1++fp',.cons (r.upd nt (λm2=>nn a m2 a (h4 a m) Z)) g1,QH.mpr ⟨n1,g2,λx hx y hy=>?_⟩,λb m=>?_⟩
  .rcases g3 y hy with m|m
   .exact nn x hx y m
   .intro e
    subst e;exact hd x m (Qs _ hx)
  .rcases QG.mp m with m|m
   .exact .inl (Qs _ m)
   .exact(g3 b m).elim (λm=>.inl (Qm _ m)) .inr
theorem RepOs.atN:∀{ps:List Pat}{vs:List V}{ds:B4}{fp:Aa}{k:Nat}{p:Pat}{d:D},RepOs K G H ps vs ds fp->ps[k]?=O p->ds[k]?=O d->fp.Nodup->(∀b∈fn,b∉fp)->∃v f,vs[k]?=O v/\RepO K G H p v d f/\f.Nodup/\(∀b∈f,b∈fp) /\
  ∀a∈f,(∀ws,H a≠O (.tup ws))->∀o d' f',RepO K G (L2.upd H a o) p v d' f'->f'.Nodup->(∀b∈f',b∈f∨b∈fn)->∃fp',RepOs K G (L2.upd H a o) ps vs (ds.set k d') fp'/\fp'.Nodup/\∀b∈fp',b∈fp∨b∈fn
 |_,_,_,_,_,_,_,.nil,_,e,_,_=>by cases e
 |_,_,_,_,0,_,_,.cons (f1:=f1) (f2:=f2) r t,e0,e,n,hd=>by
  cases e;cases e0;obtain⟨n1,n2,nn⟩:=QH.mp n;refine⟨_,f1,rfl,r,n1,λb m=>Qs _ m,λa m nt o d' f' r' At sub=>⟨f'++f2,.cons r' (t.upd nt (λm2=>nn a m a m2 Z)),QH.mpr ⟨At,n2,λx hx y hy=>?_⟩,λb m=>?_⟩⟩
  .rcases sub x hx with m|m
   .exact nn x m y hy
   .intro e
    subst e;exact hd x m (Qm _ hy)
  .rcases QG.mp m with m|m
   .exact(sub b m).elim (λm=>.inl (Qs _ m)) .inr
   .exact .inl (Qm _ m)
 |_,_,_,_,k+1,p,d,.cons (f1:=f1) (f2:=f2) r t,e0,e,n,hd=>by
  obtain⟨n1,n2,nn⟩:=QH.mp n;obtain⟨v,f,h1,h2,h3,h4,h5⟩:=RepOs.atN (k:=k) (p:=p) (d:=d) t (by simpa using e0) (by simpa using e) n2 λb m y=>hd b m (List.mem_append_right _ y)
  refine⟨v,f,by simpa using h1,h2,h3,λb m=>List.mem_append_right _ (h4 b m),λa m nt o d' f' r' At sub=>?_⟩;obtain⟨fp',g1,g2,g3⟩:=h5 a m nt o d' f' r' At sub;refine⟨f1++fp',.cons (r.upd nt (λm2=>nn a m2 a (h4 a m) Z)) g1,QH.mpr ⟨n1,g2,λx hx y hy=>?_⟩,λb m=>?_⟩
  .rcases g3 y hy with m|m
   .exact nn x hx y m
   .intro e
    subst e;exact hd x m (Qs _ hx)
  .rcases QG.mp m with m|m
   .exact .inl (Qs _ m)
   .exact(g3 b m).elim (λm=>.inl (Qm _ m)) .inr
noncomputable def Zf(pn:Pat)(x:D):Ad->Pat->D->B9
 |[],.lst p,.list ds=>if p.is pn=B2/\ds.length<1000000 then O (.list (ds++[x]))else B0
 |k::r,.lst p,.list ds=>(ds[k]?).bind λd=>(Zf pn x r p d).map λd'=>.list (ds.set k d')
 |k::r,.tup ps,.tuple ds=>(ps[k]?).bind λp=>(ds[k]?).bind λd=>(Zf pn x r p d).map λd'=>.tuple (ds.set k d')
 |_,_,_=>B0
theorem RepO.putN{pn:Pat}{vn:V}{dn:D}(rn:RepO K G H pn vn dn fn)(nn:fn.Nodup):∀(path:Ad){p:Pat}{v:V}{d d':D}{fp:Aa},RepO K G H p v d fp->fp.Nodup->(∀b∈fn,b∉fp)->Zf pn dn path p d=O d'->∃a vs,ZD H path v=O (.ref a)/\a∈fp/\H a=O (.lst vs) /\
  vs.length<1000000/\∃fp',RepO K G (L2.upd H a (.lst (vs++[vn]))) p v d' fp'/\fp'.Nodup/\∀b∈fp',b∈fp∨b∈fn
 |[],p,v,d,d',fp,r,n,hd,e=>by
  cases r with
  |leaf r=>cases e
  |tup h r=>cases e
  |dic _ _ h r=>cases e
  |lst h r=>
   rename_i p a vs ds fp;unfold Zf at e;split at e
   case isFalse=>cases e
   rename_i hc;cases e;have hq:=Pat.is_eq hc.1;subst hq;obtain⟨na,nf⟩:=Jc.mp n;have nt:∀ws,H a≠O (.tup ws):=λws z=>by rw[h]at z;cases z
   have da:a∉fn:=λm=>hd a m Qk
   refine⟨a,vs,rfl,Qk,h,by rw[r.length];exact hc.2,a::(fp++(fn++[])),.lst UW ((r.upd nt na).append (.cons (rn.upd nt da) .nil)),?_,λb m=>?_⟩
   .rw[QT]
    refine Jc.mpr ⟨λm=>(QG.mp m).elim na da,QH.mpr ⟨nf,nn,λx hx y hy e=>?_⟩⟩;subst e;exact hd x hy (Qj _ hx)
   .rw[QT]at m
    rcases QM.mp m with rfl|m
    .exact .inl Qk
    .exact(QG.mp m).elim (λm=>.inl (Qj _ m)) .inr
 |k::path,p,v,d,d',fp,r,n,hd,e=>by
  cases r with
  |leaf r=>cases e
  |dic _ _ h r=>cases e
  |lst h r=>
   rename_i p a0 vs ds fp;unfold Zf at e;cases z:ds[k]? with
   |none=>rw[z]at e;cases e
   |some d0=>
   rw[z]at e;dsimp only[Option.bind_some]at e;cases z2:Zf pn dn path p d0 with
   |none=>rw[z2]at e;cases e
   |some d1=>
   rw[z2]at e;cases e;obtain⟨na,nf⟩:=Jc.mp n;obtain⟨v0,f,h1,h2,h3,h4,h5⟩:=r.atN z nf λb m y=>hd b m (Qj _ y)
   obtain⟨a,ws,g1,g2,g3,g4,f',g5,g6,g7⟩:=RepO.putN rn nn path h2 h3 (λb m y=>hd b m (Qj _ (h4 b y))) z2;have nt:∀us,H a≠O (.tup us):=λus y=>by rw[g3]at y;cases y
   obtain⟨fp',k1,k2,k3⟩:=h5 a g2 nt _ _ _ g5 g6 g7;have hne:a0≠a:=λy=>by subst y;exact na (h4 a0 g2)
   refine⟨a,ws,?_,Qj _ (h4 a g2),g3,g4,a0::fp',.lst (by rw[UI hne];exact h) k1,Jc.mpr ⟨λm=>(k3 a0 m).elim na λm=>hd a0 m Qk,k2⟩,λb m=>?_⟩
   .unfold ZD
    rw[h];dsimp only;rw[h1];exact g1
   .rcases QM.mp m with rfl|m
    .exact .inl Qk
    .exact(k3 b m).elim (λm=>.inl (Qj _ m)) .inr
  |tup h r=>
   rename_i ps a0 vs ds;unfold Zf at e;cases zp:ps[k]? with
   |none=>rw[zp]at e;cases e
   |some p0=>
   rw[zp]at e;dsimp only[Option.bind_some]at e;cases z:ds[k]? with
   |none=>rw[z]at e;cases e
   |some d0=>
   rw[z]at e;dsimp only[Option.bind_some]at e;cases z2:Zf pn dn path p0 d0 with
   |none=>rw[z2]at e;cases e
   |some d1=>
   rw[z2]at e;cases e;obtain⟨v0,f,h1,h2,h3,h4,h5⟩:=r.atN zp z n hd;obtain⟨a,ws,g1,g2,g3,g4,f',g5,g6,g7⟩:=RepO.putN rn nn path h2 h3 (λb m y=>hd b m (h4 b y)) z2;have nt:∀us,H a≠O (.tup us):=λus y=>by rw[g3]at y;cases y
   obtain⟨fp',k1,k2,k3⟩:=h5 a g2 nt _ _ _ g5 g6 g7;have hne:a0≠a:=λy=>by subst y;rw[h]at g3;cases g3
   refine⟨a,ws,?_,h4 a g2,g3,g4,fp',.tup (by rw[UI hne];exact h) k1,k2,k3⟩;unfold ZD;rw[h];dsimp only;rw[h1];exact g1
theorem Rs{H':Hp}(h:Same H H'):∀{path:Ad}{v u:V},ZD H path v=O u->ZD H' path v=O u
 |[],v,u,e=>e
 |k::r,v,u,e=>by
  cases v with
  |ref a=>
   unfold ZD at e⊢;split at e
   .rename_i vs ha
    rw[h a _ ha];dsimp only;cases z:vs[k]? with
    |none=>rw[z]at e;cases e
    |some w=>rw[z]at e;exact Rs h e
   .rename_i vs ha
    rw[h a _ ha];dsimp only;cases z:vs[k]? with
    |none=>rw[z]at e;cases e
    |some w=>rw[z]at e;exact Rs h e
   .cases e
  |_=>cases e
theorem SO{pn:Pat}{x:D}:∀{path:Ad}{p:Pat}{d d':D},Zf pn x path p d=O d'->∃d'',Yx .rev path p d=O d''
 |[],p,d,d',e=>by cases p<;>cases d<;>first|exact⟨_,rfl⟩|cases e
 |k::r,p,d,d',e=>by
  cases p with
  |lst p=>
   cases d with
   |list ds=>
    unfold Zf at e;unfold Yx;cases z:ds[k]? with
    |none=>rw[z]at e;cases e
    |some d0=>
     rw[z]at e;dsimp only[Option.bind_some]at e⊢;cases z2:Zf pn x r p d0 with
     |none=>rw[z2]at e;cases e
     |some d1=>obtain⟨y,hy⟩:=SO z2;exact⟨_,by rw[hy];rfl⟩
   |_=>cases e
  |tup ps=>
   cases d with
   |tuple ds=>
    unfold Zf at e;unfold Yx;cases zp:ps[k]? with
    |none=>rw[zp]at e;cases e
    |some p0=>
    rw[zp]at e;dsimp only[Option.bind_some]at e⊢;cases z:ds[k]? with
    |none=>rw[z]at e;cases e
    |some d0=>
     rw[z]at e;dsimp only[Option.bind_some]at e⊢;cases z2:Zf pn x r p0 d0 with
     |none=>rw[z2]at e;cases e
     |some d1=>obtain⟨y,hy⟩:=SO z2;exact⟨_,by rw[hy];rfl⟩
   |_=>cases e
  |leaf=>cases e
  |dic=>cases e
end
noncomputable def W4(i:Nat)(path:Ad)(c:Int):SM:=λρ=>match ρ[i]? with
 |some (O (.deep p d))=>(match Zf (.lst .leaf) (.list [.int c]) path p d with
  |some d'=>.nx (ρ.set i (O (.deep p d')))
  |none=>.bad)
 |_=>.bad
theorem GZ{ρ ρ':Um}{i:Nat}{path:Ad}{c:Int}{p:Pat}{d d':D}(h1:ρ[i]?=O (O (.deep p d)))(h2:Zf (.lst .leaf) (.list [.int c]) path p d=O d')(h3:ρ.set i (O (.deep p d'))=ρ'):W4 i path c ρ=.nx ρ':=by unfold W4;rw[h1];dsimp only;rw[h2];dsimp only;rw[h3]
section
variable{X:Cx}{B G0:Hp}{KX:XW}{o:JZ}{pos:Pos}
theorem GY{i:Nat}{path:Ad}{c:Int}{j:Nat}{p1 p2 apos cpos:Pos}(ho:PE X o (ZI X.K i path))
  (hbase:attributeBase o "append" X.env (eval o X.env)=eval o X.env:=by rfl)
  (hfew:((backTo cpos (J5 [.List [.Constant (.int c) j p1] p2] X.env)).all (λx=>!x.1)&&(backToKw cpos (keywordEach [] X.env)).all (λx=>x.1.isSome)
   && decide (([.List [.Constant (.int c) j p1] p2]:B8).length+([]:List Keyword).length+(if([]:List Keyword).isEmpty then 0 else 1)<30))=B2:=by rfl)
  (hline:(apos.endLine==cpos.line)=B2:=by rfl) (hs:J5 [.List [.Constant (.int c) j p1] p2] X.env=[(B3,eval (.List [.Constant (.int c) j p1] p2) X.env)]:=by rfl)
  (hs1:J5 [.Constant (.int c) j p1] X.env=[(B3,eval (.Constant (.int c) j p1) X.env)]:=by rfl)
  (hsw:swapsWith (.Call (.Attribute o "append" apos) [.List [.Constant (.int c) j p1] p2] [] cpos) B0 pos.line X.env=pure B3:=by rfl) :
  PS X (.Expr (.Call (.Attribute o "append" apos) [.List [.Constant (.int c) j p1] p2] [] cpos) pos) (tS X.K B G0 KX (W4 i path c)):=
 U9 (Xk (VD Jw JE JF Vq ho (KI (Ts (KI VG Zd (by rw[hs1];rfl))) Zd (by rw[hs];rfl)) hbase hfew hline (by rw[hs];rfl) Z) hsw) λD σ H ⟨G,ρ,k,q⟩=>by
  unfold W4 at q;split at q
  case h_2=>exact q.elim
  rename_i p d hi;split at q
  case h_2=>exact q.elim
  rename_i d' z;obtain⟨ω,ks⟩:=k.slots;obtain⟨v,fp,hv,r,nd,w⟩:=ks i p d (Rt hi);obtain⟨d2,hz⟩:=SO z;obtain⟨a,vs,h1,h2,h3,_⟩:=r.mut (op:=.rev) (u:=.non) trivial path nd hz;refine⟨v,hv,Yo.of h1 ⟨.inl ⟨rfl,_,SqL.of h3⟩,(show 1<=J0 by decide),λnw hnw=>?_⟩⟩;have sh:Same H (upd H nw (.lst [.int c])):=KB hnw;have k1:EOk X.K B G0 G (upd H nw (.lst [.int c])) σ ρ:=k.ext (Ext.hid (o:=.lst [.int c]) k.gh hnw);have rn:RepO X.K G (upd H nw (.lst [.int c])) (.lst .leaf) (.ref nw) (.list [.int c]) [nw]:=.lst UW (.leaf (.cons (.int c) .nil))
  have nT:NewT X.K B G (upd H nw (.lst [.int c])) σ ρ (.lst .leaf) (.ref nw) (.list [.int c]) [nw]:=k.newT sh rn (List.nodup_cons.mpr ⟨by simp,List.nodup_nil⟩) λb m=>by
   rw[QJ]at m;subst m;refine⟨hnw,?_⟩;cases y:G b with
   |none=>rfl
   |some o=>have:=k.gh b o y;rw[hnw]at this;cases this
  have r1:=r.mono (.refl _) sh;obtain⟨a',vs',g1,g2,g3,g4,fp',g5,g6,g7⟩:=RepO.putN rn nT.nd path r1 nd (λb m y=>by rw[QJ]at m;subst m;obtain⟨us,hl⟩:=r.isl b y;rw[hnw]at hl;cases us<;>cases hl) z;have ea:=Rs sh h1;rw[g1]at ea;cases ea;refine⟨_,vs',.ref nw,rfl,rfl,g3,Qx g4 lim,?_⟩;exact q σ G _ (k1.mutN hi hv r1 g2 nT g5 g6 g7) (.refl _)
end
noncomputable def sOr(a b:SM):SM:=λρ=>match a ρ with
 |.bad=>b ρ
 |o=>o
theorem Li{X:Cx}{B G0:Hp}{KX:XW}{st:Stmt}{a b:SM}(h1:PS X st (tS X.K B G0 KX a))(h2:PS X st (tS X.K B G0 KX b)):PS X st (tS X.K B G0 KX (sOr a b)):=by
 intro pins s σ H Dn I q;obtain⟨G,ρ,k,q⟩:=q;unfold sOr at q;cases z:a ρ with
 |bad=>rw[z]at q;exact h2 pins s σ H Dn I ⟨G,ρ,k,q⟩
 |_=>rw[z]at q;exact h1 pins s σ H Dn I ⟨G,ρ,k,by rw[z];exact q⟩
theorem LR{a b:SM}{ρ:Um}{o:Out}(h:a ρ=o)(hn:o≠.bad):sOr a b ρ=o:=by unfold sOr;rw[h];cases o<;>first|rfl|exact absurd Z hn
theorem Hm{a b:SM}{ρ:Um}{o:Out}(h:a ρ=.bad)(h2:b ρ=o):sOr a b ρ=o:=by unfold sOr;rw[h];exact h2
end DL
namespace L2
open PySem PySem.Spec PyProof.Rows
structure XIs(C:JX)(bm:B5)(a:JX)(h:Heap):Prop where
 tl:Tail VB bm
 cls:∃nm q N bs hdct sn sub ab col dd k0 k1 k2 k3 k5 newId,h.get? C=O (excClassObj nm q C N bs bm hdct sn sub ab col dd k0 k1 k2 k3 k5 newId)
 fc:∀M:Model,Kj M C "__class__" (O (.builtin "object.__class__")) h
 fg:∀M:Model,Kj M C "__getattribute__" (O (.builtin "BaseException.__getattribute__")) h
 fa:∀M:Model,Kj M C "__getattr__" none h
 ob:∃o,h.get? a=O o/\o.cls=.ref C
def Yh(D:JX)(h:Heap):Prop:=∃nm q N bs bm hdct sn sub ab col dd k0 k1 k2 k3 k5 newId,h.get? D=O (excClassObj nm q D N bs bm hdct sn sub ab col dd k0 k1 k2 k3 k5 newId)
theorem Cp{C D a:JX}{bm:B5}{b:Bool}(hb:(Value.ref C::bm).contains (.ref D)=b)(dep:Int)(tk:Tok) :
  Meets (Builtin.«isinstance.nested» ⟨[.ref a,.ref D,.int dep tk],[]⟩)
   (λ_ R s=>(XIs C bm a s.heap/\Yh D s.heap)/\∀tk',R (.ok (.ret (.bool b))) {s with toks:=tk'}):=by
 intro prog w A R s hs;obtain⟨h,g,d,t,os⟩:=s;obtain⟨⟨X,AM,qn',N',bs',bm',hd',sn',sub',AV,col',dd2,j0,j1,j2,j3,j5,ni',hD⟩,hq⟩:=hs;obtain⟨nm,qn,N,bs,hd1,sn,sub,ab,col,AT,k0,k1,k2,k3,k5,ni,hC⟩:=X.cls;obtain⟨o,hx,hc⟩:=X.ob;have hT:(⟨h,g,d,t,os⟩:JV).TypeIs (.ref D) "type" :=⟨_,hD,rfl⟩
 have f2:=tc_sub;unfold Builtin.«isinstance.nested»;refine Qb ?_;unfold typeOf;refine Qb (Qh hx (Qg ?_));rw[hc];by_cases e:C=D
 .subst e
  have hb1:b=B2:=by rw[←hb];simp
  subst hb1;rw[if_pos (by simp)];exact Qb (wpAny_rule (Qg (hq t)))
 .rw[if_neg (by simp[e])]
  refine Qb (Qb (Qh hD (Qg ?_)));rw[Qr (show(Value.type "type" == Value.type "type")=B2 by decide)]
  k_delta "plainIsInstance"
  unfold isType isInstance
  repeat (first|(with_reducible refine Qh hx ?_;rw[hc])|with_reducible refine Qh hD ?_|with_reducible refine Qh hC ?_|(with_reducible refine QC hC ?_;rw[hb])|wp_step)
  cases b with
  |true=>wp_walk;exact hq t
  |false=>
   rw[QD (by decide)];refine Qb (RG PySem.F.excAttr_ValueError X.tl hC (X.fc _) (X.fg _) (X.fa _) hx hc ?_)
   repeat (first|with_reducible refine Qh hC ?_|(with_reducible refine QC hC ?_;rw[hb])|wp_step)
   exact hq _
noncomputable def Yg:List Bool->Bool
 |[]=>B3
 |b::r=>b || Yg r
theorem Np{prog:JW}{w:World}{A:Around}{E:JU->JV->Prop}{C a:JX}{bm:B5}{dep:Int}:∀(Ds:List (JX×Bool))(s:JV)(Q:Option Fin×Unit->JV->Prop),
  (∀p∈Ds,(Value.ref C::bm).contains (.ref p.1)=p.2/\Yh p.1 s.heap)->XIs C bm a s.heap->(∀tk,Q (if Yg (Ds.map (·.2))then O (.done (.ret (.bool B2)))else B0,()) {s with toks:=tk}) ->
  J4 (model prog w) A (forIn (Ds.map λp=>Value.ref p.1) ((none:Option Fin),()) λc _=>do
   if ←truthy (←call (.builtin "isinstance.nested") [.ref a,c,rawInt (dep+1)])then
    let r ←ret (.bool B2)
    pure (ForInStep.done (O r,()))
   else pure (ForInStep.yield (B0,()))) Q E s
 |[],s,Q,_,_,h=>Qg (h s.toks)
 |(D,b)::Ds,s,Q,e,X,h=>by
  obtain⟨e1,e2⟩:=e (D,b) Qk;rw[Qu,List.forIn_cons];refine Qb (Qb (call_function_meets F.kind_isinstance_nested F.plain_isinstance_nested F.entry_isinstance_nested (F.args_isinstance_nested_3 _ _ _) (Cp e1 _ _) ⟨⟨X,e2⟩,λtk'=>?_⟩));cases b with
  |true=>show J4 _ _ (truthy (.bool B2) >>= _) _ _ _;refine Qb (m:=truthy (.bool B2)) (Qg ?_);exact Qb (Qg (Qg (Qg (h tk'))))
  |false=>show J4 _ _ (truthy (.bool B3) >>= _) _ _ _;refine Qb (m:=truthy (.bool B3)) (Qg ?_);exact Qg (Np Ds _ Q (λp m=>e p (Qj _ m)) X λtk=>h tk)
theorem GX{C a tp:JX}{bm:B5}{dd:Ae}{n:Nat}{sl:Array B7}(Ds:List (JX×Bool))(tk:Tok) :
  Meets (Builtin.«isinstance.nested» ⟨[.ref a,.ref tp,.int 0 tk],[]⟩)
   (λ_ R s=>((∀p∈Ds,(Value.ref C::bm).contains (.ref p.1)=p.2/\Yh p.1 s.heap)/\XIs C bm a s.heap/\s.heap.get? tp=O ⟨.type "tuple", dd,.seq (Ds.map λp=>Value.ref p.1).toArray n,sl⟩)/\∀tk',R (.ok (.ret (.bool (Yg (Ds.map (·.2)))))) {s with toks:=tk'}):=by
 intro prog w A R s hs;obtain⟨h,g,d,tt,os⟩:=s;obtain⟨⟨hD,X,htp⟩,hq⟩:=hs;obtain⟨nm,qn,N,bs,hd1,sn,sub,ab,col,AT,k0,k1,k2,k3,k5,ni,hC⟩:=X.cls;obtain⟨o,hx,hc⟩:=X.ob;have hT2:(⟨h,g,d,tt,os⟩:JV).TypeIs (.ref tp) "tuple" :=⟨_,htp,rfl⟩
 have f1:=F.isi_sub_tuple;have hne:C≠tp:=λe=>by subst e;rw[htp]at hC;have:Value.type "tuple" = Value.type "type" :=JQ Obj.cls (Q7 hC);exact absurd this (by decide)
 unfold Builtin.«isinstance.nested»;refine Qb ?_;unfold typeOf;refine Qb (Qh hx (Qg ?_));rw[hc,if_neg (by simp[hne])];refine Qb (Qb (Qh htp (Qg ?_)));rw[QD (show ¬((Value.type "tuple" == Value.type "type")=B2)by decide)]
 repeat (any_goals (first|assumption|wp_step))
 refine wpAny_arrayLoop ?_;simp only[JJ,List.toList_toArray];refine Np (dep:=0) Ds _ _ hD X λtk'=>?_
 cases hb:Yg (Ds.map (·.2))with
 |true=>
  rw[hb]at hq;simp only[if_true]
  repeat (any_goals (first|assumption|wp_step))
  exact hq tk'
 |false=>
  rw[hb]at hq;simp only[Jy,JT]
  repeat (any_goals (first|assumption|wp_step))
  exact hq tk'
theorem EX{prog:JW}{w:World}{A:Around}{E:JU->JV->Prop}{Q:JU->JV->Prop}{s:JV}{C a tp:JX}{bm:B5}{dd:Ae}{n:Nat}{sl:Array B7}(Ds:List (JX×Bool))(hD:∀p∈Ds,(Value.ref C::bm).contains (.ref p.1)=p.2/\Yh p.1 s.heap)(X:XIs C bm a s.heap)
  (htp:s.heap.get? tp=O ⟨.type "tuple", dd,.seq (Ds.map λp=>Value.ref p.1).toArray n,sl⟩) (h:∀tk,Q (.bool (Yg (Ds.map (·.2)))) {s with toks:=tk}):J4 (model prog w) A (call (.builtin "isinstance") [.ref a,.ref tp]) Q E s:=
 call_isinstance (S:=λ_ R s=>((∀p∈Ds,(Value.ref C::bm).contains (.ref p.1)=p.2/\Yh p.1 s.heap)/\XIs C bm a s.heap/\s.heap.get? tp=O ⟨.type "tuple", dd,.seq (Ds.map λp=>Value.ref p.1).toArray n,sl⟩)/\∀tk',R (.ok (.ret (.bool (Yg (Ds.map (·.2)))))) {s with toks:=tk'})
  (λprog w A R s hs=>isinstance_outer (GX Ds _ prog w A R s hs) (λz=>nomatch z)) ⟨⟨hD,X,htp⟩,h⟩
end L2
namespace DL
open PySem PySem.Spec L2
open PyProof.Rows hiding St
section
variable{X:Cx}{B G0:Hp}{e:JZ}{pos:Pos}
theorem Co(kin:X.K.In X.base):ZA X (.builtin "isinstance") (λxs H Q=>∃a C dd bm nm fr tp D1 D2 bm1 qp n1 n2,xs=[.ref a,.ref tp]/\ClsK X.K nm C bm/\ClsK X.K n1 D1 bm1/\ClsK X.K n2 D2 qp/\H a=O (.ext (XO fr a C dd))/\H tp=O (.tup [.ref D1,.ref D2]) /\
  Q (.bl ((Value.ref C::bm).contains (.ref D1) || (Value.ref C::bm).contains (.ref D2))) H):=by
 intro pins s σ H xs us Q I r h;obtain⟨a,C,dd,bm,nm,fr,tp,D1,D2,bm1,qp,n1,n2,rfl,c,c1,c2,hx,ht,q⟩:=h;obtain⟨u,w',rfl,r1,r2⟩:=W8 r;obtain rfl:u=Value.ref a:=r1;obtain rfl:w'=Value.ref tp:=r2;obtain⟨its,rv,⟨⟨cl,Au,da,sl⟩,e,hc,n,hd⟩,_⟩:=I.tuple (SqT.of ht);obtain⟨x,y,rfl,ra,rb⟩:=W8 rv;obtain rfl:x=Value.ref D1:=ra;obtain rfl:y=Value.ref D2:=rb;simp only at hc hd;subst hc hd;obtain⟨⟨vs,AD,ga,_⟩,_,_⟩:=I.hok a _ hx;have own:∀{n:Str}{D:JX}{b:B5},ClsK X.K n D b->Yh D s.heap:=λk=>by obtain⟨fI,XC⟩:=k.cls (model X.prog X.w) X.base kin;obtain⟨nm,qn,N,bs,sn,sub,ab,col,AT,k0,k1,k2,k3,k5,hC⟩:=XC.obj;exact⟨nm,qn,N,bs,_,_,sn,sub,ab,col,AT,k0,k1,k2,k3,k5,_,I.bk _ _ hC⟩
 have is:XIs C bm a s.heap:=by obtain⟨fI,XC⟩:=c.cls (model X.prog X.w) X.base kin;obtain⟨nm,qn,N,bs,sn,sub,ab,col,AT,k0,k1,k2,k3,k5,hC⟩:=XC.obj;exact⟨XC.tail,⟨nm,qn,N,bs,_,sn,sub,ab,col,AT,k0,k1,k2,k3,k5,_,I.bk _ _ hC⟩,λM=>let ⟨_,XM⟩:=c.cls M X.base kin;XM.cl.keeps I.bk,λM=>let ⟨_,XM⟩:=c.cls M X.base kin;XM.ga.keeps I.bk,λM=>let ⟨_,XM⟩:=c.cls M X.base kin;XM.gh.keeps I.bk,_,ga,rfl⟩
 refine EX (C:=C) (bm:=bm) [(D1,(Value.ref C::bm).contains (.ref D1)),(D2,(Value.ref C::bm).contains (.ref D2))] (λp m=>?_) is e λtk=>⟨.bl _,H,I.tok tk,?_,q⟩
 .simp only[QM,List.not_mem_nil,or_false]at m
  rcases m with rfl|rfl
  .exact⟨rfl,own c1⟩
  .exact⟨rfl,own c2⟩
 .show RelV (.bl _) (.bool (_ || (_ || B3)))
  rw[Bool.or_false];rfl
noncomputable def Sj(x y:Str)(d:D):B9:=match Z8 x d,Z8 y d with
 |some (.bool a),O (.bool b)=>O (.bool (a || b))
 |_,_=>B0
theorem EW{f:M D}{x y:Str}{p2 p3 p4 p5:Pos}{kt}(cD:CK X.K X.mg x)(cE:CK X.K X.mg y)(hg:Gl X "isinstance")(hm:X.mg "isinstance" = B0)(AY:Gl X x)(hg3:Gl X y)(ha:PE X e (tD X.K B G0 f))(hdb:(x==("__debug__" : Str))=B3:=by decide)(qk:(y==("__debug__" : Str))=B3:=by decide)
  (hs:J5 [e,.Tuple [.Name x p3,.Name y p4] kt p5] X.env=(B3,eval e X.env)::J5 [.Tuple [.Name x p3,.Name y p4] kt p5] X.env:=by rfl)
  (hs2:J5 [.Tuple [.Name x p3,.Name y p4] kt p5] X.env=[(B3,eval (.Tuple [.Name x p3,.Name y p4] kt p5) X.env)]:=by rfl)
  (qa:J5 [.Name x p3,.Name y p4] X.env=(B3,eval (.Name x p3) X.env)::J5 [.Name y p4] X.env:=by rfl) (hs4:J5 [.Name y p4] X.env=[(B3,eval (.Name y p4) X.env)]:=by rfl) :
  PE X (.Call (.Name "isinstance" p2) [e,.Tuple [.Name x p3,.Name y p4] kt p5] [] pos) (tD X.K B G0 (UD f λd=>UB (Sj x y d))):=PE.kin λkin=>by
 obtain⟨D1,bm1,hm1,ck1⟩:=cD;obtain⟨D2,qp,hm2,ck2⟩:=cE;have T:=SD (x1:=kt) (pos:=p5) (KI (TH (v:=.ref D1) (pos:=p3) AY hm1 Z hdb) (KI (TH (v:=.ref D2) (pos:=p4) hg3 hm2 Z qk) Zd (by rw[hs4];rfl)) qa);refine UK (Vn (Co kin) hg hm RJ (KI ha (KI T Zd (by rw[hs2];rfl)) hs) (by decide) (by decide) hs (by rw[hs2];rfl)) λσ H Q q=>?_
 refine tM.one (R:=Rep X.K) q λv H2 G ρ d k r a=>?_
 obtain⟨d',e',a'⟩:=aft.opt a;unfold Sj at e';split at e'
 .rename_i t u h1 h2
  cases e';unfold Z8 at h1;split at h1
  .obtain⟨ad,C,dd,bm,AM,vs,ds,rfl,e0,c,hx,_,_⟩:=r.exc_inv
   cases e0;cases h1;cases h2;refine⟨(show 2<=J0 by decide),λp hp=>?_⟩;refine⟨ad,C,dd,bm,_,B3,p,D1,D2,bm1,qp,x,y,rfl,c,ck1,ck2,(k.gh.trans (KB hp)) _ _ hx,UW,?_⟩;rw[c.has ck1,c.has ck2];exact aft.done (show aft X.K B G0 (Rep X.K) (.ok _ ρ) G σ Q from a') k (Ext.hid k.gh hp) (.bl _)
  .cases h1
 .cases e'
end
def TabP(w:World)(nm:Str)(D:List (Str×Int))(h:Heap):Prop:=h.Ns mainGlobals (h.nsMap mainGlobals)/\∃a o es ep,h.nsMap mainGlobals nm=O (.ref a)/\(a==sysModules)=B3/\h.get? a=O o/\o.ExactDict/\o.data=.dict es ep/\es.toList.map YD=D.map λp=>(hashStr w p.1,O p.1,O p.2)
def XE(w:World)(K:Frag)(mg:Str->B7)(nm:Str)(D:List (Str×Int)):Prop:=∃a o es ep,mg nm=O (.ref a)/\(a==sysModules)=B3/\K.lookup a=O o/\o.ExactDict/\o.data=.dict es ep/\es.toList.map YD=D.map λp=>(hashStr w p.1,O p.1,O p.2)
theorem Hl{w:World}{nm:Str}{D:List (Str×Int)}{h:Heap}(e:Va nm h=W9 w D):TabP w nm D h:=by
 unfold Va W9 at e;split at e
 case h_2=>cases e
 rename_i a ha;split at e
 case h_2=>cases e
 rename_i t es ep sl ho;obtain⟨e1,e2⟩:=JB (Q7 e);simp only[Qn,beq_iff_eq,bne_iff_ne,ne_eq]at e1;obtain⟨⟨⟨rfl,h2⟩,h3⟩,h4⟩:=e1;exact⟨.of_isNs h4,a,_,es,ep,ha,by simpa using h3,ho,⟨rfl,rfl,Array.eq_empty_of_size_eq_zero h2⟩,rfl,e2⟩
theorem TabP.keeps{w:World}{nm:Str}{D:List (Str×Int)}{h h':Heap}(x:TabP w nm D h)(k:∀b o,h.get? b=O o->h'.get? b=O o):TabP w nm D h':=by obtain⟨n,a,o,es,ep,h1,h2,h3,h4,h5,h6⟩:=x;have e:=(n.keeps k).eq_nsMap;refine⟨e ▸ n.keeps k,a,o,es,ep,?_,h2,k _ _ h3,h4,h5,h6⟩;rw[←e];exact h1
theorem FE{w:World}{nm:Str}{D:List (Str×Int)}{h:Heap}{mg:Str->B7}(n:h.Ns mainGlobals mg)(x:TabP w nm D h):XE w (whole h) mg nm D:=by obtain⟨_,a,o,es,ep,h1,h2,h3,h4,h5,h6⟩:=x;exact⟨a,o,es,ep,by rw[n.eq_nsMap];exact h1,h2,by rw[Zj];exact h3,h4,h5,h6⟩
noncomputable def Zt(D:List (Str×Int)):List (Key×V):=D.map λp=>(.inr p.1,.int p.2)
theorem OR{P:JW}{w:World}:∀{es:List DictEntry}{D:List (Str×Int)},es.map YD=D.map (λp=>(hashStr w p.1,O p.1,O p.2))->∃vs,Pairs (ZY P w) es vs/\KV (Zt D) vs/\∀e∈es,∃k,(ZY P w).is k e.key=B2/\e.hash=(ZY P w).hash k
 |[],[],_=>⟨[],.nil,.nil,λ_ m=>nomatch m⟩
 |[],_::_,h=>by cases h
 |_::_,[],h=>by cases h
 |e::es,p::D,h=>by
  rw[Qu,Qu]at h;obtain⟨h1,h2⟩:=List.cons.inj h;obtain⟨vs,g1,g2,g3⟩:=OR (P:=P) h2;obtain⟨hh,key,val⟩:=e;obtain⟨x,i⟩:=p;unfold YD at h1;obtain⟨h3,h4⟩:=JB h1;obtain⟨h5,h6⟩:=JB h4;dsimp only at h3 h5 h6
  have hk:∃t,key=.str x t:=by
   cases key with
   |str y t=>cases h5;exact⟨t,rfl⟩
   |_=>cases h5
  have hv:∃u,val=.int i u:=by
   cases val with
   |int y t=>cases h6;exact⟨t,rfl⟩
   |_=>cases h6
  obtain⟨t,rfl⟩:=hk;obtain⟨u,rfl⟩:=hv;refine⟨(.inr x,.int i u)::vs,.cons (Rz P w x t) Z g1,.cons ⟨rfl,u,rfl⟩ g2,λe m=>?_⟩;rcases QM.mp m with rfl|m
  .exact⟨.inr x,Rz P w x t,h3⟩
  .exact g3 e m
theorem FD{D:List (Str×Int)}{z:Str}:(ZH (Zt D) (.inr z)).getD .non=match D.lookup z with|some i=>.int i|none=>.non:=by
 induction D with
 |nil=>rfl
 |cons p D ih=>
  obtain⟨x,i⟩:=p;by_cases e:x=z
  .subst e
   have:(Zt ((x,i)::D))=(.inr x,.int i)::Zt D:=rfl;rw[this,OE Z,QW,beq_self_eq_true];rfl
  .have:(Zt ((x,i)::D))=(.inr x,.int i)::Zt D:=rfl
   have b:(z==x)=B3:=by simpa using λq=>e q.symm
   rw[this,OD (λq=>e (Sum.inr.inj q)),ih,QW,b]
noncomputable def VC(T:List (Str×Int))(g:M B4):M D:=UD g λks=>UB (match ks with | [.str z]=>O (match T.lookup z with|some i=>.int i|none=>.none)|_=>B0)
section
variable{X:Cx}{B G0:Hp}{e:JZ}{es:B8}{apos cpos p2:Pos}
theorem FC{L:List (Str×Int)}{t:TA}{x:Str}(T:XE X.w X.K X.mg x L)(hND:(L.map (·.1)).Nodup)(hg:Gl X x)(ha:PA X (e::es) t)(hdb:(x==("__debug__" : Str))=B3)
  (hbase:attributeBase (.Name x p2) "get" X.env (eval (.Name x p2) X.env)=eval (.Name x p2) X.env)
  (hfew:((backTo cpos (J5 (e::es) X.env)).all (λx=>!x.1)&&(backToKw cpos (keywordEach [] X.env)).all (λx=>x.1.isSome)
   && decide ((e::es).length+([]:List Keyword).length+(if([]:List Keyword).isEmpty then 0 else 1)<30))=B2)
  (hline:(apos.endLine==cpos.line)=B2) (hs:J5 (e::es) X.env=(B3,eval e X.env)::J5 es X.env) (hplain:(backTo cpos (J5 es X.env)).any (·.1)=B3) :
  PE X (.Call (.Attribute (.Name x p2) "get" apos) (e::es) [] cpos) (λσ H Q=>t σ H λxs H2=>∃z,xs=[.str z]/\Q (match L.lookup z with|some i=>.int i|none=>.non) H2):=by
 intro pins s σ H Q I q;obtain⟨a,o,es',ep,hm,hsm,hk,hx,hd,hes⟩:=T;have at':∀{H1:Hp}{s1:JV}{p1:List (JX×Obj)}{σ1:St},Inv X p1 σ1 H1 s1->s1.heap.get? a=O o:=λI1=>I1.kIn a o hk;refine wpAny_Call_method_late hbase hfew hline Z (Y3 I hg hm ?_ hdb)
 refine⟨"dict", "dict.get", F.plainAttrs_dict,F.slot_dict_get,F.type_dict_get,⟨o,at' I,hx.1⟩,λb e=>by cases e;exact⟨o,at' I,hx.2.1⟩,?_⟩;have hA:=ha cpos pins s σ H _ I q;rw[hs]at hA⊢;refine Calls.callWith_builtin (by show(B3 || (backTo cpos (J5 es X.env)).any (·.1))=B3;rw[hplain]<;>rfl) (Calls.evalArgs_plain ?_);refine thn hA λus s2 ⟨vs,H2,I2,r2,z,e2,q2⟩=>?_;subst e2
 obtain⟨u,rfl,ru⟩:=r2.one;obtain⟨ws,g1,g2,g3⟩:=OR (P:=X.prog) hes;have dd:s2.heap.DictOf (ZY X.prog X.w) a ws:=⟨o,es',ep,at' I2,hx,hd,λe m=>g3 e (by simpa using m),g1,by have:ws.map (·.1)=(Zt L).map (·.1):=g2.keys.symm;rw[this];unfold Zt;rw[Jg];have:=List.Pairwise.map (S:=λa b:Key=>a≠b) (λx:Str=>(Sum.inr x:Key)) (λ_ _ h e=>h (Sum.inr.inj e)) hND;rw[Jg]at this;exact this⟩
 refine call_meetsIn PySem.F.slot_dict_get dd.typeIs PySem.F.entry_dict_get (PySem.F.args_dict_get_2 _ _) (meets_dict_get (ZY X.prog X.w) a (Mr (k:=.inr z) ru) hsm) ⟨_,dd.mapOf,?_⟩;exact⟨_,H2,I2.tok _,FD ▸ (g2.val (.inr z)).getD (d:=.non) Z,q2⟩
theorem EV{L:List (Str×Int)}{g:M B4}{x:Str}(T:XE X.w X.K X.mg x L)(hND:(L.map (·.1)).Nodup)(hg:Gl X x)(ha:PA X (e::es) (tDs X.K B G0 g))(hdb:(x==("__debug__" : Str))=B3:=by decide)
  (hbase:attributeBase (.Name x p2) "get" X.env (eval (.Name x p2) X.env)=eval (.Name x p2) X.env:=by rfl)
  (hfew:((backTo cpos (J5 (e::es) X.env)).all (λx=>!x.1)&&(backToKw cpos (keywordEach [] X.env)).all (λx=>x.1.isSome)
   && decide ((e::es).length+([]:List Keyword).length+(if([]:List Keyword).isEmpty then 0 else 1)<30))=B2:=by rfl)
  (hline:(apos.endLine==cpos.line)=B2:=by rfl) (hs:J5 (e::es) X.env=(B3,eval e X.env)::J5 es X.env:=by rfl) (hplain:(backTo cpos (J5 es X.env)).any (·.1)=B3:=by rfl) :
  PE X (.Call (.Attribute (.Name x p2) "get" apos) (e::es) [] cpos) (tD X.K B G0 (VC L g)):=
 UK (FC T hND hg ha hdb hbase hfew hline hs hplain) λσ H Q q=>by
  refine tM.one (R:=Reps X.K) q λv H2 G ρ y k r a=>?_
  obtain⟨d,e,a'⟩:=a.opt;split at e
  .rename_i z
   cases e;obtain⟨u,rfl,ru⟩:=r.one_inv;have:=ru.str_inv;subst this;refine⟨z,rfl,a'.now k ?_⟩;cases L.lookup z with
   |none=>exact .non
   |some i=>exact .int i
  .cases e
end
theorem FA{L:List (Str×Int)}{g:M B4}{ρ ρ1:Um}{z:Str}{r:D}(h:g ρ=.ok [.str z] ρ1)(h3:(match L.lookup z with|some i=>int i|none=>.none)=r):VC L g ρ=.ok r ρ1:=by unfold VC;exact U6 h (KS (JQ O h3))
end DL
namespace W
open PySem PySem.Spec L2 DL
open PyProof.Rows hiding St
noncomputable def top(i:Nat):Stmt:=PySem.Challenge.pw_wishdeal_k71_wishes_changed.main.body.getD i (.Pass ⟨0,0,0,0⟩)
abbrev GG(s:Stmt)(x:Str):Prop:=(Kb s).names.lookup x=O NameKind.globalImplicit
abbrev VV(s:Stmt)(x:Str):Prop:=L2.Vis (Kb s) x
abbrev LL(s:Stmt)(x:Str):Prop:=L2.Loc (Kb s) x
theorem vk{s:Stmt}{x:Str}(h:(Kb s).names.lookup x=O .local∨(Kb s).names.lookup x=O .cell∨(Kb s).names.lookup x=O .free):VV s x:=h
theorem lk{s:Stmt}{x:Str}(h:(Kb s).names.lookup x=O .local∨(Kb s).names.lookup x=O .cell):LL s x:=h
structure Txt(K:Frag)(mg:Str->B7):Prop where
 b_ValueError:mg "ValueError" = B0
 b_all:mg "all" = B0
 b_bool:mg "bool" = B0
 b_enumerate:mg "enumerate" = B0
 b_int:mg "int" = B0
 b_isinstance:mg "isinstance" = B0
 b_len:mg "len" = B0
 b_list:mg "list" = B0
 b_max:mg "max" = B0
 b_min:mg "min" = B0
 b_range:mg "range" = B0
 b_repr:mg "repr" = B0
 b_set:mg "set" = B0
 b_str:mg "str" = B0
 b_sum:mg "sum" = B0
 b_tuple:mg "tuple" = B0
 c_MOST_ASKERS:∃t,mg "MOST_ASKERS" = O (Value.int 7 t)
 c_MOST_COPIES:∃t,mg "MOST_COPIES" = O (Value.int 7 t)
 c_MOST_RANKS:∃t,mg "MOST_RANKS" = O (Value.int 5 t)
 c_MOST_THINGS:∃t,mg "MOST_THINGS" = O (Value.int 6 t)
 x_DealError:CK K mg "DealError"
 x_NoAim:CK K mg "NoAim"
 x_NoChange:CK K mg "NoChange"
 x_NoWishes:CK K mg "NoWishes"
 sm:SmK K
noncomputable abbrev SN:List (Str×Int):=[("list", 3),("copies", 3),("come", 2),("go", 2),("thing", 2)]
noncomputable abbrev Sar:Stmt:=top 31
noncomputable abbrev N_ar:List Str:=["_law_wishes_here", "_law_change_here", "_law_copies", "_law_lists", "_law_word"]
theorem Har:NmF Sar N_ar:=Ks (by decide +kernel)
noncomputable def WP:SM:=
 Us (KM (Uo 0) (gT 2 (gNC (gN 2) (gNC (gN 3) (gN0)))))
 (Us (US 4 (Ux 1 (Up (.int 0))))
 (Us (sIf (Kh oEq 4 (Up (.str "copies")))
 (Uz (Yr (UA Ua (Uw (oIB λi j=>decide (i<j)) (Ux 1 (Up (.int 1))) (Ke 2))) (UA Ua (Uw (oIB λi j=>decide (i<j)) (Ux 1 (Up (.int 2))) (Up (.int 8))))))
 (sNx))
 (Us (sIf (Kh oEq 4 (Up (.str "go")))
 (Uz (Yr (UA Ua (Uw (oIB λi j=>decide (i<j)) (Ux 1 (Up (.int 1))) (Ke 3))) (UA Ua (Uw (oIB λi j=>decide (j<i)) (Ke 3) (Up (.int 1))))))
 (sNx))
 (Us (sIf (Kh oEq 4 (Up (.str "thing")))
 (Uz (Yr (UA Ua (Uw (oIB λi j=>decide (i<j)) (Ke 2) (Up (.int 6)))) (UA Ua (Uw (oIB λi j=>decide (i<j)) (Ux 1 (Up (.int 1))) (Up (.int 8))))))
 (sNx))
 (Us (sIf (mOr (Zk (Kh oEq 4 (Up (.str "list"))) (Uw (oIB λi j=>decide (j<=i)) (Ux 1 (Up (.int 1))) (Ke 3))) (Zk (Kh oEq 4 (Up (.str "come"))) (Uw (oIB λi j=>decide (j<i)) (Ke 3) (Up (.int 6)))))
 (Uz (Up (.bool B3)))
 (sNx))
 (Uz (K1 KO (Ur (UA J9 (Zq (Kt (K1 XZ (Ur (Ux 1 (K9 (Up (.int 1)))) (Ur (U2 (Uq)) (Uq))))) 1 (gN 5) (Up B2) (UA Ua (Kh (oIB λi j=>decide (i<j)) 5 (Ke 2))))) (Uq)))))))))
noncomputable def Yl:B4->B9:=UY N_ar WP
noncomputable abbrev Sas:Stmt:=top 32
noncomputable abbrev N_as:List Str:=["_law_wishes_here", "_law_change_here", "_law_copies", "_law_lists", "_law_word"]
theorem Has:NmF Sas N_as:=Ks (by decide +kernel)
noncomputable def WO:SM:=
 Us (KH 2 (UD (Ur (Ux 0 (Up (.int 0))) (Uq)) λxs=>UB (Yp xs)))
 (Us (KH 3 (UD (Ur (Ux 0 (Up (.int 1))) (Uq)) λxs=>UB (Yp xs)))
 (Us (US 4 (Ux 1 (Up (.int 0))))
 (Us (sIf (Kh oEq 4 (Up (.str "list")))
 (Vv 3 (Ux 1 (Up (.int 1))) (Ux 1 (Up (.int 2))))
 (sNx))
 (Us (sIf (Kh oEq 4 (Up (.str "copies")))
 (Vv 2 (Ux 1 (Up (.int 1))) (Ux 1 (Up (.int 2))))
 (sNx))
 (Us (sIf (Kh oEq 4 (Up (.str "come")))
 (KN 3 (Ux 1 (Up (.int 1))))
 (sNx))
 (Us (sIf (Kh oEq 4 (Up (.str "go")))
 (Wg (YI 3 (Ux 1 (Up (.int 1)))))
 (sNx))
 (Us (sIf (Kh oEq 4 (Up (.str "thing")))
 (KN 2 (Ux 1 (Up (.int 1))))
 (sNx))
 (Uz (U1 (Ur (Uo 2) (Ur (Uo 3) (Uq))))))))))))
noncomputable def Yk:B4->B9:=UY N_as WO
noncomputable abbrev Sat:Stmt:=top 33
noncomputable abbrev N_at:List Str:=["_law_wishes_here", "_law_lists", "_law_ranks_here"]
theorem Hat:NmF Sat N_at:=Ks (by decide +kernel)
noncomputable def P8:SM:=
 KN 1 (UA J9 (Zq (Kt (Uo 2)) 1 (gN 3) (Up B2) (UA J9 (X2 3))))
noncomputable def WN:SM:=
 Us (KH 1 (UD (Uq) λxs=>if xs.length<=1000000 then Up xs else λ_=>.bad))
 (Us (Kf (Kt (Ux 0 (Up (.int 1)))) (gN 2) P8)
 (Uz (U1 (Ur (UA J9 (UD (Ur (Ux 0 (Up (.int 0))) (Uq)) λxs=>UB (Yp xs))) (Ur (Uo 1) (Uq))))))
noncomputable def Yj:B4->B9:=UY N_at WN
noncomputable abbrev N9:Stmt:=top 18
noncomputable abbrev N8:List Str:=["wishes", "copies", "lists"]
theorem Mj:NmF N9 N8:=Ks (by decide +kernel)
noncomputable def RN:SM:=
 Us (KM (Uo 0) (gT 2 (gNC (gN 1) (gNC (gN 2) (gN0)))))
 (sNx)
noncomputable abbrev BV:M D:=
 (UD (Vf (UA J9 (X2 1)) (Vf (Yz (Kt (Uo 2)) 1 (gN 3) (Up B2) (Yz (Kt (Uo 3)) 1 (gN 4) (Up B2) (UA J9 (X2 4)))) (Uq))) λxs=>if xs.length<=1000000 then Up (.tuple xs)else λ_=>.bad)
noncomputable def Vr:B4->B9:=YM N8 RN BV
noncomputable abbrev F_ah:B4->B9:=Vr
noncomputable abbrev Saj:Stmt:=top 22
noncomputable abbrev N_aj:List Str:=["wishes", "change", "copies", "lists", "word"]
theorem Haj:NmF Saj N_aj:=Ks (by decide +kernel)
noncomputable def WU:SM:=
 Us (KM (Uo 0) (gT 2 (gNC (gN 2) (gNC (gN 3) (gN0)))))
 (Us (US 4 (Ux 1 (Up (.int 0))))
 (Us (sIf (Kh oEq 4 (Up (.str "list")))
 (Uz (U1 (Ur (Uo 2) (Ur (Uw UG (Uw UG (KE (Uo 3) (Up B0) (UD (Ux 1 (Up (.int 1))) λx=>UB (Zz x))) (U2 (Ur (Ux 1 (Up (.int 2))) (Uq)))) (KE (Uo 3) (UD (Uw UG (Ux 1 (Up (.int 1))) (Up (.int 1))) λx=>UB (Zz x)) (Up B0))) (Uq)))))
 (sNx))
 (Us (sIf (Kh oEq 4 (Up (.str "copies")))
 (Uz (U1 (Ur (Uw UG (Uw UG (KE (Uo 2) (Up B0) (UD (Ux 1 (Up (.int 1))) λx=>UB (Zz x))) (U2 (Ur (Ux 1 (Up (.int 2))) (Uq)))) (KE (Uo 2) (UD (Uw UG (Ux 1 (Up (.int 1))) (Up (.int 1))) λx=>UB (Zz x)) (Up B0))) (Ur (Uo 3) (Uq)))))
 (sNx))
 (Us (sIf (Kh oEq 4 (Up (.str "come")))
 (Uz (U1 (Ur (Uo 2) (Ur (Uw UG (Uo 3) (U2 (Ur (Ux 1 (Up (.int 1))) (Uq)))) (Uq)))))
 (sNx))
 (Us (sIf (Kh oEq 4 (Up (.str "go")))
 (Uz (U1 (Ur (Uo 2) (Ur (Uw UG (KE (Uo 3) (Up B0) (UD (Ux 1 (Up (.int 1))) λx=>UB (Zz x))) (KE (Uo 3) (UD (Uw UG (Ux 1 (Up (.int 1))) (Up (.int 1))) λx=>UB (Zz x)) (Up B0))) (Uq)))))
 (sNx))
 (Uz (U1 (Ur (Uw UG (Uo 2) (U2 (Ur (Ux 1 (Up (.int 1))) (Uq)))) (Ur (Uo 3) (Uq))))))))))
noncomputable def Ym:B4->B9:=UY N_aj WU
noncomputable abbrev Saa:Stmt:=top 6
noncomputable abbrev N_aa:List Str:=["thing"]
theorem Haa:NmF Saa N_aa:=Ks (by decide +kernel)
noncomputable def WZ:SM:=
 Uz (Yr (UA (λd=>.bool (UU d "int")) (Uo 0)) (W7 (UA (λd=>.bool (UU d "bool")) (Uo 0))))
noncomputable def YK:B4->B9:=UY N_aa WZ
noncomputable abbrev Sab:Stmt:=top 7
noncomputable abbrev N_ab:List Str:=["thing", "many"]
theorem Hab:NmF Sab N_ab:=Ks (by decide +kernel)
noncomputable def Xw:SM:=
 Uz (Yr (UC 1 YK (Ur (Uo 0) (Uq))) (UA Ua (Xg (oIB λi j=>decide (i<=j)) (oIB λi j=>decide (i<j)) (Up (.int 0)) (Uo 0) (Uo 1))))
noncomputable def KA:B4->B9:=UY N_ab Xw
noncomputable abbrev Sai:Stmt:=top 21
noncomputable abbrev N_ai:List Str:=["wishes", "thing", "copies", "lists"]
theorem Hai:NmF Sai N_ai:=Ks (by decide +kernel)
noncomputable def WV:SM:=
 Us (sIf (mOr (UR (Ko (UA (λd=>.bool (UU d "tuple")) (Uo 1)))) (mOr (Uw oEq (Ke 1) (Up (.int 0))) (UR (Ko (UA (λd=>.bool (UU d "str")) (Ux 1 (Up (.int 0))))))))
 (Uz (Up (.bool B3)))
 (sNx))
 (Us (sIf (Uw oNe (VC SN (Ur (Ux 1 (Up (.int 0))) (Uq))) (Ke 1))
 (Uz (Up (.bool B3)))
 (sNx))
 (Us (KM (Uo 0) (gT 2 (gNC (gN 2) (gNC (gN 3) (gN0)))))
 (Us (sIf (Uw oIn (Ux 1 (Up (.int 0))) (U1 (Ur (Up (.str "list")) (Ur (Up (.str "go")) (Uq)))))
 (Uz (UC 2 KA (Ur (Ux 1 (Up (.int 1))) (Ur (Ke 3) (Uq)))))
 (sNx))
 (Us (sIf (Uw oEq (Ux 1 (Up (.int 0))) (Up (.str "copies")))
 (Uz (UC 2 KA (Ur (Ux 1 (Up (.int 1))) (Ur (Ke 2) (Uq)))))
 (sNx))
 (Uz (Up (.bool B2)))))))
noncomputable def Yn:B4->B9:=UY N_ai WV
noncomputable abbrev Sad:Stmt:=top 14
noncomputable abbrev N_ad:List Str:=["thing", "things"]
theorem Had:NmF Sad N_ad:=Ks (by decide +kernel)
noncomputable def Xv:SM:=
 Us (sIf (mOr (UR (Ko (UA (λd=>.bool (UU d "list")) (Uo 0)))) (Uw oEq (Ke 0) (Up (.int 0))))
 (Uz (Up (.bool B3)))
 (sNx))
 (Uz (K1 KO (Ur (UA J9 (Zq (Kt (Uo 0)) 1 (gN 2) (Up B2) (UC 2 KA (Ur (Uo 2) (Ur (Uo 1) (Uq)))))) (Uq))))
noncomputable def ZQ:B4->B9:=UY N_ad Xv
noncomputable abbrev Sae:Stmt:=top 15
noncomputable abbrev N_ae:List Str:=["thing", "things", "wished"]
theorem Hae:NmF Sae N_ae:=Ks (by decide +kernel)
noncomputable def Xu:SM:=
 Us (sIf (mOr (UR (Ko (UA (λd=>.bool (UU d "list")) (Uo 0)))) (Uw (oIB λi j=>decide (j<i)) (Ke 0) (Up (.int 5))))
 (Uz (Up (.bool B3)))
 (sNx))
 (Us (sIf (UR (Ko (K1 KO (Ur (UA J9 (Zq (Kt (Uo 0)) 1 (gN 3) (Up B2) (UC 2 ZQ (Ur (Uo 3) (Ur (Uo 1) (Uq)))))) (Uq)))))
 (Uz (Up (.bool B3)))
 (sNx))
 (Us (KH 2 (Wu (Kt (Uo 0)) 2 (gN 3) (Up B2) (Kt (Uo 3)) (gN 4) (Up B2) (Uo 4)))
 (Uz (UA Ua (Uw oEq (K1 X6 (Ur (Uo 2) (Uq))) (Ke 2))))))
noncomputable def ZP:B4->B9:=UY N_ae Xu
noncomputable abbrev N7:Stmt:=top 16
noncomputable abbrev N6:List Str:=["lists", "things", "asker", "ranks"]
theorem Mi:NmF N7 N6:=Ks (by decide +kernel)
noncomputable def Me:SM:=
 sIf (UR (Ko (UC 2 ZP (Ur (Uo 3) (Ur (Uo 1) (Uq))))))
 (Y2 "NoWishes" (Ur (Up (.str "lists")) (Ur (Uo 2) (Uq))))
 (sNx)
noncomputable def RM:SM:=
 Us (sIf (mOr (UR (Ko (UA (λd=>.bool (UU d "list")) (Uo 0)))) (UR (Xg (oIB λi j=>decide (i<=j)) (oIB λi j=>decide (i<=j)) (Up (.int 1)) (Ke 0) (Up (.int 7)))))
 (Y2 "NoWishes" (Ur (Up (.str "lists")) (Ur (Up .none) (Uq))))
 (sNx))
 (Kf (We (Ur (Uo 0) (Uq))) (gT 2 (gNC (gN 2) (gNC (gN 3) (gN0)))) Me)
noncomputable def T9:B4->Option XR:=Zv N6 RM
noncomputable abbrev Mh:Stmt:=top 13
noncomputable abbrev Mg:List Str:=["copies", "number", "many"]
theorem Md:NmF Mh Mg:=Ks (by decide +kernel)
noncomputable def Mf:SM:=
 sIf (UR (Ko (UC 2 KA (Ur (Uo 2) (Ur (Uw UG (Up (.int 7)) (Up (.int 1))) (Uq))))))
 (Y2 "NoWishes" (Ur (Up (.str "copies")) (Ur (Uo 1) (Uq))))
 (sNx)
noncomputable def RL:SM:=
 Us (sIf (mOr (UR (Ko (UA (λd=>.bool (UU d "list")) (Uo 0)))) (UR (Xg (oIB λi j=>decide (i<=j)) (oIB λi j=>decide (i<=j)) (Up (.int 1)) (Ke 0) (Up (.int 6)))))
 (Y2 "NoWishes" (Ur (Up (.str "copies")) (Ur (Up .none) (Uq))))
 (sNx))
 (Kf (We (Ur (Uo 0) (Uq))) (gT 2 (gNC (gN 1) (gNC (gN 2) (gN0)))) Mf)
noncomputable def Sa:B4->Option XR:=Zv Mg RL
noncomputable abbrev Mb:Stmt:=top 17
noncomputable abbrev Ma:List Str:=["thing", "copies", "lists"]
theorem Mc:NmF Mb Ma:=Ks (by decide +kernel)
noncomputable def RK:SM:=
 Us (sIf (mOr (UR (Ko (UA (λd=>.bool (UU d "tuple")) (Uo 0)))) (Uw oNe (Ke 0) (Up (.int 2))))
 (Y2 "NoWishes" (Ur (Up (.str "wishes")) (Ur (Up .none) (Uq))))
 (sNx))
 (Us (KM (Uo 0) (gT 2 (gNC (gN 1) (gNC (gN 2) (gN0)))))
 (Us (sX (YN 1 Sa (Ur (Uo 1) (Uq))) λ_ ρ=>.nx ρ)
 (sX (YN 2 T9 (Ur (Uo 2) (Ur (Ke 1) (Uq)))) λ_ ρ=>.nx ρ)))
noncomputable def Wd:B4->Option XR:=Zv Ma RK
noncomputable abbrev NH:Stmt:=top 23
noncomputable abbrev NG:List Str:=["wishes", "change", "told"]
theorem Nu:NmF NH NG:=Ks (by decide +kernel)
noncomputable def Rr:SM:=
 Us (sX (YN 1 Wd (Ur (Uo 0) (Uq))) λ_ ρ=>.nx ρ)
 (Us (sIf (UR (Ko (UC 2 Yn (Ur (Uo 0) (Ur (Uo 1) (Uq))))))
 (Y2 "NoChange" (Ur (Up (.str "no change of the wishes")) (Uq)))
 (sNx))
 (Us (US 2 (UC 2 Ym (Ur (Uo 0) (Ur (Uo 1) (Uq)))))
 (Us (X0 "NoWishes" "NoChange" (sX (YN 1 Wd (Ur (Uo 2) (Uq))) λ_ ρ=>.nx ρ))
 (Uz (UC 1 F_ah (Ur (Uo 2) (Uq)))))))
noncomputable def T8:B4->Option XR:=Zv NG Rr
noncomputable abbrev Sav:Stmt:=top 35
noncomputable abbrev N_av:List Str:=["_law_wishes_here", "_law_change_here", "_law_found", "e"]
theorem Hav:NmF Sav N_av:=Ks (by decide +kernel)
noncomputable def WL:SM:=
 Us (US 2 (Up .none))
 (Us (K7 3 "DealError" (sX (YN 2 T8 (Ur (Uo 0) (Ur (Uo 1) (Uq)))) λd ρ=>match gN 2 d ρ with|some ρ'=>.nx ρ'|none=>.bad) (Uz (K1 Vu (Ur (Yr (UD (Uo 3) λd=>UB (Z8 "NoChange" d)) (W7 (UD (Uo 3) λd=>UB (Sj "NoAim" "NoWishes" d)))) (Uq)))))
 (Uz (Uo 2)))
noncomputable def YJ:B4->B9:=UY N_av WL
noncomputable abbrev Sao:Stmt:=top 28
noncomputable abbrev N_ao:List Str:=["_law_thing"]
theorem Hao:NmF Sao N_ao:=Ks (by decide +kernel)
noncomputable def g_ao:SM:=
 Uz (Yr (UA (λd=>.bool (UU d "int")) (Uo 0)) (W7 (UA (λd=>.bool (UU d "bool")) (Uo 0))))
noncomputable def Zy:B4->B9:=UY N_ao g_ao
noncomputable abbrev Sau:Stmt:=top 34
noncomputable abbrev N_au:List Str:=["_law_wishes_here", "_law_ranks_here", "_law_row"]
theorem Hau:NmF Sau N_au:=Ks (by decide +kernel)
noncomputable def P7:SM:=
 sIf (mOr (UR (Ko (UA (λd=>.bool (UU d "list")) (Uo 2)))) (UR (Ko (K1 KO (Ur (UA J9 (Zq (Kt (Uo 2)) 1 (gN 3) (Up B2) (UC 1 Zy (Ur (Uo 3) (Uq))))) (Uq))))))
 (Uz (Up (.bool B3)))
 (sNx)
noncomputable def P6:SM:=
 Us (sIf (UR (Ko (UA (λd=>.bool (UU d "list")) (Uo 1))))
 (Uz (Up (.bool B3)))
 (sNx))
 (Kf (Kt (Uo 1)) (gN 2) P7)
noncomputable def WM:SM:=
 Us (sIf (mOr (UR (Ko (UA (λd=>.bool (UU d "tuple")) (Uo 0)))) (mOr (Uw oNe (Ke 0) (Up (.int 2))) (UR (Ko (UA (λd=>.bool (UU d "list")) (Ux 0 (Up (.int 0))))))))
 (Uz (Up (.bool B3)))
 (sNx))
 (Us (sIf (mOr (UR (Ko (UA (λd=>.bool (UU d "list")) (Ux 0 (Up (.int 1)))))) (UR (Ko (K1 KO (Ur (UA J9 (Zq (Kt (Ux 0 (Up (.int 0)))) 1 (gN 3) (Up B2) (UC 1 Zy (Ur (Uo 3) (Uq))))) (Uq))))))
 (Uz (Up (.bool B3)))
 (sNx))
 (Us (Kf (Kt (Ux 0 (Up (.int 1)))) (gN 1) P6)
 (Uz (Up (.bool B2)))))
noncomputable def XI:B4->B9:=UY N_au WM
noncomputable abbrev Saf:Stmt:=top 16
noncomputable abbrev N_af:List Str:=["lists", "things", "asker", "ranks"]
theorem Haf:NmF Saf N_af:=Ks (by decide +kernel)
noncomputable def P5:SM:=
 sIf (UR (Ko (UC 2 ZP (Ur (Uo 3) (Ur (Uo 1) (Uq))))))
 (YZ)
 (sNx)
noncomputable def WX:SM:=
 Us (sIf (mOr (UR (Ko (UA (λd=>.bool (UU d "list")) (Uo 0)))) (UR (Xg (oIB λi j=>decide (i<=j)) (oIB λi j=>decide (i<=j)) (Up (.int 1)) (Ke 0) (Up (.int 7)))))
 (YZ)
 (sNx))
 (Kf (We (Ur (Uo 0) (Uq))) (gT 2 (gNC (gN 2) (gNC (gN 3) (gN0)))) P5)
noncomputable def XU:B4->B9:=UY N_af WX
noncomputable abbrev Sac:Stmt:=top 13
noncomputable abbrev N_ac:List Str:=["copies", "number", "many"]
theorem Hac:NmF Sac N_ac:=Ks (by decide +kernel)
noncomputable def P4:SM:=
 sIf (UR (Ko (UC 2 KA (Ur (Uo 2) (Ur (Uw UG (Up (.int 7)) (Up (.int 1))) (Uq))))))
 (YZ)
 (sNx)
noncomputable def WY:SM:=
 Us (sIf (mOr (UR (Ko (UA (λd=>.bool (UU d "list")) (Uo 0)))) (UR (Xg (oIB λi j=>decide (i<=j)) (oIB λi j=>decide (i<=j)) (Up (.int 1)) (Ke 0) (Up (.int 6)))))
 (YZ)
 (sNx))
 (Kf (We (Ur (Uo 0) (Uq))) (gT 2 (gNC (gN 1) (gNC (gN 2) (gN0)))) P4)
noncomputable def XV:B4->B9:=UY N_ac WY
noncomputable abbrev Sag:Stmt:=top 17
noncomputable abbrev N_ag:List Str:=["thing", "copies", "lists"]
theorem Hag:NmF Sag N_ag:=Ks (by decide +kernel)
noncomputable def WW:SM:=
 Us (sIf (mOr (UR (Ko (UA (λd=>.bool (UU d "tuple")) (Uo 0)))) (Uw oNe (Ke 0) (Up (.int 2))))
 (YZ)
 (sNx))
 (Us (KM (Uo 0) (gT 2 (gNC (gN 1) (gNC (gN 2) (gN0)))))
 (Us (Wg (UC 1 XV (Ur (Uo 1) (Uq))))
 (Wg (UC 2 XU (Ur (Uo 2) (Ur (Ke 1) (Uq)))))))
noncomputable def XT:B4->B9:=UY N_ag WW
noncomputable abbrev NF:Stmt:=top 23
noncomputable abbrev NE:List Str:=["wishes", "change", "told"]
theorem Nt:NmF NF NE:=Ks (by decide +kernel)
noncomputable def T7:SM:=
 Us (Wg (UC 1 XT (Ur (Uo 0) (Uq))))
 (Us (sIf (UR (Ko (UC 2 Yn (Ur (Uo 0) (Ur (Uo 1) (Uq))))))
 (YZ)
 (sNx))
 (Us (US 2 (UC 2 Ym (Ur (Uo 0) (Ur (Uo 1) (Uq)))))
 (Us (Wo "NoWishes" (sX (YN 1 Wd (Ur (Uo 2) (Uq))) λ_ ρ=>.nx ρ) (YZ))
 (sNx))))
noncomputable abbrev CC:M D:=
 UC 1 Vr (Ur (Uo 2) (Uq))
noncomputable def T6:B4->B9:=YM NE T7 CC
noncomputable abbrev NW:Stmt:=top 35
noncomputable abbrev NV:List Str:=["_law_wishes_here", "_law_change_here", "_law_found", "e"]
theorem NU:NmF NW NV:=Ks (by decide +kernel)
noncomputable def Sb:SM:=
 Us (US 2 (Up .none))
 (Us (K7 3 "DealError" (Y7 2 (.tup [.lst .leaf,.lst (.lst (.lst .leaf))]) (UC 2 T6 (Ur (Uo 0) (Ur (Uo 1) (Uq))))) (YZ))
 (sNx))
noncomputable def BM:M D:=
 Vy 2 (.tup [.lst .leaf,.lst (.lst (.lst .leaf))])
noncomputable def V1:B4->B9:=YM NV Sb BM
noncomputable abbrev Saw:Stmt:=top 36
noncomputable abbrev N_aw:List Str:=["_law_wishes_here", "_law_change_here", "_law_handed", "_law_kept", "_law_found", "_law_due", "_law_ranks_here", "_law_row"]
theorem Haw:NmF Saw N_aw:=Ks (by decide +kernel)
noncomputable def WK:SM:=
 Us (US 2 (UC 1 Yj (Ur (Uo 0) (Uq))))
 (Us (US 3 (K1 YS (Ur (Uo 1) (Uq))))
 (Us (sOr (Y7 4 (.tup [.lst .leaf,.lst (.lst (.lst .leaf))]) (UC 2 V1 (Ur (Uo 2) (Ur (Uo 1) (Uq))))) (US 4 (UC 2 YJ (Ur (Uo 2) (Ur (Uo 1) (Uq))))))
 (Us (sIf (Uw Z7 (K1 YS (Ur (Uo 1) (Uq))) (Uo 3))
 (Uz (Up (.bool B3)))
 (sNx))
 (Us (sIf (UR (Ko (UC 2 Yl (Ur (Uo 0) (Ur (Uo 1) (Uq))))))
 (Uz (VM (Yr (UA Ua (Kh oEq 4 (Up (.int 1)))) (Yr (UC 1 Zy (Ur (Uo 4) (Uq))) (UA Ua (Kh oEq 2 (Uo 0)))))))
 (sNx))
 (Us (US 5 (UC 2 Yk (Ur (Uo 0) (Ur (Uo 1) (Uq)))))
 (Us (sIf (Wn (mOr (UR (Ko (UC 1 XI (Ur (Uo 4) (Uq))))) (Kh oNe 4 (Uo 5))))
 (Uz (Up (.bool B3)))
 (sNx))
 (Us (W4 4 [1,0] 9)
 (Us (sIf (Wn (Uw oNe (KE (Ux 4 (Up (.int 1))) (UD (Up (.int 1)) λx=>UB (Zz x)) (Up B0)) (KE (Ux 5 (Up (.int 1))) (UD (Up (.int 1)) λx=>UB (Zz x)) (Up B0))))
 (Uz (Up (.bool B3)))
 (sNx))
 (Us (Ve 4 (.tup [.lst .leaf,.lst (.lst (.lst .leaf))]) ([]++(6::((7::[])++[]))) (kC kA (kF (kC (kF kA) kA))) 8)
 (Us (sIf (mOr (Kh oNe 2 (Uo 0)) (Uw Z7 (K1 YS (Ur (Uo 1) (Uq))) (Uo 3)))
 (Uz (Up (.bool B3)))
 (sNx))
 (Uz (UA Ua (Uw oEq (UC 2 YJ (Ur (Uo 2) (Ur (Uo 1) (Uq)))) (Uo 5))))))))))))))
noncomputable def XH:B4->B9:=UY N_aw WK
noncomputable abbrev Sal:Stmt:=top 25
noncomputable abbrev N_al:List Str:=["_law_script", "_law_k"]
theorem Hal:NmF Sal N_al:=Ks (by decide +kernel)
noncomputable def Xs:SM:=
 Us (sIf (Kh (oIB λi j=>decide (i<j)) 1 (Ke 0))
 (Uz (Ux 0 (Uo 1)))
 (sNx))
 (Uz (Up (.int 0)))
noncomputable def ZO:B4->B9:=UY N_al Xs
noncomputable abbrev Sap:Stmt:=top 29
noncomputable abbrev N_ap:List Str:=["_law_places", "_law_things", "_law_ranks_here", "_law_rank", "_law_row"]
theorem Hap:NmF Sap N_ap:=Ks (by decide +kernel)
noncomputable def P3:SM:=
 Us (KH 4 (Zq (Wf (Ur (Uo 1) (Uq))) 1 (gN 5) (Uw oEq (Ux 0 (Uo 5)) (Uo 3)) (Uo 5)))
 (sIf (Kh oNe 4 (U2 (Uq)))
 (KN 2 (Uo 4))
 (sNx))
noncomputable def WR:SM:=
 Us (KH 2 (UD (Uq) λxs=>if xs.length<=1000000 then Up xs else λ_=>.bad))
 (Us (Kf (Vb (Ur (Up (.int 1)) (Ur (Up (.int 6)) (Uq)))) (gN 3) P3)
 (Uz (Uo 2)))
noncomputable def XN:B4->B9:=UY N_ap WR
noncomputable abbrev Sam:Stmt:=top 26
noncomputable abbrev N_am:List Str:=["_law_cell", "_law_salt", "_law_sizes", "_law_number", "_law_left", "_law_found", "_law_k", "_law_one"]
theorem Ham:NmF Sam N_am:=Ks (by decide +kernel)
noncomputable def SL:SM:=
 sIf (Zk (Kh (oIB λi j=>decide (j<=i)) 3 (Uw YE (Up (.int 10)) (Up (.int 18)))) (Kh (oIB λi j=>decide (j<i)) 4 (Up (.int 0))))
 (Us (KN 5 (Uw Ky (Uo 4) (Ux 2 (Uo 6))))
 (US 4 (Uw Z9 (Uo 4) (Ux 2 (Uo 6)))))
 (Us (US 7 (Uw Ky (Uw UG (Uw UG (Uw UG (Uo 3) (Uw U5 (Up (.int 7919)) (Uo 1))) (Uw U5 (Uw U5 (Up (.int 101)) (Uo 6)) (Uo 6))) (Uo 6)) (Up (.int 2147483647))))
 (Us (US 7 (Uw Ky (Uw U5 (Uo 7) (Up (.int 48271))) (Up (.int 2147483647))))
 (Us (US 7 (Uw Ky (Uw U5 (Uw Ky (Uw U5 (Uo 7) (Uo 7)) (Up (.int 2147483629))) (Up (.int 48271))) (Up (.int 2147483647))))
 (KN 5 (Uw Ky (Uw Z9 (Uo 7) (Up (.int 16))) (Ux 2 (Uo 6)))))))
noncomputable def WT:SM:=
 Us (US 3 (K1 VF (Ur (Uo 0) (Ur (Uw WD (K9 (Up (.int 1))) (Uo 0)) (Uq)))))
 (Us (US 4 (Uo 3))
 (Us (KH 5 (UD (Uq) λxs=>if xs.length<=1000000 then Up xs else λ_=>.bad))
 (Us (Kf (Wf (Ur (Ke 2) (Uq))) (gN 6) SL)
 (Uz (Uo 5)))))
noncomputable def ZN:B4->B9:=UY N_am WT
noncomputable abbrev Saq:Stmt:=top 30
noncomputable abbrev N_aq:List Str:=["_law_wishes_here", "_law_cell", "_law_salt", "_law_copies", "_law_lists", "_law_digits", "_law_asker", "_law_ranks_here"]
theorem Haq:NmF Saq N_aq:=Ks (by decide +kernel)
noncomputable def WQ:SM:=
 Us (KM (Uo 0) (gT 2 (gNC (gN 3) (gNC (gN 4) (gN0)))))
 (Us (US 5 (UC 3 ZN (Ur (Uo 1) (Ur (Uo 2) (Ur (Uw UG (Uw UG (U2 (Ur (Up (.int 6)) (Ur (Up (.int 8)) (Ur (Up (.int 7)) (Ur (Up (.int 10)) (Ur (Up (.int 9)) (Uq))))))) (Uw U5 (U2 (Ur (Up (.int 6)) (Uq))) (Up (.int 7)))) (U2 (Ur (Up (.int 2)) (Uq)))) (Uq))))))
 (Us (US 6 (Uw Ky (Ux 5 (Up (.int 1))) (Uw UG (Ke 4) (Up (.int 1)))))
 (Us (US 7 (UC 2 XN (Ur (KE (Uo 5) (UD (Up (.int 5)) λx=>UB (Zz x)) (Up B0)) (Ur (Uw UG (Ke 3) (K1 Vu (Ur (UA Ua (Uw oEq (Ux 5 (Up (.int 4))) (Up (.int 0)))) (Uq)))) (Uq)))))
 (Us (sIf (Uw oEq (Ux 5 (Up (.int 12))) (Up (.int 1)))
 (KH 7 (Zq (Kt (Uo 7)) 1 (gN 8) (Up B2) (Yc (Uo 8) (Up B0) (Up B0) (UD (K9 (Up (.int 1))) λx=>UB (Zz x)))))
 (sNx))
 (Us (sIf (Uw (oIB λi j=>decide (i<j)) (Ux 5 (Up (.int 0))) (Up (.int 2)))
 (Uz (U1 (Ur (Up (.str "list")) (Ur (Uo 6) (Ur (Uo 7) (Uq))))))
 (sNx))
 (Us (sIf (Uw oEq (Ux 5 (Up (.int 0))) (Up (.int 2)))
 (Uz (U1 (Ur (Up (.str "copies")) (Ur (Uw Ky (Ux 5 (Up (.int 2))) (Uw UG (Ke 3) (Up (.int 1)))) (Ur (Ux 5 (Up (.int 3))) (Uq))))))
 (sNx))
 (Us (sIf (Uw oEq (Ux 5 (Up (.int 0))) (Up (.int 3)))
 (Uz (U1 (Ur (Up (.str "come")) (Ur (Uo 7) (Uq)))))
 (sNx))
 (Us (sIf (Uw oEq (Ux 5 (Up (.int 0))) (Up (.int 4)))
 (Uz (U1 (Ur (Up (.str "go")) (Ur (Uo 6) (Uq)))))
 (sNx))
 (Uz (U1 (Ur (Up (.str "thing")) (Ur (Ux 5 (Up (.int 3))) (Uq)))))))))))))
noncomputable def XJ:B4->B9:=UY N_aq WQ
noncomputable abbrev San:Stmt:=top 27
noncomputable abbrev N_an:List Str:=["_law_script", "_law_at", "_law_most_things", "_law_most_askers", "_law_most_ranks", "_law_sizes", "_law_digits", "_law_copies", "_law_lists", "_law_asker", "_law_cell", "_law_places", "_law_ranks_here", "_law_rank", "_law_row"]
theorem Han:NmF San N_an:=Ks (by decide +kernel)
noncomputable def SK:SM:=
 Us (KH 14 (Zq (Wf (Ur (Ke 7) (Uq))) 1 (gN 15) (Uw oEq (Ux 11 (Uo 15)) (Uo 13)) (Uo 15)))
 (sIf (Kh oNe 14 (U2 (Uq)))
 (KN 12 (Uw oIx (U2 (Ur (Uo 14) (Ur (Yc (Uo 14) (Up B0) (Up B0) (UD (K9 (Up (.int 1))) λx=>UB (Zz x))) (Uq)))) (Ux 11 (K9 (Up (.int 1))))))
 (sNx))
noncomputable def SJ:SM:=
 Us (US 10 (UC 2 ZO (Ur (Uo 0) (Ur (Uw UG (Uw UG (Uo 1) (Up (.int 1))) (Uo 9)) (Uq)))))
 (Us (US 5 (Uw UG (Uw U5 (U2 (Ur (Uw UG (Uo 4) (Up (.int 1))) (Uq))) (Uo 2)) (U2 (Ur (Up (.int 2)) (Uq)))))
 (Us (US 11 (UC 3 ZN (Ur (Uo 10) (Ur (Uw UG (Uw UG (Uw U5 (Up (.int 11)) (Uo 1)) (Uw U5 (Up (.int 3)) (Uo 9))) (Up (.int 1))) (Ur (Uo 5) (Uq))))))
 (Us (KH 12 (UD (Uq) λxs=>if xs.length<=1000000 then Up xs else λ_=>.bad))
 (Us (Kf (Vb (Ur (Up (.int 1)) (Ur (Uw UG (Uo 4) (Up (.int 1))) (Uq)))) (gN 13) SK)
 (KN 8 (Uo 12))))))
noncomputable def WS:SM:=
 Us (US 5 (Uw UG (U2 (Ur (Uo 2) (Ur (Uo 3) (Uq)))) (Uw U5 (U2 (Ur (Up (.int 11)) (Uq))) (Uo 2))))
 (Us (US 6 (UC 3 ZN (Ur (UC 2 ZO (Ur (Uo 0) (Ur (Uo 1) (Uq)))) (Ur (Uo 1) (Ur (Uo 5) (Uq))))))
 (Us (KH 7 (Zq (Kt (KE (Uo 6) (UD (Up (.int 2)) λx=>UB (Zz x)) (UD (Uw UG (Up (.int 3)) (Ux 6 (Up (.int 0)))) λx=>UB (Zz x)))) 1 (gN 15) (Up B2) (Uw oIx (U2 (Ur (Up (.int 1)) (Ur (Up (.int 1)) (Ur (Up (.int 2)) (Ur (Up (.int 0)) (Ur (Up (.int 3)) (Ur (Up (.int 7)) (Ur (Up (.int 1)) (Ur (Up (.int 4)) (Ur (Up (.int 5)) (Ur (Up (.int 6)) (Ur (Up (.int 1)) (Uq))))))))))))) (Uo 15))))
 (Us (KH 8 (UD (Uq) λxs=>if xs.length<=1000000 then Up xs else λ_=>.bad))
 (Us (Kf (Wf (Ur (Uw UG (Up (.int 1)) (Ux 6 (Up (.int 1)))) (Uq))) (gN 9) SJ)
 (Uz (U1 (Ur (Uo 7) (Ur (Uo 8) (Uq)))))))))
noncomputable def XQ:B4->B9:=UY N_an WS
noncomputable abbrev Sax:Stmt:=top 37
noncomputable abbrev N_ax:List Str:=["_law_script", "_law_wishes_here", "_law_at", "_law_change_here"]
theorem Hax:NmF Sax N_ax:=Ks (by decide +kernel)
noncomputable def P2:SM:=
 Us (US 3 (UC 3 XJ (Ur (Uo 1) (Ur (UC 2 ZO (Ur (Uo 0) (Ur (Uo 2) (Uq)))) (Ur (Uo 2) (Uq))))))
 (Us (sIf (UR (Ko (UC 2 XH (Ur (Uo 1) (Ur (Uo 3) (Uq))))))
 (Uz (Up (.bool B3)))
 (sNx))
 (sIf (Ko (UC 2 Yl (Ur (Uo 1) (Ur (Uo 3) (Uq)))))
 (US 1 (UC 1 Yj (Ur (UC 2 Yk (Ur (Uo 1) (Ur (Uo 3) (Uq)))) (Uq))))
 (sNx)))
noncomputable def WJ:SM:=
 Us (US 1 (UC 5 XQ (Ur (Uo 0) (Ur (Up (.int 0)) (Ur (Up (.int 6)) (Ur (Up (.int 7)) (Ur (Up (.int 5)) (Uq))))))))
 (Us (Kf (Vb (Ur (Up (.int 8)) (Ur (K1 VF (Ur (Up (.int 9)) (Ur (K1 Tn (Ur (Up (.int 63)) (Ur (Ke 0) (Uq)))) (Uq)))) (Uq)))) (gN 2) P2)
 (Uz (Up (.bool B2))))
noncomputable def XG:B4->B9:=UY N_ax WJ
set_option hygiene false in
local macro_rules | `(tactic| walk_at "g")=>`(tactic| first | exact gA nm rfl | exact Lx rfl)
set_option hygiene false in
local macro_rules | `(tactic| walk_at "v")=>`(tactic| first | exact pq nm _ | exact pvb _)
set_option hygiene false in
local macro_rules | `(tactic| walk_at "b")=>`(tactic| first | ((with_reducible show OpB _ (compareOp CmpOp.Eq) _);first | exact B_eq hu) | ((with_reducible show OpB _ (compareOp CmpOp.NotEq) _);first | exact B_ne hu | exact MN) | ((with_reducible show OpB _ (compareOp CmpOp.Lt) _);first | exact B_lt) | ((with_reducible show OpB _ (compareOp CmpOp.LtE) _);first | exact B_le) | ((with_reducible show OpB _ (compareOp CmpOp.Gt) _);first | exact B_gt) | ((with_reducible show OpB _ (compareOp CmpOp.GtE) _);first | exact B_ge) | ((with_reducible show OpB _ (compareOp CmpOp.In) _);first | exact B_in hu))
set_option hygiene false in
local macro_rules | `(tactic| walk_at "m")=>`(tactic| first | exact HS _ | exact rfl)
set_option hygiene false in
local macro_rules | `(tactic| walk_at "k")=>`(tactic| first | exact DO | exact D6)
set_option hygiene false in
local macro_rules | `(tactic| walk_at "w")=>`(tactic| first | exact PassesOwn.never | exact CO)
set_option hygiene false in
local macro_rules | `(tactic| walk_at "x")=>`(tactic| first | assumption | exact DB)
set_option hygiene false in
local macro_rules | `(tactic| walk_at "c")=>`(tactic| first | exact T.c_MOST_ASKERS | exact T.c_MOST_COPIES | exact T.c_MOST_RANKS | exact T.c_MOST_THINGS)
set_option hygiene false in
local macro_rules | `(tactic| walk_at "ck")=>`(tactic| first | exact T.x_DealError | exact T.x_NoAim | exact T.x_NoChange | exact T.x_NoWishes)
set_option hygiene false in
local macro_rules | `(tactic| walk_at "e")=>`(tactic| first | ((with_reducible show PE _ (Expr.Name _ _) _);first | exact Pn (pq nm _) | exact Pn (pvb _) | exact M4 (by walk_at "g") (by walk_at "c")) | ((with_reducible show PE _ (Expr.Constant _ _ _) _);first | exact Gr | exact FZ | exact Gq | exact F1) | ((with_reducible show PE _ (Expr.Subscript _ _ _) _);first | refine Ee (by walk_at "v") ?_ (fun _ _=>rfl) | refine Bl ?_ ?_ ?_ | refine GH ?_ ?_ ?_ ?_ | refine LM ?_ ?_ (fun _ _=>rfl)) | ((with_reducible show PE _ (Expr.BinOp _ Operator.Add _ _) _);first | refine Wi RQ ?_ ?_) | ((with_reducible show PE _ (Expr.BinOp _ Operator.Sub _ _) _);first | refine Wi Mm ?_ ?_) | ((with_reducible show PE _ (Expr.BinOp _ Operator.Mult _ _) _);first | refine Wi RP ?_ ?_) | ((with_reducible show PE _ (Expr.BinOp _ Operator.Mod _ _) _);first | refine Wi Lf ?_ ?_) | ((with_reducible show PE _ (Expr.BinOp _ Operator.FloorDiv _ _) _);first | refine Wi Le ?_ ?_) | ((with_reducible show PE _ (Expr.BinOp _ Operator.Pow _ _) _);first | refine Wi Ld ?_ ?_) | ((with_reducible show PE _ (Expr.Call (Expr.Name "len" _) _ _ _) _);first | refine DS (by walk_at "g") T.b_len (by walk_at "v") | refine Bk rfl (by walk_at "g") T.b_len (by walk_at "g") T.b_set ?_) | ((with_reducible show PE _ (Expr.Call (Expr.Name "max" _) _ _ _) _);first | refine VY (LK rfl) (by walk_at "g") T.b_max boot_max ?_) | ((with_reducible show PE _ (Expr.Call (Expr.Name "min" _) _ _ _) _);first | refine VY (LJ rfl) (by walk_at "g") T.b_min boot_min ?_) | ((with_reducible show PE _ (Expr.Call (Expr.Name "sum" _) _ _ _) _);first | refine VY (Hb rfl) (by walk_at "g") T.b_sum PyProof.Rows.boot_sum ?_) | ((with_reducible show PE _ (Expr.Call (Expr.Name "all" _) _ _ _) _);first | refine VY (M6 rfl) (by walk_at "g") T.b_all PyProof.Rows.boot_all ?_) | ((with_reducible show PE _ (Expr.Call (Expr.Name "repr" _) _ _ _) _);first | refine VY (Fu hu hgd T.sm) (by walk_at "g") T.b_repr CJ ?_) | ((with_reducible show PE _ (Expr.Call (Expr.Name "int" _) _ _ _) _);first | refine C8 Hc (by walk_at "g") T.b_int PyProof.Rows.boot_int ?_) | ((with_reducible show PE _ (Expr.Call (Expr.Name "isinstance" _) [_,Expr.Name "int" _] _ _) _);first | refine V4 (c := "int") (by decide) (by walk_at "g") T.b_isinstance (by walk_at "g") T.b_int (by decide +kernel) ?_ (by decide) (by decide)) | ((with_reducible show PE _ (Expr.Call (Expr.Name "isinstance" _) [_,Expr.Name "list" _] _ _) _);first | refine V4 (c := "list") (by decide) (by walk_at "g") T.b_isinstance (by walk_at "g") T.b_list (by decide +kernel) ?_ (by decide) (by decide)) | ((with_reducible show PE _ (Expr.Call (Expr.Name "isinstance" _) [_,Expr.Name "tuple" _] _ _) _);first | refine V4 (c := "tuple") (by decide) (by walk_at "g") T.b_isinstance (by walk_at "g") T.b_tuple (by decide +kernel) ?_ (by decide) (by decide)) | ((with_reducible show PE _ (Expr.Call (Expr.Name "isinstance" _) [_,Expr.Name "bool" _] _ _) _);first | refine V4 (c := "bool") (by decide) (by walk_at "g") T.b_isinstance (by walk_at "g") T.b_bool (by decide +kernel) ?_ (by decide) (by decide)) | ((with_reducible show PE _ (Expr.Call (Expr.Name "isinstance" _) [_,Expr.Name "str" _] _ _) _);first | refine V4 (c := "str") (by decide) (by walk_at "g") T.b_isinstance (by walk_at "g") T.b_str (by decide +kernel) ?_ (by decide) (by decide)) | ((with_reducible show PE _ (Expr.Call (Expr.Name "isinstance" _) _ _ _) _);first | ((with_reducible show PE _ (Expr.Call (Expr.Name "isinstance" _) [_,Expr.Tuple _ _ _] _ _) _);refine EW (by walk_at "ck") (by walk_at "ck") (by walk_at "g") T.b_isinstance (by walk_at "g") (by walk_at "g") ?_) | refine Gy (by walk_at "ck") (by walk_at "g") T.b_isinstance (by walk_at "g") ?_) | ((with_reducible show PE _ (Expr.Call (Expr.Name _ _) _ _ _) _);first | refine pdf (by assumption) hr (by walk_at "g") ?_) | ((with_reducible show PE _ (Expr.Call _ _ _ _) (tD _ _ _ (VC _ _)));first | refine EV (by assumption) (by decide) (by walk_at "g") ?_) | ((with_reducible show PE _ (Expr.Call _ _ _ _) _);first | refine Fl (by walk_at "v") ?_) | refine On ?_ | refine Oc ?_ | ((with_reducible show PE _ (Expr.Compare _ _ _ _) _);first | refine GI (by walk_at "b") (by walk_at "v") ?_ (by walk_at "m") | refine FQ (by walk_at "b") ?_ ?_ (by walk_at "m") | refine CL (by walk_at "b") (by walk_at "b") ?_ ?_ ?_) | refine GL ?_ | refine GQ ?_ | refine Eg ?_ | refine Ei ?_ ?_ | refine Eh ?_ | refine Es fun B' G'=>?_)
set_option hygiene false in
local macro_rules | `(tactic| walk_at "t")=>`(tactic| first | ((with_reducible show PT _ _ (tBo _ _ _ (Wn _)));refine Ev fun B' G'=>?_) | ((with_reducible show PT _ (Expr.Compare _ _ _ _) _);first | refine GJ (by walk_at "b") (by walk_at "v") ?_ (by walk_at "m") | refine FR (by walk_at "b") ?_ ?_ (by walk_at "m") | refine CM (by walk_at "b") (by walk_at "b") ?_ ?_ ?_) | ((with_reducible show PT _ (Expr.BoolOp _ _ _) _);refine PW.pt ?_) | refine Ek ?_ | refine Ej ?_)
set_option hygiene false in
local macro_rules | `(tactic| walk_at "l")=>`(tactic| first | refine Lm nm (by walk_at "k") rfl ?_ ?_ (by decide +kernel) | refine D3 (by walk_at "g") T.b_list (by walk_at "v") | refine EH (by walk_at "g") T.b_list ?_ | refine Oj ?_)
set_option hygiene false in
local macro_rules | `(tactic| walk_at "i")=>`(tactic| first | refine C6 (by walk_at "g") T.b_range ?_ | refine C5 (by walk_at "g") T.b_range ?_ | refine GR (by walk_at "g") T.b_enumerate ?_ | refine Lu ?_)
set_option hygiene false in
local macro_rules | `(tactic| walk_at "s")=>`(tactic| first | ((with_reducible show PS _ _ (tS _ _ _ _ (sOr _ _)));refine Li ?_ ?_) | ((with_reducible show PS _ _ (tS _ _ _ _ (W4 _ _ _)));refine GY (by first | exact X4 (pq nm _) | exact VP (path:=[]) (X4 (pq nm _)) | exact VP (path:=[_]) (VP (path:=[]) (X4 (pq nm _))))) | ((with_reducible show PS _ (Stmt.Assign [Expr.Name _ _] _ _) _);first | refine aSet nm ?_ | refine Ll nm (by walk_at "k") rfl ?_ ?_ (by decide +kernel) | refine RU nm ?_ | refine Ln nm ?_ | refine Lo nm ?_) | ((with_reducible show PS _ (Stmt.Assign _ _ _) _);first | refine LC ?_ ?_ | refine GK ?_ (by walk_at "v") ?_) | refine Lb ?_ ?_ ?_ | refine LG ?_ | refine Lz (by walk_at "w") rfl ?_ ?_ ?_ | ((with_reducible show PS _ (Stmt.Expr _ _) _);first | refine LA (by walk_at "v") ?_ | refine Ey ?_ | refine GU ?_) | exact DQ | refine EA (by assumption) hr rfl (by walk_at "x") (by walk_at "g") ?_ | refine L9 (by walk_at "ck") (by walk_at "g") (nq nm) rfl rfl (fun KX' W pn hw=>?_) (fun a=>?_) | ((with_reducible show PS _ _ (tS _ _ _ _ (X0 _ _ _)));refine Fa (by walk_at "ck") (by assumption) rfl hr Cd (by walk_at "g") (by walk_at "g") (fun KX' W pn hw=>?_)) | refine Gz (by walk_at "ck") (by walk_at "g") (fun KX' W pn hw=>?_) (fun a=>?_))
set_option hygiene false in
local macro_rules | `(tactic| walk_at "d")=>`(tactic| (have hu:=hr.units;have hgd:=hr.gd;repeat' (first | ((with_reducible show PSs _ (K5 _) _);show PSs _ (_ :: _) _) | ((with_reducible show PSs _ (Stmt.Assign _ _ _ :: _ :: _) _);generalize hS:(_ :: _:List Stmt)=sts;refine Ep hS ?_ ?_) | ((with_reducible show PS _ (Stmt.Assign [Expr.Name _ _] (Expr.List _ _) _) (tS _ _ _ _ (KH _ _)));generalize hS:Stmt.Assign _ _ _=st;refine LY hS nm ?_) | ((with_reducible show PS _ (Stmt.Assign [Expr.Name _ _] (Expr.BinOp _ _ _ _) _) (tS _ _ _ _ (US _ _)));generalize hS:Stmt.Assign _ _ _=st;refine Lk hS nm ?_) | ((with_reducible show PE _ (Expr.List _ _) _);generalize hS:Expr.List _ _=e;first | refine Eo hS ?_ | refine En hS ?_) | ((with_reducible show PE _ (Expr.Tuple _ _ _) _);generalize hS:Expr.Tuple _ _ _=e;refine Da hS ?_) | ((with_reducible show PE _ (Expr.BinOp _ Operator.Add _ _) (tD _ _ _ _));generalize hS:Expr.BinOp _ _ _ _=e;refine Pe RQ hS ?_ ?_) | ((with_reducible show PE _ (Expr.BinOp _ Operator.Mult _ _) (tD _ _ _ _));generalize hS:Expr.BinOp _ _ _ _=e;refine Pe RP hS ?_ ?_) | ((with_reducible show PA _ (_ :: _) (tDs _ _ _ _));generalize hS:(_ :: _:List Expr)=es;refine Ci hS ?_ ?_) | ((with_reducible show PSs _ _ (tS _ _ _ _ (Us (Ve _ _ _ _ _) _)));refine E5 (top:=4) ?_) | ((with_reducible show PE _ _ (tD _ _ _ _));first | walk_at "e") | ((with_reducible show PA _ _ (tDs _ _ _ _));first | refine Oy ?_ ?_ | exact Ef) | ((with_reducible show PSs _ _ (tS _ _ _ _ _));first | refine Om ?_ ?_ | refine LH ?_ | exact LI | exact sD_nevers) | ((with_reducible show PS _ _ _);walk_at "s") | ((with_reducible show PT _ _ _);walk_at "t") | ((with_reducible show PW _ _ _);first | refine El ?_ ?_ | refine LN ?_ ?_ | refine Du ?_ | refine Em ?_) | ((with_reducible show PE _ _ (tL _ _ _ _));walk_at "l") | ((with_reducible show PI _ _ _ _);walk_at "i") | ((with_reducible show PG _ _ _);first | exact Lp nm | exact LZ | refine LD rfl ?_) | ((with_reducible show PGs _ _ _);first | exact LF | refine GT ?_ ?_) | ((with_reducible show PO _ _ _);first | exact Dt | refine DT ?_) | ((with_reducible show Zx _ _ _ _ _ _ _ _ _);refine fun cl C s0 H0 ex=>⟨fun B' G'=>?_,fun B' G'=>?_,?_⟩) | ((with_reducible show Zn _ _ _);first | exact GN | refine GM ?_) | ((with_reducible show Vw _ _ _ _ _ _);first | refine D8 rfl rfl rfl fun B' G'=>?_ | refine D7 rfl rfl rfl rfl (fun _=>rfl) (fun B' G'=>?_) (fun B' G'=>?_) (fun B' G'=>?_) ?_) | ((with_reducible show PE _ _ (tX _ _ _ _ _));refine Ez (by assumption) hr (by walk_at "x") (by walk_at "g") ?_) | ((with_reducible show PE _ _ (tT _ _ _ _ (Yz _ _ _ _ _)));first | refine LW nm rfl ?_ ?_ (by decide +kernel) | refine Fj rfl ?_ ?_ (by decide +kernel)) | ((with_reducible show Vz _ _ _ _ _ _ _ _ _ _);refine fun cl C s0 H0 ex=>⟨fun B' G'=>?_,fun B' G'=>?_,fun B' G'=>?_⟩) | ((with_reducible show PE _ _ (tT _ _ _ (Pat.lst Pat.leaf) (UA PyData.list _)));refine Fs ?_) | ((with_reducible show PA _ _ (tTs _ _ _ _ _));first | exact Fk | refine E9 ?_ fun B' G'=>?_) | ((with_reducible show PE _ (Expr.Tuple _ _ _) (tT _ _ _ _ (UD _ _)));refine E8 ?_) | ((with_reducible show PSs _ _ (Zu (U8 _ _ _ _) _));first | (with_reducible refine Fh ?_ ?_) | refine LV ?_ ?_) | ((with_reducible show PSs _ _ (U8 _ _ _ _));first | refine Fi ?_ | refine E6 ?_ ?_) | ((with_reducible show PS _ _ (U8 _ _ _ _));first | exact Pc (j:=4) (π:=[0]) (VP (k:=0) (X4 (pq nm 4))) VG | refine Pb (j:=4) (π:=[1]) (n:=1) (iy:=6) PassesOwn.never rfl nm.nd rfl (lq nm 6 rfl) (VP (k:=1) (X4 (pq nm 4))) ?_ | refine Pb (j:=6) (π:=[]) (n:=0) (iy:=7) PassesOwn.never rfl nm.nd rfl (lq nm 7 rfl) (X4 (pq nm 6)) ?_ | exact Pc (j:=7) (π:=[]) (X4 (pq nm 7)) VG | exact Ff (j:=6) (π:=[]) (m:=0) (X4 (pq nm 6)) Fg) | ((with_reducible show PE _ _ (tT _ _ _ _ _));first | refine Eu (by assumption) hr (by walk_at "g") ?_ | exact peT_nil | exact peT_dnil | refine peT_disp ?_) | ((with_reducible show PSs _ _ (tST _ _ _ _ _ _));first | refine Pf (Fe (by walk_at "v")) | refine Pf ?_ | refine Fq ?_ ?_))))
section
variable{P:JW}{w:World}{K:Frag}{mg:Str->B7}{base:Heap}{f:JX}{fd:JY}(T:Txt K mg)
include T
theorem Kar(F:Fun K "_law_good" "_law_good" Sar f fd):FnOk P w K mg base CX0 1 f fd ["_law_wishes_here", "_law_change_here"] (spD K 2 Yl):=
 okD (k:=0) (g:=WP) F (fq Har 2) Z λcdv A outer s H E B G0 hr=>
 have nm:=Har
 by walk_at "d"
theorem Kas(F:Fun K "_law_behind" "_law_behind" Sas f fd):FnOk P w K mg base CX0 1 f fd ["_law_wishes_here", "_law_change_here"] (spD K 2 Yk):=
 okD (k:=0) (g:=WO) F (fq Has 2) Z λcdv A outer s H E B G0 hr=>
 have nm:=Has
 by walk_at "d"
theorem Kat(F:Fun K "_law_copy" "_law_copy" Sat f fd):FnOk P w K mg base CX0 1 f fd ["_law_wishes_here"] (spD K 1 Yj):=
 okD (k:=0) (g:=WN) F (fq Hat 1) Z λcdv A outer s H E B G0 hr=>
 have nm:=Hat
 by walk_at "d"
theorem BX(F:Fun K "copied_wishes" "copied_wishes" N9 f fd):FnOk P w K mg base CX0 1 f fd ["wishes"] (spT K 1 (.tup [.lst .leaf,.lst (.lst (.lst .leaf))]) Vr):=
 okT (k:=0) (g:=RN) F (fq Mj 1) Z λcdv A outer s H E B G0 hr=>
 have nm:=Mj
 by walk_at "d"
theorem Kaj(F:Fun K "behind_change" "behind_change" Saj f fd):FnOk P w K mg base CX0 1 f fd ["wishes", "change"] (spD K 2 Ym):=
 okD (k:=0) (g:=WU) F (fq Haj 2) Z λcdv A outer s H E B G0 hr=>
 have nm:=Haj
 by walk_at "d"
theorem Kaa(F:Fun K "is_whole" "is_whole" Saa f fd):FnOk P w K mg base CX0 1 f fd ["thing"] (spD K 1 YK):=
 okD (k:=0) (g:=WZ) F (fq Haa 1) Z λcdv A outer s H E B G0 hr=>
 have nm:=Haa
 by walk_at "d"
theorem Kab(ja:Def P w K mg base "is_whole" 1 1 YK)(F:Fun K "is_number_below" "is_number_below" Sab f fd):FnOk P w K mg base CX0 2 f fd ["thing", "many"] (spD K 2 KA):=
 okD (k:=1) (g:=Xw) F (fq Hab 2) Z λcdv A outer s H E B G0 hr=>
 have nm:=Hab
 by walk_at "d"
theorem Kai(Aw:Def P w K mg base "is_number_below" 2 2 KA)(t_SIZES:XE w K mg "SIZES" SN)(F:Fun K "has_change_form" "has_change_form" Sai f fd):FnOk P w K mg base CX0 3 f fd ["wishes", "thing"] (spD K 2 Yn):=
 okD (k:=2) (g:=WV) F (fq Hai 2) Z λcdv A outer s H E B G0 hr=>
 have nm:=Hai
 by walk_at "d"
theorem Kad(Aw:Def P w K mg base "is_number_below" 2 2 KA)(F:Fun K "is_rank" "is_rank" Sad f fd):FnOk P w K mg base CX0 3 f fd ["thing", "things"] (spD K 2 ZQ):=
 okD (k:=2) (g:=Xv) F (fq Had 2) Z λcdv A outer s H E B G0 hr=>
 have nm:=Had
 by walk_at "d"
theorem Kae(q8:Def P w K mg base "is_rank" 3 2 ZQ)(F:Fun K "is_asker_list" "is_asker_list" Sae f fd):FnOk P w K mg base CX0 4 f fd ["thing", "things"] (spD K 2 ZP):=
 okD (k:=3) (g:=Xu) F (fq Hae 2) Z λcdv A outer s H E B G0 hr=>
 have nm:=Hae
 by walk_at "d"
theorem BW(A9:Def P w K mg base "is_asker_list" 4 2 ZP)(Ai:MkX P w K mg base "NoWishes" 2)(F:Fun K "look_at_lists" "look_at_lists" N7 f fd):FnOk P w K mg base (CX1 P w) 5 f fd ["lists", "things"] (spX K 2 T9):=
 okX (k:=4) (g:=RM) F (fq Mi 2) Z λcdv A outer s H E B G0 hr=>
 have nm:=Mi
 by walk_at "d"
theorem BU(Aw:Def P w K mg base "is_number_below" 2 2 KA)(Ai:MkX P w K mg base "NoWishes" 2)(F:Fun K "look_at_copies" "look_at_copies" Mh f fd):FnOk P w K mg base (CX1 P w) 4 f fd ["copies"] (spX K 1 Sa):=
 okX (k:=3) (g:=RL) F (fq Md 1) Z λcdv A outer s H E B G0 hr=>
 have nm:=Md
 by walk_at "d"
theorem BS(An:XX P w K mg base "look_at_lists" 5 2 T9)(Ak:XX P w K mg base "look_at_copies" 4 1 Sa)(Ai:MkX P w K mg base "NoWishes" 2)(F:Fun K "look_at_wishes" "look_at_wishes" Mb f fd):FnOk P w K mg base (CX1 P w) 6 f fd ["thing"] (spX K 1 Wd):=
 okX (k:=5) (g:=RK) F (fq Mc 1) Z λcdv A outer s H E B G0 hr=>
 have nm:=Mc
 by walk_at "d"
theorem Bw(qX:Def P w K mg base "copied_wishes" 1 1 F_ah)(A7:Def P w K mg base "behind_change" 1 2 Ym)(A8:Def P w K mg base "has_change_form" 3 2 Yn)(Ah:XX P w K mg base "look_at_wishes" 6 1 Wd)(Aq:MkX P w K mg base "NoChange" 1)(h_NoChange:MkH P w K mg base "NoChange")(F:Fun K "changed" "changed" NH f fd):FnOk P w K mg base (Za B3 P w) 7 f fd ["wishes", "change"] (spX K 2 T8):=
 okX (k:=6) (g:=Rr) F (fq Nu 2) Z λcdv A outer s H E B G0 hr=>
 have nm:=Nu
 by walk_at "d"
theorem Kav(Ar:V9 B3 P w K mg base "changed" 7 2 T8)(F:Fun K "_law_told" "_law_told" Sav f fd):FnOk P w K mg base CX0 8 f fd ["_law_wishes_here", "_law_change_here"] (spD K 2 YJ):=
 okD (k:=7) (g:=WL) F (fq Hav 2) Z λcdv A outer s H E B G0 hr=>
 have nm:=Hav
 by walk_at "d"
theorem Kao(F:Fun K "_law_is_whole" "_law_is_whole" Sao f fd):FnOk P w K mg base CX0 1 f fd ["_law_thing"] (spD K 1 Zy):=
 okD (k:=0) (g:=g_ao) F (fq Hao 1) Z λcdv A outer s H E B G0 hr=>
 have nm:=Hao
 by walk_at "d"
theorem Kau(A4:Def P w K mg base "_law_is_whole" 1 1 Zy)(F:Fun K "_law_plain" "_law_plain" Sau f fd):FnOk P w K mg base CX0 2 f fd ["_law_wishes_here"] (spD K 1 XI):=
 okD (k:=1) (g:=WM) F (fq Hau 1) Z λcdv A outer s H E B G0 hr=>
 have nm:=Hau
 by walk_at "d"
theorem Kaf(A9:Def P w K mg base "is_asker_list" 4 2 ZP)(F:Fun K "look_at_lists" "look_at_lists" Saf f fd):FnOk P w K mg base CX0 5 f fd ["lists", "things"] (spD K 2 XU):=
 okD (k:=4) (g:=WX) F (fq Haf 2) Z λcdv A outer s H E B G0 hr=>
 have nm:=Haf
 by walk_at "d"
theorem Kac(Aw:Def P w K mg base "is_number_below" 2 2 KA)(F:Fun K "look_at_copies" "look_at_copies" Sac f fd):FnOk P w K mg base CX0 3 f fd ["copies"] (spD K 1 XV):=
 okD (k:=2) (g:=WY) F (fq Hac 1) Z λcdv A outer s H E B G0 hr=>
 have nm:=Hac
 by walk_at "d"
theorem Kag(qZ:Def P w K mg base "look_at_lists" 5 2 XU)(q9:Def P w K mg base "look_at_copies" 3 1 XV)(F:Fun K "look_at_wishes" "look_at_wishes" Sag f fd):FnOk P w K mg base CX0 6 f fd ["thing"] (spD K 1 XT):=
 okD (k:=5) (g:=WW) F (fq Hag 1) Z λcdv A outer s H E B G0 hr=>
 have nm:=Hag
 by walk_at "d"
theorem Bv(A7:Def P w K mg base "behind_change" 1 2 Ym)(A8:Def P w K mg base "has_change_form" 3 2 Yn)(qY:Def P w K mg base "look_at_wishes" 6 1 XT)(Ah:XX P w K mg base "look_at_wishes" 6 1 Wd)(Aj:DefT P w K mg base "copied_wishes" 1 1 (.tup [.lst .leaf,.lst (.lst (.lst .leaf))]) Vr)(F:Fun K "changed" "changed" NF f fd):FnOk P w K mg base CX0 7 f fd ["wishes", "change"] (spT K 2 (.tup [.lst .leaf,.lst (.lst (.lst .leaf))]) T6):=
 okT (k:=6) (g:=T7) F (fq Nt 2) Z λcdv A outer s H E B G0 hr=>
 have nm:=Nt
 by walk_at "d"
theorem BE(As:DefT P w K mg base "changed" 7 2 (.tup [.lst .leaf,.lst (.lst (.lst .leaf))]) T6)(F:Fun K "_law_told" "_law_told" NW f fd):FnOk P w K mg base CX0 8 f fd ["_law_wishes_here", "_law_change_here"] (spT K 2 (.tup [.lst .leaf,.lst (.lst (.lst .leaf))]) V1):=
 okT (k:=7) (g:=Sb) F (fq NU 2) Z λcdv A outer s H E B G0 hr=>
 have nm:=NU
 by walk_at "d"
theorem Kaw(qS:Def P w K mg base "_law_told" 8 2 YJ)(qT:Def P w K mg base "_law_plain" 2 1 XI)(A1:Def P w K mg base "_law_behind" 1 2 Yk)(A3:Def P w K mg base "_law_good" 1 2 Yl)(A4:Def P w K mg base "_law_is_whole" 1 1 Zy)(A0:Def P w K mg base "_law_copy" 1 1 Yj)(Ao:DefT P w K mg base "_law_told" 8 2 (.tup [.lst .leaf,.lst (.lst (.lst .leaf))]) V1)(F:Fun K "_law_step" "_law_step" Saw f fd):FnOk P w K mg base CX0 9 f fd ["_law_wishes_here", "_law_change_here"] (spD K 2 XH):=
 okD (k:=8) (g:=WK) F (fq Haw 2) Z λcdv A outer s H E B G0 hr=>
 have nm:=Haw
 by walk_at "d"
theorem Kal(F:Fun K "_law_cell_at" "_law_cell_at" Sal f fd):FnOk P w K mg base CX0 1 f fd ["_law_script", "_law_k"] (spD K 2 ZO):=
 okD (k:=0) (g:=Xs) F (fq Hal 2) Z λcdv A outer s H E B G0 hr=>
 have nm:=Hal
 by walk_at "d"
theorem Kap(F:Fun K "_law_ranks" "_law_ranks" Sap f fd):FnOk P w K mg base CX0 1 f fd ["_law_places", "_law_things"] (spD K 2 XN):=
 okD (k:=0) (g:=WR) F (fq Hap 2) Z λcdv A outer s H E B G0 hr=>
 have nm:=Hap
 by walk_at "d"
theorem Kam(F:Fun K "_law_numbers" "_law_numbers" Sam f fd):FnOk P w K mg base CX0 1 f fd ["_law_cell", "_law_salt", "_law_sizes"] (spD K 3 ZN):=
 okD (k:=0) (g:=WT) F (fq Ham 3) Z λcdv A outer s H E B G0 hr=>
 have nm:=Ham
 by walk_at "d"
theorem Kaq(qV:Def P w K mg base "_law_ranks" 1 2 XN)(A5:Def P w K mg base "_law_numbers" 1 3 ZN)(F:Fun K "_law_change" "_law_change" Saq f fd):FnOk P w K mg base CX0 2 f fd ["_law_wishes_here", "_law_cell", "_law_salt"] (spD K 3 XJ):=
 okD (k:=1) (g:=WQ) F (fq Haq 3) Z λcdv A outer s H E B G0 hr=>
 have nm:=Haq
 by walk_at "d"
theorem Kan(A5:Def P w K mg base "_law_numbers" 1 3 ZN)(A6:Def P w K mg base "_law_cell_at" 1 2 ZO)(F:Fun K "_law_wishes" "_law_wishes" San f fd):FnOk P w K mg base CX0 2 f fd ["_law_script", "_law_at", "_law_most_things", "_law_most_askers", "_law_most_ranks"] (spD K 5 XQ):=
 okD (k:=1) (g:=WS) F (fq Han 5) Z λcdv A outer s H E B G0 hr=>
 have nm:=Han
 by walk_at "d"
theorem Kax(A3:Def P w K mg base "_law_good" 1 2 Yl)(A1:Def P w K mg base "_law_behind" 1 2 Yk)(A0:Def P w K mg base "_law_copy" 1 1 Yj)(qR:Def P w K mg base "_law_step" 9 2 XH)(A6:Def P w K mg base "_law_cell_at" 1 2 ZO)(qU:Def P w K mg base "_law_change" 2 3 XJ)(qW:Def P w K mg base "_law_wishes" 2 5 XQ)(F:Fun K "law" "law" Sax f fd):FnOk P w K mg base CX0 10 f fd ["_law_script"] (spD K 1 XG):=
 okD (k:=9) (g:=WJ) F (fq Hax 1) Z λcdv A outer s H E B G0 hr=>
 have nm:=Hax
 by walk_at "d"
end
theorem Kv:recsOf q0=Ws p0 ixL:=by show recsOf (PySem.W.view PySem.Challenge.pw_wishdeal_k71_wishes_changed ZV)=Ws PySem.Challenge.pw_wishdeal_k71_wishes_changed ixL;rw[PySem.W.Fast.te3399658132070893891,PySem.W.Fast.te5785691039854041590];kernel_rfl
theorem Zr:(["ValueError", "all", "bool", "enumerate", "int", "isinstance", "len", "list", "max", "min", "range", "repr", "set", "str", "sum", "tuple"]:List Str).all (Ta q0 (PySem.W.looseW q0 ["SIZES"]))=B2:=by show List.all _ (Ta (PySem.W.view PySem.Challenge.pw_wishdeal_k71_wishes_changed ZV) (PySem.W.looseW (PySem.W.view PySem.Challenge.pw_wishdeal_k71_wishes_changed ZV) ["SIZES"]))=B2;k_qdec
theorem BQ:valOf q0 "MOST_ASKERS" = O (.int 7):=by show valOf (PySem.W.view PySem.Challenge.pw_wishdeal_k71_wishes_changed ZV) _=_;rw[Jl,PySem.W.Fast.te5785691039854041590];kernel_rfl
theorem BP:valOf q0 "MOST_COPIES" = O (.int 7):=by show valOf (PySem.W.view PySem.Challenge.pw_wishdeal_k71_wishes_changed ZV) _=_;rw[Jl,PySem.W.Fast.te5785691039854041590];kernel_rfl
theorem BD:valOf q0 "MOST_RANKS" = O (.int 5):=by show valOf (PySem.W.view PySem.Challenge.pw_wishdeal_k71_wishes_changed ZV) _=_;rw[Jl,PySem.W.Fast.te5785691039854041590];kernel_rfl
theorem BO:valOf q0 "MOST_THINGS" = O (.int 6):=by show valOf (PySem.W.view PySem.Challenge.pw_wishdeal_k71_wishes_changed ZV) _=_;rw[Jl,PySem.W.Fast.te5785691039854041590];kernel_rfl
theorem Hk{l:PySem.W.OpenLaw}{w:World}{s0:JV}{mg mb:Str->B7}{fa:JX}{h:Heap}{XP:(Str->B7)->Heap->Prop}(G:PySem.W.Ground q0 ["SIZES"] [] XP w s0 mg mb h)(Y0:XYP p0 clsL h/\TabP w "SIZES" [("list", 3),("copies", 3),("come", 2),("go", 2),("thing", 2)] h)(hfa:mg "law" = O (.ref fa)) :
  ∃fd:JY,(∀(s:JV)(v:JU),BindsTo s fd ⟨[v],[]⟩ [("_law_script", v)])/\∀base:Heap,FnOk l.prog w (whole h) mg base CX0 10 fa fd ["_law_script"] (spD (whole h) 1 XG):=by
 have Y:=Y0.1;obtain⟨D0,f0,fd0,R,RH⟩:=EY (i:=1) G.T.g Y (mq 0 Z) (Zs G.T Zr (mq 0 Z)) (Ks (by decide +kernel)) Z (λ_=>⟨_,rfl⟩) (λ_ _ _ _ _ _ us hl=>bz2 (us:=us) hl λ_ _=>rfl);have T:Txt (whole h) mg:=⟨Zs G.T Zr (mq 0 Z),Zs G.T Zr (mq 1 Z),Zs G.T Zr (mq 2 Z),Zs G.T Zr (mq 3 Z),Zs G.T Zr (mq 4 Z),Zs G.T Zr (mq 5 Z),Zs G.T Zr (mq 6 Z),Zs G.T Zr (mq 7 Z),Zs G.T Zr (mq 8 Z),Zs G.T Zr (mq 9 Z),Zs G.T Zr (mq 10 Z),Zs G.T Zr (mq 11 Z),Zs G.T Zr (mq 12 Z),Zs G.T Zr (mq 13 Z),Zs G.T Zr (mq 14 Z),Zs G.T Zr (mq 15 Z),TM G.T BQ,TM G.T BP,TM G.T BD,TM G.T BO,V6 (c:=("DealError", O 1)) G.T.g Y R (mq 0 Z),V6 (c:=("NoAim", O 3)) G.T.g Y R (mq 2 Z),V6 (c:=("NoChange", B0)) G.T.g Y R (mq 3 Z),V6 (c:=("NoWishes", O 2)) G.T.g Y R (mq 1 Z),L1 (G.T.seer (by decide +kernel))⟩
 refine MU G.T Kv 37 "law" rfl Z hfa (λ_ _ _ _ _ _ _=>rfl) λbase=>?_
 have Ai:=L4 (nm:= "NoWishes") (j:=2) (ps:=["self", "part", "number"]) G.T.g Y R (mq 1 Z) (by decide) l.prog w base (λ_ _ _ _ _ _ us hl=>bz3 (us:=us) hl λ_ _ _=>rfl) (λFU=>Gw R.cf (R.ok l.prog w base) R.bd R.at' FU (Ks (by decide +kernel)) Z (λ_=>⟨_,rfl⟩) (by decide) (by decide));have Aq:=L5 (nm:= "NoChange") G.T.g Y R (mq 3 Z) Z l.prog w base;have h_NoChange:=LS (nm:= "NoChange") G.T.g Y R RH (mq 3 Z) Z l.prog w base;have A3:=K4 l.prog w base G.T Kv 31 "_law_good" rfl Z (λF=>Kar T  F) λ_ _ _ _ _ _ us hl=>bz2 (us:=us) hl λ_ _=>rfl
 have A1:=K4 l.prog w base G.T Kv 32 "_law_behind" rfl Z (λF=>Kas T  F) λ_ _ _ _ _ _ us hl=>bz2 (us:=us) hl λ_ _=>rfl
 have A0:=K4 l.prog w base G.T Kv 33 "_law_copy" rfl Z (λF=>Kat T  F) λ_ _ _ _ _ _ us hl=>bz1 (us:=us) hl λ_=>rfl
 have Aj:=Sw l.prog w base G.T Kv 18 "copied_wishes" rfl Z (λF=>BX T  F) λ_ _ _ _ _ _ us hl=>bz1 (us:=us) hl λ_=>rfl
 have qX:=Aj.def;have A7:=K4 l.prog w base G.T Kv 22 "behind_change" rfl Z (λF=>Kaj T  F) λ_ _ _ _ _ _ us hl=>bz2 (us:=us) hl λ_ _=>rfl
 have ja:=K4 l.prog w base G.T Kv 6 "is_whole" rfl Z (λF=>Kaa T  F) λ_ _ _ _ _ _ us hl=>bz1 (us:=us) hl λ_=>rfl
 have Aw:=K4 l.prog w base G.T Kv 7 "is_number_below" rfl Z (λF=>Kab T ja F) λ_ _ _ _ _ _ us hl=>bz2 (us:=us) hl λ_ _=>rfl
 have A8:=K4 l.prog w base G.T Kv 21 "has_change_form" rfl Z (λF=>Kai T Aw (FE G.T.g Y0.2) F) λ_ _ _ _ _ _ us hl=>bz2 (us:=us) hl λ_ _=>rfl
 have q8:=K4 l.prog w base G.T Kv 14 "is_rank" rfl Z (λF=>Kad T Aw F) λ_ _ _ _ _ _ us hl=>bz2 (us:=us) hl λ_ _=>rfl
 have A9:=K4 l.prog w base G.T Kv 15 "is_asker_list" rfl Z (λF=>Kae T q8 F) λ_ _ _ _ _ _ us hl=>bz2 (us:=us) hl λ_ _=>rfl
 have An:=To l.prog w base G.T Kv 16 "look_at_lists" rfl Z (λF=>BW T A9 Ai F) λ_ _ _ _ _ _ us hl=>bz2 (us:=us) hl λ_ _=>rfl
 have Ak:=To l.prog w base G.T Kv 13 "look_at_copies" rfl Z (λF=>BU T Aw Ai F) λ_ _ _ _ _ _ us hl=>bz1 (us:=us) hl λ_=>rfl
 have Ah:=To l.prog w base G.T Kv 17 "look_at_wishes" rfl Z (λF=>BS T An Ak Ai F) λ_ _ _ _ _ _ us hl=>bz1 (us:=us) hl λ_=>rfl
 have Ar:=To l.prog w base G.T Kv 23 "changed" rfl Z (λF=>Bw T qX A7 A8 Ah Aq h_NoChange F) λ_ _ _ _ _ _ us hl=>bz2 (us:=us) hl λ_ _=>rfl
 have qS:=K4 l.prog w base G.T Kv 35 "_law_told" rfl Z (λF=>Kav T Ar F) λ_ _ _ _ _ _ us hl=>bz2 (us:=us) hl λ_ _=>rfl
 have A4:=K4 l.prog w base G.T Kv 28 "_law_is_whole" rfl Z (λF=>Kao T  F) λ_ _ _ _ _ _ us hl=>bz1 (us:=us) hl λ_=>rfl
 have qT:=K4 l.prog w base G.T Kv 34 "_law_plain" rfl Z (λF=>Kau T A4 F) λ_ _ _ _ _ _ us hl=>bz1 (us:=us) hl λ_=>rfl
 have qZ:=K4 l.prog w base G.T Kv 16 "look_at_lists" rfl Z (λF=>Kaf T A9 F) λ_ _ _ _ _ _ us hl=>bz2 (us:=us) hl λ_ _=>rfl
 have q9:=K4 l.prog w base G.T Kv 13 "look_at_copies" rfl Z (λF=>Kac T Aw F) λ_ _ _ _ _ _ us hl=>bz1 (us:=us) hl λ_=>rfl
 have qY:=K4 l.prog w base G.T Kv 17 "look_at_wishes" rfl Z (λF=>Kag T qZ q9 F) λ_ _ _ _ _ _ us hl=>bz1 (us:=us) hl λ_=>rfl
 have As:=Sw l.prog w base G.T Kv 23 "changed" rfl Z (λF=>Bv T A7 A8 qY Ah Aj F) λ_ _ _ _ _ _ us hl=>bz2 (us:=us) hl λ_ _=>rfl
 have Ao:=Sw l.prog w base G.T Kv 35 "_law_told" rfl Z (λF=>BE T As F) λ_ _ _ _ _ _ us hl=>bz2 (us:=us) hl λ_ _=>rfl
 have qR:=K4 l.prog w base G.T Kv 36 "_law_step" rfl Z (λF=>Kaw T qS qT A1 A3 A4 A0 Ao F) λ_ _ _ _ _ _ us hl=>bz2 (us:=us) hl λ_ _=>rfl
 have A6:=K4 l.prog w base G.T Kv 25 "_law_cell_at" rfl Z (λF=>Kal T  F) λ_ _ _ _ _ _ us hl=>bz2 (us:=us) hl λ_ _=>rfl
 have qV:=K4 l.prog w base G.T Kv 29 "_law_ranks" rfl Z (λF=>Kap T  F) λ_ _ _ _ _ _ us hl=>bz2 (us:=us) hl λ_ _=>rfl
 have A5:=K4 l.prog w base G.T Kv 26 "_law_numbers" rfl Z (λF=>Kam T  F) λ_ _ _ _ _ _ us hl=>bz3 (us:=us) hl λ_ _ _=>rfl
 have qU:=K4 l.prog w base G.T Kv 30 "_law_change" rfl Z (λF=>Kaq T qV A5 F) λ_ _ _ _ _ _ us hl=>bz3 (us:=us) hl λ_ _ _=>rfl
 have qW:=K4 l.prog w base G.T Kv 27 "_law_wishes" rfl Z (λF=>Kan T A5 A6 F) λ_ _ _ _ _ _ us hl=>bz5 (us:=us) hl λ_ _ _ _ _=>rfl
 exact λ{_ _} F=>Kax T A3 A1 A0 qR A6 qU qW F
noncomputable abbrev d_ax:DefRec:=⟨"law", Yt Sax,K5 Sax,Kb Sax,MV Sax⟩
theorem walk{XP:(Str->B7)->Heap->Prop}(hlaw:∀ns:B6,ns.length<=63->XG [.list (ns.map int)]=O (.bool B2)):PySem.W.WalkO q0 ["SIZES"] XP (λw h=>XYP p0 clsL h/\TabP w "SIZES" [("list", 3),("copies", 3),("come", 2),("go", 2),("thing", 2)] h) (PySem.Challenge.rw_wishdeal_k71_wishes_changed).row.toRowW d_ax [] (λf vs=>PySem.call f vs):=
 Ck (n:=63) (k:=10) (x:= "_law_script") Z (by decide) Z ⟨rfl,by decide,by decide,rfl⟩ (λ_ _ _ _ _ _ G Y hm=>Hk G Y hm) hlaw
theorem NC{sizes found:B6}{z d:Int}(h:∀(j:Nat) d z,found[j]?=O d->sizes[j]?=O z->0<=d/\d<z)(hz:sizes[found.length]?=O z)(h0:0<=d/\d<z) :
  ∀(j:Nat) d' z',(found++[d])[j]?=O d'->sizes[j]?=O z'->0<=d'/\d'<z':=by
 intro j d' z' e1 e2;by_cases hj:j<found.length
 .rw[Qv hj]at e1
  exact h j d' z' e1 e2
 .by_cases hj2:j=found.length
  .subst hj2
   rw[hz]at e2;cases e2;rw[Qz (Qt _),Nat.sub_self,List.getElem?_cons_zero]at e1;cases e1;exact h0
  .rw[List.getElem?_eq_none (by rw[Qo,QK];lia)]at e1
   cases e1
noncomputable abbrev pb(d:D):Option Sl:=O (.pub d)
def inv(c s:Int)(sizes:B6)(n:Int)(i:Nat)(ρ:Um):Prop:=∃left found x6 x7,ρ=[O (Sl.pub (.int c)),pb (.int s),pb (.list (sizes.map .int)),pb (.int n),pb (.int left),O (.own ((found:B6).map .int)),x6,x7] /\
 found.length=i/\∀(j:Nat) d z,found[j]?=O d->sizes[j]?=O z->0<=d/\d<z
theorem Dr{c s n:Int}{sizes:B6}(hs:∀x∈sizes,0<x/\x<18446744073709551616)(hl:sizes.length<=1000){i:Nat}{d:D}{ρ:Um}{Q:Out->Prop}(hi:(KT 0 sizes.length)[i]?=O d)(h:inv c s sizes n i ρ) :
  ∃ρ2,gN 6 d ρ=O ρ2/\Ho SL ρ2 (Vt (inv c s sizes n (i+1)) Q):=by
 obtain⟨left,found,x6,x7,rfl,hf,hfd⟩:=h;obtain⟨rfl,hlt⟩:=V3 hi;obtain⟨z,hz⟩:∃z,sizes[i]?=O z:=⟨sizes[i]'(by lia),Qp _⟩
 obtain⟨z1,z2⟩:=hs z (Q3 hz);have hix:oIx (.list (sizes.map int)) (.int (0+(i:Int)))=O (.int z):=by rw[Int.zero_add];exact YC (by rw[QO,hz];rfl)
 generalize hk:(0:Int)+(i:Int)=k at hix⊢;have hk1:k<18446744073709551616:=by lia
 have hk2 : -18446744073709551616<k:=by lia
 have hlen:(found.map int).length<1000000:=by rw[Qd];lia
 have pw:YE (.int 10) (.int 18)=O (.int 1000000000000000000):=by rw[GD (by decide)];rfl
 refine⟨_,UF (Qa Z) Z,?_⟩;unfold SL;apply UL
 case h1=>exact Su (Yv Z (UH Uv Uv pw) Z) λ_=>Yv Z Uv Z
 case h2=>intro _;refine UP (X1 Z (UH (Uu Z) (UN Z (Uu Z) hix) (X5 (by lia))) Z hlen Z) ?_;refine Kr (Ka (UH (Uu Z) (UN Z (Uu Z) hix) (PK (by lia) (by lia))) (Qa Z) Z) (ZX ?_);exact⟨_,found++[left % z],_,_,by rw[Q2];rfl,by rw[Qo,hf];rfl,NC hfd (by rw[hf];exact hz) ⟨Int.emod_nonneg _ (by lia),Int.emod_lt_of_pos _ z1⟩⟩
 case h3=>intro _;refine UP (Ka (UH (UH (UH (UH (Uu Z) (UH Uv (Uu Z) (TX (by decide) (by decide))) Zg) (UH (UH Uv (Uu Z) (TX (by decide) (by decide))) (Uu Z) (TW hk2 hk1)) Zg) (Uu Z) Zg) Uv (X5 (by decide))) (Qa Z) Z) ?_;refine UP (Ka (UH (UH (Uu Z) Uv (TW (by decide) (by decide))) Uv (X5 (by decide))) (Qa Z) Z) ?_;refine UP (Ka (UH (UH (UH (UH (Uu Z) (Uu Z) (TW (by lia) (by lia))) Uv (X5 (by decide))) Uv (TW (by decide) (by decide))) Uv (X5 (by decide))) (Qa Z) Z) ?_;refine Kr (X1 Z (UH (UH (Uu Z) Uv (PK (by decide) (by decide))) (UN Z (Uu Z) hix) (X5 (by lia))) Z hlen Z) (ZX ?_);exact⟨_,found++[_ % z],_,_,by rw[Q2];rfl,by rw[Qo,hf];rfl,NC hfd (by rw[hf];exact hz) ⟨Int.emod_nonneg _ (by lia),Int.emod_lt_of_pos _ z1⟩⟩
theorem RB(c s:Int){sizes:B6}(hs:∀x∈sizes,0<x/\x<18446744073709551616)(hl:sizes.length<=1000) :
  ∃r,ZN [.int c,.int s,.list (sizes.map int)]=O r/\∃ds:B6,r=.list (ds.map .int)/\ds.length=sizes.length/\∀(j:Nat) d z,ds[j]?=O d->sizes[j]?=O z->0<=d/\d<z:=by
 refine VI (ρ:=[pb (.int c),pb (.int s),pb (.list (sizes.map int)),B0,B0,B0,B0,B0]) Z ?_;unfold WT;refine UP (Ka (Zh (Ut (Uu Z) (Ut (UH (VJ Uv) (Uu Z) GE) Uy)) PJ) (Qa Z) Z) ?_;refine UP (Ka (Uu Z) (Qa Z) Z) ?_;refine UP (Z0 (VT Uy (Qa Z)) (Qa Z) Z) ?_;apply UT;apply YW (ds:=KT 0 sizes.length) (inv c s sizes (if -1-c > c then -1-c else c))
 case h1=>exact TD (Ut (Ki Z (by rw[K3,Qd])) Uy) (TV (by lia) (by lia))
 case h0=>exact⟨_,[],B0,B0,rfl,rfl,λj d z e=>by cases e⟩
 case hst=>exact λi d ρ e h=>Dr hs hl e h
 case hend=>rintro ρ ⟨left,found,x6,x7,rfl,hf,hfd⟩;rw[Vs]at hf;exact UV (U4 (Z3 rfl rfl) ⟨_,rfl,found,rfl,by lia,hfd⟩)
mutual
theorem T3:∀(d:PyData),d.canLay0=B2->Uf d d=B2
 |.none,_=>rfl
 |.bool b,_=>by cases b<;>rfl
 |.int i,_=>by simp[Uf]
 |.str s,_=>by simp[Uf]
 |.list xs,h=>eqvAll_refl xs h
 |.tuple xs,h=>eqvAll_refl xs h
 |.dict _,h=>by cases h
theorem eqvAll_refl:∀(xs:List PyData),Ud xs=B2->PyData.eqvAll xs xs=B2
 |[],_=>rfl
 |x::r,h=>by
  have h:(PyData.canLay0 x&&Ud r)=B2:=h;rw[Qn]at h
  show(Uf x x&&PyData.eqvAll r r)=B2
  rw[T3 x h.1,eqvAll_refl r h.2];rfl
end
theorem Vk:∀{xs:B4},(∀x∈xs,PyData.canLay0 x=B2)->Ud xs=B2
 |[],_=>rfl
 |x::r,h=>by
  show(PyData.canLay0 x&&Ud r)=B2
  rw[h x Qk,Vk λy hy=>h y (Qj _ hy)];rfl
theorem Vj{n:Nat}:∀{xs:B4},(∀x∈xs,Ue x<=n)->PyData.depthAll xs<=n
 |[],_=>by simp[PyData.depthAll]
 |x::r,h=>by
  have h1:=h x Qk;have h2:=Vj (n:=n) λy hy=>h y (Qj _ hy);simp only[PyData.depthAll]
  lia
noncomputable def UJ(r:B6):D:=.list (r.map int)
noncomputable def UE(rs:List B6):D:=.list (rs.map UJ)
noncomputable def UO(cs:B6)(ls:L3):D:=.tuple [.list (cs.map int),.list (ls.map UE)]
structure Km(n:Nat)(rs:List B6):Prop where
 few:rs.length<=5
 some:∀r∈rs,r≠[]
 there:∀r∈rs,∀t∈r,0<=t/\t<n
 once:rs.flatten.Nodup
structure Good(cs:B6)(ls:L3):Prop where
 c1:1<=cs.length
 c6:cs.length<=6
 c7:∀c∈cs,0<=c/\c<8
 l1:1<=ls.length
 l7:ls.length<=7
 rk:∀rs∈ls,Km cs.length rs
theorem S9(r:B6):(UJ r).canLay0=B2:=Vk λx hx=>by obtain⟨y,_,rfl⟩:=Qw.mp hx;rfl
theorem No(rs:List B6):(UE rs).canLay0=B2:=Vk λx hx=>by obtain⟨y,_,rfl⟩:=Qw.mp hx;exact S9 y
theorem TZ(cs:B6)(ls:L3):(UO cs ls).canLay0=B2:=Vk λx hx=>by
 have hx:x=.list (cs.map int)∨x=.list (ls.map UE):=by simpa using hx
 rcases hx with rfl|rfl
 .exact S9 cs
 .exact Vk λx hx=>by obtain⟨y,_,rfl⟩:=Qw.mp hx;exact No y
theorem Fz(i:Int):(int i).depth<=1:=by simp[Ue]
theorem TB{n:Nat}{xs:B4}(h:PyData.depthAll xs<=n):(J9 xs).depth<=n+1:=by simp only[Ue];lia
theorem S8(r:B6):(UJ r).depth<=2:=TB (Vj λx hx=>by obtain⟨y,_,rfl⟩:=Qw.mp hx;exact Fz y)
theorem Nn(rs:List B6):(UE rs).depth<=3:=TB (Vj λx hx=>by obtain⟨y,_,rfl⟩:=Qw.mp hx;exact S8 y)
theorem OQ(cs:B6)(ls:L3):(UO cs ls).depth<=60:=by
 have h:PyData.depthAll [.list (cs.map int),.list (ls.map UE)]<=4:=Vj λx hx=>by
  have hx:x=.list (cs.map int)∨x=.list (ls.map UE):=by simpa using hx
  rcases hx with rfl|rfl
  .have:=S8 cs;unfold UJ at this;omega
  .exact TB (Vj λx hx=>by obtain⟨y,_,rfl⟩:=Qw.mp hx;exact Nn y)
 unfold UO;simp only[Ue]at h⊢;omega
theorem PH(cs:B6)(ls:L3):oNe (UO cs ls) (UO cs ls)=O B3:=by unfold oNe;rw[Qr ⟨TZ cs ls,TZ cs ls,OQ cs ls⟩,T3 _ (TZ cs ls)];rfl
theorem Dq(i:Int):YK [.int i]=O (.bool B2):=by refine Zc (ρ:=[pb (.int i)]) Z ?_;unfold WZ;exact U4 (Yw (Kq (Uu Z)) (λ_=>PL (Kq (Uu Z)))) Z
theorem Nm{i m:Int}(h0:0<=i)(h1:i<m):KA [.int i,.int m]=O (.bool B2):=by
 refine Zc (ρ:=[pb (.int i),pb (.int m)]) Z ?_;unfold Xw;have hb:(decide (0<=i)&&decide (i<m))=B2:=by simp[h0,h1]
 refine U4 (Yw (t:=B2) (u:=B2) (U0 (Ut (Uu Z) Uy) Z (Dq i)) (λ_=>?_)) Z;rw[←hb];exact Kq (Vl Uv (Uu Z) Z (λ_=>Uu Z) (λ_=>rfl))
theorem TL{α:Type}(l:List α):KO [.list (l.map λ_=>.bool B2)]=O (.bool B2):=by
 have:(l.map λ_=>Ua B2)=(l.map λ_=>B2).map Ua:=by rw[Jg];rfl
 rw[this,SR]
 congr 2
 rw[List.all_map];induction l with
 |nil=>rfl
 |cons x r ih=>simpa using ih
theorem CB{r:B6}{n:Int}(hne:r≠[])(hl:r.length<=1000)(h:∀t∈r,0<=t/\t<n):ZQ [UJ r,.int n]=O (.bool B2):=by
 refine Zc (ρ:=[pb (UJ r),pb (.int n)]) Z ?_;unfold Xv;apply UT;have hlen:Kc [UJ r]=O (.int r.length):=by unfold UJ;rw[K3,Qd]
 have hp:0<r.length:=List.length_pos_iff.mpr hne;apply UL
 case h1=>exact Zb (ρ1:=[pb (UJ r),pb (.int n)]) (KP (Uu Z) Z) (UH (Ki Z hlen) Uv Z1)
 case h2=>
       intro hh;have:(r.length:Int)=0:=by simpa using hh
       lia
 case h3=>
  intro _;refine UX (UV ?_)
  have hc:KJ (gN 2) (Up B2) (UC 2 KA (Ur (Uo 2) (Ur (Uo 1) (Uq)))) (r.map int) (UQ [pb (UJ r),pb (.int n)]++J8 1 B0) []=O (r.map λ_=>.bool B2):=by
   rw[Wa (λ_=>B2) (λ_=>.bool B2) (λρ=>∃x,ρ=[pb (UJ r),pb (.int n),x])]
   .rw[JG.mpr (λ_ _=>rfl),Jp,Jg];rfl
   .rintro d hm ρ ⟨x,rfl⟩
    obtain⟨t,ht,rfl⟩:=Qw.mp hm;exact⟨_,UF (Qa Z) Z,rfl,λ_=>U0 (Ut (Uu Z) (Ut (Uu Z) Uy)) Z (Nm (h t ht).1 (h t ht).2),_,rfl⟩
   .exact⟨B0,rfl⟩
   .rw[Qd,QX];lia
  exact U4 (Zh (Ut (Kq (YB (Zp (Uu Z) Z) hc)) Uy) (TL r)) Z
theorem Nl{a b c x3:Option Sl}(ha:Kn a=a)(hb:Kn b=b)(hc:Kn c=c)(hx:Kn x3=x3):∀(ds es:B4)(x4:Option Sl),es.length+ds.length<=1000000 ->
  ∃y,Xf (gN 4) (Up B2) (Uo 4) ds [a,b,c,x3,x4] es=O (es++ds,[a,b,c,x3,y])
 |[],es,x4,_=>⟨x4,by rw[Xf,QT]⟩
 |d::r,es,x4,h=>by
  rw[QB]at h;obtain⟨y,e⟩:=Nl ha hb hc hx r (es++[d]) (O (.pub d)) (by rw[Qo,QK];lia);refine⟨y,?_⟩;rw[Xf];have h1:gN 4 d [a,b,c,x3,x4]=O [a,b,c,x3,pb d]:=UF (Qa Z) Z;rw[h1];dsimp only[Up];rw[Qr Z];have h2:Uo 4 [a,b,c,x3,pb d]=.ok d [a,b,c,x3,pb d]:=Uu Z;rw[h2];dsimp only;rw[Qr (by lia)];have h3:UQ [a,b,c,x3,pb d]=[a,b,c,x3,pb d]:=by unfold UQ;simp only[Qu,JO,ha,hb,hc,hx];rfl
  rw[h3,e,Jf];rfl
theorem RF{a b:D}:∀(rs:List B6)(es:B4)(x3 x4:Option Sl),es.length+rs.flatten.length<=1000000 ->
  Ys (gN 3) (Up B2) (Kt (Uo 3)) (gN 4) (Up B2) (Uo 4) (rs.map UJ) [pb a,pb b,B0,x3,x4] es=O (es++rs.flatten.map int)
 |[],es,_,_,_=>by rw[List.map_nil,Ys];simp
 |r::rs,es,x3,x4,h=>by rw[QN,Qo]at h;rw[Qu,Ys];have h1:gN 3 (UJ r) [pb a,pb b,B0,x3,x4]=O [pb a,pb b,B0,pb (UJ r),x4]:=UF (Qa Z) Z;rw[h1];dsimp only[Up];rw[Qr Z];have h2:Kt (Uo 3) [pb a,pb b,B0,pb (UJ r),x4]=.ok (r.map int) [pb a,pb b,B0,pb (UJ r),x4]:=Zp (Uu Z) Z;rw[h2];dsimp only;have h3:UQ [pb a,pb b,B0,pb (UJ r),x4]=[pb a,pb b,B0,pb (UJ r),Kn x4]:=rfl;rw[h3];obtain⟨y,e⟩:=Nl (a:=O (.pub a)) (b:=O (.pub b)) (c:=B0) (x3:=O (.pub (UJ r))) Z Z Z Z (r.map int) es (Kn x4) (by rw[Qd];lia);rw[e];dsimp only;have ih:=RF (a:=a) (b:=b) rs (es++r.map int) (O (.pub (UJ r))) y (by rw[Qo,Qd];lia);refine Eq.trans ih ?_;rw[QN,Q2,Jf]
theorem NB{ns:B6}(h:ns.Nodup):YY ns=ns.length:=by
 unfold YY
 have:∀i,i<=ns.length->(PyProof.Rows.firstMet (λi=>ns.getD i 0) i).length=i:=by
  intro i;induction i with
  |zero=>intro _;rfl
  |succ i ih=>
   intro hi;rw[PyProof.Rows.firstMet_succ]
   have hany:(PyProof.Rows.firstMet (λi=>ns.getD i 0) i).any (· == ns.getD i 0)=B3:=by
    rw[PyProof.Rows.firstMet_any,List.any_eq_false];intro x hx;obtain⟨j,hj,rfl⟩:=Qw.mp hx;have hj:=Jz.mp hj;intro e;have e:ns.getD j 0=ns.getD i 0:=by simpa using e
    have l1:j<ns.length:=by lia
    have l2:i<ns.length:=by lia
    simp only[List.getD,Qp l1,Qp l2,JJ]at e;exact absurd ((List.getElem_inj h).mp e) (by lia)
   unfold PyProof.Rows.step_dedup;rw[hany];rw[QD (by decide),Qo,ih (by lia)];rfl
 exact this ns.length (Qt _)
theorem Bu{rs:List B6}{n:Nat}(g:Km n rs)(hn:n<=6)(hf:rs.flatten.length<=1000):ZP [UE rs,.int n]=O (.bool B2):=by
 refine Zc (ρ:=[pb (UE rs),pb (.int n),B0]) Z ?_;unfold Xu;have hlen:Kc [UE rs]=O (.int rs.length):=by unfold UE;rw[K3,Qd]
 have h5:=g.few;have qw:∀r∈rs,r.length<=1000:=λr hr=>Qq (List.Sublist.length_le (List.sublist_flatten_of_mem hr)) hf;apply UT;apply UL
 case h1=>exact Zb (ρ1:=[pb (UE rs),pb (.int n),B0]) (KP (Uu Z) Z) (UH (Ki Z hlen) Uv Z)
 case h2=>
       intro hh;have:(5:Int)<(rs.length:Int):=by simpa using hh
       lia
 case h3=>
  intro _;refine UX (UV ?_)
  have hc:KJ (gN 3) (Up B2) (UC 2 ZQ (Ur (Uo 3) (Ur (Uo 1) (Uq)))) (rs.map UJ) (UQ [pb (UE rs),pb (.int n),B0]++J8 1 B0) []=O (rs.map λ_=>.bool B2):=by
   rw[Wa (λ_=>B2) (λ_=>.bool B2) (λρ=>∃x,ρ=[pb (UE rs),pb (.int n),B0,x])]
   .rw[JG.mpr (λ_ _=>rfl),Jp,Jg];rfl
   .rintro d hm ρ ⟨x,rfl⟩
    obtain⟨r,hr,rfl⟩:=Qw.mp hm;exact⟨_,UF (Qa Z) Z,rfl,λ_=>U0 (Ut (Uu Z) (Ut (Uu Z) Uy)) Z (CB (g.some r hr) (qw r hr) (g.there r hr)),_,rfl⟩
   .exact⟨B0,rfl⟩
   .rw[Qd,QX];lia
  apply UT;apply UL
  case h1=>exact K0 (Zi (Zh (Ut (Kq (YB (Zp (Uu Z) Z) hc)) Uy) (TL rs)))
  case h2=>intro hh;cases hh
  case h3=>
   intro _;refine UX (UV ?_);have h2:Wu (Kt (Uo 0)) 2 (gN 3) (Up B2) (Kt (Uo 3)) (gN 4) (Up B2) (Uo 4) [pb (UE rs),pb (.int n),B0]=.ok (rs.flatten.map int) [pb (UE rs),pb (.int n),B0]:=by unfold Wu;have e1:Kt (Uo 0) [pb (UE rs),pb (.int n),B0]=.ok (rs.map UJ) [pb (UE rs),pb (.int n),B0]:=Zp (Uu Z) Z;rw[e1];dsimp only;have e2:=RF (a:=UE rs) (b:=.int n) rs [] B0 B0 (by rw[QX];lia);have e3:Ys (gN 3) (Up B2) (Kt (Uo 3)) (gN 4) (Up B2) (Uo 4) (rs.map UJ) (UQ [pb (UE rs),pb (.int n),B0]++J8 2 B0) []=O ([]++rs.flatten.map int):=e2;rw[e3];rfl
   refine UP (Z0 h2 (Qa Z) Z) ?_;have hls:X6 [.list (rs.flatten.map int)]=O (.int rs.flatten.length):=by unfold X6;dsimp only;rw[NK];dsimp only;rw[Qr (by lia),NB g.once]
   refine U4 (Kq (UH (Zh (Ut (Z3 Z Z) Uy) hls) (Ki Z K3) Z1)) ?_;rw[Qd];simp
theorem S7{d:D}:∀{xs:B4}{k i:Nat},(ZT k xs)[i]?=O d->∃x,xs[i]?=O x/\d=.tuple [.int ((k+i:Nat):Int),x]
 |[],k,i,h=>by cases h
 |x::r,k,0,h=>by cases h;exact⟨x,rfl,rfl⟩
 |x::r,k,i+1,h=>by obtain⟨y,e,q⟩:=S7 (xs:=r) (k:=k+1) (i:=i) h;exact⟨y,e,by rw[q];congr 4;lia⟩
theorem S6:∀(n:Nat)(l:B6),l.Nodup->(∀x∈l,0<=x/\x<n)->l.length<=n
 |0,[],_,_=>Qt _
 |0,x::r,_,h=>by have:=h x Qk;lia
 |n+1,l,hn,h=>by
  by_cases hm:(n:Int)∈l
  .have:=S6 n (l.erase (n:Int)) (hn.erase _) λx hx=>by
    have h1:=(List.Nodup.mem_erase_iff hn).mp hx;have h2:=h x h1.2;have h3:=h1.1
    lia
   rw[List.length_erase_of_mem hm]at this
   lia
  .have:=S6 n l hn λx hx=>by
    have h2:=h x hx;have h3:x≠(n:Int):=λe=>hm (e ▸ hx)
    lia
   lia
theorem VW{n:Nat}{rs:List B6}(g:Km n rs):rs.flatten.length<=n:=S6 n _ g.once λx hx=>by obtain⟨r,hr,hxr⟩:=List.mem_flatten.mp hx;exact g.there r hr x hxr
theorem Dp{cs:B6}(h1:1<=cs.length)(h6:cs.length<=6)(h:∀c∈cs,0<=c/\c<8):XV [.list (cs.map int)]=O .none:=by
 refine Sx (ρ:=[pb (.list (cs.map int)),B0,B0]) Z ?_;unfold WY;have hlen:Kc [.list (cs.map int)]=O (.int cs.length):=by rw[K3,Qd]
 apply UT;apply UL
 case h1=>exact Zb (ρ1:=[pb (.list (cs.map int)),B0,B0]) (KP (Uu Z) Z) (K0 (Vl Uv (Ki Z hlen) Z (λ_=>Uv) (λ_=>rfl)))
 case h2=>
  intro hh;have a1:(1:Int)<=(cs.length:Int):=by lia
  have a2:(cs.length:Int)<=6:=by lia
  simp[a1,a2]at hh
 case h3=>
  intro _;refine UX (UV ?_);apply YW (λ_ ρ=>∃x1 x2,ρ=[pb (.list (cs.map int)),x1,x2])
  case h1=>exact TC (Ut (Uu Z) Uy) TU
  case h0=>exact⟨_,_,rfl⟩
  case hst=>
   rintro i d ρ hi ⟨x1,x2,rfl⟩;obtain⟨x,hx,rfl⟩:=S7 hi;obtain⟨c,hc,rfl⟩:=Qw.mp (Q3 hx);refine⟨_,KU Z (U7 (UF (Qa Z) Z) (U7 (UF (Qa Z) Z) KW)),?_⟩;unfold P4;apply UL
   case h1=>exact K0 (Zi (U0 (Ut (Uu Z) (Ut (UH Uv Uv Zg) Uy)) Z (Nm (h c hc).1 (by have:=(h c hc).2;lia))))
   case h2=>intro hh;cases hh
   case h3=>exact λ_=>UX (ZX ⟨_,_,rfl⟩)
  case hend=>exact λρ ⟨x1,x2,e⟩=>⟨_,rfl⟩
theorem EU{ls:L3}{n:Nat}(hn:n<=6)(h1:1<=ls.length)(h7:ls.length<=7)(h:∀rs∈ls,Km n rs):XU [.list (ls.map UE),.int n]=O .none:=by
 refine Sx (ρ:=[pb (.list (ls.map UE)),pb (.int n),B0,B0]) Z ?_;unfold WX;have hlen:Kc [.list (ls.map UE)]=O (.int ls.length):=by rw[K3,Qd]
 apply UT;apply UL
 case h1=>exact Zb (ρ1:=[pb (.list (ls.map UE)),pb (.int n),B0,B0]) (KP (Uu Z) Z) (K0 (Vl Uv (Ki Z hlen) Z (λ_=>Uv) (λ_=>rfl)))
 case h2=>
  intro hh;have a1:(1:Int)<=(ls.length:Int):=by lia
  have a2:(ls.length:Int)<=7:=by lia
  simp[a1,a2]at hh
 case h3=>
  intro _;refine UX (UV ?_);apply YW (λ_ ρ=>∃x2 x3,ρ=[pb (.list (ls.map UE)),pb (.int n),x2,x3])
  case h1=>exact TC (Ut (Uu Z) Uy) TU
  case h0=>exact⟨_,_,rfl⟩
  case hst=>
   rintro i d ρ hi ⟨x1,x2,rfl⟩;obtain⟨x,hx,rfl⟩:=S7 hi;obtain⟨rs,hrs,rfl⟩:=Qw.mp (Q3 hx);refine⟨_,KU Z (U7 (UF (Qa Z) Z) (U7 (UF (Qa Z) Z) KW)),?_⟩;unfold P5;have hfl:=VW (h rs hrs);apply UL
   case h1=>exact K0 (Zi (U0 (Ut (Uu Z) (Ut (Uu Z) Uy)) Z (Bu (h rs hrs) hn (by lia))))
   case h2=>intro hh;cases hh
   case h3=>exact λ_=>UX (ZX ⟨_,_,rfl⟩)
  case hend=>exact λρ ⟨x1,x2,e⟩=>⟨_,rfl⟩
theorem Nk{cs:B6}{ls:L3}(g:Good cs ls):XT [UO cs ls]=O .none:=by
 refine Sx (ρ:=[pb (UO cs ls),B0,B0]) Z ?_;unfold WW;apply UT;apply UL
 case h1=>exact Zb (ρ1:=[pb (UO cs ls),B0,B0]) (KP (Uu Z) Z) (UH (Ki Z Z) Uv VR)
 case h2=>intro hh;cases hh
 case h3=>
  intro _;refine UX (UV ?_);have hlen:Kc [.list (cs.map int)]=O (.int (cs.length:Nat)):=by rw[K3,Qd]
  refine UP (Wt (Uu Z) (KU Z (U7 (UF (Qa Z) Z) (U7 (UF (Qa Z) Z) KW)))) ?_;refine UP (VS (U0 (Ut (Uu Z) Uy) Z (Dp g.c1 g.c6 g.c7))) ?_;exact Kr (VS (U0 (Ut (Uu Z) (Ut (Ki Z hlen) Uy)) Z (EU g.c6 g.l1 g.l7 g.rk))) ⟨_,rfl⟩
theorem OP:∀(xs ys:B6),PyData.eqvAll (xs.map int) (ys.map int)=decide (xs=ys)
 |[],[]=>rfl
 |[],y::ys=>by simp[PyData.eqvAll]
 |x::xs,[]=>by simp[PyData.eqvAll]
 |x::xs,y::ys=>by
  have ih:=OP xs ys
  show(Uf (.int x) (.int y)&&PyData.eqvAll (xs.map int) (ys.map int))=_
  rw[ih];have:Uf (.int x) (.int y)=decide (x=y):=rfl;rw[this,Bool.eq_iff_iff];simp
theorem O0{xs:B6}:oNe (.list (xs.map int)) (.list [])=O (!decide (xs=[])):=by
 unfold oNe;have h1:(J9 (xs.map int)).canLay0=B2:=S9 xs;have h3:(J9 (xs.map int)).depth<=60:=by have:=S8 xs;unfold UJ at this;lia
 rw[Qr ⟨h1,rfl,h3⟩]
 congr 2
 exact OP xs []
theorem Fy{xs:B4}{x:D}(h:xs.getLast?=O x):oIx (.list xs) (.int (-1))=O x:=by
 unfold oIx atI;have hl:xs≠[]:=by rintro rfl;cases h
 have hp:0<xs.length:=List.length_pos_iff.mpr hl;rw[List.getLast?_eq_getElem?]at h
 show(ixN xs.length (-1)).bind _=_
 unfold ixN;rw[QD (by decide),Qr (by lia)];have e2:(-1+(xs.length:Int)).toNat=xs.length-1:=by lia
 simp only[Option.bind_some];rw[e2];exact h
theorem SI{xs:B6}{k:Nat}(h:k<xs.length):oIx (.list (xs.map int)) (.int k)=O (.int (xs.getD k 0)):=by refine YC ?_;rw[QO,Qp h];simp[List.getD,List.getElem?_eq_getElem h]
theorem RA(ns:B6)(k:Nat)(hl:ns.length<=1000):∃v,ZO [.list (ns.map int),.int k]=O (.int v):=by
 have hlen:Kc [.list (ns.map int)]=O (.int ns.length):=by rw[K3,Qd]
 by_cases h:k<ns.length
 .refine⟨ns.getD k 0,Zc (ρ:=[pb (.list (ns.map int)),pb (.int k)]) Z ?_⟩
  unfold Xs;apply UT;apply UL
  case h1=>exact Yv Z (Ki Z hlen) Z
  case h2=>exact λ_=>U4 (UN Z (Uu Z) (SI h)) (KL Z)
  case h3=>
        intro hh;have:¬(k:Int)<(ns.length:Int):=by simpa using hh
        lia
 .refine⟨0,Zc (ρ:=[pb (.list (ns.map int)),pb (.int k)]) Z ?_⟩
  unfold Xs;apply UT;apply UL
  case h1=>exact Yv Z (Ki Z hlen) Z
  case h2=>
        intro hh;have:(k:Int)<(ns.length:Int):=by simpa using hh
        lia
  case h3=>exact λ_=>UX (UV (U4 Uv Z))
noncomputable def tab:B6:=[1,1,2,0,3,7,1,4,5,6,1]
theorem Pa{z:Int}(h0:0<=z)(h1:z<11):oIx (.list (tab.map int)) (.int z)=O (.int (tab.getD z.toNat 0))/\0<=tab.getD z.toNat 0/\tab.getD z.toNat 0<8:=by
 have e:z=0∨z=1∨z=2∨z=3∨z=4∨z=5∨z=6∨z=7∨z=8∨z=9∨z=10:=by lia
 rcases e with rfl|rfl|rfl|rfl|rfl|rfl|rfl|rfl|rfl|rfl|rfl<;>exact⟨rfl,by decide,by decide⟩
structure YQ(n:Nat)(pl:B6)(j:Nat)(rs:List B6):Prop where
 few:rs.length<=j
 some:∀r∈rs,r≠[]
 there:∀r∈rs,∀t∈r,(0<=t/\t<n)/\pl.getD t.toNat 0<1+(j:Int)
 once:rs.flatten.Nodup
noncomputable def ZR(n:Nat)(pl:B6)(r:Int):B6:=((J7 n).filter λk=>decide (pl.getD k 0=r)).map λk:Nat=>(k:Int)
theorem Nr(n:Nat)(pl:B6)(r:Int):(ZR n pl r).Nodup:=by unfold ZR;refine List.Pairwise.map _ (λa b h e=>h (by lia)) ((List.nodup_range).filter _)
theorem OZ{n:Nat}{pl:B6}{r t:Int}(h:t∈ZR n pl r):(0<=t/\t<n)/\pl.getD t.toNat 0=r:=by
 unfold ZR at h;obtain⟨k,hk,rfl⟩:=Qw.mp h;have hk:=List.mem_filter.mp hk;have h1:=Jz.mp hk.1;have h2:pl.getD k 0=r:=by simpa using hk.2
 exact⟨⟨by lia,by lia⟩,by rw[JD];exact h2⟩
theorem YQ.add{n:Nat}{pl:B6}{j:Nat}{rs:List B6}{row:B6}(g:YQ n pl j rs)(hne:row≠[])(hm:∀t∈row,t∈ZR n pl (1+(j:Int)))(hn:row.Nodup):YQ n pl (j+1) (rs++[row]) where
 few:=by rw[Qo,QK];have:=g.few;lia
 some:=λr hr=>by
  rcases QG.mp hr with z|z
  .exact g.some r z
  .rw[QJ.mp z];exact hne
 there:=λr hr t ht=>by
  rcases QG.mp hr with z|z
  .have:=g.there r z t ht;exact⟨this.1,by lia⟩
  .rw[QJ.mp z]at ht
   have:=OZ (hm t ht);exact⟨this.1,by lia⟩
 once:=by
  rw[List.flatten_append,List.flatten_singleton];refine QH.mpr ⟨g.once,hn,λa ha b hb e=>?_⟩;subst e;obtain⟨r,hr,har⟩:=List.mem_flatten.mp ha;have h1:=(g.there r hr a har).2;have h2:=(OZ (hm a hb)).2
  lia
theorem YQ.next{n:Nat}{pl:B6}{j:Nat}{rs:List B6}(g:YQ n pl j rs):YQ n pl (j+1) rs:=
 ⟨by have:=g.few;lia,g.some,λr hr t ht=>⟨(g.there r hr t ht).1,by have:=(g.there r hr t ht).2;lia⟩,g.once⟩
theorem YQ.good{n:Nat}{pl:B6}{rs:List B6}(g:YQ n pl 5 rs):Km n rs:=⟨g.few,g.some,λr hr t ht=>(g.there r hr t ht).1,g.once⟩
theorem PF{x:D}{m:Nat}(h:m<=1000):U5 (.list [x]) (.int m)=O (.list (J8 m x)):=by
 rw[Bg ⟨by lia,by lia,by rw[JD];show 1*m<=_;lia⟩,JD]
 congr 2
 induction m with
 |zero=>rfl
 |succ m ih=>rw[Jj,QN,ih (by lia)];rfl
noncomputable def szG(T A:Nat):B6:=(T:Int)::(A:Int)::J8 T 11
noncomputable def K6(T R:Nat):B6:=J8 T ((R:Int)+1)++[2]
theorem PD{T A:Nat}:(szG T A).length=T+2:=by unfold szG;simp
theorem OO{T R:Nat}:(K6 T R).length=T+1:=by unfold K6;simp
theorem Hj{T A:Nat}(h1:1<=T)(h2:T<=6)(h3:1<=A)(h4:A<=7):∀x∈szG T A,0<x/\x<18446744073709551616:=λx hx=>by unfold szG at hx;simp only[QM,List.mem_replicate]at hx;rcases hx with rfl|rfl|⟨_,rfl⟩<;>lia
theorem Fx{T R:Nat}(h:R<=5):∀x∈K6 T R,0<x/\x<18446744073709551616:=λx hx=>by unfold K6 at hx;simp only[List.mem_append,QJ,List.mem_replicate]at hx;rcases hx with ⟨_,rfl⟩|rfl<;>lia
theorem Do{T R:Nat}:(K6 T R)[T]?=O 2:=by unfold K6;simp
theorem Hi{T A k:Nat}(h:k<T):(szG T A)[2+k]?=O 11:=by unfold szG;rw[show 2+k=k+1+1 by lia,JI,JI,QI,Qr h]
def Si(T A R:Nat)(S dz sz:D)(at_ n:Nat)(cs pl:B6)(ls:L3)(x9 x10:Option Sl)(j:Nat)(ρ:Um):Prop:=∃(rs:List B6)(qr AW:Option Sl),
 ρ=[pb S,pb (.int at_),pb (.int (T:Nat)),pb (.int (A:Nat)),pb (.int (R:Nat)),pb sz,pb dz,O (.own (cs.map int)),O (.own (ls.map UE)),x9,x10,pb (.list (pl.map int)),O (.own (rs.map UJ)),qr,AW]/\YQ n pl j rs
theorem CA{T A R:Nat}{S dz sz:D}{at_ n:Nat}{cs pl:B6}{ls:L3}{v9 v10:D}{j:Nat}{d:D}{ρ:Um}{Q:Out->Prop}(hcs:cs.length=n)(hT:T<=6)(hR:R<=5)(hn:n<=T)(hpl:pl.length=T+1)(AO:pl.getD T 0=0∨pl.getD T 0=1)
  (hj:(KT 1 ((R:Int)+1))[j]?=O d) (h:Si T A R S dz sz at_ n cs pl ls (O (.pub v9)) (O (.pub v10)) j ρ) :
  ∃ρ2,gN 13 d ρ=O ρ2/\Ho SK ρ2 (Vt (Si T A R S dz sz at_ n cs pl ls (O (.pub v9)) (O (.pub v10)) (j+1)) Q):=by
 obtain⟨rs,qr,AW,rfl,g⟩:=h;obtain⟨rfl,hlt⟩:=V3 hj;have hj5:j<R:=by lia
 refine⟨_,UF (Qa Z) Z,?_⟩;unfold SK
 have hrd:KT 0 ((n:Nat):Int)=(J7 n).map λk=>.int (k:Int):=by
  unfold KT;have:((n:Int)-0).toNat=n:=by lia
  rw[this];apply List.map_congr_left;intro k _;rw[Int.zero_add]
 have hc:KJ (gN 15) (Uw oEq (Ux 11 (Uo 15)) (Uo 13)) (Uo 15) (KT 0 ((n:Nat):Int)) (UQ [pb S,pb (.int at_),pb (.int (T:Nat)),pb (.int (A:Nat)),pb (.int (R:Nat)),pb sz,pb dz,O (.own (cs.map int)),O (.own (ls.map UE)),pb v9,pb v10,pb (.list (pl.map int)),O (.own (rs.map UJ)),pb (.int (1+(j:Int))),AW]++J8 1 B0) []=O ((ZR n pl (1+(j:Int))).map int):=by
  rw[hrd,Wa (λd=>match d with | .int k=>decide (pl.getD k.toNat 0=1+(j:Int))|_=>B3) (λd=>d) (λρ=>∃x,ρ=[pb S,pb (.int at_),pb (.int (T:Nat)),pb (.int (A:Nat)),pb (.int (R:Nat)),pb sz,pb dz,B0,B0,pb v9,pb v10,pb (.list (pl.map int)),B0,pb (.int (1+(j:Int))),Kn AW,x])]
  .rw[Jp,List.map_id',List.filter_map]
   unfold ZR;rw[Jg];rfl
  .rintro d hm ρ ⟨x,rfl⟩
   obtain⟨k,hk,rfl⟩:=Qw.mp hm;have hk:=Jz.mp hk;refine⟨_,UF (Qa Z) Z,UH (UN Z (Uu Z) (SI (by lia))) (Uu Z) Z1,λ_=>Uu Z,pb (.int k),?_⟩;unfold UQ;cases AW with
   |none=>rfl
   |some sl=>cases sl<;>rfl
  .exact⟨B0,rfl⟩
  .rw[Qd,List.length_range,QX];lia
 have hlen:(cs.map int).length=n:=by rw[Qd,hcs]
 refine UP (Z0 (YB (TD (Ut (GF Z) Uy) (by rw[hlen];exact TV (by lia) (by lia))) hc) (Qa Z) Z) ?_;generalize AX:ZR n pl (1+(j:Int))=row;apply UL
 case h1=>exact Ov Z (Z4 Uy (by decide)) Z O0
 case h2=>
  intro hh;have hne:row≠[]:=by simpa using hh
  have hlx:oIx (.list (pl.map int)) (.int (-1))=O (.int (pl.getD T 0)):=Fy (by rw[List.getLast?_eq_getElem?,Qd,hpl,QO,Nat.add_sub_cancel,Qp (show T<pl.length by lia)];simp[List.getD,List.getElem?_eq_getElem (show T<pl.length by lia)])
  obtain⟨AL,hix,AN⟩:∃AL:B6,oIx (.list [.list (row.map int),.list (row.map int).reverse]) (.int (pl.getD T 0))=O (UJ AL)/\(AL=row∨AL=row.reverse):=by
   rcases AO with e|e
   .rw[e];exact⟨row,rfl,.inl Z⟩
   .rw[e];exact⟨row.reverse,by show O (J9 (row.map int).reverse)=_;unfold UJ;rw[List.map_reverse],.inr Z⟩
  have qw:(rs.map UJ).length<1000000:=by rw[Qd];have:=g.few;lia
  refine Kr (X1 Z (UH (Z4 (Ut (Z3 Z Z) (Ut (Pj (Uu Z) Uv Uv (Z2 (VJ Uv))) Uy)) (Qa Z)) (UN Z (VJ Uv) hlx) hix) Z qw Z) ?_;refine ZX ⟨rs++[AL],pb (.int (1+(j:Int))),pb (.list (row.map int)),by rw[Q2];rfl,g.add ?_ ?_ ?_⟩
  .rcases AN with e|e<;>rw[e]
   .exact hne
   .exact λz=>hne (List.reverse_eq_nil_iff.mp z)
  .intro t ht
   rw[AX];rcases AN with e|e<;>rw[e]at ht
   .exact ht
   .exact List.mem_reverse.mp ht
  .have hnd:=Nr n pl (1+(j:Int))
   rw[AX]at hnd;rcases AN with e|e<;>rw[e]
   .exact hnd
   .exact(List.reverse_perm row).nodup_iff.mpr hnd
 case h3=>exact λ_=>UX (ZX ⟨rs,_,_,rfl,g.next⟩)
def Sh(T A R:Nat)(S dz:D)(at_ n:Nat)(cs:B6)(i:Nat)(ρ:Um):Prop:=∃(sz:D)(ls:L3)(x9 x10 x11 x12 qr AW:Option Sl),
 ρ=[pb S,pb (.int at_),pb (.int (T:Nat)),pb (.int (A:Nat)),pb (.int (R:Nat)),pb sz,pb dz,O (.own (cs.map int)),O (.own (ls.map UE)),x9,x10,x11,x12,qr,AW]/\ls.length=i/\∀rs∈ls,Km n rs/\rs.length<=R
theorem Bt{T A R:Nat}{ns:B6}{dz:D}{at_ n:Nat}{cs:B6}{i:Nat}{m:Int}{d:D}{ρ:Um}{Q:Out->Prop}(hns:ns.length<=1000)(hT:T<=6)(hR:R<=5)(hcs:cs.length=n)(hn:n<=T)(hm:m<=100)
  (hi:(KT 0 m)[i]?=O d) (h:Sh T A R (.list (ns.map int)) dz at_ n cs i ρ) :
  ∃ρ2,gN 9 d ρ=O ρ2/\Ho SJ ρ2 (Vt (Sh T A R (.list (ns.map int)) dz at_ n cs (i+1)) Q):=by
 obtain⟨sz,ls,x9,x10,x11,x12,qr,AW,rfl,hl,hg⟩:=h;obtain⟨rfl,hlt⟩:=V3 hi;refine⟨_,UF (Qa Z) Z,?_⟩;unfold SJ;obtain⟨v,hv⟩:=RA ns (at_+1+i) hns;have ev:((at_:Int)+1+(0+(i:Int)))=((at_+1+i:Nat):Int):=by lia
 rw[←ev]at hv;refine UP (Ka (U0 (Ut (Uu Z) (Ut (UH (UH (Uu Z) Uv Zg) (Uu Z) Zg) Uy)) Z hv) (Qa Z) Z) ?_;obtain⟨r,hF,pl,rfl,hpl,hpb⟩:=RB v (11*(at_:Int)+3*(0+(i:Int))+1) (sizes:=K6 T R) (Fx hR) (by rw[OO];lia);have hpl7:pl.length=T+1:=by rw[hpl,OO]
 have hmul:U5 (.list [.int ((R:Int)+1)]) (.int (T:Nat))=O (.list (J8 T (.int ((R:Int)+1)))):=PF (by lia);have hadd:UG (.list (J8 T (.int ((R:Int)+1)))) (.list [.int 2])=O (.list ((K6 T R).map int)):=by rw[Ww (by rw[Q5];show T+1<=_;lia)];unfold K6;rw[Q2,List.map_replicate];rfl
 refine UP (Ka (UH (UH (Z4 (Ut (UH (Uu Z) Uv Zg) Uy) (Qa Z)) (Uu Z) hmul) (Z4 (Ut Uv Uy) (Qa Z)) hadd) (Qa Z) Z) ?_;refine UP (Ka (U0 (Ut (Uu Z) (Ut (UH (UH (UH Uv (Uu Z) (TX (by decide) (by decide))) (UH Uv (Uu Z) (TX (by decide) (by decide))) Zg) Uv Zg) (Ut (Uu Z) Uy))) Z hF) (Qa Z) Z) ?_;refine UP (Z0 (VT Uy (Qa Z)) (Qa Z) Z) ?_
 have AO:pl.getD T 0=0∨pl.getD T 0=1:=by
  have e:pl[T]?=O pl[T]:=Qp (by lia);have:=hpb T pl[T] 2 e Do;have e2:pl.getD T 0=pl[T]:=by simp[List.getD,e]
  rw[e2];lia
 apply UT;apply YW (Si T A R (.list (ns.map int)) dz (.list ((K6 T R).map int)) at_ n cs pl ls (O (.pub (.int (0+(i:Int))))) (O (.pub (.int v))))
 case h1=>exact SU (Ut Uv (Ut (UH (Uu Z) Uv Zg) Uy)) (Rb (by lia) (by lia) (by decide) (by decide))
 case h0=>exact⟨[],qr,AW,rfl,⟨Qt _,λ_ h=>(by cases h),λ_ h=>(by cases h),List.nodup_nil⟩⟩
 case hst=>exact λj d ρ e h=>CA hcs hT hR hn hpl7 AO e h
 case hend=>
  rintro ρ ⟨rs,y13,y14,rfl,g⟩;refine UV ?_;have hl5:(KT 1 ((R:Int)+1)).length=R:=by rw[Vs];lia
  rw[hl5]at g;have hll:(ls.map UE).length<1000000:=by rw[Qd];lia
  refine Kr (X1 Z (Z3 Z Z) Z hll Z) ?_;refine ZX ⟨_,ls++[rs],pb (.int (0+(i:Int))),pb (.int v),pb (.list (pl.map int)),pb (.list (rs.map UJ)),y13,y14,by rw[Q2];rfl,by rw[Qo,hl];rfl,λx hx=>?_⟩;rcases QG.mp hx with z|z
  .exact hg x z
  .rw[QJ.mp z];exact⟨⟨by have:=g.few;lia,g.some,λr hr t ht=>(g.there r hr t ht).1,g.once⟩,g.few⟩
theorem Bs(T A R:Nat){ns:B6}(hns:ns.length<=1000)(at_:Nat)(hT1:1<=T:=by decide)(hT:T<=6:=by decide)(hA1:1<=A:=by decide)(hA:A<=7:=by decide)(hR:R<=5:=by decide):∃r,XQ [.list (ns.map int),.int at_,.int (T:Nat),.int (A:Nat),.int (R:Nat)]=O r/\∃cs ls,r=UO cs ls/\Good cs ls/\cs.length<=T/\ls.length<=A/\∀rs∈ls,rs.length<=R:=by
 obtain⟨v,hv⟩:=RA ns at_ hns;obtain⟨r,hF,ds,rfl,hl,hd⟩:=RB v at_ (sizes:=szG T A) (Hj hT1 hT hA1 hA) (by rw[PD];lia);have hl8:ds.length=T+2:=by rw[hl,PD]
 have at':∀(j:Nat)(k z:Int),k=j->(szG T A)[j]?=O z->∃d,oIx (.list (ds.map int)) (.int k)=O (.int d)/\ds[j]?=O d/\0<=d/\d<z:=λj k z hk hz=>by
  subst hk;have hj:j<ds.length:=by rw[hl];exact(Qy.mp hz).1
  have e:ds[j]?=O ds[j]:=Qp hj;obtain⟨p0,p1⟩:=hd j ds[j] z e hz;exact⟨ds[j],YC (by rw[QO,e];rfl),e,p0,p1⟩
 obtain⟨d0,x0,e0,p0,q0⟩:=at' 0 0 T Z Z;obtain⟨d1,x1,e1,p1,q1⟩:=at' 1 1 A Z Z;have hmul:U5 (.list [.int 11]) (.int (T:Nat))=O (.list (J8 T (.int 11))):=PF (by lia);have hadd:UG (.list [.int (T:Nat),.int (A:Nat)]) (.list (J8 T (.int 11)))=O (.list ((szG T A).map int)):=by rw[Ww (by rw[Q5];show 2+T<=_;lia)];unfold szG;rw[Qu,Qu,List.map_replicate];rfl
 obtain⟨n,hn⟩:∃n:Nat,1+d0=n:=⟨(1+d0).toNat,by lia⟩
 refine VI (ρ:=[pb (.list (ns.map int)),pb (.int at_),pb (.int (T:Nat)),pb (.int (A:Nat)),pb (.int (R:Nat)),B0,B0,B0,B0,B0,B0,B0,B0,B0,B0]) Z ?_;unfold WS;refine UP (Ka (UH (Z4 (Ut (Uu Z) (Ut (Uu Z) Uy)) (Qa Z)) (UH (Z4 (Ut Uv Uy) (Qa Z)) (Uu Z) hmul) hadd) (Qa Z) Z) ?_;refine UP (Ka (U0 (Ut (U0 (Ut (Uu Z) (Ut (Uu Z) Uy)) Z hv) (Ut (Uu Z) (Ut (Uu Z) Uy))) Z hF) (Qa Z) Z) ?_
 have hcut:DL.cutD (ds.map int) (O 2) (O (3+d0))=((ds.drop 2).take n).map int:=by
  rw[ED (by decide) (by lia) (by lia)];have:(3+d0).toNat-(2:Int).toNat=n:=by lia
  rw[this];rfl
 have qb:((ds.drop 2).take n).length=n:=by rw[JN,JH,hl8];lia
 have each:∀z∈(ds.drop 2).take n,0<=z/\z<11:=λz hz=>by
  have hz:=List.mem_of_mem_take hz;obtain⟨k,hk,e⟩:=List.getElem_of_mem hz;rw[JH,hl8]at hk;rw[List.getElem_drop]at e;have e2:ds[2+k]?=O z:=by rw[←e];exact Qp _
  refine hd (2+k) z 11 e2 (Hi ?_)
  lia
 let cs:B6:=((ds.drop 2).take n).map λz=>tab.getD z.toNat 0
 have hcl:cs.length=n:=by show(List.map _ _).length=n;rw[Qd,qb]
 have hc:∀xs:List (Option Sl),UQ xs=xs->xs.length=15->KJ (gN 15) (Up B2) (Uw oIx (U2 (Ur (Up (.int 1)) (Ur (Up (.int 1)) (Ur (Up (.int 2)) (Ur (Up (.int 0)) (Ur (Up (.int 3)) (Ur (Up (.int 7)) (Ur (Up (.int 1)) (Ur (Up (.int 4)) (Ur (Up (.int 5)) (Ur (Up (.int 6)) (Ur (Up (.int 1)) (Uq))))))))))))) (Uo 15)) (((ds.drop 2).take n).map int) (UQ xs++J8 1 B0) []=O (cs.map int):=by
  intro xs hx hxl;rw[hx,Wa (λ_=>B2) (λd=>match d with | .int z=>.int (tab.getD z.toNat 0)|_=>.none) (λρ=>∃x,ρ=xs++[x])]
  .rw[JG.mpr (λ_ _=>rfl),Jp,Jg]
   show _=O ((((ds.drop 2).take n).map λz=>tab.getD z.toNat 0).map int);rw[Jg];rfl
  .rintro d hm ρ ⟨x,rfl⟩
   obtain⟨z,hz,rfl⟩:=Qw.mp hm;have ht:=Pa (each z hz).1 (each z hz).2;have hset:(xs++[x]).set 15 (O (Sl.pub (.int z)))=xs++[pb (.int z)]:=by rw[List.set_append_right _ _ (by lia),hxl];rfl
   have hget:(xs++[O (Sl.pub (.int z))])[15]?=O (O (Sl.pub (.int z))):=by rw[Qz (by lia),hxl];rfl
   refine⟨_,UF (by rw[Qo,hxl];exact Qa Z) hset,rfl,λ_=>?_,pb (.int z),?_⟩
   .exact UH (Z4 (Ut Uv (Ut Uv (Ut Uv (Ut Uv (Ut Uv (Ut Uv (Ut Uv (Ut Uv (Ut Uv (Ut Uv (Ut Uv Uy))))))))))) (Qa Z)) (Uu hget) ht.1
   .unfold UQ at hx⊢
    rw[Q2,hx];rfl
  .exact⟨B0,rfl⟩
  .rw[Qd,qb,QX];lia
 refine UP (Z0 (YB (Zp (YV (Uu Z) (Z2 Uv) (Z2 (UH Uv (UN Z Uv x0) Zg)) (by rw[TR,hcut])) SS) (hc _ Z Z)) (Qa Z) Z) ?_;refine UP (Z0 (VT Uy (Qa Z)) (Qa Z) Z) ?_;apply UT;apply YW (Sh T A R (.list (ns.map int)) (.list (ds.map int)) at_ n cs)
 case h1=>exact TD (Ut (UH Uv (UN Z Uv x1) Zg) Uy) (TV (by lia) (by lia))
 case h0=>exact⟨_,[],_,_,_,_,_,_,rfl,rfl,λ_ h=>by cases h⟩
 case hst=>exact λi d ρ e h=>Bt hns hT hR hcl (by lia) (by lia) e h
 case hend=>rintro ρ ⟨sz,ls,y9,y10,y11,y12,y13,y14,rfl,hll,hg⟩;rw[Vs]at hll;refine UV (U4 (ZZ (Ut (Z3 rfl rfl) (Ut (Z3 rfl rfl) Uy)) (Qa rfl)) ⟨_,rfl,cs,ls,rfl,⟨?_,by lia,by lia,λrs hrs=>(hg rs hrs).2⟩⟩);exact⟨by lia,by lia,λc hc=>by obtain⟨z,hz,rfl⟩:=Qw.mp hc;exact(Pa (each z hz).1 (each z hz).2).2,by lia,by lia,λrs hrs=>by rw[hcl];exact(hg rs hrs).1⟩
theorem OY{s:D->Um->Ab}{t:M Bool}{g:M D}(I:Um->Prop):∀(ds qs:B4)(ρ:Um)(es:B4),qs.length=ds.length ->
  (∀(i:Nat) d e,ds[i]?=O d->qs[i]?=O e->∀ρ,I ρ->∃ρ1,s d ρ=O ρ1/\t ρ1=.ok B2 ρ1/\g ρ1=.ok e ρ1/\I (UQ ρ1))->I ρ->es.length+ds.length<=1000000->KJ s t g ds ρ es=O (es++qs)
 |[],[],ρ,es,_,_,_,_=>by rw[KJ,QT]
 |d::r,e::q,ρ,es,hl,st,h0,hz=>by obtain⟨ρ1,e1,e2,e3,h1⟩:=st 0 d e Z Z ρ h0;rw[QB]at hz;rw[KJ,e1];dsimp only;rw[e2];dsimp only;rw[Qr Z,e3];dsimp only;rw[if_pos (by lia),OY I r q (UQ ρ1) (es++[e]) (by simpa using hl) (λi d' e' x y=>st (i+1) d' e' (by simpa using x) (by simpa using y)) h1 (by rw[List.length_append,List.length_singleton];lia),List.append_assoc];rfl
section
variable{cs:B6}{ls:L3}{ws:List Ac}
theorem Lh:oIx (UO cs ls) (.int 0)=O (.list (cs.map int)):=YC (j:=0) Z
theorem Lg:oIx (UO cs ls) (.int 1)=O (.list (ls.map UE)):=YC (j:=1) Z
end
theorem T5{n:Nat}:∀{xs:B4},(∀x∈xs,PyData.bulk x<=n)->PyData.bulkAll xs<=xs.length*(n+1)
 |[],_=>by simp[PyData.bulkAll]
 |x::xs,h=>by have h1:=h x Qk;have h2:=T5 (xs:=xs) λy hy=>h y (Qj _ hy);rw[PyData.bulkAll,QB,Nat.succ_mul];omega
section
variable{cs:B6}{ls:L3}
theorem PC(g:Good cs ls):Yj [UO cs ls]=O (UO cs ls):=by
 refine Zc (ρ:=[pb (UO cs ls),B0,B0]) Z ?_;unfold WN;have l7:=g.l7;refine UP (Z0 (VT Uy (Qa Z)) (Qa Z) Z) ?_;apply UT;apply YW (λi ρ=>∃x2,ρ=[pb (UO cs ls),O (.own ((ls.take i).map UE)),x2])
 case h1=>exact Zp (UN Z Uv Lg) SS
 case h0=>exact⟨_,rfl⟩
 case hst=>
  rintro i d ρ hi ⟨x2,rfl⟩;rw[QO]at hi;cases hw:ls[i]? with
  |none=>rw[hw]at hi;cases hi
  |some rs=>
  rw[hw]at hi;cases hi;have hrs:rs.length<=5:=(g.rk rs (Q3 hw)).few;refine⟨_,UF (Qa Z) Z,?_⟩;unfold P8
  have hc:∀x1:Option Sl,KJ (gN 3) (Up B2) (UA J9 (X2 3)) (rs.map UJ) (UQ [pb (UO cs ls),x1,pb (UE rs)]++J8 1 B0) []=O (rs.map UJ):=λx1=>by
   refine OY (λρ=>∃a x,ρ=[pb (UO cs ls),a,pb (UE rs),x]) _ _ _ _ Z ?_ ⟨_,B0,rfl⟩ (by rw[Qd,QX];omega);rintro j d e hd he ρ ⟨a,x,rfl⟩;rw[hd]at he;cases he;rw[QO]at hd;cases hwj:rs[j]? with
   |none=>rw[hwj]at hd;cases hd
   |some r=>
   rw[hwj]at hd;cases hd;exact⟨_,UF (Qa Z) Z,rfl,Kq (EE Z (show Yp [UJ r]=O (r.map int)from rfl)),_,_,rfl⟩
  refine Kr (X1 Z (Kq (YB (Zp (Uu Z) SS) (hc _))) Z (by rw[Qd,JN];omega) Z) ?_;refine ZX ⟨O (.pub (UE rs)),?_⟩;rw[List.take_succ,hw,Q2];rfl
 case hend=>rintro ρ ⟨x2,rfl⟩;rw[Qd,List.take_length];exact UV (U4 (ZZ (Ut (Kq (U6 (Ut (UN rfl Uv Lh) Uy) (KS (show Yp [.list (cs.map int)]=O (cs.map int)from rfl)))) (Ut (Z3 rfl rfl) Uy)) (Qa rfl)) rfl)
end
noncomputable def whB:D->Bool
 |.int _=>B2
 |_=>B3
noncomputable def Kz(n:Int):D->Bool
 |.int i=>decide (0<=i)&&decide (i<n)
 |_=>B3
noncomputable def rkB(n:Int):D->Bool
 |.list (x::xs)=>(x::xs).all (Kz n)
 |_=>B3
noncomputable def whI:D->Ac
 |.int i=>O i
 |_=>B0
noncomputable def itI:D->B6
 |.list xs=>xs.filterMap whI
 |_=>[]
noncomputable def flI(rs:B4):B6:=rs.flatMap itI
noncomputable def Zm(n:Int):D->Bool
 |.list rs=>decide (rs.length<=5)&&(rs.all (rkB n)&&decide (flI rs).Nodup)
 |_=>B3
theorem V0(n:Int)(rs:B4):Zm n (.list rs)=(decide (rs.length<=5)&&(rs.all (rkB n)&&decide (flI rs).Nodup)):=rfl
theorem OX(d:D):YK [d]=O (.bool (whB d)):=by
 cases d with
 |dict kvs=>exact Zc (ρ:=[pb (.dict kvs)]) Z (U4 (Yw (t:=B3) (u:=B3) (Ph (Uu Z)) λz=>by cases z) Z)
 |_=>rfl
theorem TK(d:D)(n:Int):KA [d,.int n]=O (.bool (Kz n d)):=by
 refine Zc (ρ:=[pb d,pb (.int n)]) Z ?_;unfold Xw;cases d with
 |int i=>exact U4 (Yw (t:=B2) (u:=decide (0<=i)&&decide (i<n)) (U0 (Ut (Uu Z) Uy) Z (OX (.int i))) (λ_=>Kq (Vl Uv (Uu Z) Z (λ_=>Uu Z) (λ_=>rfl)))) Z
 |_=>exact U4 (Yw (t:=B3) (u:=B3) (U0 (Ut (Uu Z) Uy) Z (OX _)) (λz=>by cases z)) Z
theorem ON{n:Int}{d:D}(h:Kz n d=B2):∃i,d=.int i/\0<=i/\i<n:=by
 cases d with
 |int i=>have h:(decide (0<=i)&&decide (i<n))=B2:=h;simp only[Qn,QY]at h;exact⟨i,rfl,h⟩
 |_=>cases h
theorem S5{n:Int}:∀{xs:B4},xs.all (Kz n)=B2->xs=(xs.filterMap whI).map int
 |[],_=>rfl
 |x::r,h=>by rw[Ju,Qn]at h;obtain⟨i,rfl,_⟩:=ON h.1;have ih:=S5 h.2;show _=(i::r.filterMap whI).map int;rw[Qu,←ih]
theorem Hh{n:Int}{d:D}(h:rkB n d=B2):d=.list ((itI d).map int):=by
 cases d with
 |list xs=>
  cases xs with
  |nil=>cases h
  |cons x r=>exact JQ J9 (S5 h)
 |_=>cases h
theorem OW{q:D->Bool}(xs:B4):KO [.list (xs.map λd=>.bool (q d))]=O (.bool (xs.all q)):=by
 have:(xs.map λd=>Ua (q d))=(xs.map q).map Ua:=by rw[Jg];rfl
 rw[this,SR]
 congr 2
 rw[List.all_map];rfl
theorem BC{d:D}{n:Int}(hl:∀xs,d=.list xs->xs.length<=700):ZQ [d,.int n]=O (.bool (rkB n d)):=by
 refine Zc (ρ:=[pb d,pb (.int n)]) Z ?_;unfold Xv;apply UT;cases d with
 |list xs=>
  have hl:=hl xs Z;apply UL (b:=decide ((xs.length:Int)=0))
  case h1=>exact Zb (ρ1:=[pb (.list xs),pb (.int n)]) (KP (Uu Z) Z) (UH (Ki Z K3) Uv Z1)
  case h2=>
   intro hh;have:(xs.length:Int)=0:=by simpa using hh
   have e:xs=[]:=List.eq_nil_of_length_eq_zero (by lia);subst e;exact U4 Uv (KL Z)
  case h3=>
   intro hh;have hne:¬(xs.length:Int)=0:=by simpa using hh
   refine UX (UV ?_)
   have hc:KJ (gN 2) (Up B2) (UC 2 KA (Ur (Uo 2) (Ur (Uo 1) (Uq)))) xs (UQ [pb (.list xs),pb (.int n)]++J8 1 B0) []=O (xs.map λd=>.bool (Kz n d)):=by
    rw[Wa (λ_=>B2) (λd=>.bool (Kz n d)) (λρ=>∃x,ρ=[pb (.list xs),pb (.int n),x])]
    .rw[JG.mpr (λ_ _=>rfl),Jp]
    .rintro d hm ρ ⟨x,rfl⟩
     exact⟨_,UF (Qa Z) Z,rfl,λ_=>U0 (Ut (Uu Z) (Ut (Uu Z) Uy)) Z (TK d n),_,rfl⟩
    .exact⟨B0,rfl⟩
    .rw[QX];lia
   refine U4 (Zh (Ut (Kq (YB (Zp (Uu Z) Z) hc)) Uy) (OW xs)) ?_;cases xs with
   |nil=>exact absurd Z hne
   |cons x r=>rfl
 |dict kvs=>exact UL (b:=B2) (YU (VQ (Uu Z))) (λ_=>U4 Uv (KL Z)) (λz=>by cases z)
 |_=>exact UL (b:=B2) (YU (KP (Uu Z) Z)) (λ_=>U4 Uv (KL Z)) (λz=>by cases z)
theorem Dm{ns:B6}:∀i,(PyProof.Rows.firstMet (λi=>ns.getD i 0) i).length<=i:=by
 intro i;induction i with
 |zero=>exact Qt _
 |succ i ih=>
  rw[PyProof.Rows.firstMet_succ];unfold PyProof.Rows.step_dedup;split
  .lia
  .rw[Qo,QK];lia
theorem Br{ns:B6}(h:YY ns=ns.length):ns.Nodup:=by
 unfold YY at h
 have key:∀i,i<=ns.length->(PyProof.Rows.firstMet (λi=>ns.getD i 0) i).length=i->(ns.take i).Nodup:=by
  intro i;induction i with
  |zero=>intro _ _;simp
  |succ i ih=>
   intro hi e;rw[PyProof.Rows.firstMet_succ]at e;unfold PyProof.Rows.step_dedup at e;cases hany:(PyProof.Rows.firstMet (λi=>ns.getD i 0) i).any (· == ns.getD i 0)with
   |true=>
    rw[hany,Qr Z]at e;have:=Dm (ns:=ns) i
    lia
   |false=>
    rw[hany,QD (by decide),Qo]at e;have e:(PyProof.Rows.firstMet (λi=>ns.getD i 0) i).length=i:=by simpa using e
    have ih:=ih (by lia) e;rw[List.take_succ_eq_append_getElem (by lia),List.nodup_append];refine⟨ih,by simp,λa ha b hb=>?_⟩;rw[QJ]at hb;subst hb;rw[PyProof.Rows.firstMet_any,List.any_eq_false]at hany;obtain⟨j,hj,rfl⟩:=List.mem_take_iff_getElem.mp ha;have hj':j<i:=by have:=hj;lia
    have:=hany (ns.getD j 0) (Qw.mpr ⟨j,Jz.mpr hj',rfl⟩);have l1:j<ns.length:=by lia
    have l2:i<ns.length:=by lia
    simp only[List.getD,Qp l1,Qp l2,JJ,beq_iff_eq]at this;exact this
 have:=key ns.length (Qt _) h;rwa[List.take_length]at this
theorem Dl{ns:B6}(h:ns.length<=3500):∃u:Nat,X6 [.list (ns.map int)]=O (.int u)/\decide ((u:Int)=ns.length)=decide ns.Nodup:=by
 refine⟨YY ns,?_,?_⟩
 .unfold X6
  dsimp only;rw[NK];dsimp only;rw[Qr (by lia)]
 .by_cases e:ns.Nodup
  .rw[NB e,decide_eq_true e];simp
  .rw[QP e,QP]
   intro z;exact e (Br (by lia))
def XF(d:D):Prop:=∀rs,d=.list rs->∀xs,.list xs∈rs->xs.length<=700
theorem RE{n:Int}:∀{rs:B4},rs.all (rkB n)=B2->(∀xs,.list xs∈rs->xs.length<=700)->∃ls:List B6,rs=ls.map UJ/\flI rs=ls.flatten/\ls.flatten.length<=700*rs.length
 |[],_,_=>⟨[],rfl,rfl,by simp⟩
 |d::r,h,hs=>by
  rw[Ju,Qn]at h;obtain⟨ls,e1,e2,e3⟩:=RE h.2 λxs hx=>hs xs (Qj _ hx)
  have hd:=Hh h.1;have hl:=hs ((itI d).map int) (by rw[←hd];exact Qk);rw[Qd]at hl;refine⟨itI d::ls,?_,?_,?_⟩
  .rw[Qu,←e1]
   exact JQ (· :: r) hd
  .show itI d++flI r=_
   rw[e2,QN]
  .rw[QN,Qo,QB];lia
theorem Bq{d:D}{n:Int}(hs:XF d):ZP [d,.int n]=O (.bool (Zm n d)):=by
 refine Zc (ρ:=[pb d,pb (.int n),B0]) Z ?_;unfold Xu;apply UT;cases d with
 |list rs=>
  have hs:=hs rs Z;apply UL (b:=decide ((5:Int)<rs.length))
  case h1=>exact Zb (ρ1:=[pb (.list rs),pb (.int n),B0]) (KP (Uu Z) Z) (UH (Ki Z K3) Uv Z)
  case h2=>
   intro hh;have:(5:Int)<(rs.length:Int):=by simpa using hh
   refine U4 Uv (KL ?_);rw[V0,QP (by lia:¬rs.length<=5)];rfl
  case h3=>
   intro hh;have h5:¬(5:Int)<(rs.length:Int):=by simpa using hh
   refine UX (UV ?_)
   have hc:KJ (gN 3) (Up B2) (UC 2 ZQ (Ur (Uo 3) (Ur (Uo 1) (Uq)))) rs (UQ [pb (.list rs),pb (.int n),B0]++J8 1 B0) []=O (rs.map λd=>.bool (rkB n d)):=by
    rw[Wa (λ_=>B2) (λd=>.bool (rkB n d)) (λρ=>∃x,ρ=[pb (.list rs),pb (.int n),B0,x])]
    .rw[JG.mpr (λ_ _=>rfl),Jp]
    .rintro d hm ρ ⟨x,rfl⟩
     exact⟨_,UF (Qa Z) Z,rfl,λ_=>U0 (Ut (Uu Z) (Ut (Uu Z) Uy)) Z (BC (λxs e=>hs xs (by rw[←e];exact hm))),_,rfl⟩
    .exact⟨B0,rfl⟩
    .rw[QX];lia
   apply UT;apply UL
   case h1=>exact K0 (Zi (Zh (Ut (Kq (YB (Zp (Uu Z) Z) hc)) Uy) (OW rs)))
   case h2=>
    intro hh;have e:rs.all (rkB n)=B3:=by simpa using hh
    refine U4 Uv (KL ?_);rw[V0,e,Bool.false_and,Bool.and_false]
   case h3=>
    intro hh;have e:rs.all (rkB n)=B2:=by simpa using hh
    refine UX (UV ?_);obtain⟨ls,e1,e2,e3⟩:=RE e hs;have hfl:ls.flatten.length<=3500:=by lia
    subst e1;have h2:Wu (Kt (Uo 0)) 2 (gN 3) (Up B2) (Kt (Uo 3)) (gN 4) (Up B2) (Uo 4) [pb (.list (ls.map UJ)),pb (.int n),B0]=.ok (ls.flatten.map int) [pb (.list (ls.map UJ)),pb (.int n),B0]:=by unfold Wu;have e1:Kt (Uo 0) [pb (.list (ls.map UJ)),pb (.int n),B0]=.ok (ls.map UJ) [pb (.list (ls.map UJ)),pb (.int n),B0]:=Zp (Uu Z) Z;rw[e1];dsimp only;have e2:=RF (a:=.list (ls.map UJ)) (b:=.int n) ls [] B0 B0 (by rw[QX];lia);have e3:Ys (gN 3) (Up B2) (Kt (Uo 3)) (gN 4) (Up B2) (Uo 4) (ls.map UJ) (UQ [pb (.list (ls.map UJ)),pb (.int n),B0]++J8 2 B0) []=O ([]++ls.flatten.map int):=e2;rw[e3];rfl
    refine UP (Z0 h2 (Qa Z) Z) ?_;obtain⟨u,hu1,hu2⟩:=Dl hfl;refine U4 (Kq (UH (Zh (Ut (Z3 Z Z) Uy) hu1) (Ki Z K3) Z1)) ?_;rw[Qd,hu2];rw[V0,QE (by lia:(ls.map UJ).length<=5),e,e2,JM,JM]
 |dict kvs=>exact UL (b:=B2) (YU (VQ (Uu Z))) (λ_=>U4 Uv (KL Z)) (λz=>by cases z)
 |_=>exact UL (b:=B2) (YU (KP (Uu Z) Z)) (λ_=>U4 Uv (KL Z)) (λz=>by cases z)
noncomputable def KY:D->Option (Str×D)
 |.tuple [c,l]=>(match c with
  |.list cs=>if 1<=cs.length/\cs.length<=6 then(match fb (Kz 8) 0 cs with
    |some k=>O ("copies", .int k)
    |none=>(match l with
     |.list ls=>if 1<=ls.length/\ls.length<=7 then(match fb (Zm cs.length) 0 ls with
       |some k=>O ("lists", .int k)
       |none=>B0)else O ("lists", .none)
     |_=>O ("lists", .none)))else O ("copies", .none)
  |_=>O ("copies", .none))
 |_=>O ("wishes", .none)
noncomputable def W0(o:Option (Str×D)):XR:=match o with
 |none=>.val .none
 |some (p,n)=>.exc (exD "NoWishes" [.str p,n])
theorem Xi{p:Str}{n:D}(h1:p.length<=1000)(h2:Y9 n=B2):Y8 "NoWishes" [.str p,n]=O [.str p,n]:=by have e:KR "NoWishes" = (["part", "number"]:List Str):=rfl;unfold Y8;rw[e];dsimp only;have h3:Y9 (.str p)=B2:=QE h1;rw[Qr ⟨rfl,by rw[Ju,Ju,h2,h3];rfl⟩]
theorem PB{j:Nat}(h:j<1000000):Y9 (.int j)=B2:=by
 unfold Y9;simp only[Qn,QY]
 constructor<;>lia
noncomputable def K8(c:D):Option (Str×D):=match c with
 |.list cs=>if 1<=cs.length/\cs.length<=6 then(match fb (Kz 8) 0 cs with
  |some k=>O ("copies", .int k)
  |none=>B0)else O ("copies", .none)
 |_=>O ("copies", .none)
noncomputable def Zw(n:Int)(l:D):Option (Str×D):=match l with
 |.list ls=>if 1<=ls.length/\ls.length<=7 then(match fb (Zm n) 0 ls with
  |some k=>O ("lists", .int k)
  |none=>B0)else O ("lists", .none)
 |_=>O ("lists", .none)
theorem TJ{m:Nat}{k:Int}:(!(decide ((1:Int)<=m)&&decide ((m:Int)<=k)))=decide (¬(1<=m/\(m:Int)<=k)):=by
 by_cases h:(1:Int)<=m<;>by_cases h2:(m:Int)<=k
 .rw[QE h,QE h2,QP (by lia)];rfl
 .rw[QP h2,Bool.and_false,QE (by lia)];rfl
 .rw[QP h,Bool.false_and,QE (by lia)];rfl
 .rw[QP h,Bool.false_and,QE (by lia)];rfl
theorem HJ(d:D):Sa [d]=O (W0 (K8 d)):=by
 refine V5 (ρ:=[pb d,B0,B0]) Z ?_;unfold RL;apply UT;cases d with
 |list cs=>
  apply UL
  case h1=>exact Zb (ρ1:=[pb (.list cs),B0,B0]) (KP (Uu Z) Z) (K0 (Vl Uv (Ki Z K3) Z (λ_=>Uv) (λ_=>rfl)))
  case h2=>intro hh;rw[TJ]at hh;have hh:=Qa hh;refine Kr (Y1 (Ut Uv (Ut Uv Uy)) (Xi (by decide) Z)) (Yu ?_);unfold K8;dsimp only;rw[QD (by lia)];exact⟨rfl,rfl⟩
  case h3=>
   intro hh;rw[TJ]at hh;have hh:=of_decide_eq_false hh;have hl:1<=cs.length/\cs.length<=6:=by lia
   have ed:K8 (.list cs)=(match fb (Kz 8) 0 cs with
    |some k=>O ("copies", .int k)
    |none=>B0):=by unfold K8;dsimp only;rw[if_pos hl]
   refine UX (UV ?_);rw[ed];refine Ou (xs:=cs) (Kz 8) (λρ=>∃x1 x2,ρ=[pb (.list cs),x1,x2]) (TC (Ut (Uu Z) Uy) TU) ⟨_,_,rfl⟩ ?_ ?_
   .rintro x hx j ρ hj ⟨x1,x2,rfl⟩
    refine⟨_,KU Z (U7 (UF (Qa Z) Z) (U7 (UF (Qa Z) Z) KW)),?_⟩;unfold Mf;refine UL (K0 (Zi (U0 (Ut (Uu Z) (Ut (UH Uv Uv Zg) Uy)) Z (TK x 8)))) (λz=>?_) λz=>?_
    .refine Kr (Y1 (Ut Uv (Ut (Uu Z) Uy)) (Xi (by decide) (PB (by lia)))) (RV (by simpa using z) λe=>?_)
     rw[e];exact⟨rfl,rfl⟩
    .exact UX (RW (by simpa using z) ⟨_,_,rfl⟩)
   .intro e ρ _
    rw[e];rfl
 |dict kvs=>exact UL (b:=B2) (YU (VQ (Uu Z))) (λ_=>Kr (Y1 (Ut Uv (Ut Uv Uy)) (Xi (by decide) Z)) (Yu ⟨rfl,rfl⟩)) (λz=>by cases z)
 |_=>exact UL (b:=B2) (YU (KP (Uu Z) Z)) (λ_=>Kr (Y1 (Ut Uv (Ut Uv Uy)) (Xi (by decide) Z)) (Yu ⟨rfl,rfl⟩)) (λz=>by cases z)
theorem Hg{d:D}{n:Int}(hs:∀ls,d=.list ls->ls.length<=7->∀x∈ls,XF x):T9 [d,.int n]=O (W0 (Zw n d)):=by
 refine V5 (ρ:=[pb d,pb (.int n),B0,B0]) Z ?_;unfold RM;apply UT;cases d with
 |list cs=>
  apply UL
  case h1=>exact Zb (ρ1:=[pb (.list cs),pb (.int n),B0,B0]) (KP (Uu Z) Z) (K0 (Vl Uv (Ki Z K3) Z (λ_=>Uv) (λ_=>rfl)))
  case h2=>intro hh;rw[TJ]at hh;have hh:=Qa hh;refine Kr (Y1 (Ut Uv (Ut Uv Uy)) (Xi (by decide) Z)) (Yu ?_);unfold Zw;dsimp only;rw[QD (by lia)];exact⟨rfl,rfl⟩
  case h3=>
   intro hh;rw[TJ]at hh;have hh:=of_decide_eq_false hh;have hl:1<=cs.length/\cs.length<=7:=by lia
   have hs:=hs cs Z hl.2
   have ed:Zw n (.list cs)=(match fb (Zm n) 0 cs with
    |some k=>O ("lists", .int k)
    |none=>B0):=by unfold Zw;dsimp only;rw[if_pos hl]
   refine UX (UV ?_);rw[ed];refine Ou (xs:=cs) (Zm n) (λρ=>∃x1 x2,ρ=[pb (.list cs),pb (.int n),x1,x2]) (TC (Ut (Uu Z) Uy) TU) ⟨_,_,rfl⟩ ?_ ?_
   .rintro x hx j ρ hj ⟨x1,x2,rfl⟩
    refine⟨_,KU Z (U7 (UF (Qa Z) Z) (U7 (UF (Qa Z) Z) KW)),?_⟩;unfold Me;refine UL (K0 (Zi (U0 (Ut (Uu Z) (Ut (Uu Z) Uy)) Z (Bq (n:=n) (hs x hx))))) (λz=>?_) λz=>?_
    .refine Kr (Y1 (Ut Uv (Ut (Uu Z) Uy)) (Xi (by decide) (PB (by lia)))) (RV (by simpa using z) λe=>?_)
     rw[e];exact⟨rfl,rfl⟩
    .exact UX (RW (by simpa using z) ⟨_,_,rfl⟩)
   .intro e ρ _
    rw[e];rfl
 |dict kvs=>exact UL (b:=B2) (YU (VQ (Uu Z))) (λ_=>Kr (Y1 (Ut Uv (Ut Uv Uy)) (Xi (by decide) Z)) (Yu ⟨rfl,rfl⟩)) (λz=>by cases z)
 |_=>exact UL (b:=B2) (YU (KP (Uu Z) Z)) (λ_=>Kr (Y1 (Ut Uv (Ut Uv Uy)) (Xi (by decide) Z)) (Yu ⟨rfl,rfl⟩)) (λz=>by cases z)
def XB(d:D):Prop:=∀c ls,d=.tuple [c,.list ls]->ls.length<=7->∀x∈ls,XF x
theorem OV(c l:D):KY (.tuple [c,l])=(match K8 c with
  |some x=>O x
  |none=>(match c with | .list cs=>Zw cs.length l|_=>B0)):=by
 unfold KY K8 Zw;cases c with
 |list cs=>
  dsimp only;by_cases h:1<=cs.length/\cs.length<=6
  .rw[Qr h,Qr h]
   cases fb (Kz 8) 0 cs with
   |some k=>rfl
   |none=>cases l<;>rfl
  .rw[QD h,QD h]
 |_=>rfl
theorem S3{d:D}(hs:XB d):Wd [d]=O (W0 (KY d)):=by
 refine V5 (ρ:=[pb d,B0,B0]) Z ?_;unfold RK;apply UT;have odd:∀{o:Out->Prop},Ho (Y2 "NoWishes" (Ur (Up (.str "wishes")) (Ur (Up .none) (Uq)))) [O (.pub d),B0,B0] (λz=>z=.ex [O (.pub d),B0,B0] (exD "NoWishes" [.str "wishes", .none])):=Kr (Y1 (Ut Uv (Ut Uv Uy)) (Xi (by decide) Z)) Z;cases d with
 |tuple xs=>
  by_cases hl:xs.length=2
  .obtain⟨c,l,rfl⟩:∃c l,xs=[c,l]:=by
    match xs,hl with
    |[c,l],_=>exact⟨c,l,rfl⟩
   apply UL
   case h1=>exact Zb (ρ1:=[pb (.tuple [c,l]),B0,B0]) (KP (Uu Z) Z) (UH (Ki Z Z) Uv VR)
   case h2=>intro hh;cases hh
   case h3=>
    intro _;refine UX (UV ?_);refine UP (Wt (Uu Z) (KU Z (U7 (UF (Qa Z) Z) (U7 (UF (Qa Z) Z) KW)))) ?_;rw[OV];have hc:=HJ c;cases z:K8 c with
    |some x=>obtain⟨p,n⟩:=x;rw[z]at hc;apply UT;exact Kr (VA (YA (Ut (Uu Z) Uy) Z hc)) (Yu ⟨rfl,rfl⟩)
    |none=>
     rw[z]at hc
     obtain⟨cs,rfl⟩:∃cs,c=.list cs:=by
      unfold K8 at z;cases c with
      |list cs=>exact⟨cs,rfl⟩
      |_=>cases z
     refine UP (W5 (YA (Ut (Uu Z) Uy) Z hc) Z) ?_;have hL:=Hg (d:=l) (n:=cs.length) (λls e=>hs (.list cs) ls (by rw[e]));dsimp only;cases z2:Zw cs.length l with
     |some x=>obtain⟨p,n⟩:=x;rw[z2]at hL;exact Kr (VA (YA (Ut (Uu Z) (Ut (Ki Z K3) Uy)) Z hL)) ⟨rfl,rfl⟩
     |none=>rw[z2]at hL;exact Kr (W5 (YA (Ut (Uu Z) (Ut (Ki Z K3) Uy)) Z hL) Z) Z
  .have hd:KY (.tuple xs)=O (("wishes" : Str),(.none:D)):=by
    unfold KY;split
    .rename_i h;cases h;exact absurd Z hl
    .rfl
   apply UL
   case h1=>exact Zb (ρ1:=[pb (.tuple xs),B0,B0]) (KP (Uu Z) Z) (UH (Ki Z Rc) Uv VR)
   case h2=>intro _;refine Vi (odd (o:=λ_=>True)) λo e=>?_;subst e;exact Yu (by rw[hd];exact⟨rfl,rfl⟩)
   case h3=>
    intro hh;have:(xs.length:Int)=2:=by simpa using hh
    lia
 |dict kvs=>exact UL (b:=B2) (YU (VQ (Uu Z))) (λ_=>Vi (odd (o:=λ_=>True)) λo e=>by subst e;exact Yu ⟨rfl,rfl⟩) (λz=>by cases z)
 |_=>exact UL (b:=B2) (YU (KP (Uu Z) Z)) (λ_=>Vi (odd (o:=λ_=>True)) λo e=>by subst e;exact Yu ⟨rfl,rfl⟩) (λz=>by cases z)
theorem NT(d:D):Zy [d]=O (.bool (whB d)):=by
 cases d with
 |dict kvs=>exact Zc (ρ:=[pb (.dict kvs)]) Z (U4 (Yw (t:=B3) (u:=B3) (Ph (Uu Z)) λz=>by cases z) Z)
 |_=>rfl
mutual
noncomputable def wB(n:Nat):D->Bool
 |.list xs=>decide (xs.length<=n)&&wBs n xs
 |.tuple xs=>decide (xs.length<=n)&&wBs n xs
 |_=>B2
noncomputable def wBs(n:Nat):B4->Bool
 |[]=>B2
 |x::r=>wB n x&&wBs n r
end
theorem S2{n:Nat}:∀{xs:B4},wBs n xs=B2 ↔ ∀x∈xs,wB n x=B2
 |[]=>by simp[wBs]
 |x::r=>by rw[wBs,Bool.and_eq_true,S2 (xs:=r)];simp
theorem Wy{n:Nat}{xs:B4}:wB n (.list xs)=B2 ↔ xs.length<=n/\∀x∈xs,wB n x=B2:=by rw[wB,Qn,QY,S2]
theorem R9{n:Nat}{xs:B4}:wB n (.tuple xs)=B2 ↔ xs.length<=n/\∀x∈xs,wB n x=B2:=by rw[wB,Qn,QY,S2]
mutual
theorem S1{n m:Nat}(h:n<=m):∀(d:D),wB n d=B2->wB m d=B2
 |.list xs,e=>by rw[wB,Qn,QY]at e⊢;exact⟨Qq e.1 h,wBs_mono h xs e.2⟩
 |.tuple xs,e=>by rw[wB,Qn,QY]at e⊢;exact⟨Qq e.1 h,wBs_mono h xs e.2⟩
 |.none,_=>rfl
 |.bool _,_=>rfl
 |.int _,_=>rfl
 |.str _,_=>rfl
 |.dict _,_=>rfl
theorem wBs_mono{n m:Nat}(h:n<=m):∀(xs:B4),wBs n xs=B2->wBs m xs=B2
 |[],_=>rfl
 |x::r,e=>by rw[wBs,Qn]at e⊢;exact⟨S1 h x e.1,wBs_mono h r e.2⟩
end
theorem HI{d:D}(h:wB 700 d=B2):XB d:=λc ls e _ x hx rs e2 xs hxs=>by subst e;have h1:=(R9.mp h).2 (.list ls) (by simp);have h2:=(Wy.mp h1).2 x hx;subst e2;exact(Wy.mp ((Wy.mp h2).2 _ hxs)).1
theorem Dk{cs:B6}{ls:L3}(g:Good cs ls):wB 7 (.list (cs.map int))=B2/\wB 7 (.list (ls.map UE))=B2:=by
 constructor
 .refine Wy.mpr ⟨by rw[Qd];have:=g.c6;lia,λx hx=>?_⟩
  obtain⟨i,_,rfl⟩:=Qw.mp hx;rfl
 .refine Wy.mpr ⟨by rw[Qd];exact g.l7,λx hx=>?_⟩
  obtain⟨rs,hrs,rfl⟩:=Qw.mp hx;have gr:=g.rk rs hrs;refine Wy.mpr ⟨by rw[Qd];have:=gr.few;lia,λy hy=>?_⟩;obtain⟨r,hr,rfl⟩:=Qw.mp hy;have h1:r.length<=rs.flatten.length:=List.Sublist.length_le (List.sublist_flatten_of_mem hr);have h2:=VW gr;have:=g.c6;refine Wy.mpr ⟨by rw[Qd];lia,λz hz=>?_⟩;obtain⟨i,_,rfl⟩:=Qw.mp hz;rfl
mutual
noncomputable def hZ:D->Bool
 |.none | .bool _=>B2
 |.int i=>decide (i.natAbs<10000000000000000000)
 |.str z=>Uc z&&decide (z.length<=20)
 |.list xs | .tuple xs=>hZs xs
 |.dict []=>B2
 |.dict (_::_)=>B3
noncomputable def hZs:B4->Bool
 |[]=>B2
 |x::xs=>hZ x&&hZs xs
end
theorem S0:∀{xs:B4},hZs xs=B2 ↔ ∀x∈xs,hZ x=B2
 |[]=>by simp[hZs]
 |x::r=>by rw[hZs,Bool.and_eq_true,S0 (xs:=r)];simp
def EZ(k:Nat)(d:D):Prop:=hZ d=B2/\d.depth<=k
theorem EZ.mono{k m:Nat}{d:D}(h:k<=m)(e:EZ k d):EZ m d:=⟨e.1,Qq e.2 h⟩
theorem RD{k:Nat}:∀{xs:B4},(∀x∈xs,x.depth<=k)->PyData.depthAll xs<=k
 |[],_=>by simp[PyData.depthAll]
 |x::r,h=>by have h1:=h x Qk;have h2:=RD (xs:=r) λy hy=>h y (Qj _ hy);simp only[PyData.depthAll];omega
theorem Pz{k:Nat}{xs:B4}(h:∀x∈xs,EZ k x):EZ (k+1) (.list xs):=by
 refine⟨S0.mpr λx hx=>(h x hx).1,?_⟩;have:=RD λx hx=>(h x hx).2
 simp only[Ue];omega
theorem Hf{k:Nat}{xs:B4}(h:∀x∈xs,EZ k x):EZ (k+1) (.tuple xs):=by
 refine⟨S0.mpr λx hx=>(h x hx).1,?_⟩;have:=RD λx hx=>(h x hx).2
 simp only[Ue];omega
theorem Dj{i:Int}(h:i.natAbs<10000000000000000000):i.natAbs.log2<1920:=by
 by_cases z:i.natAbs=0
 .rw[z];decide
 .have:=(Nat.log2_lt z).mpr (show i.natAbs<2 ^ 64 by omega)
  omega
mutual
theorem R8:∀{d:D},hZ d=B2->Kk d=B2/\d.showable=B2/\d.leavesShort 24=B2
 |.none,_=>⟨rfl,rfl,rfl⟩
 |.bool _,_=>⟨rfl,rfl,rfl⟩
 |.int i,h=>by
  have h:i.natAbs<10000000000000000000:=by simpa[hZ]using h
  refine⟨rfl,?_,?_⟩
  .simp only[PyData.showable,QY]
   exact Dj h
  .simp only[PyData.leavesShort,QY]
   show(Uh (toString i)).length<=24
   rw[PySem.ofString_length];have:=PySem.int_text_length_le10 (a:=i) (k:=19) (by decide) h;omega
 |.str z,h=>by
  have h:Uc z=B2/\z.length<=20:=by simpa[hZ]using h
  refine⟨by simpa[Kk]using h.1,rfl,?_⟩;simp only[PyData.leavesShort,QS,QY];intro c hc;have h1:=h.1;unfold Uc at h1;rw[←Array.all_toList,QS]at h1;have:=h1 c hc;simp only[QY]at this;omega
 |.list xs,h=>by obtain⟨a,b,c⟩:=hZs_all (xs:=xs) (by simpa[hZ]using h);exact⟨by simpa[Kk]using a,by simpa[PyData.showable]using b,by simpa[PyData.leavesShort]using c⟩
 |.tuple xs,h=>by obtain⟨a,b,c⟩:=hZs_all (xs:=xs) (by simpa[hZ]using h);exact⟨by simpa[Kk]using a,by simpa[PyData.showable]using b,by simpa[PyData.leavesShort]using c⟩
 |.dict [],_=>⟨rfl,rfl,rfl⟩
 |.dict (_::_),h=>by simp[hZ]at h
theorem hZs_all:∀{xs:B4},hZs xs=B2->Yy xs=B2/\PyData.showableAll xs=B2/\PyData.leavesShortAll 24 xs=B2
 |[],_=>⟨rfl,rfl,rfl⟩
 |x::r,h=>by rw[hZs,Qn]at h;obtain⟨a,b,c⟩:=R8 h.1;obtain⟨a',b',c'⟩:=hZs_all h.2;exact⟨by rw[Yy,a,a'];rfl,by rw[PyData.showableAll,b,b'];rfl,by rw[PyData.leavesShortAll,c,c'];rfl⟩
end
theorem ET{d:D}{k:Nat}(h:EZ k d)(hk:k<=50)(hb:d.bulk<=30000):YS [d]=O (.str d.shown):=by obtain⟨a,b,c⟩:=R8 h.1;refine Cj ⟨a,b,Qq h.2 hk,?_⟩;have:=PyData.shown_le_bulk 24 (by decide) d c;omega
theorem SZ{p:D->Bool}:∀{xs:B4}{k:Nat},(∀x∈xs,p x=B2)->fb p k xs=B0
 |[],_,_=>rfl
 |x::r,k,h=>by unfold fb;rw[Qr (h x Qk)];exact SZ λy hy=>h y (Qj _ hy)
theorem HH(rs:List B6):flI (rs.map UJ)=rs.flatten:=by
 unfold flI;induction rs with
 |nil=>rfl
 |cons r t ih=>
  rw[Qu,List.flatMap_cons,ih,QN]
  congr 1
  show(r.map int).filterMap whI=r
  rw[List.filterMap_map];show r.filterMap (λi=>O i)=r;simp
theorem Di{n:Nat}{rs:List B6}(g:Km n rs):Zm n (UE rs)=B2:=by
 show Zm n (.list (rs.map UJ))=B2;rw[V0,HH,QE g.once,Qd,QE g.few];simp only[JM,Bool.and_true,QS];intro x hx;obtain⟨r,hr,rfl⟩:=Qw.mp hx;have hn:=g.some r hr;have ht:=g.there r hr;cases r with
 |nil=>exact absurd Z hn
 |cons i q=>
  show((int i::q.map int).all (Kz n))=B2
  rw[QS];intro y hy;have hy:y∈(i::q).map int:=hy;obtain⟨z,hz,rfl⟩:=Qw.mp hy;have:=ht z hz
  show(decide (0<=z)&&decide (z<(n:Int)))=B2
  rw[QE this.1,QE this.2];rfl
theorem Dh{cs:B6}{ls:L3}(g:Good cs ls):KY (UO cs ls)=B0:=by
 show KY (.tuple [.list (cs.map int),.list (ls.map UE)])=B0;rw[OV];have c1:=g.c1;have c6:=g.c6;have l1:=g.l1;have l7:=g.l7
 have e1:K8 (.list (cs.map int))=B0:=by
  unfold K8;dsimp only;rw[Qr (by rw[Qd];lia),SZ];intro x hx;obtain⟨i,hi,rfl⟩:=Qw.mp hx;have:=g.c7 i hi
  show(decide (0<=i)&&decide (i<8))=B2
  rw[QE this.1,QE this.2];rfl
 rw[e1];dsimp only;unfold Zw;dsimp only;rw[Qr (by rw[Qd];lia),SZ];intro x hx;obtain⟨rs,hrs,rfl⟩:=Qw.mp hx;rw[Qd];exact Di (g.rk rs hrs)
theorem Se{cs:B6}{ls:L3}(g:Good cs ls):Wd [UO cs ls]=O (.val .none):=by
 have wg:wB 448 (UO cs ls)=B2:=by
  obtain⟨a1,a2⟩:=Dk g
  exact S1 (n:=7) (by decide) _ (R9.mpr ⟨show 2<=7 by decide,λx hx=>by
   have hx:x=.list (cs.map int)∨x=.list (ls.map UE):=by simpa using hx
   rcases hx with rfl|rfl
   .exact a1
   .exact a2⟩)
 have hx:=S3 (HI (S1 (m:=700) (by decide) _ wg));rw[Dh g]at hx;exact hx
theorem W1{α:Type}{s:D->Um->Ab}{f:M D}(e k:α->D)(I:Um->Prop):∀(l:List α)(ρ:Um)(es:B4),(∀x∈l,∀ρ,I ρ->∃ρ1,s (e x) ρ=O ρ1/\f ρ1=.ok (k x) ρ1/\I (UQ ρ1))->I ρ->es.length+l.length<=1000000 ->
  cTT s (Up B2) f (l.map e) ρ es=O (es++l.map k)
 |[],ρ,es,_,_,_=>by rw[JO,cTT,JO,QT]
 |x::l,ρ,es,st,h0,hz=>by rw[QB]at hz;obtain⟨ρ1,e1,e2,e3⟩:=st x Qk ρ h0;rw[Qu,cTT,e1];dsimp only[Up];rw[Qr Z,e2];dsimp only;rw[Qr (by lia),Qu];refine(W1 e k I l _ (es++[k x]) (λy hy=>st y (Qj _ hy)) e3 (by rw[Qo,QK];lia)).trans ?_;rw[Jf];rfl
theorem SY{N:List Str}{g:SM}{f:M D}{ds:B4}{d:D}{ρ:Um}(h0:KQ N ds=ρ)(h:Ho g ρ λo=>∃ρ1,o=.nx ρ1/\∃ρ2,f ρ1=.ok d ρ2):YM N g f ds=O d:=by obtain⟨d',h1,h2⟩:=MM (P:=λx=>x=d) h0 (by obtain⟨ρ1,e,ρ2,e2⟩:=h.out;exact⟨⟨ρ1,e,d,ρ2,e2,rfl⟩⟩);rw[←h2];exact h1
theorem HG{xs:B4}{a:Nat}:DL.cutD xs B0 (O (a:Int))=xs.take a:=by
 unfold DL.cutD HT.sIx;dsimp only;rw[QD (by omega),List.drop_zero,Nat.sub_zero,JD];rcases Nat.le_total a xs.length with h|h
 .rw[Nat.min_eq_left h]
 .rw[Nat.min_eq_right h,List.take_length,List.take_of_length_le h]
theorem OU{xs:B4}{a:Nat}:DL.cutD xs (O (a:Int)) B0=xs.drop a:=by
 unfold DL.cutD HT.sIx;dsimp only;rw[QD (by omega),JD];rcases Nat.le_total a xs.length with h|h
 .rw[Nat.min_eq_left h,←JH,List.take_length]
 .rw[Nat.min_eq_right h,List.drop_length,List.drop_of_length_le h,Nat.sub_self];rfl
theorem XA{α:Type}{s:D->Um->Ab}{f:M D}(e k:α->D)(I:Um->Prop):∀(l:List α)(ρ:Um)(es:B4),(∀x∈l,∀ρ,I ρ->∃ρ1,s (e x) ρ=O ρ1/\f ρ1=.ok (k x) ρ1/\I (UQ ρ1))->I ρ->es.length+l.length<=1000000 ->
  KJ s (Up B2) f (l.map e) ρ es=O (es++l.map k)
 |[],ρ,es,_,_,_=>by rw[JO,KJ,JO,QT]
 |x::l,ρ,es,st,h0,hz=>by rw[QB]at hz;obtain⟨ρ1,e1,e2,e3⟩:=st x Qk ρ h0;rw[Qu,KJ,e1];dsimp only[Up];rw[Qr Z,e2];dsimp only;rw[Qr (by omega),Qu];refine(XA e k I l _ (es++[k x]) (λy hy=>st y (Qj _ hy)) e3 (by rw[Qo,QK];omega)).trans ?_;rw[Jf];rfl
section
variable{cs:B6}{ls:L3}{ts as:List Str}
theorem VU{n:Nat}{rs:List B6}{r:B6}(g:Km n rs)(hr:r∈rs):r.length<=n:=Qq (List.Sublist.length_le (List.sublist_flatten_of_mem hr)) (VW g)
end
theorem Ss{p:D->Bool}:∀{xs:B4}{k:Nat},fb p k xs=B0->∀x∈xs,p x=B2
 |[],_,_,x,hx=>by cases hx
 |y::r,k,h,x,hx=>by
  rw[fb]at h;by_cases hp:p y=B2
  .rw[Qr hp]at h
   rcases QM.mp hx with rfl|hx
   .exact hp
   .exact Ss h x hx
  .rw[QD hp]at h;cases h
theorem ES{n:Nat}{x:D}(hs:XF x)(h:Zm n x=B2):∃rs,x=UE rs/\Km n rs:=by
 cases x with
 |list rs=>
  rw[V0,Qn,Qn]at h;obtain⟨ls,e1,e2,_⟩:=RE h.2.1 (hs rs Z);subst e1;have hall:=QS.mp h.2.1;have hr:∀r∈ls,rkB n (UJ r)=B2:=λr m=>hall _ (Qw.mpr ⟨r,m,rfl⟩)
  refine⟨ls,rfl,⟨?_,λr m e=>?_,λr m t ht=>?_,?_⟩⟩
  .have:=Qa h.1
   rwa[Qd]at this
  .have:=hr r m
   rw[e]at this;cases this
  .have hq:=hr r m
   unfold UJ at hq;cases r with
   |nil=>cases ht
   |cons a r'=>have hq:((a::r').map int).all (Kz n)=B2:=hq;have:=QS.mp hq _ (Qw.mpr ⟨t,ht,rfl⟩);have:(decide (0<=t)&&decide (t<(n:Int)))=B2:=this;rw[Qn]at this;exact⟨Qa this.1,Qa this.2⟩
  .rw[←e2];exact Qa h.2.2
 |_=>cases h
theorem OM{n:Nat}:∀{ls:B4},(∀x∈ls,∃rs,x=UE rs/\Km n rs)->∃lss:L3,ls=lss.map UE/\∀rs∈lss,Km n rs
 |[],_=>⟨[],rfl,λ_ h=>by cases h⟩
 |x::r,h=>by
  obtain⟨rs,e,g⟩:=h x Qk;obtain⟨lss,e2,g2⟩:=OM λy hy=>h y (Qj _ hy)
  refine⟨rs::lss,by rw[Qu,e,e2],λq hq=>?_⟩;rcases QM.mp hq with rfl|hq
  .exact g
  .exact g2 q hq
theorem HF{d:D}(hs:XB d)(h:KY d=B0):∃cs ls,d=UO cs ls/\Good cs ls:=by
 unfold KY at h;split at h
 .rename_i c l
  split at h
  .rename_i cs
   split at h
   .rename_i hc
    split at h
    .cases h
    .rename_i hf
     split at h
     .rename_i ls
      split at h
      .rename_i hl
       split at h
       .cases h
       .rename_i hg
        have hb:=Ss hf;have e:=S5 (QS.mpr hb);obtain⟨lss,e2,g2⟩:=OM λx hx=>ES (hs _ _ Z hl.2 x hx) (Ss hg x hx)
        have len:(cs.filterMap whI).length=cs.length:=by rw[←Qd (f:=int),←e]
        refine⟨cs.filterMap whI,lss,?_,⟨by rw[len];exact hc.1,by rw[len];exact hc.2,λc AR=>?_,?_,?_,λrs hr=>by rw[len];exact g2 rs hr⟩⟩
        .unfold UO
         rw[←e,←e2]
        .obtain⟨x,hx,hw⟩:=List.mem_filterMap.mp AR
         obtain⟨i,rfl,h0,h8⟩:=ON (hb x hx);cases hw;exact⟨h0,h8⟩
        .rw[e2,Qd]at hl;exact hl.1
        .rw[e2,Qd]at hl;exact hl.2
      .cases h
     .cases h
   .cases h
  .cases h
 .cases h
inductive Chg where
 |lst (a:Nat) (rs:List B6)
 |cop (t k:Nat)
 |com (rs:List B6)
 |go (a:Nat)
 |thg (k:Nat)
noncomputable def chD:Chg->D
 |.lst a rs=>.tuple [.str "list", .int a,UE rs]
 |.cop t k=>.tuple [.str "copies", .int t,.int k]
 |.com rs=>.tuple [.str "come", UE rs]
 |.go a=>.tuple [.str "go", .int a]
 |.thg k=>.tuple [.str "thing", .int k]
noncomputable def KF(n m:Nat):Chg->Prop
 |.lst a rs=>a<=m/\Km 7 rs
 |.cop t k=>t<=n/\k<10
 |.com rs=>Km 7 rs
 |.go a=>a<=m
 |.thg k=>k<10
noncomputable def chW(cs:B6)(ls:L3):Chg->B6×L3
 |.lst a rs=>(cs,ls.set a rs)
 |.cop t k=>(cs.set t k,ls)
 |.com rs=>(cs,ls++[rs])
 |.go a=>(cs,ls.eraseIdx a)
 |.thg k=>(cs++[(k:Int)],ls)
noncomputable def under(n:Nat)(rs:List B6):Bool:=rs.flatten.all λt=>decide (t<(n:Int))
noncomputable def Kd(n m:Nat):Chg->Bool
 |.lst a rs=>decide (a<m)&&under n rs
 |.cop t k=>decide (t<n)&&decide (k<8)
 |.com rs=>decide (m<7)&&under n rs
 |.go a=>decide (a<m)&&decide (1<m)
 |.thg k=>decide (n<6)&&decide (k<8)
theorem BN{pl:B6}{n:Nat}(hn:n<=7)(hp:n<=pl.length):∃r,XN [.list (pl.map int),.int n]=O r/\∃rs,r=UE rs/\Km n rs:=by
 let P:Option Sl:=O (.pub (.list (pl.map int)))
 let N:Option Sl:=O (.pub (.int n))
 refine VI (ρ:=[P,N,B0,B0,B0]) Z ?_;unfold WR;refine UP (ρ1:=[P,N,O (.own []),B0,B0]) (Z0 (VT Uy (Qa Z)) (Qa Z) Z) ?_;apply UT;apply YW (ds:=KT 1 6) (λj ρ=>∃rs x3 x4,ρ=[P,N,O (.own (rs.map UJ)),x3,x4]/\YQ n pl j rs)
 case h1=>exact SU (Ut Uv (Ut Uv Uy)) (Rb (by decide) (by decide) (by decide) (by decide))
 case h0=>exact⟨[],B0,B0,rfl,⟨Nat.le_refl 0,by simp,by simp,List.nodup_nil⟩⟩
 case hst=>
  rintro j d ρ hj ⟨rs,x3,x4,rfl,g⟩;obtain⟨rfl,hlt⟩:=V3 hj;refine⟨[P,N,O (.own (rs.map UJ)),pb (.int (1+(j:Int))),x4],UF (Qa Z) Z,?_⟩;unfold P3
  have hrd:KT 0 ((n:Nat):Int)=(J7 n).map λk=>.int (k:Int):=by
   unfold KT;have:((n:Int)-0).toNat=n:=by lia
   rw[this];apply List.map_congr_left;intro k _;rw[Int.zero_add]
  have hc:KJ (gN 5) (Uw oEq (Ux 0 (Uo 5)) (Uo 3)) (Uo 5) (KT 0 ((n:Nat):Int)) (UQ [P,N,O (.own (rs.map UJ)),pb (.int (1+(j:Int))),x4]++J8 1 B0) []=O ((ZR n pl (1+(j:Int))).map int):=by
   rw[hrd,Wa (λd=>match d with | .int k=>decide (pl.getD k.toNat 0=1+(j:Int))|_=>B3) (λd=>d) (λρ=>∃x,ρ=[P,N,B0,pb (.int (1+(j:Int))),Kn x4,x])]
   .rw[Jp,List.map_id',List.filter_map]
    unfold ZR;rw[Jg];rfl
   .rintro d hm ρ ⟨x,rfl⟩
    obtain⟨k,hk,rfl⟩:=Qw.mp hm;have hk:=Jz.mp hk;refine⟨_,UF (Qa Z) Z,UH (UN Z (Uu Z) (SI (by lia))) (Uu Z) Z1,λ_=>Uu Z,pb (.int k),?_⟩;unfold UQ;cases x4 with
    |none=>rfl
    |some sl=>cases sl<;>rfl
   .exact⟨B0,rfl⟩
   .rw[Qd,List.length_range,QX];lia
  refine UP (ρ1:=[P,N,O (.own (rs.map UJ)),pb (.int (1+(j:Int))),O (.own ((ZR n pl (1+(j:Int))).map int))]) (Z0 (YB (TD (Ut (Uu Z) Uy) (TV (by lia) (by lia))) hc) (Qa Z) Z) ?_;have hnd:=Nr n pl (1+(j:Int));have hall:∀t∈ZR n pl (1+(j:Int)),t∈ZR n pl (1+(j:Int)):=λ_ h=>h;generalize AX:ZR n pl (1+(j:Int))=row at hnd hall⊢;apply UL
  case h1=>exact Ov Z (Z4 Uy (by decide)) Z O0
  case h2=>
   intro hh;have hne:row≠[]:=by simpa using hh
   have qw:(rs.map UJ).length<1000000:=by rw[Qd];have:=g.few;lia
   exact Kr (X1 Z (Z3 Z Z) Z qw Z) (ZX ⟨rs++[row],_,pb (UJ row),by rw[Q2];rfl,g.add hne (by rw[AX];exact λ_ h=>h) hnd⟩)
  case h3=>exact λ_=>UX (ZX ⟨rs,_,_,rfl,g.next⟩)
 case hend=>rintro ρ ⟨rs,x3,x4,rfl,g⟩;exact UV (U4 (Z3 rfl rfl) ⟨_,rfl,rs,rfl,g.good⟩)
theorem Km.rev{n:Nat}{rs:List B6}(g:Km n rs):Km n (rs.map List.reverse):=by
 refine⟨by rw[Qd];exact g.few,λr hr=>?_,λr hr t ht=>?_,?_⟩
 .obtain⟨q,hq,rfl⟩:=Qw.mp hr
  exact λz=>g.some q hq (List.reverse_eq_nil_iff.mp z)
 .obtain⟨q,hq,rfl⟩:=Qw.mp hr
  exact g.there q hq t (List.mem_reverse.mp ht)
 .have:(rs.map List.reverse).flatten.Perm rs.flatten:=by
   induction rs with
   |nil=>exact .refl _
   |cons r rs ih=>rw[Qu,QN,QN];refine(List.reverse_perm r).append (ih ⟨Qq (Jn _) g.few,λq hq=>g.some q (Qj _ hq),λq hq=>g.there q (Qj _ hq),?_⟩);have:=g.once;rw[QN]at this;exact(QH.mp this).2.1
  exact this.nodup_iff.mpr g.once
theorem Km.wide{n m:Nat}{rs:List B6}(g:Km n rs)(h:n<=m):Km m rs:=⟨g.few,g.some,λr hr t ht=>by have:=g.there r hr t ht;lia,g.once⟩
theorem ER{rs:List B6}{A B C E F G H:Option Sl}(h:rs.length<=1000):Zq (Kt (Uo 7)) 1 (gN 8) (Up B2) (Yc (Uo 8) (Up B0) (Up B0) (UD (K9 (Up (.int 1))) λx=>UB (Zz x))) [A,B,C,E,F,G,H,pb (UE rs)]=.ok ((rs.map List.reverse).map UJ) [A,B,C,E,F,G,H,pb (UE rs)]:=by
 refine YB (ds:=rs.map UJ) (Zp (Uu Z) Z) ?_;rw[Jg];refine(XA UJ (λr=>UJ r.reverse) (λρ=>∃x,ρ=[Kn A,Kn B,Kn C,Kn E,Kn F,Kn G,Kn H,pb (UE rs),x]) rs _ [] ?_ ?_ (by rw[QX];lia)).trans Z
 .rintro r hr ρ ⟨x,rfl⟩
  refine⟨_,UF (Qa Z) Z,?_,pb (UJ r),?_⟩
  .have e:UJ r.reverse=.list (r.map int).reverse:=by unfold UJ;rw[List.map_reverse]
   rw[e];exact Pj (Uu Z) Uv Uv (Z2 (VJ Uv))
  .have hh:∀s:Option Sl,Kn (Kn s)=Kn s:=λs=>by cases s with|none=>rfl|some sl=>cases sl<;>rfl
   show [Kn (Kn A),Kn (Kn B),Kn (Kn C),Kn (Kn E),Kn (Kn F),Kn (Kn G),Kn (Kn H),_,_]=_;rw[hh,hh,hh,hh,hh,hh,hh];rfl
 .exact⟨B0,rfl⟩
noncomputable def szH:B6:=[6,8,7,10,9,6,6,6,6,6,6,6,2]
theorem He:∀x∈szH,0<x/\x<18446744073709551616:=by decide
theorem BB{cs:B6}{ls:L3}(g:Good cs ls)(c s:Int):∃r,XJ [UO cs ls,.int c,.int s]=O r/\∃ch,r=chD ch/\KF cs.length ls.length ch:=by
 obtain⟨r,hn,ds,rfl,hdl,hdb⟩:=RB c s (sizes:=szH) He (by decide)
 match ds,hdl with
 |[d0,d1,d2,d3,d4,d5,d6,d7,d8,d9,d10,d11,d12],_=>
 have b0:=hdb 0 d0 6 Z Z;have b1:=hdb 1 d1 8 Z Z;have b2:=hdb 2 d2 7 Z Z;have b3:=hdb 3 d3 10 Z Z;have c6:=g.c6;have l7:=g.l7
 let W:Option Sl:=O (.pub (UO cs ls))
 let C:Option Sl:=O (.pub (.int c))
 let S:Option Sl:=O (.pub (.int s))
 let A:Option Sl:=O (.pub (.list (cs.map int)))
 let L:Option Sl:=O (.pub (.list (ls.map UE)))
 let E:Option Sl:=O (.pub (.list ([d0,d1,d2,d3,d4,d5,d6,d7,d8,d9,d10,d11,d12].map int)))
 have la:Kc [.list (cs.map int)]=O (.int cs.length):=by rw[K3,Qd]
 have ll:Kc [.list (ls.map UE)]=O (.int ls.length):=by rw[K3,Qd]
 obtain⟨a,ha,hal⟩:∃a:Nat,d1 % ((ls.length:Int)+1)=(a:Int)/\a<=ls.length:=by have h1:=Int.emod_nonneg d1 (show(ls.length:Int)+1≠0 by lia);have h2:=Int.emod_lt_of_pos d1 (show 0<(ls.length:Int)+1 by lia);exact⟨(d1 % ((ls.length:Int)+1)).toNat,by lia,by lia⟩
 obtain⟨t,ht,htl⟩:∃t:Nat,d2 % ((cs.length:Int)+1)=(t:Int)/\t<=cs.length:=by have h1:=Int.emod_nonneg d2 (show(cs.length:Int)+1≠0 by lia);have h2:=Int.emod_lt_of_pos d2 (show 0<(cs.length:Int)+1 by lia);exact⟨(d2 % ((cs.length:Int)+1)).toNat,by lia,by lia⟩
 obtain⟨k,rfl⟩:∃k:Nat,d3=(k:Int):=⟨d3.toNat,by lia⟩
 have ma:Ky (.int d1) (.int ((ls.length:Int)+1))=O (.int (a:Int)):=by rw[X5 (by lia),ha]
 have mt:Ky (.int d2) (.int ((cs.length:Int)+1))=O (.int (t:Int)):=by rw[X5 (by lia),ht]
 have hsz:∀ρ:Um,(Uw UG (Uw UG (U2 (Ur (Up (.int 6)) (Ur (Up (.int 8)) (Ur (Up (.int 7)) (Ur (Up (.int 10)) (Ur (Up (.int 9)) (Uq))))))) (Uw U5 (U2 (Ur (Up (.int 6)) (Uq))) (Up (.int 7)))) (U2 (Ur (Up (.int 2)) (Uq)))) ρ=.ok (.list (szH.map int)) ρ:=λρ=>rfl
 obtain⟨n,hn2,hn7⟩:∃n:Nat,(Vu [.bool (decide (d4=0))]=O (.int ((n:Int)-cs.length)))/\n<=7:=by
  by_cases h:d4=0
  .rw[QE h];exact⟨cs.length+1,by show O (int 1)=_;rw[show((cs.length+1:Nat):Int)-cs.length=1 by lia],by lia⟩
  .rw[QP h];exact⟨cs.length,by show O (int 0)=_;rw[show((cs.length:Nat):Int)-cs.length=0 by lia],by lia⟩
 obtain⟨r,hr,rs,rfl,gr⟩:=BN (pl:=[d5,d6,d7,d8,d9,d10,d11,d12]) (n:=n) hn7 (Qq hn7 (Jn 7));have gr:=gr.wide hn7;refine VI (ρ:=[W,C,S,B0,B0,B0,B0,B0]) Z ?_;unfold WQ;refine UP (ρ1:=[W,C,S,A,L,B0,B0,B0]) (Wt (Uu Z) (KU Z (U7 (UF (Qa Z) Z) (U7 (UF (Qa Z) Z) KW)))) ?_;refine UP (ρ1:=[W,C,S,A,L,E,B0,B0]) (Ka (U0 (Ut (Uu Z) (Ut (Uu Z) (Ut (hsz _) Uy))) Z hn) (Qa Z) Z) ?_;refine UP (ρ1:=[W,C,S,A,L,E,pb (.int a),B0]) (Ka (UH (UN Z Uv Z) (UH (Ki Z ll) Uv Zg) ma) (Qa Z) Z) ?_;have add:UG (.int cs.length) (.int ((n:Int)-cs.length))=O (.int (n:Int)):=by rw[Zg];exact JQ (λz=>O (int z)) (by lia)
 refine UP (ρ1:=[W,C,S,A,L,E,pb (.int a),pb (UE rs)]) (Ka (U0 (Ut (YV (r:=.list ([d5,d6,d7,d8,d9,d10,d11,d12].map int)) (Uu Z) (Z2 Uv) Uv Z) (Ut (UH (Ki Z la) (Zh (Ut (Kq (UH (UN Z Uv Z) Uv Z1)) Uy) hn2) add) Uy)) Z hr) (Qa Z) Z) ?_
 have key:∀(rs:List B6)(x7:Option Sl)(ρ':Um),Km 7 rs->Uo 7 [W,C,S,A,L,E,pb (.int a),x7]=.ok (UE rs) ρ'->Ho (Us (sIf (Uw (oIB λi j=>decide (i<j)) (Ux 5 (Up (.int 0))) (Up (.int 2)))
   (Uz (U1 (Ur (Up (.str "list")) (Ur (Uo 6) (Ur (Uo 7) (Uq))))))
   (sNx))
   (Us (sIf (Uw oEq (Ux 5 (Up (.int 0))) (Up (.int 2)))
   (Uz (U1 (Ur (Up (.str "copies")) (Ur (Uw Ky (Ux 5 (Up (.int 2))) (Uw UG (Ke 3) (Up (.int 1)))) (Ur (Ux 5 (Up (.int 3))) (Uq))))))
   (sNx))
   (Us (sIf (Uw oEq (Ux 5 (Up (.int 0))) (Up (.int 3)))
   (Uz (U1 (Ur (Up (.str "come")) (Ur (Uo 7) (Uq)))))
   (sNx))
   (Us (sIf (Uw oEq (Ux 5 (Up (.int 0))) (Up (.int 4)))
   (Uz (U1 (Ur (Up (.str "go")) (Ur (Uo 6) (Uq)))))
   (sNx))
   (Uz (U1 (Ur (Up (.str "thing")) (Ur (Ux 5 (Up (.int 3))) (Uq))))))))) [W,C,S,A,L,E,O (.pub (.int a)),x7] (λo=>∃d,o=.rt d/\∃ch,d=chD ch/\KF cs.length ls.length ch):=λrs x7 ρ' gr h7=>by
  apply UT;refine UL (UH (UN Z Uv Z) Uv YX) (λ_=>U4 (ZZ (Ut Uv (Ut (Uu Z) (Ut h7 Uy))) (Qa Z)) (KL ⟨_,rfl,.lst a rs,rfl,hal,gr⟩)) λ_=>UX (UV ?_);apply UT;refine UL (UH (UN Z Uv Z) Uv Z1) (λ_=>U4 (ZZ (Ut Uv (Ut (UH (UN Z Uv Z) (UH (Ki Z la) Uv Zg) mt) (Ut (UN Z Uv Z) Uy))) (Qa Z)) (KL ⟨_,rfl,.cop t k,rfl,htl,by lia⟩)) λ_=>UX (UV ?_)
  apply UT;refine UL (UH (UN Z Uv Z) Uv Z1) (λ_=>U4 (ZZ (Ut Uv (Ut h7 Uy)) (Qa Z)) (KL ⟨_,rfl,.com rs,rfl,gr⟩)) λ_=>UX (UV ?_);apply UT;refine UL (UH (UN Z Uv Z) Uv Z1) (λ_=>U4 (ZZ (Ut Uv (Ut (Uu Z) Uy)) (Qa Z)) (KL ⟨_,rfl,.go a,rfl,hal⟩)) λ_=>UX (UV ?_);exact U4 (ZZ (Ut Uv (Ut (UN Z Uv Z) Uy)) (Qa Z)) ⟨_,rfl,.thg k,rfl,show k<10 by lia⟩
 apply UT;refine UL (UH (UN Z Uv Z) Uv Z1) (λ_=>?_) λ_=>UX (UV (key rs _ _ gr (Uu Z)));exact Kr (Z0 (ER (by have:=gr.few;lia)) (Qa Z) Z) (UV (key (rs.map List.reverse) _ _ gr.rev (Z3 Z Z)))
theorem ZM{a b:Nat}:decide ((a:Int)<(b:Int))=decide (a<b):=by
 by_cases h:a<b
 .rw[QE h,QE (by lia)]
 .rw[QP h,QP (by lia)]
theorem Dg{n:Nat}{rs:List B6}(g:Km n rs)(hn:n<=7):XZ [UE rs,.list []]=O (.list (rs.flatten.map int)):=by
 have h:=EG (ls:=rs.map (List.map int)) (by
  rw[←List.map_flatten,Qd];have:=VW g
  lia)
 rw[Jg,←List.map_flatten]at h;exact h
theorem Nq{cs:B6}{ls:L3}{ch:Chg}(g:Good cs ls)(hc:KF cs.length ls.length ch):Yl [UO cs ls,chD ch]=O (.bool (Kd cs.length ls.length ch)):=by
 have c6:=g.c6;have l7:=g.l7
 let W:Option Sl:=O (.pub (UO cs ls))
 let A:Option Sl:=O (.pub (.list (cs.map int)))
 let L:Option Sl:=O (.pub (.list (ls.map UE)))
 have la:Kc [.list (cs.map int)]=O (.int cs.length):=by rw[K3,Qd]
 have ll:Kc [.list (ls.map UE)]=O (.int ls.length):=by rw[K3,Qd]
 have e0:∀{x:Str}{w1:Option Sl}{v:Bool}{y:Str},oEq (.str x) (.str y)=O v->Kh oEq 4 (Up (.str y)) [W,w1,A,L,pb (.str x)]=.ok v [W,w1,A,L,pb (.str x)]:=λh=>Yv Z Uv h
 have tail:∀(rs:List B6)(X Y:Option Sl)(d:D),Km 7 rs->X=O (.pub d)->oIx d (.int (-1))=O (UE rs)->Ho (Uz (K1 KO (Ur (UA J9 (Zq (Kt (K1 XZ (Ur (Ux 1 (K9 (Up (.int 1)))) (Ur (U2 (Uq)) (Uq))))) 1 (gN 5) (Up B2) (UA Ua (Kh (oIB λi j=>decide (i<j)) 5 (Ke 2))))) (Uq)))) [W,X,A,L,Y] (λo=>o=.rt (.bool (under cs.length rs))):=by
  rintro rs X Y d gr rfl hix;have hl:rs.flatten.length<=7:=VW gr;refine U4 (Zh (Ut (Kq (YB (ds:=rs.flatten.map int) (es:=(rs.flatten.map λt=>decide (t<(cs.length:Int))).map Ua) (Zp (Zh (Ut (UN rfl (VJ Uv) hix) (Ut (Z4 Uy (Qa rfl)) Uy)) (Dg gr (Qt 7))) rfl) ?_)) Uy) SR) ?_
  .rw[Jg]
   refine(XA int (λt=>Ua (decide (t<(cs.length:Int)))) (λρ=>∃x,ρ=[W,pb d,A,L,Kn Y,x]) rs.flatten _ [] ?_ ⟨B0,rfl⟩ (by rw[QX];lia)).trans Z;rintro t ht ρ ⟨x,rfl⟩;refine⟨_,UF (Qa Z) Z,Kq (Yv Z (Ki Z la) YX),pb (.int t),?_⟩;cases Y with
   |none=>rfl
   |some sl=>cases sl<;>rfl
  .unfold under
   rw[List.all_map];rfl
 refine Zc (ρ:=[W,pb (chD ch),B0,B0,B0]) Z ?_;unfold WP;refine UP (ρ1:=[W,pb (chD ch),A,L,B0]) (Wt (Uu Z) (KU Z (U7 (UF (Qa Z) Z) (U7 (UF (Qa Z) Z) KW)))) ?_;cases ch with
 |cop t k=>
  refine UP (Ka (UN Z Uv Z) (Qa Z) Z) ?_;apply UT;refine UL (e0 (show _=O B2 by kernel_rfl)) (λ_=>?_) λz=>by cases z
  refine U4 (Yw (Kq (UH (UN Z Uv Z) (Ki Z la) YX)) λ_=>Kq (UH (UN Z Uv Z) Uv YX)) (KL ?_);rw[Kd,ZM,show decide ((k:Int)<8)=decide (k<8)from ZM (b:=8)]
 |go a=>
  refine UP (Ka (UN Z Uv Z) (Qa Z) Z) ?_;apply UT;refine UL (e0 (show _=O B3 by kernel_rfl)) (λz=>by cases z) λ_=>UX (UV ?_)
  apply UT;refine UL (e0 (show _=O B2 by kernel_rfl)) (λ_=>?_) λz=>by cases z
  refine U4 (Yw (Kq (UH (UN Z Uv Z) (Ki Z ll) YX)) λ_=>Kq (UH (Ki Z ll) Uv YX)) (KL ?_);rw[Kd,ZM,show decide ((1:Int)<(ls.length:Int))=decide (1<ls.length)from ZM (a:=1)]
 |thg k=>
  refine UP (Ka (UN Z Uv Z) (Qa Z) Z) ?_;apply UT;refine UL (e0 (show _=O B3 by kernel_rfl)) (λz=>by cases z) λ_=>UX (UV ?_)
  apply UT;refine UL (e0 (show _=O B3 by kernel_rfl)) (λz=>by cases z) λ_=>UX (UV ?_)
  apply UT;refine UL (e0 (show _=O B2 by kernel_rfl)) (λ_=>?_) λz=>by cases z
  refine U4 (Yw (Kq (UH (Ki Z la) Uv YX)) λ_=>Kq (UH (UN Z Uv Z) Uv YX)) (KL ?_);rw[Kd,show decide ((cs.length:Int)<6)=decide (cs.length<6)from ZM (b:=6),show decide ((k:Int)<8)=decide (k<8)from ZM (b:=8)]
 |lst a rs=>
  refine UP (Ka (UN Z Uv Z) (Qa Z) Z) ?_;apply UT;refine UL (e0 (show _=O B3 by kernel_rfl)) (λz=>by cases z) λ_=>UX (UV ?_)
  apply UT;refine UL (e0 (show _=O B3 by kernel_rfl)) (λz=>by cases z) λ_=>UX (UV ?_)
  apply UT;refine UL (e0 (show _=O B3 by kernel_rfl)) (λz=>by cases z) λ_=>UX (UV ?_)
  apply UT;refine UL (MZ (Su (e0 (show _=O B2 by kernel_rfl)) λ_=>UH (UN Z Uv Z) (Ki Z ll) YX) λ_=>P1 (e0 (show _=O B3 by kernel_rfl))) (λhb=>U4 Uv (KL ?_)) λhb=>UX (UV (Vi (tail rs _ _ _ hc.2 Z Z) ?_))
  .have h:ls.length<=a:=by simpa using hb
   rw[Kd,QP (show ¬a<ls.length by lia)];rfl
  .rintro _ rfl
   have h:a<ls.length:=by simpa using hb
   rw[Kd,QE h];rfl
 |com rs=>
  refine UP (Ka (UN Z Uv Z) (Qa Z) Z) ?_;apply UT;refine UL (e0 (show _=O B3 by kernel_rfl)) (λz=>by cases z) λ_=>UX (UV ?_)
  apply UT;refine UL (e0 (show _=O B3 by kernel_rfl)) (λz=>by cases z) λ_=>UX (UV ?_)
  apply UT;refine UL (e0 (show _=O B3 by kernel_rfl)) (λz=>by cases z) λ_=>UX (UV ?_)
  apply UT;refine UL (Zb (P1 (e0 (show _=O B3 by kernel_rfl))) (Su (e0 (show _=O B2 by kernel_rfl)) λ_=>UH (Ki Z ll) Uv YX)) (λhb=>U4 Uv (KL ?_)) λhb=>UX (UV (Vi (tail rs _ _ _ hc Z Z) ?_))
  .have h:(6:Int)<ls.length:=by simpa using hb
   rw[Kd,QP (show ¬ls.length<7 by lia)];rfl
  .rintro _ rfl
   have h:¬(6:Int)<ls.length:=by simpa using hb
   rw[Kd,QE (show ls.length<7 by lia)];rfl
section
variable{W w1 x2 x3:Option Sl}{x y:Str}{s t:SM}{Q:Out->Prop}{ρ':Um}
theorem Ku(h:oEq (.str x) (.str y)=O B3)(k:Ho t [W,w1,x2,x3,pb (.str x)] Q):Ho (Us (sIf (Kh oEq 4 (Up (.str y))) s sNx) t) [W,w1,x2,x3,pb (.str x)] Q:=
 UT (UL (Yv Z Uv h) (λz=>by cases z) λ_=>UX (UV k))
theorem Xh(h:oEq (.str x) (.str y)=O B2)(k:Ho s [W,w1,x2,x3,pb (.str x)] (W6 t Q)):Ho (Us (sIf (Kh oEq 4 (Up (.str y))) s sNx) t) [W,w1,x2,x3,pb (.str x)] Q:=
 UT (UL (Yv Z Uv h) (λ_=>k) λz=>by cases z)
end
noncomputable def beD(cs:B6)(ls:L3)(ch:Chg):D:=UO (chW cs ls ch).1 (chW cs ls ch).2
theorem OL{cs:B6}{ls:L3}{ch:Chg}(g:Good cs ls)(hb:Kd cs.length ls.length ch=B2):Yk [UO cs ls,chD ch]=O (beD cs ls ch):=by
 have c6:=g.c6;have l7:=g.l7
 let W:Option Sl:=O (.pub (UO cs ls))
 let A:Option Sl:=O (.own (cs.map int))
 let L:Option Sl:=O (.own (ls.map UE))
 refine Zc (ρ:=[W,pb (chD ch),B0,B0,B0]) Z ?_;unfold WO;refine UP (ρ1:=[W,pb (chD ch),A,B0,B0]) (Z0 (U6 (Ut (UN Z Uv Z) Uy) (KS Z)) (Qa Z) Z) ?_;refine UP (ρ1:=[W,pb (chD ch),A,L,B0]) (Z0 (U6 (Ut (UN Z Uv Z) Uy) (KS Z)) (Qa Z) Z) ?_
 have fin:∀(X Y:Option Sl)(AH:B6)(ls2:L3),chW cs ls ch=(AH,ls2)->Ho (Uz (U1 (Ur (Uo 2) (Ur (Uo 3) (Uq))))) [W,X,O (.own (AH.map int)),O (.own (ls2.map UE)),Y] (λo=>o=.rt (beD cs ls ch)):=λX Y AH ls2 e=>
  U4 (ZZ (Ut (Z3 Z Z) (Ut (Z3 Z Z) Uy)) (Qa Z)) (by unfold beD;rw[e];rfl)
 cases ch with
 |lst a rs=>
  have h:a<ls.length:=by rw[Kd,Qn]at hb;exact Qa hb.1
  refine UP (Ka (UN Z Uv Z) (Qa Z) Z) ?_;refine Xh (by kernel_rfl) (Kr (P0 (k:=(a:Int)) (d:=UE rs) (UN Z Uv Z) Z (UN Z Uv Z) Z ⟨by lia,by rw[Qd];lia⟩ Z) (UV ?_));refine Ku (by kernel_rfl) (Ku (by kernel_rfl) (Ku (by kernel_rfl) (Ku (by kernel_rfl) ?_)));have:=fin (O (.pub (chD (.lst a rs)))) (O (.pub (.str "list"))) cs (ls.set a rs) Z;rw[List.map_set]at this;exact this
 |cop t k=>
  have h:t<cs.length:=by rw[Kd,Qn]at hb;exact Qa hb.1
  refine UP (Ka (UN Z Uv Z) (Qa Z) Z) ?_;refine Ku (by kernel_rfl) (Xh (by kernel_rfl) (Kr (P0 (k:=(t:Int)) (d:=.int k) (UN Z Uv Z) Z (UN Z Uv Z) Z ⟨by lia,by rw[Qd];lia⟩ Z) (UV ?_)));refine Ku (by kernel_rfl) (Ku (by kernel_rfl) (Ku (by kernel_rfl) ?_));have:=fin (O (.pub (chD (.cop t k)))) (O (.pub (.str "copies"))) (cs.set t k) ls Z;rw[List.map_set]at this;exact this
 |com rs=>refine UP (Ka (UN Z Uv Z) (Qa Z) Z) ?_;refine Ku (by kernel_rfl) (Ku (by kernel_rfl) (Xh (by kernel_rfl) (Kr (X1 (d:=UE rs) Z (UN Z Uv Z) Z (by rw[Qd];lia) Z) (UV ?_))));refine Ku (by kernel_rfl) (Ku (by kernel_rfl) ?_);have:=fin (O (.pub (chD (.com rs)))) (O (.pub (.str "come"))) cs (ls++[rs]) Z;rw[Q2]at this;exact this
 |go a=>
  have h:a<ls.length:=by rw[Kd,Qn]at hb;exact Qa hb.1
  refine UP (Ka (UN Z Uv Z) (Qa Z) Z) ?_;refine Ku (by kernel_rfl) (Ku (by kernel_rfl) (Ku (by kernel_rfl) (Xh (by kernel_rfl) (Kr (VS (LX (m:=a) Z (UN Z Uv Z) Z (by rw[Qd];lia) (Qp (by rw[Qd];exact h)))) (UV ?_)))));refine Ku (by kernel_rfl) ?_;have:=fin (O (.pub (chD (.go a)))) (O (.pub (.str "go"))) cs (ls.eraseIdx a) Z;rw[Jh,Q2,List.map_take,List.map_drop,←Jh]at this;exact this
 |thg k=>refine UP (Ka (UN Z Uv Z) (Qa Z) Z) ?_;refine Ku (by kernel_rfl) (Ku (by kernel_rfl) (Ku (by kernel_rfl) (Ku (by kernel_rfl) (Xh (by kernel_rfl) (Kr (X1 (d:=.int k) Z (UN Z Uv Z) Z (by rw[Qd];lia) Z) (UV ?_))))));have:=fin (O (.pub (chD (.thg k)))) (O (.pub (.str "thing"))) (cs++[(k:Int)]) ls Z;rw[Q2]at this;exact this
noncomputable def YL(n m:Nat):Chg->Bool
 |.lst a _ | .go a=>decide (a<m)
 |.cop t _=>decide (t<n)
 |_=>B2
theorem Py{a n:Nat}:Kz (n:Int) (.int (a:Int))=decide (a<n):=by
 show(decide ((0:Int)<=(a:Int))&&decide ((a:Int)<(n:Int)))=_
 rw[QE (show(0:Int)<=(a:Int)by lia),ZM];rfl
theorem VO{cs:B6}{ls:L3}{ch:Chg}:Yn [UO cs ls,chD ch]=O (.bool (YL cs.length ls.length ch)):=by
 let W:Option Sl:=O (.pub (UO cs ls))
 let A:Option Sl:=O (.pub (.list (cs.map int)))
 let L:Option Sl:=O (.pub (.list (ls.map UE)))
 have la:Kc [.list (cs.map int)]=O (.int cs.length):=by rw[K3,Qd]
 have ll:Kc [.list (ls.map UE)]=O (.int ls.length):=by rw[K3,Qd]
 obtain⟨w,d,ds,hd,hz,hin⟩:∃(w:Str)(d:D)(ds:B4),chD ch=.tuple (.str w::d::ds)/\(match SN.lookup w with|some i=>int i|none=>.none)=.int ((ds.length+2:Nat):Int) /\
   ((∃a:Nat,d=.int a/\oIn (.str w) (.tuple [.str "list", .str "go"])=O B2/\YL cs.length ls.length ch=decide (a<ls.length)) ∨
    (oIn (.str w) (.tuple [.str "list", .str "go"])=O B3/\∃t:Nat,d=.int t/\oEq (.str w) (.str "copies")=O B2/\YL cs.length ls.length ch=decide (t<cs.length)) ∨
    (oIn (.str w) (.tuple [.str "list", .str "go"])=O B3/\oEq (.str w) (.str "copies")=O B3/\YL cs.length ls.length ch=B2)):=by
  cases ch with
  |lst a rs=>exact⟨_,_,_,rfl,by kernel_rfl,.inl ⟨a,rfl,by kernel_rfl,rfl⟩⟩
  |cop t k=>exact⟨_,_,_,rfl,by kernel_rfl,.inr (.inl ⟨by kernel_rfl,t,rfl,by kernel_rfl,rfl⟩)⟩
  |com rs=>exact⟨_,_,_,rfl,by kernel_rfl,.inr (.inr ⟨by kernel_rfl,by kernel_rfl,rfl⟩)⟩
  |go a=>exact⟨_,_,_,rfl,by kernel_rfl,.inl ⟨a,rfl,by kernel_rfl,rfl⟩⟩
  |thg k=>exact⟨_,_,_,rfl,by kernel_rfl,.inr (.inr ⟨by kernel_rfl,by kernel_rfl,rfl⟩)⟩
 rw[hd];have i0:oIx (.tuple (.str w::d::ds)) (.int 0)=O (.str w):=YC (j:=0) Z;have i1:oIx (.tuple (.str w::d::ds)) (.int 1)=O d:=YC (j:=1) Z;refine Zc (ρ:=[W,pb (.tuple (.str w::d::ds)),B0,B0]) Z ?_;unfold WV;apply UT;refine UL (b:=B3) (Zb (KP (Uu Z) Z) (Zb (UH (Ki Z Rc) Uv (Z1.trans (by rw[QP (by rw[QB];lia)]))) (KP (UN Z Uv i0) Z))) (λz=>by cases z) λ_=>UX (UV ?_)
 apply UT;refine UL (b:=B3) (UH (FA (Ut (UN Z Uv i0) Uy) hz) (Ki Z Rc) (VR.trans (by rw[QE (by rw[QB,QB])];rfl))) (λz=>by cases z) λ_=>UX (UV ?_)
 refine UP (ρ1:=[W,pb (.tuple (.str w::d::ds)),A,L]) (Wt (Uu Z) (KU Z (U7 (UF (Qa Z) Z) (U7 (UF (Qa Z) Z) KW)))) ?_;have tup:∀ρ:Um,U1 (Ur (Up (.str "list")) (Ur (Up (.str "go")) (Uq))) ρ=.ok (.tuple [.str "list", .str "go"]) ρ:=λρ=>ZZ (Ut Uv (Ut Uv Uy)) (Qa Z)
 rcases hin with ⟨a,rfl,h1,h2⟩|⟨h1,t,rfl,h2,h3⟩|⟨h1,h2,h3⟩
 .apply UT
  refine UL (b:=B2) (UH (UN Z Uv i0) (tup _) h1) (λ_=>U4 (U0 (Ut (UN Z Uv i1) (Ut (Ki Z ll) Uy)) Z (TK _ _)) (KL ?_)) λz=>by cases z
  rw[h2,Py]
 .apply UT
  refine UL (b:=B3) (UH (UN Z Uv i0) (tup _) h1) (λz=>by cases z) λ_=>UX (UV ?_)
  apply UT;refine UL (b:=B2) (UH (UN Z Uv i0) Uv h2) (λ_=>U4 (U0 (Ut (UN Z Uv i1) (Ut (Ki Z la) Uy)) Z (TK _ _)) (KL ?_)) λz=>by cases z
  rw[h3,Py]
 .apply UT
  refine UL (b:=B3) (UH (UN Z Uv i0) (tup _) h1) (λz=>by cases z) λ_=>UX (UV ?_)
  apply UT;refine UL (b:=B3) (UH (UN Z Uv i0) Uv h2) (λz=>by cases z) λ_=>UX (UV ?_)
  refine U4 Uv ?_;rw[h3]
section
variable{W Cg A L w:Option Sl}{d:D}{xs:B4}{a:Nat}{y:D}
theorem Sd:ZJ (.list xs) B0 (O (a:Int))=O (.list (xs.take a)):=by rw[TR,HG]
theorem SX:ZJ (.list xs) (O ((a:Int)+1)) B0=O (.list (xs.drop (a+1))):=by rw[TR,show((a:Int)+1)=((a+1:Nat):Int)by lia,OU]
theorem Px(h:xs.length<=1000)(ha:a<xs.length):∃z,UG (.list (xs.take a)) (.list [y])=O z/\UG z (.list (xs.drop (a+1)))=O (.list (xs.set a y)):=by
 have l1:(xs.take a).length<=1000:=Qq (List.length_take_le' _ _) h;have l2:(xs.drop (a+1)).length<=1000:=by rw[JH];lia
 refine⟨_,Ww (by rw[QK];lia),?_⟩;rw[Ww (by rw[Qo,QK];lia),List.set_eq_take_append_cons_drop,Qr ha,Jf];rfl
theorem HE(h:xs.length<=1000):UG (.list (xs.take a)) (.list (xs.drop (a+1)))=O (.list (xs.eraseIdx a)):=by
 have l1:(xs.take a).length<=1000:=Qq (List.length_take_le' _ _) h;have l2:(xs.drop (a+1)).length<=1000:=by rw[JH];lia
 rw[Ww (by lia),Jh]
end
theorem RC{cs:B6}{ls:L3}{ch:Chg}(g:Good cs ls)(hf:YL cs.length ls.length ch=B2):Ym [UO cs ls,chD ch]=O (beD cs ls ch):=by
 have c6:=g.c6;have l7:=g.l7
 let W:Option Sl:=O (.pub (UO cs ls))
 let A:Option Sl:=O (.pub (.list (cs.map int)))
 let L:Option Sl:=O (.pub (.list (ls.map UE)))
 have lA:(cs.map int).length<=1000:=by rw[Qd];lia
 have lL:(ls.map UE).length<=1000:=by rw[Qd];lia
 refine Zc (ρ:=[W,pb (chD ch),B0,B0,B0]) Z ?_;unfold WU;refine UP (ρ1:=[W,pb (chD ch),A,L,B0]) (Wt (Uu Z) (KU Z (U7 (UF (Qa Z) Z) (U7 (UF (Qa Z) Z) KW)))) ?_;cases ch with
 |lst a rs=>obtain⟨z,z1,z2⟩:=Px (y:=UE rs) lL (a:=a) (by rw[Qd];exact Qa hf);refine UP (Ka (UN Z Uv Z) (Qa Z) Z) ?_;refine Xh (by kernel_rfl) (U4 (ZZ (Ut (Uu Z) (Ut (UH (UH (YV (Uu Z) Uv (Z2 (UN Z Uv Z)) Sd) (Z4 (Ut (UN Z Uv Z) Uy) (Qa Z)) z1) (YV (Uu Z) (Z2 (UH (UN Z Uv Z) Uv Zg)) Uv SX) z2) Uy)) (Qa Z)) (KL ?_));rw[←List.map_set];rfl
 |cop t k=>obtain⟨z,z1,z2⟩:=Px (y:=.int k) lA (a:=t) (by rw[Qd];exact Qa hf);refine UP (Ka (UN Z Uv Z) (Qa Z) Z) ?_;refine Ku (by kernel_rfl) (Xh (by kernel_rfl) (U4 (ZZ (Ut (UH (UH (YV (Uu Z) Uv (Z2 (UN Z Uv Z)) Sd) (Z4 (Ut (UN Z Uv Z) Uy) (Qa Z)) z1) (YV (Uu Z) (Z2 (UH (UN Z Uv Z) Uv Zg)) Uv SX) z2) (Ut (Uu Z) Uy)) (Qa Z)) (KL ?_)));rw[←List.map_set];rfl
 |com rs=>refine UP (Ka (UN Z Uv Z) (Qa Z) Z) ?_;refine Ku (by kernel_rfl) (Ku (by kernel_rfl) (Xh (by kernel_rfl) (U4 (ZZ (Ut (Uu Z) (Ut (UH (Uu Z) (Z4 (Ut (UN Z Uv Z) Uy) (Qa Z)) (Ww (by rw[QK];lia))) Uy)) (Qa Z)) (KL ?_))));show _=Out.rt (UO cs (ls++[rs]));unfold UO;rw[Q2];rfl
 |go a=>refine UP (Ka (UN Z Uv Z) (Qa Z) Z) ?_;refine Ku (by kernel_rfl) (Ku (by kernel_rfl) (Ku (by kernel_rfl) (Xh (by kernel_rfl) (U4 (ZZ (Ut (Uu Z) (Ut (UH (YV (Uu Z) Uv (Z2 (UN Z Uv Z)) Sd) (YV (Uu Z) (Z2 (UH (UN Z Uv Z) Uv Zg)) Uv SX) (HE lL)) Uy)) (Qa Z)) (KL ?_)))));rw[Jh,←List.map_take,←List.map_drop,←Q2,←Jh];rfl
 |thg k=>refine UP (Ka (UN Z Uv Z) (Qa Z) Z) ?_;refine Ku (by kernel_rfl) (Ku (by kernel_rfl) (Ku (by kernel_rfl) (Ku (by kernel_rfl) (U4 (ZZ (Ut (UH (Uu Z) (Z4 (Ut (UN Z Uv Z) Uy) (Qa Z)) (Ww (by rw[QK];lia))) (Ut (Uu Z) Uy)) (Qa Z)) ?_))));show _=Out.rt (UO (cs++[(k:Int)]) ls);unfold UO;rw[Q2];rfl
theorem NS{n:Nat}{rs:List B6}(g:Km 7 rs)(h:under n rs=B2):Km n rs:=
 ⟨g.few,g.some,λr hr t ht=>⟨(g.there r hr t ht).1,by have:=QS.mp h t (List.mem_flatten.mpr ⟨r,hr,ht⟩);exact Qa this⟩,g.once⟩
theorem NR{n:Nat}{rs:List B6}(g:Km n rs):under n rs=B2:=QS.mpr λt ht=>by obtain⟨r,hr,htr⟩:=List.mem_flatten.mp ht;exact QE (g.there r hr t htr).2
section
variable{cs:B6}{ls:L3}{ch:Chg}
theorem Tz(g:Good cs ls)(hc:KF cs.length ls.length ch)(hb:Kd cs.length ls.length ch=B2):Good (chW cs ls ch).1 (chW cs ls ch).2:=by
 have c1:=g.c1;have c6:=g.c6;have l1:=g.l1;have l7:=g.l7;cases ch with
 |lst a rs=>
  rw[Kd,Qn]at hb;refine⟨c1,c6,g.c7,by show 1<=(ls.set a rs).length;rw[QQ];exact l1,by show(ls.set a rs).length<=7;rw[QQ];exact l7,λq hq=>?_⟩;rcases List.mem_or_eq_of_mem_set hq with hq|rfl
  .exact g.rk q hq
  .exact NS hc.2 hb.2
 |cop t k=>
  rw[Kd,Qn]at hb;have h8:=Qa hb.2;refine⟨by show 1<=(cs.set t k).length;rw[QQ];exact c1,by show(cs.set t k).length<=6;rw[QQ];exact c6,λc AR=>?_,l1,l7,λq hq=>by show Km (cs.set t k).length q;rw[QQ];exact g.rk q hq⟩;rcases List.mem_or_eq_of_mem_set AR with AR|rfl
  .exact g.c7 c AR
  .exact⟨by lia,by lia⟩
 |com rs=>
  rw[Kd,Qn]at hb;have h7:=Qa hb.1;refine⟨c1,c6,g.c7,by show 1<=(ls++[rs]).length;rw[Qo];lia,by show(ls++[rs]).length<=7;rw[Qo,QK];lia,λq hq=>?_⟩;rcases QG.mp hq with hq|hq
  .exact g.rk q hq
  .rw[QJ.mp hq];exact NS hc hb.2
 |go a=>rw[Kd,Qn]at hb;have h1:=Qa hb.1;have h2:=Qa hb.2;have hl:(ls.eraseIdx a).length=ls.length-1:=List.length_eraseIdx_of_lt h1;exact⟨c1,c6,g.c7,by show 1<=(ls.eraseIdx a).length;lia,by show(ls.eraseIdx a).length<=7;lia,λq hq=>g.rk q (List.mem_of_mem_eraseIdx hq)⟩
 |thg k=>
  rw[Kd,Qn]at hb;have h6:=Qa hb.1;have h8:=Qa hb.2;have hl:(cs++[(k:Int)]).length=cs.length+1:=by rw[Qo,QK]
  refine⟨by show 1<=(cs++[(k:Int)]).length;lia,by show(cs++[(k:Int)]).length<=6;lia,λc AR=>?_,l1,l7,λq hq=>by show Km (cs++[(k:Int)]).length q;rw[hl];exact(g.rk q hq).wide (Jn _)⟩;rcases QG.mp AR with AR|AR
  .exact g.c7 c AR
  .rw[QJ.mp AR];exact⟨by lia,by lia⟩
theorem HD(hf:YL cs.length ls.length ch=B2)(h:Good (chW cs ls ch).1 (chW cs ls ch).2):Kd cs.length ls.length ch=B2:=by
 have c6:=h.c6;have l1:=h.l1;have l7:=h.l7;cases ch with
 |lst a rs=>have ha:a<ls.length:=Qa hf;rw[Kd,QE ha,JM];exact NR (h.rk rs (List.mem_set ha rs))
 |cop t k=>have ha:t<cs.length:=Qa hf;have:=h.c7 k (List.mem_set ha (k:Int));rw[Kd,QE ha,QE (show k<8 by lia)];rfl
 |com rs=>have hl:(ls++[rs]).length<=7:=l7;rw[Qo,QK]at hl;rw[Kd,QE (show ls.length<7 by lia),JM];exact NR (h.rk rs (Qm _ Qk))
 |go a=>have ha:a<ls.length:=Qa hf;have hl:1<=(ls.eraseIdx a).length:=l1;rw[List.length_eraseIdx_of_lt ha]at hl;rw[Kd,QE ha,QE (show 1<ls.length by lia)];rfl
 |thg k=>have hl:(cs++[(k:Int)]).length<=6:=c6;rw[Qo,QK]at hl;have:=h.c7 k (Qm _ Qk);rw[Kd,QE (show cs.length<6 by lia),QE (show k<8 by lia)];rfl
theorem OT(hb:Kd cs.length ls.length ch=B2):YL cs.length ls.length ch=B2:=by cases ch<;>first|rfl|(rw[Kd,Qn]at hb;exact hb.1)
theorem EQ{cs AH:B6}{ls ls2:L3}(h:UO cs ls=UO AH ls2):cs=AH/\ls=ls2:=by
 have hi:∀{a b:B6},a.map int=b.map int->a=b:=λ{a b} e=>List.map_inj_right (λx y h=>by injection h) |>.mp e
 have hr:∀{a b:B6},UJ a=UJ b->a=b:=λ{a b} e=>by unfold UJ at e;injection e with e;exact hi e
 unfold UO at h;injection h with h;injection h with h1 h2;injection h2 with h2 _;injection h1 with h1;injection h2 with h2
 refine⟨hi h1,?_⟩;refine(List.map_inj_right λx y h=>?_).mp h2;unfold UE at h;injection h with h
 exact(List.map_inj_right λx y h=>hr h).mp h
theorem Sc(g:Good cs ls)(hc:KF cs.length ls.length ch):XB (beD cs ls ch):=λc L e _ x hx rs e2 xs hxs=>by
 have eL:L=(chW cs ls ch).2.map UE:=by unfold beD UO at e;cases e;rfl
 subst eL;obtain⟨q,hq,rfl⟩:=Qw.mp hx;have er:rs=q.map UJ:=by unfold UE at e2;cases e2;rfl
 subst er;obtain⟨r,hr,e3⟩:=Qw.mp hxs;have ex:xs=r.map int:=by unfold UJ at e3;cases e3;rfl
 subst ex;rw[Qd];have c6:=g.c6
 have gr:Km 7 q:=by
  have old:∀q∈ls,Km 7 q:=λq h=>(g.rk q h).wide (by lia)
  cases ch with
  |lst a rs=>
   rcases List.mem_or_eq_of_mem_set hq with hq|rfl
   .exact old q hq
   .exact hc.2
  |cop t k=>exact old q hq
  |com rs=>
   rcases QG.mp hq with hq|hq
   .exact old q hq
   .rw[QJ.mp hq];exact hc
  |go a=>exact old q (List.mem_of_mem_eraseIdx hq)
  |thg k=>exact old q hq
 have:=VU gr hr
 lia
theorem R7(g:Good cs ls)(hc:KF cs.length ls.length ch)(hb:Kd cs.length ls.length ch=B3)(hf:YL cs.length ls.length ch=B2):∃p n,KY (beD cs ls ch)=O (p,n):=by
 cases e:KY (beD cs ls ch)with
 |some x=>exact⟨x.1,x.2,rfl⟩
 |none=>obtain⟨AH,ls2,e2,g2⟩:=HF (Sc g hc) e;obtain⟨h1,h2⟩:=EQ e2;have:=HD (ch:=ch) (cs:=cs) (ls:=ls) hf (by rw[h1,h2];exact g2);rw[hb]at this;cases this
end
theorem EO{x nm:Str}{s:SM}{ρ ρ1:Um}(h1:s ρ=.nx ρ1):X0 x nm s ρ=.nx ρ1:=by unfold X0;rw[h1]
theorem EN{x nm:Str}{s:SM}{ρ ρ1:Um}{d:D}(h1:s ρ=.ex ρ1 d)(h2:YT x d=B2):X0 x nm s ρ=.ex ρ1 (exD nm []):=by unfold X0;rw[h1];dsimp only;rw[if_pos h2]
theorem HC{f:M D}{ρ ρ1:Um}{d:D}(h:f ρ=.ok d ρ1):Uz f ρ=.rt d:=by unfold Uz sB;rw[h]
theorem HB{x:Str}{s t:SM}{i:Nat}{ρ ρ1:Um}{d r:D}(h1:s ρ=.ex ρ1 d)(h2:YT x d=B2)(h3:i<ρ1.length)(h4:t (ρ1.set i (O (.pub d)))=.rt r):K7 i x s t ρ=.rt r:=by unfold K7;rw[h1];dsimp only;rw[if_pos ⟨h2,h3⟩,h4]
theorem S4{t:SM}{Q:Out->Prop}(h:Q .bad):W6 t Q .bad:=⟨h⟩
theorem EM{x:Str}{s:SM}{ρ ρ1:Um}{d:D}(h1:s ρ=.ex ρ1 d):Wo x s YZ ρ=.bad:=by
 unfold Wo;rw[h1];dsimp only
 split<;>rfl
theorem Pw{n:Nat}{F:B4->B9}{g:M B4}{xs:B4}{ρ ρ1:Um}(h1:g ρ=.ok xs ρ1)(h2:xs.length=n)(h3:F xs=B0):UC n F g ρ=.bad:=by unfold UC UD;rw[h1];dsimp only;rw[if_pos h2,h3];rfl
theorem HA{i:Nat}{x:Str}{s t:SM}{ρ:Um}(h:s ρ=.bad):K7 i x s t ρ=.bad:=by unfold K7;rw[h]
theorem Hz{a:Nat}(h:a<=100):EZ 1 (.int (a:Int)):=⟨by show decide _=B2;exact decide_eq_true (by lia),by simp[Ue]⟩
theorem EL{n:Nat}{rs:List B6}(g:Km n rs)(hn:n<=7):EZ 3 (UE rs)/\(UE rs).bulk<=1000:=by
 refine⟨Pz (k:=2) λx hx=>?_,?_⟩
 .obtain⟨r,hr,rfl⟩:=Qw.mp hx
  refine Pz (k:=1) λy hy=>?_
  obtain⟨t,ht,rfl⟩:=Qw.mp hy;have:=g.there r hr t ht;exact⟨by show decide _=B2;exact decide_eq_true (by lia),by simp[Ue]⟩
 .have h1:∀x∈rs.map UJ,x.bulk<=7:=λx hx=>by
   obtain⟨r,hr,rfl⟩:=Qw.mp hx;have h2:=T5 (n:=0) (xs:=r.map int) λy hy=>by obtain⟨t,_,rfl⟩:=Qw.mp hy;simp[PyData.bulk]
   have h3:=VU g hr;rw[Qd]at h2;show PyData.bulk (.list (r.map int))<=7;rw[PyData.bulk]
   lia
  have h2:=T5 h1;have h3:=g.few;rw[Qd]at h2;show PyData.bulk (.list (rs.map UJ))<=1000;rw[PyData.bulk]
  lia
theorem Hy{n m:Nat}{ch:Chg}(hc:KF n m ch)(hn:n<=6)(hm:m<=7):∃z,YS [chD ch]=O (.str z):=by
 have key:∀ds:B4,(∀x∈ds,EZ 3 x/\x.bulk<=1000)->ds.length<=3->∃z,YS [.tuple ds]=O (.str z):=λds h hl=>by
  refine⟨_,ET (k:=4) (Hf λx hx=>(h x hx).1) (by decide) ?_⟩;have:=T5 λx hx=>(h x hx).2
  rw[PyData.bulk];have:=Nat.mul_le_mul_right (1000+1) hl
  lia
 have es:∀{w:Str},hZ (.str w)=B2->w.cps.size<=1000->EZ 3 (.str w)/\(Ub w).bulk<=1000:=λ{w} h1 h2=>⟨⟨h1,by simp[Ue]⟩,by rw[PyData.bulk];exact h2⟩
 have ei:∀{a:Nat},a<=100->EZ 3 (.int (a:Int))/\(int (a:Int)).bulk<=1000:=λh=>⟨(Hz h).mono (by decide),by rw[PyData.bulk];decide⟩
 have er:∀{rs:List B6},Km 7 rs->EZ 3 (UE rs)/\(UE rs).bulk<=1000:=λg=>EL g (Qt 7)
 have c3:∀{a b c:D}{P:D->Prop},P a->P b->P c->∀x∈[a,b,c],P x:=λ{a b c P} h1 h2 h3 x hx=>by
  have hx:x=a∨x=b∨x=c:=by simpa using hx
  rcases hx with rfl|rfl|rfl<;>assumption
 have c2:∀{a b:D}{P:D->Prop},P a->P b->∀x∈[a,b],P x:=λ{a b P} h1 h2 x hx=>by
  have hx:x=a∨x=b:=by simpa using hx
  rcases hx with rfl|rfl<;>assumption
 cases ch with
 |lst a rs=>exact key _ (c3 (es (by decide +kernel) (by decide +kernel)) (ei (by have:=hc.1;lia)) (er hc.2)) (Qt 3)
 |cop t k=>exact key _ (c3 (es (by decide +kernel) (by decide +kernel)) (ei (by have:=hc.1;lia)) (ei (by have:=hc.2;lia))) (Qt 3)
 |com rs=>exact key _ (c2 (es (by decide +kernel) (by decide +kernel)) (er hc)) (show 2<=3 by decide)
 |go a=>exact key _ (c2 (es (by decide +kernel) (by decide +kernel)) (ei (by have:a<=m:=hc;lia))) (show 2<=3 by decide)
 |thg k=>exact key _ (c2 (es (by decide +kernel) (by decide +kernel)) (ei (by have:k<10:=hc;lia))) (show 2<=3 by decide)
theorem OK{N:List Str}{g:SM}{f:M D}{ds:B4}{ρ:Um}(h0:KQ N ds=ρ)(h:Ho g ρ λo=>o=.bad):YM N g f ds=B0:=by subst h0;unfold YM;rw[h.out]
theorem OJ{i:Nat}{p:Pat}{f:M D}{ρ:Um}(h:f ρ=.bad):Y7 i p f ρ=.bad:=by unfold Y7 sB;rw[h]
theorem Df{cs:B6}{ls:L3}(h1:ls.length<=1000)(h2:∀rs∈ls,rs.length<=1000):Vr [UO cs ls]=O (UO cs ls):=by refine SY (ρ:=[pb (UO cs ls),B0,B0]) Z ?_;unfold RN;refine UP (ρ1:=[pb (UO cs ls),pb (.list (cs.map int)),pb (.list (ls.map UE))]) (Wt (Uu Z) (KU Z (U7 (UF (Qa Z) Z) (U7 (UF (Qa Z) Z) KW)))) (UX ⟨_,rfl,[pb (UO cs ls),pb (.list (cs.map int)),pb (.list (ls.map UE))],?_⟩);refine E7 (c:=PyData.tuple) (ds:=[.list (cs.map int),.list (ls.map UE)]) (Op (Kq (x:=cs.map int) Z) (Op (Oo (ds:=ls.map UE) (Zp (Uu Z) Z) (es:=ls.map UE) ?_) Uy)) (show 2<=1000000 by decide);refine(W1 UE UE (λρ=>∃x,ρ=[pb (UO cs ls),pb (.list (cs.map int)),pb (.list (ls.map UE)),x]) ls _ [] ?_ ⟨B0,rfl⟩ (by rw[QX];omega)).trans Z;rintro rs hrs ρ ⟨x,rfl⟩;refine⟨_,UF (Qa Z) Z,Oo (ds:=rs.map UJ) (Zp (Uu Z) Z) (es:=rs.map UJ) ?_,_,rfl⟩;refine(W1 UJ UJ (λρ=>∃x,ρ=[pb (UO cs ls),pb (.list (cs.map int)),pb (.list (ls.map UE)),pb (UE rs),x]) rs _ [] ?_ ⟨B0,rfl⟩ (by have:=h2 rs hrs;rw[QX];omega)).trans Z;rintro r hr ρ ⟨x,rfl⟩;exact⟨_,UF (Qa Z) Z,Kq (x:=r.map int) Z,_,rfl⟩
theorem OS{cs:B6}{ls:L3}(g:Good cs ls):Vr [UO cs ls]=O (UO cs ls):=Df (by have:=g.l7;lia) λrs hrs=>by have:=(g.rk rs hrs).few;lia
theorem Ml{C:D}{q rest:B4}(h:q.length<1000000):Zf (.lst .leaf) (.list [.int 9]) [1,0] (.tup [.lst .leaf,.lst (.lst (.lst .leaf))]) (.tuple [C,.list (.list q::rest)])=O (.tuple [C,.list (.list (q++[.list [.int 9]])::rest)]):=by
 have e:Zf (.lst .leaf) (.list [.int 9]) [] (.lst (.lst .leaf)) (.list q)=O (.list (q++[.list [.int 9]])):=Qr ⟨rfl,h⟩
 have e1:Zf (.lst .leaf) (.list [.int 9]) [0] (.lst (.lst (.lst .leaf))) (.list (.list q::rest))=O (.list (.list (q++[.list [.int 9]])::rest)):=by
  show((O (J9 q)).bind λd=>(Zf (.lst .leaf) (.list [.int 9]) [] (.lst (.lst .leaf)) d).map λd'=>J9 ((J9 q::rest).set 0 d'))=_
  rw[Option.bind_some,e];rfl
 show((O (Pat.lst (.lst (.lst .leaf)))).bind λp=>(O (J9 (.list q::rest))).bind λd=>(Zf (.lst .leaf) (.list [.int 9]) [0] p d).map λd'=>PyData.tuple ([C,.list (.list q::rest)].set 1 d'))=_
 rw[Option.bind_some,Option.bind_some,e1];rfl
theorem Hx(qs:L3):oNe (.list (qs.map UE)) (.list (qs.map UE))=O B3:=by
 have lay:(J9 (qs.map UE)).canLay0=B2:=Vk λx hx=>by obtain⟨y,_,rfl⟩:=Qw.mp hx;exact No y
 have dep:(J9 (qs.map UE)).depth<=60:=Qq (TB (n:=3) (Vj λx hx=>by obtain⟨y,_,rfl⟩:=Qw.mp hx;exact Nn y)) (by decide);unfold oNe;rw[Qr ⟨lay,lay,dep⟩,T3 _ lay];rfl
theorem De{n:Nat}{cs:B6}{r0:List B6}{qs:L3}(h0:Km n r0)(hq:∀q∈qs,Km n q)(hn:n<=6)(hl:qs.length<=6)(hcs:cs.length<=6):U3 9 8 (.tup [.lst .leaf,.lst (.lst (.lst .leaf))]) (.tuple [.list (cs.map int),.list (.list (r0.map UJ++[.list [.int 9]])::qs.map UE)])=B2:=by
 have lr:∀(m:Nat)(r:B6),r.length<=6->U3 (m+2) 8 (.lst .leaf) (UJ r)=B2:=λm r h=>by unfold UJ;simp only[U3,Qn,QY,QS,Qd];exact⟨by omega,λ_ _=>trivial⟩
 have l1:U3 7 8 (.lst (.lst .leaf)) (.list (r0.map UJ++[.list [.int 9]]))=B2:=by
  simp only[U3,Qn,QY,QS,Qo,Qd,QK];have:=h0.few;refine⟨by omega,λx hx=>?_⟩;rcases QG.mp hx with hx|hx
  .obtain⟨r,hr,rfl⟩:=Qw.mp hx
   exact lr 4 r (Qq (VU h0 hr) hn)
  .rw[QJ]at hx
   subst hx;rfl
 have l2:∀q∈qs,U3 7 8 (.lst (.lst .leaf)) (UE q)=B2:=λq Ax=>by have g:=hq q Ax;unfold UE;simp only[U3,Qn,QY,QS,Qd];have:=g.few;refine⟨by omega,λx hx=>?_⟩;obtain⟨r,hr,rfl⟩:=Qw.mp hx;exact lr 4 r (Qq (VU g hr) hn)
 have l4:U3 8 8 (.lst (.lst (.lst .leaf))) (.list (.list (r0.map UJ++[.list [.int 9]])::qs.map UE))=B2:=by rw[U3,Ju,l1,QE (by rw[QB,Qd];omega),JM,JM,QS];intro x hx;obtain⟨q,Ax,rfl⟩:=Qw.mp hx;exact l2 q Ax
 show(U3 8 8 (.lst .leaf) (.list (cs.map int))&&(U3 8 8 (.lst (.lst (.lst .leaf))) (.list (.list (r0.map UJ++[.list [.int 9]])::qs.map UE))&&B2))=B2
 rw[l4,show U3 8 8 (.lst .leaf) (.list (cs.map int))=B2 from lr 6 cs hcs];rfl
theorem OI(cs:B6)(ls:L3):oEq (UO cs ls) (UO cs ls)=O B2:=by unfold oEq;have h:=TZ cs ls;have d:=OQ cs ls;rw[Qr ⟨h,h,d⟩,T3 _ h]
theorem OH{cs:B6}{ls:L3}{ch:Chg}(g:Good cs ls)(hc:KF cs.length ls.length ch):T6 [UO cs ls,chD ch]=if Kd cs.length ls.length ch=B2 then O (beD cs ls ch)else B0:=by
 let W:Option Sl:=O (.pub (UO cs ls))
 let C:Option Sl:=O (.pub (chD ch))
 cases hb:Kd cs.length ls.length ch with
 |true=>
  rw[Qr Z];have gb:=Tz g hc hb;have hf:=OT hb;refine SY (ρ:=[W,C,B0]) Z ?_;unfold T7;refine UP (VS (U0 (Ut (Uu Z) Uy) Z (Nk g))) ?_;apply UT;refine UL (b:=B3) (K0 (t:=B2) (Zi (U0 (Ut (Uu Z) (Ut (Uu Z) Uy)) Z (VO.trans (by rw[hf]))))) (λz=>by cases z) λ_=>UX (UV ?_)
  refine UP (ρ1:=[W,C,pb (beD cs ls ch)]) (Ka (U0 (Ut (Uu Z) (Ut (Uu Z) Uy)) Z (RC g hf)) (Qa Z) Z) ?_;refine UP (Ex (W5 (YA (Ut (Uu Z) Uy) Z (Se gb)) Z)) ?_;exact UX ⟨_,rfl,_,U0 (Ut (Uu Z) Uy) Z (OS gb)⟩
 |false=>
  rw[QD (by decide)];refine OK (ρ:=[W,C,B0]) Z ?_;unfold T7;refine UP (VS (U0 (Ut (Uu Z) Uy) Z (Nk g))) ?_;apply UT;cases hf:YL cs.length ls.length ch with
  |false=>exact UL (b:=B2) (K0 (t:=B3) (Zi (U0 (Ut (Uu Z) (Ut (Uu Z) Uy)) Z (VO.trans (by rw[hf]))))) (λ_=>Kr Z (S4 Z)) λz=>by cases z
  |true=>
   refine UL (b:=B3) (K0 (t:=B2) (Zi (U0 (Ut (Uu Z) (Ut (Uu Z) Uy)) Z (VO.trans (by rw[hf]))))) (λz=>by cases z) λ_=>UX (UV ?_)
   refine UP (ρ1:=[W,C,pb (beD cs ls ch)]) (Ka (U0 (Ut (Uu Z) (Ut (Uu Z) Uy)) Z (RC g hf)) (Qa Z) Z) ?_;have hx:=S3 (Sc g hc);obtain⟨p,n,hd⟩:=R7 g hc hb hf;rw[hd]at hx;apply UT;exact Kr (EM (VA (YA (Ut (Uu Z) Uy) Z hx))) (S4 Z)
section
variable{cs:B6}{ls:L3}{ch:Chg}
noncomputable def chX(b:Bool)(d:D):XR:=if b=B2 then .val d else .exc (exD "NoChange" [])
theorem EK(g:Good cs ls)(hc:KF cs.length ls.length ch):T8 [UO cs ls,chD ch]=O (chX (Kd cs.length ls.length ch) (beD cs ls ch)):=by
 let W:Option Sl:=O (.pub (UO cs ls))
 let C:Option Sl:=O (.pub (chD ch))
 refine V5 (ρ:=[W,C,B0]) Z ?_;unfold Rr;refine UP (W5 (YA (Ut (Uu Z) Uy) Z (Se g)) Z) ?_;apply UT;cases hf:YL cs.length ls.length ch with
 |false=>
  have hb:Kd cs.length ls.length ch=B3:=by
   cases e:Kd cs.length ls.length ch with
   |false=>rfl
   |true=>rw[OT e]at hf;cases hf
  rw[hb];exact UL (b:=B2) (K0 (t:=B3) (Zi (U0 (Ut (Uu Z) (Ut (Uu Z) Uy)) Z (VO.trans (by rw[hf]))))) (λ_=>Kr (Y1 (Ut Uv Uy) Z) (Yu ⟨rfl,rfl⟩)) λz=>by cases z
 |true=>
  refine UL (b:=B3) (K0 (t:=B2) (Zi (U0 (Ut (Uu Z) (Ut (Uu Z) Uy)) Z (VO.trans (by rw[hf]))))) (λz=>by cases z) λ_=>UX (UV ?_)
  refine UP (ρ1:=[W,C,pb (beD cs ls ch)]) (Ka (U0 (Ut (Uu Z) (Ut (Uu Z) Uy)) Z (RC g hf)) (Qa Z) Z) ?_;have hx:=S3 (Sc g hc);cases hb:Kd cs.length ls.length ch with
  |true=>have gb:=Tz g hc hb;refine UP (EO (W5 (YA (Ut (Uu Z) Uy) Z (Se gb)) Z)) ?_;exact U4 (U0 (Ut (Uu Z) Uy) Z (OS gb)) Z
  |false=>obtain⟨p,n,hd⟩:=R7 g hc hb hf;rw[hd]at hx;apply UT;exact Kr (EN (VA (YA (Ut (Uu Z) Uy) Z hx)) Z) (Yu ⟨rfl,rfl⟩)
theorem Mk(g:Good cs ls)(hc:KF cs.length ls.length ch):YJ [UO cs ls,chD ch]=O (if Kd cs.length ls.length ch=B2 then beD cs ls ch else .int 1):=by
 let W:Option Sl:=O (.pub (UO cs ls))
 let C:Option Sl:=O (.pub (chD ch))
 have hx:=EK g hc;refine Zc (ρ:=[W,C,B0,B0]) Z ?_;unfold WL;refine UP (ρ1:=[W,C,O (.pub .none),B0]) (Ka Uv (Qa Z) Z) ?_;cases hb:Kd cs.length ls.length ch with
 |true=>rw[hb]at hx;refine UP (ρ1:=[W,C,pb (beD cs ls ch),B0]) (PX (W5 (YA (Ut (Uu Z) (Ut (Uu Z) Uy)) Z hx) Z)) ?_;exact U4 (Uu Z) Z
 |false=>rw[hb]at hx;apply UT;refine Kr (HB (VA (YA (Ut (Uu Z) (Ut (Uu Z) Uy)) Z hx)) Z (Qa Z) (HC (Zh (Ut (Yw (t:=B2) (U6 (Uu Z) (KS (by kernel_rfl))) λ_=>PL (t:=B3) (U6 (Uu Z) (KS (by kernel_rfl)))) Uy) Z))) (KL Z)
theorem Hd(g:Good cs ls)(hc:KF cs.length ls.length ch)(hb:Kd cs.length ls.length ch=B2):V1 [UO cs ls,chD ch]=O (beD cs ls ch):=by
 have hx:=OH g hc;rw[hb,Qr Z]at hx
 let W:Option Sl:=O (.pub (UO cs ls))
 let C:Option Sl:=O (.pub (chD ch))
 refine SY (ρ:=[W,C,B0,B0]) Z ?_;unfold Sb;refine UP (ρ1:=[W,C,O (.pub .none),B0]) (Ka Uv (Qa Z) Z) ?_;exact UP (PX (PQ (U0 (Ut (Uu Z) (Ut (Uu Z) Uy)) Z hx) (Qa Z) Z)) (UX ⟨_,rfl,_,Fd Z Z⟩)
theorem Cz(g:Good cs ls)(hc:KF cs.length ls.length ch)(hb:Kd cs.length ls.length ch=B3):V1 [UO cs ls,chD ch]=B0:=by have hx:=OH g hc;rw[hb,QD (by decide)]at hx;refine OK (ρ:=[pb (UO cs ls),pb (chD ch),B0,B0]) Z ?_;unfold Sb;refine UP (Ka Uv (Qa Z) Z) ?_;apply UT;exact Kr (HA (OJ (Pw (Ut (Uu Z) (Ut (Uu Z) Uy)) Z hx))) (S4 Z)
theorem EJ(g:Good cs ls):XI [UO cs ls]=O (.bool B2):=by
 have c6:=g.c6;have l7:=g.l7
 let W:Option Sl:=O (.pub (UO cs ls))
 have i0:oIx (UO cs ls) (.int 0)=O (.list (cs.map int)):=YC (j:=0) Z;have i1:oIx (UO cs ls) (.int 1)=O (.list (ls.map UE)):=YC (j:=1) Z;have allw:∀(xs:B6)(f:M B4)(x1 x2:Option Sl),xs.length<=1000->f [W,x1,x2]=.ok (xs.map int) [W,x1,x2]->UQ [W,x1,x2]=[W,x1,x2]->Zq f 1 (gN 3) (Up B2) (UC 1 Zy (Ur (Uo 3) (Uq))) [W,x1,x2]=.ok (xs.map λ_=>.bool B2) [W,x1,x2]:=λxs f x1 x2 hl hf hh=>by refine YB (ds:=xs.map int) hf ?_;rw[hh];refine(XA int (λ_=>.bool B2) (λρ=>∃x,ρ=[W,x1,x2,x]) xs _ [] ?_ ⟨B0,rfl⟩ (by rw[QX];lia)).trans Z;rintro t _ ρ ⟨x,rfl⟩;refine⟨_,UF (Qa Z) Z,U0 (Ut (Uu Z) Uy) Z (NT _),pb (.int t),?_⟩;show UQ ([W,x1,x2]++[pb (.int t)])=_;unfold UQ at hh⊢;rw[Q2,hh];rfl
 refine Zc (ρ:=[W,B0,B0]) Z ?_;unfold WM;apply UT;refine UL (b:=B3) (Zb (KP (Uu Z) Z) (Zb (UH (Ki Z Z) Uv (VR.trans Z)) (KP (UN Z Uv i0) Z))) (λz=>by cases z) λ_=>UX (UV ?_)
 apply UT;refine UL (b:=B3) (Zb (KP (UN Z Uv i1) Z) (K0 (t:=B2) (Zi (Zh (Ut (Kq (allw cs _ B0 B0 (by lia) (Zp (UN Z Uv i0) Z) Z)) Uy) (TL cs))))) (λz=>by cases z) λ_=>UX (UV ?_)
 apply UT;apply YW (ds:=ls.map UE) (λ_ ρ=>∃x1 x2,ρ=[W,x1,x2])
 case h1=>exact Zp (UN Z Uv i1) Z
 case h0=>exact⟨B0,B0,rfl⟩
 case hst=>
  rintro i d ρ hi ⟨x1,x2,rfl⟩;obtain⟨rs,hrs,rfl⟩:=Qw.mp (Q3 hi);have gr:=g.rk rs hrs;refine⟨_,UF (Qa Z) Z,?_⟩;unfold P6;apply UT;refine UL (b:=B3) (KP (Uu Z) Z) (λz=>by cases z) λ_=>UX (UV ?_)
  apply YW (ds:=rs.map UJ) (λ_ ρ=>∃x2,ρ=[W,pb (UE rs),x2])
  case h1=>exact Zp (Uu Z) Z
  case h0=>exact⟨x2,rfl⟩
  case hst=>rintro j d ρ hj ⟨x2,rfl⟩;obtain⟨r,hr,rfl⟩:=Qw.mp (Q3 hj);have qw:=VU gr hr;refine⟨_,UF (Qa Z) Z,?_⟩;unfold P7;exact UL (b:=B3) (Zb (KP (Uu Z) Z) (K0 (t:=B2) (Zi (Zh (Ut (Kq (allw r _ _ _ (by lia) (Zp (Uu Z) Z) Z)) Uy) (TL r))))) (λz=>by cases z) λ_=>UX (ZX ⟨_,rfl⟩)
  case hend=>rintro ρ ⟨x2,rfl⟩;exact ZX ⟨_,_,rfl⟩
 case hend=>rintro ρ ⟨x1,x2,rfl⟩;exact UV (U4 Uv rfl)
theorem Hw(g:Good cs ls)(hc:KF cs.length ls.length ch):XH [UO cs ls,chD ch]=O (.bool B2):=by
 have c6:=g.c6;have l7:=g.l7;obtain⟨z,hz⟩:=Hy hc c6 l7
 let W:Option Sl:=O (.pub (UO cs ls))
 let C:Option Sl:=O (.pub (chD ch))
 let BZ:Option Sl:=O (.pub (.str z))
 have hT:=Mk g hc;have hG:=Nq g hc;refine Zc (ρ:=[W,C,B0,B0,B0,B0,B0,B0]) Z ?_;unfold WK;refine UP (ρ1:=[W,C,W,B0,B0,B0,B0,B0]) (Ka (U0 (Ut (Uu Z) Uy) Z (PC g)) (Qa Z) Z) ?_;refine UP (ρ1:=[W,C,W,BZ,B0,B0,B0,B0]) (Ka (Zh (Ut (Uu Z) Uy) hz) (Qa Z) Z) ?_;cases hb:Kd cs.length ls.length ch with
 |false=>
  rw[hb]at hT hG;rw[QD (by decide)]at hT;refine UP (ρ1:=[W,C,W,BZ,pb (.int 1),B0,B0,B0]) (Hm (OJ (Pw (Ut (Uu Z) (Ut (Uu Z) Uy)) Z (Cz g hc hb))) (Ka (U0 (Ut (Uu Z) (Ut (Uu Z) Uy)) Z hT) (Qa Z) Z)) ?_;apply UT;refine UL (b:=B3) (UH (Zh (Ut (Uu Z) Uy) hz) (Uu Z) Ra) (λz=>by cases z) λ_=>UX (UV ?_)
  apply UT;refine UL (b:=B2) (K0 (t:=B3) (Zi (U0 (Ut (Uu Z) (Ut (Uu Z) Uy)) Z hG))) (λ_=>?_) λz=>by cases z
  exact U4 (Er (Yw (t:=B2) (Kq (Yv Z Uv (Z1.trans Z))) λ_=>Yw (t:=B2) (U0 (Ut (Uu Z) Uy) Z (NT _)) λ_=>Kq (Yv Z (Uu Z) (OI cs ls))) Z) (KL Z)
 |true=>
  rw[hb]at hT hG;rw[Qr Z]at hT;have hO:=Hd g hc hb;have gb:=Tz g hc hb;have hB:=OL g hb;have hP:=EJ gb;unfold beD at hO hT hB;generalize hcs2:(chW cs ls ch).1=AH at hO hT hB gb hP;generalize (chW cs ls ch).2=ls2 at hO hT hB gb hP;have hl1:=gb.l1;have c62:=gb.c6;have l72:=gb.l7
  obtain⟨r0,qs,rfl⟩:∃r0 qs,ls2=r0::qs:=by
   cases ls2 with
   |nil=>rw[QX]at hl1;lia
   |cons a b=>exact⟨a,b,rfl⟩
  rw[QB]at l72;have gr:=gb.rk;have hlen:=De (cs:=AH) (gr r0 Qk) (λq m=>gr q (Qj _ m)) c62 (by lia) c62;have hr0:=(gr r0 Qk).few;have hn:=PH AH (r0::qs);have he:=OI AH (r0::qs);have hw:UO AH (r0::qs)=.tuple [.list (AH.map int),.list (.list (r0.map UJ)::qs.map UE)]:=rfl;rw[hw]at hO hT hB hn he hP;have d1:∀x:D,ZJ (.list (x::qs.map UE)) (O 1) B0=O (.list (qs.map UE)):=λx=>by rw[TR];exact JQ (λz=>O (J9 z)) (OU (a:=1))
  refine UP (LR (PQ (U0 (Ut (Uu Z) (Ut (Uu Z) Uy)) Z hO) (Qa Z) Z) (λh=>by cases h)) ?_;apply UT;refine UL (b:=B3) (UH (Zh (Ut (Uu Z) Uy) hz) (Uu Z) Ra) (λz=>by cases z) λ_=>UX (UV ?_)
  apply UT;refine UL (b:=B3) (K0 (t:=B2) (Zi (U0 (Ut (Uu Z) (Ut (Uu Z) Uy)) Z hG))) (λz=>by cases z) λ_=>UX (UV ?_)
  refine UP (Ka (U0 (Ut (Uu Z) (Ut (Uu Z) Uy)) Z hB) (Qa Z) Z) ?_;apply UT;refine UL (b:=B3) (PR (Zb (K0 (t:=B2) (Zi (U0 (Ut (Uu Z) Uy) Z hP))) (Yv Z (Uu Z) hn))) (λz=>by cases z) λ_=>UX (UV ?_)
  refine UP (GZ Z (Ml (by rw[Qd];lia)) Z) ?_;apply UT;refine UL (b:=B3) (PR (UH (YV (UN Z Uv Z) (Z2 Uv) Uv (d1 _)) (YV (UN Z Uv Z) (Z2 Uv) Uv (d1 _)) (Hx qs))) (λz=>by cases z) λ_=>UX (UV ?_)
  refine UP (E4 Z Z hlen (by decide +kernel) (by simp) Z) ?_;apply UT;refine UL (b:=B3) (Zb (Yv Z (Uu Z) (PH cs ls)) (UH (Zh (Ut (Uu Z) Uy) hz) (Uu Z) Ra)) (λz=>by cases z) λ_=>UX (UV ?_)
  exact U4 (Kq (UH (U0 (Ut (Uu Z) (Ut (Uu Z) Uy)) Z hT) (Uu Z) he)) Z
end
theorem EI:∀ns:B6,ns.length<=63->XG [.list (ns.map int)]=O (.bool B2):=by
 intro ns hns;refine Zc (ρ:=[pb (.list (ns.map int)),B0,B0,B0]) Z ?_;unfold WJ;obtain⟨r,hr,cs,ls,rfl,g,_⟩:=Bs 6 7 5 (ns:=ns) (by lia) 0;have hlen:Kc [.list (ns.map int)]=O (.int ns.length):=by rw[K3,Qd]
 let S:Option Sl:=O (.pub (.list (ns.map int)))
 refine UP (ρ1:=[S,pb (UO cs ls),B0,B0]) (Ka (U0 (Ut (Uu Z) (Ut Uv (Ut Uv (Ut Uv (Ut Uv Uy))))) Z hr) (Qa Z) Z) ?_;apply UT;apply YW (λ_ ρ=>∃cs ls x2 x3,ρ=[S,pb (UO cs ls),x2,x3]/\Good cs ls)
 case h1=>exact SU (Ut Uv (Ut (Zh (Ut Uv (Ut (Zh (Ut Uv (Ut (Ki Z hlen) Uy)) GC) Uy)) PJ) Uy)) (Rb (by split<;>(try split)<;>lia) (by split<;>(try split)<;>lia) (by decide) (by decide))
 case h0=>exact⟨cs,ls,B0,B0,rfl,g⟩
 case hst=>
  rintro i d ρ hi ⟨cs,ls,x2,x3,rfl,g⟩;obtain⟨rfl,_⟩:=V3 hi;have e1:(8:Int)+(i:Int)=((8+i:Nat):Int):=by lia
  obtain⟨v,hv⟩:=RA ns (8+i) (by lia);rw[e1];obtain⟨r,hch,ch,rfl,hc⟩:=BB g v ((8+i:Nat):Int);refine⟨_,UF (Qa Z) Z,?_⟩;unfold P2
  let W:Option Sl:=O (.pub (UO cs ls))
  let I:Option Sl:=O (.pub (.int ((8+i:Nat):Int)))
  refine UP (ρ1:=[S,W,I,pb (chD ch)]) (Ka (U0 (Ut (Uu Z) (Ut (U0 (Ut (Uu Z) (Ut (Uu Z) Uy)) Z hv) (Ut (Uu Z) Uy))) Z hch) (Qa Z) Z) ?_;apply UT;refine UL (b:=B3) (K0 (t:=B2) (Zi (U0 (Ut (Uu Z) (Ut (Uu Z) Uy)) Z (Hw g hc)))) (λz=>by cases z) λ_=>UX (UV ?_)
  refine UL (Zi (U0 (Ut (Uu Z) (Ut (Uu Z) Uy)) Z (Nq g hc))) (λhb=>?_) λ_=>UX (ZX ⟨cs,ls,_,_,rfl,g⟩);have gb:=Tz g hc hb;exact Kr (Ka (U0 (Ut (U0 (Ut (Uu Z) (Ut (Uu Z) Uy)) Z (OL g hb)) Uy) Z (PC gb)) (Qa Z) Z) (ZX ⟨_,_,_,_,rfl,gb⟩)
 case hend=>rintro ρ ⟨cs,ls,x2,x3,rfl,g⟩;exact UV (U4 Uv rfl)
end W
open PySem PySem.W PyProof.Rows
set_option maxRecDepth 100000 in
set_option maxHeartbeats 0 in
theorem PySem.Challenge.cw_wishdeal_k71_wishes_changed_holds : PySem.Challenge.rw_wishdeal_k71_wishes_changed.Holds := by
 w_on;o_law
 refine holds_open (q:=W.q0) (loose:=["SIZES"]) (Xt:=λs=>xlAt W.q0 [] s&&recOk [] s) (XP:=XL W.q0 []) (Yf:=λs=>(DL.xSeen W.clsL s,DL.Va "SIZES" s.heap)) (Ya:=λw=>(DL.xGood W.p0 W.clsL,DL.W9 w [("list", 3),("copies", 3),("come", 2),("go", 2),("thing", 2)])) (YP:=λw h=>DL.XYP W.p0 W.clsL h/\DL.TabP w "SIZES" [("list", 3),("copies", 3),("come", 2),("go", 2),("thing", 2)] h) (N:=3724) (d:=W.d_ax) (kwd:=[])
  W.MK (λ_ _ e=>⟨DL.L7 (JB e).1,DL.Hl (JB e).2⟩) (λ_ _ _ y k=>⟨y.1.keeps k,y.2.keeps k⟩) (λs e=>xl_of s (Bool.and_eq_true_iff.mp e).1) XL.keeps (by rfl) (by rfl) (by rfl)
  (λs e=>recFacts_of (Bool.and_eq_true_iff.mp e).2) (by rfl) (by assumption) (by decide +kernel) ⟨rfl,rfl,rfl,rfl,rfl,by decide +kernel⟩ ?hw (W.walk W.EI)
 case hw=>w_witness2


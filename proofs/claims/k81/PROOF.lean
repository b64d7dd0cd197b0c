import PyProof.Rows.All
import Wide.All
import OpenK.AllK
import Wide.FinOn
import Lean
import PyProof.EqAt
import PyProof.EqKinds
import PyProof.TupleCall
import PyProof.EnumMake
import PyProof.ZipIter
import PyProof.ExcClass2
import PyProof.ExcInit
import PyProof.ExcBaseAll.ValueError
import PyProof.FString2
import PyProof.ExcArgsOwn
import PyProof.InstStoreFacts
import ObjForm.Fk.InstStore
import ObjForm.Fk.InstLoad
import PyProof.StationsW
import PyProof.RulesAs
import PyProof.NsDelKeeps
import OpenK.KMore
import PyProof.IsiBase
import OpenK.KNot
import PyProof.Rows.RuleN_isinstance
import PyProof.NeData
import PyProof.P3In
import PyProof.StrWalks
import PyProof.ConsumeWalk
import PyProof.SliceStr2
import PyProof.MeetsStr
import KE.KItem
import KE.KUnpack
import KE.KRevSl
import PyProof.Rows.SetFrom
import PyProof.SetRoads
import PyProof.Rows.Range3
import PyProof.CallType
import PyProof.Rows.CallKwBuiltin
import PyProof.Rows.MinMaxN
import PyProof.SumWalkG
import PyProof.Rows.SeqMore
import PyProof.Rows.SortWalk
import PyProof.Rows.SumAny
import PyProof.Rows.SeqMore2
import KE.KSortTup
import PyProof.Rows.SortShellK
import PyProof.ReprRoads
import PyProof.ReprBulk
import PyProof.CallFns
import PyProof.NeKinds
import PyProof.Rows.StrJoinMade
import PyProof.StrCalls
import KE.KIntText
import PyProof.ReprDict
import PyProof.DictIter
import PyProof.Rows.DictUnroll
import PyProof.MeetsStr2
import PyProof.Rows.StrNews
import PyProof.StrLawsChain
import PyProof.Rows.StrItems
import PyProof.SeqRoads2
import PyProof.Rows.StrNews2
import PyProof.Rows.StrLawsPart
import PyProof.Rows.StrFirst
import PySem.Challenge.RW_wishdeal_k81_whole_best_counts_come_toge
set_option compiler.extract_closed false
set_option Elab.async false
set_option linter.all false
set_option maxRecDepth 100000
set_option maxHeartbeats 4000000
open Option renaming some→O,none→zp
open Bool renaming true→zq,false→zr
theorem zo.{u}{α:Sort u}{a:α}:a=a:=rfl
abbrev zu:=List Int
abbrev zC:=Option Int
abbrev zI:=List Nat
abbrev zK:=Option Bool
theorem Qa:type_of% @of_decide_eq_true:=@of_decide_eq_true
theorem Qr:type_of% @if_pos:=@if_pos
theorem QA:type_of% @if_neg:=@if_neg
theorem QN:type_of% @decide_eq_true_eq:=@decide_eq_true_eq
theorem QT:type_of% @decide_eq_false:=@decide_eq_false
theorem Jg:type_of% @decide_eq_true:=@decide_eq_true
theorem Jq:type_of% @of_decide_eq_false:=@of_decide_eq_false
theorem Ug:type_of% @congrArg:=@congrArg
open List renaming length_map→Qb,getElem?_map→Qd,getElem?_eq_getElem→Qe,getElem?_eq_some_iff→Qg,getD_eq_getElem?_getD→Qh,length_append→Qi,mem_cons_of_mem→Qj,mem_cons_self→Ql,mem_map→Qn,length_range→Qo,getElem?_set_ne→Qp,getElem?_append_left→Qq,getElem?_append_right→Qt,map_append→Qu,map_cons→Qv,length_nil→Qw,mem_of_getElem?→Qy,length_cons→Qz,mem_singleton→QB,getElem?_replicate→QC,mem_append_right→QD,mem_append→QH,getElem?_set_self→QI,getElem?_range→QJ,mem_cons→QL,map_map→QQ,nil_append→QR,mem_append_left→QU,getElem?_eq_none→QW,length_singleton→QX,length_replicate→Q0,append_assoc→Q2,mem_range→Q3,zip_cons_cons→Q4,lookup_cons→Q7,mem_filter→Q8,length_filterMap_le→Q9,length_take→Ja,length_set→Jb,all_eq_true→Jf,size_toArray→Jk,drop_eq_getElem_cons→Jl,append_nil→Jm,sum_cons→Jn,map_congr_left→Jo,mem_filterMap→Jp,length_filter_le→Js,foldl_cons→Ju,length_drop→Jx,getElem_mem→Jy,ext_getElem?→JC,filterMap_cons→JF,length_reverse→JG,filter_eq_self→JH,count_cons→JJ,range_succ→JK,contains_cons→JL,take_length→JM,count_append→JN,length_zip→JP,pairwise_cons→JU,take_append_drop→JW,getElem?_zip_eq_some→JX,flatten_cons→JZ,getElem?_cons_succ→J6,mem_flatten→J7,take_succ→J8,getElem_map→J9,drop_eq_nil_of_le→Ub,sum_append→Ud,getElem?_reverse→Ue,pairwise_map→Uf,getElem?_of_mem→Ui,replicate_succ→Ul,length_pos_iff→Uo,reverse_append→Up,nodup_cons→Uq,count_eq_zero→Us,range→UF,replicate→UG,Pairwise→UQ
open PySem renaming wpAny_bind→Qf,wpAny_pure→Qs,wpAny_mono→QG,wpAny_loadPart_at→QP,wpAny_truthy_bool→Q6,wpAny_isSubtype_exc→Jc,mem_of_lookup→Jh,wpAny_field→Jj,wpAny_passesOwn→Jr,codeAny_call_builtin→JA,wpAny_standAt→JE,Value→Uv,Shared→Uw,Program→Ux,Addr→Uy,FuncData→Uz,Expr→UA,sizeLine→UB,wpAny→UC,starEach→UD,compareOp→UE,assignEach→US,foldedSetIterable→UT
open PySem.Heap renaming lt_size→Qk,get?_push_of_some→Qm,get?_push_size→QE,get?_update_other→Q5
open Nat renaming le_refl→Qx,lt_of_lt_of_le→QF,zero_add→QK,le_trans→QM,ne_of_lt→QY,le_of_not_lt→Ji,lt_irrefl→Jt,add_sub_cancel_left→JO,ne_of_gt→JQ,succ_pos→JS,lt_succ_self→JT,lt_succ_of_lt→J4,le_succ→Ua,not_lt_zero→Uc,zero_le→Uh,le_add_right→Uj
open Option.some renaming inj→QO
open Int renaming toNat_natCast→QS,mul_le_mul_of_nonneg_right→QZ,le_refl→Jd,zero_add→JD,le_of_mul_le_mul_right→JV,le_antisymm→JY,le_trans→J0,mul_zero→Uk,not_lt→Uu
open Bool renaming and_eq_true→Je,eq_iff_iff→Jv,and_eq_true_iff→J5
open PySem.W.Fast renaming te1987589406359920131→Jw
open Array renaming getD_eq_getD_getElem?→Jz,getElem?_eq_some_iff→JB,length_toList→Um
open PySem.W renaming kia_one→JI
open PyProof.Rows renaming callWith_type1→JR
open Array.Perm renaming refl→Ur
open Prod.mk renaming inj→Ut
open PySem.PyData renaming list→UH,bool→UI,str→UJ,strOk→UK,canLayAll0→UL,depth→UM,eqv→UN,shown→UR
open PySem.PassesOwn renaming never→UO
open PySem.Str renaming ofString→UP
abbrev zy:=List UA
abbrev zA:=List Uv
abbrev zB:=Option Uv
abbrev zE:=List Uy
abbrev zJ:=Option Uy
abbrev LO:=List zC
abbrev zG:=Option LO
abbrev LP:=List (Int×Int)
open PySem.W (Frag)
open PySem.PyData (int)
open List (replicate)
namespace DL
open PySem PySem.Spec PySem.W PyProof.Rows
def topRunT(tb:String->Option Builtin)(p:Ux)(w:World)(m:Nat)(ann:zB):Nat->SharedT->Thread->Option SharedT
 |0,_,_=>zp
 |n+1,s,t=>match through t,stepOk m ann t with
  |true,_=>O s
  |false,zr=>zp
  |false,zq=>match stepT (denote tb) p w s t with
   |some x=>topRunT tb p w m ann n x.1 x.2
   |none=>zp
theorem Dc      : ∀{n}{s s'}{t},topRunT tb p w m ann n s t=O s'->topRun tb p w m ann n s.abs t=O s'.abs
 |0,_,_,_,h=>by cases h
 |n+1,s,s',t,h=>by
  rw[topRunT]at h;rw[topRun];cases ht:through t with
  |true=>simp_all
  |false=>
   rw[ht]at h;cases hk:stepOk m ann t with
   |false=>simp_all
   |true=>
    rw[hk]at h;dsimp only at h⊢;cases hs:stepT _ p w s t with
    |none=>rw[hs]at h;cases h
    |some x=>rw[hs]at h;rw[stepT_spec hs];exact Dc h
def btOf(l:List Obj):BT:=(l.foldl (λ(x:BT×Nat) o=>(x.1.ins x.2 o,x.2+1)) (.nil,0)).1
noncomputable def T0 (w:World) (os:OsState):SharedT:=⟨btOf (boot_heap w.params).objs.toList,11,(boot_heap w.params).life,#[],boot_drawn,boot_toks,os⟩
theorem xf(w)(os):(T0 w os).abs=⟨boot_heap w.params,#[],boot_drawn,boot_toks,os⟩:=by kernel_rfl
theorem vY(w:World):((boot_heap w.params).isNs mainGlobals&&(#[]:Array GenState).size==0,(boot_heap w.params).objs.size,(boot_heap w.params).nsMap mainGlobals "__annotations__")=(zq,11,O (.ref 6)):=by kernel_rfl
noncomputable abbrev CS (p q:Ux) (loose:List Str) (Xt:Uw->Bool) (w:World) (t:SharedT):=
 ((staticsOk (importedModules p.main.body) (boot_heap w.params) t.abs.heap&&namesBound p t.abs.heap&&gensDone t.abs&&laidKept (boot_heap w.params) t.abs.heap),openSeen q loose (importedModules p.main.body) Xt zq t.abs)
abbrev VB0:zA:=[.type "ValueError", .type "Exception", .type "BaseException", .type "object"]
def Ny:List Str:=["__setattr__", "__getattribute__", "__getattr__", "__class__", "part", "number", "row"]
def Rc(nm:Str):Str:=nm ++ "." ++ "__init__"
def xB(h:Heap)(nm:Str)(own:Bool):Bool:=match h.nsMap mainGlobals nm with
 |some (.ref C)=>(match h.get? C with
  |some ⟨.type t,_,.cls cd,sl⟩=>(t == "type")&&(cd.name==nm)&&cd.hasDict && !cd.hasDel&&(match sl.toList with | [_,_,_,_,k4,_]=>decide (k4=O (.builtin "ValueError.__new__"))|_=>zr)&&h.isNs cd.ns&&(Ny.all λx=>(h.nsMap cd.ns x).isNone)&&(own || (h.nsMap cd.ns "__init__").isNone) &&
   (if nm = "DealError" then decide (cd.mro=.ref C::VB0)else match h.nsMap mainGlobals "DealError" with|some (.ref D)=>decide (cd.mro=.ref C::.ref D::VB0)|_=>zr)
  |_=>zr)
 |_=>zr
def xSh(h:Heap)(nm:Str):Option (Bool×FnShape):=match h.nsMap mainGlobals nm with
 |some (.ref C)=>(match h.get? C with
  |some ⟨_,_,.cls cd,_⟩=>(match h.fnAt cd.ns "__init__", h.shapeAt cd.ns "__init__" with|some (_,o,_),O sh=>O (decide (o.cls=.type "function"),sh)|_,_=>zp)
  |_=>zp)
 |_=>zp
def V2(st:Stmt):Stmt:=match st with
 |.ClassDef _ _ _ (m::_) _ _ _ _ _ _ _=>m
 |_=>.Pass ⟨0,0,0,0⟩
def LM(s:Stmt):Arguments:=match s with
 |.FunctionDef _ a _ _ _ _ _ _ _ _=>a
 |_=>default
def LK(s:Stmt):List Stmt:=match s with
 |.FunctionDef _ _ b _ _ _ _ _ _ _=>b
 |_=>[]
def L5(s:Stmt):Scope:=match s with
 |.FunctionDef _ _ _ _ _ _ sc _ _ _=>sc
 |_=>{kind:=.function,names:=[],isGenerator:=zr,isCoroutine:=zr}
def TH(nm:Str)(st:Stmt):FnShape:=⟨"__init__", Rc nm,LM st,.stmts (LK st),L5 st,mainGlobals,[],.none,.none,zp,.none,builtinsNs,zq⟩
abbrev XL0:=List (Str×Option Nat)
def xSeen(l:XL0)(s:Uw):Bool×List (Bool×Option (Bool×FnShape)):=(s.heap.isNs cStatics&&(s.heap.nsMap cStatics "thirdparty.any").isNone,l.map λc=>(xB s.heap c.1 c.2.isSome,if c.2.isSome then xSh s.heap c.1 else zp))
def xGood(p:Ux)(l:XL0):Bool×List (Bool×Option (Bool×FnShape)):=(zq,l.map λc=>(zq,c.2.map λi=>(zq,TH c.1 (V2 (p.main.body.getD i (.Pass ⟨0,0,0,0⟩))))))
theorem xc{α:Type}{Yf}{Ya:World->α}{p q:Ux}{loose:List Str}{Xt}{N M:Nat}(e:opening p=plainProg p.main.scope.names)(hN:Nat.ble 600 N=zq)(f:∀s,fenceModules? p s=O s)(le:Nat.ble M N=zq)
  (run:∀(w:World)(os:OsState),(topRunT treeTable p w 11 (O (.ref 6)) M (T0 w os) (topStub p)).map (λt=>(CS p q loose Xt w t,Yf t.abs))=O ((zq,openGood q loose),Ya w)):LeftO p q loose Xt Yf Ya N:=λw=>by
 obtain⟨⟨h,gs,d,k,os⟩,e0,e'⟩:=Option.map_eq_some_iff.mp (boot_open e hN f w);obtain⟨rfl,rfl,rfl,rfl⟩:h=boot_heap w.params/\gs=#[]/\d=boot_drawn/\k=boot_toks:=by simpa only[Prod.mk.injEq]using e'
 obtain⟨t,ht,l⟩:=Option.map_eq_some_iff.mp (run w os);have hr:=Dc ht;rw[xf]at hr;have r:=topRun_mono (N-M) _ _ _ _ hr;rw[show M+(N-M)=N by have:=Nat.le_of_ble_eq_true le;lia]at r;obtain⟨l0,l3⟩:=Ut l;obtain⟨l1,l2⟩:=Ut l0;have z:=vY w;obtain⟨z1,z2,z3⟩:_/\_/\_:=by simpa only[Prod.mk.injEq]using z
 have tf:topFrom treeTable p w N ⟨boot_heap w.params,#[],boot_drawn,boot_toks,os⟩=O t.abs:=by
  unfold topFrom;rw[z1,z2,z3,r]
  show(match staticsOk _ _ t.abs.heap&&namesBound p t.abs.heap&&gensDone t.abs&&laidKept _ t.abs.heap with|true=>O t.abs|false=>zp)=_
  rw[l1]
 unfold openEnds;rw[e0]
 show(topFrom treeTable p w N _).map _=_
 rw[tf];exact Ug O (Prod.ext l2 l3)
end DL
open PySem in
lay_quick PySem.Challenge.pw_wishdeal_k81_whole_best_counts_come_toge DL.topRunT PySem.W.openGood PySem.W.staticsOk PySem.W.namesBound PySem.W.laidKept PySem.W.xlAt DL.xSeen DL.xGood
namespace W
open PySem PySem.Spec DL
noncomputable abbrev p0:Ux:=PySem.Challenge.pw_wishdeal_k81_whole_best_counts_come_toge
noncomputable def Wb:zI:=[1,2,3,4,6,7,8,10,11,12,13,14,15,16,17,18,19,20,21,22,24,25,27,28,29,31,32,33,35,36,37,38,39,41,42,43,44,45,46,48,50,51,52,53,54,55,56,57,58,59,60,61,62,64,66,67,68,69,70,71,73,75,76,77,78,80,81,82,83,84,85]
noncomputable def ixL:zI:=[6,7,8,14,15,16,17,18,19,20,21,22,24,25,27,28,29,32,33,35,36,37,38,39,41,42,43,44,45,46,48,50,51,52,53,54,55,56,57,58,59,60,61,62,64,66,67,68,69,70,71,73,75,76,77,78,80,81,82,83,84,85]
noncomputable abbrev q0:Ux:=PySem.W.view p0 Wb
noncomputable def clsL:XL0:=[("DealError", O 1),("NoWishes", O 2),("NoAim", O 3),("NoJoin", zp)]
theorem CQ:∀(w:World)(os:OsState),(PySem.W.Fast.tw10708255244068714335 PySem.W.Fast.tw14364793385576792824 PySem.W.Fast.tw17563607555281977659 w 11 (O (.ref 6)) 3075 (T0 w os) (PySem.W.topStub PySem.W.Fast.tw17563607555281977659)).map (λt=>(((PySem.W.Fast.tw13471830651028734593 (PySem.W.Fast.tw5923862056798008813 (Program.main PySem.W.Fast.tw17563607555281977659).body) (PySem.W.boot_heap w.params) t.abs.heap&&PySem.W.Fast.tw4683006035507612052 PySem.W.Fast.tw17563607555281977659 t.abs.heap&&PySem.W.gensDone t.abs&&PySem.W.Fast.tw16898566250750103049 (PySem.W.boot_heap w.params) t.abs.heap),PySem.W.Fast.tw4187177175401517315 (PySem.W.view PySem.W.Fast.tw17563607555281977659 Wb) [] (PySem.W.Fast.tw5923862056798008813 (Program.main PySem.W.Fast.tw17563607555281977659).body) (λs=>PySem.W.Fast.tw4757257242682413121 (PySem.W.view PySem.W.Fast.tw17563607555281977659 Wb) [] s&&PySem.W.recOk [] s) zq t.abs),PySem.W.Fast.tw11121216462471823999 clsL t.abs))=O ((zq,PySem.W.Fast.tw3486900944545009338 (PySem.W.view PySem.W.Fast.tw17563607555281977659 Wb) []),PySem.W.Fast.tw18030470931243306169 PySem.W.Fast.tw17563607555281977659 clsL):=by intro w os;kernel_rfl
theorem CP:PySem.W.LeftO p0 q0 [] (λs=>PySem.W.xlAt q0 [] s&&PySem.W.recOk [] s) (xSeen clsL) (λ_=>xGood p0 clsL) 6050:=by
 refine xc (M:=3075) (by kernel_rfl) zo (λs=>by kernel_rfl) zo λw os=>?_
 have h:=CQ w os;rw[←PySem.W.Fast.te10708255244068714335,←PySem.W.Fast.te14364793385576792824,←PySem.W.Fast.te4187177175401517315,←PySem.W.Fast.te5923862056798008813,←PySem.W.Fast.te13471830651028734593,←PySem.W.Fast.te4683006035507612052,←PySem.W.Fast.te16898566250750103049,←PySem.W.Fast.te4757257242682413121,←PySem.W.Fast.te3486900944545009338,←PySem.W.Fast.te11121216462471823999,←PySem.W.Fast.te18030470931243306169,←PySem.W.Fast.te17563607555281977659]at h;exact h
end W
namespace L2
open PySem PySem.Spec PyProof.Rows
abbrev Key:=Sum Int Str
abbrev zH:=List Key
noncomputable def Rb:Key->Uv->Bool
 |.inl k,v=>Value.isInt k v
 |.inr x,v=>Value.isStrOf x v
noncomputable def keyH(w:World):Key->Int
 |.inl k=>hashInt k
 |.inr x=>hashStr w x
theorem Va:∀{k}{v},Rb k v=zq->(∃i t,k=Sum.inl i/\v=Value.int i t)∨(∃x t,k=Sum.inr x/\v=Value.str x t)
 |.inl i,v,h=>by obtain⟨t,e⟩:=Value.isInt_shape   h;exact .inl ⟨i,t,rfl,e⟩
 |.inr x,v,h=>by obtain⟨t,e⟩:=Value.isStrOf_shape   h;exact .inr ⟨x,t,rfl,e⟩
theorem wH(i:Int)(t:Tok):Rb (.inl i) (.int i t)=zq:=by simp[Rb,Value.isInt]
theorem wG(x:Str)(t:Tok):Rb (.inr x) (.str x t)=zq:=by simp[Rb,Value.isStrOf]
theorem As(a b):decide ((Sum.inl a:Key)=Sum.inl b)=(a==b):=by
 by_cases e:a=b
 .subst e;simp
 .simp_all
theorem Ar(a b):decide ((Sum.inr a:Key)=Sum.inr b)=decide (a=b):=by simp_all
theorem Aq(a)(b):decide ((Sum.inl a:Key)=Sum.inr b)=zr:=QT (λq=>nomatch q)
theorem Ap(a)(b):decide ((Sum.inr a:Key)=Sum.inl b)=zr:=QT (λq=>nomatch q)
noncomputable def Y8(prog:Ux)(w:World):PySem.KeyKind prog w Key where
 is:=Rb
 hash:=keyH w
 inj:=λv a b ha hb=>by
  rcases Va ha with ⟨i,t,rfl,rfl⟩|⟨x,t,rfl,rfl⟩
  .rcases Va hb with ⟨j,u,rfl,e⟩|⟨y,u,rfl,e⟩
   .injection e with e1 _;rw[e1]
   .exact nomatch e
  .rcases Va hb with ⟨j,u,rfl,e⟩|⟨y,u,rfl,e⟩
   .exact nomatch e
   .injection e with e1 _;rw[e1]
 byValue:=λk v h=>by rcases Va h with ⟨i,t,rfl,rfl⟩|⟨x,t,rfl,rfl⟩<;>rfl
 pyHash:=λhv h=>by
  rcases Va hv with ⟨i,t,rfl,rfl⟩|⟨x,t,rfl,rfl⟩
  .exact wpAny_pyHash_int h
  .exact wpAny_pyHash_str h
 eqBool:=λhu hv h=>by
  rcases Va hu with ⟨i,t,rfl,rfl⟩|⟨x,t,rfl,rfl⟩
  .rcases Va hv with ⟨j,u,rfl,rfl⟩|⟨y,u,rfl,rfl⟩
   .rw[As]at h;exact wpAny_eqBool_int h
   .rw[Aq]at h;exact SeqAt.EqAt.int_str i t y u _ _ _ _ h
  .rcases Va hv with ⟨j,u,rfl,rfl⟩|⟨y,u,rfl,rfl⟩
   .rw[Ap]at h;exact SeqAt.EqAt.str_int x t j u _ _ _ _ h
   .rw[Ar]at h;exact wpAny_eqBool_str h
 «strs»:=λk x t v h=>by
  rcases Va h with ⟨i,u,rfl,e⟩|⟨y,u,rfl,e⟩
  .exact nomatch e
  .injection e with e1 _
   subst e1;cases v<;>rfl
theorem yC(prog)(w)(i)(t):(Y8 prog w).is (.inl i) (.int i t)=zq:=wH i t
theorem yB(prog)(w)(x)(t):(Y8 prog w).is (.inr x) (.str x t)=zq:=wG x t
inductive V where
 |non|bl (b:Bool)|int (i:Int)|str (x:Str)|byt (b:Array UInt8)|flt (b:UInt64)|ref (a:Uy)|ty (n:String)
 deriving DecidableEq
noncomputable def RelV:V->Uv->Prop
 |.non,u=>u=Value.none
 |.bl b,u=>u=Value.bool b
 |.int i,u=>∃t,u=Value.int i t
 |.str x,u=>∃t,u=Value.str x t
 |.byt b,u=>∃t,u=Value.bytes b t
 |.flt b,u=>∃t,u=Value.float b t
 |.ref a,u=>u=Value.ref a
 |.ty n,u=>u=Value.type n
noncomputable abbrev Vals:List V->zA->Prop:=Paired RelV
theorem Vals.length{xs:List V}{us:zA}(r:Vals xs us):xs.length=us.length:=Paired.length r
theorem Vals.get:∀{xs}{us}{i:Nat}{x},Vals xs us->xs[i]?=O x->∃u,us[i]?=O u/\RelV x u
 |_,_,_,_,.nil,e=>by simp_all
 |_,_,0,_,.cons r _,e=>by simp at e;subst e;exact⟨_,rfl,r⟩
 |_,_,i+1,x,.cons _ t,e=>by obtain⟨u,h1,h2⟩:=Vals.get   t (by simpa using e);exact⟨u,by simpa using h1,h2⟩
theorem Vals.set   (r:RelV x u):∀{xs}{us}(i),Vals xs us->Vals (xs.set i x) (us.set i u)
 |_,_,_,.nil=>.nil
 |_,_,0,.cons _ t=>.cons r t
 |_,_,i+1,.cons q t=>.cons q (Vals.set r i t)
theorem Vals.append:∀{xs ys}{us ws},Vals xs us->Vals ys ws->Vals (xs++ys) (us++ws)
 |_,_,_,_,.nil,s=>s
 |_,_,_,_,.cons r t,s=>.cons r (Vals.append t s)
theorem Vals.take:∀{xs}{us}(n),Vals xs us->Vals (xs.take n) (us.take n)
 |_,_,0,_=>.nil
 |_,_,_+1,.nil=>.nil
 |_,_,n+1,.cons r t=>.cons r (Vals.take n t)
theorem Vals.drop:∀{xs}{us}(n),Vals xs us->Vals (xs.drop n) (us.drop n)
 |_,_,0,r=>r
 |_,_,_+1,.nil=>.nil
 |_,_,n+1,.cons _ t=>Vals.drop n t
noncomputable def RelO:Option V->zB->Prop
 |some v,O u=>RelV v u
 |none,zp=>True
 |_,_=>False
noncomputable def KV{κ:Type}:List (κ×V)->List (κ×Uv)->Prop:=Paired λ(p:κ×V) (q:κ×Uv)=>p.1=q.1/\RelV p.2 q.2
noncomputable def kV:Key->V
 |.inl i=>.int i
 |.inr x=>.str x
inductive HO where
  |lst (xs:List V)
  |tup (xs:List V)
  |dK (kvs:List (Key×V))|dT (kvs:List (zH×V))
  |set (S:Int->Bool) (n:Nat)
  |ins (C dx:Uy) (fs:List (Str×V))
  |own (x:Uy)
  |xd (fs:List (Str×V))
  |met (f x:Uy)
  |rng (lo hi:Int)
  |frz (o:Obj) (u:HO)
  |tbl (ps:Array Uv)
  |ext (φ:Heap->Prop)
abbrev Hp:=Uy->Option HO
noncomputable def upd(H:Hp)(a:Uy)(o:HO):Hp:=λb=>if b=a then O o else H b
theorem Zq{H:Hp}{a:Uy}{o:HO}:upd H a o a=O o:=by unfold upd;rw[Qr zo]
theorem KO{H:Hp}{a b:Uy}{o:HO}(h:b≠a):upd H a o b=H b:=by unfold upd;rw[QA h]
theorem CO{H:Hp}{a b}{o u}(h:H a=O o)(h':H b=O u)(d:o≠u):a≠b:=by intro e;subst e;rw[h]at h';exact d (QO h')
theorem Yw{H:Hp}{a b}{o}(h:H a=O o)(h':H b=zp):a≠b:=by
 lia
section
variable(P:Ux)(w:World)
noncomputable def Yo(H:Hp)(h:Heap)(a:Uy):HO->Prop
 |.lst xs=>xs.length<=UB/\∃(its:zA)(n:Nat),Vals xs its/\h.get? a=O {cls:=.type "list", data:=.seq its.toArray n}
 |.tup xs=>xs.length<=UB/\∃its:zA,Vals xs its/\IsTup h a its.toArray
 |.dK kvs=>kvs.length<=UB/\(a==sysModules)=zr/\∃vs,KV kvs vs/\h.DictOf (Y8 P w) a vs
 |.dT kvs=>kvs.length<=UB/\(a==sysModules)=zr/\∃xs:List (zH×Uy×Uv),
   Paired (λ(p:zH×V) (q:zH×Uy×Uv)=>p.1=q.1/\H q.2.1=O (.tup (p.1.map kV))/\RelV p.2 q.2.2) kvs xs /\
   ∃o es ep,h.get? a=O o/\o.ExactDict/\o.data=.dict es ep/\es.toList=xs.map (entryOfKey (tupleKind (Y8 P w)))/\(xs.map (·.1)).Nodup
 |.set S n=>h.SetOf (intKind P w) a S n
 |.ins C dx fs=>H dx=O (.own a)/\fs.length<=1000/\dx≠a/\h.get? a=O (PySem.W.instObj C dx) /\
   ∃mA,h.Ns1 dx mA/\(∀f,RelO (fs.lookup f) (mA f))/\PySem.Within mA (fs.map (·.1))
 |.own _=>∃o,h.get? a=O o
 |.xd fs=>∃mA,h.Ns1 a mA/\∀f,RelO (fs.lookup f) (mA f)
 |.rng lo hi=>∃t u v,h.get? a=O {cls:=.type "range", data:=.fields #[.int lo t,.int hi u,.int 1 v]}
 |.frz o u=>h.get? a=O o/\Yo H h a u
 |.tbl ps=>h.get? a=O {cls:=.none,data:=.fields ps}
 |.met f x=>h.get? a=O (PySem.W.methodObj (.ref f) (.ref x))
 |.ext φ=>φ h/\(∃o,h.get? a=O o)/\∀h1 h2:Heap,φ h1->(∀o,h1.get? a=O o->h2.get? a=O o)->φ h2
def HOk(H:Hp)(h:Heap):Prop:=∀a o,H a=O o->Yo P w H h a o
end
section
variable{P:Ux}{w:World}{H H':Hp}{h h':Heap}{a:Uy}{o:HO}
theorem Yo.lt(x:Yo P w H h a o):a<h.objs.size:=by
 cases o with
 |lst xs=>obtain⟨_,_,_,_,e⟩:=x;exact Qk e
 |tup xs=>obtain⟨_,_,_,p⟩:=x;exact p.lt
 |dK kvs=>obtain⟨_,_,_,_,o,_,_,e,_⟩:=x;exact Qk e
 |dT kvs=>obtain⟨_,_,_,_,o,_,_,e,_⟩:=x;exact Qk e
 |set S n=>obtain⟨o,_,_,_,e,_⟩:=x;exact Qk e
 |ins C dx fs=>obtain⟨_,_,_,e,_⟩:=x;exact Qk e
 |own y=>obtain⟨_,e⟩:=x;exact Qk e
 |xd fs=>obtain⟨_,⟨_,_,_,e,_⟩,_⟩:=x;exact Qk e
 |rng lo hi=>obtain⟨_,_,_,e⟩:=x;exact Qk e
 |frz ob u=>obtain⟨e,_⟩:=x;exact Qk e
 |tbl ps=>exact Qk (x)
 |met f y=>exact Qk (x)
 |ext φ=>obtain⟨_,⟨_,e⟩,_⟩:=x;exact Qk e
theorem Paired.mapP   : ∀{l₁:List α}{l₂:List β},Paired F l₁ l₂->(∀a b,F a b->G a b)->Paired G l₁ l₂
 |_,_,.nil,_=>.nil
 |_,_,.cons r t,f=>.cons (f _ _ r) (Paired.mapP t f)
theorem Yo.stay(x:Yo P w H h a o)(k:∀b u,(b=a∨H b=O (.own a))->h.get? b=O u->h'.get? b=O u)
  (ho:∀b,H b=O (.own a)->H' b=O (.own a)) (ht:∀b xs,H b=O (.tup xs)->H' b=O (.tup xs)):Yo P w H' h' a o:=by
 induction o with
 |lst xs=>obtain⟨z,its,n,r,e⟩:=x;exact⟨z,its,n,r,k _ _ (.inl zo) e⟩
 |tup xs=>obtain⟨z,its,r,ob,e,c⟩:=x;exact⟨z,its,r,ob,k _ _ (.inl zo) e,c⟩
 |dK kvs=>obtain⟨z,y,vs,r,ob,es,ep,e,c⟩:=x;exact⟨z,y,vs,r,ob,es,ep,k _ _ (.inl zo) e,c⟩
 |dT kvs=>obtain⟨z,y,xs,r,ob,es,ep,e,c⟩:=x;exact⟨z,y,xs,Paired.mapP r λp q z=>⟨z.1,ht _ _ z.2.1,z.2.2⟩,ob,es,ep,k _ _ (.inl zo) e,c⟩
 |set S n=>obtain⟨ob,es,ep,t,e,c⟩:=x;exact⟨ob,es,ep,t,k _ _ (.inl zo) e,c⟩
 |ins C dx fs=>obtain⟨d,z,ne,e,mA,⟨od,es,ep,e2,c⟩,r⟩:=x;exact⟨ho _ d,z,ne,k _ _ (.inl zo) e,mA,⟨od,es,ep,k _ _ (.inr d) e2,c⟩,r⟩
 |own y=>obtain⟨ob,e⟩:=x;exact⟨ob,k _ _ (.inl zo) e⟩
 |xd fs=>obtain⟨mA,⟨od,es,ep,e,c⟩,r⟩:=x;exact⟨mA,⟨od,es,ep,k _ _ (.inl zo) e,c⟩,r⟩
 |rng lo hi=>obtain⟨t,u,v,e⟩:=x;exact⟨t,u,v,k _ _ (.inl zo) e⟩
 |frz ob u ih=>obtain⟨e,q⟩:=x;exact⟨k _ _ (.inl zo) e,ih q⟩
 |tbl ps=>have e   :=x;exact k a _ (.inl zo) e
 |met f y=>have e   :=x;exact k a _ (.inl zo) e
 |ext φ=>obtain⟨p,⟨o,e⟩,st⟩:=x;exact⟨st _ _ p λo q=>k _ _ (.inl zo) q,⟨o,k _ _ (.inl zo) e⟩,st⟩
theorem HOk.lt(x:HOk P w H h)(e:H a=O o):a<h.objs.size:=(x a o e).lt
theorem HOk.fresh(x:HOk P w H h)(e:h.objs.size<=a):H a=zp:=by
 cases q:H a with
 |none=>rfl
 |some u=>exact absurd (QF (x.lt q) e) (Jt _)
theorem HOk.kept(x:HOk P w H h)(k:∀b u,h.get? b=O u->h'.get? b=O u):HOk P w H h':=λa o e=>
 (x a o e).stay (λb u _ q=>k b u q) (λ_ q=>q) λ_ _ q=>q
theorem HOk.laid(x:HOk P w H h)(k:∀b u,h.get? b=O u->h'.get? b=O u)(hp:h.objs.size<=a)(new:Yo P w (upd H a o) h' a o):HOk P w (upd H a o) h':=λb u e=>by
 have hn:=x.fresh hp;by_cases hb:b=a
 .subst hb;rw[Zq]at e;simp_all
 .rw[KO hb]at e
  exact(x b u e).stay (λc v _ q=>k c v q) (λc q=>by rw[KO (Yw q hn)];exact q) λc xs q=>by rw[KO (Yw q hn)];exact q
end
def Rd(H:Hp)(a:Uy)(u:HO):Prop:=H a=O u ∨ ∃o,H a=O (.frz o u)
theorem Rd.ok   {H}{h}{a}{u}(r:Rd H a u)(x:HOk P w H h):Yo P w H h a u:=by
 rcases r with r|⟨o,r⟩
 .exact x a u r
 .obtain⟨_,q⟩:=x a _ r
  exact q
noncomputable def Mut:Option HO->Prop
 |some (.lst _)=>True
 |some (.dK _)=>True
 |some (.dT _)=>True
 |some (.set _ _)=>True
 |some (.ins _ _ _)=>True
 |some (.ext _)=>True
 |_=>False
section
variable{P:Ux}{w:World}{H:Hp}{h h':Heap}{x e:Uy}{o':HO}
theorem HOk.write(ok:HOk P w H h)(mu:Mut (H x))(he:e=x∨H e=O (.own x))(k:∀b u,b≠e->h.get? b=O u->h'.get? b=O u)(bP:∃u,h'.get? e=O u)
  (new:Yo P w (upd H x o') h' x o'):HOk P w (upd H x o') h':=λb u q=>by
 have nown:∀c y,H c=O (.own y)->c≠x:=λc y r z=>by subst z;rw[r]at mu;exact mu
 have ntup:∀c xs,H c=O (.tup xs)->c≠x:=λc xs r z=>by subst z;rw[r]at mu;exact mu
 by_cases hb:b=x
 .subst hb;rw[Zq]at q;simp_all
 .rw[KO hb]at q
  by_cases zU:b=e
  .have q':H b=O (.own x):=by
    rcases he with z|z
    .exact absurd (zU.trans z) hb
    .rw[zU];exact z
   rw[q]at q';cases q';obtain⟨v,hv⟩:=bP;exact⟨v,by simp_all⟩
  .refine(ok b u q).stay (λc v hc r=>k c v ?_ r) (λc r=>by rw[KO (nown c b r)];exact r) λc xs r=>by rw[KO (ntup c xs r)];exact r
   rcases hc with rfl|hc
   .exact zU
   grind
end
structure Un(fs ex:zE)(H H':Hp)(h h':Heap):Prop where
 keep:∀b o,h.get? b=O o->H b=zp->b∉fs->b∉ex->h'.get? b=O o
 slot:∀b o,h.get? b=O o->H b=zp->b∈fs->b∉ex->∃sl,h'.get? b=O {o with slots:=sl}
 free:∀b o,h.get? b=O o->H b=zp->b∉ex->H' b=zp
 there:∀b o,h.get? b=O o->b∉ex->∃o',h'.get? b=O o'
 tups:∀b xs,H b=O (.tup xs)->H' b=O (.tup xs)
 frzs:∀b o u,H b=O (.frz o u)->H' b=O (.frz o u)
 tbls:∀b ps,H b=O (.tbl ps)->∃more,H' b=O (.tbl (ps++more))
section
variable{fs fs' ex ex':zE}{H H1 H2:Hp}{h h1 h2 h':Heap}{a x e:Uy}{o:HO}
theorem Un.any(u:Un fs ex H H1 h h1){b}{ob}(q:h.get? b=O ob)(n:H b=zp)(hx:b∉ex):∃sl,h1.get? b=O {ob with slots:=sl}:=by
 by_cases hb:b∈fs
 .exact u.slot b ob q n hb hx
 .exact⟨ob.slots,u.keep b ob q n hb hx⟩
theorem Un.kept(k:∀b u,h.get? b=O u->h'.get? b=O u):Un fs ex H H h h':=
 ⟨λb ob q _ _ _=>k b ob q,λb ob q _ _ _=>⟨ob.slots,k b ob q⟩,λ_ _ _ n _=>n,λb ob q _=>⟨ob,k b ob q⟩,λ_ _ q=>q,λ_ _ _ q=>q,λ_ ps q=>⟨#[],by simp_all⟩⟩
theorem Un.refl:Un fs ex H H h h:=Un.kept λ_ _ q=>q
theorem Un.laid(k:∀b u,h.get? b=O u->h'.get? b=O u)(hp:h.objs.size<=a)(hn:H a=zp):Un fs ex H (upd H a o) h h' where
 keep:=λb u q _ _ _=>k b u q
 slot:=λb u q _ _ _=>⟨u.slots,k b u q⟩
 free:=λb u q n _=>by rw[KO (QY (QF (Qk q) hp))];exact n
 there:=λb u q _=>⟨u,k b u q⟩
 tups:=λb xs q=>by rw[KO (Yw q hn)];exact q
 frzs:=λb u xs q=>by rw[KO (Yw q hn)];exact q
 tbls:=λb ps q=>⟨#[],by rw[KO (Yw q hn),q];simp⟩
theorem Un.write(mu:Mut (H x))(he:e=x∨H e=O (.own x))(k:∀b u,b≠e->h.get? b=O u->h'.get? b=O u)(bP:∃u,h'.get? e=O u):Un fs ex H (upd H x o) h h':=by
 have hx:∀b,H b=zp->b≠x:=λb n z=>by subst z;rw[n]at mu;exact mu
 have hb:∀b,H b=zp->b≠e:=λb n z=>by simp_all
 have hm:∀b u,H b=O u->¬Mut (O u)->b≠x:=λb u q nm z=>by simp_all
 refine⟨λb u q n _ _=>k b u (hb b n) q,λb u q n _ _=>⟨u.slots,k b u (hb b n) q⟩,λb u q n _=>by rw[KO (hx b n)];exact n,λb u q _=>?_,
  λb xs q=>by rw[KO (hm b _ q λz=>z)];exact q,λb u xs q=>by rw[KO (hm b _ q λz=>z)];exact q,λb ps q=>⟨#[],by rw[KO (hm b _ q λz=>z),q];simp⟩⟩
 by_cases zU:b=e
 .simp_all
 .exact⟨u,k b u zU q⟩
end
noncomputable def trk(h:Heap)(H:Hp):zE:=(UF h.objs.size).filter λa=>(H a).isSome
noncomputable def YH(h:Heap)(H:Hp):Heap:=PySem.W.hideAll h (trk h H)
theorem wF(h:Heap)(H:Hp):(YH h H).objs.size=h.objs.size:=PySem.W.hideAll_size _ _
theorem xb  {H}{b}{o}(e:h.get? b=O o)(n:H b=zp):(YH h H).get? b=O o:=
 PySem.W.hideAll_get _ e λhm=>by have q   :=(Q8.mp hm).2;simp_all
theorem ji     (e:(YH h H).get? b=O o):h.get? b=O o/\H b=zp:=by
 have e'   :=PySem.W.of_hideAll _ e;refine⟨e',?_⟩;cases q:H b with
 |none=>rfl
 |some x=>have hm:b∈trk h H:=List.mem_filter.mpr ⟨List.mem_range.mpr (Heap.lt_size e'),by simp_all⟩;have z:(YH h H).get? b=zp:=PySem.W.hideAll_none _ hm;simp_all
structure Mod(K:Frag)(mg:Str->zB)(base:Heap):Prop where
 kin:K.In base
 glob:base.Ns mainGlobals mg
 blt:∃mb,base.Ns builtinsNs mb/\∀x:Str,x ≠ "__name__" -> mb x=bootBuiltins x
 nolimit:base.NoLimit
structure Cx where
 prog:Ux
 w:World
 K:Frag
 mg:Str->zB
 base:Heap
 A:Around
 N:List Str
 s₀:Uw
 H₀:Hp
 env:Env
 outer:List Env
 stack:List Env
 ex:zE
 fn:Str->Bool
 calm:Bool
 pn:List (Uy×Obj)
 xe:Uv->Uw->Prop
noncomputable def frs(l:List Env):zE:=l.filterMap (·.frame)
noncomputable abbrev Cx.fs(X:Cx):zE:=frs X.outer
def Vis(sc:Scope)(x:Str):Prop:=sc.names.lookup x=O .local∨sc.names.lookup x=O .cell∨sc.names.lookup x=O .free
def Loc(sc:Scope)(x:Str):Prop:=sc.names.lookup x=O .local∨sc.names.lookup x=O .cell
def Look(env:Env)(h:Heap)(m:Str->zB)(x:Str)(u:Uv):Prop:=
 (env.kindOf x=O .local/\m x=O u)∨((env.kindOf x=O .cell∨env.kindOf x=O .free)/\∃c,env.cells.lookup x=O c/\h.IsCell c (O u))
structure Cx.Ok(X:Cx):Prop where
 mod:Mod X.K X.mg X.base
 kind:X.env.scope.kind=.function
 glob:X.env.globals=mainGlobals
 blt:X.env.builtins=builtinsNs
 above:X.s₀.heap.objs.size<=X.env.locals
 inj:∀x y c,X.env.cells.lookup x=O c->X.env.cells.lookup y=O c->x=y
 has:∀x,(X.env.kindOf x=O .cell∨X.env.kindOf x=O .free)->∃c,X.env.cells.lookup x=O c
 cab:∀x c,X.fn x=zq->X.env.cells.lookup x=O c->X.s₀.heap.objs.size<=c
 hd:X.calm=zq->X.A.handled=zp
 frames:X.A.frames=O X.stack
 stk:X.stack=X.outer∨(X.stack=X.env::X.outer/\X.env.frame=O X.env.locals)
 exf:∀b∈X.ex,b≠X.env.locals/\∀x c,X.env.cells.lookup x=O c->c≠b
 bs:∀b o,X.base.get? b=O o->X.s₀.heap.get? b=O o/\X.H₀ b=zp
 bsz:X.base.objs.size<=X.s₀.heap.objs.size
 noex:∀b o,X.base.get? b=O o->b∉X.ex
 exfs:∀b∈X.ex,b∉X.fs
 funs:X.s₀.heap.FunFrames X.base X.outer
 frf:∀b∈X.fs,X.H₀ b=zp
structure Inv(X:Cx)(pins:List (Uy×Obj))(σ:List (Option V))(H:Hp)(s:Uw):Prop where
 ok:X.Ok
 os:s.os=X.s₀.os
 bare:AllBare s.gens
 base:Un X.fs X.ex X.H₀ H X.s₀.heap s.heap
 loc:∃m,s.heap.Ns X.env.locals m/\∀(i:Nat)(x:Str)(v:V),X.N[i]?=O x->σ[i]?=O (O v)->Vis X.env.scope x->∃u,RelV v u/\Look X.env s.heap m x u
 cell:∀x c,X.env.cells.lookup x=O c->∃v,s.heap.IsCell c v
 free:H X.env.locals=zp
 freeC:∀x c,X.env.cells.lookup x=O c->H c=zp
 pin:∀p∈X.pn++pins,s.heap.get? p.1=O p.2/\H p.1=zp/\p.1≠X.env.locals/\p.1∉X.fs/\∀v,p.2.data≠.cell v
 hok:HOk X.prog X.w H s.heap
 len:σ.length=X.N.length
section
variable{X:Cx}{pins:List (Uy×Obj)}{σ:List (Option V)}{H H':Hp}{s:Uw}{h':Heap}
theorem Cx.Ok.nofr(ok:X.Ok){b}{o}(e:X.base.get? b=O o):b∉X.fs:=λhb=>by
 have:=(ok.funs.mem hb).1
 lia
theorem Inv.bs(I:Inv X pins σ H s):∀b o,X.base.get? b=O o->s.heap.get? b=O o/\H b=zp:=λb o e=>
 ⟨I.base.keep b o (I.ok.bs b o e).1 (I.ok.bs b o e).2 (I.ok.nofr e) (I.ok.noex b o e),I.base.free b o (I.ok.bs b o e).1 (I.ok.bs b o e).2 (I.ok.noex b o e)⟩
theorem Inv.bk(I:Inv X pins σ H s):∀b o,X.base.get? b=O o->s.heap.get? b=O o:=λb o e=>(I.bs b o e).1
theorem Inv.mod(I:Inv X pins σ H s):Mod X.K X.mg X.base:=I.ok.mod
theorem Inv.kIn(I:Inv X pins σ H s):X.K.In s.heap:=I.ok.mod.kin.keeps I.bk
theorem Inv.fr(I:Inv X pins σ H s):∃m,Fr X.base X.env.locals s.heap m:=
 let ⟨m,hn,_⟩:=I.loc
 ⟨m,hn,I.bk,QM I.ok.bsz I.ok.above⟩
theorem Inv.lt(I:Inv X pins σ H s):X.env.locals<s.heap.objs.size:=let ⟨_,hn,_⟩:=I.loc;hn.lt
theorem Inv.sz(I:Inv X pins σ H s):X.s₀.heap.objs.size<=s.heap.objs.size:=QM I.ok.above (Nat.le_of_lt I.lt)
theorem Inv.nofs(I:Inv X pins σ H s){a:Uy}(h:s.heap.objs.size<=a):a∉X.fs:=λhb=>by obtain⟨_,o,ho,_⟩:=I.ok.funs.mem hb;exact absurd (QF (Qk ho) (QM I.sz h)) (Jt _)
theorem Inv.cne(I:Inv X pins σ H s):∀x c,X.env.cells.lookup x=O c->c≠X.env.locals:=λx c e z=>by
 obtain⟨v,o,ho,hd⟩:=I.cell x c e;obtain⟨m,⟨o',es,ep,ho',hd',_⟩,_⟩:=I.loc
 lia
theorem Inv.funs(I:Inv X pins σ H s):s.heap.FunFrames X.base X.outer:=by
 have all:∀(l:List Env),(∀b∈frs l,b∈X.fs)->X.s₀.heap.FunFrames X.base l->s.heap.FunFrames X.base l:=by
  intro l;induction l with
  |nil=>intro _ _;trivial
  |cons env r ih=>
   intro hs hl;obtain⟨hk,⟨L,o,hf,hn,ho,hd⟩,hr⟩:=hl;have hL   :=hs L (by unfold frs;rw[JF,hf];exact Ql);obtain⟨sl,e⟩:=I.base.slot L o ho (I.ok.frf L hL) hL λz=>I.ok.exfs L z hL
   exact⟨hk,⟨L,_,hf,hn,e,hd⟩,ih (λb hb=>hs b (by unfold frs;rw[JF,hf];exact Qj _ hb)) hr⟩
 exact all X.outer (λ_ hb=>hb) I.ok.funs
theorem Inv.stack(I:Inv X pins σ H s):s.heap.FunFrames X.base X.stack:=by
 rcases I.ok.stk with e|⟨e,hf⟩
 .rw[e];exact I.funs
 .rw[e]
  obtain⟨m,hn,_⟩:=I.loc;refine .cons (by rw[I.ok.kind];decide) hf hn ?_ I.funs;exact Heap.get?_none_of_le (QM I.ok.bsz I.ok.above)
theorem Inv.stkSub(I:Inv X pins σ H s):∀b∈frs X.stack,b∈X.env.locals::X.fs:=λb hb=>by
 rcases I.ok.stk with e|⟨e,hf⟩
 .rw[e]at hb;exact Qj _ hb
 .rw[e]at hb
  unfold frs at hb;rw[JF,hf]at hb;exact hb
theorem Inv.stkFree(I:Inv X pins σ H s):∀b∈frs X.stack,H b=zp:=λb hb=>by
 rcases QL.mp (I.stkSub b hb)with e|hb
 .rw[e];exact I.free
 .obtain⟨_,o,ho,_⟩:=I.ok.funs.mem hb
  exact I.base.free b o ho (I.ok.frf b hb) λz=>I.ok.exfs b z hb
theorem Inv.step  {t':Nat}{d':Drawn}{ch:zE}(I:Inv X pins σ H s)
  (hch:∀b∈ch,(b∈X.ex∨X.s₀.heap.objs.size<=b)/\b≠X.env.locals/\(∀x c,X.env.cells.lookup x=O c->c≠b)/\∀p∈X.pn++pins,p.1≠b)
  (keep:∀b o,b≠X.env.locals->b∉X.fs->b∉ch->s.heap.get? b=O o->H b=zp->h'.get? b=O o)
  (slot:∀b o,b≠X.env.locals->b∈X.fs->b∉ch->s.heap.get? b=O o->H b=zp->∃sl,h'.get? b=O {o with slots:=sl}) (free:∀b o,b∉ch->s.heap.get? b=O o->H b=zp->H' b=zp)
  (there:∀b o,b∉ch->s.heap.get? b=O o->∃o',h'.get? b=O o')
  (tups:∀b xs,H b=O (.tup xs)->H' b=O (.tup xs)) (frzs:∀b o u,H b=O (.frz o u)->H' b=O (.frz o u)) (tbls:∀b ps,H b=O (.tbl ps)->∃more,H' b=O (.tbl (ps++more)))
  (ns:∀m,s.heap.Ns X.env.locals m->h'.Ns X.env.locals m) (hok:HOk X.prog X.w H' h') (hg:AllBare g') :
  Inv X pins σ H' {s with heap:=h',gens:=g',drawn:=d',toks:=t'}:=by
 have neL:∀b o,X.s₀.heap.get? b=O o->b≠X.env.locals:=λb o e=>QY (QF (Qk e) I.ok.above)
 have neC:∀b o,X.s₀.heap.get? b=O o->b∉X.ex->b∉ch:=λb o e hx hb=>by
  rcases(hch b hb).1 with z|z
  .exact hx z
  .exact absurd (QF (Qk e) z) (Jt _)
 have cellK:∀x c,X.env.cells.lookup x=O c->∀v,s.heap.IsCell c v->h'.IsCell c v:=λx c e v ⟨o,ho,hd⟩=>by
  have nch:c∉ch:=λz=>(hch c z).2.2.1 x c e zo
  by_cases hc:c∈X.fs
  .obtain⟨sl,q⟩:=slot c o (I.cne x c e) hc nch ho (I.freeC x c e)
   exact⟨_,q,hd⟩
  .exact⟨o,keep c o (I.cne x c e) hc nch ho (I.freeC x c e),hd⟩
 refine⟨I.ok,I.os,hg,⟨λb o e n hb hx=>?_,λb o e n hb hx=>?_,λb o e n hx=>?_,λb o e hx=>?_,λb xs e=>tups b xs (I.base.tups b xs e),λb o xs e=>frzs b o xs (I.base.frzs b o xs e),λb ps e=>?_⟩,?_,λx c e=>?_,?_,λx c e=>?_,λp hp=>?_,hok,I.len⟩
 .exact keep b o (neL b o e) hb (neC b o e hx) (I.base.keep b o e n hb hx) (I.base.free b o e n hx)
 .obtain⟨sl,e1⟩:=I.base.slot b o e n hb hx
  obtain⟨sl',e2⟩:=slot b _ (neL b o e) hb (neC b o e hx) e1 (I.base.free b o e n hx);exact⟨sl',e2⟩
 .obtain⟨o',e1⟩:=I.base.there b o e hx
  exact free b o' (neC b o e hx) e1 (I.base.free b o e n hx)
 .obtain⟨o',e1⟩:=I.base.there b o e hx
  exact there b o' (neC b o e hx) e1
 .obtain⟨m1,e1⟩:=I.base.tbls b ps e
  obtain⟨m2,e2⟩:=tbls b _ e1;exact⟨m1++m2,by rw[e2,Array.append_assoc]⟩
 .obtain⟨m,hn,hl⟩:=I.loc
  refine⟨m,ns m hn,λi x v e1 e2 e3=>?_⟩;obtain⟨u,r,l⟩:=hl i x v e1 e2 e3;refine⟨u,r,?_⟩;rcases l with l|⟨k,c,e,z⟩
  .exact .inl l
  .exact .inr ⟨k,c,e,cellK x c e _ z⟩
 .obtain⟨v,z⟩:=I.cell x c e
  exact⟨v,cellK x c e v z⟩
 .obtain⟨m,⟨o,_,_,ho,_⟩,_⟩:=I.loc
  exact free _ o (λz=>(hch _ z).2.1 zo) ho I.free
 .obtain⟨v,o,ho,hd⟩:=I.cell x c e
  exact free c o (λz=>(hch c z).2.2.1 x c e zo) ho (I.freeC x c e)
 .obtain⟨e,n,ne,nf,d⟩:=I.pin p hp
  have nch:p.1∉ch:=λz=>(hch p.1 z).2.2.2 p hp zo
  exact⟨keep p.1 p.2 ne nf nch e n,free p.1 p.2 nch e n,ne,nf,d⟩
theorem Inv.un  (I:Inv X pins σ H s)(u:Un X.fs [] H H' s.heap h')(hok:HOk X.prog X.w H' h'):Inv X pins σ H' {s with heap:=h',toks:=t'}:=by obtain⟨m,⟨o,es,ep,ho,r⟩,_⟩:=id I.loc;obtain⟨sl,hL⟩:=u.any ho I.free (by simp);exact I.step   (ch:=[]) (λ_ z=>nomatch z) (λb o _ hb _ e n=>u.keep b o e n hb (by simp)) (λb o _ hb _ e n=>u.slot b o e n hb (by simp)) (λb o _ e n=>u.free b o e n (by simp)) (λb o _ e=>u.there b o e (by simp)) u.tups u.frzs u.tbls (λm' hm=>by obtain⟨o',es',ep',ho',r'⟩:=hm;rw[ho]at ho';cases ho';exact⟨_,es',ep',hL,r'⟩) hok I.bare
theorem Inv.call   {d'}{ch}(I:Inv X pins σ H s)(u:Un (frs X.stack) ch H H' s.heap h')(hok:HOk X.prog X.w H' h')(hg:AllBare g')
  (hch:∀b∈ch,(b∈X.ex∨X.s₀.heap.objs.size<=b)/\b≠X.env.locals/\(∀x c,X.env.cells.lookup x=O c->c≠b)/\∀p∈X.pn++pins,p.1≠b) :
  Inv X pins σ H' {s with heap:=h',gens:=g',drawn:=d',toks:=t'}:=by
 obtain⟨m,⟨o,es,ep,ho,r⟩,_⟩:=id I.loc;obtain⟨sl,hL⟩:=u.any ho I.free λz=>(hch _ z).2.1 zo
 exact I.step  hch (λb o hL hb hc e n=>u.keep b o e n (λz=>(QL.mp (I.stkSub b z)).elim hL hb) hc) (λb o _ _ hc e n=>u.any e n hc) (λb o hc e n=>u.free b o e n hc) (λb o hc e=>u.there b o e hc) u.tups u.frzs u.tbls (λm' hm=>by obtain⟨o',es',ep',ho',r'⟩:=hm;rw[ho]at ho';cases ho';exact⟨_,es',ep',hL,r'⟩) hok hg
theorem Inv.turned  {it}(I:Inv X pins σ H s)(k:∀b o,b≠it->s.heap.get? b=O o->h'.get? b=O o)(hn:H it=zp)(hL:it≠X.env.locals)
  (h1:it∈X.ex∨X.s₀.heap.objs.size<=it) (h2:∀x c,X.env.cells.lookup x=O c->c≠it) (h3:∀p∈X.pn++pins,p.1≠it):Inv X pins σ H {s with heap:=h',toks:=t'}:=by
 have nit:∀b u,H b=O u->b≠it:=λb u e z=>by rw[z,hn]at e;cases e
 refine I.step   (ch:=[it]) (λb hb=>?_) (λb o _ _ hc e _=>k b o (λz=>hc (by simp[z])) e) (λb o _ _ hc e _=>⟨o.slots,k b o (λz=>hc (by simp[z])) e⟩) (λ_ _ _ _ n=>n)
  (λb o hc e=>⟨o,k b o (λz=>hc (by simp[z])) e⟩) (λ_ _ e=>e) (λ_ _ _ e=>e) (λb ps e=>⟨#[],by rw[e];simp⟩) (λm hm=>?_) (λb u e=>?_) I.bare
 .have e   :=by simpa using hb
  subst e;exact⟨h1,hL,h2,h3⟩
 .obtain⟨o,es,ep,ho,r⟩:=hm
  exact⟨o,es,ep,k _ o (Ne.symm hL) ho,r⟩
 .refine(I.hok b u e).stay (λc v hc q=>k c v ?_ q) (λ_ q=>q) λ_ _ q=>q
  rcases hc with z|z
  .rw[z];exact nit b u e
  .exact nit c _ z
theorem Inv.tok(I:Inv X pins σ H s)(t):Inv X pins σ H {s with toks:=t}:=I.un   Un.refl I.hok
theorem Inv.kept  (I:Inv X pins σ H s)(k:∀b u,s.heap.get? b=O u->h'.get? b=O u):Inv X pins σ H {s with heap:=h',toks:=t'}:=I.un (Un.kept k) (I.hok.kept k)
theorem Inv.laid{a:Uy}{o}{t'}(I:Inv X pins σ H s)(k:∀b u,s.heap.get? b=O u->h'.get? b=O u)(hp:s.heap.objs.size<=a)(new:Yo X.prog X.w (upd H a o) h' a o) :
  Inv X pins σ (upd H a o) {s with heap:=h',toks:=t'}:=I.un (Un.laid k hp (I.hok.fresh hp)) (I.hok.laid k hp new)
theorem Inv.write    (I:Inv X pins σ H s)(mu:Mut (H x))(he:e=x∨H e=O (.own x))(k:∀b u,b≠e->s.heap.get? b=O u->h'.get? b=O u)(bP:∃u,h'.get? e=O u)
  (new:Yo X.prog X.w (upd H x o) h' x o):Inv X pins σ (upd H x o) {s with heap:=h',toks:=t'}:=I.un (Un.write mu he k bP) (I.hok.write mu he k bP new)
theorem Inv.pins_of  (I:Inv X pins σ H s)(h:∀p∈pins',s.heap.get? p.1=O p.2/\H p.1=zp/\p.1≠X.env.locals/\p.1∉X.fs/\∀v,p.2.data≠.cell v):Inv X pins' σ H s:=
 ⟨I.ok,I.os,I.bare,I.base,I.loc,I.cell,I.free,I.freeC,λp hp=>(QH.mp hp).elim (λz=>I.pin p (QU _ z)) (h p),I.hok,I.len⟩
theorem FD{N:List Str}(hN:N.Nodup){i j:Nat}{x}(a:N[i]?=O x)(b:N[j]?=O x):i=j:=by obtain⟨h1,e1⟩:=Qg.mp a;obtain⟨h2,e2⟩:=Qg.mp b;exact(List.getElem_inj hN).mp (e1.trans e2.symm)
theorem M8{M:Model}{A:Around}{E:Uv->Uw->Prop}{i:Nat}{x:Str}{v:V}{u:Uv}{Q:Unit->Uw->Prop}(I:Inv X pins σ H s)(hN:X.N.Nodup)(hi:X.N[i]?=O x)(hx:Loc X.env.scope x)(r:RelV v u)
  (h:∀s',Inv X pins (σ.set i (O v)) H s'->(∃a,Heap.SameBut a s.heap s'.heap/\(a=X.env.locals∨X.env.cells.lookup x=O a))->Q () s') (hf:X.fn x=zq∨X.env.scope.names.lookup x=O .local:=by first|exact .inl rfl|exact .inr rfl|assumption):UC M A (storeName X.env x u) Q E s:=by
 obtain⟨m,hn,hl⟩:=id I.loc;have hcls:(X.env.scope.kind==.class || (X.env.scope.kind==.module&&X.env.locals != X.env.globals))=zr:=by rw[I.ok.kind];rfl
 have hiσ:i<σ.length:=by rw[I.len];exact(Qg.mp hi).1
 have cne:=I.cne
 have tracked:∀{a:Uy}{h':Heap},(∃o,s.heap.get? a=O o/\H a=zp)->Heap.SameBut a s.heap h'->HOk X.prog X.w H h':=λ{a h'} ha hs b ob e=>by
  obtain⟨_,_,hfree⟩:=ha;refine(I.hok b ob e).stay (λc w' hc q=>(hs.2 c ?_).trans q) (λ_ q=>q) λ_ _ q=>q
  rintro rfl;rcases hc with rfl|hc
  .rw[hfree]at e;cases e
  .rw[hfree]at hc;cases hc
 rcases hx with hk|hk
 .refine wpAny_storeName_local hk hn (λh' hn' hs=>?_) hcls
  obtain⟨oL,_,_,hoL,_⟩:=id hn;refine h _ ⟨I.ok,I.os,I.bare,⟨λb o e n hb hx=>?_,λb o e n hb hx=>?_,I.base.free,λb o e hx=>?_,I.base.tups,I.base.frzs,I.base.tbls⟩,⟨_,hn',λj y v' e1 e2 e3=>?_⟩,λy c e=>?_,I.free,I.freeC,λp hp=>?_,tracked ⟨oL,hoL,I.free⟩ hs,by simpa using I.len⟩ ⟨_,hs,.inl zo⟩
  .exact(hs.2 b (QY (QF (Qk e) I.ok.above))).trans (I.base.keep b o e n hb hx)
  .obtain⟨sl,e1⟩:=I.base.slot b o e n hb hx
   exact⟨sl,(hs.2 b (QY (QF (Qk e) I.ok.above))).trans e1⟩
  .obtain⟨o',e1⟩:=I.base.there b o e hx
   exact⟨o',(hs.2 b (QY (QF (Qk e) I.ok.above))).trans e1⟩
  .by_cases hj:j=i
   .subst hj
    rw[hi]at e1;cases e1;rw[QI hiσ]at e2;cases e2;exact⟨u,r,.inl ⟨hk,by simp⟩⟩
   .rw[Qp (Ne.symm hj)]at e2
    obtain⟨u',r',q⟩:=hl j y v' e1 e2 e3;refine⟨u',r',?_⟩;rcases q with ⟨k,e⟩|⟨k,c,e,z⟩
    .refine .inl ⟨k,?_⟩
     have:y≠x:=λe=>hj (FD hN e1 (e ▸ hi))
     simp[this,e]
    .exact .inr ⟨k,c,e,z.sameBut hs (cne y c e)⟩
  .obtain⟨w',z⟩:=I.cell y c e
   exact⟨w',z.sameBut hs (cne y c e)⟩
  .obtain⟨e,n,ne,nf,d⟩:=I.pin p hp
   exact⟨(hs.2 p.1 ne).trans e,n,ne,nf,d⟩
 .have hfn:X.fn x=zq:=by
   rcases hf with z|z
   .exact z
   .rw[z]at hk;cases hk
  obtain⟨c,hc⟩:=I.ok.has x (.inl hk);obtain⟨w',z⟩:=I.cell x c hc;refine wpAny_storeName_cell I.ok.kind hk hc z (λh' hc' hs=>?_);obtain⟨oc,hoc,hocd⟩:=id z;refine h {s with heap:=h'} ⟨I.ok,I.os,I.bare,⟨λb o e n hb hx=>?_,λb o e n hb hx=>?_,I.base.free,λb o e hx=>?_,I.base.tups,I.base.frzs,I.base.tbls⟩,⟨m,hn.sameBut hs (Ne.symm (cne x c hc)),λj y v' e1 e2 e3=>?_⟩,λy c' e=>?_,I.free,I.freeC,λp hp=>?_,tracked ⟨oc,hoc,I.freeC x c hc⟩ hs,by simpa using I.len⟩ ⟨c,hs,.inr hc⟩
  .exact(hs.2 b (QY (QF (Qk e) (I.ok.cab x c hfn hc)))).trans (I.base.keep b o e n hb hx)
  .obtain⟨sl,e1⟩:=I.base.slot b o e n hb hx
   exact⟨sl,(hs.2 b (QY (QF (Qk e) (I.ok.cab x c hfn hc)))).trans e1⟩
  .obtain⟨o',e1⟩:=I.base.there b o e hx
   exact⟨o',(hs.2 b (QY (QF (Qk e) (I.ok.cab x c hfn hc)))).trans e1⟩
  .by_cases hj:j=i
   .subst hj
    rw[hi]at e1;cases e1;rw[QI hiσ]at e2;cases e2;exact⟨u,r,.inr ⟨.inl hk,c,hc,hc'⟩⟩
   .rw[Qp (Ne.symm hj)]at e2
    obtain⟨u',r',q⟩:=hl j y v' e1 e2 e3;refine⟨u',r',?_⟩;rcases q with q|⟨k,c',e,z'⟩
    .exact .inl q
    .refine .inr ⟨k,c',e,z'.sameBut hs ?_⟩
     rintro rfl;exact hj (FD hN e1 (I.ok.inj _ _ _ e hc ▸ hi))
  .by_cases hcc:c'=c
   .subst hcc;exact⟨_,hc'⟩
   .obtain⟨w2,z2⟩:=I.cell y c' e
    exact⟨w2,z2.sameBut hs hcc⟩
  .obtain⟨e,n,ne,nf,d⟩:=I.pin p hp
   refine⟨(hs.2 p.1 ?_).trans e,n,ne,nf,d⟩;intro q;rw[q,hoc]at e;have q':oc=p.2:=QO e;exact d w' (by rw[←q'];exact hocd)
theorem Mg    {i}{x}{v}{u}{Q}(I:Inv X pins σ H s)(hN:X.N.Nodup)(hi:X.N[i]?=O x)(hx:Loc X.env.scope x)(r:RelV v u)
  (h:∀s',Inv X pins (σ.set i (O v)) H s'->Q () s') (hf:X.fn x=zq∨X.env.scope.names.lookup x=O .local:=by first|exact .inl rfl|exact .inr rfl|assumption):UC M A (storeName X.env x u) Q E s:=
 M8 I hN hi hx r (λs' I' _=>h s' I') hf
theorem Inv.call'  {ch}(I:Inv X pins σ H s)(ho:s'.os=s.os)(u:Un (frs X.stack) ch H H' s.heap s'.heap)(hok:HOk X.prog X.w H' s'.heap)(hg:AllBare s'.gens)
  (hch:∀b∈ch,(b∈X.ex∨X.s₀.heap.objs.size<=b)/\b≠X.env.locals/\(∀x c,X.env.cells.lookup x=O c->c≠b)/\∀p∈X.pn++pins,p.1≠b):Inv X pins σ H' s':=by
 obtain⟨h',g',d',t',o'⟩:=s';have e   :=ho;subst e;exact I.call    u hok hg hch
end
abbrev XK:=Uv->zJ->Hp->Prop
abbrev St:=List (Option V)
abbrev VK:=V->Hp->Prop
abbrev TE:=St->Hp->VK->Prop
abbrev TT:=St->Hp->(Bool->Hp->Prop)->Prop
abbrev TA:=St->Hp->(List V->Hp->Prop)->Prop
structure Ends where
 nx:St->Hp->Prop
 rt:VK
 bk:St->Hp->Prop:=λ_ _=>False
 ct:St->Hp->Prop:=λ_ _=>False
abbrev TS:=Ends->St->Hp->Prop
def EP(X:Cx)(pins:List (Uy×Obj))(σ:St)(Q:VK)(u:Uv)(s':Uw):Prop:=∃v H',Inv X pins σ H' s'/\RelV v u/\Q v H'
def TP(X:Cx)(pins:List (Uy×Obj))(σ:St)(Q:Bool->Hp->Prop)(b:Bool)(s':Uw):Prop:=∃H',Inv X pins σ H' s'/\Q b H'
def AP(X:Cx)(pins:List (Uy×Obj))(σ:St)(Q:List V->Hp->Prop)(us:zA)(s':Uw):Prop:=∃vs H',Inv X pins σ H' s'/\Vals vs us/\Q vs H'
def SP(X:Cx)(pins:List (Uy×Obj))(D:Ends)(f:Flow)(s':Uw):Prop:=
 match f with
 |.next=>∃σ' H',Inv X pins σ' H' s'/\D.nx σ' H'
 |.brk=>∃σ' H',Inv X pins σ' H' s'/\D.bk σ' H'
 |.cont=>∃σ' H',Inv X pins σ' H' s'/\D.ct σ' H'
 |.ret u=>∃v σ' H',Inv X pins σ' H' s'/\RelV v u/\D.rt v H'
def PE(X:Cx)(e:UA)(t:TE):Prop:=
 ∀(pins:List (Uy×Obj))(s:Uw)(σ:St)(H:Hp)(Q:VK),Inv X pins σ H s->t σ H Q->UC (model X.prog X.w) X.A (eval e X.env) (EP X pins σ Q) X.xe s
def PT(X:Cx)(e:UA)(t:TT):Prop:=
 ∀(pins:List (Uy×Obj))(s:Uw)(σ:St)(H:Hp)(Q:Bool->Hp->Prop),Inv X pins σ H s->t σ H Q->UC (model X.prog X.w) X.A (isTrue e X.env (eval e X.env)) (TP X pins σ Q) X.xe s
def PW(X:Cx)(e:UA)(t:TT):Prop:=
 ∀(whole:Sem Uv)(pins:List (Uy×Obj))(s:Uw)(σ:St)(H:Hp)(Q:Bool->Hp->Prop),Inv X pins σ H s->t σ H Q->UC (model X.prog X.w) X.A (isTrue e X.env whole) (TP X pins σ Q) X.xe s
theorem PW.pt{X:Cx}{e:UA}{t:TT}(h:PW X e t):PT X e t:=h _
def PA(X:Cx)(es:zy)(t:TA):Prop:=
 ∀(pos:Pos)(pins:List (Uy×Obj))(s:Uw)(σ:St)(H:Hp)(Q:List V->Hp->Prop),Inv X pins σ H s->t σ H Q->UC (model X.prog X.w) X.A (spliced (backTo pos (UD es X.env))) (AP X pins σ Q) X.xe s
def PS(X:Cx)(st:Stmt)(t:TS):Prop:=
 ∀(pins:List (Uy×Obj))(s:Uw)(σ:St)(H:Hp)(D:Ends),Inv X pins σ H s->t D σ H->UC (model X.prog X.w) X.A (exec st X.env) (SP X pins D) X.xe s
def PSs(X:Cx)(st:List Stmt)(t:TS):Prop:=
 ∀(pins:List (Uy×Obj))(s:Uw)(σ:St)(H:Hp)(D:Ends),Inv X pins σ H s->t D σ H->UC (model X.prog X.w) X.A (execs st X.env) (SP X pins D) X.xe s
theorem thn  {t:Sem α}{Q Q'}{M}{A}{E}{s}(h:UC M A t Q E s)(hQ:∀a s,Q a s->Q' a s):UC M A t Q' E s:=QG h hQ λ_ _ x=>x
section
variable{X:Cx}
noncomputable def Zk(i:Nat):TE:=λσ H Q=>∃v,σ[i]?=O (O v)/\Q v H
noncomputable def tC(v:V):TE:=λ_ H Q=>Q v H
theorem L4   {pos}(hN:X.N[i]?=O x)(hv:Vis X.env.scope x)(hd:(x==("__debug__" : Str))=zr:=by decide)(hcd:(x==("__classdict__" : Str))=zr:=by decide):PE X (.Name x pos) (Zk i):=by
 intro pins s σ H Q I h;obtain⟨v,e,h⟩:=h;obtain⟨m,hn,hl⟩:=I.loc;obtain⟨u,r,l⟩:=hl i x v hN e hv;have fin:EP X pins σ Q u s:=⟨v,H,I,r,h⟩;rcases l with ⟨hk,hm⟩|⟨hk,c,hc,hcell⟩
 .exact wpAny_Name (wpAny_loadName_local I.ok.kind hk hn hm fin) hd
 .rcases hk with hk|hk
  .exact wpAny_Name (wpAny_loadName_cell I.ok.kind hk hc hcell fin) hd
  .exact wpAny_Name (wpAny_loadName_free I.ok.kind hk hc hcell fin hcd) hd
theorem Ao  : PE X (.Constant (.int i) j pos) (tC (.int i)):=λ_ _ _ H _ I h=>wpAny_Constant_int ⟨.int i,H,I.tok _,⟨_,rfl⟩,h⟩
theorem CN  : PE X (.Constant (.bool b) j pos) (tC (.bl b)):=λ_ _ _ H _ I h=>Constant_bool ⟨.bl b,H,I,rfl,h⟩
theorem An  : PE X (.Constant .none j pos) (tC .non):=λ_ _ _ H _ I h=>Constant_none ⟨.non,H,I,rfl,h⟩
theorem Am  : PE X (.Constant (.str x) j pos) (tC (.str x)):=λ_ _ _ H _ I h=>Calls.Constant_str ⟨.str x,H,I.tok _,⟨_,rfl⟩,h⟩
def Gl(X:Cx)(x:Str):Prop:=X.env.kindOf x=O .globalImplicit
theorem N5  {pins}{s}{σ:St}{H}{x}{u}{pos}{Q}(I:Inv X pins σ H s)(hg:Gl X x)(hm:X.mg x=O u)(h:Q u s)
  (hd:(x==("__debug__" : Str))=zr:=by decide):UC (model X.prog X.w) X.A (eval (.Name x pos) X.env) Q E s:=
 Calls.Name_function_global I.ok.kind hg (Calls.loadGlobal_global (by rw[I.ok.glob];exact I.mod.glob.keeps I.bk) hm h) hd
theorem WV{E}{pins}{s}{σ:St}{H}{x}{u}{pos}{Q}(I:Inv X pins σ H s)(hg:Gl X x)(hm:X.mg x=zp)(hv:bootBuiltins x=O u)(h:Q u s)
  (hn:x ≠ "__name__" :=by decide) (hd:(x==("__debug__" : Str))=zr:=by decide):UC (model X.prog X.w) X.A (eval (.Name x pos) X.env) Q E s:=by
 obtain⟨mb,h1,h2⟩:=I.mod.blt;exact Calls.Name_function_global I.ok.kind hg (Calls.loadGlobal_builtin (by rw[I.ok.glob];exact I.mod.glob.keeps I.bk) hm (by rw[I.ok.blt];exact h1.keeps I.bk) ((h2 x hn).trans hv) h) hd
theorem GF   {u}{pos}(hg:Gl X x)(hm:X.mg x=O u)(r:RelV v u)(hd:(x==("__debug__" : Str))=zr:=by decide):PE X (.Name x pos) (tC v):=
 λ_ _ _ H _ I h=>N5 I hg hm ⟨v,H,I,r,h⟩ hd
theorem jh   {u}{pos}(hg:Gl X x)(hm:X.mg x=zp)(hv:bootBuiltins x=O u)(r:RelV v u)(hn:x ≠ "__name__" :=by decide)(hd:(x==("__debug__" : Str))=zr:=by decide):PE X (.Name x pos) (tC v):=
 λ_ _ _ H _ I h=>WV I hg hm hv ⟨v,H,I,r,h⟩ hn hd
variable{a b:UA}{ta tb:TE}{pos:Pos}
def PC(X:Cx)(op:CmpOp)(a b:UA)(t:TE):Prop:=
 ∀(pins:List (Uy×Obj))(s:Uw)(σ:St)(H:Hp)(Q:VK),Inv X pins σ H s->t σ H Q ->
  UC (model X.prog X.w) X.A (eval a X.env) (λv s₁=>UC (model X.prog X.w) X.A (eval b X.env) (λu s₂=>UC (model X.prog X.w) X.A (UE op v u) (EP X pins σ Q) X.xe s₂) X.xe s₁) X.xe s
theorem OE(b){op}(h:op≠.In)(h2:op≠.NotIn):behindInMarks op b=zr:=by
 have e1:(op==CmpOp.In)=zr:=by lia
 have e2:(op==CmpOp.NotIn)=zr:=by lia
 cases b<;>simp[behindInMarks,e1,e2]
noncomputable def tIsN(ta:TE):TE:=λσ H Q=>ta σ H λx H1=>Q (.bl (decide (x=.non))) H1
noncomputable def CM(ta:TE):TE:=λσ H Q=>ta σ H λx H1=>Q (.bl (!decide (x=.non))) H1
theorem RelV.none_iff   (r:RelV x v):(v==Value.none)=decide (x=.non):=by
 cases x with
 |non=>cases r;rfl
 |bl _=>cases r;rfl
 |int _=>obtain⟨t,rfl⟩:=r;rfl
 |str _=>obtain⟨t,rfl⟩:=r;rfl
 |byt _=>obtain⟨t,rfl⟩:=r;rfl
 |flt _=>obtain⟨t,rfl⟩:=r;rfl
 |ref _=>cases r;rfl
 |ty _=>cases r;rfl
theorem L0  (ha:PE X a ta):PC X .Is a (.Constant .none j pos') (tIsN ta):=by intro pins s σ H Q I h;refine thn (ha pins s σ H _ I h) λv s1 ⟨x,H1,I1,r1,q1⟩=>?_;exact Constant_none (is_none_gen ⟨.bl _,H1,I1,by rw[r1.none_iff];rfl,q1⟩)
theorem jg  (ha:PE X a ta):PC X .IsNot a (.Constant .none j pos') (CM ta):=by intro pins s σ H Q I h;refine thn (ha pins s σ H _ I h) λv s1 ⟨x,H1,I1,r1,q1⟩=>?_;exact Constant_none (isnot_none_gen ⟨.bl _,H1,I1,by rw[r1.none_iff];rfl,q1⟩)
noncomputable def tB(t:TE):TT:=λσ H Q=>t σ H λx H1=>∃c,x=.bl c/\Q c H1
theorem Al   (h:PC X op a b t)(h1:behindInMarks op b=zr:=by first|exact OE _ (by decide) (by decide)|rfl):PE X (.Compare a [op] [b] pos) t:=λpins s σ H Q I hw=>wpAny_Compare1 (h pins s σ H Q I hw) h1
theorem Oc   (h:PC X op a b t)(h1:behindInMarks op b=zr:=by first|exact OE _ (by decide) (by decide)|rfl):PT X (.Compare a [op] [b] pos) (tB t):=by intro pins s σ H Q I hw;refine wpAny_isTrue_Compare1 (thn (h pins s σ H _ I hw) λv s1 h1=>thn h1 λu s2 h2=>thn h2 λc s3 ⟨x,H1,I1,r1,q1⟩=>?_) h1;obtain⟨d,rfl,q⟩:=q1;cases r1;exact Q6 ⟨H1,I1,q⟩
theorem Ak   (h:PE X e t)(he:∀whole,isTrue e X.env whole=(do let v ←whole;standAt e.pos;holding [v] (truthy v)):=by intro _;rfl):PT X e (tB t):=by intro pins s σ H Q I hw;refine isTrue_plain (thn (h pins s σ H _ I hw) λv s1 ⟨x,H1,I1,r1,q1⟩=>?_) (he _);obtain⟨d,rfl,q⟩:=q1;cases r1;exact Q6 ⟨H1,I1,q⟩
variable{tA tB':TT}{rest:zy}
noncomputable def tAnd(t u:TT):TT:=λσ H Q=>t σ H λc H1=>if c=zq then u σ H1 Q else Q zr H1
noncomputable def tOr(t u:TT):TT:=λσ H Q=>t σ H λc H1=>if c=zq then Q zq H1 else u σ H1 Q
noncomputable def tNot(t:TT):TT:=λσ H Q=>t σ H λc H1=>Q (!c) H1
theorem jf(ha:PT X a tA):PW X (.BoolOp .And [a] pos) tA:=by
 intro wh pins s σ H Q I h;refine isTrue_and (thn (ha pins s σ H Q I h) λc s1 e=>?_);cases c with
 |true=>exact isTrue_and_nil e
 |false=>exact e
theorem Aj(ha:PT X a tA):PW X (.BoolOp .Or [a] pos) tA:=by
 intro wh pins s σ H Q I h;refine isTrue_or (thn (ha pins s σ H Q I h) λc s1 e=>?_);cases c with
 |false=>exact isTrue_or_nil e
 |true=>exact e
theorem AN(ha:PT X a tA)(hb:PW X (.BoolOp .And (b::rest) pos) tB'):PW X (.BoolOp .And (a::b::rest) pos) (tAnd tA tB'):=by
 intro wh pins s σ H Q I h;refine isTrue_and (thn (ha pins s σ H _ I h) λc s1 ⟨H1,I1,q1⟩=>?_);cases c with
 |true=>exact hb wh pins s1 σ H1 Q I1 q1
 |false=>exact⟨H1,I1,q1⟩
theorem CL(ha:PT X a tA)(hb:PW X (.BoolOp .Or (b::rest) pos) tB'):PW X (.BoolOp .Or (a::b::rest) pos) (tOr tA tB'):=by
 intro wh pins s σ H Q I h;refine isTrue_or (thn (ha pins s σ H _ I h) λc s1 ⟨H1,I1,q1⟩=>?_);cases c with
 |true=>exact⟨H1,I1,q1⟩
 |false=>exact hb wh pins s1 σ H1 Q I1 q1
theorem AM(ha:PT X a tA):PT X (.UnaryOp .Not a pos) (tNot tA):=by intro pins s σ H Q I h;exact isTrue_not (ha pins s σ H _ I h)
noncomputable def CJ(ta tb:TE):TE:=λσ H Q=>ta σ H λx H1=>∃c,x=.bl c/\if c=zq then tb σ H1 Q else Q (.bl zr) H1
noncomputable def tOrV(ta tb:TE):TE:=λσ H Q=>ta σ H λx H1=>∃c,x=.bl c/\if c=zq then Q (.bl zq) H1 else tb σ H1 Q
noncomputable def CI(ta:TE):TE:=λσ H Q=>ta σ H λx H1=>∃c,x=.bl c/\Q (.bl (!c)) H1
theorem AL  {t}(h:PE X a t):PE X (.BoolOp op [a] pos) t:=λpins s σ H Q I hw=>BoolOp_one (h pins s σ H Q I hw)
theorem AK(ha:PE X a ta)(hb:PE X (.BoolOp .And (b::rest) pos) tb):PE X (.BoolOp .And (a::b::rest) pos) (CJ ta tb):=by
 intro pins s σ H Q I h;refine BoolOp_and (thn (ha pins s σ H _ I h) λv s1 ⟨x,H1,I1,r1,q1⟩=>?_);obtain⟨c,rfl,q1⟩:=q1;cases r1;refine Q6 ?_;cases c with
 |true=>exact hb pins s1 σ H1 Q I1 q1
 |false=>exact⟨.bl zr,H1,I1,rfl,q1⟩
theorem CH(ha:PE X a ta)(hb:PE X (.BoolOp .Or (b::rest) pos) tb):PE X (.BoolOp .Or (a::b::rest) pos) (tOrV ta tb):=by
 intro pins s σ H Q I h;refine BoolOp_or (thn (ha pins s σ H _ I h) λv s1 ⟨x,H1,I1,r1,q1⟩=>?_);obtain⟨c,rfl,q1⟩:=q1;cases r1;refine Q6 ?_;cases c with
 |false=>exact hb pins s1 σ H1 Q I1 q1
 |true=>exact⟨.bl zq,H1,I1,rfl,q1⟩
theorem AJ(ha:PE X a ta):PE X (.UnaryOp .Not a pos) (CI ta):=by intro pins s σ H Q I h;refine UnaryOp_ (thn (ha pins s σ H _ I h) λv s1 ⟨x,H1,I1,r1,q1⟩=>?_);obtain⟨c,rfl,q1⟩:=q1;cases r1;exact not_of (Q6 ⟨.bl _,H1,I1,rfl,q1⟩)
noncomputable def tIf(t:TT)(ta tb:TE):TE:=λσ H Q=>t σ H λc H1=>if c=zq then ta σ H1 Q else tb σ H1 Q
theorem xa  (hc:PT X c tA)(ha:PE X a ta)(hb:PE X b tb):PE X (.IfExp c a b pos) (tIf tA ta tb):=by
 intro pins s σ H Q I h;refine wpAny_IfExp (thn (hc pins s σ H _ I h) λd s1 ⟨H1,I1,q1⟩=>?_);cases d with
 |true=>exact ha pins s1 σ H1 Q I1 q1
 |false=>exact hb pins s1 σ H1 Q I1 q1
end
def SqL(K:Frag)(H:Hp)(a:Uy)(xs:List V):Prop:=
 Rd H a (.lst xs) ∨
  ∃(o:Obj)(its:Array Uv)(n:Nat),K.lookup a=O o/\o.cls=.type "list" /\ o.dict=zp/\o.data=.seq its n/\its.size<=UB/\Vals xs its.toList
def SqT(K:Frag)(H:Hp)(a:Uy)(xs:List V):Prop:=
 Rd H a (.tup xs) ∨
  ∃(o:Obj)(its:Array Uv)(n:Nat),K.lookup a=O o/\o.cls=.type "tuple" /\ o.data=.seq its n/\its.size<=UB/\Vals xs its.toList
noncomputable def absV:Uv->Option V
 |.none=>O .non
 |.bool b=>O (.bl b)
 |.int i _=>O (.int i)
 |.str x _=>O (.str x)
 |.bytes b _=>O (.byt b)
 |.float b _=>O (.flt b)
 |.ref a=>O (.ref a)
 |.type n=>O (.ty n)
 |_=>zp
theorem RelV.abs   (r:RelV x u):absV u=O x:=by
 cases x with
 |non=>cases r;rfl
 |bl _=>cases r;rfl
 |int _=>obtain⟨t,rfl⟩:=r;rfl
 |str _=>obtain⟨t,rfl⟩:=r;rfl
 |byt _=>obtain⟨t,rfl⟩:=r;rfl
 |flt _=>obtain⟨t,rfl⟩:=r;rfl
 |ref _=>cases r;rfl
 |ty _=>cases r;rfl
theorem RelV.inj  {u}(r:RelV x u)(q:RelV y u):x=y:=QO (r.abs.symm.trans q.abs)
theorem Vals.inj:∀{xs ys}{us},Vals xs us->Vals ys us->xs=ys
 |_,_,_,.nil,.nil=>rfl
 |_,_,_,.cons r t,.cons r' t'=>by rw[r.inj r',Vals.inj t t']
section
variable{X:Cx}{pins:List (Uy×Obj)}{σ:St}{H:Hp}{s:Uw}{a:Uy}{xs ys:List V}
theorem SqL.of{K:Frag}(h:H a=O (.lst xs)):SqL K H a xs:=.inl (.inl h)
theorem SqT.of{K:Frag}(h:H a=O (.tup xs)):SqT K H a xs:=.inl (.inl h)
theorem Inv.list(I:Inv X pins σ H s)(h:SqL X.K H a xs):∃its:zA,Vals xs its/\PlainL s.heap a its.toArray/\xs.length<=UB:=by
 rcases h with h|⟨o,its,n,hk,hc,hd,hs,hz,r⟩
 .obtain⟨z,its,n,r,e⟩:=h.ok I.hok
  exact⟨its,r,⟨_,n,e,rfl,rfl,rfl⟩,z⟩
 .refine⟨its.toList,r,⟨o,n,I.kIn a o hk,hc,hd,by simpa using hs⟩,?_⟩
  have e:=r.length
  grind
theorem Inv.tuple(I:Inv X pins σ H s)(h:SqT X.K H a xs):∃its:zA,Vals xs its/\IsTup s.heap a its.toArray/\xs.length<=UB:=by
 rcases h with h|⟨o,its,n,hk,hc,hs,hz,r⟩
 .obtain⟨z,its,r,p⟩:=h.ok I.hok
  exact⟨its,r,p,z⟩
 .refine⟨its.toList,r,⟨o,I.kIn a o hk,hc,n,by simpa using hs⟩,?_⟩
  have e:=r.length;simp_all
theorem Inv.list_inj(I:Inv X pins σ H s)(h:SqL X.K H a xs)(h':SqL X.K H a ys):xs=ys:=by
 obtain⟨its,r,⟨o,n,e,_,_,d⟩,_⟩:=I.list h;obtain⟨its',r',⟨o',n',e',_,_,d'⟩,_⟩:=I.list h';rw[e]at e';cases e';rw[d]at d';injection d' with d1 _;have   :=by simpa using congrArg Array.toList d1
 subst this;exact r.inj r'
theorem Inv.tuple_inj(I:Inv X pins σ H s)(h:SqT X.K H a xs)(h':SqT X.K H a ys):xs=ys:=by
 obtain⟨its,r,⟨o,e,_,n,d⟩,_⟩:=I.tuple h;obtain⟨its',r',⟨o',e',_,n',d'⟩,_⟩:=I.tuple h';rw[e]at e';cases e';rw[d]at d';injection d' with d1 _;have   :=by simpa using congrArg Array.toList d1
 subst this;exact r.inj r'
end
noncomputable abbrev Cx.wish(X:Cx)(E:Uv->Uw->Prop):Cx:={X with xe:=E}
noncomputable abbrev Cx.nox(X:Cx):Cx:=X.wish λ_ _=>False
theorem Cx.Ok.wish{X:Cx}(ok:X.Ok)(E):(X.wish E).Ok:=
 ⟨ok.mod,ok.kind,ok.glob,ok.blt,ok.above,ok.inj,ok.has,ok.cab,ok.hd,ok.frames,ok.stk,ok.exf,ok.bs,ok.bsz,ok.noex,ok.exfs,ok.funs,ok.frf⟩
theorem Cx.Ok.unwish{X:Cx}{E}(ok:(X.wish E).Ok):X.Ok:=
 ⟨ok.mod,ok.kind,ok.glob,ok.blt,ok.above,ok.inj,ok.has,ok.cab,ok.hd,ok.frames,ok.stk,ok.exf,ok.bs,ok.bsz,ok.noex,ok.exfs,ok.funs,ok.frf⟩
section
variable{X:Cx}{pins:List (Uy×Obj)}{σ:St}{H:Hp}{s:Uw}{E:Uv->Uw->Prop}
theorem Inv.wish(I:Inv X pins σ H s)(E):Inv (X.wish E) pins σ H s:=⟨I.ok.wish E,I.os,I.bare,I.base,I.loc,I.cell,I.free,I.freeC,I.pin,I.hok,I.len⟩
theorem Inv.unwish(I:Inv (X.wish E) pins σ H s):Inv X pins σ H s:=⟨I.ok.unwish,I.os,I.bare,I.base,I.loc,I.cell,I.free,I.freeC,I.pin,I.hok,I.len⟩
theorem SP.unwish    (h:SP (X.wish E) pins D f s'):SP X pins D f s':=by
 cases f with
 |next=>obtain⟨σ',H',I,q⟩:=h;exact⟨σ',H',I.unwish,q⟩
 |brk=>obtain⟨σ',H',I,q⟩:=h;exact⟨σ',H',I.unwish,q⟩
 |cont=>obtain⟨σ',H',I,q⟩:=h;exact⟨σ',H',I.unwish,q⟩
 |ret u=>obtain⟨v,σ',H',I,r,q⟩:=h;exact⟨v,σ',H',I.unwish,r,q⟩
theorem PSs.nox{st}{t}(h:PSs X.nox st t):PSs X st t:=λpins s σ H D I hw=>
 QG (h pins s σ H D (I.wish _) hw) (λ_ _ q=>q.unwish) λ_ _ z=>False.elim z
end
section
variable{X:Cx}{st:Stmt}{rest:List Stmt}{t u:TS}{e:UA}{te:TE}{pos:Pos}
noncomputable def CG:TS:=λD σ H=>D.nx σ H
noncomputable def tSeq(t u:TS):TS:=λD σ H=>t {D with nx:=u D} σ H
theorem je:PSs X [] CG:=λ_ _ σ H _ I h=>wpAny_execs_nil ⟨σ,H,I,h⟩
theorem kZ(h1:PS X st t)(h2:PSs X rest u):PSs X (st::rest) (tSeq t u):=by
 intro pins s σ H D I h;refine wpAny_execs_cons (thn (h1 pins s σ H {D with nx:=u D} I h) λf s1 q=>?_);cases f with
 |next=>obtain⟨σ',H',I',q⟩:=q;exact h2 pins s1 σ' H' D I' q
 |ret v=>exact q
 |brk=>exact q
 |cont=>exact q
theorem GE(h1:PS X st t):PSs X [st] t:=by
 intro pins s σ H D I h;refine wpAny_execs_cons (thn (h1 pins s σ H D I h) λf s1 q=>?_);cases f with
 |next=>exact wpAny_execs_nil q
 |ret v=>exact q
 |brk=>exact q
 |cont=>exact q
theorem Inv.quiet  {σ:St}{H}{s}(I:Inv X pins σ H s):interactive X.env=zr:=by simp[interactive,I.ok.kind]
noncomputable def LN(te:TE):TS:=λD σ H=>te σ H λ_ H1=>D.nx σ H1
theorem N4(he:PE X e te)(hs:swapsWith e zp pos.line X.env=pure zr:=by rfl):PS X (.Expr e pos) (LN te):=by intro pins s σ H D I h;exact wpAny_Expr_any (thn (he pins s σ H _ I h) λv s1 ⟨x,H1,I1,r1,q1⟩=>⟨σ,H1,I1,q1⟩) I.quiet hs
noncomputable def tRet(te:TE):TS:=λD σ H=>te σ H D.rt
theorem AI(he:PE X e te):PS X (.Return (O e) pos) (tRet te):=by intro pins s σ H D I h;exact wpAny_Return_some (thn (he pins s σ H _ I h) λv s1 ⟨x,H1,I1,r1,q1⟩=>⟨x,σ,H1,I1,r1,q1⟩)
noncomputable def tIfS(c:TT)(t u:TS):TS:=λD σ H=>c σ H λb H1=>if b=zq then t D σ H1 else u D σ H1
theorem CF   {tc}(hc:PT X c tc)(ha:PSs X a t)(hb:PSs X b u):PS X (.If c a b pos) (tIfS tc t u):=by
 intro pins s σ H D I h;refine wpAny_If (thn (hc pins s σ H _ I h) λd s1 ⟨H1,I1,q1⟩=>?_);cases d with
 |true=>exact ha pins s1 σ H1 D I1 q1
 |false=>exact hb pins s1 σ H1 D I1 q1
end
abbrev TG:=V->St->Hp->(St->Hp->Prop)->Prop
abbrev TGs:=List V->St->Hp->(St->Hp->Prop)->Prop
def PG(X:Cx)(target:UA)(t:TG):Prop:=
 ∀(pins:List (Uy×Obj))(s:Uw)(σ:St)(H:Hp)(v:V)(u:Uv)(Q:St->Hp->Prop),Inv X pins σ H s->RelV v u->t v σ H Q ->
  UC (model X.prog X.w) X.A (assign target X.env u) (λ_ s'=>∃σ' H',Inv X pins σ' H' s'/\Q σ' H') X.xe s
def PGs(X:Cx)(ts:zy)(t:TGs):Prop:=
 ∀(pins:List (Uy×Obj))(s:Uw)(σ:St)(H:Hp)(vs:List V)(us:zA)(Q:St->Hp->Prop),Inv X pins σ H s->Vals vs us->t vs σ H Q ->
  UC (model X.prog X.w) X.A (assignInOrder ((US ts X.env).map (·.2)) us) (λ_ s'=>∃σ' H',Inv X pins σ' H' s'/\Q σ' H') X.xe s
abbrev TIp:=V->V->Hp->VK->Prop
def PIp(X:Cx)(op:Operator)(t:TIp):Prop:=
 ∀(pins:List (Uy×Obj))(s:Uw)(σ:St)(H:Hp)(x y:V)(v u:Uv)(Q:VK),Inv X pins σ H s->RelV x v->RelV y u->t x y H Q ->
  UC (model X.prog X.w) X.A (inplaceOp op v u) (EP X pins σ Q) X.xe s
section
variable{X:Cx}{pos:Pos}
noncomputable def Ni(i:Nat):TG:=λv σ H Q=>Q (σ.set i (O v)) H
theorem WR   (hN:X.N.Nodup)(hi:X.N[i]?=O x)(hx:Loc X.env.scope x)(hf:X.fn x=zq∨X.env.scope.names.lookup x=O .local:=by first|exact .inl rfl|exact .inr rfl|assumption):PG X (.Name x pos) (Ni i):=by intro pins s σ H v u Q I r h;exact wpAny_assign_Name (Mg I hN hi hx r (λs' I'=>⟨_,H,I',h⟩) hf)
noncomputable def gNil:TGs:=λvs σ H Q=>vs=[]/\Q σ H
noncomputable def CD(t:TG)(u:TGs):TGs:=λvs σ H Q=>∃v r,vs=v::r/\t v σ H λσ' H'=>u r σ' H' Q
theorem jd:PGs X [] gNil:=by intro pins s σ H vs us Q I r h;obtain⟨e,h⟩:=h;exact assignInOrder_nil ⟨σ,H,I,h⟩
theorem kY   {t}{u}(h1:PG X e t)(h2:PGs X es u)
  (hs:(US (e::es) X.env).map (·.2)=assign e X.env::(US es X.env).map (·.2):=by rfl):PGs X (e::es) (CD t u):=by
 intro pins s σ H vs us Q I r h;obtain⟨v,vr,e1,h⟩:=h;subst e1;cases r with
 |cons r rr=>rw[hs];refine assignInOrder_cons (thn (h1 pins s σ H _ _ _ I r h) λ_ s1 ⟨σ1,H1,I1,q1⟩=>?_);exact h2 pins s1 σ1 H1 _ _ Q I1 rr q1
noncomputable def gTup(K:Frag)(n:Nat)(t:TGs):TG:=λv σ H Q=>∃a xs,v=.ref a/\SqT K H a xs/\xs.length=n/\t xs σ H Q
theorem AH  {k}{t}{n}(hc:X.calm=zq)(h:PGs X es t)
  (hn:(US es X.env).length=n:=by rfl) (hst:(US es X.env).findIdx? (·.1)=zp:=by rfl):PG X (.Tuple es k pos) (gTup X.K n t):=by
 intro pins s σ H v u Q I r hw;obtain⟨a,xs,e1,hq,hl,hw⟩:=hw;subst e1;cases r;obtain⟨its,rv,ht,hz⟩:=I.tuple hq;refine assign_Tuple_tuple (I.ok.hd hc) ht (by simp[hn,←hl,rv.length]) hst λh' hx=>?_
 have I1   :=I.kept (t':=s.toks) λb o e=>hx b o (QY (Qk e)) e;exact h pins _ σ H xs _ Q I1 (by simpa using rv) hw
noncomputable def tAsg(te:TE)(g:TG):TS:=λD σ H=>te σ H λx H1=>g x σ H1 D.nx
theorem AG{tg e}{te}{g}(he:PE X e te)(hg:PG X tg g)(hs:swapsWithSole [tg] e pos.line X.env=pure zr:=by rfl)(hw:swappedStores [tg] e X.env=pure zp:=by rfl)
  (h1:(US [tg] X.env).map (·.2)=[assign tg X.env]:=by rfl):PS X (.Assign [tg] e pos) (tAsg te g):=by
 intro pins s σ H D I h;refine wpAny_Assign_stores (thn (he pins s σ H _ I h) λv s1 ⟨x,H1,I1,r1,q1⟩=>?_) hs hw;rw[h1];exact thn (hg pins s1 σ H1 x v _ I1 r1 q1) λ_ s2 q=>q
theorem NB      (hN:X.N.Nodup)(hi:X.N[i]?=O x)(hx:Loc X.env.scope x)(he:PE X e te)(hs:swapsWith e (O (.Name x pos')) pos.line X.env=pure zr:=by rfl)(hf:X.fn x=zq∨X.env.scope.names.lookup x=O .local:=by first|exact .inl rfl|exact .inr rfl|assumption) :
  PS X (.Assign [.Name x pos'] e pos) (tAsg te (Ni i)):=by
 intro pins s σ H D I h;refine wpAny_Assign_Name (thn (he pins s σ H _ I h) λv s1 ⟨y,H1,I1,r1,q1⟩=>?_) hs;exact Mg I1 hN hi hx r1 (λs2 I2=>⟨_,H1,I2,q1⟩) hf
noncomputable def tAug(i:Nat)(te:TE)(ti:TIp):TS:=λD σ H=>∃x,σ[i]?=O (O x)/\te σ H λy H1=>ti x y H1 λz H2=>D.nx (σ.set i (O z)) H2
theorem AF  {x:Str}{e:UA}{te:TE}{op}{ti:TIp}{pos':Pos}(hN:X.N.Nodup)(hi:X.N[i]?=O x)(hx:Loc X.env.scope x)(he:PE X e te)(ho:PIp X op ti)(hf:X.fn x=zq∨X.env.scope.names.lookup x=O .local:=by first|exact .inl rfl|exact .inr rfl|assumption) :
  PS X (.AugAssign (.Name x pos') op e pos) (tAug i te ti):=by
 intro pins s σ H D I h;obtain⟨v,e1,h⟩:=h;obtain⟨m,hn,hl⟩:=I.loc;have vis:Vis X.env.scope x:=by rcases hx with k|k;exact .inl k;exact .inr (.inl k)
 obtain⟨u,r,l⟩:=hl i x v hi e1 vis;refine wpAny_AugAssign_Name ?_;have go:UC (model X.prog X.w) X.A (eval e X.env) (λw s₂=>UC (model X.prog X.w) X.A (inplaceOp op u w) (λr s₃=>UC (model X.prog X.w) X.A (storeName X.env x r) (λ_=>SP X pins D .next) X.xe s₃) X.xe s₂) X.xe s:=by refine thn (he pins s σ H _ I h) λw s1 ⟨y,H1,I1,r1,q1⟩=>?_;refine thn (ho pins s1 σ H1 v y u w _ I1 r r1 q1) λz s2 ⟨zv,H2,I2,r2,q2⟩=>?_;exact Mg I2 hN hi hx r2 (λs3 I3=>⟨_,H2,I3,q2⟩) hf
 rcases l with ⟨hk,hm⟩|⟨hk,c,hc,hcell⟩
 .exact wpAny_loadName_local I.ok.kind hk hn hm go
 .rcases hk with hk|hk
  .exact wpAny_loadName_cell I.ok.kind hk hc hcell go
  .rcases hx with k|k
   .have:X.env.scope.names.lookup x=O .free:=hk
    rw[k]at this;cases this
   .have:X.env.scope.names.lookup x=O .free:=hk
    rw[k]at this;cases this
end
section
variable{X:Cx}{pos:Pos}
noncomputable def Bu(c:TT)(tb:TS):TS:=λD σ H=>∃W:Nat->St->Hp->Prop,(∃m,W m σ H)/\∀m σ H,W m σ H ->
 c σ H λb H1=>if b=zq then ∃N:St->Hp->Prop,(∀σ' H',N σ' H'->∃m',m'<m/\W m' σ' H')/\tb {D with nx:=N,ct:=N,bk:=D.nx} σ H1 else D.nx σ H1
theorem kX   {tc}{tb}(hp:PassesOwn (model X.prog X.w) X.A X.env X.xe)(hc:PT X c tc)(hb:PSs X body tb):PS X (.While c body [] pos) (Bu tc tb):=by
 intro pins s σ H D I h;obtain⟨W,⟨m0,w0⟩,turn⟩:=h;refine wpAny_While (codeAny_whileLoop (λn s'=>∃σ' H',Inv X pins σ' H' s'/\W n σ' H') ?_ m0 ⟨σ,H,I,w0⟩);rintro n s1 ⟨σ1,H1,I1,w1⟩;refine Jr hp (thn (hc pins s1 σ1 H1 _ I1 (turn n σ1 H1 w1)) λb s2 ⟨H2,I2,q2⟩=>?_);cases b with
 |true=>
  obtain⟨N,hN,q2⟩:=q2;refine Jr hp (thn (hb pins s2 σ1 H2 _ I2 q2) λf s3 q3=>?_);cases f with
  |next=>obtain⟨σ3,H3,I3,n3⟩:=q3;obtain⟨m',hm,w3⟩:=hN σ3 H3 n3;exact⟨m',hm,σ3,H3,I3,w3⟩
  |cont=>obtain⟨σ3,H3,I3,n3⟩:=q3;obtain⟨m',hm,w3⟩:=hN σ3 H3 n3;exact⟨m',hm,σ3,H3,I3,w3⟩
  |brk=>exact q3
  |ret v=>exact q3
 |false=>exact wpAny_execs_nil ⟨σ1,H2,I2,q2⟩
end
structure It where
 go:Nat->Hp->Prop
 yld:Nat->Hp->V->Hp->Prop
 stop:Nat->Hp->Prop
def ZV(X:Cx)(pins:List (Uy×Obj))(H:Hp)(b:Uy):Prop:=
 H b=zp/\b≠X.env.locals/\b∉X.fs/\(b∈X.ex∨X.s₀.heap.objs.size<=b)/\(∀x c,X.env.cells.lookup x=O c->c≠b)/\∀p∈X.pn++pins,p.1≠b
theorem Inv.fpOk   {σ:St}{H H'}{s}{b:Uy}(I:Inv X pins σ H s)(hb:s.heap.objs.size<=b)(hn:H' b=zp):ZV X pins H' b:=by
 refine⟨hn,JQ (QF I.lt hb),I.nofs hb,.inr (QM I.sz hb),λx c e z=>?_,λp hp z=>?_⟩
 .obtain⟨v,q⟩:=I.cell x c e
  exact absurd (QF q.lt (by rw[z];exact hb)) (Jt _)
 .exact absurd (QF (Qk (I.pin p hp).1) (by rw[z];exact hb)) (Jt _)
structure Turn(P:Ux)(w:World)(K:Frag)(tg:UA)(J:It)(fp:zE)(it:Uy)(tn:Nat->Heap->Prop):Prop where
 mem:it∈fp
 obj:∀i h,tn i h->∀b∈fp,∃o,h.get? b=O o/\∀v,o.data≠.cell v
 keep:∀i h h',tn i h->(∀b∈fp,∀o,h.get? b=O o->h'.get? b=O o)->tn i h'
 item:∀(X:Cx),X.prog=P->X.w=w->X.K=K->X.calm=zq->∀(i:Nat)(pins:List (Uy×Obj))(s:Uw)(σ:St)(H:Hp)(E:Uv->Uw->Prop),Inv X pins σ H s->(∀b∈fp,ZV X pins H b)->tn i s.heap->J.go i H ->
  UC (model P w) X.A (pyNext (.ref it)) (λr s1=>∃u,r=O u /\
   UC (model P w) X.A (letOwnedTupleGo tg (.ref it) u) (λ_ s2=>∃x H',Inv X pins σ H' s2/\RelV x u/\J.yld i H x H'/\tn (i+1) s2.heap/\∀b∈fp,H' b=zp) E s1) E s
 done:∀(X:Cx),X.prog=P->X.w=w->X.K=K->X.calm=zq->∀(i:Nat)(pins:List (Uy×Obj))(s:Uw)(σ:St)(H:Hp)(E:Uv->Uw->Prop),Inv X pins σ H s->(∀b∈fp,ZV X pins H b)->tn i s.heap->J.stop i H ->
  UC (model P w) X.A (pyNext (.ref it)) (λr s1=>r=zp/\Inv X pins σ H s1) E s
 self:∀(A:Around)(i:Nat)(s:Uw)(Q:Uv->Uw->Prop)(E:Uv->Uw->Prop),tn i s.heap->Q (.ref it) s->UC (model P w) A (pyIter (.ref it)) Q E s
abbrev TI:=St->Hp->(It->Hp->Prop)->Prop
def PIE(X:Cx)(pins:List (Uy×Obj))(σ:St)(tg:UA)(R:It->Hp->Prop)(itv:Uv)(s2:Uw):Prop:=
 ∃(it:Uy)(fp:zE)(tn:Nat->Heap->Prop)(J:It)(H':Hp),itv=.ref it/\Inv X pins σ H' s2/\Turn X.prog X.w X.K tg J fp it tn/\tn 0 s2.heap/\(∀b∈fp,ZV X pins H' b)/\R J H'
def PI(X:Cx)(tg iter:UA)(wi:TI):Prop:=
 ∀(pins:List (Uy×Obj))(s:Uw)(σ:St)(H:Hp)(R:It->Hp->Prop),Inv X pins σ H s->wi σ H R ->
  UC (model X.prog X.w) X.A (eval iter X.env) (λv s1=>UC (model X.prog X.w) X.A (pyIter v) (PIE X pins σ tg R) X.xe s1) X.xe s
theorem PQ  {A:Around}{E}{s:Uw}{tg:UA}{it:Uy}{u:Uv}{o:Obj}{n:String}{vs}{Q}(ho:s.heap.get? it=O o)(hc:o.cls=.type n)(hd:o.data=.fields vs)
  (hn:["enumerate", "zip", "dict_itemiterator", "dict_reverseitemiterator", "odict_iterator", "itertools.zip_longest", "itertools.pairwise"].contains n=zr) (hQ:Q () s):UC M A (letOwnedTupleGo tg (.ref it) u) Q E s:=by
 cases tg<;>first
  |exact Qs hQ
  |(cases u<;>first
    |exact Qs hQ
    |(
      refine Qf (wpAny_load ho ?_);rw[hc,hd];show UC M A (if _=zq then _ else _) Q E s;rw[QA (by intro h;rw[hn]at h;cases h)];exact Qs hQ))
noncomputable def Itl(K:Frag)(a:Uy):It:=
 ⟨λi H=>∃xs x,SqL K H a xs/\xs[i]?=O x,λi H x H'=>H'=H/\∀xs,SqL K H a xs->xs[i]?=O x,λi H=>∃xs,SqL K H a xs/\xs.length<=i⟩
noncomputable def Itt(K:Frag)(a:Uy):It:=
 ⟨λi H=>∃xs x,SqT K H a xs/\xs[i]?=O x,λi H x H'=>H'=H/\∀xs,SqT K H a xs->xs[i]?=O x,λi H=>∃xs,SqT K H a xs/\xs.length<=i⟩
noncomputable def Itr(lo:Int)(n:Nat):It:=⟨λi _=>i<n,λi H x H'=>H'=H/\x=.int (lo+i),λi _=>n<=i⟩
theorem wE{P:Ux}{w:World}{K}{tg:UA}(a it:Uy):Turn P w K tg (Itl K a) [it] it (λi h=>h.IsListIter it a i) where
 mem:=by simp
 obj:=λi h st b hb=>by
  have e:b=it:=by simpa using hb
  subst e;obtain⟨o,e,c,d⟩:=st;exact⟨o,e,λv z=>by rw[d]at z;cases z⟩
 keep:=λi h h' st k=>st.at λo e=>k it (by simp) o e
 item:=by
  intro X hP hw hK hc i pins s σ H E I hf st hg;subst hP hw hK;obtain⟨xs,x,hq,hx⟩:=hg;obtain⟨its,rv,p,hz⟩:=I.list hq;obtain⟨u,hu,ru⟩:=rv.get hx;obtain⟨f0,f1,f2,f3,f4,f5⟩:=hf it (by simp);refine wpAny_pyNext_list_item st p.isList (x:=u) (by simpa using hu) λh' st' sb=>?_
  have I1   :=I.turned (t':=s.toks) (λb o hb e=>(sb.2 b hb).trans e) f0 f1 f3 f4 f5;obtain⟨o,e,c,d⟩:=id st';exact⟨u,rfl,PQ  e c d (by decide) ⟨x,H,I1,ru,⟨rfl,λys hy=>by rw[I.list_inj hy hq];exact hx⟩,st',λb hb=>(hf b hb).1⟩⟩
 done:=by intro X hP hw hK hc i pins s σ H E I hf st hg;subst hP hw hK;obtain⟨xs,hq,hx⟩:=hg;obtain⟨its,rv,p,hz⟩:=I.list hq;obtain⟨f0,f1,f2,f3,f4,f5⟩:=hf it (by simp);have hl:=rv.length;exact wpAny_pyNext_list_end (I.ok.hd hc) st p.isList (by simp;omega) λh' eb=>⟨rfl,I.turned (t':=s.toks) (λb o hb e=>eb b o hb e) f0 f1 f3 f4 f5⟩
 self:=λ_ _ _ _ _ st h=>wpAny_pyIter_listiter st h
theorem wW{P:Ux}{w:World}{K:Frag}{tg:UA}(a it:Uy):Turn P w K tg (Itt K a) [it] it (λi h=>h.IsTupleIter it a i) where
 mem:=by simp
 obj:=λi h st b hb=>by
  have e:b=it:=by simpa using hb
  subst e;obtain⟨o,e,c,d⟩:=st;exact⟨o,e,λv z=>by rw[d]at z;cases z⟩
 keep:=λi h h' st k=>st.at λo e=>k it (by simp) o e
 item:=by
  intro X hP hw hK hc i pins s σ H E I hf st hg;subst hP hw hK;obtain⟨xs,x,hq,hx⟩:=hg;obtain⟨its,rv,p,hz⟩:=I.tuple hq;obtain⟨u,hu,ru⟩:=rv.get hx;obtain⟨f0,f1,f2,f3,f4,f5⟩:=hf it (by simp);refine wpAny_pyNext_tuple_item st (p) (x:=u) (by simpa using hu) λh' st' sb=>?_
  have I1   :=I.turned (t':=s.toks) (λb o hb e=>(sb.2 b hb).trans e) f0 f1 f3 f4 f5;obtain⟨o,e,c,d⟩:=id st';exact⟨u,rfl,PQ  e c d (by decide) ⟨x,H,I1,ru,⟨rfl,λys hy=>by rw[I.tuple_inj hy hq];exact hx⟩,st',λb hb=>(hf b hb).1⟩⟩
 done:=by intro X hP hw hK hc i pins s σ H E I hf st hg;subst hP hw hK;obtain⟨xs,hq,hx⟩:=hg;obtain⟨its,rv,p,hz⟩:=I.tuple hq;obtain⟨f0,f1,f2,f3,f4,f5⟩:=hf it (by simp);have hl:=rv.length;exact wpAny_pyNext_tuple_end (I.ok.hd hc) st (p) (by simp;omega) λh' eb=>⟨rfl,I.turned (t':=s.toks) (λb o hb e=>eb b o hb e) f0 f1 f3 f4 f5⟩
 self:=λ_ _ _ _ _ st h=>wpAny_pyIter_tupleiter st h
theorem wV{P:Ux}{w:World}{K:Frag}{tg:UA}(it:Uy)(lo:Int)(n:Nat):Turn P w K tg (Itr lo n) [it] it (λi h=>IsRangeIter h it (lo+(i:Nat)*1) ((n:Int)-(i:Nat)) 1) where
 mem:=by simp
 obj:=λi h st b hb=>by
  have e:b=it:=by simpa using hb
  subst e;exact⟨_,st,λv z=>by have z'   :=z;cases z'⟩
 keep:=λi h h' st k=>k it (by simp) _ st
 item:=by
  intro X hP hw hK hc i pins s σ H E I hf st hg;subst hP hw hK;obtain⟨f0,f1,f2,f3,f4,f5⟩:=hf it (by simp);have W:=Walks.range (prog:=X.prog) (w:=X.w) (I.ok.hd hc) it lo 1 n;refine W.item i s _ _ hg st λv h' tk hv st' kk=>?_
  obtain⟨t,rfl⟩:=hv;have I1:Inv X pins σ H {s with heap:=h',toks:=tk}:=I.turned (λb o hb e=>kk b o (by simpa using hb) e) f0 f1 f3 f4 f5;refine⟨_,rfl,PQ   st' zo zo (by decide) ⟨.int (lo+i),H,I1,⟨t,?_⟩,⟨rfl,rfl⟩,st',λb hb=>(hf b hb).1⟩⟩;rw[Int.mul_one]
 done:=by intro X hP hw hK hc i pins s σ H E I hf st hg;obtain⟨f0,f1,f2,f3,f4,f5⟩:=hf it (by simp);exact wpAny_pyNext_range_end (I.ok.hd hc) st (by have:n<=i:=hg;omega) λh' eb=>⟨rfl,I.turned (t':=s.toks) (λb o hb e=>eb b o hb e) f0 f1 f3 f4 f5⟩
 self:=λ_ _ _ _ _ st h=>wpAny_pyIter_rangeiter st h
section
variable{X:Cx}{tg:UA}
theorem FC  {σ:St}{H:Hp}{s}{R}{E}{lo hi:Int}{t u v:Tok}{tk:Nat}(I:Inv X pins σ H s)(h1 : -(2 ^ 62)<=lo)(h2:lo<2 ^ 62)(h3 : -(2 ^ 62)<=hi)(h4:hi<2 ^ 62)
  (q:R (Itr lo (hi-lo).toNat) H):UC (model X.prog X.w) X.A (pyIter (.ref s.heap.objs.size)) (PIE X pins σ tg R) E {s with heap:=s.heap.push {cls:=.type "range", data:=.fields #[.int lo t,.int hi u,.int 1 v]},toks:=tk}:=by
 refine wpAny_pyIter_range (IsRange.new ..) (small_one h1 h2 h3 h4) ?_;have I1:Inv X pins σ H {s with heap:=s.heap.push {cls:=.type "range", data:=.fields #[.int lo t,.int hi u,.int 1 v]},toks:=tk}:=I.kept λb o e=>Qm _ e
 refine⟨(s.heap.push {cls:=.type "range", data:=.fields #[.int lo t,.int hi u,.int 1 v]}).objs.size,[(s.heap.push {cls:=.type "range", data:=.fields #[.int lo t,.int hi u,.int 1 v]}).objs.size],_,_,H,rfl,
  I1.kept  λb o e=>Qm _ e,wV _ lo (hi-lo).toNat,?_,λb hb=>?_,q⟩
 .have e1:lo+((0:Nat):Int)*1=lo:=by simp
  have e2:(((hi-lo).toNat:Nat):Int)-((0:Nat):Int)=Builtin.Range.rangeSize lo hi 1:=by rw[rangeSize_one];split<;>omega
  rw[e1,e2];exact QE _ zo
 .have e:b=(s.heap.push {cls:=.type "range", data:=.fields #[.int lo t,.int hi u,.int 1 v]}).objs.size:=by simpa using hb
  subst e;exact I1.fpOk (Qx _) (I1.hok.fresh (Qx _))
noncomputable def CC(ta:TA):TI:=λσ H R=>ta σ H λvs H1=>∃j:Int,vs=[.int j] /\ -(2 ^ 62)<=j/\j<2 ^ 62/\R (Itr 0 j.toNat) H1
noncomputable def CB(ta:TA):TI:=λσ H R=>ta σ H λvs H1=>∃i j:Int,vs=[.int i,.int j]/\(-(2 ^ 62)<=i/\i<2 ^ 62 /\ -(2 ^ 62)<=j/\j<2 ^ 62)/\R (Itr i (j-i).toNat) H1
theorem wD    (hg:Gl X "range")(hm:X.mg "range" = zp)(ha:PA X [a] ta)(hs:UD [a] X.env=[(zr,eval a X.env)]:=by rfl):PI X tg (.Call (.Name "range" p) [a] [] pos) (CC ta):=by
 intro pins s σ H R I h;refine Call_ (WV I hg hm boot_range (JR (thn (ha pos pins s σ H _ I h) λus s1 ⟨vs,H1,I1,r1,q1⟩=>?_) hs zo));obtain⟨j,e,q1,q2,q⟩:=q1;subst e;cases r1 with
 |cons r rr=>cases rr;obtain⟨t,rfl⟩:=r;exact call_range_1 (FC I1 (by omega) (by omega) q1 q2 (by simp_all))
theorem wC   {p pos}(hg:Gl X "range")(hm:X.mg "range" = zp)(ha:PA X [a,b] ta)(hs:UD [a,b] X.env=[(zr,eval a X.env),(zr,eval b X.env)]:=by rfl)(hs2:UD [b] X.env=[(zr,eval b X.env)]:=by rfl) :
  PI X tg (.Call (.Name "range" p) [a,b] [] pos) (CB ta):=by
 intro pins s σ H R I h;refine Call_ (WV I hg hm boot_range (PyProof.Rows.callWith_type1 (thn (ha pos pins s σ H _ I h) λus s1 ⟨vs,H1,I1,r1,q1⟩=>?_) (by simp_all) (by rw[hs2];rfl)));obtain⟨i,j,e,⟨q1,q2,q3,q4⟩,q⟩:=q1;subst e;cases r1 with
 |cons r rr=>
  cases rr with
  |cons r' rr=>cases rr;obtain⟨t,rfl⟩:=r;obtain⟨t',rfl⟩:=r';exact call_range_2 (FC I1 q1 q2 q3 q4 q)
noncomputable def tFor(wi:TI)(g:TG)(tb:TS):TS:=λD σ H=>wi σ H λJ H1=>∃W:Nat->Nat->St->Hp->Prop,(∃m,W 0 m σ H1)/\∀i m σ H,W i m σ H ->
 (J.stop i H/\D.nx σ H)∨(J.go i H/\∃N:St->Hp->Prop,(∀σ' H',N σ' H'->∃m',m'<m/\W (i+1) m' σ' H')/\∀x H',J.yld i H x H'->g x σ H' λσ2 H2=>tb {D with nx:=N,ct:=N,bk:=D.nx} σ2 H2)
noncomputable def Ob(fp:zE)(h:Heap):List (Uy×Obj):=fp.filterMap λb=>(h.get? b).map λo=>(b,o)
theorem O4   {b}{o}(hb:b∈fp)(e:h.get? b=O o):(b,o)∈Ob fp h:=List.mem_filterMap.mpr ⟨b,hb,by simp_all⟩
theorem wB    (hp:p∈Ob fp h):p.1∈fp/\h.get? p.1=O p.2:=by
 obtain⟨b,hb,e⟩:=Jp.mp hp;cases q:h.get? b with
 |none=>simp_all
 |some o=>rw[q]at e;have e'   :=QO e;subst e';exact⟨hb,q⟩
theorem Inv.pinned  {σ:St}{H}{s}{fp}(I:Inv X pins σ H s)(hf:∀b∈fp,ZV X pins H b)(ho:∀b∈fp,∃o,s.heap.get? b=O o/\∀v,o.data≠.cell v):Inv X (pins++Ob fp s.heap) σ H s:=
 I.pins_of λp hp=>(QH.mp hp).elim (λz=>I.pin p (QD _ z)) λz=>by obtain⟨hb,e⟩:=wB z;obtain⟨f0,f1,f2,_⟩:=hf p.1 hb;obtain⟨o,e',d⟩:=ho p.1 hb;rw[e]at e';cases e';exact⟨e,f0,f1,f2,d⟩
theorem Inv.unpinned  {σ:St}{H}{s}(I:Inv X (pins++pl) σ H s):Inv X pins σ H s:=I.pins_of λp hp=>I.pin p (QD _ (QU _ hp))
theorem Bt{iter:UA}{body:List Stmt}{wi:TI}{g:TG}{tb:TS}{pos:Pos}(hp:PassesOwn (model X.prog X.w) X.A X.env X.xe)(hc:X.calm=zq)(hi:PI X tg iter wi)(hg:PG X tg g)(hb:PSs X body tb)
  (hs:∀x,UT iter X.env x=pure x:=by intro _;rfl):PS X (.For tg iter body [] pos) (tFor wi g tb):=by
 intro pins s σ H D I h;refine wpAny_For (thn (hi pins s σ H _ I h) λv s1 h1=>thn h1 λitv s2 h2=>?_) hs;obtain⟨it,fp,tn,J,H2,e,I2,T,st2,f2,W,⟨m0,w0⟩,turn⟩:=h2;subst e;have stat:∀{H':Hp},(∀b∈fp,H' b=zp)->∀b∈fp,ZV X pins H' b:=λhn b hb=>⟨hn b hb,(f2 b hb).2⟩;refine codeAny_forLoop_any (λn s'=>∃i σ' H',Inv X pins σ' H' s'/\tn i s'.heap/\(∀b∈fp,H' b=zp)/\W i n σ' H') ?_ m0 ⟨0,σ,H2,I2,st2,λb hb=>(f2 b hb).1,w0⟩;rintro n s3 ⟨i,σ3,H3,I3,st3,fr3,w3⟩;rcases turn i n σ3 H3 w3 with ⟨stop,qn⟩|⟨go,N,hN,step⟩
 .refine Jr hp (thn (T.done X zo zo zo hc i pins s3 σ3 H3 X.xe I3 (stat fr3) st3 stop) λr s4 ⟨hr,I4⟩=>?_)
  subst hr;exact wpAny_execs_nil ⟨σ3,H3,I4,qn⟩
 .refine Jr hp (thn (T.item X zo zo zo hc i pins s3 σ3 H3 X.xe I3 (stat fr3) st3 go) λr s4 ⟨u,hr,h4⟩=>?_)
  subst hr;refine Jr hp (thn h4 λ_ s5 ⟨x,H5,I5,r5,y5,ag,fr5⟩=>?_);have I5':=I5.pinned (stat fr5) (T.obj _ _ ag);refine Jr hp (thn (hg _ s5 σ3 H5 x u _ I5' r5 (step x H5 y5)) λ_ s6 ⟨σ6,H6,I6,q6⟩=>?_);refine Jr hp (thn (hb _ s6 σ6 H6 _ I6 q6) λf s7 q7=>?_);have again:∀{σ7:St}{H7:Hp},Inv X _ σ7 H7 s7->N σ7 H7->∃m,m<n/\∃i σ' H',Inv X pins σ' H' s7/\tn i s7.heap/\(∀b∈fp,H' b=zp)/\W i m σ' H':=λ{σ7 H7} I7 n7=>by obtain⟨m',hm,w7⟩:=hN σ7 H7 n7;refine⟨m',hm,i+1,σ7,H7,I7.unpinned,T.keep _ _ _ ag λb hb o e=>(I7.pin (b,o) (QD _ (QD _ (O4 hb e)))).1,λb hb=>?_,w7⟩;obtain⟨o,e,d⟩:=T.obj _ _ ag b hb;exact(I7.pin (b,o) (QD _ (QD _ (O4 hb e)))).2.1
  cases f with
  |next=>obtain⟨σ7,H7,I7,n7⟩:=q7;exact again I7 n7
  |cont=>obtain⟨σ7,H7,I7,n7⟩:=q7;exact again I7 n7
  |brk=>obtain⟨σ7,H7,I7,q7⟩:=q7;exact⟨σ7,H7,I7.unpinned,q7⟩
  |ret v=>obtain⟨x7,σ7,H7,I7,r7,q7⟩:=q7;exact⟨x7,σ7,H7,I7.unpinned,r7,q7⟩
end
abbrev R2:=V->V->Hp->VK->Prop
def OpR(X:Cx)(f:Uv->Uv->Sem Uv)(r:R2):Prop:=
 ∀(pins:List (Uy×Obj))(s:Uw)(σ:St)(H:Hp)(x y:V)(v u:Uv)(Q:VK),Inv X pins σ H s->RelV x v->RelV y u->r x y H Q ->
  UC (model X.prog X.w) X.A (f v u) (EP X pins σ Q) X.xe s
def UnR(X:Cx)(f:Uv->Sem Uv)(r:V->Hp->VK->Prop):Prop:=
 ∀(pins:List (Uy×Obj))(s:Uw)(σ:St)(H:Hp)(x:V)(v:Uv)(Q:VK),Inv X pins σ H s->RelV x v->r x H Q ->
  UC (model X.prog X.w) X.A (f v) (EP X pins σ Q) X.xe s
def Xe(X:Cx)(f:Uv)(r:List V->Hp->VK->Prop):Prop:=
 ∀(pins:List (Uy×Obj))(s:Uw)(σ:St)(H:Hp)(xs:List V)(us:zA)(Q:VK),Inv X pins σ H s->Vals xs us->r xs H Q ->
  UC (model X.prog X.w) X.A (call f us) (EP X pins σ Q) X.xe s
def TruR(X:Cx)(r:V->Hp->(Bool->Hp->Prop)->Prop):Prop:=
 ∀(pins:List (Uy×Obj))(s:Uw)(σ:St)(H:Hp)(x:V)(v:Uv)(Q:Bool->Hp->Prop),Inv X pins σ H s->RelV x v->r x H Q ->
  UC (model X.prog X.w) X.A (truthy v) (TP X pins σ Q) X.xe s
noncomputable def tOp(r:R2)(ta tb:TE):TE:=λσ H Q=>ta σ H λx H1=>tb σ H1 λy H2=>r x y H2 Q
noncomputable def tUn(r:V->Hp->VK->Prop)(ta:TE):TE:=λσ H Q=>ta σ H λx H1=>r x H1 Q
noncomputable def rI(C:Int->Int->Prop)(g:Int->Int->V):R2:=λx y H Q=>∃i j,x=.int i/\y=.int j/\C i j/\Q (g i j) H
noncomputable def rI0(g:Int->Int->V):R2:=λx y H Q=>∃i j,x=.int i/\y=.int j/\Q (g i j) H
noncomputable def rU(g:Int->V):V->Hp->VK->Prop:=λx H Q=>∃i,x=.int i/\Q (g i) H
section
variable{X:Cx}{a b c:UA}{ta tb tc:TE}{pos:Pos}
theorem SJ(ha:PE X a ta)(hb:PE X b tb){pins}{s}{σ:St}{H}{R:V->V->Hp->Prop}(I:Inv X pins σ H s)
  (h:ta σ H λx H1=>tb σ H1 λy H2=>R x y H2) {Q} {f:Uv->Uv->Sem Uv}
  (hf:∀v u s2 x y H2,Inv X pins σ H2 s2->RelV x v->RelV y u->R x y H2->UC (model X.prog X.w) X.A (f v u) Q X.xe s2) :
  UC (model X.prog X.w) X.A (eval a X.env) (λv s₁=>UC (model X.prog X.w) X.A (eval b X.env) (λu s₂=>UC (model X.prog X.w) X.A (f v u) Q X.xe s₂) X.xe s₁) X.xe s:=by
 refine thn (ha pins s σ H _ I h) λv s1 ⟨x,H1,I1,r1,q1⟩=>?_;refine thn (hb pins s1 σ H1 _ I1 q1) λu s2 ⟨y,H2,I2,r2,q2⟩=>?_;exact hf v u s2 x y H2 I2 r1 r2 q2
theorem Lx   (ho:OpR X (binaryOp op) r)(ha:PE X a ta)(hb:PE X b tb):PE X (.BinOp a op b pos) (tOp r ta tb):=by intro pins s σ H Q I h;exact wpAny_BinOp (SJ ha hb I h λv u s2 x y H2 I2 rx ry q=>ho pins s2 σ H2 x y v u Q I2 rx ry q)
theorem CA   (ho:UnR X (unaryOp op) r)(ha:PE X a ta):PE X (.UnaryOp op a pos) (tUn r ta):=by intro pins s σ H Q I h;exact UnaryOp_ (thn (ha pins s σ H _ I h) λv s1 ⟨x,H1,I1,r1,q1⟩=>ho pins s1 σ H1 x v Q I1 r1 q1)
theorem opI  {C}{g:Int->Int->Int}
  (rule:∀(i j)(t u)(s)(Q)(E),C i j->Q (.int (g i j) s.toks) {s with toks:=s.toks+1}->UC (model X.prog X.w) X.A (f (.int i t) (.int j u)) Q E s) :
  OpR X f (rI C λi j=>.int (g i j)):=by
 intro pins s σ H x y v u Q I rx ry h;obtain⟨i,j,rfl,rfl,hc,q⟩:=h;obtain⟨t,rfl⟩:=rx;obtain⟨t',rfl⟩:=ry;exact rule i j t t' s _ _ hc ⟨.int _,H,I.tok _,⟨_,rfl⟩,q⟩
theorem opI0  {g:Int->Int->Int}
  (rule:∀(i j)(t u)(s)(Q)(E),Q (.int (g i j) s.toks) {s with toks:=s.toks+1}->UC (model X.prog X.w) X.A (f (.int i t) (.int j u)) Q E s) :
  OpR X f (rI0 λi j=>.int (g i j)):=by
 intro pins s σ H x y v u Q I rx ry h;obtain⟨i,j,rfl,rfl,q⟩:=h;obtain⟨t,rfl⟩:=rx;obtain⟨t',rfl⟩:=ry;exact rule i j t t' s _ _ ⟨.int _,H,I.tok _,⟨_,rfl⟩,q⟩
theorem Vg  {g:Int->Int->Bool}
  (rule:∀(i j)(t u)(s)(Q)(E),Q (.bool (g i j)) s->UC (model X.prog X.w) X.A (f (.int i t) (.int j u)) Q E s) :
  OpR X f (rI0 λi j=>.bl (g i j)):=by
 intro pins s σ H x y v u Q I rx ry h;obtain⟨i,j,rfl,rfl,q⟩:=h;obtain⟨t,rfl⟩:=rx;obtain⟨t',rfl⟩:=ry;exact rule i j t t' s _ _ ⟨.bl _,H,I,rfl,q⟩
def CPow(i j:Int):Prop:=0<=j/\j<=1000000/\i.natAbs<2 ^ 64
def CMul(i j:Int):Prop:=(-(2 ^ 64)<i/\i<2 ^ 64)∨(-(2 ^ 64)<j/\j<2 ^ 64)
theorem CMul.ok  (h:CMul i j):IntMulOk i j:=by
 rcases h with ⟨h1,h2⟩|⟨h1,h2⟩
 .exact .of_left (intBits_le_64 h1 h2)
 .exact .of_right (intBits_le_64 h1 h2)
theorem Bs:OpR X (binaryOp .Add) (rI0 λi j=>.int (i+j)):=opI0 λ_ _ _ _ _ _ _ q=>add_int q
theorem Br:OpR X (binaryOp .Sub) (rI0 λi j=>.int (i-j)):=opI0 λ_ _ _ _ _ _ _ q=>sub_int q
theorem Bq:OpR X (binaryOp .Mult) (rI CMul λi j=>.int (i*j)):=opI λ_ _ _ _ _ _ _ hc q=>mul_int q hc.ok
theorem Bp:OpR X (binaryOp .Mod) (rI (λ_ j=>0<j) λi j=>.int (i % j)):=opI λi j _ _ _ _ _ hc q=>by exact mod_int' (by omega) (by rw[Int.fmod_eq_emod_of_nonneg i (by omega)];exact q)
theorem Bo:OpR X (binaryOp .Pow) (rI CPow λi j=>.int (i ^ j.toNat)):=opI λ_ _ _ _ _ _ _ hc q=>pow_int_small hc.1 hc.2.1 hc.2.2 q
theorem jc:OpR X (inplaceOp .Mult) (rI CMul λi j=>.int (i*j)):=opI λ_ _ _ _ _ _ _ hc q=>imul_int q hc.ok
theorem unI  {g:Int->Int}
  (rule:∀(i)(t)(s)(Q)(E),Q (.int (g i) s.toks) {s with toks:=s.toks+1}->UC (model X.prog X.w) X.A (f (.int i t)) Q E s) :
  UnR X f (rU λi=>.int (g i)):=by
 intro pins s σ H x v Q I rx h;obtain⟨i,rfl,q⟩:=h;obtain⟨t,rfl⟩:=rx;exact rule i t s _ _ ⟨.int _,H,I.tok _,⟨_,rfl⟩,q⟩
theorem Bm:UnR X (unaryOp .USub) (rU λi=>.int (-i)):=unI λ_ _ _ _ _ q=>neg_int q
end
section
variable{X:Cx}{a b c:UA}{ta tb tc:TE}{pos:Pos}
theorem LZ  {σ:St}{H}{s}{Q}{k k'}(I:Inv X pins σ H s)(q:Q (.bl k) H)(e:k=k'):EP X pins σ Q (.bool k') s:=by subst e;exact⟨.bl k,H,I,rfl,q⟩
theorem Cz:OpR X (UE .Lt) (rI0 λi j=>.bl (decide (i<j))):=Vg λ_ _ _ _ _ _ _ q=>lt_int q
theorem Cy:OpR X (UE .LtE) (rI0 λi j=>.bl (decide (i<=j))):=Vg λ_ _ _ _ _ _ _ q=>le_int q
theorem Cw:OpR X (UE .Gt) (rI0 λi j=>.bl (decide (j<i))):=Vg λ_ _ _ _ _ _ _ q=>gt_int q
theorem Bb:OpR X (UE .GtE) (rI0 λi j=>.bl (decide (j<=i))):=Vg λ_ _ _ _ _ _ _ q=>ge_int q
theorem wA:OpR X (UE .In) (λx y H Q=>∃i j,x=.str i/\y=.str j/\Q (.bl (!(Builtin.Str.occurrences j i 0 j.length 1).isEmpty)) H):=by intro pins s σ H x y v u Q I rx ry h;obtain⟨i,j,rfl,rfl,q⟩:=h;obtain⟨t,rfl⟩:=rx;obtain⟨t',rfl⟩:=ry;exact in_str (LZ I q zo)
theorem yN:OpR X (UE .NotIn) (λx y H Q=>∃i j,x=.str i/\y=.str j/\Q (.bl (!(!(Builtin.Str.occurrences j i 0 j.length 1).isEmpty))) H):=by intro pins s σ H x y v u Q I rx ry h;obtain⟨i,j,rfl,rfl,q⟩:=h;obtain⟨t,rfl⟩:=rx;obtain⟨t',rfl⟩:=ry;exact notIn_str (LZ I q zo)
theorem OpR.or   (h:OpR X f r)(h':OpR X f r'):OpR X f (λx y H Q=>r x y H Q∨r' x y H Q):=by
 intro pins s σ H x y v u Q I rx ry q;rcases q with q|q
 .exact h pins s σ H x y v u Q I rx ry q
 .exact h' pins s σ H x y v u Q I rx ry q
theorem NA(b){op}(h:op≠.In:=by decide)(h2:op≠.NotIn:=by decide):behindInMarks op b=zr:=by
 have e1:(op==CmpOp.In)=zr:=by lia
 have e2:(op==CmpOp.NotIn)=zr:=by lia
 cases b<;>simp[behindInMarks,e1,e2]
theorem GD   (ho:OpR X (UE op) r)(ha:PE X a ta)(hb:PE X b tb)(hm:behindInMarks op b=zr):PE X (.Compare a [op] [b] pos) (tOp r ta tb):=by intro pins s σ H Q I h;exact wpAny_Compare1 (SJ ha hb I h λv u s2 x y H2 I2 rx ry q=>ho pins s2 σ H2 x y v u Q I2 rx ry q) hm
noncomputable def Lw(t:TE):TT:=λσ H Q=>t σ H λx H'=>∃k,x=.bl k/\Q k H'
theorem N0   (ho:OpR X (UE op) r)(ha:PE X a ta)(hb:PE X b tb)(hm:behindInMarks op b=zr):PT X (.Compare a [op] [b] pos) (Lw (tOp r ta tb)):=by
 intro pins s σ H Q I h
 refine wpAny_isTrue_Compare1 (thn (ha pins s σ H _ I h) λv s1 ⟨x,H1,I1,r1,q1⟩=>thn (hb pins s1 σ H1 _ I1 q1) λu s2 ⟨y,H2,I2,r2,q2⟩=>
  thn (ho pins s2 σ H2 x y v u _ I2 r1 r2 q2) λc s3 ⟨z,H3,I3,r3,k,e,q3⟩=>?_) hm
 subst e;cases r3;exact Q6 ⟨H3,I3,q3⟩
noncomputable def LY(r r':R2)(ta tb tc:TE):TE:=λσ H Q=>ta σ H λx H1=>tb σ H1 λy H2=>r x y H2 λz H3=>∃k,z=.bl k /\
 (if k=zq then tc σ H3 λw' H4=>r' y w' H4 Q else Q (.bl zr) H3)
theorem kW  {r r'}(ho:OpR X (UE op) r)(ho':OpR X (UE op') r')(ha:PE X a ta)(hb:PE X b tb)(hc:PE X c tc)
  (hm:lastMarks [op,op'] [b,c]=zr:=by with_unfolding_all rfl):PE X (.Compare a [op,op'] [b,c] pos) (LY r r' ta tb tc):=by
 intro pins s σ H Q I h
 refine Compare_chain (thn (ha pins s σ H _ I h) λv s1 ⟨x,H1,I1,r1,q1⟩=>chain_link (thn (hb pins s1 σ H1 _ I1 q1) λu s2 ⟨y,H2,I2,r2,q2⟩=>
  thn (ho pins s2 σ H2 x y v u _ I2 r1 r2 q2) λd s3 ⟨z,H3,I3,r3,k,e,q3⟩=>?_)) hm
 subst e;cases r3;refine Q6 ?_;cases k with
 |false=>exact ite_ff ⟨.bl zr,H3,I3,rfl,q3⟩
 |true=>exact ite_tt (chain_last (thn (hc pins s3 σ H3 _ I3 q3) λw' s4 ⟨z',H4,I4,r4,q4⟩=>ho' pins s4 σ H4 y z' u w' Q I4 r2 r4 q4))
theorem kU  {r r'}(ho:OpR X (UE op) r)(ho':OpR X (UE op') r')(ha:PE X a ta)(hb:PE X b tb)(hc:PE X c tc)
  (hm:lastMarks [op,op'] [b,c]=zr:=by with_unfolding_all rfl):PT X (.Compare a [op,op'] [b,c] pos) (Lw (LY r r' ta tb tc)):=by
 intro pins s σ H Q I h
 refine isTrue_chain (thn (ha pins s σ H _ I h) λv s1 ⟨x,H1,I1,r1,q1⟩=>test_link (thn (hb pins s1 σ H1 _ I1 q1) λu s2 ⟨y,H2,I2,r2,q2⟩=>
  thn (ho pins s2 σ H2 x y v u _ I2 r1 r2 q2) λd s3 ⟨z,H3,I3,r3,k,e,q3⟩=>?_)) hm
 subst e;cases r3;refine Q6 ?_;cases k with
 |false=>obtain⟨k',e',q'⟩:=q3;cases e';exact ite_ff ⟨H3,I3,q'⟩
 |true=>refine ite_tt (test_last (thn (hc pins s3 σ H3 _ I3 q3) λw' s4 ⟨z',H4,I4,r4,q4⟩=>thn (ho' pins s4 σ H4 y z' u w' _ I4 r2 r4 q4) λd' s5 ⟨z2,H5,I5,r5,k2,e2,q5⟩=>?_));subst e2;cases r5;exact Q6 ⟨H5,I5,q5⟩
def TruV(K:Frag)(x:V)(H:Hp)(k:Bool):Prop:=
 match x with
 |.non=>k=zr
 |.bl b=>k=b
 |.int i=>k=(i != 0)
 |.str y=>y.length<=UB/\k=((y.length:Int) != 0)
 |.byt y=>y.size<=UB/\k=((y.size:Int) != 0)
 |.ref p=>(∃xs,SqL K H p xs/\k = !xs.isEmpty)∨(∃xs,SqT K H p xs/\k = !xs.isEmpty) ∨ ∃kvs,H p=O (.dK kvs)/\k = !kvs.isEmpty
 |_=>False
theorem wU  {kvs:List (κ×V)}{vs}(r:KV kvs vs):(!vs.isEmpty) = !kvs.isEmpty:=by cases r<;>rfl
theorem EZ   (r:Vals xs its):(!its.toArray.isEmpty) = !xs.isEmpty:=by cases r<;>simp
theorem Oa:(UB:Nat)<2 ^ 63:=by rw[sizeLine_eq];decide
theorem Bl:TruR X (λx H Q=>∃k,TruV X.K x H k/\Q k H):=by
 intro pins s σ H x v Q I rx h;obtain⟨k,e,q⟩:=h;have hl:=Oa;have hs:UB=16777216:=sizeLine_eq;cases x with
 |non=>cases rx;have e':k=zr:=e;subst e';exact truthy_none ⟨H,I,q⟩
 |bl b=>cases rx;have e':k=b:=e;subst e';exact Q6 ⟨H,I,q⟩
 |int i=>obtain⟨t,rfl⟩:=rx;have e':k=(i != 0):=e;subst e';exact PySem.P.truthy_int ⟨H,I,q⟩
 |str y=>obtain⟨t,rfl⟩:=rx;obtain⟨hy,e'⟩:y.length<=UB/\k=((y.length:Int) != 0):=e;subst e';exact PySem.P.truthy_str (by omega) ⟨H,I.tok _,q⟩
 |byt y=>obtain⟨t,rfl⟩:=rx;obtain⟨hy,e'⟩:y.size<=UB/\k=((y.size:Int) != 0):=e;subst e';exact PySem.W.truthy_bytes (by omega) ⟨H,I.tok _,q⟩
 |ref p=>
  cases rx;have e'   :=e;rcases e' with ⟨xs,hx,e'⟩|⟨xs,hx,e'⟩|⟨kvs,hx,e'⟩
  .subst e'
   obtain⟨its,r,pl,hz⟩:=I.list hx;have hlen:=r.length;exact wpAny_truthy_list pl.isList (by simp only[Jk];omega) ⟨H,I.tok _,by rw[EZ r];exact q⟩
  .subst e'
   obtain⟨its,r,pl,hz⟩:=I.tuple hx;have hlen:=r.length;exact truthy_tuple pl (by simp only[Jk];omega) ⟨H,I.tok _,by rw[EZ r];exact q⟩
  .subst e'
   obtain⟨hz,hS,vs,r,m⟩:kvs.length<=UB/\(p==sysModules)=zr/\∃vs,KV kvs vs/\s.heap.DictOf (Y8 X.prog X.w) p vs:=I.hok p _ hx;have hlen:kvs.length=vs.length:=Paired.length r;exact wpAny_truthy_dict hS m (by omega) ⟨H,I.tok _,by rw[wU r];exact q⟩
 |_=>exact(show False from e).elim
theorem kT(ha:PE X a ta)(he:∀whole,isTrue a X.env whole=(do let v ←whole;standAt a.pos;holding [v] (truthy v))) :
  PT X a (λσ H Q=>ta σ H λx H'=>∃k,TruV X.K x H' k/\Q k H'):=by
 intro pins s σ H Q I h;exact isTrue_plain (thn (ha pins s σ H _ I h) λv s1 ⟨x,H1,I1,r1,q1⟩=>Bl pins s1 σ H1 x v Q I1 r1 q1) (he _)
theorem wT:OpR X (binaryOp .Add) (λx y H Q=>∃i j,x=.str i/\y=.str j/\i.length+j.length<=UB/\Q (.str (i++j)) H):=by intro pins s σ H x y v u Q I rx ry h;obtain⟨i,j,rfl,rfl,hz,q⟩:=h;obtain⟨t,rfl⟩:=rx;obtain⟨t',rfl⟩:=ry;exact add_str (λt' tk=>⟨.str _,H,I.tok _,⟨_,rfl⟩,q⟩) hz
theorem Lv   (r:Vals [x] us):∃u,us=[u]/\RelV x u:=by
 cases r with
 |cons r1 r2=>cases r2;exact⟨_,rfl,r1⟩
theorem Lu   (r:Vals [x,y] us):∃u w',us=[u,w']/\RelV x u/\RelV y w':=by
 cases r with
 |cons r1 r2=>
  cases r2 with
  |cons r3 r4=>cases r4;exact⟨_,_,rfl,r1,r3⟩
theorem wy(hc:X.calm=zq):Xe X (.builtin "max") (λxs H Q=>∃i j,xs=[.int i,.int j]/\Q (.int (if j > i then j else i)) H):=by
 intro pins s σ H xs us Q I r h;obtain⟨i,j,rfl,q⟩:=h;obtain⟨u,w',rfl,⟨t,rfl⟩,⟨t',rfl⟩⟩:=Lu r;refine max_two_ints (I.ok.hd hc) λh' tk k=>⟨_,H,I.kept k,?_,q⟩
 by_cases hj:j > i
 .rw[Qr hj,Qr hj];exact⟨_,rfl⟩
 .rw[QA hj,QA hj];exact⟨_,rfl⟩
def LenV(K:Frag)(x:V)(H:Hp)(n:Nat):Prop:=
 match x with
 |.str y=>y.length<=UB/\n=y.length
 |.byt y=>y.size<=UB/\n=y.size
 |.ref p=>(∃xs,SqL K H p xs/\n=xs.length) ∨ ∃xs,SqT K H p xs/\n=xs.length
 |_=>False
theorem FA:Xe X (.builtin "len") (λxs H Q=>∃x n,xs=[x]/\LenV X.K x H n/\Q (.int n) H):=by
 intro pins s σ H xs us Q I r h;obtain⟨x,n,rfl,e,q⟩:=h;obtain⟨u,rfl,rx⟩:=Lv r;have hs   :=sizeLine_eq;cases x with
 |str y=>obtain⟨t,rfl⟩:=rx;obtain⟨hy,e'⟩:y.length<=UB/\n=y.length:=e;subst e';exact len_str (by omega) ⟨.int _,H,I.tok _,⟨_,rfl⟩,q⟩
 |byt y=>obtain⟨t,rfl⟩:=rx;obtain⟨hy,e'⟩:y.size<=UB/\n=y.size:=e;subst e';exact PySem.W.len_bytes (by omega) ⟨.int _,H,I.tok _,⟨_,rfl⟩,q⟩
 |ref p=>
  cases rx;have e'   :=e;rcases e' with ⟨xs,hx,e'⟩|⟨xs,hx,e'⟩
  .subst e'
   obtain⟨its,r',pl,hz⟩:=I.list hx;have hlen:=r'.length;exact Calls.call_len_list pl.isList (by simp only[Jk];omega) ⟨.int xs.length,H,I.tok _,⟨_,by simp only[Jk];rw[hlen]⟩,q⟩
  .subst e'
   obtain⟨its,r',pl,hz⟩:=I.tuple hx;have hlen:=r'.length;exact len_tuple pl (by simp only[Jk];omega) ⟨.int xs.length,H,I.tok _,⟨_,by simp only[Jk];rw[hlen]⟩,q⟩
 |_=>exact(e).elim
end
theorem RelO.some_of   (r:RelO (O v) o):∃u,o=O u/\RelV v u:=by
 cases o with
 |none=>exact(r).elim
 |some u=>exact⟨u,rfl,r⟩
structure Room(k:Nat)(A:Around):Prop where
 hd:A.handled=zp
 dp:A.depth+3*k+5<recursionLimit
 un:A.units+16*k+200<cLine
 gd:A.guards=O []
theorem Room.mono{j k}{A}(r:Room k A)(h:j<=k):Room j A:=⟨r.hd,by have:=r.dp;omega,by have:=r.un;omega,r.gd⟩
theorem Room.deeper   (r:Room (k+1) A)(env):Room k (A.deeper env):=
 ⟨r.hd,by have:=r.dp;show A.depth+1+3*k+5<_;omega,by have:=r.un;show A.units+3+16*k+200<_;omega,r.gd⟩
theorem Room.depth{k:Nat}{A:Around}(r:Room k A):A.depth<recursionLimit:=by have:=r.dp;omega
theorem Room.units{k:Nat}{A:Around}(r:Room k A):A.units+64<cLine:=by have:=r.un;omega
noncomputable def tNil:TA:=λ_ H Q=>Q [] H
noncomputable def Ba(ta:TE)(tr:TA):TA:=λσ H Q=>ta σ H λx H1=>tr σ H1 λxs H2=>Q (x::xs) H2
section
variable{X:Cx}{e:UA}{es:zy}{te:TE}{t:TA}{pos:Pos}
theorem Ts:PA X [] tNil:=λ_ _ _ _ H Q I h=>Calls.spliced_nil ⟨[],H,I,.nil,h⟩
theorem W7(ha:PE X e te)(hr:PA X es t)(hs:UD (e::es) X.env=(zr,eval e X.env)::UD es X.env:=by rfl):PA X (e::es) (Ba te t):=by intro pos pins s σ H Q I h;rw[hs];refine Calls.spliced_cons (thn (ha pins s σ H _ I h) λu s1 ⟨x,H1,I1,r1,q1⟩=>?_);exact thn (hr pos pins s1 σ H1 _ I1 q1) λus s2 ⟨xs,H2,I2,r2,q2⟩=>⟨x::xs,H2,I2,.cons r1 r2,q2⟩
noncomputable def tTup(t:TA):TE:=λσ H Q=>t σ H λxs H1=>xs.length<=UB/\∀p,H1 p=zp->Q (.ref p) (upd H1 p (.tup xs))
noncomputable def tLst(t:TA):TE:=λσ H Q=>t σ H λxs H1=>xs.length<=UB/\∀p,H1 p=zp->Q (.ref p) (upd H1 p (.lst xs))
theorem Bk  (h:PA X es t):PE X (.Tuple es x1 pos) (tTup t):=by intro pins s σ H Q I hq;refine wpAny_Tuple_spliced (thn (h pos pins s σ H _ I hq) λus s1 ⟨xs,H1,I1,r,z,q⟩=>⟨by rw[←r.length];exact z,?_⟩);have hf   :=I1.hok.fresh (Qx _);refine⟨.ref s1.heap.objs.size,upd H1 s1.heap.objs.size _,I1.laid  (λb u e=>Qm _ e) (Qx _) ?_,rfl,q _ hf⟩;exact⟨z,us,r,⟨_,QE _ zo,rfl,_,rfl⟩⟩
theorem LX(h:PA X es t):PE X (.List es pos) (tLst t):=by intro pins s σ H Q I hq;refine wpAny_List_spliced (thn (h pos pins s σ H _ I hq) λus s1 ⟨xs,H1,I1,r,z,q⟩=>⟨by rw[←r.length];exact z,?_⟩);have hf   :=I1.hok.fresh (Qx _);refine⟨.ref s1.heap.objs.size,upd H1 s1.heap.objs.size _,I1.laid  (λb u e=>Qm _ e) (Qx _) ?_,rfl,q _ hf⟩;exact⟨z,us,0,r,QE _ zo⟩
end
abbrev Sp:=List V->Hp->VK->XK->Prop
abbrev CXT:=List Env->Hp->Uw->XK->Uv->Uw->Prop
structure Env0(P:Ux)(w:World)(K:Frag)(mg:Str->zB)(base:Heap)(A:Around)(outer:List Env)(s:Uw)(H:Hp):Prop where
 frames:A.frames=O outer
 mod:Mod K mg base
 bs:∀b o,base.get? b=O o->s.heap.get? b=O o/\H b=zp
 bsz:base.objs.size<=s.heap.objs.size
 funs:s.heap.FunFrames base outer
 frf:∀b∈frs outer,H b=zp
 hok:HOk P w H s.heap
 bare:AllBare s.gens
def CE(outer:List Env)(P:Ux)(w:World)(H:Hp)(s:Uw)(Q:VK)(u:Uv)(s':Uw):Prop:=
 ∃v H',s'.os=s.os/\AllBare s'.gens/\Un (frs outer) [] H H' s.heap s'.heap/\HOk P w H' s'.heap/\RelV v u/\Q v H'
def CR(CX:CXT)(outer:List Env)(P:Ux)(w:World)(H:Hp)(s:Uw)(Q:VK)(E:XK)(r:Result)(s':Uw):Prop:=
 match r with
 |.ok (.ret u)=>CE outer P w H s Q u s'
 |.ok _=>False
 |.error e=>CX outer H s E e s'
structure FnOk(P:Ux)(w:World)(K:Frag)(mg:Str->zB)(base:Heap)(CX:CXT)(k:Nat)(f:Uy)(fd:Uz)(ps:List Str)(sp:Sp):Prop where
 len:∀vs H Q E,sp vs H Q E->vs.length=ps.length
 run:∀(A:Around)(outer:List Env)(s:Uw)(H:Hp)(args:Args)(us:zA)(vs:List V)(Q:VK)(E:XK),Room k A->Env0 P w K mg base A outer s H->BindsTo s fd args (ps.zip us)->Vals vs us->sp vs H Q E ->
  codeAny (model P w) A (.call (.ref f) args) (CR CX outer P w H s Q E) s
section
variable{X:Cx}{pins:List (Uy×Obj)}{σ:St}{H:Hp}{s s':Uw}
theorem Inv.env0(I:Inv X pins σ H s):Env0 X.prog X.w X.K X.mg X.base X.A X.stack s H:=
 ⟨I.ok.frames,I.ok.mod,I.bs,QM I.ok.bsz I.sz,I.stack,I.stkFree,I.hok,I.bare⟩
theorem Inv.after   (I:Inv X pins σ H s)(h:CE X.stack X.prog X.w H s Q u s'):EP X pins σ Q u s':=by obtain⟨v,H',os,bare,un,hok,r,q⟩:=h;obtain⟨hh,g,d,t,os'⟩:=s';obtain rfl:os'=s.os:=os;exact⟨v,H',I.call      un hok bare (λb z=>absurd z (by simp)),r,q⟩
end
noncomputable def C9(sp:Sp)(dvs:List V)(E:XK)(t:TA):TE:=λσ H Q=>t σ H λvs H1=>sp (vs++dvs) H1 Q E
def WT(K:Frag)(fd:Uz)(ps:List Str)(ds:zA):Prop:=
 ∀(s:Uw)(us:zA),K.In s.heap->(us++ds).length=ps.length->BindsTo s fd ⟨us,[]⟩ (ps.zip (us++ds))
theorem WT.all{K}{fd}{ps}(h:∀us:zA,us.length=ps.length->bindArgs fd ⟨us,[]⟩=pure (ps.zip us)):WT K fd ps []:=λs us _ hl=>by rw[Jm]at hl⊢;exact .of_eq (h us hl)
def Nz(CX:CXT)(X:Cx)(E:XK):Prop:=∀(pins:List (Uy×Obj))(σ:St)(H:Hp)(s:Uw)(e:Uv)(s':Uw),Inv X pins σ H s->CX X.stack H s E e s'->X.xe e s'
section
variable{X:Cx}{CX:CXT}{k:Nat}{f C:Uy}{fd:Uz}{ps:List Str}{sp:Sp}{dvs:List V}{ds:zA}{E:XK}{x m:Str}{p pos apos:Pos}{e o:UA}{es:zy}{ta:TE}{t:TA}
theorem Bj  {σ:St}{H:Hp}{s:Uw}{Q:VK}{us}{vs}(F:FnOk X.prog X.w X.K X.mg X.base CX k f fd ps sp)(hr:Room k X.A)(hb:WT X.K fd ps ds)(hd:Vals dvs ds)(hx:Nz CX X E)
  (I:Inv X pins σ H s) (r:Vals vs us) (h:sp (vs++dvs) H Q E):UC (model X.prog X.w) X.A (call (.ref f) us) (EP X pins σ Q) X.xe s:=by
 have r2   :=r.append hd;have hl:(us++ds).length=ps.length:=by rw[←r2.length];exact F.len _ _ _ _ h
 refine wpAny_call (codeAny_mono (F.run X.A X.stack s H ⟨us,[]⟩ _ _ Q E hr I.env0 (hb s us I.kIn hl) r2 h) λr s' hq=>?_);cases r with
 |error e=>exact hx pins σ H s e s' I hq
 |ok fl=>
  cases fl with
  |ret u=>exact I.after hq
  |next=>exact False.elim hq
  |brk=>exact False.elim hq
  |cont=>exact False.elim hq
theorem jb(F:FnOk X.prog X.w X.K X.mg X.base CX k f fd ps sp)(hr:Room k X.A)(hg:Gl X x)(hm:X.mg x=O (.ref f))(hk:PySem.W.keepIn X.K (.ref f)=zq)(hb:WT X.K fd ps ds)(hd:Vals dvs ds)(hx:Nz CX X E)
  (ha:PA X (e::es) t) (hdb:(x==("__debug__" : Str))=zr:=by decide) (he:UD (e::es) X.env=(zr,eval e X.env)::UD es X.env:=by rfl) (hpl:(backTo pos (UD es X.env)).any (·.1)=zr:=by rfl) :
  PE X (.Call (.Name x p) (e::es) [] pos) (C9 sp dvs E t):=by
 intro pins s σ H Q I h;refine wpAny_Call_Name_kw (N5 I hg hm ?_ hdb);refine PySem.W.callWith_K  I.ok.mod.kin hk (thn (ha pos pins s σ H _ I h) λus s1 ⟨vs,H1,I1,r,q⟩=>⟨I1.kIn,?_⟩) he hpl;exact Bj F hr hb hd hx I1 r q
end
structure Pg(N P:List Str)(sc:Scope):Prop where
 kind:sc.kind=.function
 co:sc.isCoroutine=zr
 gen:sc.isGenerator=zr
 nd:N.Nodup
 pre:N.take P.length=P
 par:∀x∈P,sc.names.lookup x=O .local∨sc.names.lookup x=O .cell
 nofree:∀y∈sc.names,y.2≠.free
theorem Ef{kindOf}{x}:∀{binds}{m},(∀v,(x,v)∉binds)->bindL kindOf binds m x=m x
 |[],_,_=>rfl
 |(n,v)::r,m,h=>by
  unfold bindL;rw[Ef λw hw=>h w (Qj _ hw)];split
  .have:x≠n:=by rintro rfl;exact h v Ql
   simp[this]
  .rfl
theorem Ee{kindOf}{x}:∀{binds}{m},(∀v,(x,v)∉binds)->bindC kindOf binds m x=m x
 |[],_,_=>rfl
 |(n,v)::r,m,h=>by
  unfold bindC;rw[Ee λw hw=>h w (Qj _ hw)];split
  .rfl
  .have:x≠n:=by rintro rfl;exact h v Ql
   simp[this]
theorem Ed{kindOf}{x}{v}:∀{P:List Str}{vs}{i:Nat}{m},P.Nodup->P[i]?=O x->vs[i]?=O v->kindOf x=O .local ->
  bindL kindOf (P.zip vs) m x=O v
 |[],_,_,_,_,h,_,_=>by simp at h
 |_::_,[],_,_,_,_,h,_=>by simp at h
 |p::P,w::vs,0,m,nd,h1,h2,hk=>by simp at h1 h2;subst h1;subst h2;show bindL kindOf ((p,w)::P.zip vs) m p=_;unfold bindL;rw[Ef λv hv=>(Uq.mp nd).1 (List.of_mem_zip hv).1,Qr hk];simp
 |p::P,w::vs,i+1,m,nd,h1,h2,hk=>by unfold bindL;exact Ed  (List.nodup_cons.mp nd).2 (by simpa using h1) (by simpa using h2) hk
theorem Ec{kindOf}{x}{v}:∀{P:List Str}{vs}{i:Nat}{m},P.Nodup->P[i]?=O x->vs[i]?=O v->kindOf x≠O .local ->
  bindC kindOf (P.zip vs) m x=O v
 |[],_,_,_,_,h,_,_=>by simp at h
 |_::_,[],_,_,_,_,h,_=>by simp at h
 |p::P,w::vs,0,m,nd,h1,h2,hk=>by simp at h1 h2;subst h1;subst h2;show bindC kindOf ((p,w)::P.zip vs) m p=_;unfold bindC;rw[Ee λv hv=>(Uq.mp nd).1 (List.of_mem_zip hv).1,QA hk];simp
 |p::P,w::vs,i+1,m,nd,h1,h2,hk=>by unfold bindC;exact Ec  (List.nodup_cons.mp nd).2 (by simpa using h1) (by simpa using h2) hk
noncomputable def Wl(N:List Str)(vs:List V):St:=vs.map O++UG (N.length-vs.length) zp
noncomputable def Y2(CX:CXT)(P:Ux)(w:World)(K:Frag)(mg:Str->zB)(base:Heap)(N:List Str)(qual:Str)(scope:Scope)(f:Uy)(cd:Uv)(A:Around)(outer:List Env)(s:Uw)(H:Hp)(E:XK):Cx where
 prog:=P
 w:=w
 K:=K
 mg:=mg
 base:=base
 A:=A.deeper (envOfC qual scope s.heap.objs.size f cd)
 N:=N
 s₀:=s
 H₀:=H
 env:=envOfC qual scope s.heap.objs.size f cd
 outer:=outer
 stack:=envOfC qual scope s.heap.objs.size f cd::outer
 ex:=[]
 calm:=zq
 fn:=λ_=>zq
 pn:=[]
 xe:=λe s'=>UC (model P w) (A.deeper (envOfC qual scope s.heap.objs.size f cd)) (leaving (envOfC qual scope s.heap.objs.size f cd) e) (λ_ s''=>CX outer H s E e s'') (λe' s''=>CX outer H s E e' s'') s'
theorem Mf{sc:Scope}{n}{x}(h:sc.names.lookup x=O .cell):∃c,(cellsFrom n sc.names []).lookup x=O c:=by have q:=PySem.W.cellsFrom_some sc.names n [] (.inl h);exact Option.isSome_iff_exists.mp q
theorem wx{CX:CXT}{P:Ux}{w:World}{K:Frag}{mg:Str->zB}{base:Heap}{N ps:List Str}{qual:Str}{scope:Scope}{f:Uy}{cd:Uv}{A:Around}{outer:List Env}{s s1:Uw}{H:Hp}{E:XK}{us:zA}{vs:List V}
  (S:Pg N ps scope) (hd:A.handled=zp) (e0:Env0 P w K mg base A outer s H) (hl:vs.length=ps.length) (r:Vals vs us)
  (x:InCallC s s.heap.objs.size (bindL (envOfC qual scope s.heap.objs.size f cd).kindOf (ps.zip us) λ_=>zp) (cellsFrom (s.heap.objs.size+1) scope.names []) (bindC (envOfC qual scope s.heap.objs.size f cd).kindOf (ps.zip us) λ_=>zp) s1) :
  Inv (Y2 CX P w K mg base N qual scope f cd A outer s H E) [] (Wl N vs) H s1:=by
 have hpl:ps.length<=N.length:=by have:=Ug List.length S.pre;rw[Ja]at this;omega
 obtain⟨h1,tk,rfl,hk⟩:=x.done;have noA:∀b:Uy,b∉(Y2 CX P w K mg base N qual scope f cd A outer s H E).ex:=λb z=>absurd (show b∈([]:zE)from z) (by simp)
 refine⟨⟨e0.mod,S.kind,rfl,rfl,Qx _,λy z c h1 h2=>?_,λy hy=>?_,λy c _ h=>?_,λ_=>hd,Around.frames_deeper e0.frames,.inr ⟨rfl,rfl⟩,λb z=>absurd z (noA b),e0.bs,e0.bsz,λb _ _=>noA b,λb z=>absurd z (noA b),e0.funs,e0.frf⟩,
  rfl,e0.bare,Un.kept hk,⟨_,x.toInCall.ns,λi y v h1 h2 h3=>?_⟩,λy c h=>⟨_,x.cell y c h⟩,e0.hok.fresh (Nat.le_refl _),λy c h=>?_,λp hp=>absurd (show p∈([]:List (Uy×Obj))from hp) (by simp),e0.hok.kept hk,?_⟩
 .exact name_of_addr x.apart (Jh h1) (Jh h2)
 .rcases hy with hy|hy
  .exact Mf hy
  .exact absurd zo (S.nofree _ (Jh hy))
 .exact Nat.le_of_lt (x.above y c (Jh h))
 .have hi:i<vs.length:=by
   unfold Wl at h2;by_cases hi:i<vs.length
   .exact hi
   .rw[List.getElem?_append_right (by simpa using hi)]at h2
    rw[QC]at h2;split at h2<;>cases h2
  have ha:vs[i]?=O v:=by
   unfold Wl at h2;rw[List.getElem?_append_left (by simpa using hi),List.getElem?_map]at h2;cases e:vs[i]? with
   |none=>rw[e]at h2;cases h2
   |some a=>rw[e]at h2;cases h2;rfl
  obtain⟨u,hu,rv⟩:=r.get ha;have hp:ps[i]?=O y:=by rw[←S.pre,List.getElem?_take_of_lt (by omega)];exact h1
  have ndP:ps.Nodup:=by rw[←S.pre];exact S.nd.sublist (List.take_sublist _ _)
  refine⟨u,rv,?_⟩;rcases S.par y (Qy hp)with k|k
  .exact .inl ⟨k,Ed ndP hp hu k⟩
  .obtain⟨c,e⟩:=Mf  k
   refine .inr ⟨.inl k,c,e,?_⟩;have q:=x.cell y c e;rw[Ec ndP hp hu (by show scope.names.lookup y≠_;rw[k];decide)]at q;exact q
 .exact e0.hok.fresh (Nat.le_of_lt (x.above y c (Jh h)))
 .unfold Wl
  show _=N.length;rw[Qi,Qb,Q0];omega
theorem C8{CX:CXT}{P:Ux}{w:World}{K:Frag}{mg}{base:Heap}{k:Nat}{f:Uy}{name qual:Str}{params:Arguments}{body:List Stmt}{scope:Scope}{dV kV doc pm cdv ct oc:Uv}{an od:zJ}
  {osl} {N ps:List Str} {sp:Sp} (lk:K.lookup f=O ⟨oc,od,.func (PySem.W.fnOf name qual params body scope dV kV doc pm an cdv ct),osl⟩) (hcd:PySem.W.codeIn K cdv qual=zq) (S:Pg N ps scope)
  (len:∀vs H Q E,sp vs H Q E->vs.length=ps.length)
  (hbody:∀(A:Around)(outer:List Env)(s:Uw)(H:Hp)(vs:List V)(Q:VK)(E:XK),Room k (A.deeper (envOfC qual scope s.heap.objs.size f cdv))->sp vs H Q E ->
   ∃t,PSs (Y2 CX P w K mg base N qual scope f cdv A outer s H E) body t/\t {nx:=λ_ H'=>Q .non H',rt:=Q} (Wl N vs) H) :
  FnOk P w K mg base CX (k+1) f (PySem.W.fnOf name qual params body scope dV kV doc pm an cdv ct) ps sp:=by
 refine⟨len,λA outer s H args us vs Q E hr e0 hb r bu=>?_⟩;have hl:=len _ _ _ _ bu;have KX:K.In s.heap:=e0.mod.kin.keeps λb o e=>(e0.bs b o e).1;have lim:s.heap.NoLimit:=e0.mod.nolimit.keeps λb o e=>(e0.bs b o e).1
 have hkind:∀y∈ps.zip us,scope.names.lookup y.1=O .local∨(scope.names.lookup y.1=O .cell/\((cellsFrom (s.heap.objs.size+1) scope.names []).lookup y.1).isSome=zq):=λ⟨n,v⟩ hy=>by
  rcases S.par n (List.of_mem_zip hy).1 with q|q
  .exact .inl q
  .exact .inr ⟨q,PySem.W.cellsFrom_some _ _ _ (.inl q)⟩
 refine codeAny_call_function hr.depth (KX _ _ lk) zo S.co S.gen zo (PySem.W.codeRec_of KX hcd) (hb _ _ _ _ ?_);refine wpAny_newFunctionEnv_cells S.kind hkind λenv he s1 x=>?_;subst he
 refine⟨lim.keeps x.toInCall.keep,codeAny_func ?_⟩;obtain⟨t,ht,hq⟩:=hbody A outer s H vs Q E (hr.deeper _) bu;have I:Inv (Y2 CX P w K mg base N qual scope f cdv A outer s H E) [] (Wl N vs) H s1:=wx S hr.hd e0 hl r x;refine QG (ht [] s1 (Wl N vs) H _ I hq) (λfl s' hs=>?_) λe s' hs=>hs
 have fin:∀{σ':St}{H':Hp}{v:V}{u:Uv},Inv (Y2 CX P w K mg base N qual scope f cdv A outer s H E) [] σ' H' s'->RelV v u->Q v H'->CE outer P w H s Q u s':=
  λ{σ' H' v u} J rv q=>⟨v,H',J.os,J.bare,J.base,J.hok,rv,q⟩
 cases fl with
 |ret u=>obtain⟨v,σ',H',J,rv,q⟩:=hs;exact fin J rv q
 |next=>obtain⟨σ',H',J,q⟩:=hs;exact fin (v:=V.non)  J zo q
 |brk=>obtain⟨_,_,_,q⟩:=hs;exact False.elim q
 |cont=>obtain⟨_,_,_,q⟩:=hs;exact False.elim q
section
variable{X:Cx}{x:Str}{p pos:Pos}{e:UA}{es:zy}{t:TA}{id T:String}{r:List V->Hp->VK->Prop}
noncomputable def tCB(r:List V->Hp->VK->Prop)(t:TA):TE:=λσ H Q=>t σ H λvs H1=>r vs H1 Q
theorem OD(hc:Xe X (.builtin id) r)(hg:Gl X x)(hm:X.mg x=zp)(hv:bootBuiltins x=O (.builtin id))(ha:PA X (e::es) t)(hn:x ≠ "__name__" :=by decide)(hdb:(x==("__debug__" : Str))=zr:=by decide)
  (he:UD (e::es) X.env=(zr,eval e X.env)::UD es X.env:=by rfl) (hpl:(backTo pos (UD es X.env)).any (·.1)=zr:=by rfl):PE X (.Call (.Name x p) (e::es) [] pos) (tCB r t):=by
 intro pins s σ H Q I h;refine wpAny_Call_Name_kw (WV I hg hm hv ?_ hn hdb);exact PyProof.Rows.callWith_builtin1 (thn (ha pos pins s σ H _ I h) λus s1 ⟨vs,H1,I1,r1,q1⟩=>hc pins s1 σ H1 vs us Q I1 r1 q1) he hpl
theorem Eb(hc:Xe X (.type T) r)(hg:Gl X x)(hm:X.mg x=zp)(hv:bootBuiltins x=O (.type T))(ha:PA X (e::es) t)(hn:x ≠ "__name__" :=by decide)(hdb:(x==("__debug__" : Str))=zr:=by decide)
  (he:UD (e::es) X.env=(zr,eval e X.env)::UD es X.env:=by rfl) (hpl:(backTo pos (UD es X.env)).any (·.1)=zr:=by rfl):PE X (.Call (.Name x p) (e::es) [] pos) (tCB r t):=by
 intro pins s σ H Q I h;refine wpAny_Call_Name_kw (WV I hg hm hv ?_ hn hdb);exact JR (thn (ha pos pins s σ H _ I h) λus s1 ⟨vs,H1,I1,r1,q1⟩=>hc pins s1 σ H1 vs us Q I1 r1 q1) he hpl
end
end L2
namespace HT
open PySem PyProof.Rows
noncomputable def Xs:zu->zu->Bool
 |[],[]=>zr
 |[],_::_=>zq
 |_::_,[]=>zr
 |x::xs,y::ys=>if x=y then Xs xs ys else decide (x<y)
theorem O3(x y)(xs ys):Xs (x::xs) (y::ys)=if x=y then Xs xs ys else decide (x<y):=rfl
section
variable{prog:Ux}{w:World}{A:Around}{E:Uv->Uw->Prop}{s:Uw}
noncomputable def sIx(n d:Nat):zC->Nat
 |none=>d
 |some v=>if v<0 then(v+(n:Int)).toNat else min v.toNat n
end
end HT
namespace L2
open PySem PySem.Spec PyProof.Rows
abbrev TO:=St->Hp->(zC->Hp->Prop)->Prop
def PO(X:Cx)(e:Option UA)(t:TO):Prop:=
 ∀(pins:List (Uy×Obj))(s:Uw)(σ:St)(H:Hp)(Q:zC->Hp->Prop),Inv X pins σ H s->t σ H Q ->
  UC (model X.prog X.w) X.A (evalPart e X.env) (λu s'=>∃o H',Inv X pins σ H' s'/\IsPart u o/\Q o H') X.xe s
noncomputable def ja:TO:=λ_ H Q=>Q zp H
noncomputable def C7(t:TE):TO:=λσ H Q=>t σ H λx H1=>∃i,x=.int i/\Q (O i) H1
section
variable{X:Cx}{e:UA}{te:TE}{lo hi:Option UA}{tl th:TO}{pos p2:Pos}
theorem js:PO X zp ja:=by intro pins s σ H Q I h;exact Qs ⟨zp,H,I,.none,h⟩
theorem jr(h:PE X e te):PO X (O e) (C7 te):=by
 intro pins s σ H Q I hw;refine thn (h pins s σ H _ I hw) λu s1 ⟨x,H1,I1,r1,q1⟩=>?_
 obtain⟨i,rfl,q⟩:=q1;obtain⟨t,rfl⟩:=r1;exact⟨O i,H1,I1,.int i t,q⟩
def SlR(X:Cx)(r:V->zC->zC->Hp->VK->Prop):Prop:=
 ∀(pins:List (Uy×Obj))(s:Uw)(σ:St)(H:Hp)(x:V)(v vl vu:Uv)(lo hi:zC)(sl:Uy)(Q:VK),Inv X pins σ H s->RelV x v->s.heap.IsSliceOf sl vl vu .none->IsPart vl lo->IsPart vu hi->r x lo hi H Q ->
  ∃T id,typeLookup (.type T) "__getitem__" = pure (O (.builtin id))/\s.TypeIs v T/\UC (model X.prog X.w) X.A (getItem v (.ref sl)) (EP X pins σ Q) X.xe s
theorem SlR.or  (h:SlR X r)(h':SlR X r'):SlR X (λx lo hi H Q=>r x lo hi H Q∨r' x lo hi H Q):=by
 intro pins s σ H x v vl vu lo hi sl Q I rx hs pl pu q;rcases q with q|q
 .exact h pins s σ H x v vl vu lo hi sl Q I rx hs pl pu q
 .exact h' pins s σ H x v vl vu lo hi sl Q I rx hs pl pu q
noncomputable def tSl(r:V->zC->zC->Hp->VK->Prop)(te:TE)(tl th:TO):TE:=λσ H Q=>te σ H λx H1=>tl σ H1 λl H2=>th σ H2 λu H3=>r x l u H3 Q
theorem xC  (hr:SlR X r)(he:PE X e te)(hl:PO X lo tl)(hu:PO X hi th):PE X (.Subscript e (.Slice lo hi zp p2) pos) (tSl r te tl th):=by
 intro pins s σ H Q I h;refine Subscript_ (thn (he pins s σ H _ I h) λv s1 ⟨x,H1,I1,r1,q1⟩=>?_);refine wpAny_Slice (thn (hl pins s1 σ H1 _ I1 q1) λvl s2 ⟨l,H2,I2,pl,q2⟩=>thn (hu pins s2 σ H2 _ I2 q2) λvu s3 ⟨u,H3,I3,pu,q3⟩=>?_);refine Qs ?_;have I4:Inv X pins σ H3 {s3 with heap:=s3.heap.push {cls:=.type "slice", data:=.fields #[vl,vu,.none]}}:=I3.kept  λb ob q=>Qm _ q
 obtain⟨T,id,hT,ht,hg⟩:=hr pins {s3 with heap:=s3.heap.push {cls:=.type "slice", data:=.fields #[vl,vu,.none]}} σ H3 x v vl vu l u s3.heap.objs.size Q I4 r1 (Heap.IsSliceOf.new ..) pl pu q3;exact tail_any  ht hT hg (by with_unfolding_all rfl)
noncomputable def Wx(xs:List V)(lo hi:zC):List V:=(xs.drop (HT.sIx xs.length 0 lo)).take (HT.sIx xs.length xs.length hi-HT.sIx xs.length 0 lo)
theorem yA(xs)(lo hi):(Wx xs lo hi).length<=xs.length:=by unfold Wx;rw[Ja,Jx];omega
end
noncomputable def ixN(n:Nat)(i:Int):Option Nat:=if 0<=i then(if i<n then O i.toNat else zp)else if -(n:Int)<=i then O (i+n).toNat else zp
noncomputable def atI{α:Type}(xs:List α)(i:Int):Option α:=(ixN xs.length i).bind λj=>xs[j]?
theorem jq    (h:ixN n i=O j):seqIndex? i n=O j/\j<n /\ -(n:Int)<=i/\i<n:=by
 unfold ixN at h;by_cases h0:0<=i
 .rw[Qr h0]at h
  by_cases h1:i<n
  .rw[Qr h1]at h
   have e   :=QO h;exact⟨by rw[seqIndex_of h0 h1,e],by omega,by omega,h1⟩
  simp_all
 .rw[QA h0]at h
  by_cases h1 : -(n)<=i
  .rw[Qr h1]at h
   have e   :=QO h;exact⟨by rw[seqIndex_neg (by omega) h1,e],by omega,h1,by omega⟩
  .rw[QA h1]at h;cases h
theorem NZ    {v:α}(h:atI xs i=O v):∃j,seqIndex? i xs.length=O j/\xs[j]?=O v/\j<xs.length /\ -(xs.length:Int)<=i/\i<xs.length:=by
 unfold atI at h;cases e:ixN xs.length i with
 |none=>simp_all
 |some j=>rw[e]at h;obtain⟨h1,h2,h3,h4⟩:=jq e;exact⟨j,h1,h,h2,h3,h4⟩
theorem ZP   {j:Nat}{v:α}(h:xs[j]?=O v):atI xs (j:Int)=O v:=by
 have hj   :=(Qg.mp h).1;have e:ixN xs.length (j)=O j:=by unfold ixN;simp_all
 unfold atI;rw[e];exact h
def NY(b:UA):Prop:=∀o i,subscripted b zr o i=operate [o,i] (getItem o i)
def IxR(X:Cx)(r:R2):Prop:=
 ∀(value slice:UA)(pins:List (Uy×Obj))(s:Uw)(σ:St)(H:Hp)(x y:V)(v u:Uv)(Q:VK),Inv X pins σ H s->RelV x v->RelV y u->r x y H Q ->
  subscripted slice zr v u=operate [v,u] (getItem v u)->UC (model X.prog X.w) X.A (subscriptTail value slice v u) (EP X pins σ Q) X.xe s
def MtR(X:Cx)(id:String)(r:V->List V->Hp->VK->Prop):Prop:=
 ∀(pins:List (Uy×Obj))(s:Uw)(σ:St)(H:Hp)(x:V)(xs:List V)(v:Uv)(us:zA)(Q:VK),Inv X pins σ H s->RelV x v->Vals xs us->r x xs H Q ->
  UC (model X.prog X.w) X.A (call (.builtin id) (v::us)) (EP X pins σ Q) X.xe s
section
variable{X:Cx}{a b:UA}{ta tb:TE}{pos:Pos}
theorem IxR.or  (h:IxR X r)(h':IxR X r'):IxR X (λx y H Q=>r x y H Q∨r' x y H Q):=by
 intro value slice pins s σ H x y v u Q I rx ry q hs;rcases q with q|q
 .exact h value slice pins s σ H x y v u Q I rx ry q hs
 .exact h' value slice pins s σ H x y v u Q I rx ry q hs
theorem Ls  (hr:IxR X r)(ha:PE X a ta)(hb:PE X b tb)(hs:NY b):PE X (.Subscript a b pos) (tOp r ta tb):=by intro pins s σ H Q I h;exact Subscript_ (SJ ha hb I h λv u s2 x y H2 I2 rx ry q=>hr a b pins s2 σ H2 x y v u Q I2 rx ry q (hs _ _))
noncomputable def rIxL(K:Frag):R2:=λx y H Q=>∃p xs i v,x=.ref p/\y=.int i/\SqL K H p xs/\atI xs i=O v/\Q v H
noncomputable def rIxT(K:Frag):R2:=λx y H Q=>∃p xs i v,x=.ref p/\y=.int i/\SqT K H p xs/\atI xs i=O v/\Q v H
noncomputable def rIxS:R2:=λx y H Q=>∃z i c,x=.str z/\y=.int i/\z.length<=UB/\atI z.cps.toList i=O c/\Q (.str ⟨#[c]⟩) H
theorem jp:IxR X (rIxL X.K):=by
 intro value slice pins s σ H x y v u Q I rx ry h hs;obtain⟨p,xs,i,z,rfl,rfl,hq,he,q⟩:=h;cases rx;obtain⟨t,rfl⟩:=ry;obtain⟨its,r,pl,hz⟩:=I.list hq;obtain⟨j,h1,h2,h3,h4,h5⟩:=NZ he;obtain⟨w,ew,zV⟩:=r.get h2;have hl:=r.length;have hn:=Oa;have fin:EP X pins σ Q w s:=⟨z,H,I,zV,q⟩
 by_cases h0:0<=i
 .have hj   :=by
   rw[seqIndex_of h0 h5]at h1;exact QO h1
  exact item_listR pl.isList h0 (by omega) (by rw[hj];simpa using ew) fin hs
 .have hj:(i+(its.toArray.size:Int)).toNat=j:=by
   rw[seqIndex_neg (by omega) h4]at h1;rw[Jk,←hl];exact QO h1
  exact subscriptTail_builtinR (x:=w) pl.isList.typeIs slot_list_getitem.lookup
   (wpAny_getItem_list_neg  pl.isList (by omega) (by rw[List.size_toArray]<;>omega) (by omega) (by rw[hj];simpa using ew) ⟨rfl,fin⟩) hs
theorem Bh:IxR X (rIxT X.K):=by
 intro value slice pins s σ H x y v u Q I rx ry h hs;obtain⟨p,xs,i,z,rfl,rfl,hq,he,q⟩:=h;cases rx;obtain⟨t,rfl⟩:=ry;obtain⟨its,r,pl,hz⟩:=I.tuple hq;obtain⟨j,h1,h2,h3,h4,h5⟩:=NZ he;obtain⟨w,ew,zV⟩:=r.get h2;have hl:=r.length;have hn:=Oa;have fin:EP X pins σ Q w s:=⟨z,H,I,zV,q⟩
 exact subscriptTail_builtinR  pl.typeIs slot_tuple_getitem.lookup
  (getItem_tuple   pl (by omega) (by omega) (by rw[List.size_toArray,←hl];exact h1) (by simpa using ew) ⟨rfl,fin⟩) hs
theorem Bg:IxR X rIxS:=by
 intro value slice pins s σ H x y v u Q I rx ry h hs;obtain⟨z,i,c,rfl,rfl,hz,he,q⟩:=h;obtain⟨t,rfl⟩:=rx;obtain⟨t',rfl⟩:=ry;obtain⟨j,h1,h2,h3,h4,h5⟩:=NZ he;have hl:z.cps.toList.length=z.length:=by simp[Str.length]
 rw[hl]at h1 h4 h5;have hn:=Oa;exact tail_any (typeIs_str s z t) slot_str_getitem.lookup (getItem_str  (by have e1:decide (i < -(2 ^ 63:Int))=zr:=QT (by omega);have e2:decide (i ≥ 2 ^ 63)=zr:=QT (by omega);rw[e1,e2,Bool.or_false]) (by rw[h1];simpa using h2) ⟨.str ⟨#[c]⟩,H,I.tok _,⟨_,rfl⟩,q⟩) hs
noncomputable def rIx(K:Frag):R2:=λx y H Q=>rIxL K x y H Q∨rIxT K x y H Q∨rIxS x y H Q
theorem LW:IxR X (rIx X.K):=jp.or (Bh.or Bg)
theorem yM(lo hi)(n):(sliceBounds lo hi zp n).1=((HT.sIx n 0 lo:Nat):Int)/\(sliceBounds lo hi zp n).2.1=((HT.sIx n n hi:Nat):Int)/\(sliceBounds lo hi zp n).2.2=1:=by
 refine⟨?_,?_,rfl⟩
 .cases lo with
  |none=>simp[sliceBounds,HT.sIx]
  |some i=>
   simp only[sliceBounds,HT.sIx,Option.getD_none,show(1:Int) > 0 by decide,if_true];by_cases h:i<0
   .simp only[h,if_true]<;>omega
   .simp only[h,if_false]<;>omega
 .cases hi with
  |none=>simp[sliceBounds,HT.sIx]
  |some i=>
   simp only[sliceBounds,HT.sIx,Option.getD_none,show(1:Int) > 0 by decide,if_true];by_cases h:i<0
   .simp only[h,if_true]<;>omega
   .simp only[h,if_false]<;>omega
theorem yT(its:zA)(lo hi):slicePick its.toArray lo hi zp=((its.drop (HT.sIx its.length 0 lo)).take (HT.sIx its.length its.length hi-HT.sIx its.length 0 lo)).toArray:=by obtain⟨h1,h2,h3⟩:=yM lo hi its.toArray.size;unfold slicePick;rw[h1,h2,h3];simp only[sliceRange_one,pick_run]<;>rfl
noncomputable def rSlL(K:Frag):V->zC->zC->Hp->VK->Prop:=λx lo hi H Q=>∃a xs,x=.ref a/\SqL K H a xs/\∀p,H p=zp->Q (.ref p) (upd H p (.lst (Wx xs lo hi)))
theorem jo:SlR X (rSlL X.K):=by intro pins s σ H x v vl vu lo hi sl Q I rx hs pl pu h;obtain⟨a,xs,rfl,hx,q⟩:=h;cases rx;obtain⟨its,r,ht,hz⟩:=I.list hx;have hlen:=r.length;refine⟨"list", _,slot_list_getitem.lookup,ht.isList.typeIs,?_⟩;refine wpAny_getItem_list_slice ht.isList hs pl pu .none (by simp) ?_ (by grind);rw[yT,←hlen];refine⟨.ref s.heap.objs.size,_,I.laid   (λb ob q=>Qm _ q) (Qx _) ?_,rfl,q _ (I.hok.fresh (Qx _))⟩;exact⟨QM (yA xs lo hi) hz,_,0,(r.drop _).take _,QE _ zo⟩
theorem yL:Xe X (.type "list") (λxs H Q=>∃p ys,xs=[.ref p]/\(SqL X.K H p ys∨SqT X.K H p ys)/\∀l,H l=zp->Q (.ref l) (upd H l (.lst ys))):=by
 intro pins s σ H xs us Q I r h;obtain⟨p,ys,rfl,hq,q⟩:=h;obtain⟨u,rfl,rx⟩:=Lv r;cases rx
 have fin:∀(its:zA),Vals ys its->ys.length<=UB->∀(h':Heap)(c':Nat),_ ->
   h'.get? s.heap.objs.size=O {cls:=.type "list", dict:=zp,data:=.seq its.toArray c',slots:=#[]}->EP X pins σ Q _ {s with heap:=h'}:=λits r' hz h' c' kp e=>
  ⟨.ref s.heap.objs.size,_,I.laid  kp (Qx _) (show Yo X.prog X.w _ h' _ (.lst ys)from⟨hz,its,c',r',e⟩),rfl,q _ (I.hok.fresh (Qx _))⟩
 rcases hq with hq|hq
 .obtain⟨its,r',pl,hz⟩:=I.list hq
  have hlen:=r'.length;obtain⟨o,ho,hc,n,hd⟩:=pl.isList;exact call_list_seq p (.inl zo) ho hc hd (λh' c' kp e=>fin its r' hz h' c' kp e) (by simp_all)
 .obtain⟨its,r',pl,hz⟩:=I.tuple hq
  have hlen:=r'.length;obtain⟨o,ho,hc,n,hd⟩:=pl;exact call_list_seq p (.inr zo) ho hc hd (λh' c' kp e=>fin its r' hz h' c' kp e) (by simp_all)
def tyV(K:Frag)(T:String)(x:V)(H:Hp):Prop:=match x with
 |.str _=>T = "str"
 |.int _=>T = "int"
 |.ref p=>(T = "list" /\ ∃xs,SqL K H p xs)∨(T = "tuple" /\ ∃o,K.lookup p=O o/\o.cls=.type "tuple" /\ o.dict=zp) ∨
   (T = "dict" /\ ((∃kvs,H p=O (.dK kvs)) ∨ ∃kvs,H p=O (.dT kvs)))∨(T = "set" /\ ∃S n,H p=O (.set S n))
 |_=>False
theorem Bf  {σ:St}{H:Hp}{s:Uw}{T:String}{x:V}{v:Uv}(I:Inv X pins σ H s)(r:RelV x v)(ty:tyV X.K T x H) :
  s.TypeIs v T/\∀a,v=.ref a->∃ob,s.heap.get? a=O ob/\ob.dict=zp:=by
 cases x with
 |str z=>obtain⟨t,rfl⟩:=r;cases (ty);exact⟨typeIs_str s z t,λ_ e=>nomatch e⟩
 |int i=>obtain⟨t,rfl⟩:=r;cases (ty);exact⟨typeIs_int s i t,λ_ e=>nomatch e⟩
 |ref p=>
  cases r;rcases ty with ⟨rfl,xs,hq⟩|⟨rfl,o,hk,hc,hd⟩|⟨rfl,hk⟩|⟨rfl,S,n,hk⟩
  .obtain⟨its,_,pl,_⟩:=I.list hq
   refine⟨pl.isList.typeIs,λa e=>?_⟩;cases e;obtain⟨o,n,e,c,hd,_⟩:=pl;exact⟨o,e,hd⟩
  .refine⟨⟨o,I.kIn p o hk,hc⟩,λa e=>?_⟩
   cases e;exact⟨o,I.kIn _ o hk,hd⟩
  .have z:∃o,s.heap.get? p=O o/\o.ExactDict:=by
    rcases hk with ⟨kvs,hk⟩|⟨kvs,hk⟩
    .obtain⟨_,_,_,_,o,_,_,e,ex,_⟩:=I.hok p _ hk
     exact⟨o,e,ex⟩
    .obtain⟨_,_,_,_,o,_,_,e,ex,_⟩:=I.hok p _ hk
     exact⟨o,e,ex⟩
   obtain⟨o,e,ex⟩:=z;refine⟨⟨o,e,ex.1⟩,λa e2=>?_⟩;cases e2;exact⟨o,e,ex.2.1⟩
  .obtain⟨o,_,_,_,e,ex,_⟩:=I.hok p _ hk
   refine⟨⟨o,e,ex.1⟩,λa e2=>?_⟩;cases e2;exact⟨o,e,ex.2.1⟩
 |_=>exact False.elim ty
noncomputable def tBM(K:Frag)(T:String)(r:V->List V->Hp->VK->Prop)(to:TE)(t:TA):TE:=λσ H Q=>to σ H λx H1=>tyV K T x H1/\t σ H1 λxs H2=>r x xs H2 Q
variable{o e:UA}{es:zy}{to:TE}{t:TA}{name:Str}{apos cpos:Pos}{T id:String}{r:V->List V->Hp->VK->Prop}
theorem Nj(pa:PlainAttrs T)(slot:Slot T name id)(hty:typeOf (.builtin id)=pure (.type "method_descriptor"))(hm:MtR X id r)(ho:PE X o to)(ha:PA X (e::es) t)
  (hbase:attributeBase o name X.env (eval o X.env)=eval o X.env:=by rfl)
  (hfew:((backTo cpos (UD (e::es) X.env)).all (λx=>!x.1)&&(backToKw cpos (keywordEach [] X.env)).all (λx=>x.1.isSome)
   && decide ((e::es).length+([]:List Keyword).length+(if([]:List Keyword).isEmpty then 0 else 1)<30))=zq:=by rfl)
  (hline:(apos.endLine==cpos.line)=zq:=by rfl) (hs:UD (e::es) X.env=(zr,eval e X.env)::UD es X.env:=by rfl) (hplain:(backTo cpos (UD es X.env)).any (·.1)=zr:=by rfl) :
  PE X (.Call (.Attribute o name apos) (e::es) [] cpos) (tBM X.K T r to t):=by
 intro pins s σ H Q I h;refine wpAny_Call_method_late hbase hfew hline zo (thn (ho pins s σ H _ I h) λv s1 ⟨x,H1,I1,r1,ty,q1⟩=>?_);obtain⟨h1,h2⟩:=Bf I1 r1 ty;refine⟨T,id,pa,slot,hty,h1,h2,?_⟩;have hA:=ha cpos pins s1 σ H1 _ I1 q1;rw[hs]at hA⊢;refine Calls.callWith_builtin (by show(zr || (backTo cpos _).any _)=zr;rw[hplain]<;>rfl) (Calls.evalArgs_plain ?_);exact thn hA λus s2 ⟨vs,H2,I2,r2,q2⟩=>hm pins s2 σ H2 x vs v us Q I2 r1 r2 q2
end
def MtM(X:Cx)(id:String)(r:V->List V->Hp->VK->Prop):Prop:=
 ∀(pins:List (Uy×Obj))(s:Uw)(σ:St)(H:Hp)(x:V)(xs:List V)(v:Uv)(us:zA)(Q:VK),Inv X pins σ H s->RelV x v->Vals xs us->r x xs H Q ->
  UC (model X.prog X.w) X.A (call (.builtin id) (v::us)) (EP X pins σ Q) X.xe s
theorem Vals.one:∀{x}{us},Vals [x] us->∃u,us=[u]/\RelV x u
 |_,_,.cons r .nil=>⟨_,rfl,r⟩
theorem Vals.two:∀{x y}{us},Vals [x,y] us->∃u v,us=[u,v]/\RelV x u/\RelV y v
 |_,_,_,.cons r (.cons q .nil)=>⟨_,_,rfl,r,q⟩
theorem Vals.reverse   (h:Vals xs us):Vals xs.reverse us.reverse:=by
 induction h with
 |nil=>exact .nil
 |cons r t ih=>rw[List.reverse_cons,List.reverse_cons];exact Vals.append ih (.cons r .nil)
theorem Vals.rep   (h:Vals xs us):∀k:Nat,Vals (UG k xs).flatten (UG k us).flatten
 |0=>.nil
 |k+1=>by exact Vals.append h (Vals.rep h k)
theorem Ea(its):∀(k)(acc:zA),
  List.foldl (λx1 x2=>x1++x2) acc.toArray (UG k its.toArray)=(acc++(UG k its).flatten).toArray
 |0,acc=>by simp
 |k+1,acc=>by
  have e:acc.toArray++its.toArray=(acc++its).toArray:=by simp
  have e2:(acc++its)++(UG k its).flatten=acc++(UG (k+1) its).flatten:=by rw[Ul,JZ,Q2]
  rw[←e2,←Ea its k _,←e,Ul,Ju]
section
variable{X:Cx}{pins:List (Uy×Obj)}{σ:St}{H:Hp}{s:Uw}{l b:Uy}{xs ys zs:List V}
theorem Inv.lset{its its':zA}{n}{f}{t'}(I:Inv X pins σ H s)(hH:H l=O (.lst xs))
  (e:s.heap.get? l=O {cls:=.type "list", data:=.seq its.toArray n}) (hf:f its.toArray=its'.toArray) (hv:Vals ys its') (hz:ys.length<=UB) :
  Inv X pins σ (upd H l (.lst ys)) {s with heap:=s.heap.update l (Obj.mapSeq f),toks:=t'}:=by
 have q:=PySem.IsL.update e f;rw[hf]at q;refine I.write   (by rw[hH];exact trivial) (.inl zo) (λb' u hb hu=>(Q5 s.heap _ (Ne.symm hb)).trans hu) ⟨_,q⟩ ?_;exact⟨hz,its',_,hv,q⟩
theorem Inv.lnew   (I:Inv X pins σ H s)(hv:Vals ys its)(hz:ys.length<=UB) :
  Inv X pins σ (upd H s.heap.objs.size (.lst ys)) {s with heap:=s.heap.push {cls:=.type "list", data:=.seq its.toArray},toks:=t'}:=
 I.laid (λ_ _ q=>Qm _ q) (Qx _) ⟨hz,its,0,hv,QE _ zo⟩
theorem Inv.fresh(I:Inv X pins σ H s):H s.heap.objs.size=zp:=I.hok.fresh (Qx _)
theorem Inv.lstM(I:Inv X pins σ H s)(hH:H l=O (.lst xs)):xs.length<=UB/\∃(its:zA)(n:Nat),Vals xs its/\xs.length=its.length/\s.heap.get? l=O {cls:=.type "list", data:=.seq its.toArray n}:=by obtain⟨z,its,n,r,e⟩:=I.hok l _ hH;exact⟨z,its,n,r,r.length,e⟩
theorem xA  (h:n<=UB):Builtin.List.listTooLong n=zr:=by exact QT (by omega)
end
section
variable{X:Cx}
noncomputable def jn:V->List V->Hp->VK->Prop:=λx vs H Q=>∃l xs y,x=.ref l/\vs=[y]/\H l=O (.lst xs)/\xs.length<UB/\Q .non (upd H l (.lst (xs++[y])))
theorem F9:MtM X "list.append" jn:=by
 intro pins s σ H x vs v us Q I rx rv h;obtain⟨l,xs,y,rfl,rfl,hH,hz,q⟩:=h;cases rx;obtain⟨u,rfl,ru⟩:=rv.one;obtain⟨z,its,n,r,hl,e⟩:=I.lstM hH;refine call_meets F.slot_list_append ⟨_,e,rfl⟩ F.entry_list_append (F.args_list_append_2 _ _) (PySem.list_append l its.toArray n u (by grind)) ⟨e,?_⟩;refine⟨.non,_,I.lset  hH e (by simp) (r.append (.cons ru .nil)) ?_,rfl,q⟩
 grind
theorem jm{α:Type}(xs:List α)(k):(UG k xs).flatten.length=k*xs.length:=by simp_all
end
section
variable{prog:Ux}{w:World}{A:Around}{E:Uv->Uw->Prop}{s:Uw}
set_option maxRecDepth 100000 in
end
end L2
namespace Att
open PySem PySem.W PySem.Calls PyProof.Rows
theorem yY   : ∀(ns)(vs),WellAll P h vs (ns.map WData.int)->IntsAre vs ns:=by
 intro ns;induction ns with
 |nil=>intro vs w;cases w;exact .nil
 |cons n ns ih=>
  intro vs w;cases w with
  |cons a b=>cases a;exact .cons _ _ (ih _ b)
theorem ww{l:OpenLaw}{n:Nat}(hn:l.most=O n){P}{h}{args}{vals}
  (hpre:l.row.toRowW.claim.pre args=zq) (bF:WellAll P h vals args) :
  ∃a vs ns,vals=[Value.ref a]/\args=[WData.list (ns.map WData.int)]/\h.get? a=O {cls:=.type "list", data:=.seq vs.toArray}/\IntsAre vs ns/\ns.length<=n:=by
 have hsh:WShape.hasAll [] args [.list .int]=zq:=(pre_splitW hpre).1;have hc   :=(pre_splitW hpre).2;obtain⟨d,r,rfl,h1,h2⟩:=hasAllW_cons hsh;obtain rfl:=hasAllW_nil h2;obtain⟨xs,rfl,h3⟩:=hasW_list h1;obtain⟨ns,rfl⟩:=items_int h3
 have hlen   :=by
  have h4   :=by have h4:=(holds_andW hc).1;rw[hn]at h4;exact h4
  have h5:=condW_of h4 (w_not (w_lt w_lit (w_len_list (w_arg zo))))
  first
   |(exact absurd h5 _)
   |(simp at h5;omega)
 cases bF with
 |cons w1 w2=>
  cases w2;cases w1 with
  |list ho hall=>exact⟨_,_,ns,rfl,rfl,ho,yY ns _ hall,hlen⟩
theorem wv(l:OpenLaw)(args):l.row.toRowW.claim.post args (.bool zq) args=zq:=
 postW_of
  (show WShape.has [] _ .bool=zq by first|rfl|decide|lia)
  (w_eq_bool (w_res zo) w_lit) zo
theorem attach_call{l:OpenLaw}{n:Nat}{q}{loose}{XP}{YP}{d}
  (hn:l.most=O n) (hdf:d.params.defaults=[])
  (call:∀(w:World)(s₀ s₁)(mg mb)(fa:Uy)(o:Obj)(pm cd doc)(a:Uy)(vs)(ns),
   Ground q loose [] XP w s₀ mg mb s₁.heap->YP w s₁.heap ->
   s₁.heap.get? fa=O o->o.data=.func (docDef d.name d.params d.body d.scope pm cd doc)->s₁.heap.CodeRec cd d.name->mg d.name=O (.ref fa) ->
   s₁.heap.get? a=O {cls:=.type "list", data:=.seq vs.toArray}->IntsAre vs ns->ns.length<=n->s₁.gens=#[] ->
   codeAny (model l.prog w) callerA (.call (.ref fa) ⟨[.ref a],[]⟩) (λr s'=>r=.ok (.ret (.bool zq))/\OldK s₁.heap s'.heap/\s'.os=s₁.os/\AllBare s'.gens) s₁) :
  WalkO q loose XP YP l.row.toRowW d [] (λf vs=>PySem.call f vs):=by
 intro w s₀ s₁ mg mb G Y fa o pm cd doc dV kV ho hd hcd hD hmg hg args vals as hpre hlay hrd bF hlo;obtain rfl:dV=.none:=Dflts.none hD hdf;obtain rfl:kV=.none:=Dflts.noKw hD;obtain⟨a,vs,ns,rfl,rfl,hobj,hints,hlen⟩:=ww hn hpre bF;refine enter_call (codeAny_mono (call w s₀ s₁ mg mb fa o pm cd doc a vs ns G Y ho (fd_plain hd) hcd hmg hobj hints hlen hg) λr s' hq=>?_);obtain⟨rfl,h2,h3,h4⟩:=hq;exact⟨.inl ⟨.bool zq,.bool zq,[],rfl,λ_=>rfl,.bool zq,wv l _,λ_=>⟨List.Pairwise.nil,λ_ hm=>(nomatch hm)⟩⟩,h2,h3,h4⟩
end Att
namespace L2
open PySem PySem.Spec PyProof.Rows
theorem Ve:∀{vs}{ns},IntsAre vs ns->Vals (ns.map V.int) vs
 |_,_,.nil=>.nil
 |_,_,.cons n t h=>.cons ⟨t,rfl⟩ (Ve h)
def Only(H:Hp):Prop:=∀b,H b=zp ∨ ∃o xs,H b=O (.frz o (.lst xs))
theorem xz{P:Ux}{w:World}{K:Frag}{mg mb:Str->zB}{CX:CXT}{k:Nat}{fa a:Uy}{fd:Uz}{x:Str}{sp:Sp}{s₁:Uw}{vs:zA}{ns:zu}
  (KX:K.In s₁.heap) (hns:s₁.heap.Ns mainGlobals mg) (hb:s₁.heap.Ns builtinsNs mb) (hbb:∀x:Str,x ≠ "__name__" -> mb x=bootBuiltins x) (hlim:s₁.heap.NoLimit) (hg:s₁.gens=#[])
  (ha:s₁.heap.get? a=O {cls:=.type "list", data:=.seq vs.toArray}) (hi:IntsAre vs ns) (hl:ns.length<=UB) (hr:Room k callerA)
  (F:∀base:Heap,K.In base->base.Ns mainGlobals mg->FnOk P w K mg base CX k fa fd [x] sp) (hbind:∀(s:Uw)(u:Uv),BindsTo s fd ⟨[u],[]⟩ [(x,u)])
  (bu:∀H:Hp,Only H->SqL K H a (ns.map V.int)->sp [.ref a] H (λv _=>v=.bl zq) λ_ _ _=>False)
  (hCX:∀H e s',CX [] H s₁ (λ_ _ _=>False) e s'->False) :
  codeAny (model P w) callerA (.call (.ref fa) ⟨[.ref a],[]⟩) (λr s'=>r=.ok (.ret (.bool zq))/\OldK s₁.heap s'.heap/\s'.os=s₁.os/\AllBare s'.gens) s₁:=by
 have rv:=Ve hi;have lenV:=hi.length
 have core:∀H:Hp,Only H->SqL K H a (ns.map V.int)->HOk P w H s₁.heap->(∀b,H b≠zp->b=a)->(H a≠zp->K.lookup a=zp) ->
   codeAny (model P w) callerA (.call (.ref fa) ⟨[.ref a],[]⟩) (λr s'=>r=.ok (.ret (.bool zq))/\OldK s₁.heap s'.heap/\s'.os=s₁.os/\AllBare s'.gens) s₁:=by
  intro H hO hS hok hA hK;have base_of:∀{b:Uy}{o:Obj},s₁.heap.get? b=O o->H b=zp->(YH s₁.heap H).get? b=O o:=λe n=>xb e n
  have noA:∀{b:Uy}{o:Obj}{es:Array DictEntry}{ep:Nat},s₁.heap.get? b=O o->o.data=.dict es ep->H b=zp:=λ{b o es ep} e d=>by
   cases q:H b with
   |none=>rfl
   |some u=>have e':b=a:=hA b (by rw[q];simp);subst e';rw[ha]at e;cases e;have d'   :=d;cases d'
  have nsK:∀{b:Uy}{m:Str->zB},s₁.heap.Ns b m->(YH s₁.heap H).Ns b m:=λ{b m} ⟨o,es,ep,e,d,r⟩=>⟨o,es,ep,base_of e (noA e d),d,r⟩
  have hKb:K.In (YH s₁.heap H):=λb o e=>base_of (KX b o e) (by
   cases q:H b with
   |none=>rfl
   |some u=>have e':b=a:=hA b (by rw[q];simp);subst e';rw[hK (by rw[q];simp)]at e;cases e)
  have hM:Mod K mg (YH s₁.heap H):=⟨hKb,nsK hns,⟨mb,nsK hb,hbb⟩,let ⟨mc,h1,h2⟩:=hlim;⟨mc,nsK h1,h2⟩⟩
  have e0:Env0 P w K mg (YH s₁.heap H) callerA [] s₁ H:=⟨rfl,hM,λb o e=>ji e,Nat.le_of_eq (wF _ _),trivial,λb hb=>absurd (show b∈([]:zE)from hb) (by simp),hok,.of_eq hg⟩
  refine codeAny_mono ((F _ hKb (nsK hns)).run callerA [] s₁ H ⟨[.ref a],[]⟩ [.ref a] [.ref a] _ _ hr e0 (hbind s₁ (.ref a)) (.cons zo .nil) (bu H hO hS)) λr s' h=>?_
  cases r with
  |error e=>exact(hCX H e s' h).elim
  |ok fl=>
   cases fl with
   |next=>exact False.elim h
   |brk=>exact False.elim h
   |cont=>exact False.elim h
   |ret u=>
    obtain⟨v,H',os,bare,un,hok',r',q⟩:=h;have q':v=.bl zq:=q;subst q';obtain rfl:u=Value.bool zq:=r';refine⟨rfl,OldK.of_keep λb o e=>?_,os,bare⟩;cases q:H b with
    |none=>exact un.keep b o e q (by intro z;exact absurd (show b∈([]:zE)from z) (by simp)) (by simp)
    |some u=>
     rcases hO b with z|⟨ob,xs,z⟩
     .rw[q]at z;cases z
     .have z2:=un.frzs b ob _ z
      obtain⟨e1,_⟩:=hok b _ z;obtain⟨e2,_⟩:=hok' b _ z2;rw[e]at e1;cases e1;exact e2
 cases hk:K.lookup a with
 |some o=>have e:=KX a o hk;rw[ha]at e;cases e;refine core (λ_=>zp) (λ_=>.inl zo) (.inr ⟨_,vs.toArray,_,hk,rfl,rfl,rfl,by rw[List.size_toArray,lenV];exact hl,by simpa using rv⟩) (λb u z=>by have z':(none:Option HO)=O u:=z;cases z') (λb z=>absurd zo z) λz=>absurd zo z
 |none=>
  refine core (λb=>if b=a then O _ else zp) (λb=>?_) (.inl (.inr ⟨{cls:=.type "list", data:=.seq vs.toArray},Qr zo⟩)) (λb u z=>?_) (λb z=>?_) λ_=>hk
  .by_cases hb:b=a
   .exact .inr ⟨_,_,Qr hb⟩
   .exact .inl (QA hb)
  .by_cases hb:b=a
   .have z':=(Qr hb).symm.trans z
    cases z';subst hb;exact⟨ha,by rw[Qb];exact hl,vs,_,rv,ha⟩
   .have z':=(QA hb).symm.trans z
    cases z'
  .by_cases hb:b=a
   .exact hb
   .exact absurd (QA hb) z
noncomputable def W6(s:Stmt):Arguments:=match s with
 |.FunctionDef _ a _ _ _ _ _ _ _ _=>a
 |_=>{posonlyargs:=[],args:=[],vararg:=zp,kwonlyargs:=[],kw_defaults:=[],kwarg:=zp,defaults:=[]}
noncomputable def XB(s:Stmt):List Stmt:=match s with
 |.FunctionDef _ _ b _ _ _ _ _ _ _=>b
 |_=>[]
noncomputable def ZR(s:Stmt):Scope:=match s with
 |.FunctionDef _ _ _ _ _ _ sc _ _ _=>sc
 |_=>{kind:=.function,names:=[],isGenerator:=zr,isCoroutine:=zr}
noncomputable abbrev CX0:CXT:=λ_ _ _ _ _ _=>False
noncomputable abbrev E0:XK:=λ_ _ _=>False
theorem C6{X:Cx}:Nz CX0 X E0:=λ_ _ _ _ _ _ _ h=>h.elim
structure Fun(K:Frag)(x qual:Str)(st:Stmt)(f:Uy)(fd:Uz):Prop where
 ex:∃(oc:Uv)(od:zJ)(kV doc pm:Uv)(an:zJ)(cdv ct:Uv)(osl:Array zB),
  fd=PySem.W.fnOf x qual (W6 st) (XB st) (ZR st) .none kV doc pm an cdv ct/\K.lookup f=O ⟨oc,od,.func fd,osl⟩/\PySem.W.codeIn K cdv qual=zq
 kp:PySem.W.keepIn K (.ref f)=zq
section
variable{P:Ux}{w:World}{K:Frag}{mg:Str->zB}{base:Heap}
theorem Fun.ok  {st}{f}{fd}{N ps}{k}{sp}(F:Fun K x qual st f fd)(S:Pg N ps (ZR st))(len:∀vs H Q E,sp vs H Q E->vs.length=ps.length)
  (hbody:∀(cdv)(A)(outer)(s)(H)(vs)(Q:VK)(E),Room k (A.deeper (envOfC qual (ZR st) s.heap.objs.size f cdv))->sp vs H Q E ->
   ∃t,PSs (Y2 CX0 P w K mg base N qual (ZR st) f cdv A outer s H E).nox (XB st) t/\t {nx:=λ_ H'=>Q .non H',rt:=Q} (Wl N vs) H):FnOk P w K mg base CX0 (k+1) f fd ps sp:=by
 obtain⟨oc,od,kV,doc,pm,an,cdv,ct,osl,rfl,lk,hcd⟩:=F.ex;refine C8 lk hcd S len λA outer s H vs Q E hr bu=>?_
 obtain⟨t,h,q⟩:=hbody cdv A outer s H vs Q E hr bu;exact⟨t,h.nox,q⟩
theorem Fun.binds  {st}{f}{fd}{ps}(F:Fun K x qual st f fd)
  (h:∀(kV doc pm)(an)(cdv ct)(us),us.length=ps.length->bindArgs (PySem.W.fnOf x qual (W6 st) (XB st) (ZR st) .none kV doc pm an cdv ct) ⟨us,[]⟩=pure (ps.zip us)):WT K fd ps []:=by
 obtain⟨oc,od,kV,doc,pm,an,cdv,ct,osl,rfl,lk,hcd⟩:=F.ex;exact .all (h kV doc pm an cdv ct)
end
def Same(H H':Hp):Prop:=∀b o,H b=O o->H' b=O o
theorem Same.refl(H:Hp):Same H H:=λ_ _ h=>h
theorem Same.trans{H H1 H2:Hp}(a:Same H H1)(b:Same H1 H2):Same H H2:=λc o h=>b c o (a c o h)
theorem Same.free  (e:Same H H'){l}(h:H' l=Option.none):H l=Option.none:=by
 cases q:H l with
 |none=>rfl
 |some o=>rw[e l o q]at h;cases h
theorem Same.seq{K}{H H'}{a}{xs}(e:Same H H')(h:SqL K H a xs):SqL K H' a xs:=by
 rcases h with (h|⟨o,h⟩)|h
 .exact .inl (.inl (e _ _ h))
 .exact .inl (.inr ⟨o,e _ _ h⟩)
 .exact .inr h
section
variable{X:Cx}{pins:List (Uy×Obj)}{σ:St}{H:Hp}{s:Uw}{h':Heap}
theorem Inv.turnedNew  {fp:zE}{p:Uy}{o:HO}(I:Inv X pins σ H s)(hf:∀b∈fp,ZV X pins H b)
  (k:∀b o,b∉fp->s.heap.get? b=O o->h'.get? b=O o) (hp:s.heap.objs.size<=p) (new:Yo X.prog X.w (upd H p o) h' p o) :
  Inv X pins σ (upd H p o) {s with heap:=h',toks:=t'}:=by
 have hn   :=I.hok.fresh hp;have trk:∀b u,H b=O u->b∉fp:=λb u e z=>by rw[(hf b z).1]at e;cases e
 refine I.step   (ch:=fp) (λb hb=>?_) (λb o _ _ hc e _=>k b o hc e) (λb o _ _ hc e _=>⟨o.slots,k b o hc e⟩)
  (λb o _ e n=>by rw[KO (QY (QF (Qk e) hp))];exact n) (λb o hc e=>⟨o,k b o hc e⟩)
  (λb xs e=>by rw[KO (Yw e hn)];exact e) (λb ob u e=>by rw[KO (Yw e hn)];exact e) (λb ps e=>⟨#[],by rw[KO (Yw e hn),e];simp⟩)
  (λm hm=>?_) (λb u e=>?_) I.bare
 .obtain⟨_,f1,_,f3,f4,f5⟩:=hf b hb
  exact⟨f3,f1,f4,f5⟩
 .obtain⟨ob,es,ep,ho,r⟩:=hm
  exact⟨ob,es,ep,k _ ob (λz=>(hf _ z).2.1 zo) ho,r⟩
 .by_cases hb:b=p
  .subst hb;rw[Zq]at e;cases e;exact new
  .rw[KO hb]at e
   refine(I.hok b u e).stay (λc v hc q=>k c v ?_ q) (λc q=>by rw[KO (Yw q hn)];exact q) λc xs q=>by rw[KO (Yw q hn)];exact q
   rcases hc with z|z
   .rw[z];exact trk b u e
   .exact trk c _ z
theorem Inv.turnedL  {fp:zE}(I:Inv X pins σ H s)(hf:∀b∈fp,ZV X pins H b)
  (k:∀b o,b∉fp->s.heap.get? b=O o->h'.get? b=O o):Inv X pins σ H {s with heap:=h',toks:=t'}:=by
 have trk:∀b u,H b=O u->b∉fp:=λb u e z=>by rw[(hf b z).1]at e;cases e
 refine I.step    (λb hb=>?_) (λb o _ _ hc e _=>k b o hc e) (λb o _ _ hc e _=>⟨o.slots,k b o hc e⟩)
  (λ_ _ _ _ n=>n) (λb o hc e=>⟨o,k b o hc e⟩) (λ_ _ e=>e) (λ_ _ _ e=>e) (λb ps e=>⟨#[],by simp_all⟩) (λm hm=>?_) (λb u e=>?_) I.bare
 .obtain⟨_,f1,_,f3,f4,f5⟩:=hf b hb
  exact⟨f3,f1,f4,f5⟩
 .obtain⟨ob,es,ep,ho,r⟩:=hm
  exact⟨ob,es,ep,k _ ob (λz=>(hf _ z).2.1 zo) ho,r⟩
 .refine(I.hok b u e).stay (λc v hc q=>k c v ?_ q) (λc q=>q) λc xs q=>q
  rcases hc with z|z
  .rw[z];exact trk b u e
  .exact trk c _ z
end
noncomputable def Ite(K:Frag)(a:Uy):It:=
 ⟨λi H=>∃xs x,SqL K H a xs/\xs[i]?=O x,
  λi H v H'=>∃p x,H p=zp/\v=.ref p/\(∀xs,SqL K H a xs->xs[i]?=O x)/\H'=upd H p (.tup [.int i,x]),
  λi H=>∃xs,SqL K H a xs/\xs.length<=i⟩
theorem wu{P:Ux}{w:World}{K:Frag}{elts:zy}{x1}{tp:Pos}(a e it:Uy)(hne:e≠it) :
  Turn P w K (.Tuple elts x1 tp) (Ite K a) [e,it] e (λi h=>(∃old,IsEnum h e it i old)/\h.IsListIter it a i) where
 mem:=by simp
 obj:=λi h st b hb=>by
  obtain⟨⟨old,he⟩,o,ho,c,d⟩:=st;have hb':b=e∨b=it:=by simpa using hb
  rcases hb' with rfl|rfl
  .exact⟨_,he,λv z=>by have z'   :=z;cases z'⟩
  .exact⟨o,ho,λv z=>by rw[d]at z;cases z⟩
 keep:=λi h h' st k=>by obtain⟨⟨old,he⟩,hi⟩:=st;exact⟨⟨old,k e (by simp) _ he⟩,hi.at λo q=>k it (by simp) o q⟩
 item:=by
  intro X hP hw hK hc i pins s σ H E I hf st hg;subst hP hw hK;obtain⟨⟨old,he⟩,hi⟩:=st;obtain⟨xs,x,hq,hx⟩:=hg;obtain⟨its,rv,p,hz⟩:=I.list hq;obtain⟨u,hu,ru⟩:=rv.get hx;refine wpAny_pyNext_enum_item he hi p.isList (x:=u) (by simpa using hu) hne λh1 out hi1 ht hsz kk=>?_
  refine⟨_,rfl,wpAny_letOwnedTupleGo_enum out λh2 aA hs2=>?_⟩;have hel:e<s.heap.objs.size:=Qk he;have zX:Heap.SameBut e h1 h2:=hs2;have ht2   :=(zX.2 _ (JQ hel)).trans ht
  have kk2:∀b o,b∉[e,it]->s.heap.get? b=O o->h2.get? b=O o:=λb o hb q=>by
   have zU:b≠e:=λz=>hb (by simp[z])
   have hbi:b≠it:=λz=>hb (by simp[z])
   exact(zX.2 b zU).trans (kk b o zU hbi q)
  have hn:H s.heap.objs.size=zp:=I.hok.fresh (Qx _)
  have I2:Inv X pins σ (upd H s.heap.objs.size (.tup [.int i,x])) {s with heap:=h2,toks:=s.toks+1}:=
   I.turnedNew (fp:=[e,it]) hf kk2 (Qx _) ⟨by show 2<=UB;decide,[.int i s.toks,u],.cons ⟨_,rfl⟩ (.cons ru .nil),⟨_,ht2,rfl,_,rfl⟩⟩
  refine⟨.ref s.heap.objs.size,_,I2,rfl,⟨_,x,hn,rfl,λys hy=>by rw[I.list_inj hy hq];exact hx,rfl⟩,⟨⟨u,?_⟩,?_⟩,λb hb=>?_⟩
  .have:=aA
   simpa using this
  .have hi2:h2.IsListIter it a (i+1):=hi1.at λo q=>(zX.2 it (Ne.symm hne)).trans q
   exact hi2
  .have fr:=(hf b hb)
   have hlt:b<s.heap.objs.size:=by
    have hb':b=e∨b=it:=by simpa using hb
    rcases hb' with rfl|rfl
    .exact hel
    .obtain⟨o,ho,_⟩:=hi;exact Qk ho
   rw[KO (QY hlt)];exact fr.1
 done:=by intro X hP hw hK hc i pins s σ H E I hf st hg;subst hP hw hK;obtain⟨⟨old,he⟩,hi⟩:=st;obtain⟨xs,hq,hx⟩:=hg;obtain⟨its,rv,p,hz⟩:=I.list hq;have hl:=rv.length;exact wpAny_pyNext_enum_end (I.ok.hd hc) he hi p.isList (by simp;omega) λh' eb=>⟨rfl,I.turnedL (t':=s.toks) hf λb o hb q=>eb b o (λz=>hb (by simp[z])) q⟩
 self:=λ_ _ _ _ _ st h=>by obtain⟨⟨old,he⟩,_⟩:=st;exact wpAny_pyIter_enum he h
section
variable{X:Cx}
noncomputable def C5(K:Frag)(ta:TA):TI:=λσ H R=>ta σ H λvs H1=>∃a xs,vs=[.ref a]/\SqL K H1 a xs/\R (Ite K a) H1
theorem jk   {p pos:Pos}{elts}{x1}{tp:Pos}(hg:Gl X "enumerate")(hm:X.mg "enumerate" = zp)(ha:PA X [a] ta)
  (hs:UD [a] X.env=[(zr,eval a X.env)]:=by rfl):PI X (.Tuple elts x1 tp) (.Call (.Name "enumerate" p) [a] [] pos) (C5 X.K ta):=by
 intro pins s σ H R I h;refine Call_ (WV I hg hm boot_enumerate (JR (thn (ha pos pins s σ H _ I h) λus s1 ⟨vs,H1,I1,r1,q1⟩=>?_) hs zo));obtain⟨l,xs,e,hq,q⟩:=q1;subst e;cases r1 with
 |cons r rr=>
  cases rr;cases (r);obtain⟨its,rv,pl,hz⟩:=I1.list hq;refine call_enumerate_list pl.isList λh' he hi hsz kk=>?_;have I2   :=I1.kept (t':=s1.toks) kk;refine wpAny_pyIter_enum he ?_
  refine⟨s1.heap.objs.size+1,[s1.heap.objs.size+1,s1.heap.objs.size],_,_,H1,rfl,I2,wu l _ _ (Nat.succ_ne_self _),⟨⟨_,he⟩,hi⟩,λb hb=>?_,q⟩;have hb'   :=by simpa using hb
  rcases hb' with rfl|rfl
  .exact I1.fpOk (Ua _) (I1.hok.fresh (Ua _))
  .exact I1.fpOk (Qx _) (I1.hok.fresh (Qx _))
end
section
variable{κ:Type}[DecidableEq κ]
noncomputable def ZS(kvs:List (κ×V))(k:κ):Option V:=(kvs.find? λkv=>decide (kv.1=k)).map (·.2)
noncomputable def Zt(kvs:List (κ×V))(k:κ)(v:V):List (κ×V):=
 if(kvs.any λkv=>decide (kv.1=k))=zq then kvs.map (λkv=>if kv.1=k then(kv.1,v)else kv)else kvs++[(k,v)]
theorem Me   {k:κ}(e:p.1=k):ZS (p::r) k=O p.2:=by simp[ZS,e]
theorem Md   {k:κ}(e:¬p.1=k):ZS (p::r) k=ZS r k:=by simp[ZS,e]
theorem OC(k):∀kvs:List (κ×V),(kvs.any λkv=>decide (kv.1=k))=(ZS kvs k).isSome
 |[]=>rfl
 |p::r=>by
  rw[List.any_cons];by_cases e:p.1=k
  .simp only[Me e,Jg e,Bool.true_or,Option.isSome_some]
  .rw[Md e,QT e];exact OC k r
theorem Ld(kvs)(k:κ)(v):(Zt kvs k v).length<=kvs.length+1:=by
 unfold Zt;split
 .simp_all
 simp_all
theorem RelO.isSome_eq   (r:RelO o u):o.isSome=u.isSome:=by
 cases o with
 |none=>cases u with
  |none=>rfl
  |some _=>exact(r).elim
 |some _=>cases u with
  |none=>exact(r).elim
  |some _=>rfl
theorem KV.val   (r:KV kvs vs)(k:κ):RelO (ZS kvs k) (valueAt vs k):=by
 induction r with
 |nil=>exact True.intro
 |@cons p q ps qs h t ih=>
  obtain⟨h1,h2⟩:=h;by_cases e:p.1=k
  .have e'   :=h1.symm.trans e
   have b:valueAt (q::qs) k=O q.2:=by simp[valueAt,e']
   rw[Me e,b];exact h2
  .have e':¬q.1=k:=λz=>e (h1.trans z)
   have b:valueAt (q::qs) k=valueAt qs k:=by simp[valueAt,e']
   rw[Md e,b];exact ih
theorem KV.any   (r:KV kvs vs)(k:κ):(kvs.any λkv=>decide (kv.1=k))=vs.any λkv=>decide (kv.1=k):=by
 induction r with
 |nil=>rfl
 |cons h t ih=>simp_all
theorem KV.repl   (r:KV kvs vs)(k:κ){y}{u}(ry:RelV y u) :
  KV (kvs.map λkv=>if kv.1=k then(kv.1,y)else kv) (vs.map λkv=>if kv.1=k then(kv.1,u)else kv):=by
 induction r with
 |nil=>exact .nil
 |@cons p q ps qs h t ih=>
  rw[Qv,Qv];refine .cons ?_ ih;obtain⟨h1,h2⟩:=h;by_cases e:p.1=k
  .rw[Qr e,Qr (h1.symm.trans e)];exact⟨h1,ry⟩
  .rw[QA e,QA (λz=>e (h1.trans z))];exact⟨h1,h2⟩
theorem KV.put   (r:KV kvs vs)(k:κ){y}{u}(ry:RelV y u):KV (Zt kvs k y) (stored vs k u):=by
 unfold Zt stored;rw[r.any k];by_cases e:(vs.any λkv=>decide (kv.1=k))=zq
 .rw[Qr e,Qr e];exact r.repl k ry
 .rw[QA e,QA e];exact Paired.snoc r ⟨rfl,ry⟩
theorem KV.length  {vs:List (κ×Uv)}(r:KV kvs vs):kvs.length=vs.length:=Paired.length r
end
theorem Ra   {k}{u}(r:RelV (kV k) u):(Y8 P w).is k u=zq:=by
 cases k with
 |inl i=>obtain⟨t,e⟩:=(r);subst e;exact yC P w i t
 |inr x=>obtain⟨t,e⟩:=(r);subst e;exact yB P w x t
theorem F8   : ∀{ks}{us},Vals (ks.map kV) us->ItemsAre (Y8 P w) ks us
 |[],_,r=>by cases r;exact .nil
 |k::ks,_,r=>by
  cases r with
  |cons h t=>exact .cons (Ra h) (F8 t)
noncomputable abbrev KT(H:Hp):List (zH×V)->List (zH×Uy×Uv)->Prop:=Paired λp q=>p.1=q.1/\H q.2.1=O (.tup (p.1.map kV))/\RelV p.2 q.2.2
theorem KT.val    (r:KT H kvs xs)(k):RelO (ZS kvs k) ((atKey xs k).map (·.2)):=by
 induction r with
 |nil=>exact True.intro
 |@cons p q ps qs h t ih=>
  obtain⟨h1,_,h2⟩:=h;by_cases e:p.1=k
  .have e'   :=h1.symm.trans e
   have b:atKey (q::qs) k=O q.2:=by simp[atKey,e']
   rw[Me e,b];exact h2
  .have e':¬q.1=k:=λz=>e (h1.trans z)
   have b:atKey (q::qs) k=atKey qs k:=by simp[atKey,e']
   rw[Md e];simp_all
theorem KT.repl    (r:KT H kvs xs)(k){y}{u}(ry:RelV y u) :
  KT H (kvs.map λkv=>if kv.1=k then(kv.1,y)else kv) (xs.map (putAt k u)):=by
 induction r with
 |nil=>exact .nil
 |@cons p q ps qs h t ih=>
  rw[Qv];refine .cons ?_ ih;obtain⟨h1,h2,h3⟩:=h;unfold putAt;by_cases e:p.1=k
  .rw[Qr e,Qr (h1.symm.trans e)];exact⟨h1,h2,ry⟩
  .rw[QA e,QA (λz=>e (h1.trans z))];exact⟨h1,h2,h3⟩
theorem KT.put  {kvs}{xs}(r:KT H kvs xs)(k){b}{y:V}{u}(hb:H b=O (.tup (k.map kV)))(ry:RelV y u) :
  KT H (Zt kvs k y) (storedH xs k b u):=by
 have e:(kvs.any λkv=>decide (kv.1=k))=(atKey xs k).isSome:=by rw[OC,(r.val k).isSome_eq,Option.isSome_map]
 unfold Zt storedH;rw[e];by_cases q:(atKey xs k).isSome=zq
 .rw[Qr q,Qr q];exact r.repl k ry
 .rw[QA q,QA q];exact Paired.snoc r ⟨rfl,hb,ry⟩
theorem KT.keeps  {kvs}{xs}(r:KT H kvs xs)(ht:∀b ys,H b=O (.tup ys)->H' b=O (.tup ys)):KT H' kvs xs:=
 Paired.mapP r λ_ _ z=>⟨z.1,ht _ _ z.2.1,z.2.2⟩
section
variable{P:Ux}{w:World}{H:Hp}{h:Heap}{a:Uy}
theorem Lr{u:HO}(ok:HOk P w H h)(e:Rd H a u):Yo P w H h a u:=e.ok ok
theorem RV  (ok:HOk P w H h)(e:Rd H a (.dK kvs)):kvs.length<=UB/\(a==sysModules)=zr/\∃vs,KV kvs vs/\h.DictOf (Y8 P w) a vs:=
 Lr ok e
theorem Lq  (ok:HOk P w H h)(e:H a=O (.dK kvs)):kvs.length<=UB/\(a==sysModules)=zr/\∃vs,KV kvs vs/\h.DictOf (Y8 P w) a vs:=RV ok (.inl e)
theorem R6  (ok:HOk P w H h)(e:H a=O (.tup (ks.map kV))):(tupleKind (Y8 P w)).is h ks a:=by
 obtain⟨_,its,r,o,h1,h2,n,h3⟩:=(ok a _ e)
 exact⟨o,its.toArray,n,h1,h2,h3,by simpa using F8 r⟩
theorem RU  (ok:HOk P w H h)(e:Rd H a (.dT kvs)):kvs.length<=UB/\(a==sysModules)=zr /\
  ∃xs,KT H kvs xs/\h.DictOfH (tupleKind (Y8 P w)) a xs:=by
 obtain⟨z,y,xs,r,o,es,ep,h1,h2,h3,h4,h5⟩:=(Lr ok e)
 refine⟨z,y,xs,r,o,es,ep,h1,h2,h3,h4,λx hx=>?_,h5⟩
 have all:∀{l:List _}{m:List _},KT H l m->∀x∈m,(tupleKind (Y8 P w)).is h x.1 x.2.1:=by
  intro l m q;induction q with
  |nil=>simp_all
  |@cons p q ps qs hq t ih=>
   intro x hx;rcases QL.mp hx with e|hx
   .exact R6 ok (by simp_all)
   .exact ih x hx
 exact all r x hx
theorem C4  (ok:HOk P w H h)(e:H a=O (.dT kvs)):kvs.length<=UB/\(a==sysModules)=zr /\
  ∃xs,KT H kvs xs/\h.DictOfH (tupleKind (Y8 P w)) a xs:=RU ok (.inl e)
end
def YM(H:Hp)(a:Uy)(y:V)(r:Option V):Prop:=
 (∃kvs k,Rd H a (.dK kvs)/\y=kV k/\r=ZS kvs k) ∨ ∃kvs k b,Rd H a (.dT kvs)/\y=.ref b/\H b=O (.tup (k.map kV))/\r=ZS kvs k
def DPut(H:Hp)(a:Uy)(y v:V)(H':Hp):Prop:=
 (∃kvs k,H a=O (.dK kvs)/\y=kV k/\kvs.length<UB/\H'=upd H a (.dK (Zt kvs k v))) ∨
 ∃kvs k b,H a=O (.dT kvs)/\y=.ref b/\H b=O (.tup (k.map kV))/\kvs.length<UB/\H'=upd H a (.dT (Zt kvs k v))
theorem DPut.k    {k}{v}(e:H a=O (.dK kvs))(hl:kvs.length<UB):DPut H a (kV k) v (upd H a (.dK (Zt kvs k v))):=.inl ⟨kvs,k,e,rfl,hl,rfl⟩
section
variable{X:Cx}{pins:List (Uy×Obj)}{σ:St}{H:Hp}{s:Uw}{a:Uy}{y v:V}{u r:Uv}{o:Option V}{A:Around}{E:Uv->Uw->Prop}
theorem Inv.big(I:Inv X pins σ H s):sysModules<s.heap.objs.size:=by have h   :=(I.mod.glob.keeps I.bk).lt;exact Nat.lt_trans (by decide) h
theorem wt  (hu:A.units+1<cLine)(I:Inv X pins σ H s)(g:YM H a y (O v))(ry:RelV y u)(h:∀w' s',Inv X pins σ H s'->RelV v w'->Q w' s') :
  UC (model X.prog X.w) A (getItem (.ref a) u) Q E s:=by
 rcases g with ⟨kvs,k,e,ey,l⟩|⟨kvs,k,b,e,ey,eb,l⟩
 .subst ey
  obtain⟨z,hd,vs,rel,dd⟩:=RV I.hok e;obtain⟨w',hw,zV⟩:=RelO.some_of   (by rw[l];exact rel.val k);exact wpAny_getItem_of (Ra ry) dd.mapOf hw (h w' _ (I.tok _) zV)
 .subst ey
  cases (ry);obtain⟨z,hd,xs,rel,dd⟩:=RU I.hok e;obtain⟨w',hw,zV⟩:=RelO.some_of   (by rw[l];exact rel.val k);obtain⟨p,hp,aV⟩:=Option.map_eq_some_iff.mp hw;refine wpAny_getItem_heap (tupleKind_room_in1 hu) (R6 I.hok eb) dd hp ?_;rw[aV];exact h w' _ (I.tok _) zV
theorem d_in  (hu:A.units+1<cLine)(I:Inv X pins σ H s)(g:YM H a y o)(ry:RelV y u)(h:∀s',Inv X pins σ H s'->Q (.bool o.isSome) s') :
  UC (model X.prog X.w) A (UE .In u (.ref a)) Q E s:=by
 rcases g with ⟨kvs,k,e,ey,l⟩|⟨kvs,k,b,e,ey,eb,l⟩
 .subst ey
  obtain⟨z,hd,vs,rel,dd⟩:=RV I.hok e;refine wpAny_in_of (Ra ry) hd dd.mapOf ?_;rw[←(rel.val k).isSome_eq,←l];exact h _ (I.tok _)
 .subst ey
  cases (ry);obtain⟨z,hd,xs,rel,dd⟩:=RU I.hok e;refine wpAny_in_heap (tupleKind_room_in1 hu) (R6 I.hok eb) hd dd ?_;have q:=(rel.val k).isSome_eq;rw[Option.isSome_map]at q;rw[←q,←l];exact h _ (I.tok _)
theorem jj  (hu:A.units+1<cLine)(I:Inv X pins σ H s)(g:YM H a y o)(ry:RelV y u)(h:∀s',Inv X pins σ H s'->Q (.bool (!o.isSome)) s') :
  UC (model X.prog X.w) A (UE .NotIn u (.ref a)) Q E s:=by
 rcases g with ⟨kvs,k,e,ey,l⟩|⟨kvs,k,b,e,ey,eb,l⟩
 .subst ey
  obtain⟨z,hd,vs,rel,dd⟩:=RV I.hok e;refine wpAny_notIn_of (Ra ry) hd dd.mapOf ?_;rw[←(rel.val k).isSome_eq,←l];exact h _ (I.tok _)
 .subst ey
  cases (ry);obtain⟨z,hd,xs,rel,dd⟩:=RU I.hok e;refine wpAny_notIn_heap (tupleKind_room_in1 hu) (R6 I.hok eb) hd dd ?_;have q:=(rel.val k).isSome_eq;rw[Option.isSome_map]at q;rw[←q,←l];exact h _ (I.tok _)
theorem NX   {ob}(I:Inv X pins σ H s)(mu:Mut (H a))(hs:Heap.SameBut a s.heap h')(he:∃q,h'.get? a=O q)(new:Yo X.prog X.w (upd H a ob) h' a ob) :
  Inv X pins σ (upd H a ob) {s with heap:=h',toks:=t'}:=
 I.write   mu (.inl zo) (λb q hb z=>(hs.2 b hb).trans z) he new
theorem LV     {kvs}{vs}(z:kvs.length<=UB)(hd:(a==sysModules)=zr)(rel:KV kvs vs)(dd:h'.DictOf (Y8 P w) a vs) :
  Yo P w H' h' a (.dK kvs):=⟨z,hd,vs,rel,dd⟩
theorem wp{H':Hp}{Q}(hu:A.units+1<cLine)(I:Inv X pins σ H s)(g:DPut H a y v H')(ry:RelV y u)(rv:RelV v r)(h:∀s',Inv X pins σ H' s'->Q () s') :
  UC (model X.prog X.w) A (setItem (.ref a) u r) Q E s:=by
 rcases g with ⟨kvs,k,e,ey,l,eH⟩|⟨kvs,k,b,e,ey,eb,l,eH⟩
 .subst ey eH
  obtain⟨z,hd,vs,rel,dd⟩:=Lq I.hok e;have hz:vs.length<=UB:=by rw[←rel.length];exact z
  have hl:(Zt kvs k v).length<=UB:=by have:=Ld kvs k v;omega
  refine wpAny_setItem_pairs (hsz:=hz) (Ra ry) dd λh' zS hs=>h _ ?_;have he:∃q,h'.get? a=O q:=let ⟨q,_,_,hq,_⟩:=zS;⟨q,hq⟩
  exact NX I (by rw[e];exact True.intro) hs he (LV hl hd (rel.put k rv) zS)
 .subst ey eH
  cases (ry);obtain⟨z,hd,xs,rel,dd⟩:=C4 I.hok e;have hz:xs.length<=UB:=by rw[←Paired.length rel];exact z
  have hl:(Zt kvs k v).length<=UB:=by have:=Ld kvs k v;omega
  refine wpAny_setItem_heap (hsz:=hz) (tupleKind_room_in1 hu) (R6 I.hok eb) dd λh' zS hs=>h _ ?_
  obtain⟨q,es,ep,hq,h2,h3,h4,_,h5⟩:=zS;refine NX I (by rw[e];exact True.intro) hs ⟨q,hq⟩ ⟨hl,hd,_,(rel.put k eb rv).keeps λc ys ec=>?_,q,es,ep,hq,h2,h3,h4,h5⟩;rw[KO (CO ec e (λz=>nomatch z))];exact ec
end
def Vo(i:UA):Prop:=∀ov iv,subscripted i zr ov iv=operate [ov,iv] (getItem ov iv)
theorem qd    {E}{s}{env:Env}{value slice}{pos}{T id}{Q}
  (hl:typeLookup (.type T) "__getitem__" = pure (O (.builtin id))) (hs:Vo slice)
  (h:UC (model prog w) A (eval value env) (λo s₁=>UC (model prog w) A (eval slice env) (λi s₂=>s₂.TypeIs o T/\UC (model prog w) A (getItem o i) Q E s₂) E s₁) E s) :
  UC (model prog w) A (eval (.Subscript value slice pos) env) Q E s:=by
 refine Subscript_ (QG h (λo s₁ h₁=>QG h₁ (λi s₂ h₂=>?_) λ_ _ x=>x) λ_ _ x=>x);obtain⟨hT,h₂⟩:=h₂;refine Qf ?_;refine Qf (wpAny_specialOf hT hl ?_);have fin:UC (model prog w) A (subscripted slice zr o i) (λr s₃=>UC (model prog w) A (letTemporaryGo value o r >>= λ_=>pure r) Q E s₃) E s₂:=by rw[hs o i];exact wpAny_operating (QG h₂ (λr s₃ h₃=>Qf (wpAny_letTemporaryGo (Qs h₃))) λ_ _ x=>x)
 first
  |exact Qs (Qf fin)
  |exact Qf _
  |exact Qf fin
theorem yz   {σ:St}{H}{s}{a}{y}{o}(I:Inv X pins σ H s)(g:YM H a y o):s.TypeIs (.ref a) "dict" :=by
 rcases g with ⟨kvs,k,e,_,_⟩|⟨kvs,k,b,e,_,_,_⟩
 .obtain⟨_,_,vs,_,dd⟩:=RV I.hok e
  exact dd.typeIs
 .obtain⟨_,_,xs,_,dd⟩:=RU I.hok e
  exact dd.typeIs
noncomputable def C3(td ty:TE):TE:=λσ H Q=>td σ H λx H1=>ty σ H1 λy H2=>∃a v,x=.ref a/\YM H2 a y (O v)/\Q v H2
noncomputable def tDIn(ty td:TE):TE:=λσ H Q=>ty σ H λy H1=>td σ H1 λx H2=>∃a o,x=.ref a/\YM H2 a y o/\Q (.bl o.isSome) H2
noncomputable def qc(ty td:TE):TE:=λσ H Q=>ty σ H λy H1=>td σ H1 λx H2=>∃a o,x=.ref a/\YM H2 a y o/\Q (.bl (!o.isSome)) H2
noncomputable def C0(td ty tv:TE):TS:=λD σ H=>tv σ H λv H1=>td σ H1 λx H2=>ty σ H2 λy H3=>∃a H4,x=.ref a/\DPut H3 a y v H4/\D.nx σ H4
section
variable{X:Cx}{o i e value:UA}{pos pos' tpos:Pos}{td ty tv:TE}
theorem GC(hu:X.A.units+1<cLine)(ho:PE X o td)(hi:PE X i ty)(hs:Vo i):PE X (.Subscript o i pos) (C3 td ty):=by intro pins s σ H Q I h;refine qd PySem.F.slot_dict_getitem.lookup hs (thn (ho pins s σ H _ I h) λu s1 ⟨x,H1,I1,rx,q1⟩=>thn (hi pins s1 σ H1 _ I1 q1) λiv s2 ⟨y,H2,I2,ry,a,v,ex,g,q2⟩=>?_);subst ex;obtain rfl:u=Value.ref a:=rx;exact⟨yz I2 g,wt hu I2 g ry λw' s3 I3 zV=>⟨v,H2,I3,zV,q2⟩⟩
theorem Be(hu:X.A.units+1<cLine)(hi:PE X i ty)(ho:PE X o td):PC X .In i o (tDIn ty td):=by intro pins s σ H Q I h;refine thn (hi pins s σ H _ I h) λiv s1 ⟨y,H1,I1,ry,q1⟩=>thn (ho pins s1 σ H1 _ I1 q1) λu s2 ⟨x,H2,I2,rx,a,ov,ex,g,q2⟩=>?_;subst ex;obtain rfl:u=Value.ref a:=rx;exact d_in hu I2 g ry λs3 I3=>⟨.bl ov.isSome,H2,I3,rfl,q2⟩
theorem wo(hu:X.A.units+1<cLine)(hi:PE X i ty)(ho:PE X o td):PC X .NotIn i o (qc ty td):=by intro pins s σ H Q I h;refine thn (hi pins s σ H _ I h) λiv s1 ⟨y,H1,I1,ry,q1⟩=>thn (ho pins s1 σ H1 _ I1 q1) λu s2 ⟨x,H2,I2,rx,a,ov,ex,g,q2⟩=>?_;subst ex;obtain rfl:u=Value.ref a:=rx;exact jj hu I2 g ry λs3 I3=>⟨.bl _,H2,I3,rfl,q2⟩
theorem qb(hu:X.A.units+1<cLine)(ho:PE X o td)(hi:PE X i ty)(hv:PE X value tv)(hs:swapsWith value (O (.Subscript o i pos')) pos.line X.env=pure zr) :
  PS X (.Assign [.Subscript o i pos'] value pos) (C0 td ty tv):=by
 intro pins s σ H D I h;refine wpAny_Assign_Subscript (thn (hv pins s σ H _ I h) λr s1 ⟨v,H1,I1,rv,q1⟩=>thn (ho pins s1 σ H1 _ I1 q1) λu s2 ⟨x,H2,I2,rx,q2⟩=>thn (hi pins s2 σ H2 _ I2 q2) λiv s3 ⟨y,H3,I3,ry,a,H4,ex,g,q3⟩=>?_) hs;subst ex;obtain rfl:u=Value.ref a:=rx;exact wp hu I3 g ry rv λs4 I4=>⟨σ,H4,I4,q3⟩
end
theorem xy    (h:Heap)(hb:sysModules<h.objs.size):Yo P w H (h.push {cls:=.type "dict", data:=.dict #[]}) h.objs.size (.dK []):=
 ⟨Uh _,beq_eq_false_iff_ne.mpr (Ne.symm (QY hb)),[],.nil,Heap.DictOf.new h⟩
noncomputable def P9:List (TE×TE)->St->Hp->(List (V×V)->Hp->Prop)->Prop
 |[],_,H,Q=>Q [] H
 |(tk,tv)::r,σ,H,Q=>tk σ H λx H1=>tv σ H1 λy H2=>P9 r σ H2 λps H3=>Q ((x,y)::ps) H3
noncomputable abbrev VV:List (V×V)->List (Uv×Uv)->Prop:=Paired λp q=>RelV p.1 q.1/\RelV p.2 q.2
def PPs(X:Cx)(pos:Pos)(keys:List (Option UA))(values:zy)(trs:List (TE×TE)):Prop:=
 ∀(pins:List (Uy×Obj))(s:Uw)(σ:St)(H:Hp)(Q:List (V×V)->Hp->Prop),Inv X pins σ H s->P9 trs σ H Q ->
  UC (model X.prog X.w) X.A (evalPairs (pairTrees keys values X.env pos)) (λvs s'=>∃ps H',Inv X pins σ H' s'/\VV ps vs/\Q ps H') X.xe s
theorem qa   : PPs X pos [] [] []:=λpins s σ H Q I h=>pairTrees_nil_walk ⟨[],H,I,.nil,h⟩
theorem xx   {k v}{ks}{vs}{tk tv}{trs}(hk:PE X k tk)(hv:PE X v tv)(hr:PPs X pos ks vs trs) :
  PPs X pos (O k::ks) (v::vs) ((tk,tv)::trs):=λpins s σ H Q I h=>
 pairTrees_cons_walk (thn (hk pins s σ H _ I h) λu s1 ⟨x,H1,I1,rx,q1⟩=>thn (hv pins s1 σ H1 _ I1 q1) λw2 s2 ⟨y,H2,I2,ry,q2⟩=>
  thn (hr pins s2 σ H2 _ I2 q2) λws s3 ⟨ps,H3,I3,rel,q3⟩=>⟨(x,y)::ps,H3,I3,.cons ⟨rx,ry⟩ rel,q3⟩)
noncomputable def V1(kvs more:List (Key×V)):List (Key×V):=more.foldl (λacc kv=>Zt acc kv.1 kv.2) kvs
theorem KV.merge:∀{more}{rs}{kvs}{vs},KV more rs->KV kvs vs->KV (V1 kvs more) (merged vs rs):=by
 intro more rs kvs vs r;induction r generalizing kvs vs with
 |nil=>intro q;exact q
 |@cons p q ps qs h t ih=>
  intro r0;have e:KV (Zt kvs p.1 p.2) (stored vs q.1 q.2):=by have:=r0.put p.1 h.2;simp_all
  exact ih e
theorem Dl:∀(more kvs),(V1 kvs more).length<=kvs.length+more.length
 |[],kvs=>by show kvs.length<=kvs.length+0;omega
 |p::r,kvs=>by
  have h1:=Dl r (Zt kvs p.1 p.2);have h2:=Ld kvs p.1 p.2
  show(V1 _ r).length<=_
  grind
theorem EY   : ∀{kvs}{ws},VV (kvs.map λkv=>(kV kv.1,kv.2)) ws->∃rs,Carries (Y8 P w) ws rs/\KV kvs rs
 |[],_,r=>by cases r;exact⟨[],True.intro,.nil⟩
 |p::kvs,_,r=>by
  cases r with
  |@cons a b as bs h t=>obtain⟨rs,c,q⟩:=EY (P:=P) (w:=w) t;obtain⟨b1,b2⟩:=b;exact⟨(p.1,b2)::rs,⟨Ra h.1,rfl,c⟩,.cons ⟨rfl,h.2⟩ q⟩
end L2
namespace L2
open PySem PySem.Spec
def Tail(bmB bm:zA):Prop:=∀(X:String)(b:Bool),bmB.contains (.type X)=b->bm.contains (.type X)=b
theorem Tail.base{bmB:zA}:Tail bmB bmB:=λ_ _ h=>h
theorem Tail.own   (T:Tail bmB bm):Tail bmB (.ref D::bm):=λX b h=>by rw[JL,T X b h];rfl
def ZX(M:Model)(C:Uy)(name:Str)(r:zB)(h:Heap):Prop:=∀(A:Around)(E:Uv->Uw->Prop)(Q:zB->Uw->Prop)(h':Heap)(g:Array GenState)(d:Drawn)(t:Nat)(os:OsState),
 (∀b o,h.get? b=O o->h'.get? b=O o)->Q r ⟨h',g,d,t,os⟩->UC M A (typeLookup (.ref C) name) Q E ⟨h',g,d,t,os⟩
theorem ZX.keeps      (x:ZX M C name r h)(k:∀b o,h.get? b=O o->h'.get? b=O o):ZX M C name r h':=
 λA E Q h2 g d t os k2 q=>x A E Q h2 g d t os (λb o e=>k2 b o (k b o e)) q
theorem ZX.at    {Q}{C}{name}{r}{h}{g}{d}{t}{os}(x:ZX M C name r h)(q:Q r ⟨h,g,d,t,os⟩):UC M A (typeLookup (.ref C) name) Q E ⟨h,g,d,t,os⟩:=
 x A E Q h g d t os (λ_ _ e=>e) q
section
variable{prog:Ux}{w:World}{A:Around}{E:Uv->Uw->Prop}{h:Heap}{g:Array GenState}{d:Drawn}{t:Nat}{os:OsState}{R:Result->Uw->Prop}
variable{nm q:Str}{C N x:Uy}{bs bm bmB:zA}{hdct:Bool}{sn:List Str}{sub:zA}{ab:Bool}{col:zK}{dd:zJ}{k0 k1 k2 k3 k5:zB}{B newId sa owner:String}{mN mA:Str->zB}{name:Str}{v:Uv}
def Xd(M:Model)(l:zA)(name:Str)(r:zB)(h:Heap):Prop:=∀(A:Around)(E:Uv->Uw->Prop)(Q:zB->Uw->Prop)(h':Heap)(g:Array GenState)(d:Drawn)(t:Nat)(os:OsState),
 (∀b o,h.get? b=O o->h'.get? b=O o)->Q r ⟨h',g,d,t,os⟩->UC M A (lookupAlong l name) Q E ⟨h',g,d,t,os⟩
theorem Xd.base  {y}(hm:mroOf (.type B)=pure bm)(hB:typeLookup (.type B) name=pure y):Xd M bm name y h:=λA E Q h' g d t os k q=>by rw[typeLookup_eq,hm]at hB;have hrest:lookupAlong bm name=pure y:=hB;rw[hrest];exact Qs q
theorem Xd.hit  {D}{c0}{zS}{cd}{sl}(hD:h.get? D=O {cls:=c0,dict:=zS,data:=.cls cd,slots:=sl})(hn:h.Ns cd.ns mN)(hi:mN name=O v):Xd M (.ref D::bm) name (O v) h:=λA E Q h' g d t os k q=>by rw[lookupAlong_cons];refine Qf (wpAny_classOwn_cls (k _ _ hD) (hn.keeps k) ?_);rw[hi];exact Qs q
theorem Xd.miss  {D}{r}{c0}{zS}{cd}{sl}(hD:h.get? D=O {cls:=c0,dict:=zS,data:=.cls cd,slots:=sl})(hn:h.Ns cd.ns mN)(hi:mN name=zp)(f:Xd M bm name r h):Xd M (.ref D::bm) name r h:=λA E Q h' g d t os k q=>by rw[lookupAlong_cons];refine Qf (wpAny_classOwn_cls (k _ _ hD) (hn.keeps k) ?_);rw[hi];exact f A E Q h' g d t os k q
theorem ZX.of   (hC:h.get? C=O (excClassObj nm q C N bs bm hdct sn sub ab col dd k0 k1 k2 k3 k5 newId))(f:Xd M (.ref C::bm) name r h):ZX M C name r h:=λA E Q h' g d t os k q=>by rw[typeLookup_eq];exact Qf (wpAny_mroOf_exc (k _ _ hC) (f A E Q h' g d t os k q))
theorem wn{M:Model}{o:Obj}{nameV:Uv}{Q:Unit->Uw->Prop}(T:Tail bmB bm)(hb:bmB.contains (.type "BaseException")=zq)(hC:h.get? C=O (excClassObj nm q C N bs bm hdct sn sub ab col dd k0 k1 k2 k3 k5 newId))
  (hx:h.get? x=O o) (hc:o.cls=.ref C) (hq:Q () ⟨h,g,d,t,os⟩):UC M A (checkBuiltinCall "BaseException.__getattribute__" ⟨[.ref x,nameV],[]⟩) Q E ⟨h,g,d,t,os⟩:=by
 have hk:builtinKind "BaseException.__getattribute__" = O .slot:=by decide +kernel
 have hsplit:splitId "BaseException.__getattribute__" = O ("BaseException", "__getattribute__"):=by decide +kernel
 have aZ:(Value.ref C::bm).contains (.type "BaseException")=zq:=by rw[JL,T _ _ hb];rfl
 have ha:=PySem.F.args_bexc_ga (.ref x) nameV;simp only[checkBuiltinCall,hk,hsplit];refine Qf ?_
 .unfold isInstance
  repeat (first|(with_reducible refine QP hx ?_;rw[hc])|(with_reducible refine Jc hC ?_;rw[aZ])|wp_step)
  exact hq
end
theorem Vi   (f)(h:o.data=.fields vs):Obj.mapFields f o = {o with data:=.fields (f vs)}:=by obtain⟨c,d,dt,sl⟩:=o;cases h;rfl
def Tb(h:Heap)(e:Uy)(vs:Array Uv)(fl:Uv):Prop:=∃T oT ts,vs[1]?=O (.ref T)/\T≠e/\h.get? T=O oT/\oT.data=.fields ts/\ts[3]?=O fl
def Fly(c:Bool)(h:Heap)(e:Uy):Prop:=∃oe vs,h.get? e=O oe/\oe.data=.fields vs/\(vs[1]?=O .none∨Tb h e vs .none)/\(c=zq->vs[2]?=O .none)
structure NE(fs:zE)(e:Uy)(h h':Heap):Prop where
 keep:∀b o,b≠e->b∉fs->h.get? b=O o->h'.get? b=O o
 slot:∀b o,b≠e->h.get? b=O o->∃sl,h'.get? b=O {o with slots:=sl}
 own:∀oe,h.get? e=O oe->∃vs,h'.get? e=O {oe with data:=.fields vs}
section
variable{M:Model}{A:Around}{E:Uv->Uw->Prop}{s:Uw}{base:Heap}{env:Env}{outer:List Env}{L e:Uy}{c:Bool}
theorem newEntry{oe:Obj}{vs:Array Uv}{head:Uv}{hadNext:Bool}{Q:Unit->Uw->Prop}(hfr:A.frames=O (env::outer))(hl:s.heap.FunFrames base (env::outer))(hf:env.frame=O L)
  (he:s.heap.get? e=O oe) (hd:oe.data=.fields vs) (hsz:1<vs.size) (hc2:c=zq->vs[2]?=O .none)
  (h:∀h',NE (frs (env::outer)) e s.heap h'->Fly c h' e->Q () {s with heap:=h'}) :
  UC M A (do let a ←frameOf env;let pl ←entryPlaceOf L hadNext;let b ←EntryCells.newEntry head a .none (rawInt L) .none pl;setField (.ref e) 1 b) (λ_ s'=>UC M A (setFlight (.ref e) zp) Q E s') E s:=by
 have hene:e∉(env::outer).filterMap (·.frame):=λhm=>by obtain⟨_,o,ho,hnf⟩:=hl.mem hm;rw[he]at ho;injection ho with ho;subst ho;exact hnf vs hd
 refine Qf (wpAny_frameOf_fun hfr hl hf λh₁ hs₁=>?_);refine Qf (wpAny_entryPlaceOf λpl hpl=>?_);unfold EntryCells.newEntry newFields;refine Qf (wpAny_newObj_type ?_ (hpl.sizeOk5 _ _ _ _ _));have he₁:h₁.get? e=O oe:=(hs₁.2.1 e hene).trans he;have he₂:=Qm (h:=h₁) {cls:=.type "traceback", dict:=zp,data:=.fields ([head,.ref L,.none,rawInt L,.none]++(if pl.isEmpty then UG 6 Value.none else pl)).toArray} he₁;refine wpAny_setField he₂ hd hsz ?_;have bw:h₁.objs.size≠e:=JQ (Qk he₁);have hd₃:=Obj.data_mapFields hd (·.setIfInBounds 1 (Value.ref h₁.objs.size));have he₃:=Heap.get?_update_self (Obj.mapFields (·.setIfInBounds 1 (Value.ref h₁.objs.size))) he₂ (Obj.isFreed_of_fields hd₃)
 have hT₃:=(Q5 (h₁.push {cls:=.type "traceback", dict:=zp,data:=.fields ([head,.ref L,.none,rawInt L,.none]++(if pl.isEmpty then UG 6 Value.none else pl)).toArray})
  (Obj.mapFields (·.setIfInBounds 1 (Value.ref h₁.objs.size))) (Ne.symm bw)).trans (QE h₁ zo)
 unfold setFlight;refine wpAny_bind (wpAny_field he₃ hd₃ (x:=.ref h₁.objs.size) (by simp[hsz]) ?_);refine wpAny_setField hT₃ zo (by simp only[Jk,Qi,Qz,Qw]<;>lia) (h _ ?_ ?_)
 .have keep:∀b o,b≠e->h₁.get? b=O o ->
    (((h₁.push {cls:=.type "traceback", dict:=zp,data:=.fields ([head,.ref L,.none,rawInt L,.none]++(if pl.isEmpty then UG 6 Value.none else pl)).toArray}).update e (Obj.mapFields (·.setIfInBounds 1 (Value.ref h₁.objs.size)))).update h₁.objs.size
     (Obj.mapFields (·.setIfInBounds 3 ((none:zJ).elim Value.none λf=>rawInt f)))).get? b=O o:=λb o zU hb=>by
   have aB:h₁.objs.size≠b:=JQ (Qk hb);rw[Q5 _ _ aB,Q5 _ _ (Ne.symm zU)];exact Qm _ hb
  refine⟨λb o hb hf hg=>keep b o hb ((hs₁.2.1 b hf).trans hg),λb o hb hg=>?_,λoe' z=>?_⟩
  .obtain⟨sl,hs⟩:=hs₁.2.2 b o hg
   exact⟨sl,keep b _ hb hs⟩
  .rw[he]at z;cases z
   exact⟨_,by rw[Q5 _ _ bw,he₃,Vi _ hd]⟩
 .refine⟨_,_,?_,hd₃,.inr ⟨h₁.objs.size,_,_,by simp[hsz],bw,Heap.get?_update_self _ hT₃ (Obj.isFreed_of_fields (Obj.data_mapFields rfl _)),Obj.data_mapFields rfl _,by first|(simp;done)|(rcases hpl with rfl|⟨_,_,_,_,_,_,_,rfl⟩<;>simp)⟩,?_⟩
  .rw[Q5 _ _ bw];exact he₃
  .intro z;rw[Array.getElem?_setIfInBounds_ne (by decide)];exact hc2 z
theorem note  (hfr:A.frames=O (env::outer))(hl:s.heap.FunFrames base (env::outer))(hf:env.frame=O L)(x:Fly c s.heap e)
  (h:∀h',NE (frs (env::outer)) e s.heap h'->Fly c h' e->Q () {s with heap:=h'}):UC M A (noteFrame (.ref e) env) (λ_ s'=>UC M A (setFlight (.ref e) zp) Q E s') E s:=by
 obtain⟨oe,vs,he,hd,h1,h2⟩:=x;unfold noteFrame;simp only[hf];rcases h1 with h1|⟨T,oT,ts,h1,bw,hT,ar,h3⟩
 .refine Qf (Jj he hd h1 ?_)
  exact newEntry hfr hl hf he hd (JB.mp h1).1 h2 h
 .refine Qf (Jj he hd h1 ?_)
  refine Qf (Jj hT ar h3 ?_);obtain⟨hs3,hv3⟩:=JB.mp h3;refine Qf (wpAny_setField hT ar hs3 ?_)
  have same:∀b o,s.heap.get? b=O o->(s.heap.update T (Obj.mapFields (·.setIfInBounds 3 Value.none))).get? b=O o:=λb o hb=>by
   by_cases aB:b=T
   .subst aB
    rw[hT]at hb;cases hb;rw[Heap.get?_update_self _ hT (Obj.isFreed_of_fields (Obj.data_mapFields ar _)),Vi _ ar]
    have:ts.setIfInBounds 3 Value.none=ts:=by
     apply Array.ext_getElem?;intro i;rw[Array.getElem?_setIfInBounds];split
     .rename_i z
      subst z;exact h3.symm
     .rfl
    rw[this,←ar]
   .rw[Q5 _ _ (Ne.symm aB)];exact hb
  exact newEntry hfr (hl.of_keeps λb o hb hnf=>⟨o,same b o hb,rfl⟩) hf (same e oe he) hd (JB.mp h1).1 h2
   λh' p t=>h h' ⟨λb o a c g=>p.keep b o a c (same b o g),λb o a g=>p.slot b o a (same b o g),λoe' z=>p.own oe' (same e oe' z)⟩ t
end
end L2
namespace L2
open PySem PySem.Spec PyProof.Rows PySem.Calls PyProof.V
noncomputable def XO(fr:Bool)(e C:Uy)(dd:zJ):Heap->Prop:=λh=>∃vs sl,h.get? e=O {cls:=.ref C,dict:=dd,data:=.fields vs,slots:=sl}/\(fr=zq->vs[1]?=O .none/\(∃t0,vs[0]?=O (.ref t0))/\vs[2]?=O .none/\4<vs.size)
theorem XO.ok    {h}{fr}{e C}{dd}(x:XO fr e C dd h):Yo P w H h e (.ext (XO fr e C dd)):=
 ⟨x,let ⟨_,_,q,_⟩:=x;⟨_,q⟩,λh1 h2 ⟨vs,sl,q,z⟩ k=>⟨vs,sl,k _ q,z⟩⟩
section
variable{X:Cx}{pins:List (Uy×Obj)}{σ:St}{H:Hp}{s:Uw}{e C:Uy}{dd:zJ}{h':Heap}
theorem Inv.passed(I:Inv X pins σ H s)(hx:H e=O (.ext (XO zr e C dd)))(p:NE (frs X.stack) e s.heap h'):Inv X pins σ H {s with heap:=h'}:=by
 have ne:∀b,H b=zp->b≠e:=λb n z=>by rw[z,hx]at n;cases n
 refine I.call    (ch:=[]) ⟨λb o g n f _=>p.keep b o (ne b n) f g,λb o g n _ _=>p.slot b o (ne b n) g,λb o _ n _=>n,λb o g _=>?_,λ_ _ z=>z,λ_ _ _ z=>z,λb ps z=>⟨#[],by rw[z];simp⟩⟩ (λa o q=>?_) I.bare λb z=>absurd z (by simp)
 .by_cases hb:b=e
  .subst hb
   obtain⟨vs,z⟩:=p.own o g;exact⟨_,z⟩
  .obtain⟨sl,z⟩:=p.slot b o hb g
   exact⟨_,z⟩
 .by_cases ha:a=e
  .subst ha
   rw[hx]at q;cases q;obtain⟨⟨vs,sl,g,_⟩,_,_⟩:=I.hok a _ hx;obtain⟨vs',z⟩:=p.own _ g;exact XO.ok ⟨vs',sl,z,λz=>nomatch z⟩
  .refine(I.hok a o q).stay (λb u hb g=>p.keep b u ?_ (λz=>?_) g) (λ_ z=>z) λ_ _ z=>z
   .rcases hb with rfl|hb
    .exact ha
    .rintro rfl;rw[hx]at hb;cases hb
   .have n:=I.stkFree b z
    rcases hb with rfl|hb
    .rw[q]at n;cases n
    .rw[hb]at n;cases n
def NC(c:Bool)(X:Cx)(KX:V->St->Hp->Prop):Prop:=∀(pins:List (Uy×Obj))(σ:St)(H:Hp)(s:Uw)(e C:Uy)(dd:zJ),Inv X pins σ H s->H e=O (.ext (XO zr e C dd))->Fly c s.heap e->KX (.ref e) σ H->X.xe (.ref e) s
end
noncomputable abbrev VB:zA:=[.type "ValueError", .type "Exception", .type "BaseException", .type "object"]
structure XCls(M:Model)(base:Heap)(C:Uy)(bm:zA)(fI:Uy):Prop where
 obj:∃nm q N bs sn sub ab col dd k0 k1 k2 k3 k5,base.get? C=O (excClassObj nm q C N bs bm zq sn sub ab col dd k0 k1 k2 k3 k5 "ValueError.__new__")
 tail:Tail VB bm
 init:ZX M C "__init__" (O (.ref fI)) base
 fn:∃o,base.get? fI=O o/\o.cls=.type "function"
 sa:ZX M C "__setattr__" (O (.builtin "object.__setattr__")) base
 ga:ZX M C "__getattribute__" (O (.builtin "BaseException.__getattribute__")) base
 gh:ZX M C "__getattr__" none base
 cl:ZX M C "__class__" (O (.builtin "object.__class__")) base
 pass:∀v,refuseLoop v "__setattr__" bm=pure ()
section
variable{M:Model}{A:Around}{E:Uv->Uw->Prop}{h:Heap}{g:Array GenState}{d:Drawn}{t:Nat}{os:OsState}
variable{nm q br q':Str}{C N D N' a:Uy}{bs bm bs' bm':zA}{hdct am:Bool}{sn sn':List Str}{sub sub':zA}{ab bj:Bool}{col col':zK}{dd zS:zJ}{k0 k1 k2 k3 k5 j0 j1 j2 j3 j5:zB}{newId newId':String}
theorem xw{o:Obj}{b:Bool}{Q}(hC:h.get? C=O (excClassObj nm q C N bs bm hdct sn sub ab col dd k0 k1 k2 k3 k5 newId))(hD:h.get? D=O (excClassObj br q' D N' bs' bm' am sn' sub' bj col' zS j0 j1 j2 j3 j5 newId'))
  (hbase:bm'.contains (.type "BaseException")=zq) (ha:h.get? a=O o) (hc:o.cls=.ref C) (hb:(Value.ref C::bm).contains (.ref D)=b) (hq:Q b ⟨h,g,d,t,os⟩):UC M A (excMatches (.ref a) (.ref D)) Q E ⟨h,g,d,t,os⟩:=by
 have aZ:(Value.ref D::bm').contains (.type "BaseException")=zq:=by rw[JL,hbase,Bool.or_true]
 have f1:=tc_notTuple
 repeat (any_goals (first|assumption|(with_reducible rw[hc])|with_reducible refine QP hD ?_|with_reducible refine QP hC ?_|(with_reducible refine Jc hD ?_;rw[aZ])|(with_reducible refine Jc hC ?_;rw[hb])|wp_step))
 cases b<;>(wp_walk;exact hq)
end
section
variable{X:Cx}{k:Nat}{f:Uy}{fd:Uz}{ps:List Str}{sp:Sp}{x n:Str}{p pos np hpos:Pos}{e:UA}{es:zy}{t:TA}{KX:V->St->Hp->Prop}
noncomputable abbrev Cx.suite(X:Cx)(a:Uy):Cx:={X with A:=X.A.mark (O (.ref a)),calm:=zr,xe:=λ_ _=>False}
theorem Cx.Ok.suite(ok:X.Ok)(a):(X.suite a).Ok:=
 ⟨ok.mod,ok.kind,ok.glob,ok.blt,ok.above,ok.inj,ok.has,ok.cab,λz=>(nomatch z),ok.frames,ok.stk,ok.exf,ok.bs,ok.bsz,ok.noex,ok.exfs,ok.funs,ok.frf⟩
theorem Inv.suite  {σ:St}{H}{s}(I:Inv X pins σ H s)(a):Inv (X.suite a) pins σ H s:=⟨I.ok.suite a,I.os,I.bare,I.base,I.loc,I.cell,I.free,I.freeC,I.pin,I.hok,I.len⟩
theorem Inv.unsuite  {σ σ':St}{H H':Hp}{s s'}{a}(I0:Inv X pins σ H s)(I:Inv (X.suite a) pins σ' H' s'):Inv X pins σ' H' s':=⟨I0.ok,I.os,I.bare,I.base,I.loc,I.cell,I.free,I.freeC,I.pin,I.hok,I.len⟩
theorem wS    {E}{s:Uw}{a:Uy}{Q}(fl:Fly c s.heap a)(h:∀h',(∀b o,s.heap.get? b=O o->h'.get? b=O o)->Q () {s with heap:=h'}):UC M A (setFlight (.ref a) zp) Q E s:=by
 obtain⟨oe,vs,he,hd,h1,_⟩:=fl;rcases h1 with h1|⟨T,oT,ts,h1,bw,hT,ar,h3⟩
 .refine Qf (Jj he hd h1 ?_)
  exact Qs (h s.heap λ_ _ q=>q)
 .obtain⟨hs3,hv3⟩:=JB.mp h3
  refine Qf (Jj he hd h1 ?_);refine wpAny_setField hT ar hs3 (h _ λb o hb=>?_);by_cases aB:b=T
  .subst aB
   rw[hT]at hb;cases hb;rw[Heap.get?_update_self _ hT (Obj.isFreed_of_fields (Obj.data_mapFields ar _)),Vi _ ar];have   :=Array.setIfInBounds_same _ _ _ h3;show O {oT with data:=.fields (ts.setIfInBounds 3 Value.none)}=_;rw[this,←ar]
  .rw[Q5 _ _ (Ne.symm aB)];exact hb
noncomputable abbrev Cx.tried(X:Cx)(W:Uv->Uw->Prop)(pins:List (Uy×Obj)):Cx:={X with xe:=W,pn:=X.pn++pins}
theorem Inv.tried  {σ:St}{H}{s}(I:Inv X pins σ H s)(W):Inv (X.tried W pins) [] σ H s:=
 ⟨⟨I.ok.mod,I.ok.kind,I.ok.glob,I.ok.blt,I.ok.above,I.ok.inj,I.ok.has,I.ok.cab,I.ok.hd,I.ok.frames,I.ok.stk,I.ok.exf,I.ok.bs,I.ok.bsz,I.ok.noex,I.ok.exfs,I.ok.funs,I.ok.frf⟩,I.os,I.bare,I.base,I.loc,I.cell,I.free,I.freeC,λp hp=>I.pin p (by simpa using hp),I.hok,I.len⟩
theorem Inv.untried  {σ σ':St}{H H'}{s s'}{W}(I0:Inv X pins σ H s)(I:Inv (X.tried W pins) pins' σ' H' s'):Inv X pins σ' H' s':=
 ⟨I0.ok,I.os,I.bare,I.base,I.loc,I.cell,I.free,I.freeC,λp hp=>I.pin p (QU _ hp),I.hok,I.len⟩
noncomputable def Nd(KC:Uy->zA->Prop)(D:Uy)(ts:TS)(Dn:Ends):V->St->Hp->Prop:=λv σ H=>∃a C dd bm,v=.ref a/\KC C bm/\H a=O (.ext (XO zr a C dd))/\(Value.ref C::bm).contains (.ref D)=zq/\ts Dn σ H
noncomputable def DR(KC:Uy->zA->Prop)(D:Uy)(tb:(V->St->Hp->Prop)->TS)(ts:TS):TS:=λDn σ H=>tb (Nd KC D ts Dn) Dn σ H
theorem A9  {D fD:Uy}{bmD:zA}{tb}{ts:TS}{body suite:List Stmt}{b₀:Stmt}{st:List Env}(aj:X.stack=X.env::st)(hfr:X.env.frame=O X.env.locals)
  (hcls:∀C bm,KC C bm->∃fI,XCls (model X.prog X.w) X.base C bm fI) (hD:XCls (model X.prog X.w) X.base D bmD fD) (hg:Gl X x) (hm:X.mg x=O (.ref D))
  (hb:∀(KX:V->St->Hp->Prop)(W:Uv->Uw->Prop)(pn:List (Uy×Obj)),NC zr (X.tried W pn) KX->PSs (X.tried W pn) body (tb KX)) (hs:∀a,PSs (X.suite a) (b₀::suite) ts) (hdb:(x==("__debug__" : Str))=zr:=by decide) :
  PS X (.Try body [.ExceptHandler (O (.Name x np)) zp (b₀::suite) hpos] [] [] pos) (DR KC D tb ts):=by
 intro pins s σ H Dn I h;refine wpAny_Try_except ?_
 let W:Uv->Uw->Prop:=λv s1=>∃a σ1 H1,v=.ref a/\Inv X pins σ1 H1 s1/\Fly zr s1.heap a/\Nd KC D ts Dn (.ref a) σ1 H1
 have hw:NC zr (X.tried W pins) (Nd KC D ts Dn):=λpins' σ1 H1 s1 a C dd I1 hx fl hk=>⟨a,σ1,H1,rfl,I.untried I1,fl,hk⟩;refine QG (hb _ W pins hw [] s σ H Dn (I.tried W) h) (λf s1 h1=>?_) λv s1 h1=>?_
 .cases f with
  |next=>obtain⟨σ',H',I',q⟩:=h1;exact wpAny_execs_nil ⟨σ',H',I.untried I',q⟩
  |brk=>obtain⟨σ',H',I',q⟩:=h1;exact⟨σ',H',I.untried I',q⟩
  |cont=>obtain⟨σ',H',I',q⟩:=h1;exact⟨σ',H',I.untried I',q⟩
  |ret u=>obtain⟨v,σ',H',I',r,q⟩:=h1;exact⟨v,σ',H',I.untried I',r,q⟩
 .obtain⟨a,σ1,H1,rfl,I1,fl,a',C,dd,bm,ea,kc,hx,hm',q⟩:=h1
  cases ea;obtain⟨fI,XC⟩:=hcls C bm kc;have hk:=I1.ok.frames;rw[aj]at hk;have hS:=I1.stack;rw[aj]at hS;refine note hk hS hfr fl λh2 p2 fl2=>?_;rw[←aj]at p2;have I2:=I1.passed hx p2;refine wpAny_handleBy_cons (codeAny_handlers_test ?_) (by intro q;cases q)
  refine N5 (I2.suite a) hg hm ?_ hdb;obtain⟨nm,qn,N,bs,sn,sub,ab,col,dd1,k0,k1,k2,k3,k5,hC⟩:=XC.obj;obtain⟨br,qn',N',bs',sn',sub',bj,col',dd2,j0,j1,j2,j3,j5,ae⟩:=hD.obj;obtain⟨⟨vs,sl,ga,_⟩,_,_⟩:=I2.hok a _ hx;refine xw (I2.bk _ _ hC) (I2.bk _ _ ae) (hD.tail _ _ zo) ga zo hm' ?_;refine codeAny_handlers_suite (wS fl2 λh3 k3=>?_);have I3:=I2.kept (t':=s1.toks) k3;refine QG (hs a pins _ _ H1 _ (I3.suite a) q) (λf s5 h5=>?_) λ_ _ z=>z.elim
  cases f with
  |next=>obtain⟨σ',H',I',q'⟩:=h5;exact⟨σ',H',I3.unsuite I',q'⟩
  |brk=>obtain⟨σ',H',I',q'⟩:=h5;exact⟨σ',H',I3.unsuite I',q'⟩
  |cont=>obtain⟨σ',H',I',q'⟩:=h5;exact⟨σ',H',I3.unsuite I',q'⟩
  |ret u=>obtain⟨v,σ',H',I',r,q'⟩:=h5;exact⟨v,σ',H',I3.unsuite I',r,q'⟩
end
section
variable{prog:Ux}{w:World}{A:Around}{E:Uv->Uw->Prop}{h:Heap}{g:Array GenState}{d:Drawn}{t:Nat}{os:OsState}
variable{nm q:Str}{C N a:Uy}{bs bm bmB:zA}{hdct:Bool}{sn:List Str}{sub:zA}{ab:Bool}{col:zK}{dd:zJ}{k0 k1 k2 k3 k5:zB}{B newId initId nid:String}
theorem yy(F:ExcBaseFacts B nid initId bmB)(T:Tail bmB bm){M:Model}{oe:Obj}{rest:zA}{Q}
  (hC:h.get? C=O (excClassObj nm q C N bs bm hdct sn sub ab col dd k0 k1 k2 k3 k5 newId)) (he:h.get? a=O oe) (hcls:oe.cls=.ref C) (hq:Q () ⟨h,g,d,t,os⟩) :
  UC M A (checkBuiltinCall initId ⟨.ref a::rest,[]⟩) Q E ⟨h,g,d,t,os⟩:=by
 have aZ:(Value.ref C::bm).contains (.type B)=zq:=by rw[JL,T _ _ F.hasB,Bool.or_true]
 have hshort:=F.noStar;simp only[checkBuiltinCall,F.initKind,F.initSplit,F.initRow]
 repeat (first|(with_reducible rw[hcls])|with_reducible refine QP hC ?_|(with_reducible refine Jc hC ?_;rw[aZ])|wp_step)
 rw[show ∀(x1 x2:String)(n:Nat),Bind.check ⟨.positional, "*", B,.self,[⟨"args", .varPos,zr⟩]⟩ x1 x2 n (List.map (λx=>x.fst) ({pos:=Value.ref a::rest}:Args).kw)=pure ()from
  λ_ _ n=>check_star_args _ _ _ _ _ _]
 exact Qs hq
theorem wR(F:ExcBaseFacts B nid initId bmB)(T:Tail bmB bm){oe:Obj}{vs:Array Uv}{u:Uv}{Q}
  (hC:h.get? C=O (excClassObj nm q C N bs bm hdct sn sub ab col dd k0 k1 k2 k3 k5 newId)) (he:h.get? a=O oe) (hcls:oe.cls=.ref C) (hd:oe.data=.fields vs) {t0:Uy} (h0:vs[0]?=O (.ref t0))
  (hq:∀h',(∀b o,b≠a->h.get? b=O o->h'.get? b=O o)->(∃y,h'.get? a=O {oe with data:=.fields (vs.setIfInBounds 0 (.ref y))})->Q .none ⟨h',g,d,t,os⟩) :
  UC (model prog w) A (call (.builtin initId) [.ref a,u]) Q E ⟨h,g,d,t,os⟩:=by
 refine wpAny_call (JA F.init.plain F.initEntry (yy F T hC he hcls ?_));have he₂:(h.push {cls:=.type "tuple", data:=.seq #[u]}).get? a=O oe:=Qm _ he;have hz:0<vs.size:=(JB.mp h0).1
 repeat (first|with_reducible refine Jj he₂ hd h0 ?_|with_reducible refine wpAny_setField he₂ hd hz ?_|wp_step)
 have he₃:=Heap.get?_update_self (Obj.mapFields (·.setIfInBounds 0 (Value.ref h.objs.size))) he₂ (Obj.isFreed_of_fields (Obj.data_mapFields hd _));refine hq _ (λb o hb g=>?_) ⟨_,by rw[he₃,Vi _ hd]⟩;rw[Q5 _ _ (Ne.symm hb)];exact Qm _ g
end
theorem A8:PySem.W.handedIn (.builtin "ValueError.__init__")=zq:=by decide +kernel
theorem Bd{h:Heap}:PySem.W.Frag.In [] h:=λa o z=>by cases z
theorem A7:typeOf (.type "ValueError")=pure (.type "type"):=by kernel_rfl
theorem A6:Manifest.isStub "ValueError" = zr:=by decide +kernel
theorem A5:PySem.W.findCls [] (.type "ValueError") (.type "type") "__init__" = O (.val (.builtin "ValueError.__init__")):=by kernel_rfl
section
variable{X:Cx}{k:Nat}{f D:Uy}{fd:Uz}{ps:List Str}{sp:Sp}{x:Str}{p pos apos:Pos}{e:UA}{es:zy}{t:TA}
noncomputable def LU(KC:Uy->zA->Prop)(t:TA):TE:=λσ H Q=>t σ H λvs H1=>∃a C dd bm u,vs=[.ref a,u]/\KC C bm/\H1 a=O (.ext (XO zq a C dd))/\Q .non H1
theorem xu{KC:Uy->zA->Prop}{pl:Sem Bool}(hcls:∀C bm,KC C bm->∃fI,XCls (model X.prog X.w) X.base C bm fI)(hg:Gl X "ValueError")(hm:X.mg "ValueError" = zp)(ha:PA X (e::es) t)
  (hst:UD (e::es) X.env=(zr,eval e X.env)::UD es X.env:=by rfl) (hpl:(backTo pos (UD es X.env)).any (·.1)=zr:=by rfl)
  (ht:eval (.Call (.Attribute (.Name "ValueError" p) "__init__" apos) (e::es) [] pos) X.env=(do
   let ov ←eval (.Name "ValueError" p) X.env
   standAt apos.atName
   let (f,first) ←holding [ov] (getMethod ov "__init__" pl)
   callWith pos f first (backTo pos (UD (e::es) X.env)) (backToKw pos (keywordEach [] X.env))):=by rfl) :
  PE X (.Call (.Attribute (.Name "ValueError" p) "__init__" apos) (e::es) [] pos) (LU KC t):=by
 intro pins s σ H Q I h;have hB:bootBuiltins "ValueError" = O (.type "ValueError"):=by decide +kernel
 refine PySem.W.methodCall_KW (pl:=pl) (WV I hg hm hB ?_) ht;obtain⟨m,Fm⟩:=I.fr;refine PySem.W.method_type (K:=[])  Fm Bd A7 A6 A5 A8 ?_;refine PyProof.Rows.callWith_builtin1 (thn (ha pos pins _ σ H _ (I.tok _) h) λus s1 ⟨vs,H1,I1,r1,a,C,dd,bm,u,ev,kc,hx,q⟩=>?_) hst hpl;subst ev;cases r1 with
 |cons ra r1=>
 cases r1 with
 |cons ru r1=>
 cases r1;have ra':_=Value.ref a:=ra;subst ra';obtain⟨fI,XC⟩:=hcls C bm kc;obtain⟨nm,qn,N,bs,sn,sub,ab,col,dd1,k0,k1,k2,k3,k5,hC⟩:=XC.obj;obtain⟨⟨vs,sl,ga,z⟩,_,_⟩:=I1.hok a _ hx;obtain⟨z1,⟨t0,z0⟩,z2⟩:=z zo;obtain⟨hp,g,d,tk,os⟩:=s1;refine wR PySem.F.excBase_ValueError XC.tail (I1.bk _ _ hC) ga zo zo z0 λh' k ⟨y,hy⟩=>?_;have hw:=I1.write (x:=a) (e:=a) (o:=.ext (XO zq a C dd)) (t':=tk) (h':=h') (by rw[hx];trivial) (.inl zo) k ⟨_,hy⟩ (XO.ok ⟨_,sl,hy,λ_=>⟨by rw[Array.getElem?_setIfInBounds_ne (by decide)];exact z1,⟨y,by simp[(Array.getElem?_eq_some_iff.mp z0).1]⟩,by rw[Array.getElem?_setIfInBounds_ne (by decide)];exact z2.1,by rw[Array.size_setIfInBounds];exact z2.2⟩⟩)
 have e:upd H1 a (.ext (XO zq a C dd))=H1:=by
  funext b;by_cases hb:b=a
  .subst hb;rw[Zq,hx]
  .rw[KO hb]
 rw[e]at hw;exact⟨.non,H1,hw,rfl,q⟩
end
structure Lp(K:Frag)(D:Uy)(m:Str)(f:Uy):Prop where
 ga:PySem.W.specialIn K (.ref D) "__getattribute__" = O (O (.builtin "type.__getattribute__"))
 rd:PySem.W.readsIn K D (.type "type")=zq
 fd:PySem.W.findCls K (.ref D) (.type "type") m=O (.val (.ref f))
 kp:PySem.W.keepIn K (.ref f)=zq
noncomputable def XD(dx:Uy)(fs:List (Str×V)):Heap->Prop:=λh=>∃mA,h.Ns1 dx mA/\h.ExactDictFk dx/\(∀f,RelO (fs.lookup f) (mA f))/\PySem.Within mA (fs.map (·.1))
end L2
namespace L2
open PySem PySem.Spec
section
variable{prog:Ux}{w:World}{A:Around}{E:Uv->Uw->Prop}{h:Heap}{g:Array GenState}{d:Drawn}{t:Nat}{os:OsState}{R:Result->Uw->Prop}
variable{nm q:Str}{C N a:Uy}{bs bm bmB:zA}{hdct:Bool}{sn:List Str}{sub:zA}{ab:Bool}{col:zK}{dd:zJ}{k0 k1 k2 k3 k5:zB}{newId:String}{o:Obj}
theorem wQ(T:Tail bmB bm)(ho:bmB.contains (.type "object")=zq)(hC:h.get? C=O (excClassObj nm q C N bs bm hdct sn sub ab col dd k0 k1 k2 k3 k5 newId))(hx:h.get? a=O o)(hc:o.cls=.ref C)(hq:R (.ok (.ret (.ref C))) ⟨h,g,d,t,os⟩) :
  codeAny (model prog w) A (.call (.builtin "getset_descriptor.__get__") ⟨[.builtin "object.__class__", .ref a,.ref C],[]⟩) R ⟨h,g,d,t,os⟩:=by
 have hT5   :=PySem.F.typeOf_object_class;have aZ:(Value.ref C::bm).contains (.type (".".intercalate ("object.__class__".cutAt '.').dropLast))=zq:=by rw[PySem.F.owner_object_class,JL,T _ _ ho];rfl
 refine JA PySem.F.slot_gs_get.plain PySem.F.entry_gs_get (PySem.F.slot_gs_get.check _ _ _ _ _ _ _ _ hT5 (PySem.F.args_gs_get _ _ _) ?_)
 repeat (any_goals (first|assumption|(with_reducible rw[hc])|(with_reducible refine Jc hC ?_;rw[aZ])|wp_step))
 refine⟨Code.quiet_builtin _ (by decide +kernel),codeAny_builtin PySem.F.entry_object_class ?_⟩
 repeat (any_goals (first|assumption|(with_reducible rw[hc])|wp_step))
theorem yK  {Q}(T:Tail bmB bm)(ho:bmB.contains (.type "object")=zq)(hC:h.get? C=O (excClassObj nm q C N bs bm hdct sn sub ab col dd k0 k1 k2 k3 k5 newId))(fc:ZX (model prog w) C "__class__" (O (.builtin "object.__class__")) h)(hx:h.get? a=O o)(hc:o.cls=.ref C)(hq:Q (.done (.ret (.ref C))) ⟨h,g,d,t,os⟩) :
  UC (model prog w) A (Builtin.«object.__getattribute__» ⟨[.ref a,.str "__class__" tk],[]⟩) Q E ⟨h,g,d,t,os⟩:=by
 have f5:=PySem.F.typeOf_object_class;have f6:=PySem.F.slot_gs_get.lookup;have f7:=PySem.F.slot_gs_set.lookup
 repeat (any_goals (first|assumption|(with_reducible rw[hc])|with_reducible refine fc.at ?_|wp_step))
 refine wQ T ho hC hx hc ?_
 repeat (any_goals (first|assumption|wp_step))
theorem EV  (FB:ExcAttrFacts "ValueError")(T:Tail VB bm)(hC:h.get? C=O (excClassObj nm q C N bs bm hdct sn sub ab col dd k0 k1 k2 k3 k5 newId))(fc:ZX (model prog w) C "__class__" (O (.builtin "object.__class__")) h)
  (fg:ZX (model prog w) C "__getattribute__" (O (.builtin "BaseException.__getattribute__")) h) (fa:ZX (model prog w) C "__getattr__" none h) (hx:h.get? a=O o) (hc:o.cls=.ref C) (hq:Q (O (.ref C)) ⟨h,g,d,t+1,os⟩) :
  UC (model prog w) A (getAttr? (.ref a) "__class__") Q E ⟨h,g,d,t,os⟩:=by
 have f3:=FB.ga.bind (.ref a)
 repeat (any_goals (first|assumption|(with_reducible rw[hc])|with_reducible refine fg.at ?_|with_reducible refine fa.at ?_|wp_step))
 refine JA FB.ga.plain PySem.F.entry_bexc_ga (wn T zo hC hx hc (yK T zo hC fc hx hc ?_))
 repeat (any_goals (first|assumption|wp_step))
end
end L2
namespace L2
open PySem PySem.Spec PyProof.Rows
section
variable{prog:Ux}{w:World}{A:Around}{E:Uv->Uw->Prop}{h:Heap}{g:Array GenState}{d:Drawn}{t:Nat}{os:OsState}
variable{nm q br q':Str}{C N D N' a:Uy}{bs bm bs' bm':zA}{hdct am:Bool}{sn sn':List Str}{sub sub':zA}{ab bj:Bool}{col col':zK}{dd zS:zJ}{k0 k1 k2 k3 k5 j0 j1 j2 j3 j5:zB}{newId newId':String}{o:Obj}{b:Bool}
theorem A4{Q:Uv->Uw->Prop}(T:Tail VB bm)(hC:h.get? C=O (excClassObj nm q C N bs bm hdct sn sub ab col dd k0 k1 k2 k3 k5 newId))(hD:h.get? D=O (excClassObj br q' D N' bs' bm' am sn' sub' bj col' zS j0 j1 j2 j3 j5 newId'))
  (fc:ZX (model prog w) C "__class__" (O (.builtin "object.__class__")) h) (fg:ZX (model prog w) C "__getattribute__" (O (.builtin "BaseException.__getattribute__")) h) (fa:ZX (model prog w) C "__getattr__" none h)
  (hx:h.get? a=O o) (hc:o.cls=.ref C) (hb:(Value.ref C::bm).contains (.ref D)=b) (hq:∀tk,Q (.bool b) ⟨h,g,d,tk,os⟩):UC (model prog w) A (call (.builtin "isinstance") [.ref a,.ref D]) Q E ⟨h,g,d,t,os⟩:=by
 have f2:=tc_sub;refine call_isinstance_of ?_ (λz=>nomatch z);refine Qf ?_;unfold typeOf;refine Qf (QP hx (Qs ?_));rw[hc];by_cases e:C=D
 .subst e
  have hb1:b=zq:=by rw[←hb];simp
  subst hb1;rw[if_pos (by simp)];exact Qf (wpAny_rule (Qs (hq t)))
 .rw[if_neg (by simp[e])]
  refine Qf (Qf (QP hD (Qs ?_)));rw[Qr (show(Value.type "type" == Value.type "type")=zq by decide)]
  k_delta "plainIsInstance"
  unfold isType isInstance
  repeat (first|(with_reducible refine QP hx ?_;rw[hc])|with_reducible refine QP hD ?_|with_reducible refine QP hC ?_|(with_reducible refine Jc hC ?_;rw[hb])|wp_step)
  cases b with
  |true=>wp_walk;exact hq t
  |false=>
   rw[QA (by decide)];refine Qf (EV PySem.F.excAttr_ValueError T hC fc fg fa hx hc ?_)
   repeat (first|with_reducible refine QP hC ?_|(with_reducible refine Jc hC ?_;rw[hb])|wp_step)
   exact hq _
theorem Bc{Q:Uv->Uw->Prop}{X:String}(T:Tail VB bm)(hC:h.get? C=O (excClassObj nm q C N bs bm hdct sn sub ab col dd k0 k1 k2 k3 k5 newId))(hX:typeOf (.type X)=pure (.type "type"))
  (fc:ZX (model prog w) C "__class__" (O (.builtin "object.__class__")) h) (fg:ZX (model prog w) C "__getattribute__" (O (.builtin "BaseException.__getattribute__")) h) (fa:ZX (model prog w) C "__getattr__" none h)
  (hx:h.get? a=O o) (hc:o.cls=.ref C) (hb:(Value.ref C::bm).contains (.type X)=b) (hq:∀tk,Q (.bool b) ⟨h,g,d,tk,os⟩):UC (model prog w) A (call (.builtin "isinstance") [.ref a,.type X]) Q E ⟨h,g,d,t,os⟩:=by
 refine call_isinstance_of ?_ (λz=>nomatch z);refine Qf ?_;have ty:∀{M:Model}{A:Around}{Q:Uv->Uw->Prop}{E:Uv->Uw->Prop},Q (.ref C) ⟨h,g,d,t,os⟩->UC M A (typeOf (.ref a)) Q E ⟨h,g,d,t,os⟩:=λq=>by unfold typeOf;refine Qf (QP hx (Qs ?_));rw[hc];exact q
 refine ty ?_;rw[if_neg (by simp)];refine Qf (wpAny_of_eq hX ?_);rw[Qr (show _=zq by decide)]
 k_delta "plainIsInstance"
 unfold isType isInstance
 repeat (first|(with_reducible refine QP hx ?_;rw[hc])|with_reducible refine QP hC ?_|(with_reducible refine Jc hC ?_;rw[hb])|wp_step)
 cases b with
 |true=>wp_walk;exact hq t
 |false=>
  rw[QA (by decide)];refine Qf (EV PySem.F.excAttr_ValueError T hC fc fg fa hx hc ?_)
  repeat (first|with_reducible refine QP hC ?_|(with_reducible refine Jc hC ?_;rw[hb])|wp_step)
  exact hq _
end
noncomputable def rIsX(KC:Uy->zA->Prop):List V->Hp->VK->Prop:=λxs H Q=>∃a C dd bm fr c b,xs=[.ref a,c]/\KC C bm/\H a=O (.ext (XO fr a C dd)) /\
 ((∃D bm',c=.ref D/\KC D bm'/\(Value.ref C::bm).contains (.ref D)=b) ∨ ∃T,c=.ty T/\typeOf (.type T)=pure (.type "type")/\(Value.ref C::bm).contains (.type T)=b)/\Q (.bl b) H
theorem xr  {KC}(hcls:∀C bm,KC C bm->∃fI,XCls (model X.prog X.w) X.base C bm fI):Xe X (.builtin "isinstance") (rIsX KC):=by
 rintro pins s σ H xs us Q I r ⟨a,C,dd,bm,fr,c,b,rfl,kc,hx,hD,q⟩;cases r with
 |cons ra r=>
 cases r with
 |cons rc r=>
 cases r;have ra'   :=ra;subst ra';obtain⟨fI,XC⟩:=hcls C bm kc;obtain⟨nm,qn,N,bs,sn,sub,ab,col,dd1,k0,k1,k2,k3,k5,hC⟩:=XC.obj;obtain⟨⟨vs,sl,ga,_⟩,_,_⟩:=I.hok a _ hx;rcases hD with ⟨D,bm',rfl,kd,hb⟩|⟨T,rfl,hT,hb⟩
 .have rc'   :=rc
  subst rc';obtain⟨fI',XD'⟩:=hcls D bm' kd;obtain⟨br,qn',N',bs',sn',sub',bj,col',dd2,j0,j1,j2,j3,j5,ae⟩:=XD'.obj;exact A4 XC.tail (I.bk _ _ hC) (I.bk _ _ ae) (XC.cl.keeps I.bk) (XC.ga.keeps I.bk) (XC.gh.keeps I.bk) ga zo hb λtk'=>⟨.bl b,H,I.tok tk',rfl,q⟩
 .have rc'   :=rc
  subst rc';exact Bc XC.tail (I.bk _ _ hC) hT (XC.cl.keeps I.bk) (XC.ga.keeps I.bk) (XC.gh.keeps I.bk) ga zo hb λtk'=>⟨.bl b,H,I.tok tk',rfl,q⟩
noncomputable def GK(KC:Uy->zA->Prop):Sp:=λvs H Q _=>∃a C dd bm x,vs=[.ref a,.str x]/\KC C bm/\H a=O (.ext (XO zq a C dd))/\Q .non H
noncomputable def Lo(nm:Str):List Str:=if nm = "NoWishes" then ["part", "number"]else if nm = "NoAim" then ["part"]else if nm = "NoText" then ["row"]else []
noncomputable def PR(K:Frag)(nm:Str):zJ:=match PySem.W.nsIn K mainGlobals nm with|some (O (.ref C))=>O C|_=>zp
def NmAt(K:Frag)(nm:Str)(C:Uy):Prop:=∃o cd,K.lookup C=O o/\o.data=.cls cd/\cd.name=nm
structure ClsK(K:Frag)(nm:Str)(C:Uy)(bm:zA):Prop where
 ad:PR K nm=O C
 nmd:NmAt K nm C
 up:nm = "DealError" /\ bm=VB∨nm ≠ "DealError" /\ ∃D,PR K "DealError" = O D/\bm=.ref D::VB/\NmAt K "DealError" D
 cls:∀(M:Model)(h:Heap),K.In h->∃fI,XCls M h C bm fI
 fld:∀(M:Model)(h:Heap),K.In h->∀f∈(["part", "number", "row"]:List Str),ZX M C f zp h
noncomputable def KC(K:Frag):Uy->zA->Prop:=λC bm=>∃nm,ClsK K nm C bm
section
variable{K:Frag}{nm x:Str}{C D:Uy}{bm bm':zA}
theorem NmAt.ne(c:NmAt K nm C)(d:NmAt K x D)(h:x≠nm):C≠D:=λe=>by
 subst e;obtain⟨o,cd,h1,h2,h3⟩:=c;obtain⟨o',cd',g1,g2,g3⟩:=d
 lia
theorem ClsK.has(c:ClsK K nm C bm)(d:ClsK K x D bm'):(Value.ref C::bm).contains (.ref D)=(decide (x=nm) || decide (x = "DealError")):=by
 by_cases e:x=nm
 .subst e
  have:=c.ad.symm.trans d.ad;simp_all
 .have ne:=c.nmd.ne d.nmd e
  rw[QT e];have h0:(Value.ref D==Value.ref C)=zr:=by simp[Ne.symm ne]
  rw[JL,h0,Bool.false_or];by_cases e2:x = "DealError"
  .subst e2
   rcases c.up with ⟨z,_⟩|⟨_,D',g,rfl,_⟩
   .exact absurd z.symm e
   .have:=g.symm.trans d.ad
    simp_all
  .rw[QT e2]
   rcases c.up with ⟨_,rfl⟩|⟨_,D',g,rfl,n⟩
   .rfl
   .have ne2:=n.ne d.nmd e2
    have h1:(Value.ref D==Value.ref D')=zr:=by simp[Ne.symm ne2]
    rw[JL,h1];rfl
theorem ClsK.ty(c:ClsK K nm C bm)(T):(Value.ref C::bm).contains (.type T)=VB.contains (.type T):=by
 rcases c.up with ⟨_,rfl⟩|⟨_,D',g,rfl,n⟩
 .rfl
 .rfl
end
section
variable{X:Cx}{e:UA}{st:Stmt}{sts:List Stmt}{t:TE}{ts:TS}
theorem PS.kin(h:X.K.In X.base->PS X st ts):PS X st ts:=λpins s σ H Q I q=>h I.ok.mod.kin pins s σ H Q I q
theorem PSs.kin(h:X.K.In X.base->PSs X sts ts):PSs X sts ts:=λpins s σ H Q I q=>h I.ok.mod.kin pins s σ H Q I q
theorem Nc(k:X.K.In X.base):∀C bm,KC X.K C bm->∃fI,XCls (model X.prog X.w) X.base C bm fI:=λ_ _ ⟨_,c⟩=>c.cls _ _ k
end
end L2
namespace DL
open PySem PySem.Spec L2
open PyProof.Rows hiding St
abbrev D:=PyData
abbrev zw:=List D
abbrev zx:=Option D
abbrev XW:=V->St->Hp->Prop
noncomputable abbrev KX0:XW:=λ_ _ _=>False
def XFs(G:Hp)(dd:zJ)(fs:List Str)(vs:List V):Prop:=match dd with
 |none=>fs=[]/\vs=[]
 |some dx=>fs.length=vs.length/\G dx=O (.ext (XD dx (fs.zip vs)))
theorem XFs.mono     (e:Same G G1)(h:XFs G dd fs vs):XFs G1 dd fs vs:=by
 cases dd with
 |none=>exact h
 |some dx=>exact⟨h.1,e _ _ h.2⟩
noncomputable def kD:Key->D
 |.inl i=>.int i
 |.inr x=>.str x
noncomputable def tkD(k:zH):D:=.tuple (k.map kD)
noncomputable def pdD(ks:List zH)(ds:zw):List (D×D):=(.bool zq,.none)::(ks.map tkD).zip ds
mutual
inductive Rep(K:Frag)(G:Hp):V->D->Prop where
 |non:Rep K G .non .none
 |bl (b:Bool):Rep K G (.bl b) (.bool b)
 |int (i:Int):Rep K G (.int i) (.int i)
 |str (x:Str):Rep K G (.str x) (.str x)
 |lst {a:Uy} {vs:List V} {ds:zw} (h:SqL K G a vs) (r:Reps K G vs ds):Rep K G (.ref a) (.list ds)
 |tup {a:Uy} {vs:List V} {ds:zw} (h:SqT K G a vs) (r:Reps K G vs ds):Rep K G (.ref a) (.tuple ds)
 |dic {a:Uy} (h:G a=O (.dK [])):Rep K G (.ref a) (.dict [])
 |exc {a C:Uy} {dd:zJ} {bm:zA} {nm:Str} {vs:List V} {ds:zw} (c:ClsK K nm C bm) (h:G a=O (.ext (XO zr a C dd))) (hd:XFs G dd (Lo nm) vs) (r:Reps K G vs ds):Rep K G (.ref a) (.dict [(.none,.tuple [.str nm,.list ds])])
 |dct {a:Uy} {ks:zH} {vs:List V} {ds:zw} {kvs:List (D×D)} (e:kvs=(ks.map kD).zip ds) (hne:ks≠[]) (hl:ks.length=ds.length) (h:G a=O (.dK (ks.zip vs))) (r:Reps K G vs ds):Rep K G (.ref a) (.dict kvs)
 |dtt {a:Uy} {o:Obj} {ks:List zH} {vs:List V} {ds:zw} {kvs:List (D×D)} (e:kvs=pdD ks ds) (hl:ks.length=ds.length) (h:G a=O (.frz o (.dT (ks.zip vs)))) (r:Reps K G vs ds):Rep K G (.ref a) (.dict kvs)
inductive Reps(K:Frag)(G:Hp):List V->zw->Prop where
 |nil:Reps K G [] []
 |cons {v:V} {d:D} {vs:List V} {ds:zw} (h:Rep K G v d) (t:Reps K G vs ds):Reps K G (v::vs) (d::ds)
end
variable{K:Frag}{B G0 G G1 G2 H H1 H2:Hp}
theorem Xr   (e:Same G G1)(h:SqT K G a xs):SqT K G1 a xs:=by
 rcases h with (h|⟨o,h⟩)|h
 .exact .inl (.inl (e _ _ h))
 .exact .inl (.inr ⟨o,e _ _ h⟩)
 .exact .inr h
theorem Rep.mono(e:Same G G1){v}{d}(r:Rep K G v d):Rep K G1 v d:=Rep.rec   .non .bl .int .str (λh _ r=>.lst (e.seq h) r) (λh _ r=>.tup (Xr e h) r) (λh=>.dic (e _ _ h)) (λc h hd _ r=>.exc c (e _ _ h) (hd.mono e) r) (λz n l h _ r=>.dct z n l (e _ _ h) r) (λz l h _ r=>.dtt z l (e _ _ h) r) .nil (λ_ _=>.cons) r
theorem Reps.mono(e:Same G G1){vs}{ds}(r:Reps K G vs ds):Reps K G1 vs ds:=Reps.rec   .non .bl .int .str (λh _ r=>.lst (e.seq h) r) (λh _ r=>.tup (Xr e h) r) (λh=>.dic (e _ _ h)) (λc h hd _ r=>.exc c (e _ _ h) (hd.mono e) r) (λz n l h _ r=>.dct z n l (e _ _ h) r) (λz l h _ r=>.dtt z l (e _ _ h) r) .nil (λ_ _=>.cons) r
theorem wL{ks:zH}{ds}{d:D}{r}(e:(.none,d)::r=(ks.map kD).zip ds):False:=by
 cases ks with
 |nil=>cases e
 |cons k ks=>
  cases ds with
  |nil=>cases e
  |cons d ds=>
   injection e with e1 _;injection e1 with e2 _
   cases k<;>cases e2
section
variable{v:V}{vs ws:List V}{ds es:zw}
theorem Rep.bl_inv{b:Bool}(h:Rep K G v (.bool b)):v=.bl b:=by cases h;rfl
theorem Rep.int_inv{i:Int}(h:Rep K G v (.int i)):v=.int i:=by cases h;rfl
theorem Rep.str_inv{x:Str}(h:Rep K G v (.str x)):v=.str x:=by cases h;rfl
theorem Rep.lst_inv(h:Rep K G v (.list ds)):∃a vs,v=.ref a/\SqL K G a vs/\Reps K G vs ds:=by
 cases h with
 |lst h r=>exact⟨_,_,rfl,h,r⟩
theorem Rep.tup_inv(h:Rep K G v (.tuple ds)):∃a vs,v=.ref a/\SqT K G a vs/\Reps K G vs ds:=by
 cases h with
 |tup h r=>exact⟨_,_,rfl,h,r⟩
theorem Rep.exc_inv{d:D}(h:Rep K G v (.dict [(.none,d)])):∃a C dd bm nm vs ds,v=.ref a/\d=.tuple [.str nm,.list ds]/\ClsK K nm C bm/\G a=O (.ext (XO zr a C dd))/\XFs G dd (Lo nm) vs/\Reps K G vs ds:=by
 cases h with
 |exc c h hd r=>exact⟨_,_,_,_,_,_,_,rfl,rfl,c,h,hd,r⟩
 |dct e _ _ _ _=>exact(wL e).elim
 |dtt e _ _ _=>exact nomatch (Ut (List.cons.inj e).1).1
theorem Reps.length:∀{vs}{ds},Reps K G vs ds->vs.length=ds.length
 |_,_,.nil=>rfl
 |_,_,.cons _ t=>by rw[Qz,Qz,Reps.length t]
theorem Reps.get:∀{vs}{ds}{i:Nat}{d},Reps K G vs ds->ds[i]?=O d->∃v,vs[i]?=O v/\Rep K G v d
 |_,_,_,_,.nil,e=>by simp_all
 |_,_,0,_,.cons h _,e=>by simp at e;subst e;exact⟨_,rfl,h⟩
 |_,_,i+1,d,.cons _ t,e=>by obtain⟨u,h1,h2⟩:=Reps.get   t (by simpa using e);exact⟨u,by simpa using h1,h2⟩
theorem Reps.append:∀{vs ws}{ds es},Reps K G vs ds->Reps K G ws es->Reps K G (vs++ws) (ds++es)
 |_,_,_,_,.nil,s=>s
 |_,_,_,_,.cons r t,s=>.cons r (Reps.append t s)
theorem Reps.take:∀{vs}{ds}(n),Reps K G vs ds->Reps K G (vs.take n) (ds.take n)
 |_,_,0,_=>by exact .nil
 |_,_,_+1,.nil=>.nil
 |_,_,n+1,.cons r t=>.cons r (Reps.take n t)
theorem Reps.drop:∀{vs}{ds}(n),Reps K G vs ds->Reps K G (vs.drop n) (ds.drop n)
 |_,_,0,r=>r
 |_,_,_+1,.nil=>.nil
 |_,_,n+1,.cons _ t=>Reps.drop n t
theorem Reps.reverse:∀{vs}{ds},Reps K G vs ds->Reps K G vs.reverse ds.reverse
 |_,_,.nil=>.nil
 |_,_,.cons r t=>by rw[List.reverse_cons,List.reverse_cons];exact Reps.append (Reps.reverse t) (.cons r .nil)
theorem Reps.set   (r:Rep K G v d):∀{vs}{ds}(i),Reps K G vs ds->Reps K G (vs.set i v) (ds.set i d)
 |_,_,_,.nil=>.nil
 |_,_,0,.cons _ t=>.cons r t
 |_,_,i+1,.cons q t=>.cons q (Reps.set r i t)
theorem Reps.ints:∀(ns:zu),Reps K G (ns.map V.int) (ns.map int)
 |[]=>.nil
 |n::ns=>.cons (.int n) (Reps.ints ns)
end
inductive MO where
 |l (vs:List V)|k (kvs:List (Key×V))|t (kvs:List (zH×V))|s (S:Int->Bool) (n:Nat)
noncomputable def MO.ho:MO->HO
 |.l vs=>.lst vs
 |.k kvs=>.dK kvs
 |.t kvs=>.dT kvs
 |.s S n=>.set S n
structure Ext(G H G' H':Hp):Prop where
 h:Same H H'
 g:Same G G'
 gh:Same G' H'
 np:∀a(u:MO),H a=O u.ho->G a=zp->G' a=zp
theorem Ext.refl(e:Same G H):Ext G H G H:=⟨.refl _,.refl _,e,λ_ _ _ q=>q⟩
theorem ZQ   (h:H p=zp):Same H (upd H p o):=λb u e=>by rw[KO (Yw e h)];exact e
theorem Ext.new   (e:Same G H)(h:H p=zp):Ext G H (upd G p o) (upd H p o):=by
 have hg   :=e.free h;refine⟨ZQ h,ZQ hg,λb u q=>?_,λa u q n=>?_⟩
 .by_cases z:b=p
  .subst z;rw[Zq]at q⊢;exact q
  .rw[KO z]at q⊢;exact e b u q
 .rw[KO (Yw q h)];exact n
theorem Ext.hid   (e:Same G H)(h:H p=zp):Ext G H G (upd H p o):=
 ⟨ZQ h,.refl _,e.trans (ZQ h),λ_ _ _ n=>n⟩
inductive Pat where
 |leaf|lst (p:Pat)|tup (ps:List Pat)|dic
mutual
inductive RepO(K:Frag)(G H:Hp):Pat->V->D->zE->Prop where
 |leaf {v:V} {d:D} (r:Rep K G v d):RepO K G H .leaf v d []
 |lst {p:Pat} {a:Uy} {vs:List V} {ds:zw} {fp:zE} (h:H a=O (.lst vs)) (r:RepOl K G H p vs ds fp):RepO K G H (.lst p) (.ref a) (.list ds) (a::fp)
 |tup {ps:List Pat} {a:Uy} {vs:List V} {ds:zw} {fp:zE} (h:H a=O (.tup vs)) (r:RepOs K G H ps vs ds fp):RepO K G H (.tup ps) (.ref a) (.tuple ds) fp
 |dic {a:Uy} {ks:zH} {vs:List V} {ds:zw} {kvs:List (D×D)} (e:kvs=(ks.map kD).zip ds) (hl:ks.length=ds.length) (h:H a=O (.dK (ks.zip vs))) (r:Reps K G vs ds):RepO K G H .dic (.ref a) (.dict kvs) [a]
inductive RepOl(K:Frag)(G H:Hp):Pat->List V->zw->zE->Prop where
 |nil {p:Pat}:RepOl K G H p [] [] []
 |cons {p:Pat} {v:V} {d:D} {vs:List V} {ds:zw} {f1 f2:zE} (h:RepO K G H p v d f1) (t:RepOl K G H p vs ds f2):RepOl K G H p (v::vs) (d::ds) (f1++f2)
inductive RepOs(K:Frag)(G H:Hp):List Pat->List V->zw->zE->Prop where
 |nil:RepOs K G H [] [] [] []
 |cons {p:Pat} {ps:List Pat} {v:V} {d:D} {vs:List V} {ds:zw} {f1 f2:zE} (h:RepO K G H p v d f1) (t:RepOs K G H ps vs ds f2):RepOs K G H (p::ps) (v::vs) (d::ds) (f1++f2)
end
def X7(K:Frag)(G H:Hp)(M1:Pat->V->D->zE->Prop)(M2:Pat->List V->zw->zE->Prop)(M3:List Pat->List V->zw->zE->Prop):Prop:=
 (∀{p v d fp},RepO K G H p v d fp->M1 p v d fp)/\(∀{p vs ds fp},RepOl K G H p vs ds fp->M2 p vs ds fp)/\∀{ps vs ds fp},RepOs K G H ps vs ds fp->M3 ps vs ds fp
theorem RepO.ind3
  (c1:∀{v d},Rep K G v d->M1 .leaf v d []) (c2:∀{p a vs ds fp},H a=O (.lst vs)->M2 p vs ds fp->M1 (.lst p) (.ref a) (.list ds) (a::fp)) (c3:∀{ps a vs ds fp},H a=O (.tup vs)->M3 ps vs ds fp->M1 (.tup ps) (.ref a) (.tuple ds) fp)
  (c4:∀{a:Uy}{ks:zH}{vs}{ds}{kvs},kvs=(ks.map kD).zip ds->ks.length=ds.length->H a=O (.dK (ks.zip vs))->Reps K G vs ds->M1 .dic (.ref a) (.dict kvs) [a])
  (c5:∀{p},M2 p [] [] []) (c6:∀{p v d vs ds f1 f2},M1 p v d f1->M2 p vs ds f2->M2 p (v::vs) (d::ds) (f1++f2)) (c7:M3 [] [] [] []) (c8:∀{p ps v d vs ds f1 f2},M1 p v d f1->M3 ps vs ds f2->M3 (p::ps) (v::vs) (d::ds) (f1++f2)) :
  X7 K G H M1 M2 M3:=
 ⟨λh=>RepO.rec    c1 (λh _=>c2 h) (λh _=>c3 h) c4 c5 (λ_ _=>c6) c7 (λ_ _=>c8) h,
  λh=>RepOl.rec    c1 (λh _=>c2 h) (λh _=>c3 h) c4 c5 (λ_ _=>c6) c7 (λ_ _=>c8) h,
  λh=>RepOs.rec    c1 (λh _=>c2 h) (λh _=>c3 h) c4 c5 (λ_ _=>c6) c7 (λ_ _=>c8) h⟩
theorem RepO.mono3(sg:Same G G1)(sh:Same H H1):X7 K G H (RepO K G1 H1) (RepOl K G1 H1) (RepOs K G1 H1):=
 RepO.ind3 (λr=>.leaf (r.mono sg)) (λh r=>.lst (sh _ _ h) r) (λh r=>.tup (sh _ _ h) r) (λe hl h r=>.dic e hl (sh _ _ h) (r.mono sg)) .nil .cons .nil .cons
theorem RepO.mono(sg:Same G G1)(sh:Same H H1){p}{v}{d}{fp}(r:RepO K G H p v d fp):RepO K G1 H1 p v d fp:=(RepO.mono3 sg sh).1 r
theorem RepO.upd3   (nt:∀vs,H a≠O (.tup vs)):X7 K G H (λp v d fp=>a∉fp->RepO K G (upd H a o) p v d fp) (λp v d fp=>a∉fp->RepOl K G (upd H a o) p v d fp) (λp v d fp=>a∉fp->RepOs K G (upd H a o) p v d fp):=
 RepO.ind3
 (λr _=>.leaf r) (λh r n=>.lst (by rw[KO (λz=>n (by rw[z];exact List.mem_cons_self))];exact h) (r λz=>n (List.mem_cons_of_mem _ z))) (λh r n=>.tup (by rw[KO (λz=>by simp_all)];exact h) (r n))
 (λe hl h r n=>.dic e hl (by rw[KO (λz=>n (by rw[z];exact Ql))];exact h) r) (λ_=>.nil) (λh t n=>.cons (h λz=>n (QU _ z)) (t λz=>n (QD _ z))) (λ_=>.nil) (λh t n=>.cons (h λz=>n (QU _ z)) (t λz=>n (QD _ z)))
theorem RepO.upd   (nt:∀vs,H a≠O (.tup vs)){p}{v}{d}{fp}(r:RepO K G H p v d fp)(n:a∉fp):RepO K G (upd H a o) p v d fp:=(RepO.upd3 nt).1 r n
theorem RepO.rep3(gh:Same G H):X7 K G H (λ_ v d _=>Rep K H v d) (λ_ v d _=>Reps K H v d) (λ_ v d _=>Reps K H v d):=
 RepO.ind3 (λr=>r.mono gh) (λh r=>.lst (SqL.of h) r) (λh r=>.tup (SqT.of h) r)
 (λ{a ks vs ds kvs} e hl h r=>by
  cases ks with
  |nil=>subst e;exact .dic h
  |cons k ks=>exact .dct e (λz=>by cases z) hl h (r.mono gh)) .nil .cons .nil .cons
theorem RepO.rep(gh:Same G H){p}{v}{d}{fp}(r:RepO K G H p v d fp):Rep K H v d:=(RepO.rep3 gh).1 r
theorem RepO.isl3:X7 K G H (λ_ _ _ fp=>∀a∈fp,∃u:MO,H a=O u.ho) (λ_ _ _ fp=>∀a∈fp,∃u:MO,H a=O u.ho) (λ_ _ _ fp=>∀a∈fp,∃u:MO,H a=O u.ho):=
 RepO.ind3 (λ_ a m=>by cases m)
 (λh r b m=>(QL.mp m).elim (λe=>⟨.l _,e ▸ h⟩) (r b)) (λ_ r=>r) (λ_ _ h _ b m=>⟨.k _,QB.mp m ▸ h⟩) (λa m=>by cases m) (λh t b m=>(QH.mp m).elim (h b) (t b)) (λa m=>by cases m) (λh t b m=>(QH.mp m).elim (h b) (t b))
theorem RepO.isl     (r:RepO K G H p v d fp):∀a∈fp,∃u:MO,H a=O u.ho:=RepO.isl3.1 r
theorem RepO.uniq3(sh:Same H H1):X7 K G H (λp v _ fp=>∀d' fp',RepO K G1 H1 p v d' fp'->fp=fp') (λp v _ fp=>∀d' fp',RepOl K G1 H1 p v d' fp'->fp=fp') (λp v _ fp=>∀d' fp',RepOs K G1 H1 p v d' fp'->fp=fp'):=
 RepO.ind3
 (λ_ d' fp' h=>by cases h;rfl)
 (λh r d' fp' h'=>by
  cases h' with
  |lst h2 r2=>have e:=sh _ _ h;rw[h2]at e;cases e;rw[r _ _ r2])
 (λh r d' fp' h'=>by
  cases h' with
  |tup h2 r2=>have e:=sh _ _ h;rw[h2]at e;cases e;exact r _ _ r2)
 (λ_ _ _ _ d' fp' h=>by cases h;rfl) (λd' fp' h=>by cases h;rfl)
 (λh t d' fp' h'=>by
  cases h' with
  |cons h2 t2=>rw[h _ _ h2,t _ _ t2])
 (λd' fp' h=>by cases h;rfl)
 (λh t d' fp' h'=>by
  cases h' with
  |cons h2 t2=>rw[h _ _ h2,t _ _ t2])
theorem RepO.uniq(sh:Same H H1){p}{v}{d d'}{fp fp'}(r:RepO K G H p v d fp)(r':RepO K G1 H1 p v d' fp'):fp=fp':=(RepO.uniq3 sh).1 r _ _ r'
inductive Sl where
 |pub (d:D)|own (ds:zw)|deep (p:Pat) (d:D)
abbrev UZ:=List (Option Sl)
abbrev zF:=Option UZ
def DpOk(K:Frag)(B G H:Hp)(σ:St)(ρ:UZ):Prop:=∃ω:Uy->Nat,
 (∀(i:Nat) p d,ρ[i]?=O (O (.deep p d))->∃v fp,σ[i]?=O (O v)/\RepO K G H p v d fp/\fp.Nodup/\∀a∈fp,B a=zp/\G a=zp/\ω a=i) /\
 (∀(i:Nat) ds a,ρ[i]?=O (O (.own ds))->σ[i]?=O (O (.ref a))->ω a=i)
theorem DpOk.of  {ρ}(h1:∀(i:Nat) p d,ρ[i]?=O (O (.deep p d))->False)(h2:∀(i:Nat) ds,ρ[i]?=O (O (.own ds))->False):DpOk K B G H σ ρ:=
 ⟨λ_=>0,λi p d q=>(h1 i p d q).elim,λi ds a q=>(h2 i ds q).elim⟩
theorem DpOk.map  {σ σ1}{ρ ρ1}(k:DpOk K B G H σ ρ)
  (h1:∀(i:Nat) p d,ρ1[i]?=O (O (.deep p d))->ρ[i]?=O (O (.deep p d))/\σ1[i]?=σ[i]?)
  (h2:∀(i:Nat) ds,ρ1[i]?=O (O (.own ds))->∃es,ρ[i]?=O (O (.own es))/\σ1[i]?=σ[i]?)
  (h3:∀(i:Nat) p d v fp,ρ[i]?=O (O (.deep p d))->σ[i]?=O (O v)->RepO K G H p v d fp->(∀a∈fp,B a=zp/\G a=zp)->(∀(j:Nat) ds a,ρ[j]?=O (O (.own ds))->σ[j]?=O (O (.ref a))->a∉fp)->RepO K G1 H1 p v d fp/\∀a∈fp,B1 a=zp/\G1 a=zp):DpOk K B1 G1 H1 σ1 ρ1:=by
 obtain⟨ω,k1,k2⟩:=k;refine⟨ω,λi p d q=>?_,λi ds a q s=>?_⟩
 .obtain⟨q1,e1⟩:=h1 i p d q
  obtain⟨v,fp,s,r,n,w⟩:=k1 i p d q1;obtain⟨r1,w1⟩:=h3 i p d v fp q1 s r (λa m=>⟨(w a m).1,(w a m).2.1⟩) λj ds a qj sj m=>by have z1:=k2 j ds a qj sj;have z2:=(w a m).2.2;rw[z1]at z2;subst z2;rw[q1]at qj;cases qj
  exact⟨v,fp,by rw[e1];exact s,r1,n,λa m=>⟨(w1 a m).1,(w1 a m).2,(w a m).2.2⟩⟩
 .obtain⟨es,q1,e1⟩:=h2 i ds q
  rw[e1]at s;exact k2 i es a q1 s
structure EOk(K:Frag)(B G0 G H:Hp)(σ:St)(ρ:UZ):Prop where
 bh:Same B H
 gh:Same G H
 g0:Same G0 G
 np:∀a(u:MO),B a=O u.ho->G0 a=zp->G a=zp
 len:ρ.length=σ.length
 pub:∀(i:Nat) d,ρ[i]?=O (O (.pub d))->∃v,σ[i]?=O (O v)/\Rep K G v d
 own:∀(i:Nat) ds,ρ[i]?=O (O (.own ds))->∃a vs,σ[i]?=O (O (.ref a))/\B a=zp/\G a=zp/\H a=O (.lst vs)/\Reps K G vs ds
 sep:∀(i j:Nat) a ds es,ρ[i]?=O (O (.own ds))->ρ[j]?=O (O (.own es))->σ[i]?=O (O (.ref a))->σ[j]?=O (O (.ref a))->i=j
 dp:DpOk K B G H σ ρ
theorem EOk.ext  {σ:St}{ρ}(k:EOk K B G0 G H σ ρ)(e:Ext G H G' H'):EOk K B G0 G' H' σ ρ where
 bh:=k.bh.trans e.h
 gh:=e.gh
 g0:=k.g0.trans e.g
 np:=λa o q n=>e.np a o (k.bh a _ q) (k.np a o q n)
 len:=k.len
 pub:=λi d q=>let ⟨v,h1,h2⟩:=k.pub i d q;⟨v,h1,h2.mono e.g⟩
 own:=λi ds q=>let ⟨a,vs,h1,h2,h3,h4,h5⟩:=k.own i ds q;⟨a,vs,h1,h2,e.np a (.l _) h4 h3,e.h a _ h4,h5.mono e.g⟩
 sep:=k.sep
 dp:=k.dp.map (λ_ _ _ q=>⟨q,rfl⟩) (λ_ ds q=>⟨ds,q,rfl⟩) λi p d v fp q s r w n=>⟨r.mono e.g e.h,λa m=>let ⟨_,hl⟩:=r.isl a m;⟨(w a m).1,e.np a _ hl (w a m).2⟩⟩
theorem EOk.publish{σ:St}{ρ:UZ}{i:Nat}{ds:zw}(k:EOk K B G0 G H σ ρ)(h:ρ[i]?=O (O (.own ds))) :
  ∃a G',σ[i]?=O (O (.ref a))/\Same G G'/\Rep K G' (.ref a) (.list ds)/\EOk K B G0 G' H σ (ρ.set i (O (.pub (.list ds)))):=by
 obtain⟨a,vs,h1,h2,h3,h4,h5⟩:=k.own i ds h;have sg:Same G (upd G a (.lst vs)):=ZQ h3;have hr:Rep K _ (.ref a) (.list ds):=.lst (SqL.of Zq) (h5.mono sg);refine⟨a,upd G a (.lst vs),h1,sg,hr,⟨k.bh,λb u q=>?_,k.g0.trans sg,λb o q n=>?_,by rw[Jb];exact k.len,λj d q=>?_,λj es q=>?_,λj l c es fs q1 q2 s1 s2=>?_,?_⟩⟩
 .by_cases z:b=a
  .subst z;rw[Zq]at q;cases q;exact h4
  .rw[KO z]at q;exact k.gh b u q
 .have z:b≠a:=λz=>by subst z;rw[h2]at q;cases q
  rw[KO z];exact k.np b o q n
 .by_cases z:i=j
  .subst z
   have hl:i<ρ.length:=(Qg.mp h).1;rw[QI hl]at q;cases q;exact⟨.ref a,h1,hr⟩
  .rw[Qp z]at q
   obtain⟨v,g1,g2⟩:=k.pub j d q;exact⟨v,g1,g2.mono sg⟩
 .by_cases z:i=j
  .subst z
   have hl:i<ρ.length:=(Qg.mp h).1;rw[QI hl]at q;cases q
  .rw[Qp z]at q
   obtain⟨b,ws,g1,g2,g3,g4,g5⟩:=k.own j es q;have zb:b≠a:=λe=>z (k.sep i j a ds es h q h1 (by rw[←e];exact g1))
   exact⟨b,ws,g1,g2,by rw[KO zb];exact g3,g4,g5.mono sg⟩
 .have nz:∀{m:Nat}{ts:zw},(ρ.set i (O (Sl.pub (.list ds))))[m]?=O (O (.own ts))->ρ[m]?=O (O (.own ts)):=λ{m ts} q=>by
   by_cases z:i=m
   .subst z
    have hl:i<ρ.length:=(Qg.mp h).1;rw[QI hl]at q;cases q
   .rw[Qp z]at q;exact q
  exact k.sep j l c es fs (nz q1) (nz q2) s1 s2
 .have hl:i<ρ.length:=(Qg.mp h).1
  have nz:∀{m:Nat}{s:Sl},(ρ.set i (O (Sl.pub (.list ds))))[m]?=O (O s)->(∃d,s=.pub d)∨ρ[m]?=O (O s):=λ{m s} q=>by
   by_cases z:i=m
   .subst z
    rw[QI hl]at q;cases q;exact .inl ⟨_,rfl⟩
   .rw[Qp z]at q;exact .inr q
  refine k.dp.map (λm p d q=>?_) (λm es q=>?_) λm p d v fp q s r w n=>⟨r.mono sg (.refl _),λb mb=>⟨(w b mb).1,?_⟩⟩
  .rcases nz q with ⟨_,e⟩|q
   .cases e
   .exact⟨q,rfl⟩
  .rcases nz q with ⟨_,e⟩|q
   .cases e
   .exact⟨es,q,rfl⟩
  .rw[KO (λz=>by subst z;exact n i ds b h h1 mb)];exact(w b mb).2
inductive Res(α:Type) where
 |ok (a:α) (ρ:UZ)|bad
noncomputable abbrev M(α:Type):=UZ->Res α
noncomputable def U2{α:Type}(a:α):M α:=λρ=>.ok a ρ
noncomputable def Ku{α:Type}(o:Option α):M α:=λρ=>match o with|some a=>.ok a ρ|none=>.bad
noncomputable def Kq{α β:Type}(f:M α)(k:α->M β):M β:=λρ=>match f ρ with | .ok a ρ'=>k a ρ' | .bad=>.bad
section
variable(K:Frag)(B G0:Hp)
def aft{α γ:Type}(R:Hp->γ->α->Prop)(r:Res α)(G:Hp)(σ:St)(Q:γ->Hp->Prop):Prop:=
 match r with
 |.ok d ρ'=>∀v G' H',EOk K B G0 G' H' σ ρ'->Same G G'->R G' v d->Q v H'
 |.bad=>False
noncomputable def tM{α γ:Type}(R:Hp->γ->α->Prop)(f:M α):St->Hp->(γ->Hp->Prop)->Prop:=λσ H Q=>
 ∃G ρ,EOk K B G0 G H σ ρ/\aft K B G0 R (f ρ) G σ Q
noncomputable abbrev tD(f:M D):TE:=tM K B G0 (Rep K) f
noncomputable abbrev tDs(f:M zw):TA:=tM K B G0 (Reps K) f
noncomputable abbrev tBo(f:M Bool):TT:=tM K B G0 (λ_ b c=>b=c) f
noncomputable abbrev tOi(f:M zC):TO:=tM K B G0 (λ_ b c=>b=c) f
end
section
variable{K:Frag}{B G0:Hp}{α β γ δ ε:Type}{R:Hp->γ->α->Prop}{S:Hp->δ->β->Prop}{T:Hp->ε->α->Prop}{σ:St}{H:Hp}
theorem aft.mono  {G G'}{Q}(e:Same G G')(h:aft K B G0 R r G σ Q):aft K B G0 R r G' σ Q:=by
 cases r with
 |ok d ρ=>exact λv G2 H2 k s q=>h v G2 H2 k (e.trans s) q
 |bad=>exact h
theorem aft.done   {G G' H H'}{v}{Q}(h:aft K B G0 R (.ok d ρ) G σ Q)(k:EOk K B G0 G H σ ρ)(e:Ext G H G' H')(r:R G' v d):Q v H':=
 h v G' H' (k.ext e) e.g r
theorem aft.now   {G H}{v}{Q}(h:aft K B G0 R (.ok d ρ) G σ Q)(k:EOk K B G0 G H σ ρ)(r:R G v d):Q v H:=
 h v G H k (.refl _) r
theorem aft.opt     (h:aft K B G0 R (Ku o ρ) G σ Q):∃d,o=O d/\aft K B G0 R (.ok d ρ) G σ Q:=by
 cases o with
 |none=>exact h.elim
 |some d=>exact⟨d,rfl,h⟩
theorem tM.bind    (h:tM K B G0 S (Kq f k) σ H Q) :
  tM K B G0 R f σ H (λv H1=>∃G ρ d,EOk K B G0 G H1 σ ρ/\R G v d/\aft K B G0 S (k d ρ) G σ Q):=by
 obtain⟨G,ρ,e,a⟩:=h;refine⟨G,ρ,e,?_⟩;unfold Kq at a;cases q:f ρ with
 |bad=>rw[q]at a;exact a.elim
 |ok d ρ1=>rw[q]at a;exact λv G' H' e' s r=>⟨G',ρ1,d,e',r,aft.mono s a⟩
theorem tM.bind2{α' γ'}{R':Hp->γ'->α'->Prop}{f}{g:α->M α'}{k:α->α'->M β}{Q}(mo:∀G G' v d,Same G G'->R G v d->R G' v d)
  (h:tM K B G0 S (Kq f λx=>Kq (g x) λy=>k x y) σ H Q) :
  tM K B G0 R f σ H (λv H1=>∃x,tM K B G0 R' (g x) σ H1 λu H2=>∃G ρ y,EOk K B G0 G H2 σ ρ/\R G v x/\R' G u y/\aft K B G0 S (k x y ρ) G σ Q):=by
 obtain⟨G,ρ,e,a⟩:=tM.bind  h;refine⟨G,ρ,e,?_⟩;cases q:f ρ with
 |bad=>rw[q]at a;exact a.elim
 |ok d ρ1=>
  rw[q]at a;intro v G' H' e' s r;obtain⟨G2,ρ2,d2,e2,r2,a2⟩:=a v G' H' e' s r;refine⟨d2,G2,ρ2,e2,?_⟩;unfold Kq at a2;cases q2:g d2 ρ2 with
  |bad=>rw[q2]at a2;exact a2.elim
  |ok d3 ρ3=>rw[q2]at a2;exact λu G3 H3 e3 s3 r3=>⟨G3,ρ3,d3,e3,mo _ _ _ _ s3 r2,r3,aft.mono s3 a2⟩
end
theorem GJ{K}(G G')(v)(d)(e:Same G G')(r:Rep K G v d):Rep K G' v d:=r.mono e
theorem tM.two{K}{B G0}{β δ}{S}{σ}{H}{f g}{k:D->D->M β}{Q:δ->Hp->Prop}{P:V->V->Hp->Prop}
  (h:tM K B G0 S (Kq f λx=>Kq g λy=>k x y) σ H Q)
  (i:∀v u H2 G ρ x y,EOk K B G0 G H2 σ ρ->Rep K G v x->Rep K G u y->aft K B G0 S (k x y ρ) G σ Q->P v u H2) :
  tD K B G0 f σ H (λv H1=>tD K B G0 g σ H1 λu H2=>P v u H2):=by
 obtain⟨G,ρ,e,a⟩:=tM.bind2   GJ h;refine⟨G,ρ,e,?_⟩;cases q:f ρ with
 |bad=>rw[q]at a;exact a.elim
 |ok d ρ1=>
  rw[q]at a;intro v G' H' e' s r;obtain⟨x,G2,ρ2,e2,a2⟩:=a v G' H' e' s r;refine⟨G2,ρ2,e2,?_⟩;cases q2:g ρ2 with
  |bad=>rw[q2]at a2;exact a2.elim
  |ok d3 ρ3=>rw[q2]at a2;intro u G3 H3 e3 s3 r3;obtain⟨G4,ρ4,y,e4,r4,r5,a5⟩:=a2 u G3 H3 e3 s3 r3;exact i v u H3 G4 ρ4 x y e4 r4 r5 a5
theorem tM.one{K}{B G0}{α β γ δ}{R}{S}{σ}{H}{f}{k:α->M β}{Q:δ->Hp->Prop}{P:γ->Hp->Prop}
  (h:tM K B G0 S (Kq f k) σ H Q) (i:∀v H2 G ρ x,EOk K B G0 G H2 σ ρ->R G v x->aft K B G0 S (k x ρ) G σ Q->P v H2):tM K B G0 R f σ H P:=by
 obtain⟨G,ρ,e,a⟩:=tM.bind  h;refine⟨G,ρ,e,?_⟩;cases q:f ρ with
 |bad=>rw[q]at a;exact a.elim
 |ok d ρ1=>rw[q]at a;intro v G' H' e' s r;obtain⟨G2,ρ2,d2,e2,r2,a2⟩:=a v G' H' e' s r;exact i v H' G2 ρ2 d2 e2 r2 a2
section
variable{X:Cx}{B G0:Hp}{e a b:UA}{pos:Pos}
theorem KF  (h:PE X e t)(i:∀σ H Q,t' σ H Q->t σ H Q):PE X e t':=λpins s σ H Q I q=>h pins s σ H Q I (i σ H Q q)
theorem Yk  (h:PT X e t)(i:∀σ H Q,t' σ H Q->t σ H Q):PT X e t':=λpins s σ H Q I q=>h pins s σ H Q I (i σ H Q q)
theorem paof   (h:PA X es t)(i:∀σ H Q,t' σ H Q->t σ H Q):PA X es t':=λps pins s σ H Q I q=>h ps pins s σ H Q I (i σ H Q q)
theorem poof   (h:PO X eo t)(i:∀σ H Q,t' σ H Q->t σ H Q):PO X eo t':=λpins s σ H Q I q=>h pins s σ H Q I (i σ H Q q)
theorem ZH{st}{t t'}(h:PS X st t)(i:∀D σ H,t' D σ H->t D σ H):PS X st t':=λpins s σ H D I q=>h pins s σ H D I (i D σ H q)
theorem LH{st}{t t'}(h:PSs X st t)(i:∀D σ H,t' D σ H->t D σ H):PSs X st t':=λpins s σ H D I q=>h pins s σ H D I (i D σ H q)
noncomputable def UU(i:Nat):M D:=λρ=>match ρ[i]? with
 |some (O (.pub d))=>.ok d ρ
 |some (O (.own ds))=>.ok (.list ds) (ρ.set i (O (.pub (.list ds))))
 |_=>.bad
theorem Ye  (h:PE X e (Zk i)):PE X e (tD X.K B G0 (UU i)):=KF h λσ H Q ⟨G,ρ,k,a⟩=>by
 unfold UU at a;cases q:ρ[i]? with
 |none=>rw[q]at a;exact a.elim
 |some o=>
  cases o with
  |none=>rw[q]at a;exact a.elim
  |some sl=>
   cases sl with
   |deep _ _=>rw[q]at a;exact a.elim
   |pub d=>rw[q]at a;obtain⟨v,h1,h2⟩:=k.pub i d q;exact⟨v,h1,a.now k h2⟩
   |own ds=>rw[q]at a;obtain⟨ad,G',h1,h2,h3,h4⟩:=k.publish q;exact⟨.ref ad,h1,a _ G' H h4 h2 h3⟩
theorem P8   (h:PE X e (tC v))(r:∀G,Rep X.K G v d):PE X e (tD X.K B G0 (U2 d)):=KF h λσ H Q ⟨G,ρ,k,a⟩=>a.now k (r G)
theorem LS   : PE X (.Constant (.int i) j pos) (tD X.K B G0 (U2 (.int i))):=P8 Ao λ_=>.int i
theorem A3   : PE X (.Constant (.bool i) j pos) (tD X.K B G0 (U2 (.bool i))):=P8 CN λ_=>.bl i
theorem A0{j}:PE X (.Constant .none j pos) (tD X.K B G0 (U2 .none)):=P8 An λ_=>.non
theorem BL   : PE X (.Constant (.str x) j pos) (tD X.K B G0 (U2 (.str x))):=P8 Am λ_=>.str x
noncomputable def U1{β:Type}(op:D->D->Option β)(f g:M D):M β:=Kq f λx=>Kq g λy=>Ku (op x y)
def OpD(X:Cx)(f:Uv->Uv->Sem Uv)(op:D->D->zx):Prop:=
 ∃r:R2,OpR X f r/\∀v u G H x y d Q,Same G H->Rep X.K G v x->Rep X.K G u y->op x y=O d->(∀w G' H',Ext G H G' H'->Rep X.K G' w d->Q w H')->r v u H Q
theorem VW    (o:OpD X (binaryOp op) p)(ha:PE X a (tD X.K B G0 f))(hb:PE X b (tD X.K B G0 g)):PE X (.BinOp a op b pos) (tD X.K B G0 (U1 p f g)):=by
 obtain⟨r,h,i⟩:=o;refine KF (Lx h ha hb) λσ H Q q=>?_;refine tM.two q λv u H2 G ρ x y k rx ry a=>?_
 obtain⟨d,e,a⟩:=a.opt;exact i v u G H2 x y d Q k.gh rx ry e λw G' H' ex rw=>a.done k ex rw
theorem OpD.or   (h:OpD X f p)(h':OpD X f q):OpD X f (λx y=>(p x y).orElse λ_=>q x y):=by
 obtain⟨r,h1,i1⟩:=h;obtain⟨r',h2,i2⟩:=h';refine⟨_,h1.or h2,λv u G H x y d Q s rx ry e k=>?_⟩;dsimp only at e;cases z:p x y with
 |some d'=>rw[z]at e;have e'   :=QO e;subst e';exact .inl (i1 v u G H x y d' Q s rx ry z k)
 |none=>rw[z]at e;exact .inr (i2 v u G H x y d Q s rx ry e k)
noncomputable def oII(g:Int->Int->zx):D->D->zx
 |.int i,.int j=>g i j
 |_,_=>zp
theorem GI   (e:oII g x y=O d):∃i j,x=.int i/\y=.int j/\g i j=O d:=by
 unfold oII at e;split at e
 .exact⟨_,_,rfl,rfl,e⟩
 simp_all
theorem OpD.int     (h:OpR X f (rI C g))(i:∀i j d,p i j=O d->C i j/\∀G,Rep X.K G (g i j) d):OpD X f (oII p):=by refine⟨_,h,λv u G H x y d Q s rx ry e k=>?_⟩;obtain⟨a,b,rfl,rfl,e⟩:=GI e;obtain⟨c,r⟩:=i a b d e;exact⟨a,b,rx.int_inv,ry.int_inv,c,k _ G H (.refl s) (r G)⟩
theorem OpD.int0   {p:Int->Int->D}(h:OpR X f (rI0 g))(i:∀i j G,Rep X.K G (g i j) (p i j)):OpD X f (oII λi j=>O (p i j)):=by refine⟨_,h,λv u G H x y d Q s rx ry e k=>?_⟩;obtain⟨a,b,rfl,rfl,e⟩:=GI e;cases e;exact⟨a,b,rx.int_inv,ry.int_inv,k _ G H (.refl s) (i a b G)⟩
end
section
variable{X:Cx}{B G0:Hp}{e a b c:UA}{pos:Pos}
theorem BK:OpD X (binaryOp .Add) (oII λi j=>O (.int (i+j))):=.int0 Bs λ_ _ _=>.int _
theorem BJ:OpD X (binaryOp .Sub) (oII λi j=>O (.int (i-j))):=.int0 Br λ_ _ _=>.int _
noncomputable def Xm(i j:Int):zx:=if(-(2 ^ 64)<i/\i<2 ^ 64)∨(-(2 ^ 64)<j/\j<2 ^ 64)then O (.int (i*j))else zp
theorem AZ:OpD X (binaryOp .Mult) (oII Xm):=.int Bq λi j d h=>by
 unfold Xm at h;split at h
 .rename_i c
  cases h;exact⟨c,λ_=>.int _⟩
 simp_all
noncomputable def SF(i j:Int):zx:=if 0<j then O (.int (i % j))else zp
theorem BI:OpD X (binaryOp .Mod) (oII SF):=.int Bp λi j d h=>by
 unfold SF at h;split at h
 .rename_i c
  cases h;exact⟨c,λ_=>.int _⟩
 simp_all
theorem xq:OpR X (binaryOp .FloorDiv) (rI (λi j=>0<j/\j<2 ^ 200) λi j=>.int (i / j)):=opI λi j _ _ _ _ _ hc q=>by
 refine floordiv_int (by lia) (by rw[Int.fdiv_eq_ediv_of_nonneg i (by lia)];exact q) (.inl (PyProof.noPylong_of_log2 ?_));have h0:j.natAbs≠0:=by lia
 have:j.natAbs.log2<200:=(Nat.log2_lt h0).mpr (by lia)
 lia
noncomputable def SG(i j:Int):zx:=if 0<j/\j<2 ^ 200 then O (.int (i / j))else zp
theorem BH:OpD X (binaryOp .FloorDiv) (oII SG):=.int xq λi j d h=>by
 unfold SG at h;split at h
 .rename_i c
  cases h;exact⟨c,λ_=>.int _⟩
 simp_all
noncomputable def SE(i j:Int):zx:=if 0<=j/\j<=1000000/\i.natAbs<2 ^ 64 then O (.int (i ^ j.toNat))else zp
theorem BG:OpD X (binaryOp .Pow) (oII SE):=.int Bo λi j d h=>by
 unfold SE at h;split at h
 .rename_i c
  cases h;exact⟨c,λ_=>.int _⟩
 simp_all
theorem lim:(1000000:Nat)<=UB:=by decide
noncomputable def Nb:D->D->zx
 |.str x,.str y=>if x.length+y.length<=1000000 then O (.str (x++y))else zp
 |_,_=>zp
theorem AY:OpD X (binaryOp .Add) Nb:=by
 refine⟨_,wT,λv u G H x y d Q s rx ry e k=>?_⟩;unfold Nb at e;split at e
 .split at e
  .rename_i c
   cases e;exact⟨_,_,rx.str_inv,ry.str_inv,QM c lim,k _ G H (.refl s) (.str _)⟩
  simp_all
 simp_all
noncomputable def DQ(K:Frag):R2:=λx y H Q=>∃l b xs zs,x=.ref l/\y=.ref b/\SqL K H l xs/\SqL K H b zs/\xs.length+zs.length<=UB/\∀p,H p=zp->Q (.ref p) (upd H p (.lst (xs++zs)))
theorem AX:OpR X (binaryOp .Add) (DQ X.K):=by
 intro pins s σ H x y v u Q I rx ry h;obtain⟨l,b,xs,zs,rfl,rfl,hH,hB,hz,q⟩:=h;cases rx;cases ry;obtain⟨its,r,⟨⟨c1,d1,t1,s1⟩,n1,e1,bX,bW,bV⟩,z1⟩:=I.list hH;obtain⟨its2,r2,⟨⟨c2,d2,t2,s2⟩,n2,e2,ec2,ed2,et2⟩,z2⟩:=I.list hB;simp only at bX bW bV ec2 ed2 et2;subst bX bW bV ec2 ed2 et2;have hl:=r.length;have hl2:=r2.length;refine concat_meets ⟨_,e1,rfl⟩ ⟨_,e2,rfl⟩ noFill_list_add seq_list_add PySem.F.slot_list_add PySem.F.entry_list_add (PySem.F.args_list_add_2 _ _) (list_addW l b its.toArray its2.toArray n1 n2 zp zp s1 s2 (by grind)) ⟨e1,e2,?_⟩;have ea:its.toArray++its2.toArray=(its++its2).toArray:=by simp
 rw[ea];exact⟨.ref _,_,I.lnew  (r.append r2) (by simp_all),rfl,q _ I.fresh⟩
theorem DP(a)(t)(l)(items)(n)(sl) :
  Meets (Builtin.«int.__rmul__» ⟨[.int a t,.ref l],[]⟩) (λ_ R s=>s.heap.get? l=O {cls:=.type "list", dict:=zp,data:=.seq items n,slots:=sl}/\R (.ok (.ret Value.notImplemented)) s):=
 .of_wp λprog w A R s h=>by obtain⟨hl,h⟩:=h;wp_walk;exact⟨_,rfl,h⟩
theorem mulW(l)(items)(n:Nat)(x:Int)(u:Tok)(sl)(hc0:¬(!Builtin.List.listFitsIndex x)=zq)(hc1:¬items.size*x.toNat > (2 ^ 63-1) / 8)(hc2:¬Builtin.List.listTooLong (items.size*x.toNat)=zq) :
  Meets (Builtin.«list.__mul__» ⟨[.ref l,.int x u],[]⟩) (λ_ R s=>s.heap.get? l=O {cls:=.type "list", dict:=zp,data:=.seq items n,slots:=sl}/\R (.ok (.ret (Value.ref s.heap.objs.size))) {s with heap:=s.heap.push {cls:=Value.type "list", data:=Data.seq (List.foldl (λx1 x2=>x1++x2) #[] (UG (if items.isEmpty=zq then 0 else x.toNat) items))},toks:=s.toks}):=
 .of_wp λprog w A R s h=>by
  obtain⟨hl,h⟩:=h;have hsz:=AutoListH.joined_fits hc2
  wp_walk;refine wpAny_ite_false (QT (Nat.not_lt.mpr hsz)) ?_;wp_walk;exact⟨_,rfl,h⟩
noncomputable def DO(K:Frag):R2:=λx y H Q=>∃l k xs,x=.ref l/\y=.int k/\SqL K H l xs /\ -(2 ^ 63)<=k/\k<2 ^ 63/\xs.length*k.toNat<=UB /\
 ∀p,H p=zp->Q (.ref p) (upd H p (.lst (UG k.toNat xs).flatten))
theorem GH:OpR X (binaryOp .Mult) (DO X.K):=by
 intro pins s σ H x y v u Q I rx ry h;obtain⟨l,k,xs,rfl,rfl,hH,h1,h2,hz,q⟩:=h;cases rx;obtain⟨t,rfl⟩:=ry;obtain⟨its,r,⟨⟨c1,d1,t1,sl⟩,n,e,bX,bW,bV⟩,z⟩:=I.list hH;simp only at bX bW bV;subst bX bW bV;have hl:=r.length;have hlen:its.toArray.size*k.toNat<=UB:=by rw[Jk,←hl];exact hz
 have hcap:¬its.toArray.size*k.toNat > (2 ^ 63-1) / 8:=by
  have:(UB:Nat)<=(2 ^ 63-1) / 8:=by decide
  lia
 have hfit:¬(!Builtin.List.listFitsIndex k)=zq:=by rw[fitsIndex_both h1 h2];exact Bool.false_ne_true
 have bN:¬Builtin.List.listTooLong (its.toArray.size*k.toNat)=zq:=by rw[xA hlen];exact Bool.false_ne_true
 have hnew:List.foldl (λx1 x2=>x1++x2) #[] (UG (if its.toArray.isEmpty=zq then 0 else k.toNat) its.toArray)=(UG k.toNat its).flatten.toArray:=by
  have f0   :=λm=>by have:=Ea its m [];rw[QR]at this;exact this
  rw[f0];cases its with
  |nil=>simp
  |cons a r'=>rw[if_neg (by simp)]
 refine wpAny_binaryOp_repeat_ref  (U:= "int") (by decide) ⟨_,e,rfl⟩ (λs'=>typeIs_int s' k t) noFill_list_mul F.fills_int_mul F.slot_int_rmul repeat_list F.slot_int_index.lookup
  (call_meets F.slot_int_rmul (typeIs_int s k t) F.entry_int_rmul (F.args_int_rmul_2 _ _) (DP k t l its.toArray n sl)
   ⟨e,rfl,⟨_,e,rfl⟩,call_meets F.slot_list_mul ⟨_,e,rfl⟩ F.entry_list_mul (F.args_list_mul_2 _ _) (mulW l its.toArray n k t sl hfit hcap bN) ⟨e,?_⟩⟩)
 rw[hnew];exact⟨.ref _,_,I.lnew  (r.rep k.toNat) (by rw[jm,Nat.mul_comm];exact hz),rfl,q _ I.fresh⟩
noncomputable def LG:D->D->zx
 |.list x,.list y=>if x.length+y.length<=1000000 then O (.list (x++y))else zp
 |_,_=>zp
theorem AW:OpD X (binaryOp .Add) LG:=by
 refine⟨_,AX,λv u G H x y d Q s rx ry e k=>?_⟩;unfold LG at e;split at e
 .split at e
  .rename_i c
   cases e;obtain⟨l,vs,rfl,h1,r1⟩:=rx.lst_inv;obtain⟨b,ws,rfl,h2,r2⟩:=ry.lst_inv;refine⟨l,b,vs,ws,rfl,rfl,s.seq h1,s.seq h2,by rw[r1.length,r2.length];exact QM c lim,λp hp=>k _ _ _ (Ext.new s hp) ?_⟩;exact .lst (SqL.of Zq) ((r1.append r2).mono (ZQ (s.free hp)))
  simp_all
 simp_all
theorem Reps.rep{K}{G}{vs}{ds}(r:Reps K G vs ds):∀n:Nat,Reps K G (UG n vs).flatten (UG n ds).flatten
 |0=>.nil
 |n+1=>by exact r.append (r.rep n)
noncomputable def LF:D->D->zx
 |.list x,.int k=>if -1000000<=k/\k<=1000000/\x.length*k.toNat<=1000000 then O (.list (UG k.toNat x).flatten)else zp
 |_,_=>zp
theorem AV:OpD X (binaryOp .Mult) LF:=by
 refine⟨_,GH,λv u G H x y d Q s rx ry e k=>?_⟩;unfold LF at e;split at e
 .split at e
  .rename_i c
   cases e;obtain⟨l,vs,rfl,h1,r1⟩:=rx.lst_inv;refine⟨l,_,vs,rfl,ry.int_inv,s.seq h1,by lia,by lia,by rw[r1.length];exact QM c.2.2 lim,λp hp=>k _ _ _ (Ext.new s hp) ?_⟩;exact .lst (SqL.of Zq) ((r1.rep _).mono (ZQ (s.free hp)))
  simp_all
 simp_all
noncomputable def Ke:D->D->zx
 |.int i,.int j=>O (.int (i+j))
 |.str x,.str y=>if x.length+y.length<=1000000 then O (.str (x++y))else zp
 |.list x,.list y=>if x.length+y.length<=1000000 then O (.list (x++y))else zp
 |_,_=>zp
noncomputable def Zi:D->D->zx
 |.int i,.int j=>O (.int (i-j))
 |_,_=>zp
noncomputable def KZ:D->D->zx
 |.int i,.int j=>Xm i j
 |.list x,.int k=>if -1000000<=k/\k<=1000000/\x.length*k.toNat<=1000000 then O (.list (UG k.toNat x).flatten)else zp
 |_,_=>zp
noncomputable def YZ:D->D->zx
 |.int i,.int j=>SF i j
 |_,_=>zp
noncomputable def Wv:D->D->zx
 |.int i,.int j=>SG i j
 |_,_=>zp
noncomputable def Vh:D->D->zx
 |.int i,.int j=>SE i j
 |_,_=>zp
theorem OpD.congr   (h:OpD X f p)(e:∀x y,q x y=p x y):OpD X f q:=by
 have   :=by funext x y;exact e x y
 simp_all
theorem LD:OpD X (binaryOp .Add) Ke:=(BK.or (AY.or AW)).congr λx y=>by cases x<;>cases y<;>first|rfl|(done)|(simp only[Ke,Nb];split<;>rfl)
theorem LC:OpD X (binaryOp .Sub) Zi:=BJ.congr λx y=>by cases x<;>cases y<;>rfl
theorem LB:OpD X (binaryOp .Mult) KZ:=(AZ.or AV).congr λx y=>by cases x<;>cases y<;>first|rfl|(done)|(simp only[Option.orElse];split<;>first|rfl|assumption)
theorem DN:OpD X (binaryOp .Mod) YZ:=BI.congr λx y=>by cases x<;>cases y<;>rfl
theorem DM:OpD X (binaryOp .FloorDiv) Wv:=BH.congr λx y=>by cases x<;>cases y<;>rfl
theorem DK:OpD X (binaryOp .Pow) Vh:=BG.congr λx y=>by cases x<;>cases y<;>rfl
end
section
variable{X:Cx}{B G0:Hp}{e a b c:UA}{pos:Pos}
def OpB(X:Cx)(f:Uv->Uv->Sem Uv)(op:D->D->zK):Prop:=
 ∃r:R2,OpR X f r/\∀v u G H x y d Q,Same G H->Rep X.K G v x->Rep X.K G u y->op x y=O d->Q (.bl d) H->r v u H Q
theorem OpB.or   (h:OpB X f p)(h':OpB X f q):OpB X f (λx y=>(p x y).orElse λ_=>q x y):=by
 obtain⟨r,h1,i1⟩:=h;obtain⟨r',h2,i2⟩:=h';refine⟨_,h1.or h2,λv u G H x y d Q s rx ry e k=>?_⟩;dsimp only at e;cases z:p x y with
 |some d'=>rw[z]at e;have e'   :=QO e;subst e';exact .inl (i1 v u G H x y d' Q s rx ry z k)
 |none=>rw[z]at e;exact .inr (i2 v u G H x y d Q s rx ry e k)
theorem OpB.congr   (h:OpB X f p)(e:∀x y,q x y=p x y):OpB X f q:=by
 have   :=by funext x y;exact e x y
 simp_all
theorem NW    (o:OpB X (UE op) p)(ha:PE X a (tD X.K B G0 f))(hb:PE X b (tD X.K B G0 g))(hm:behindInMarks op b=zr) :
  PT X (.Compare a [op] [b] pos) (tBo X.K B G0 (U1 p f g)):=by
 obtain⟨r,h,i⟩:=o;refine Yk (N0 h ha hb hm) λσ H Q q=>?_;refine tM.two q λv u H2 G ρ x y k rx ry a=>?_
 obtain⟨d,e,a⟩:=a.opt;exact i v u G H2 x y d _ k.gh rx ry e ⟨d,rfl,a.now k zo⟩
noncomputable def Ka{α β:Type}(h:α->β)(f:M α):M β:=Kq f λx=>U2 (h x)
theorem tM.map{K}{α β γ δ}{R}{S}{σ}{H}{h:α->β}{f}{Q}(j:γ->δ)(q:tM K B G0 S (Ka h f) σ H Q)
  (i:∀G v x,R G v x->S G (j v) (h x)):tM K B G0 R f σ H (λv H'=>Q (j v) H'):=
 tM.one   q λv H2 G ρ x k r a=>aft.now (a) k (i G v x r)
theorem tBo.val{K}{σ}{H}{f}{Q}(q:tD K B G0 (Ka UI f) σ H Q):tBo K B G0 f σ H (λb H'=>Q (.bl b) H'):=
 tM.map  V.bl q λG v x e=>by rw[e];exact .bl x
theorem AU    (o:OpB X (UE op) p)(ha:PE X a (tD X.K B G0 f))(hb:PE X b (tD X.K B G0 g))(hm:behindInMarks op b=zr) :
  PE X (.Compare a [op] [b] pos) (tD X.K B G0 (Ka UI (U1 p f g))):=by
 obtain⟨r,h,i⟩:=o;refine KF (GD h ha hb hm) λσ H Q q=>?_;refine tM.two (tBo.val q) λv u H2 G ρ x y k rx ry a=>?_
 obtain⟨d,e,a⟩:=a.opt;exact i v u G H2 x y d _ k.gh rx ry e (a.now k zo)
noncomputable def Rj(p q:D->D->zK)(f g h:M D):M Bool:=Kq f λx=>Kq g λy=>Kq (Ku (p x y)) λt=>if t=zq then Kq h λz=>Ku (q y z)else U2 zr
theorem wK  {p q}{f g h}(o:OpB X (UE op) p)(o':OpB X (UE op') q)(ha:PE X a (tD X.K B G0 f))(hb:PE X b (tD X.K B G0 g))(hc:PE X c (tD X.K B G0 h))
  (hm:lastMarks [op,op'] [b,c]=zr:=by with_unfolding_all rfl):PT X (.Compare a [op,op'] [b,c] pos) (tBo X.K B G0 (Rj p q f g h)):=by
 obtain⟨r,h1,i⟩:=o;obtain⟨r',h2,i'⟩:=o';refine Yk (kU h1 h2 ha hb hc hm) λσ H Q w=>?_;refine tM.two w λv u H2 G ρ x y k rx ry a=>?_
 cases z:p x y with
 |none=>rw[z]at a;exact a.elim
 |some t=>
  rw[z]at a;refine i v u G H2 x y t _ k.gh rx ry z ⟨t,rfl,?_⟩;cases t with
  |false=>exact⟨zr,rfl,aft.now a k zo⟩
  |true=>
   refine⟨G,ρ,k,?_⟩;have a4:aft X.K B G0 _ ((Kq h λz=>Ku _) ρ) G σ Q:=a;unfold Kq at a4;cases z2:h ρ with
   |bad=>rw[z2]at a4;exact a4.elim
   |ok d ρ1=>rw[z2]at a4;intro w G5 H5 k5 s5 r5;obtain⟨t2,e2,a6⟩:=a4.opt;exact i' u w G5 H5 y d t2 _ k5.gh (ry.mono s5) r5 e2 ⟨t2,rfl,a6 t2 G5 H5 k5 s5 zo⟩
theorem wJ  {p q}{f g h}(o:OpB X (UE op) p)(o':OpB X (UE op') q)(ha:PE X a (tD X.K B G0 f))(hb:PE X b (tD X.K B G0 g))(hc:PE X c (tD X.K B G0 h))
  (hm:lastMarks [op,op'] [b,c]=zr:=by with_unfolding_all rfl):PE X (.Compare a [op,op'] [b,c] pos) (tD X.K B G0 (Ka UI (Rj p q f g h))):=by
 obtain⟨r,h1,i⟩:=o;obtain⟨r',h2,i'⟩:=o';refine KF (kW h1 h2 ha hb hc hm) λσ H Q w=>?_;refine tM.two (tBo.val w) λv u H2 G ρ x y k rx ry a=>?_
 cases z:p x y with
 |none=>rw[z]at a;exact a.elim
 |some t=>
  rw[z]at a;refine i v u G H2 x y t _ k.gh rx ry z ⟨t,rfl,?_⟩;cases t with
  |false=>exact aft.now (v:=zr) a k zo
  |true=>
   refine⟨G,ρ,k,?_⟩;have a4:aft X.K B G0 _ ((Kq h λz=>Ku _) ρ) G σ _:=a;unfold Kq at a4;cases z2:h ρ with
   |bad=>rw[z2]at a4;exact a4.elim
   |ok d ρ1=>rw[z2]at a4;intro w G5 H5 k5 s5 r5;obtain⟨t2,e2,a6⟩:=a4.opt;exact i' u w G5 H5 y d t2 _ k5.gh (ry.mono s5) r5 e2 (a6 t2 G5 H5 k5 s5 zo)
noncomputable def oIB(g:Int->Int->Bool):D->D->zK
 |.int i,.int j=>O (g i j)
 |_,_=>zp
theorem OpB.int   (h:OpR X f (rI0 λi j=>.bl (g i j))):OpB X f (oIB g):=by
 refine⟨_,h,λv u G H x y d Q s rx ry e k=>?_⟩;unfold oIB at e;split at e
 .cases e
  exact⟨_,_,rx.int_inv,ry.int_inv,k⟩
 simp_all
theorem B_lt:OpB X (UE .Lt) (oIB λi j=>decide (i<j)):=.int Cz
theorem B_le:OpB X (UE .LtE) (oIB λi j=>decide (i<=j)):=.int Cy
theorem B_gt:OpB X (UE .Gt) (oIB λi j=>decide (j<i)):=.int Cw
theorem B_ge:OpB X (UE .GtE) (oIB λi j=>decide (j<=i)):=.int Bb
mutual
theorem Xg{pins:List (Uy×Obj)}{s:Uw}{σ:St}{G H:Hp}(I:Inv X pins σ H s)(sg:Same G H):∀{v:V}{d:D}{u:Uv},Rep X.K G v d->RelV v u->d.canLay0=zq->∃as,Reads s.heap u d as
 |_,_,_,.non,r,_=>by cases r;exact⟨_,.none⟩
 |_,_,_,.bl b,r,_=>by cases r;exact⟨_,.bool b⟩
 |_,_,_,.int i,r,_=>by obtain⟨t,rfl⟩:=r;exact⟨_,.int i t⟩
 |_,_,_,.str x,r,_=>by obtain⟨t,rfl⟩:=r;exact⟨_,.str x t⟩
 |_,_,_,.lst h q,r,c=>by cases r;obtain⟨its,rv,⟨o,n,e,hc,_,hd⟩,hz⟩:=I.list (sg.seq h);obtain⟨as,ra⟩:=readsAll_of I sg q rv (show UL _=zq by simpa[PyData.canLay0]using c);exact⟨_,.list e hc hd (by simpa using ra)⟩
 |_,_,_,.tup h q,r,c=>by cases r;obtain⟨its,rv,p,hz⟩:=I.tuple (Xr sg h);obtain⟨o,e,hc,n,hd⟩:=p;obtain⟨as,ra⟩:=readsAll_of I sg q rv (show UL _=zq by simpa[PyData.canLay0]using c);exact⟨_,.tuple e hc hd (by simpa using ra)⟩
 |_,_,_,.dic h,r,c=>by simp[PyData.canLay0]at c
 |_,_,_,.exc _ _ _ _,r,c=>by simp[PyData.canLay0]at c
 |_,_,_,.dct _ _ _ _ _,r,c=>by simp[PyData.canLay0]at c
 |_,_,_,.dtt _ _ _ _,r,c=>by simp[PyData.canLay0]at c
theorem readsAll_of{pins:List (Uy×Obj)}{s:Uw}{σ:St}{G H:Hp}(I:Inv X pins σ H s)(sg:Same G H):∀{vs:List V}{ds:zw}{us:zA},Reps X.K G vs ds->Vals vs us->UL ds=zq->∃as,ReadsAll s.heap us ds as
 |_,_,_,.nil,r,_=>by cases r;exact⟨_,.nil⟩
 |_,_,_,.cons h t,r,c=>by
  cases r with
  |cons r1 r2=>have c':=c;rw[UL,Je]at c';obtain⟨as,ra⟩:=Xg I sg h r1 c'.1;obtain⟨bs,rb⟩:=readsAll_of I sg t r2 c'.2;exact⟨_,.cons ra rb⟩
end
noncomputable def oEq(x y:D):zK:=if x.canLay0=zq/\y.canLay0=zq/\x.depth<=60 then O (UN x y)else zp
noncomputable def oNe(x y:D):zK:=if x.canLay0=zq/\y.canLay0=zq/\x.depth<=60 then O (!UN x y)else zp
theorem B_eq(hu:X.A.units+64<cLine):OpB X (UE .Eq) oEq:=by
 refine⟨λv u H Q=>∃G x y d,Same G H/\Rep X.K G v x/\Rep X.K G u y/\oEq x y=O d/\Q _ H,?_,λv u G H x y d Q s rx ry e k=>⟨G,x,y,d,s,rx,ry,e,k⟩⟩;intro pins s σ H x y v u Q I rx ry ⟨G,dx,dy,d,sg,px,py,e,q⟩;unfold oEq at e;split at e
 .rename_i c
  cases e;obtain⟨as,ra⟩:=Xg I sg px rx c.1;obtain⟨bs,rb⟩:=Xg I sg py ry c.2.1;exact SeqAt.compareEq_reads ra rb c.1 c.2.1 (by lia) ⟨.bl _,H,I,rfl,q⟩
 simp_all
theorem B_ne(hu:X.A.units+64<cLine):OpB X (UE .NotEq) oNe:=by
 refine⟨λv u H Q=>∃G x y d,Same G H/\Rep X.K G v x/\Rep X.K G u y/\oNe x y=O d/\Q _ H,?_,λv u G H x y d Q s rx ry e k=>⟨G,x,y,d,s,rx,ry,e,k⟩⟩;intro pins s σ H x y v u Q I rx ry ⟨G,dx,dy,d,sg,px,py,e,q⟩;unfold oNe at e;split at e
 .rename_i c
  cases e;obtain⟨as,ra⟩:=Xg I sg px rx c.1;obtain⟨bs,rb⟩:=Xg I sg py ry c.2.1;exact SeqAt.compareNe_reads ra rb c.1 c.2.1 (by have:=c.2.2;lia) ⟨.bl _,H,I,rfl,q⟩
 simp_all
noncomputable def isNon:D->Bool
 |.none=>zq
 |_=>zr
theorem Rep.isNon{K}{G}{v}{d}(r:Rep K G v d):DL.isNon d=decide (v=.non):=by cases r<;>simp[DL.isNon]
end
section
variable{X:Cx}{B G0:Hp}{e a b c:UA}{pos:Pos}{es rest:zy}
theorem tM.nx{K}{α β γ δ}{R}{S}{σ}{G H}{ρ}{f}{g:α->M β}{Q:δ->Hp->Prop}{P:γ->Hp->Prop}
  (k:EOk K B G0 G H σ ρ) (a:aft K B G0 S (Kq f g ρ) G σ Q) (i:∀v H' G' ρ' x,EOk K B G0 G' H' σ ρ'->Same G G'->R G' v x->aft K B G0 S (g x ρ') G' σ Q->P v H'):tM K B G0 R f σ H P:=by
 refine⟨G,ρ,k,?_⟩;unfold Kq at a;cases q:f ρ with
 |bad=>rw[q]at a;exact a.elim
 |ok d ρ1=>rw[q]at a;exact λv G' H' e s r=>i v H' G' ρ1 d e s r (aft.mono s a)
noncomputable def ZU(f g:M Bool):M Bool:=Kq f λt=>if t=zq then g else U2 zr
noncomputable def mOr(f g:M Bool):M Bool:=Kq f λt=>if t=zq then U2 zq else g
noncomputable def Za(f:M Bool):M Bool:=Ka (λt=>!t) f
theorem AT{K}{f g}{σ}{H}{Q}(q:tBo K B G0 (ZU f g) σ H Q):tAnd (tBo K B G0 f) (tBo K B G0 g) σ H Q:=
 tM.one  q λv H2 G ρ x k r a=>by
  subst r;cases v with
  |true=>exact⟨G,ρ,k,a⟩
  |false=>exact aft.now  a k zo
theorem BF{K}{f g}{σ}{H}{Q}(q:tBo K B G0 (mOr f g) σ H Q):tOr (tBo K B G0 f) (tBo K B G0 g) σ H Q:=
 tM.one  q λv H2 G ρ x k r a=>by
  subst r;cases v with
  |false=>exact⟨G,ρ,k,a⟩
  |true=>exact aft.now  a k zo
theorem pwof  (h:PW X e t)(i:∀σ H Q,t' σ H Q->t σ H Q):PW X e t':=λwh pins s σ H Q I q=>h wh pins s σ H Q I (i σ H Q q)
theorem jR  (ha:PT X a (tBo X.K B G0 f)):PW X (.BoolOp .And [a] pos) (tBo X.K B G0 f):=jf ha
theorem AS{f:M Bool}(ha:PT X a (tBo X.K B G0 f)):PW X (.BoolOp .Or [a] pos) (tBo X.K B G0 f):=Aj ha
theorem AR  (ha:PT X a (tBo X.K B G0 f))(hb:PW X (.BoolOp .And (b::rest) pos) (tBo X.K B G0 g)):PW X (.BoolOp .And (a::b::rest) pos) (tBo X.K B G0 (ZU f g)):=pwof (AN ha hb) λ_ _ _ q=>AT q
theorem BE  (ha:PT X a (tBo X.K B G0 f))(hb:PW X (.BoolOp .Or (b::rest) pos) (tBo X.K B G0 g)):PW X (.BoolOp .Or (a::b::rest) pos) (tBo X.K B G0 (mOr f g)):=pwof (CL ha hb) λ_ _ _ q=>BF q
theorem AQ  (ha:PT X a (tBo X.K B G0 f)):PT X (.UnaryOp .Not a pos) (tBo X.K B G0 (Za f)):=Yk (AM ha) λσ H Q q=>tM.map  _ q λ_ v x e=>by rw[e]
noncomputable def Ys(f:M D):M Bool:=Kq f λx=>match x with | .bool t=>U2 t|_=>λ_=>.bad
theorem AO  (h:PE X e (tD X.K B G0 f))(he:∀whole,isTrue e X.env whole=(do let v ←whole;standAt e.pos;holding [v] (truthy v)):=by intro _;rfl):PT X e (tBo X.K B G0 (Ys f)):=
 Yk (Ak h he) λσ H Q q=>tM.one  q λv H2 G ρ x k r a=>by
  cases x with
  |bool t=>exact⟨t,r.bl_inv,aft.now  a k zo⟩
  |_=>exact a.elim
noncomputable def SZ(f g:M D):M D:=Kq f λx=>match x with | .bool zq=>g | .bool zr=>U2 (.bool zr)|_=>λ_=>.bad
noncomputable def Vj(f g:M D):M D:=Kq f λx=>match x with | .bool zq=>U2 (.bool zq) | .bool zr=>g|_=>λ_=>.bad
noncomputable def Nh(f:M D):M D:=Kq f λx=>match x with | .bool t=>U2 (.bool (!t))|_=>λ_=>.bad
theorem qE  (ha:PE X a (tD X.K B G0 f))(hb:PE X (.BoolOp .And (b::rest) pos) (tD X.K B G0 g)):PE X (.BoolOp .And (a::b::rest) pos) (tD X.K B G0 (SZ f g)):=
 KF (AK ha hb) λσ H Q q=>tM.one  q λv H2 G ρ x k r a=>by
  cases x with
  |bool t=>
   refine⟨t,r.bl_inv,?_⟩;cases t with
   |true=>exact⟨G,ρ,k,a⟩
   |false=>exact aft.now a k (.bl zr)
  |_=>exact a.elim
theorem BD  (ha:PE X a (tD X.K B G0 f))(hb:PE X (.BoolOp .Or (b::rest) pos) (tD X.K B G0 g)):PE X (.BoolOp .Or (a::b::rest) pos) (tD X.K B G0 (Vj f g)):=
 KF (CH ha hb) λσ H Q q=>tM.one  q λv H2 G ρ x k r a=>by
  cases x with
  |bool t=>
   refine⟨t,r.bl_inv,?_⟩;cases t with
   |false=>exact⟨G,ρ,k,a⟩
   |true=>exact aft.now a k (.bl zq)
  |_=>exact a.elim
theorem qD{op}{f:M D}(h:PE X a (tD X.K B G0 f)):PE X (.BoolOp op [a] pos) (tD X.K B G0 f):=AL h
theorem qC  (ha:PE X a (tD X.K B G0 f)):PE X (.UnaryOp .Not a pos) (tD X.K B G0 (Nh f)):=
 KF (AJ ha) λσ H Q q=>tM.one  q λv H2 G ρ x k r a=>by
  cases x with
  |bool t=>exact⟨t,r.bl_inv,aft.now a k (.bl _)⟩
  |_=>exact a.elim
noncomputable def mIf{α:Type}(f:M Bool)(g h:M α):M α:=Kq f λt=>if t=zq then g else h
theorem wI   (hc:PT X c (tBo X.K B G0 f))(ha:PE X a (tD X.K B G0 g))(hb:PE X b (tD X.K B G0 h)):PE X (.IfExp c a b pos) (tD X.K B G0 (mIf f g h)):=
 KF (xa hc ha hb) λσ H Q q=>tM.one  q λv H2 G ρ x k r a=>by
  subst r;cases v with
  |true=>exact⟨G,ρ,k,a⟩
  |false=>exact⟨G,ρ,k,a⟩
theorem qB   (ha:PE X a (tD X.K B G0 f)):PT X (.Compare a [.Is] [.Constant .none j p2] pos) (tBo X.K B G0 (Ka isNon f)):=
 Yk (Oc (L0 ha)) λσ H Q q=>tM.one  q λv H2 G ρ x k r a=>⟨_,rfl,aft.now a k (by rw[r.isNon])⟩
theorem Fz   (ha:PE X a (tD X.K B G0 f)):PT X (.Compare a [.IsNot] [.Constant .none j p2] pos) (tBo X.K B G0 (Ka (λd=>!isNon d) f)):=
 Yk (Oc (jg ha)) λσ H Q q=>tM.one  q λv H2 G ρ x k r a=>⟨_,rfl,aft.now a k (by dsimp only;rw[r.isNon])⟩
theorem qA   (ha:PE X a (tD X.K B G0 f)):PE X (.Compare a [.Is] [.Constant .none j p2] pos) (tD X.K B G0 (Ka (λd=>.bool (isNon d)) f)):=
 KF (Al (L0 ha)) λσ H Q q=>tM.one  q λv H2 G ρ x k r a=>aft.now a k (by dsimp only;rw[r.isNon];exact .bl _)
noncomputable def UV:M zw:=U2 []
noncomputable def UX(f:M D)(g:M zw):M zw:=Kq f λx=>Kq g λxs=>U2 (x::xs)
theorem RA:PA X [] (tDs X.K B G0 UV):=paof Ts λσ H Q ⟨G,ρ,k,a⟩=>aft.now a k .nil
theorem tM.twoA{K}{σ}{H}{f}{g}{β δ}{S}{k:D->zw->M β}{Q:δ->Hp->Prop}{P:V->List V->Hp->Prop}
  (h:tM K B G0 S (Kq f λx=>Kq g λy=>k x y) σ H Q)
  (i:∀v u H2 G ρ x y,EOk K B G0 G H2 σ ρ->Rep K G v x->Reps K G u y->aft K B G0 S (k x y ρ) G σ Q->P v u H2) :
  tD K B G0 f σ H (λv H1=>tDs K B G0 g σ H1 λu H2=>P v u H2):=by
 obtain⟨G,ρ,e,a⟩:=tM.bind2   GJ h;refine⟨G,ρ,e,?_⟩;cases q:f ρ with
 |bad=>rw[q]at a;exact a.elim
 |ok d ρ1=>
  rw[q]at a;intro v G' H' e' s r;obtain⟨x,G2,ρ2,e2,a2⟩:=a v G' H' e' s r;refine⟨G2,ρ2,e2,?_⟩;cases q2:g ρ2 with
  |bad=>rw[q2]at a2;exact a2.elim
  |ok d3 ρ3=>rw[q2]at a2;intro u G3 H3 e3 s3 r3;obtain⟨G4,ρ4,y,e4,r4,r5,a5⟩:=a2 u G3 H3 e3 s3 r3;exact i v u H3 G4 ρ4 x y e4 r4 r5 a5
theorem XA   (ha:PE X e (tD X.K B G0 f))(hr:PA X es (tDs X.K B G0 g))(hs:UD (e::es) X.env=(zr,eval e X.env)::UD es X.env:=by rfl) :
  PA X (e::es) (tDs X.K B G0 (UX f g)):=paof (W7 ha hr hs) λσ H Q q=>tM.twoA q λv u H2 G ρ x y k r1 r2 a=>aft.now a k (.cons r1 r2)
noncomputable def KI(f:M zw):M D:=Kq f λxs=>if xs.length<=1000000 then U2 (.tuple xs)else λ_=>.bad
noncomputable def K0(f:M zw):M D:=Kq f λxs=>if xs.length<=1000000 then U2 (.list xs)else λ_=>.bad
theorem Om  {f}(h:PA X es (tDs X.K B G0 f)):PE X (.Tuple es x1 pos) (tD X.K B G0 (KI f)):=
 KF (Bk h) λσ H Q q=>tM.one  q λv H2 G ρ x k r a=>by
  split at a
  .rename_i c
   refine⟨by rw[r.length];exact QM c lim,λp hp=>?_⟩;exact aft.done a k (Ext.new k.gh hp) (.tup (SqT.of Zq) (r.mono (ZQ (k.gh.free hp))))
  .exact a.elim
theorem NV  (h:PA X es (tDs X.K B G0 f)):PE X (.List es pos) (tD X.K B G0 (K0 f)):=
 KF (LX h) λσ H Q q=>tM.one  q λv H2 G ρ x k r a=>by
  split at a
  .rename_i c
   refine⟨by rw[r.length];exact QM c lim,λp hp=>?_⟩;exact aft.done a k (Ext.new k.gh hp) (.lst (SqL.of Zq) (r.mono (ZQ (k.gh.free hp))))
  .exact a.elim
noncomputable def oIx:D->D->zx
 |.list xs,.int i=>atI xs i
 |.tuple xs,.int i=>atI xs i
 |.str z,.int i=>if z.length<=1000000 then(atI z.cps.toList i).map λc=>.str ⟨#[c]⟩else zp
 |_,_=>zp
theorem Reps.atI{K}{G}{vs}{ds}{i}{d}(r:Reps K G vs ds)(h:L2.atI ds i=O d):∃v,L2.atI vs i=O v/\Rep K G v d:=by
 unfold L2.atI at h⊢;rw[r.length];cases z:ixN ds.length i with
 |none=>simp_all
 |some j=>rw[z]at h;exact r.get  h
theorem LR{K}{v u}{G H}{x y d:D}{Q}(s:Same G H)(rx:Rep K G v x)(ry:Rep K G u y)(e:oIx x y=O d)(k:∀w,Rep K G w d->Q w H):rIx K v u H Q:=by
 unfold oIx at e;split at e
 .obtain⟨l,vs,rfl,h1,r1⟩:=rx.lst_inv
  obtain⟨w,e1,r2⟩:=r1.atI e;exact .inl ⟨l,vs,_,w,rfl,ry.int_inv,s.seq h1,e1,k w r2⟩
 .obtain⟨l,vs,rfl,h1,r1⟩:=rx.tup_inv
  obtain⟨w,e1,r2⟩:=r1.atI e;exact .inr (.inl ⟨l,vs,_,w,rfl,ry.int_inv,Xr s h1,e1,k w r2⟩)
 .split at e
  .rename_i z i hz
   cases q:L2.atI z.cps.toList i with
   |none=>rw[q]at e;cases e
   |some ch=>rw[q]at e;cases e;exact .inr (.inr ⟨z,i,ch,rx.str_inv,ry.int_inv,QM hz lim,q,k _ (.str _)⟩)
  .cases e
 .cases e
theorem BC  (ha:PE X a (tD X.K B G0 f))(hb:PE X b (tD X.K B G0 g))(hs:NY b):PE X (.Subscript a b pos) (tD X.K B G0 (U1 oIx f g)):=
 KF (Ls LW ha hb hs) λσ H Q q=>tM.two q λv u H2 G ρ x y k rx ry a=>by obtain⟨d,e,a⟩:=a.opt;exact LR k.gh rx ry e λw r=>a.now k r
noncomputable def Kb(i:Nat)(g:M D):M D:=λρ=>match ρ[i]? with
 |some (O (.pub d))=>(Kq g λy=>Ku (oIx d y)) ρ
 |some (O (.own _))=>(Kq g λy=>λρ'=>match ρ'[i]? with|some (O (.own ds))=>Ku (oIx (.list ds) y) ρ'|_=>.bad) ρ
 |_=>.bad
theorem Rz   (ha:PE X a (Zk i))(hb:PE X b (tD X.K B G0 g))(hs:NY b):PE X (.Subscript a b pos) (tD X.K B G0 (Kb i g)):=
 KF (Ls LW ha hb hs) λσ H Q ⟨G,ρ,k,a⟩=>by
  unfold Kb at a;cases q:ρ[i]? with
  |none=>rw[q]at a;exact a.elim
  |some o=>
   cases o with
   |none=>rw[q]at a;exact a.elim
   |some sl=>
    cases sl with
    |deep _ _=>rw[q]at a;exact a.elim
    |pub d=>
     rw[q]at a;obtain⟨v,h1,h2⟩:=k.pub i d q;refine⟨v,h1,G,ρ,k,?_⟩;dsimp only[Kq]at a;cases z:g ρ with
     |bad=>rw[z]at a;exact a.elim
     |ok y ρ1=>rw[z]at a;intro u G' H' k' s' r';obtain⟨d',e',a'⟩:=aft.opt a;exact LR k'.gh (h2.mono s') r' e' λw r=>a' w G' H' k' s' r
    |own ds=>
     rw[q]at a;obtain⟨ad,vs,h1,h2,h3,h4,h5⟩:=k.own i ds q;refine⟨.ref ad,h1,G,ρ,k,?_⟩;dsimp only[Kq]at a;cases z:g ρ with
     |bad=>rw[z]at a;exact a.elim
     |ok y ρ1=>
      rw[z]at a;dsimp only at a;intro u G' H' k' s' r';cases z2:ρ1[i]? with
      |none=>rw[z2]at a;exact a.elim
      |some o2=>
       cases o2 with
       |none=>rw[z2]at a;exact a.elim
       |some sl2=>
        cases sl2 with
        |deep _ _=>rw[z2]at a;exact a.elim
        |pub d2=>rw[z2]at a;exact a.elim
        |own es2=>
         rw[z2]at a;obtain⟨d',e',a'⟩:=aft.opt a;obtain⟨ad',vs',g1,g2,g3,g4,g5⟩:=k'.own i es2 z2;rw[h1]at g1;cases g1;cases y with
         |int j=>obtain⟨w,e1,r2⟩:=g5.atI e';exact .inl ⟨ad,vs',j,w,rfl,r'.int_inv,SqL.of g4,e1,a' w G' H' k' s' r2⟩
         |_=>cases e'
noncomputable def cutD(xs:zw)(lo hi:zC):zw:=(xs.drop (HT.sIx xs.length 0 lo)).take (HT.sIx xs.length xs.length hi-HT.sIx xs.length 0 lo)
theorem Reps.cut{K}{G}{vs}{ds}(r:Reps K G vs ds)(lo hi):Reps K G (Wx vs lo hi) (cutD ds lo hi):=by unfold Wx cutD;rw[r.length];exact(r.drop _).take _
noncomputable def WM:D->Option zC
 |.int i=>O (O i)
 |_=>zp
theorem jQ:PO X zp (tOi X.K B G0 (U2 zp)):=poof js λσ H Q ⟨G,ρ,k,a⟩=>aft.now a k zo
theorem jP  (h:PE X e (tD X.K B G0 f)):PO X (O e) (tOi X.K B G0 (Kq f λx=>Ku (WM x))):=poof (jr h) λσ H Q q=>tM.one  q λv H2 G ρ x k r a=>by
 cases x with
 |int i=>exact⟨i,r.int_inv,aft.now  a k zo⟩
 |_=>exact a.elim
end
noncomputable def Vl:List (D×D)->Bool
 |(.none,_)::_=>zq
 |_=>zr
noncomputable def XJ:D->String
 |.none=> "NoneType"
 |.bool _=> "bool"
 |.int _=> "int"
 |.str _=> "str"
 |.list _=> "list"
 |.tuple _=> "tuple"
 |.dict kvs=>if Vl kvs=zq then "" else "dict"
noncomputable def Zx(d:D)(c:String):Bool:=XJ d==c || (XJ d == "bool" && c == "int")
noncomputable def PH:D->Bool
 |.dict kvs=>Vl kvs
 |_=>zr
theorem LQ{ks:zH}{ds:zw}:XJ (.dict ((ks.map kD).zip ds)) = "dict" /\ PH (.dict ((ks.map kD).zip ds))=zr:=by
 cases ks with
 |nil=>exact⟨rfl,rfl⟩
 |cons k ks=>
  cases ds with
  |nil=>exact⟨rfl,rfl⟩
  |cons d ds=>cases k<;>exact⟨rfl,rfl⟩
theorem qz(K)(d:D)(c)(nx:PH d=zr)(hc:c = "int" ∨ c = "bool" ∨ c = "str" ∨ c = "list" ∨ c = "tuple" ∨ c = "dict"):PySem.W.kitOne K (.type (XJ d)) (.type c)=O (Zx d c):=by
 cases d with
 |dict kvs=>
  have e:XJ (.dict kvs) = "dict" :=by
   have nx:Vl kvs=zr:=nx
   show(if Vl kvs=zq then "" else "dict")=_
   rw[nx];rfl
  unfold Zx;rw[e];rcases hc with rfl|rfl|rfl|rfl|rfl|rfl<;>rfl
 |_=>rcases hc with rfl|rfl|rfl|rfl|rfl|rfl<;>rfl
section
variable{X:Cx}{B G0:Hp}{e a b c:UA}{pos:Pos}{es rest:zy}
def XF(X:Cx)(f:Uv)(p:zw->zx):Prop:=
 ∃r,Xe X f r/\∀vs G H ds d Q,Same G H->Reps X.K G vs ds->p ds=O d->(∀w G' H',Ext G H G' H'->Rep X.K G' w d->Q w H')->r vs H Q
noncomputable def ZW(p:zw->zx)(f:M zw):M D:=Kq f λxs=>Ku (p xs)
theorem RF  {p2}{id}{p}{f}(hc:XF X (.builtin id) p)(hg:Gl X x)(hm:X.mg x=zp)(hv:bootBuiltins x=O (.builtin id))(ha:PA X (e::es) (tDs X.K B G0 f))(hn:x ≠ "__name__" :=by decide)(hdb:(x==("__debug__" : Str))=zr:=by decide)
  (he:UD (e::es) X.env=(zr,eval e X.env)::UD es X.env:=by rfl) (hpl:(backTo pos (UD es X.env)).any (·.1)=zr:=by rfl):PE X (.Call (.Name x p2) (e::es) [] pos) (tD X.K B G0 (ZW p f)):=by
 obtain⟨r,h,i⟩:=hc;refine KF (OD h hg hm hv ha hn hdb he hpl) λσ H Q q=>tM.one  q λv H2 G ρ x k rr a=>?_
 obtain⟨d,e,a⟩:=a.opt;exact i v G H2 x d Q k.gh rr e λw G' H' ex rw=>a.done k ex rw
theorem Reps.one_inv{K}{G}{vs}{d}(r:Reps K G vs [d]):∃v,vs=[v]/\Rep K G v d:=by
 cases r with
 |cons h t=>cases t;exact⟨_,rfl,h⟩
theorem Reps.two_inv{K}{G}{vs}{d d'}(r:Reps K G vs [d,d']):∃v v',vs=[v,v']/\Rep K G v d/\Rep K G v' d':=by
 cases r with
 |cons h t=>obtain⟨v',rfl,r'⟩:=t.one_inv;exact⟨_,v',rfl,h,r'⟩
noncomputable def Kp:zw->zx
 |[.list xs]=>O (.int xs.length)
 |[.tuple xs]=>O (.int xs.length)
 |[.str z]=>if z.length<=1000000 then O (.int z.length)else zp
 |_=>zp
theorem DJ:XF X (.builtin "len") Kp:=by
 refine⟨_,FA,λvs G H ds d Q s r e k=>?_⟩;unfold Kp at e;split at e
 .cases e
  obtain⟨v,rfl,q⟩:=r.one_inv;obtain⟨l,ws,rfl,h1,r1⟩:=q.lst_inv;exact⟨.ref l,ws.length,rfl,.inl ⟨ws,s.seq h1,rfl⟩,by rw[r1.length];exact k _ G H (.refl s) (.int _)⟩
 .cases e
  obtain⟨v,rfl,q⟩:=r.one_inv;obtain⟨l,ws,rfl,h1,r1⟩:=q.tup_inv;exact⟨.ref l,ws.length,rfl,.inr ⟨ws,Xr s h1,rfl⟩,by rw[r1.length];exact k _ G H (.refl s) (.int _)⟩
 .split at e
  .rename_i z hz
   cases e;obtain⟨v,rfl,q⟩:=r.one_inv;exact⟨.str z,z.length,by rw[q.str_inv],⟨QM hz lim,rfl⟩,k _ G H (.refl s) (.int _)⟩
  simp_all
 simp_all
noncomputable def SY:zw->zx
 |[.int i,.int j]=>O (.int (if j > i then j else i))
 |_=>zp
theorem BB(hc:X.calm=zq):XF X (.builtin "max") SY:=by
 refine⟨_,wy hc,λvs G H ds d Q s r e k=>?_⟩;unfold SY at e;split at e
 .cases e
  obtain⟨v,v',rfl,r1,r2⟩:=r.two_inv;exact⟨_,_,by rw[r1.int_inv,r2.int_inv],k _ G H (.refl s) (.int _)⟩
 simp_all
noncomputable def Zp(i:Nat):M D:=λρ=>match ρ[i]? with
 |some (O (.pub d))=>Ku (Kp [d]) ρ
 |some (O (.own ds))=>.ok (.int ds.length) ρ
 |_=>.bad
theorem Fy  {p2:Pos}(hg:Gl X "len")(hm:X.mg "len" = zp)(ha:PE X e (Zk i))(he:UD [e] X.env=[(zr,eval e X.env)]:=by rfl):PE X (.Call (.Name "len" p2) [e] [] pos) (tD X.K B G0 (Zp i)):=by
 refine KF (OD FA hg hm PySem.boot_len (W7 ha Ts (by rw[he];rfl)) (by decide) (by decide) (by rw[he];rfl) zo) λσ H Q ⟨G,ρ,k,a⟩=>?_
 unfold Zp at a;cases q:ρ[i]? with
 |none=>rw[q]at a;exact a.elim
 |some o=>
  cases o with
  |none=>rw[q]at a;exact a.elim
  |some sl=>
   cases sl with
   |deep _ _=>rw[q]at a;exact a.elim
   |pub d=>
    rw[q]at a;obtain⟨v,h1,h2⟩:=k.pub i d q;refine⟨v,h1,?_⟩;obtain⟨d',e',a'⟩:=aft.opt a;show ∃x n,[v]=[x]/\LenV X.K x H n/\Q (.int n) H;unfold Kp at e';split at e'
    .rename_i xs he'
     injection he' with bQ aA;subst bQ;cases e'
     obtain⟨l,ws,rfl,g1,r1⟩:=h2.lst_inv;exact⟨.ref l,ws.length,rfl,.inl ⟨ws,k.gh.seq g1,rfl⟩,by rw[r1.length];exact a'.now k (.int _)⟩
    .rename_i xs he'
     injection he' with bQ aA;subst bQ;cases e'
     obtain⟨l,ws,rfl,g1,r1⟩:=h2.tup_inv;exact⟨.ref l,ws.length,rfl,.inr ⟨ws,Xr k.gh g1,rfl⟩,by rw[r1.length];exact a'.now k (.int _)⟩
    .rename_i z he'
     injection he' with bQ aA;subst bQ
     split at e'
     .rename_i hz
      cases e';exact⟨.str z,z.length,by rw[h2.str_inv],⟨QM hz lim,rfl⟩,a'.now k (.int _)⟩
     .cases e'
    .cases e'
   |own ds=>rw[q]at a;obtain⟨ad,vs,h1,g2,g3,h4,h5⟩:=k.own i ds q;exact⟨.ref ad,h1,.ref ad,vs.length,rfl,.inl ⟨vs,SqL.of h4,rfl⟩,by rw[h5.length];exact aft.now a k (.int _)⟩
theorem qy  {s:Uw}{σ:St}{G H:Hp}{v:V}{u:Uv}{d:D}{cv:Uv}{t:Bool}{A:Around}{E}{Q}(I:Inv X pins σ H s)(sg:Same G H)(r:Rep X.K G v d)(rv:RelV v u)(nx:PH d=zr)
  (ek:PySem.W.kitOne X.K (.type (XJ d)) cv=O t) (h:∀tk,Q (.bool t) {s with toks:=tk}):UC (model X.prog X.w) A (call (.builtin "isinstance") [u,cv]) Q E s:=by
 cases r with
 |non=>cases rv;exact JI PySem.W.kitx_none I.kIn True.intro ek (λz=>nomatch z) h
 |bl y=>cases rv;exact JI PySem.W.kitx_bool I.kIn True.intro ek (λz=>nomatch z) h
 |int i=>obtain⟨t',rfl⟩:=rv;exact JI PySem.W.kitx_int I.kIn True.intro ek (λz=>nomatch z) h
 |str y=>obtain⟨t',rfl⟩:=rv;exact JI PySem.W.kitx_str I.kIn True.intro ek (λz=>nomatch z) h
 |lst hl _=>cases rv;obtain⟨its,r,⟨o,n,e,hc,_,hd⟩,hz⟩:=I.list (sg.seq hl);exact JI PySem.W.kitx_list I.kIn ⟨o,e,hc⟩ ek (λz=>nomatch z) h
 |tup hl _=>cases rv;obtain⟨its,r,p,hz⟩:=I.tuple (Xr sg hl);obtain⟨o,e,hc,_⟩:=p;exact JI PySem.W.kitx_tuple I.kIn ⟨o,e,hc⟩ ek (λz=>nomatch z) h
 |@dic ad hd=>
  cases rv;obtain⟨_,_,vs,_,p⟩:=(I.hok ad _ (sg _ _ hd))
  obtain⟨o,es,ep,h1,h2,_⟩:=p;exact JI PySem.W.kitx_dict I.kIn ⟨o,h1,h2.1⟩ ek (λz=>nomatch z) h
 |exc _ _ _ _=>cases nx
 |@dct ad ks vs ds kvs e0 _ _ hd _=>
  cases rv;subst e0;rw[LQ.1]at ek;obtain⟨_,_,vs,_,p⟩:=(I.hok ad _ (sg _ _ hd))
  obtain⟨o,es,ep,h1,h2,_⟩:=p;exact JI PySem.W.kitx_dict I.kIn ⟨o,h1,h2.1⟩ ek (λz=>nomatch z) h
 |@dtt ad ob ks vs ds kvs e0 _ hd _=>
  cases rv;subst e0;obtain⟨_,_,_,xs,_,o,es,ep,h1,h2,_⟩:=(I.hok ad _ (sg _ _ hd))
  exact JI PySem.W.kitx_dict I.kIn ⟨o,h1,h2.1⟩ ek (λz=>nomatch z) h
theorem qx(c)(hc:c = "int" ∨ c = "bool" ∨ c = "str" ∨ c = "list" ∨ c = "tuple" ∨ c = "dict"):typeOf (.type c)=pure (.type "type"):=by rcases hc with rfl|rfl|rfl|rfl|rfl|rfl<;>kernel_rfl
theorem jO:Xe X (.builtin "isinstance") (λxs H Q=>∃v c G d,xs=[v,.ty c]/\Same G H/\Rep X.K G v d/\(c = "int" ∨ c = "bool" ∨ c = "str" ∨ c = "list" ∨ c = "tuple" ∨ c = "dict")/\Q (.bl (Zx d c)) H):=by
 intro pins s σ H xs us Q I r h;obtain⟨v,c,G,d,rfl,sg,rp,hc,q⟩:=h;obtain⟨u,w',rfl,r1,r2⟩:=Lu r;cases (r2);by_cases nx:PH d=zq
 .cases rp with
  |@exc a C dd bm nm vs ds ck hx hd rr=>
   refine xr (Nc I.ok.mod.kin) pins s σ H [.ref a,.ty c] [u,.type c] Q I r ⟨a,C,dd,bm,zr,.ty c,zr,rfl,⟨nm,ck⟩,sg _ _ hx,.inr ⟨c,rfl,qx c hc,?_⟩,?_⟩
   .rw[ck.ty];rcases hc with rfl|rfl|rfl|rfl|rfl|rfl<;>rfl
   .have e:Zx (.dict [(.none,.tuple [.str nm,.list ds])]) c=zr:=by rcases hc with rfl|rfl|rfl|rfl|rfl|rfl<;>rfl
    simp_all
  |dct e _ _ _ _=>subst e;rw[LQ.2]at nx;simp_all
  |dtt e _ _ _=>subst e;cases nx
  |_=>cases nx
 .have nx   :=by simpa using nx
  exact qy I sg rp r1 nx (qz X.K d c nx hc) λtk=>⟨.bl _,H,I.tok tk,rfl,q⟩
theorem zn:bootBuiltins "isinstance" = O (.builtin "isinstance"):=by decide +kernel
theorem Pt  {p2 p3}{c}(hc:c = "int" ∨ c = "bool" ∨ c = "str" ∨ c = "list" ∨ c = "tuple" ∨ c = "dict")(hg:Gl X "isinstance")(hm:X.mg "isinstance" = zp)(hg2:Gl X (UP c))(hm2:X.mg (UP c)=zp)
  (hv2:bootBuiltins (UP c)=O (.type c)) (ha:PE X e (tD X.K B G0 f)) (hn2:(UP c) ≠ "__name__") (hd2:((UP c)==("__debug__" : Str))=zr)
  (hs:UD [e,.Name (UP c) p3] X.env=(zr,eval e X.env)::UD [.Name (UP c) p3] X.env:=by rfl)
  (hs2:UD [.Name (UP c) p3] X.env=[(zr,eval (.Name (UP c) p3) X.env)]:=by rfl) :
  PE X (.Call (.Name "isinstance" p2) [e,.Name (UP c) p3] [] pos) (tD X.K B G0 (Ka (λd=>.bool (Zx d c)) f)):=by
 refine KF (OD jO hg hm zn (W7 ha (W7 (jh (v:=.ty c) hg2 hm2 hv2 zo hn2 hd2) Ts (by rfl)) hs) (by decide) (by decide) hs (by rfl)) λσ H Q q=>?_
 refine tM.one  q λv H2 G ρ x k r a=>?_
 exact⟨v,c,G,x,rfl,k.gh,r,hc,aft.now a k (.bl _)⟩
end
noncomputable def spD(K:Frag)(n:Nat)(F:zw->zx):Sp:=λvs H Q _=>∃G ds d,vs.length=n/\Same G H/\Reps K G vs ds/\F ds=O d/\∀v G' H',Ext G H G' H'->Rep K G' v d->Q v H'
section
variable{K:Frag}{B G0 G H:Hp}{σ:St}{ρ:UZ}
theorem EOk.exit(k:EOk K B G0 G H σ ρ):Ext G0 B G H:=⟨k.bh,k.g0,k.gh,k.np⟩
theorem Yg{α:Type}{l:List α}{i}{x y}(h:(l.set i x)[i]?=O y):y=x:=by
 by_cases hl:i<l.length
 .simp_all
 .simp_all
theorem DpOk.setOther   {y}(k:DpOk K B G H σ ρ)(hy:∀s,y=O s->∃d,s=.pub d):DpOk K B G H (σ.set i x) (ρ.set i y):=by
 have nz:∀{m:Nat}{s:Sl},(ρ.set i y)[m]?=O (O s)->(∃d,s=.pub d)∨(ρ[m]?=O _/\(σ.set i x)[m]?=σ[m]?):=λ{m s} q=>by
  by_cases z:i=m
  .subst z
   exact .inl (hy s (Yg q).symm)
  .rw[Qp z]at q⊢;exact .inr ⟨q,rfl⟩
 refine k.map (λm p d q=>?_) (λm es q=>?_) λm p d v fp q s r w n=>⟨r,w⟩
 .rcases nz q with ⟨_,e⟩|q
  .cases e
  .exact q
 .rcases nz q with ⟨_,e⟩|q
  .cases e
  .exact⟨es,q⟩
theorem EOk.setPub  {v:V}{d}(k:EOk K B G0 G H σ ρ)(r:Rep K G v d)(hi:i<ρ.length):EOk K B G0 G H (σ.set i (O v)) (ρ.set i (O (.pub d))) where
 bh:=k.bh
 gh:=k.gh
 g0:=k.g0
 np:=k.np
 len:=by rw[Jb,Jb];exact k.len
 pub:=λj d' q=>by
  by_cases z:i=j
  .subst z
   have:=Yg q;cases this;exact⟨v,QI (by rw[←k.len];exact hi),r⟩
  .rw[Qp z]at q⊢
   exact k.pub j d' q
 own:=λj ds q=>by
  by_cases z:i=j
  .subst z
   have:=Yg q;cases this
  .rw[Qp z]at q⊢
   exact k.own j ds q
 sep:=λj l c es fs q1 q2 s1 s2=>by
  have z1:i≠j:=λz=>by subst z;have:=Yg q1;cases this
  have z2:i≠l:=λz=>by subst z;have:=Yg q2;cases this
  rw[Qp z1]at q1 s1;rw[Qp z2]at q2 s2;exact k.sep j l c es fs q1 q2 s1 s2
 dp:=k.dp.setOther (λs e=>by cases e;exact⟨_,rfl⟩)
structure NewL(K:Frag)(B G H:Hp)(σ:St)(ρ:UZ)(a:Uy)(vs:List V)(ds:zw):Prop where
 b:B a=zp
 g:G a=zp
 h:H a=O (.lst vs)
 r:Reps K G vs ds
 f:∀(j:Nat) es,ρ[j]?=O (O (.own es))->σ[j]?≠O (O (.ref a))
 dp:∀(j:Nat) p d v fp,ρ[j]?=O (O (.deep p d))->σ[j]?=O (O v)->RepO K G H p v d fp->a∉fp
theorem EOk.freshD   (k:EOk K B G0 G H σ ρ)(e:Same H H')(ha:H a=zp){G'}{j:Nat}{p}{d}{v}{fp}(q:ρ[j]?=O (O (.deep p d)))(s:σ[j]?=O (O v))(r:RepO K G' H' p v d fp):a∉fp:=λm=>by
 obtain⟨ω,k1,k2⟩:=k.dp;obtain⟨v',fp',s',r',n,w⟩:=k1 j p d q;rw[s]at s';cases s';have u:=r'.uniq e r;subst u;obtain⟨ws,hl⟩:=r'.isl a m
 lia
theorem EOk.setOwn  {a:Uy}{vs:List V}{ds:zw}(k:EOk K B G0 G H σ ρ)(n:NewL K B G H σ ρ a vs ds)(hi:i<ρ.length):EOk K B G0 G H (σ.set i (O (.ref a))) (ρ.set i (O (.own ds))) where
 bh:=k.bh
 gh:=k.gh
 g0:=k.g0
 np:=k.np
 len:=by rw[Jb,Jb];exact k.len
 pub:=λj d' q=>by
  by_cases z:i=j
  .subst z
   have:=Yg q;cases this
  .rw[Qp z]at q⊢
   exact k.pub j d' q
 own:=λj es q=>by
  by_cases z:i=j
  .subst z
   have:=Yg q;cases this;exact⟨a,vs,QI (by rw[←k.len];exact hi),n.b,n.g,n.h,n.r⟩
  .rw[Qp z]at q⊢
   exact k.own j es q
 sep:=λj l c es fs q1 q2 s1 s2=>by
  have hs:i<σ.length:=by rw[←k.len];exact hi
  by_cases z1:i=j
  .subst z1
   rw[QI hs]at s1;cases s1;by_cases z2:i=l
   .exact z2
   .rw[Qp z2]at q2 s2
    exact absurd s2 (n.f l fs q2)
  .by_cases z2:i=l
   .subst z2
    rw[QI hs]at s2;cases s2;rw[Qp z1]at q1 s1;exact absurd s1 (n.f j es q1)
   .rw[Qp z1]at q1 s1
    rw[Qp z2]at q2 s2;exact k.sep j l c es fs q1 q2 s1 s2
 dp:=by
  obtain⟨ω,k1,k2⟩:=k.dp;have hs:i<σ.length:=by rw[←k.len];exact hi
  refine⟨λb=>if b=a then i else ω b,λj p d q=>?_,λj es b q s=>?_⟩
  .by_cases z:i=j
   .subst z;have:=Yg q;cases this
   .rw[Qp z]at q⊢
    obtain⟨v,fp,s,r,nn,w⟩:=k1 j p d q;refine⟨v,fp,s,r,nn,λb m=>⟨(w b m).1,(w b m).2.1,?_⟩⟩;dsimp only;rw[QA (λz=>n.dp j p d v fp q s r (by rw[←z];exact m))];exact(w b m).2.2
  .by_cases z:i=j
   .subst z
    rw[QI hs]at s;cases s;dsimp only;rw[Qr zo]
   .rw[Qp z]at q s
    dsimp only;rw[QA (λe=>n.f j es q (by rw[←e];exact s))];exact k2 j es b q s
theorem EOk.change  {a:Uy}{vs:List V}{ds es:zw}(k:EOk K B G0 G H σ ρ)(q:ρ[i]?=O (O (.own ds)))(ha:σ[i]?=O (O (.ref a)))(r:Reps K G vs es) :
  EOk K B G0 G (upd H a (.lst vs)) σ (ρ.set i (O (.own es))):=by
 obtain⟨a',ws,h1,h2,h3,h4,h5⟩:=k.own i ds q;rw[ha]at h1;cases h1;refine⟨λb o e=>?_,λb o e=>?_,k.g0,k.np,by rw[Jb];exact k.len,λj d' e=>?_,λj fs e=>?_,λj l c fs gs q1 q2 s1 s2=>?_,?_⟩
 .rw[KO (Yw e h2)];exact k.bh b o e
 .rw[KO (Yw e h3)];exact k.gh b o e
 .by_cases z:i=j
  .subst z
   have:=Yg e;cases this
  .rw[Qp z]at e
   exact k.pub j d' e
 .by_cases z:i=j
  .subst z
   have:=Yg e;cases this;exact⟨a,vs,ha,h2,h3,Zq,r⟩
  .rw[Qp z]at e
   obtain⟨c,us,g1,g2,g3,g4,g5⟩:=k.own j fs e;have zc:c≠a:=λw=>z (k.sep i j a ds fs q e ha (by rw[←w];exact g1))
   exact⟨c,us,g1,g2,g3,by rw[KO zc];exact g4,g5⟩
 .have f:∀{m:Nat}{ts:zw},(ρ.set i (O (Sl.own es)))[m]?=O _->∃ts',ρ[m]?=O (O (.own ts')):=λ{m ts} e=>by
   by_cases z:i=m
   .subst z;exact⟨ds,q⟩
   .rw[Qp z]at e;exact⟨ts,e⟩
  obtain⟨f1,w1⟩:=f q1;obtain⟨f2,w2⟩:=f q2;exact k.sep j l c f1 f2 w1 w2 s1 s2
 .refine k.dp.map (λj p d e=>?_) (λj fs e=>?_) λj p d v fp qj s rj w n=>⟨rj.upd (λ_ z=>by rw[h4]at z;cases z) (n i ds a q ha),w⟩
  .by_cases z:i=j
   .subst z;have:=Yg e;cases this
   .rw[Qp z]at e;exact⟨e,rfl⟩
  .by_cases z:i=j
   .subst z;exact⟨ds,q,rfl⟩
   .rw[Qp z]at e;exact⟨fs,e,rfl⟩
end
inductive Out where
 |nx (ρ:UZ)|rt (d:D)|bk (ρ:UZ)|ct (ρ:UZ)|ex (ρ:UZ) (d:D)|ro (ds:zw)|bad
abbrev SM:=UZ->Out
section
variable(K:Frag)(B G0:Hp)(KX:XW)
def aftS(o:Out)(G1:Hp)(Dn:Ends):Prop:=
 match o with
 |.nx ρ=>∀σ G H,EOk K B G0 G H σ ρ->Same G1 G->Dn.nx σ H
 |.bk ρ=>∀σ G H,EOk K B G0 G H σ ρ->Same G1 G->Dn.bk σ H
 |.ct ρ=>∀σ G H,EOk K B G0 G H σ ρ->Same G1 G->Dn.ct σ H
 |.rt d=>∀v G H,Ext G0 B G H->Rep K G v d->Dn.rt v H
 |.ro ds=>∀a vs G H,Ext G0 B G H->B a=zp->G a=zp->H a=O (.lst vs)->Reps K G vs ds->Dn.rt (.ref a) H
 |.ex ρ d=>∀v σ G H,EOk K B G0 G H σ ρ->Same G1 G->Rep K G v d->KX v σ H
 |.bad=>False
noncomputable def tS(g:SM):TS:=λDn σ H=>∃G ρ,EOk K B G0 G H σ ρ/\aftS K B G0 KX (g ρ) G Dn
noncomputable def sB{α:Type}(f:M α)(g:α->SM):SM:=λρ=>match f ρ with | .ok a ρ'=>g a ρ' | .bad=>.bad
end
section
variable{X:Cx}{B G0:Hp}{KX:XW}{e a b c:UA}{pos:Pos}{es rest:zy}{st:Stmt}{sts sts2:List Stmt}
theorem aftS.mono{K}{o}{G G'}{Dn}(e:Same G G')(h:aftS K B G0 KX o G Dn):aftS K B G0 KX o G' Dn:=by
 cases o with
 |nx ρ=>exact λσ G2 H2 k s=>h σ G2 H2 k (e.trans s)
 |bk ρ=>exact λσ G2 H2 k s=>h σ G2 H2 k (e.trans s)
 |ct ρ=>exact λσ G2 H2 k s=>h σ G2 H2 k (e.trans s)
 |rt d=>exact h
 |ro ds=>exact h
 |ex ρ d=>exact λv σ G2 H2 k s r=>h v σ G2 H2 k (e.trans s) r
 |bad=>exact h
theorem tS.bnd{K}{α γ}{R}{f:M α}{g}{Dn}{σ}{H}{P:γ->Hp->Prop}(q:tS K B G0 KX (sB f g) Dn σ H)
  (i:∀v H' G' ρ' x,EOk K B G0 G' H' σ ρ'->R G' v x->aftS K B G0 KX (g x ρ') G' Dn->P v H'):tM K B G0 R f σ H P:=by
 obtain⟨G,ρ,k,a⟩:=q;refine⟨G,ρ,k,?_⟩;unfold sB at a;cases z:f ρ with
 |bad=>rw[z]at a;exact a.elim
 |ok d ρ1=>rw[z]at a;exact λv G' H' e s r=>i v H' G' ρ1 d e r (aftS.mono s a)
noncomputable def sNx:SM:=λρ=>.nx ρ
noncomputable def U0(g h:SM):SM:=λρ=>match g ρ with | .nx ρ'=>h ρ'|o=>o
theorem Nu:PSs X [] (tS X.K B G0 KX sNx):=LH je λD σ H ⟨G,ρ,k,a⟩=>a σ G H k (.refl _)
theorem Ry  (h1:PS X st (tS X.K B G0 KX g))(h2:PSs X sts (tS X.K B G0 KX h)):PSs X (st::sts) (tS X.K B G0 KX (U0 g h)):=LH (kZ h1 h2) λD σ H ⟨G,ρ,k,a⟩=>by
 refine⟨G,ρ,k,?_⟩;unfold U0 at a;cases z:g ρ with
 |nx ρ1=>rw[z]at a;exact λσ' G' H' k' s'=>⟨G',ρ1,k',aftS.mono s' a⟩
 |rt d=>rw[z]at a;exact a
 |ro ds=>rw[z]at a;exact a
 |bk ρ1=>rw[z]at a;exact a
 |ct ρ1=>rw[z]at a;exact a
 |ex ρ1 d=>rw[z]at a;exact a
 |bad=>rw[z]at a;exact a.elim
theorem Ri{g:SM}(h1:PS X st (tS X.K B G0 KX g)):PSs X [st] (tS X.K B G0 KX g):=GE h1
noncomputable def Wo:SM:=λ_=>.bad
theorem jN:PS X st (tS X.K B G0 KX Wo):=λ_ _ _ _ _ _ ⟨_,_,_,a⟩=>a.elim
noncomputable def Kc(f:M D):SM:=sB f λd _=>.rt d
theorem Hl  (h:PE X e (tD X.K B G0 f)):PS X (.Return (O e) pos) (tS X.K B G0 KX (Kc f)):=ZH (AI h) λD σ H q=>tS.bnd  q λv H' G' ρ' x k r a=>a v G' H' k.exit r
noncomputable def YD(f:M D):SM:=sB f λ_ ρ=>.nx ρ
theorem qw  (h:PE X e (tD X.K B G0 f))(hs:swapsWith e zp pos.line X.env=pure zr:=by rfl):PS X (.Expr e pos) (tS X.K B G0 KX (YD f)):=ZH (N4 h hs) λD σ H q=>tS.bnd  q λv H' G' ρ' x k r a=>a σ G' H' k (.refl _)
noncomputable def sIf(f:M Bool)(g h:SM):SM:=sB f λt=>if t=zq then g else h
theorem Ng   (hc:PT X c (tBo X.K B G0 f))(ha:PSs X sts (tS X.K B G0 KX g))(hb:PSs X sts2 (tS X.K B G0 KX h)):PS X (.If c sts sts2 pos) (tS X.K B G0 KX (sIf f g h)):=
 ZH (CF hc ha hb) λD σ H q=>tS.bnd  q λv H' G' ρ' x k r a=>by
  subst r;cases v with
  |true=>exact⟨G',ρ',k,a⟩
  |false=>exact⟨G',ρ',k,a⟩
noncomputable def tG(K:Frag)(B G0:Hp)(s:D->UZ->zF):TG:=λv σ H Q=>∃G ρ d ρ',EOk K B G0 G H σ ρ/\Rep K G v d/\s d ρ=O ρ'/\∀σ' G' H',EOk K B G0 G' H' σ' ρ'->Same G G'->Q σ' H'
noncomputable def tGs(K:Frag)(B G0:Hp)(s:zw->UZ->zF):TGs:=λv σ H Q=>∃G ρ d ρ',EOk K B G0 G H σ ρ/\Reps K G v d/\s d ρ=O ρ'/\∀σ' G' H',EOk K B G0 G' H' σ' ρ'->Same G G'->Q σ' H'
theorem pgof  (h:PG X e t)(i:∀v σ H Q,t' v σ H Q->t v σ H Q):PG X e t':=λpins s σ H v u Q I r q=>h pins s σ H v u Q I r (i v σ H Q q)
theorem LA  (h:PGs X es t)(i:∀v σ H Q,t' v σ H Q->t v σ H Q):PGs X es t':=λpins s σ H v u Q I r q=>h pins s σ H v u Q I r (i v σ H Q q)
noncomputable def gN(i:Nat):D->UZ->zF:=λd ρ=>if i<ρ.length then O (ρ.set i (O (.pub d)))else zp
theorem WQ  (h:PG X e (Ni i)):PG X e (tG X.K B G0 (gN i)):=pgof h λv σ H Q ⟨G,ρ,d,ρ',k,r,e,q⟩=>by
 unfold gN at e;split at e
 .rename_i hi
  cases e;exact q _ G H (k.setPub r hi) (.refl _)
 simp_all
noncomputable def gN0:zw->UZ->zF:=λd ρ=>match d with | []=>O ρ|_=>zp
noncomputable def gNC(s:D->UZ->zF)(t:zw->UZ->zF):zw->UZ->zF:=λds ρ=>match ds with|d::r=>(s d ρ).bind (t r) | []=>zp
theorem P7:PGs X [] (tGs X.K B G0 gN0):=LA jd λv σ H Q ⟨G,ρ,d,ρ',k,r,e,q⟩=>by
 cases r with
 |nil=>cases e;exact⟨rfl,q σ G H k (.refl _)⟩
 |cons _ _=>cases e
theorem W5   (h1:PG X e (tG X.K B G0 s))(h2:PGs X es (tGs X.K B G0 t))
  (hs:(US (e::es) X.env).map (·.2)=assign e X.env::(US es X.env).map (·.2):=by rfl):PGs X (e::es) (tGs X.K B G0 (gNC s t)):=LA (kY h1 h2 hs) λv σ H Q ⟨G,ρ,d,ρ',k,r,e,q⟩=>by
 cases r with
 |nil=>cases e
 |@cons w dw ws dws rw rt=>
  unfold gNC at e;dsimp only at e;cases z:s dw ρ with
  |none=>simp_all
  |some ρ1=>rw[z]at e;refine⟨w,ws,rfl,G,ρ,dw,ρ1,k,rw,z,λσ' G' H' k' s'=>?_⟩;exact⟨G',ρ1,dws,ρ',k',rt.mono s',e,λσ2 G2 H2 k2 s2=>q σ2 G2 H2 k2 (s'.trans s2)⟩
noncomputable def gT(n:Nat)(t:zw->UZ->zF):D->UZ->zF:=λd ρ=>match d with | .tuple ds=>if ds.length=n then t ds ρ else zp|_=>zp
theorem P6{k1}{t}{n}(hc:X.calm=zq)(h:PGs X es (tGs X.K B G0 t))
  (hn:(US es X.env).length=n:=by rfl) (hst:(US es X.env).findIdx? (·.1)=zp:=by rfl):PG X (.Tuple es k1 pos) (tG X.K B G0 (gT n t)):=pgof (AH hc h hn hst) λv σ H Q ⟨G,ρ,d,ρ',k,r,e,q⟩=>by
 unfold gT at e;split at e
 .split at e
  .rename_i hl
   obtain⟨ad,vs,rfl,h1,r1⟩:=r.tup_inv;exact⟨ad,vs,rfl,Xr k.gh h1,by rw[r1.length];exact hl,G,ρ,_,ρ',k,r1,e,q⟩
  simp_all
 simp_all
noncomputable def Zh(f:M D)(s:D->UZ->zF):SM:=sB f λd ρ=>match s d ρ with|some ρ'=>.nx ρ'|none=>.bad
theorem BA  {f}{s}(he:PE X e (tD X.K B G0 f))(hg:PG X tg (tG X.K B G0 s))(hs:swapsWithSole [tg] e pos.line X.env=pure zr:=by rfl)(hw:swappedStores [tg] e X.env=pure zp:=by rfl)
  (h1:(US [tg] X.env).map (·.2)=[assign tg X.env]:=by rfl):PS X (.Assign [tg] e pos) (tS X.K B G0 KX (Zh f s)):=
 ZH (AG he hg hs hw h1) λD σ H q=>tS.bnd  q λv H' G' ρ' x k r a=>by
  cases z:s x ρ' with
  |none=>rw[z]at a;exact a.elim
  |some ρ2=>rw[z]at a;exact⟨G',ρ',x,ρ2,k,r,z,λσ2 G2 H2 k2 s2=>a σ2 G2 H2 k2 s2⟩
noncomputable def Kg(i:Nat)(f:M D):SM:=Zh f (gN i)
theorem Bz     (hN:X.N.Nodup)(hi:X.N[i]?=O x)(hx:Loc X.env.scope x)(he:PE X e (tD X.K B G0 f))(hs:swapsWith e (O (.Name x p2)) pos.line X.env=pure zr:=by rfl)
  (hf:X.fn x=zq∨X.env.scope.names.lookup x=O .local:=by first|exact .inl rfl|exact .inr rfl|assumption):PS X (.Assign [.Name x p2] e pos) (tS X.K B G0 KX (Kg i f)):=
 ZH (NB hN hi hx he hs hf) λD σ H q=>tS.bnd  q λv H' G' ρ' x k r a=>by
  unfold gN at a;split at a
  .rename_i ρ2 hz
   split at hz
   .rename_i hi2
    cases hz;exact a _ G' H' (k.setPub r hi2) (.refl _)
   simp_all
  .exact a.elim
noncomputable def tL(K:Frag)(B G0:Hp)(f:M zw):TE:=λσ H Q=>∃G ρ,EOk K B G0 G H σ ρ/\match f ρ with
 |.ok ds ρ'=>∀a vs G' H',EOk K B G0 G' H' σ ρ'->Same G G'->NewL K B G' H' σ ρ' a vs ds->Q (.ref a) H'
 |.bad=>False
noncomputable def ZC(i:Nat)(f:M zw):SM:=sB f λds ρ=>if i<ρ.length then .nx (ρ.set i (O (.own ds)))else .bad
theorem Gv     (hN:X.N.Nodup)(hi:X.N[i]?=O x)(hx:Loc X.env.scope x)(he:PE X e (tL X.K B G0 f))(hs:swapsWith e (O (.Name x p2)) pos.line X.env=pure zr:=by rfl)
  (hf:X.fn x=zq∨X.env.scope.names.lookup x=O .local:=by first|exact .inl rfl|exact .inr rfl|assumption):PS X (.Assign [.Name x p2] e pos) (tS X.K B G0 KX (ZC i f)):=
 ZH (NB hN hi hx he hs hf) λD σ H ⟨G,ρ,k,a⟩=>by
  refine⟨G,ρ,k,?_⟩;unfold ZC sB at a;cases z:f ρ with
  |bad=>rw[z]at a;exact a.elim
  |ok ds ρ1=>
   rw[z]at a;intro ad vs G' H' k' s' n;dsimp only at a;split at a
   .rename_i hl
    exact a _ G' H' (k'.setOwn n hl) s'
   .exact a.elim
theorem NewL.of{K}{G H}{σ}{ρ}{p}{vs}{ds}(k:EOk K B G0 G H σ ρ)(hp:H p=zp)(r:Reps K G vs ds):NewL K B G (upd H p (.lst vs)) σ ρ p vs ds where
 b:=k.bh.free hp
 g:=k.gh.free hp
 h:=Zq
 r:=r
 f:=λj es q z=>by
  obtain⟨a,ws,h1,h2,h3,h4,h5⟩:=k.own j es q
  lia
 dp:=λj pt d v fp q s rr=>k.freshD (ZQ hp) hp q s rr
theorem Gu  (h:PA X es (tDs X.K B G0 f)):PE X (.List es pos) (tL X.K B G0 (Kq f λxs=>if xs.length<=1000000 then U2 xs else λ_=>.bad)):=
 KF (LX h) λσ H Q ⟨G,ρ,k,a⟩=>by
  refine⟨G,ρ,k,?_⟩;unfold Kq at a;cases z:f ρ with
  |bad=>simp_all
  |ok ds ρ1=>
   rw[z]at a;dsimp only at a;intro v G' H' k' s' r;by_cases c:ds.length<=1000000
   .rw[Qr c]at a
    refine⟨by rw[r.length];exact QM c lim,λp hp=>?_⟩;exact a p v G' _ (k'.ext (Ext.hid k'.gh hp)) s' (NewL.of k' hp r)
   simp_all
noncomputable def Z5(i:Nat)(f:M D):SM:=λρ0=>match ρ0[i]? with
 |some (O (.own _))=>sB f (λd ρ=>match ρ[i]? with
  |some (O (.own ds))=>if ds.length<1000000 then .nx (ρ.set i (O (.own (ds++[d]))))else .bad
  |_=>.bad) ρ0
 |_=>.bad
theorem Hk  {f:M D}{o:UA}{apos cpos:Pos}(ho:PE X o (Zk i))(he:PE X e (tD X.K B G0 f))
  (hbase:attributeBase o "append" X.env (eval o X.env)=eval o X.env:=by rfl)
  (hfew:((backTo cpos (UD [e] X.env)).all (λx=>!x.1)&&(backToKw cpos (keywordEach [] X.env)).all (λx=>x.1.isSome)
   && decide ([e].length+([]:List Keyword).length+(if([]:List Keyword).isEmpty then 0 else 1)<30))=zq:=by rfl)
  (hline:(apos.endLine==cpos.line)=zq:=by rfl) (hs:UD [e] X.env=[(zr,eval e X.env)]:=by rfl)
  (hsw:swapsWith (.Call (.Attribute o "append" apos) [e] [] cpos) zp pos.line X.env=pure zr:=by rfl) :
  PS X (.Expr (.Call (.Attribute o "append" apos) [e] [] cpos) pos) (tS X.K B G0 KX (Z5 i f)):=
 ZH (N4 (Nj PySem.F.plainAttrs_list PySem.F.slot_list_append PySem.F.type_list_append F9 ho (W7 he Ts (by rw[hs];rfl)) hbase hfew hline (by rw[hs];rfl) zo) hsw) λD σ H ⟨G,ρ,k,a⟩=>by
  unfold Z5 at a;cases q0:ρ[i]? with
  |none=>rw[q0]at a;exact a.elim
  |some o0=>
   cases o0 with
   |none=>rw[q0]at a;exact a.elim
   |some sl0=>
    cases sl0 with
    |deep _ _=>rw[q0]at a;exact a.elim
    |pub d=>rw[q0]at a;exact a.elim
    |own a9=>
     rw[q0]at a;obtain⟨ad,vs0,h1,h2,h3,h4,h5⟩:=k.own i a9 q0;refine⟨.ref ad,h1,.inl ⟨rfl,_,SqL.of h4⟩,G,ρ,k,?_⟩;unfold sB at a;cases z:f ρ with
     |bad=>rw[z]at a;exact a.elim
     |ok d ρ1=>
      rw[z]at a;dsimp only at a;intro v G' H' k' s' r';cases q:ρ1[i]? with
      |none=>rw[q]at a;exact a.elim
      |some o=>
       cases o with
       |none=>rw[q]at a;exact a.elim
       |some sl=>
        cases sl with
        |deep _ _=>rw[q]at a;exact a.elim
        |pub d=>rw[q]at a;exact a.elim
        |own ds=>
         rw[q]at a;dsimp only at a;split at a
         .rename_i hl
          obtain⟨ad',vs,g1,g2,g3,g4,g5⟩:=k'.own i ds q;rw[h1]at g1;cases g1;refine⟨ad,vs,v,rfl,rfl,g4,by rw[g5.length];exact QF hl lim,?_⟩;exact a σ G' _ (k'.change q h1 (g5.append (.cons r' .nil))) s'
         .exact a.elim
end
structure Wa(K:Frag)(J:It)(ds:zw)(G1:Hp):Prop where
 go:∀i G H,Same G1 G->Same G H->i<ds.length->J.go i H
 stop:∀i G H,Same G1 G->Same G H->ds.length<=i->J.stop i H
 yld:∀i G H x H' d,Same G1 G->Same G H->ds[i]?=O d->J.yld i H x H'->∃G',Ext G H G' H'/\Rep K G' x d
noncomputable def iD(K:Frag)(B G0:Hp)(f:M zw):TI:=λσ H R=>∃G ρ,EOk K B G0 G H σ ρ/\match f ρ with
 |.ok ds ρ'=>∀J G' H',EOk K B G0 G' H' σ ρ'->Same G G'->Wa K J ds G'->R J H'
 |.bad=>False
section
variable{X:Cx}{B G0:Hp}{KX:XW}{e a b c tg:UA}{pos:Pos}{es rest:zy}{st:Stmt}{sts sts2:List Stmt}
theorem XQ  (h:PI X tg e t)(i:∀σ H R,t' σ H R->t σ H R):PI X tg e t':=λpins s σ H R I q=>h pins s σ H R I (i σ H R q)
theorem tM.toI{K}{α γ}{R0}{f:M α}{g}{σ}{H}{R}{P:γ->Hp->Prop}(q:iD K B G0 (Kq f g) σ H R)
  (i:∀v H' G' ρ' x,EOk K B G0 G' H' σ ρ'->R0 G' v x->(match g x ρ' with
   |.ok ds ρ2=>∀J G2 H2,EOk K B G0 G2 H2 σ ρ2->Same G' G2->Wa K J ds G2->R J H2
   |.bad=>False)->P v H'):tM K B G0 R0 f σ H P:=by
 obtain⟨G,ρ,k,a⟩:=q;refine⟨G,ρ,k,?_⟩;unfold Kq at a;cases z:f ρ with
 |bad=>rw[z]at a;exact a.elim
 |ok d ρ1=>
  rw[z]at a;intro v G' H' e s r;refine i v H' G' ρ1 d e r ?_;dsimp only at a;cases z2:g d ρ1 with
  |bad=>rw[z2]at a;exact a.elim
  |ok ds ρ2=>rw[z2]at a;exact λJ G2 H2 k2 s2 it=>a J G2 H2 k2 (s.trans s2) it
theorem wP{K}{G1}{ad}{vs}{ds}(h:SqL K G1 ad vs)(r:Reps K G1 vs ds):Wa K (Itl K ad) ds G1 where
 go:=λi G H s1 s2 hi=>by
  have hi':i<vs.length:=by rw[r.length];simp_all
  exact⟨vs,vs[i],(s1.trans s2).seq h,Qe hi'⟩
 stop:=λi G H s1 s2 hi=>⟨vs,(s1.trans s2).seq h,by rw[r.length];simp_all⟩
 yld:=λi G H x H' d s1 s2 e y=>by obtain⟨rfl,y⟩:=y;obtain⟨v,e1,r1⟩:=r.get e;have:=y vs ((s1.trans s2).seq h);rw[e1]at this;cases this;exact⟨G,.refl s2,r1.mono s1⟩
noncomputable def Yp(lo hi:Int):zw:=(UF (hi-lo).toNat).map λ(k:Nat)=>.int (lo+k)
theorem YV(lo hi):(Yp lo hi).length=(hi-lo).toNat:=by unfold Yp;simp_all
theorem EU{K}{G1}(lo hi):Wa K (Itr lo (hi-lo).toNat) (Yp lo hi) G1 where
 go:=λi G H s1 s2 h=>by rw[YV]at h;exact h
 stop:=λi G H s1 s2 h=>by rw[YV]at h;exact h
 yld:=λi G H x H' d s1 s2 e y=>by
  obtain⟨rfl,rfl⟩:=y;unfold Yp at e;rw[Qd]at e;have hi:i<(UF (hi-lo).toNat).length:=by refine Nat.lt_of_not_le λz=>?_;rw[QW z]at e;cases e
  rw[Qe hi,List.getElem_range]at e;cases e;exact⟨G,.refl s2,.int _⟩
noncomputable def RS:zw->Option zw
 |[.int j]=>if j<=1000000 /\ -1000000<=j then O (Yp 0 j)else zp
 |_=>zp
noncomputable def RR:zw->Option zw
 |[.int i,.int j]=>if j<=1000000 /\ -1000000<=j/\i<=1000000 /\ -1000000<=i then O (Yp i j)else zp
 |_=>zp
noncomputable def XE(f:M zw):M zw:=Kq f λx=>Ku (RS x)
noncomputable def PF(f:M zw):M zw:=Kq f λx=>Ku (RR x)
theorem vv   (hg:Gl X "range")(hm:X.mg "range" = zp)(ha:PA X [a] (tDs X.K B G0 f))(hs:UD [a] X.env=[(zr,eval a X.env)]:=by rfl) :
  PI X tg (.Call (.Name "range" p2) [a] [] pos) (iD X.K B G0 (XE f)):=XQ (wD hg hm ha hs) λσ H R q=>tM.toI  q λv H' G' ρ' x k r a=>by
 cases z:RS x with
 |none=>rw[z]at a;exact a.elim
 |some ds=>
  rw[z]at a;unfold RS at z;split at z
  .split at z
   .rename_i j c
    cases z;obtain⟨w,rfl,r'⟩:=r.one_inv;refine⟨j,by rw[r'.int_inv],by lia,by lia,?_⟩;have it:=EU (K:=X.K) (G1:=G') 0 j;rw[Int.sub_zero]at it;exact a _ G' H' k (.refl _) it
   simp_all
  simp_all
theorem vq  {p2}(hg:Gl X "range")(hm:X.mg "range" = zp)(ha:PA X [a,b] (tDs X.K B G0 f))(hs:UD [a,b] X.env=[(zr,eval a X.env),(zr,eval b X.env)]:=by rfl)(hs2:UD [b] X.env=[(zr,eval b X.env)]:=by rfl) :
  PI X tg (.Call (.Name "range" p2) [a,b] [] pos) (iD X.K B G0 (PF f)):=XQ (wC hg hm ha hs hs2) λσ H R q=>tM.toI  q λv H' G' ρ' x k r a=>by
 cases z:RR x with
 |none=>rw[z]at a;exact a.elim
 |some ds=>
  rw[z]at a;unfold RR at z;split at z
  .split at z
   .rename_i i j c
    cases z;obtain⟨w,w',rfl,r1,r2⟩:=r.two_inv;refine⟨i,j,by rw[r1.int_inv,r2.int_inv],⟨by lia,by lia,by lia,by lia⟩,?_⟩;exact a _ G' H' k (.refl _) (EU i j)
   simp_all
  simp_all
noncomputable def Z2(n:Nat):zw->zw
 |[]=>[]
 |d::r=>.tuple [.int n,d]::Z2 (n+1) r
theorem Yv:∀(n)(ds),(Z2 n ds).length=ds.length
 |_,[]=>rfl
 |n,d::r=>by rw[Z2,Qz,Qz,Yv]
theorem ON:∀(n)(ds)(i:Nat),(Z2 n ds)[i]?=ds[i]?.map λd=>.tuple [.int ((n+i:Nat):Int),d]
 |_,[],i=>by simp[Z2]
 |n,d::r,0=>by simp[Z2]
 |n,d::r,i+1=>by
  rw[Z2,J6,J6,ON _ r i];have:n+1+i=n+(i+1):=by lia
  rw[this]
theorem wO{K}{G1}{ad}{vs}{ds}(h:SqL K G1 ad vs)(r:Reps K G1 vs ds):Wa K (Ite K ad) (Z2 0 ds) G1 where
 go:=λi G H s1 s2 hi=>by
  rw[Yv]at hi;have hi':i<vs.length:=by rw[r.length];exact hi
  exact⟨vs,vs[i],(s1.trans s2).seq h,Qe hi'⟩
 stop:=λi G H s1 s2 hi=>by rw[Yv]at hi;exact⟨vs,(s1.trans s2).seq h,by rw[r.length];exact hi⟩
 yld:=λi G H x H' d s1 s2 e y=>by
  obtain⟨p,v,hp,rfl,y,rfl⟩:=y;rw[ON]at e;cases z:ds[i]? with
  |none=>rw[z]at e;cases e
  |some d0=>rw[z]at e;cases e;obtain⟨w,e1,r1⟩:=r.get z;have:=y vs ((s1.trans s2).seq h);rw[e1]at this;cases this;refine⟨upd G p _,Ext.new s2 hp,.tup (SqT.of Zq) (.cons ?_ (.cons ((r1.mono s1).mono (ZQ (s2.free hp))) .nil))⟩;rw[QK];exact .int _
noncomputable def RQ:zw->Option zw
 |[.list ds]=>O (Z2 0 ds)
 |_=>zp
noncomputable def Xc(f:M zw):M zw:=Kq f λx=>Ku (RQ x)
theorem Gs   {elts}{x1}{tp}(hg:Gl X "enumerate")(hm:X.mg "enumerate" = zp)(ha:PA X [a] (tDs X.K B G0 f))(hs:UD [a] X.env=[(zr,eval a X.env)]:=by rfl) :
  PI X (.Tuple elts x1 tp) (.Call (.Name "enumerate" p2) [a] [] pos) (iD X.K B G0 (Xc f)):=XQ (jk hg hm ha hs) λσ H R q=>tM.toI  q λv H' G' ρ' x k r a=>by
 cases z:RQ x with
 |none=>rw[z]at a;exact a.elim
 |some ds=>
  unfold RQ at z;split at z
  .obtain⟨w,rfl,r'⟩:=r.one_inv
   obtain⟨ad,vs,rfl,h1,r1⟩:=r'.lst_inv;exact⟨ad,vs,rfl,k.gh.seq h1,a _ G' H' k (.refl _) (wO h1 r1)⟩
  simp_all
noncomputable def To(s:D->UZ->zF)(g:SM):zw->SM
 |[],ρ=>.nx ρ
 |d::r,ρ=>match s d ρ with
  |none=>.bad
  |some ρ1=>match g ρ1 with
   |.nx ρ2=>To s g r ρ2
   |.ct ρ2=>To s g r ρ2
   |.bk ρ2=>.nx ρ2
   |.rt d=>.rt d
   |.ro ds=>.ro ds
   |.ex ρ2 d=>.ex ρ2 d
   |.bad=>.bad
noncomputable def K3(f:M zw)(s:D->UZ->zF)(g:SM):SM:=sB f λds=>To s g ds
theorem Nt{iter:UA}{body:List Stmt}{f:M zw}{s}{g:SM}(hp:PassesOwn (model X.prog X.w) X.A X.env X.xe)(hc:X.calm=zq)(hi:PI X tg iter (iD X.K B G0 f))(hg:PG X tg (tG X.K B G0 s))(hb:PSs X body (tS X.K B G0 KX g))
  (hs:∀x,UT iter X.env x=pure x:=by intro _;rfl):PS X (.For tg iter body [] pos) (tS X.K B G0 KX (K3 f s g)):=
 ZH (Bt hp hc hi hg hb hs) λDn σ H ⟨G,ρ,k,a⟩=>by
  refine⟨G,ρ,k,?_⟩;unfold K3 sB at a;cases z:f ρ with
  |bad=>rw[z]at a;exact a.elim
  |ok ds ρ1=>
   rw[z]at a;intro J G1 H1 k1 s1 it;refine⟨λi m σ' H'=>m=ds.length-i/\∃G' ρ',EOk X.K B G0 G' H' σ' ρ'/\Same G1 G'/\aftS X.K B G0 KX (To s g (ds.drop i) ρ') G' Dn,⟨ds.length,by lia,G1,ρ1,k1,.refl _,by rw[List.drop_zero];exact aftS.mono s1 a⟩,?_⟩;rintro i m σ' H' ⟨rfl,G',ρ',k',s',a'⟩;by_cases hi:i<ds.length
   .right
    refine⟨it.go i G' H' s' k'.gh hi,λσ2 H2=>∃G2 ρ2,EOk X.K B G0 G2 H2 σ2 ρ2/\Same G1 G2/\aftS X.K B G0 KX _ G2 Dn,λσ2 H2 h2=>⟨ds.length-(i+1),by lia,rfl,h2⟩,λx H2 y=>?_⟩;obtain⟨G2,ex,rx⟩:=it.yld i G' H' x H2 ds[i] s' k'.gh (Qe hi) y;rw[Jl hi,To]at a';cases z2:s ds[i] ρ' with
    |none=>rw[z2]at a';exact a'.elim
    |some ρ2=>
     rw[z2]at a';dsimp only at a';refine⟨G2,ρ',ds[i],ρ2,k'.ext ex,rx,z2,λσ3 G3 H3 k3 s3=>⟨G3,ρ2,k3,?_⟩⟩;have s13:Same G1 G3:=(s'.trans ex.g).trans s3;cases z3:g ρ2 with
     |nx ρ3=>rw[z3]at a';exact λσ4 G4 H4 k4 s4=>⟨G4,ρ3,k4,s13.trans s4,aftS.mono ((ex.g.trans s3).trans s4) a'⟩
     |ct ρ3=>rw[z3]at a';exact λσ4 G4 H4 k4 s4=>⟨G4,ρ3,k4,s13.trans s4,aftS.mono ((ex.g.trans s3).trans s4) a'⟩
     |bk ρ3=>rw[z3]at a';exact λσ4 G4 H4 k4 s4=>a' σ4 G4 H4 k4 ((ex.g.trans s3).trans s4)
     |rt d=>rw[z3]at a';exact a'
     |ro ds=>rw[z3]at a';exact a'
     |ex ρ3 d=>rw[z3]at a';exact λv σ4 G4 H4 k4 s4 r4=>a' v σ4 G4 H4 k4 ((ex.g.trans s3).trans s4) r4
     |bad=>rw[z3]at a';exact a'.elim
   .left
    rw[Ub (by lia)]at a';exact⟨it.stop i G' H' s' k'.gh (by lia),a' σ' G' H' k' (.refl _)⟩
theorem jM    {ps}{F}{g}{x:Str}{p2:Pos}{n:Nat}(FK:FnOk X.prog X.w X.K X.mg X.base CX0 k f fd ps (spD X.K n F))(hr:Room k X.A)(hg:Gl X x)(hm:X.mg x=O (.ref f))(hk:PySem.W.keepIn X.K (.ref f)=zq)
  (hb:WT X.K fd ps []) (ha:PA X (e::es) (tDs X.K B G0 g)) (hn:(e::es).length=n) (hdb:(x==("__debug__" : Str))=zr:=by decide) (he:UD (e::es) X.env=(zr,eval e X.env)::UD es X.env:=by rfl) (hpl:(backTo pos (UD es X.env)).any (·.1)=zr:=by rfl) :
  PE X (.Call (.Name x p2) (e::es) [] pos) (tD X.K B G0 (Kq g λxs=>if xs.length=n then Ku (F xs)else λ_=>.bad)):=
 KF (jb FK hr hg hm hk hb .nil C6 ha hdb he hpl) λσ H Q q=>tM.one  q λv H2 G ρ ds k r a=>by
  split at a
  .rename_i hl
   obtain⟨d,e,a⟩:=a.opt;exact⟨G,ds,d,by rw[Jm,r.length];exact hl,k.gh,by rw[Jm];exact r,e,λw G' H' ex rw=>a.done k ex rw⟩
  .exact a.elim
end
noncomputable def Wf(N:List Str)(ds:zw):UZ:=(ds.map λd=>O (Sl.pub d))++UG (N.length-ds.length) zp
theorem jL{K}{N:List Str}{G H:Hp}{vs:List V}{ds:zw}(s:Same G H)(r:Reps K G vs ds):EOk K H G G H (L2.Wl N vs) (Wf N ds) where
 bh:=.refl _
 gh:=s
 g0:=.refl _
 np:=λ_ _ _ n=>n
 len:=by unfold L2.Wl Wf;rw[Qi,Qi,Qb,Qb,Q0,Q0,r.length]
 pub:=λi d q=>by
  unfold Wf at q;unfold L2.Wl;by_cases hi:i<ds.length
  .rw[Qq (by rw[Qb];exact hi),Qd]at q
   cases z:ds[i]? with
   |none=>rw[z]at q;cases q
   |some d'=>rw[z]at q;cases q;obtain⟨v,e1,r1⟩:=r.get z;refine⟨v,?_,r1⟩;rw[Qq (by rw[Qb,r.length];exact hi),Qd,e1];rfl
  .rw[Qt (by rw[Qb];lia),QC]at q
   split at q<;>cases q
 own:=λi es q=>by
  unfold Wf at q;by_cases hi:i<ds.length
  .rw[Qq (by rw[Qb];exact hi),Qd]at q
   cases z:ds[i]? with
   |none=>rw[z]at q;cases q
   |some d'=>rw[z]at q;cases q
  .rw[Qt (by rw[Qb];lia),QC]at q
   split at q<;>cases q
 sep:=λi j a es fs q _ _ _=>by
  unfold Wf at q;by_cases hi:i<ds.length
  .rw[Qq (by rw[Qb];exact hi),Qd]at q
   cases z:ds[i]? with
   |none=>rw[z]at q;cases q
   |some d'=>rw[z]at q;cases q
  .rw[Qt (by rw[Qb];lia),QC]at q
   split at q<;>cases q
 dp:=by
  have key:∀{i:Nat}{s:Sl},(Wf N ds)[i]?=O (O s)->∃d,s=.pub d:=λ{i s} q=>by
   unfold Wf at q;by_cases hi:i<ds.length
   .rw[Qq (by rw[Qb];exact hi),Qd]at q
    cases z:ds[i]? with
    |none=>rw[z]at q;cases q
    |some d'=>rw[z]at q;cases q;exact⟨_,rfl⟩
   .rw[Qt (by rw[Qb];lia),QC]at q
    split at q<;>cases q
  exact .of (λi p d q=>by obtain⟨_,e⟩:=key q;cases e) λi ds q=>by obtain⟨_,e⟩:=key q;cases e
noncomputable def Kh(N:List Str)(g:SM)(ds:zw):zx:=match g (Wf N ds)with
 |.rt d=>O d
 |.nx _=>O .none
 |_=>zp
theorem okD   {K}{mg}{base:Heap}{x qual:Str}{st:Stmt}{f:Uy}{fd:Uz}{N ps}{k n:Nat}{g:SM}(F:Fun K x qual st f fd)(S:Pg N ps (ZR st))(hn:ps.length=n)
  (der:∀(cdv:Uv)(A:Around)(outer)(s:Uw)(H:Hp)(E:XK)(B G0:Hp),Room k (A.deeper (envOfC qual (ZR st) s.heap.objs.size f cdv)) ->
   PSs (Y2 CX0 P w K mg base N qual (ZR st) f cdv A outer s H E).nox (XB st) (tS K B G0 KX0 g)):FnOk P w K mg base CX0 (k+1) f fd ps (spD K n (Kh N g)):=by
 refine F.ok S (λvs H Q E h=>?_) (λcdv A outer s H vs Q E hr h=>?_)
 .obtain⟨_,_,_,hl,_⟩:=h
  rw[hl,hn]
 .obtain⟨G,ds,d,hl,sg,r,hF,q⟩:=h
  refine⟨_,der cdv A outer s H E H G hr,G,Wf N ds,jL sg r,?_⟩;unfold Kh at hF;cases z:g _ with
  |rt d'=>rw[z]at hF;cases hF;exact λv G' H' ex rr=>q v G' H' ex rr
  |nx ρ=>rw[z]at hF;cases hF;exact λσ' G' H' k' _=>q .non G' H' k'.exit .non
  |ro ds=>rw[z]at hF;cases hF
  |bk ρ=>rw[z]at hF;cases hF
  |ct ρ=>rw[z]at hF;cases hF
  |ex ρ d=>rw[z]at hF;cases hF
  |bad=>rw[z]at hF;cases hF
section
variable{X:Cx}{B G0:Hp}{e a b c tg:UA}{pos:Pos}{es rest:zy}
noncomputable def oNeg:D->zx
 |.int i=>O (.int (-i))
 |_=>zp
noncomputable def Z7(f:M D):M D:=Kq f λx=>Ku (oNeg x)
theorem Gr  (h:PE X a (tD X.K B G0 f)):PE X (.UnaryOp .USub a pos) (tD X.K B G0 (Z7 f)):=
 KF (CA Bm h) λσ H Q q=>tM.one  q λv H2 G ρ x k r a=>by
  cases x with
  |int i=>exact⟨i,r.int_inv,aft.now a k (.int _)⟩
  |_=>exact a.elim
end
def Def(P:Ux)(w:World)(K:Frag)(mg:Str->zB)(base:Heap)(x:Str)(k n:Nat)(F:zw->zx):Prop:=
 ∃(f:Uy)(fd:Uz)(ps:List Str),mg x=O (.ref f)/\PySem.W.keepIn K (.ref f)=zq/\WT K fd ps []/\FnOk P w K mg base CX0 k f fd ps (spD K n F)
noncomputable def U4(n:Nat)(F:zw->zx)(g:M zw):M D:=Kq g λxs=>if xs.length=n then Ku (F xs)else λ_=>.bad
section
variable{X:Cx}{B G0:Hp}{e:UA}{pos:Pos}{es:zy}
theorem qv    {x}{p2}(d:Def X.prog X.w X.K X.mg X.base x k n F)(hr:Room k X.A)(hg:Gl X x)(ha:PA X (e::es) (tDs X.K B G0 g))(hn:(e::es).length=n:=by rfl)
  (hdb:(x==("__debug__" : Str))=zr:=by decide) (he:UD (e::es) X.env=(zr,eval e X.env)::UD es X.env:=by rfl) (hpl:(backTo pos (UD es X.env)).any (·.1)=zr:=by rfl) :
  PE X (.Call (.Name x p2) (e::es) [] pos) (tD X.K B G0 (U4 n F g)):=by
 obtain⟨f,fd,ps,h1,h2,h3,h4⟩:=d;exact jM h4 hr hg h1 h2 h3 ha hn hdb he hpl
end
theorem Def.mk   {K}{mg}{base}{x}{k n}{F}{st}{f}{fd}{ps}(hm:mg x=O (.ref f))(FU:Fun K x x st f fd)(hb:WT K fd ps [])(ok:FnOk P w K mg base CX0 k f fd ps (spD K n F)) :
  Def P w K mg base x k n F:=⟨f,fd,ps,hm,FU.kp,hb,ok⟩
theorem By{K}{H}{a}{ns:zu}{F}{E}(hS:SqL K H a (ns.map V.int))(h:F [.list (ns.map int)]=O (.bool zq)):spD K 1 F [.ref a] H (λv _=>v=.bl zq) E:=
 ⟨H,[.list _],.bool zq,rfl,.refl _,.cons (.lst hS (Reps.ints ns)) .nil,h,λ_ _ _ _ r=>r.bl_inv⟩
end DL
namespace L2
open PySem PySem.Spec PyProof.Rows
theorem mem_of_lookup   : ∀{l:List (Str×NameKind)},l.lookup x=O k->(x,k)∈l
 |[],h=>by cases h
 |(y,j)::r,h=>by
  rw[Q7]at h;split at h
  .simp_all
  .exact Qj _ (mem_of_lookup h)
theorem Le{env:Env}:∀(l:List (Str×NameKind))(acc:List (Str×Uy)),(∀y∈l,y.2=.free->∃c,env.cells.lookup y.1=O c) ->
  ∃cl,(forIn l acc (λx r=>if(x.2==NameKind.free)=zq then(do let a ←cellOf env x.1;pure (ForInStep.yield ((x.1,a)::r)))else pure (ForInStep.yield r)):Sem (List (Str×Uy)))=pure cl /\
   (∀x c,cl.lookup x=O c->acc.lookup x=O c∨env.cells.lookup x=O c)/\(∀y∈l,y.2=.free->∃c,cl.lookup y.1=O c)/\(∀x c,acc.lookup x=O c->∃c',cl.lookup x=O c')
 |[],acc,_=>⟨acc,rfl,λ_ _ h=>.inl h,λ_ h=>absurd h (by simp),λx c h=>⟨c,h⟩⟩
 |(n,k)::r,acc,h=>by
  by_cases hk:k=.free
  .subst hk
   obtain⟨c,hc⟩:=h (n,.free) Ql zo;obtain⟨cl,e,p1,p2,p3⟩:=Le r ((n,c)::acc) λy hy=>h y (Qj _ hy)
   have hco:cellOf env n=pure c:=by unfold cellOf;rw[hc]
   have key:∀x c',((n,c)::acc).lookup x=O c'->acc.lookup x=O c'∨env.cells.lookup x=O c':=λx c' q=>by
    rw[Q7]at q;split at q
    .rename_i e1
     cases q;have:x=n:=by simpa using e1
     subst this;exact .inr hc
    .exact .inl q
   have own:((n,c)::acc).lookup n=O c:=by simp
   refine⟨cl,?_,λx c' q=>?_,λy hy hf=>?_,λx c' q=>?_⟩
   .rw[List.forIn_cons]
    have:(if(((n,NameKind.free):Str×NameKind).2==NameKind.free)=zq then(do let a ←cellOf env n;pure (ForInStep.yield ((n,a)::acc)))else pure (ForInStep.yield acc):Sem _)=pure (ForInStep.yield ((n,c)::acc)):=by rw[hco];rfl
    refine Eq.trans ?_ e;rw[this];rfl
   .rcases p1 x c' q with z|z
    .exact key x c' z
    .exact .inr z
   .rcases QL.mp hy with z|z
    .subst z
     exact p3 n c own
    .exact p2 y z hf
   .by_cases hx:x=n
    .subst hx;exact p3 x c own
    .refine p3 x c' ?_
     have hb:(x==n)=zr:=by simpa using hx
     rw[Q7,hb];exact q
  .obtain⟨cl,e,p1,p2,p3⟩:=Le r acc λy hy=>h y (Qj _ hy)
   refine⟨cl,?_,p1,λy hy hf=>?_,p3⟩
   .rw[List.forIn_cons]
    have hb:(k==NameKind.free)=zr:=by cases k<;>first|rfl|exact absurd zo hk
    refine Eq.trans ?_ e;dsimp only;rw[hb,QA (by decide)];rfl
   .rcases QL.mp hy with z|z
    .subst z;exact absurd hf hk
    .exact p2 y z hf
theorem wN   (h:∀y∈scope.names,y.2=.free->∃c,env.cells.lookup y.1=O c) :
  ∃cl,closureFor scope env=pure cl/\(∀x c,cl.lookup x=O c->env.cells.lookup x=O c)/\∀y∈scope.names,y.2=.free->∃c,cl.lookup y.1=O c:=by
 obtain⟨cl,e,p1,p2,_⟩:=Le scope.names [] h;refine⟨cl,?_,λx c q=>(p1 x c q).elim (λz=>by cases z) id,p2⟩;have e2:((forIn scope.names [] (λx r=>if(x.2==NameKind.free)=zq then(do let a ←cellOf env x.1;pure (ForInStep.yield ((x.1,a)::r)))else pure (ForInStep.yield r)):Sem _) >>= λs=>pure s)=pure cl:=by rw[e];rfl
 exact e2
theorem ET{env:Env}{x}{k}:∀{names:List (Str×NameKind)},(names.map λ(n,k)=>if(k==NameKind.free&&env.scope.kind==.function&&env.kindOf n==O .cell)then(n,NameKind.cell)else(n,k)).lookup x=O k ->
  names.lookup x=O k∨(names.lookup x=O .free/\k=.cell)
 |[],h=>by cases h
 |(n,j)::r,h=>by
  have ih:=@ET env x k r;have h:List.lookup x ((if _=zq then(n,NameKind.cell)else(n,j))::_)=O k:=h;cases hx:x==n with
  |true=>
   by_cases hc:(j==NameKind.free&&env.scope.kind==.function&&env.kindOf n==O .cell)=zq
   .rw[Qr hc]at h
    simp only[Q7,hx]at h⊢;cases h;simp only[Je]at hc;have:j=.free:=by have:=hc.1.1;cases j<;>first|rfl|cases this
    subst this;exact .inr ⟨rfl,rfl⟩
   .rw[QA hc]at h
    simp only[Q7,hx]at h⊢;exact .inl h
  |false=>
   by_cases hc:(j==NameKind.free&&env.scope.kind==.function&&env.kindOf n==O .cell)=zq
   .rw[Qr hc]at h
    simp only[Q7,hx]at h⊢;exact ih h
   .rw[QA hc]at h
    simp only[Q7,hx]at h⊢;exact ih h
theorem Lf{env:Env}{x}:∀{names:List (Str×NameKind)},names.lookup x=O .free ->
  (names.map λ(n,k)=>if(k==NameKind.free&&env.scope.kind==.function&&env.kindOf n==O .cell)then(n,NameKind.cell)else(n,k)).lookup x=O .free ∨
  (names.map λ(n,k)=>if(k==NameKind.free&&env.scope.kind==.function&&env.kindOf n==O .cell)then(n,NameKind.cell)else(n,k)).lookup x=O .cell
 |[],h=>by cases h
 |(n,j)::r,h=>by
  have ih:=@Lf env x r;show List.lookup x ((if _=zq then(n,NameKind.cell)else(n,j))::_)=_∨List.lookup x ((if _=zq then(n,NameKind.cell)else(n,j))::_)=_;cases hx:x==n with
  |true=>
   simp only[Q7,hx]at h;cases h;by_cases hc:(NameKind.free==NameKind.free&&env.scope.kind==.function&&env.kindOf n==O .cell)=zq
   .rw[if_pos hc];simp[List.lookup_cons,hx]
   .rw[if_neg hc];simp[List.lookup_cons,hx]
  |false=>
   simp only[Q7,hx]at h;by_cases hc:(j==NameKind.free&&env.scope.kind==.function&&env.kindOf n==O .cell)=zq
   .rw[Qr hc];simp only[Q7,hx];exact ih h
   .rw[QA hc];simp only[Q7,hx];exact ih h
theorem Ti{env:Env}{x}{k}(hk:k≠.free):∀{names:List (Str×NameKind)},names.lookup x=O k ->
  (names.map λ(n,k)=>if(k==NameKind.free&&env.scope.kind==.function&&env.kindOf n==O .cell)then(n,NameKind.cell)else(n,k)).lookup x=O k
 |[],h=>by cases h
 |(n,j)::r,h=>by
  have ih:=@Ti env x k hk r;show List.lookup x ((if _=zq then(n,NameKind.cell)else(n,j))::_)=_;cases hx:x==n with
  |true=>
   simp only[Q7,hx]at h;cases h;have:(k==NameKind.free)=zr:=by cases k<;>first|rfl|exact absurd zo hk
   rw[if_neg (by rw[this];simp)];simp[List.lookup_cons,hx]
  |false=>
   simp only[Q7,hx]at h;by_cases hc:(j==NameKind.free&&env.scope.kind==.function&&env.kindOf n==O .cell)=zq
   .rw[Qr hc];simp only[Q7,hx];exact ih h
   .rw[QA hc];simp only[Q7,hx];exact ih h
structure ClOk(env:Env)(scope:Scope)(cl:List (Str×Uy))(L:Uy)(h':Heap):Prop where
 old:∀x c,cl.lookup x=O c->env.cells.lookup x=O c∨(L<c/\h'.IsCell c zp)
 fre:∀x,scope.names.lookup x=O .free->∃c,cl.lookup x=O c/\env.cells.lookup x=O c
 cel:∀x,scope.names.lookup x=O .cell->∃c,cl.lookup x=O c/\L<c
 inj:∀x y c,cl.lookup x=O c->cl.lookup y=O c->L<c->x=y
theorem PB:∀(names)(n)(acc),cellsFrom n names acc=cellsFrom n names []++acc
 |[],_,_=>rfl
 |(x,k)::r,n,acc=>by
  unfold cellsFrom;split
  .rw[PB r _ _,PB r _ [(x,n)],Q2];rfl
  .exact PB r n acc
theorem Lh:∀(names)(n)(x)(c),(x,c)∈cellsFrom n names []->(x,NameKind.cell)∈names
 |[],_,_,_,h=>by cases h
 |(y,k)::r,n,x,c,h=>by
  unfold cellsFrom at h;split at h
  .rw[PB]at h
   rcases QH.mp h with h|h
   .exact Qj _ (Lh r _ x c h)
   grind
  .exact Qj _ (Lh r _ x c h)
theorem Bx{M:Model}{A:Around}{E}{scope:Scope}{env:Env}{bA:List (Str×Uy)}{s:Uw}{Q:Env->Uw->Prop}(bz:∀x c,bA.lookup x=O c->env.cells.lookup x=O c)(cl2:∀y∈scope.names,y.2=.free->∃c,bA.lookup y.1=O c)(hn:∀y∈scope.names,scope.names.lookup y.1=O y.2)
  (hlt:∀x c,env.cells.lookup x=O c->c<s.heap.objs.size)
  (h:∀h' cl,h'.Ns s.heap.objs.size (λ_=>zp)->(∀b o,s.heap.get? b=O o->h'.get? b=O o)->ClOk env scope cl s.heap.objs.size h'->Q (newEnv scope s.heap.objs.size env.globals cl env.qual zp .none (O env) builtinsNs) {s with heap:=h'}) :
  UC M A (newFunctionEnv scope env.globals bA [] env.qual zp .none (O env)) Q E s:=by
 simp only[newFunctionEnv,Option.isSome_some,if_true];refine Qf (wpAny_alloc ?_);refine wpAny_bind (wpAny_layCells _ (λname kind cells=>by cases hkc:kind==NameKind.cell<;>simp[hkc]) _ _ _ _ ?_);have ok:=cellsFrom_ok scope.names (s.heap.push {cls:=.type "dict", data:=.dict #[]}) (s.heap.objs.size+1) [] ⟨λ_ _ hm=>(nomatch hm),List.Pairwise.nil⟩ (by rw[Heap.size_push];exact Qx _);rw[Heap.size_push]at ok;rw[Heap.size_push ..];rw[List.forIn_nil];refine Qf (Qs (Qs (h _ _ ((Heap.Ns.new s.heap (.type "dict")).keeps (pushCells_keeps _ _)) (λb o e=>pushCells_keeps _ _ b o (Qm _ e)) ?_)));have look:∀x,(cellsFrom (s.heap.objs.size+1) scope.names bA).lookup x=((cellsFrom (s.heap.objs.size+1) scope.names []).lookup x).or (bA.lookup x):=λx=>by rw[PB,List.lookup_append]
 have own:∀x c,(cellsFrom (s.heap.objs.size+1) scope.names []).lookup x=O c->scope.names.lookup x=O .cell:=λx c e=>hn _ (Lh _ _ _ _ (Jh e))
 refine⟨λx c e=>?_,λx e=>?_,λx e=>?_,λx y c e1 e2 hc=>?_⟩
 .rw[look]at e
  cases z:(cellsFrom (s.heap.objs.size+1) scope.names []).lookup x with
  |none=>rw[z]at e;exact .inl (bz x c e)
  |some c'=>rw[z]at e;cases e;obtain⟨h1,h2⟩:=ok.empty x c (Jh z);exact .inr ⟨h2,h1⟩
 .obtain⟨c,hc⟩:=cl2 (x,.free) (mem_of_lookup e) zo
  refine⟨c,?_,bz x c hc⟩;rw[look];cases z:(cellsFrom (s.heap.objs.size+1) scope.names []).lookup x with
  |none=>exact hc
  |some c'=>have:=own x c' z;rw[e]at this;cases this
 .obtain⟨c,hc⟩:=Mf  e
  refine⟨c,by rw[look,hc];rfl,(ok.empty x c (Jh hc)).2⟩
 .rw[look]at e1 e2
  cases z1:(cellsFrom (s.heap.objs.size+1) scope.names []).lookup x with
  |none=>rw[z1]at e1;exact absurd (hlt x c (bz x c e1)) (Nat.lt_asymm hc)
  |some c1=>
  cases z2:(cellsFrom (s.heap.objs.size+1) scope.names []).lookup y with
  |none=>rw[z2]at e2;exact absurd (hlt y c (bz y c e2)) (Nat.lt_asymm hc)
  |some c2=>rw[z1]at e1;rw[z2]at e2;cases e1;cases e2;exact name_of_addr ok.apart (Jh z1) (Jh z2)
noncomputable def Cx.blk(X:Cx)(N':List Str)(scope:Scope)(cl:List (Str×Uy))(C:Uy)(s₀:Uw)(H₀:Hp)(ex:zE):Cx:=
 {X with N:=N',s₀:=s₀,H₀:=H₀,env:=compEnvC scope cl C X.env,outer:=X.stack,ex:=ex,fn:=λx=>scope.names.lookup x==O .cell,xe:=λ_ _=>False}
section
variable{X:Cx}{N':List Str}{scope:Scope}{cl:List (Str×Uy)}{C:Uy}{s₀:Uw}{H₀:Hp}{ex:zE}{x:Str}
noncomputable def visK:Option NameKind->Bool
 |some .local=>zq|some .free=>zq|some .cell=>zq|_=>zr
theorem qu(h:visK (scope.names.lookup x)=zq):Vis (X.blk N' scope cl C s₀ H₀ ex).env.scope x:=by
 cases z:scope.names.lookup x with
 |none=>rw[z]at h;cases h
 |some y=>
  rw[z]at h;cases y with
  | «local»=>exact .inl (Ti (by decide) z)
  |cell=>exact .inr (.inl (Ti (by decide) z))
  |free=>
   rcases Lf  z with z|z
   .exact .inr (.inr z)
   .exact .inr (.inl z)
  |_=>cases h
noncomputable def locK:Option NameKind->Bool
 |some .local=>zq|some .cell=>zq|_=>zr
theorem Rx(h:locK (scope.names.lookup x)=zq):Loc (X.blk N' scope cl C s₀ H₀ ex).env.scope x/\((X.blk N' scope cl C s₀ H₀ ex).fn x=zq∨(X.blk N' scope cl C s₀ H₀ ex).env.scope.names.lookup x=O .local):=by
 cases z:scope.names.lookup x with
 |none=>rw[z]at h;cases h
 |some y=>
  rw[z]at h;cases y with
  | «local»=>exact⟨.inl (Ti (by decide) z),.inr (Ti (by decide) z)⟩
  |cell=>exact⟨.inr (Ti (by decide) z),.inl (by show(scope.names.lookup x==O .cell)=zq;rw[z];rfl)⟩
  |_=>cases h
theorem Bw(h:scope.names.lookup x=O .globalImplicit):Gl (X.blk N' scope cl C s₀ H₀ ex) x:=Ti (by decide) h
end
noncomputable def Pi(names:List (Str×NameKind))(N N2:List Str)(k:Nat):Bool:=
 N2.length==N.length+k&&(UF N2.length).all λi=>match N2[i]? with
  |none=>zq
  |some x=>match names.lookup x with
   |some .free=>N[i]?==O x
   |some .local=>decide (N.length<=i)&&decide (i<N.length+k)
   |some .cell=>decide (N.length<=i)&&decide (i<N.length+k)
   |_=>zq
theorem yJ    (h:Pi names N N2 k=zq) :
  N2.length=N.length+k/\∀(i) x,N2[i]?=O x->(names.lookup x=O .free->N[i]?=O x)/\(names.lookup x=O .local∨names.lookup x=O .cell->N.length<=i/\i<N.length+k):=by
 unfold Pi at h;simp only[Je,beq_iff_eq,Jf,Q3]at h;refine⟨h.1,λi x e=>?_⟩;have hi:=(Qg.mp e).1;have:=h.2 i hi;rw[e]at this;refine⟨λq=>?_,λq=>?_⟩
 .simp_all
 .rcases q with q|q<;>(simp only[q]at this;simpa using this)
theorem Inv.enter{X:Cx}{pins:List (Uy×Obj)}{σ:St}{H:Hp}{s3:Uw}(I:Inv X pins σ H s3){scope:Scope}{cl:List (Str×Uy)}{N2:List Str}{k:Nat}{h':Heap}{fp:zE}{t':Nat}{m0:Str->zB}
  (hb:Pi scope.names X.N N2 k=zq) (hkind:scope.kind=.function)
  (hfree:∀y∈scope.names,y.2=.free->X.env.scope.names.lookup y.1=O .cell∨X.env.scope.names.lookup y.1=O .free)
  (hc:ClOk X.env scope cl s3.heap.objs.size h')
  (hn:h'.Ns s3.heap.objs.size m0) (hk:∀b o,s3.heap.get? b=O o->h'.get? b=O o) (hf:∀b∈fp,ZV X pins H b) (hfo:∀b∈fp,∃o,s3.heap.get? b=O o) :
  Inv (X.blk N2 scope cl s3.heap.objs.size s3 H fp) pins (σ++UG k zp) H {s3 with heap:=h',toks:=t'}:=by
 obtain⟨hl,hN⟩:=yJ hb;have lt:∀b o,s3.heap.get? b=O o->b≠s3.heap.objs.size:=λb o e=>QY (Qk e);have ofl:∀x,scope.names.lookup x=O .free->(x,NameKind.free)∈scope.names:=λx h=>mem_of_lookup h;have kinv:∀x kk,(X.blk N2 scope cl s3.heap.objs.size s3 H fp).env.scope.names.lookup x=O kk->scope.names.lookup x=O kk∨(scope.names.lookup x=O .free/\kk=.cell):=λx kk h=>ET (env:=X.env) h
 have isfc:∀x,(X.blk N2 scope cl s3.heap.objs.size s3 H fp).env.scope.names.lookup x=O .cell∨(X.blk N2 scope cl s3.heap.objs.size s3 H fp).env.scope.names.lookup x=O .free->scope.names.lookup x=O .free∨scope.names.lookup x=O .cell:=λx h=>by
  rcases h with h|h
  .rcases kinv x _ h with z|z
   .exact .inr z
   .exact .inl z.1
  .rcases kinv x _ h with z|z
   .exact .inl z
   .exact .inl z.1
 have lto   :=λx c e=>let ⟨_,q⟩:=I.cell x c e;q.lt
 have ok:(X.blk N2 scope cl s3.heap.objs.size s3 H fp).Ok:=
  {
   mod:=I.ok.mod
   kind:=hkind
   glob:=I.ok.glob
   blt:=I.ok.blt
   above:=Qx _
   inj:=λx y c a b=>by
    rcases hc.old x c a with q|⟨q,_⟩
    .rcases hc.old y c b with q'|⟨q',_⟩
     .exact I.ok.inj x y c q q'
     .exact absurd (lto x c q) (Nat.lt_asymm q')
    .exact hc.inj x y c a b q
   has:=λx h=>by
    rcases isfc x h with z|z
    .exact let ⟨c,e,_⟩:=hc.fre x z;⟨c,e⟩
    .exact let ⟨c,e,_⟩:=hc.cel x z;⟨c,e⟩
   cab:=λx c h e=>by
    have z:scope.names.lookup x=O .cell:=by have h:(scope.names.lookup x==O .cell)=zq:=h;simpa using h
    obtain⟨c',e',l⟩:=hc.cel x z;have e:cl.lookup x=O c:=e;rw[e]at e';cases e';exact Nat.le_of_lt l
   hd:=I.ok.hd
   frames:=I.ok.frames
   stk:=.inl zo
   exf:=λb hb=>⟨let ⟨o,e⟩:=hfo b hb;lt b o e,λx c e=>by
    rcases hc.old x c e with q|⟨q,_⟩
    .exact(hf b hb).2.2.2.2.1 x c q
    .obtain⟨o,e'⟩:=hfo b hb
     exact JQ (Nat.lt_trans (Qk e') q)⟩
   bs:=I.bs
   bsz:=QM I.ok.bsz I.sz
   noex:=λb o e hb=>by
    rcases(hf b hb).2.2.2.1 with z|z
    .exact I.ok.noex b o e z
    .exact absurd (QF (Qk e) (QM I.ok.bsz z)) (Jt _)
   exfs:=λb hb hx=>by
    rcases QL.mp (I.stkSub b hx)with z|z
    .exact(hf b hb).2.1 z
    .exact(hf b hb).2.2.1 z
   funs:=I.stack
   frf:=I.stkFree}
 refine⟨ok,rfl,I.bare,Un.kept hk,⟨m0,hn,λi x v e1 e2 e3=>?_⟩,λx c e=>?_,I.hok.fresh (Qx _),λx c e=>(hc.old x c e).elim (I.freeC x c) λq=>I.hok.fresh (Nat.le_of_lt q.1),λp hp=>?_,I.hok.kept hk,?_⟩
 .have nl:¬_:=λz=>by
   obtain⟨g1,g2⟩:=(hN i x e1).2 z;rw[←I.len]at g1 g2;rw[Qt g1,QC]at e2;split at e2<;>cases e2
  have fr:scope.names.lookup x=O .free:=by
   rcases e3 with z|z
   .rcases kinv x _ z with q|q
    .exact absurd (.inl q) nl
    .cases q.2
   .rcases isfc x z with q|q
    .exact q
    .exact absurd (.inr q) nl
  have eN:=(hN i x e1).1 fr;have hi:i<σ.length:=by rw[I.len];exact(Qg.mp eN).1
  rw[Qq hi]at e2;obtain⟨m,hm,hlk⟩:=I.loc;have hkd:=hfree _ (ofl x fr) zo;obtain⟨u,r,l⟩:=hlk i x v eN e2 (.inr hkd);refine⟨u,r,.inr ⟨?_,?_⟩⟩
  .rcases e3 with z|z|z
   .rcases kinv x _ z with q|q
    .exact absurd (.inl q) nl
    .cases q.2
   .exact .inl z
   .exact .inr z
  .rcases l with l|⟨_,c,ec,z⟩
   .have:X.env.scope.names.lookup x=O .local:=l.1
    rcases hkd with q|q<;>(dsimp only at q;rw[this]at q;cases q)
   .obtain⟨c',ec',this⟩:=hc.fre x fr
    rw[ec]at this;cases this;obtain⟨o,ho,hd⟩:=z;exact⟨c,ec',o,hk c o ho,hd⟩
 .rcases hc.old x c e with q|⟨_,q⟩
  .obtain⟨v,o,ho,hd⟩:=I.cell x c q
   exact⟨v,o,hk c o ho,hd⟩
  .exact⟨_,q⟩
 .obtain⟨e,n,ne,nf,d⟩:=I.pin p hp
  refine⟨hk _ _ e,n,lt _ _ e,λz=>?_,d⟩;rcases QL.mp (I.stkSub _ z)with q|q
  .exact ne q
  .exact nf q
 .rw[Qi,Q0,I.len]
  exact hl.symm
noncomputable abbrev nox:Uv->Uw->Prop:=λ_ _=>False
def Pr(prog:Ux)(w:World)(A:Around)(tg:UA)(ifs:zy)(env:Env)(it:Uv)(code:Code)(W:(Uw->Prop)->Uw->Prop):Prop:=
 ∀(R:Result->Uw->Prop)(I:Nat->Uw->Prop)(n:Nat)(s:Uw),I n s ->
  (∀n s,I n s->UC (model prog w) A (pyNext it) (λr s₁=>match r with
   |none=>R (.ok .next) s₁
   |some v=>UC (model prog w) A (letOwnedTupleGo tg it v) (λ_ s₁'=>UC (model prog w) A (assign tg env v) (λ_ s₂=>
     UC (model prog w) A (forIn ifs zq λc r=>if r=zq then do let ok ←isTrue c env (eval c env);pure (ForInStep.yield ok)else pure (ForInStep.yield r)) (λok s₃=>
      if ok=zq then W (λs₅=>∃m,m<n/\I m s₅) s₃ else ∃m,m<n/\I m s₃) nox s₂) nox s₁') nox s₁) nox s)->codeAny (model prog w) A code R s
section
variable{prog:Ux}{w:World}{A:Around}{elt tg i:UA}{ifs:zy}{gens:List Comprehension}{scope:Scope}{pos:Pos}{it acc:Uv}{env:Env}{j:Nat}
theorem vp(hg:gens[j]?=O ⟨tg,i,ifs,0⟩)(hn:gens[j+1]?=zp):Pr prog w A tg ifs env it (.compLoop (.ListComp elt gens scope pos) j it acc env)
  (λQ s=>UC (model prog w) A (eval elt env) (λx s₄=>UC (model prog w) A (call (.builtin "list.append") [acc,x]) (λ_ s₅=>Q s₅) nox s₄) nox s):=by
 intro R I n s h turn;refine codeAny_loop zo I (λn s hI=>?_) n h;refine wpAny_noted ?_;unfold compTurn;dsimp only;simp only[hg,hn];refine Qf (JE (Qf (QG (turn n s hI) (λr s₁ h₁=>?_) λ_ _ h'=>h'.elim)));cases r with
 |none=>exact Qs h₁
 |some v=>
  refine Qf (QG h₁ (λ_ s₁' h₁'=>?_) λ_ _ h'=>h'.elim);refine Qf (QG h₁' (λ_ s₂ h₂=>Qf (QG h₂ (λok s₃ h₃=>?_) λ_ _ h'=>h'.elim)) λ_ _ h'=>h'.elim);cases ok with
  |false=>exact Qs ⟨rfl,h₃⟩
  |true=>exact Qf (Qf (QG h₃ (λx s₄ h₄=>Qf (QG h₄ (λ_ s₅ h₅=>Qs (Qs ⟨rfl,h₅⟩)) λ_ _ h'=>h'.elim)) λ_ _ h'=>h'.elim))
theorem vo  {ifs1:zy}(hg:gens[j]?=O ⟨tg,i,ifs,0⟩)(hn:gens[j+1]?=O ⟨aw,i1,ifs1,0⟩)(hs:∀x,UT i1 env x=pure x):Pr prog w A tg ifs env it (.compLoop (.ListComp elt gens scope pos) j it acc env)
  (λQ s=>UC (model prog w) A (eval i1 env) (λx s₄=>UC (model prog w) A (pyIter x) (λzW s₅=>codeAny (model prog w) A (.compStart (.ListComp elt gens scope pos) (j+1) zW acc env)
   (λr s₆=>match r with | .ok _=>Q s₆ | .error _=>False) s₅) nox s₄) nox s):=by
 intro R I n s h turn;refine codeAny_loop zo I (λn s hI=>?_) n h;refine wpAny_noted ?_;unfold compTurn;dsimp only;simp only[hg,hn];refine Qf (JE (Qf (QG (turn n s hI) (λr s₁ h₁=>?_) λ_ _ h'=>h'.elim)));cases r with
 |none=>exact Qs h₁
 |some v=>
  refine Qf (QG h₁ (λ_ s₁' h₁'=>?_) λ_ _ h'=>h'.elim);refine Qf (QG h₁' (λ_ s₂ h₂=>Qf (QG h₂ (λok s₃ h₃=>?_) λ_ _ h'=>h'.elim)) λ_ _ h'=>h'.elim);cases ok with
  |false=>exact Qs ⟨rfl,h₃⟩
  |true=>
   refine Qf (QG h₃ (λx s₄ h₄=>Qf (JE (Qf (wpAny_of_eq (hs x) (Qf (wpAny_holding (QG h₄ (λzW s₅ h₅=>?_) λ_ _ h'=>h'.elim))))))) λ_ _ h'=>h'.elim);refine Qf (wpAny_runOwn (codeAny_mono h₅ λr s₆ h₆=>?_));cases r with
   |ok f=>exact Qs ⟨rfl,h₆⟩
   |error x=>exact h₆.elim
theorem yI   (hg:gens[j]?=O ⟨tg,i,ifs,0⟩)
  (h0:codeAny (model prog w) A (.compLoop (.ListComp elt gens scope pos) j it acc env) R s)
  (h:UC (model prog w) A (pyIter it) (λit' s'=>codeAny (model prog w) A (.compLoop (.ListComp elt gens scope pos) j it' acc env) R s') nox s) :
  codeAny (model prog w) A (.compStart (.ListComp elt gens scope pos) j it acc env) R s:=by
 refine codeAny_of_tree ?_;refine wpAny_notedAt ?_;unfold compStart;have hc:(clausesOf (.ListComp elt gens scope pos))[j]?=O ⟨tg,i,ifs,0⟩:=hg;simp only[hc];refine Qf (wpAny_askSetting (wpAny_ite ?_));split
 .first
   |exact Qf _
   |exact Qs (And.intro rfl h0)
 .first
   |exact Qf _
   |(refine Qf (wpAny_rule ?_);exact Qf (JE (Qf (QG h (λit' s' h'=>Qs (And.intro rfl h')) λ_ _ x=>x.elim))))
end
end L2
namespace DL
open PySem PySem.Spec L2
open PyProof.Rows hiding St
noncomputable def X9:Option Sl->Option Sl
 |some (.own _)=>zp
 |some (.deep _ _)=>zp
 |x=>x
noncomputable def KE(ρ:UZ):UZ:=ρ.map X9
theorem vj  {i:Nat}{d}(h:(KE ρ)[i]?=O (O (.pub d))):ρ[i]?=O (O (.pub d)):=by
 unfold KE at h;rw[Qd]at h;cases e:ρ[i]? with
 |none=>simp_all
 |some o=>
  rw[e]at h;cases o with
  |none=>cases h
  |some sl=>cases sl with
   |pub d'=>cases h;rfl
   |own ds=>cases h
   |deep p d'=>cases h
theorem Vd  {i:Nat}{ds}(h:(KE ρ)[i]?=O (O (.own ds))):False:=by
 unfold KE at h;rw[Qd]at h;cases e:ρ[i]? with
 |none=>simp_all
 |some o=>
  rw[e]at h;cases o with
  |none=>cases h
  |some sl=>cases sl with
   |pub d'=>cases h
   |own ds=>cases h
   |deep p d'=>cases h
theorem M7  {i:Nat}{p}{d}(h:(KE ρ)[i]?=O (O (.deep p d))):False:=by
 unfold KE at h;rw[Qd]at h;cases e:ρ[i]? with
 |none=>simp_all
 |some o=>
  rw[e]at h;cases o with
  |none=>cases h
  |some sl=>cases sl<;>cases h
noncomputable def K4(s:D->UZ->zF)(t:M Bool)(g:M D):zw->UZ->zw->Option zw
 |[],_,es=>O es
 |d::r,ρ,es=>match s d ρ with
  |none=>zp
  |some ρ1=>match t ρ1 with
   |.bad=>zp
   |.ok b ρ2=>if b=zq then(match g ρ2 with
     |.bad=>zp
     |.ok e ρ3=>if es.length<1000000 then K4 s t g r (KE ρ3) (es++[e])else zp)
    else K4 s t g r (KE ρ2) es
noncomputable def Zd(f:M zw)(k:Nat)(s:D->UZ->zF)(t:M Bool)(g:M D):M zw:=λρ=>match f ρ with
 |.bad=>.bad
 |.ok ds ρ1=>match K4 s t g ds (KE ρ1++UG k zp) []with
  |none=>.bad
  |some es=>.ok es ρ1
def Xo(X:Cx)(ifs:zy)(t:TT):Prop:=
 ∀(pins:List (Uy×Obj))(s:Uw)(σ:St)(H:Hp)(Q:Bool->Hp->Prop),Inv X pins σ H s->t σ H Q ->
  UC (model X.prog X.w) X.A (forIn ifs zq λc r=>if r=zq then do let ok ←isTrue c X.env (eval c X.env);pure (ForInStep.yield ok)else pure (ForInStep.yield r)) (TP X pins σ Q) X.xe s
section
variable{X:Cx}{B G0:Hp}
theorem qt:Xo X [] (tBo X.K B G0 (U2 zq)):=λpins s σ H Q I ⟨G,ρ,k,a⟩=>wpAny_tests_nil ⟨H,I,a zq G H k (.refl _) zo⟩
theorem Gq   (h:PT X c (tBo X.K B G0 t)):Xo X [c] (tBo X.K B G0 t):=λpins s σ H Q I q=>wpAny_tests_one (h pins s σ H Q I q)
theorem EOk.rebase{K}{G H}{σ}{ρ}(k:EOk K B G0 G H σ ρ):EOk K H G G H σ (KE ρ) where
 bh:=.refl _
 gh:=k.gh
 g0:=.refl _
 np:=λ_ _ _ n=>n
 len:=by unfold KE;rw[Qb];exact k.len
 pub:=λi d q=>k.pub i d (vj q)
 own:=λi ds q=>(Vd q).elim
 sep:=λi j a ds es q=>(Vd q).elim
 dp:=.of (λ_ _ _ q=>M7 q) λ_ _ q=>Vd q
theorem EOk.more{K}{G H:Hp}{σ:St}{ρ}(k:EOk K H G G H σ (KE ρ))(n:Nat):EOk K H G G H (σ++UG n zp) (KE ρ++UG n zp) where
 bh:=.refl _
 gh:=k.gh
 g0:=.refl _
 np:=λ_ _ _ n=>n
 len:=by rw[Qi,Qi,k.len,Q0,Q0]
 pub:=λi d q=>by
  by_cases hi:i<(KE ρ).length
  .rw[Qq hi]at q
   rw[Qq (by rw[←k.len];exact hi)];exact k.pub i d q
  .rw[Qt (Ji hi),QC]at q
   split at q<;>cases q
 own:=λi ds q=>by
  by_cases hi:i<(KE ρ).length
  .rw[Qq hi]at q
   exact(Vd q).elim
  .rw[Qt (Ji hi),QC]at q
   split at q<;>cases q
 sep:=λi j a ds es q=>by
  by_cases hi:i<(KE ρ).length
  .rw[Qq hi]at q
   exact(Vd q).elim
  .rw[Qt (Ji hi),QC]at q
   split at q<;>cases q
 dp:=by
  refine .of (λi p d q=>?_) λi ds q=>?_
  .by_cases hi:i<(KE ρ).length
   .rw[Qq hi]at q;exact M7 q
   .rw[Qt (Ji hi),QC]at q;split at q<;>cases q
  .by_cases hi:i<(KE ρ).length
   .rw[Qq hi]at q;exact Vd q
   .rw[Qt (Ji hi),QC]at q;split at q<;>cases q
theorem EOk.beside{K}{G H}{σ}{ρ}{a}{o}(k:EOk K B G0 G H σ ρ)(hg:G a=zp):EOk K (upd H a o) G G (upd H a o) σ (KE ρ) where
 bh:=.refl _
 gh:=λb u e=>by rw[KO (λz=>by lia)];exact k.gh b u e
 g0:=.refl _
 np:=λ_ _ _ n=>n
 len:=k.rebase.len
 pub:=k.rebase.pub
 own:=λi ds q=>(Vd q).elim
 sep:=λi j a ds es q=>(Vd q).elim
 dp:=.of (λ_ _ _ q=>M7 q) λ_ _ q=>Vd q
theorem lim1:1000000<=UB:=lim
noncomputable def DI:Option Sl->Option Sl
 |some (.own ds)=>O (.pub (.list ds))
 |some (.deep _ d)=>O (.pub d)
 |x=>x
noncomputable def Z3(ρ:UZ):UZ:=ρ.map DI
theorem F7  {i:Nat}{d}(h:(Z3 ρ)[i]?=O (O (.pub d))):ρ[i]?=O (O (.pub d))∨(∃ds,d=.list ds/\ρ[i]?=O (O (.own ds))) ∨ ∃p,ρ[i]?=O (O (.deep p d)):=by
 unfold Z3 at h;rw[Qd]at h;cases e:ρ[i]? with
 |none=>simp_all
 |some o=>
  rw[e]at h;cases o with
  |none=>cases h
  |some sl=>cases sl with
   |pub d'=>cases h;exact .inl zo
   |own ds=>cases h;exact .inr (.inl ⟨ds,rfl,rfl⟩)
   |deep p d'=>cases h;exact .inr (.inr ⟨p,rfl⟩)
theorem RE  {i:Nat}{ds}(h:(Z3 ρ)[i]?=O (O (.own ds))):False:=by
 unfold Z3 at h;rw[Qd]at h;cases e:ρ[i]? with
 |none=>simp_all
 |some o=>
  rw[e]at h;cases o with
  |none=>cases h
  |some sl=>cases sl with
   |pub d'=>cases h
   |own ds=>cases h
   |deep p d'=>cases h
theorem EX  {i:Nat}{p}{d}(h:(Z3 ρ)[i]?=O (O (.deep p d))):False:=by
 unfold Z3 at h;rw[Qd]at h;cases e:ρ[i]? with
 |none=>simp_all
 |some o=>
  rw[e]at h;cases o with
  |none=>cases h
  |some sl=>cases sl<;>cases h
noncomputable def flat:D->Bool
 |.none=>zq | .bool _=>zq | .int _=>zq | .str _=>zq|_=>zr
theorem Rep.flat{K}{G G'}{v}{d}(r:Rep K G v d)(h:DL.flat d=zq):Rep K G' v d:=by
 cases r with
 |non=>exact .non
 |bl b=>exact .bl b
 |int i=>exact .int i
 |str x=>exact .str x
 |lst _ _=>cases h
 |tup _ _=>cases h
 |dic _=>cases h
 |exc _ _ _ _=>cases h
 |dct _ _ _ _ _=>cases h
 |dtt _ _ _ _=>cases h
theorem Reps.flat{K}{G G'}:∀{vs}{ds},Reps K G vs ds->ds.all DL.flat=zq->Reps K G' vs ds
 |_,_,.nil,_=>.nil
 |_,_,.cons r t,h=>by rw[List.all_cons,Je]at h;exact .cons (r.flat h.1) (Reps.flat t h.2)
theorem EOk.lend{K}{B G0 G H:Hp}{σ:St}{ρ:UZ}{D:Uy}{o:HO}(k:EOk K B G0 G H σ ρ)(hD:H D=zp)(n:Nat):EOk K (upd H D o) H H (upd H D o) (σ++UG n zp) (Z3 ρ++UG n zp) where
 bh:=.refl _
 gh:=ZQ hD
 g0:=.refl _
 np:=λ_ _ _ n=>n
 len:=by unfold Z3;rw[Qi,Qi,Qb,k.len,Q0,Q0]
 pub:=λi d q=>by
  have hl:(Z3 ρ).length=ρ.length:=by unfold Z3;rw[Qb]
  by_cases hi:i<(Z3 ρ).length
  .rw[Qq hi]at q
   rw[Qq (by rw[←k.len,←hl];exact hi)];rcases F7 q with e|⟨ds,rfl,e⟩|⟨p,e⟩
   .obtain⟨v,h1,h2⟩:=k.pub i d e
    exact⟨v,h1,h2.mono k.gh⟩
   .obtain⟨a,vs,h1,h2,h3,h4,h5⟩:=k.own i ds e
    exact⟨.ref a,h1,.lst (SqL.of h4) (h5.mono k.gh)⟩
   .obtain⟨ω,k1,k2⟩:=k.dp
    obtain⟨v,fp,s,r,_⟩:=k1 i p d e;exact⟨v,s,r.rep k.gh⟩
  .rw[Qt (Ji hi),QC]at q
   split at q<;>cases q
 own:=λi ds q=>by
  by_cases hi:i<(Z3 ρ).length
  .rw[Qq hi]at q
   exact(RE q).elim
  .rw[Qt (Ji hi),QC]at q
   split at q<;>cases q
 sep:=λi j a ds es q=>by
  by_cases hi:i<(Z3 ρ).length
  .rw[Qq hi]at q
   exact(RE q).elim
  .rw[Qt (Ji hi),QC]at q
   split at q<;>cases q
 dp:=by
  refine .of (λi p d q=>?_) λi ds q=>?_
  .by_cases hi:i<(Z3 ρ).length
   .rw[Qq hi]at q;exact EX q
   .rw[Qt (Ji hi),QC]at q;split at q<;>cases q
  .by_cases hi:i<(Z3 ρ).length
   .rw[Qq hi]at q;exact RE q
   .rw[Qt (Ji hi),QC]at q;split at q<;>cases q
noncomputable def R5(f:M zw)(k:Nat)(s:D->UZ->zF)(t:M Bool)(g:M D):M zw:=λρ=>match f ρ with
 |.bad=>.bad
 |.ok ds ρ1=>match K4 s t g ds (Z3 ρ1++UG k zp) []with
  |none=>.bad
  |some es=>if es.all flat=zq then .ok es ρ1 else .bad
end
noncomputable def YU(s:D->UZ->zF)(t:M Bool)(g:M D):zw->UZ->zw->Option (zw×UZ)
 |[],ρ,es=>O (es,ρ)
 |d::r,ρ,es=>match s d ρ with
  |none=>zp
  |some ρ1=>match t ρ1 with
   |.bad=>zp
   |.ok b ρ2=>if b=zq then(match g ρ2 with
     |.bad=>zp
     |.ok e ρ3=>if es.length<1000000 then YU s t g r (KE ρ3) (es++[e])else zp)
    else YU s t g r (KE ρ2) es
noncomputable def WP(s0:D->UZ->zF)(t0:M Bool)(f1:M zw)(s1:D->UZ->zF)(t1:M Bool)(g:M D):zw->UZ->zw->Option zw
 |[],_,es=>O es
 |d::r,ρ,es=>match s0 d ρ with
  |none=>zp
  |some ρ1=>match t0 ρ1 with
   |.bad=>zp
   |.ok b ρ2=>if b=zq then(match f1 ρ2 with
     |.bad=>zp
     |.ok ds ρ3=>match YU s1 t1 g ds (KE ρ3) es with
      |none=>zp
      |some (es',ρ4)=>WP s0 t0 f1 s1 t1 g r ρ4 es')
    else WP s0 t0 f1 s1 t1 g r (KE ρ2) es
noncomputable def R4(f:M zw)(k:Nat)(s:D->UZ->zF)(t:M Bool)(f1:M zw)(bq:D->UZ->zF)(t1':M Bool)(g:M D):M zw:=λρ=>match f ρ with
 |.bad=>.bad
 |.ok ds ρ1=>match WP s t f1 bq t1' g ds (KE ρ1++UG k zp) []with
  |none=>.bad
  |some es=>.ok es ρ1
noncomputable def Xx(s0:D->UZ->zF)(t0:M Bool)(f1:M zw)(Rd:zw->UZ->zw->Option (zw×UZ)):zw->UZ->zw->Option (zw×UZ)
 |[],ρ,es=>O (es,ρ)
 |d::r,ρ,es=>match s0 d ρ with
  |none=>zp
  |some ρ1=>match t0 ρ1 with
   |.bad=>zp
   |.ok b ρ2=>if b=zq then(match f1 ρ2 with
     |.bad=>zp
     |.ok ds ρ3=>match Rd ds (KE ρ3) es with
      |none=>zp
      |some (es',ρ4)=>Xx s0 t0 f1 Rd r ρ4 es')
    else Xx s0 t0 f1 Rd r (KE ρ2) es
noncomputable def TK(Rd:zw->UZ->zw->Option (zw×UZ))(ds:zw)(ρ:UZ)(es:zw):Option zw:=(Rd ds ρ es).map (·.1)
noncomputable def R3(f:M zw)(k:Nat)(s:D->UZ->zF)(t:M Bool)(f1:M zw)(bq:D->UZ->zF)(t1':M Bool)(fx2:M zw)(s2':D->UZ->zF)(t2':M Bool)(g:M D):M zw:=λρ=>match f ρ with
 |.bad=>.bad
 |.ok ds ρ1=>match TK (Xx s t f1 (Xx bq t1' fx2 (YU s2' t2' g))) ds (KE ρ1++UG k zp) []with
  |none=>.bad
  |some es=>.ok es ρ1
abbrev RdB:=UZ->zw->Option (zw×UZ)
noncomputable def rL(g:M D):RdB:=λρ es=>match g ρ with
 |.bad=>zp
 |.ok e ρ3=>if es.length<1000000 then O (es++[e],KE ρ3)else zp
noncomputable def cT(s:D->UZ->zF)(t:M Bool)(rd:RdB):zw->UZ->zw->Option (zw×UZ)
 |[],ρ,es=>O (es,ρ)
 |d::r,ρ,es=>match s d ρ with
  |none=>zp
  |some ρ1=>match t ρ1 with
   |.bad=>zp
   |.ok b ρ2=>if b=zq then(match rd ρ2 es with
     |none=>zp
     |some (es',ρ')=>cT s t rd r ρ' es')
    else cT s t rd r (KE ρ2) es
noncomputable def rN(f:M zw)(s:D->UZ->zF)(t:M Bool)(rd:RdB):RdB:=λρ es=>match f ρ with
 |.bad=>zp
 |.ok ds ρ3=>cT s t rd ds (KE ρ3) es
structure Left(Y:Cx)(D':Uy)(pins:List (Uy×Obj))(H G:Hp)(es':zw)(ρ':UZ)(σ':St)(H' G':Hp)(vs':List V)(s':Uw):Prop where
 inv:Inv Y pins σ' H' s'
 eok:EOk Y.K H' G' G' H' σ' ρ'
 hh:∀a o,a≠D'->H a=O o->H' a=O o
 gg:Same G G'
 np:∀a(u:MO),a≠D'->H a=O u.ho->G a=zp->G' a=zp
 hd:H' D'=O (.lst vs')
 gd:G' D'=zp
 rp:Reps Y.K G' vs' es'
def RP(Y:Cx)(D':Uy)(W:(Uw->Prop)->Uw->Prop)(rd:RdB):Prop:=
 ∀(pins:List (Uy×Obj))(sh:Uw)(σ:St)(B1 G1 H G:Hp)(ρ ρ':UZ)(vs:List V)(es es':zw)(Q:Uw->Prop),
  Inv Y pins σ H sh->EOk Y.K B1 G1 G H σ ρ->B1 D'=O (.lst vs)->G1 D'=zp->Reps Y.K G1 vs es->rd ρ es=O (es',ρ') ->
  (∀σ' H' G' vs' s',Left Y D' pins B1 G1 es' ρ' σ' H' G' vs' s'->Q s')->W Q sh
section
variable{Y:Cx}{D':Uy}
theorem vi   (hx:Y.xe=nox)(he:∀B1 G1,PE Y elt (tD Y.K B1 G1 g)) :
  RP Y D' (λQ s=>UC (model Y.prog Y.w) Y.A (eval elt Y.env) (λx s₄=>UC (model Y.prog Y.w) Y.A (call (.builtin "list.append") [.ref D',x]) (λ_ s₅=>Q s₅) nox s₄) nox s) (rL g):=by
 intro pins sh σ B1 G1 H G ρ ρ' vs es es' Q I k hD gD r z fin;unfold rL at z;cases zg:g ρ with
 |bad=>simp_all
 |ok e ρ4=>
 rw[zg]at z;dsimp only at z;split at z
 .cases z
  have h:=he B1 G1 pins sh σ H (λv H8=>∃G8,EOk Y.K B1 G1 G8 H8 σ ρ4/\Rep Y.K G8 v e) I ⟨G,ρ,k,by rw[zg];exact λv G8 H8 k8 _ q=>⟨G8,k8,q⟩⟩;rw[hx]at h;refine thn h λev s8 ⟨v,H8,I8,rv,G8,k8,r8⟩=>?_;have h2:=F9 pins s8 σ H8 (.ref D') [v] _ [ev] (λ_ H9=>H9=upd H8 D' _) I8 zo (.cons rv .nil) ⟨D',vs,v,rfl,rfl,k8.bh _ _ hD,by have:=lim1;rw[r.length];lia,rfl⟩
  rw[hx]at h2;refine thn h2 λ_ s9 ⟨_,H9,I9,_,e9⟩=>?_;subst e9;have g8:=k8.np _ (.l _) hD gD;exact fin σ _ G8 _ s9 ⟨I9,k8.beside g8,λa o z q=>by rw[KO z];exact k8.bh a o q,k8.g0,λa o _ q w=>k8.np a o q w,Zq,g8,(r.mono k8.g0).append (.cons r8 .nil)⟩
 simp_all
theorem Fx{tg:UA}{ifs:zy}{code:Code}{W:(Uw->Prop)->Uw->Prop}{s:D->UZ->zF}{t:M Bool}{rd:RdB}{it:Uy}(hx:Y.xe=nox)(hc:Y.calm=zq)(rule:Pr Y.prog Y.w Y.A tg ifs Y.env (.ref it) code W)
  (hg:∀B1 G1,PG Y tg (tG Y.K B1 G1 s)) (ht:∀B1 G1,Xo Y ifs (tBo Y.K B1 G1 t)) (hb:RP Y D' W rd)
  {pins:List (Uy×Obj)} {sh:Uw} {σ:St} {H G:Hp} {ρ ρF:UZ} {fp:zE} {tn:Nat->Heap->Prop} {J:It} {ds es esF:zw} {vs:List V} {R:Result->Uw->Prop}
  (I:Inv Y pins σ H sh) (T:Turn Y.prog Y.w Y.K tg J fp it tn) (st:tn 0 sh.heap) (hf:∀b∈fp,ZV Y pins H b)
  (k:EOk Y.K H G G H σ ρ) (its:Wa Y.K J ds G) (hD:H D'=O (.lst vs)) (gD:G D'=zp) (r:Reps Y.K G vs es) (zl:cT s t rd ds ρ es=O (esF,ρF))
  (aY:∀σ' H' G' vs' s',Left Y D' pins H G esF ρF σ' H' G' vs' s'->R (.ok .next) s'):codeAny (model Y.prog Y.w) Y.A code R sh:=by
 have stat:∀{H':Hp},(∀b∈fp,H' b=zp)->∀b∈fp,ZV Y pins H' b:=λhn b hb=>⟨hn b hb,(hf b hb).2⟩
 refine rule R (λn s'=>∃i σ' H' G' ρ' vs' es',n=ds.length-i/\tn i s'.heap/\(∀b∈fp,H' b=zp)/\Left Y D' pins H G es' ρ' σ' H' G' vs' s'/\cT s t rd (ds.drop i) ρ' es'=O (esF,ρF)) ds.length sh
  ⟨0,σ,H,G,ρ,vs,es,rfl,st,λb hb=>(hf b hb).1,⟨I,k,λ_ _ _ q=>q,.refl _,λ_ _ _ _ n=>n,hD,gD,r⟩,by rw[List.drop_zero];exact zl⟩ ?_
 rintro n s' ⟨i,σ',H',G',ρ',vs',es',rfl,tn',fr',⟨I',k',bC,bp,np',ae,gD',r'⟩,zc⟩;by_cases hlt:i<ds.length
 .rw[Jl hlt,cT]at zc
  cases zs:s ds[i] ρ' with
  |none=>rw[zs]at zc;cases zc
  |some ρ2=>
  rw[zs]at zc;dsimp only at zc;cases zt:t ρ2 with
  |bad=>rw[zt]at zc;cases zc
  |ok b ρ3=>
  rw[zt]at zc;dsimp only at zc;refine thn (T.item Y zo zo zo hc i pins s' σ' H' nox I' (stat fr') tn' (its.go i G' H' bp k'.gh hlt)) λrr s4 ⟨u,hr,h4⟩=>?_;subst hr;refine thn h4 λ_ s5 ⟨x,H5,I5,r5,y5,ag,fr5⟩=>?_
  obtain⟨G5,e5,rx⟩:=its.yld i G' H' x H5 ds[i] bp k'.gh (Qe hlt) y5;have h6:=hg H' G' _ s5 σ' H5 x u (λσ6 H6=>∃G6,EOk Y.K H' G' G6 H6 σ6 ρ2) (I5.pinned (stat fr5) (T.obj _ _ ag)) r5 ⟨G5,ρ',ds[i],ρ2,k'.ext e5,rx,zs,λσ6 G6 H6 k6 _=>⟨G6,k6⟩⟩;rw[hx]at h6;refine thn h6 λ_ s6 ⟨σ6,H6,I6,G6,k6⟩=>?_;have h7:=ht H' G' _ s6 σ6 H6 (λc H7=>c=b/\∃G7,EOk Y.K H' G' G7 H7 σ6 ρ3) I6 ⟨G6,ρ2,k6,by unfold aft;rw[zt];exact λc G7 H7 k7 _ q=>⟨q,G7,k7⟩⟩
  rw[hx]at h7;refine thn h7 λok s7 ⟨H7,I7,hb7,G7,k7⟩=>?_;subst hb7
  have again:∀{H9:Hp}{σ9:St}{s9:Uw},Inv Y (pins++Ob fp s5.heap) σ9 H9 s9->Inv Y pins σ9 H9 s9/\tn (i+1) s9.heap/\∀b∈fp,H9 b=zp:=λ{H9 σ9 s9} I9=>by refine⟨I9.unpinned,T.keep _ _ _ ag λb hb o e=>(I9.pin (b,o) (QD _ (QD _ (O4 hb e)))).1,λb hb=>?_⟩;obtain⟨o,e,d⟩:=T.obj _ _ ag b hb;exact(I9.pin (b,o) (QD _ (QD _ (O4 hb e)))).2.1
  have lt:ds.length-(i+1)<ds.length-i:=Nat.sub_lt_sub_left hlt (JT i);cases ok with
  |false=>obtain⟨J1,J2,J3⟩:=again I7;exact⟨_,lt,i+1,σ6,H7,G7,KE ρ3,vs',es',rfl,J2,J3,⟨J1,k7.rebase,λa o z q=>k7.bh a o (bC a o z q),bp.trans k7.g0,λa o z q w=>k7.np a o (bC a _ z q) (np' a o z q w),k7.bh _ _ ae,k7.np _ (.l _) ae gD',r'.mono k7.g0⟩,zc⟩
  |true=>
   rw[Qr zo]at zc⊢;cases ze:rd ρ3 es' with
   |none=>rw[ze]at zc;cases zc
   |some pr=>
   obtain⟨es1,ρ5⟩:=pr;rw[ze]at zc;refine hb _ s7 σ6 H' G' H7 G7 ρ3 ρ5 vs' es' es1 _ I7 k7 ae gD' r' ze λσ9 H9 G9 vs9 s9 L=>?_
   obtain⟨J1,J2,J3⟩:=again L.inv;exact⟨_,lt,i+1,σ9,H9,G9,ρ5,vs9,es1,rfl,J2,J3,⟨J1,L.eok,λa o z q=>L.hh a o z (bC a o z q),bp.trans L.gg,λa o z q w=>L.np a o z (bC a _ z q) (np' a o z q w),L.hd,L.gd,L.rp⟩,zc⟩
 .rw[Ub (Ji hlt),cT]at zc
  cases zc;refine thn (T.done Y zo zo zo hc i pins s' σ' H' nox I' (stat fr') tn' (its.stop i G' H' bp k'.gh (Ji hlt))) λrr s4 ⟨hr,I6⟩=>?_
  subst hr;exact aY σ' H' G' vs' s4 ⟨I6,k',bC,bp,np',ae,gD',r'⟩
theorem vh{elt aw i1:UA}{ifs1}{gens}{scope:Scope}{pos:Pos}{j:Nat}{W:Uv->(Uw->Prop)->Uw->Prop}{f}{s}{t}{rd:RdB}(hx:Y.xe=nox)(hc:Y.calm=zq)
  (hn:gens[j+1]?=O ⟨aw,i1,ifs1,0⟩) (rule:∀zW,Pr Y.prog Y.w Y.A aw ifs1 Y.env zW (.compLoop (.ListComp elt gens scope pos) (j+1) zW (.ref D') Y.env) (W zW))
  (hi:∀B1 G1,PI Y aw i1 (iD Y.K B1 G1 f)) (hg:∀B1 G1,PG Y aw (tG Y.K B1 G1 s)) (ht:∀B1 G1,Xo Y ifs1 (tBo Y.K B1 G1 t)) (hb:∀zW,RP Y D' (W zW) rd) :
  RP Y D' (λQ s=>UC (model Y.prog Y.w) Y.A (eval i1 Y.env) (λx s₄=>UC (model Y.prog Y.w) Y.A (pyIter x) (λzW s₅=>codeAny (model Y.prog Y.w) Y.A (.compStart (.ListComp elt gens scope pos) (j+1) zW (.ref D') Y.env)
   (λr s₆=>match r with | .ok _=>Q s₆ | .error _=>False) s₅) nox s₄) nox s) (rN f s t rd):=by
 intro pins sh σ B1 G1 H G ρ ρ' vs es es' Q I k hD gD r z fin;unfold rN at z;cases zf:f ρ with
 |bad=>rw[zf]at z;cases z
 |ok ds ρ3=>
 rw[zf]at z;have h:=hi B1 G1 pins sh σ H (λJ1 H8=>∃G8,EOk Y.K B1 G1 G8 H8 σ ρ3/\Wa Y.K J1 ds G8) I ⟨G,ρ,k,by rw[zf];exact λJ1 G8 H8 k8 _ q=>⟨G8,k8,q⟩⟩;rw[hx]at h;refine thn h λxv s8 h8=>thn h8 λitv s9 h9=>?_
 obtain⟨zW,fp1,tn1,J1,H9,rfl,I9,T1,st9,f9,G9,k9,its9⟩:=h9
 have loop:codeAny _ Y.A _ (λr s₆=>match r with | .ok _=>Q s₆ | .error _=>False) s9:=
  Fx hx hc (rule _) hg ht (hb _) I9 T1 st9 f9 k9.rebase its9 (k9.bh _ _ hD) (k9.np _ (.l _) hD gD) (r.mono k9.g0) z λσ' H' G' vs' s' L=>
   fin σ' H' G' vs' s' ⟨L.inv,L.eok,λa o z q=>L.hh a o z (k9.bh a o q),k9.g0.trans L.gg,λa o z q w=>L.np a o z (k9.bh a _ q) (k9.np a o q w),L.hd,L.gd,L.rp⟩
 exact yI hn loop (T1.self Y.A 0 _ _ _ st9 loop)
end
def RO(Y:Cx)(e:UA)(j:Nat)(tg:UA)(ifs:zy)(rd:RdB):Prop:=
 ∀(D':Uy)(it:Uv),∃W,Pr Y.prog Y.w Y.A tg ifs Y.env it (.compLoop e j it (.ref D') Y.env) W/\RP Y D' W rd
section
variable{Y:Cx}{elt tg i:UA}{ifs:zy}{gens:List Comprehension}{scope:Scope}{pos:Pos}{j:Nat}
theorem F6  (hx:Y.xe=nox)(hg:gens[j]?=O ⟨tg,i,ifs,0⟩)(hn:gens[j+1]?=zp)(he:∀B1 G1,PE Y elt (tD Y.K B1 G1 g)):RO Y (.ListComp elt gens scope pos) j tg ifs (rL g):=
 λ_ _=>⟨_,vp hg hn,vi hx he⟩
theorem vg       (hx:Y.xe=nox)(hc:Y.calm=zq)(hg:gens[j]?=O ⟨tg,i,ifs,0⟩)(hn:gens[j+1]?=O ⟨aw,i1,ifs1,0⟩)(hs:∀x,UT i1 Y.env x=pure x)
  (hi:∀B1 G1,PI Y aw i1 (iD Y.K B1 G1 f)) (hgt:∀B1 G1,PG Y aw (tG Y.K B1 G1 s)) (ht:∀B1 G1,Xo Y ifs1 (tBo Y.K B1 G1 t)) (hb:RO Y (.ListComp elt gens scope pos) (j+1) aw ifs1 rd):RO Y (.ListComp elt gens scope pos) j tg ifs (rN f s t rd):=
 λD' _=>⟨_,vo hg hn hs,vh hx hc hn (λzW=>(Classical.choose_spec (hb D' zW)).1) hi hgt ht (λzW=>(Classical.choose_spec (hb D' zW)).2)⟩
end
noncomputable def Y0(l:Bool)(ρ:UZ):UZ:=match l with|true=>Z3 ρ|false=>KE ρ
theorem DH{K}{B G0 G1 H2}{σ}{ρ1}{D}(l)(k1:EOk K B G0 G1 H2 σ ρ1)(hfr:H2 D=zp)(n) :
  ∃Gb,EOk K (upd H2 D (.lst [])) Gb Gb (upd H2 D (.lst [])) (σ++UG n zp) (Y0 l ρ1++UG n zp)/\Same G1 Gb/\Gb D=zp /\
   ∀(G' H') vs es,(l=zq->es.all flat=zq)->Same Gb G'->Same H2 H'->Same G' H'->(∀a(u:MO),H2 a=O u.ho->Gb a=zp->G' a=zp)->G' D=zp->Reps K G' vs es->∃Gf,Ext G1 H2 Gf H'/\Gf D=zp/\Reps K Gf vs es:=by
 have gD   :=k1.gh.free hfr;cases l with
 |false=>exact⟨G1,(k1.beside gD).more n,.refl _,gD,λG' H' vs es _ g h gh np d r=>⟨G',⟨h,g,gh,np⟩,d,r⟩⟩
 |true=>exact⟨H2,k1.lend hfr n,k1.gh,hfr,λG' H' vs es fl _ h _ _ _ r=>⟨G1,⟨h,.refl _,k1.gh.trans h,λ_ _ _ n=>n⟩,gD,r.flat (fl zo)⟩⟩
noncomputable def dCG(l:Bool)(f:M zw)(k:Nat)(s:D->UZ->zF)(t:M Bool)(rd:RdB):M zw:=λρ=>match f ρ with
 |.bad=>.bad
 |.ok ds ρ1=>match cT s t rd ds (Y0 l ρ1++UG k zp) []with
  |none=>.bad
  |some (es,_)=>if l=zq->es.all flat=zq then .ok es ρ1 else .bad
theorem NU       {ρ ρ'}{es}(h:dCG l f k s t rd ρ=.ok es ρ'):∃ds ρF,f ρ=.ok ds ρ'/\cT s t rd ds (Y0 l ρ'++UG k zp) []=O (es,ρF)/\(l=zq->es.all flat=zq):=by
 unfold dCG at h;cases zf:f ρ with
 |bad=>rw[zf]at h;cases h
 |ok ds ρ1=>
 rw[zf]at h;dsimp only at h;cases zl:cT s t rd ds _ []with
 |none=>rw[zl]at h;cases h
 |some pr=>
 obtain⟨esF,ρF⟩:=pr;rw[zl]at h;dsimp only at h;split at h
 .rename_i hf
  cases h;exact⟨ds,ρF,rfl,zl,hf⟩
 .cases h
section
variable{X:Cx}{B G0:Hp}{KX:XW}
def Z8(X:Cx)(N2:List Str)(scope:Scope)(e tg:UA)(ifs:zy)(s:D->UZ->zF)(t:M Bool)(rd:RdB):Prop:=
 ∀(cl:List (Str×Uy))(C:Uy)(s₀:Uw)(H₀:Hp)(ex:zE),(∀B' G',PG (X.blk N2 scope cl C s₀ H₀ ex) tg (tG X.K B' G' s))/\(∀B' G',Xo (X.blk N2 scope cl C s₀ H₀ ex) ifs (tBo X.K B' G' t))/\RO (X.blk N2 scope cl C s₀ H₀ ex) e 0 tg ifs rd
structure SX(SC scope:Scope)(N1 N2:List Str)(k:Nat):Prop where
 b:Pi scope.names N1 N2 k=zq
 kind:scope.kind=.function
 names:∀y∈scope.names,scope.names.lookup y.1=O y.2
 free:∀y∈scope.names,y.2=.free->SC.names.lookup y.1=O .cell∨SC.names.lookup y.1=O .free
theorem Mc{l:Bool}{tg elt iter:UA}{ifs:zy}{gs:List Comprehension}{scope:Scope}{pos pos':Pos}{N2:List Str}{k:Nat}{f:M zw}{s:D->UZ->zF}{t:M Bool}{rd:RdB}{use:Option (Uv->Sem Unit)}{Qc:Uv->Uw->Prop}(hc:X.calm=zq)
  (hi:PI X tg iter (iD X.K B G0 f)) (zN:Z8 X N2 scope (.ListComp elt (⟨tg,iter,ifs,0⟩::gs) scope pos) tg ifs s t rd) (hb:SX X.env.scope scope X.N N2 k) (hs:∀x,UT iter X.env x=pure x)
  {pins:List (Uy×Obj)} {s0:Uw} {σ:St} {G H:Hp} {ρ ρ1 ρF:UZ} {ds esF:zw} (I:Inv X pins σ H s0) (k0:EOk X.K B G0 G H σ ρ) (zf:f ρ=.ok ds ρ1) (zl:cT s t rd ds (Y0 l ρ1++UG k zp) []=O (esF,ρF)) (hfl:l=zq->esF.all flat=zq)
  (aY:∀(C D:Uy)(vs:List V)(G' H':Hp)(s4:Uw)(m:Str->zB),Inv X pins σ H' s4->s4.heap.Ns C m->H' C=zp->C≠X.env.locals->X.s₀.heap.objs.size<=C->(∀x c,X.env.cells.lookup x=O c->c≠C)->(∀p∈X.pn++pins,p.1≠C) ->
   EOk X.K B G0 G' H' σ ρ1->Same G G'->NewL X.K B G' H' σ ρ1 D vs esF->compPost (model X.prog X.w) X.A X.xe use Qc (.ref D) C (.ok .next) s4) :
  UC (model X.prog X.w) X.A (comprehension (.ListComp elt (⟨tg,iter,ifs,0⟩::gs) scope pos) scope X.env pos' (newList []) zr (eval iter X.env) use) Qc X.xe s0:=by
 obtain⟨bA,hcl,bz,cl2⟩:=wN (scope:=scope) (env:=X.env) λy hy hf=>I.ok.has y.1 (hb.free y hy hf)
 refine wpAny_comprehension_free (use:=use) zo hs hcl hb.kind (λy hy hl=>(hb.names y hy).trans (by rw[hl])) (thn (hi pins s0 σ H (λJ H1=>∃G1,EOk X.K B G0 G1 H1 σ ρ1/\Same G G1/\Wa X.K J ds G1) I ⟨G,ρ,k0,by rw[zf];exact λJ G1 H1 k1 s1 it=>⟨G1,k1,s1,it⟩⟩) λv s1 h1=>thn h1 λitv s2 h2=>?_);obtain⟨it,fp,tn,J,H2,rfl,I2,T,st2,f2,G1,k1,sg1,its⟩:=h2;refine wpAny_newObj_type (Bx bz cl2 hb.names (λx c e=>let ⟨_,q⟩:=I2.cell x c e;QF q.lt (by first|exact Qx _|(rw[Heap.size_push];exact Ua _))) λh₁ cl hns₁ kept hco=>?_);dsimp only at hns₁ kept hco⊢;have hfr:H2 s2.heap.objs.size=zp:=I2.hok.fresh (Qx _)
 have I3:Inv X pins σ (upd H2 s2.heap.objs.size (.lst [])) {s2 with heap:=s2.heap.push {cls:=.type "list", dict:=zp,data:=.seq ([]:zA).toArray}}:=
  I2.laid (t':=s2.toks) (λb u e=>Qm _ e) (Qx _) ⟨Uh _,[],0,.nil,QE _ zo⟩
 generalize hP:s2.heap.push {cls:=.type "list", dict:=zp,data:=.seq ([]:zA).toArray}=P at I3 hns₁ kept hco⊢;have old:∀b o,s2.heap.get? b=O o->P.get? b=O o:=λb o e=>hP ▸ Qm _ e;have fpo:∀b∈fp,∃o,s2.heap.get? b=O o:=λb hb=>let ⟨o,e,_⟩:=T.obj _ _ st2 b hb;⟨o,e⟩
 have fpD:∀b∈fp,b≠s2.heap.objs.size:=λb hb=>let ⟨o,e⟩:=fpo b hb;QY (Qk e)
 have f3:∀b∈fp,ZV X pins (upd H2 s2.heap.objs.size (.lst [])) b:=λb hb=>⟨by rw[KO (fpD b hb)];exact(f2 b hb).1,(f2 b hb).2⟩
 have I4:=I3.enter (scope:=scope) (cl:=cl) (N2:=N2) (k:=k) (fp:=fp) (t':=s2.toks) hb.b hb.kind hb.free hco hns₁ kept f3 (λb hb=>let ⟨o,e⟩:=fpo b hb;⟨o,old b o e⟩);dsimp only at I4;obtain⟨Gb,kb,sgb,gbD,ex⟩:=DH l k1 hfr k;have sH:Same H2 (upd H2 s2.heap.objs.size (.lst [])):=ZQ hfr;have hD3:upd H2 s2.heap.objs.size (.lst []) s2.heap.objs.size=O (.lst []):=Zq;generalize upd H2 s2.heap.objs.size (.lst [])=H3 at I3 I4 f3 kb sH hD3;generalize s2.heap.objs.size=D at *;have tn0:tn 0 h₁:=T.keep 0 _ _ st2 λb hb o e=>kept b o (old b o e)
 have stat:∀b∈fp,ZV (X.blk N2 scope cl P.objs.size {s2 with heap:=P} H3 fp) pins H3 b:=λb hb=>by
  obtain⟨z0,z1,z2,z3,z4,z5⟩:=f3 b hb;obtain⟨o,e⟩:=fpo b hb;refine⟨z0,QY (Qk (old b o e)),λz=>?_,.inl hb,λx c q=>(hco.old x c q).elim (z4 x c) λw=>JQ (Nat.lt_trans (Qk (old b o e)) w.1),z5⟩;rcases QL.mp (I3.stkSub b z)with q|q
  .exact z1 q
  .exact z2 q
 have neD:∀a o,H2 a=O o->a≠D:=λa o q z=>by subst z;rw[hfr]at q;cases q
 obtain⟨hg,ht,hcl'⟩:=zN cl P.objs.size {s2 with heap:=P} H3 fp;obtain⟨W,rule,body⟩:=hcl' D (.ref it)
 have loop:=Fx (Y:=X.blk N2 scope cl P.objs.size {s2 with heap:=P} H3 fp) (D':=D)  rfl hc rule hg ht body I4 T tn0 stat kb
  ⟨λi G H s1 s2 hi=>its.go i G H (sgb.trans s1) s2 hi,λi G H s1 s2 hi=>its.stop i G H (sgb.trans s1) s2 hi,λi G H x H' d s1 s2 e y=>its.yld i G H x H' d (sgb.trans s1) s2 e y⟩ hD3 gbD .nil zl λσ' H' G' vs' s4 L=>by
   obtain⟨m,hm,_⟩:=id L.inv.loc;have I7:Inv X pins σ H' s4:=I3.call' (ch:=fp) L.inv.os L.inv.base L.inv.hok L.inv.bare λb hb=>⟨(f3 b hb).2.2.2.1,(f3 b hb).2.1,(f3 b hb).2.2.2.2.1,(f3 b hb).2.2.2.2.2⟩
   obtain⟨Gf,eF,dF,rF⟩:=ex G' H' vs' esF hfl L.gg (λa o q=>L.hh a o (neD a o q) (sH a o q)) L.eok.gh (λa o q z=>L.np a o (neD a _ q) (sH a _ q) z) L.gd L.rp
   refine aY P.objs.size D vs' Gf H' s4 m I7 hm L.inv.free (JQ I3.lt) I3.sz (λx c e z=>by obtain⟨_,q⟩:=I3.cell x c e;exact absurd q.lt (by rw[z];exact Jt _)) (λp hp z=>by have:=Qk (I3.pin p hp).1;exact absurd this (by rw[z];exact Jt _))
    (k1.ext eF) (sg1.trans eF.g) ⟨k1.bh.free hfr,dF,L.hd,rF,λj es' q z=>?_,λj pt d v fp q s r=>k1.freshD eF.h hfr q s r⟩
   obtain⟨a',ws,h1',h2',h3',h4',h5'⟩:=k1.own j es' q;rw[z]at h1';cases h1';rw[hfr]at h4';cases h4'
 exact codeAny_compStart_list loop (T.self X.A 0 _ _ _ tn0 loop)
theorem Lz  {tg elt iter}{ifs}{gs}{scope}{pos}{N2}{k:Nat}{f}{s}{t}{rd:RdB}(hc:X.calm=zq)
  (hi:PI X tg iter (iD X.K B G0 f)) (zN:Z8 X N2 scope (.ListComp elt (⟨tg,iter,ifs,0⟩::gs) scope pos) tg ifs s t rd) (hb:SX X.env.scope scope X.N N2 k) (hs:∀x,UT iter X.env x=pure x:=by intro _;rfl) :
  PE X (.ListComp elt (⟨tg,iter,ifs,0⟩::gs) scope pos) (tL X.K B G0 (dCG l f k s t rd)):=by
 intro pins s0 σ H Q I ⟨G,ρ,k0,a⟩;cases z:dCG l f k s t rd ρ with
 |bad=>rw[z]at a;exact a.elim
 |ok es ρ1=>
 rw[z]at a;obtain⟨ds,ρF,zf,zl,hfl⟩:=NU z;refine Mc hc hi zN hb hs I k0 zf zl hfl λC D vs G' H' s4 m I7 hm hC hL hz hcl hp k' s' n=>?_
 exact⟨m,hm,λh' sb=>⟨.ref D,H',I7.turned   (λb o hb e=>(sb.2 b hb).trans e) hC hL (.inr hz) hcl hp,rfl,a D vs G' H' k' s' n⟩⟩
theorem sD_g{l:Bool}{y:Str}{j:Nat}{py:Pos}{spos:Pos}{tg elt iter:UA}{ifs:zy}{gs}{scope:Scope}{pos:Pos}{N2:List Str}{k:Nat}{f:M zw}{s}{t:M Bool}{rd:RdB}(hN:X.N.Nodup)(hj:X.N[j]?=O y)(hy:X.env.scope.names.lookup y=O .local)(hc:X.calm=zq)
  (hi:PI X tg iter (iD X.K B G0 f)) (zN:Z8 X N2 scope (.ListComp elt (⟨tg,iter,ifs,0⟩::gs) scope pos) tg ifs s t rd) (hb:SX X.env.scope scope X.N N2 k) (hs:∀x,UT iter X.env x=pure x:=by intro _;rfl)
  (hsw:swapsWith (.ListComp elt (⟨tg,iter,ifs,0⟩::gs) scope pos) (O (.Name y py)) spos.line X.env=pure zq:=by rfl) :
  PS X (.Assign [.Name y py] (.ListComp elt (⟨tg,iter,ifs,0⟩::gs) scope pos) spos) (tS X.K B G0 KX (ZC j (dCG l f k s t rd))):=by
 intro pins s0 σ H Dn I ⟨G,ρ,k0,a⟩;unfold ZC sB at a;cases z:dCG l f k s t rd ρ with
 |bad=>rw[z]at a;exact a.elim
 |ok es ρ1=>
 rw[z]at a;dsimp only at a;by_cases hl:j<ρ1.length
 .rw[Qr hl]at a
  obtain⟨ds,ρF,zf,zl,hfl⟩:=NU z;rw[exec_Assign_Name_used _ _ _ _ hsw];refine Qf (JE (Qf ?_));refine Qf (QG (Mc   hc hi zN hb hs I k0 zf zl hfl λC D vs G' H' s4 m I7 hm hC hL hz hcl hp k' s' n=>?_) (λ_ s' hq=>Qs (Qs hq)) λ_ _ e=>e);refine wpAny_assign_Name (M8 I7 hN hj (.inl hy) (v:=.ref D) zo (λs5 I8 ⟨ad,sb,hx⟩=>?_) (.inr hy))
  have hCa:C≠ad:=by
   rcases hx with e|e
   .rw[e];exact hL
   .exact Ne.symm (hcl y ad e)
  refine⟨m,hm.sameBut sb hCa,λh' aq=>⟨_,H',I8.turned (t':=s5.toks) (it:=C) (λb o hb e=>(aq.2 b hb).trans e) hC hL (.inr hz) hcl hp,?_⟩⟩;exact a _ G' H' (k'.setOwn n hl) s'
 .rw[QA hl]at a;exact a.elim
theorem Ly{K}{f f'}(h:∀ρ es ρ',f ρ=.ok es ρ'->f' ρ=.ok es ρ'){σ}{H}{Q}(q:tL K B G0 f σ H Q):tL K B G0 f' σ H Q:=by
 obtain⟨G,ρ,k,a⟩:=q;refine⟨G,ρ,k,?_⟩;cases z:f ρ with
 |bad=>simp_all
 |ok es ρ'=>rw[z]at a;rw[h ρ es ρ' z];exact a
theorem Hj{K}{f f'}{j}(h:∀ρ es ρ',f ρ=.ok es ρ'->f' ρ=.ok es ρ'){Dn}{σ}{H}(q:tS K B G0 KX (ZC j f) Dn σ H):tS K B G0 KX (ZC j f') Dn σ H:=by
 obtain⟨G,ρ,k,a⟩:=q;refine⟨G,ρ,k,?_⟩;unfold ZC sB at a⊢;cases z:f ρ with
 |bad=>rw[z]at a;exact a.elim
 |ok es ρ'=>rw[z]at a;rw[h ρ es ρ' z];exact a
end
theorem OB    : ∀{ds}{ρ:UZ}{es esF},K4 s t g ds ρ es=O esF->∃ρF,cT s t (rL g) ds ρ es=O (esF,ρF)
 |[],ρ,es,esF,h=>by cases h;exact⟨ρ,rfl⟩
 |d::r,ρ,es,esF,h=>by
  rw[K4]at h;rw[cT];cases zs:s d ρ with
  |none=>rw[zs]at h;cases h
  |some ρ1=>
  rw[zs]at h;dsimp only at h⊢;cases zt:t ρ1 with
  |bad=>rw[zt]at h;cases h
  |ok b ρ2=>
  rw[zt]at h;dsimp only at h⊢;cases b with
  |false=>exact OB  h
  |true=>
   rw[Qr zo]at h⊢;unfold rL;cases zg:g ρ2 with
   |bad=>rw[zg]at h;cases h
   |ok e ρ3=>
   rw[zg]at h;dsimp only at h⊢;split at h
   .rename_i hl
    rw[Qr hl];exact OB  h
   .cases h
theorem O0    : ∀{ds}{ρ}{es},YU s t g ds ρ es=cT s t (rL g) ds ρ es
 |[],ρ,es=>rfl
 |d::r,ρ,es=>by
  rw[YU,cT];cases s d ρ with
  |none=>rfl
  |some ρ1=>
  dsimp only;cases t ρ1 with
  |bad=>rfl
  |ok b ρ2=>
  dsimp only;cases b with
  |false=>exact O0
  |true=>
   rw[Qr zo,Qr zo];unfold rL;cases g ρ2 with
   |bad=>rfl
   |ok e ρ3=>
   dsimp only;split
   .exact O0
   .rfl
theorem OZ{s s1}{t t1}{f}{Rd}{rd}(hR:∀ds ρ es,Rd ds ρ es=cT s1 t1 rd ds ρ es) :
  ∀{ds}{ρ}{es},Xx s t f Rd ds ρ es=cT s t (rN f s1 t1 rd) ds ρ es
 |[],ρ,es=>rfl
 |d::r,ρ,es=>by
  rw[Xx,cT];cases s d ρ with
  |none=>rfl
  |some ρ1=>
  dsimp only;cases t ρ1 with
  |bad=>rfl
  |ok b ρ2=>
  dsimp only;cases b with
  |false=>exact OZ hR
  |true=>
   rw[Qr zo,Qr zo];unfold rN;cases f ρ2 with
   |bad=>rfl
   |ok ds ρ3=>
   dsimp only;rw[hR];cases cT s1 t1 rd ds _ es with
   |none=>rfl
   |some pr=>exact OZ hR
theorem ML  {t t1}{f}{g:M D}:∀{ds:zw}{ρ:UZ}{es esF:zw},WP s t f s1 t1 g ds ρ es=O esF->∃ρF,cT s t (rN f s1 t1 (rL g)) ds ρ es=O (esF,ρF)
 |[],ρ,es,esF,h=>by cases h;exact⟨ρ,rfl⟩
 |d::r,ρ,es,esF,h=>by
  rw[WP]at h;rw[cT];cases zs:s d ρ with
  |none=>rw[zs]at h;cases h
  |some ρ1=>
  rw[zs]at h;dsimp only at h⊢;cases zt:t ρ1 with
  |bad=>rw[zt]at h;cases h
  |ok b ρ2=>
  rw[zt]at h;dsimp only at h⊢;cases b with
  |false=>exact ML  h
  |true=>
   rw[Qr zo]at h⊢;unfold rN;cases zg:f ρ2 with
   |bad=>rw[zg]at h;cases h
   |ok ds ρ3=>
   rw[zg]at h;dsimp only at h⊢;rw[←O0];cases zl:YU s1 t1 g ds _ es with
   |none=>rw[zl]at h;cases h
   |some pr=>rw[zl]at h;exact ML  h
theorem Fw      (ρ)(es)(ρ')(h:Zd f k s t g ρ=.ok es ρ'):dCG zr f k s t (rL g) ρ=.ok es ρ':=by
 unfold Zd at h;unfold dCG;cases zf:f ρ with
 |bad=>simp_all
 |ok ds ρ1=>
 rw[zf]at h;dsimp only[Y0]at h⊢;cases zl:K4 s t g ds _ []with
 |none=>rw[zl]at h;cases h
 |some esF=>
 obtain⟨ρF,e⟩:=OB zl;simp_all
theorem vf      (ρ)(es)(ρ')(h:R5 f k s t g ρ=.ok es ρ'):dCG zq f k s t (rL g) ρ=.ok es ρ':=by
 unfold R5 at h;unfold dCG;cases zf:f ρ with
 |bad=>simp_all
 |ok ds ρ1=>
 rw[zf]at h;dsimp only[Y0]at h⊢;cases zl:K4 s t g ds _ []with
 |none=>rw[zl]at h;cases h
 |some esF=>
 rw[zl]at h;dsimp only at h;split at h
 .rename_i hf
  cases h;obtain⟨ρF,e⟩:=OB zl;rw[e];exact Qr λ_=>hf
 simp_all
theorem ve  {k}{s s1}{t t1}{g}(ρ)(es)(ρ')(h:R4 f k s t f1 s1 t1 g ρ=.ok es ρ'):dCG zr f k s t (rN f1 s1 t1 (rL g)) ρ=.ok es ρ':=by
 unfold R4 at h;unfold dCG;cases zf:f ρ with
 |bad=>simp_all
 |ok ds ρ1=>
 rw[zf]at h;dsimp only[Y0]at h⊢;cases zl:WP s t f1 s1 t1 g ds _ []with
 |none=>rw[zl]at h;cases h
 |some esF=>
 obtain⟨ρF,e⟩:=ML zl;simp_all
theorem vd  {k}{s s1 s2}{t t1 t2}{g}(ρ)(es)(ρ')(h:R3 f k s t f1 s1 t1 f2 s2 t2 g ρ=.ok es ρ'):dCG zr f k s t (rN f1 s1 t1 (rN f2 s2 t2 (rL g))) ρ=.ok es ρ':=by
 unfold R3 at h;unfold dCG;cases zf:f ρ with
 |bad=>simp_all
 |ok ds ρ1=>
 rw[zf]at h;dsimp only[Y0,TK]at h⊢;rw[OZ λ_ _ _=>OZ λ_ _ _=>O0]at h;cases zl:cT s t _ ds _ []with
 |none=>simp_all
 |some pr=>
 simp_all
noncomputable def WO(q:Option NameKind->Bool)(SC scope:Scope)(N1 N2:List Str)(k:Nat):Bool:=
 Pi scope.names N1 N2 k&&decide (scope.kind=.function)&&(scope.names.all λy=>decide (scope.names.lookup y.1=O y.2))&&scope.names.all λy=>match y.2 with
  |.free=>q (SC.names.lookup y.1)
  |_=>zq
noncomputable def VU:Option NameKind->Bool
 |some .cell=>zq|some .free=>zq|_=>zr
theorem EW  {SC SC' scope}{N1 N2}{k}(h:WO q SC scope N1 N2 k=zq)(f:∀x,q (SC.names.lookup x)=zq->SC'.names.lookup x=O .cell∨SC'.names.lookup x=O .free):SX SC' scope N1 N2 k:=by unfold WO at h;rw[Je,Je,Je,Jf,Jf]at h;obtain⟨⟨⟨h1,h2⟩,h0⟩,h3⟩:=h;refine⟨h1,Qa h2,λy hy=>Qa (h0 y hy),λy hy e=>?_⟩;have:=h3 y hy;rw[e]at this;exact f _ this
theorem NT    (h:WO VU SC scope N1 N2 k=zq):SX SC scope N1 N2 k:=EW h λx e=>by
 cases z:SC.names.lookup x with
 |none=>rw[z]at e;cases e
 |some y=>rw[z]at e;cases y<;>first|exact .inl rfl|exact .inr rfl|cases e
section
variable{X:Cx}{B G0:Hp}{KX:XW}
theorem DG  {tg elt iter}{ifs}{gs}{scope}{pos}{f}{s}{t}{rd}{F}(SC)(N1 N2)(k)(le:∀ρ es ρ',F ρ=.ok es ρ'->dCG l f k s t rd ρ=.ok es ρ')(hc:X.calm=zq)
  (hi:PI X tg iter (iD X.K B G0 f)) (zN:Z8 X N2 scope (.ListComp elt (⟨tg,iter,ifs,0⟩::gs) scope pos) tg ifs s t rd) (h1:X.env.scope=SC) (h2:X.N=N1) (hb:WO VU SC scope N1 N2 k=zq) (hs:∀x,UT iter X.env x=pure x:=by intro _;rfl) :
  PE X (.ListComp elt (⟨tg,iter,ifs,0⟩::gs) scope pos) (tL X.K B G0 F):=
 KF (Lz hc hi zN (by rw[h1,h2];exact NT hb) hs) λ_ _ _ q=>Ly le q
theorem sD_1   {j:Nat}{py:Pos}{spos:Pos}{tg elt iter:UA}{ifs}{gs}{scope}{pos:Pos}{f}{s}{t}{rd:RdB}{F}(SC:Scope)(N1 N2)(k:Nat)(le:∀ρ es ρ',F ρ=.ok es ρ'->dCG l f k s t rd ρ=.ok es ρ')(hN:X.N.Nodup)(hj:X.N[j]?=O y)(hy:X.env.scope.names.lookup y=O .local)(hc:X.calm=zq)
  (hi:PI X tg iter (iD X.K B G0 f)) (zN:Z8 X N2 scope (.ListComp elt (⟨tg,iter,ifs,0⟩::gs) scope pos) tg ifs s t rd) (h1:X.env.scope=SC) (h2:X.N=N1) (hb:WO VU SC scope N1 N2 k=zq) (hs:∀x,UT iter X.env x=pure x:=by intro _;rfl)
  (hsw:swapsWith (.ListComp elt (⟨tg,iter,ifs,0⟩::gs) scope pos) (O (.Name y py)) spos.line X.env=pure zq:=by rfl) :
  PS X (.Assign [.Name y py] (.ListComp elt (⟨tg,iter,ifs,0⟩::gs) scope pos) spos) (tS X.K B G0 KX (ZC j F)):=
 ZH (sD_g hN hj hy hc hi zN (by rw[h1,h2];exact NT hb) hs hsw) λ_ _ _ q=>Hj le q
theorem Bv   {cl}{C:Uy}{s₀}{H₀:Hp}{ex}{N2}{tg elt iter:UA}{ifs}{gs}{scope:Scope}{pos:Pos}{f}{s}{t}{rd:RdB}{F}(N3)(k:Nat)(le:∀ρ es ρ',F ρ=.ok es ρ'->dCG l f k s t rd ρ=.ok es ρ')(hc:X.calm=zq)
  (hi:PI (X.blk N2 scope0 cl C s₀ H₀ ex) tg iter (iD X.K B G0 f)) (zN:Z8 (X.blk N2 scope0 cl C s₀ H₀ ex) N3 scope (.ListComp elt (⟨tg,iter,ifs,0⟩::gs) scope pos) tg ifs s t rd) (hb:WO VU scope0 scope N2 N3 k=zq) (hs:∀x,UT iter (X.blk N2 scope0 cl C s₀ H₀ ex).env x=pure x:=by intro _;rfl) :
  PE (X.blk N2 scope0 cl C s₀ H₀ ex) (.ListComp elt (⟨tg,iter,ifs,0⟩::gs) scope pos) (tL X.K B G0 F):=by
 refine KF (Lz  hc hi zN (EW hb λx e=>?_) hs) λ_ _ _ q=>Ly le q
 cases z:scope0.names.lookup x with
 |none=>rw[z]at e;cases e
 |some y=>
  rw[z]at e;cases y with
  |free=>exact(Lf  z).symm
  |cell=>exact .inl (Ti (by decide) z)
  |_=>cases e
end
theorem jK   {s bq s2'}{t t1' t2'}{f1 f2}{g}{ρ ρ1 ρ2}{ds es}(h1:f ρ=.ok ds ρ1)(h2:Xx s t f1 (Xx bq t1' f2 (YU s2' t2' g)) ds (KE ρ1++UG k zp) []=O (es,ρ2)) :
  R3 f k s t f1 bq t1' f2 s2' t2' g ρ=.ok es ρ1:=by
 unfold R3;dsimp only[TK];simp_all
section
variable{X:Cx}{B G0:Hp}{e a b c tg:UA}{pos:Pos}{es rest:zy}
theorem EOk.given{K}{G H:Hp}{σ:St}{ρ:UZ}{a:Uy}{vs}{ds:zw}(k:EOk K B G0 G H σ ρ)(n:NewL K B G H σ ρ a vs ds):EOk K B G0 (upd G a (.lst vs)) H σ ρ where
 bh:=k.bh
 gh:=λb u q=>by
  by_cases z:b=a
  .subst z;rw[Zq]at q;cases q;exact n.h
  .rw[KO z]at q;exact k.gh b u q
 g0:=k.g0.trans (ZQ n.g)
 np:=λb o q z=>by
  have zb:b≠a:=λz=>by subst z;rw[n.b]at q;cases q
  rw[KO zb];exact k.np b o q z
 len:=k.len
 pub:=λi d q=>let ⟨v,h1,h2⟩:=k.pub i d q;⟨v,h1,h2.mono (ZQ n.g)⟩
 own:=λi ds q=>by
  obtain⟨b,ws,h1,h2,h3,h4,h5⟩:=k.own i ds q;have zb:b≠a:=λz=>by subst z;exact n.f i ds q h1
  exact⟨b,ws,h1,h2,by rw[KO zb];exact h3,h4,h5.mono (ZQ n.g)⟩
 sep:=k.sep
 dp:=k.dp.map (λ_ _ _ q=>⟨q,rfl⟩) (λ_ ds q=>⟨ds,q,rfl⟩) λi p d v fp q s r w nn=>⟨r.mono (ZQ n.g) (.refl _),λb m=>⟨(w b m).1,by rw[KO (λz=>n.dp i p d v fp q s r (by rw[←z];exact m))];exact(w b m).2⟩⟩
theorem qq  (h:PE X e (tL X.K B G0 f)):PE X e (tD X.K B G0 (Ka UH f)):=
 KF h λσ H Q ⟨G,ρ,k,a⟩=>by
  refine⟨G,ρ,k,?_⟩;unfold Ka Kq at a;cases z:f ρ with
  |bad=>rw[z]at a;exact a.elim
  |ok ds ρ1=>rw[z]at a;intro ad vs G' H' k' s' n;exact a _ _ H' (k'.given n) (s'.trans (ZQ n.g)) (.lst (SqL.of Zq) (n.r.mono (ZQ n.g)))
theorem jJ(hc:X.calm=zq):Xe X (.builtin "all") (λxs H Q=>∃l,∃bs:List Bool,xs=[.ref l]/\SqL X.K H l (bs.map V.bl)/\Q (.bl (bs.all id)) H):=by
 intro pins s σ H xs us Q I rx h;obtain⟨l,bs,rfl,hq,q⟩:=h;obtain⟨u,rfl,ru⟩:=rx.one;cases ru;obtain⟨its,rv,p,hz⟩:=I.list hq;have hl:=p.isList;have hlt:l<s.heap.objs.size:=by obtain⟨_,e,_⟩:=id hl;exact Qk e
 have key:∀(i:Nat) v,its.toArray[i]?=O v->∃t,bs[i]?=O t/\v=.bool t:=λi v e=>by
  have e   :=by simpa using e
  have hi:i<bs.length:=by
   have:=(Qg.mp e).1;have h2:=rv.length;rw[Qb]at h2
   lia
  obtain⟨u,e2,r2⟩:=rv.get (i:=i) (x:=.bl bs[i]) (by rw[Qd,Qe hi];rfl);rw[e]at e2;cases e2;exact⟨bs[i],Qe hi,r2⟩
 refine call_all_walk (wpAny_pyIter_list hl ?_)
 refine⟨s.heap.objs.size,[s.heap.objs.size,l],[s.heap.objs.size],its.toArray.size,_,_,λi=>(bs[i]?).getD zq,rfl,Walks.list (A:=X.A.in1) (I.ok.hd hc) _ l (QY hlt) its.toArray,
  ⟨⟨_,QE _ zo,rfl,rfl⟩,hl.push _⟩,λi v s' Q' E' hP hQ=>?_,λh' tk hk=>?_⟩
 .obtain⟨b,e,rfl⟩:=key i v hP
  simp only[e]at hQ;exact Q6 hQ
 .have hn:its.toArray.size=bs.length:=by have:=rv.length;rw[List.length_map]at this;simp;lia
  have e:((UF its.toArray.size).all λi=>(bs[i]?).getD zq)=bs.all id:=by
   rw[hn,Jv,Jf,Jf];constructor
   .intro h b hb
    obtain⟨i,hi,e⟩:=List.getElem_of_mem hb;have:=h i (Q3.mpr hi);simp only[Qe hi,Option.getD_some,e]at this;exact this
   .intro h i hi
    have hi':=Q3.mp hi;simp only[Qe hi',Option.getD_some];exact h _ (Jy hi')
  rw[e];exact⟨.bl (bs.all id),H,I.kept (t':=tk) λb x e=>hk b x (λhm=>by rw[QB.mp hm]at e;exact Jt _ (Qk e)) (Qm _ e),rfl,q⟩
noncomputable def Tf:zw->Option (List Bool)
 |[]=>O []
 |.bool b::r=>(Tf r).map (b :: ·)
 |_=>zp
theorem Db{K}{G}:∀{vs}{ds}{bs},Reps K G vs ds->Tf ds=O bs->vs=bs.map V.bl
 |_,_,bs,.nil,e=>by cases e;rfl
 |_,_,bs,.cons (d:=d) r t,e=>by
  cases d with
  |bool b=>
   unfold Tf at e;cases z:Tf _ with
   |none=>rw[z]at e;cases e
   |some cs=>rw[z]at e;cases e;rw[r.bl_inv,Db t z];rfl
  |_=>cases e
noncomputable def YG:zw->zx
 |[.list ds]=>(Tf ds).map λbs=>.bool (bs.all id)
 |_=>zp
theorem DF(hc:X.calm=zq):XF X (.builtin "all") YG:=by
 refine⟨_,jJ hc,λvs G H ds d Q s r e k=>?_⟩;unfold YG at e;split at e
 .rename_i ds
  cases z:Tf ds with
  |none=>simp_all
  |some bs=>rw[z]at e;cases e;obtain⟨v,rfl,q⟩:=r.one_inv;obtain⟨l,ws,rfl,h1,r1⟩:=q.lst_inv;have hw:=Db r1 z;subst hw;exact⟨l,bs,rfl,s.seq h1,k _ G H (.refl s) (.bl _)⟩
 simp_all
noncomputable def Its(x:Str):It:=⟨λi _=>i<x.cps.size,λi H v H'=>H'=H/\∃c,x.cps[i]?=O c/\v=.str ⟨#[c]⟩,λi _=>x.cps.size<=i⟩
theorem jI{P:Ux}{w:World}{K:Frag}{tg:UA}(x:Str)(t:Tok)(it:Uy):Turn P w K tg (Its x) [it] it (λi h=>h.IsStrIter it (strIterType x) x t i) where
 mem:=by simp
 obj:=λi h st b hb=>by
  have e:b=it:=by simpa using hb
  subst e;obtain⟨o,e,c,d⟩:=st;exact⟨o,e,λv z=>by rw[d]at z;cases z⟩
 keep:=λi h h' st k=>by obtain⟨o,e,c,d⟩:=st;exact⟨o,k it (by simp) o e,c,d⟩
 item:=by
  intro X hP hw hK hc i pins s σ H E I hf st hg;subst hP hw hK;obtain⟨f0,f1,f2,f3,f4,f5⟩:=hf it (by simp);have hx:x.cps[i]?=O x.cps[i]:=Array.getElem?_eq_getElem hg
  have fin:∀h' tk(T:String),strIterType x=T->h'.IsStrIter it T x t (i+1)->Heap.SameBut it s.heap h'->["enumerate", "zip", "dict_itemiterator", "dict_reverseitemiterator", "odict_iterator", "itertools.zip_longest", "itertools.pairwise"].contains T=zr ->
    ∃u,O (Value.str ⟨#[x.cps[i]]⟩ s.toks)=O u/\UC (model X.prog X.w) X.A (letOwnedTupleGo tg (.ref it) u) (λ_ s2=>∃v H',Inv X pins σ H' s2/\RelV v u/\(Its x).yld i H v H'/\s2.heap.IsStrIter it (strIterType x) x t (i+1)/\∀b∈[it],H' b=zp) E {s with heap:=h',toks:=tk}:=by
   intro h' tk T eT st' sb hn;have I1   :=I.turned (t':=tk) (λb o hb e=>(sb.2 b hb).trans e) f0 f1 f3 f4 f5;obtain⟨o,e,c,d⟩:=id st';refine⟨_,rfl,PQ  e c d hn ⟨.str ⟨#[x.cps[i]]⟩,H,I1,⟨_,rfl⟩,⟨rfl,_,hx,rfl⟩,by rw[eT];exact st',λb hb=>(hf b hb).1⟩⟩
  cases ha:x.cps.all (· < 128)with
  |true=>
   have eT:strIterType x = "str_ascii_iterator" :=by simp[strIterType,ha]
   rw[eT]at st;exact wpAny_pyNext_ascii_item st hx λh' st' sb=>fin h' _ _ eT st' sb (by decide)
  |false=>
   have eT:strIterType x = "str_iterator" :=by simp[strIterType,ha]
   rw[eT]at st;exact wpAny_pyNext_wide_item st hx λh' st' sb=>fin h' _ _ eT st' sb (by decide)
 done:=by
  intro X hP hw hK hc i pins s σ H E I hf st hg;subst hP hw hK;obtain⟨f0,f1,f2,f3,f4,f5⟩:=hf it (by simp);have hx:x.cps[i]?=zp:=Array.getElem?_eq_none hg;cases ha:x.cps.all (· < 128)with
  |true=>
   have eT:strIterType x = "str_ascii_iterator" :=by simp[strIterType,ha]
   rw[eT]at st;exact wpAny_pyNext_ascii_end (I.ok.hd hc) st hx λh' eb=>⟨rfl,I.turned (t':=s.toks) (λb o hb e=>eb b o hb e) f0 f1 f3 f4 f5⟩
  |false=>
   have eT:strIterType x = "str_iterator" :=by simp[strIterType,ha]
   rw[eT]at st;exact wpAny_pyNext_wide_end (I.ok.hd hc) st hx λh' eb=>⟨rfl,I.turned (t':=s.toks) (λb o hb e=>eb b o hb e) f0 f1 f3 f4 f5⟩
 self:=λA i s Q E st h=>by
  cases ha:x.cps.all (· < 128)with
  |true=>
   have eT:strIterType x = "str_ascii_iterator" :=by simp[strIterType,ha]
   rw[eT]at st;exact wpAny_pyIter_striter_ascii st h
  |false=>
   have eT:strIterType x = "str_iterator" :=by simp[strIterType,ha]
   rw[eT]at st;exact wpAny_pyIter_striter_wide st h
noncomputable def iAny(K:Frag)(tl:TE):TI:=λσ H R=>tl σ H λx H1=>(∃a,x=.ref a/\(∃xs,SqL K H1 a xs)/\R (Itl K a) H1)∨(∃a,x=.ref a/\(∃xs,SqT K H1 a xs)/\R (Itt K a) H1) ∨ ∃z,x=.str z/\R (Its z) H1
theorem BU{l:UA}{tl:TE}(hl:PE X l tl):PI X tg l (iAny X.K tl):=by
 intro pins s σ H R I h;refine thn (hl pins s σ H _ I h) λv s1 ⟨x,H1,I1,r1,q1⟩=>?_
 have fpOk:∀b∈[s1.heap.objs.size],ZV X pins H1 b:=λb hb=>by
  have e   :=by simpa using hb
  subst e;exact I1.fpOk (Qx _) (I1.hok.fresh (Qx _))
 rcases q1 with ⟨a,e,⟨xs,hq⟩,q⟩|⟨a,e,⟨xs,hq⟩,q⟩|⟨z,e,q⟩
 .subst e
  cases r1;obtain⟨its,rv,p,hz⟩:=I1.list hq;refine wpAny_pyIter_list p.isList ?_;exact⟨s1.heap.objs.size,[s1.heap.objs.size],_,_,H1,rfl,I1.kept (t':=s1.toks) λb o e=>Qm _ e,wE a _,⟨_,QE _ zo,rfl,rfl⟩,fpOk,q⟩
 .subst e
  cases r1;obtain⟨its,rv,p,hz⟩:=I1.tuple hq;refine wpAny_pyIter_tuple p ?_;exact⟨s1.heap.objs.size,[s1.heap.objs.size],_,_,H1,rfl,I1.kept (t':=s1.toks) λb o e=>Qm _ e,wW a _,⟨_,QE _ zo,rfl,rfl⟩,fpOk,q⟩
 .subst e
  obtain⟨t,rfl⟩:=r1;refine wpAny_pyIter_strU ?_;exact⟨s1.heap.objs.size,[s1.heap.objs.size],_,_,H1,rfl,I1.kept (t':=s1.toks) λb o e=>Qm _ e,jI z t _,⟨_,QE _ zo,rfl,rfl⟩,fpOk,q⟩
noncomputable def R1(z:Str):zw:=z.cps.toList.map λc=>.str ⟨#[c]⟩
noncomputable def NS:D->Option zw
 |.list ds=>O ds
 |.tuple ds=>O ds
 |.str z=>O (R1 z)
 |_=>zp
theorem yx{K}{G1}{ad}{vs}{ds}(h:SqT K G1 ad vs)(r:Reps K G1 vs ds):Wa K (Itt K ad) ds G1 where
 go:=λi G H s1 s2 hi=>by
  have hi':i<vs.length:=by rw[r.length];simp_all
  exact⟨vs,vs[i],Xr (s1.trans s2) h,Qe hi'⟩
 stop:=λi G H s1 s2 hi=>⟨vs,Xr (s1.trans s2) h,by rw[r.length];simp_all⟩
 yld:=λi G H x H' d s1 s2 e y=>by obtain⟨rfl,y⟩:=y;obtain⟨v,e1,r1⟩:=r.get e;have:=y vs (Xr (s1.trans s2) h);rw[e1]at this;cases this;exact⟨G,.refl s2,r1.mono s1⟩
theorem vc{K}{G1}{z}:Wa K (Its z) (R1 z) G1 where
 go:=λi G H s1 s2 hi=>by unfold R1 at hi;simpa[Its]using hi
 stop:=λi G H s1 s2 hi=>by unfold R1 at hi;simpa[Its]using hi
 yld:=λi G H x H' d s1 s2 e y=>by
  obtain⟨rfl,c,hc,rfl⟩:=y;unfold R1 at e;rw[Qd]at e;have:z.cps.toList[i]?=O c:=by simp_all
  rw[this]at e;cases e;exact⟨G,.refl s2,.str _⟩
noncomputable def K2(f:M D):M zw:=Kq f λx=>Ku (NS x)
theorem Nr  (h:PE X e (tD X.K B G0 f)):PI X tg e (iD X.K B G0 (K2 f)):=XQ (BU h) λσ H R q=>tM.toI  q λv H' G' ρ' x k r a=>by
 cases x with
 |list ds=>obtain⟨ad,vs,rfl,h1,r1⟩:=r.lst_inv;exact .inl ⟨ad,rfl,⟨vs,k.gh.seq h1⟩,a _ G' H' k (.refl _) (wP h1 r1)⟩
 |tuple ds=>obtain⟨ad,vs,rfl,h1,r1⟩:=r.tup_inv;exact .inr (.inl ⟨ad,rfl,⟨vs,Xr k.gh h1⟩,a _ G' H' k (.refl _) (yx h1 r1)⟩)
 |str z=>have:=r.str_inv;subst this;exact .inr (.inr ⟨z,rfl,a _ G' H' k (.refl _) vc⟩)
 |_=>exact a.elim
noncomputable def inS(i j:Str):Bool:=!(Builtin.Str.occurrences j i 0 j.length 1).isEmpty
noncomputable def oInS:D->D->zK
 |.str i,.str j=>O (inS i j)
 |_,_=>zp
noncomputable def LJ:D->D->zK
 |.str i,.str j=>O (!inS i j)
 |_,_=>zp
theorem DE:OpB X (UE .In) oInS:=⟨_,wA,λv u G H x y d Q s rx ry e k=>by
 unfold oInS at e;split at e
 .cases e
  have:=rx.str_inv;subst this;have:=ry.str_inv;subst this;exact⟨_,_,rfl,rfl,k⟩
 simp_all⟩
theorem BS:OpB X (UE .NotIn) LJ:=⟨_,yN,λv u G H x y d Q s rx ry e k=>by
 unfold LJ at e;split at e
 .cases e
  have:=rx.str_inv;subst this;have:=ry.str_inv;subst this;exact⟨_,_,rfl,rfl,k⟩
 simp_all⟩
theorem DD   (hg:Gl X x)(hm:∃t,X.mg x=O (.int i t))(hd:(x==("__debug__" : Str))=zr:=by decide):PE X (.Name x pos) (tD X.K B G0 (U2 (.int i))):=by obtain⟨t,hm⟩:=hm;exact KF (GF (v:=.int i) hg hm ⟨t,rfl⟩ hd) λσ H Q ⟨G,ρ,k,a⟩=>aft.now a k (.int _)
end
section
variable{X:Cx}{B G0:Hp}{KX:XW}{e o a b c tg i:UA}{pos p2:Pos}{es rest:zy}{te to ti:TE}
noncomputable def BR(te to ti:TE):TS:=λD σ H=>te σ H λv H1=>to σ H1 λx H2=>ti σ H2 λk H3=>∃l xs n,x=.ref l/\H3 l=O (.lst xs)/\k=.int n/\0<=n/\n<xs.length/\D.nx σ (upd H3 l (.lst (xs.set n.toNat v)))
theorem jH(he:PE X e te)(ho:PE X o to)(hi:PE X i ti)(hs:swapsWith e (O (.Subscript o i p2)) pos.line X.env=pure zr:=by rfl):PS X (.Assign [.Subscript o i p2] e pos) (BR te to ti):=by
 intro pins s σ H D I h;refine wpAny_Assign_Subscript (thn (he pins s σ H _ I h) λv s1 ⟨x,H1,I1,r1,q1⟩=>thn (ho pins s1 σ H1 _ I1 q1) λov s2 ⟨y,H2,I2,r2,q2⟩=>thn (hi pins s2 σ H2 _ I2 q2) λiv s3 ⟨k,H3,I3,r3,q3⟩=>?_) hs;obtain⟨l,xs,n,rfl,hl,rfl,h0,h1,q⟩:=q3;cases r2;obtain⟨t,rfl⟩:=r3;obtain⟨z,its,m,r,hlen,ee⟩:=I3.lstM hl
 refine PySem.W.ki_setAt (items:=its.toArray) (n:=m) ee h0 (by
                                  have:UB<2 ^ 63:=by decide
                                  lia) (by simp;lia) ?_
 refine⟨σ,_,I3.lset     hl ee (by simp) (r.set r1 n.toNat) (by rw[List.length_set];exact z),q⟩
noncomputable def Tn(j:Nat)(g f:M D):SM:=sB f λd ρ1=>match ρ1[j]? with
 |some (O (.own _))=>sB g (λy ρ2=>match y with
  |.int k=>(match ρ2[j]? with
   |some (O (.own ds))=>if 0<=k/\k<ds.length then .nx (ρ2.set j (O (.own (ds.set k.toNat d))))else .bad
   |_=>.bad)
  |_=>.bad) ρ1
 |_=>.bad
theorem Gp  {f g:M D}(he:PE X e (tD X.K B G0 f))(ho:PE X o (Zk j))(hi:PE X i (tD X.K B G0 g))(hs:swapsWith e (O (.Subscript o i p2)) pos.line X.env=pure zr:=by rfl) :
  PS X (.Assign [.Subscript o i p2] e pos) (tS X.K B G0 KX (Tn j g f)):=
 ZH (jH he ho hi hs) λD σ H q=>tS.bnd  q λv H1 G1 ρ1 d k r a=>by
  cases q0:ρ1[j]? with
  |none=>rw[q0]at a;exact a.elim
  |some o0=>
   cases o0 with
   |none=>rw[q0]at a;exact a.elim
   |some sl0=>
    cases sl0 with
    |deep _ _=>rw[q0]at a;exact a.elim
    |pub d=>rw[q0]at a;exact a.elim
    |own a9=>
     rw[q0]at a;obtain⟨ad,vs0,h1,h2,h3,h4,h5⟩:=k.own j a9 q0;refine⟨.ref ad,h1,G1,ρ1,k,?_⟩;dsimp only at a;unfold sB at a;cases z:g ρ1 with
     |bad=>rw[z]at a;exact a.elim
     |ok y ρ2=>
      rw[z]at a;dsimp only at a;intro kv G' H' k' s' r';cases y with
      |int n=>
       cases q:ρ2[j]? with
       |none=>rw[q]at a;exact a.elim
       |some oo=>
        cases oo with
        |none=>rw[q]at a;exact a.elim
        |some sl=>
         cases sl with
         |deep _ _=>rw[q]at a;exact a.elim
         |pub d=>rw[q]at a;exact a.elim
         |own ds=>
          rw[q]at a;dsimp only at a;split at a
          .rename_i hn
           obtain⟨ad',vs,g1,g2,g3,g4,g5⟩:=k'.own j ds q;rw[h1]at g1;cases g1;refine⟨ad,vs,n,rfl,g4,r'.int_inv,hn.1,by rw[g5.length];exact hn.2,?_⟩;exact a σ G' _ (k'.change q h1 (g5.set (r.mono s') n.toNat)) s'
          .exact a.elim
      |_=>exact a.elim
noncomputable def XT(z:Str)(lo hi:zC):Str:=if(Builtin.Str.strSliceIndices lo hi 1 z.length).length=z.length then z else⟨((Builtin.Str.strSliceIndices lo hi 1 z.length).filterMap (z.cps[·]?)).toArray⟩
theorem BQ:SlR X (λx lo hi H Q=>∃z,x=.str z/\(XT z lo hi).length<=UB/\Q (.str (XT z lo hi)) H):=by
 intro pins s σ H x v vl vu lo hi sl Q I rx hs pl pu h;obtain⟨z,rfl,hz,q⟩:=h;obtain⟨t,rfl⟩:=rx;refine⟨"str", _,F.slot_str_getitem.lookup,typeIs_str s z t,?_⟩
 obtain⟨l,el,e1⟩:∃l:Option (Int×Tok),vl=partValue l/\l.map (·.1)=lo:=by
  cases pl with
  |none=>exact⟨zp,rfl,rfl⟩
  |int k t'=>exact⟨O (k,t'),rfl,rfl⟩
 obtain⟨u,eu,e2⟩:∃u:Option _,vu=partValue u/\u.map (·.1)=hi:=by
  cases pu with
  |none=>exact⟨zp,rfl,rfl⟩
  |int k t'=>exact⟨O (k,t'),rfl,rfl⟩
 subst el eu;refine wpAny_getItem_str_slice (l:=l) (u:=u) (st:=zp) hs zo ?_;unfold sliceMade slicePicked;rw[e1,e2];unfold XT at hz q;by_cases hw:(Builtin.Str.strSliceIndices lo hi 1 z.length).length=z.length
 .rw[Qr hw]at hz q
  rw[if_pos (by simp[hw])];exact⟨.str z,H,I,⟨t,rfl⟩,q⟩
 .rw[QA hw]at hz q
  rw[if_neg (by simp[hw])];exact⟨hz,.str _,H,I.tok _,⟨_,rfl⟩,q⟩
end
section
variable{X:Cx}{B G0:Hp}{KX:XW}{e o a b c tg i:UA}{pos p2:Pos}{es rest:zy}{te to ti:TE}
theorem pvb(i){x}{pos}{N'}{scope}{cl}{C}{s₀}{H₀}{ex}(hN:N'[i]?=O x:=by rfl)
  (h:visK (scope.names.lookup x)=zq:=by rfl) (hd:(x==("__debug__" : Str))=zr:=by decide) (hcd:(x==("__classdict__" : Str))=zr:=by decide) :
  PE (X.blk N' scope cl C s₀ H₀ ex) (.Name x pos) (Zk i):=L4 hN (qu h) hd hcd
noncomputable def YY:D->zC->zC->zx
 |.list xs,lo,hi=>O (.list (DL.cutD xs lo hi))
 |.str z,lo,hi=>if(XT z lo hi).length<=1000000 then O (.str (XT z lo hi))else zp
 |_,_,_=>zp
noncomputable def Xn(f:M D)(lo hi:M zC):M D:=Kq f λx=>Kq lo λl=>Kq hi λh=>Ku (YY x l h)
theorem wM{lo hi:Option UA}{f:M D}{l h}(he:PE X e (tD X.K B G0 f))(hl:PO X lo (tOi X.K B G0 l))(hu:PO X hi (tOi X.K B G0 h)) :
  PE X (.Subscript e (.Slice lo hi zp p2) pos) (tD X.K B G0 (Xn f l h)):=
 KF (xC (jo.or BQ) he hl hu) λσ H Q q=>by
  refine tM.one (R:=Rep X.K) q λv H2 G ρ x k r a=>?_;refine tM.nx  k a λl' H3 G3 ρ3 xl k3 s3 r3 a3=>?_;refine tM.nx  k3 a3 λh' H4 G4 ρ4 xh k4 s4 r4 a4=>?_;subst r3 r4;unfold Ku YY at a4
  cases x with
  |list xs=>obtain⟨ad,vs,rfl,h1,r1⟩:=((r.mono s3).mono s4).lst_inv;exact .inl ⟨ad,vs,rfl,k4.gh.seq h1,λp hp=>aft.done a4 k4 (Ext.new k4.gh hp) (.lst (SqL.of Zq) ((r1.cut l' h').mono (ZQ (k4.gh.free hp))))⟩
  |str z=>
   dsimp only at a4;have:=r.str_inv;subst this;by_cases hc:(XT z l' h').length<=1000000
   .rw[Qr hc]at a4
    exact .inr ⟨z,rfl,QM hc lim,aft.now a4 k4 (.str _)⟩
   .rw[QA hc]at a4;exact a4.elim
  |_=>exact a4.elim
end
section
variable{X:Cx}{B G0:Hp}{e o a b c tg:UA}{pos p2:Pos}{es rest:zy}{te to ti:TE}
noncomputable def ZF{β:Type}(p:D->D->Option β)(i:Nat)(g:M D):M β:=λρ=>match ρ[i]? with
 |some (O (.pub d))=>(Kq g λy=>Ku (p d y)) ρ
 |some (O (.own _))=>(Kq g λy=>λρ'=>match ρ'[i]? with|some (O (.own ds))=>Ku (p (.list ds) y) ρ'|_=>.bad) ρ
 |_=>.bad
theorem LI{K}{σ:St}{H:Hp}{p}{r:R2}{i:Nat}{g:M D}{Q}{QV:VK}(hq:∀t H3,Q t H3->QV (.bl t) H3)(hr:∀v u G H x y d Q,Same G H->Rep K G v x->Rep K G u y->p x y=O d->Q (.bl d) H->r v u H Q)
  (q:tBo K B G0 (ZF p i g) σ H Q):Zk i σ H λx H1=>tD K B G0 g σ H1 λy H2=>r x y H2 QV:=by
 obtain⟨G,ρ,k,a⟩:=q;unfold ZF at a;cases q:ρ[i]? with
 |none=>rw[q]at a;exact a.elim
 |some o=>
  cases o with
  |none=>rw[q]at a;exact a.elim
  |some sl=>
   cases sl with
   |deep _ _=>rw[q]at a;exact a.elim
   |pub d=>
    rw[q]at a;obtain⟨v,h1,h2⟩:=k.pub i d q;refine⟨v,h1,G,ρ,k,?_⟩;dsimp only[Kq]at a;cases z:g ρ with
    |bad=>rw[z]at a;exact a.elim
    |ok y ρ1=>rw[z]at a;intro u G' H' k' s' r';obtain⟨d',e',a'⟩:=aft.opt a;exact hr v u G' H' d y d' _ k'.gh (h2.mono s') r' e' (hq _ _ (a' d' G' H' k' s' zo))
   |own ds=>
    rw[q]at a;obtain⟨ad,vs,h1,h2,h3,h4,h5⟩:=k.own i ds q;refine⟨.ref ad,h1,G,ρ,k,?_⟩;dsimp only[Kq]at a;cases z:g ρ with
    |bad=>rw[z]at a;exact a.elim
    |ok y ρ1=>
     rw[z]at a;dsimp only at a;intro u G' H' k' s' r';cases q1:ρ1[i]? with
     |none=>rw[q1]at a;exact a.elim
     |some oo=>
      cases oo with
      |none=>rw[q1]at a;exact a.elim
      |some sl1=>
       cases sl1 with
       |deep _ _=>rw[q1]at a;exact a.elim
       |pub d1=>rw[q1]at a;exact a.elim
       |own ds1=>
        rw[q1]at a;obtain⟨ad',ws,g1,g2,g3,g4,g5⟩:=k'.own i ds1 q1;rw[h1]at g1;cases g1;obtain⟨d',e',a'⟩:=aft.opt a;have sg:Same G' (upd G' ad (.lst ws)):=ZQ g3
        have sh:Same (upd G' ad (.lst ws)) H':=λb o q=>by
         by_cases z:b=ad
         .subst z;rw[Zq]at q;cases q;exact g4
         .rw[KO z]at q;exact k'.gh b o q
        exact hr (.ref ad) u _ H' (.list ds1) y d' _ sh (.lst (SqL.of Zq) (g5.mono sg)) (r'.mono sg) e' (hq _ _ (a' d' G' H' k' s' zo))
theorem qp     (o:OpB X (UE op) p)(ha:PE X a (Zk i))(hb:PE X b (tD X.K B G0 g))(hm:behindInMarks op b=zr) :
  PT X (.Compare a [op] [b] pos) (tBo X.K B G0 (ZF p i g)):=by
 obtain⟨r,h,j⟩:=o;exact Yk (N0 h ha hb hm) λσ H Q q=>LI (λt H3 z=>⟨t,rfl,z⟩) j q
theorem qo     (o:OpB X (UE op) p)(ha:PE X a (Zk i))(hb:PE X b (tD X.K B G0 g))(hm:behindInMarks op b=zr) :
  PE X (.Compare a [op] [b] pos) (tD X.K B G0 (Ka UI (ZF p i g))):=by
 obtain⟨r,h,j⟩:=o;exact KF (GD h ha hb hm) λσ H Q q=>LI (λt H3 z=>z) j (tBo.val q)
end
end DL
namespace L2
open PySem PySem.Spec PyProof.Rows
noncomputable def Itz(K:Frag)(a b:Uy):It:=
 ⟨λi H=>∃xs x ys y,SqL K H a xs/\xs[i]?=O x/\SqL K H b ys/\ys[i]?=O y,
  λi H v H'=>∃p x y,H p=zp/\v=.ref p/\(∀xs,SqL K H a xs->xs[i]?=O x)/\(∀ys,SqL K H b ys->ys[i]?=O y)/\H'=upd H p (.tup [x,y]),
  λi H=>∃xs ys,SqL K H a xs/\SqL K H b ys/\(xs.length<=i∨ys.length<=i)⟩
theorem jG{P:Ux}{w:World}{K:Frag}{elts:zy}{x1}{tp:Pos}(a b z TI TO i1 i2:Uy)(Dz:ZipApart z TI TO i1 i2 a b) :
  Turn P w K (.Tuple elts x1 tp) (Itz K a b) [z,TI,TO,i1,i2] z (λi h=>IsZip h z TI TO .none/\IsPair h TI (.ref i1) (.ref i2)/\(∃c d,IsPair h TO c d)/\h.IsListIter i1 a i/\h.IsListIter i2 b i) where
 mem:=by simp
 obj:=λi h st c hc=>by
  obtain⟨h1,h2,⟨c0,d0,h3⟩,⟨o4,h4,_,d4⟩,⟨o5,h5,_,d5⟩⟩:=st;have hc':c=z∨c=TI∨c=TO∨c=i1∨c=i2:=by simpa using hc
  rcases hc' with rfl|rfl|rfl|rfl|rfl
  .exact⟨_,h1,λv q=>by have q':Data.fields _=Data.cell v:=q;cases q'⟩
  .exact⟨_,h2,λv q=>by have q':Data.seq _ _=Data.cell v:=q;cases q'⟩
  .exact⟨_,h3,λv q=>by have q':Data.seq _ _=Data.cell v:=q;cases q'⟩
  .exact⟨o4,h4,λv q=>by rw[d4]at q;cases q⟩
  .exact⟨o5,h5,λv q=>by rw[d5]at q;cases q⟩
 keep:=λi h h' st k=>by obtain⟨h1,h2,⟨c0,d0,h3⟩,h4,h5⟩:=st;exact⟨k z (by simp) _ h1,k TI (by simp) _ h2,⟨c0,d0,k TO (by simp) _ h3⟩,h4.at λo q=>k i1 (by simp) o q,h5.at λo q=>k i2 (by simp) o q⟩
 item:=by
  intro X hP hw hK hc i pins s σ H E I hf st hg;subst hP hw hK;obtain⟨h1,h2,⟨c0,d0,h3⟩,h4,h5⟩:=st;obtain⟨xs,x,ys,y,hq,hx,z8,hy⟩:=hg;obtain⟨its,rv,p,hz⟩:=I.list hq;obtain⟨its',rv',p',hz'⟩:=I.list z8;obtain⟨u,hu,ru⟩:=rv.get hx;obtain⟨u',hu',ru'⟩:=rv'.get hy;refine wpAny_pyNext_zip_item Dz h1 h2 h3 h4 h5 p.isList p'.isList (x:=u) (y:=u') (by simpa using hu) (by simpa using hu') λh' g1 g3 g4 g5 gp gs gk=>?_
  refine⟨_,rfl,wpAny_letOwnedTupleGo_zip g1 λh2' gz sb=>?_⟩;have hzl:z<s.heap.objs.size:=Qk h1;have aq:Heap.SameBut z h' h2':=sb;have gp2   :=(aq.2 _ (JQ hzl)).trans gp
  have kk:∀c o,c∉[z,TI,TO,i1,i2]->s.heap.get? c=O o->h2'.get? c=O o:=λc o hc q=>by
   have n1:c≠z:=λe=>hc (by simp[e])
   have n3:c≠TO:=λe=>hc (by simp[e])
   have n4:c≠i1:=λe=>hc (by simp[e])
   have n5:c≠i2:=λe=>hc (by simp[e])
   exact(aq.2 c n1).trans (gk c o n1 n3 n4 n5 q)
  have hn:H s.heap.objs.size=zp:=I.hok.fresh (Qx _)
  have I2:Inv X pins σ (upd H s.heap.objs.size (.tup [x,y])) {s with heap:=h2'}:=
   I.turnedNew (t':=s.toks) (fp:=[z,TI,TO,i1,i2]) hf kk (Qx _) ⟨by show 2<=UB;decide,[u,u'],.cons ru (.cons ru' .nil),⟨_,gp2,rfl,_,rfl⟩⟩
  have gTI:IsPair h' TI (.ref i1) (.ref i2):=gk TI _ Dz.TIz Dz.TITO Dz.TIi1 Dz.TIi2 h2
  refine⟨.ref s.heap.objs.size,_,I2,rfl,⟨_,x,y,hn,rfl,λws hw=>by rw[I.list_inj hw hq];exact hx,λws hw=>by rw[I.list_inj hw z8];exact hy,rfl⟩,
   ⟨gz,(aq.2 _ Dz.TIz).trans gTI,⟨u,u',(aq.2 _ Dz.TOz).trans g3⟩,g4.at λo q=>(aq.2 _ Dz.i1z).trans q,g5.at λo q=>(aq.2 _ Dz.i2z).trans q⟩,λc hc=>?_⟩
  have hlt:c<s.heap.objs.size:=by
   have hc':c=z∨c=TI∨c=TO∨c=i1∨c=i2:=by simpa using hc
   rcases hc' with rfl|rfl|rfl|rfl|rfl
   .exact hzl
   .exact Qk h2
   .exact Qk h3
   .obtain⟨o,ho,_⟩:=h4;exact Qk ho
   .obtain⟨o,ho,_⟩:=h5;exact Qk ho
  rw[KO (QY hlt)];exact(hf c hc).1
 done:=by
  intro X hP hw hK hc i pins s σ H E I hf st hg;subst hP hw hK;obtain⟨h1,h2,⟨c0,d0,h3⟩,h4,h5⟩:=st;obtain⟨xs,ys,hq,z8,hx⟩:=hg;obtain⟨its,rv,p,hz⟩:=I.list hq;obtain⟨its',rv',p',hz'⟩:=I.list z8;have hl:=rv.length;have hl':=rv'.length;refine wpAny_pyNext_zip_end (I.ok.hd hc) Dz h1 h2 h3 h4 h5 p.isList p'.isList ?_ λh' eb=>⟨rfl,I.turnedL (t':=s.toks) hf λc o hb q=>eb c o (λe=>hb (by simp[e])) (λe=>hb (by simp[e])) (λe=>hb (by simp[e])) (λe=>hb (by simp[e])) q⟩
  rcases hx with hx|hx
  .exact .inl (by simp;lia)
  .exact .inr (by simp;lia)
 self:=λ_ _ _ _ _ st h=>wpAny_pyIter_zip st.1 h
section
variable{X:Cx}
noncomputable def iZip(K:Frag)(ta:TA):TI:=λσ H R=>ta σ H λvs H1=>∃a b xs ys,vs=[.ref a,.ref b]/\SqL K H1 a xs/\SqL K H1 b ys/\R (Itz K a b) H1
theorem BP{a b:UA}{ta:TA}{p pos:Pos}{elts:zy}{x1}{tp:Pos}(hg:Gl X "zip")(hm:X.mg "zip" = zp)(ha:PA X [a,b] ta)
  (hs:UD [a,b] X.env=[(zr,eval a X.env),(zr,eval b X.env)]:=by rfl) (hs2:UD [b] X.env=[(zr,eval b X.env)]:=by rfl):PI X (.Tuple elts x1 tp) (.Call (.Name "zip" p) [a,b] [] pos) (iZip X.K ta):=by
 intro pins s σ H R I h;refine Call_ (WV I hg hm boot_zip (JR (thn (ha pos pins s σ H _ I h) λus s1 ⟨vs,H1,I1,r1,q1⟩=>?_) (by rw[hs,hs2]) (by rw[hs2];rfl)));obtain⟨l1,l2,xs,ys,e,hq,z8,q⟩:=q1;subst e;cases r1 with
 |cons r rr=>
  cases rr with
  |cons r' rr=>
   cases rr;cases (r);cases (r');obtain⟨its,rv,pl,hz⟩:=I1.list hq;obtain⟨its',rv',pl',hz'⟩:=I1.list z8;have n1:l1<s1.heap.objs.size:=by obtain⟨_,e,_⟩:=id pl.isList;exact Qk e
   have n2:l2<s1.heap.objs.size:=by obtain⟨_,e,_⟩:=id pl'.isList;exact Qk e
   have ne:∀i j:Nat,i≠j->s1.heap.objs.size+i≠s1.heap.objs.size+j:=λi j h e=>h (Nat.add_left_cancel e);have m1:∀m:Nat,l1≠s1.heap.objs.size+m:=λm=>QY (QF n1 (Uj _ _));have m2:∀m:Nat,l2≠s1.heap.objs.size+m:=λm=>QY (QF n2 (Uj _ _));refine call_zip_2 pl.isList pl'.isList λh' g1 g2 g3 g4 g5 gs kk=>?_;have I2   :=I1.kept (t':=s1.toks) kk;refine wpAny_pyIter_zip g1 ?_
   refine⟨s1.heap.objs.size+4,[s1.heap.objs.size+4,s1.heap.objs.size+2,s1.heap.objs.size+3,s1.heap.objs.size,s1.heap.objs.size+1],_,_,H1,rfl,I2,
    jG l1 l2 (s1.heap.objs.size+4) (s1.heap.objs.size+2) (s1.heap.objs.size+3) s1.heap.objs.size (s1.heap.objs.size+1) ⟨ne 2 4 (by decide),ne 3 4 (by decide),ne 0 4 (by decide),ne 1 4 (by decide),ne 2 3 (by decide),ne 2 0 (by decide),ne 2 1 (by decide),ne 3 0 (by decide),ne 3 1 (by decide),ne 0 1 (by decide),m1 4,m1 3,m1 0,m1 1,m2 4,m2 3,m2 0,m2 1⟩,⟨g1,g2,⟨_,_,g3⟩,g4,g5⟩,λc hc=>?_,q⟩
   have hc':s1.heap.objs.size<=c:=by
    have hc'   :=by simpa using hc
    rcases hc' with rfl|rfl|rfl|rfl|rfl<;>first|exact Uj _ _|exact Qx _
   exact I1.fpOk hc' (I1.hok.fresh hc')
end
end L2
namespace DL
open PySem PySem.Spec L2
open PyProof.Rows hiding St
section
variable{X:Cx}{B G0:Hp}{e a b c tg:UA}{pos:Pos}{es rest:zy}
noncomputable def YB(xs ys:zw):zw:=(xs.zip ys).map λp=>.tuple [p.1,p.2]
theorem vS{K}{G1:Hp}{a b:Uy}{vs ws:List V}{ds es:zw}(h:SqL K G1 a vs)(h':SqL K G1 b ws)(r:Reps K G1 vs ds)(r':Reps K G1 ws es):Wa K (Itz K a b) (YB ds es) G1 where
 go:=λi G H s1 s2 hi=>by
  unfold YB at hi;rw[Qb,JP]at hi;have hi1:i<vs.length:=by rw[r.length];lia
  have hi2:i<ws.length:=by rw[r'.length];lia
  exact⟨vs,vs[i],ws,ws[i],(s1.trans s2).seq h,Qe hi1,(s1.trans s2).seq h',Qe hi2⟩
 stop:=λi G H s1 s2 hi=>by
  unfold YB at hi;rw[Qb,JP]at hi;refine⟨vs,ws,(s1.trans s2).seq h,(s1.trans s2).seq h',?_⟩;rw[r.length,r'.length]
  lia
 yld:=λi G H x H' d s1 s2 e y=>by
  obtain⟨p,u,v,hp,rfl,y1,y2,rfl⟩:=y;have z1:=y1 vs ((s1.trans s2).seq h);have z2:=y2 ws ((s1.trans s2).seq h');unfold YB at e;rw[Qd]at e;cases q:(ds.zip es)[i]? with
  |none=>rw[q]at e;cases e
  |some pr=>rw[q]at e;cases e;rw[JX]at q;obtain⟨u',e1,r1⟩:=r.get q.1;obtain⟨v',e2,r2⟩:=r'.get q.2;rw[z1]at e1;rw[z2]at e2;cases e1;cases e2;exact⟨upd G p _,Ext.new s2 hp,.tup (SqT.of Zq) (.cons ((r1.mono s1).mono (ZQ (s2.free hp))) (.cons ((r2.mono s1).mono (ZQ (s2.free hp))) .nil))⟩
noncomputable def Wu:zw->Option zw
 |[.list xs,.list ys]=>O (YB xs ys)
 |_=>zp
theorem jF  (h:Wu x=O l):∃xs ys,x=[.list xs,.list ys]/\l=YB xs ys:=by
 unfold Wu at h;split at h
 .cases h;exact⟨_,_,rfl,rfl⟩
 simp_all
noncomputable def SH(f:M zw):M zw:=Kq f λx=>Ku (Wu x)
theorem BO  {p2}{elts}{x1}{tp}(hg:Gl X "zip")(hm:X.mg "zip" = zp)(ha:PA X [a,b] (tDs X.K B G0 f))(hs:UD [a,b] X.env=[(zr,eval a X.env),(zr,eval b X.env)]:=by rfl)(hs2:UD [b] X.env=[(zr,eval b X.env)]:=by rfl) :
  PI X (.Tuple elts x1 tp) (.Call (.Name "zip" p2) [a,b] [] pos) (iD X.K B G0 (SH f)):=XQ (BP hg hm ha hs hs2) λσ H R q=>tM.toI  q λv H' G' ρ' x k r a=>by
 cases z:Wu x with
 |none=>rw[z]at a;exact a.elim
 |some l=>
  obtain⟨xs,ys,rfl,rfl⟩:=jF z;cases r with
  |cons r1 rr=>
   cases rr with
   |cons r2 rr=>cases rr;obtain⟨l1,vs,rfl,h1,q1⟩:=r1.lst_inv;obtain⟨l2,ws,rfl,h2,q2⟩:=r2.lst_inv;exact⟨l1,l2,vs,ws,rfl,k.gh.seq h1,k.gh.seq h2,a _ G' H' k (.refl _) (vS h1 h2 q1 q2)⟩
end
section
variable{X:Cx}{B G0:Hp}{e o a b c tg:UA}{pos p2 p3:Pos}{es rest:zy}{te to ti:TE}
noncomputable def oIn:D->D->zK
 |.str i,.str j=>O (inS i j)
 |x,.list xs=>if x.canLay0=zq/\UL xs=zq/\x.depth<=60 then O (xs.any λy=>UN y x)else zp
 |x,.tuple xs=>if x.canLay0=zq/\UL xs=zq/\x.depth<=60 then O (xs.any λy=>UN y x)else zp
 |_,_=>zp
noncomputable def Xk(x y:D):zK:=(oIn x y).map λt=>!t
noncomputable def XS(x y:D):zK:=match y with
 |.list xs=>if x.canLay0=zq/\UL xs=zq/\x.depth<=60 then O (xs.any λy=>UN y x)else zp
 |.tuple xs=>if x.canLay0=zq/\UL xs=zq/\x.depth<=60 then O (xs.any λy=>UN y x)else zp
 |_=>zp
theorem DC(hu:X.A.units+64<cLine):OpB X (UE .In) XS:=by
 refine⟨λv u H Q=>∃G x y d,Same G H/\Rep X.K G v x/\Rep X.K G u y/\XS x y=O d/\Q _ H,?_,λv u G H x y d Q s rx ry e k=>⟨G,x,y,d,s,rx,ry,e,k⟩⟩;intro pins s σ H x y v u Q I rx ry ⟨G,dx,dy,d,sg,px,py,e,q⟩;unfold XS at e;split at e
 .split at e
  .rename_i c
   cases e;obtain⟨as,ra⟩:=Xg I sg px rx c.1;obtain⟨bs,rb⟩:=Xg I sg py ry (c.2.1);exact SeqAt.in_list_reads rb ra c.2.1 c.1 (by have:=c.2.2;lia) ⟨.bl _,H,I,rfl,q⟩
  simp_all
 .split at e
  .rename_i c
   cases e;obtain⟨as,ra⟩:=Xg I sg px rx c.1;obtain⟨bs,rb⟩:=Xg I sg py ry (c.2.1);exact SeqAt.in_tuple_reads rb ra c.2.1 c.1 (by have:=c.2.2;lia) ⟨.bl _,H,I,rfl,q⟩
  simp_all
 simp_all
theorem BN(hu:X.A.units+64<cLine):OpB X (UE .NotIn) (λx y=>(XS x y).map λt=>!t):=by
 refine⟨λv u H Q=>∃G x y d,Same G H/\Rep X.K G v x/\Rep X.K G u y/\(XS x y).map _=O d/\Q _ H,?_,λv u G H x y d Q s rx ry e k=>⟨G,x,y,d,s,rx,ry,e,k⟩⟩;intro pins s σ H x y v u Q I rx ry ⟨G,dx,dy,d,sg,px,py,e,q⟩;unfold XS at e;split at e
 .split at e
  .rename_i c
   cases e;obtain⟨as,ra⟩:=Xg I sg px rx c.1;obtain⟨bs,rb⟩:=Xg I sg py ry (c.2.1);exact SeqAt.notIn_list_reads rb ra c.2.1 c.1 (by have:=c.2.2;lia) ⟨.bl _,H,I,rfl,q⟩
  simp_all
 .split at e
  .rename_i c
   cases e;obtain⟨as,ra⟩:=Xg I sg px rx c.1;obtain⟨bs,rb⟩:=Xg I sg py ry (c.2.1);exact SeqAt.notIn_tuple_reads rb ra c.2.1 c.1 (by have:=c.2.2;lia) ⟨.bl _,H,I,rfl,q⟩
  simp_all
 simp_all
theorem B_in(hu:X.A.units+64<cLine):OpB X (UE .In) oIn:=(DE.or (DC hu)).congr λx y=>by cases x<;>cases y<;>rfl
theorem DB(hu:X.A.units+64<cLine):OpB X (UE .NotIn) Xk:=(BS.or (BN hu)).congr λx y=>by cases x<;>cases y<;>rfl
theorem vR  {lo hi:Option UA}{st:UA}(he:PE X e te)(hl:PO X lo tl)(hu:PO X hi th)(hst:PO X (O st) ts):PE X (.Subscript e (.Slice lo hi (O st) p2) pos)
  (λσ H Q=>te σ H λx H1=>tl σ H1 λl H2=>th σ H2 λu H3=>ts σ H3 λt H4=>∃a xs,x=.ref a/\SqL X.K H4 a xs/\l=zp/\u=zp/\t=O (-1)/\∀p,H4 p=zp->Q (.ref p) (upd H4 p (.lst xs.reverse))):=by
 intro pins s σ H Q I h;refine Subscript_ (thn (he pins s σ H _ I h) λv s1 ⟨x,H1,I1,r1,q1⟩=>?_);refine wpAny_Slice (thn (hl pins s1 σ H1 _ I1 q1) λvl s2 ⟨l,H2,I2,pl,q2⟩=>thn (hu pins s2 σ H2 _ I2 q2) λvu s3 ⟨u,H3,I3,pu,q3⟩=>thn (hst pins s3 σ H3 _ I3 q3) λvt s4 ⟨t,H4,I4,pt,q4⟩=>?_);obtain⟨a,xs,rfl,hx,rfl,rfl,rfl,q⟩:=q4;cases r1;have I5:Inv X pins σ H4 {s4 with heap:=s4.heap.push {cls:=.type "slice", data:=.fields #[vl,vu,vt]}}:=I4.kept (t':=s4.toks) λb ob q=>Qm _ q
 obtain⟨its,r,ht,hz⟩:=I5.list hx;have hlen:=r.length;have hg:UC (model X.prog X.w) X.A (getItem (.ref a) (.ref s4.heap.objs.size)) (EP X pins σ Q) X.xe {s4 with heap:=s4.heap.push {cls:=.type "slice", data:=.fields #[vl,vu,vt]}}:=by refine wpAny_getItem_list_slice ht.isList (Heap.IsSliceOf.new ..) pl pu pt (by simp) ?_ (by rw[List.size_toArray]<;>lia);rw[PySem.W.krv_pick];refine⟨.ref _,_,I5.laid   (λb ob q=>Qm _ q) (Qx _) ?_,rfl,q _ (I5.hok.fresh (Qx _))⟩;exact⟨by rw[JG];exact hz,its.reverse,0,r.reverse,QE _ zo⟩
 exact tail_any  ht.isList.typeIs slot_list_getitem.lookup hg (by with_unfolding_all rfl)
noncomputable def TJ:D->zC->zC->zC->zx
 |.list xs,zp,zp,O i=>if i = -1 then O (.list xs.reverse)else zp
 |_,_,_,_=>zp
noncomputable def SI(f:M D)(lo hi st:M zC):M D:=Kq f λx=>Kq lo λl=>Kq hi λh=>Kq st λt=>Ku (TJ x l h t)
theorem qm{lo hi}{st:UA}{f:M D}{l h t}(he:PE X e (tD X.K B G0 f))(hl:PO X lo (tOi X.K B G0 l))(hu:PO X hi (tOi X.K B G0 h))(hst:PO X (O st) (tOi X.K B G0 t)) :
  PE X (.Subscript e (.Slice lo hi (O st) p2) pos) (tD X.K B G0 (SI f l h t)):=
 KF (vR he hl hu hst) λσ H Q q=>by
  refine tM.one  q λv H2 G ρ x k r a=>?_;refine tM.nx  k a λl' H3 G3 ρ3 xl k3 s3 r3 a3=>?_;refine tM.nx  k3 a3 λh' H4 G4 ρ4 xh k4 s4 r4 a4=>?_;refine tM.nx  k4 a4 λt' H5 G5 ρ5 xt k5 s5 r5 a5=>?_;subst r3 r4 r5
  cases x with
  |list xs=>
   cases l' with
   |some _=>exact a5.elim
   |none=>
   cases h' with
   |some _=>exact a5.elim
   |none=>
   cases t' with
   |none=>exact a5.elim
   |some i=>
   obtain⟨ad,vs,rfl,h1,r1⟩:=(((r.mono s3).mono s4).mono s5).lst_inv;by_cases hi:i = -1
   .subst hi
    exact⟨ad,vs,rfl,k5.gh.seq h1,rfl,rfl,rfl,λp hp=>aft.done a5 k5 (Ext.new k5.gh hp) (.lst (SqL.of Zq) (r1.reverse.mono (ZQ (k5.gh.free hp))))⟩
   .unfold Ku TJ at a5
    dsimp only at a5;rw[QA hi]at a5;exact a5.elim
  |_=>exact a5.elim
noncomputable def Tl:zw->Option zw
 |[.list xs]=>O xs
 |[.tuple xs]=>O xs
 |_=>zp
theorem vQ  (h:Tl x=O l):x=[.list l]∨x=[.tuple l]:=by
 unfold Tl at h;split at h
 .cases h;exact .inl zo
 .cases h;exact .inr zo
 simp_all
theorem ya:bootBuiltins "list" = O (.type "list"):=by decide +kernel
noncomputable def WY(i:Nat):M zw:=λρ=>match ρ[i]? with
 |some (O (.pub d))=>Ku (Tl [d]) ρ
 |some (O (.own ds))=>.ok ds ρ
 |_=>.bad
theorem vP  (hg:Gl X "list")(hm:X.mg "list" = zp)(ho:PE X a (Zk i))(he:UD [a] X.env=(zr,eval a X.env)::UD [] X.env:=by rfl) :
  PE X (.Call (.Name "list" p2) [a] [] pos) (tL X.K B G0 (WY i)):=
 KF (Eb yL hg hm ya (W7 ho Ts he) (by decide) (by decide) he zo) λσ H Q ⟨G,ρ,k,q⟩=>by
  unfold WY at q;cases z:ρ[i]? with
  |none=>rw[z]at q;exact q.elim
  |some oo=>
   cases oo with
   |none=>rw[z]at q;exact q.elim
   |some sl=>
    cases sl with
    |deep _ _=>rw[z]at q;exact q.elim
    |own ds=>rw[z]at q;obtain⟨ad,vs,h1,h2,h3,h4,h5⟩:=k.own i ds z;exact⟨.ref ad,h1,ad,vs,rfl,.inl (SqL.of h4),λl hp=>q l vs G _ (k.ext (Ext.hid k.gh hp)) (.refl _) (NewL.of k hp h5)⟩
    |pub d=>
     rw[z]at q;dsimp only[Ku]at q;obtain⟨v,h1,h2⟩:=k.pub i d z;cases z2:Tl [d]with
     |none=>rw[z2]at q;exact q.elim
     |some l=>
      rcases vQ z2 with e|e
      .cases e
       obtain⟨p,ws,rfl,g1,r1⟩:=h2.lst_inv;exact⟨_,h1,p,ws,rfl,.inl (k.gh.seq g1),λad hp=>q ad ws G _ (k.ext (Ext.hid k.gh hp)) (.refl _) (NewL.of k hp r1)⟩
      .cases e
       obtain⟨p,ws,rfl,g1,r1⟩:=h2.tup_inv;exact⟨_,h1,p,ws,rfl,.inr (Xr k.gh g1),λad hp=>q ad ws G _ (k.ext (Ext.hid k.gh hp)) (.refl _) (NewL.of k hp r1)⟩
theorem DA  {zs:List Str}(hg:Gl X x)(hm:∃ad o its n,X.mg x=O (.ref ad)/\X.K.lookup ad=O o/\o.cls=.type "tuple" /\ o.data=.seq its n/\its.size<=UB/\Vals (zs.map V.str) its.toList)(hd:(x==("__debug__" : Str))=zr:=by decide) :
  PE X (.Name x pos) (tD X.K B G0 (U2 (.tuple (zs.map UJ)))):=by
 obtain⟨ad,o,its,n,hm,h1,h2,h3,h4,h5⟩:=hm;refine KF (GF (v:=.ref ad) hg hm zo hd) λσ H Q ⟨G,ρ,k,a⟩=>aft.now a k (.tup (.inr ⟨o,its,n,h1,h2,h3,h4,h5⟩) ?_)
 have:∀zs:List Str,Reps X.K G (zs.map V.str) (zs.map UJ):=λzs=>by
  induction zs with
  |nil=>exact .nil
  |cons z r ih=>exact .cons (.str _) ih
 simp_all
end
section
variable{X:Cx}{B G0:Hp}{e o a b c tg:UA}{pos p2 p3 p4:Pos}{es rest:zy}{te to ti:TE}
theorem Ve:∀{ns}{us},Vals (ns.map V.int) us->PyProof.Rows.IntsAre us ns
 |[],_,.nil=>.nil
 |n::ns,_,.cons h t=>by obtain⟨tk,rfl⟩:=h;exact .cons n tk (Ve t)
noncomputable def RZ(ns:zu):Nat:=(PyProof.Rows.firstMet (λi=>ns.getD i 0) ns.length).length
theorem vO(hc:X.calm=zq):Xe X (.type "set") (λxs H Q=>∃l,∃ns:zu,xs=[.ref l]/\SqL X.K H l (ns.map V.int)/\ns.length+1<4096/\∀S p,H p=zp->Q (.ref p) (upd H p (.set S (RZ ns)))):=by
 intro pins s σ H xs us Q I rx h;obtain⟨l,ns,rfl,hq,hb,q⟩:=h;obtain⟨u,rfl,ru⟩:=rx.one;cases ru;obtain⟨its,rv,p,hz⟩:=I.list hq;have hi:=Ve rv;have hn:its.toArray.size=ns.length:=by have:=rv.length;grind
 refine call_set_list (I.ok.hd hc) p.isList  (by simpa using hi) (by rw[hn];exact hb) λh' tk hS hk=>?_
 rw[hn]at hS;refine⟨.ref s.heap.objs.size,_,I.laid  (λb o e=>hk b o (Qk e) e) (Qx _) (show Yo X.prog X.w _ h' _ (.set _ _)from hS),rfl,q _ _ (I.hok.fresh (Qx _))⟩
theorem vN:Xe X (.builtin "len") (λxs H Q=>∃p S n,xs=[.ref p]/\H p=O (.set S n)/\Q (.int n) H):=by
 intro pins s σ H xs us Q I rx h;obtain⟨p,S,n,rfl,hp,q⟩:=h;obtain⟨u,rfl,ru⟩:=rx.one;cases ru;obtain⟨o,es,ep,t,h1,h2,h3,h4,h5,h6,h7,h8⟩:=(I.hok p _ hp)
 have hsb:scanBound=4096:=rfl;refine call_len_set h1 h2 h3 h7 (by lia) ?_;rw[h8];exact⟨.int n,H,I.tok _,⟨_,rfl⟩,q⟩
noncomputable def Yr:zw->Option zu
 |[]=>O []
 |.int i::r=>(Yr r).map (i :: ·)
 |_=>zp
theorem RJ{K}{G}:∀{vs}{ds}{ns},Reps K G vs ds->Yr ds=O ns->vs=ns.map V.int
 |_,_,ns,.nil,e=>by cases e;rfl
 |_,_,ns,.cons (d:=d) r t,e=>by
  cases d with
  |int b=>
   unfold Yr at e;cases z:Yr _ with
   |none=>rw[z]at e;cases e
   |some cs=>rw[z]at e;cases e;rw[r.int_inv,RJ t z];rfl
  |_=>cases e
theorem RL(ns):Yr (ns.map int)=O ns:=by
 induction ns with
 |nil=>rfl
 |cons b r ih=>rw[Qv,Yr,ih];rfl
noncomputable def W4:zw->zx
 |[.list ds]=>(match Yr ds with
  |some ns=>if ns.length+1<4096 then O (.int (RZ ns))else zp
  |none=>zp)
 |_=>zp
theorem yw   (h:W4 xs=O d):∃ds ns,xs=[.list ds]/\Yr ds=O ns/\ns.length+1<4096/\d=.int (RZ ns):=by
 unfold W4 at h;split at h
 .rename_i ds
  cases z:Yr ds with
  |none=>simp_all
  |some ns=>simp_all
 simp_all
theorem vM:bootBuiltins "set" = O (.type "set"):=by decide +kernel
theorem w9  (hc:X.calm=zq)(hg:Gl X "len")(hm:X.mg "len" = zp)(hg2:Gl X "set")(hm2:X.mg "set" = zp)(ha:PA X [a] (tDs X.K B G0 f))(he:UD [a] X.env=(zr,eval a X.env)::UD [] X.env:=by rfl)
  (aA:UD [.Call (.Name "set" p2) [a] [] p3] X.env=(zr,eval (.Call (.Name "set" p2) [a] [] p3) X.env)::UD [] X.env:=by rfl) :
  PE X (.Call (.Name "len" p4) [.Call (.Name "set" p2) [a] [] p3] [] pos) (tD X.K B G0 (ZW W4 f)):=
 KF (OD vN hg hm boot_len (W7 (Eb (vO hc) hg2 hm2 vM ha (by decide) (by decide) he zo) Ts aA) (by decide) (by decide) aA zo) λσ H Q q=>tM.one  q λvs H2 G ρ x k r a=>by obtain⟨d,e,a⟩:=a.opt;obtain⟨ds,ns,rfl,z,c,rfl⟩:=yw e;obtain⟨v,rfl,q1⟩:=r.one_inv;obtain⟨l,ws,rfl,h1,r1⟩:=q1.lst_inv;have:=RJ r1 z;subst this;refine⟨l,ns,rfl,k.gh.seq h1,c,λS p hp=>⟨p,S,RZ ns,rfl,Zq,?_⟩⟩;exact aft.done a k (Ext.hid k.gh hp) (.int _)
end
end DL
namespace L2
open PySem PySem.Spec PyProof.Rows
end L2
namespace DL
open PySem PySem.Spec L2
open PyProof.Rows hiding St
end DL
namespace L2
open PySem PySem.Spec PyProof.Rows
section
variable{prog:Ux}{w:World}{A:Around}{E:Uv->Uw->Prop}{s:Uw}{M:Model}{env:Env}
theorem ql  {T}{args}{kws}{Q}(hp:args.any (·.1)=zr)(hk:kws.any (·.1.isNone)=zr)
  (h:UC M A (evalArgs (.type T) zq args kws) (λa s1=>UC M A (call (.type T) a.pos a.kw) Q E s1) E s):UC M A (callWith pos (.type T) [] args kws) Q E s:=by
 refine Qf (wpAny_holding (QG h (λa s1 h1=>Qf (JE ?_)) λ_ _ z=>z));simp only[hp,hk];refine Qf (Qs ?_);exact Qf (QG h1 (λr s2 hr=>Qf (wpAny_holding (wpAny_point (Qs hr)))) λ_ _ z=>z)
theorem jE(l:Uy)(t:Tok)(items:Array Uv)(n:Nat)(dct:zJ)(sl) :
  Meets (Builtin.«enumerate.__new__» ⟨[.type "enumerate", .ref l],[("start", .int 1 t)]⟩) (λ_ R s=>s.heap.get? l=O ⟨.type "list", dct,.seq items n,sl⟩ /\
   R (.ok (.ret (.ref (s.heap.push {cls:=.type "list_iterator", data:=.fields #[.ref l,.int 0 0]}).objs.size))) {s with heap:=(s.heap.push {cls:=.type "list_iterator", data:=.fields #[.ref l,.int 0 0]}).push {cls:=.type "enumerate", data:=.fields #[.none,.bool zr,.ref s.heap.objs.size,rawInt 1,.none,.none]}}):=
 .of_wp λprog w A R s h=>by
  obtain⟨hl,h⟩:=h;have hsub:=sub_enumerate;have hL:Heap.IsList _ l items:=⟨_,hl,rfl,n,rfl⟩
  wp_walk using AutoSeq1.wpAny_loadPart' hl
  refine wpAny_stack_any λst=>(Qs ?_);split
  .rename_i c _ _ _ _ _
   cases (c==Value.type "enumerate")<;>(wp_walk using(AutoSeq1.wpAny_loadPart' hl),(wpAny_pyIter_list hL))<;>exact⟨_,rfl,h⟩
  ·(wp_walk using(AutoSeq1.wpAny_loadPart' hl),(wpAny_pyIter_list hL));exact⟨_,rfl,h⟩
theorem yS{T newId initId:String}{Bn Bi:Builtin}{args:zA}{kw:List (Str×Uv)}{S:PySem.Spec}{Q Q1}(ft:TypeCalled T newId initId)
  (hct:checkTypeCall T ⟨args,kw⟩=pure ()) (hcn:checkBuiltinCall newId ⟨.type T::args,kw⟩=pure ()) (eN:entryFor table newId=O Bn) (eI:entryFor table initId=O Bi)
  (g:Meets (Bn ⟨.type T::args,kw⟩) S) (h:S A.in1 (wants Q1 E) s)
  (hnext:∀obj s1,Q1 obj s1->s1.TypeIs obj T/\argsOk initId ⟨obj::args,kw⟩/\∃Si,Meets (Bi ⟨obj::args,kw⟩) Si/\Si A.in1 (wants (λr s2=>r=.none/\Q obj s2) E) s1) :
  UC (model prog w) A (call (.type T) args kw) Q E s:=by
 obtain⟨c,tl,hmro⟩:=ft.mro;have hmade:=ft.made;have hsub:=ft.sub;refine wpAny_call (codeAny_of_tree ?_);refine Qs ⟨Code.quiet_builtin _ (by decide +kernel),(codeAny_builtin F.entry_type_call ?_)⟩;have h1:=ft.notType;have h2:=ft.canCreate
 repeat' (any_goals (first|wp_step|assumption))
 refine codeAny_mono (JA ft.plain eN (wpAny_of_eq hcn (g prog w A.in1 _ s h))) λr s1 hr=>?_
 match r,hr with
 |.error e,hr=>exact hr
 |.ok (.ret obj),hr=>
  obtain⟨hT,hok,Si,gi,hsi⟩:=hnext _ _ hr;have hli:=ft.init.lookup;have hbi:=ft.init.bind obj
  repeat' (any_goals (first|wp_step|assumption))
  refine codeAny_mono (JA ft.init.plain eI (ft.init.check _ _ _ _ _ _ _ _ hT hok (gi prog w A.in1 _ s1 hsi))) λr2 s2 zT=>?_
  match r2,zT with
  |.error e,zT=>exact zT
  |.ok (.ret r),zT=>
   obtain⟨rfl,hq⟩:=zT
   repeat' (any_goals (first|wp_step|assumption))
  |.ok .next,zT=>exact zT.elim
  |.ok .brk,zT=>exact zT.elim
  |.ok .cont,zT=>exact zT.elim
 |.ok .next,hr=>exact hr.elim
 |.ok .brk,hr=>exact hr.elim
 |.ok .cont,hr=>exact hr.elim
theorem yv   {rest}{kw}(hl:typeLookup (.type T) "__init__" = pure (O (.builtin "object.__init__")))
  (hm:Bind.madeBy (.type T)=pure (O newId)) (hne:(O newId != O "object.__new__")=zq) :
  Meets (Builtin.«object.__init__» ⟨self::rest,kw⟩) (λ_ R s=>s.TypeIs self T/\R (.ok (.ret .none)) s):=by
 refine .of_wp λprog w A R s hs=>?_
 obtain⟨hT,hq⟩:=hs;cases rest with
 |nil=>
  cases kw with
  |nil=>exact Qs ⟨_,rfl,hq⟩
  |cons k kw=>(repeat' (any_goals (first|wp_step|assumption)));exact⟨_,rfl,hq⟩
 |cons a rest=>(repeat' (any_goals (first|wp_step|assumption)));exact⟨_,rfl,hq⟩
theorem yu(a)(t):checkTypeCall "enumerate" ⟨[a],[("start", .int 1 t)]⟩=pure ():=by kernel_rfl
theorem w8(a)(t):checkBuiltinCall "enumerate.__new__" ⟨[.type "enumerate", a],[("start", .int 1 t)]⟩=pure ():=by kernel_rfl
theorem yt(o a)(t):argsOk "object.__init__" ⟨[o,a],[("start", .int 1 t)]⟩:=by kernel_rfl
theorem w6{l:Uy}{items:Array Uv}{t:Tok}{Q}(hL:s.heap.IsList l items)
  (h:∀h',IsEnum h' (s.heap.objs.size+1) s.heap.objs.size 1 .none->h'.IsListIter s.heap.objs.size l 0->(∀b o,s.heap.get? b=O o->h'.get? b=O o)->Q (.ref (s.heap.objs.size+1)) {s with heap:=h'}) :
  UC (model prog w) A (call (.type "enumerate") [.ref l] [("start", .int 1 t)]) Q E s:=by
 obtain⟨⟨c,dct,dt,sl⟩,hl,hc,n,hd⟩:=hL;subst hc hd;have hz:(s.heap.push {cls:=.type "list_iterator", data:=.fields #[.ref l,.int 0 0]}).objs.size=s.heap.objs.size+1:=Heap.size_push ..;have he:IsEnum ((s.heap.push {cls:=.type "list_iterator", data:=.fields #[.ref l,.int 0 0]}).push {cls:=.type "enumerate", data:=.fields #[.none,.bool zr,.ref s.heap.objs.size,rawInt 1,.none,.none]}) (s.heap.objs.size+1) s.heap.objs.size 1 .none:=by rw[←hz];exact QE _ zo
 refine yS F.called_enumerate (yu _ t) (w8 _ t) F.entry_enumerate_new F.entry_object_init (jE l t items n dct sl) (Q1:=λobj s1=>s1.TypeIs obj "enumerate" /\ Q obj s1) ⟨hl,?_⟩ λobj s1 hq=>
  ⟨hq.1,yt obj _ t,_,yv F.called_enumerate.init.lookup F.called_enumerate.made (by decide),hq.1,rfl,hq.2⟩
 rw[hz];exact⟨⟨_,he,rfl⟩,h _ he ⟨_,Qm _ (QE _ zo),rfl,rfl⟩ λb o x=>Qm _ (Qm _ x)⟩
end
section
variable{prog:Ux}{w:World}{A:Around}{E:Uv->Uw->Prop}{s:Uw}
theorem vL{en it l:Uy}{i:Nat}{j:Int}{items:Array Uv}{x old:Uv}{Q:zB->Uw->Prop}(st:IsEnum s.heap en it j old)(li:s.heap.IsListIter it l i)(ls:s.heap.IsList l items)
  (at_:items[i]?=O x) (ne:en≠it)
  (k:∀h',IsEnumOut h' en it (j+1) x s.heap.objs.size->h'.IsListIter it l (i+1)->h'.get? s.heap.objs.size=O {cls:=.type "tuple", data:=.seq #[.int j s.toks,x]}->(∀b o,b≠en->b≠it->s.heap.get? b=O o->h'.get? b=O o) ->
   Q (O (.ref s.heap.objs.size)) {s with heap:=h',toks:=s.toks+1}):UC (model prog w) A (pyNext (.ref en)) Q E s:=by
 have ty:s.TypeIs (.ref en) "enumerate" :=⟨_,st,rfl⟩
 have lt:en<s.heap.objs.size:=Qk st;unfold pyNext;refine Qf (wpAny_attempt (wpAny_callSpecial?_slot (name:=UP "__next__") ty F.slot_enumerate_next (wpAny_call_entry F.slot_enumerate_next ty F.entry_enumerate_next ?_ (F.args_enumerate_next_1 _))));show UC _ _ (field (.ref en) 2 >>= _) _ _ s;refine Qf (Jj st zo (x:=.ref it) zo ?_);refine Qf (wpAny_nextOf_list_item li ls at_ λm1 li1 c1=>?_);have c1:Heap.SameBut it s.heap m1:=c1;have st1:IsEnum m1 en it j old:=(c1.2 en ne).trans st;show UC _ _ (field (.ref en) 3 >>= _) _ _ {s with heap:=m1};refine Qf (Jj st1 zo (x:=rawInt j) zo ?_);show UC _ _ (field (.ref en) 4 >>= _) _ _ {s with heap:=m1};refine Qf (Jj st1 zo (x:=.none) zo ?_);show UC _ _ (mkInt j >>= _) _ _ {s with heap:=m1};refine Qf (wpAny_mkInt ?_);refine wpAny_bind (wpAny_setField_rec st1 (by simp) λm2 st2 c2=>?_);have c2:Heap.SameBut en m1 m2:=c2;have st2:IsEnum m2 en it (j+1) old:=st2;show UC _ _ (setField (.ref en) 4 .none >>= _) _ _ {s with heap:=m2,toks:=s.toks+1};refine wpAny_bind (wpAny_setField_rec st2 (by simp) λm3 st3 c3=>?_);have c3:Heap.SameBut en m2 m3:=c3;have st3:IsEnum m3 en it (j+1) old:=st3;refine Qf (wpAny_newTuple ?_);have z3:m3.objs.size=s.heap.objs.size:=c3.1.trans (c2.1.trans c1.1);have st4:IsEnum (m3.push {cls:=.type "tuple", data:=.seq #[.int j s.toks,x]}) en it (j+1) old:=Qm _ (show IsEnum m3 en it (j+1) old from st3);have tp4:(m3.push {cls:=.type "tuple", data:=.seq #[.int j s.toks,x]}).get? s.heap.objs.size=O {cls:=.type "tuple", data:=.seq #[.int j s.toks,x]}:=by rw[←z3];exact QE _ zo
 have kp4:∀b o,b≠en->b≠it->s.heap.get? b=O o->(m3.push {cls:=.type "tuple", data:=.seq #[.int j s.toks,x]}).get? b=O o:=λb o n1 n2 q=>Qm _ ((c3.2 b n1).trans ((c2.2 b n1).trans ((c1.2 b n2).trans q)))
 have li4:(m3.push {cls:=.type "tuple", data:=.seq #[.int j s.toks,x]}).IsListIter it l (i+1):=by obtain⟨o,q,r⟩:=li1;exact⟨o,Qm _ ((c3.2 it (Ne.symm ne)).trans ((c2.2 it (Ne.symm ne)).trans q)),r⟩
 generalize m3.push {cls:=.type "tuple", data:=.seq #[.int j s.toks,x]}=m4 at st4 tp4 kp4 li4;rw[z3];refine Qf ?_;unfold Builtin.SmallTypes.ownedTupleIsFree Builtin.SmallTypes.ownedTupleHandOut;refine Qf (Jj st4 zo (x:=.none) zo (Qs ?_));simp only[if_true];refine wpAny_bind (wpAny_rule (wpAny_bind (wpAny_field st4 zo (x:=old) zo (wpAny_bind (wpAny_setField_rec st4 (by simp) λm5 ag c5=>?_)))));have c5:Heap.SameBut en m4 m5:=c5;have ag:IsEnum m5 en it (j+1) x:=ag;refine wpAny_bind (wpAny_bind (wpAny_setField_rec ag (by simp) λm6 st6 c6=>?_));have c6:Heap.SameBut en m5 m6:=c6;have st6:IsEnumOut m6 en it (j+1) x s.heap.objs.size:=st6;refine wpAny_setField_rec st6 (by simp) λm7 st7 c7=>?_
 have c7:Heap.SameBut en m6 m7:=c7;have st7:IsEnumOut m7 en it (j+1) x s.heap.objs.size:=st7;have up:∀b,b≠en->m7.get? b=m4.get? b:=λb n=>(c7.2 b n).trans ((c6.2 b n).trans (c5.2 b n));refine Qf (wpAny_letGo (Qs ⟨_,rfl,Qs (k m7 st7 ?_ ((up _ (JQ lt)).trans tp4) λb o n1 n2 q=>(up b n1).trans (kp4 b o n1 n2 q))⟩))
 obtain⟨o,q,r⟩:=li4;exact⟨o,(up it (Ne.symm ne)).trans q,r⟩
theorem vK  {i:Nat}{j:Int}{items:Array Uv}{old:Uv}{Q}(hh:A.handled=zp)(st:IsEnum s.heap en it j old)(li:s.heap.IsListIter it l i)(ls:s.heap.IsList l items)
  (at_:items[i]?=zp) (k:∀h',Heap.ExtBut it s.heap h'->Q zp {s with heap:=h'}):UC (model prog w) A (pyNext (.ref en)) Q E s:=by
 have ty:s.TypeIs (.ref en) "enumerate" :=⟨_,st,rfl⟩
 refine Qf (wpAny_attempt (wpAny_callSpecial?_slot  ty F.slot_enumerate_next (wpAny_call_entry F.slot_enumerate_next ty F.entry_enumerate_next ?_ (F.args_enumerate_next_1 _))));show UC _ _ (field (.ref en) 2 >>= _) _ _ s;refine Qf (Jj st zo  rfl (Qf  (wpAny_nextOf_list_end hh li ls at_ λh' z c y=>?_)));obtain⟨o,q,t⟩:=y;exact Qf (wpAny_isInstance  (b:=zq) ⟨o,q,t⟩ isSubtype_stop (Qs (k _ c)))
end
noncomputable def SL(K:Frag)(a:Uy):It:=
 ⟨λi H=>∃xs x,SqL K H a xs/\xs[i]?=O x,
  λi H v H'=>∃p x,H p=zp/\v=.ref p/\(∀xs,SqL K H a xs->xs[i]?=O x)/\H'=upd H p (.tup [.int (1+(i:Int)),x]),
  λi H=>∃xs,SqL K H a xs/\xs.length<=i⟩
theorem w5{P:Ux}{w:World}{K:Frag}{elts:zy}{x1}{tp:Pos}(a e it:Uy)(hne:e≠it) :
  Turn P w K (.Tuple elts x1 tp) (SL K a) [e,it] e (λi h=>(∃old,IsEnum h e it (1+(i:Int)) old)/\h.IsListIter it a i) where
 mem:=by simp
 obj:=λi h st b hb=>by
  obtain⟨⟨old,he⟩,o,ho,c,d⟩:=st;have hb':b=e∨b=it:=by simpa using hb
  rcases hb' with rfl|rfl
  .exact⟨_,he,λv z=>by have z'   :=z;cases z'⟩
  .exact⟨o,ho,λv z=>by rw[d]at z;cases z⟩
 keep:=λi h h' st k=>by obtain⟨⟨old,he⟩,hi⟩:=st;exact⟨⟨old,k e (by simp) _ he⟩,hi.at λo q=>k it (by simp) o q⟩
 item:=by
  intro X hP hw hK hc i pins s σ H E I hf st hg;subst hP hw hK;obtain⟨⟨old,he⟩,hi⟩:=st;obtain⟨xs,x,hq,hx⟩:=hg;obtain⟨its,rv,p,hz⟩:=I.list hq;obtain⟨u,hu,ru⟩:=rv.get hx;refine vL he hi p.isList (x:=u) (by simpa using hu) hne λh1 out hi1 ht kk=>?_
  refine⟨_,rfl,wpAny_letOwnedTupleGo_enum out λh2 aA hs2=>?_⟩;have hel:e<s.heap.objs.size:=Qk he;have zX:Heap.SameBut e h1 h2:=hs2;have ht2   :=(zX.2 _ (JQ hel)).trans ht
  have kk2:∀b o,b∉[e,it]->s.heap.get? b=O o->h2.get? b=O o:=λb o hb q=>by
   have zU:b≠e:=λz=>hb (by simp[z])
   have hbi:b≠it:=λz=>hb (by simp[z])
   exact(zX.2 b zU).trans (kk b o zU hbi q)
  have hn:H s.heap.objs.size=zp:=I.hok.fresh (Qx _)
  have I2:Inv X pins σ (upd H s.heap.objs.size (.tup [.int (1+(i:Int)),x])) {s with heap:=h2,toks:=s.toks+1}:=
   I.turnedNew (fp:=[e,it]) hf kk2 (Qx _) ⟨by show 2<=UB;decide,[.int (1+(i:Int)) s.toks,u],.cons ⟨_,rfl⟩ (.cons ru .nil),⟨_,ht2,rfl,_,rfl⟩⟩
  refine⟨.ref s.heap.objs.size,_,I2,rfl,⟨_,x,hn,rfl,λys hy=>by rw[I.list_inj hy hq];exact hx,rfl⟩,⟨⟨u,?_⟩,?_⟩,λb hb=>?_⟩
  .have e2:(1+((i+1:Nat):Int))=1+(i:Int)+1:=by lia
   rw[e2];exact aA
  .exact hi1.at λo q=>(zX.2 it (Ne.symm hne)).trans q
  .have hlt:b<s.heap.objs.size:=by
    have hb':b=e∨b=it:=by simpa using hb
    rcases hb' with rfl|rfl
    .exact hel
    .obtain⟨o,ho,_⟩:=hi;exact Qk ho
   rw[KO (QY hlt)];exact(hf b hb).1
 done:=by intro X hP hw hK hc i pins s σ H E I hf st hg;subst hP hw hK;obtain⟨⟨old,he⟩,hi⟩:=st;obtain⟨xs,hq,hx⟩:=hg;obtain⟨its,rv,p,hz⟩:=I.list hq;have hl:=rv.length;exact vK (I.ok.hd hc) he hi p.isList (by simp;lia) λh' eb=>⟨rfl,I.turnedL (t':=s.toks) hf λb o hb q=>eb b o (λz=>hb (by simp[z])) q⟩
 self:=λ_ _ _ _ _ st h=>by obtain⟨⟨old,he⟩,_⟩:=st;exact wpAny_pyIter_enum he h
section
variable{X:Cx}
theorem jD{a:UA}{ta:TA}{p pos k1 k2:Pos}{j}{elts}{x1}{tp:Pos}(hg:Gl X "enumerate")(hm:X.mg "enumerate" = zp)(ha:PA X [a] ta)
  (hs:backTo pos (UD [a] X.env)=(zr,eval a X.env)::backTo pos (UD [] X.env):=by rfl) (hpl:(backTo pos (UD [a] X.env)).any (·.1)=zr:=by rfl) :
  PI X (.Tuple elts x1 tp) (.Call (.Name "enumerate" p) [a] [⟨O "start", .Constant (.int 1) j k1,k2⟩] pos) (λσ H R=>ta σ H λvs H1=>∃a xs,vs=[.ref a]/\SqL X.K H1 a xs/\R (SL X.K a) H1):=by
 intro pins s σ H R I h;refine wpAny_Call_Name_kw (WV I hg hm boot_enumerate (ql hpl zo ?_));rw[hs];refine evalArgs_kwB zo ?_;rw[←hs];refine thn (ha pos pins s σ H _ I h) λus s1 ⟨vs,H1,I1,r1,q1⟩=>?_;refine kws_cons (wpAny_Constant_int (kws_nil ?_))
 obtain⟨l,xs,e,hq,q⟩:=q1;subst e;cases r1 with
 |cons r rr=>
  cases rr;cases (r);have I1':=I1.tok (s1.toks+1);obtain⟨its,rv,pl,hz⟩:=I1'.list hq;refine w6 pl.isList λh' he hi kk=>?_;have I2   :=I1'.kept (t':=s1.toks+1) kk;refine wpAny_pyIter_enum he ?_
  refine⟨s1.heap.objs.size+1,[s1.heap.objs.size+1,s1.heap.objs.size],_,_,H1,rfl,I2,w5 l _ _ (Nat.succ_ne_self _),⟨⟨_,he⟩,hi⟩,λb hb=>?_,q⟩;have hb'   :=by simpa using hb
  rcases hb' with rfl|rfl
  .exact I1.fpOk (Ua _) (I1.hok.fresh (Ua _))
  .exact I1.fpOk (Qx _) (I1.hok.fresh (Qx _))
end
end L2
namespace DL
open PySem PySem.Spec L2
open PyProof.Rows hiding St
section
variable{X:Cx}{B G0:Hp}{e a b c tg:UA}{pos:Pos}{es rest:zy}
theorem yr{K}{G1}{ad}{vs}{ds}(h:SqL K G1 ad vs)(r:Reps K G1 vs ds):Wa K (SL K ad) (Z2 1 ds) G1 where
 go:=λi G H s1 s2 hi=>by
  rw[Yv]at hi;have hi':i<vs.length:=by rw[r.length];exact hi
  exact⟨vs,vs[i],(s1.trans s2).seq h,Qe hi'⟩
 stop:=λi G H s1 s2 hi=>by rw[Yv]at hi;exact⟨vs,(s1.trans s2).seq h,by rw[r.length];exact hi⟩
 yld:=λi G H x H' d s1 s2 e y=>by
  obtain⟨p,v,hp,rfl,y1,rfl⟩:=y;have z1:=y1 vs ((s1.trans s2).seq h);rw[ON]at e;cases q:ds[i]? with
  |none=>rw[q]at e;cases e
  |some dd=>rw[q]at e;cases e;obtain⟨v',e1,r1⟩:=r.get q;rw[z1]at e1;cases e1;refine⟨upd G p _,Ext.new s2 hp,.tup (SqT.of Zq) (.cons ?_ (.cons ((r1.mono s1).mono (ZQ (s2.free hp))) .nil))⟩;exact .int _
noncomputable def Rh:zw->Option zw
 |[.list ds]=>O (Z2 1 ds)
 |_=>zp
noncomputable def Nw(f:M zw):M zw:=Kq f λx=>Ku (Rh x)
theorem w4  (h:Rh x=O l):∃ds,x=[.list ds]/\l=Z2 1 ds:=by
 unfold Rh at h;split at h
 .simp_all
 simp_all
theorem jC  {p2 k1 k2}{j}{elts}{x1}{tp}(hg:Gl X "enumerate")(hm:X.mg "enumerate" = zp)(ha:PA X [a] (tDs X.K B G0 f))
  (hs:backTo pos (UD [a] X.env)=(zr,eval a X.env)::backTo pos (UD [] X.env):=by rfl) (hpl:(backTo pos (UD [a] X.env)).any (·.1)=zr:=by rfl) :
  PI X (.Tuple elts x1 tp) (.Call (.Name "enumerate" p2) [a] [⟨O "start", .Constant (.int 1) j k1,k2⟩] pos) (iD X.K B G0 (Nw f)):=XQ (jD hg hm ha hs hpl) λσ H R q=>tM.toI  q λv H' G' ρ' x k r a=>by
 cases z:Rh x with
 |none=>rw[z]at a;exact a.elim
 |some l=>obtain⟨ds,rfl,rfl⟩:=w4 z;obtain⟨v,rfl,q⟩:=r.one_inv;obtain⟨l,ws,rfl,h1,r1⟩:=q.lst_inv;exact⟨l,ws,rfl,k.gh.seq h1,a _ G' H' k (.refl _) (yr h1 r1)⟩
end
section
variable{X:Cx}
noncomputable def most:zu->Int
 |[]=>0
 |[n]=>n
 |n::r=>if most r > n then most r else n
theorem Pq:∀{ns},0<ns.length->most ns∈ns
 |[n],_=>List.mem_singleton.2 zo
 |n::m::r,_=>by
  have ih:=Pq (ns:=m::r) (JS _);unfold most;split
  .exact Qj _ ih
  .exact Ql ..
theorem N9:∀{ns}{a},a∈ns->a<=most ns
 |[n],a,h=>by rw[List.mem_singleton.1 h];exact Jd _
 |n::m::r,a,h=>by
  have ih:∀b,b∈m::r->b<=most _:=λb hb=>N9 hb;unfold most;rcases QL.1 h with e|h
  .subst e;split<;>lia
  .have:=ih a h;split<;>lia
theorem qk  {M}(h1:M∈ns)(h2:∀a,a∈ns->a<=M):most ns=M:=
 JY (h2 _ (Pq (List.length_pos_of_mem h1))) (N9 h1)
theorem vJ(hc:X.calm=zq):Xe X (.builtin "max") (λxs H Q=>∃l,∃ns:zu,xs=[.ref l]/\SqL X.K H l (ns.map V.int)/\0<ns.length/\Q (.int (most ns)) H):=by
 intro pins s σ H xs us Q I rx h;obtain⟨l,ns,rfl,hq,hb,q⟩:=h;obtain⟨u,rfl,ru⟩:=rx.one;cases ru;obtain⟨its,rv,p,hz⟩:=I.list hq;have hi:=Ve rv;obtain⟨ys,e⟩:=hi.allInts.items;have hns:ns=ys.toList.map (·.1):=by rw[←hi.numsOf,←nums_intItems,←e]
 have hsz:0<ys.size:=by simp_all
 have hl:=p.isList;rw[e]at hl;refine max_intList (I.ok.hd hc) hl hsz λv h' tk hv hk=>?_
 obtain⟨t,rfl⟩:=intItems_at hv;obtain⟨h1,h2⟩:=argBest_gt (numAt ys) (ys.size-1);refine⟨.int _,H,I.kept hk,⟨t,?_⟩,q⟩;rw[qk  ?_ ?_]
 .rw[hns,numAt_eq];exact getD_mem (by rw[Qb,Um];omega)
 .intro a ha
  rw[hns]at ha;obtain⟨j,hj,rfl⟩:=mem_getD ha;rw[Qb,Um]at hj;rw[←numAt_eq];exact h2 j (by omega)
noncomputable def Re:zw->zx
 |[.list ds]=>(match Yr ds with
  |some ns=>if 0<ns.length then O (.int (most ns))else zp
  |none=>zp)
 |_=>zp
theorem vI   (h:Re xs=O d):∃ds ns,xs=[.list ds]/\Yr ds=O ns/\0<ns.length/\d=.int (most ns):=by
 unfold Re at h;split at h
 .rename_i ds
  cases z:Yr ds with
  |none=>simp_all
  |some ns=>simp_all
 simp_all
theorem BM(hc:X.calm=zq):XF X (.builtin "max") Re:=by refine⟨_,vJ hc,λvs G H ds d Q s r e k=>?_⟩;obtain⟨ds,ns,rfl,z,c,rfl⟩:=vI e;obtain⟨v,rfl,q1⟩:=r.one_inv;obtain⟨l,ws,rfl,h1,r1⟩:=q1.lst_inv;have:=RJ r1 z;subst this;exact⟨l,ns,rfl,s.seq h1,c,k _ G H (.refl s) (.int _)⟩
theorem jB  (h:0<ns.length):Re [.list (ns.map .int)]=O (.int (most ns)):=by unfold Re;simp only[RL,Qr h]
end
section
variable{X:Cx}{B G0:Hp}{e o:UA}{es:zy}
theorem yH   {xs:zw}{as}{d:D}(rs:ReadsAll h vs xs as)(hxs:UL xs=zq) :
  vs.countP (λy=>UN (SeqAt.readOf h y) d)=xs.countP (λy=>UN y d):=by
 have key   :=(SeqAt.readsAll_map xs vs as hxs rs).symm;rw[key,List.countP_map];rfl
noncomputable def W0(y x:D):zx:=match y with
 |.list ds=>if x.canLay0=zq/\UL ds=zq/\x.depth<=60 then O (.int (ds.countP λy=>UN y x))else zp
 |_=>zp
theorem jA(hu:X.A.units+64<cLine):MtR X "list.count" (λv vs H Q=>∃G u y x d,vs=[u]/\Same G H/\Rep X.K G v y/\Rep X.K G u x/\W0 y x=O (.int d)/\Q (.int d) H):=by
 intro pins s σ H x xs v us Q I rx rs h;obtain⟨G,u,dy,dx,d,rfl,sg,py,px,e,q⟩:=h;obtain⟨w,rfl,zV⟩:=rs.one;unfold W0 at e;split at e
 .split at e
  .rename_i c
   obtain⟨bs,rb⟩:=Xg I sg py rx (c.2.1);obtain⟨as,ra⟩:=Xg I sg px zV c.1;cases rb with
   |list h1 h2 h3 h4=>rename_i l ob its cs n;obtain⟨cls,dd,data,sl⟩:=ob;subst h2 h3;refine call_meets F.slot_list_count ⟨_,h1,rfl⟩ F.entry_list_count (F.args_list_count_2 _ _) (SeqAt.list_countAt _ _ _ dd sl _ _) ⟨h1,SeqAt.items_eqAt h4 ra c.2.1 c.1 (by lia),?_⟩;rw[yH h4 c.2.1];cases e;exact⟨.int _,H,I.tok _,⟨_,rfl⟩,q⟩
  simp_all
 simp_all
noncomputable def Ol(y:D)(xs:zw):zx:=match xs with
 |[x]=>W0 y x
 |_=>zp
theorem yG{ds xs:zw}{d}(h:Ol (.list ds) xs=O d):∃x n,xs=[x]/\d=.int n/\W0 (.list ds) x=O (.int n):=by
 unfold Ol at h;split at h
 .rename_i x
  have h':=h;unfold W0 at h;dsimp only at h;split at h
  .cases h;exact⟨x,_,rfl,rfl,h'⟩
  .cases h
 simp_all
noncomputable def V7(f:M D)(g:M zw):M D:=Kq f λy=>Kq g λxs=>Ku (match y with | .list ds=>Ol (.list ds) xs|_=>zp)
theorem vH{apos cpos}{f}{g}(hu:X.A.units+64<cLine)(ho:PE X o (tD X.K B G0 f))(ha:PA X (e::es) (tDs X.K B G0 g))
  (hbase:attributeBase o "count" X.env (eval o X.env)=eval o X.env:=by rfl)
  (hfew:((backTo cpos (UD (e::es) X.env)).all (λx=>!x.1)&&(backToKw cpos (keywordEach [] X.env)).all (λx=>x.1.isSome)
   && decide ((e::es).length+([]:List Keyword).length+(if([]:List Keyword).isEmpty then 0 else 1)<30))=zq:=by rfl)
  (hline:(apos.endLine==cpos.line)=zq:=by rfl) (hs:UD (e::es) X.env=(zr,eval e X.env)::UD es X.env:=by rfl) (hplain:(backTo cpos (UD es X.env)).any (·.1)=zr:=by rfl) :
  PE X (.Call (.Attribute o "count" apos) (e::es) [] cpos) (tD X.K B G0 (V7 f g)):=
 KF (Nj F.plainAttrs_list F.slot_list_count F.type_list_count (jA hu) ho ha hbase hfew hline hs hplain) λσ H Q q=>by
  refine tM.one  q λv H2 G ρ y k r a=>?_
  cases y with
  |list ds=>
   obtain⟨l,ws,rfl,h1,r1⟩:=r.lst_inv;refine⟨.inl ⟨rfl,ws,k.gh.seq h1⟩,?_⟩;refine tM.nx  k a λxs H3 G3 ρ3 es k3 s3 r3 a3=>?_
   obtain⟨d,e,a3⟩:=a3.opt;obtain⟨x,n,rfl,rfl,e'⟩:=yG e;obtain⟨u,rfl,ru⟩:=r3.one_inv;exact⟨G3,u,.list ds,x,n,rfl,k3.gh,r.mono s3,ru,e',aft.now a3 k3 (.int _)⟩
  |_=>
   unfold Kq at a;cases z:g ρ with
   |bad=>rw[z]at a;exact a.elim
   |ok xs ρ1=>rw[z]at a;exact a.elim
theorem Mb   {ρ ρ1 ρ2}{ds:zw}{x d}(h1:f ρ=.ok (.list ds) ρ1)(h2:g ρ1=.ok [x] ρ2)(h3:W0 (.list ds) x=O d):V7 f g ρ=.ok d ρ2:=by unfold V7 Kq;rw[h1];dsimp only;rw[h2];dsimp only[Ol];rw[h3];rfl
end
section
variable{X:Cx}
noncomputable def Y6(ns:zu):zu:=ns.mergeSort λa b=>decide (a<=b)
theorem W8(ns:zu):(Y6 ns).Perm ns:=List.mergeSort_perm ..
theorem OY(ns):(Y6 ns).Pairwise (· <= ·):=by have:=List.pairwise_mergeSort (le:=λa b   =>decide (a<=b)) (by intro a b c;simp;lia) (by intro a b;simp;lia) ns;exact this.imp (by simp)
theorem Gy:∀{a b:zu},a.Perm b->a.Pairwise (· <= ·)->b.Pairwise (· <= ·)->a=b
 |[],b,p,_,_=>by simp_all
 |x::a,[],p,_,_=>by simp_all
 |x::a,y::b,p,ha,hb=>by
  have hx:y<=x:=by
   rcases QL.1 (p.mem_iff.1 (Ql ..))with e|e
   .exact Int.le_of_eq e.symm
   simp_all
  have hy:x<=y:=by
   rcases QL.1 (p.mem_iff.2 (Ql ..))with e|e
   .exact Int.le_of_eq e.symm
   simp_all
  have e:=JY hy hx;subst e;rw[Gy (List.Perm.cons_inv p) (JU.1 ha).2 (JU.1 hb).2]
theorem Ew:∀{us}{ns},PyProof.Rows.IntsAre us ns->Vals (ns.map V.int) us
 |_,_,.nil=>Paired.nil
 |_,_,.cons n t h=>Paired.cons ⟨t,rfl⟩ (Ew h)
theorem wZ:Xe X (.builtin "sorted") (λxs H Q=>∃l,∃ns:zu,xs=[.ref l]/\SqL X.K H l (ns.map V.int)/\ns.length<64/\∀p,H p=zp->Q (.ref p) (upd H p (.lst ((Y6 ns).map V.int)))):=by
 intro pins s σ H xs us Q I rx h;obtain⟨l,ns,rfl,hq,hb,q⟩:=h;obtain⟨u,rfl,ru⟩:=rx.one;cases ru;obtain⟨its,rv,p,hz⟩:=I.list hq;have hi:=Ve rv;have hn:its.length=ns.length:=by have:=rv.length;simp_all
 refine sorted_ints p.isList hi (by lia) λout ns' a1 a2 a3=>?_
 obtain⟨e,he⟩:=sortedAll_at s.heap its out;have en   :=Gy (a2.trans (W8 ns).symm) a3 (OY ns);subst en;refine⟨.ref _,_,I.laid  (λb o=>sortedAll_old) (Ua _) (show Yo X.prog X.w _ _ _ (.lst _)from⟨?_,out.toList,e,Ew a1,he⟩),rfl,q _ (I.hok.fresh (Ua _))⟩;rw[Qb,(W8 ns).length_eq];simp_all
noncomputable def Rg:zw->zx
 |[.list ds]=>(match Yr ds with
  |some ns=>if ns.length<64 then O (.list ((Y6 ns).map .int))else zp
  |none=>zp)
 |_=>zp
theorem wY   (h:Rg xs=O d):∃ds ns,xs=[.list ds]/\Yr ds=O ns/\ns.length<64/\d=.list ((Y6 ns).map .int):=by
 unfold Rg at h;split at h
 .rename_i ds
  cases z:Yr ds with
  |none=>simp_all
  |some ns=>simp_all
 simp_all
theorem Ev{K}{G}:∀ns:zu,Reps K G (ns.map V.int) (ns.map int)
 |[]=>.nil
 |n::r=>.cons (.int n) (Ev r)
theorem qi:XF X (.builtin "sorted") Rg:=by refine⟨_,wZ,λvs G H ds d Q s r e k=>?_⟩;obtain⟨ds,ns,rfl,z,c,rfl⟩:=wY e;obtain⟨v,rfl,q1⟩:=r.one_inv;obtain⟨l,ws,rfl,h1,r1⟩:=q1.lst_inv;have:=RJ r1 z;subst this;exact⟨l,ns,rfl,s.seq h1,c,λp hp=>k _ _ _ (.new s hp) (.lst (SqL.of Zq) (Ev _))⟩
theorem vG  (h:ns.length<64):Rg [.list (ns.map .int)]=O (.list ((Y6 ns).map .int)):=by unfold Rg;simp only[RL,Qr h]
end
@[simp] theorem mBind_ok   {k:α->M β}{ρ ρ'}{x}(h:f ρ=.ok x ρ'):Kq f k ρ=k x ρ':=by unfold Kq;rw[h]
theorem Eu   {P:Nat->UZ->Prop}{R:Out->Prop}:∀(ds)(n:Nat)(ρ:UZ),P n ρ ->
  (∀i d ρ,ds[i]?=O d->P (n+i) ρ->∃ρ1,s d ρ=O ρ1/\((∃ρ2,(g ρ1=.nx ρ2∨g ρ1=.ct ρ2)/\P (n+i+1) ρ2)∨(∃x,g ρ1=.rt x/\R (.rt x))∨(∃ρ2,g ρ1=.bk ρ2/\R (.nx ρ2))∨(∃ρ2 x,g ρ1=.ex ρ2 x/\R (.ex ρ2 x)) ∨ ∃x,g ρ1=.ro x/\R (.ro x)))->(∀ρ,P (n+ds.length) ρ->R (.nx ρ))->R (To s g ds ρ)
 |[],n,ρ,h,_,f=>f ρ h
 |d::r,n,ρ,h,st,f=>by
  obtain⟨ρ1,e1,e2⟩:=st 0 d ρ zo h;rw[To,e1];dsimp only;rcases e2 with ⟨ρ2,e2,h2⟩|⟨x,e2,h2⟩|⟨ρ2,e2,h2⟩|⟨ρ2,x,e2,h2⟩|⟨x,e2,h2⟩
  .have goal:=Eu (R:=R) r (n+1) ρ2 h2 (λi d' ρ3 q p=>by
    have e:n+1+i=n+(i+1):=by lia
    rw[e]at p⊢;exact st (i+1) d' ρ3 (by simpa using q) p) (λρ3 p=>f ρ3 (by
    have e:n+1+r.length=n+(d::r).length:=by rw[Qz];lia
    rw[e]at p;exact p))
   rcases e2 with e2|e2<;>(rw[e2];exact goal)
  .rw[e2];exact h2
  .rw[e2];exact h2
  .rw[e2];exact h2
  .rw[e2];exact h2
theorem WS{lo hi}{i:Nat}{d}(h:(Yp lo hi)[i]?=O d):d=.int (lo+i)/\(i:Int)<hi-lo:=by have hl   :=(Qg.mp h).1;rw[YV]at hl;unfold Yp at h;simp_all
section
variable{α β:Type}{ρ ρ1 ρ2 ρ3 ρ':UZ}{f g h:M D}
theorem Kd{a:α}:U2 a ρ=.ok a ρ:=rfl
theorem U5:UV ρ=.ok [] ρ:=rfl
theorem Yq{o:Option α}{a:α}(h:o=O a):Ku o ρ=.ok a ρ:=by subst h;rfl
theorem Zb{f}{k}{x:α}{r:Res β}(h:f ρ=.ok x ρ1)(h2:k x ρ1=r):Kq f k ρ=r:=by unfold Kq;rw[h];exact h2
theorem KN{f}{k:α->β}{x}(h:f ρ=.ok x ρ1):Ka k f ρ=.ok (k x) ρ1:=by unfold Ka Kq;rw[h];rfl
theorem UW{i:Nat}{d:D}(h:ρ[i]?=O (O (.pub d))):UU i ρ=.ok d ρ:=by unfold UU;rw[h]
theorem Xi  {ds:zw}(h:ρ[i]?=O (O (.own ds)))(h2:ρ.set i (O (.pub (.list ds)))=ρ'):UU i ρ=.ok (.list ds) ρ':=by unfold UU;simp_all
theorem Ki  {x y}{r:β}(h1:f ρ=.ok x ρ1)(h2:g ρ1=.ok y ρ2)(h3:op x y=O r):U1 op f g ρ=.ok r ρ2:=by exact Zb h1 (Zb h2 (Yq h3))
theorem UY{g}{x}{xs}(h1:f ρ=.ok x ρ1)(h2:g ρ1=.ok xs ρ2):UX f g ρ=.ok (x::xs) ρ2:=by exact Zb h1 (Zb h2 zo)
theorem Yu{g}{xs:zw}(h1:g ρ=.ok xs ρ1)(h2:xs.length<=1000000):KI g ρ=.ok (.tuple xs) ρ1:=by exact Zb h1 (by rw[Qr h2];rfl)
theorem Yb{g}{xs:zw}(h1:g ρ=.ok xs ρ1)(h2:xs.length<=1000000):K0 g ρ=.ok (.list xs) ρ1:=by exact Zb h1 (by rw[Qr h2];rfl)
theorem Rs{g}{xs:zw}(h1:g ρ=.ok xs ρ1)(h2:xs.length<=1000000):(Kq g λxs=>if xs.length<=1000000 then U2 xs else λ_=>.bad) ρ=.ok xs ρ1:=
 Zb h1 (by rw[Qr h2];rfl)
theorem K1  {d y r}(h:ρ[i]?=O (O (.pub d)))(h1:g ρ=.ok y ρ1)(h2:oIx d y=O r):Kb i g ρ=.ok r ρ1:=by unfold Kb;rw[h];exact Zb h1 (Yq h2)
theorem We  {ds es:zw}{y r}(h:ρ[i]?=O (O (.own ds)))(h1:g ρ=.ok y ρ1)(h3:ρ1[i]?=O (O (.own es)))(h2:oIx (.list es) y=O r):Kb i g ρ=.ok r ρ1:=by unfold Kb;rw[h];exact Zb h1 (by rw[h3];exact Yq h2)
theorem Yd  {g}{xs}{r}(h1:g ρ=.ok xs ρ1)(h2:p xs=O r):ZW p g ρ=.ok r ρ1:=by exact Zb h1 (Yq h2)
theorem Km   {g}{xs}{r}(h1:g ρ=.ok xs ρ1)(h2:xs.length=n)(h3:F xs=O r):U4 n F g ρ=.ok r ρ1:=by exact Zb h1 (by rw[Qr h2];exact Yq h3)
theorem Tr  (h1:f ρ=.ok (.int i) ρ1):Z7 f ρ=.ok (.int (-i)) ρ1:=by exact Zb h1 zo
theorem ZI   (h:ρ[i]?=O (O (.pub d)))(h2:Kp [d]=O r):Zp i ρ=.ok r ρ:=by unfold Zp;rw[h];exact Yq h2
theorem qh   (h:ρ[i]?=O (O (.own ds))):Zp i ρ=.ok (.int ds.length) ρ:=by unfold Zp;rw[h]
theorem Wn{g}{i}{r}(h1:g ρ=.ok [.int i] ρ1)(h2:RS [.int i]=O r):XE g ρ=.ok r ρ1:=by exact Zb h1 (Yq h2)
theorem Gx{g}{i j}{r}(h1:g ρ=.ok [.int i,.int j] ρ1)(h2:RR [.int i,.int j]=O r):PF g ρ=.ok r ρ1:=by exact Zb h1 (Yq h2)
theorem Wk{g}{xs r}(h1:g ρ=.ok xs ρ1)(h2:RQ xs=O r):Xc g ρ=.ok r ρ1:=by exact Zb h1 (Yq h2)
theorem Te  (h1:f ρ=.ok (.int i) ρ1):(Kq f λx=>Ku (WM x)) ρ=.ok (O i) ρ1:=Zb h1 zo
theorem XG{f:M Bool}{t:Bool}(h1:f ρ=.ok t ρ1):Za f ρ=.ok (!t) ρ1:=KN h1
theorem Wt  (h1:f ρ=.ok (.bool t) ρ1):Ys f ρ=.ok t ρ1:=by exact Zb h1 zo
theorem Cv{f g}{t u}(h1:f ρ=.ok t ρ)(h2:t=zq->g ρ=.ok u ρ):ZU f g ρ=.ok (t&&u) ρ:=by
 refine Zb h1 ?_;cases t with
 |true=>exact h2 zo
 |false=>rfl
theorem Oj  (h1:f ρ=.ok (.bool t) ρ)(h2:t=zq->g ρ=.ok (.bool u) ρ):SZ f g ρ=.ok (.bool (t&&u)) ρ:=by
 refine Zb h1 ?_;cases t with
 |true=>exact h2 zo
 |false=>rfl
theorem Hi  (h1:f ρ=.ok (.bool t) ρ)(h2:t=zr->g ρ=.ok (.bool u) ρ):Vj f g ρ=.ok (.bool (t || u)) ρ:=by
 refine Zb h1 ?_;cases t with
 |false=>exact h2 zo
 |true=>rfl
theorem qg  (h1:f ρ=.ok (.bool t) ρ1):Nh f ρ=.ok (.bool (!t)) ρ1:=by exact Zb h1 zo
theorem Nv{f}{g h:M α}{r}(h1:f ρ=.ok zq ρ1)(h2:g ρ1=r):mIf f g h ρ=r:=by exact Zb h1 (by exact h2)
theorem P5{f}{g h:M α}{r}(h1:f ρ=.ok zr ρ1)(h2:h ρ1=r):mIf f g h ρ=r:=by exact Zb h1 (by exact h2)
theorem Dy{f}{g h}{t}{x y:α}(h1:f ρ=.ok t ρ1)(h2:g ρ1=.ok x ρ1)(h3:h ρ1=.ok y ρ1):mIf f g h ρ=.ok (if t=zq then x else y) ρ1:=by
 refine Zb h1 ?_;cases t with
 |true=>exact h2
 |false=>exact h3
theorem Ma  {x y z}{t u}(h1:f ρ=.ok x ρ)(h2:g ρ=.ok y ρ)(h3:p x y=O t)(h4:t=zq->h ρ=.ok z ρ)(h5:t=zq->q y z=O u):Rj p q f g h ρ=.ok (t&&u) ρ:=by
 refine Zb h1 (Zb h2 (Zb (Yq h3) ?_));cases t with
 |true=>exact Zb (h4 zo) (Yq (h5 zo))
 |false=>rfl
theorem ZA{i j:Int}:Ke (.int i) (.int j)=O (.int (i+j)):=rfl
theorem YW{x y:zw}(h:x.length+y.length<=1000000):Ke (.list x) (.list y)=O (.list (x++y)):=by exact Qr h
theorem Xh{i j:Int}:Zi (.int i) (.int j)=O (.int (i-j)):=rfl
theorem Td  (h1 : -18446744073709551616<i)(h2:i<18446744073709551616):KZ (.int i) (.int j)=O (.int (i*j)):=by exact Qr (.inl ⟨by lia,by lia⟩)
theorem RI{i j}(h1 : -18446744073709551616<j)(h2:j<18446744073709551616):KZ (.int i) (.int j)=O (.int (i*j)):=by exact Qr (.inr ⟨by lia,by lia⟩)
theorem wX{x:zw}{k}(h : -1000000<=k/\k<=1000000/\x.length*k.toNat<=1000000):KZ (.list x) (.int k)=O (.list (UG k.toNat x).flatten):=by exact Qr h
theorem Rr{i j}(h:0<j):YZ (.int i) (.int j)=O (.int (i % j)):=by exact Qr h
theorem jz{i j}(h:0<j)(h2:j<2 ^ 200):Wv (.int i) (.int j)=O (.int (i / j)):=by exact Qr ⟨h,h2⟩
theorem Gw{i j}(h:0<j)(h2:j<18446744073709551616):Wv (.int i) (.int j)=O (.int (i / j)):=jz h (Int.lt_trans h2 (by decide))
theorem qf{i j}(h:0<=j/\j<=1000000/\i.natAbs<2 ^ 64):Vh (.int i) (.int j)=O (.int (i ^ j.toNat)):=by exact Qr h
theorem Hh{p:Int->Int->Bool}{i j:Int}:oIB p (.int i) (.int j)=O (p i j):=rfl
theorem Wj  : oEq (.int i) (.int j)=O (decide (i=j)):=by
 congr 1
theorem Zw{xs:zw}:Kp [.list xs]=O (.int xs.length):=rfl
theorem N8{i j:Int}:SY [.int i,.int j]=O (.int (if j > i then j else i)):=rfl
theorem Ws  (h1:j<=1000000)(h2 : -1000000<=j):RS [.int j]=O (Yp 0 j):=by exact Qr ⟨h1,h2⟩
theorem Fv{i j}(h1:j<=1000000)(h2 : -1000000<=j)(h3:i<=1000000)(h4 : -1000000<=i):RR [.int i,.int j]=O (Yp i j):=by exact Qr ⟨h1,h2,h3,h4⟩
theorem Wg{xs:zw}:RQ [.list xs]=O (Z2 0 xs):=rfl
theorem KM  {d}(h1:f ρ=.ok d ρ1)(h2:i<ρ1.length)(h3:ρ1.set i (O (.pub d))=ρ'):Kg i f ρ=.nx ρ':=by unfold Kg Zh sB gN;simp_all
theorem YQ  {f}{ds}(h1:f ρ=.ok ds ρ1)(h2:i<ρ1.length)(h3:ρ1.set i (O (.own ds))=ρ'):ZC i f ρ=.nx ρ':=by unfold ZC sB;simp_all
theorem V6   {a9 ds}(h0:ρ[i]?=O (O (.own a9)))(h1:f ρ=.ok d ρ1)(h2:ρ1[i]?=O (O (.own ds)))(h3:ds.length<1000000)(h4:ρ1.set i (O (.own (ds++[d])))=ρ'):Z5 i f ρ=.nx ρ':=by unfold Z5 sB;simp_all
theorem Y9   (h1:f ρ=.ok d ρ1)(h2:s d ρ1=O ρ'):Zh f s ρ=.nx ρ':=by unfold Zh sB;simp_all
theorem Y7{d:D}(h1:f ρ=.ok d ρ1):YD f ρ=.nx ρ1:=by unfold YD sB;rw[h1]
theorem U3   (h:i<ρ.length)(h2:ρ.set i (O (.pub d))=ρ'):gN i d ρ=O ρ':=by unfold gN;simp_all
theorem Kx:gN0 [] ρ=O ρ:=rfl
theorem U7     (h1:s d ρ=O ρ1)(h2:t r ρ1=O ρ'):gNC s t (d::r) ρ=O ρ':=by unfold gNC;simp_all
theorem Kw   {ds:zw}(h1:ds.length=n)(h2:t ds ρ=O ρ'):gT n t (.tuple ds) ρ=O ρ':=by unfold gT;simp_all
structure Ho(g:SM)(ρ:UZ)(Q:Out->Prop):Prop where
 out:Q (g ρ)
noncomputable def Dx(h:SM)(Q:Out->Prop):Out->Prop
 |.nx ρ'=>Ho h ρ' Q
 |o=>Q o
structure Nf(h:SM)(Q:Out->Prop)(o:Out):Prop where
 out:Dx h Q o
variable{Q:Out->Prop}{s t u:SM}
theorem Ze(h:Ho s ρ (Nf t Q)):Ho (U0 s t) ρ Q:=by
 have h:=h.out.out;constructor;unfold U0;cases e:s ρ with
 |nx o=>rw[e]at h;exact h.out
 |_=>rw[e]at h;exact h
theorem Kn(h1:s ρ=.nx ρ1)(h2:Ho t ρ1 Q):Ho (U0 s t) ρ Q:=by
 constructor;unfold U0;rw[h1];exact h2.out
theorem YO{o:Out}(h1:s ρ=o)(h2:Q o):Ho s ρ Q:=by constructor;rw[h1];exact h2
theorem Zo(h:Q (.nx ρ)):Ho sNx ρ Q:=⟨h⟩
theorem Zj{o:UZ}(h:Ho t o Q):Nf t Q (.nx o):=⟨h⟩
theorem Tc{d:D}(h:Q (.rt d)):Nf t Q (.rt d):=⟨h⟩
theorem K9{f}{b}(h1:f ρ=.ok b ρ1)(h2:b=zq->Ho s ρ1 Q)(h3:b=zr->Ho t ρ1 Q):Ho (sIf f s t) ρ Q:=by
 constructor;unfold sIf sB;rw[h1];cases b with
 |true=>exact(h2 zo).out
 |false=>exact(h3 zo).out
theorem KJ  (h1:f ρ=.ok d ρ1)(h2:Q (.rt d)):Ho (Kc f) ρ Q:=by constructor;unfold Kc sB;simp_all
theorem qe{P:Out->Prop}(h:Ho s ρ P)(k:∀o,P o->Q o):Ho s ρ Q:=⟨k _ h.out⟩
noncomputable def Dw(I:UZ->Prop)(Q:Out->Prop):Out->Prop
 |.nx ρ | .ct ρ=>I ρ
 |.bk ρ=>Q (.nx ρ)
 |.rt d=>Q (.rt d)
 |.ex ρ d=>Q (.ex ρ d)
 |.ro ds=>Q (.ro ds)
 |.bad=>False
structure SW(I:UZ->Prop)(Q:Out->Prop)(o:Out):Prop where
 out:Dw I Q o
theorem ZD{I:UZ->Prop}(h:I ρ):SW I Q (.nx ρ):=⟨h⟩
theorem OA{I:UZ->Prop}{d:D}(h:Q (.rt d)):SW I Q (.rt d):=⟨h⟩
theorem Z9{f}{tg}{ds}(I:Nat->UZ->Prop)(h1:f ρ=.ok ds ρ1)(h0:I 0 ρ1)
  (hst:∀i d ρ,ds[i]?=O d->I i ρ->∃ρ2,tg d ρ=O ρ2/\Ho s ρ2 (SW (I (i+1)) Q)) (hend:∀ρ,I ds.length ρ->Q (.nx ρ)):Ho (K3 f tg s) ρ Q:=by
 constructor;unfold K3 sB;rw[h1];refine Eu   ds 0 ρ1 h0 (λi d ρ e p=>?_) (λρ p=>hend ρ (by simp_all))
 rw[QK]at p;obtain⟨ρ2,e2,q⟩:=hst i d ρ e p;refine⟨ρ2,e2,?_⟩;rw[QK];have q:=q.out.out;cases z:s ρ2 with
 |nx o=>rw[z]at q;exact .inl ⟨o,.inl zo,q⟩
 |ct o=>rw[z]at q;exact .inl ⟨o,.inr zo,q⟩
 |rt o=>rw[z]at q;exact .inr (.inl ⟨o,rfl,q⟩)
 |bk o=>rw[z]at q;exact .inr (.inr (.inl ⟨o,rfl,q⟩))
 |ex o x=>rw[z]at q;exact .inr (.inr (.inr (.inl ⟨o,x,rfl,q⟩)))
 |ro o=>rw[z]at q;exact .inr (.inr (.inr (.inr ⟨o,rfl,q⟩)))
 |bad=>rw[z]at q;exact q.elim
theorem V5   {P:D->Prop}(h0:Wf N ds=ρ)(h:Ho s ρ λo=>∃d,o=.rt d/\P d):∃d,Kh N s ds=O d/\P d:=by subst h0;obtain⟨d,e,p⟩:=h.out;refine⟨d,?_,p⟩;unfold Kh;rw[e]
theorem K5    (h0:Wf N ds=ρ)(h:Ho s ρ λo=>o=.rt d):Kh N s ds=O d:=by obtain⟨d',e,p⟩:=V5  h0 (qe h λo e=>⟨d,e,rfl⟩);simp_all
end
section
variable{α β:Type}{ρ ρ1 ρ2 ρ3 ρ':UZ}{f g h:M D}
theorem Pc  {x r}{a b}(h1:f ρ=.ok x ρ1)(h2:l ρ1=.ok a ρ2)(h3:u ρ2=.ok b ρ3)(h4:YY x a b=O r):Xn f l u ρ=.ok r ρ3:=by exact Zb h1 (Zb h2 (Zb h3 (Yq h4)))
theorem WX{f g}{u}(h1:f ρ=.ok zr ρ1)(h2:g ρ1=.ok u ρ2):mOr f g ρ=.ok u ρ2:=by exact Zb h1 (by exact h2)
theorem Oi{f g}(h1:f ρ=.ok zr ρ1):ZU f g ρ=.ok zr ρ1:=by exact Zb h1 zo
theorem Rq{f g}{u}(h1:f ρ=.ok zq ρ1)(h2:g ρ1=.ok u ρ2):ZU f g ρ=.ok u ρ2:=by exact Zb h1 (by exact h2)
theorem Ta  {d}{t}(h:f ρ=.ok d ρ1)(ht:(!Zx d c)=t):Za (Ys (Ka (λd=>.bool (Zx d c)) f)) ρ=.ok t ρ1:=by subst ht;exact XG (Wt (KN  h))
theorem Zv   (h1:f ρ=.ok x ρ1)(h2:NS x=O r):K2 f ρ=.ok r ρ1:=by exact Zb h1 (Yq h2)
theorem Yx  {i}{d y}{r:β}(h:ρ[i]?=O (O (.pub d)))(h1:g ρ=.ok y ρ1)(h2:p d y=O r):ZF p i g ρ=.ok r ρ1:=by unfold ZF;rw[h];exact Zb h1 (Yq h2)
theorem jy  {i}{ds es}{y}{r:β}(h:ρ[i]?=O (O (.own ds)))(h1:g ρ=.ok y ρ1)(h3:ρ1[i]?=O (O (.own es)))(h2:p (.list es) y=O r):ZF p i g ρ=.ok r ρ1:=by unfold ZF;rw[h];exact Zb h1 (by rw[h3];exact Yq h2)
theorem Zz{f}{k}{s}{t}{ds es}(h1:f ρ=.ok ds ρ1)(h2:K4 s t g ds (KE ρ1++UG k zp) []=O es):Zd f k s t g ρ=.ok es ρ1:=by unfold Zd;simp_all
theorem Pv   (p)(q)(I:UZ->Prop):∀(ds:zw)(ρ:UZ)(es:zw),(∀d∈ds,∀ρ,I ρ->∃ρ1,s d ρ=O ρ1/\t ρ1=.ok (p d) ρ1/\(p d=zq->g ρ1=.ok (q d) ρ1)/\I (KE ρ1))->I ρ->es.length+ds.length<=1000000 ->
  K4 s t g ds ρ es=O (es++(ds.filter p).map q)
 |[],ρ,es,_,_,_=>by rw[K4];simp
 |d::r,ρ,es,st,h0,hz=>by
  obtain⟨ρ1,e1,e2,e3,h1⟩:=st d Ql ρ h0;have ih:=λes' hz'=>Pv p q I r _ es' (λd' hd=>st d' (Qj _ hd)) h1 hz';rw[Qz]at hz;rw[K4,e1];dsimp only;rw[e2];dsimp only
  cases hp:p d with
  |true=>rw[Qr zo,e3 hp];dsimp only;rw[Qr (by lia),ih _ (by rw[Qi,QX];lia),List.filter_cons_of_pos hp,Q2];rfl
  |false=>rw[QA (by decide),ih _ (by lia),List.filter_cons_of_neg (by rw[hp];decide)]
theorem Oh  {d}{k}{a9 ds}(h1:f ρ=.ok d ρ1)(h0:ρ1[j]?=O (O (.own a9)))(h2:g ρ1=.ok (.int k) ρ2)(h3:ρ2[j]?=O (O (.own ds)))(h4:0<=k/\k<ds.length)(h5:ρ2.set j (O (.own (ds.set k.toNat d)))=ρ'):Tn j g f ρ=.nx ρ':=by unfold Tn sB;simp_all
theorem Pp{xs:zw}{a b:zC}:YY (.list xs) a b=O (.list (DL.cutD xs a b)):=rfl
theorem Z0{xs:zw}:NS (.list xs)=O xs:=rfl
theorem yF(bs):Tf (bs.map UI)=O bs:=by
 induction bs with
 |nil=>rfl
 |cons b r ih=>rw[Qv,Tf,ih];rfl
theorem qO{bs:List Bool}:YG [.list (bs.map UI)]=O (.bool (bs.all id)):=by unfold YG;dsimp only;rw[yF];rfl
end
section
variable{α β:Type}{ρ ρ1 ρ2 ρ3 ρ4 ρ':UZ}{f g h:M D}{s:SM}
theorem Cu{g}{xs r}(h1:g ρ=.ok xs ρ1)(h2:Wu xs=O r):SH g ρ=.ok r ρ1:=by exact Zb h1 (Yq h2)
theorem Ct  {xs:zw}(h1:f ρ=.ok (.list xs) ρ1)(h2:l ρ1=.ok zp ρ2)(h3:u ρ2=.ok zp ρ3)(h4:t ρ3=.ok (O (-1)) ρ4):SI f l u t ρ=.ok (.list xs.reverse) ρ4:=by exact Zb h1 (Zb h2 (Zb h3 (Zb h4 (Yq (by unfold TJ;exact Qr zo)))))
theorem Po    (h:ρ[i]?=O (O (.pub d)))(h2:Tl [d]=O ds):WY i ρ=.ok ds ρ:=by unfold WY;rw[h];exact Yq h2
theorem Pb   (h0:Wf N ds=ρ)(h:Ho s ρ λo=>∃ρ',o=.nx ρ'):Kh N s ds=O .none:=by subst h0;obtain⟨ρ',e⟩:=h.out;unfold Kh;rw[e]
theorem Ow  : oNe (.int i) (.int j)=O (!decide (i=j)):=by
 congr 1
theorem jw{xs:zu}{a b:Int}(ha:0<=a)(hb:0<=b)(hl:b<=xs.length):DL.cutD (xs.map int) (O a) (O b)=((xs.drop a.toNat).take (b.toNat-a.toNat)).map int:=by
 unfold DL.cutD HT.sIx;dsimp only;rw[QA (by lia),QA (by lia),Qb,List.map_take];have e2:min b.toNat xs.length=b.toNat:=by lia
 rw[e2];by_cases hab:a.toNat<=xs.length
 .simp_all
 .have e3:b.toNat-a.toNat=0:=by lia
  grind
end
section
variable{ρ ρ1:UZ}
theorem Fu   (h1:g ρ=.ok xs ρ1)(h2:Rh xs=O r):Nw g ρ=.ok r ρ1:=by exact Zb h1 (Yq h2)
theorem Et{xs:zw}:Rh [.list xs]=O (Z2 1 xs):=rfl
end
section
variable{X:Cx}{B G0:Hp}{KX:XW}{e o a b c tg i:UA}{pos p2:Pos}{es rest:zy}
noncomputable def WW(f:M Bool)(g:SM):Nat->SM
 |0,_=>.bad
 |n+1,ρ=>match f ρ with
  |.bad=>.bad
  |.ok t ρ1=>if t=zq then(match g ρ1 with
   |.nx ρ2=>WW f g n ρ2
   |.ct ρ2=>WW f g n ρ2
   |.bk ρ2=>.nx ρ2
   |.rt d=>.rt d
   |.ro ds=>.ro ds
   |.ex ρ2 d=>.ex ρ2 d
   |.bad=>.bad)else .nx ρ1
theorem jv  {f}{g}(n)(hp:PassesOwn (model X.prog X.w) X.A X.env X.xe)(hc:PT X c (tBo X.K B G0 f))(hb:PSs X body (tS X.K B G0 KX g)):PS X (.While c body [] pos) (tS X.K B G0 KX (WW f g n)):=
 ZH (kX hp hc hb) λDn σ H ⟨G,ρ,k,a⟩=>by
  refine⟨λm σ' H'=>∃G' ρ',EOk X.K B G0 G' H' σ' ρ'/\aftS X.K B G0 KX (WW f g m ρ') G' Dn,⟨n,G,ρ,k,a⟩,?_⟩;rintro m σ' H' ⟨G',ρ',k',a'⟩;cases m with
  |zero=>exact a'.elim
  |succ m=>
   rw[WW]at a';refine⟨G',ρ',k',?_⟩;cases z:f ρ' with
   |bad=>rw[z]at a';exact a'.elim
   |ok t ρ1=>
    rw[z]at a';dsimp only at a';intro v G1 H1 k1 s1 e1;subst e1;cases v with
    |false=>exact a' _ G1 H1 k1 s1
    |true=>
     refine⟨λσ2 H2=>∃G2 ρ2,EOk X.K B G0 G2 H2 σ2 ρ2/\aftS X.K B G0 KX _ G2 Dn,λσ2 H2 h2=>⟨m,JT m,h2⟩,G1,ρ1,k1,?_⟩;cases z2:g ρ1 with
     |nx ρ2=>rw[z2]at a';exact λσ4 G4 H4 k4 s4=>⟨G4,ρ2,k4,aftS.mono (s1.trans s4) a'⟩
     |ct ρ2=>rw[z2]at a';exact λσ4 G4 H4 k4 s4=>⟨G4,ρ2,k4,aftS.mono (s1.trans s4) a'⟩
     |bk ρ2=>rw[z2]at a';exact λσ4 G4 H4 k4 s4=>a' σ4 G4 H4 k4 (s1.trans s4)
     |rt d=>rw[z2]at a';exact a'
     |ro ds=>rw[z2]at a';exact a'
     |ex ρ2 d=>rw[z2]at a';exact λv σ4 G4 H4 k4 s4 r4=>a' v σ4 G4 H4 k4 (s1.trans s4) r4
     |bad=>rw[z2]at a';exact a'.elim
noncomputable def XM(op:Int->Int->zx)(j:Nat)(f:M D):SM:=λρ=>match ρ[j]? with
 |some (O (.pub (.int a)))=>sB f (λy ρ1=>match y with
  |.int b=>(match op a b with
   |some d=>if j<ρ1.length then .nx (ρ1.set j (O (.pub d)))else .bad
   |none=>.bad)
  |_=>.bad) ρ
 |_=>.bad
def IpD(X:Cx)(op:Operator)(p:Int->Int->zx):Prop:=∃ti,PIp X op ti/\∀i j d,p i j=O d->∃v:V,(∀G,Rep X.K G v d)/\∀H(Q:VK),Q v H->ti (.int i) (.int j) H Q
theorem qN:IpD X .Mult Xm:=⟨_,jc,λi j d e=>by
 unfold Xm at e;split at e
 .rename_i h
  cases e;exact⟨_,λ_=>.int _,λH Q q=>⟨i,j,rfl,rfl,h,q⟩⟩
 simp_all⟩
theorem Cs  {x:Str}{op}{p}{f:M D}{pos':Pos}(hN:X.N.Nodup)(hi:X.N[j]?=O x)(hx:Loc X.env.scope x)(ho:IpD X op p)(he:PE X e (tD X.K B G0 f))(hf:X.fn x=zq∨X.env.scope.names.lookup x=O .local:=by first|exact .inl rfl|exact .inr rfl|assumption) :
  PS X (.AugAssign (.Name x pos') op e pos) (tS X.K B G0 KX (XM p j f)):=by
 obtain⟨ti,hti,hp⟩:=ho;refine ZH (AF hN hi hx he hti hf) λDn σ H ⟨G,ρ,k,a⟩=>?_;unfold XM at a
 cases q:ρ[j]? with
 |none=>rw[q]at a;exact a.elim
 |some o0=>
  cases o0 with
  |none=>rw[q]at a;exact a.elim
  |some sl=>
   cases sl with
   |deep _ _=>rw[q]at a;exact a.elim
   |own ds=>rw[q]at a;exact a.elim
   |pub d0=>
    rw[q]at a;cases d0 with
    |int i0=>
     dsimp only at a;obtain⟨v,h1,h2⟩:=k.pub j _ q;cases h2.int_inv;refine⟨.int i0,h1,G,ρ,k,?_⟩;unfold sB at a;cases z:f ρ with
     |bad=>rw[z]at a;exact a.elim
     |ok y ρ1=>
      rw[z]at a;intro u G1 H1 k1 s1 r1;cases y with
      |int i1=>
       cases r1.int_inv;dsimp only at a;cases w:p i0 i1 with
       |none=>rw[w]at a;exact a.elim
       |some d=>
        rw[w]at a;dsimp only at a;split at a
        .rename_i hl
         obtain⟨v',rv,hq⟩:=hp i0 i1 d w;exact hq H1 _ (a _ G1 H1 (k1.setPub (rv G1) hl) s1)
        .exact a.elim
      |_=>exact a.elim
    |_=>exact a.elim
end
section
variable{X:Cx}{B G0:Hp}{e o a b c tg i:UA}{pos p2:Pos}{es rest:zy}
theorem vF(hc:X.calm=zq):Xe X (.builtin "sum") (λxs H Q=>∃l,∃ns:zu,xs=[.ref l]/\SqL X.K H l (ns.map V.int)/\Q (.int ns.sum) H):=by
 intro pins s σ H xs us Q I rx h;obtain⟨l,ns,rfl,hq,q⟩:=h;obtain⟨u,rfl,ru⟩:=rx.one;cases ru;obtain⟨its,rv,p,hz⟩:=I.list hq;have hi:=Ve rv;obtain⟨ys,e⟩:=hi.allInts.items;have hns:ns=ys.toList.map (·.1):=by rw[←hi.numsOf,←nums_intItems,←e]
 have hl:=p.isList;rw[e]at hl;refine sum_intListG (I.ok.hd hc) hl λh' tk t' hk=>?_
 have e2:preSum (numAt ys) ys.size=ns.sum:=by rw[preSum_eq,List.take_of_length_le (by simp),hns]
 rw[e2];exact⟨.int ns.sum,H,I.kept hk,⟨t',rfl⟩,q⟩
noncomputable def VZ:zw->zx
 |[.list ds]=>(Yr ds).map λns=>.int ns.sum
 |_=>zp
theorem vE   (h:VZ xs=O d):∃ds ns,xs=[.list ds]/\Yr ds=O ns/\d=.int ns.sum:=by
 unfold VZ at h;split at h
 .rename_i ds
  cases z:Yr ds with
  |none=>simp_all
  |some ns=>simp_all
 simp_all
theorem Cr(hc:X.calm=zq):XF X (.builtin "sum") VZ:=by refine⟨_,vF hc,λvs G H ds d Q s r e k=>?_⟩;obtain⟨ds,ns,rfl,z,rfl⟩:=vE e;obtain⟨v,rfl,q1⟩:=r.one_inv;obtain⟨l,ws,rfl,h1,r1⟩:=q1.lst_inv;have:=RJ r1 z;subst this;exact⟨l,ns,rfl,s.seq h1,k _ G H (.refl s) (.int _)⟩
theorem Ft{ns:zu}:VZ [.list (ns.map .int)]=O (.int ns.sum):=by unfold VZ;dsimp only;rw[RL];rfl
theorem vD:MtR X "list.index" (λv vs H Q=>∃l k,∃ns:zu,v=.ref l/\vs=[.int k]/\SqL X.K H l (ns.map V.int)/\PyData.layable0 (.list (ns.map .int))=zq/\k∈ns/\Q (.int (ns.idxOf k:Nat)) H):=by intro pins s σ H x vs v us Q I rx rv h;obtain⟨l,k,ns,rfl,rfl,hq,hl,hk,q⟩:=h;cases rx;obtain⟨u,rfl,ru⟩:=rv.one;obtain⟨t,rfl⟩:=ru;obtain⟨its,rv,p,hz⟩:=I.list hq;exact index_list_ints p.isList (Ve rv) hl hk ⟨.int _,H,I.tok _,⟨_,rfl⟩,q⟩
noncomputable def Rp(y:D)(xs:zw):zx:=match y,xs with
 |.list ds,[.int k]=>(match Yr ds with
  |some ns=>if PyData.layable0 (.list (ns.map .int))=zq/\k∈ns then O (.int (ns.idxOf k:Nat))else zp
  |none=>zp)
 |_,_=>zp
theorem yE{ds xs:zw}{d}(h:Rp (.list ds) xs=O d):∃k ns,xs=[.int k]/\Yr ds=O ns/\PyData.layable0 (.list (ns.map .int))=zq/\k∈ns/\d=.int (ns.idxOf k:Nat):=by
 unfold Rp at h;split at h
 .rename_i ds' k e1
  cases e1;cases z:Yr ds with
  |none=>simp_all
  |some ns=>simp_all
 simp_all
noncomputable def P4(f:M D)(g:M zw):M D:=Kq f λy=>Kq g λxs=>Ku (match y with | .list ds=>Rp (.list ds) xs|_=>zp)
theorem vC{apos cpos}{f}{g}(ho:PE X o (tD X.K B G0 f))(ha:PA X (e::es) (tDs X.K B G0 g))
  (hbase:attributeBase o "index" X.env (eval o X.env)=eval o X.env:=by rfl)
  (hfew:((backTo cpos (UD (e::es) X.env)).all (λx=>!x.1)&&(backToKw cpos (keywordEach [] X.env)).all (λx=>x.1.isSome)
   && decide ((e::es).length+([]:List Keyword).length+(if([]:List Keyword).isEmpty then 0 else 1)<30))=zq:=by rfl)
  (hline:(apos.endLine==cpos.line)=zq:=by rfl) (hs:UD (e::es) X.env=(zr,eval e X.env)::UD es X.env:=by rfl) (hplain:(backTo cpos (UD es X.env)).any (·.1)=zr:=by rfl) :
  PE X (.Call (.Attribute o "index" apos) (e::es) [] cpos) (tD X.K B G0 (P4 f g)):=
 KF (Nj F.plainAttrs_list F.slot_list_index F.type_list_index vD ho ha hbase hfew hline hs hplain) λσ H Q q=>by
  refine tM.one  q λv H2 G ρ y k r a=>?_
  cases y with
  |list ds=>
   obtain⟨l,ws,rfl,h1,r1⟩:=r.lst_inv;refine⟨.inl ⟨rfl,ws,k.gh.seq h1⟩,?_⟩;refine tM.nx  k a λxs H3 G3 ρ3 es k3 s3 r3 a3=>?_
   obtain⟨d,e,a3⟩:=a3.opt;obtain⟨x,ns,rfl,z,hl,hk,rfl⟩:=yE e;obtain⟨u,rfl,ru⟩:=r3.one_inv;have:=RJ r1 z;subst this;exact⟨l,x,ns,rfl,by rw[ru.int_inv],k3.gh.seq (s3.seq h1),hl,hk,aft.now a3 k3 (.int _)⟩
  |_=>
   unfold Kq at a;cases z:g ρ with
   |bad=>rw[z]at a;exact a.elim
   |ok xs ρ1=>rw[z]at a;exact a.elim
theorem ju   {ρ ρ1 ρ2}{ds:zw}{x d}(h1:f ρ=.ok (.list ds) ρ1)(h2:g ρ1=.ok [x] ρ2)(h3:Rp (.list ds) [x]=O d):P4 f g ρ=.ok d ρ2:=by unfold P4 Kq;rw[h1];dsimp only;rw[h2];dsimp only;rw[h3];rfl
end
end DL
namespace DL
open PySem PySem.Spec PySem.W PyProof.Rows
noncomputable def Kv{α:Type}(lt:Nat->Nat->Bool):KasT α->α
 |.ret a=>a
 |.ask i j k=>Kv lt (k (lt i j))
theorem RD   {f:α->KasT β}:∀t:KasT α,Kv lt (t.bind f)=Kv lt (f (Kv lt t))
 |.ret _=>rfl
 |.ask i j k=>by show Kv lt ((k _).bind f)=_;rw[RD];rfl
section
variable{key:Nat->Int}{p:Array Nat}
noncomputable def KA(key:Nat->Int)(p:Array Nat)(i:Nat):Int:=key (p.getD i 0)
def srt(key:Nat->Int)(p:Array Nat)(m:Nat):Prop:=∀i j,i<=j->j<m->KA key p i<=KA key p j
def dsc(key:Nat->Int)(p:Array Nat)(m:Nat):Prop:=∀i j,i<=j->j<m->KA key p j<=KA key p i
noncomputable abbrev kl(key:Nat->Int)(i j:Nat):Bool:=decide (key i<key j)
theorem Es  (hk:k<p.size)(hd:d<=k):KA key (bubble p k d) i=if i=k-d then KA key p k else if k-d<i/\i<=k then KA key p (i-1)else KA key p i:=by
 unfold KA;simp only[Jz];rw[getElem?_bubble hk d hd]
 repeat' split
 all_goals rfl
theorem Pa{i j k}(hj:j<=p.size):KA key (kas_rev p i j) k=if i<=k/\k<j then KA key p (i+j-1-k)else KA key p k:=by
 unfold KA kas_rev;simp only[Jz];rw[getElem?_mirror_all hj]
 split<;>rfl
theorem TD{i j:Nat}:(kas_rev p i j).size=p.size:=mirror_size _ _ _ _
theorem Vf{i j:Nat}:(kas_rev p i j).Perm p:=mirror_perm _ _ _ _
theorem Mt:∀(f n:Nat),1<=n->srt key p n->srt key p (Kv (kl key) (kas_asc p f n))/\n<=Kv (kl key) (kas_asc p f n)/\Kv (kl key) (kas_asc p f n)<=n+f /\
  (Kv (kl key) (kas_asc p f n)<n+f->KA key p (Kv (kl key) (kas_asc p f n))<KA key p (Kv (kl key) (kas_asc p f n)-1))
 |0,n,h1,hs=>⟨hs,Qx _,Qx _,λh=>absurd h (Jt _)⟩
 |f+1,n,h1,hs=>by
  unfold kas_asc Kv;cases c:kl key (p.getD n 0) _ with
  |true=>exact⟨hs,Qx _,by show n<=n+(f+1);lia,λ_=>Qa c⟩
  |false=>
   dsimp only;rw[QA (by decide)];have hle   :=Uu.mp (Jq c)
   obtain⟨a1,a2,a3,a4⟩:=Mt f (n+1) (by lia) (λi j hij hj=>by
    by_cases aX:j=n
    .subst aX
     by_cases hin:i=j
     .subst hin;exact Jd _
     .exact J0 (hs i (j-1) (by lia) (by lia)) hle
    .exact hs i j hij (by lia))
   exact⟨a1,by lia,by lia,λh=>a4 (by lia)⟩
def eqs(key:Nat->Int)(p:Array Nat)(n q:Nat):Prop:=∀i,n-1-q<=i->i<n->KA key p i=KA key p (n-1)
theorem OX:∀(f:Nat)(p:Array Nat)(n q:Nat),1<=n->q+1<=n->n+f<=p.size->dsc key p n->eqs key p n q ->
  let r:=Kv (kl key) (kas_desc f p n q)
  r.1.Perm p/\r.1.size=p.size/\dsc key r.1 r.2.1/\eqs key r.1 r.2.1 r.2.2/\r.2.2+1<=r.2.1/\n<=r.2.1/\r.2.1<=n+f
 |0,p,n,q,h1,hq,hz,hd,he=>⟨Ur _,rfl,hd,he,hq,Qx _,Qx _⟩
 |f+1,p,n,q,h1,hq,hz,hd,he=>by
  intro r;have hr:r=Kv (kl key) (kas_desc (f+1) p n q):=rfl;unfold kas_desc Kv at hr;cases c:kl key (p.getD n 0) (p.getD (n-1) 0)with
  |true=>
   rw[c]at hr;(try dsimp only at hr);rw[if_pos zo]at hr;have hlt:KA key p n<KA key p (n-1):=Qa c
   have ext:∀p':Array Nat,(∀i,KA key p' i=KA key p i)->dsc key p' (n+1)/\eqs key p' (n+1) 0:=λp' hp=>⟨λi j hij hj=>by
     rw[hp,hp];by_cases aX:j=n
     .subst aX
      by_cases hin:i=j
      .subst hin;exact Jd _
      .exact J0 (Int.le_of_lt hlt) (hd i (j-1) (by lia) (by lia))
     .exact hd i j hij (by lia),λi hi1 hi2=>by
     have:i=n:=by lia
     subst this;rfl⟩
   by_cases hq0:q > 0
   .rw[Qr hq0]at hr
    have same:∀i,KA key (kas_rev p (n-(q+1)) n) i=KA key p i:=λi=>by
     rw[Pa (by lia)];split
     .rw[he _ (by lia) (by lia),he i (by lia) (by lia)]
     .rfl
    obtain⟨d1,e1⟩:=ext _ same;obtain⟨a1,a2,a3,a4,a5,a6,a7⟩:=OX f (kas_rev p (n-(q+1)) n) (n+1) 0 (by lia) (by lia) (by rw[TD];lia) d1 e1;rw[←hr]at a1 a2 a3 a4 a5 a6 a7;exact⟨a1.trans Vf,a2.trans TD,a3,a4,a5,by lia,by lia⟩
   .rw[QA hq0]at hr
    obtain⟨d1,e1⟩:=ext p λ_=>rfl
    obtain⟨a1,a2,a3,a4,a5,a6,a7⟩:=OX f p (n+1) 0 (by lia) (by lia) (by lia) d1 e1;rw[←hr]at a1 a2 a3 a4 a5 a6 a7;exact⟨a1,a2,a3,a4,a5,by lia,by lia⟩
  |false=>
   rw[c]at hr;(try dsimp only at hr);rw[if_neg (by decide)]at hr;unfold Kv at hr;have hle:KA key p (n-1)<=KA key p n:=Uu.mp (Jq c);cases d:kl key (p.getD (n-1) 0) (p.getD n 0)with
   |true=>rw[d]at hr;(try dsimp only at hr);rw[if_pos zo]at hr;unfold Kv at hr;rw[hr];exact⟨Ur _,rfl,hd,he,hq,Qx _,by show n<=n+(f+1);lia⟩
   |false=>
    rw[d]at hr;(try dsimp only at hr);rw[if_neg (by decide)]at hr;have hge:KA key p n<=KA key p (n-1):=Uu.mp (Jq d)
    obtain⟨a1,a2,a3,a4,a5,a6,a7⟩:=OX f p (n+1) (q+1) (by lia) (by lia) (by lia) (λi j hij hj=>by
     by_cases aX:j=n
     .subst aX
      by_cases hin:i=j
      .subst hin;exact Jd _
      .exact J0 hge (hd i (j-1) (by lia) (by lia))
     .exact hd i j hij (by lia)) (λi hi1 hi2=>by
     have e0:KA key p n=KA key p (n-1):=JY hge hle;rw[Nat.add_sub_cancel,e0];by_cases hin:i=n
     .subst hin;exact e0
     .exact he i (by lia) (by lia))
    rw[←hr]at a1 a2 a3 a4 a5 a6 a7;exact⟨a1,a2,a3,a4,a5,by lia,by lia⟩
theorem Da  (h1:1<=n)(hn:n<=nrem)(hz:nrem<=p.size)(hd:dsc key p n) :
  let r:=Kv (kl key) (kas_tail3 n nrem p)
  r.2.Perm p/\r.2.size=p.size/\srt key r.2 r.1/\1<=r.1/\r.1<=nrem:=by
 intro r;have hr:r=Kv _ _:=rfl;unfold kas_tail3 at hr;rw[RD]at hr;have hs:srt key (kas_rev p 0 n) n:=λi j hij hj=>by rw[Pa (by lia),Pa (by lia),Qr (by lia),Qr (by lia)];exact hd _ _ (by lia) (by lia)
 obtain⟨a1,a2,a3,_⟩:=Mt   _ n h1 hs;rw[hr];exact⟨Vf,TD,a1,by show 1<=Kv _ _;lia,by show Kv _ _<=_;lia⟩
theorem Dp{n nrem:Nat}(h1:1<=n)(hn:n+1<=nrem)(hz:nrem<=p.size)(hd:dsc key p (n+1)) :
  let r:=Kv (kl key) (kas_descPart n nrem p)
  r.2.Perm p/\r.2.size=p.size/\srt key r.2 r.1/\1<=r.1/\r.1<=nrem:=by
 intro r;have hr:r=Kv (kl key) _:=rfl;unfold kas_descPart at hr;rw[RD]at hr
 obtain⟨a1,a2,a3,a4,a5,a6,a7⟩:=OX (key:=key) (nrem-(n+1)) p (n+1) 0 (by lia) (by lia) (by lia) hd (λi hi1 hi2=>by
  have:i=n:=by lia
  subst this;rfl)
 generalize Kv (kl key) (kas_desc _ p (n+1) 0)=d at hr a1 a2 a3 a4 a5 a6 a7;obtain⟨p1,n1,q1⟩:=d;dsimp only at hr a1 a2 a3 a4 a5 a6 a7;by_cases hq:q1 > 0
 .rw[Qr hq]at hr
  have same:∀i,KA key (kas_rev p1 (n1-(q1+1)) n1) i=KA key p1 i:=λi=>by
   rw[Pa (by lia)];split
   .rw[a4 _ (by lia) (by lia),a4 i (by lia) (by lia)]
   .rfl
  obtain⟨b1,b2,b3,b4,b5⟩:=Da (key:=key) (p:=kas_rev p1 (n1-(q1+1)) n1) (n:=n1) (nrem:=nrem) (by lia) (by lia) (by rw[TD];lia) (λi j hij hj=>by rw[same,same];exact a3 i j hij hj);rw[hr];exact⟨(b1.trans Vf).trans a1,(b2.trans TD).trans a2,b3,b4,b5⟩
 .rw[QA hq]at hr
  obtain⟨b1,b2,b3,b4,b5⟩:=Da (key:=key) (p:=p1) (n:=n1) (nrem:=nrem) (by lia) (by lia) (by lia) a3;rw[hr];exact⟨b1.trans a1,b2.trans a2,b3,b4,b5⟩
theorem wl{nrem:Nat}(h1:1<=nrem)(hz:nrem<=p.size) :
  let r:=Kv (kl key) (kas_count nrem p)
  r.2.Perm p/\r.2.size=p.size/\srt key r.2 r.1/\1<=r.1/\r.1<=nrem:=by
 intro r;have hr:r=Kv (kl key) (kas_count nrem p):=rfl;unfold kas_count at hr;rw[RD]at hr
 obtain⟨a1,a2,a3,a4⟩:=Mt (key:=key) (p:=p) (nrem-1) 1 (Qx _) (λi j hij hj=>by
  have:i=j:=by lia
  subst this;exact Jd _)
 generalize Kv (kl key) (kas_asc p (nrem-1) 1)=n at hr a1 a2 a3 a4;by_cases hn:(n==nrem)=zq
 .rw[Qr hn]at hr
  unfold Kv at hr;rw[hr];exact⟨Ur _,rfl,a1,a2,by show n<=nrem;lia⟩
 .rw[QA hn]at hr
  have hlt:=a4 (by lia);by_cases hn1:n > 1
  .rw[Qr hn1]at hr
   unfold Kv at hr;cases c:kl key (p.getD 0 0) (p.getD (n-1) 0)with
   |true=>rw[c]at hr;(try dsimp only at hr);rw[if_pos zo]at hr;unfold Kv at hr;rw[hr];exact⟨Ur _,rfl,a1,a2,by show n<=nrem;lia⟩
   |false=>
    rw[c]at hr;(try dsimp only at hr);rw[if_neg (by decide)]at hr;have hge:KA key p (n-1)<=KA key p 0:=Uu.mp (Jq c);have all   :=λi hi=>JY (J0 (a1 i (n-1) (by lia) (by lia)) hge) (a1 0 i (by lia) hi)
    have same:∀i,KA key (kas_rev p 0 n) i=KA key p i:=λi=>by
     rw[Pa (by lia)];split
     .rw[all _ (by lia),all i (by lia)]
     .rfl
    obtain⟨b1,b2,b3,b4,b5⟩:=Dp (key:=key) (p:=kas_rev p 0 n) (n:=n) (nrem:=nrem) a2 (by lia) (by rw[TD];exact hz) (λi j hij hj=>by
     rw[same,same];by_cases aX:j=n
     .subst aX
      by_cases hin:i=j
      .subst hin;exact Jd _
      .rw[all i (by lia)]
       rw[all (j-1) (by lia)]at hlt;exact Int.le_of_lt hlt
     .rw[all i (by lia),all j (by lia)];exact Jd _)
    rw[hr];exact⟨b1.trans Vf,b2.trans TD,b3,b4,b5⟩
  .rw[QA hn1]at hr
   have:n=1:=by lia
   subst this
   obtain⟨b1,b2,b3,b4,b5⟩:=Dp (key:=key) (p:=p) (n:=1) (nrem:=nrem) (Qx _) (by lia) hz (λi j hij hj=>by
    by_cases hij2:i=j
    .subst hij2;exact Jd _
    .have h0:i=0:=by lia
     have h1:j=1:=by lia
     subst h0;subst h1;exact Int.le_of_lt hlt)
   rw[hr];exact⟨b1,b2,b3,b4,b5⟩
theorem M6{k:Nat}(hs:srt key p k):∀(f l r:Nat),l<=r->r<=k->r-l<=f->(∀i,i<l->KA key p i<=KA key p k)->(∀i,r<=i->i<k->KA key p k<KA key p i) ->
  let m:=Kv (kl key) (kas_place p k f l r)
  m<=k/\(∀i,i<m->KA key p i<=KA key p k)/\(∀i,m<=i->i<k->KA key p k<KA key p i)
 |0,l,r,hlr,hrk,hf,h1,h2=>⟨by show l<=k;lia,h1,λi (hi:l<=i)=>h2 i (by lia)⟩
 |f+1,l,r,hlr,hrk,hf,h1,h2=>by
  intro m;have hm:m=Kv (kl key) _:=rfl;unfold kas_place at hm;by_cases hge:l ≥ r
  .rw[Qr hge]at hm
   unfold Kv at hm;rw[hm];exact⟨by lia,h1,λi hi=>h2 i (by lia)⟩
  .rw[QA hge]at hm
   unfold Kv at hm;cases c:kl key (p.getD k 0) (p.getD ((l+r) / 2) 0)with
   |true=>rw[c]at hm;rw[hm];have hlt   :=Qa c;exact M6 hs f l ((l+r) / 2) (by lia) (by lia) (by lia) h1 λi hi hik=>Int.lt_of_lt_of_le hlt (hs _ _ hi hik)
   |false=>rw[c]at hm;(try dsimp only at hm);rw[hm];have hle   :=Uu.mp (Jq c);exact M6 hs f ((l+r) / 2+1) r (by lia) hrk (by lia) (λi hi=>J0 (hs i ((l+r) / 2) (by lia) (by lia)) hle) h2
theorem Fs:∀(f:Nat)(p:Array Nat)(k:Nat),k+f<=p.size->srt key p k->let r:=Kv (kl key) (kas_bin f p k);r.Perm p/\r.size=p.size/\srt key r (k+f)
 |0,p,k,_,hs=>⟨Ur _,rfl,hs⟩
 |f+1,p,k,hz,hs=>by
  intro r;have hr:r=Kv (kl key) _:=rfl;unfold kas_bin at hr;rw[RD]at hr;obtain⟨a1,a2,a3⟩:=M6 (key:=key) hs k 0 k (Uh _) (Qx _) (by omega) (λi hi=>by omega) (λi h1 h2=>by omega);generalize Kv (kl key) (kas_place p k k 0 k)=l at hr a1 a2 a3;have hk:k<p.size:=by omega
  obtain⟨b1,b2,b3⟩:=Fs f (bubble p k (k-l)) (k+1) (by rw[bubble_size];omega) (λi j hij hj=>by
   rw[Es hk (by omega),Es hk (by omega),show k-(k-l)=l by omega];by_cases hi:i=l
   .rw[Qr hi]
    by_cases az:j=l
    .rw[Qr az];exact Jd _
    .rw[QA az,Qr (by omega)]
     exact Int.le_of_lt (a3 (j-1) (by omega) (by omega))
   .rw[QA hi]
    by_cases hi2:l<i/\i<=k
    .rw[Qr hi2,QA (show ¬j=l by omega),Qr (by omega)]
     exact hs _ _ (by omega) (by omega)
    .rw[QA hi2]
     by_cases az:j=l
     .rw[Qr az];exact a2 i (by omega)
     .rw[QA az]
      split
      .exact hs _ _ (by omega) (by omega)
      .exact hs _ _ (by omega) (by omega))
  rw[hr];exact⟨b1.trans (bubble_perm _ _ _),b2.trans (bubble_size _ _ _),by rw[show k+(f+1)=k+1+f by omega];exact b3⟩
theorem vA{n:Nat}(h1:1<=n):let r:=Kv (kl key) (kas_sort n);r.Perm (List.toArray (UF n))/\r.size=n/\srt key r n:=by
 intro r;have hr:r=Kv (kl key) _:=rfl;unfold kas_sort at hr;rw[RD]at hr;have hsz:(List.toArray (UF n)).size=n:=by simp
 obtain⟨a1,a2,a3,a4,a5⟩:=wl   (nrem:=n) h1 (by rw[hsz];exact Qx _);generalize Kv (kl key) (kas_count n _)=d at hr a1 a2 a3 a4 a5;by_cases hlt:d.1<n
 .rw[Qr hlt]at hr
  have hmax:max d.1 1=d.1:=by lia
  rw[hmax]at hr;obtain⟨b1,b2,b3⟩:=Fs  (n-d.1) d.2 d.1 (by lia) a3;rw[hr];exact⟨b1.trans a1,by lia,by rw[show d.1+(n-d.1)=n by lia]at b3;exact b3⟩
 .rw[QA hlt]at hr
  unfold Kv at hr;rw[hr];exact⟨a1,by lia,by rw[show d.1=n by lia]at a3;exact a3⟩
noncomputable def Asks{α:Type}(N:Nat)(R:α->Prop):KasT α->Prop
 |.ret a=>R a
 |.ask i j k=>i<N/\j<N/\∀b,Asks N R (k b)
theorem Asks.bind   {R:α->Prop}{S:β->Prop}{f}(hf:∀a,R a->Asks N S (f a)):∀{t},Asks N R t->Asks N S (t.bind f)
 |.ret a,h=>hf a h
 |.ask _ _ k,⟨h1,h2,h3⟩=>⟨h1,h2,λb=>Asks.bind hf (h3 b)⟩
theorem Fq   {cmp}{s}{N}{R}(hc:∀i j C,i<N->j<N->C (lt i j) s->cmp i j C s):∀(t:KasT α)(Q),Asks N R t->Q (Kv lt t) s->t.kasWp cmp Q s
 |.ret _,_,_,h=>h
 |.ask i j k,Q,⟨h1,h2,h3⟩,h=>hc i j _ h1 h2 (Fq hc _ Q (h3 _) h)
def bnd(N:Nat)(p:Array Nat):Prop:=∀i,p.getD i 0<N
theorem RH  {p q}(hN:0<N)(h:bnd N p)(e:q.Perm p):bnd N q:=λi=>by
 rw[Jz];cases z:q[i]? with
 |none=>simp_all
 |some v=>have hm   :=Array.mem_of_getElem? z;have hm2   :=e.mem_iff.mp hm;obtain⟨j,hj,e2⟩:=Array.mem_iff_getElem.mp hm2;have:=h j;simp_all
section
variable{N:Nat}(hN:0<N)
include hN
theorem Ms{p}(h:bnd N p):∀(f n),Asks N (λ_=>True) (kas_asc p f n)
 |0,_=>trivial
 |f+1,n=>⟨h _,h _,λb=>by
  cases b with
  |true=>trivial
  |false=>exact Ms h f _⟩
theorem OW:∀(f)(p)(n q),bnd N p->Asks N (λr=>bnd N r.1) (kas_desc f p n q)
 |0,p,_,_,h=>h
 |f+1,p,n,q,h=>⟨h _,h _,λb=>by
  cases b with
  |true=>
   dsimp only;rw[Qr zo];split
   .exact OW f _ _ _ (RH hN h Vf)
   .exact OW f _ _ _ h
  |false=>
   refine⟨h _,h _,λb=>?_⟩;cases b with
   |true=>exact h
   |false=>exact OW f _ _ _ h⟩
theorem E9{p}{n nrem}(h:bnd N p):Asks N (λr=>bnd N r.2) (kas_tail3 n nrem p):=
 Asks.bind   (S:=λr   =>bnd N r.2) (f:=λm=>.ret (m,kas_rev p 0 n)) (λ_ _=>RH   hN h Vf) (Ms hN (RH hN h Vf) _ _)
theorem Do{p}{n nrem}(h:bnd N p):Asks N (λr=>bnd N r.2) (kas_descPart n nrem p):=
 Asks.bind (λr hr=>by
  split
  .exact E9 hN (RH hN hr Vf)
  .exact E9 hN hr) (OW hN _ _ _ _ h)
theorem wk{p}{nrem}(h:bnd N p):Asks N (λr=>bnd N r.2) (kas_count nrem p):=
 Asks.bind  (λn _=>by
  split
  .exact h
  .split
   .refine⟨h _,h _,λb=>?_⟩
    cases b with
    |true=>exact h
    |false=>exact Do hN (RH hN h Vf)
   .exact Do hN h) (Ms hN h _ _)
theorem M5{p}(h:bnd N p)(k):∀(f l r),Asks N (λ_=>True) (kas_place p k f l r)
 |0,_,_=>trivial
 |f+1,l,r=>by
  unfold kas_place;split
  .trivial
  .refine⟨h _,h _,λb=>?_⟩
   cases b with
   |true=>exact M5 h k f _ _
   |false=>exact M5 h k f _ _
theorem Fp:∀(f)(p)(k),bnd N p->Asks N (λ_=>True) (kas_bin f p k)
 |0,_,_,_=>trivial
 |f+1,p,k,h=>Asks.bind  (λl _=>Fp f _ _ (RH hN h (bubble_perm _ _ _))) (M5 hN h k _ _ _)
end
theorem vz  (hn:0<n):Asks n (λ_=>True) (kas_sort n):=by
 have hb:bnd n (List.toArray (UF n)):=λi=>by
  by_cases hi:i<n
  .simp_all
  simp_all
 refine Asks.bind (λr hr=>?_) (wk hn hb);split
 .exact Fp hn _ _ _ hr
 .trivial
end
noncomputable def KP(q:Int×Int):Int:=q.1*10000000+q.2
def okP(q:Int×Int):Prop:=-1000000<=q.2/\q.2<=1000000
theorem qM  (hx:okP x)(hy:okP y):KP x<KP y ↔ (x.1<y.1∨x.1=y.1/\x.2<y.2):=by
 unfold KP okP at *
 lia
theorem jt  (hx:okP x)(hy:okP y)(h:KP x=KP y):x=y:=by
 unfold KP okP at *
 grind
section
variable{prog:Ux}{w:World}{A:Around}{E:Uv->Uw->Prop}{s:Uw}
def P3(h:Heap)(v:Uv)(q:Int×Int):Prop:=∃a t u o n,v=.ref a/\h.get? a=O o/\o.cls=.type "tuple" /\ o.data=.seq #[.int q.1 t,.int q.2 u] n
theorem qL{x y:Uv}{p q:Int×Int}{Q:Bool->Uw->Prop}(hx:P3 s.heap x p)(hy:P3 s.heap y q)(h:Q (decide (p.1<q.1∨p.1=q.1/\p.2<q.2)) s):UC (model prog w) A (keyLt' (tuples' zq) x y) Q E s:=by
 obtain⟨a,t,u,o,n,rfl,e1,c1,d1⟩:=hx;obtain⟨b,t',u',o',n',rfl,e2,c2,d2⟩:=hy;refine kat_lt e1 d1 e2 d2 ?_;refine kat_cons (wpAny_eqBool_int ?_);by_cases h1:p.1=q.1
 .have e:(p.1==q.1)=zq:=by simpa using h1
  rw[e];refine kat_yes (kat_cons (wpAny_eqBool_int ?_));by_cases h2:p.2=q.2
  .have e:(p.2==q.2)=zq:=by simpa using h2
   rw[e];have:decide (p.1<q.1∨p.1=q.1/\p.2<q.2)=zr:=QT (by lia);rw[this]at h;exact h
  .have e:(p.2==q.2)=zr:=by simpa using h2
   rw[e];refine kat_no (kat_one _ _ (PyProof.Rows.lt_int ?_))
   have:decide (p.1<q.1∨p.1=q.1/\p.2<q.2)=decide (p.2<q.2):=by
    by_cases z:p.2<q.2
    .rw[Jg z,Jg (.inr ⟨h1,z⟩)]
    .rw[QT z,QT (by lia)]
   rw[this]at h;exact h
 .have e:(p.1==q.1)=zr:=by simpa using h1
  rw[e];refine kat_no (oneLt_int ?_)
  have:decide (p.1<q.1∨p.1=q.1/\p.2<q.2)=decide (p.1<q.1):=by
   by_cases z:p.1<q.1
   .rw[Jg z,Jg (.inl z)]
   .rw[QT z,QT (by lia)]
  rw[this]at h;exact h
noncomputable def YT(h:Heap):zA->LP->Prop
 |[],[]=>True
 |v::vs,q::qs=>P3 h v q/\YT h vs qs
 |_,_=>False
theorem YT.get  : ∀{vs}{qs},YT h vs qs->vs.length=qs.length/\∀(i)(hi:i<vs.length),P3 h (vs.getD i .none) (qs.getD i (0,0))
 |[],[],_=>⟨rfl,λi hi=>absurd hi (Uc _)⟩
 |v::vs,q::qs,⟨h1,h2⟩=>by
  obtain⟨e,f⟩:=YT.get h2;refine⟨by simp_all,λi hi=>?_⟩;cases i with
  |zero=>exact h1
  |succ i=>exact f i (by simpa using hi)
theorem YT.tups  : ∀{vs}{qs},YT h vs qs->∃fs:zA,KatTups h vs fs/\fs.length=vs.length/\∀v∈fs,∃i t,v=.int i t
 |[],[],_=>⟨[],trivial,rfl,λ_ h=>by cases h⟩
 |v::vs,q::qs,⟨hp,h2⟩=>by
  obtain⟨a,t,u,o,n,rfl,e1,c1,d1⟩:=hp;obtain⟨fs,f1,f2,f3⟩:=YT.tups h2;refine⟨.int q.1 t::fs,.cons e1 c1 d1 zo f1,by simp_all,λv hv=>?_⟩;rcases QL.mp hv with rfl|hv
  .exact⟨_,_,rfl⟩
  .exact f3 v hv
theorem YT.mono  (k:∀b o,h.get? b=O o->h'.get? b=O o):∀{vs}{qs},YT h vs qs->YT h' vs qs
 |[],[],_=>trivial
 |v::vs,q::qs,⟨hp,h2⟩=>by obtain⟨a,t,u,o,n,rfl,e1,c1,d1⟩:=hp;exact⟨⟨a,t,u,o,n,rfl,k _ _ e1,c1,d1⟩,YT.mono k h2⟩
def PN(qs:LP)(π:zI):Prop:=π.Perm (UF qs.length)/\(π.map λi=>qs.getD i (0,0)).Pairwise λx y=>KP x<=KP y
theorem yX{a:Uy}{vs:zA}{qs:LP}{n:Nat}{P:Fin->Uw->Prop}(ho:s.heap.get? a=O (seqObj "list" vs.toArray n))
  (hp:YT ((s.heap.update a (Obj.mapSeq λ_=>#[]))) vs qs) (hq:∀q∈qs,okP q) (h64:vs.length<64)
  (h:∀π:zI,PN qs π->P (.done (.ret .none)) {s with heap:=sortedHeap s.heap a vs (List.toArray (π.map λi=>vs.getD i .none))}) :
  UC (model prog w) A (Builtin.«list.sort» ⟨[.ref a],[]⟩) P E s:=by
 obtain⟨hl,hget⟩:=hp.get;rw[list_sort_plain];have ha:a<s.heap.objs.size:=Qk ho;refine Qf (listItems_at ho zo ?_);refine Qf (listUpdate_at ho zo ?_);obtain⟨e1,ho1⟩:∃e1,(s.heap.update a (Obj.mapSeq λ_=>#[])).get? a=O (seqObj "list" #[] e1):=⟨_,get?_update_seq ho (λ_=>#[])⟩
 refine Qf (seqEpoch_at ho1 zo ?_);refine Qf (wpAny_newTuple ?_);refine Qf (wpAny_newList ?_);refine wpAny_holding ?_;have ho6:(((s.heap.update a (Obj.mapSeq λ_=>#[])).push (seqObj "tuple" vs.toArray 0)).push (seqObj "list" #[] 0)).get? a=O (seqObj "list" #[] e1):=by rw[Heap.get?_push_ne _ _ _ (by rw[size_push',Heap.size_update];exact QY (J4 ha)),Heap.get?_push_ne _ _ _ (by rw[Heap.size_update];exact QY ha)];exact ho1
 have hp6:YT (((s.heap.update a (Obj.mapSeq λ_=>#[])).push (seqObj "tuple" vs.toArray 0)).push (seqObj "list" #[] 0)) vs qs:=hp.mono λb o e=>Qm _ (Qm _ e)
 dsimp only;have hsz:vs.toArray.size=vs.length:=by simp
 by_cases h2:vs.toArray.size<2
 .rw[Qr h2,Qr h2]
  refine Qf (Qs ?_);rw[StateT.run_pure];refine Qf (Qs ?_);dsimp only;refine Qf (seqEpoch_at ho6 zo ?_);refine Qf (listUpdate_at ho6 zo ?_ (hsz2:=by rw[Array.size_map];show(pairsOf vs).size<=_;rw[pairsOf_size,sizeLine_eq];lia));simp only[bne_self_eq_false,Bool.false_eq_true,if_false]
  have hid:(arrOf (SortSt.mk' general' (vs.toArray.zip vs.toArray) #[] 7 zp)).map (·.2)=List.toArray ((UF vs.length).map λi=>vs.getD i .none):=by
   show(vs.toArray.zip vs.toArray).map (·.2)=_
   apply Array.toList_inj.mp;apply JC;intro i;simp only[Array.toList_map,Array.toList_zip,Qd,JX];by_cases hi:i<vs.length
   .simp[List.getElem?_zip_eq_some,hi,List.getElem?_range]
   .simp[hi]
  rw[hid];refine Qs (h (UF vs.length) ⟨by rw[hl],?_⟩);rw[Uf];rw[hsz]at h2
  rcases(show vs.length=0∨vs.length=1 by lia)with z|z<;>rw[z]
  .exact .nil
  .exact List.pairwise_singleton _ _
 .rw[QA h2,QA h2]
  rw[hsz]at h2;obtain⟨fs,f1,f2,f3⟩:=hp6.tups;refine Qf (kat_kind (T:=.type "int") f1 (by lia) (λv hv=>by obtain⟨i,t,rfl⟩:=f3 v hv;exact(show Looks _ _ (pure (Value.type "int")) _ from .now)) zo ?_)
  refine Qf (QG (kat_run (ks:=vs) (G:=λp s'=>s' = {s with heap:=((s.heap.update a (Obj.mapSeq λ_=>#[])).push (seqObj "tuple" vs.toArray 0)).push (seqObj "list" #[] 0)}/\p=Kv (kl λi=>KP (qs.getD i (0,0))) (kas_sort vs.length))
   (Q:=λst' s'=>s' = {s with heap:=((s.heap.update a (Obj.mapSeq λ_=>#[])).push (seqObj "tuple" vs.toArray 0)).push (seqObj "list" #[] 0)}/\failedOf st'=zp/\arrOf st'=(Kv (kl λi=>KP (qs.getD i (0,0))) (kas_sort vs.length)).map (kas_item (vs.toArray.zip vs.toArray)))
   rfl (by lia) h64 (λp st' s' a1 a2 a3 a4=>⟨a4.1,a3,by rw[a2,a4.2]⟩) ?_) ?_ λ_ _ e=>e)
  .refine Fq (N:=vs.length) (R:=λ_=>True) (lt:=kl λi=>KP (qs.getD i (0,0))) (λi j C hi hj hC=>?_) _ _ (vz (by lia)) ⟨rfl,rfl⟩
   refine qL (YT.get hp6 |>.2 i hi) (YT.get hp6 |>.2 j hj) ?_;have oi:okP (qs.getD i (0,0)):=hq _ (by rw[Qh,Qe (by lia)];exact Jy _);have oj:okP (qs.getD j (0,0)):=hq _ (by rw[Qh,Qe (by lia)];exact Jy _);have e:decide ((qs.getD i (0,0)).1<(qs.getD j (0,0)).1∨(qs.getD i (0,0)).1=(qs.getD j (0,0)).1/\(qs.getD i (0,0)).2<(qs.getD j (0,0)).2)=kl (λi=>KP (qs.getD i (0,0))) i j:=by unfold kl;exact decide_eq_decide.mpr (qM oi oj).symm
   rw[e];exact hC
  .rintro⟨⟨⟩,st'⟩ s' ⟨rfl,hf,har⟩
   dsimp only;obtain⟨b1,b2,b3⟩:=vA (key:=λi=>KP (qs.getD i (0,0))) (n:=vs.length) (by lia);generalize Kv (kl λi=>KP (qs.getD i (0,0))) (kas_sort vs.length)=p at har b1 b2 b3;have hout:=kat_snds (ks:=vs) (vs:=vs) zo har;have hsz2:((arrOf st').map (·.2)).size=vs.length:=by rw[hout,Jk,Qb,Um,b2]
   refine Qf (seqEpoch_at ho6 zo ?_);refine Qf (listUpdate_at ho6 zo ?_ (hsz2:=by rw[hsz2,sizeLine_eq];lia));rw[hf];simp only[bne_self_eq_false,Bool.false_eq_true,if_false];rw[hout];refine Qs (h p.toList ⟨?_,?_⟩)
   .have:=Array.perm_iff_toList_perm.mp b1
    rw[←hl];exact this
   .rw[Uf,List.pairwise_iff_getElem]
    intro i j hi hj hij;rw[Um,b2]at hi hj;have:=b3 i j (by lia) hj;unfold KA at this;rw[Jz,Jz,Array.getElem?_eq_getElem (by lia),Array.getElem?_eq_getElem (by lia)]at this;simpa using this
end
section
variable{prog:Ux}{w:World}{A:Around}{E:Uv->Uw->Prop}{s:Uw}
theorem yO{l:Uy}{vs:zA}{qs:LP}{Q:Uv->Uw->Prop}(hl:s.heap.IsList l vs.toArray)(hp:YT s.heap vs qs)(hq:∀q∈qs,okP q)(h64:vs.length<64)
  (h:∀π:zI,PN qs π->Q (.ref (s.heap.objs.size+1)) {s with heap:=sortedAll s.heap vs (List.toArray (π.map λi=>vs.getD i .none))}) :
  UC (model prog w) A (call (.builtin "sorted") [.ref l]) Q E s:=by
 refine Calls.call_function_entry kind_sorted plain_sorted entry_sorted (args_sorted1 _) ?_;unfold Builtin.«sorted»;refine Qf  (Qs ?_);refine Qf (collect_list hl ?_);refine Qf (wpAny_newList ?_);have hsz:((s.heap.push (seqObj "list" #[] 0)).update s.heap.objs.size (Obj.mapSeq (· ++ vs.toArray))).objs.size=s.heap.objs.size+1:=by rw[Heap.size_update,size_push']
 have hoL:(((s.heap.push (seqObj "list" #[] 0)).update s.heap.objs.size (Obj.mapSeq (· ++ vs.toArray))).push (seqObj "list" vs.toArray 0)).get? (s.heap.objs.size+1)=O (seqObj "list" vs.toArray 0):=by rw[←hsz];exact QE _ zo
 rw[hsz];refine Qf (wpAny_holding (wpAny_call_entry slot_list_sort ⟨_,hoL,rfl⟩ entry_list_sort (yX (qs:=qs) hoL (hp.mono λb o e=>?_) hq h64 λπ a1=>⟨_,rfl,?_⟩) (args_list_sort _)))
 .have hlt:b<s.heap.objs.size:=Qk e
  dsimp only;have bM:(b:Nat)<s.heap.objs.size:=hlt;rw[Heap.get?_update_ne _ _ _ _ (QY (J4 bM)),Heap.get?_push_ne _ _ _ (by rw[hsz];exact QY (J4 bM)),Heap.get?_update_ne _ _ _ _ (QY hlt),Heap.get?_push_ne _ _ _ (QY hlt)];exact e
 .exact Qs ⟨_,rfl,h π a1⟩
end
end DL
namespace DL
open PySem PySem.Spec L2
open PyProof.Rows hiding St
section
variable{X:Cx}
theorem Fo   {σ:St}{H}(I:Inv X pins σ H s):∀{as:zE}{us}{qs},Vals (as.map V.ref) us->as.length=qs.length->(∀(i:Nat) a q,as[i]?=O a->qs[i]?=O q->SqT X.K H a [.int q.1,.int q.2])->YT s.heap us qs
 |[],_,[],.nil,_,_=>trivial
 |a::as,_,q::qs,.cons r t,hl,h=>by refine⟨?_,Fo I t (by simpa using hl) λi a q h1 h2=>h (i+1) a q (by simpa using h1) (by simpa using h2)⟩;cases r;obtain⟨its,rv,⟨o,e,c,n,d⟩,_⟩:=I.tuple (h 0 a q zo zo);obtain⟨u,v,rfl,r1,r2⟩:=rv.two;obtain⟨t1,rfl⟩:=r1;obtain⟨t2,rfl⟩:=r2;exact⟨a,t1,t2,o,n,rfl,e,c,by simpa using d⟩
theorem Er{as:zE}{us}(r:Vals (as.map V.ref) us):∀(π:zI),(∀i∈π,i<as.length)->Vals (π.map λi=>V.ref (as.getD i 0)) (π.map λi=>us.getD i .none)
 |[],_=>.nil
 |i::π,h=>by
  refine .cons ?_ (Er r π λj hj=>h j (Qj _ hj));have hi:=h i Ql;have e:(as.map V.ref)[i]?=O (.ref (as.getD i 0)):=by simp[List.getD,List.getElem?_eq_getElem hi]
  obtain⟨u,e2,ru⟩:=r.get e;simp only[List.getD,e2];exact ru
theorem wj:Xe X (.builtin "sorted") (λxs H Q=>∃l,∃as:zE,∃qs:LP,xs=[.ref l]/\SqL X.K H l (as.map V.ref)/\as.length=qs.length/\(∀(i:Nat) a q,as[i]?=O a->qs[i]?=O q->SqT X.K H a [.int q.1,.int q.2])/\(∀q∈qs,okP q)/\qs.length<64 /\
  ∀π p,PN qs π->H p=zp->Q (.ref p) (upd H p (.lst (π.map λi=>V.ref (as.getD i 0))))):=by
 intro pins s σ H xs us Q I rx h;obtain⟨l,as,qs,rfl,hq,hl,ht,ho,hb,q⟩:=h;obtain⟨u,rfl,ru⟩:=rx.one;cases ru;obtain⟨its,rv,p,hz⟩:=I.list hq;have hn:its.length=qs.length:=by have:=rv.length;rw[Qb]at this;lia
 refine yO (qs:=qs) p.isList (Fo I rv hl ht) ho (by lia) λπ hπ=>?_
 obtain⟨e,he⟩:=sortedAll_at s.heap its _
 have hπl:∀i∈π,i<as.length:=λi hi=>by
  have:=hπ.1.mem_iff.mp hi;rw[Q3]at this
  lia
 refine⟨.ref _,_,I.laid  (λb o=>sortedAll_old) (Ua _) (show Yo X.prog X.w _ _ _ (.lst _)from⟨?_,_,e,Er rv π hπl,he⟩),rfl,q π _ hπ (I.hok.fresh (Ua _))⟩;rw[Qb,hπ.1.length_eq,Qo];rw[Qb]at hz
 lia
noncomputable def P2:D->Option (Int×Int)
 |.tuple [.int a,.int b]=>O (a,b)
 |_=>zp
noncomputable def V9:zw->Option LP
 |[]=>O []
 |d::r=>(P2 d).bind λq=>(V9 r).map (q :: ·)
noncomputable def Kz(q:Int×Int):D:=.tuple [.int q.1,.int q.2]
theorem vy   (h:P2 d=O q):d=Kz q:=by
 unfold P2 at h;split at h
 .cases h;rfl
 simp_all
theorem ES:∀{ds}{qs},V9 ds=O qs->ds=qs.map Kz
 |[],qs,h=>by cases h;rfl
 |d::r,qs,h=>by
  unfold V9 at h;cases z:P2 d with
  |none=>simp_all
  |some q=>
   rw[z]at h;cases z2:V9 r with
   |none=>simp_all
   |some qs'=>rw[z2]at h;cases h;rw[vy z,ES z2];rfl
theorem Dk:∀qs:LP,V9 (qs.map Kz)=O qs
 |[]=>rfl
 |q::r=>by rw[Qv,V9,Dk r];rfl
noncomputable def WU(qs:LP):LP:=qs.mergeSort λx y=>decide (KP x<=KP y)
theorem E8(qs:LP):(WU qs).Perm qs:=List.mergeSort_perm ..
theorem Ep(qs):(WU qs).Pairwise λx y=>KP x<=KP y:=by have:=List.pairwise_mergeSort (le:=λx y   =>decide (KP x<=KP y)) (by intro a b c;simp;lia) (by intro a b;simp;lia) qs;exact this.imp (by simp)
theorem Mr:∀{a b:LP},(∀x∈a,okP x)->a.Perm b->a.Pairwise (λx y=>KP x<=KP y)->b.Pairwise (λx y=>KP x<=KP y)->a=b
 |[],b,_,p,_,_=>by simp_all
 |x::a,[],_,p,_,_=>by simp_all
 |x::a,y::b,ok,p,ha,hb=>by
  have hx:KP y<=KP x:=by
   rcases QL.1 (p.mem_iff.1 (Ql ..))with e|e
   .simp_all
   .exact(JU.1 hb).1 x e
  have hy:KP x<=KP y:=by
   rcases QL.1 (p.mem_iff.2 (Ql ..))with e|e
   .simp_all
   .exact(JU.1 ha).1 y e
  have oky   :=ok y (p.mem_iff.2 (Ql ..));have e:=jt (ok x (Ql ..)) oky (JY hy hx);subst e;rw[Mr (λz hz=>ok z (Qj _ hz)) (List.Perm.cons_inv p) (JU.1 ha).2 (JU.1 hb).2]
theorem km   (ok:∀q∈qs,okP q)(h:PN qs π):(π.map λi=>qs.getD i (0,0))=WU qs:=by
 have hp   :=by
  have h1:=h.1.map λi=>qs.getD i (0,0)
  have e:(UF qs.length).map (λi=>qs.getD i (0,0))=qs:=by
   apply JC;intro i;rw[Qd];by_cases hi:i<qs.length
   .rw[List.getElem?_range hi];simp[List.getD,List.getElem?_eq_getElem hi]
   .simp_all
  rw[e]at h1;exact h1
 exact Mr (λx hx=>ok x (hp.mem_iff.mp hx)) (hp.trans (E8 qs).symm) h.2 (Ep qs)
noncomputable def okPB(q:Int×Int):Bool:=decide (-1000000<=q.2/\q.2<=1000000)
noncomputable def R9:zw->zx
 |[.list ds]=>(match V9 ds with
  |some qs=>if qs.length<64/\qs.all okPB=zq then O (.list ((WU qs).map Kz))else zp
  |none=>zp)
 |_=>zp
theorem wg   (h:R9 xs=O d):∃qs:LP,xs=[.list (qs.map Kz)]/\qs.length<64/\(∀q∈qs,okP q)/\d=.list ((WU qs).map Kz):=by
 unfold R9 at h;split at h
 .rename_i ds
  cases z:V9 ds with
  |none=>simp_all
  |some qs=>
   rw[z]at h;dsimp only at h;split at h
   .rename_i c
    cases h;exact⟨qs,by rw[ES z],c.1,λq hq=>(show -1000000<=q.2/\q.2<=1000000 from Qa (Jf.mp c.2 q hq)),rfl⟩
   simp_all
 simp_all
theorem Eo{K}{G}:∀{vs}{qs:LP},Reps K G vs (qs.map Kz)->∃as:zE,vs=as.map V.ref/\as.length=qs.length/\∀(i:Nat) a q,as[i]?=O a->qs[i]?=O q->SqT K G a [.int q.1,.int q.2]
 |_,[],.nil=>⟨[],rfl,rfl,λi a q h=>by simp_all⟩
 |_,q::qs,.cons r t=>by
  obtain⟨as,rfl,hl,h⟩:=Eo t;obtain⟨a,ws,rfl,h1,r1⟩:=r.tup_inv;cases r1 with
  |cons ra rb=>
   obtain⟨v,rfl,rb'⟩:=rb.one_inv;refine⟨a::as,rfl,by simp_all,λi a' q' e1 e2=>?_⟩;cases i with
   |zero=>cases e1;cases e2;rw[ra.int_inv,rb'.int_inv]at h1;simp_all
   |succ i=>exact h i a' q' (by simpa using e1) (by simpa using e2)
theorem kj{K}{G}{a}{q}(h:SqT K G a [.int q.1,.int q.2]):Rep K G (.ref a) (Kz q):=.tup h (.cons (.int _) (.cons (.int _) .nil))
theorem En{K}{G}{as:zE}{qs:LP}(hl:as.length=qs.length)(h:∀(i:Nat) a q,as[i]?=O a->qs[i]?=O q->SqT K G a [.int q.1,.int q.2]):∀π:zI,(∀i∈π,i<qs.length)->Reps K G (π.map λi=>V.ref (as.getD i 0)) ((π.map λi=>qs.getD i (0,0)).map Kz)
 |[],_=>.nil
 |i::π,hb=>by
  refine .cons ?_ (En hl h π λj hj=>hb j (Qj _ hj));have hi:=hb i Ql;refine kj (h i _ _ ?_ ?_)
  .simp_all
  simp_all
theorem qK:XF X (.builtin "sorted") R9:=by refine⟨_,wj,λvs G H ds d Q s r e k=>?_⟩;obtain⟨qs,rfl,h64,ok,rfl⟩:=wg e;obtain⟨v,rfl,q1⟩:=r.one_inv;obtain⟨l,ws,rfl,h1,r1⟩:=q1.lst_inv;obtain⟨as,rfl,hl,ht⟩:=Eo r1;refine⟨l,as,qs,rfl,s.seq h1,hl,λi a q e1 e2=>Xr s (ht i a q e1 e2),ok,h64,λπ p hπ hp=>?_⟩;have hb:∀i∈π,i<qs.length:=λi hi=>Q3.mp (hπ.1.mem_iff.mp hi);have rr:=(En hl ht π hb).mono (ZQ (s.free hp):Same G (upd G p (.lst (π.map λi=>V.ref (as.getD i 0)))));rw[km ok hπ]at rr;exact k _ _ _ (Ext.new s hp) (.lst (SqL.of Zq) rr)
theorem XF.or   (h1:XF X f p)(h2:XF X f q):XF X f (λxs=>(p xs).orElse λ_=>q xs):=by
 obtain⟨r1,c1,k1⟩:=h1;obtain⟨r2,c2,k2⟩:=h2;refine⟨λxs H Q=>r1 xs H Q∨r2 xs H Q,λpins s σ H xs us Q I rx h=>?_,λvs G H ds d Q s r e k=>?_⟩
 .rcases h with h|h
  .exact c1 pins s σ H xs us Q I rx h
  .exact c2 pins s σ H xs us Q I rx h
 .dsimp only at e
  cases z:p ds with
  |some d'=>rw[z]at e;cases e;exact .inl (k1 vs G H ds _ Q s r z k)
  |none=>rw[z]at e;exact .inr (k2 vs G H ds _ Q s r e k)
noncomputable def SV(xs:zw):zx:=(Rg xs).orElse λ_=>R9 xs
theorem Cq:XF X (.builtin "sorted") SV:=qi.or qK
theorem wf  (h:ns.length<64):SV [.list (ns.map .int)]=O (.list ((Y6 ns).map .int)):=by unfold SV;rw[vG h];rfl
theorem vw  (h:qs.length<64)(ok:∀q∈qs,okP q):SV [.list (qs.map Kz)]=O (.list ((WU qs).map Kz)):=by
 cases qs with
 |nil=>
  have e1:WU []=[]:=by unfold WU;simp
  have e2:Y6 []=[]:=by unfold Y6;simp
  have:=wf (ns:=[]) (by decide);rw[e2]at this;rw[e1];exact this
 |cons q r=>unfold SV;unfold R9;dsimp only;rw[Dk];exact Qr ⟨h,Jf.mpr λq hq=>Jg (ok q hq)⟩
end
section
variable{X:Cx}{B G0:Hp}{e o a b c tg:UA}{pos p2:Pos}{es rest:zy}{te to ti:TE}
noncomputable def PM{β:Type}(p:D->D->Option β)(f:M D)(j:Nat):M β:=Kq f λx=>λρ=>match ρ[j]? with
 |some (O (.pub d))=>Ku (p x d) ρ
 |some (O (.own ds))=>Ku (p x (.list ds)) ρ
 |_=>.bad
theorem Dv{K}{σ}{H}{p}{r:R2}{j}{f}{Q}{QV}(hq:∀t H3,Q t H3->QV (.bl t) H3)
  (hr:∀v u G H x y d Q,Same G H->Rep K G v x->Rep K G u y->p x y=O d->Q (.bl d) H->r v u H Q)
  (q:tBo K B G0 (PM p f j) σ H Q):tD K B G0 f σ H λx H1=>Zk j σ H1 λy H2=>r x y H2 QV:=by
 refine tM.one  q λv H2 G ρ x k rx a=>?_
 cases z:ρ[j]? with
 |none=>rw[z]at a;exact a.elim
 |some o=>
  cases o with
  |none=>rw[z]at a;exact a.elim
  |some sl=>
   cases sl with
   |deep _ _=>rw[z]at a;exact a.elim
   |pub d=>rw[z]at a;obtain⟨d',e',a'⟩:=aft.opt a;obtain⟨u,h1,h2⟩:=k.pub j d z;exact⟨u,h1,hr v u G H2 x d d' _ k.gh rx h2 e' (hq _ _ (a' d' G H2 k (.refl _) zo))⟩
   |own ds=>rw[z]at a;obtain⟨d',e',a'⟩:=aft.opt a;obtain⟨ad,vs,h1,h2,h3,h4,h5⟩:=k.own j ds z;exact⟨.ref ad,h1,hr v _ H2 H2 x _ d' _ (.refl _) (rx.mono k.gh) (.lst (SqL.of h4) (h5.mono k.gh)) e' (hq _ _ (a' d' G H2 k (.refl _) zo))⟩
theorem qJ    {f}(o:OpB X (UE op) p)(ha:PE X a (tD X.K B G0 f))(hb:PE X b (Zk j))(hm:behindInMarks op b=zr) :
  PT X (.Compare a [op] [b] pos) (tBo X.K B G0 (PM p f j)):=by
 obtain⟨r,h,i⟩:=o;exact Yk (N0 h ha hb hm) λσ H Q q=>Dv (λt H3 z=>⟨t,rfl,z⟩) i q
theorem ki   {f}{j}{ρ ρ1}{x}{ds}{r:β}(h1:f ρ=.ok x ρ1)(h2:ρ1[j]?=O (O (.own ds)))(h3:p x (.list ds)=O r):PM p f j ρ=.ok r ρ1:=by exact Zb h1 (by rw[h2];exact Yq h3)
end
noncomputable def R8(ρ:UZ)(j:Nat):zx:=match ρ[j]? with
 |some (O (.pub d))=>O d
 |some (O (.own ds))=>O (.list ds)
 |some (O (.deep _ d))=>O d
 |_=>zp
theorem EOk.tree{K}{B G0 G H}{σ}{ρ}{j}{d}(k:EOk K B G0 G H σ ρ)(h:R8 ρ j=O d):∃v,σ[j]?=O (O v)/\Rep K H v d:=by
 unfold R8 at h;split at h
 .rename_i d' e
  cases h;obtain⟨v,h1,h2⟩:=k.pub j _ e;exact⟨v,h1,h2.mono k.gh⟩
 .rename_i ds e
  cases h;obtain⟨a,vs,h1,h2,h3,h4,h5⟩:=k.own j ds e;exact⟨.ref a,h1,.lst (SqL.of h4) (h5.mono k.gh)⟩
 .rename_i p d' e
  cases h;obtain⟨ω,k1,k2⟩:=k.dp;obtain⟨v,fp,s,r,_⟩:=k1 j p _ e;exact⟨v,s,r.rep k.gh⟩
 simp_all
end DL
namespace HT
open PySem PyProof.Rows
end HT
namespace DL
open PySem PySem.Spec L2
open PyProof.Rows hiding St
section
variable{X:Cx}
noncomputable def SU(x y:D):Option zw:=match x,y with
 |.list xs,.int k=>if -1000000<=k/\k<=1000000/\xs.length*k.toNat<=1000000 then O (UG k.toNat xs).flatten else zp
 |_,_=>zp
theorem vX   (h:SU x y=O ds):∃xs k,x=.list xs/\y=.int k/\(-1000000<=k/\k<=1000000/\xs.length*k.toNat<=1000000)/\ds=(UG k.toNat xs).flatten:=by
 unfold SU at h;split at h
 .simp_all
 simp_all
noncomputable def SS(f g:M D):M zw:=Kq f λx=>Kq g λy=>Ku (SU x y)
theorem GB{f g}(ha:PE X a (tD X.K B G0 f))(hb:PE X b (tD X.K B G0 g)):PE X (.BinOp a .Mult b pos) (tL X.K B G0 (SS f g)):=
 KF (Lx GH ha hb) λσ H Q ⟨G,ρ,k,q⟩=>by
  refine⟨G,ρ,k,?_⟩;unfold SS Kq at q;cases z:f ρ with
  |bad=>simp_all
  |ok x ρ1=>
   rw[z]at q;dsimp only at q;intro v G1 H1 k1 s1 r1;refine⟨G1,ρ1,k1,?_⟩;cases z2:g ρ1 with
   |bad=>simp_all
   |ok y ρ2=>
    rw[z2]at q;dsimp only[Ku]at q;intro u G2 H2 k2 s2 r2;cases z3:SU x y with
    |none=>simp_all
    |some ds=>rw[z3]at q;obtain⟨xs,i,rfl,rfl,c,rfl⟩:=vX z3;obtain⟨l,vs,rfl,h1,w⟩:=r1.lst_inv;exact⟨l,i,vs,rfl,r2.int_inv,k2.gh.seq (s2.seq h1),by lia,by lia,by rw[w.length];exact QM c.2.2 lim,λp hp=>q p _ G2 _ (k2.ext (Ext.hid k2.gh hp)) (s1.trans s2) (NewL.of k2 hp ((w.mono s2).rep _))⟩
theorem GA  {ρ ρ1 ρ2}{x}{n}(h1:f ρ=.ok (.list [x]) ρ1)(h2:g ρ1=.ok (.int n) ρ2)(h:n<=1000):SS f g ρ=.ok (UG n x) ρ2:=by
 unfold SS Kq;rw[h1];dsimp only;rw[h2];dsimp only[Ku];have e:SU (.list [x]) (.int n)=O (UG n x):=by unfold SU;dsimp only;rw[Qr ⟨by lia,by lia,by show 1*_<=_;lia⟩];simp_all
 rw[e]
end
end DL
namespace DL
open PySem
theorem lz0{P:zA->Prop}{us}(hl:us.length=0)(h:P []):P us:=by simp_all
theorem lzS{P:zA->Prop}{us}{n}(hl:us.length=n+1)(h:∀a r,r.length=n->P (a::r)):P us:=by
 cases us with
 |nil=>simp_all
 |cons a r=>exact h a r (Nat.succ.inj hl)
theorem lz1{P:zA->Prop}{us}(hl:us.length=1)(h:∀a,P [a]):P us:=lzS hl λa r e=>lz0 (P:=λr=>P _) e (h a)
theorem lz2{P:zA->Prop}{us}(hl:us.length=2)(h:∀a b,P [a,b]):P us:=lzS hl λa r e=>lz1 (P:=λr=>P _) e (h a)
theorem lz3{P:zA->Prop}{us}(hl:us.length=3)(h:∀a b c,P [a,b,c]):P us:=lzS hl λa r e=>lz2 (P:=λr=>P _) e (h a)
theorem lz4{P:zA->Prop}{us}(hl:us.length=4)(h:∀a b c d,P [a,b,c,d]):P us:=lzS hl λa r e=>lz3 (P:=λr=>P _) e (h a)
theorem lz5{P:zA->Prop}{us}(hl:us.length=5)(h:∀a b c d e,P [a,b,c,d,e]):P us:=lzS hl λa r e=>lz4 (P:=λr=>P _) e (h a)
theorem bz1  {ps:List Str}{us}(hl:us.length=1)(h:∀a,bindArgs fd {pos:=[a]}=pure (ps.zip [a])):bindArgs fd {pos:=us}=pure (ps.zip us):=lz1 (P:=λus=>bindArgs fd {pos:=us}=pure _) hl h
theorem bz2  {ps:List Str}{us}(hl:us.length=2)(h:∀a b,bindArgs fd {pos:=[a,b]}=pure (ps.zip [a,b])):bindArgs fd {pos:=us}=pure (ps.zip us):=lz2 (P:=λus=>bindArgs fd {pos:=us}=pure _) hl h
theorem bz3  {ps:List Str}{us}(hl:us.length=3)(h:∀a b c,bindArgs fd {pos:=[a,b,c]}=pure (ps.zip [a,b,c])):bindArgs fd {pos:=us}=pure (ps.zip us):=lz3 (P:=λus=>bindArgs fd {pos:=us}=pure _) hl h
theorem bz4  {ps:List Str}{us}(hl:us.length=4)(h:∀a b c d,bindArgs fd {pos:=[a,b,c,d]}=pure (ps.zip [a,b,c,d])):bindArgs fd {pos:=us}=pure (ps.zip us):=lz4 (P:=λus=>bindArgs fd {pos:=us}=pure _) hl h
theorem bz5  {ps:List Str}{us}(hl:us.length=5)(h:∀a b c d e,bindArgs fd {pos:=[a,b,c,d,e]}=pure (ps.zip [a,b,c,d,e])):bindArgs fd {pos:=us}=pure (ps.zip us):=lz5 (P:=λus=>bindArgs fd {pos:=us}=pure _) hl h
end DL
namespace DL
open PySem PySem.Spec L2
open PyProof.Rows hiding St
noncomputable def whole(h:Heap):Frag:=(UF h.objs.size).filterMap λa=>(h.get? a).map λo=>(a,o)
theorem Em{g:Uy->Option Obj}{x}:∀l:zE,(l.filterMap λa=>(g a).map λo=>(a,o)).lookup x=if x∈l then g x else zp
 |[]=>rfl
 |y::l=>by
  have ih:=Em (g:=g) (x:=x) l;by_cases e:x=y
  .subst e
   rw[Qr Ql];cases z:g x with
   |none=>rw[List.filterMap_cons_none (by simp_all),ih,z];split<;>rfl
   |some o=>simp_all
  .have m:(x∈y::l)=(x∈l):=by simp_all
   have b:(x==y)=zr:=by simpa using e
   have ih':(if x∈y::l then g x else zp)=_:=(by simp only[m];exact ih.symm)
   rw[ih'];cases z:g y with
   |none=>simp_all
   |some o=>rw[List.filterMap_cons_some (by rw[z];rfl),Q7,b]
theorem Xb   : (whole h).lookup a=h.get? a:=by
 unfold whole;rw[Em];split
 .rfl
 .rename_i n
  cases z:h.get? a with
  |none=>rfl
  |some o=>exact absurd (Q3.mpr (Qk z)) n
theorem kh(h:Heap):(whole h).In h:=λa o e=>by rw[Xb]at e;exact e
noncomputable def Du(st:Stmt):Option DefRec:=match st with
 |.FunctionDef name a b _ _ _ sc _ _ pos=>O ⟨name,a,b,sc,pos⟩
 |_=>zp
noncomputable def Nx(st:Stmt):Option Str:=match st with
 |.FunctionDef name _ _ _ _ _ _ _ _ _=>O name
 |_=>zp
noncomputable def Dt(st:Stmt):Pos:=match st with
 |.FunctionDef _ _ _ _ _ _ _ _ _ pos=>pos
 |_=>⟨0,0,0,0⟩
noncomputable abbrev Zg(p:Ux)(i:Nat):Stmt:=p.main.body.getD i (.Pass ⟨0,0,0,0⟩)
noncomputable def R7(p:Ux)(ix:zI):List DefRec:=ix.filterMap λi=>Du (Zg p i)
section
variable{p q:Ux}{loose:List Str}{mean:ExcName->zB}{mg mb:Str->zB}{h:Heap}{w:World}
theorem Hg  (T:Top q loose mean mg mb h)(e:recsOf q=R7 p ix)(i:Nat)(x:Str)(hi:ix.contains i=zq)(hn:Nx (Zg p i)=O x):∃f fd,mg x=O (.ref f)/\Fun (whole h) x x (Zg p i) f fd:=by
 cases hs:Zg p i with
 |FunctionDef name a b _ _ _ sc _ _ pos=>
  rw[hs]at hn;cases hn;have hd:(⟨x,a,b,sc,pos⟩)∈recsOf q:=by rw[e];exact List.mem_filterMap.mpr ⟨i,by simpa using hi,by rw[hs];rfl⟩
  obtain⟨f,⟨oc,od,dt,osl⟩,pm,cd,doc,h1,h2,h3,h4⟩:=T.fn _ hd;subst h3;refine⟨f,_,h1,⟨⟨oc,od,.none,doc,pm,_,cd,_,osl,rfl,by rw[Xb];exact h2,?_⟩,?_⟩⟩
  .obtain⟨c,⟨_,_,dc,_⟩,vs,t,rfl,g1,g2,g3⟩:=h4
   subst g2;unfold PySem.W.codeIn;dsimp only;rw[Xb,g1];dsimp only;have g4:vs.toList[1]?=O (.str x t):=by rw[Array.getElem?_toList];exact g3
   cases hv:vs.toList with
   |nil=>rw[hv]at g4;cases g4
   |cons v0 r=>
    rw[hv]at g4;cases r with
    |nil=>cases g4
    |cons v1 r=>cases g4;exact beq_self_eq_true _
  .unfold PySem.W.keepIn
   dsimp only;rw[Xb,h2]
 |_=>rw[hs]at hn;cases hn
theorem vW{K}{x qual y}{st}{f}{fd}(F:Fun K x qual st f fd)
  (hb:∀(kV doc pm)(an)(cdv ct v),bindArgs (PySem.W.fnOf x qual (W6 st) (XB st) (ZR st) .none kV doc pm an cdv ct) ⟨[v],[]⟩=pure [(y,v)]) (s) (v):BindsTo s fd ⟨[v],[]⟩ [(y,v)]:=by
 obtain⟨oc,od,kV,doc,pm,an,cdv,ct,osl,rfl,lk,hcd⟩:=F.ex;exact .of_eq (hb kV doc pm an cdv ct v)
noncomputable def PL(q:Ux)(loose:List Str)(x:Str):Bool:=
 !startupNames.contains x && !loose.contains x && !((recsOf q).map (·.name)).contains x && !((litsOf q).map (·.1)).contains x && !((clssOf q loose).map (·.name)).contains x
theorem YS(T:Top q loose mean mg mb h){xs:List Str}(e:xs.all (PL q loose)=zq){x}(hx:x∈xs):mg x=zp:=by have:=Jf.mp e x hx;unfold PL at this;simp only[Je,Bool.not_eq_true',List.contains_eq_mem,decide_eq_false_iff_not]at this;exact T.free x this.1.1.1.1 this.1.1.1.2 this.1.1.2 this.1.2 this.2
theorem OV(T:Top q loose mean mg mb h){x}{i}(e:valOf q x=O (.int i)):∃t,mg x=O (.int i t):=by obtain⟨v,h1,h2⟩:=T.const x _ e;have:=h2 h;cases this;exact⟨_,h1⟩
theorem Lm:∀{vs}{ss},StrsAre vs ss->Vals (ss.map V.str) vs
 |_,_,.nil=>.nil
 |_,_,.cons y t r=>.cons ⟨t,rfl⟩ (Lm r)
theorem vV(B:Tables q w mg h){x}{ss}(e:tupStrsOf q x=O ss)(hl:ss.length<=1000) :
  ∃ad o its n,mg x=O (.ref ad)/\(whole h).lookup ad=O o/\o.cls=.type "tuple" /\ o.data=.seq its n/\its.size<=UB/\Vals (ss.map V.str) its.toList:=by
 obtain⟨a,vs,h1,⟨o,h2,h3,n,h4⟩,h5⟩:=B.tupS x ss e;have r:=Lm h5;refine⟨a,o,_,n,h1,by rw[Xb];exact h2,h3,h4,?_,r⟩;have:=r.length;rw[Qb]at this;have l:(1000)<=UB:=by decide
 rw[Jk]
 lia
end
noncomputable def scOk(sc:Scope)(N gl:List Str):Bool:=(N.all λx=>match sc.names.lookup x with|some .local=>zq|some .cell=>zq|_=>zr)&&gl.all λx=>match sc.names.lookup x with|some .globalImplicit=>zq|_=>zr
noncomputable def fnB(sc:Scope)(N gl:List Str):Bool:=decide (sc.kind=.function) && !sc.isCoroutine && !sc.isGenerator&&decide N.Nodup&&(sc.names.all λy=>match y.2 with | .free=>zr|_=>zq)&&scOk sc N gl
structure FnNm(sc:Scope)(N gl:List Str):Prop where
 kind:sc.kind=.function
 co:sc.isCoroutine=zr
 gen:sc.isGenerator=zr
 nd:N.Nodup
 nofree:∀y∈sc.names,y.2≠.free
 nm:∀x∈N,sc.names.lookup x=O .local∨sc.names.lookup x=O .cell
 gl:∀x∈gl,sc.names.lookup x=O .globalImplicit
theorem KR   (H:fnB sc N gl=zq):FnNm sc N gl:=by
 unfold fnB scOk at H;simp only[Je,QN,Bool.not_eq_true',Jf]at H;obtain⟨⟨⟨⟨⟨h1,h2⟩,h3⟩,h4⟩,h5⟩,h6,h7⟩:=H;refine⟨h1,h2,h3,h4,λy hy e=>?_,λx hx=>?_,λx hx=>?_⟩
 .have:=h5 y hy;rw[e]at this;cases this
 .have:=h6 x hx
  split at this
  .rename_i e;exact .inl e
  .rename_i e;exact .inr e
  .simp_all
 .have:=h7 x hx
  split at this
  .rename_i e;exact e
  .simp_all
section
variable{sc:Scope}{N gl:List Str}{x:Str}
theorem nq(H:FnNm sc N gl):N.Nodup:=H.nd
theorem fq(H:FnNm sc N gl)(n):Pg N (N.take n) sc:=⟨H.kind,H.co,H.gen,H.nd,by grind,λx hx=>H.nm x (List.mem_of_mem_take hx),H.nofree⟩
theorem lq(H:FnNm sc N gl)(i:Nat)(h:N[i]?=O x:=by rfl):L2.Loc sc x:=H.nm x (Qy h)
theorem gq(H:FnNm sc N gl)(i:Nat)(h:gl[i]?=O x:=by rfl):sc.names.lookup x=O .globalImplicit:=H.gl x (Qy h)
theorem pq{X}{pos}(H:FnNm X.env.scope X.N gl)(i)(h:X.N[i]?=O x:=by rfl)(hd:(x==("__debug__" : Str))=zr:=by decide)(hc:(x==("__classdict__" : Str))=zr:=by decide):PE X (.Name x pos) (Zk i):=
 L4 h ((H.nm x (Qy h)).elim .inl λz=>.inr (.inl z)) hd hc
end
theorem KW  {loose}{mean}{mg mb}{h}{ix}(P)(w)(base){ps}{k n:Nat}{F}(T:Top q loose mean mg mb h)(e:recsOf q=R7 p ix)(i:Nat)(x)(hi:ix.contains i=zq)(hn:Nx (Zg p i)=O x)
  (ok:∀{f}{fd},Fun (whole h) x x (Zg p i) f fd->FnOk P w (whole h) mg base CX0 k f fd ps (spD (whole h) n F))
  (hb:∀(kV doc pm)(an)(cdv ct)(us),us.length=ps.length->bindArgs (PySem.W.fnOf x x (W6 (Zg p i)) (XB (Zg p i)) (ZR (Zg p i)) .none kV doc pm an cdv ct) ⟨us,[]⟩=pure (ps.zip us)):Def P w (whole h) mg base x k n F:=by
 obtain⟨f,fd,m,FU⟩:=Hg T e i x hi hn;exact Def.mk m FU (FU.binds hb) (ok FU)
section
variable{X:Cx}{B G0:Hp}{e:UA}{pos:Pos}{es:zy}
theorem pdf{k kk n}{F}{g}{x}{p2}(d:Def X.prog X.w X.K X.mg X.base x k n F)(hr:Room kk X.A)(hg:Gl X x)(ha:PA X (e::es) (tDs X.K B G0 g))(hk:k<=kk:=by decide)(hn:(e::es).length=n:=by rfl)
  (hdb:(x==("__debug__" : Str))=zr:=by decide) (he:UD (e::es) X.env=(zr,eval e X.env)::UD es X.env:=by rfl) (hpl:(backTo pos (UD es X.env)).any (·.1)=zr:=by rfl) :
  PE X (.Call (.Name x p2) (e::es) [] pos) (tD X.K B G0 (U4 n F g)):=qv d (hr.mono hk) hg ha hn hdb he hpl
end
theorem Ds  {loose}{mean}{mg mb}{h:Heap}{ix}{P}{w}{k:Nat}{F}{y:Str}{fa:Uy}(T:Top q loose mean mg mb h)(e:recsOf q=R7 p ix)(i:Nat)(x:Str)(hi:ix.contains i=zq)(hn:Nx (Zg p i)=O x)(hfa:mg x=O (.ref fa))
  (hb:∀(kV doc pm)(an)(cdv ct v),bindArgs (PySem.W.fnOf x x (W6 (Zg p i)) (XB (Zg p i)) (ZR (Zg p i)) .none kV doc pm an cdv ct) ⟨[v],[]⟩=pure [(y,v)])
  (ok:∀(base:Heap){f:Uy}{fd},Fun (whole h) x x (Zg p i) f fd->FnOk P w (whole h) mg base CX0 k f fd [y] (spD (whole h) 1 F)) :
  ∃fd:Uz,(∀(s)(v),BindsTo s fd ⟨[v],[]⟩ [(y,v)])/\∀base:Heap,FnOk P w (whole h) mg base CX0 k fa fd [y] (spD (whole h) 1 F):=by
 obtain⟨f,fd,m,FU⟩:=Hg T e i x hi hn;cases hfa.symm.trans m;exact⟨fd,vW FU hb,λbase=>ok base FU⟩
def CK(K:Frag)(mg:Str->zB)(x:Str):Prop:=∃D bm,mg x=O (.ref D)/\ClsK K x D bm
noncomputable def Oe(x:Str):D->Bool
 |.dict [(.none,.tuple [.str nm,_])]=>decide (x=nm) || decide (x = "DealError")
 |_=>zr
noncomputable def RT(x:Str)(g h:SM):SM:=λρ=>match g ρ with
 |.ex ρ1 d=>if Oe x d=zq then(match h ρ1 with
  |.nx ρ2=>.nx ρ2
  |.bk ρ2=>.bk ρ2
  |.ct ρ2=>.ct ρ2
  |.rt d2=>.rt d2
  |_=>.bad)else .bad
 |o=>o
section
variable{X:Cx}{B G0:Hp}{KX:XW}{e a b c:UA}{pos p2 cpos np hpos:Pos}{es:zy}{x n:Str}{k kk:Nat}
theorem vU{K}{G}{v}{d}{D'}{bmD}(r:Rep K G v d)(h:Oe x d=zq)(cD:ClsK K x D' bmD) :
  ∃a C dd bm,v=.ref a/\KC K C bm/\G a=O (.ext (XO zr a C dd))/\(Value.ref C::bm).contains (.ref D')=zq:=by
 unfold Oe at h;split at h
 .obtain⟨a,C,dd,bm,br,vs,ds,rfl,e0,c,hx,_,_⟩:=r.exc_inv
  cases e0;exact⟨a,C,dd,bm,rfl,⟨_,c⟩,hx,by rw[c.has cD];exact h⟩
 simp_all
theorem qI{g h:SM}{body suite:List Stmt}{b₀:Stmt}{st:List Env}(cD:CK X.K X.mg x)(hg:Gl X x)
  (hb:∀(KX':XW)(W)(pn),NC zr (X.tried W pn) KX'->PSs (X.tried W pn) body (tS X.K B G0 KX' g)) (hs:∀a,PSs (X.suite a) (b₀::suite) (tS X.K B G0 KX0 h))
  (aj:X.stack=X.env::st:=by rfl) (hfr:X.env.frame=O X.env.locals:=by rfl) (hdb:(x==("__debug__" : Str))=zr:=by decide) :
  PS X (.Try body [.ExceptHandler (O (.Name x np)) zp (b₀::suite) hpos] [] [] pos) (tS X.K B G0 KX (RT x g h)):=PS.kin λkin=>by
 obtain⟨D',bmD,hm,ck⟩:=cD;obtain⟨fD,xD⟩:=ck.cls _ X.base kin;refine ZH (A9 (KC:=KC X.K)   aj hfr (Nc kin) xD hg hm hb hs hdb) λDn σ H ⟨G,ρ,k,a⟩=>?_
 refine⟨G,ρ,k,?_⟩;unfold RT at a;cases z:g ρ with
 |nx ρ1=>rw[z]at a;exact a
 |rt d=>rw[z]at a;exact a
 |ro ds=>rw[z]at a;exact a
 |bk ρ1=>rw[z]at a;exact a
 |ct ρ1=>rw[z]at a;exact a
 |bad=>rw[z]at a;exact a.elim
 |ex ρ1 d=>
  rw[z]at a;dsimp only at a;intro v σ1 G1 H1 k1 s1 r;by_cases hc:Oe x d=zq
  .rw[Qr hc]at a
   obtain⟨ad,C,dd,bm,rfl,kc,hx,hct⟩:=vU r hc ck;refine⟨ad,C,dd,bm,rfl,kc,k1.gh _ _ hx,hct,G1,_,k1,?_⟩;cases z2:h ρ1 with
   |nx ρ2=>rw[z2]at a;exact λσ2 G2 H2 k2 s2=>a _ G2 H2 k2 (s1.trans s2)
   |bk ρ2=>rw[z2]at a;exact λσ2 G2 H2 k2 s2=>a _ G2 H2 k2 (s1.trans s2)
   |ct ρ2=>rw[z2]at a;exact λσ2 G2 H2 k2 s2=>a _ G2 H2 k2 (s1.trans s2)
   |rt d2=>rw[z2]at a;exact a
   |ex _ _=>rw[z2]at a;exact a.elim
   |ro _=>rw[z2]at a;exact a.elim
   |bad=>rw[z2]at a;exact a.elim
  .rw[QA hc]at a;exact a.elim
end
def Ll(o:UA)(name:Str)(apos:Pos)(args:zy)(pos:Pos):Prop:=∀env:Env,∃pl:Sem Bool,eval (.Call (.Attribute o name apos) args [] pos) env=(do
   let ov ←eval o env
   standAt apos.atName
   let (f,first) ←holding [ov] (getMethod ov name pl)
   callWith pos f first (backTo pos (UD args env)) (backToKw pos (keywordEach [] env)))
section
variable{P:Ux}{w:World}{K:Frag}{mg:Str->zB}{base:Heap}{st:Stmt}{f f0 D:Uy}{fd fd0:Uz}{q:Str}{p1 p2 p3 p4 p5 p6 p7 p8 p9 r1 r2 r3 r4 r5 r6 r7 r8 r9 q1 q2:Pos}{j1 j2:Nat}
theorem qH(F:Fun K "__init__" q st f fd)(hn:FnNm (ZR st) ["self", "text"] ["ValueError"])(hm:mg "ValueError" = zp)
  (hb:XB st=[.Expr (.Call (.Attribute (.Name "ValueError" p1) "__init__" p2) [.Name "self" p3,.Name "text" p4] [] p5) p6])
  (ht:Ll (.Name "ValueError" p1) "__init__" p2 [.Name "self" p3,.Name "text" p4] p5) :
  FnOk P w K mg base CX0 1 f fd ["self", "text"] (GK (KC K)):=by
 refine F.ok (fq hn 2) (λvs H Q E ⟨a,C,dd,bm,x,e,_⟩=>by rw[e];rfl) λcdv A outer s H vs Q E hr ⟨a,C,dd,bm,x,e,kc,hx,hq⟩=>?_
 subst e;rw[hb];obtain⟨pl,ht⟩:=ht (Y2 CX0 P w K mg base ["self", "text"] q _ f cdv A outer s H E).nox.env;refine⟨LN (LU (KC K) _),PSs.kin λkin=>GE (N4 (xu  (Nc kin) (gq hn 0) hm (W7 (pq hn 0) (W7 (pq hn 1) Ts)) (ht:=ht))),?_⟩;exact⟨_,rfl,_,rfl,a,C,dd,bm,_,rfl,kc,hx,hq⟩
end
structure XSt(h:Heap)(nm:Str)(own:Option Stmt)(C N:Uy)(bm:zA)(mN:Str->zB):Prop where
 ad:h.nsMap mainGlobals nm=O (.ref C)
 obj:∃q bs sn sub ab col dd k0 k1 k2 k3 k5,h.get? C=O (excClassObj nm q C N bs bm zq sn sub ab col dd k0 k1 k2 k3 k5 "ValueError.__new__")
 ns:h.Ns N mN
 quiet:∀x∈Ny,mN x=zp
 up:nm = "DealError" /\ bm=VB∨nm ≠ "DealError" /\ ∃D,h.nsMap mainGlobals "DealError" = O (.ref D)/\bm=.ref D::VB
 init:match own with
  |none=>mN "__init__" = zp
  |some st=>∃f o pm cd doc,mN "__init__" = O (.ref f)/\h.get? f=O o/\o.cls=.type "function" /\ o.data=.func (methDef "__init__" (Rc nm) (W6 st) (XB st) (ZR st) pm cd doc)/\h.CodeRec cd (Rc nm)
section
variable{h h':Heap}{nm:Str}{own:Option Stmt}{C N:Uy}{bm:zA}{mN:Str->zB}
theorem ER    (e:h.nsMap a x=O v)(k:∀b o,h.get? b=O o->h'.get? b=O o):h'.nsMap a x=O v:=by
 unfold Heap.nsMap at e⊢;cases z:h.get? a with
 |none=>simp_all
 |some o=>rw[k _ _ z];rw[z]at e;exact e
theorem XSt.keeps(x:XSt h nm own C N bm mN)(k:∀b o,h.get? b=O o->h'.get? b=O o):XSt h' nm own C N bm mN where
 ad:=ER x.ad k
 obj:=let ⟨q,bs,sn,sub,ab,col,dd,k0,k1,k2,k3,k5,e⟩:=x.obj;⟨q,bs,sn,sub,ab,col,dd,k0,k1,k2,k3,k5,k _ _ e⟩
 ns:=x.ns.keeps k
 quiet:=x.quiet
 up:=x.up.imp id λ⟨a,D,b,c⟩=>⟨a,D,ER b k,c⟩
 init:=by
  have z:=x.init;cases own with
  |none=>exact z
  |some st=>obtain⟨f,o,pm,cd,doc,h1,h2,h3,h4,h5⟩:=z;exact⟨f,o,pm,cd,doc,h1,k _ _ h2,h3,h4,h5.keeps k⟩
theorem dA(st:Stmt):LM st=W6 st:=by cases st<;>rfl
theorem dB(st:Stmt):LK st=XB st:=by cases st<;>rfl
theorem dS(st:Stmt):L5 st=ZR st:=by cases st<;>rfl
structure XYP(p:Ux)(l:XL0)(h:Heap):Prop where
 st:∃mc,h.Ns cStatics mc/\mc "thirdparty.any" = zp
 cl:∀c∈l,∃C N bm mN,XSt h c.1 (c.2.map λi=>V2 (Zg p i)) C N bm mN
theorem XYP.keeps   (x:XYP p l h)(k:∀b o,h.get? b=O o->h'.get? b=O o):XYP p l h':=
 ⟨let ⟨mc,a,b⟩:=x.st;⟨mc,a.keeps k,b⟩,λc hc=>let ⟨C,N,bm,mN,z⟩:=x.cl c hc;⟨C,N,bm,mN,z.keeps k⟩⟩
theorem Cp{st:Stmt}{n}(b:xB h nm n=zq)(hown:own=zp->n=zr)(hs:∀st,own=O st->xSh h nm=O (zq,TH nm st)):∃C N bm mN,XSt h nm own C N bm mN:=by
 unfold xB at b;split at b
 .rename_i C hC
  split at b
  .rename_i t dd cd sl ho
   simp only[Je,Bool.not_eq_true',beq_iff_eq,Bool.or_eq_true,Jf,Option.isNone_iff_eq_none]at b;obtain⟨⟨⟨⟨⟨⟨⟨⟨b1,b2⟩,b3⟩,b4⟩,b5⟩,b6⟩,b7⟩,b8⟩,b9⟩:=b;obtain⟨cn,cb,cm,cns,cq,chd,csn,csub,cab,ccol,cdel⟩:=cd;simp only at b2 b3 b4 b6 b7 b8 b9;subst b1 b2 b3 b4;split at b5
   .rename_i k0 k1 k2 k3 k4 k5 hsl
    have b5:=Qa b5;subst b5;have hsl':sl=#[k0,k1,k2,k3,O (.builtin "ValueError.__new__"),k5]:=by rw[←Array.toList_inj,hsl]
    subst hsl'
    have key:∃bm,cm=.ref C::bm/\(cn = "DealError" /\ bm=VB∨cn ≠ "DealError" /\ ∃D,h.nsMap mainGlobals "DealError" = O (.ref D)/\bm=.ref D::VB):=by
     split at b9
     .rename_i e
      exact⟨VB,Qa b9,.inl ⟨e,rfl⟩⟩
     .rename_i e
      split at b9
      .rename_i D hD
       exact⟨.ref D::VB,Qa b9,.inr ⟨e,D,hD,rfl⟩⟩
      .cases b9
    obtain⟨bm,rfl,up⟩:=key;refine⟨C,cns,bm,h.nsMap cns,hC,⟨_,_,_,_,_,_,_,_,_,_,_,_,ho⟩,.of_isNs b6,b7,up,?_⟩;cases own with
    |none=>
     rcases b8 with b8|b8
     .rw[hown zo]at b8;cases b8
     .exact b8
    |some st=>
     have e:=hs st zo;unfold xSh at e;rw[hC]at e;dsimp only at e;rw[ho]at e;dsimp only at e;split at e
     .rename_i a o fd sh hf hsh
      simp only[Option.some.injEq,Prod.mk.injEq,QN]at e;obtain⟨e1,rfl⟩:=e;obtain⟨g1,g2,g3⟩:=Heap.fnAt_spec hf;unfold Heap.shapeAt at hsh;rw[hf]at hsh;obtain⟨n,q,ps,b,sc,g,cl,df,kd,doc,pm,an,code,ct,bi⟩:=fd;simp only[Option.map_some,TH,dA,dB,dS,Option.some.injEq,FnShape.mk.injEq]at hsh;obtain⟨rfl,rfl,rfl,rfl,rfl,rfl,rfl,rfl,rfl,rfl,rfl,rfl,hc⟩:=hsh;exact⟨a,o,pm,code,doc,g1,g2,e1,g3,.of_ok hc⟩
     .cases e
   .cases b5
  .cases b
 .cases b
theorem Co  {l}{s}(e:xSeen l s=xGood p l):XYP p l s.heap:=by
 obtain⟨e1,e2⟩:=Ut e;obtain⟨e1,e3⟩:=J5.mp e1;refine⟨⟨_,.of_isNs e1,Option.isNone_iff_eq_none.mp e3⟩,λc hc=>?_⟩;have q:=List.map_inj_left.mp e2 c hc;obtain⟨q1,q2⟩:=Ut q;refine Cp (st:=.Pass ⟨0,0,0,0⟩) q1 (λz=>?_) λst z=>?_
 .simp_all
 .cases hz:c.2 with
  |none=>simp_all
  |some i=>simp_all
end
theorem Hf:mroOf (.type "ValueError")=pure VB:=by kernel_rfl
theorem Dr:typeLookup (.type "ValueError") "__setattr__" = pure (O (.builtin "object.__setattr__")):=by kernel_rfl
theorem Dq:typeLookup (.type "ValueError") "__getattribute__" = pure (O (.builtin "BaseException.__getattribute__")):=by kernel_rfl
theorem D8:typeLookup (.type "ValueError") "__getattr__" = pure zp:=by kernel_rfl
theorem D7:typeLookup (.type "ValueError") "__class__" = pure (O (.builtin "object.__class__")):=by kernel_rfl
theorem qG:typeLookup (.type "ValueError") "part" = pure zp:=by kernel_rfl
theorem vT:typeLookup (.type "ValueError") "number" = pure zp:=by kernel_rfl
theorem Cn:typeLookup (.type "ValueError") "row" = pure zp:=by kernel_rfl
theorem Gz(v:Uv):refuseLoop v "__setattr__" VB=pure ():=by kernel_rfl
section
variable{h h':Heap}{nm:Str}{own ownD:Option Stmt}{C N D ND:Uy}{bm:zA}{mN mD:Str->zB}{M:Model}
theorem XSt.along(x:XSt h nm own C N bm mN)(xD:XSt h "DealError" ownD D ND VB mD){y}{r}(hy:y∈Ny)(hB:typeLookup (.type "ValueError") y=pure r):ZX M C y r h:=by
 obtain⟨q,bs,sn,sub,ab,col,dd,k0,k1,k2,k3,k5,e⟩:=x.obj;obtain⟨q',bs',sn',sub',bj,col',zS,k0',k1',k2',k3',k5',e'⟩:=xD.obj;refine ZX.of e (Xd.miss e x.ns (x.quiet y hy) ?_);rcases x.up with ⟨_,rfl⟩|⟨_,D',ae,rfl⟩
 .exact Xd.base Hf hB
 .have:=ae.symm.trans xD.ad
  cases this;exact Xd.miss e' xD.ns (xD.quiet y hy) (Xd.base Hf hB)
theorem XSt.tail(x:XSt h nm own C N bm mN):Tail VB bm:=by
 rcases x.up with ⟨_,rfl⟩|⟨_,D',_,rfl⟩
 .exact Tail.base
 .exact Tail.own Tail.base
def PK(h:Heap)(own ownD:Option Stmt)(mN mD:Str->zB)(nm:Str)(f:Uy):Prop:=match own with
 |some _=>mN "__init__" = O (.ref f)
 |none=>mD "__init__" = O (.ref f)
theorem XSt.xcls(x:XSt h nm own C N bm mN){std:Stmt}(xD:XSt h "DealError" (O std) D ND VB mD){f:Uy}(hf:PK h own (O std) mN mD nm f):XCls M h C bm f:=by
 have hD:=xD.init;obtain⟨fD,oD,pmD,cdD,docD,g1,g2,g3,g4,g5⟩:=hD;obtain⟨q,bs,sn,sub,ab,col,dd,k0,k1,k2,k3,k5,e⟩:=id x.obj;obtain⟨q',bs',sn',sub',bj,col',zS,k0',k1',k2',k3',k5',e'⟩:=id xD.obj
 have fin:ZX M C "__init__" (O (.ref f)) h/\∃o,h.get? f=O o/\o.cls=.type "function" :=by
  have z:=x.init;unfold PK at hf;cases own with
  |some st=>obtain⟨f',o,pm,cd,doc,h1,h2,h3,h4,h5⟩:=z;have hf:mN "__init__" = O (.ref f):=hf;rw[h1]at hf;cases hf;exact⟨ZX.of e (Xd.hit e x.ns h1),o,h2,h3⟩
  |none=>
   rw[g1]at hf;cases hf;refine⟨ZX.of e (Xd.miss e x.ns z ?_),oD,g2,g3⟩;rcases x.up with ⟨hn,rfl⟩|⟨_,D',ae,rfl⟩
   .subst hn
    have:=x.ad.symm.trans xD.ad;cases this;rw[e]at e';cases e';have:=x.ns.eq_nsMap.trans xD.ns.eq_nsMap.symm;rw[this]at z;rw[g1]at z;cases z
   .have:=ae.symm.trans xD.ad
    cases this;exact Xd.hit e' xD.ns g1
 refine⟨⟨nm,q,N,bs,sn,sub,ab,col,dd,k0,k1,k2,k3,k5,e⟩,x.tail,fin.1,fin.2,x.along xD (by decide) Dr,x.along xD (by decide) Dq,x.along xD (by decide) D8,x.along xD (by decide) D7,λv=>?_⟩;rcases x.up with ⟨_,rfl⟩|⟨_,D',_,rfl⟩
 .exact Gz v
 .rw[refuseLoop_ref];exact Gz v
theorem O2(k:(whole h).In h'):∀b o,h.get? b=O o->h'.get? b=O o:=λb o e=>k b o (by rw[Xb];exact e)
theorem M4  {a}(n:h.Ns a mA)(y):PySem.W.nsIn (whole h) a y=O (mA y):=by
 obtain⟨⟨oc,od,dt,os⟩,es,ep,ho,hd,hk,hf⟩:=n;subst hd;unfold PySem.W.nsIn;rw[Xb,ho];dsimp only;have:=hf y;unfold nsFind findBy at this;rw[←Array.find?_toList]at this;rw[←this];cases z:es.toList.find? _ with
 |some e=>rfl
 |none=>
  rw[QA]
  .rfl
  .rw[List.any_eq_true]
   rintro⟨e,he,hr⟩;obtain⟨n,t,hk⟩:=hk e (Array.mem_toList_iff.mp he);unfold DictEntry.refKey at hr;simp_all
theorem XSt.nmd(x:XSt h nm own C N bm mN):NmAt (whole h) nm C:=by obtain⟨q,bs,sn,sub,ab,col,dd,k0,k1,k2,k3,k5,e⟩:=x.obj;exact⟨_,_,by rw[Xb];exact e,rfl,rfl⟩
theorem EQ  (n:h.Ns mainGlobals mg)(e:h.nsMap mainGlobals nm=O (.ref C)):PR (whole h) nm=O C:=by unfold PR;rw[M4 n,n.eq_nsMap,e]
theorem XSt.clsK  (n:h.Ns mainGlobals mg)(x:XSt h nm own C N bm mN){std:Stmt}(xD:XSt h "DealError" (O std) D ND VB mD){f:Uy}(hf:PK h own (O std) mN mD nm f):ClsK (whole h) nm C bm where
 ad:=EQ n x.ad
 nmd:=x.nmd
 up:=x.up.imp id λ⟨a,D',b,c⟩=>⟨a,D',EQ n b,c,by have:=b.symm.trans xD.ad;cases this;exact xD.nmd⟩
 cls:=λM h' k=>⟨f,(x.keeps (O2 k)).xcls (xD.keeps (O2 k)) (by unfold PK at hf⊢;cases own<;>exact hf)⟩
 fld:=λM h' k y hy=>by
  have z:=x.keeps (O2 k);have zD:=xD.keeps (O2 k);simp only[List.mem_cons,List.not_mem_nil,or_false]at hy;rcases hy with rfl|rfl|rfl
  .exact z.along zD (by decide) qG
  .exact z.along zD (by decide) vT
  .exact z.along zD (by decide) Cn
theorem XSt.fun{st}(x:XSt h nm (O st) C N bm mN):∃f fd,mN "__init__" = O (.ref f)/\Fun (whole h) "__init__" (Rc nm) st f fd:=by
 obtain⟨f,⟨oc,od,dt,osl⟩,pm,cd,doc,h1,h2,h3,h4,h5⟩:=x.init;subst h4;refine⟨f,_,h1,⟨⟨oc,od,.none,doc,pm,_,cd,_,osl,rfl,by rw[Xb];exact h2,?_⟩,?_⟩⟩
 .obtain⟨c,⟨_,_,dc,_⟩,vs,t,rfl,g1,g2,g3⟩:=h5
  subst g2;unfold PySem.W.codeIn;dsimp only;rw[Xb,g1];dsimp only;have g4:vs.toList[1]?=O (.str (Rc nm) t):=by simp_all
  cases hv:vs.toList with
  |nil=>simp_all
  |cons v0 r=>
   rw[hv]at g4;cases r with
   |nil=>cases g4
   |cons v1 r=>cases g4;exact beq_self_eq_true _
 .unfold PySem.W.keepIn
  dsimp only;rw[Xb,h2]
theorem tf1{K}:PySem.W.findIn K (.type "type") "__init__" = O (O (.builtin "type.__init__")):=by kernel_rfl
theorem tf2{K}:PySem.W.specialIn K (.builtin "type.__init__") "__get__" = O (O (.builtin "wrapper_descriptor.__get__")):=by kernel_rfl
theorem tf3{K:Frag}:PySem.W.takesIn K (.builtin "type.__init__")=O zr:=by kernel_rfl
theorem tf4{K}:PySem.W.findIn K (.type "type") "__getattribute__" = O (O (.builtin "type.__getattribute__")):=by kernel_rfl
theorem tf5{K:Frag}:PySem.W.subIn K (.type "type") (.type "type")=O zq:=by kernel_rfl
theorem XSt.clsFn{st:Stmt}(x:XSt h "DealError" (O st) D ND VB mD)(hs:∃mc,h.Ns cStatics mc/\mc "thirdparty.any" = zp){f:Uy}(hf:mD "__init__" = O (.ref f)):Lp (whole h) D "__init__" f:=by
 obtain⟨f',o,pm,cd,doc,h1,h2,h3,h4,h5⟩:=x.init;rw[h1]at hf;cases hf;obtain⟨q,bs,sn,sub,ab,col,dd,k0,k1,k2,k3,k5,e⟩:=x.obj;obtain⟨mc,hc1,hc2⟩:=hs;have tD:PySem.W.typeIn (whole h) (.ref D)=O (.type "type"):=by unfold PySem.W.typeIn;dsimp only;rw[Xb,e];rfl
 have tf:PySem.W.typeIn (whole h) (.ref f)=O (.type "function"):=by unfold PySem.W.typeIn;dsimp only;rw[Xb,h2];exact Ug O h3
 refine⟨?_,?_,?_,?_⟩
 .unfold PySem.W.specialIn
  rw[tD];exact tf4 (K:=whole h)
 .unfold PySem.W.readsIn
  rw[M4 hc1,hc2,tD,tf4,tf5];rfl
 .unfold PySem.W.findCls
  rw[tf1];dsimp only[Option.bind_some];rw[tf2];dsimp only[Option.bind_some];rw[tf3];have hfi:PySem.W.findIn (whole h) (.ref D) "__init__" = O (O (.ref f)):=by unfold PySem.W.findIn;dsimp only;rw[Xb,e];dsimp only;unfold PySem.W.alongIn PySem.W.ownIn;dsimp only;rw[Xb,e];dsimp only;rw[M4 x.ns,h1]
  rw[hfi];dsimp only[Option.bind_some];rw[tf];rfl
 .unfold PySem.W.keepIn
  dsimp only;rw[Xb,h2];obtain⟨oc,od,dt,osl⟩:=o;subst h4;rfl
end
section
variable{h:Heap}{mg:Str->zB}{p:Ux}{l:XL0}{i j:Nat}{c:Str×Option Nat}{p1 p2 p3 p4 p5 p6 p7 p8 p9 r1 r2 r3 r4 r5 r6 r7 r8 r9 q1 q2:Pos}{j1 j2:Nat}
structure Root(p:Ux)(h:Heap)(mg:Str->zB)(i:Nat)(D f:Uy)(fd:Uz):Prop where
 at':mg "DealError" = O (.ref D)
 ex:∃ND mD,XSt h "DealError" (O (V2 (Zg p i))) D ND VB mD/\mD "__init__" = O (.ref f)
 cf:Lp (whole h) D "__init__" f
 bd:WT (whole h) fd ["self", "text"] []
 ok:∀(P:Ux)(w:World)(base:Heap),FnOk P w (whole h) mg base CX0 1 f fd ["self", "text"] (GK (KC (whole h)))
theorem XSt.root     (x:XSt h "DealError" own C N bm mN):bm=VB:=by
 rcases x.up with ⟨_,rfl⟩|⟨z,_⟩
 .rfl
 .exact absurd zo z
theorem qF(n:h.Ns mainGlobals mg)(Y:XYP p l h)(hD:(((("DealError" : Str),O i):Str×Option Nat)∈l))(hm:mg "ValueError" = zp)(hn:FnNm (ZR (V2 (Zg p i))) ["self", "text"] ["ValueError"])
  (hb:XB (V2 (Zg p i))=[.Expr (.Call (.Attribute (.Name "ValueError" p1) "__init__" p2) [.Name "self" p3,.Name "text" p4] [] p5) p6])
  (ht:Ll (.Name "ValueError" p1) "__init__" p2 [.Name "self" p3,.Name "text" p4] p5)
  (hbz:∀(kV doc pm)(an)(cdv ct)(us),us.length=(["self", "text"]:List Str).length->bindArgs (PySem.W.fnOf "__init__" (Rc "DealError") (W6 (V2 (Zg p i))) (XB (V2 (Zg p i))) (ZR (V2 (Zg p i))) .none kV doc pm an cdv ct) ⟨us,[]⟩=pure ((["self", "text"]:List Str).zip us)) :
  ∃D f fd,Root p h mg i D f fd:=by
 obtain⟨D,ND,bm,mD,x⟩:=Y.cl _ hD;have:=x.root;subst this;obtain⟨f,fd,hf,FU⟩:=XSt.fun  x;exact⟨D,f,fd,by rw[n.eq_nsMap];exact x.ad,⟨ND,mD,x,hf⟩,XSt.clsFn  x Y.st hf,FU.binds hbz,λP w base=>qH FU hn hm hb ht⟩
theorem D6(n:h.Ns mainGlobals mg)(Y:XYP p l h){D f}{fd}(R:Root p h mg i D f fd)(hc:c∈l):CK (whole h) mg c.1:=by
 obtain⟨C,N,bm,mN,x⟩:=Y.cl _ hc;obtain⟨ND,mD,xD,hf⟩:=R.ex;cases hz:c.2 with
 |none=>rw[hz]at x;exact⟨C,bm,by rw[n.eq_nsMap];exact x.ad,XSt.clsK n x xD  hf⟩
 |some k=>rw[hz]at x;obtain⟨f',o,pm,cd,doc,h1,h2⟩:=x.init;exact⟨C,bm,by rw[n.eq_nsMap];exact x.ad,XSt.clsK n x xD  h1⟩
end
theorem xI{l:PySem.W.OpenLaw}{n k:Nat}{q}{loose}{XP}{YP}{d}{F}{x:Str}
  (hn:l.most=O n) (hn2:n<=UB) (hdf:d.params.defaults=[]) (hr:Room k callerA)
  (hF:∀(w)(s₀)(mg mb)(fa)(h:Heap),PySem.W.Ground q loose [] XP w s₀ mg mb h->YP w h->mg d.name=O (.ref fa) ->
   ∃fd:Uz,(∀(s)(u),BindsTo s fd ⟨[u],[]⟩ [(x,u)])/\∀base:Heap,FnOk l.prog w (whole h) mg base CX0 k fa fd [x] (spD (whole h) 1 F))
  (hl:∀ns:zu,ns.length<=n->F [.list (ns.map int)]=O (.bool zq)) :
  PySem.W.WalkO q loose XP YP l.row.toRowW d [] (λf vs=>PySem.call f vs):=by
 refine Att.attach_call hn hdf λw s₀ s₁ mg mb fa o pm cd doc a vs ns G Y ho hd hcd hmg hobj hints hlen hg=>?_
 obtain⟨fd,hb,hF⟩:=hF w s₀ mg mb fa _ G Y hmg;exact xz (kh _) G.T.g G.T.b G.T.builtins G.T.nolimit hg hobj hints (QM hlen hn2) hr (λbase _ _=>hF base) hb (λH hO hS=>By hS (hl ns hlen)) λH e s' z=>z
section
variable{α β:Type}{ρ ρ1 ρ2 ρ3 ρ':UZ}{f:M D}{s t:SM}{Q:Out->Prop}{d:D}{ds fs:zw}{nm x:Str}{o:Out}
theorem kg(h1:s ρ=.nx ρ1):RT x s t ρ=.nx ρ1:=by unfold RT;rw[h1]
end
end DL
namespace L2
open PySem PySem.Spec PyProof.Rows
noncomputable def Cm(trs:Uy->List (TE×TE)):TE:=λσ H Q=>∀p,H p=zp->P9 (trs p) σ (upd H p (.dK [])) λps H2=>H2 p=O (.dK [])/\∃kvs:List (Key×V),ps=kvs.map (λkv=>(kV kv.1,kv.2))/\kvs.length<=15/\Q (.ref p) (upd H2 p (.dK (V1 [] kvs)))
theorem kf{X:Cx}{pos:Pos}{keys}{values}{trs}(h:∀p,PPs X pos keys values (trs p))(hall:keys.all (·.isSome)=zq)(hl:keys.length=values.length)(h0:keys≠[])
  (h15:keys.length<=15):PE X (.Dict keys values pos) (Cm trs):=by
 intro pins s σ H Q I q;have hn:=I.hok.fresh (Qx s.heap.objs.size);have I1:=I.laid    (t':=s.toks) (λ_ _ q=>Qm _ q) (Qx _) (xy s.heap I.big);refine wpAny_Dict_walk (knd:=Y8 X.prog X.w) hall hl h0 h15 (thn (h _ pins _ σ _ _ I1 (q _ hn)) λws s2 ⟨ps,H2,I2,rel,e,kvs,ep,lk,q2⟩=>?_);subst ep;obtain⟨rs,c,rk⟩:=EY  (w:=X.w) rel;obtain⟨z,hd,vs0,r0,dd⟩:=Lq I2.hok e;cases r0;refine⟨rs,c,dd,λh' zS hs=>⟨.ref s.heap.objs.size,_,?_,rfl,q2⟩⟩;have hz:(V1 [] kvs).length<=UB:=by have h1:=Dl kvs [];rw[Qw]at h1;rw[sizeLine_eq];lia
 have he:∃q,h'.get? s.heap.objs.size=O q:=let ⟨q,_,_,hq,_⟩:=zS;⟨q,hq⟩
 exact NX I2 (by rw[e];exact True.intro) hs he (LV hz hd (rk.merge .nil) zS)
theorem ke  {k:Key}{v}(h:k∉kvs.map (·.1)):Zt kvs k v=kvs++[(k,v)]:=by unfold Zt;simp_all
theorem E7:∀(more kvs),((kvs++more).map (·.1)).Nodup->V1 kvs more=kvs++more
 |[],kvs,_=>by rw[Jm];rfl
 |p::r,kvs,h=>by
  have hn   :=by rw[Qu,List.nodup_append]at h;exact λz=>h.2.2 _ z p.1 (Qn.mpr ⟨p,Ql,rfl⟩) zo
  show V1 (Zt kvs p.1 p.2) r=_;rw[ke hn,E7 r _ (by rw[Q2];exact h),Q2];rfl
end L2
namespace DL
open PySem PySem.Spec L2
open PyProof.Rows hiding St
theorem HW{α β γ:Type}(f):∀(ks:List α)(vs:List (γ×β)),vs.map (·.1)=ks.map f->vs=(ks.zip (vs.map (·.2))).map (λkv=>(f kv.1,kv.2))
 |[],[],_=>rfl
 |k::ks,(a,b)::vs,h=>by injection h with h1 h2;have h1:a=f k:=h1;rw[Qv,Q4,Qv,←HW f ks vs h2,h1]
theorem FM{α β:Type}:∀(ps:List (α×β)),(ps.map (·.1)).zip (ps.map (·.2))=ps
 |[]=>rfl
 |p::r=>by rw[Qv,Qv,Q4,FM r]
noncomputable def Rl:List (M D×M D)->M (List (D×D))
 |[]=>U2 []
 |(f,g)::r=>Kq f λx=>Kq g λy=>Kq (Rl r) λps=>U2 ((x,y)::ps)
noncomputable def Yc:D->Option Key
 |.int i=>O (.inl i)
 |.str x=>O (.inr x)
 |_=>zp
noncomputable def Od:zw->Option zH
 |[]=>O []
 |d::r=>match Yc d,Od r with
  |some k,O ks=>O (k::ks)
  |_,_=>zp
noncomputable def O8(ps:List (D×D)):zx:=match Od (ps.map (·.1))with
 |some ks=>if ks.Nodup/\ks.length<=15/\ks≠[]then O (.dict ps)else zp
 |none=>zp
noncomputable def O7(prs:List (M D×M D)):M D:=Kq (Rl prs) λps=>Ku (O8 ps)
def D5(K:Frag)(G:Hp)(vs:List (V×V))(ps:List (D×D)):Prop:=Reps K G (vs.map (·.1)) (ps.map (·.1))/\Reps K G (vs.map (·.2)) (ps.map (·.2))
section
variable{K:Frag}{B G0 G H:Hp}{σ:St}{ρ:UZ}
theorem RG   (h:Yc d=O k):d=kD k:=by
 cases d with
 |int i=>cases h;rfl
 |str x=>cases h;rfl
 |_=>cases h
theorem El:∀{ds}{ks},Od ds=O ks->ds=ks.map kD
 |[],_,h=>by cases h;rfl
 |d::r,ks,h=>by
  unfold Od at h;split at h
  .rename_i k ks' h1 h2
   cases h;rw[Qv,←RG h1,←El h2]
  simp_all
theorem Rep.key_inv   (r:Rep K G v (kD k)):v=kV k:=by
 cases k with
 |inl i=>exact r.int_inv
 |inr x=>exact r.str_inv
theorem Reps.keys_inv:∀{vs}{ks:zH},Reps K G vs (ks.map kD)->vs=ks.map kV
 |_,[],.nil=>rfl
 |_,k::ks,.cons h t=>by rw[h.key_inv,Reps.keys_inv t];rfl
theorem Ek:∀{prs}{G H}{ρ}{Q},EOk K B G0 G H σ ρ ->
  (match Rl prs ρ with
   |.ok ps ρ'=>∀vs G' H',EOk K B G0 G' H' σ ρ'->Same G G'->D5 K G' vs ps->Q vs H'
   |.bad=>False)->P9 (prs.map λp=>(tD K B G0 p.1,tD K B G0 p.2)) σ H Q
 |[],G,H,ρ,Q,k,a=>a [] G H k (.refl _) ⟨.nil,.nil⟩
 |(f,g)::r,G,H,ρ,Q,k,a=>by
  refine⟨G,ρ,k,?_⟩;unfold Rl Kq at a;show aft K B G0 _ (f ρ) G σ _;cases z:f ρ with
  |bad=>rw[z]at a;exact a.elim
  |ok x ρ1=>
   rw[z]at a;dsimp only at a;intro v G1 H1 k1 s1 r1;refine⟨G1,ρ1,k1,?_⟩;show aft K B G0 _ (g ρ1) G1 σ _;cases z2:g ρ1 with
   |bad=>rw[z2]at a;exact a.elim
   |ok y ρ2=>
    rw[z2]at a;dsimp only at a;intro u G2 H2 k2 s2 r2;refine Ek  k2 ?_;cases z3:Rl r ρ2 with
    |bad=>rw[z3]at a;exact a.elim
    |ok ps ρ3=>rw[z3]at a;intro vs G3 H3 k3 s3 r3;exact a _ G3 H3 k3 ((s1.trans s2).trans s3) ⟨.cons ((r1.mono s2).mono s3) r3.1,.cons (r2.mono s3) r3.2⟩
theorem EOk.under  (k:EOk K B G0 G H σ ρ)(hp:H p=zp):EOk K (upd B p (.dK [])) G0 G (upd H p (.dK [])) σ ρ where
 bh:=λb o q=>by
  by_cases z:b=p
  .subst z;rw[Zq]at q⊢;exact q
  .rw[KO z]at q⊢;exact k.bh b o q
 gh:=k.gh.trans (ZQ hp)
 g0:=k.g0
 np:=λa u q n=>by
  by_cases z:a=p
  .subst z;exact k.gh.free hp
  .rw[KO z]at q;exact k.np a u q n
 len:=k.len
 pub:=k.pub
 own:=λi ds q=>by obtain⟨a,vs,h1,h2,h3,h4,h5⟩:=k.own i ds q;have z   :=Yw h4 hp;exact⟨a,vs,h1,by rw[KO z];exact h2,h3,by rw[KO z];exact h4,h5⟩
 sep:=k.sep
 dp:=k.dp.map (λ_ _ _ q=>⟨q,rfl⟩) (λ_ ds q=>⟨ds,q,rfl⟩) λi pt d v fp q s r w n=>⟨r.mono (.refl _) (ZQ hp),λb m=>let ⟨_,hl⟩:=r.isl b m;⟨by rw[KO (Yw hl hp)];exact(w b m).1,(w b m).2⟩⟩
end
section
variable{X:Cx}{B G0:Hp}{KX:XW}{e o a b c:UA}{pos p2:Pos}{es rest:zy}
structure DPs(X:Cx)(pos:Pos)(G0:Hp)(keys:List (Option UA))(values:zy)(prs:List (M D×M D)):Prop where
 out:∀B',PPs X pos keys values (prs.map λp=>(tD X.K B' G0 p.1,tD X.K B' G0 p.2))
theorem Ai:DPs X pos G0 [] [] []:=⟨λ_=>qa⟩
theorem ka    {f g}{prs}(hk:∀B',PE X k (tD X.K B' G0 f))(hv:∀B',PE X v (tD X.K B' G0 g))(hr:DPs X pos G0 ks vs prs):DPs X pos G0 (O k::ks) (v::vs) ((f,g)::prs):=
 ⟨λB'=>xx (hk B') (hv B') (hr.out B')⟩
noncomputable def VY(x y:D):zx:=match x,Yc y with
 |.dict kvs,O k=>(kvs.find? λp=>decide (Yc p.1=O k)).map (·.2)
 |_,_=>zp
theorem Ov(k:Key):Yc (kD k)=O k:=by cases k<;>rfl
theorem Mq{K}{G:Hp}{k}{d:D}:∀{ks:zH}{vs}{ds},Reps K G vs ds->(((ks.map kD).zip ds).find? λp=>decide (Yc p.1=O k)).map (·.2)=O d->∃v,ZS (ks.zip vs) k=O v/\Rep K G v d
 |[],vs,ds,_,e=>by simp at e
 |q::ks,_,_,.nil,e=>by simp at e
 |q::ks,_,_,@Reps.cons _ _ v d0 vs ds r t,e=>by
  rw[Qv,Q4,List.find?_cons]at e;unfold ZS;rw[Q4,List.find?_cons];rw[Ov]at e;by_cases h:q=k
  .subst h
   simp only[decide_true]at e⊢;cases e;exact⟨v,rfl,r⟩
  .have h':¬_:=λz=>h (QO z)
   simp only[h,h',decide_false]at e⊢;exact Mq t e
theorem Ej  : ∀{ks:List zH}{ds:zw},((ks.map tkD).zip ds).find? (λkv=>decide (Yc kv.1=O ky))=zp
 |[],_=>rfl
 |_::_,[]=>rfl
 |k::ks,d::ds=>by exact Ej (ks:=ks)
theorem Ah(hu:X.A.units+64<cLine){f g}(ha:PE X a (tD X.K B G0 f))(hb:PE X b (tD X.K B G0 g))(hs:Vo b:=by intro _ _;rfl):PE X (.Subscript a b pos) (tD X.K B G0 (U1 VY f g)):=
 KF (GC (by lia) ha hb hs) λσ H Q q=>tM.two q λv u H2 G ρ x y k rx ry a=>by
  obtain⟨d,e,a1⟩:=a.opt;unfold VY at e;split at e
  .rename_i kvs ky hk
   have hy:=RG hk;subst hy;have hu:=ry.key_inv;subst hu;cases rx with
   |dic h=>simp_all
   |exc _ _ _ _=>simp[Yc]at e
   |@dct ad ks vs ds _ e0 hne hl h r=>subst e0;obtain⟨w,hw,zV⟩:=Mq r e;exact⟨ad,w,rfl,.inl ⟨_,ky,.inl (k.gh _ _ h),rfl,hw.symm⟩,a1.now k zV⟩
   |@dtt ad ob ks vs ds _ e0 hl h r=>subst e0;have z:=Ej (ks:=ks) (ds:=ds) (ky:=ky);unfold pdD at e;rw[List.find?_cons_of_neg (by show ¬decide ((zp)=O ky)=zq;simp),z]at e;cases e
  simp_all
end
end DL
namespace DL
open PySem PySem.Spec L2 PySem.SeqAt PySem.AutoSeq1
open PyProof.Rows hiding St
end DL
namespace DL
open PySem PySem.Spec L2
open PyProof.Rows hiding St
end DL
namespace L2
open PySem PySem.Spec PyProof.Rows
end L2
namespace DL
open PySem PySem.Spec L2
open PyProof.Rows hiding St
end DL
namespace L2
open PySem PySem.Spec PyProof.Rows
end L2
namespace DL
open PySem PySem.Spec L2
open PyProof.Rows hiding St
end DL
namespace L2
open PySem PySem.Spec PyProof.Rows
end L2
namespace DL
open PySem PySem.Spec L2
open PyProof.Rows hiding St
theorem EOk.lent{K}{B G0 G H}{σ}{ρ}(k:EOk K B G0 G H σ ρ):EOk K H H H H σ (Z3 ρ) where
 bh:=.refl _
 gh:=.refl _
 g0:=.refl _
 np:=λ_ _ e n=>by lia
 len:=by unfold Z3;rw[Qb];exact k.len
 pub:=λi d e=>by
  rcases F7 e with e2|⟨ds,rfl,e2⟩|⟨p,e2⟩
  .exact k.tree (by unfold R8;rw[e2])
  .exact k.tree (by unfold R8;rw[e2])
  .exact k.tree (by unfold R8;rw[e2])
 own:=λi ds e=>(RE e).elim
 sep:=λi j a ds es e=>(RE e).elim
 dp:=.of (λ_ _ _ q=>EX q) λ_ _ q=>RE q
end DL
namespace L2
open PySem PySem.Spec PyProof.Rows
end L2
namespace DL
open PySem PySem.Spec L2
open PyProof.Rows hiding St
end DL
namespace L2
open PySem PySem.Spec PyProof.Rows
end L2
namespace DL
open PySem PySem.Spec L2
open PyProof.Rows hiding St
theorem No{α:Type}(a:α):[a].Nodup:=by simp
section
variable{K:Frag}{B G0 G H:Hp}{σ:St}{ρ:UZ}
structure NewT(K:Frag)(B G H:Hp)(σ:St)(ρ:UZ)(pt:Pat)(v:V)(d:D)(fp:zE):Prop where
 r:RepO K G H pt v d fp
 nd:fp.Nodup
 b:∀a∈fp,B a=zp/\G a=zp
 f:∀a∈fp,∀(j:Nat) es,ρ[j]?=O (O (.own es))->σ[j]?≠O (O (.ref a))
 dp:∀a∈fp,∀(j:Nat) p d v fp',ρ[j]?=O (O (.deep p d))->σ[j]?=O (O v)->RepO K G H p v d fp'->a∉fp'
theorem EOk.setDeep{i:Nat}{pt:Pat}{v:V}{d:D}{fp}(k:EOk K B G0 G H σ ρ)(n:NewT K B G H σ ρ pt v d fp)(hi:i<ρ.length):EOk K B G0 G H (σ.set i (O v)) (ρ.set i (O (.deep pt d))) where
 bh:=k.bh
 gh:=k.gh
 g0:=k.g0
 np:=k.np
 len:=by rw[Jb,Jb];exact k.len
 pub:=λj d' q=>by
  by_cases z:i=j
  .subst z;have:=Yg q;cases this
  .rw[Qp z]at q⊢
   exact k.pub j d' q
 own:=λj es q=>by
  by_cases z:i=j
  .subst z;have:=Yg q;cases this
  .rw[Qp z]at q⊢
   exact k.own j es q
 sep:=λj l c es fs q1 q2 s1 s2=>by
  have z1:i≠j:=λz=>by subst z;have:=Yg q1;cases this
  have z2:i≠l:=λz=>by subst z;have:=Yg q2;cases this
  rw[Qp z1]at q1 s1;rw[Qp z2]at q2 s2;exact k.sep j l c es fs q1 q2 s1 s2
 dp:=by
  obtain⟨ω,k1,k2⟩:=k.dp;have hs:i<σ.length:=by rw[←k.len];exact hi
  refine⟨λb=>if b∈fp then i else ω b,λj p d' q=>?_,λj es b q s=>?_⟩
  .by_cases z:i=j
   .subst z
    have:=Yg q;cases this;exact⟨v,fp,QI hs,n.r,n.nd,λa m=>⟨(n.b a m).1,(n.b a m).2,Qr m⟩⟩
   .rw[Qp z]at q⊢
    obtain⟨v',fp',s,r,nn,w⟩:=k1 j p d' q;refine⟨v',fp',s,r,nn,λb m=>⟨(w b m).1,(w b m).2.1,?_⟩⟩;dsimp only;rw[QA (λz=>n.dp b z j p d' v' fp' q s r m)];exact(w b m).2.2
  .by_cases z:i=j
   .subst z;have:=Yg q;cases this
   .rw[Qp z]at q s
    dsimp only;rw[QA (λz=>n.f b z j es q s)];exact k2 j es b q s
theorem RepOl.leaf:∀{vs}{ds},Reps K G vs ds->RepOl K G H .leaf vs ds []
 |_,_,.nil=>.nil
 |_,_,.cons h t=>.cons   (.leaf h) (RepOl.leaf t)
noncomputable def Tp(ρ:UZ)(i:Nat):Option (Pat×D):=match ρ[i]? with
 |some (O (.own ds))=>O (.lst .leaf,.list ds)
 |some (O (.deep p d))=>O (p,d)
 |_=>zp
theorem EOk.slots(k:EOk K B G0 G H σ ρ):∃ω:Uy->Nat,∀(i) p d,Tp ρ i=O (p,d)->∃v fp,σ[i]?=O (O v)/\RepO K G H p v d fp/\fp.Nodup/\∀a∈fp,B a=zp/\G a=zp/\ω a=i:=by
 obtain⟨ω,k1,k2⟩:=k.dp;refine⟨ω,λi p d h=>?_⟩;unfold Tp at h;split at h
 .rename_i ds q
  cases h;obtain⟨a,vs,h1,h2,h3,h4,h5⟩:=k.own i ds q;refine⟨.ref a,[a],h1,.lst h4 (.leaf h5),No a,λb m=>?_⟩;rw[QB.mp m];exact⟨h2,h3,k2 i ds a q h1⟩
 .rename_i p' d' q
  cases h;exact k1 i p d q
 simp_all
theorem EOk.mutD{j:Nat}{p:Pat}{d d':D}{v:V}{fp fp'}{a:Uy}{o:HO}(k:EOk K B G0 G H σ ρ)(hd:ρ[j]?=O (O (.deep p d)))(hv:σ[j]?=O (O v))(r:RepO K G H p v d fp)(ha:a∈fp)
  (r':RepO K G (upd H a o) p v d' fp') (nd':fp'.Nodup) (sub:∀b∈fp',b∈fp):EOk K B G0 G (upd H a o) σ (ρ.set j (O (.deep p d'))):=by
 obtain⟨ω,k1,k2⟩:=k.dp;obtain⟨v0,fp0,s0,r0,n0,w0⟩:=k1 j p d hd;rw[hv]at s0;cases s0;have e0:=r0.uniq (.refl _) r;subst e0;obtain⟨hb,hg,hw⟩:=w0 a ha;obtain⟨ws,hl⟩:=r.isl a ha;have nt:∀vs,H a≠O (.tup vs):=λvs z=>by rw[hl]at z;cases ws<;>cases z
 have nz:∀{m:Nat}{s:Sl},j≠m->(ρ.set j (O (.deep p d')))[m]?=O (O s)->ρ[m]?=O (O s):=λ{m s} z q=>by rw[Qp z]at q;exact q
 refine⟨λb u e=>?_,λb u e=>?_,k.g0,k.np,by rw[Jb];exact k.len,λm dm e=>?_,λm es e=>?_,λm l c es fs q1 q2 s1 s2=>?_,ω,λm pm dm e=>?_,λm es b e s=>?_⟩
 .rw[KO (Yw e hb)];exact k.bh b u e
 .rw[KO (Yw e hg)];exact k.gh b u e
 .by_cases z:j=m
  .subst z;have:=Yg e;cases this
  .exact k.pub m dm (nz z e)
 .by_cases z:j=m
  .subst z;have:=Yg e;cases this
  .have e:=nz z e
   obtain⟨c,us,g1,g2,g3,g4,g5⟩:=k.own m es e;have zc:c≠a:=λw=>by subst w;exact z (hw.symm.trans (k2 m es c e g1))
   exact⟨c,us,g1,g2,g3,by rw[KO zc];exact g4,g5⟩
 .have z1:j≠m:=λz=>by subst z;have:=Yg q1;cases this
  have z2:j≠l:=λz=>by subst z;have:=Yg q2;cases this
  exact k.sep m l c es fs (nz z1 q1) (nz z2 q2) s1 s2
 .by_cases z:j=m
  .subst z
   have:=Yg e;cases this;exact⟨v,fp',hv,r',nd',λb mb=>w0 b (sub b mb)⟩
  .obtain⟨vm,fm,sm,rm,nm,wm⟩:=k1 m pm dm (nz z e)
   exact⟨vm,fm,sm,rm.upd nt (λmm=>z (hw.symm.trans (wm a mm).2.2)),nm,wm⟩
 .have z:j≠m:=λz=>by subst z;have:=Yg e;cases this
  exact k2 m es b (nz z e) s
end
noncomputable def tT(K:Frag)(B G0:Hp)(pt:Pat)(f:M D):TE:=λσ H Q=>∃G ρ,EOk K B G0 G H σ ρ/\match f ρ with
 |.ok d ρ'=>∀v fp G' H',EOk K B G0 G' H' σ ρ'->Same G G'->NewT K B G' H' σ ρ' pt v d fp->Q v H'
 |.bad=>False
noncomputable def SR(i:Nat)(pt:Pat)(f:M D):SM:=sB f λd ρ=>if i<ρ.length then .nx (ρ.set i (O (.deep pt d)))else .bad
section
variable{X:Cx}{B G0:Hp}{KX:XW}{e o a b c:UA}{pos:Pos}{es:zy}{st:Stmt}{sts:List Stmt}{pt:Pat}
theorem Ag     (hN:X.N.Nodup)(hi:X.N[i]?=O x)(hx:Loc X.env.scope x)(he:PE X e (tT X.K B G0 pt f))(hs:swapsWith e (O (.Name x p2)) pos.line X.env=pure zr:=by rfl)
  (hf:X.fn x=zq∨X.env.scope.names.lookup x=O .local:=by first|exact .inl rfl|exact .inr rfl|assumption):PS X (.Assign [.Name x p2] e pos) (tS X.K B G0 KX (SR i pt f)):=
 ZH (NB hN hi hx he hs hf) λD σ H ⟨G,ρ,k,a⟩=>by
  refine⟨G,ρ,k,?_⟩;unfold SR sB at a;cases z:f ρ with
  |bad=>rw[z]at a;exact a.elim
  |ok ds ρ1=>
   rw[z]at a;intro v fp G' H' k' s' n;dsimp only at a;split at a
   .rename_i hl
    exact a _ G' H' (k'.setDeep n hl) s'
   .exact a.elim
end
noncomputable def isT:Option HO->Bool
 |some (.tup _)=>zq
 |some (.frz _ (.tup _))=>zq
 |_=>zr
theorem Ck{u:MO}:isT (O u.ho)=zr:=by cases u<;>rfl
noncomputable def ZK(fp:zE)(G H:Hp):Hp:=λb=>if b∈fp∨isT (H b)=zq then H b else G b
section
variable{K:Frag}{B G0 G H:Hp}{fp:zE}
theorem xH(gh:Same G H):Same G (ZK fp G H):=λb o e=>by
 unfold ZK;split
 .exact gh b o e
 .exact e
theorem Af(gh:Same G H):Same (ZK fp G H) H:=λb o e=>by
 unfold ZK at e;split at e
 .exact e
 .exact gh b o e
theorem HV{b:Uy}(h:b∈fp∨isT (H b)=zq):ZK fp G H b=H b:=by unfold ZK;rw[Qr h]
theorem HU  (h:b∉fp)(h2:isT (H b)=zr):ZK fp G H b=G b:=by
 unfold ZK;rw[QA];rintro(z|z)
 .exact h z
 lia
theorem Ext.pubT  (ex:Ext G H G' H')(fr:∀a∈fp,H a=zp):Ext G H (ZK fp G' H') H':=
 ⟨ex.h,ex.g.trans (xH ex.gh),Af ex.gh,λa u e n=>by rw[HU (λm=>by simp_all) (by rw[ex.h a _ e];exact Ck)];exact ex.np a u e n⟩
noncomputable def nl0:D->Bool
 |.tuple ds=>ds.all flat
 |d=>flat d
theorem Rep.nl{G' G2 H'}{v}{d}(r:Rep K G' v d)(h:nl0 d=zq)(gh:Same G' H'):Rep K (ZK fp G2 H') v d:=by
 cases r with
 |tup hs rr=>
  refine .tup ?_ (rr.flat h);rcases hs with (hs|⟨o,hs⟩)|hs
  .have:=gh _ _ hs
   exact .inl (.inl ((HV (.inr (by rw[this];rfl))).trans this))
  .have:=gh _ _ hs
   exact .inl (.inr ⟨o,(HV (.inr (by rw[this];rfl))).trans this⟩)
  .exact .inr hs
 |non=>exact .non
 |bl b=>exact .bl b
 |int i=>exact .int i
 |str x=>exact .str x
 |lst _ _=>cases h
 |dic _=>cases h
 |exc _ _ _ _=>cases h
 |dct _ _ _ _ _=>cases h
 |dtt _ _ _ _=>cases h
theorem Reps.nl{G' G2 H'}(gh:Same G' H'):∀{vs}{ds},Reps K G' vs ds->ds.all nl0=zq->Reps K (ZK fp G2 H') vs ds
 |_,_,.nil,_=>.nil
 |_,_,.cons r t,h=>by rw[List.all_cons,Je]at h;exact .cons (r.nl h.1 gh) (Reps.nl gh t h.2)
end
noncomputable def WN(f:M zw):M zw:=λρ=>match f (Z3 ρ)with
 |.ok ds _=>if ds.all nl0=zq then .ok ds ρ else .bad
 |.bad=>.bad
section
variable{ρ ρ1 ρ2 ρ':UZ}{pt:Pat}
theorem Ae  {f}{d}(h1:f ρ=.ok d ρ1)(h2:i<ρ1.length)(h3:ρ1.set i (O (.deep pt d))=ρ'):SR i pt f ρ=.nx ρ':=by unfold SR sB;simp_all
theorem j9   (h:f (Z3 ρ)=.ok ds ρ')(hf:ds.all nl0=zq):WN f ρ=.ok ds ρ:=by unfold WN;rw[h];dsimp only;rw[if_pos hf]
end
theorem NewL.back{K}{B G0 G H G' H':Hp}{σ:St}{ρ ρ1:UZ}{ad:Uy}{vs:List V}{ds}(k:EOk K B G0 G H σ ρ)(k':EOk K H H G' H' σ ρ1)(n:NewL K H G' H' σ ρ1 ad vs ds)(hf:ds.all nl0=zq) :
  EOk K B G0 (ZK [] G H') H' σ ρ/\Same G (ZK [] G H')/\NewL K B (ZK [] G H') H' σ ρ ad vs ds:=by
 have ex:Ext G H G H':=⟨k'.bh,.refl _,k.gh.trans k'.bh,λ_ _ _ n=>n⟩;have ex2:Ext G H (ZK [] G H') H':=ex.pubT (λa m=>by cases m);refine⟨k.ext ex2,ex2.g,⟨k.bh.free n.b,?_,n.h,n.r.nl k'.gh hf,λj es q w=>?_,λj pt d v fp q s r=>k.freshD k'.bh n.b q s r⟩⟩
 .rw[HU (by simp) (by rw[n.h];rfl)]
  exact k.gh.free n.b
 .obtain⟨b,us,g1,g2,g3,g4,g5⟩:=k.own j es q
  rw[g1]at w;cases w;rw[n.b]at g4;cases g4
section
variable{X:Cx}{B G0:Hp}{KX:XW}
theorem D4{l:Bool}{y:Str}{j:Nat}{py:Pos}{spos:Pos}{tg elt iter:UA}{ifs:zy}{gs:List Comprehension}{scope:Scope}{pos:Pos}{N2:List Str}{k:Nat}{f:M zw}{s}{t:M Bool}{rd:RdB}(hN:X.N.Nodup)(hj:X.N[j]?=O y)(hy:X.env.scope.names.lookup y=O .local)(hc:X.calm=zq)
  (hi:∀B' G',PI X tg iter (iD X.K B' G' f)) (zN:Z8 X N2 scope (.ListComp elt (⟨tg,iter,ifs,0⟩::gs) scope pos) tg ifs s t rd) (hb:SX X.env.scope scope X.N N2 k) (hs:∀x,UT iter X.env x=pure x:=by intro _;rfl)
  (hsw:swapsWith (.ListComp elt (⟨tg,iter,ifs,0⟩::gs) scope pos) (O (.Name y py)) spos.line X.env=pure zq:=by rfl) :
  PS X (.Assign [.Name y py] (.ListComp elt (⟨tg,iter,ifs,0⟩::gs) scope pos) spos) (tS X.K B G0 KX (ZC j (WN (dCG l f k s t rd)))):=by
 intro pins s0 σ H Dn I ⟨G,ρ,k0,a⟩;unfold ZC sB WN at a;cases z:dCG l f k s t rd (Z3 ρ)with
 |bad=>rw[z]at a;exact a.elim
 |ok es ρ1=>
 rw[z]at a;dsimp only at a;by_cases hnl:es.all nl0=zq
 case neg=>rw[QA hnl]at a;exact a.elim
 rw[Qr hnl]at a;dsimp only at a;by_cases hl:j<ρ.length
 .rw[Qr hl]at a
  obtain⟨ds,ρF,zf,zl,hfl⟩:=NU z;rw[exec_Assign_Name_used _ _ _ _ hsw];refine Qf (JE (Qf ?_));refine Qf (QG (Mc   hc (hi H H) zN hb hs I k0.lent zf zl hfl λC D vs G' H' s4 m I7 hm hC hL hz hcl hp k' s' n=>?_) (λ_ s' hq=>Qs (Qs hq)) λ_ _ e=>e);refine wpAny_assign_Name (M8 I7 hN hj (.inl hy) (v:=.ref D) zo (λs5 I8 ⟨ad,sb,hx⟩=>?_) (.inr hy))
  have hCa:C≠ad:=by
   rcases hx with e|e
   .rw[e];exact hL
   .exact Ne.symm (hcl y ad e)
  refine⟨m,hm.sameBut sb hCa,λh' aq=>⟨_,H',I8.turned (t':=s5.toks) (it:=C) (λb o hb e=>(aq.2 b hb).trans e) hC hL (.inr hz) hcl hp,?_⟩⟩;obtain⟨k2,s2,n2⟩:=NewL.back k0 k' n hnl;exact a _ _ H' (k2.setOwn n2 hl) s2
 .rw[QA hl]at a;exact a.elim
theorem xG  (h:∀ρ es ρ',F ρ=.ok es ρ'->F' ρ=.ok es ρ')(ρ)(es)(ρ')(e:WN F ρ=.ok es ρ'):WN F' ρ=.ok es ρ':=by
 unfold WN at e⊢;cases z:F _ with
 |bad=>rw[z]at e;cases e
 |ok ds ρ1=>rw[z]at e;rw[h _ _ _ z];exact e
theorem D3   {j:Nat}{py:Pos}{spos:Pos}{tg elt iter:UA}{ifs}{gs}{scope}{pos:Pos}{f}{s}{t}{rd:RdB}{F}(SC:Scope)(N1 N2)(k:Nat)(le:∀ρ es ρ',F ρ=.ok es ρ'->dCG l f k s t rd ρ=.ok es ρ')(hN:X.N.Nodup)(hj:X.N[j]?=O y)(hy:X.env.scope.names.lookup y=O .local)(hc:X.calm=zq)
  (hi:∀B' G',PI X tg iter (iD X.K B' G' f)) (zN:Z8 X N2 scope (.ListComp elt (⟨tg,iter,ifs,0⟩::gs) scope pos) tg ifs s t rd) (h1:X.env.scope=SC) (h2:X.N=N1) (hb:WO VU SC scope N1 N2 k=zq) (hs:∀x,UT iter X.env x=pure x:=by intro _;rfl)
  (hsw:swapsWith (.ListComp elt (⟨tg,iter,ifs,0⟩::gs) scope pos) (O (.Name y py)) spos.line X.env=pure zq:=by rfl) :
  PS X (.Assign [.Name y py] (.ListComp elt (⟨tg,iter,ifs,0⟩::gs) scope pos) spos) (tS X.K B G0 KX (ZC j (WN F))):=
 ZH (D4 hN hj hy hc hi zN (by rw[h1,h2];exact NT hb) hs hsw) λ_ _ _ q=>Hj (xG le) q
end
noncomputable def Ou(f:M D):M Bool:=Kq f λx=>match x with | .list ds=>U2 (!ds.isEmpty)|_=>λ_=>.bad
noncomputable def WJ:Nat:=10 ^ 60
section
variable{X:Cx}{B G0:Hp}{e:UA}
theorem yD{α β:Type}{xs:List α}{ys:List β}(h:xs.length=ys.length):xs.isEmpty=ys.isEmpty:=by cases xs<;>cases ys<;>first|rfl|simp_all
theorem Ad  (h:PE X e (tD X.K B G0 f))(he:∀whole,isTrue e X.env whole=(do let v ←whole;standAt e.pos;holding [v] (truthy v)):=by intro _;rfl):PT X e (tBo X.K B G0 (Ou f)):=
 Yk (kT h he) λσ H Q q=>tM.one  q λv H2 G ρ x k r a=>by
  cases x with
  |list ds=>obtain⟨l,vs,rfl,h1,r1⟩:=r.lst_inv;refine⟨!vs.isEmpty,.inl ⟨vs,k.gh.seq h1,rfl⟩,?_⟩;exact aft.now  a k (by rw[yD r1.length])
  |_=>exact a.elim
theorem xF   {ds:zw}(h1:f ρ=.ok (.list ds) ρ1):Ou f ρ=.ok (!ds.isEmpty) ρ1:=by exact Zb h1 zo
end
noncomputable def XN(kvs:List (D×D))(k:Key)(d:D):List (D×D):=if kvs.any (λp=>decide (Yc p.1=O k))then kvs.map (λp=>if Yc p.1=O k then(p.1,d)else p)else kvs++[(kD k,d)]
noncomputable def PJ(j:Nat)(g f:M D):SM:=sB f λd ρ1=>match ρ1[j]? with
 |some (O (.deep .dic _))=>sB g (λy ρ2=>match Yc y,ρ2[j]? with
  |some k,O (O (.deep .dic (.dict kvs)))=>if kvs.length<1000 then .nx (ρ2.set j (O (.deep .dic (.dict (XN kvs k d)))))else .bad
  |_,_=>.bad) ρ1
 |_=>.bad
section
variable{K:Frag}{G:Hp}
theorem Ot  : ∀{ks:zH}{vs:List V}{ds:zw},Reps K G vs ds->((ks.map kD).zip ds).any (λp=>decide (Yc p.1=O k))=(ks.zip vs).any λkv=>decide (kv.1=k)
 |[],_,_,_=>rfl
 |_::_,_,_,.nil=>rfl
 |k0::ks,_,_,.cons _ t=>by
  rw[Qv,Q4,List.any_cons,Ot t,Ov];by_cases e:k0=k
  .simp
  .simp[e]
theorem FL  {w:V}{d:D}(r:Rep K G w d):∀{ks:zH}{vs:List V}{ds:zw},Reps K G vs ds->∃vs' ds',(ks.zip vs).map (λkv=>if kv.1=k then(kv.1,w)else kv)=ks.zip vs'/\((ks.map kD).zip ds).map (λp=>if Yc p.1=O k then(p.1,d)else p)=(ks.map kD).zip ds'/\ds'.length=ds.length/\Reps K G vs' ds'
 |[],vs,ds,h=>⟨vs,ds,rfl,rfl,rfl,h⟩
 |_::_,_,_,.nil=>⟨[],[],rfl,rfl,rfl,.nil⟩
 |k0::ks,_,_,.cons (v:=v0) (d:=d0) h t=>by
  obtain⟨vs',ds',e1,e2,e3,e4⟩:=FL r  t;by_cases e:k0=k
  .refine⟨w::vs',d::ds',?_,?_,by rw[Qz,e3,Qz],.cons r e4⟩
   .rw[Q4,Qv,e1,Qr e,Q4]
   .rw[Qv,Q4,Qv,e2,Qr (by rw[Ov,e]),Q4]
  .refine⟨v0::vs',d0::ds',?_,?_,by rw[Qz,e3,Qz],.cons h e4⟩
   .rw[Q4,Qv,e1,QA e,Q4]
   .rw[Qv,Q4,Qv,e2,QA (by rw[Ov];exact λz=>e (QO z)),Q4]
theorem Reps.snoc   (r:Rep K G w d):∀{vs}{ds},Reps K G vs ds->Reps K G (vs++[w]) (ds++[d])
 |_,_,.nil=>.cons r .nil
 |_,_,.cons h t=>.cons h (Reps.snoc r t)
theorem Ac  {w:V}{d:D}(r:Rep K G w d){ks:zH}{vs:List V}{ds}(h:Reps K G vs ds)(hl:ks.length=ds.length):∃(ks':zH)(vs':List V)(ds':zw),Zt (ks.zip vs) k w=ks'.zip vs'/\XN ((ks.map kD).zip ds) k d=(ks'.map kD).zip ds'/\ks'.length=ds'.length/\Reps K G vs' ds':=by
 unfold Zt XN;rw[Ot h];have hv:=h.length;split
 .obtain⟨vs',ds',e1,e2,e3,e4⟩:=FL r   h
  exact⟨ks,vs',ds',e1,e2,by rw[e3];exact hl,e4⟩
 .refine⟨ks++[k],vs++[w],ds++[d],?_,?_,by rw[Qi,Qi,hl];rfl,h.snoc r⟩
  .rw[List.zip_append (by lia)];rfl
  .rw[Qu,List.zip_append (by rw[Qb];lia)];rfl
end
section
variable{X:Cx}{B G0:Hp}{KX:XW}{e o i:UA}{pos p2:Pos}
theorem Cj{j:Nat}{f g:M D}(hu:X.A.units+64<cLine)(he:PE X e (tD X.K B G0 f))(ho:PE X o (Zk j))(hi:PE X i (tD X.K B G0 g))(hs:swapsWith e (O (.Subscript o i p2)) pos.line X.env=pure zr:=by rfl) :
  PS X (.Assign [.Subscript o i p2] e pos) (tS X.K B G0 KX (PJ j g f)):=
 ZH (qb (by lia) ho hi he hs) λD σ H q=>tS.bnd  q λv H1 G1 ρ1 d k r a=>by
  split at a
  .rename_i d0 q0
   obtain⟨ω,ks1⟩:=k.slots;obtain⟨v0,fp0,bt,r0,_,_⟩:=ks1 j .dic d0 (by unfold Tp;rw[q0]);refine⟨v0,bt,G1,ρ1,k,?_⟩;unfold sB at a;cases z:g ρ1 with
   |bad=>rw[z]at a;exact a.elim
   |ok y ρ2=>
    rw[z]at a;dsimp only at a;intro kv G' H' k' s' r';split at a
    .rename_i ky kvs hk q2
     split at a
     .rename_i hlt
      obtain⟨ω2,bD⟩:=k'.slots;obtain⟨v2,fp2,hv2,r2,nd2,w2⟩:=bD j .dic _ (by unfold Tp;rw[q2]);rw[bt]at hv2;cases hv2;have ey:=RG hk;subst ey;have ekv:=r'.key_inv;subst ekv;cases r2 with
      |@dic ad ks vs ds _ e hl h rr=>
       obtain⟨ks',vs',ds',e1,e2,e3,e4⟩:=Ac (k:=ky) (r.mono s') rr hl;refine⟨ad,_,rfl,DPut.k h ?_,a σ G' _ (k'.mutD q2 bt (.dic e hl h rr) Ql (.dic (ks:=ks') (vs:=vs') (ds:=ds') (by rw[e];exact e2) e3 (by rw[Zq,e1]) e4) (No ad) λb m=>m) (s'.trans (.refl _))⟩;have:(ks.zip vs).length<=kvs.length:=by rw[e,JP,JP,Qb];have:=rr.length;lia
       exact Nat.lt_of_le_of_lt this (QF hlt (by decide))
     .exact a.elim
    .exact a.elim
  .exact a.elim
theorem EOk.fillO{K}{B G0 G H:Hp}{σ:St}{ρ:UZ}{p:Uy}{u:HO}(k:EOk K (upd B p (.dK [])) G0 G H σ ρ)(hb:B p=zp)(h0:G0 p=zp):EOk K B G0 G (upd H p u) σ ρ/\G p=zp/\H p=O (.dK [])/\(∀(j:Nat) es,ρ[j]?=O (O (.own es))->σ[j]?≠O (O (.ref p))) /\
  ∀(j:Nat) pt d v fp',ρ[j]?=O (O (.deep pt d))->σ[j]?=O (O v)->RepO K G (upd H p u) pt v d fp'->p∉fp':=by
 have hG:G p=zp:=k.np p (.k []) Zq h0;have hH   :=k.bh p _ Zq;refine⟨⟨λb o q=>?_,λb o q=>?_,k.g0,λa w q n=>?_,k.len,k.pub,λi ds q=>?_,k.sep,k.dp.map (λ_ _ _ q=>⟨q,rfl⟩) (λ_ ds q=>⟨ds,q,rfl⟩) λi pt d v fp q s r w n=>?_⟩,hG,hH,λj es q s=>?_,λj pt d v fp' q s r=>?_⟩
 .have z:b≠p:=Yw q hb
  rw[KO z];exact k.bh b o (by rw[KO z];exact q)
 .rw[KO (Yw q hG)];exact k.gh b o q
 .have z:a≠p:=Yw q hb
  exact k.np a w (by rw[KO z];exact q) n
 .obtain⟨a,vs,h1,h2,h3,h4,h5⟩:=k.own i ds q
  have z:a≠p:=λe=>by subst e;rw[Zq]at h2;cases h2
  exact⟨a,vs,h1,by rw[KO z]at h2;exact h2,h3,by rw[KO z];exact h4,h5⟩
 .have zz:∀b∈fp,b≠p:=λb m e=>by subst e;have:=(w b m).1;rw[Zq]at this;cases this
  refine⟨r.upd (λ_ e=>by rw[hH]at e;cases e) (λm=>zz p m zo),λb m=>?_⟩;obtain⟨w1,w2⟩:=w b m;rw[KO (zz b m)]at w1;exact⟨w1,w2⟩
 .obtain⟨a,vs,h1,h2,h3,h4,h5⟩:=k.own j es q
  rw[h1]at s;cases s;rw[Zq]at h2;cases h2
 .obtain⟨ω,k1,_⟩:=k.dp
  obtain⟨v',fp,s',r',_,w⟩:=k1 j pt d q;rw[s]at s';cases s';have zz:p∉fp:=λm=>by have:=(w p m).1;rw[Zq]at this;cases this
  have e:=(r'.upd (o:=u) (λ_ e=>by rw[hH]at e;cases e) zz).uniq (.refl _) r;rw[←e];exact zz
theorem j8  {values:zy}{prs:List (M D×M D)}(h:DPs X pos G0 keys values prs)(hall:keys.all (·.isSome)=zq:=by rfl)(hl:keys.length=values.length:=by rfl)(h0:keys≠[]:=by simp)(h15:keys.length<=15:=by decide) :
  PE X (.Dict keys values pos) (tT X.K B G0 .dic (O7 prs)):=by
 refine KF (kf (trs:=λp=>prs.map λf=>(tD X.K (upd B p (.dK [])) G0 f.1,tD X.K (upd B p (.dK [])) G0 f.2)) (λp=>h.out _) hall hl h0 h15) λσ H Q ⟨G,ρ,k,a⟩ p hp=>?_;refine Ek (k.under hp) ?_;unfold O7 Kq at a
 cases z:Rl prs ρ with
 |bad=>rw[z]at a;exact a.elim
 |ok ps ρ1=>
  rw[z]at a;dsimp only at a;intro vs G1 H1 k1 s1 r1;unfold Ku at a;cases e1:O8 ps with
  |none=>rw[e1]at a;exact a.elim
  |some d=>
  rw[e1]at a;dsimp only at a;unfold O8 at e1;split at e1
  .rename_i ks hk
   split at e1
   .rename_i hc
    cases e1;have ek:=El hk;have hv:=r1.1;rw[ek]at hv;have hv:=hv.keys_inv;have hlen:ks.length=ps.length:=by have:=congrArg List.length ek;simpa using this.symm
    have hlv:vs.length=ks.length:=by have:=congrArg List.length hv;simpa using this
    have evs   :=by exact HW kV ks vs hv
    obtain⟨f1,f2,f3,f4,f5⟩:=k1.fillO  (k.bh.free hp) (k.g0.free (k.gh.free hp));refine⟨f3,ks.zip (vs.map (·.2)),evs,?_,?_⟩
    .rw[JP,Qb];lia
    .have em:V1 [] (ks.zip (vs.map (·.2)))=ks.zip (vs.map (·.2)):=by
      rw[E7 _ [] ?_,QR];rw[QR,List.map_fst_zip (by rw[Qb];lia)];exact hc.1
     rw[em];refine a (.ref p) [p] _ _ f1 s1 ⟨.dic (ks:=ks) (vs:=vs.map (·.2)) (ds:=ps.map (·.2)) ?_ (by rw[Qb];exact hlen) Zq r1.2,No p,λb m=>?_,λb m=>?_,λb m=>?_⟩
     .rw[←ek,FM]
     .rw[QB.mp m];exact⟨k.bh.free hp,f2⟩
     .rw[QB.mp m];exact f4
     .rw[QB.mp m];exact f5
   .cases e1
  .cases e1
noncomputable def ZT(x y:D):zK:=match y,Yc x with
 |.dict kvs,O k=>if(kvs.all λp=>(Yc p.1).isSome)=zq then O (kvs.any λp=>decide (Yc p.1=O k))else zp
 |_,_=>zp
theorem Ab{K}{G H}{x y}{v u}{t}(sg:Same G H)(px:Rep K G v x)(py:Rep K G u y)(e:ZT x y=O t):∃a o,u=.ref a/\YM H a v o/\o.isSome=t:=by
 unfold ZT at e;split at e
 .rename_i kvs k hk
  split at e
  .rename_i c
   cases e;have ex:=RG hk;subst ex;have ev:=px.key_inv;subst ev;cases py with
   |@dic a h=>exact⟨a,zp,rfl,.inl ⟨[],k,.inl (sg _ _ h),rfl,rfl⟩,rfl⟩
   |exc _ _ _ _=>simp[Yc]at c
   |@dct a ks vs ds _ e0 hne hl h r=>refine⟨a,ZS _ k,rfl,.inl ⟨_,k,.inl (sg _ _ h),rfl,rfl⟩,?_⟩;subst e0;rw[Ot r,OC]
   |dtt e0 hl h r=>subst e0;simp[pdD,Yc]at c
  .cases e
 simp_all
theorem D2(hu:X.A.units+64<cLine):OpB X (UE .In) ZT:=by refine⟨λv u H Q=>∃G x y d,Same G H/\Rep X.K G v x/\Rep X.K G u y/\ZT x y=O d/\Q _ H,?_,λv u G H x y d Q s rx ry e k=>⟨G,x,y,d,s,rx,ry,e,k⟩⟩;intro pins s σ H x y v u Q I rx ry ⟨G,dx,dy,d,sg,px,py,e,q⟩;obtain⟨a,o,rfl,g,rfl⟩:=Ab sg px py e;obtain rfl:u=Value.ref a:=ry;exact d_in (by omega) I g rx λs' I'=>⟨.bl _,H,I',rfl,q⟩
theorem Ci  {g f}{ρ ρ1 ρ2 ρ':UZ}{d y e0}{k}{kvs}(h1:f ρ=.ok d ρ1)(q1:ρ1[j]?=O (O (.deep .dic e0)))(h2:g ρ1=.ok y ρ2)(hk:Yc y=O k)(q2:ρ2[j]?=O (O (.deep .dic (.dict kvs))))(hl:kvs.length<1000)
  (h3:ρ2.set j (O (.deep .dic (.dict (XN kvs k d))))=ρ'):PJ j g f ρ=.nx ρ':=by
 unfold PJ sB;simp_all
noncomputable def Ww(j:Nat)(g:M D):M D:=λρ=>match ρ[j]? with
 |some (O (.deep .dic _))=>(match g ρ with
  |.ok y ρ2=>(match ρ2[j]? with
   |some (O (.deep .dic (.dict kvs)))=>(match VY (.dict kvs) y with
    |some d=>.ok d ρ2
    |none=>.bad)
   |_=>.bad)
  |.bad=>.bad)
 |_=>.bad
theorem Aa   (hu:X.A.units+64<cLine)(ho:PE X o (Zk j))(hi:PE X i (tD X.K B G0 g))(hs:Vo i:=by intro _ _;rfl):PE X (.Subscript o i pos) (tD X.K B G0 (Ww j g)):=
 KF (GC (by lia) ho hi hs) λσ H Q ⟨G,ρ,k,a⟩=>by
  unfold Ww at a;split at a
  .rename_i d0 q0
   obtain⟨ω,ks1⟩:=k.slots;obtain⟨v0,fp0,bt,r0,_,_⟩:=ks1 j .dic d0 (by unfold Tp;rw[q0]);refine⟨v0,bt,G,ρ,k,?_⟩;cases z:g ρ with
   |bad=>rw[z]at a;exact a.elim
   |ok y ρ2=>
    rw[z]at a;dsimp only at a;intro kv G' H' k' s' r';split at a
    .rename_i kvs q2
     split at a
     .rename_i d e
      obtain⟨ω2,bD⟩:=k'.slots;obtain⟨v2,fp2,hv2,r2,nd2,w2⟩:=bD j .dic _ (by unfold Tp;rw[q2]);rw[bt]at hv2;cases hv2;unfold VY at e;split at e
      .rename_i kvs' ky hx hk
       cases hx;have ey:=RG hk;subst ey;have ekv:=r'.key_inv;subst ekv;cases r2 with
       |@dic ad ks vs ds _ e0 hl h rr=>subst e0;obtain⟨w,hw,zV⟩:=Mq rr e;exact⟨ad,w,rfl,.inl ⟨_,ky,.inl h,rfl,hw.symm⟩,a w G' H' k' s' zV⟩
      .cases e
     .exact a.elim
    .exact a.elim
  .exact a.elim
noncomputable def Y1(b:Bool)(j:Nat)(g:M D):M Bool:=λρ=>match g ρ with
 |.ok y ρ2=>(match ρ2[j]? with
  |some (O (.deep .dic (.dict kvs)))=>(match ZT y (.dict kvs)with
   |some t=>.ok (t==b) ρ2
   |none=>.bad)
  |_=>.bad)
 |.bad=>.bad
theorem HS  {b}{g}{σ:St}{H:Hp}{Q}(q:tBo X.K B G0 (Y1 b j g) σ H Q):tD X.K B G0 g σ H λy H1=>Zk j σ H1 λx H2=>∃a o,x=.ref a/\YM H2 a y o/\Q (o.isSome==b) H2:=by
 obtain⟨G,ρ,k,a⟩:=q;refine⟨G,ρ,k,?_⟩;unfold Y1 at a;cases z:g ρ with
 |bad=>rw[z]at a;exact a.elim
 |ok y ρ2=>
  rw[z]at a;dsimp only at a;intro kv G' H' k' s' r';split at a
  .rename_i kvs q2
   split at a
   .rename_i t e
    obtain⟨ω2,bD⟩:=k'.slots;obtain⟨v2,fp2,hv2,r2,nd2,w2⟩:=bD j .dic _ (by unfold Tp;rw[q2]);refine⟨v2,hv2,?_⟩;unfold ZT at e;split at e
    .rename_i kvs' ky hx hk
     cases hx;split at e
     .cases e
      have ey:=RG hk;subst ey;have ekv:=r'.key_inv;subst ekv;cases r2 with
      |@dic ad ks vs ds _ e0 hl h rr=>subst e0;refine⟨ad,ZS _ ky,rfl,.inl ⟨_,ky,.inl h,rfl,rfl⟩,?_⟩;rw[Ot rr,OC]at a;exact a _ G' H' k' s' zo
     .cases e
    .cases e
   .exact a.elim
  .exact a.elim
theorem tM.mono{K}{B G0}{α γ}{R}{f:M α}{σ}{H}{P Q:γ->Hp->Prop}(h:tM K B G0 R f σ H P)(i:∀v H1,P v H1->Q v H1):tM K B G0 R f σ H Q:=by
 obtain⟨G,ρ,k,a⟩:=h;refine⟨G,ρ,k,?_⟩;cases z:f ρ with
 |bad=>rw[z]at a;exact a
 |ok d ρ'=>rw[z]at a;exact λv G' H' k' s' r=>i _ _ (a v G' H' k' s' r)
theorem B9  {g}(hu:X.A.units+64<cLine)(hi:PE X i (tD X.K B G0 g))(ho:PE X o (Zk j))(hm:behindInMarks .In o=zr:=by first|exact OE _ (by decide) (by decide)|rfl):PT X (.Compare i [.In] [o] pos) (tBo X.K B G0 (Y1 zq j g)):=
 Yk (Oc (Be (by lia) hi ho) hm) λσ H Q q=>tM.mono (HS q) λy H1 ⟨x,hx,a,ov,e1,e2,e3⟩=>⟨x,hx,a,ov,e1,e2,_,rfl,by simp_all⟩
theorem j7  {g}(hu:X.A.units+64<cLine)(hi:PE X i (tD X.K B G0 g))(ho:PE X o (Zk j))(hm:behindInMarks .NotIn o=zr:=by first|exact OE _ (by decide) (by decide)|rfl):PT X (.Compare i [.NotIn] [o] pos) (tBo X.K B G0 (Y1 zr j g)):=
 Yk (Oc (wo (by lia) hi ho) hm) λσ H Q q=>tM.mono (HS q) λy H1 ⟨x,hx,a,ov,e1,e2,e3⟩=>⟨x,hx,a,ov,e1,e2,_,rfl,by simp_all⟩
theorem B8   {ρ ρ1}{e0 y d}{kvs:List (D×D)}(q0:ρ[j]?=O (O (.deep .dic e0)))(h:g ρ=.ok y ρ1)(q1:ρ1[j]?=O (O (.deep .dic (.dict kvs))))(h2:VY (.dict kvs) y=O d):Ww j g ρ=.ok d ρ1:=by unfold Ww;simp_all
theorem Pf  {b t}{g}{ρ ρ1}{y}{kvs:List (D×D)}(h:g ρ=.ok y ρ1)(q1:ρ1[j]?=O (O (.deep .dic (.dict kvs))))(h2:ZT y (.dict kvs)=O t):Y1 b j g ρ=.ok (t==b) ρ1:=by unfold Y1;simp_all
end
end DL
namespace L2
open PySem PySem.Spec PyProof.Rows PySem.Calls PyProof.V
end L2
namespace DL
open PySem PySem.Spec L2
open PyProof.Rows hiding St
noncomputable def tgN:UA->List Str
 |.Name x _=>[x]
 |.Tuple [.Name x _] _ _=>[x]
 |.Tuple [.Name x _,.Name y _] _ _=>[x,y]
 |.Tuple [.Name x _,.Name y _,.Name z _] _ _=>[x,y,z]
 |.Tuple [.Name x _,.Name y _,.Name z _,.Name u _] _ _=>[x,y,z,u]
 |_=>[]
noncomputable def adN(vs:List Str):List Str->List Str
 |[]=>vs
 |x::r=>adN (if vs.elem x then vs else vs++[x]) r
noncomputable def TM(vs:List Str):List Comprehension->List Str
 |[]=>vs
 |⟨tg,_,_,_⟩::r=>TM (adN vs (tgN tg)) r
noncomputable def dotN(x:Str):Str:=("." : Str)++x
noncomputable def blN(N:List Str)(gs:List Comprehension):List Str:=N.map (λx=>if(TM [] gs).elem x then dotN x else x)++TM [] gs
noncomputable def glN(sc:Scope):List Str:=sc.names.filterMap λy=>match y.2 with | .globalImplicit=>O y.1|_=>zp
abbrev NmF(s:Stmt)(N:List Str):Prop:=FnNm (ZR s) N (glN (ZR s))
theorem mq{α:Type}{l:List α}{x:α}(n:Nat)(h:l[n]?=O x):x∈l:=Qy h
section
variable{sc:Scope}{N gl:List Str}{x:Str}
theorem gA(H:FnNm sc N gl)(h:gl.elem x=zq):sc.names.lookup x=O .globalImplicit:=H.gl x (by simp_all)
end
section
variable{X:Cx}{B G0:Hp}{KX:XW}{e e1 e2 o a b c i:UA}{gl:List Str}{pos p2:Pos}{x:Str}{j:Nat}
theorem D1(H:FnNm X.env.scope X.N gl)(hi:X.N[j]?=O x:=by rfl)(hf:X.fn x=zq∨X.env.scope.names.lookup x=O .local:=by first|exact .inl rfl|exact .inr rfl|assumption):PG X (.Name x pos) (tG X.K B G0 (gN j)):=WQ (WR H.nd hi (lq H j hi) hf)
theorem Ch{N'}{scope}{cl}{C}{s₀}{H₀}{ex}(hN:N'.Nodup:=by decide +kernel)(hi:N'[j]?=O x:=by rfl)(hl:locK (scope.names.lookup x)=zq:=by rfl):PG (X.blk N' scope cl C s₀ H₀ ex) (.Name x pos) (tG X.K B G0 (gN j)):=WQ (WR hN hi (Rx hl).1 (Rx hl).2)
theorem aSet  (H:FnNm X.env.scope X.N gl)(he:PE X e (tD X.K B G0 f))(hi:X.N[j]?=O x:=by rfl)(hs:swapsWith e (O (.Name x p2)) pos.line X.env=pure zr:=by rfl)
  (hf:X.fn x=zq∨X.env.scope.names.lookup x=O .local:=by first|exact .inl rfl|exact .inr rfl|assumption):PS X (.Assign [.Name x p2] e pos) (tS X.K B G0 KX (Kg j f)):=Bz H.nd hi (lq H j hi) he hs hf
theorem Lk  (H:FnNm X.env.scope X.N gl)(he:PE X e (tL X.K B G0 f))(hi:X.N[j]?=O x:=by rfl)(hs:swapsWith e (O (.Name x p2)) pos.line X.env=pure zr:=by rfl)
  (hf:X.fn x=zq∨X.env.scope.names.lookup x=O .local:=by first|exact .inl rfl|exact .inr rfl|assumption):PS X (.Assign [.Name x p2] e pos) (tS X.K B G0 KX (ZC j f)):=Gv H.nd hi (lq H j hi) he hs hf
theorem DZ  {pt}(H:FnNm X.env.scope X.N gl)(he:PE X e (tT X.K B G0 pt f))(hi:X.N[j]?=O x:=by rfl)(hs:swapsWith e (O (.Name x p2)) pos.line X.env=pure zr:=by rfl)
  (hf:X.fn x=zq∨X.env.scope.names.lookup x=O .local:=by first|exact .inl rfl|exact .inr rfl|assumption):PS X (.Assign [.Name x p2] e pos) (tS X.K B G0 KX (SR j pt f)):=Ag H.nd hi (lq H j hi) he hs hf
theorem aAug    {pos'}(H:FnNm X.env.scope X.N gl)(ho:IpD X op p)(he:PE X e (tD X.K B G0 f))(hi:X.N[j]?=O x:=by rfl)(hf:X.fn x=zq∨X.env.scope.names.lookup x=O .local:=by first|exact .inl rfl|exact .inr rfl|assumption):PS X (.AugAssign (.Name x pos') op e pos) (tS X.K B G0 KX (XM p j f)):=Cs H.nd hi (lq H j hi) ho he hf
theorem DY  {tg elt iter}{ifs}{gs}{scope}{f}{s}{t}{rd}{F}{k}{SC}{N1}(H:FnNm SC N1 gl)(le:∀ρ es ρ',F ρ=.ok es ρ'->dCG l f k s t rd ρ=.ok es ρ')(hc:X.calm=zq)
  (hi:PI X tg iter (iD X.K B G0 f)) (zN:Z8 X (blN N1 (⟨tg,iter,ifs,0⟩::gs)) scope (.ListComp elt (⟨tg,iter,ifs,0⟩::gs) scope pos) tg ifs s t rd) (hb:WO VU SC scope N1 (blN N1 (⟨tg,iter,ifs,0⟩::gs)) k=zq) (h1:X.env.scope=SC:=by rfl) (h2:X.N=N1:=by rfl) (hs:∀x,UT iter X.env x=pure x:=by intro _;rfl) :
  PE X (.ListComp elt (⟨tg,iter,ifs,0⟩::gs) scope pos) (tL X.K B G0 F):=DG _ _ _ k le hc hi zN h1 h2 hb hs
theorem DX   {py spos:Pos}{tg elt iter:UA}{ifs}{gs}{scope:Scope}{f}{s}{t}{rd:RdB}{F}{k:Nat}{SC:Scope}{N1}(H:FnNm SC N1 gl)(le:∀ρ es ρ',F ρ=.ok es ρ'->dCG l f k s t rd ρ=.ok es ρ')(hc:X.calm=zq)
  (hi:PI X tg iter (iD X.K B G0 f)) (zN:Z8 X (blN N1 (⟨tg,iter,ifs,0⟩::gs)) scope (.ListComp elt (⟨tg,iter,ifs,0⟩::gs) scope pos) tg ifs s t rd) (hb:WO VU SC scope N1 (blN N1 (⟨tg,iter,ifs,0⟩::gs)) k=zq) (hj:N1[j]?=O y:=by rfl) (hy:SC.names.lookup y=O .local:=by rfl) (h1:X.env.scope=SC:=by rfl) (h2:X.N=N1:=by rfl) (hs:∀x,UT iter X.env x=pure x:=by intro _;rfl)
  (hsw:swapsWith (.ListComp elt (⟨tg,iter,ifs,0⟩::gs) scope pos) (O (.Name y py)) spos.line X.env=pure zq:=by rfl) :
  PS X (.Assign [.Name y py] (.ListComp elt (⟨tg,iter,ifs,0⟩::gs) scope pos) spos) (tS X.K B G0 KX (ZC j F)):=sD_1 _ _ _ k le (h2 ▸ H.nd) (h2 ▸ hj) (h1 ▸ hy) hc hi zN h1 h2 hb hs hsw
theorem Cg        {N2}{tg elt iter}{ifs}{gs}{scope}{f}{s}{t}{rd}{F}{k}(le:∀ρ es ρ',F ρ=.ok es ρ'->dCG l f k s t rd ρ=.ok es ρ')(hc:X.calm=zq)
  (hi:PI (X.blk N2 scope0 cl C s₀ H₀ ex) tg iter (iD X.K B G0 f)) (zN:Z8 (X.blk N2 scope0 cl C s₀ H₀ ex) (blN N2 (⟨tg,iter,ifs,0⟩::gs)) scope (.ListComp elt (⟨tg,iter,ifs,0⟩::gs) scope pos) tg ifs s t rd) (hb:WO VU scope0 scope N2 (blN N2 (⟨tg,iter,ifs,0⟩::gs)) k=zq) (hs:∀x,UT iter (X.blk N2 scope0 cl C s₀ H₀ ex).env x=pure x:=by intro _;rfl) :
  PE (X.blk N2 scope0 cl C s₀ H₀ ex) (.ListComp elt (⟨tg,iter,ifs,0⟩::gs) scope pos) (tL X.K B G0 F):=Bv _ k le hc hi zN hb hs
end
end DL
namespace DL
open PySem PySem.Spec L2
open PyProof.Rows hiding St
open Builtin Builtin.Str
end DL
namespace DL
open PySem PySem.Spec L2
open PyProof.Rows hiding St
end DL
namespace DL
open PySem PySem.Spec L2
open PyProof.Rows hiding St
open PySem.SeqRoads2 PySem.SeqAt
end DL
namespace DL
open PySem PySem.Spec L2
open PyProof.Rows hiding St
end DL
namespace L2
open PySem PySem.Spec PyProof.Rows
end L2
namespace DL
open PySem PySem.Spec L2
open PyProof.Rows hiding St
end DL
namespace DL
open PySem PySem.Spec L2
open PyProof.Rows hiding St
open PySem.SeqRoads2 PySem.SeqAt
end DL
namespace DL
open PySem PySem.Spec L2
open PyProof.Rows hiding St
section
variable{X:Cx}{B G0:Hp}{KX:XW}{e e':UA}{es es':zy}{st st':Stmt}{sts aR:List Stmt}{pos p2:Pos}{x:Str}{j:Nat}{gl:List Str}
theorem j6  (q:st::sts=aR)(h1:PS X st (tS X.K B G0 KX g))(h2:PSs X sts (tS X.K B G0 KX h)):PSs X aR (tS X.K B G0 KX (U0 g h)):=q ▸ Ry h1 h2
theorem Cf  (q:Stmt.Assign [.Name x p2] e pos=st')(H:FnNm X.env.scope X.N gl)(he:PE X e (tL X.K B G0 f))(hi:X.N[j]?=O x:=by rfl)(hs:swapsWith e (O (.Name x p2)) pos.line X.env=pure zr:=by rfl)
  (hf:X.fn x=zq∨X.env.scope.names.lookup x=O .local:=by first|exact .inl rfl|exact .inr rfl|assumption):PS X st' (tS X.K B G0 KX (ZC j f)):=q ▸ Lk H he hi hs hf
theorem j4  (q:Expr.List es pos=e')(h:PA X es (tDs X.K B G0 f)):PE X e' (tL X.K B G0 (Kq f λxs=>if xs.length<=1000000 then U2 xs else λ_=>.bad)):=q ▸ Gu h
theorem xE   (q:e::es=es')(ha:PE X e (tD X.K B G0 f))(hr:PA X es (tDs X.K B G0 g))(hs:UD (e::es) X.env=(zr,eval e X.env)::UD es X.env:=by rfl):PA X es' (tDs X.K B G0 (UX f g)):=q ▸ XA ha hr hs
end
theorem EOk.publishD{K:Frag}{B G0 G H:Hp}{σ:St}{ρ:UZ}{i:Nat}{d:D}(k:EOk K B G0 G H σ ρ)(h:ρ[i]?=O (O (.deep .dic d))) :
  ∃a G',σ[i]?=O (O (.ref a))/\Same G G'/\Rep K G' (.ref a) d/\EOk K B G0 G' H σ (ρ.set i (O (.pub d))):=by
 obtain⟨ω,k1,k2⟩:=k.dp;obtain⟨v,fp,h1,r,nd,w⟩:=k1 i _ _ h;have hl:i<ρ.length:=(Qg.mp h).1;cases r with
 |@dic a ks vs ds kvs e hl' hH hr=>
 obtain⟨h2,h3,hω⟩:=w a Ql;have sg:Same G (upd G a (.dK (ks.zip vs))):=ZQ h3
 have rr:Rep K (upd G a (.dK (ks.zip vs))) (.ref a) (.dict kvs):=by
  cases ks with
  |nil=>subst e;exact .dic Zq
  |cons q ks=>exact .dct e (by simp) hl' Zq (hr.mono sg)
 have nz:∀{m:Nat}{s:Sl},(ρ.set i (O (Sl.pub (.dict kvs))))[m]?=O (O s)->(i=m/\s=.pub (.dict kvs))∨(i≠m/\ρ[m]?=O (O s)):=λ{m s} q=>by
  by_cases z:i=m
  .subst z
   rw[QI hl]at q;cases q;exact .inl ⟨rfl,rfl⟩
  .rw[Qp z]at q;exact .inr ⟨z,q⟩
 refine⟨a,upd G a _,h1,sg,rr,⟨k.bh,λb u q=>?_,k.g0.trans sg,λb o q n=>?_,by rw[Jb];exact k.len,λj d q=>?_,λj es q=>?_,λj l c es fs q1 q2 s1 s2=>?_,?_⟩⟩
 .by_cases z:b=a
  .subst z;rw[Zq]at q;cases q;exact hH
  .rw[KO z]at q;exact k.gh b u q
 .have z:b≠a:=λz=>by subst z;rw[h2]at q;cases q
  rw[KO z];exact k.np b o q n
 .rcases nz q with ⟨rfl,e⟩|⟨_,q⟩
  .cases e
   exact⟨.ref a,h1,rr⟩
  .obtain⟨v,g1,g2⟩:=k.pub j d q
   exact⟨v,g1,g2.mono sg⟩
 .rcases nz q with ⟨_,e⟩|⟨zi,q⟩
  .cases e
  .obtain⟨b,ws,g1,g2,g3,g4,g5⟩:=k.own j es q
   have zb:b≠a:=λe=>zi (by rw[←hω,←e];exact k2 j es b q g1)
   exact⟨b,ws,g1,g2,by rw[KO zb];exact g3,g4,g5.mono sg⟩
 .rcases nz q1 with ⟨_,e⟩|⟨_,q1⟩
  .cases e
  .rcases nz q2 with ⟨_,e⟩|⟨_,q2⟩
   .cases e
   .exact k.sep j l c es fs q1 q2 s1 s2
 .refine⟨ω,λm p d q=>?_,λm es b q s=>?_⟩
  .rcases nz q with ⟨_,e⟩|⟨zi,q⟩
   .cases e
   .obtain⟨v,fp,s,r,n,w2⟩:=k1 m p d q
    exact⟨v,fp,s,r.mono sg (.refl _),n,λb mb=>⟨(w2 b mb).1,by rw[KO (λz=>zi (by rw[←hω,←z];exact(w2 b mb).2.2))];exact(w2 b mb).2.1,(w2 b mb).2.2⟩⟩
  .rcases nz q with ⟨_,e⟩|⟨_,q⟩
   .cases e
   .exact k2 m es b q s
noncomputable def RN(i:Nat):M D:=λρ=>match ρ[i]? with
 |some (O (.deep .dic d))=>.ok d (ρ.set i (O (.pub d)))
 |_=>.bad
section
variable{X:Cx}{B G0:Hp}{e:UA}
theorem B7  (h:PE X e (Zk i)):PE X e (tD X.K B G0 (RN i)):=KF h λσ H Q ⟨G,ρ,k,a⟩=>by
 unfold RN at a;split at a
 .rename_i d q
  obtain⟨ad,G',h1,h2,h3,h4⟩:=k.publishD q;exact⟨.ref ad,h1,a _ G' H h4 h2 h3⟩
 .exact a.elim
theorem B6  {ρ ρ':UZ}{d}(h:ρ[i]?=O (O (.deep .dic d)))(h2:ρ.set i (O (.pub d))=ρ'):RN i ρ=.ok d ρ':=by unfold RN;simp_all
end
section
variable{X:Cx}{B G0:Hp}{KX:XW}{a b e e':UA}{es es':zy}{st st':Stmt}{sts aR:List Stmt}{pos p2:Pos}{x:Str}{j:Nat}{gl:List Str}
theorem DW  (q:Stmt.Assign [.Name x p2] e pos=st')(H:FnNm X.env.scope X.N gl)(he:PE X e (tD X.K B G0 f))(hi:X.N[j]?=O x:=by rfl)(hs:swapsWith e (O (.Name x p2)) pos.line X.env=pure zr:=by rfl)
  (hf:X.fn x=zq∨X.env.scope.names.lookup x=O .local:=by first|exact .inl rfl|exact .inr rfl|assumption):PS X st' (tS X.K B G0 KX (Kg j f)):=q ▸ aSet H he hi hs hf
theorem jZ  (q:Expr.List es pos=e')(h:PA X es (tDs X.K B G0 f)):PE X e' (tD X.K B G0 (K0 f)):=q ▸ NV h
theorem jY   (q:Expr.Tuple es x1 pos=e')(h:PA X es (tDs X.K B G0 f)):PE X e' (tD X.K B G0 (KI f)):=q ▸ Om h
theorem He    (o:OpD X (binaryOp op) p)(q:Expr.BinOp a op b pos=e')(ha:PE X a (tD X.K B G0 f))(hb:PE X b (tD X.K B G0 g)):PE X e' (tD X.K B G0 (U1 p f g)):=q ▸ VW o ha hb
end
end DL
namespace L2
open PySem PySem.Spec PyProof.Rows PySem.Calls PyProof.V
end L2
namespace DL
open PySem PySem.Spec L2
open PyProof.Rows hiding St
end DL
namespace L2
open PySem PySem.Spec PyProof.Rows
end L2
namespace DL
open PySem PySem.Spec L2
open PyProof.Rows hiding St
end DL
namespace L2
open PySem PySem.Spec PyProof.Rows
end L2
namespace DL
open PySem PySem.Spec L2
open PyProof.Rows hiding St
end DL
namespace DL
open PySem PySem.Spec L2
open PyProof.Rows hiding St
open Builtin Builtin.Str
end DL
namespace DL
open PySem PySem.Spec L2
open PyProof.Rows hiding St
end DL
namespace W
open PySem PySem.Spec L2 DL
open PyProof.Rows hiding St
noncomputable def top(i:Nat):Stmt:=PySem.Challenge.pw_wishdeal_k81_whole_best_counts_come_toge.main.body.getD i (.Pass ⟨0,0,0,0⟩)
abbrev GG(s:Stmt)(x:Str):Prop:=(ZR s).names.lookup x=O NameKind.globalImplicit
abbrev VV(s:Stmt)(x:Str):Prop:=L2.Vis (ZR s) x
abbrev LL(s:Stmt)(x:Str):Prop:=L2.Loc (ZR s) x
theorem vk{s:Stmt}{x:Str}(h:(ZR s).names.lookup x=O .local∨(ZR s).names.lookup x=O .cell∨(ZR s).names.lookup x=O .free):VV s x:=h
theorem lk{s:Stmt}{x:Str}(h:(ZR s).names.lookup x=O .local∨(ZR s).names.lookup x=O .cell):LL s x:=h
structure Txt(K:Frag)(mg:Str->zB):Prop where
 b_ValueError:mg "ValueError" = zp
 b_all:mg "all" = zp
 b_bool:mg "bool" = zp
 b_enumerate:mg "enumerate" = zp
 b_int:mg "int" = zp
 b_isinstance:mg "isinstance" = zp
 b_len:mg "len" = zp
 b_list:mg "list" = zp
 b_max:mg "max" = zp
 b_range:mg "range" = zp
 b_set:mg "set" = zp
 b_sorted:mg "sorted" = zp
 b_str:mg "str" = zp
 b_sum:mg "sum" = zp
 b_tuple:mg "tuple" = zp
 b_zip:mg "zip" = zp
 c_MOST_ASKERS:∃t,mg "MOST_ASKERS" = O (Value.int 7 t)
 c_MOST_COPIES:∃t,mg "MOST_COPIES" = O (Value.int 7 t)
 c_MOST_RANKS:∃t,mg "MOST_RANKS" = O (Value.int 5 t)
 c_MOST_THINGS:∃t,mg "MOST_THINGS" = O (Value.int 6 t)
 c_ORDERS:∃ad o its n,mg "ORDERS" = O (.ref ad)/\K.lookup ad=O o/\o.cls=.type "tuple" /\ o.data=.seq its n/\its.size<=UB/\Vals ((["firsts", "full", "lasts"]:List Str).map V.str) its.toList
 x_NoWishes:CK K mg "NoWishes"
noncomputable abbrev Sab:Stmt:=top 7
noncomputable abbrev N_ab:List Str:=["numbers"]
theorem Hab:NmF Sab N_ab:=KR (by decide +kernel)
noncomputable def g_ab:SM:=
 Kc (Ka UH (Zd (Xc (UX (UU 0) (UV))) 2 (gT 2 (gNC (gN 1) (gNC (gN 2) (gN0)))) (ZF (oIB λi j=>decide (j<i)) 2 (U2 (.int 0))) (UU 1)))
noncomputable def X6:zw->zx:=Kh N_ab g_ab
noncomputable abbrev Scd:Stmt:=top 78
noncomputable abbrev N_cd:List Str:=["web", "paper", "dealings", "times", "asks", "prices"]
theorem Hcd:NmF Scd N_cd:=KR (by decide +kernel)
noncomputable def g_cd:SM:=
 U0 (Zh (UU 0) (gT 2 (gNC (gN 1) (gNC (gN 2) (gN0)))))
 (U0 (Zh (UU 1) (gT 3 (gNC (gN 3) (gNC (gN 4) (gNC (gN 5) (gN0))))))
 (Kc (U4 1 X6 (UX (UU 5) (UV)))))
noncomputable def XU:zw->zx:=Kh N_cd g_cd
noncomputable abbrev Scc:Stmt:=top 77
noncomputable abbrev N_cc:List Str:=["web", "paper", "dealings", "times", "asks", "prices"]
theorem Hcc:NmF Scc N_cc:=KR (by decide +kernel)
noncomputable def g_cc:SM:=
 U0 (Zh (UU 0) (gT 2 (gNC (gN 1) (gNC (gN 2) (gN0)))))
 (U0 (Zh (UU 1) (gT 3 (gNC (gN 3) (gNC (gN 4) (gNC (gN 5) (gN0))))))
 (Kc (U4 1 X6 (UX (UU 4) (UV)))))
noncomputable def XV:zw->zx:=Kh N_cc g_cc
noncomputable abbrev Saa:Stmt:=top 6
noncomputable abbrev N_aa:List Str:=["thing"]
theorem Haa:NmF Saa N_aa:=KR (by decide +kernel)
noncomputable def g_aa:SM:=
 Kc (SZ (Ka (λd=>.bool (Zx d "int")) (UU 0)) (Nh (Ka (λd=>.bool (Zx d "bool")) (UU 0))))
noncomputable def VS:zw->zx:=Kh N_aa g_aa
noncomputable abbrev Sac:Stmt:=top 8
noncomputable abbrev N_ac:List Str:=["thing", "many"]
theorem Hac:NmF Sac N_ac:=KR (by decide +kernel)
noncomputable def g_ac:SM:=
 Kc (SZ (U4 1 VS (UX (UU 0) (UV))) (Ka UI (Rj (oIB λi j=>decide (i<=j)) (oIB λi j=>decide (i<j)) (U2 (.int 0)) (UU 0) (UU 1))))
noncomputable def Z1:zw->zx:=Kh N_ac g_ac
noncomputable abbrev Sae:Stmt:=top 15
noncomputable abbrev N_ae:List Str:=["thing", "things"]
theorem Hae:NmF Sae N_ae:=KR (by decide +kernel)
noncomputable def g_ae:SM:=
 U0 (sIf (mOr (Za (Ys (Ka (λd=>.bool (Zx d "list")) (UU 0)))) (U1 oEq (Zp 0) (U2 (.int 0))))
 (Kc (U2 (.bool zr)))
 (sNx))
 (Kc (ZW YG (UX (Ka UH (Zd (K2 (UU 0)) 1 (gN 2) (U2 zq) (U4 2 Z1 (UX (UU 2) (UX (UU 1) (UV)))))) (UV))))
noncomputable def WI:zw->zx:=Kh N_ae g_ae
noncomputable abbrev Saf:Stmt:=top 16
noncomputable abbrev N_af:List Str:=["thing", "things", "wished"]
theorem Haf:NmF Saf N_af:=KR (by decide +kernel)
noncomputable def SB:SM:=
 U0 (sIf (mOr (Za (Ys (Ka (λd=>.bool (Zx d "list")) (UU 0)))) (U1 (oIB λi j=>decide (j<i)) (Zp 0) (U2 (.int 5))))
 (Kc (U2 (.bool zr)))
 (sNx))
 (U0 (sIf (Za (Ys (ZW YG (UX (Ka UH (Zd (K2 (UU 0)) 1 (gN 3) (U2 zq) (U4 2 WI (UX (UU 3) (UX (UU 1) (UV)))))) (UV)))))
 (Kc (U2 (.bool zr)))
 (sNx))
 (U0 (ZC 2 (R4 (K2 (UU 0)) 2 (gN 3) (U2 zq) (K2 (UU 3)) (gN 4) (U2 zq) (UU 4)))
 (Kc (Ka UI (U1 oEq (ZW W4 (UX (UU 2) (UV))) (Zp 2))))))
noncomputable def VQ:zw->zx:=Kh N_af SB
noncomputable abbrev Sag:Stmt:=top 17
noncomputable abbrev N_ag:List Str:=["lists", "things", "asker", "ranks"]
theorem Hag:NmF Sag N_ag:=KR (by decide +kernel)
noncomputable def B5:SM:=
 sIf (Za (Ys (U4 2 VQ (UX (UU 3) (UX (UU 1) (UV))))))
 (Wo)
 (sNx)
noncomputable def SA:SM:=
 U0 (sIf (mOr (Za (Ys (Ka (λd=>.bool (Zx d "list")) (UU 0)))) (Za (Rj (oIB λi j=>decide (i<=j)) (oIB λi j=>decide (i<=j)) (U2 (.int 1)) (Zp 0) (U2 (.int 7)))))
 (Wo)
 (sNx))
 (K3 (Xc (UX (UU 0) (UV))) (gT 2 (gNC (gN 2) (gNC (gN 3) (gN0)))) B5)
noncomputable def VP:zw->zx:=Kh N_ag SA
noncomputable abbrev Sad:Stmt:=top 14
noncomputable abbrev N_ad:List Str:=["copies", "number", "many"]
theorem Had:NmF Sad N_ad:=KR (by decide +kernel)
noncomputable def HR:SM:=
 sIf (Za (Ys (U4 2 Z1 (UX (UU 2) (UX (U1 Ke (U2 (.int 7)) (U2 (.int 1))) (UV))))))
 (Wo)
 (sNx)
noncomputable def SD:SM:=
 U0 (sIf (mOr (Za (Ys (Ka (λd=>.bool (Zx d "list")) (UU 0)))) (Za (Rj (oIB λi j=>decide (i<=j)) (oIB λi j=>decide (i<=j)) (U2 (.int 1)) (Zp 0) (U2 (.int 6)))))
 (Wo)
 (sNx))
 (K3 (Xc (UX (UU 0) (UV))) (gT 2 (gNC (gN 1) (gNC (gN 2) (gN0)))) HR)
noncomputable def VR:zw->zx:=Kh N_ad SD
noncomputable abbrev Sah:Stmt:=top 18
noncomputable abbrev N_ah:List Str:=["thing", "copies", "lists"]
theorem Hah:NmF Sah N_ah:=KR (by decide +kernel)
noncomputable def g_ah:SM:=
 U0 (sIf (mOr (Za (Ys (Ka (λd=>.bool (Zx d "tuple")) (UU 0)))) (U1 oNe (Zp 0) (U2 (.int 2))))
 (Wo)
 (sNx))
 (U0 (Zh (UU 0) (gT 2 (gNC (gN 1) (gNC (gN 2) (gN0)))))
 (U0 (YD (U4 1 VR (UX (UU 1) (UV))))
 (YD (U4 2 VP (UX (UU 2) (UX (Zp 1) (UV)))))))
noncomputable def Zy:zw->zx:=Kh N_ah g_ah
noncomputable abbrev Sal:Stmt:=top 22
noncomputable abbrev N_al:List Str:=["wishes"]
theorem Hal:NmF Sal N_al:=KR (by decide +kernel)
noncomputable def Sy:SM:=
 U0 (YD (U4 1 Zy (UX (UU 0) (UV))))
 (Kc (ZW SV (UX (Ka UH (R3 (Xc (UX (Kb 0 (U2 (.int 1))) (UV))) 4 (gT 2 (gNC (gN 1) (gNC (gN 2) (gN0)))) (U2 zq) (K2 (UU 2)) (gN 3) (U2 zq) (K2 (UU 3)) (gN 4) (U2 zq) (KI (UX (UU 1) (UX (UU 4) (UV)))))) (UV))))
noncomputable def VN:zw->zx:=Kh N_al Sy
noncomputable abbrev Say:Stmt:=top 41
noncomputable abbrev N_ay:List Str:=["base", "times", "told", "step"]
theorem Hay:NmF Say N_ay:=KR (by decide +kernel)
noncomputable def B4:SM:=
 XM Xm 2 (UU 0)
noncomputable def g_ay:SM:=
 U0 (Kg 2 (U2 (.int 1)))
 (U0 (K3 (XE (UX (UU 1) (UV))) (gN 3) B4)
 (Kc (UU 2)))
noncomputable def ZM:zw->zx:=Kh N_ay g_ay
noncomputable abbrev Sba:Stmt:=top 43
noncomputable abbrev N_ba:List Str:=["turns", "base", "asker", "rank", "behind"]
theorem Hba:NmF Sba N_ba:=KR (by decide +kernel)
noncomputable def Sm:SM:=
 U0 (sIf (ZF Xk 2 (UU 0))
 (Kc (U2 (.int 0)))
 (sNx))
 (U0 (Kg 4 (U1 Zi (U1 Zi (Zp 0) (U2 (.int 1))) (P4 (UU 0) (UX (UU 2) (UV)))))
 (Kc (U1 KZ (U1 Zi (UU 1) (UU 3)) (U4 2 ZM (UX (UU 1) (UX (UU 4) (UV)))))))
noncomputable def VE:zw->zx:=Kh N_ba Sm
noncomputable abbrev Saz:Stmt:=top 42
noncomputable abbrev N_az:List Str:=["order", "base", "most", "rank"]
theorem Haz:NmF Saz N_az:=KR (by decide +kernel)
noncomputable def Sn:SM:=
 U0 (sIf (ZF oEq 0 (U2 (.str "firsts")))
 (Kc (U4 2 ZM (UX (UU 1) (UX (U1 Zi (UU 2) (UU 3)) (UV)))))
 (sNx))
 (U0 (sIf (ZF oEq 0 (U2 (.str "full")))
 (Kc (U1 Ke (U4 2 ZM (UX (UU 1) (UX (UU 2) (UV)))) (U4 2 ZM (UX (UU 1) (UX (U1 Zi (UU 2) (UU 3)) (UV))))))
 (sNx))
 (Kc (U1 Zi (U4 2 ZM (UX (UU 1) (UX (UU 2) (UV)))) (U4 2 ZM (UX (UU 1) (UX (U1 Zi (UU 3) (U2 (.int 1))) (UV)))))))
noncomputable def VF:zw->zx:=Kh N_az Sn
noncomputable abbrev Saj:Stmt:=top 20
noncomputable abbrev N_aj:List Str:=["ranks", "thing", "number", "rank"]
theorem Haj:NmF Saj N_aj:=KR (by decide +kernel)
noncomputable def B3:SM:=
 sIf (ZF oIn 1 (UU 3))
 (Kc (UU 2))
 (sNx)
noncomputable def g_aj:SM:=
 U0 (K3 (Nw (UX (UU 0) (UV))) (gT 2 (gNC (gN 2) (gNC (gN 3) (gN0)))) B3)
 (Kc (U2 (.int 0)))
noncomputable def YL:zw->zx:=Kh N_aj g_aj
noncomputable abbrev Sbb:Stmt:=top 44
noncomputable abbrev N_bb:List Str:=["wishes", "aim", "most", "asker", "thing", "order", "old", "turns", "lists", "rank", "base", "kept", "by_counts"]
theorem Hbb:NmF Sbb N_bb:=KR (by decide +kernel)
noncomputable def Sk:SM:=
 U0 (Zh (UU 1) (gT 3 (gNC (gN 5) (gNC (gN 6) (gNC (gN 7) (gN0))))))
 (U0 (Kg 8 (Kb 0 (U2 (.int 1))))
 (U0 (Kg 9 (U4 2 YL (UX (Kb 8 (UU 3)) (UX (UU 4) (UV)))))
 (U0 (Kg 10 (U1 Ke (Zp 8) (U2 (.int 1))))
 (U0 (Kg 11 (mIf (ZU (Ka (λd=>!isNon d) (UU 6)) (U1 oEq (Kb 6 (UU 3)) (UU 4))) (U2 (.int 1)) (U2 (.int 0))))
 (U0 (Kg 12 (U1 Ke (U1 KZ (U4 4 VF (UX (UU 5) (UX (UU 10) (UX (UU 2) (UX (UU 9) (UV)))))) (UU 10)) (UU 11)))
 (Kc (U1 Ke (U1 KZ (UU 12) (U4 2 ZM (UX (U1 Ke (UU 2) (U2 (.int 1))) (UX (Zp 7) (UV))))) (U4 4 VE (UX (UU 7) (UX (U1 Ke (UU 2) (U2 (.int 1))) (UX (UU 3) (UX (UU 9) (UV)))))))))))))
noncomputable def Y4:zw->zx:=Kh N_bb Sk
noncomputable abbrev Sak:Stmt:=top 21
noncomputable abbrev N_ak:List Str:=["wishes"]
theorem Hak:NmF Sak N_ak:=KR (by decide +kernel)
noncomputable def g_ak:SM:=
 U0 (YD (U4 1 Zy (UX (UU 0) (UV))))
 (Kc (ZW Re (UX (Ka UH (Zd (K2 (Kb 0 (U2 (.int 1)))) 1 (gN 1) (U2 zq) (Zp 1))) (UV))))
noncomputable def Y5:zw->zx:=Kh N_ak g_ak
noncomputable abbrev Sau:Stmt:=top 36
noncomputable abbrev N_au:List Str:=["thing", "askers"]
theorem Hau:NmF Sau N_au:=KR (by decide +kernel)
noncomputable def Sr:SM:=
 U0 (sIf (mOr (Za (Ys (Ka (λd=>.bool (Zx d "list")) (UU 0)))) (Za (Ys (ZW YG (UX (Ka UH (Zd (K2 (UU 0)) 1 (gN 2) (U2 zq) (U4 2 Z1 (UX (UU 2) (UX (UU 1) (UV)))))) (UV))))))
 (Kc (U2 (.bool zr)))
 (sNx))
 (Kc (Ka UI (U1 oEq (ZW W4 (UX (UU 0) (UV))) (Zp 0))))
noncomputable def VG:zw->zx:=Kh N_au Sr
noncomputable abbrev Sat:Stmt:=top 35
noncomputable abbrev N_at:List Str:=["thing", "askers", "things"]
theorem Hat:NmF Sat N_at:=KR (by decide +kernel)
noncomputable def Ss:SM:=
 U0 (sIf (Ka isNon (UU 0))
 (Kc (U2 (.bool zq)))
 (sNx))
 (U0 (sIf (mOr (Za (Ys (Ka (λd=>.bool (Zx d "list")) (UU 0)))) (U1 oNe (Zp 0) (UU 1)))
 (Kc (U2 (.bool zr)))
 (sNx))
 (Kc (ZW YG (UX (Ka UH (Zd (K2 (UU 0)) 1 (gN 3) (U2 zq) (Vj (Ka (λd=>.bool (isNon d)) (UU 3)) (U4 2 Z1 (UX (UU 3) (UX (UU 2) (UV))))))) (UV)))))
noncomputable def VH:zw->zx:=Kh N_at Ss
noncomputable abbrev Sar:Stmt:=top 32
noncomputable abbrev N_ar:List Str:=["thing"]
theorem Har:NmF Sar N_ar:=KR (by decide +kernel)
noncomputable def g_ar:SM:=
 Kc (SZ (Ka (λd=>.bool (Zx d "str")) (UU 0)) (Ka UI (ZF oIn 0 (U2 (.tuple ((["firsts", "full", "lasts"]:List Str).map UJ))))))
noncomputable def VJ:zw->zx:=Kh N_ar g_ar
noncomputable abbrev Sas:Stmt:=top 33
noncomputable abbrev N_as:List Str:=["thing"]
theorem Has:NmF Sas N_as:=KR (by decide +kernel)
noncomputable def g_as:SM:=
 sIf (Za (Ys (U4 1 VJ (UX (UU 0) (UV)))))
 (Wo)
 (sNx)
noncomputable def VI:zw->zx:=Kh N_as g_as
noncomputable abbrev Sav:Stmt:=top 37
noncomputable abbrev N_av:List Str:=["wishes", "thing", "copies", "lists", "order", "old", "turns"]
theorem Hav:NmF Sav N_av:=KR (by decide +kernel)
noncomputable def Sq:SM:=
 U0 (YD (U4 1 Zy (UX (UU 0) (UV))))
 (U0 (sIf (mOr (Za (Ys (Ka (λd=>.bool (Zx d "tuple")) (UU 1)))) (U1 oNe (Zp 1) (U2 (.int 3))))
 (Wo)
 (sNx))
 (U0 (Zh (UU 0) (gT 2 (gNC (gN 2) (gNC (gN 3) (gN0)))))
 (U0 (Zh (UU 1) (gT 3 (gNC (gN 4) (gNC (gN 5) (gNC (gN 6) (gN0))))))
 (U0 (YD (U4 1 VI (UX (UU 4) (UV))))
 (U0 (sIf (Za (Ys (U4 3 VH (UX (UU 5) (UX (Zp 3) (UX (Zp 2) (UV)))))))
 (Wo)
 (sNx))
 (sIf (Za (Ys (U4 2 VG (UX (UU 6) (UX (Zp 3) (UV))))))
 (Wo)
 (sNx)))))))
noncomputable def YA:zw->zx:=Kh N_av Sq
noncomputable abbrev Sbc:Stmt:=top 45
noncomputable abbrev N_bc:List Str:=["wishes", "aim", "most"]
theorem Hbc:NmF Sbc N_bc:=KR (by decide +kernel)
noncomputable def Sj:SM:=
 U0 (YD (U4 2 YA (UX (UU 0) (UX (UU 1) (UV)))))
 (U0 (Kg 2 (U4 1 Y5 (UX (UU 0) (UV))))
 (Kc (Ka UH (Zd (K2 (U4 1 VN (UX (UU 0) (UV)))) 2 (gT 2 (gNC (gN 3) (gNC (gN 4) (gN0)))) (U2 zq) (KI (UX (UU 3) (UX (UU 4) (UX (U4 5 Y4 (UX (UU 0) (UX (UU 1) (UX (UU 2) (UX (UU 3) (UX (UU 4) (UV))))))) (UV)))))))))
noncomputable def Y3:zw->zx:=Kh N_bc Sj
noncomputable abbrev Sbz:Stmt:=top 73
noncomputable abbrev N_bz:List Str:=["wishes", "aim", "paper", "times", "asks", "prices", "worths"]
theorem Hbz:NmF Sbz N_bz:=KR (by decide +kernel)
noncomputable def TW:SM:=
 U0 (Zh (UU 2) (gT 3 (gNC (gN 3) (gNC (gN 4) (gNC (gN 5) (gN0))))))
 (U0 (Kg 6 (U4 2 Y3 (UX (UU 0) (UX (UU 1) (UV)))))
 (Kc (Ka UH (Zd (K2 (UU 6)) 3 (gT 3 (gNC (gN 7) (gNC (gN 8) (gNC (gN 9) (gN0))))) (U1 oEq (U1 Ke (Kb 4 (UU 7)) (Kb 5 (UU 8))) (U1 KZ (UU 3) (UU 9))) (KI (UX (UU 7) (UX (UU 8) (UV))))))))
noncomputable def Vs:zw->zx:=Kh N_bz TW
noncomputable abbrev Scb:Stmt:=top 76
noncomputable abbrev N_cb:List Str:=["wishes", "aim", "web"]
theorem Hcb:NmF Scb N_cb:=KR (by decide +kernel)
noncomputable def g_cb:SM:=
 U0 (YD (U4 2 YA (UX (UU 0) (UX (UU 1) (UV)))))
 (Kc (U4 3 Vs (UX (UU 0) (UX (UU 1) (UX (Kb 2 (U2 (.int 0))) (UV))))))
noncomputable def XX:zw->zx:=Kh N_cb g_cb
noncomputable abbrev Sbm:Stmt:=top 57
noncomputable abbrev N_bm:List Str:=["nothing", "steps", "begin", "number", "step", "way", "ahead", "behind", "gain", "asker"]
theorem Hbm:NmF Sbm N_bm:=KR (by decide +kernel)
noncomputable def HQ:SM:=
 sIf (Ka (λd=>!isNon d) (UU 9))
 (Z5 5 (KI (UX (UU 9) (UX (mIf (ZF oEq 7 (UU 0)) (U2 .none) (UU 7)) (UV)))))
 (sNx)
noncomputable def HP:SM:=
 sIf (U1 oEq (Kb 4 (U2 (.int 0))) (UU 0))
 (Kg 2 (UU 3))
 (sNx)
noncomputable def Sa:SM:=
 U0 (Kg 2 (U2 (.int 0)))
 (U0 (K3 (Xc (UX (UU 1) (UV))) (gT 2 (gNC (gN 3) (gNC (gN 4) (gN0)))) HP)
 (U0 (ZC 5 (Kq (UV) λxs=>if xs.length<=1000000 then U2 xs else λ_=>.bad))
 (U0 (K3 (K2 (U1 Ke (Xn (UU 1) (Kq (UU 2) λx=>Ku (WM x)) (U2 zp)) (Xn (UU 1) (U2 zp) (Kq (UU 2) λx=>Ku (WM x))))) (gT 4 (gNC (gN 6) (gNC (gN 7) (gNC (gN 8) (gNC (gN 9) (gN0)))))) HQ)
 (Kc (UU 5)))))
noncomputable def Xq:zw->zx:=Kh N_bm Sa
noncomputable abbrev Sbe:Stmt:=top 48
noncomputable abbrev N_be:List Str:=["dealing", "way", "told", "asker", "taken"]
theorem Hbe:NmF Sbe N_be:=KR (by decide +kernel)
noncomputable def HN:SM:=
 Tn 2 (UU 3) (UU 4)
noncomputable def Sg:SM:=
 U0 (ZC 2 (WY 0))
 (U0 (K3 (K2 (UU 1)) (gT 2 (gNC (gN 3) (gNC (gN 4) (gN0)))) HN)
 (Kc (UU 2)))
noncomputable def X3:zw->zx:=Kh N_be Sg
noncomputable abbrev Sby:Stmt:=top 71
noncomputable abbrev N_by:List Str:=["dealing", "steps", "roads", "nothing", "told", "step", "ahead", "behind", "gain", "asker", "is_left", "shown"]
theorem Hby:NmF Sby N_by:=KR (by decide +kernel)
noncomputable def HM:SM:=
 U0 (Zh (UU 5) (gT 4 (gNC (gN 6) (gNC (gN 7) (gNC (gN 8) (gNC (gN 9) (gN0)))))))
 (U0 (Kg 10 (SZ (Ka (λd=>.bool (isNon d)) (UU 9)) (Ka UI (ZF oEq 7 (UU 3)))))
 (sIf (ZU (ZF ZT 6 (Kb 2 (UU 7))) (Za (Ys (UU 10))))
 (U0 (Kg 11 (U4 2 X3 (UX (UU 0) (UX (U4 2 Xq (UX (UU 3) (UX (U1 Ke (K0 (UX (UU 5) (UV))) (U1 VY (Kb 2 (UU 7)) (UU 6))) (UV)))) (UV)))))
 (sIf (PM Xk (UU 11) 4)
 (Z5 4 (UU 11))
 (sNx)))
 (sNx)))
noncomputable def TX:SM:=
 U0 (Kg 3 (U1 Zi (Zp 2) (U2 (.int 1))))
 (U0 (ZC 4 (Kq (UX (Ka UH (WY 0)) (UV)) λxs=>if xs.length<=1000000 then U2 xs else λ_=>.bad))
 (U0 (K3 (K2 (UU 1)) (gN 5) HM)
 (Kc (UU 4))))
noncomputable def WC:zw->zx:=Kh N_by TX
noncomputable abbrev Sbq:Stmt:=top 61
noncomputable abbrev N_bq:List Str:=["askers", "worths", "prices", "asks", "asker", "thing", "worth"]
theorem Hbq:NmF Sbq N_bq:=KR (by decide +kernel)
noncomputable def HL:SM:=
 Tn 3 (UU 4) (ZW SY (UX (Kb 3 (UU 4)) (UX (U1 Zi (UU 6) (Kb 2 (UU 5))) (UV))))
noncomputable def T6:SM:=
 U0 (ZC 3 (SS (K0 (UX (U2 (.int 0)) (UV))) (UU 0)))
 (U0 (K3 (K2 (UU 1)) (gT 3 (gNC (gN 4) (gNC (gN 5) (gNC (gN 6) (gN0))))) HL)
 (Kc (UU 3)))
noncomputable def XZ:zw->zx:=Kh N_bq T6
noncomputable abbrev Sbw:Stmt:=top 69
noncomputable abbrev N_bw:List Str:=["prices", "roads", "times", "led_from"]
theorem Hbw:NmF Sbw N_bw:=KR (by decide +kernel)
noncomputable def TZ:SM:=
 U0 (Kg 2 (Zp 1))
 (U0 (ZC 3 (Zd (XE (UX (UU 2) (UV))) 1 (gN 4) (U2 zq) (ZW Kp (UX (Ka UH (Zd (K2 (UU 1)) 1 (gN 5) (ZF ZT 4 (UU 5)) (UU 5))) (UV)))))
 (Kc (Ka UH (R5 (Xc (UX (UU 0) (UV))) 2 (gT 2 (gNC (gN 4) (gNC (gN 5) (gN0)))) (U2 zq) (U1 Zi (U1 Ke (U1 KZ (UU 2) (UU 5)) (Kb 3 (UU 4))) (Kb 3 (Z7 (U2 (.int 1)))))))))
noncomputable def Vu:zw->zx:=Kh N_bw TZ
noncomputable abbrev Sbx:Stmt:=top 70
noncomputable abbrev N_bx:List Str:=["askers", "worths", "prices", "roads", "times", "finer", "asks"]
theorem Hbx:NmF Sbx N_bx:=KR (by decide +kernel)
noncomputable def TY:SM:=
 U0 (Kg 4 (Zp 3))
 (U0 (Kg 5 (U4 2 Vu (UX (UU 2) (UX (UU 3) (UV)))))
 (U0 (Kg 6 (U4 3 XZ (UX (UU 0) (UX (Ka UH (Zd (K2 (UU 1)) 3 (gT 3 (gNC (gN 7) (gNC (gN 8) (gNC (gN 9) (gN0))))) (U2 zq) (KI (UX (UU 7) (UX (UU 8) (UX (U1 KZ (UU 4) (UU 9)) (UV))))))) (UX (UU 5) (UV))))))
 (Kc (KI (UX (UU 4) (UX (UU 6) (UX (UU 5) (UV))))))))
noncomputable def Vt:zw->zx:=Kh N_bx TY
noncomputable abbrev Sbu:Stmt:=top 67
noncomputable abbrev N_bu:List Str:=["place", "places", "steps", "told", "turn", "step"]
theorem Hbu:NmF Sbu N_bu:=KR (by decide +kernel)
noncomputable def HK:SM:=
 sIf (ZU (Y1 zq 3 (Kb 5 (U2 (.int 0)))) (Y1 zr 3 (Kb 5 (U2 (.int 1)))))
 (PJ 3 (Kb 5 (U2 (.int 1))) (U1 Ke (Ww 3 (Kb 5 (U2 (.int 0)))) (K0 (UX (UU 5) (UV)))))
 (sNx)
noncomputable def HJ:SM:=
 K3 (K2 (UU 2)) (gN 5) HK
noncomputable def T4:SM:=
 U0 (SR 3 .dic (O7 [(UU 0,K0 (UV))]))
 (U0 (K3 (XE (UX (UU 1) (UV))) (gN 4) HJ)
 (Kc (RN 3)))
noncomputable def Vw:zw->zx:=Kh N_bu T4
noncomputable abbrev Sbv:Stmt:=top 68
noncomputable abbrev N_bv:List Str:=["places", "steps"]
theorem Hbv:NmF Sbv N_bv:=KR (by decide +kernel)
noncomputable def g_bv:SM:=
 Kc (Ka UH (Zd (XE (UX (UU 0) (UV))) 1 (gN 2) (U2 zq) (U4 3 Vw (UX (UU 2) (UX (UU 0) (UX (UU 1) (UV)))))))
noncomputable def Vv:zw->zx:=Kh N_bv g_bv
noncomputable abbrev Sbf:Stmt:=top 50
noncomputable abbrev N_bf:List Str:=["nothing", "got"]
theorem Hbf:NmF Sbf N_bf:=KR (by decide +kernel)
noncomputable def g_bf:SM:=
 Kc (mIf (Ka isNon (UU 1)) (UU 0) (UU 1))
noncomputable def WE:zw->zx:=Kh N_bf g_bf
noncomputable abbrev Sbg:Stmt:=top 51
noncomputable abbrev SK:List Str:=["nothing", "worths", "dealing", "had", "asker", "thing", "worth", "told"]
theorem Hbg:FnNm (ZR Sbg) SK ["place_of", "enumerate", "len"]:=KR (by decide +kernel)
noncomputable def HI:SM:=
 sIf (U1 oNe (Kb 2 (UU 4)) (UU 5))
 (Z5 7 (KI (UX (U4 2 WE (UX (UU 0) (UX (Kb 2 (UU 4)) (UV)))) (UX (UU 5) (UX (U1 Zi (UU 6) (Kb 3 (UU 4))) (UX (UU 4) (UV)))))))
 (sNx)
noncomputable def HH:SM:=
 sIf (U1 oEq (Kb 2 (UU 4)) (UU 5))
 (Tn 3 (UU 4) (UU 6))
 (sNx)
noncomputable def Sf:SM:=
 U0 (ZC 3 (SS (K0 (UX (U2 (.int 0)) (UV))) (Zp 2)))
 (U0 (K3 (K2 (UU 1)) (gT 3 (gNC (gN 4) (gNC (gN 5) (gNC (gN 6) (gN0))))) HH)
 (U0 (ZC 7 (WN (Zd (Xc (UX (UU 2) (UV))) 2 (gT 2 (gNC (gN 8) (gNC (gN 9) (gN0)))) (Ka (λd=>!isNon d) (UU 9)) (KI (UX (UU 9) (UX (UU 0) (UX (Z7 (Kb 3 (UU 8))) (UX (UU 8) (UV)))))))))
 (U0 (K3 (K2 (UU 1)) (gT 3 (gNC (gN 4) (gNC (gN 5) (gNC (gN 6) (gN0))))) HI)
 (Kc (UU 7)))))
noncomputable def VD:zw->zx:=Kh SK Sf
noncomputable abbrev Saq:Stmt:=top 29
noncomputable abbrev N_aq:List Str:=["wishes", "dealing"]
theorem Haq:NmF Saq N_aq:=KR (by decide +kernel)
noncomputable def g_aq:SM:=
 U0 (YD (U4 1 Zy (UX (UU 0) (UV))))
 (Kc (Ka UH (Zd (Xc (UX (Kb 0 (U2 (.int 0))) (UV))) 2 (gT 2 (gNC (gN 2) (gNC (gN 3) (gN0)))) (U2 zq) (U1 Zi (UU 3) (V7 (UU 1) (UX (UU 2) (UV)))))))
noncomputable def VL:zw->zx:=Kh N_aq g_aq
noncomputable abbrev Sbh:Stmt:=top 52
noncomputable abbrev N_bh:List Str:=["wishes", "dealing", "nothing", "left", "to_nothing"]
theorem Hbh:NmF Sbh N_bh:=KR (by decide +kernel)
noncomputable def Se:SM:=
 U0 (Kg 2 (ZW Kp (UX (Kb 0 (U2 (.int 0))) (UV))))
 (U0 (Kg 3 (U4 2 VL (UX (UU 0) (UX (UU 1) (UV)))))
 (U0 (ZC 4 (Zd (Xc (UX (UU 3) (UV))) 2 (gT 2 (gNC (gN 5) (gNC (gN 6) (gN0)))) (ZF (oIB λi j=>decide (j<i)) 6 (U2 (.int 0))) (KI (UX (UU 5) (UX (UU 2) (UX (U2 (.int 0)) (UX (U2 .none) (UV))))))))
 (Kc (U1 Ke (UU 4) (Ka UH (Zd (XE (UX (UU 2) (UV))) 1 (gN 5) (U2 zq) (KI (UX (UU 2) (UX (UU 5) (UX (U2 (.int 0)) (UX (U2 .none) (UV))))))))))))
noncomputable def VC:zw->zx:=Kh N_bh Se
noncomputable abbrev Sbi:Stmt:=top 53
noncomputable abbrev N_bi:List Str:=["wishes", "worths", "dealing"]
theorem Hbi:NmF Sbi N_bi:=KR (by decide +kernel)
noncomputable def g_bi:SM:=
 Kc (U1 Ke (U4 3 VD (UX (ZW Kp (UX (Kb 0 (U2 (.int 0))) (UV))) (UX (UU 1) (UX (UU 2) (UV))))) (U4 2 VC (UX (UU 0) (UX (UU 2) (UV)))))
noncomputable def Yz:zw->zx:=Kh N_bi g_bi
noncomputable abbrev Sbt:Stmt:=top 66
noncomputable abbrev N_bt:List Str:=["steps", "prices", "paid"]
theorem Hbt:NmF Sbt N_bt:=KR (by decide +kernel)
noncomputable def T5:SM:=
 U0 (Kg 2 (U1 Ke (UU 1) (K0 (UX (U2 (.int 0)) (UV)))))
 (Kc (Ka UH (Zd (K2 (UU 0)) 1 (gN 3) (U1 oEq (U1 Ke (Kb 2 (Kb 3 (U2 (.int 0)))) (Kb 3 (U2 (.int 2)))) (Kb 2 (Kb 3 (U2 (.int 1))))) (UU 3))))
noncomputable def Vx:zw->zx:=Kh N_bt T5
noncomputable abbrev Sbj:Stmt:=top 54
noncomputable abbrev N_bj:List Str:=["walks", "steps", "told", "step", "ahead", "behind", "gain", "asker", "gained", "walked"]
theorem Hbj:NmF Sbj N_bj:=KR (by decide +kernel)
noncomputable def HG:SM:=
 U0 (Zh (UU 3) (gT 4 (gNC (gN 4) (gNC (gN 5) (gNC (gN 6) (gNC (gN 7) (gN0)))))))
 (U0 (Zh (Kb 0 (UU 4)) (gT 2 (gNC (gN 8) (gNC (gN 9) (gN0)))))
 (sIf (U1 (oIB λi j=>decide (j<i)) (U1 Ke (UU 8) (UU 6)) (U1 oIx (Kb 2 (UU 5)) (U2 (.int 0))))
 (Tn 2 (UU 5) (KI (UX (U1 Ke (UU 8) (UU 6)) (UX (U1 Ke (UU 9) (K0 (UX (UU 3) (UV)))) (UV)))))
 (sNx)))
noncomputable def Sd:SM:=
 U0 (ZC 2 (WY 0))
 (U0 (K3 (K2 (UU 1)) (gN 3) HG)
 (Kc (UU 2)))
noncomputable def VA:zw->zx:=Kh N_bj Sd
noncomputable abbrev Sbk:Stmt:=top 55
noncomputable abbrev N_bk:List Str:=["places", "steps", "told", "turn"]
theorem Hbk:NmF Sbk N_bk:=KR (by decide +kernel)
noncomputable def B0:SM:=
 Kg 2 (U4 2 VA (UX (UU 2) (UX (UU 1) (UV))))
noncomputable def Sc:SM:=
 U0 (Kg 2 (U1 KZ (K0 (UX (KI (UX (U2 (.int 0)) (UX (K0 (UV)) (UV)))) (UV))) (UU 0)))
 (U0 (K3 (XE (UX (UU 0) (UV))) (gN 3) B0)
 (Kc (UU 2)))
noncomputable def X2:zw->zx:=Kh N_bk Sc
noncomputable abbrev Sbp:Stmt:=top 60
noncomputable abbrev N_bp:List Str:=["wishes", "worths", "dealing", "nothing", "walks"]
theorem Hbp:NmF Sbp N_bp:=KR (by decide +kernel)
noncomputable def T7:SM:=
 U0 (Kg 3 (ZW Kp (UX (Kb 0 (U2 (.int 0))) (UV))))
 (U0 (Kg 4 (U4 2 X2 (UX (U1 Ke (UU 3) (U2 (.int 1))) (UX (U4 3 Yz (UX (UU 0) (UX (UU 1) (UX (UU 2) (UV))))) (UV)))))
 (Kc (Ka UH (Zd (K2 (Xn (UU 4) (U2 zp) (Kq (UU 3) λx=>Ku (WM x)))) 2 (gT 2 (gNC (gN 5) (gNC (gN 6) (gN0)))) (U2 zq) (UU 5)))))
noncomputable def X0:zw->zx:=Kh N_bp T7
noncomputable abbrev Sbl:Stmt:=top 56
noncomputable abbrev N_bl:List Str:=["walk", "end", "step", "begin"]
theorem Hbl:NmF Sbl N_bl:=KR (by decide +kernel)
noncomputable def HF:SM:=
 sIf (U1 oEq (U1 oIx (Kb 0 (UU 3)) (U2 (.int 0))) (Kb 2 (U2 (.int 1))))
 (Kc (Xn (UU 0) (Kq (UU 3) λx=>Ku (WM x)) (Kq (U1 Ke (UU 1) (U2 (.int 1))) λx=>Ku (WM x))))
 (sNx)
noncomputable def HE:SM:=
 K3 (XE (UX (U1 Ke (UU 1) (U2 (.int 1))) (UV))) (gN 3) HF
noncomputable def Sb:SM:=
 U0 (K3 (Xc (UX (UU 0) (UV))) (gT 2 (gNC (gN 1) (gNC (gN 2) (gN0)))) HE)
 (Kc (K0 (UV)))
noncomputable def Vz:zw->zx:=Kh N_bl Sb
noncomputable abbrev Sbn:Stmt:=top 58
noncomputable abbrev N_bn:List Str:=["wishes", "worths", "dealing", "nothing", "gained", "walk"]
theorem Hbn:NmF Sbn N_bn:=KR (by decide +kernel)
noncomputable def HD:SM:=
 sIf (U1 oEq (Zp 5) (U1 Ke (UU 3) (U2 (.int 1))))
 (Kc (U4 2 Xq (UX (UU 3) (UX (U4 1 Vz (UX (UU 5) (UV))) (UV)))))
 (sNx)
noncomputable def T9:SM:=
 U0 (Kg 3 (ZW Kp (UX (Kb 0 (U2 (.int 0))) (UV))))
 (U0 (K3 (K2 (U4 2 X2 (UX (U1 Ke (UU 3) (U2 (.int 1))) (UX (U4 3 Yz (UX (UU 0) (UX (UU 1) (UX (UU 2) (UV))))) (UV))))) (gT 2 (gNC (gN 4) (gNC (gN 5) (gN0)))) HD)
 (Kc (K0 (UV))))
noncomputable def WD:zw->zx:=Kh N_bn T9
noncomputable abbrev Sbo:Stmt:=top 59
noncomputable abbrev N_bo:List Str:=["wishes", "worths", "dealing", "way"]
theorem Hbo:NmF Sbo N_bo:=KR (by decide +kernel)
noncomputable def Os:SM:=
 U0 (Kg 2 (U4 2 X3 (UX (UU 2) (UX (UU 3) (UV)))))
 (Kg 3 (U4 3 WD (UX (UU 0) (UX (UU 1) (UX (UU 2) (UV))))))
noncomputable def T8:SM:=
 U0 (Kg 2 (U1 KZ (K0 (UX (U2 .none) (UV))) (ZW Kp (UX (Kb 0 (U2 (.int 1))) (UV)))))
 (U0 (Kg 3 (U4 3 WD (UX (UU 0) (UX (UU 1) (UX (UU 2) (UV))))))
 (U0 (WW (Ou (UU 3)) Os WJ)
 (Kc (UU 2))))
noncomputable def X1:zw->zx:=Kh N_bo T8
noncomputable abbrev Sca:Stmt:=top 75
noncomputable abbrev N_ca:List Str:=["wishes", "aim", "worths", "dealing", "prices", "steps", "roads"]
theorem Hca:NmF Sca N_ca:=KR (by decide +kernel)
noncomputable def TV:SM:=
 U0 (Kg 2 (U4 2 Y3 (UX (UU 0) (UX (UU 1) (UV)))))
 (U0 (Kg 3 (U4 2 X1 (UX (UU 0) (UX (UU 2) (UV)))))
 (U0 (Kg 4 (U4 3 X0 (UX (UU 0) (UX (UU 2) (UX (UU 3) (UV))))))
 (U0 (Kg 5 (U4 2 Vx (UX (U4 3 Yz (UX (UU 0) (UX (UU 2) (UX (UU 3) (UV))))) (UX (UU 4) (UV)))))
 (U0 (Kg 6 (U4 2 Vv (UX (U1 Ke (Zp 4) (U2 (.int 1))) (UX (UU 5) (UV)))))
 (Kc (KI (UX (U4 4 Vt (UX (Zp 3) (UX (UU 2) (UX (UU 4) (UX (UU 6) (UV)))))) (UX (U4 3 WC (UX (UU 3) (UX (UU 5) (UX (UU 6) (UV))))) (UV)))))))))
noncomputable def XY:zw->zx:=Kh N_ca TV
noncomputable abbrev Sci:Stmt:=top 84
noncomputable abbrev N_ci:List Str:=["_law_one", "_law_other", "_law_both", "_law_aim", "_law_webs_here", "_law_askers", "_law_things", "_law_due"]
theorem Hci:NmF Sci N_ci:=KR (by decide +kernel)
noncomputable def TQ:SM:=
 U0 (ZC 4 (Zd (K2 (K0 (UX (UU 0) (UX (UU 1) (UX (UU 2) (UV)))))) 1 (gN 8) (U2 zq) (U4 2 XY (UX (UU 8) (UX (UU 3) (UV))))))
 (U0 (Kg 5 (ZW Kp (UX (Kb 0 (U2 (.int 1))) (UV))))
 (U0 (Kg 6 (ZW Kp (UX (Kb 0 (U2 (.int 0))) (UV))))
 (U0 (Kg 7 (U4 3 XX (UX (UU 0) (UX (UU 3) (UX (Kb 4 (U2 (.int 0))) (UV))))))
 (U0 (Kg 7 (U1 Ke (UU 7) (Ka UH (Zd (K2 (U4 3 XX (UX (UU 1) (UX (UU 3) (UX (Kb 4 (U2 (.int 1))) (UV)))))) 2 (gT 2 (gNC (gN 8) (gNC (gN 9) (gN0)))) (U2 zq) (KI (UX (U1 Ke (UU 8) (UU 5)) (UX (U1 Ke (UU 9) (UU 6)) (UV))))))))
 (U0 (sIf (U1 oNe (U4 3 XX (UX (UU 2) (UX (UU 3) (UX (Kb 4 (U2 (.int 2))) (UV))))) (UU 7))
 (Kc (U2 (.bool zr)))
 (sNx))
 (U0 (sIf (U1 oNe (U4 1 XV (UX (Kb 4 (U2 (.int 2))) (UV))) (U1 Ke (U4 1 XV (UX (Kb 4 (U2 (.int 0))) (UV))) (Ka UH (Zd (K2 (U4 1 XV (UX (Kb 4 (U2 (.int 1))) (UV)))) 1 (gN 8) (U2 zq) (U1 Ke (UU 8) (UU 5))))))
 (Kc (U2 (.bool zr)))
 (sNx))
 (Kc (Ka UI (U1 oEq (U4 1 XU (UX (Kb 4 (U2 (.int 2))) (UV))) (U1 Ke (U4 1 XU (UX (Kb 4 (U2 (.int 0))) (UV))) (Ka UH (Zd (K2 (U4 1 XU (UX (Kb 4 (U2 (.int 1))) (UV)))) 1 (gN 8) (U2 zq) (U1 Ke (UU 8) (UU 6))))))))))))))
noncomputable def Vq:zw->zx:=Kh N_ci TQ
noncomputable abbrev Sbd:Stmt:=top 46
noncomputable abbrev N_bd:List Str:=["wishes", "aim", "dealing", "most"]
theorem Hbd:NmF Sbd N_bd:=KR (by decide +kernel)
noncomputable def Sh:SM:=
 U0 (YD (U4 2 YA (UX (UU 0) (UX (UU 1) (UV)))))
 (U0 (Kg 3 (U4 1 Y5 (UX (UU 0) (UV))))
 (Kc (ZW VZ (UX (Ka UH (Zd (Xc (UX (UU 2) (UV))) 2 (gT 2 (gNC (gN 4) (gNC (gN 5) (gN0)))) (Ka (λd=>!isNon d) (UU 5)) (U4 5 Y4 (UX (UU 0) (UX (UU 1) (UX (UU 3) (UX (UU 4) (UX (UU 5) (UV))))))))) (UV)))))
noncomputable def WF:zw->zx:=Kh N_bd Sh
noncomputable abbrev Saw:Stmt:=top 38
noncomputable abbrev N_aw:List Str:=["old", "dealing"]
theorem Haw:NmF Saw N_aw:=KR (by decide +kernel)
noncomputable def Vk:SM:=
 U0 (sIf (Ka isNon (UU 0))
 (Kc (U2 (.int 0)))
 (sNx))
 (Kc (ZW Kp (UX (Ka UH (Zd (SH (UX (UU 0) (UX (UU 1) (UV)))) 2 (gT 2 (gNC (gN 2) (gNC (gN 3) (gN0)))) (ZU (Ka (λd=>!isNon d) (UU 2)) (ZF oEq 3 (UU 2))) (UU 2))) (UV))))
noncomputable def X4:zw->zx:=Kh N_aw Vk
noncomputable abbrev Sao:Stmt:=top 27
noncomputable abbrev N_ao:List Str:=["wishes", "dealing"]
theorem Hao:NmF Sao N_ao:=KR (by decide +kernel)
noncomputable def Sv:SM:=
 U0 (YD (U4 1 Zy (UX (UU 0) (UV))))
 (Kc (Ka UH (Zd (Xc (UX (UU 1) (UV))) 2 (gT 2 (gNC (gN 2) (gNC (gN 3) (gN0)))) (U2 zq) (U4 2 YL (UX (U1 oIx (Kb 0 (U2 (.int 1))) (UU 2)) (UX (UU 3) (UV)))))))
noncomputable def X5:zw->zx:=Kh N_ao Sv
noncomputable abbrev Sap:Stmt:=top 28
noncomputable abbrev N_ap:List Str:=["wishes", "dealing", "got"]
theorem Hap:NmF Sap N_ap:=KR (by decide +kernel)
noncomputable def Su:SM:=
 U0 (Kg 2 (U4 2 X5 (UX (UU 0) (UX (UU 1) (UV)))))
 (Kc (U1 Ke (Ka UH (Zd (PF (UX (U2 (.int 1)) (UX (U1 Ke (U4 1 Y5 (UX (UU 0) (UV))) (U2 (.int 1))) (UV)))) 1 (gN 3) (U2 zq) (V7 (UU 2) (UX (UU 3) (UV))))) (K0 (UX (V7 (UU 2) (UX (U2 (.int 0)) (UV))) (UV)))))
noncomputable def YK:zw->zx:=Kh N_ap Su
noncomputable abbrev Sax:Stmt:=top 39
noncomputable abbrev N_ax:List Str:=["wishes", "aim", "dealing", "order", "old", "turns", "got"]
theorem Hax:NmF Sax N_ax:=KR (by decide +kernel)
noncomputable def So:SM:=
 U0 (YD (U4 2 YA (UX (UU 0) (UX (UU 1) (UV)))))
 (U0 (Zh (UU 1) (gT 3 (gNC (gN 3) (gNC (gN 4) (gNC (gN 5) (gN0))))))
 (U0 (Kg 6 (U4 2 X5 (UX (UU 0) (UX (UU 2) (UV)))))
 (Kc (KI (UX (U4 2 YK (UX (UU 0) (UX (UU 2) (UV)))) (UX (U4 2 X4 (UX (UU 4) (UX (UU 2) (UV)))) (UX (Ka UH (Zd (K2 (UU 5)) 1 (gN 7) (U2 zq) (Kb 6 (UU 7)))) (UV))))))))
noncomputable def WG:zw->zx:=Kh N_ax So
noncomputable abbrev Sch:Stmt:=top 83
noncomputable abbrev N_ch:List Str:=["_law_one", "_law_other", "_law_many", "_law_row", "_law_k"]
theorem Hch:NmF Sch N_ch:=KR (by decide +kernel)
noncomputable def HC:SM:=
 Z5 3 (ZW VZ (UX (Ka UH (Zd (K2 (K0 (UX (UU 0) (UX (UU 1) (UV))))) 1 (gN 5) (ZF (oIB λi j=>decide (i<j)) 4 (U1 Zi (Zp 5) (U2 (.int 1)))) (Kb 5 (UU 4)))) (UV)))
noncomputable def TR:SM:=
 U0 (Kg 2 (U1 Zi (ZW SY (UX (Zp 0) (UX (Zp 1) (UV)))) (U2 (.int 1))))
 (U0 (ZC 3 (Kq (UV) λxs=>if xs.length<=1000000 then U2 xs else λ_=>.bad))
 (U0 (K3 (XE (UX (UU 2) (UV))) (gN 4) HC)
 (Kc (U1 Ke (UU 3) (K0 (UX (U1 Ke (Kb 0 (Z7 (U2 (.int 1)))) (Kb 1 (Z7 (U2 (.int 1))))) (UV)))))))
noncomputable def Vr:zw->zx:=Kh N_ch TR
noncomputable abbrev San:Stmt:=top 25
noncomputable abbrev N_an:List Str:=["one_wishes", "one", "other", "things"]
theorem Han:NmF San N_an:=KR (by decide +kernel)
noncomputable def Sw:SM:=
 U0 (YD (U4 1 Zy (UX (UU 0) (UV))))
 (U0 (Kg 3 (ZW Kp (UX (Kb 0 (U2 (.int 0))) (UV))))
 (Kc (U1 Ke (UU 1) (Ka UH (Zd (K2 (UU 2)) 1 (gN 4) (U2 zq) (mIf (Ka isNon (UU 4)) (U2 .none) (U1 Ke (UU 3) (UU 4))))))))
noncomputable def WH:zw->zx:=Kh N_an Sw
noncomputable abbrev Sbr:Stmt:=top 62
noncomputable abbrev N_br:List Str:=["wishes", "worths", "dealing", "prices"]
theorem Hbr:NmF Sbr N_br:=KR (by decide +kernel)
noncomputable def g_br:SM:=
 U0 (Kg 3 (U4 3 X0 (UX (UU 0) (UX (UU 1) (UX (UU 2) (UV))))))
 (Kc (KI (UX (U2 (.int 1)) (UX (U4 3 XZ (UX (ZW Kp (UX (Kb 0 (U2 (.int 1))) (UV))) (UX (UU 1) (UX (UU 3) (UV))))) (UX (UU 3) (UV))))))
noncomputable def Vy:zw->zx:=Kh N_br g_br
noncomputable abbrev Sbs:Stmt:=top 64
noncomputable abbrev N_bs:List Str:=["wishes", "aim", "worths", "dealing"]
theorem Hbs:NmF Sbs N_bs:=KR (by decide +kernel)
noncomputable def g_bs:SM:=
 U0 (Kg 2 (U4 2 Y3 (UX (UU 0) (UX (UU 1) (UV)))))
 (U0 (Kg 3 (U4 2 X1 (UX (UU 0) (UX (UU 2) (UV)))))
 (Kc (KI (UX (UU 3) (UX (U4 3 Vy (UX (UU 0) (UX (UU 2) (UX (UU 3) (UV))))) (UV))))))
noncomputable def Xp:zw->zx:=Kh N_bs g_bs
noncomputable abbrev Sai:Stmt:=top 19
noncomputable abbrev N_ai:List Str:=["wishes", "copies", "lists"]
theorem Hai:NmF Sai N_ai:=KR (by decide +kernel)
noncomputable def Sz:SM:=
 U0 (Zh (UU 0) (gT 2 (gNC (gN 1) (gNC (gN 2) (gN0)))))
 (Kc (KI (UX (Ka UH (WY 1)) (UX (Ka UH (Zd (K2 (UU 2)) 1 (gN 3) (U2 zq) (Ka UH (Zd (K2 (UU 3)) 1 (gN 4) (U2 zq) (Ka UH (WY 4)))))) (UV)))))
noncomputable def VO:zw->zx:=Kh N_ai Sz
noncomputable abbrev Sam:Stmt:=top 24
noncomputable abbrev N_am:List Str:=["one", "other", "copies", "lists", "other_copies", "other_lists", "behind", "told"]
theorem Ham:NmF Sam N_am:=KR (by decide +kernel)
noncomputable def Sx:SM:=
 U0 (YD (U4 1 Zy (UX (UU 0) (UV))))
 (U0 (YD (U4 1 Zy (UX (UU 1) (UV))))
 (U0 (Zh (UU 0) (gT 2 (gNC (gN 2) (gNC (gN 3) (gN0)))))
 (U0 (Zh (UU 1) (gT 2 (gNC (gN 4) (gNC (gN 5) (gN0)))))
 (U0 (ZC 6 (Zd (K2 (UU 5)) 1 (gN 8) (U2 zq) (Ka UH (Zd (K2 (UU 8)) 1 (gN 9) (U2 zq) (Ka UH (Zd (K2 (UU 9)) 1 (gN 10) (U2 zq) (U1 Ke (Zp 2) (UU 10))))))))
 (U0 (Kg 7 (KI (UX (U1 Ke (UU 2) (UU 4)) (UX (U1 Ke (UU 3) (UU 6)) (UV)))))
 (U0 (RT "NoWishes" (YD (U4 1 Zy (UX (UU 7) (UV)))) (Wo))
 (Kc (U4 1 VO (UX (UU 7) (UV))))))))))
noncomputable def VM:zw->zx:=Kh N_am Sx
noncomputable abbrev Scf:Stmt:=top 81
noncomputable abbrev N_cf:List Str:=["_law_cell", "_law_salt", "_law_sizes", "_law_number", "_law_left", "_law_found", "_law_k", "_law_one"]
theorem Hcf:NmF Scf N_cf:=KR (by decide +kernel)
noncomputable def N7:SM:=
 sIf (ZU (ZF (oIB λi j=>decide (j<=i)) 3 (U1 Vh (U2 (.int 10)) (U2 (.int 18)))) (ZF (oIB λi j=>decide (j<i)) 4 (U2 (.int 0))))
 (U0 (Z5 5 (U1 YZ (UU 4) (Kb 2 (UU 6))))
 (Kg 4 (U1 Wv (UU 4) (Kb 2 (UU 6)))))
 (U0 (Kg 7 (U1 YZ (U1 Ke (U1 Ke (U1 Ke (UU 3) (U1 KZ (U2 (.int 7919)) (UU 1))) (U1 KZ (U1 KZ (U2 (.int 101)) (UU 6)) (UU 6))) (UU 6)) (U2 (.int 2147483647))))
 (U0 (Kg 7 (U1 YZ (U1 KZ (UU 7) (U2 (.int 48271))) (U2 (.int 2147483647))))
 (U0 (Kg 7 (U1 YZ (U1 KZ (U1 YZ (U1 KZ (UU 7) (UU 7)) (U2 (.int 2147483629))) (U2 (.int 48271))) (U2 (.int 2147483647))))
 (Z5 5 (U1 YZ (U1 Wv (UU 7) (U2 (.int 16))) (Kb 2 (UU 6)))))))
noncomputable def g_cf:SM:=
 U0 (Kg 3 (ZW SY (UX (UU 0) (UX (U1 Zi (Z7 (U2 (.int 1))) (UU 0)) (UV)))))
 (U0 (Kg 4 (UU 3))
 (U0 (ZC 5 (Kq (UV) λxs=>if xs.length<=1000000 then U2 xs else λ_=>.bad))
 (U0 (K3 (XE (UX (Zp 2) (UV))) (gN 6) N7)
 (Kc (UU 5)))))
noncomputable def WA:zw->zx:=Kh N_cf g_cf
noncomputable abbrev Sce:Stmt:=top 80
noncomputable abbrev N_ce:List Str:=["_law_script", "_law_k"]
theorem Hce:NmF Sce N_ce:=KR (by decide +kernel)
noncomputable def g_ce:SM:=
 U0 (sIf (ZF (oIB λi j=>decide (i<j)) 1 (Zp 0))
 (Kc (Kb 0 (UU 1)))
 (sNx))
 (Kc (U2 (.int 0)))
noncomputable def WB:zw->zx:=Kh N_ce g_ce
noncomputable abbrev Scg:Stmt:=top 82
noncomputable abbrev N_cg:List Str:=["_law_script", "_law_at", "_law_most_things", "_law_most_askers", "_law_most_ranks", "_law_digits", "_law_copies", "_law_lists", "_law_asker", "_law_cell", "_law_places", "_law_ranks", "_law_rank", "_law_row"]
theorem Hcg:NmF Scg N_cg:=KR (by decide +kernel)
noncomputable def N6:SM:=
 U0 (ZC 13 (Zd (XE (UX (Zp 6) (UV))) 1 (gN 14) (U1 oEq (Kb 10 (UU 14)) (UU 12)) (UU 14)))
 (sIf (ZF oNe 13 (K0 (UV)))
 (Z5 11 (U1 oIx (K0 (UX (UU 13) (UX (SI (UU 13) (U2 zp) (U2 zp) (Kq (Z7 (U2 (.int 1))) λx=>Ku (WM x))) (UV)))) (Kb 10 (Z7 (U2 (.int 1))))))
 (sNx))
noncomputable def NR:SM:=
 U0 (Kg 9 (U4 2 WB (UX (UU 0) (UX (U1 Ke (U1 Ke (UU 1) (U2 (.int 1))) (UU 8)) (UV)))))
 (U0 (Kg 10 (U4 3 WA (UX (UU 9) (UX (U1 Ke (U1 Ke (U1 KZ (U2 (.int 11)) (UU 1)) (U1 KZ (U2 (.int 3)) (UU 8))) (U2 (.int 1))) (UX (U1 Ke (U1 KZ (K0 (UX (U1 Ke (UU 4) (U2 (.int 1))) (UV))) (UU 2)) (K0 (UX (U2 (.int 2)) (UV)))) (UV))))))
 (U0 (ZC 11 (Kq (UV) λxs=>if xs.length<=1000000 then U2 xs else λ_=>.bad))
 (U0 (K3 (PF (UX (U2 (.int 1)) (UX (U1 Ke (UU 4) (U2 (.int 1))) (UV)))) (gN 12) N6)
 (Z5 7 (UU 11)))))
noncomputable def TU:SM:=
 U0 (Kg 5 (U4 3 WA (UX (U4 2 WB (UX (UU 0) (UX (UU 1) (UV)))) (UX (UU 1) (UX (U1 Ke (K0 (UX (UU 2) (UX (UU 3) (UV)))) (U1 KZ (K0 (UX (U2 (.int 11)) (UV))) (UU 2))) (UV))))))
 (U0 (ZC 6 (Zd (K2 (Xn (UU 5) (Kq (U2 (.int 2)) λx=>Ku (WM x)) (Kq (U1 Ke (U2 (.int 3)) (Kb 5 (U2 (.int 0)))) λx=>Ku (WM x)))) 1 (gN 14) (U2 zq) (U1 oIx (K0 (UX (U2 (.int 1)) (UX (U2 (.int 1)) (UX (U2 (.int 2)) (UX (U2 (.int 0)) (UX (U2 (.int 3)) (UX (U2 (.int 7)) (UX (U2 (.int 1)) (UX (U2 (.int 4)) (UX (U2 (.int 5)) (UX (U2 (.int 6)) (UX (U2 (.int 1)) (UV))))))))))))) (UU 14))))
 (U0 (ZC 7 (Kq (UV) λxs=>if xs.length<=1000000 then U2 xs else λ_=>.bad))
 (U0 (K3 (XE (UX (U1 Ke (U2 (.int 1)) (Kb 5 (U2 (.int 1)))) (UV))) (gN 8) NR)
 (Kc (KI (UX (UU 6) (UX (UU 7) (UV))))))))
noncomputable def Wz:zw->zx:=Kh N_cg TU
noncomputable abbrev Scj:Stmt:=top 85
noncomputable abbrev N_cj:List Str:=["_law_script", "_law_one", "_law_other", "_law_both", "_law_order", "_law_aim", "_law_mine", "_law_yours", "_law_told", "_law_beside", "_law_due"]
theorem Hcj:NmF Scj N_cj:=KR (by decide +kernel)
noncomputable def Gh:SM:=
 U0 (Kg 5 (KI (UX (UU 4) (UX (U2 .none) (UX (K0 (UV)) (UV))))))
 (U0 (Kg 6 (U1 oIx (U4 2 Xp (UX (UU 1) (UX (UU 5) (UV)))) (U2 (.int 0))))
 (U0 (Kg 7 (U1 oIx (U4 2 Xp (UX (UU 2) (UX (UU 5) (UV)))) (U2 (.int 0))))
 (U0 (Kg 8 (U1 oIx (U4 2 Xp (UX (UU 3) (UX (UU 5) (UV)))) (U2 (.int 0))))
 (U0 (Kg 9 (U4 3 WH (UX (UU 1) (UX (UU 6) (UX (UU 7) (UV))))))
 (U0 (Kg 10 (U4 2 Vr (UX (U4 2 YK (UX (UU 1) (UX (UU 6) (UV)))) (UX (U4 2 YK (UX (UU 2) (UX (UU 7) (UV)))) (UV)))))
 (U0 (sIf (mOr (U1 oNe (U4 2 YK (UX (UU 3) (UX (UU 8) (UV)))) (UU 10)) (U1 oNe (U4 2 YK (UX (UU 3) (UX (UU 9) (UV)))) (UU 10)))
 (Kc (U2 (.bool zr)))
 (sNx))
 (U0 (sIf (U1 oNe (U4 3 WG (UX (UU 3) (UX (UU 5) (UX (UU 9) (UV))))) (U4 3 WG (UX (UU 3) (UX (UU 5) (UX (UU 8) (UV))))))
 (Kc (U2 (.bool zr)))
 (sNx))
 (U0 (sIf (U1 oNe (U4 3 WF (UX (UU 3) (UX (UU 5) (UX (UU 9) (UV))))) (U4 3 WF (UX (UU 3) (UX (UU 5) (UX (UU 8) (UV))))))
 (Kc (U2 (.bool zr)))
 (sNx))
 (sIf (Za (Ys (U4 4 Vq (UX (UU 1) (UX (UU 2) (UX (UU 3) (UX (UU 5) (UV))))))))
 (Kc (U2 (.bool zr)))
 (sNx))))))))))
noncomputable def TN:SM:=
 U0 (Kg 1 (U4 5 Wz (UX (UU 0) (UX (U2 (.int 0)) (UX (U2 (.int 2)) (UX (U2 (.int 3)) (UX (U2 (.int 3)) (UV))))))))
 (U0 (Kg 2 (U4 5 Wz (UX (UU 0) (UX (U2 (.int 5)) (UX (U2 (.int 3)) (UX (U2 (.int 3)) (UX (U2 (.int 4)) (UV))))))))
 (U0 (Kg 3 (U4 2 VM (UX (UU 1) (UX (UU 2) (UV)))))
 (U0 (K3 (K2 (K0 (UX (U2 (.str "firsts")) (UX (U2 (.str "full")) (UX (U2 (.str "lasts")) (UV)))))) (gN 4) Gh)
 (Kc (U2 (.bool zq))))))
noncomputable def Vp:zw->zx:=Kh N_cj TN
set_option hygiene false in
local macro_rules | `(tactic| walk_at "g")=>`(tactic| first | exact gA nm rfl | exact Bw rfl)
set_option hygiene false in
local macro_rules | `(tactic| walk_at "v")=>`(tactic| first | exact pq nm _ | exact pvb _)
set_option hygiene false in
local macro_rules | `(tactic| walk_at "b")=>`(tactic| first | ((with_reducible show OpB _ (compareOp CmpOp.Eq) _);first | exact B_eq hu) | ((with_reducible show OpB _ (compareOp CmpOp.NotEq) _);first | exact B_ne hu) | ((with_reducible show OpB _ (compareOp CmpOp.Lt) _);first | exact B_lt) | ((with_reducible show OpB _ (compareOp CmpOp.LtE) _);first | exact B_le) | ((with_reducible show OpB _ (compareOp CmpOp.Gt) _);first | exact B_gt) | ((with_reducible show OpB _ (compareOp CmpOp.GtE) _);first | exact B_ge) | ((with_reducible show OpB _ (compareOp CmpOp.In) _);first | exact B_in hu | exact D2 hu) | ((with_reducible show OpB _ (compareOp CmpOp.NotIn) _);first | exact DB hu))
set_option hygiene false in
local macro_rules | `(tactic| walk_at "m")=>`(tactic| first | exact NA _ | exact rfl)
set_option hygiene false in
local macro_rules | `(tactic| walk_at "k")=>`(tactic| first | exact Fw | exact vf | exact ve | exact vd)
set_option hygiene false in
local macro_rules | `(tactic| walk_at "w")=>`(tactic| first | exact PassesOwn.never)
set_option hygiene false in
local macro_rules | `(tactic| walk_at "x")=>`(tactic| first | assumption | exact wants_cx)
set_option hygiene false in
local macro_rules | `(tactic| walk_at "c")=>`(tactic| first | exact T.c_MOST_ASKERS | exact T.c_MOST_COPIES | exact T.c_MOST_RANKS | exact T.c_MOST_THINGS | exact T.c_ORDERS)
set_option hygiene false in
local macro_rules | `(tactic| walk_at "ck")=>`(tactic| first | exact T.x_NoWishes)
section
variable{P:Ux}{w:World}{K:Frag}{mg:Str->zB}{base:Heap}{f:Uy}{fd:Uz}(T:Txt K mg)
include T
theorem Kbg(bc:Def P w K mg base "place_of" 1 2 WE)(F:Fun K "steps_of_askers" "steps_of_askers" Sbg f fd):FnOk P w K mg base CX0 2 f fd ["nothing", "worths", "dealing"] (spD K 3 VD):=
 okD (k:=1) (g:=Sf) F (fq Hbg 3) zo λcdv A outer s H E B G0 hr=>
 have hu:=hr.units;have hgd:=hr.gd
 (Ry (Gv (i:=3) (nq Hbg) zo (lq Hbg 3) (GB (NV (XA LS RA)) (Fy (gq Hbg 2) T.b_len (pq Hbg 2))))
 (Ry (Nt UO zo (Nr (Ye (pq Hbg 1))) (P6 zo (W5 (WQ (WR (i:=4) (nq Hbg) zo (lq Hbg 4))) (W5 (WQ (WR (i:=5) (nq Hbg) zo (lq Hbg 5))) (W5 (WQ (WR (i:=6) (nq Hbg) zo (lq Hbg 6))) P7))))
 (Ri (Ng (NW (B_eq hu) (Rz (pq Hbg 2) (Ye (pq Hbg 4)) (λ_ _=>rfl)) (Ye (pq Hbg 5)) (NA _))
 (Ri (Gp (Ye (pq Hbg 6)) (pq Hbg 3) (Ye (pq Hbg 4))))
 Nu)))
 (Ry (D3 (j:=7) (ZR Sbg) SK ["nothing", "worths", "dealing", "had", ".asker", "thing", "worth", "told", "asker", "got"] 2 Fw (nq Hbg) zo zo zo (λB' G'=>(Gs (gq Hbg 1) T.b_enumerate (XA (Ye (pq Hbg 2)) RA))) (λcl C s0 H0 ex=>⟨λB' G'=>(P6 zo (W5 (WQ (WR (i:=8) (show(["nothing", "worths", "dealing", "had", ".asker", "thing", "worth", "told", "asker", "got"]:List Str).Nodup by decide +kernel) zo (Rx zo).1 (Rx zo).2)) (W5 (WQ (WR (i:=9) (show(["nothing", "worths", "dealing", "had", ".asker", "thing", "worth", "told", "asker", "got"]:List Str).Nodup by decide +kernel) zo (Rx zo).1 (Rx zo).2)) P7))),λB' G'=>(Gq (Fz (Ye (pvb 9)))),(F6 zo zo zo λB' G'=>(Om (XA (Ye (pvb 9)) (XA (Ye (pvb 0)) (XA (Gr (Rz (pvb 3) (Ye (pvb 8)) (λ_ _=>rfl))) (XA (Ye (pvb 8)) RA))))))⟩) zo zo (by decide +kernel))
 (Ry (Nt UO zo (Nr (Ye (pq Hbg 1))) (P6 zo (W5 (WQ (WR (i:=4) (nq Hbg) zo (lq Hbg 4))) (W5 (WQ (WR (i:=5) (nq Hbg) zo (lq Hbg 5))) (W5 (WQ (WR (i:=6) (nq Hbg) zo (lq Hbg 6))) P7))))
 (Ri (Ng (NW (B_ne hu) (Rz (pq Hbg 2) (Ye (pq Hbg 4)) (λ_ _=>rfl)) (Ye (pq Hbg 5)) (NA _))
 (Ri (Hk (pq Hbg 7) (Om (XA (pdf bc hr (gq Hbg 0) (XA (Ye (pq Hbg 0)) (XA (Rz (pq Hbg 2) (Ye (pq Hbg 4)) (λ_ _=>rfl)) RA))) (XA (Ye (pq Hbg 5)) (XA (VW LC (Ye (pq Hbg 6)) (Rz (pq Hbg 3) (Ye (pq Hbg 4)) (λ_ _=>rfl))) (XA (Ye (pq Hbg 4)) RA)))))))
 Nu)))
 (Ri (Hl (Ye (pq Hbg 7))))))))
end
theorem oks:((∀{P w K mg base f fd}(T:Txt K mg)(_:Fun K "above_nought" "above_nought" Sab f fd),FnOk P w K mg base CX0 1 f fd ["numbers"] (spD K 1 X6)) /\
 (∀{P w K mg base f fd}(T:Txt K mg)(_:Def P w K mg base "above_nought" 1 1 X6)(_:Fun K "full" "full" Scd f fd),FnOk P w K mg base CX0 2 f fd ["web"] (spD K 1 XU)) /\
 (∀{P w K mg base f fd}(T:Txt K mg)(_:Def P w K mg base "above_nought" 1 1 X6)(_:Fun K "served" "served" Scc f fd),FnOk P w K mg base CX0 2 f fd ["web"] (spD K 1 XV)) /\
 (∀{P w K mg base f fd}(T:Txt K mg)(_:Fun K "is_whole" "is_whole" Saa f fd),FnOk P w K mg base CX0 1 f fd ["thing"] (spD K 1 VS)) /\
 (∀{P w K mg base f fd}(T:Txt K mg)(_:Def P w K mg base "is_whole" 1 1 VS)(_:Fun K "is_number_below" "is_number_below" Sac f fd),FnOk P w K mg base CX0 2 f fd ["thing", "many"] (spD K 2 Z1)) /\
 (∀{P w K mg base f fd}(T:Txt K mg)(_:Def P w K mg base "is_number_below" 2 2 Z1)(_:Fun K "is_rank" "is_rank" Sae f fd),FnOk P w K mg base CX0 3 f fd ["thing", "things"] (spD K 2 WI)) /\
 (∀{P w K mg base f fd}(T:Txt K mg)(_:Def P w K mg base "is_rank" 3 2 WI)(_:Fun K "is_asker_list" "is_asker_list" Saf f fd),FnOk P w K mg base CX0 4 f fd ["thing", "things"] (spD K 2 VQ)) /\
 (∀{P w K mg base f fd}(T:Txt K mg)(_:Def P w K mg base "is_asker_list" 4 2 VQ)(_:Fun K "look_at_lists" "look_at_lists" Sag f fd),FnOk P w K mg base CX0 5 f fd ["lists", "things"] (spD K 2 VP))) /\
 ((∀{P w K mg base f fd}(T:Txt K mg)(_:Def P w K mg base "is_number_below" 2 2 Z1)(_:Fun K "look_at_copies" "look_at_copies" Sad f fd),FnOk P w K mg base CX0 3 f fd ["copies"] (spD K 1 VR)) /\
 (∀{P w K mg base f fd}(T:Txt K mg)(_:Def P w K mg base "look_at_lists" 5 2 VP)(_:Def P w K mg base "look_at_copies" 3 1 VR)(_:Fun K "look_at_wishes" "look_at_wishes" Sah f fd),FnOk P w K mg base CX0 6 f fd ["thing"] (spD K 1 Zy)) /\
 (∀{P w K mg base f fd}(T:Txt K mg)(_:Def P w K mg base "look_at_wishes" 6 1 Zy)(_:Fun K "all_wishes" "all_wishes" Sal f fd),FnOk P w K mg base CX0 7 f fd ["wishes"] (spD K 1 VN)) /\
 (∀{P w K mg base f fd}(T:Txt K mg)(_:Fun K "power" "power" Say f fd),FnOk P w K mg base CX0 1 f fd ["base", "times"] (spD K 2 ZM)) /\
 (∀{P w K mg base f fd}(T:Txt K mg)(_:Def P w K mg base "power" 1 2 ZM)(_:Fun K "worth_by_turns" "worth_by_turns" Sba f fd),FnOk P w K mg base CX0 2 f fd ["turns", "base", "asker", "rank"] (spD K 4 VE)) /\
 (∀{P w K mg base f fd}(T:Txt K mg)(_:Def P w K mg base "power" 1 2 ZM)(_:Fun K "worth_by_order" "worth_by_order" Saz f fd),FnOk P w K mg base CX0 2 f fd ["order", "base", "most", "rank"] (spD K 4 VF)) /\
 (∀{P w K mg base f fd}(T:Txt K mg)(_:Fun K "rank_in" "rank_in" Saj f fd),FnOk P w K mg base CX0 1 f fd ["ranks", "thing"] (spD K 2 YL)) /\
 (∀{P w K mg base f fd}(T:Txt K mg)(_:Def P w K mg base "power" 1 2 ZM)(_:Def P w K mg base "worth_by_turns" 2 4 VE)(_:Def P w K mg base "worth_by_order" 2 4 VF)(_:Def P w K mg base "rank_in" 1 2 YL)(_:Fun K "worth_by_aim" "worth_by_aim" Sbb f fd),FnOk P w K mg base CX0 3 f fd ["wishes", "aim", "most", "asker", "thing"] (spD K 5 Y4))) /\
 ((∀{P w K mg base f fd}(T:Txt K mg)(_:Def P w K mg base "look_at_wishes" 6 1 Zy)(_:Fun K "longest" "longest" Sak f fd),FnOk P w K mg base CX0 7 f fd ["wishes"] (spD K 1 Y5)) /\
 (∀{P w K mg base f fd}(T:Txt K mg)(_:Def P w K mg base "is_number_below" 2 2 Z1)(_:Fun K "is_turns" "is_turns" Sau f fd),FnOk P w K mg base CX0 3 f fd ["thing", "askers"] (spD K 2 VG)) /\
 (∀{P w K mg base f fd}(T:Txt K mg)(_:Def P w K mg base "is_number_below" 2 2 Z1)(_:Fun K "is_old" "is_old" Sat f fd),FnOk P w K mg base CX0 3 f fd ["thing", "askers", "things"] (spD K 3 VH)) /\
 (∀{P w K mg base f fd}(T:Txt K mg)(_:Fun K "is_order" "is_order" Sar f fd),FnOk P w K mg base CX0 1 f fd ["thing"] (spD K 1 VJ)) /\
 (∀{P w K mg base f fd}(T:Txt K mg)(_:Def P w K mg base "is_order" 1 1 VJ)(_:Fun K "look_at_order" "look_at_order" Sas f fd),FnOk P w K mg base CX0 2 f fd ["thing"] (spD K 1 VI)) /\
 (∀{P w K mg base f fd}(T:Txt K mg)(_:Def P w K mg base "is_turns" 3 2 VG)(_:Def P w K mg base "is_old" 3 3 VH)(_:Def P w K mg base "look_at_order" 2 1 VI)(_:Def P w K mg base "look_at_wishes" 6 1 Zy)(_:Fun K "look_at_aim" "look_at_aim" Sav f fd),FnOk P w K mg base CX0 7 f fd ["wishes", "thing"] (spD K 2 YA)) /\
 (∀{P w K mg base f fd}(T:Txt K mg)(_:Def P w K mg base "all_wishes" 7 1 VN)(_:Def P w K mg base "worth_by_aim" 3 5 Y4)(_:Def P w K mg base "longest" 7 1 Y5)(_:Def P w K mg base "look_at_aim" 7 2 YA)(_:Fun K "all_worths" "all_worths" Sbc f fd),FnOk P w K mg base CX0 8 f fd ["wishes", "aim"] (spD K 2 Y3)) /\
 (∀{P w K mg base f fd}(T:Txt K mg)(_:Def P w K mg base "all_worths" 8 2 Y3)(_:Fun K "tight_wishes" "tight_wishes" Sbz f fd),FnOk P w K mg base CX0 9 f fd ["wishes", "aim", "paper"] (spD K 3 Vs))) /\
 ((∀{P w K mg base f fd}(T:Txt K mg)(_:Def P w K mg base "tight_wishes" 9 3 Vs)(_:Def P w K mg base "look_at_aim" 7 2 YA)(_:Fun K "possible" "possible" Scb f fd),FnOk P w K mg base CX0 10 f fd ["wishes", "aim", "web"] (spD K 3 XX)) /\
 (∀{P w K mg base f fd}(T:Txt K mg)(_:Fun K "way_round" "way_round" Sbm f fd),FnOk P w K mg base CX0 1 f fd ["nothing", "steps"] (spD K 2 Xq)) /\
 (∀{P w K mg base f fd}(T:Txt K mg)(_:Fun K "behind_way" "behind_way" Sbe f fd),FnOk P w K mg base CX0 1 f fd ["dealing", "way"] (spD K 2 X3)) /\
 (∀{P w K mg base f fd}(T:Txt K mg)(_:Def P w K mg base "way_round" 1 2 Xq)(_:Def P w K mg base "behind_way" 1 2 X3)(_:Fun K "shown_by_rounds" "shown_by_rounds" Sby f fd),FnOk P w K mg base CX0 2 f fd ["dealing", "steps", "roads"] (spD K 3 WC)) /\
 (∀{P w K mg base f fd}(T:Txt K mg)(_:Fun K "asks_beyond" "asks_beyond" Sbq f fd),FnOk P w K mg base CX0 1 f fd ["askers", "worths", "prices"] (spD K 3 XZ)) /\
 (∀{P w K mg base f fd}(T:Txt K mg)(_:Fun K "strict_prices" "strict_prices" Sbw f fd),FnOk P w K mg base CX0 1 f fd ["prices", "roads"] (spD K 2 Vu)) /\
 (∀{P w K mg base f fd}(T:Txt K mg)(_:Def P w K mg base "asks_beyond" 1 3 XZ)(_:Def P w K mg base "strict_prices" 1 2 Vu)(_:Fun K "strict_paper" "strict_paper" Sbx f fd),FnOk P w K mg base CX0 2 f fd ["askers", "worths", "prices", "roads"] (spD K 4 Vt)) /\
 (∀{P w K mg base f fd}(T:Txt K mg)(_:Fun K "roads_from" "roads_from" Sbu f fd),FnOk P w K mg base CX0 1 f fd ["place", "places", "steps"] (spD K 3 Vw))) /\
 ((∀{P w K mg base f fd}(T:Txt K mg)(_:Def P w K mg base "roads_from" 1 3 Vw)(_:Fun K "all_roads" "all_roads" Sbv f fd),FnOk P w K mg base CX0 2 f fd ["places", "steps"] (spD K 2 Vv)) /\
 (∀{P w K mg base f fd}(T:Txt K mg)(_:Fun K "place_of" "place_of" Sbf f fd),FnOk P w K mg base CX0 1 f fd ["nothing", "got"] (spD K 2 WE)) /\
 (∀{P w K mg base f fd}(T:Txt K mg)(_:Def P w K mg base "look_at_wishes" 6 1 Zy)(_:Fun K "copies_left" "copies_left" Saq f fd),FnOk P w K mg base CX0 7 f fd ["wishes", "dealing"] (spD K 2 VL)) /\
 (∀{P w K mg base f fd}(T:Txt K mg)(_:Def P w K mg base "copies_left" 7 2 VL)(_:Fun K "steps_of_copies" "steps_of_copies" Sbh f fd),FnOk P w K mg base CX0 8 f fd ["wishes", "dealing"] (spD K 2 VC)) /\
 (∀{P w K mg base f fd}(T:Txt K mg)(_:Def P w K mg base "steps_of_askers" 2 3 VD)(_:Def P w K mg base "steps_of_copies" 8 2 VC)(_:Fun K "all_steps" "all_steps" Sbi f fd),FnOk P w K mg base CX0 9 f fd ["wishes", "worths", "dealing"] (spD K 3 Yz)) /\
 (∀{P w K mg base f fd}(T:Txt K mg)(_:Fun K "tight_steps" "tight_steps" Sbt f fd),FnOk P w K mg base CX0 1 f fd ["steps", "prices"] (spD K 2 Vx)) /\
 (∀{P w K mg base f fd}(T:Txt K mg)(_:Fun K "longer_walks" "longer_walks" Sbj f fd),FnOk P w K mg base CX0 1 f fd ["walks", "steps"] (spD K 2 VA)) /\
 (∀{P w K mg base f fd}(T:Txt K mg)(_:Def P w K mg base "longer_walks" 1 2 VA)(_:Fun K "widest_walks" "widest_walks" Sbk f fd),FnOk P w K mg base CX0 2 f fd ["places", "steps"] (spD K 2 X2))) /\
 ((∀{P w K mg base f fd}(T:Txt K mg)(_:Def P w K mg base "all_steps" 9 3 Yz)(_:Def P w K mg base "widest_walks" 2 2 X2)(_:Fun K "prices_for" "prices_for" Sbp f fd),FnOk P w K mg base CX0 10 f fd ["wishes", "worths", "dealing"] (spD K 3 X0)) /\
 (∀{P w K mg base f fd}(T:Txt K mg)(_:Fun K "round_within" "round_within" Sbl f fd),FnOk P w K mg base CX0 1 f fd ["walk"] (spD K 1 Vz)) /\
 (∀{P w K mg base f fd}(T:Txt K mg)(_:Def P w K mg base "all_steps" 9 3 Yz)(_:Def P w K mg base "widest_walks" 2 2 X2)(_:Def P w K mg base "round_within" 1 1 Vz)(_:Def P w K mg base "way_round" 1 2 Xq)(_:Fun K "gaining_way" "gaining_way" Sbn f fd),FnOk P w K mg base CX0 10 f fd ["wishes", "worths", "dealing"] (spD K 3 WD)) /\
 (∀{P w K mg base f fd}(T:Txt K mg)(_:Def P w K mg base "gaining_way" 10 3 WD)(_:Def P w K mg base "behind_way" 1 2 X3)(_:Fun K "best_by" "best_by" Sbo f fd),FnOk P w K mg base CX0 11 f fd ["wishes", "worths"] (spD K 2 X1)) /\
 (∀{P w K mg base f fd}(T:Txt K mg)(_:Def P w K mg base "shown_by_rounds" 2 3 WC)(_:Def P w K mg base "strict_paper" 2 4 Vt)(_:Def P w K mg base "all_roads" 2 2 Vv)(_:Def P w K mg base "all_steps" 9 3 Yz)(_:Def P w K mg base "tight_steps" 1 2 Vx)(_:Def P w K mg base "prices_for" 10 3 X0)(_:Def P w K mg base "best_by" 11 2 X1)(_:Def P w K mg base "all_worths" 8 2 Y3)(_:Fun K "web_of" "web_of" Sca f fd),FnOk P w K mg base CX0 12 f fd ["wishes", "aim"] (spD K 2 XY)) /\
 (∀{P w K mg base f fd}(T:Txt K mg)(_:Def P w K mg base "full" 2 1 XU)(_:Def P w K mg base "served" 2 1 XV)(_:Def P w K mg base "possible" 10 3 XX)(_:Def P w K mg base "web_of" 12 2 XY)(_:Fun K "_law_webs" "_law_webs" Sci f fd),FnOk P w K mg base CX0 13 f fd ["_law_one", "_law_other", "_law_both", "_law_aim"] (spD K 4 Vq)) /\
 (∀{P w K mg base f fd}(T:Txt K mg)(_:Def P w K mg base "worth_by_aim" 3 5 Y4)(_:Def P w K mg base "longest" 7 1 Y5)(_:Def P w K mg base "look_at_aim" 7 2 YA)(_:Fun K "worth_of" "worth_of" Sbd f fd),FnOk P w K mg base CX0 8 f fd ["wishes", "aim", "dealing"] (spD K 3 WF)) /\
 (∀{P w K mg base f fd}(T:Txt K mg)(_:Fun K "how_many_kept" "how_many_kept" Saw f fd),FnOk P w K mg base CX0 1 f fd ["old", "dealing"] (spD K 2 X4))) /\
 ((∀{P w K mg base f fd}(T:Txt K mg)(_:Def P w K mg base "rank_in" 1 2 YL)(_:Def P w K mg base "look_at_wishes" 6 1 Zy)(_:Fun K "ranks_got" "ranks_got" Sao f fd),FnOk P w K mg base CX0 7 f fd ["wishes", "dealing"] (spD K 2 X5)) /\
 (∀{P w K mg base f fd}(T:Txt K mg)(_:Def P w K mg base "longest" 7 1 Y5)(_:Def P w K mg base "ranks_got" 7 2 X5)(_:Fun K "counts_of" "counts_of" Sap f fd),FnOk P w K mg base CX0 8 f fd ["wishes", "dealing"] (spD K 2 YK)) /\
 (∀{P w K mg base f fd}(T:Txt K mg)(_:Def P w K mg base "how_many_kept" 1 2 X4)(_:Def P w K mg base "counts_of" 8 2 YK)(_:Def P w K mg base "ranks_got" 7 2 X5)(_:Def P w K mg base "look_at_aim" 7 2 YA)(_:Fun K "score_of" "score_of" Sax f fd),FnOk P w K mg base CX0 9 f fd ["wishes", "aim", "dealing"] (spD K 3 WG)) /\
 (∀{P w K mg base f fd}(T:Txt K mg)(_:Fun K "_law_together" "_law_together" Sch f fd),FnOk P w K mg base CX0 1 f fd ["_law_one", "_law_other"] (spD K 2 Vr)) /\
 (∀{P w K mg base f fd}(T:Txt K mg)(_:Def P w K mg base "look_at_wishes" 6 1 Zy)(_:Fun K "dealings_beside" "dealings_beside" San f fd),FnOk P w K mg base CX0 7 f fd ["one_wishes", "one", "other"] (spD K 3 WH)) /\
 (∀{P w K mg base f fd}(T:Txt K mg)(_:Def P w K mg base "asks_beyond" 1 3 XZ)(_:Def P w K mg base "prices_for" 10 3 X0)(_:Fun K "paper_for" "paper_for" Sbr f fd),FnOk P w K mg base CX0 11 f fd ["wishes", "worths", "dealing"] (spD K 3 Vy)) /\
 (∀{P w K mg base f fd}(T:Txt K mg)(_:Def P w K mg base "paper_for" 11 3 Vy)(_:Def P w K mg base "best_by" 11 2 X1)(_:Def P w K mg base "all_worths" 8 2 Y3)(_:Fun K "best_dealing" "best_dealing" Sbs f fd),FnOk P w K mg base CX0 12 f fd ["wishes", "aim"] (spD K 2 Xp)) /\
 (∀{P w K mg base f fd}(T:Txt K mg)(_:Fun K "copied_wishes" "copied_wishes" Sai f fd),FnOk P w K mg base CX0 1 f fd ["wishes"] (spD K 1 VO))) /\
 ((∀{P w K mg base f fd}(T:Txt K mg)(_:Def P w K mg base "copied_wishes" 1 1 VO)(_:Def P w K mg base "look_at_wishes" 6 1 Zy)(_:Fun K "wishes_beside" "wishes_beside" Sam f fd),FnOk P w K mg base CX0 7 f fd ["one", "other"] (spD K 2 VM)) /\
 (∀{P w K mg base f fd}(T:Txt K mg)(_:Fun K "_law_numbers" "_law_numbers" Scf f fd),FnOk P w K mg base CX0 1 f fd ["_law_cell", "_law_salt", "_law_sizes"] (spD K 3 WA)) /\
 (∀{P w K mg base f fd}(T:Txt K mg)(_:Fun K "_law_cell_at" "_law_cell_at" Sce f fd),FnOk P w K mg base CX0 1 f fd ["_law_script", "_law_k"] (spD K 2 WB)) /\
 (∀{P w K mg base f fd}(T:Txt K mg)(_:Def P w K mg base "_law_numbers" 1 3 WA)(_:Def P w K mg base "_law_cell_at" 1 2 WB)(_:Fun K "_law_wishes" "_law_wishes" Scg f fd),FnOk P w K mg base CX0 2 f fd ["_law_script", "_law_at", "_law_most_things", "_law_most_askers", "_law_most_ranks"] (spD K 5 Wz)) /\
 (∀{P w K mg base f fd}(T:Txt K mg)(_:Def P w K mg base "_law_webs" 13 4 Vq)(_:Def P w K mg base "worth_of" 8 3 WF)(_:Def P w K mg base "score_of" 9 3 WG)(_:Def P w K mg base "counts_of" 8 2 YK)(_:Def P w K mg base "_law_together" 1 2 Vr)(_:Def P w K mg base "dealings_beside" 7 3 WH)(_:Def P w K mg base "best_dealing" 12 2 Xp)(_:Def P w K mg base "wishes_beside" 7 2 VM)(_:Def P w K mg base "_law_wishes" 2 5 Wz)(_:Fun K "law" "law" Scj f fd),FnOk P w K mg base CX0 14 f fd ["_law_script"] (spD K 1 Vp))):=by
 refine⟨⟨λT F=>okD (k:=0) (g:=g_ab) F (fq Hab 1) zo λcdv A outer s H E B G0 hr=>have nm:=Hab;?_,
 λT _ F=>okD (k:=1) (g:=g_cd) F (fq Hcd 1) zo λcdv A outer s H E B G0 hr=>have nm:=Hcd;?_,
 λT _ F=>okD (k:=1) (g:=g_cc) F (fq Hcc 1) zo λcdv A outer s H E B G0 hr=>have nm:=Hcc;?_,
 λT F=>okD (k:=0) (g:=g_aa) F (fq Haa 1) zo λcdv A outer s H E B G0 hr=>have nm:=Haa;?_,
 λT _ F=>okD (k:=1) (g:=g_ac) F (fq Hac 2) zo λcdv A outer s H E B G0 hr=>have nm:=Hac;?_,
 λT _ F=>okD (k:=2) (g:=g_ae) F (fq Hae 2) zo λcdv A outer s H E B G0 hr=>have nm:=Hae;?_,
 λT _ F=>okD (k:=3) (g:=SB) F (fq Haf 2) zo λcdv A outer s H E B G0 hr=>have nm:=Haf;?_,
 λT _ F=>okD (k:=4) (g:=SA) F (fq Hag 2) zo λcdv A outer s H E B G0 hr=>have nm:=Hag;?_⟩,
 ⟨λT _ F=>okD (k:=2) (g:=SD) F (fq Had 1) zo λcdv A outer s H E B G0 hr=>have nm:=Had;?_,
 λT _ _ F=>okD (k:=5) (g:=g_ah) F (fq Hah 1) zo λcdv A outer s H E B G0 hr=>have nm:=Hah;?_,
 λT _ F=>okD (k:=6) (g:=Sy) F (fq Hal 1) zo λcdv A outer s H E B G0 hr=>have nm:=Hal;?_,
 λT F=>okD (k:=0) (g:=g_ay) F (fq Hay 2) zo λcdv A outer s H E B G0 hr=>have nm:=Hay;?_,
 λT _ F=>okD (k:=1) (g:=Sm) F (fq Hba 4) zo λcdv A outer s H E B G0 hr=>have nm:=Hba;?_,
 λT _ F=>okD (k:=1) (g:=Sn) F (fq Haz 4) zo λcdv A outer s H E B G0 hr=>have nm:=Haz;?_,
 λT F=>okD (k:=0) (g:=g_aj) F (fq Haj 2) zo λcdv A outer s H E B G0 hr=>have nm:=Haj;?_,
 λT _ _ _ _ F=>okD (k:=2) (g:=Sk) F (fq Hbb 5) zo λcdv A outer s H E B G0 hr=>have nm:=Hbb;?_⟩,
 ⟨λT _ F=>okD (k:=6) (g:=g_ak) F (fq Hak 1) zo λcdv A outer s H E B G0 hr=>have nm:=Hak;?_,
 λT _ F=>okD (k:=2) (g:=Sr) F (fq Hau 2) zo λcdv A outer s H E B G0 hr=>have nm:=Hau;?_,
 λT _ F=>okD (k:=2) (g:=Ss) F (fq Hat 3) zo λcdv A outer s H E B G0 hr=>have nm:=Hat;?_,
 λT F=>okD (k:=0) (g:=g_ar) F (fq Har 1) zo λcdv A outer s H E B G0 hr=>have nm:=Har;?_,
 λT _ F=>okD (k:=1) (g:=g_as) F (fq Has 1) zo λcdv A outer s H E B G0 hr=>have nm:=Has;?_,
 λT _ _ _ _ F=>okD (k:=6) (g:=Sq) F (fq Hav 2) zo λcdv A outer s H E B G0 hr=>have nm:=Hav;?_,
 λT _ _ _ _ F=>okD (k:=7) (g:=Sj) F (fq Hbc 2) zo λcdv A outer s H E B G0 hr=>have nm:=Hbc;?_,
 λT _ F=>okD (k:=8) (g:=TW) F (fq Hbz 3) zo λcdv A outer s H E B G0 hr=>have nm:=Hbz;?_⟩,
 ⟨λT _ _ F=>okD (k:=9) (g:=g_cb) F (fq Hcb 3) zo λcdv A outer s H E B G0 hr=>have nm:=Hcb;?_,
 λT F=>okD (k:=0) (g:=Sa) F (fq Hbm 2) zo λcdv A outer s H E B G0 hr=>have nm:=Hbm;?_,
 λT F=>okD (k:=0) (g:=Sg) F (fq Hbe 2) zo λcdv A outer s H E B G0 hr=>have nm:=Hbe;?_,
 λT _ _ F=>okD (k:=1) (g:=TX) F (fq Hby 3) zo λcdv A outer s H E B G0 hr=>have nm:=Hby;?_,
 λT F=>okD (k:=0) (g:=T6) F (fq Hbq 3) zo λcdv A outer s H E B G0 hr=>have nm:=Hbq;?_,
 λT F=>okD (k:=0) (g:=TZ) F (fq Hbw 2) zo λcdv A outer s H E B G0 hr=>have nm:=Hbw;?_,
 λT _ _ F=>okD (k:=1) (g:=TY) F (fq Hbx 4) zo λcdv A outer s H E B G0 hr=>have nm:=Hbx;?_,
 λT F=>okD (k:=0) (g:=T4) F (fq Hbu 3) zo λcdv A outer s H E B G0 hr=>have nm:=Hbu;?_⟩,
 ⟨λT _ F=>okD (k:=1) (g:=g_bv) F (fq Hbv 2) zo λcdv A outer s H E B G0 hr=>have nm:=Hbv;?_,
 λT F=>okD (k:=0) (g:=g_bf) F (fq Hbf 2) zo λcdv A outer s H E B G0 hr=>have nm:=Hbf;?_,
 λT _ F=>okD (k:=6) (g:=g_aq) F (fq Haq 2) zo λcdv A outer s H E B G0 hr=>have nm:=Haq;?_,
 λT _ F=>okD (k:=7) (g:=Se) F (fq Hbh 2) zo λcdv A outer s H E B G0 hr=>have nm:=Hbh;?_,
 λT _ _ F=>okD (k:=8) (g:=g_bi) F (fq Hbi 3) zo λcdv A outer s H E B G0 hr=>have nm:=Hbi;?_,
 λT F=>okD (k:=0) (g:=T5) F (fq Hbt 2) zo λcdv A outer s H E B G0 hr=>have nm:=Hbt;?_,
 λT F=>okD (k:=0) (g:=Sd) F (fq Hbj 2) zo λcdv A outer s H E B G0 hr=>have nm:=Hbj;?_,
 λT _ F=>okD (k:=1) (g:=Sc) F (fq Hbk 2) zo λcdv A outer s H E B G0 hr=>have nm:=Hbk;?_⟩,
 ⟨λT _ _ F=>okD (k:=9) (g:=T7) F (fq Hbp 3) zo λcdv A outer s H E B G0 hr=>have nm:=Hbp;?_,
 λT F=>okD (k:=0) (g:=Sb) F (fq Hbl 1) zo λcdv A outer s H E B G0 hr=>have nm:=Hbl;?_,
 λT _ _ _ _ F=>okD (k:=9) (g:=T9) F (fq Hbn 3) zo λcdv A outer s H E B G0 hr=>have nm:=Hbn;?_,
 λT _ _ F=>okD (k:=10) (g:=T8) F (fq Hbo 2) zo λcdv A outer s H E B G0 hr=>have nm:=Hbo;?_,
 λT _ _ _ _ _ _ _ _ F=>okD (k:=11) (g:=TV) F (fq Hca 2) zo λcdv A outer s H E B G0 hr=>have nm:=Hca;?_,
 λT _ _ _ _ F=>okD (k:=12) (g:=TQ) F (fq Hci 4) zo λcdv A outer s H E B G0 hr=>have nm:=Hci;?_,
 λT _ _ _ F=>okD (k:=7) (g:=Sh) F (fq Hbd 3) zo λcdv A outer s H E B G0 hr=>have nm:=Hbd;?_,
 λT F=>okD (k:=0) (g:=Vk) F (fq Haw 2) zo λcdv A outer s H E B G0 hr=>have nm:=Haw;?_⟩,
 ⟨λT _ _ F=>okD (k:=6) (g:=Sv) F (fq Hao 2) zo λcdv A outer s H E B G0 hr=>have nm:=Hao;?_,
 λT _ _ F=>okD (k:=7) (g:=Su) F (fq Hap 2) zo λcdv A outer s H E B G0 hr=>have nm:=Hap;?_,
 λT _ _ _ _ F=>okD (k:=8) (g:=So) F (fq Hax 3) zo λcdv A outer s H E B G0 hr=>have nm:=Hax;?_,
 λT F=>okD (k:=0) (g:=TR) F (fq Hch 2) zo λcdv A outer s H E B G0 hr=>have nm:=Hch;?_,
 λT _ F=>okD (k:=6) (g:=Sw) F (fq Han 3) zo λcdv A outer s H E B G0 hr=>have nm:=Han;?_,
 λT _ _ F=>okD (k:=10) (g:=g_br) F (fq Hbr 3) zo λcdv A outer s H E B G0 hr=>have nm:=Hbr;?_,
 λT _ _ _ F=>okD (k:=11) (g:=g_bs) F (fq Hbs 2) zo λcdv A outer s H E B G0 hr=>have nm:=Hbs;?_,
 λT F=>okD (k:=0) (g:=Sz) F (fq Hai 1) zo λcdv A outer s H E B G0 hr=>have nm:=Hai;?_⟩,
 ⟨λT _ _ F=>okD (k:=6) (g:=Sx) F (fq Ham 2) zo λcdv A outer s H E B G0 hr=>have nm:=Ham;?_,
 λT F=>okD (k:=0) (g:=g_cf) F (fq Hcf 3) zo λcdv A outer s H E B G0 hr=>have nm:=Hcf;?_,
 λT F=>okD (k:=0) (g:=g_ce) F (fq Hce 2) zo λcdv A outer s H E B G0 hr=>have nm:=Hce;?_,
 λT _ _ F=>okD (k:=1) (g:=TU) F (fq Hcg 5) zo λcdv A outer s H E B G0 hr=>have nm:=Hcg;?_,
 λT _ _ _ _ _ _ _ _ _ F=>okD (k:=13) (g:=TN) F (fq Hcj 1) zo λcdv A outer s H E B G0 hr=>have nm:=Hcj;?_⟩⟩<;>(have hu:=hr.units;have hgd:=hr.gd;repeat' (first|((with_reducible show PSs _ (XB _) _);show PSs _ (_::_) _)|((with_reducible show PSs _ (Stmt.Assign _ _ _::_::_) _);generalize hS:(_::_:List Stmt)=sts;refine j6 hS ?_ ?_)|((with_reducible show PS _ (Stmt.Assign [Expr.Name _ _] (Expr.List _ _) _) (tS _ _ _ _ (ZC _ _)));generalize hS:Stmt.Assign _ _ _=st;refine Cf hS nm ?_)|((with_reducible show PS _ (Stmt.Assign [Expr.Name _ _] (Expr.BinOp _ _ _ _) _) (tS _ _ _ _ (Kg _ _)));generalize hS:Stmt.Assign _ _ _=st;refine DW hS nm ?_)|((with_reducible show PE _ (Expr.List _ _) _);generalize hS:Expr.List _ _=e;first|refine j4 hS ?_|refine jZ hS ?_)|((with_reducible show PE _ (Expr.Tuple _ _ _) _);generalize hS:Expr.Tuple _ _ _=e;refine jY hS ?_)|((with_reducible show PE _ (Expr.BinOp _ Operator.Add _ _) (tD _ _ _ _));generalize hS:Expr.BinOp _ _ _ _=e;refine He LD hS ?_ ?_)|((with_reducible show PE _ (Expr.BinOp _ Operator.Mult _ _) (tD _ _ _ _));generalize hS:Expr.BinOp _ _ _ _=e;refine He LB hS ?_ ?_)|((with_reducible show PA _ (_::_) (tDs _ _ _ _));generalize hS:(_::_:zy)=es;refine xE hS ?_ ?_)|((with_reducible show PE _ _ (tD _ _ _ _));first|first|((with_reducible show PE _ (Expr.Name _ _) _);first|exact B7 (pq nm _)|exact Ye (pq nm _)|exact Ye (pvb _)|exact DD (by walk_at "g") (by walk_at "c")|exact DA (by walk_at "g") (by walk_at "c"))|((with_reducible show PE _ (Expr.Constant _ _ _) _);first|exact LS|exact A0|exact BL|exact A3)|((with_reducible show PE _ (Expr.Subscript _ _ _) _);first|refine Aa hu (by walk_at "v") ?_ (λ_ _=>rfl)|refine Rz (by walk_at "v") ?_ (λ_ _=>rfl)|refine wM ?_ ?_ ?_|refine qm ?_ ?_ ?_ ?_|refine BC ?_ ?_ (λ_ _=>rfl)|refine Ah hu ?_ ?_)|((with_reducible show PE _ (Expr.BinOp _ Operator.Add _ _) _);first|refine VW LD ?_ ?_)|((with_reducible show PE _ (Expr.BinOp _ Operator.Sub _ _) _);first|refine VW LC ?_ ?_)|((with_reducible show PE _ (Expr.BinOp _ Operator.Mult _ _) _);first|refine VW LB ?_ ?_)|((with_reducible show PE _ (Expr.BinOp _ Operator.Mod _ _) _);first|refine VW DN ?_ ?_)|((with_reducible show PE _ (Expr.BinOp _ Operator.FloorDiv _ _) _);first|refine VW DM ?_ ?_)|((with_reducible show PE _ (Expr.BinOp _ Operator.Pow _ _) _);first|refine VW DK ?_ ?_)|((with_reducible show PE _ (Expr.Call (Expr.Name "len" _) _ _ _) _);first|refine Fy (by walk_at "g") T.b_len (by walk_at "v")|refine RF DJ (by walk_at "g") T.b_len boot_len ?_|refine w9 zo (by walk_at "g") T.b_len (by walk_at "g") T.b_set ?_)|((with_reducible show PE _ (Expr.Call (Expr.Name "max" _) _ _ _) _);first|refine RF (BB zo) (by walk_at "g") T.b_max boot_max ?_|refine RF (BM zo) (by walk_at "g") T.b_max boot_max ?_)|((with_reducible show PE _ (Expr.Call (Expr.Name "sorted" _) _ _ _) _);first|refine RF Cq (by walk_at "g") T.b_sorted PyProof.Rows.boot_sorted ?_)|((with_reducible show PE _ (Expr.Call (Expr.Name "sum" _) _ _ _) _);first|refine RF (Cr zo) (by walk_at "g") T.b_sum PyProof.Rows.boot_sum ?_)|((with_reducible show PE _ (Expr.Call (Expr.Name "all" _) _ _ _) _);first|refine RF (DF zo) (by walk_at "g") T.b_all PyProof.Rows.boot_all ?_)|((with_reducible show PE _ (Expr.Call (Expr.Name "isinstance" _) [_,Expr.Name "int" _] _ _) _);first|refine Pt (c:= "int") (by decide) (by walk_at "g") T.b_isinstance (by walk_at "g") T.b_int (by decide +kernel) ?_ (by decide) (by decide))|((with_reducible show PE _ (Expr.Call (Expr.Name "isinstance" _) [_,Expr.Name "list" _] _ _) _);first|refine Pt (c:= "list") (by decide) (by walk_at "g") T.b_isinstance (by walk_at "g") T.b_list (by decide +kernel) ?_ (by decide) (by decide))|((with_reducible show PE _ (Expr.Call (Expr.Name "isinstance" _) [_,Expr.Name "tuple" _] _ _) _);first|refine Pt (c:= "tuple") (by decide) (by walk_at "g") T.b_isinstance (by walk_at "g") T.b_tuple (by decide +kernel) ?_ (by decide) (by decide))|((with_reducible show PE _ (Expr.Call (Expr.Name "isinstance" _) [_,Expr.Name "bool" _] _ _) _);first|refine Pt (c:= "bool") (by decide) (by walk_at "g") T.b_isinstance (by walk_at "g") T.b_bool (by decide +kernel) ?_ (by decide) (by decide))|((with_reducible show PE _ (Expr.Call (Expr.Name "isinstance" _) [_,Expr.Name "str" _] _ _) _);first|refine Pt (c:= "str") (by decide) (by walk_at "g") T.b_isinstance (by walk_at "g") T.b_str (by decide +kernel) ?_ (by decide) (by decide))|((with_reducible show PE _ (Expr.Call (Expr.Name _ _) _ _ _) _);first|refine pdf (by assumption) hr (by walk_at "g") ?_)|((with_reducible show PE _ (Expr.Call _ _ _ _) _);first|refine vH hu ?_ ?_|refine vC ?_ ?_)|refine NV ?_|refine Om ?_|((with_reducible show PE _ (Expr.Compare _ _ _ _) _);first|refine qA ?_|refine qo (by walk_at "b") (by walk_at "v") ?_ (by walk_at "m")|refine AU (by walk_at "b") ?_ ?_ (by walk_at "m")|refine wJ (by walk_at "b") (by walk_at "b") ?_ ?_ ?_)|refine qq ?_|refine Gr ?_|refine qC ?_|refine qE ?_ ?_|refine BD ?_ ?_|refine qD ?_|refine wI ?_ ?_ ?_)|((with_reducible show PA _ _ (tDs _ _ _ _));first|refine XA ?_ ?_|exact RA)|((with_reducible show PSs _ _ (tS _ _ _ _ _));first|refine Ry ?_ ?_|refine Ri ?_|exact Nu|exact sD_nevers)|((with_reducible show PS _ _ _);first|((with_reducible show PS _ (Stmt.Assign [Expr.Name _ _] _ _) _);first|refine aSet nm ?_|refine DX nm (by walk_at "k") zo ?_ ?_ (by decide +kernel)|refine Lk nm ?_|refine DZ nm ?_)|((with_reducible show PS _ (Stmt.Assign _ _ _) _);first|refine BA ?_ ?_|refine Gp ?_ (by walk_at "v") ?_|refine Cj hu ?_ (by walk_at "v") ?_)|refine Ng ?_ ?_ ?_|refine Hl ?_|refine Nt (by walk_at "w") zo ?_ ?_ ?_|((with_reducible show PS _ (Stmt.Expr _ _) _);first|refine Hk (by walk_at "v") ?_|refine qw ?_)|refine aAug nm qN ?_|exact jN|refine jv _ (by walk_at "w") ?_ ?_|refine qI (by walk_at "ck") (by walk_at "g") (λKX' W pn hw=>?_) (λa=>?_))|((with_reducible show PT _ _ _);first|((with_reducible show PT _ (Expr.Compare _ _ _ _) _);first|refine B9 hu ?_ (by walk_at "v")|refine j7 hu ?_ (by walk_at "v")|refine qB ?_|refine Fz ?_|refine qp (by walk_at "b") (by walk_at "v") ?_ (by walk_at "m")|refine qJ (by walk_at "b") ?_ (by walk_at "v") (by walk_at "m")|refine NW (by walk_at "b") ?_ ?_ (by walk_at "m")|refine wK (by walk_at "b") (by walk_at "b") ?_ ?_ ?_)|((with_reducible show PT _ (Expr.BoolOp _ _ _) _);refine PW.pt ?_)|refine AQ ?_|refine AO ?_|refine Ad ?_)|((with_reducible show PW _ _ _);first|refine AR ?_ ?_|refine BE ?_ ?_|refine jR ?_|refine AS ?_)|((with_reducible show PE _ _ (tL _ _ _ _));first|refine DY nm (by walk_at "k") zo ?_ ?_ (by decide +kernel)|refine Cg (by walk_at "k") zo ?_ ?_ (by decide +kernel)|refine vP (by walk_at "g") T.b_list (by walk_at "v")|refine Gu ?_|refine GB ?_ ?_)|((with_reducible show PI _ _ _ _);first|refine vv (by walk_at "g") T.b_range ?_|refine vq (by walk_at "g") T.b_range ?_|refine Gs (by walk_at "g") T.b_enumerate ?_|refine jC (by walk_at "g") T.b_enumerate ?_|refine BO (by walk_at "g") T.b_zip ?_|refine Nr ?_)|((with_reducible show PG _ _ _);first|exact D1 nm|exact Ch|refine P6 zo ?_)|((with_reducible show PGs _ _ _);first|exact P7|refine W5 ?_ ?_)|((with_reducible show PO _ _ _);first|exact jQ|refine jP ?_)|((with_reducible show Z8 _ _ _ _ _ _ _ _ _);refine λcl C s0 H0 ex=>⟨λB' G'=>?_,λB' G'=>?_,?_⟩)|((with_reducible show Xo _ _ _);first|exact qt|refine Gq ?_)|((with_reducible show RO _ _ _ _ _ _);first|refine F6 zo zo zo λB' G'=>?_|refine vg zo zo zo zo (λ_=>rfl) (λB' G'=>?_) (λB' G'=>?_) (λB' G'=>?_) ?_)|((with_reducible show PE _ _ (tT _ _ _ _ _));first|refine peT_call (by assumption) hr (by walk_at "g") ?_|exact peT_nil|exact peT_dnil|refine j8 ?_)|((with_reducible show DPs _ _ _ _ _ _);first|exact Ai|refine ka (λB'=>?_) (λB'=>?_) ?_)))
theorem KU:recsOf q0=R7 p0 ixL:=by show recsOf (PySem.W.view PySem.Challenge.pw_wishdeal_k81_whole_best_counts_come_toge Wb)=R7 PySem.Challenge.pw_wishdeal_k81_whole_best_counts_come_toge ixL;rw[PySem.W.Fast.te3399658132070893891,PySem.W.Fast.te17563607555281977659];kernel_rfl
theorem YR:(["ValueError", "all", "bool", "enumerate", "int", "isinstance", "len", "list", "max", "range", "set", "sorted", "str", "sum", "tuple", "zip"]:List Str).all (PL q0 (PySem.W.looseW q0 []))=zq:=by show List.all _ (PL (PySem.W.view PySem.Challenge.pw_wishdeal_k81_whole_best_counts_come_toge Wb) (PySem.W.looseW (PySem.W.view PySem.Challenge.pw_wishdeal_k81_whole_best_counts_come_toge Wb) []))=zq;k_qdec
theorem za:valOf q0 "MOST_ASKERS" = O (.int 7):=by show valOf (PySem.W.view PySem.Challenge.pw_wishdeal_k81_whole_best_counts_come_toge Wb) _=_;rw[Jw,PySem.W.Fast.te17563607555281977659];kernel_rfl
theorem y8:valOf q0 "MOST_COPIES" = O (.int 7):=by show valOf (PySem.W.view PySem.Challenge.pw_wishdeal_k81_whole_best_counts_come_toge Wb) _=_;rw[Jw,PySem.W.Fast.te17563607555281977659];kernel_rfl
theorem yW:valOf q0 "MOST_RANKS" = O (.int 5):=by show valOf (PySem.W.view PySem.Challenge.pw_wishdeal_k81_whole_best_counts_come_toge Wb) _=_;rw[Jw,PySem.W.Fast.te17563607555281977659];kernel_rfl
theorem y0:valOf q0 "MOST_THINGS" = O (.int 6):=by show valOf (PySem.W.view PySem.Challenge.pw_wishdeal_k81_whole_best_counts_come_toge Wb) _=_;rw[Jw,PySem.W.Fast.te17563607555281977659];kernel_rfl
theorem xX:tupStrsOf q0 "ORDERS" = O (["firsts", "full", "lasts"]:List Str):=by show tupStrsOf (PySem.W.view PySem.Challenge.pw_wishdeal_k81_whole_best_counts_come_toge Wb) _=_;rw[PySem.W.Fast.te14491516231548247274,PySem.W.Fast.te17563607555281977659];kernel_rfl
theorem Ce{l:PySem.W.OpenLaw}{w:World}{s0:Uw}{mg mb:Str->zB}{fa:Uy}{h:Heap}{XP:(Str->zB)->Heap->Prop}(G:PySem.W.Ground q0 [] [] XP w s0 mg mb h)(Y:XYP p0 clsL h)(hfa:mg "law" = O (.ref fa)) :
  ∃fd:Uz,(∀(s:Uw)(v:Uv),BindsTo s fd ⟨[v],[]⟩ [("_law_script", v)])/\∀base:Heap,FnOk l.prog w (whole h) mg base CX0 14 fa fd ["_law_script"] (spD (whole h) 1 Vp):=by
 obtain⟨D0,f0,fd0,R⟩:=qF (i:=1) G.T.g Y (mq 0 zo) (YS G.T YR (mq 0 zo)) (KR (by decide +kernel)) zo (λ_=>⟨_,rfl⟩) (λ_ _ _ _ _ _ us hl=>bz2 (us:=us) hl λ_ _=>rfl);have T:Txt (whole h) mg:=⟨YS G.T YR (mq 0 zo),YS G.T YR (mq 1 zo),YS G.T YR (mq 2 zo),YS G.T YR (mq 3 zo),YS G.T YR (mq 4 zo),YS G.T YR (mq 5 zo),YS G.T YR (mq 6 zo),YS G.T YR (mq 7 zo),YS G.T YR (mq 8 zo),YS G.T YR (mq 9 zo),YS G.T YR (mq 10 zo),YS G.T YR (mq 11 zo),YS G.T YR (mq 12 zo),YS G.T YR (mq 13 zo),YS G.T YR (mq 14 zo),YS G.T YR (mq 15 zo),OV G.T za,OV G.T y8,OV G.T yW,OV G.T y0,vV G.B xX (by decide),D6 (c:=("NoWishes", O 2)) G.T.g Y R (mq 1 zo)⟩
 refine Ds G.T KU 85 "law" rfl zo hfa (λ_ _ _ _ _ _ _=>rfl) λbase=>?_
 have cx:=KW l.prog w base G.T KU 7 "above_nought" rfl zo (λF=>oks.1.1 T  F) λ_ _ _ _ _ _ us hl=>bz1 (us:=us) hl λ_=>rfl
 have d_cd:=KW l.prog w base G.T KU 78 "full" rfl zo (λF=>oks.1.2.1 T cx F) λ_ _ _ _ _ _ us hl=>bz1 (us:=us) hl λ_=>rfl
 have d_cc:=KW l.prog w base G.T KU 77 "served" rfl zo (λF=>oks.1.2.2.1 T cx F) λ_ _ _ _ _ _ us hl=>bz1 (us:=us) hl λ_=>rfl
 have d_aa:=KW l.prog w base G.T KU 6 "is_whole" rfl zo (λF=>oks.1.2.2.2.1 T  F) λ_ _ _ _ _ _ us hl=>bz1 (us:=us) hl λ_=>rfl
 have aE:=KW l.prog w base G.T KU 8 "is_number_below" rfl zo (λF=>oks.1.2.2.2.2.1 T d_aa F) λ_ _ _ _ _ _ us hl=>bz2 (us:=us) hl λ_ _=>rfl
 have d_ae:=KW l.prog w base G.T KU 15 "is_rank" rfl zo (λF=>oks.1.2.2.2.2.2.1 T aE F) λ_ _ _ _ _ _ us hl=>bz2 (us:=us) hl λ_ _=>rfl
 have d_af:=KW l.prog w base G.T KU 16 "is_asker_list" rfl zo (λF=>oks.1.2.2.2.2.2.2.1 T d_ae F) λ_ _ _ _ _ _ us hl=>bz2 (us:=us) hl λ_ _=>rfl
 have d_ag:=KW l.prog w base G.T KU 17 "look_at_lists" rfl zo (λF=>oks.1.2.2.2.2.2.2.2 T d_af F) λ_ _ _ _ _ _ us hl=>bz2 (us:=us) hl λ_ _=>rfl
 have d_ad:=KW l.prog w base G.T KU 14 "look_at_copies" rfl zo (λF=>oks.2.1.1 T aE F) λ_ _ _ _ _ _ us hl=>bz1 (us:=us) hl λ_=>rfl
 have zY:=KW l.prog w base G.T KU 18 "look_at_wishes" rfl zo (λF=>oks.2.1.2.1 T d_ag d_ad F) λ_ _ _ _ _ _ us hl=>bz1 (us:=us) hl λ_=>rfl
 have d_al:=KW l.prog w base G.T KU 22 "all_wishes" rfl zo (λF=>oks.2.1.2.2.1 T zY F) λ_ _ _ _ _ _ us hl=>bz1 (us:=us) hl λ_=>rfl
 have bf:=KW l.prog w base G.T KU 41 "power" rfl zo (λF=>oks.2.1.2.2.2.1 T  F) λ_ _ _ _ _ _ us hl=>bz2 (us:=us) hl λ_ _=>rfl
 have d_ba:=KW l.prog w base G.T KU 43 "worth_by_turns" rfl zo (λF=>oks.2.1.2.2.2.2.1 T bf F) λ_ _ _ _ _ _ us hl=>bz4 (us:=us) hl λ_ _ _ _=>rfl
 have d_az:=KW l.prog w base G.T KU 42 "worth_by_order" rfl zo (λF=>oks.2.1.2.2.2.2.2.1 T bf F) λ_ _ _ _ _ _ us hl=>bz4 (us:=us) hl λ_ _ _ _=>rfl
 have cw:=KW l.prog w base G.T KU 20 "rank_in" rfl zo (λF=>oks.2.1.2.2.2.2.2.2.1 T  F) λ_ _ _ _ _ _ us hl=>bz2 (us:=us) hl λ_ _=>rfl
 have ci:=KW l.prog w base G.T KU 44 "worth_by_aim" rfl zo (λF=>oks.2.1.2.2.2.2.2.2.2 T bf d_ba d_az cw F) λ_ _ _ _ _ _ us hl=>bz5 (us:=us) hl λ_ _ _ _ _=>rfl
 have bg:=KW l.prog w base G.T KU 21 "longest" rfl zo (λF=>oks.2.2.1.1 T zY F) λ_ _ _ _ _ _ us hl=>bz1 (us:=us) hl λ_=>rfl
 have d_au:=KW l.prog w base G.T KU 36 "is_turns" rfl zo (λF=>oks.2.2.1.2.1 T aE F) λ_ _ _ _ _ _ us hl=>bz2 (us:=us) hl λ_ _=>rfl
 have d_at:=KW l.prog w base G.T KU 35 "is_old" rfl zo (λF=>oks.2.2.1.2.2.1 T aE F) λ_ _ _ _ _ _ us hl=>bz3 (us:=us) hl λ_ _ _=>rfl
 have d_ar:=KW l.prog w base G.T KU 32 "is_order" rfl zo (λF=>oks.2.2.1.2.2.2.1 T  F) λ_ _ _ _ _ _ us hl=>bz1 (us:=us) hl λ_=>rfl
 have d_as:=KW l.prog w base G.T KU 33 "look_at_order" rfl zo (λF=>oks.2.2.1.2.2.2.2.1 T d_ar F) λ_ _ _ _ _ _ us hl=>bz1 (us:=us) hl λ_=>rfl
 have aD:=KW l.prog w base G.T KU 37 "look_at_aim" rfl zo (λF=>oks.2.2.1.2.2.2.2.2.1 T d_au d_at d_as zY F) λ_ _ _ _ _ _ us hl=>bz2 (us:=us) hl λ_ _=>rfl
 have be:=KW l.prog w base G.T KU 45 "all_worths" rfl zo (λF=>oks.2.2.1.2.2.2.2.2.2.1 T d_al ci bg aD F) λ_ _ _ _ _ _ us hl=>bz2 (us:=us) hl λ_ _=>rfl
 have d_bz:=KW l.prog w base G.T KU 73 "tight_wishes" rfl zo (λF=>oks.2.2.1.2.2.2.2.2.2.2 T be F) λ_ _ _ _ _ _ us hl=>bz3 (us:=us) hl λ_ _ _=>rfl
 have d_cb:=KW l.prog w base G.T KU 76 "possible" rfl zo (λF=>oks.2.2.2.1.1 T d_bz aD F) λ_ _ _ _ _ _ us hl=>bz3 (us:=us) hl λ_ _ _=>rfl
 have cc:=KW l.prog w base G.T KU 57 "way_round" rfl zo (λF=>oks.2.2.2.1.2.1 T  F) λ_ _ _ _ _ _ us hl=>bz2 (us:=us) hl λ_ _=>rfl
 have cg:=KW l.prog w base G.T KU 48 "behind_way" rfl zo (λF=>oks.2.2.2.1.2.2.1 T  F) λ_ _ _ _ _ _ us hl=>bz2 (us:=us) hl λ_ _=>rfl
 have d_by:=KW l.prog w base G.T KU 71 "shown_by_rounds" rfl zo (λF=>oks.2.2.2.1.2.2.2.1 T cc cg F) λ_ _ _ _ _ _ us hl=>bz3 (us:=us) hl λ_ _ _=>rfl
 have bY:=KW l.prog w base G.T KU 61 "asks_beyond" rfl zo (λF=>oks.2.2.2.1.2.2.2.2.1 T  F) λ_ _ _ _ _ _ us hl=>bz3 (us:=us) hl λ_ _ _=>rfl
 have d_bw:=KW l.prog w base G.T KU 69 "strict_prices" rfl zo (λF=>oks.2.2.2.1.2.2.2.2.2.1 T  F) λ_ _ _ _ _ _ us hl=>bz2 (us:=us) hl λ_ _=>rfl
 have d_bx:=KW l.prog w base G.T KU 70 "strict_paper" rfl zo (λF=>oks.2.2.2.1.2.2.2.2.2.2.1 T bY d_bw F) λ_ _ _ _ _ _ us hl=>bz4 (us:=us) hl λ_ _ _ _=>rfl
 have d_bu:=KW l.prog w base G.T KU 67 "roads_from" rfl zo (λF=>oks.2.2.2.1.2.2.2.2.2.2.2 T  F) λ_ _ _ _ _ _ us hl=>bz3 (us:=us) hl λ_ _ _=>rfl
 have d_bv:=KW l.prog w base G.T KU 68 "all_roads" rfl zo (λF=>oks.2.2.2.2.1.1 T d_bu F) λ_ _ _ _ _ _ us hl=>bz2 (us:=us) hl λ_ _=>rfl
 have bc:=KW l.prog w base G.T KU 50 "place_of" rfl zo (λF=>oks.2.2.2.2.1.2.1 T  F) λ_ _ _ _ _ _ us hl=>bz2 (us:=us) hl λ_ _=>rfl
 have d_bg:=KW l.prog w base G.T KU 51 "steps_of_askers" rfl zo (λF=>Kbg T bc F) λ_ _ _ _ _ _ us hl=>bz3 (us:=us) hl λ_ _ _=>rfl
 have d_aq:=KW l.prog w base G.T KU 29 "copies_left" rfl zo (λF=>oks.2.2.2.2.1.2.2.1 T zY F) λ_ _ _ _ _ _ us hl=>bz2 (us:=us) hl λ_ _=>rfl
 have d_bh:=KW l.prog w base G.T KU 52 "steps_of_copies" rfl zo (λF=>oks.2.2.2.2.1.2.2.2.1 T d_aq F) λ_ _ _ _ _ _ us hl=>bz2 (us:=us) hl λ_ _=>rfl
 have ba:=KW l.prog w base G.T KU 53 "all_steps" rfl zo (λF=>oks.2.2.2.2.1.2.2.2.2.1 T d_bg d_bh F) λ_ _ _ _ _ _ us hl=>bz3 (us:=us) hl λ_ _ _=>rfl
 have d_bt:=KW l.prog w base G.T KU 66 "tight_steps" rfl zo (λF=>oks.2.2.2.2.1.2.2.2.2.2.1 T  F) λ_ _ _ _ _ _ us hl=>bz2 (us:=us) hl λ_ _=>rfl
 have d_bj:=KW l.prog w base G.T KU 54 "longer_walks" rfl zo (λF=>oks.2.2.2.2.1.2.2.2.2.2.2.1 T  F) λ_ _ _ _ _ _ us hl=>bz2 (us:=us) hl λ_ _=>rfl
 have ce:=KW l.prog w base G.T KU 55 "widest_walks" rfl zo (λF=>oks.2.2.2.2.1.2.2.2.2.2.2.2 T d_bj F) λ_ _ _ _ _ _ us hl=>bz2 (us:=us) hl λ_ _=>rfl
 have bZ:=KW l.prog w base G.T KU 60 "prices_for" rfl zo (λF=>oks.2.2.2.2.2.1.1 T ba ce F) λ_ _ _ _ _ _ us hl=>bz3 (us:=us) hl λ_ _ _=>rfl
 have d_bl:=KW l.prog w base G.T KU 56 "round_within" rfl zo (λF=>oks.2.2.2.2.2.1.2.1 T  F) λ_ _ _ _ _ _ us hl=>bz1 (us:=us) hl λ_=>rfl
 have d_bn:=KW l.prog w base G.T KU 58 "gaining_way" rfl zo (λF=>oks.2.2.2.2.2.1.2.2.1 T ba ce d_bl cc F) λ_ _ _ _ _ _ us hl=>bz3 (us:=us) hl λ_ _ _=>rfl
 have b0:=KW l.prog w base G.T KU 59 "best_by" rfl zo (λF=>oks.2.2.2.2.2.1.2.2.2.1 T d_bn cg F) λ_ _ _ _ _ _ us hl=>bz2 (us:=us) hl λ_ _=>rfl
 have d_ca:=KW l.prog w base G.T KU 75 "web_of" rfl zo (λF=>oks.2.2.2.2.2.1.2.2.2.2.1 T d_by d_bx d_bv ba d_bt bZ b0 be F) λ_ _ _ _ _ _ us hl=>bz2 (us:=us) hl λ_ _=>rfl
 have d_ci:=KW l.prog w base G.T KU 84 "_law_webs" rfl zo (λF=>oks.2.2.2.2.2.1.2.2.2.2.2.1 T d_cd d_cc d_cb d_ca F) λ_ _ _ _ _ _ us hl=>bz4 (us:=us) hl λ_ _ _ _=>rfl
 have d_bd:=KW l.prog w base G.T KU 46 "worth_of" rfl zo (λF=>oks.2.2.2.2.2.1.2.2.2.2.2.2.1 T ci bg aD F) λ_ _ _ _ _ _ us hl=>bz3 (us:=us) hl λ_ _ _=>rfl
 have d_aw:=KW l.prog w base G.T KU 38 "how_many_kept" rfl zo (λF=>oks.2.2.2.2.2.1.2.2.2.2.2.2.2 T  F) λ_ _ _ _ _ _ us hl=>bz2 (us:=us) hl λ_ _=>rfl
 have cu:=KW l.prog w base G.T KU 27 "ranks_got" rfl zo (λF=>oks.2.2.2.2.2.2.1.1 T cw zY F) λ_ _ _ _ _ _ us hl=>bz2 (us:=us) hl λ_ _=>rfl
 have cr:=KW l.prog w base G.T KU 28 "counts_of" rfl zo (λF=>oks.2.2.2.2.2.2.1.2.1 T bg cu F) λ_ _ _ _ _ _ us hl=>bz2 (us:=us) hl λ_ _=>rfl
 have d_ax:=KW l.prog w base G.T KU 39 "score_of" rfl zo (λF=>oks.2.2.2.2.2.2.1.2.2.1 T d_aw cr cu aD F) λ_ _ _ _ _ _ us hl=>bz3 (us:=us) hl λ_ _ _=>rfl
 have d_ch:=KW l.prog w base G.T KU 83 "_law_together" rfl zo (λF=>oks.2.2.2.2.2.2.1.2.2.2.1 T  F) λ_ _ _ _ _ _ us hl=>bz2 (us:=us) hl λ_ _=>rfl
 have d_an:=KW l.prog w base G.T KU 25 "dealings_beside" rfl zo (λF=>oks.2.2.2.2.2.2.1.2.2.2.2.1 T zY F) λ_ _ _ _ _ _ us hl=>bz3 (us:=us) hl λ_ _ _=>rfl
 have d_br:=KW l.prog w base G.T KU 62 "paper_for" rfl zo (λF=>oks.2.2.2.2.2.2.1.2.2.2.2.2.1 T bY bZ F) λ_ _ _ _ _ _ us hl=>bz3 (us:=us) hl λ_ _ _=>rfl
 have d_bs:=KW l.prog w base G.T KU 64 "best_dealing" rfl zo (λF=>oks.2.2.2.2.2.2.1.2.2.2.2.2.2.1 T d_br b0 be F) λ_ _ _ _ _ _ us hl=>bz2 (us:=us) hl λ_ _=>rfl
 have d_ai:=KW l.prog w base G.T KU 19 "copied_wishes" rfl zo (λF=>oks.2.2.2.2.2.2.1.2.2.2.2.2.2.2 T  F) λ_ _ _ _ _ _ us hl=>bz1 (us:=us) hl λ_=>rfl
 have d_am:=KW l.prog w base G.T KU 24 "wishes_beside" rfl zo (λF=>oks.2.2.2.2.2.2.2.1 T d_ai zY F) λ_ _ _ _ _ _ us hl=>bz2 (us:=us) hl λ_ _=>rfl
 have d_cf:=KW l.prog w base G.T KU 81 "_law_numbers" rfl zo (λF=>oks.2.2.2.2.2.2.2.2.1 T  F) λ_ _ _ _ _ _ us hl=>bz3 (us:=us) hl λ_ _ _=>rfl
 have d_ce:=KW l.prog w base G.T KU 80 "_law_cell_at" rfl zo (λF=>oks.2.2.2.2.2.2.2.2.2.1 T  F) λ_ _ _ _ _ _ us hl=>bz2 (us:=us) hl λ_ _=>rfl
 have d_cg:=KW l.prog w base G.T KU 82 "_law_wishes" rfl zo (λF=>oks.2.2.2.2.2.2.2.2.2.2.1 T d_cf d_ce F) λ_ _ _ _ _ _ us hl=>bz5 (us:=us) hl λ_ _ _ _ _=>rfl
 exact λ{_ _} F=>oks.2.2.2.2.2.2.2.2.2.2.2 T d_ci d_bd d_ax cr d_ch d_an d_bs d_am d_cg F
noncomputable abbrev d_cj:DefRec:=⟨"law", W6 Scj,XB Scj,ZR Scj,Dt Scj⟩
theorem walk{XP:(Str->zB)->Heap->Prop}(hlaw:∀ns:zu,ns.length<=63->Vp [.list (ns.map int)]=O (.bool zq)):PySem.W.WalkO q0 [] XP (λ_ h=>XYP p0 clsL h) (PySem.Challenge.rw_wishdeal_k81_whole_best_counts_come_toge).row.toRowW d_cj [] (λf vs=>PySem.call f vs):=
 xI (n:=63) (k:=14) (x:= "_law_script") zo (by decide) zo ⟨rfl,by decide,by decide,rfl⟩ (λ_ _ _ _ _ _ G Y hm=>Ce G Y hm) hlaw
theorem E6{sizes found:zu}{z d}(h:∀(j:Nat) d z,found[j]?=O d->sizes[j]?=O z->0<=d/\d<z)(hz:sizes[found.length]?=O z)(h0:0<=d/\d<z) :
  ∀(j:Nat) d' z',(found++[d])[j]?=O d'->sizes[j]?=O z'->0<=d'/\d'<z':=by
 intro j d' z' e1 e2;by_cases hj:j<found.length
 .rw[Qq hj]at e1
  exact h j d' z' e1 e2
 .by_cases hj2:j=found.length
  .simp_all
  .rw[QW (by rw[Qi,QX];lia)]at e1
   cases e1
noncomputable abbrev pb(d:D):Option Sl:=O (.pub d)
def inv(c s:Int)(sizes:zu)(n:Int)(i:Nat)(ρ:UZ):Prop:=∃left found x6 x7,ρ=[O (Sl.pub (.int c)),pb (.int s),pb (.list (sizes.map .int)),pb (.int n),pb (.int left),O (.own ((found:zu).map .int)),x6,x7] /\
 found.length=i/\∀(j:Nat) d z,found[j]?=O d->sizes[j]?=O z->0<=d/\d<z
theorem xW{c s n:Int}{sizes:zu}(hs:∀x∈sizes,0<x/\x<18446744073709551616)(hl:sizes.length<=1000){i:Nat}{d:D}{ρ:UZ}{Q:Out->Prop}(hi:(Yp 0 sizes.length)[i]?=O d)(h:inv c s sizes n i ρ) :
  ∃ρ2,gN 6 d ρ=O ρ2/\Ho N7 ρ2 (SW (inv c s sizes n (i+1)) Q):=by
 obtain⟨left,found,x6,x7,rfl,hf,hfd⟩:=h;obtain⟨rfl,hlt⟩:=WS hi;obtain⟨z,hz⟩:∃z,sizes[i]?=O z:=⟨sizes[i]'(by lia),Qe _⟩
 obtain⟨z1,z2⟩:=hs z (Qy hz);have hix:oIx (.list (sizes.map int)) (.int (0+(i:Int)))=O (.int z):=by rw[JD];exact ZP (by rw[Qd,hz];rfl)
 generalize hk:(0:Int)+(i:Int)=k at hix⊢;have hk1:k<18446744073709551616:=by lia
 have hk2 : -18446744073709551616<k:=by lia
 have hlen:(found.map int).length<1000000:=by rw[Qb];lia
 have pw:Vh (.int 10) (.int 18)=O (.int 1000000000000000000):=by rw[qf (by decide)];rfl
 refine⟨_,U3 (Qa zo) zo,?_⟩;unfold N7;apply K9
 case h1=>exact Cv (Yx zo (Ki Kd Kd pw) zo) λ_=>Yx zo Kd zo
 case h2=>intro _;refine Kn (V6 zo (Ki (UW zo) (K1 zo (UW zo) hix) (Rr (by lia))) zo hlen zo) ?_;refine YO (KM (Ki (UW zo) (K1 zo (UW zo) hix) (Gw (by lia) (by lia))) (Qa zo) zo) (ZD ?_);exact⟨_,found++[left % z],_,_,by rw[Qu];rfl,by rw[Qi,hf];rfl,E6 hfd (by rw[hf];exact hz) ⟨Int.emod_nonneg _ (by lia),Int.emod_lt_of_pos _ z1⟩⟩
 case h3=>intro _;refine Kn (KM (Ki (Ki (Ki (Ki (UW zo) (Ki Kd (UW zo) (Td (by decide) (by decide))) ZA) (Ki (Ki Kd (UW zo) (Td (by decide) (by decide))) (UW zo) (RI hk2 hk1)) ZA) (UW zo) ZA) Kd (Rr (by decide))) (Qa zo) zo) ?_;refine Kn (KM (Ki (Ki (UW zo) Kd (RI (by decide) (by decide))) Kd (Rr (by decide))) (Qa zo) zo) ?_;refine Kn (KM (Ki (Ki (Ki (Ki (UW zo) (UW zo) (RI (by lia) (by lia))) Kd (Rr (by decide))) Kd (RI (by decide) (by decide))) Kd (Rr (by decide))) (Qa zo) zo) ?_;refine YO (V6 zo (Ki (Ki (UW zo) Kd (Gw (by decide) (by decide))) (K1 zo (UW zo) hix) (Rr (by lia))) zo hlen zo) (ZD ?_);exact⟨_,found++[_ % z],_,_,by rw[Qu];rfl,by rw[Qi,hf];rfl,E6 hfd (by rw[hf];exact hz) ⟨Int.emod_nonneg _ (by lia),Int.emod_lt_of_pos _ z1⟩⟩
theorem Dj(c s:Int){sizes:zu}(hs:∀x∈sizes,0<x/\x<18446744073709551616)(hl:sizes.length<=1000) :
  ∃r,WA [.int c,.int s,.list (sizes.map int)]=O r/\∃ds:zu,r=.list (ds.map .int)/\ds.length=sizes.length/\∀(j:Nat) d z,ds[j]?=O d->sizes[j]?=O z->0<=d/\d<z:=by
 refine V5  rfl ?_;refine Kn (KM (Yd (UY (UW zo) (UY (Ki (Tr Kd) (UW zo) Xh) U5)) N8) (Qa zo) zo) ?_;refine Kn (KM (UW zo) (Qa zo) zo) ?_;refine Kn (YQ (Rs U5 (Qa zo)) (Qa zo) zo) ?_;apply Ze;apply Z9  (inv c s sizes _)
 case h1=>exact Wn (UY (ZI zo (by rw[Zw,Qb])) U5) (Ws (by lia) (by lia))
 case h0=>exact⟨_,[],zp,zp,rfl,rfl,λj d z e=>by cases e⟩
 case hst=>exact λi d ρ e h=>xW hs hl e h
 case hend=>rintro ρ ⟨left,found,x6,x7,rfl,hf,hfd⟩;rw[YV]at hf;exact Zj (KJ (Xi rfl rfl) ⟨_,rfl,found,rfl,by lia,hfd⟩)
mutual
theorem Oz:∀(d:PyData),d.canLay0=zq->UN d d=zq
 |.none,_=>rfl
 |.bool b,_=>by cases b<;>rfl
 |.int i,_=>by simp[UN]
 |.str s,_=>by simp[UN]
 |.list xs,h=>eqvAll_refl xs h
 |.tuple xs,h=>eqvAll_refl xs h
 |.dict _,h=>by cases h
theorem eqvAll_refl:∀(xs:List PyData),UL xs=zq->PyData.eqvAll xs xs=zq
 |[],_=>rfl
 |x::r,h=>by
  have h:(PyData.canLay0 x&&UL r)=zq:=h;rw[Je]at h
  show(UN x x&&PyData.eqvAll r r)=zq
  rw[Oz x h.1,eqvAll_refl r h.2];rfl
end
theorem TB:∀{xs:zw},(∀x∈xs,PyData.canLay0 x=zq)->UL xs=zq
 |[],_=>rfl
 |x::r,h=>by
  show(PyData.canLay0 x&&UL r)=zq
  rw[h x Ql,TB λy hy=>h y (Qj _ hy)];rfl
theorem RC  : ∀{xs:zw},(∀x∈xs,UM x<=n)->PyData.depthAll xs<=n
 |[],_=>by simp[PyData.depthAll]
 |x::r,h=>by
  have h1:=h x Ql;have h2:=RC  λy hy=>h y (Qj _ hy);simp only[PyData.depthAll]
  lia
noncomputable def Zn(r:zu):D:=.list (r.map int)
noncomputable def KY(rs:List zu):D:=.list (rs.map Zn)
noncomputable def Kr(cs:zu)(ls:List (List zu)):D:=.tuple [.list (cs.map int),.list (ls.map KY)]
structure Tg(n:Nat)(rs:List zu):Prop where
 few:rs.length<=5
 some:∀r∈rs,r≠[]
 there:∀r∈rs,∀t∈r,0<=t/\t<n
 once:rs.flatten.Nodup
structure Good(cs:zu)(ls:List (List zu)):Prop where
 c1:1<=cs.length
 c6:cs.length<=6
 c7:∀c∈cs,0<=c/\c<8
 l1:1<=ls.length
 l7:ls.length<=7
 rk:∀rs∈ls,Tg cs.length rs
theorem Rw(r):(Zn r).canLay0=zq:=TB λx hx=>by obtain⟨y,_,rfl⟩:=Qn.mp hx;rfl
theorem Gg(i:Int):(int i).depth<=1:=by simp[UM]
theorem Ro  {xs:zw}(h:PyData.depthAll xs<=n):(UH xs).depth<=n+1:=by simp only[UM];lia
theorem Mp(r):(Zn r).depth<=2:=Ro (RC λx hx=>by obtain⟨y,_,rfl⟩:=Qn.mp hx;exact Gg y)
theorem xV(i):VS [.int i]=O (.bool zq):=by refine K5  rfl ?_;exact KJ (Oj (KN (UW zo)) (λ_=>qg (KN (UW zo)))) zo
theorem OU  (h0:0<=i)(h1:i<m):Z1 [.int i,.int m]=O (.bool zq):=by
 refine K5  rfl ?_;have hb:(decide (0<=i)&&decide (i<m))=zq:=by simp_all
 refine KJ (Oj   (Km (UY (UW zo) U5) zo (xV i)) (λ_=>?_)) zo;rw[←hb];exact KN (Ma Kd (UW zo) zo (λ_=>UW zo) (λ_=>rfl))
theorem OT{α:Type}(l:List α):YG [.list (l.map λ_=>.bool zq)]=O (.bool zq):=by
 have:(l.map λ_=>UI zq)=(l.map λ_=>zq).map UI:=by rw[QQ];rfl
 rw[this,qO];simp_all
theorem we{r:zu}{n:Int}(hne:r≠[])(hl:r.length<=1000)(h:∀t∈r,0<=t/\t<n):WI [Zn r,.int n]=O (.bool zq):=by
 refine K5  rfl ?_;apply Ze;have hlen:Kp [Zn r]=O (.int r.length):=by unfold Zn;rw[Zw,Qb]
 have hp:0<r.length:=Uo.mpr hne;apply K9
 case h1=>exact WX  (Ta (UW zo) zo) (Ki (ZI zo hlen) Kd Wj)
 case h2=>intro hh;lia
 case h3=>
  intro _;refine Zo (Zj ?_)
  have hc:K4 (gN 2) (U2 zq) (U4 2 Z1 (UX (UU 2) (UX (UU 1) (UV)))) (r.map int) (KE [pb (Zn r),pb (.int n)]++UG 1 zp) []=O (r.map λ_=>.bool zq):=by
   rw[Pv (λ_=>zq) (λ_=>.bool zq) (λρ=>∃x,ρ=[pb (Zn r),pb (.int n),x])]
   .rw[JH.mpr (λ_ _=>rfl),QR,QQ];rfl
   .rintro d hm ρ ⟨x,rfl⟩
    obtain⟨t,ht,rfl⟩:=Qn.mp hm;exact⟨_,U3 (Qa zo) zo,rfl,λ_=>Km (UY (UW zo) (UY (UW zo) U5)) zo (OU (h t ht).1 (h t ht).2),_,rfl⟩
   .exact⟨zp,rfl⟩
   .rw[Qb,Qw];lia
  exact KJ (Yd (UY (KN (Zz (Zv (UW zo) zo) hc)) U5) (OT r)) zo
theorem Ei  (ha:X9 a=a)(hb:X9 b=b)(hc:X9 c=c)(hx:X9 x3=x3):∀(ds es:zw)(x4),es.length+ds.length<=1000000 ->
  ∃y,YU (gN 4) (U2 zq) (UU 4) ds [a,b,c,x3,x4] es=O (es++ds,[a,b,c,x3,y])
 |[],es,x4,_=>⟨x4,by rw[YU,Jm]⟩
 |d::r,es,x4,h=>by
  rw[Qz]at h;obtain⟨y,e⟩:=Ei ha hb hc hx r (es++[d]) _ (by rw[Qi,QX];lia);refine⟨y,?_⟩;rw[YU];have h1:gN 4 d [a,b,c,x3,x4]=O [a,b,c,x3,pb d]:=U3 (Qa zo) zo;rw[h1];dsimp only[U2];rw[Qr zo];have h2:UU 4 [a,b,c,x3,pb d]=.ok d [a,b,c,x3,pb d]:=UW zo;rw[h2];dsimp only;rw[Qr (by lia)];have h3:KE [a,b,c,x3,pb d]=[a,b,c,x3,pb d]:=by unfold KE;simp only[Qv,ha,hb,hc,hx];rfl
  rw[h3,e,Q2];rfl
theorem EO{a b:D}:∀(rs:List zu)(es:zw)(x3 x4:Option Sl),es.length+rs.flatten.length<=1000000 ->
  WP (gN 3) (U2 zq) (K2 (UU 3)) (gN 4) (U2 zq) (UU 4) (rs.map Zn) [pb a,pb b,zp,x3,x4] es=O (es++rs.flatten.map int)
 |[],es,_,_,_=>by rw[List.map_nil,WP];simp
 |r::rs,es,x3,x4,h=>by rw[JZ,Qi]at h;rw[Qv,WP];have h1:gN 3 (Zn r) [pb a,pb b,zp,x3,x4]=O [pb a,pb b,zp,pb (Zn r),x4]:=U3 (Qa zo) zo;rw[h1];dsimp only[U2];rw[Qr zo];have h2:K2 (UU 3) [pb a,pb b,zp,O _,x4]=.ok (r.map int) [pb a,pb b,zp,pb (Zn r),x4]:=Zv (UW zo) zo;rw[h2];dsimp only;have h3:KE [pb a,pb b,zp,pb (Zn r),x4]=[pb a,pb b,zp,O _,X9 x4]:=rfl;rw[h3];obtain⟨y,e⟩:=Ei (a:=O (.pub a)) (b:=O (.pub b)) (c:=zp) (x3:=O (.pub (Zn r))) zo zo zo zo (r.map int) es (X9 x4) (by rw[Qb];lia);rw[e];dsimp only;have ih:=EO (a:=a) (b:=b) rs (es++r.map int) (O (.pub (Zn r))) y (by rw[Qi,Qb];lia);refine Eq.trans ih ?_;rw[JZ,Qu,Q2]
theorem E5  (h:ns.Nodup):RZ ns=ns.length:=by
 have:∀i,i<=ns.length->(PyProof.Rows.firstMet (λi=>ns.getD i 0) i).length=i:=by
  intro i;induction i with
  |zero=>intro _;rfl
  |succ i ih=>
   intro hi;rw[PyProof.Rows.firstMet_succ]
   have hany:(PyProof.Rows.firstMet (λi=>ns.getD i 0) i).any (· == ns.getD i 0)=zr:=by
    rw[PyProof.Rows.firstMet_any,List.any_eq_false];intro x hx;obtain⟨j,hj,rfl⟩:=Qn.mp hx;have hj:=Q3.mp hj;intro e;have e   :=by simpa using e
    have l1:j<ns.length:=by lia
    have l2:i<ns.length:=by lia
    simp only[Qe l1,Qe l2]at e;exact absurd ((List.getElem_inj h).mp e) (by lia)
   unfold PyProof.Rows.step_dedup;rw[hany];rw[QA (by decide),Qi,ih (by lia)];rfl
 exact this ns.length (Qx _)
theorem yl{rs:List zu}{n:Nat}(g:Tg n rs)(hn:n<=6)(hf:rs.flatten.length<=1000):VQ [KY rs,.int n]=O (.bool zq):=by
 refine K5 (ρ:=[pb (KY rs),pb (.int n),zp]) zo ?_;unfold SB;have hlen:Kp [KY rs]=O (.int rs.length):=by unfold KY;rw[Zw,Qb]
 have h5:=g.few;have zZ:∀r∈rs,r.length<=1000:=λr hr=>QM (List.Sublist.length_le (List.sublist_flatten_of_mem hr)) hf;apply Ze;apply K9
 case h1=>exact WX  (Ta (UW zo) zo) (Ki (ZI zo hlen) Kd zo)
 case h2=>intro hh;lia
 case h3=>
  intro _;refine Zo (Zj ?_)
  have hc:K4 (gN 3) (U2 zq) (U4 2 WI (UX (UU 3) (UX (UU 1) (UV)))) (rs.map Zn) (KE [pb (KY rs),pb (.int n),zp]++UG 1 zp) []=O (rs.map λ_=>.bool zq):=by
   rw[Pv (λ_=>zq) (λ_=>.bool zq) (λρ=>∃x,ρ=[pb (KY rs),pb (.int n),zp,x])]
   .rw[JH.mpr (λ_ _=>rfl),QR,QQ];rfl
   .rintro d hm ρ ⟨x,rfl⟩
    obtain⟨r,hr,rfl⟩:=Qn.mp hm;exact⟨_,U3 (Qa zo) zo,rfl,λ_=>Km (UY (UW zo) (UY (UW zo) U5)) zo (we (g.some r hr) (zZ r hr) (g.there r hr)),_,rfl⟩
   .exact⟨zp,rfl⟩
   .rw[Qb,Qw];lia
  apply Ze;apply K9
  case h1=>exact XG (Wt (Yd (UY (KN (Zz (Zv (UW zo) zo) hc)) U5) (OT rs)))
  case h2=>intro hh;cases hh
  case h3=>
   intro _;refine Zo (Zj ?_);have h2:R4 (K2 (UU 0)) 2 (gN 3) (U2 zq) (K2 (UU 3)) (gN 4) (U2 zq) (UU 4) [pb (KY rs),pb (.int n),zp]=.ok (rs.flatten.map int) [pb (KY rs),pb (.int n),zp]:=by unfold R4;have e1:K2 (UU 0) [pb (KY rs),pb (.int n),zp]=.ok (rs.map Zn) [pb (KY rs),pb (.int n),zp]:=Zv (UW zo) zo;rw[e1];dsimp only;have e2:=EO (a:=KY rs) (b:=.int n) rs [] zp zp (by rw[Qw];lia);have e3:WP (gN 3) (U2 zq) (K2 (UU 3)) (gN 4) (U2 zq) (UU 4) (rs.map Zn) (KE [pb (KY rs),pb (.int n),zp]++UG 2 zp) []=O ([]++rs.flatten.map int):=e2;rw[e3];rfl
   refine Kn (YQ h2 (Qa zo) zo) ?_;have hls:W4 [.list (rs.flatten.map int)]=O (.int rs.flatten.length):=by unfold W4;dsimp only;rw[RL];dsimp only;rw[Qr (by lia),E5 g.once]
   refine KJ (KN (Ki (Yd (UY (Xi zo zo) U5) hls) (ZI zo Zw) Wj)) ?_;rw[Qb];simp
theorem Xz  : ∀{xs}{k i:Nat},(Z2 k xs)[i]?=O d->∃x,xs[i]?=O x/\d=.tuple [.int ((k+i:Nat):Int),x]
 |[],k,i,h=>by cases h
 |x::r,k,0,h=>by cases h;exact⟨x,rfl,rfl⟩
 |x::r,k,i+1,h=>by obtain⟨y,e,q⟩:=Xz   (i:=i) h;exact⟨y,e,by rw[q];congr 4;lia⟩
theorem Rv:∀(n:Nat)(l:zu),l.Nodup->(∀x∈l,0<=x/\x<n)->l.length<=n
 |0,[],_,_=>Qx _
 |0,x::r,_,h=>by have:=h x Ql;lia
 |n+1,l,hn,h=>by
  by_cases hm:(n:Int)∈l
  .have:=Rv n (l.erase (n)) (hn.erase _) λx hx=>by
    have h1:=(List.Nodup.mem_erase_iff hn).mp hx;have h2:=h x h1.2
    lia
   simp_all
  .have:=Rv n l hn λx hx=>by
    have h2:=h x hx;have h3:x≠(n):=λe=>hm (e ▸ hx)
    lia
   lia
theorem Mo   (g:Tg n rs):rs.flatten.length<=n:=Rv n _ g.once λx hx=>by obtain⟨r,hr,hxr⟩:=J7.mp hx;exact g.there r hr x hxr
theorem xU{cs:zu}(h1:1<=cs.length)(h6:cs.length<=6)(h:∀c∈cs,0<=c/\c<8):VR [.list (cs.map int)]=O .none:=by
 refine Pb  rfl ?_;unfold SD;have hlen:Kp [.list (cs.map int)]=O (.int cs.length):=by rw[Zw,Qb]
 apply Ze;apply K9
 case h1=>exact WX  (Ta (UW zo) zo) (XG (Ma Kd (ZI zo hlen) zo (λ_=>Kd) (λ_=>rfl)))
 case h2=>
  intro hh;have a1:(1:Int)<=(cs.length:Int):=by lia
  have a2:(cs.length:Int)<=6:=by lia
  simp[a1,a2]at hh
 case h3=>
  intro _;refine Zo (Zj ?_);apply Z9 (λ_ ρ=>∃x1 x2,ρ=[O _,x1,x2])
  case h1=>exact Wk (UY (UW zo) U5) Wg
  case h0=>exact⟨_,_,rfl⟩
  case hst=>
   rintro i d ρ hi ⟨x1,x2,rfl⟩;obtain⟨x,hx,rfl⟩:=Xz hi;obtain⟨c,hc,rfl⟩:=Qn.mp (Qy hx);refine⟨_,Kw zo (U7 (U3 (Qa zo) zo) (U7 (U3 (Qa zo) zo) Kx)),?_⟩;unfold HR;apply K9
   case h1=>exact XG (Wt (Km (UY (UW zo) (UY (Ki Kd Kd ZA) U5)) zo (OU (h c hc).1 (by have:=(h c hc).2;lia))))
   case h2=>intro hh;cases hh
   case h3=>exact λ_=>Zo (ZD ⟨_,_,rfl⟩)
  case hend=>exact λρ ⟨x1,x2,e⟩=>⟨_,rfl⟩
theorem jX{ls:List (List zu)}{n:Nat}(hn:n<=6)(h1:1<=ls.length)(h7:ls.length<=7)(h:∀rs∈ls,Tg n rs):VP [.list (ls.map KY),.int n]=O .none:=by
 refine Pb  rfl ?_;unfold SA;have hlen:Kp [.list (ls.map KY)]=O (.int ls.length):=by rw[Zw,Qb]
 apply Ze;apply K9
 case h1=>exact WX  (Ta (UW zo) zo) (XG (Ma Kd (ZI zo hlen) zo (λ_=>Kd) (λ_=>rfl)))
 case h2=>
  intro hh;have a1:(1:Int)<=(ls.length:Int):=by lia
  have a2:(ls.length:Int)<=7:=by lia
  simp[a1,a2]at hh
 case h3=>
  intro _;refine Zo (Zj ?_);apply Z9 (λ_ ρ=>∃x2 x3,ρ=[O _,pb (.int n),x2,x3])
  case h1=>exact Wk (UY (UW zo) U5) Wg
  case h0=>exact⟨_,_,rfl⟩
  case hst=>
   rintro i d ρ hi ⟨x1,x2,rfl⟩;obtain⟨x,hx,rfl⟩:=Xz hi;obtain⟨rs,hrs,rfl⟩:=Qn.mp (Qy hx);refine⟨_,Kw zo (U7 (U3 (Qa zo) zo) (U7 (U3 (Qa zo) zo) Kx)),?_⟩;have hfl:=Mo (h rs hrs);apply K9
   case h1=>exact XG (Wt (Km (UY (UW zo) (UY (UW zo) U5)) zo (yl (h rs hrs) hn (by lia))))
   case h2=>intro hh;cases hh
   case h3=>exact λ_=>Zo (ZD ⟨_,_,rfl⟩)
  case hend=>exact λρ ⟨x1,x2,e⟩=>⟨_,rfl⟩
theorem Vc  {ls}(g:Good cs ls):Zy [Kr cs ls]=O .none:=by
 refine Pb  rfl ?_;apply Ze;apply K9
 case h1=>exact WX  (Ta (UW zo) zo) (Ki (ZI zo zo) Kd Ow)
 case h2=>intro hh;cases hh
 case h3=>
  intro _;refine Zo (Zj ?_);have hlen:Kp [.list (cs.map int)]=O (.int (cs.length:Nat)):=by rw[Zw,Qb]
  refine Kn (Y9 (UW zo) (Kw zo (U7 (U3 (Qa zo) zo) (U7 (U3 (Qa zo) zo) Kx)))) ?_;refine Kn (Y7 (Km (UY (UW zo) U5) zo (xU g.c1 g.c6 g.c7))) ?_;exact YO (Y7 (Km (UY (UW zo) (UY (ZI zo hlen) U5)) zo (jX g.c6 g.l1 g.l7 g.rk))) ⟨_,rfl⟩
theorem FJ:∀(xs ys:zu),PyData.eqvAll (xs.map int) (ys.map int)=decide (xs=ys)
 |[],[]=>rfl
 |[],y::ys=>by simp[PyData.eqvAll]
 |x::xs,[]=>by simp[PyData.eqvAll]
 |x::xs,y::ys=>by
  have ih:=FJ xs ys
  show(UN _ _&&PyData.eqvAll _ _)=_
  have:UN (.int x) (.int y)=decide _:=rfl;simp_all
theorem xT  : oNe (.list (xs.map int)) (.list [])=O (!decide (xs=[])):=by
 unfold oNe;have h1   :=Rw xs;have h3:(UH (xs.map int)).depth<=60:=by have:=Mp xs;unfold Zn at this;lia
 rw[Qr ⟨h1,rfl,h3⟩]
 congr 2
 exact FJ xs []
theorem Ge{xs:zw}{x}(h:xs.getLast?=O x):oIx (.list xs) (.int (-1))=O x:=by
 have hl:xs≠[]:=by rintro rfl;cases h
 have hp   :=Uo.mpr hl;rw[List.getLast?_eq_getElem?]at h
 show(ixN xs.length _).bind _=_
 unfold ixN;rw[QA (by decide),Qr (by lia)];have e2:(-1+(xs.length:Int)).toNat=xs.length-1:=by lia
 rw[e2];exact h
theorem NQ{xs:zu}{k}(h:k<xs.length):oIx (.list (xs.map int)) (.int k)=O (.int (xs.getD k 0)):=by refine ZP ?_;simp[List.getD,List.getElem?_eq_getElem h]
theorem Di(ns:zu)(k:Nat)(hl:ns.length<=1000):∃v,WB [.list (ns.map int),.int k]=O (.int v):=by
 have hlen:Kp [.list (ns.map int)]=O (.int ns.length):=by rw[Zw,Qb]
 by_cases h:k<ns.length
 .refine⟨ns.getD k 0,K5  rfl ?_⟩
  apply Ze;apply K9
  case h1=>exact Yx zo (ZI zo hlen) zo
  case h2=>exact λ_=>KJ (K1 zo (UW zo) (NQ h)) (Tc zo)
  case h3=>lia
 .refine⟨0,K5  rfl ?_⟩
  apply Ze;apply K9
  case h1=>exact Yx zo (ZI zo hlen) zo
  case h2=>lia
  case h3=>exact λ_=>Zo (Zj (KJ Kd zo))
noncomputable def tab:zu:=[1,1,2,0,3,7,1,4,5,6,1]
theorem Hd  (h0:0<=z)(h1:z<11):oIx (.list (tab.map int)) (.int z)=O (.int (tab.getD z.toNat 0))/\0<=tab.getD z.toNat 0/\tab.getD z.toNat 0<8:=by
 have e:z=0∨z=1∨z=2∨z=3∨z=4∨z=5∨z=6∨z=7∨z=8∨z=9∨z=10:=by lia
 rcases e with rfl|rfl|rfl|rfl|rfl|rfl|rfl|rfl|rfl|rfl|rfl<;>exact⟨rfl,by decide,by decide⟩
structure Tq(n:Nat)(pl:zu)(j:Nat)(rs:List zu):Prop where
 few:rs.length<=j
 some:∀r∈rs,r≠[]
 there:∀r∈rs,∀t∈r,(0<=t/\t<n)/\pl.getD t.toNat 0<1+(j:Int)
 once:rs.flatten.Nodup
noncomputable def SQ(n:Nat)(pl:zu)(r:Int):zu:=((UF n).filter λk=>decide (pl.getD k 0=r)).map λk:Nat=>(k:Int)
theorem yk(n)(pl)(r):(SQ n pl r).Nodup:=by refine List.Pairwise.map _ (λa b h e=>h (by lia)) ((List.nodup_range).filter _)
theorem Eh    (h:t∈SQ n pl r):(0<=t/\t<n)/\pl.getD t.toNat 0=r:=by obtain⟨k,hk,rfl⟩:=Qn.mp h;simp_all
theorem Tq.add{n:Nat}{pl:zu}{j:Nat}{rs}{row}(g:Tq n pl j rs)(hne:row≠[])(hm:∀t∈row,t∈SQ n pl (1+(j:Int)))(hn:row.Nodup):Tq n pl (j+1) (rs++[row]) where
 few:=by rw[Qi,QX];have:=g.few;lia
 some:=λr hr=>by
  rcases QH.mp hr with z|z
  .exact g.some r z
  .rw[QB.mp z];exact hne
 there:=λr hr t ht=>by
  rcases QH.mp hr with z|z
  .have:=g.there r z t ht;exact⟨this.1,by lia⟩
  .rw[QB.mp z]at ht
   have:=Eh (hm t ht);exact⟨this.1,by lia⟩
 once:=by
  rw[List.flatten_append,List.flatten_singleton];refine List.nodup_append.mpr ⟨g.once,hn,λa ha b hb e=>?_⟩;subst e;obtain⟨r,hr,har⟩:=J7.mp ha;have h1:=(g.there r hr a har).2;have h2:=(Eh (hm a hb)).2
  lia
theorem Tq.next    {rs}(g:Tq n pl j rs):Tq n pl (j+1) rs:=
 ⟨by have:=g.few;lia,g.some,λr hr t ht=>⟨(g.there r hr t ht).1,by have:=(g.there r hr t ht).2;lia⟩,g.once⟩
theorem Oq{x:D}{m:Nat}(h:m<=1000):KZ (.list [x]) (.int m)=O (.list (UG m x)):=by rw[wX ⟨by lia,by lia,by show 1*m<=_;lia⟩];simp_all
noncomputable def szG(T A:Nat):zu:=(T:Int)::(A:Int)::UG T 11
noncomputable def YF(T R:Nat):zu:=UG T ((R:Int)+1)++[2]
theorem Gd{T A:Nat}:(szG T A).length=T+2:=by unfold szG;simp
theorem FI{T R:Nat}:(YF T R).length=T+1:=by unfold YF;simp
theorem Cd  (h1:1<=T)(h2:T<=6)(h3:1<=A)(h4:A<=7):∀x∈szG T A,0<x/\x<18446744073709551616:=λx hx=>by
 unfold szG at hx
 grind
theorem BZ{T R}(h:R<=5):∀x∈YF T R,0<x/\x<18446744073709551616:=λx hx=>by unfold YF at hx;simp only[List.mem_append,List.mem_singleton,List.mem_replicate]at hx;rcases hx with ⟨_,rfl⟩|rfl<;>lia
theorem xS{T R:Nat}:(YF T R)[T]?=O 2:=by unfold YF;simp
theorem Cc{T A k}(h:k<T):(szG T A)[2+k]?=O 11:=by unfold szG;rw[show 2+k=k+1+1 by lia,J6,J6,QC,Qr h]
def O6(T A R:Nat)(S dz:D)(at_ n:Nat)(cs pl:zu)(ls:List (List zu))(x9 zP:Option Sl)(j:Nat)(ρ:UZ):Prop:=∃(rs:List zu)(bn au:Option Sl),
 ρ=[pb S,pb (.int at_),pb (.int (T:Nat)),pb (.int (A:Nat)),pb (.int (R:Nat)),pb dz,O (.own (cs.map int)),O (.own (ls.map KY)),x9,zP,pb (.list (pl.map int)),O (.own (rs.map Zn)),bn,au]/\Tq n pl j rs
theorem wd{T A R:Nat}{S dz:D}{at_ n:Nat}{cs pl:zu}{ls:List (List zu)}{v9 v10:D}{j:Nat}{d:D}{ρ:UZ}{Q:Out->Prop}(hcs:cs.length=n)(hT:T<=6)(hR:R<=5)(hn:n<=T)(hpl:pl.length=T+1)(zR:pl.getD T 0=0∨pl.getD T 0=1)
  (hj:(Yp 1 ((R:Int)+1))[j]?=O d) (h:O6 T A R S dz at_ n cs pl ls (O (.pub v9)) (O (.pub v10)) j ρ) :
  ∃ρ2,gN 12 d ρ=O ρ2/\Ho N6 ρ2 (SW (O6 T A R S dz at_ n cs pl ls (O (.pub v9)) (O (.pub v10)) (j+1)) Q):=by
 obtain⟨rs,bn,au,rfl,g⟩:=h;obtain⟨rfl,hlt⟩:=WS hj;have hj5:j<R:=by lia
 refine⟨_,U3 (Qa zo) zo,?_⟩;unfold N6
 have hrd:Yp 0 ((n:Nat):Int)=(UF n).map λk=>.int (k:Int):=by
  unfold Yp;have:((n:Int)-0).toNat=n:=by lia
  rw[this];apply Jo;intro k _;rw[JD]
 have hc:K4 (gN 14) (U1 oEq (Kb 10 (UU 14)) (UU 12)) (UU 14) (Yp 0 ((n:Nat):Int)) (KE [pb S,pb (.int at_),pb (.int (T:Nat)),pb (.int (A:Nat)),pb (.int (R:Nat)),pb dz,O (.own (cs.map int)),O (.own (ls.map KY)),pb v9,pb v10,pb (.list (pl.map int)),O (.own (rs.map Zn)),pb (.int (1+(j:Int))),au]++UG 1 zp) []=O ((SQ n pl (1+(j:Int))).map int):=by
  rw[hrd,Pv (λd=>match d with | .int k=>decide (pl.getD k.toNat 0=1+(j:Int))|_=>zr) (λd=>d) (λρ=>∃x,ρ=[pb S,pb (.int at_),pb (.int (T:Nat)),pb (.int (A:Nat)),pb (.int (R:Nat)),pb dz,zp,zp,pb v9,pb v10,pb (.list (pl.map int)),zp,pb (.int (1+(j:Int))),X9 au,x])]
  .rw[QR,List.map_id',List.filter_map]
   unfold SQ;rw[QQ];rfl
  .rintro d hm ρ ⟨x,rfl⟩
   obtain⟨k,hk,rfl⟩:=Qn.mp hm;have hk:=Q3.mp hk;refine⟨_,U3 (Qa zo) zo,Ki (K1 zo (UW zo) (NQ (by lia))) (UW zo) Wj,λ_=>UW zo,pb (.int k),?_⟩;unfold KE;cases au with
   |none=>rfl
   |some sl=>cases sl<;>rfl
  .exact⟨zp,rfl⟩
  .rw[Qb,Qo,Qw];lia
 have hlen:(cs.map int).length=n:=by rw[Qb,hcs]
 refine Kn (YQ (Zz (Wn (UY (qh zo) U5) (by rw[hlen];exact Ws (by lia) (by lia))) hc) (Qa zo) zo) ?_;generalize bI:SQ n pl (1+(j:Int))=row;apply K9
 case h1=>exact jy zo (Yb U5 (by decide)) zo xT
 case h2=>
  intro hh;have hne:row≠[]:=by simpa using hh
  have hlx:oIx (.list (pl.map int)) (.int (-1))=O (.int (pl.getD T 0)):=Ge (by rw[List.getLast?_eq_getElem?,Qb,hpl,Qd,Nat.add_sub_cancel];simp[List.getD,List.getElem?_eq_getElem (show T<pl.length by lia)])
  obtain⟨ah,hix,ak⟩:∃ah:zu,oIx (.list [.list (row.map int),.list (row.map int).reverse]) (.int (pl.getD T 0))=O (Zn ah)/\(ah=row∨ah=row.reverse):=by
   rcases zR with e|e
   .rw[e];exact⟨row,rfl,.inl zo⟩
   .rw[e];exact⟨row.reverse,by show O (UH (row.map int).reverse)=_;unfold Zn;rw[List.map_reverse],.inr zo⟩
  have zZ:(rs.map Zn).length<1000000:=by rw[Qb];have:=g.few;lia
  refine YO (V6 zo (Ki (Yb (UY (Xi zo zo) (UY (Ct (UW zo) Kd Kd (Te (Tr Kd))) U5)) (Qa zo)) (K1 zo (Tr Kd) hlx) hix) zo zZ zo) ?_;refine ZD ⟨rs++[ah],pb (.int (1+(j:Int))),pb (.list (row.map int)),by rw[Qu];rfl,g.add ?_ ?_ ?_⟩
  .rcases ak with e|e<;>rw[e]
   .exact hne
   .exact λz=>hne (List.reverse_eq_nil_iff.mp z)
  .intro t ht
   rw[bI];rcases ak with e|e<;>rw[e]at ht
   .exact ht
   .exact List.mem_reverse.mp ht
  .have hnd:=yk n pl (1+(j:Int))
   rw[bI]at hnd;rcases ak with e|e<;>rw[e]
   .exact hnd
   .exact(List.reverse_perm row).nodup_iff.mpr hnd
 case h3=>exact λ_=>Zo (ZD ⟨rs,_,_,rfl,g.next⟩)
def O5(T A R:Nat)(S dz:D)(at_ n:Nat)(cs:zu)(i:Nat)(ρ:UZ):Prop:=∃(ls:List (List zu))(x9 zP ap x12 bn au:Option Sl),
 ρ=[pb S,pb (.int at_),pb (.int (T:Nat)),pb (.int (A:Nat)),pb (.int (R:Nat)),pb dz,O (.own (cs.map int)),O (.own (ls.map KY)),x9,zP,ap,x12,bn,au]/\ls.length=i/\∀rs∈ls,Tg n rs/\rs.length<=R
theorem yj{T A R:Nat}{ns:zu}{dz:D}{at_ n:Nat}{cs:zu}{i:Nat}{m:Int}{d:D}{ρ:UZ}{Q:Out->Prop}(hns:ns.length<=1000)(hT:T<=6)(hR:R<=5)(hcs:cs.length=n)(hn:n<=T)(hm:m<=100)
  (hi:(Yp 0 m)[i]?=O d) (h:O5 T A R (.list (ns.map int)) dz at_ n cs i ρ) :
  ∃ρ2,gN 8 d ρ=O ρ2/\Ho NR ρ2 (SW (O5 T A R (.list (ns.map int)) dz at_ n cs (i+1)) Q):=by
 obtain⟨ls,x9,zP,ap,x12,bn,au,rfl,hl,hg⟩:=h;obtain⟨rfl,hlt⟩:=WS hi;refine⟨_,U3 (Qa zo) zo,?_⟩;unfold NR;obtain⟨v,hv⟩:=Di ns (at_+1+i) hns;have ev:((at_:Int)+1+(0+(i:Int)))=((at_+1+i:Nat):Int):=by lia
 rw[←ev]at hv;refine Kn (KM (Km (UY (UW zo) (UY (Ki (Ki (UW zo) Kd ZA) (UW zo) ZA) U5)) zo hv) (Qa zo) zo) ?_;obtain⟨r,hF,pl,rfl,hpl,hpb⟩:=Dj v (11*(at_:Int)+3*(0+(i:Int))+1) (sizes:=YF T R) (BZ hR) (by rw[FI];lia);have hpl7:pl.length=T+1:=by rw[hpl,FI]
 have hmul:KZ (.list [.int ((R:Int)+1)]) (.int (T:Nat))=O _:=Oq (by lia);have hadd:Ke (.list (UG T (.int ((R:Int)+1)))) (.list [.int 2])=O (.list ((YF T R).map int)):=by rw[YW (by rw[Q0];show T+1<=_;lia)];unfold YF;rw[Qu,List.map_replicate];rfl
 refine Kn (KM (Km (UY (UW zo) (UY (Ki (Ki (Ki Kd (UW zo) (Td (by decide) (by decide))) (Ki Kd (UW zo) (Td (by decide) (by decide))) ZA) Kd ZA) (UY (Ki (Ki (Yb (UY (Ki (UW zo) Kd ZA) U5) (Qa zo)) (UW zo) hmul) (Yb (UY Kd U5) (Qa zo)) hadd) U5))) zo hF) (Qa zo) zo) ?_;refine Kn (YQ (Rs U5 (Qa zo)) (Qa zo) zo) ?_
 have zR:pl.getD T 0=0∨pl.getD T 0=1:=by
  have e:pl[T]?=O pl[T]:=Qe (by lia);have:=hpb T pl[T] 2 e xS;have e2:pl.getD T 0=pl[T]:=by simp[List.getD,e]
  rw[e2];lia
 apply Ze;apply Z9 (O6 T A R (.list (ns.map int)) dz at_ n cs pl ls (O (.pub (.int (0+(i:Int))))) (O (.pub (.int v))))
 case h1=>exact Gx (UY Kd (UY (Ki (UW zo) Kd ZA) U5)) (Fv (by lia) (by lia) (by decide) (by decide))
 case h0=>exact⟨[],bn,au,rfl,⟨Qx _,λ_ h=>(by cases h),λ_ h=>(by cases h),List.nodup_nil⟩⟩
 case hst=>exact λj d ρ e h=>wd hcs hT hR hn hpl7 zR e h
 case hend=>
  rintro ρ ⟨rs,y13,y14,rfl,g⟩;refine Zj ?_;have hl5:(Yp 1 ((R:Int)+1)).length=R:=by rw[YV];lia
  rw[hl5]at g;have zQ:(ls.map KY).length<1000000:=by rw[Qb];lia
  refine YO (V6 zo (Xi zo zo) zo zQ zo) ?_;refine ZD ⟨ls++[rs],pb (.int (0+(i:Int))),pb (.int v),pb (.list (pl.map int)),pb (.list (rs.map Zn)),y13,y14,by rw[Qu];rfl,by rw[Qi,hl];rfl,λx hx=>?_⟩;rcases QH.mp hx with z|z
  .exact hg x z
  .rw[QB.mp z];exact⟨⟨by have:=g.few;lia,g.some,λr hr t ht=>(g.there r hr t ht).1,g.once⟩,g.few⟩
theorem Dh(T A R:Nat){ns:zu}(hns:ns.length<=1000)(at_:Nat)(hT1:1<=T:=by decide)(hT:T<=6:=by decide)(hA1:1<=A:=by decide)(hA:A<=7:=by decide)(hR:R<=5:=by decide):∃r,Wz [.list (ns.map int),.int at_,.int (T:Nat),.int (A:Nat),.int (R:Nat)]=O r/\∃cs ls,r=Kr cs ls/\Good cs ls/\cs.length<=T/\ls.length<=A/\∀rs∈ls,rs.length<=R:=by
 obtain⟨v,hv⟩:=Di ns at_ hns;obtain⟨r,hF,ds,rfl,hl,hd⟩:=Dj v at_ (sizes:=szG T A) (Cd hT1 hT hA1 hA) (by rw[Gd];lia);have hl8:ds.length=T+2:=by rw[hl,Gd]
 have at':∀(j:Nat)(k z:Int),k=j->(szG T A)[j]?=O z->∃d,oIx (.list (ds.map int)) (.int k)=O (.int d)/\ds[j]?=O d/\0<=d/\d<z:=λj k z hk hz=>by
  subst hk;have hj:j<ds.length:=by rw[hl];exact(Qg.mp hz).1
  have e:ds[j]?=O ds[j]:=Qe hj;obtain⟨p0,p1⟩:=hd j ds[j] z e hz;exact⟨ds[j],ZP (by rw[Qd,e];rfl),e,p0,p1⟩
 obtain⟨d0,x0,e0,p0,q0⟩:=at' 0 0 T zo zo;obtain⟨d1,x1,e1,p1,q1⟩:=at' 1 1 A zo zo;have hmul:KZ (.list [.int 11]) (.int (T:Nat))=O (.list (UG T (.int 11))):=Oq (by lia);have hadd:Ke (.list [.int (T:Nat),.int (A:Nat)]) (.list (UG T (.int 11)))=O (.list ((szG T A).map int)):=by rw[YW (by rw[Q0];show 2+T<=_;lia)];unfold szG;rw[Qv,Qv,List.map_replicate];rfl
 obtain⟨n,hn⟩:∃n:Nat,1+d0=n:=⟨(1+d0).toNat,by lia⟩
 refine V5  rfl ?_;unfold TU;refine Kn (KM (Km (UY (Km (UY (UW zo) (UY (UW zo) U5)) zo hv) (UY (UW zo) (UY (Ki (Yb (UY (UW zo) (UY (UW zo) U5)) (Qa zo)) (Ki (Yb (UY Kd U5) (Qa zo)) (UW zo) hmul) hadd) U5))) zo hF) (Qa zo) zo) ?_
 have ao:DL.cutD (ds.map int) (O 2) (O (3+d0))=((ds.drop 2).take n).map int:=by
  rw[jw (by decide) (by lia) (by lia)];have:(3+d0).toNat-(2:Int).toNat=n:=by lia
  rw[this];rfl
 have aI:((ds.drop 2).take n).length=n:=by rw[Ja,Jx,hl8];lia
 have each:∀z∈(ds.drop 2).take n,0<=z/\z<11:=λz hz=>by
  have hz:=List.mem_of_mem_take hz;obtain⟨k,hk,e⟩:=List.getElem_of_mem hz;rw[Jx,hl8]at hk;rw[List.getElem_drop]at e;have e2:ds[2+k]?=O z:=by rw[←e];exact Qe _
  refine hd (2+k) z 11 e2 (Cc ?_)
  lia
 let cs:zu:=((ds.drop 2).take n).map λz=>tab.getD z.toNat 0
 have hcl:cs.length=n:=by show(List.map _ _).length=n;rw[Qb,aI]
 have hc:∀xs:List (Option Sl),KE xs=xs->xs.length=14->K4 (gN 14) (U2 zq) (U1 oIx (K0 (UX (U2 (.int 1)) (UX (U2 (.int 1)) (UX (U2 (.int 2)) (UX (U2 (.int 0)) (UX (U2 (.int 3)) (UX (U2 (.int 7)) (UX (U2 (.int 1)) (UX (U2 (.int 4)) (UX (U2 (.int 5)) (UX (U2 (.int 6)) (UX (U2 (.int 1)) (UV))))))))))))) (UU 14)) (((ds.drop 2).take n).map int) (KE xs++UG 1 zp) []=O (cs.map int):=by
  intro xs hx hxl;rw[hx,Pv (λ_=>zq) (λd=>match d with | .int z=>.int (tab.getD z.toNat 0)|_=>.none) (λρ=>∃x,ρ=xs++[x])]
  .rw[JH.mpr (λ_ _=>rfl),QR,QQ]
   show _=O ((((ds.drop 2).take n).map λz=>tab.getD z.toNat 0).map int);rw[QQ];rfl
  .rintro d hm ρ ⟨x,rfl⟩
   obtain⟨z,hz,rfl⟩:=Qn.mp hm;have ht:=Hd (each z hz).1 (each z hz).2;have hset:(xs++[x]).set 14 (O (Sl.pub (.int z)))=xs++[pb (.int z)]:=by rw[List.set_append_right _ _ (by lia),hxl];rfl
   have hget:(xs++[O (Sl.pub (.int z))])[14]?=O (O (Sl.pub (.int z))):=by rw[Qt (by lia),hxl];rfl
   refine⟨_,U3 (by rw[Qi,hxl];exact Qa zo) hset,rfl,λ_=>?_,pb (.int z),?_⟩
   .exact Ki (Yb (UY Kd (UY Kd (UY Kd (UY Kd (UY Kd (UY Kd (UY Kd (UY Kd (UY Kd (UY Kd (UY Kd U5))))))))))) (Qa zo)) (UW hget) ht.1
   .unfold KE at hx⊢
    rw[Qu,hx];rfl
  .exact⟨zp,rfl⟩
  .rw[Qb,aI,Qw];lia
 refine Kn (YQ (Zz (Zv (Pc (UW zo) (Te Kd) (Te (Ki Kd (K1 zo Kd x0) ZA)) (by rw[Pp,ao])) Z0) (hc _ zo zo)) (Qa zo) zo) ?_;refine Kn (YQ (Rs U5 (Qa zo)) (Qa zo) zo) ?_;apply Ze;apply Z9 (O5 T A R (.list (ns.map int)) (.list (ds.map int)) at_ n cs)
 case h1=>exact Wn (UY (Ki Kd (K1 zo Kd x1) ZA) U5) (Ws (by lia) (by lia))
 case h0=>exact⟨[],_,_,_,_,_,_,rfl,rfl,λ_ h=>by cases h⟩
 case hst=>exact λi d ρ e h=>yj hns hT hR hcl (by lia) (by lia) e h
 case hend=>rintro ρ ⟨ls,y9,y10,y11,y12,y13,y14,rfl,zQ,hg⟩;rw[YV]at zQ;refine Zj (KJ (Yu (UY (Xi rfl rfl) (UY (Xi rfl rfl) U5)) (Qa rfl)) ⟨_,rfl,cs,ls,rfl,⟨?_,by lia,by lia,λrs hrs=>(hg rs hrs).2⟩⟩);exact⟨by lia,by lia,λc hc=>by obtain⟨z,hz,rfl⟩:=Qn.mp hc;exact(Hd (each z hz).1 (each z hz).2).2,by lia,by lia,λrs hrs=>by rw[hcl];exact(hg rs hrs).1⟩
noncomputable def Zc(t:Int)(rs:List zu):Nat:=if rs.findIdx (λr=>r.contains t)<rs.length then rs.findIdx (λr=>r.contains t)+1 else 0
theorem Gc(t)(r):oIn (.int t) (Zn r)=O (r.contains t):=by
 have h1:UL (r.map int)=zq:=by
  induction r with
  |nil=>rfl
  |cons x r ih=>rw[Qv];unfold UL;rw[ih];rfl
 unfold oIn Zn;dsimp only;rw[Qr ⟨rfl,h1,Uh _⟩]
 congr 1
 rw[List.any_map];clear h1;induction r with
 |nil=>rfl
 |cons x r ih=>
  rw[List.any_cons]
  congr 1
  exact Jv.2 ⟨λh=>beq_iff_eq.2 (beq_iff_eq.1 h).symm,λh=>beq_iff_eq.2 (beq_iff_eq.1 h).symm⟩
theorem xR  {rs}{i}{r}(hr:rs[i]?=O r)(h:r.contains t=zq)(hb:∀j r,j<i->rs[j]?=O r->r.contains t=zr):Zc t rs=1+i:=by obtain⟨hi,e⟩:=List.getElem?_eq_some_iff.1 hr;have hf   :=(List.findIdx_eq hi).2 ⟨by rw[e];exact h,λj hj=>hb j _ hj (Qe _)⟩;unfold Zc;rw[hf,Qr hi,Nat.add_comm]
theorem xQ  {rs}(hb:∀j r,j<rs.length->rs[j]?=O r->r.contains t=zr):Zc t rs=0:=by
 have hf   :=List.findIdx_eq_length.2 λr hr=>by obtain⟨j,hj,e⟩:=List.mem_iff_getElem.1 hr;exact hb j r hj (by simp_all)
 unfold Zc;rw[hf,QA (Jt _)]
theorem E4(t:Int)(rs):YL [KY rs,.int t]=O (.int (Zc t rs:Nat)):=by
 refine K5  rfl ?_;apply Ze;apply Z9 (λi ρ=>(∃x2 x3,ρ=[O _,pb (.int t),x2,x3])/\∀j r,j<i->rs[j]?=O r->r.contains t=zr)
 case h1=>exact Fu (UY (UW zo) U5) Et
 case h0=>exact⟨⟨_,_,rfl⟩,λj r h=>absurd h (Uc _)⟩
 case hst=>
  rintro i d ρ hi ⟨⟨x2,x3,rfl⟩,hb⟩;obtain⟨x,hx,rfl⟩:=Xz hi;rw[Qd]at hx;cases hr:rs[i]? with
  |none=>rw[hr]at hx;cases hx
  |some r=>
   rw[hr]at hx;cases hx;refine⟨_,Kw zo (U7 (U3 (Qa zo) zo) (U7 (U3 (Qa zo) zo) Kx)),?_⟩;apply K9
   case h1=>exact Yx zo (UW zo) (Gc t r)
   case h2=>intro hh;refine KJ (UW zo) (OA ?_);rw[xR hr hh hb];exact⟨rfl⟩
   case h3=>
    intro hh;refine Zo (ZD ⟨⟨_,_,rfl⟩,λj r' hj hr'=>?_⟩);rcases Nat.lt_succ_iff_lt_or_eq.1 hj with h|rfl
    .exact hb j r' h hr'
    .rw[hr]at hr';cases hr';exact hh
 case hend=>rintro ρ ⟨⟨x2,x3,rfl⟩,hb⟩;rw[Yv,Qb]at hb;refine Zj ?_;rw[xQ hb];exact KJ Kd rfl
noncomputable def Ko:zC->D
 |none=>.none
 |some t=>.int t
noncomputable def Kl(ws:LO):D:=.list (ws.map Ko)
structure Deal(cs:zu)(ls:List (List zu))(ws:LO):Prop where
 len:ws.length=ls.length
 wish:∀(i:Nat) t rs,ws[i]?=O (O t)->ls[i]?=O rs->t∈rs.flatten
 cop:∀(k:Nat) c,cs[k]?=O c->((ws.count (O (k:Int)):Nat):Int)<=c
theorem M0   (h:t∈rs.flatten):Zc t rs≠0:=by unfold Zc;simp_all
theorem Mn(ws:LO):UL (ws.map Ko)=zq:=TB λx hx=>by obtain⟨y,_,rfl⟩:=Qn.mp hx;cases y<;>rfl
theorem NP(a b):UN (Ko a) (Ko b)=decide (a=b):=by rw[Jv];cases a<;>cases b<;>simp[Ko,UN]
theorem E3   : W0 (Kl ws) (.int k)=O (.int (ws.count (O k):Nat)):=by
 unfold Kl W0;dsimp only;rw[if_pos ⟨rfl,Mn ws,by simp[UM]⟩]
 congr 3
 induction ws with
 |nil=>rfl
 |cons w r ih=>rw[Qv,List.countP_cons,JJ,ih];have:=NP w (O k);have e:Ko (O k)=.int k:=rfl;simp_all
theorem jW   {s}{t}{g}{ρ ρ1}{ds es}(h1:f ρ=.ok ds ρ1)(h2:K4 s t g ds (Z3 ρ1++UG k zp) []=O es)(h3:es.all flat=zq):R5 f k s t g ρ=.ok es ρ1:=by unfold R5;rw[h1];dsimp only;rw[h2];dsimp only;rw[if_pos h3]
theorem Cb{os:LO}{k:Nat}(h):oIx (.list (os.map Ko)) (.int k)=O (Ko os[k]):=ZP (by simp_all)
theorem jV(ws):(Kl ws).depth<=2:=Ro (RC λx hx=>by obtain⟨y,_,rfl⟩:=Qn.mp hx;cases y<;>simp[Ko,UM])
theorem Xa    (I:UZ->Prop):∀(ds qs:zw)(ρ:UZ)(es:zw),qs.length=ds.length ->
  (∀(i:Nat) d e,ds[i]?=O d->qs[i]?=O e->∀ρ,I ρ->∃ρ1,s d ρ=O ρ1/\t ρ1=.ok zq ρ1/\g ρ1=.ok e ρ1/\I (KE ρ1))->I ρ->es.length+ds.length<=1000000->K4 s t g ds ρ es=O (es++qs)
 |[],[],ρ,es,_,_,_,_=>by rw[K4,Jm]
 |d::r,e::q,ρ,es,hl,st,h0,hz=>by obtain⟨ρ1,e1,e2,e3,h1⟩:=st 0 d e zo zo ρ h0;rw[Qz]at hz;rw[K4,e1];dsimp only;rw[e2];dsimp only;rw[Qr zo,e3];dsimp only;rw[if_pos (by lia),Xa I r q _ _ (by simpa using hl) (λi d' e' x y=>st (i+1) d' e' (by simpa using x) (by simpa using y)) h1 (by rw[List.length_append,List.length_singleton];lia),List.append_assoc];rfl
noncomputable def rg(rs:List zu):zC->Int
 |none=>0
 |some t=>(Zc t rs:Nat)
noncomputable def U6(ls:List (List zu))(ws:LO):zu:=List.zipWith rg ls ws
noncomputable def lng(ls:List (List zu)):Nat:=(most (ls.map λrs=>(rs.length:Int))).toNat
noncomputable def Kk(L:Nat)(got:zu):zu:=(UF L).map (λr:Nat=>((got.count (1+(r:Int)):Nat):Int))++[((got.count 0:Nat):Int)]
noncomputable def Xu(cs:zu)(ws:LO):zu:=(UF cs.length).map λk:Nat=>cs.getD k 0-((ws.count (O (k:Int)):Nat):Int)
theorem Ga  (h:1<=ls.length):most (ls.map λrs=>(rs.length:Int))=(lng ls:Nat):=by
 have hm:most _∈ls.map λrs=>(rs.length):=Pq (by rw[Qb];lia)
 obtain⟨rs,_,e⟩:=Qn.mp hm;unfold lng
 lia
theorem Rk   (h:rs∈ls):rs.length<=lng ls:=by
 have h1:(_)<=most (ls.map λrs=>(rs.length)):=N9 (Qn.mpr ⟨rs,h,rfl⟩);have h2:=Ga  (List.length_pos_of_mem h)
 lia
theorem Nq   (h1:1<=ls.length)(h:∀rs∈ls,rs.length<=n):lng ls<=n:=by
 have hm:most _∈ls.map λrs=>(rs.length):=Pq (by rw[Qb];lia)
 obtain⟨rs,hr,e⟩:=Qn.mp hm;have:=h rs hr;unfold lng
 lia
theorem MK(t:Int)(rs:List zu):Zc t rs<=rs.length:=by
 unfold Zc
 split<;>lia
theorem yi(rs):YL [KY rs,.none]=O (.int 0):=by
 refine K5  rfl ?_;apply Ze;apply Z9 (λi ρ=>∃x2 x3,ρ=[O _,O (.pub .none),x2,x3])
 case h1=>exact Fu (UY (UW zo) U5) Et
 case h0=>exact⟨_,_,rfl⟩
 case hst=>
  rintro i d ρ hi ⟨x2,x3,rfl⟩;obtain⟨x,hx,rfl⟩:=Xz hi;rw[Qd]at hx;cases hr:rs[i]? with
  |none=>rw[hr]at hx;cases hx
  |some r=>
   rw[hr]at hx;cases hx;refine⟨_,Kw zo (U7 (U3 (Qa zo) zo) (U7 (U3 (Qa zo) zo) Kx)),?_⟩
   have hin:oIn .none (Zn r)=O zr:=by
    have h1   :=Rw r;unfold oIn Zn;dsimp only;rw[if_pos ⟨rfl,h1,by simp[UM]⟩]
    congr 1
    rw[List.any_map,List.any_eq_false];intro x _;simp[UN]
   apply K9
   case h1=>exact Yx zo (UW zo) hin
   case h2=>intro hh;cases hh
   case h3=>exact λ_=>Zo (ZD ⟨_,_,rfl⟩)
 case hend=>rintro ρ ⟨x2,x3,rfl⟩;exact Zj (KJ Kd rfl)
theorem yh(o)(rs):YL [KY rs,Ko o]=O (.int (rg rs o)):=by
 cases o with
 |none=>exact yi rs
 |some t=>exact E4 t rs
section
variable{cs:zu}{ls:List (List zu)}{ws:LO}
theorem SO:oIx (Kr cs ls) (.int 0)=O (.list (cs.map int)):=ZP (j:=0) zo
theorem Tk:oIx (Kr cs ls) (.int 1)=O (.list (ls.map KY)):=ZP (j:=1) zo
theorem Lj{i:Nat}{rs}(h:ls[i]?=O rs):oIx (.list (ls.map KY)) (.int i)=O (KY rs):=ZP (by simp_all)
theorem xP(rs):Kp [KY rs]=O (.int rs.length):=by unfold KY;rw[Zw,Qb]
theorem MZ(g:Good cs ls):Y5 [Kr cs ls]=O (.int (lng ls:Nat)):=by
 refine K5  rfl ?_;have hw:=Vc g
 have hc:K4 (gN 1) (U2 zq) (Zp 1) (ls.map KY) (KE [pb (Kr cs ls)]++UG 1 zp) []=O ((ls.map λrs=>(rs.length)).map int):=by
  refine Xa (λρ=>∃x,ρ=[O _,x]) _ _ _ _ (by rw[Qb,Qb,Qb]) ?_ ⟨zp,rfl⟩ (by rw[Qb,Qw];have:=g.l7;lia);rintro i d e hd he ρ ⟨x,rfl⟩;rw[Qd]at hd;rw[Qd,Qd]at he;cases hl:ls[i]? with
  |none=>rw[hl]at hd;cases hd
  |some rs=>
  rw[hl]at hd he;cases hd;cases he;exact⟨_,U3 (Qa zo) zo,rfl,ZI zo (xP rs),_,rfl⟩
 refine Kn (Y7 (Km (UY (UW zo) U5) zo hw)) ?_;refine KJ (Yd (UY (KN (Zz (Zv (K1 zo Kd Tk) Z0) hc)) U5) (jB (by rw[Qb];have:=g.l1;lia))) ?_;rw[Ga g.l1]
theorem FH{i:Nat}{rs}{o}(h1:ls[i]?=O rs)(h2:ws[i]?=O o):(U6 ls ws)[i]?=O (rg rs o):=by unfold U6;rw[List.getElem?_zipWith,h1,h2]
theorem Dg(g:Good cs ls)(hl:ws.length=ls.length):X5 [Kr cs ls,Kl ws]=O (.list ((U6 ls ws).map int)):=by
 refine K5  rfl ?_;unfold Sv;have hw:=Vc g;have zZ:(U6 ls ws).length=ls.length:=by unfold U6;rw[List.length_zipWith];omega
 have hc:K4 (gT 2 (gNC (gN 2) (gNC (gN 3) (gN0)))) (U2 zq) (U4 2 YL (UX (U1 oIx (Kb 0 (U2 (.int 1))) (UU 2)) (UX (UU 3) (UV)))) (Z2 0 (ws.map Ko)) (KE [pb (Kr cs ls),pb (Kl ws)]++UG 2 zp) []=O ((U6 ls ws).map int):=by
  refine Xa (λρ=>∃x y,ρ=[pb (Kr cs ls),pb (Kl ws),x,y]) _ _ _ _ (by rw[Qb,Yv,Qb];omega) ?_ ⟨zp,zp,rfl⟩ (by rw[Yv,Qb,Qw];have:=g.l7;omega);rintro i d e hd he ρ ⟨x,y,rfl⟩;obtain⟨z,hz,rfl⟩:=Xz hd;rw[Qd]at hz;cases hwi:ws[i]? with
  |none=>rw[hwi]at hz;cases hz
  |some o=>
  rw[hwi]at hz;cases hz;have zO:i<ls.length:=by have:=(Qg.mp hwi).1;omega
  have hls   :=Qe zO;rw[Qd,FH hls hwi]at he;cases he;rw[QK];exact⟨_,Kw zo (U7 (U3 (Qa zo) zo) (U7 (U3 (Qa zo) zo) Kx)),rfl,Km (UY (Ki (K1 zo Kd Tk) (UW zo) (Lj hls)) (UY (UW zo) U5)) zo (yh o ls[i]),_,_,rfl⟩
 refine Kn (Y7 (Km (UY (UW zo) U5) zo hw)) ?_;exact KJ (KN (Zz (Wk (UY (UW zo) U5) Wg) hc)) zo
theorem EL{xs:zu}{k}:W0 (.list (xs.map int)) (.int k)=O (.int (xs.count k:Nat)):=by
 have:=E3 (ws:=xs.map O) (k:=k);unfold Kl at this;rw[QQ]at this
 have e:(xs.map O).count (O k)=xs.count k:=by
  rw[List.count,List.countP_map]
  congr 1
 rw[e]at this;exact this
theorem Pz(g:Good cs ls)(hl:ws.length=ls.length):YK [Kr cs ls,Kl ws]=O (.list ((Kk (lng ls) (U6 ls ws)).map int)):=by
 refine K5  rfl ?_;unfold Su;refine Kn (KM (Km (UY (UW zo) (UY (UW zo) U5)) zo (Dg g hl)) (Qa zo) zo) ?_;have h5:lng ls<=5:=Nq g.l1 λrs hr=>(g.rk rs hr).few
 have hc:K4 (gN 3) (U2 zq) (V7 (UU 2) (UX (UU 3) (UV))) (Yp 1 ((lng ls:Nat)+1)) (KE [pb (Kr cs ls),pb (Kl ws),pb (.list ((U6 ls ws).map int))]++UG 1 zp) []=O (((UF (lng ls)).map (λr:Nat=>(((U6 ls ws).count (1+(r:Int)):Nat):Int))).map int):=by
  have zZ:(Yp 1 (((lng ls:Nat):Int)+1)).length=lng ls:=by rw[YV];omega
  refine Xa (λρ=>∃x,ρ=[pb (Kr cs ls),pb (Kl ws),O _,x]) _ _ _ _ (by rw[zZ,Qb,Qb,Qo]) ?_ ⟨zp,rfl⟩ (by rw[zZ,Qw];omega);rintro i d e hd he ρ ⟨x,rfl⟩;obtain⟨rfl,hlt⟩:=WS hd;have hi:i<lng ls:=by omega
  rw[Qd,Qd,Qe (by rw[Qo];exact hi),List.getElem_range]at he;cases he;exact⟨_,U3 (Qa zo) zo,rfl,Mb (UW zo) (UY (UW zo) U5) EL,_,rfl⟩
 refine KJ (Ki (KN (Zz (Gx (UY Kd (UY (Ki (Km (UY (UW zo) U5) zo (MZ g)) Kd ZA) U5)) (Fv (by omega) (by omega) (by decide) (by decide))) hc)) (Yb (UY (Mb (UW zo) (UY Kd U5) EL) U5) (Qa zo)) (YW (by rw[Qb,Qb,Qo];show lng ls+1<=_;omega))) ?_;unfold Kk;rw[Qu];rfl
theorem yZ(g:Good cs ls):VL [Kr cs ls,Kl ws]=O (.list ((Xu cs ws).map int)):=by
 refine K5  rfl ?_;have hw:=Vc g
 have hc:K4 (gT 2 (gNC (gN 2) (gNC (gN 3) (gN0)))) (U2 zq) (U1 Zi (UU 3) (V7 (UU 1) (UX (UU 2) (UV)))) (Z2 0 (cs.map int)) (KE [pb (Kr cs ls),pb (Kl ws)]++UG 2 zp) []=O ((Xu cs ws).map int):=by
  refine Xa (λρ=>∃x y,ρ=[O _,pb (Kl ws),x,y]) _ _ _ _ (by unfold Xu;rw[Qb,Qb,Qo,Yv,Qb]) ?_ ⟨zp,zp,rfl⟩ (by rw[Yv,Qb,Qw];have:=g.c6;lia);rintro i d e hd he ρ ⟨x,y,rfl⟩;obtain⟨z,hz,rfl⟩:=Xz hd;rw[Qd]at hz;cases hci:cs[i]? with
  |none=>rw[hci]at hz;cases hz
  |some c=>
  rw[hci]at hz;cases hz;have zO:i<cs.length:=(Qg.mp hci).1;unfold Xu at he;rw[Qd,Qd,Qe (by rw[Qo];exact zO),List.getElem_range]at he;cases he;rw[QK];have e:cs.getD i 0=c:=by simp[List.getD,hci]
  dsimp only;rw[e];exact⟨_,Kw zo (U7 (U3 (Qa zo) zo) (U7 (U3 (Qa zo) zo) Kx)),rfl,Ki (UW zo) (Mb (UW zo) (UY (UW zo) U5) E3) Xh,_,_,rfl⟩
 refine Kn (Y7 (Km (UY (UW zo) U5) zo hw)) ?_;exact KJ (KN (Zz (Wk (UY (K1 zo Kd SO) U5) Wg) hc)) zo
end
def okR(L:Nat)(got:zu):Prop:=∀r∈got,0<=r/\r<=L
theorem Wr(L)(got):(Kk L got).length=L+1:=by unfold Kk;simp_all
noncomputable def VX(xs:zu)(p:Nat)(d:Int):zu:=xs.set p (xs.getD p 0+d)
theorem Eg    : (VX xs p d).length=xs.length:=by unfold VX;rw[Jb]
theorem xO  {p q}{d v}(h:xs[q]?=O v):(VX xs p d)[q]?=O (if q=p then v+d else v):=by
 unfold VX;have hq   :=(Qg.mp h).1;by_cases e:q=p
 .subst e
  rw[QI hq];simp[List.getD,h]
 .rw[Qp (λz=>e z.symm),QA e,h]
theorem EK:∀(qs:zI)(n:Nat),(∀q∈qs,q<n)->((UF n).map λp=>((qs.count p:Nat):Int)).sum=qs.length
 |[],n,_=>by
  have:((UF n).map λp=>((([]:zI).count p:Nat):Int))=(UF n).map λ_=>(0:Int):=by apply List.map_congr_left;intro p _;simp
  clear this;induction n with
  |zero=>rfl
  |succ n ih=>rw[JK,Qu,Ud,ih (λq hq=>by cases hq)];rfl
 |q::r,n,h=>by
  have ih:=EK r n λx hx=>h x (Qj _ hx);have hq:=h q Ql
  have e:((UF n).map λp=>(((q::r).count p:Nat):Int)).sum=((UF n).map λp=>((r.count p:Nat):Int)).sum+((UF n).map λp=>if q=p then(1:Int)else 0).sum:=by
   clear ih hq h;induction n with
   |zero=>rfl
   |succ n ih=>
    rw[JK,Qu,Qu,Qu,Ud,Ud,Ud,ih];simp only[Qv,List.map_nil,Jn,List.sum_nil,JJ,beq_iff_eq]
    split<;>omega
  rw[e,ih]
  have one:∀m:Nat,((UF m).map λp=>if q=p then(1:Int)else 0).sum=if q<m then 1 else 0:=by
   intro m;induction m with
   |zero=>simp
   |succ m ih=>
    rw[JK,Qu,Ud,ih];simp only[Qv,List.map_nil,Jn,List.sum_nil]
    split<;>split<;>split<;>omega
  rw[one n,Qr hq,Qz];omega
theorem Wi   : okR (lng ls) (U6 ls ws):=λr hr=>by
 unfold U6 at hr;obtain⟨i,hi,e⟩:=List.mem_iff_getElem.mp hr;rw[List.getElem_zipWith]at e;rw[List.length_zipWith]at hi;have hm:ls[i]'(by omega)∈ls:=Jy _;have h1:=Rk hm;rw[←e];cases ws[i]'_ with
 |none=>exact⟨Jd _,by show(0)<=_;omega⟩
 |some t=>have h2:=MK t (ls[i]'(by omega));exact⟨by show(0)<=((Zc t _):Int);omega,by show((Zc t _):Int)<=_;omega⟩
theorem HZ  (h1:d.canLay0=zq)(h2:d.depth<=60):oNe d d=O zr:=by unfold oNe;rw[Qr ⟨h1,h1,h2⟩,Oz _ h1];rfl
theorem Np  : oEq (Ko a) (Ko b)=O (decide (a=b)):=by unfold oEq;rw[if_pos ⟨by cases a<;>rfl,by cases b<;>rfl,by cases a<;>simp[Ko,UM]⟩,NP]
theorem Ca  : oNe (Ko a) (Ko b)=O (!decide (a=b)):=by unfold oNe;rw[if_pos ⟨by cases a<;>rfl,by cases b<;>rfl,by cases a<;>simp[Ko,UM]⟩,NP]
theorem D9  {a:Nat}(h:a<=xs.length):DL.cutD xs zp (O (a:Int))=xs.take a:=by
 unfold DL.cutD HT.sIx;dsimp only;rw[QA (by lia),QS];have:min a xs.length=a:=by lia
 rw[this];simp
theorem jU  {a:Nat}(h:a<=xs.length):DL.cutD xs (O (a:Int)) zp=xs.drop a:=by
 unfold DL.cutD HT.sIx;dsimp only;rw[QA (by lia),QS];have:min a xs.length=a:=by lia
 rw[this,List.take_of_length_le (by simp_all)]
theorem EJ    (I:UZ->Prop):∀(ds qs:zw)(ρ:UZ)(es:zw),qs.length=ds.length ->
  (∀(i:Nat) d e,ds[i]?=O d->qs[i]?=O e->∀ρ,I ρ->∃ρ1,s d ρ=O ρ1/\t ρ1=.ok zq ρ1/\g ρ1=.ok e ρ1/\I (KE ρ1))->I ρ->es.length+ds.length<=1000000->∃ρ',YU s t g ds ρ es=O (es++qs,ρ')/\I ρ'
 |[],[],ρ,es,_,_,h0,_=>⟨ρ,by rw[YU,Jm],h0⟩
 |d::r,e::q,ρ,es,hl,st,h0,hz=>by obtain⟨ρ1,e1,e2,e3,h1⟩:=st 0 d e zo zo ρ h0;rw[Qz]at hz;obtain⟨ρ',e',h'⟩:=EJ I r q _ (es++[e]) (by simpa using hl) (λi d' e' x y=>st (i+1) d' e' (by simpa using x) (by simpa using y)) h1 (by rw[List.length_append,List.length_singleton];lia);refine⟨ρ',?_,h'⟩;rw[YU,e1];dsimp only;rw[e2];dsimp only;rw[Qr zo,e3];dsimp only;rw[Qr (by lia),e',Q2];rfl
theorem MY    {Rd}(I:UZ->Prop):∀(ds:zw)(qs:List zw)(ρ:UZ)(es:zw),qs.length=ds.length ->
  (∀(i:Nat) d q,ds[i]?=O d->qs[i]?=O q->∀ρ es,I ρ->es.length+q.length<=1000000->∃ρ1 xs ρ2 ρ3,s d ρ=O ρ1/\t ρ1=.ok zq ρ1/\f ρ1=.ok xs ρ2/\Rd xs (KE ρ2) es=O (es++q,ρ3)/\I ρ3)->I ρ->es.length+qs.flatten.length<=1000000->∃ρ',Xx s t f Rd ds ρ es=O (es++qs.flatten,ρ')/\I ρ'
 |[],[],ρ,es,_,_,h0,_=>⟨ρ,by rw[Xx,List.flatten_nil,Jm],h0⟩
 |d::r,q::qr,ρ,es,hl,st,h0,hz=>by rw[JZ,Qi]at hz;obtain⟨ρ1,xs,ρ2,ρ3,e1,e2,e3,e4,h1⟩:=st 0 d q zo zo ρ es h0 (by lia);obtain⟨ρ',e',h'⟩:=MY I r qr ρ3 (es++q) (by simpa using hl) (λi d' e' x y=>st (i+1) d' e' (by simpa using x) (by simpa using y)) h1 (by rw[List.length_append];lia);refine⟨ρ',?_,h'⟩;rw[Xx,e1];dsimp only;rw[e2];dsimp only;rw[Qr zo,e3];dsimp only;rw[e4];dsimp only;rw[e',JZ,Q2]
noncomputable def WL(i:Nat)(rs:List zu):LP:=rs.flatten.map λt=>((i:Int),t)
noncomputable def Z6(k:Nat):List (List zu)->LP
 |[]=>[]
 |rs::ls=>WL k rs++Z6 (k+1) ls
noncomputable def Kf(k:Nat):List (List zu)->LP
 |[]=>[]
 |rs::ls=>(Y6 rs.flatten).map (λt=>((k:Int),t))++Kf (k+1) ls
theorem RB:∀(ls)(k),(Kf k ls).Perm (Z6 k ls)
 |[],_=>.nil
 |rs::ls,k=>((W8 rs.flatten).map _).append (RB ls _)
theorem Mm:∀(ls)(k),∀q∈Kf k ls,(k:Int)<=q.1
 |[],_,q,h=>by cases h
 |rs::ls,k,q,h=>by
  rcases QH.mp h with h|h
  .obtain⟨t,_,rfl⟩:=Qn.mp h;exact Jd _
  .have:=Mm ls _ q h;lia
theorem V8:∀{ls}{k}{q},q∈Kf k ls->∃i rs,ls[i]?=O rs/\q.1=((k+i:Nat):Int)/\q.2∈rs.flatten
 |[],_,q,h=>by cases h
 |rs::ls,k,q,h=>by
  rcases QH.mp h with h|h
  .obtain⟨t,ht,rfl⟩:=Qn.mp h
   exact⟨0,rs,rfl,rfl,(W8 _).mem_iff.mp ht⟩
  .obtain⟨i,rs',h1,h2,h3⟩:=V8 h
   exact⟨i+1,rs',by simpa using h1,by rw[h2];congr 1;lia,h3⟩
theorem FG:∀{ls}{k i}{rs}{t},ls[i]?=O rs->t∈rs.flatten->(((k+i:Nat):Int),t)∈Kf k ls
 |rs::ls,k,0,rs',t,h,ht=>by cases h;exact QU _ (Qn.mpr ⟨t,(W8 _).mem_iff.mpr ht,rfl⟩)
 |rs::ls,k,i+1,rs',t,h,ht=>by have:=FG  (k:=k+1)  (by simpa using h) ht;rw[show k+1+i=k+(i+1)by lia]at this;exact QD _ this
theorem FF{n:Nat}(hn:n<=6):∀(ls:List (List zu))(k),(∀rs∈ls,∀t∈rs.flatten,0<=t/\t<n)->(Kf k ls).Pairwise λx y=>KP x<=KP y
 |[],_,_=>.nil
 |rs::ls,k,h=>by
  refine List.pairwise_append.mpr ⟨?_,FF hn ls _ λrs' hr=>h rs' (Qj _ hr),λx hx y hy=>?_⟩
  .rw[Uf]
   refine(OY rs.flatten).imp λ{a b} hab=>?_
   unfold KP;simp_all
  .obtain⟨t,ht,rfl⟩:=Qn.mp hx
   have h1:=Mm ls _ y hy;have h2:=h rs Ql t ((W8 _).mem_iff.mp ht);obtain⟨i,rs',g1,g2,g3⟩:=V8 hy;have h3:=h rs' (Qj _ (Qy g1)) y.2 g3;unfold KP
   lia
theorem Tg.flat   (g:Tg n rs):∀t∈rs.flatten,0<=t/\t<n:=λt ht=>by obtain⟨r,h1,h2⟩:=J7.mp ht;exact g.there r h1 t h2
section
variable{cs:zu}{ls:List (List zu)}
theorem FE(n):∀(ls)(k),(∀rs∈ls,rs.flatten.length<=n)->(Z6 k ls).length<=ls.length*n
 |[],_,_=>by simp[Z6]
 |rs::ls,k,h=>by
  have h1:=FE n ls (k+1) λr hr=>h r (Qj _ hr);have h2:=h rs Ql
  show(WL k rs++Z6 _ ls).length<=_
  rw[Qi,Qz];unfold WL;rw[Qb]
  lia
theorem wc(g:Good cs ls):WU (Z6 0 ls)=Kf 0 ls:=by
 have hf   :=λrs hr=>(g.rk rs hr).flat
 have ok:∀q∈Kf 0 ls,okP q:=λq hq=>by obtain⟨i,rs,h1,h2,h3⟩:=V8 hq;have:=hf rs (Qy h1) q.2 h3;have:=g.c6;exact⟨by lia,by lia⟩
 exact(Mr ok ((RB ls 0).trans (E8 _).symm) (FF g.c6 ls 0 hf) (Ep _)).symm
theorem CZ(g:Good cs ls):∀q∈Z6 0 ls,okP q:=λq hq=>by obtain⟨i,rs,h1,h2,h3⟩:=V8 ((RB ls 0).mem_iff.mpr hq);have:=(g.rk rs (Qy h1)).flat q.2 h3;have:=g.c6;exact⟨by lia,by lia⟩
theorem Pe(g:Good cs ls):(Z6 0 ls).length<=42:=by
 have h:=FE 6 ls 0 λrs hr=>QM (Mo (g.rk rs hr)) g.c6
 have:=g.l7
 lia
theorem NO:∀(ls)(k),((ls.zipIdx k).map λp=>(WL p.2 p.1).map Kz).flatten=(Z6 k ls).map Kz
 |[],_=>rfl
 |rs::ls,k=>by rw[List.zipIdx_cons,Qv,JZ,NO ls _];show _=(WL k rs++Z6 _ ls).map Kz;simp_all
theorem yV(g:Good cs ls):VN [Kr cs ls]=O (.list ((Kf 0 ls).map Kz)):=by
 refine K5 (ρ:=[pb (Kr cs ls)]) zo ?_;unfold Sy;refine Kn (Y7 (Km (UY (UW zo) U5) zo (Vc g))) ?_
 have hc:∃ρ',Xx (gT 2 (gNC (gN 1) (gNC (gN 2) (gN0)))) (U2 zq) (K2 (UU 2)) (Xx (gN 3) (U2 zq) (K2 (UU 3)) (YU (gN 4) (U2 zq) (KI (UX (UU 1) (UX (UU 4) (UV)))))) (Z2 0 (ls.map KY)) (KE [pb (Kr cs ls)]++UG 4 zp) []=O ((Z6 0 ls).map Kz,ρ'):=by
  have key:=MY (s:=gT 2 (gNC (gN 1) (gNC (gN 2) (gN0)))) (t:=U2 zq) (f:=K2 (UU 2)) (Rd:=Xx (gN 3) (U2 zq) (K2 (UU 3)) (YU (gN 4) (U2 zq) (KI (UX (UU 1) (UX (UU 4) (UV))))))
   (λρ=>∃x1 x2 x3 x4,ρ=[pb (Kr cs ls),x1,x2,x3,x4]) (Z2 0 (ls.map KY)) ((ls.zipIdx 0).map λp=>(WL p.2 p.1).map Kz) (KE [pb (Kr cs ls)]++UG 4 zp) [] (by rw[Qb,List.length_zipIdx,Yv,Qb]) ?_ ⟨zp,zp,zp,zp,rfl⟩ (by rw[NO,Qb,Qw];have:=Pe g;lia)
  .obtain⟨ρ',e,_⟩:=key
   rw[NO,QR]at e;exact⟨ρ',e⟩
  rintro i d q hd hq ρ es ⟨x1,x2,x3,x4,rfl⟩ hlen;obtain⟨z,hz,rfl⟩:=Xz hd;rw[Qd]at hz;rw[Qd,List.getElem?_zipIdx]at hq;cases hls:ls[i]? with
  |none=>rw[hls]at hz;cases hz
  |some rs=>
  rw[hls]at hz hq;cases hz;cases hq;rw[QK]at *;dsimp only at hlen⊢
  have inner:=MY (s:=gN 3) (t:=U2 zq) (f:=K2 (UU 3)) (Rd:=YU (gN 4) (U2 zq) (KI (UX (UU 1) (UX (UU 4) (UV)))))
   (λρ=>∃x3 x4,ρ=[pb (Kr cs ls),pb (.int i),pb (KY rs),x3,x4]) (rs.map Zn) (rs.map λr=>r.map λt=>Kz ((i:Int),t)) _ es (by rw[Qb,Qb]) ?_ ⟨X9 x3,X9 x4,rfl⟩ ?_
  .obtain⟨ρ3,e3,y3,y4,h3⟩:=inner
   have ef:(rs.map λr=>r.map λt=>Kz ((i:Int),t)).flatten=(WL i rs).map Kz:=by unfold WL;rw[QQ,List.map_flatten];rfl
   rw[ef]at e3;exact⟨_,_,_,ρ3,Kw zo (U7 (U3 (Qa zo) zo) (U7 (U3 (Qa zo) zo) Kx)),rfl,Zv (UW zo) zo,e3,_,_,_,_,h3⟩
  .rintro j d q hd hq ρ es' ⟨y3,y4,rfl⟩ aK
   rw[Qd]at hd hq;cases hr:rs[j]? with
   |none=>rw[hr]at hd;cases hd
   |some r=>
   rw[hr]at hd hq;cases hd;cases hq
   obtain⟨ρ3,e3,z4,h3⟩:=EJ (s:=gN 4) (t:=U2 zq) (g:=KI (UX (UU 1) (UX (UU 4) (UV)))) (λρ=>∃x4,ρ=[pb (Kr cs ls),pb (.int i),pb (KY rs),pb (Zn r),x4]) (r.map int) (r.map λt=>Kz ((i:Int),t)) _ es' (by rw[Qb,Qb]) (by
    rintro m d e hd he ρ ⟨x4,rfl⟩;rw[Qd]at hd he;cases hm:r[m]? with
    |none=>rw[hm]at hd;cases hd
    |some t=>
    rw[hm]at hd he;cases hd;cases he;exact⟨_,U3 (Qa zo) zo,rfl,Yu (UY (UW zo) (UY (UW zo) U5)) (Qa zo),_,rfl⟩) ⟨X9 y4,rfl⟩ (by rw[Qb]at aK⊢;exact aK)
   exact⟨_,_,_,ρ3,U3 (Qa zo) zo,rfl,Zv (UW zo) zo,e3,_,_,h3⟩
  .have ef:(rs.map λr=>r.map λt=>Kz ((i:Int),t)).flatten=(WL i rs).map Kz:=by
    unfold WL;rw[QQ,List.map_flatten];rfl
   rw[ef];exact hlen
 obtain⟨ρ',hc⟩:=hc;have hs:=vw (qs:=Z6 0 ls) (by have:=Pe g;lia) (CZ g);rw[wc g]at hs;exact KJ (Yd (UY (KN (jK (Wk (UY (K1 zo Kd Tk) U5) Wg) hc)) U5) hs) zo
end
noncomputable def fnz:zu->Int
 |[]=>0
 |x::r=>if x=0 then fnz r else x
inductive Ord where|firsts|full|lasts
noncomputable def Ord.tx:Ord->Str
 |.firsts=> "firsts" | .full=> "full" | .lasts=> "lasts"
noncomputable def Ord.isF:Ord->Bool
 |.firsts=>zq|_=>zr
noncomputable def Ord.isU:Ord->Bool
 |.full=>zq|_=>zr
theorem CY(o:Ord):oEq (.str o.tx) (.str "firsts")=O o.isF:=by cases o<;>decide +kernel
theorem CW(o:Ord):oEq (.str o.tx) (.str "full")=O o.isU:=by cases o<;>decide +kernel
noncomputable def KB(xs ys:zu):zu:=(xs.zip ys).map λp=>p.1-p.2
noncomputable def V0(o:Ord)(xs ys:zu):zu:=match o with
 |.firsts=>KB xs ys
 |.full=>((KB xs ys).map λx=>-x).drop ((KB xs ys).length-1)++KB xs ys
 |.lasts=>((KB xs ys).map λx=>-x).reverse
theorem yU(o:Ord):VJ [.str o.tx]=O (.bool zq):=by
 refine K5  rfl ?_;have h:oIn (.str o.tx) (.tuple ((["firsts", "full", "lasts"]:List Str).map UJ))=O zq:=by cases o<;>decide +kernel
 exact KJ (Oj (KN  (UW zo)) (λ_=>KN (Yx zo Kd h))) zo
theorem xN(o:Ord):VI [.str o.tx]=O .none:=by
 refine Pb  rfl ?_;apply K9
 case h1=>exact XG (Wt (Km (UY (UW zo) U5) zo (yU o)))
 case h2=>simp_all
 case h3=>exact λ_=>Zo ⟨_,rfl⟩
noncomputable def YX:zG->D
 |none=>.none
 |some ws=>Kl ws
noncomputable def K6(o:Ord)(old:zG)(ts:zu):D:=.tuple [.str o.tx,YX old,.list (ts.map int)]
structure Yh(n m:Nat)(old:zG)(ts:zu):Prop where
 len:∀ws,old=O ws->ws.length=m
 old:∀ws t,old=O ws->O t∈ws->0<=t/\t<n
 once:ts.Nodup
 there:∀a∈ts,0<=a/\a<m
theorem Yh.few  {old}{ts}(g:Yh n m old ts):ts.length<=m:=Rv m ts g.once g.there
theorem xM{n m:Nat}{old:zG}(h1:∀ws,old=O ws->ws.length=m)(h2:∀ws t,old=O ws->O t∈ws->0<=t/\t<n)(hm:m<=1000):VH [YX old,.int m,.int n]=O (.bool zq):=by
 refine K5  rfl ?_;unfold Ss;apply Ze;cases old with
 |none=>
  apply K9
  case h1=>exact KN (UW zo)
  case h2=>exact λ_=>KJ Kd (Tc zo)
  case h3=>intro hh;cases hh
 |some ws=>
  have hl:=h1 ws zo;have hlen:Kp [Kl ws]=O (.int m):=by unfold Kl;rw[Zw,Qb,hl]
  apply K9
  case h1=>exact KN (UW zo)
  case h2=>intro hh;cases hh
  case h3=>
   intro _;refine Zo (Zj ?_);apply Ze;apply K9
   case h1=>exact WX  (Ta (UW zo) zo) (Ki (ZI zo hlen) (UW zo) Ow)
   case h2=>intro hh;simp at hh
   case h3=>
    intro _;refine Zo (Zj ?_)
    have hc:K4 (gN 3) (U2 zq) (Vj (Ka (λd=>.bool (isNon d)) (UU 3)) (U4 2 Z1 (UX (UU 3) (UX (UU 2) (UV))))) (ws.map Ko) (KE [pb (Kl ws),pb (.int m),pb (.int n)]++UG 1 zp) []=O (ws.map λ_=>.bool zq):=by
     refine Xa (λρ=>∃x,ρ=[pb (Kl ws),pb (.int m),pb (.int n),x]) _ _ _ _ (by simp only[Qb]) ?_ ⟨zp,rfl⟩ (by rw[Qb,Qw];lia);rintro i d e hd he ρ ⟨x,rfl⟩;rw[Qd]at hd he;cases hw:ws[i]? with
     |none=>rw[hw]at hd;cases hd
     |some o=>
     rw[hw]at hd he;cases hd;cases he;refine⟨_,U3 (Qa zo) zo,rfl,?_,_,rfl⟩;cases o with
     |none=>exact Hi (t:=zq) (u:=zq) (KN  (x:=.none) (UW zo)) (λh=>nomatch h)
     |some t=>have hb:=h2 ws t zo (Qy hw);exact Hi (t:=zr) (u:=zq) (KN (k:=λd=>UI (isNon d)) (x:=.int t) (UW zo)) (λ_=>Km (UY (UW zo) (UY (UW zo) U5)) zo (OU hb.1 hb.2))
    exact KJ (Yd (UY (KN (Zz (Zv (UW zo) zo) hc)) U5) (OT ws)) zo
theorem yg{m:Nat}{ts:zu}(h1:ts.Nodup)(h2:∀a∈ts,0<=a/\a<m)(hm:m<=1000):VG [.list (ts.map int),.int m]=O (.bool zq):=by
 refine K5  rfl ?_;unfold Sr;have hl:=Rv m ts h1 h2;apply Ze
 have hc:K4 (gN 2) (U2 zq) (U4 2 Z1 (UX (UU 2) (UX (UU 1) (UV)))) (ts.map int) (KE [pb (.list (ts.map int)),pb (.int m)]++UG 1 zp) []=O (ts.map λ_=>.bool zq):=by
  refine Xa (λρ=>∃x,ρ=[O _,pb (.int m),x]) _ _ _ _ (by simp only[Qb]) ?_ ⟨zp,rfl⟩ (by rw[Qb,Qw];lia);rintro i d e hd he ρ ⟨x,rfl⟩;rw[Qd]at hd he;cases hw:ts[i]? with
  |none=>rw[hw]at hd;cases hd
  |some t=>
  rw[hw]at hd he;cases hd;cases he;have hb:=h2 t (Qy hw);exact⟨_,U3 (Qa zo) zo,rfl,Km (UY (UW zo) (UY (UW zo) U5)) zo (OU hb.1 hb.2),_,rfl⟩
 apply K9
 case h1=>exact WX  (Ta (UW zo) zo) (XG (Wt (Yd (UY (KN (Zz (Zv (UW zo) Z0) hc)) U5) (OT ts))))
 case h2=>intro hh;cases hh
 case h3=>
  intro _;refine Zo (Zj ?_);have hs:W4 [.list (ts.map int)]=O (.int ts.length):=by unfold W4;dsimp only;rw[RL];dsimp only;rw[Qr (by lia),E5 h1]
  have hlen:Kp [.list (ts.map int)]=O (.int ts.length):=by rw[Zw,Qb]
  refine KJ (KN (Ki (Yd (UY (UW zo) U5) hs) (ZI zo hlen) Wj)) ?_;simp
section
variable{cs:zu}{ls:List (List zu)}{o:Ord}{old:zG}{ts:zu}
theorem PY(g:Good cs ls)(ga:Yh cs.length ls.length old ts):YA [Kr cs ls,K6 o old ts]=O .none:=by
 refine Pb  rfl ?_;unfold Sq;have l7:=g.l7;have c6:=g.c6;have zQ:Kp [.list (ls.map KY)]=O (.int ls.length):=by rw[Zw,Qb]
 have ay:Kp [.list (cs.map int)]=O (.int cs.length):=by rw[Zw,Qb]
 refine Kn (Y7 (Km (UY (UW zo) U5) zo (Vc g))) ?_;apply Ze;apply K9
 case h1=>exact WX  (Ta (UW zo) zo) (Ki (ZI zo (show Kp [K6 o old ts]=O (.int 3)from rfl)) Kd Ow)
 case h2=>intro hh;simp at hh
 case h3=>
  intro _;refine Zo (Zj ?_);refine Kn (Y9 (UW zo) (Kw zo (U7 (U3 (Qa zo) zo) (U7 (U3 (Qa zo) zo) Kx)))) ?_;refine Kn (Y9 (UW zo) (Kw zo (U7 (U3 (Qa zo) zo) (U7 (U3 (Qa zo) zo) (U7 (U3 (Qa zo) zo) Kx))))) ?_;refine Kn (Y7 (Km (UY (UW zo) U5) zo (xN o))) ?_;apply Ze;apply K9
  case h1=>exact XG (Wt (Km (UY (UW zo) (UY (ZI zo zQ) (UY (ZI zo ay) U5))) zo (xM ga.len ga.old (by lia))))
  case h2=>intro hh;cases hh
  case h3=>
   intro _;refine Zo (Zj ?_);apply K9
   case h1=>exact XG (Wt (Km (UY (UW zo) (UY (ZI zo zQ) U5)) zo (yg ga.once ga.there (by lia))))
   case h2=>intro hh;cases hh
   case h3=>exact λ_=>Zo ⟨_,rfl⟩
end
theorem BY{t:Int}{r:zu}:oIn (.int t) (.list (r.map int))=O (r.contains t):=Gc t r
theorem BX  {j}{f}{ρ ρ1 ρ':UZ}{a b}{d}(h0:ρ[j]?=O (O (.pub (.int a))))(h1:f ρ=.ok (.int b) ρ1)(h2:op a b=O d)(h3:j<ρ1.length)(h4:ρ1.set j (O (.pub d))=ρ'):XM op j f ρ=.nx ρ':=by unfold XM;dsimp only[sB];simp_all
theorem mulN{i j}(h : -1000<j/\j<1000):Xm i j=O (.int (i*j)):=by exact Qr (.inr ⟨by lia,by lia⟩)
theorem Pn{b n:Int}(hb : -1000<b/\b<1000)(hn : -1000<=n/\n<=1000):ZM [.int b,.int n]=O (.int (b ^ n.toNat)):=by
 refine K5  rfl ?_;refine Kn (KM Kd (Qa zo) zo) ?_;apply Ze;apply Z9 (λi ρ=>∃x3,ρ=[O _,O _,pb (.int (b ^ i)),x3])
 case h1=>exact Wn (UY (UW zo) U5) (Ws (by lia) (by lia))
 case h0=>exact⟨_,by rw[Int.pow_zero];rfl⟩
 case hst=>rintro i d ρ hi ⟨x3,rfl⟩;refine⟨_,U3 (Qa zo) zo,?_⟩;refine YO (BX zo (UW zo) (mulN hb) (Qa zo) zo) ?_;exact ZD ⟨_,by rw[Int.pow_succ];rfl⟩
 case hend=>
  rintro ρ ⟨x3,rfl⟩;refine Zj (KJ (UW rfl) ?_);rw[YV]
  lia
noncomputable def Yy:Ord->Int->Int->Int->Int
 |.firsts,b,M,r=>b ^ (M-r).toNat
 |.full,b,M,r=>b ^ M.toNat+b ^ (M-r).toNat
 |.lasts,b,M,r=>b ^ M.toNat-b ^ (r-1).toNat
theorem yf(o:Ord){b M r:Int}(hb : -1000<b/\b<1000)(hM:0<=M/\M<=100)(hr:0<=r/\r<=100):VF [.str o.tx,.int b,.int M,.int r]=O (.int (Yy o b M r)):=by
 refine K5  rfl ?_;unfold Sn;have p1:ZM [.int b,.int (M-r)]=O (.int (b ^ (M-r).toNat)):=Pn hb ⟨by lia,by lia⟩;have p2:ZM [.int b,.int M]=O (.int (b ^ M.toNat)):=Pn hb ⟨by lia,by lia⟩;have p3:ZM [.int b,.int (r-1)]=O _:=Pn hb ⟨by lia,by lia⟩;apply Ze;apply K9
 case h1=>exact Yx zo Kd (CY o)
 case h2=>
  intro h;cases o with
  |firsts=>exact KJ (Km (UY (UW zo) (UY (Ki (UW zo) (UW zo) Xh) U5)) zo p1) (Tc zo)
  |full=>cases h
  |lasts=>cases h
 case h3=>
  intro h;refine Zo (Zj ?_);apply Ze;apply K9
  case h1=>exact Yx zo Kd (CW o)
  case h2=>
   intro h';cases o with
   |full=>exact KJ (Ki (Km (UY (UW zo) (UY (UW zo) U5)) zo p2) (Km (UY (UW zo) (UY (Ki (UW zo) (UW zo) Xh) U5)) zo p1) ZA) (Tc zo)
   |firsts=>cases h
   |lasts=>cases h'
  case h3=>
   intro h';refine Zo (Zj ?_);cases o with
   |firsts=>cases h
   |full=>cases h'
   |lasts=>exact KJ (Ki (Km (UY (UW zo) (UY (UW zo) U5)) zo p2) (Km (UY (UW zo) (UY (Ki (UW zo) Kd Xh) U5)) zo p3) Xh) zo
noncomputable def Tj(ts:zu)(b i r:Int):Int:=if i∈ts then(b-r)*b ^ (ts.length-1-ts.idxOf i)else 0
theorem Df  : ∀{xs:zw},(∀x∈xs,PyData.weight x<=n)->PyData.weightAll xs<=xs.length*(n+1)
 |[],_=>by simp[PyData.weightAll]
 |x::xs,h=>by
  have h1:=h x Ql;have h2:=Df  λy hy=>h y (Qj _ hy);rw[PyData.weightAll,Qz]
  lia
theorem wb  (h:0<=i/\i<1000):(int i).weight<=10:=by
 simp only[PyData.weight];split
 .lia
 .have h0:i.natAbs≠0:=by simp_all
  have:=(Nat.log2_lt h0 (k:=10)).mpr (by lia)
  lia
theorem yR{ts:zu}(h:∀a∈ts,0<=a/\a<1000)(hl:ts.length<=1000):PyData.layable0 (.list (ts.map int))=zq:=by
 unfold PyData.layable0;have h1:(UH (ts.map int)).canLay0=zq:=TB λx hx=>by obtain⟨y,_,rfl⟩:=Qn.mp hx;rfl
 have h2:(UH (ts.map int)).depth<=64:=QM (Ro (n:=1) (RC λx hx=>by obtain⟨y,_,rfl⟩:=Qn.mp hx;exact Gg y)) (by decide)
 have h3:(UH (ts.map int)).weight<=2 ^ 20:=by
  have:=Df  (xs:=ts.map int) λx hx=>by obtain⟨y,hy,rfl⟩:=Qn.mp hx;exact wb (h y hy)
  rw[Qb]at this;simp only[PyData.weight]
  lia
 rw[h1,Jg h2,Jg h3];rfl
theorem jT{ts:zu}{k}(hb:∀a∈ts,0<=a/\a<1000)(hl:ts.length<=1000)(h:k∈ts):Rp (.list (ts.map int)) [.int k]=O (.int (ts.idxOf k:Nat)):=by unfold Rp;dsimp only;rw[RL];exact Qr ⟨yR hb hl,h⟩
theorem jS  {r:zu}:Xk (.int t) (.list (r.map int))=O (!r.contains t):=by unfold Xk;rw[BY];rfl
theorem ye  {b i r:Int}(hb : -1000<b/\b<1000)(hr : -1000<r/\r<1000)(hl:ts.length<=100)(ht:∀a∈ts,0<=a/\a<1000):VE [.list (ts.map int),.int b,.int i,.int r]=O (.int (Tj ts b i r)):=by
 refine K5  rfl ?_;unfold Sm Tj;apply Ze;apply K9
 case h1=>exact Yx zo (UW zo) jS
 case h2=>
  intro h;have:¬i∈ts:=by simpa using h
  rw[QA this];exact KJ Kd (Tc zo)
 case h3=>
  intro h;have hm:i∈ts:=by simpa using h
  rw[Qr hm];refine Zo (Zj ?_);have hi:=List.idxOf_lt_length_of_mem hm;have hlen:Kp [.list (ts.map int)]=O (.int ts.length):=by rw[Zw,Qb]
  refine Kn (KM (Ki (Ki (ZI zo hlen) Kd Xh) (ju (UW zo) (UY (UW zo) U5) (jT ht (by lia) hm)) Xh) (Qa zo) zo) ?_;have hp:=Pn (b:=b) (n:=(ts.length:Int)-1-(ts.idxOf i:Nat)) hb ⟨by lia,by lia⟩;have e:((ts.length:Int)-1-(ts.idxOf i:Nat)).toNat=ts.length-1-ts.idxOf i:=by lia
  rw[e]at hp;exact KJ (Ki (Ki (UW zo) (UW zo) Xh) (Km (UY (UW zo) (UY (UW zo) U5)) zo hp) (Td (by lia) (by lia))) zo
noncomputable def WK(old:zG)(i:Nat)(t:Int):Int:=match old with
 |none=>0
 |some ws=>if ws[i]?=O (O t)then 1 else 0
section
variable{cs:zu}{ls:List (List zu)}{o:Ord}{old:zG}{ts:zu}
noncomputable def Zr(ls:List (List zu))(o:Ord)(old:zG)(ts:zu)(i:Nat)(rs:List zu)(t:Int):Int:=
 (Yy o (ls.length+1) (lng ls) (Zc t rs)*(ls.length+1)+WK old i t)*((lng ls:Int)+1) ^ ts.length+Tj ts (lng ls+1) i (Zc t rs)
theorem EB{b:Int}(h0:0<=b)(h:b<=8):∀{n k},n<=k->b ^ n<=8 ^ k:=λ{n k} hk=>by
 have e:b=((b.toNat)):=by lia
 rw[e];have h1:b.toNat ^ n<=8 ^ n:=Nat.pow_le_pow_left (by lia) n;have h2:8 ^ n<=8 ^ k:=Nat.pow_le_pow_right (by lia) hk
 lia
theorem EA(g:Good cs ls)(ga:Yh cs.length ls.length old ts){i:Nat}{rs:List zu}(hi:ls[i]?=O rs)(t:Int):Y4 [Kr cs ls,K6 o old ts,.int (lng ls:Nat),.int i,.int t]=O (.int (Zr ls o old ts i rs t)):=by
 have l7:=g.l7;have l1:=g.l1;have hL:lng ls<=5:=Nq l1 λrs h=>(g.rk rs h).few;have hrk:Zc t rs<=5:=by have:=MK t rs;have:=(g.rk rs (Qy hi)).few;lia
 have htl:=ga.few;have hlt:i<ls.length:=(Qg.mp hi).1;refine K5 (ρ:=[pb (Kr cs ls),pb (K6 o old ts),pb (.int (lng ls:Nat)),pb (.int i),pb (.int t),zp,zp,zp,zp,zp,zp,zp,zp]) zo ?_;unfold Sk Zr;refine Kn (Y9 (UW zo) (Kw zo (U7 (U3 (Qa zo) zo) (U7 (U3 (Qa zo) zo) (U7 (U3 (Qa zo) zo) Kx))))) ?_;refine Kn (KM (K1 zo Kd Tk) (Qa zo) zo) ?_;refine Kn (KM (Km (UY (K1 zo (UW zo) (Lj hi)) (UY (UW zo) U5)) zo (E4 t rs)) (Qa zo) zo) ?_;have zQ:Kp [.list (ls.map KY)]=O (.int ls.length):=by rw[Zw,Qb]
 have htl':Kp [.list (ts.map int)]=O (.int ts.length):=by rw[Zw,Qb]
 refine Kn (KM (Ki (ZI zo zQ) Kd ZA) (Qa zo) zo) ?_
 have hk:∀ρ:UZ,ρ[6]?=O (O (.pub (YX old)))->ρ[3]?=O (O (.pub (.int i)))->ρ[4]?=O (O (.pub (.int t))) ->
   mIf (ZU (Ka (λd=>!isNon d) (UU 6)) (U1 oEq (Kb 6 (UU 3)) (UU 4))) (U2 (int 1)) (U2 (.int 0)) ρ=.ok (.int (WK old i t)) ρ:=λρ r6 r3 r4=>by
  cases old with
  |none=>exact P5 (Oi (KN (UW r6))) Kd
  |some ws=>
   have hw:ws.length=ls.length:=ga.len ws zo;have hwi:ws[i]?=O ws[i]:=Qe (by lia);have hx:oIx (.list (ws.map Ko)) (.int i)=O (Ko ws[i]):=Cb (by lia)
   have ht:(ZU (Ka (λd=>!isNon d) (UU 6)) (U1 oEq (Kb 6 (UU 3)) (UU 4))) ρ=.ok (decide (ws[i]=O t)) ρ:=
    Rq (KN (UW r6)) (Ki (K1 r6 (UW r3) hx) (UW r4) (Np (b:=O t)))
   rw[Dy ht Kd Kd]
   congr 1
   unfold WK;dsimp only;rw[hwi];by_cases h:ws[i]=O t
   .rw[Jg h,Qr zo,Qr (by rw[h])]
   .rw[QT h,QA (by decide),QA (λe=>h (QO e))]
 refine Kn (KM (hk _ zo zo zo) (Qa zo) zo) ?_;have h1:=yf o (b:=(ls.length:Int)+1) (M:=(lng ls:Nat)) (r:=(Zc t rs:Nat)) ⟨by lia,by lia⟩ ⟨by lia,by lia⟩ ⟨by lia,by lia⟩;have h2:=Pn (b:=(lng ls:Int)+1) (n:=(ts.length:Nat)) ⟨by lia,by lia⟩ ⟨by lia,by lia⟩;have h3:=ye (ts:=ts) (b:=(lng ls:Int)+1) (i:=i) (r:=(Zc t rs:Nat)) ⟨by lia,by lia⟩ ⟨by lia,by lia⟩ (by lia) (λa ha=>by have:=ga.there a ha;lia);rw[QS]at h2;refine Kn (KM (Ki (Ki (Km (UY (UW zo) (UY (UW zo) (UY (UW zo) (UY (UW zo) U5)))) zo h1) (UW zo) (RI (by lia) (by lia))) (UW zo) ZA) (Qa zo) zo) ?_;have hp:((lng ls:Int)+1) ^ ts.length<=8 ^ 7:=EB (by lia) (by lia) (by lia);exact KJ (Ki (Ki (UW zo) (Km (UY (Ki (UW zo) Kd ZA) (UY (ZI zo htl') U5)) zo h2) (RI (by lia) (by lia))) (Km (UY (UW zo) (UY (Ki (UW zo) Kd ZA) (UY (UW zo) (UY (UW zo) U5)))) zo h3) ZA) zo
end
theorem Pu   {g:M D}(I:UZ->Prop):∀(ds:zw)(qs:List zx)(ρ:UZ)(es:zw),qs.length=ds.length ->
  (∀(i:Nat) d e,ds[i]?=O d->qs[i]?=O e->∀ρ,I ρ->∃ρ1,s d ρ=O ρ1/\t ρ1=.ok e.isSome ρ1/\(∀x,e=O x->g ρ1=.ok x ρ1)/\I (KE ρ1))->I ρ->es.length+ds.length<=1000000->K4 s t g ds ρ es=O (es++qs.filterMap id)
 |[],[],ρ,es,_,_,_,_=>by rw[K4];simp
 |d::r,e::q,ρ,es,hl,st,h0,hz=>by
  obtain⟨ρ1,e1,e2,e3,h1⟩:=st 0 d e zo zo ρ h0;rw[Qz]at hz;have ih:=λes' hz'=>Pu I r q (KE ρ1) es' (by simpa using hl) (λi d' e' x y=>st (i+1) d' e' (by simpa using x) (by simpa using y)) h1 hz'
  rw[K4,e1];dsimp only;rw[e2];dsimp only;cases e with
  |none=>rw[ih es (by lia)];rfl
  |some x=>rw[Qr (show(O x).isSome=zq from rfl),e3 x zo];dsimp only;rw[Qr (by lia),ih (es++[x]) (by rw[Qi,QX];lia),Q2];rfl
noncomputable def KG(W:Nat->List zu->Int->Int):Nat->List (List zu)->LO->LO
 |k,rs::ls,o::r=>(o.map (W k rs))::KG W (k+1) ls r
 |_,_,_=>[]
theorem Fg  : ∀{k}{ls}{ws},ws.length=ls.length->(KG W k ls ws).length=ws.length
 |_,[],[],_=>rfl
 |_,_::_,_::_,h=>by rw[KG,List.length_cons,Fg (by simpa using h),List.length_cons]
theorem Ff  : ∀{k i:Nat}{ls}{ws}{rs}{o},ls[i]?=O rs->ws[i]?=O o->(KG W k ls ws)[i]?=O (o.map (W (k+i) rs))
 |k,0,r::ls,o::ws,_,_,h1,h2=>by cases h1;cases h2;rfl
 |k,i+1,r::ls,o::ws,rs,o',h1,h2=>by rw[KG,List.getElem?_cons_succ,Ff    (by simpa using h1) (by simpa using h2),Nat.add_right_comm,Nat.add_assoc]
noncomputable def KS(l:LO):Int:=(l.filterMap id).sum
theorem Tz   : KS (o::l)=o.getD 0+KS l:=by
 cases o with
 |none=>show KS l=0+KS l;lia
 |some x=>rfl
theorem kB(l:LO):(l.map (Option.map int)).filterMap id=(l.filterMap id).map int:=by
 induction l with
 |nil=>rfl
 |cons o r ih=>cases o with
  |none=>exact ih
  |some x=>show int x::_=int x::_;rw[ih]
section
variable{cs:zu}{ls:List (List zu)}{o:Ord}{old:zG}{ts:zu}{ws:LO}
theorem EN(g:Good cs ls)(ga:Yh cs.length ls.length old ts)(hl:ws.length=ls.length):WF [Kr cs ls,K6 o old ts,Kl ws]=O (.int (KS (KG (Zr ls o old ts) 0 ls ws))):=by
 refine K5 (ρ:=[pb (Kr cs ls),pb (K6 o old ts),pb (Kl ws),zp]) zo ?_;unfold Sh;refine Kn (Y7 (Km (UY (UW zo) (UY (UW zo) U5)) zo (PY g ga))) ?_;refine Kn (KM (Km (UY (UW zo) U5) zo (MZ g)) (Qa zo) zo) ?_;have l7:=g.l7
 have hc:K4 (gT 2 (gNC (gN 4) (gNC (gN 5) (gN0)))) (Ka (λd=>!isNon d) (UU 5)) (U4 5 Y4 (UX (UU 0) (UX (UU 1) (UX (UU 3) (UX (UU 4) (UX (UU 5) (UV))))))) (Z2 0 (ws.map Ko)) (KE [pb (Kr cs ls),pb (K6 o old ts),pb (Kl ws),pb (.int (lng ls:Nat))]++UG 2 zp) []=O (((KG (Zr ls o old ts) 0 ls ws).filterMap id).map int):=by
  rw[←kB];refine Pu (λρ=>∃x y,ρ=[pb (Kr cs ls),pb (K6 o old ts),pb (Kl ws),pb (.int (lng ls:Nat)),x,y]) _ _ _ _ (by rw[Qb,Fg hl,Yv,Qb]) ?_ ⟨zp,zp,rfl⟩ (by rw[Yv,Qb,Qw];omega);rintro i d e hd he ρ ⟨x,y,rfl⟩;obtain⟨z,hz,rfl⟩:=Xz hd;rw[Qd]at hz;cases hwi:ws[i]? with
  |none=>rw[hwi]at hz;cases hz
  |some w=>
  rw[hwi]at hz;cases hz;have zO:i<ls.length:=by have:=(Qg.mp hwi).1;omega
  have hls:ls[i]?=O ls[i]:=Qe zO;rw[Qd,Ff hls hwi]at he;cases he;rw[QK];refine⟨_,Kw zo (U7 (U3 (Qa zo) zo) (U7 (U3 (Qa zo) zo) Kx)),?_,?_,_,_,rfl⟩
  .cases w with
   |none=>exact KN (k:=λd=>!isNon d) (x:=PyData.none) (UW zo)
   |some t=>exact KN (k:=λd=>!isNon d) (x:=int t) (UW zo)
  .intro v hv
   cases w with
   |none=>cases hv
   |some t=>cases hv;exact Km (UY (UW zo) (UY (UW zo) (UY (UW zo) (UY (UW zo) (UY (UW zo) U5))))) zo (EA g ga hls t)
 exact KJ (Yd (UY (KN (Zz (Wk (UY (UW zo) U5) Wg) hc)) U5) Ft) zo
noncomputable def KH(ls:List (List zu))(o:Ord)(old:zG)(ts:zu)(a t:Int):Int:=Zr ls o old ts a.toNat (ls.getD a.toNat []) t
noncomputable def ZB(V:Int->Int->Int)(q:Int×Int):D:=.tuple [.int q.1,.int q.2,.int (V q.1 q.2)]
theorem Lg(g:Good cs ls)(ga:Yh cs.length ls.length old ts):Y3 [Kr cs ls,K6 o old ts]=O (.list ((Kf 0 ls).map (ZB (KH ls o old ts)))):=by
 refine K5  rfl ?_;unfold Sj;refine Kn (Y7 (Km (UY (UW zo) (UY (UW zo) U5)) zo (PY g ga))) ?_;refine Kn (KM (Km (UY (UW zo) U5) zo (MZ g)) (Qa zo) zo) ?_;have few:(Kf 0 ls).length<=42:=by rw[(RB ls 0).length_eq];exact Pe g
 have hc:K4 (gT 2 (gNC (gN 3) (gNC (gN 4) (gN0)))) (U2 zq) (KI (UX (UU 3) (UX (UU 4) (UX (U4 5 Y4 (UX (UU 0) (UX (UU 1) (UX (UU 2) (UX (UU 3) (UX (UU 4) (UV))))))) (UV))))) ((Kf 0 ls).map Kz) (KE [pb (Kr cs ls),pb (K6 o old ts),pb (.int (lng ls:Nat))]++UG 2 zp) []=O ((Kf 0 ls).map (ZB (KH ls o old ts))):=by
  refine Xa (λρ=>∃x y,ρ=[pb (Kr cs ls),pb (K6 o old ts),pb (.int (lng ls:Nat)),x,y]) _ _ _ _ (by simp only[Qb]) ?_ ⟨zp,zp,rfl⟩ (by rw[Qb,Qw];lia);rintro i d e hd he ρ ⟨x,y,rfl⟩;rw[Qd]at hd he;cases hw:(Kf 0 ls)[i]? with
  |none=>rw[hw]at hd;cases hd
  |some q=>
  rw[hw]at hd he;cases hd;cases he;obtain⟨a,t⟩:=q;obtain⟨j,rs,hj,ha,ht⟩:=V8 (Qy hw);have ha:a=(j:Int):=by rw[QK]at ha;exact ha
  subst ha;have hv:KH ls o old ts j t=Zr ls o old ts j rs t:=by unfold KH;rw[QS,Qh,hj];rfl
  refine⟨_,Kw zo (U7 (U3 (Qa zo) zo) (U7 (U3 (Qa zo) zo) Kx)),rfl,?_,_,_,rfl⟩;unfold ZB;dsimp only;rw[hv];exact Yu (UY (UW zo) (UY (UW zo) (UY (Km (UY (UW zo) (UY (UW zo) (UY (UW zo) (UY (UW zo) (UY (UW zo) U5))))) zo (EA g ga hj t)) U5))) (Qa zo)
 exact KJ (KN (Zz (Zv (Km (UY (UW zo) U5) zo (yV g)) Z0) hc)) zo
end
theorem kA{n:Nat}:ixN (n+1) (-1)=O n:=by
 unfold ixN;rw[QA (by omega),Qr (by omega)]
 congr 1
 omega
section
variable{cs:zu}{ls:List (List zu)}{ws:LO}
noncomputable def Kt(n:Nat)(qs:zI):zu:=(UF n).map λp=>((qs.count p:Nat):Int)
theorem Xf(n)(qs):(Kt n qs).length=n:=by unfold Kt;simp_all
theorem Oy{n p}{qs}(h:p<n):(Kt n qs)[p]?=O ((qs.count p:Nat):Int):=by unfold Kt;rw[Qd,QJ h];rfl
theorem kz(n):Kt n []=UG n 0:=by unfold Kt;rw[List.eq_replicate_iff];simp_all
theorem TC(hl:ws.length=ls.length):(U6 ls ws).length=ls.length:=by unfold U6;rw[List.length_zipWith];omega
end
noncomputable def YC(c:zu):Int:=c.getD (c.length-1) 0
noncomputable def Yl:Ord->zu->zu
 |.firsts,c=>c
 |.full,c=>(0-YC c)::c
 |.lasts,c=>c.reverse.map λx=>0-x
noncomputable def K7(old:zG)(ws:LO):Nat:=match old with
 |none=>0
 |some os=>((os.zip ws).filter λp=>decide (p.1=p.2)&&p.2.isSome).length
noncomputable def ZO(ls:List (List zu))(ws:LO)(a:Int):Int:=match ws.getD a.toNat zp with
 |none=>0
 |some t=>(lng ls:Int)+1-(Zc t (ls.getD a.toNat []):Nat)
theorem Fe{c:zu}(h:c≠[]):oIx (.list (c.map int)) (.int (-1))=O (.int (YC c)):=by
 have hl:0<c.length:=Uo.mpr h;show atI (c.map int) (-1)=_;obtain⟨n,hn⟩:∃n,c.length=n+1:=⟨c.length-1,by omega⟩
 unfold atI;rw[Qb,hn,kA]
 show(c.map int)[n]?=_
 unfold YC;rw[Qd,hn,Nat.add_sub_cancel,Qh,Qe (by omega)];rfl
theorem xL(os ws:LO):YB (os.map Ko) (ws.map Ko)=(os.zip ws).map λp=>.tuple [Ko p.1,Ko p.2]:=by unfold YB;rw[List.zip_map,QQ];rfl
theorem BW{α β:Type}{l:List α}{p:α->Bool}{f:α->β}:(l.map λx=>if p x=zq then O (f x)else zp).filterMap id=(l.filter p).map f:=by
 induction l with
 |nil=>rfl
 |cons x r ih=>
  rw[Qv];by_cases h:p x=zq
  .rw[Qr h,List.filter_cons_of_pos h,Qv,←ih];rfl
  .rw[QA h,List.filter_cons_of_neg h,←ih];rfl
noncomputable def btr:LP->Bool
 |[]=>zr
 |(m,y)::r=>if m=y then btr r else decide (y=0) || (decide (0<m)&&decide (m<y))
noncomputable def rgA(ls:List (List zu))(ws:LO)(a:Int):Int:=(U6 ls ws).getD a.toNat 0
noncomputable def Vm(o:Ord)(c1 c2:zu)(k1 k2:Int)(r1 r2:zu):Bool:=if fnz (V0 o c1 c2)=0 then(if k1=k2 then btr (r1.zip r2)else decide (k2<k1))else decide (0<fnz (V0 o c1 c2))
section
variable{cs:zu}{ls:List (List zu)}{ws us:LO}{o:Ord}{old:zG}{ts:zu}
theorem yQ{os:LO}(h:os.length<=100):X4 [YX (O os),Kl ws]=O (.int (K7 (O os) ws:Nat)):=by
 refine K5 (ρ:=[pb (Kl os),pb (Kl ws)]) zo ?_;unfold Vk;apply Ze;apply K9
 case h1=>exact KN (k:=isNon) (x:=Kl os) (UW zo)
 case h2=>intro h;cases h
 case h3=>
  intro _;refine Zo (Zj ?_)
  have hc:K4 (gT 2 (gNC (gN 2) (gNC (gN 3) (gN0)))) (ZU (Ka (λd=>!isNon d) (UU 2)) (ZF oEq 3 (UU 2))) (UU 2) (YB (os.map Ko) (ws.map Ko)) (KE [pb (Kl os),pb (Kl ws)]++UG 2 zp) []=O (((os.zip ws).filter λp=>p.1.isSome&&decide (p.2=p.1)).map λp=>Ko p.1):=by
   rw[xL,←BW];refine Pu (λρ=>∃x y,ρ=[pb (Kl os),pb (Kl ws),x,y]) _ _ _ _ (by simp only[Qb]) ?_ ⟨zp,zp,rfl⟩ (by rw[Qb,Qw,JP];omega);rintro i d e hd he ρ ⟨x,y,rfl⟩;rw[Qd]at hd he;cases hq:(os.zip ws)[i]? with
   |none=>rw[hq]at hd;cases hd
   |some q=>
   rw[hq]at hd he;cases hd;cases he;obtain⟨p1,p2⟩:=q;refine⟨_,Kw zo (U7 (U3 (Qa zo) zo) (U7 (U3 (Qa zo) zo) Kx)),?_,?_,_,_,rfl⟩
   .dsimp only
    cases p1 with
    |none=>exact Oi (KN (k:=λd=>!isNon d) (x:=PyData.none) (UW zo))
    |some t=>
     have e:(if((O t).isSome&&decide (p2=O t))=zq then O (Ko (O t))else zp).isSome=decide (p2=O t):=by
      by_cases h:p2=O t
      .rw[Jg h];rfl
      .rw[QT h];rfl
     rw[e];exact Rq (KN (k:=λd=>!isNon d) (x:=int t) (UW zo)) (Yx zo (UW zo) (Np (a:=p2) (b:=O t)))
   .intro v hv
    dsimp only at hv;split at hv
    .cases hv;exact UW zo
    .cases hv
  have hln:Kp [.list (((os.zip ws).filter λp=>p.1.isSome&&decide (p.2=p.1)).map λp=>Ko p.1)]=O (.int (K7 (O os) ws:Nat)):=by
   rw[Zw,Qb]
   congr 3
   unfold K7;dsimp only
   congr 1
   apply List.filter_congr;rintro⟨p1,p2⟩ _;dsimp only;by_cases h:p1=p2
   .subst h;rw[Bool.and_comm]
   .rw[QT h,QT (λe=>h e.symm),Bool.and_false,Bool.false_and]
  exact KJ (Yd (UY (KN (Zz (Cu (UY (UW zo) (UY (UW zo) U5)) zo) hc)) U5) hln) zo
theorem yP:X4 [YX zp,Kl ws]=O (.int (K7 zp ws:Nat)):=by
 refine K5 (ρ:=[O (.pub .none),pb (Kl ws)]) zo ?_;unfold Vk;apply Ze;apply K9
 case h1=>exact KN (k:=isNon) (x:=PyData.none) (UW zo)
 case h2=>exact λ_=>KJ Kd (Tc zo)
 case h3=>intro h;cases h
noncomputable def V4(ls:List (List zu))(old:zG)(ts:zu)(ws:LO):D:=.tuple [.list ((Kk (lng ls) (U6 ls ws)).map int),.int (K7 old ws:Nat),.list ((ts.map (rgA ls ws)).map int)]
theorem Fd(g:Good cs ls)(hl:ws.length=ls.length)(ga:Yh cs.length ls.length old ts):WG [Kr cs ls,K6 o old ts,Kl ws]=O (V4 ls old ts ws):=by
 refine K5 (ρ:=[pb (Kr cs ls),pb (K6 o old ts),pb (Kl ws),zp,zp,zp,zp]) zo ?_;unfold So;have l7:=g.l7;have few:=ga.few;refine Kn (Y7 (Km (UY (UW zo) (UY (UW zo) U5)) zo (PY g ga))) ?_;refine Kn (Y9 (UW zo) (Kw zo (U7 (U3 (Qa zo) zo) (U7 (U3 (Qa zo) zo) (U7 (U3 (Qa zo) zo) Kx))))) ?_;refine Kn (KM (Km (UY (UW zo) (UY (UW zo) U5)) zo (Dg g hl)) (Qa zo) zo) ?_
 have hk:X4 [YX old,Kl ws]=O (.int (K7 old ws:Nat)):=by
  cases old with
  |none=>exact yP
  |some os=>exact yQ (by have:=ga.len os zo;omega)
 have hc:K4 (gN 7) (U2 zq) (Kb 6 (UU 7)) (ts.map int) (KE [pb (Kr cs ls),pb (K6 o old ts),pb (Kl ws),pb (.str o.tx),pb (YX old),pb (.list (ts.map int)),pb (.list ((U6 ls ws).map int))]++UG 1 zp) []=O ((ts.map (rgA ls ws)).map int):=by
  refine Xa (λρ=>∃x,ρ=[pb (Kr cs ls),pb (K6 o old ts),pb (Kl ws),pb (.str o.tx),pb (YX old),pb (.list (ts.map int)),pb (.list ((U6 ls ws).map int)),x]) _ _ _ _ (by simp only[Qb]) ?_ ⟨zp,rfl⟩ (by rw[Qb,Qw];omega);rintro i d e hd he ρ ⟨x,rfl⟩;rw[Qd]at hd;rw[Qd,Qd]at he;cases hq:ts[i]? with
  |none=>rw[hq]at hd;cases hd
  |some q=>
  rw[hq]at hd he;cases hd;cases he;have hz:=ga.there q (Qy hq);obtain⟨a,rfl⟩:∃a:Nat,q=a:=⟨q.toNat,by omega⟩
  have hal:a<(U6 ls ws).length:=by rw[TC hl];omega
  refine⟨_,U3 (Qa zo) zo,rfl,K1 zo (UW zo) (ZP ?_),_,rfl⟩;unfold rgA;rw[Qd,QS,Qh,Qe hal];rfl
 exact KJ (Yu (UY (Km (UY (UW zo) (UY (UW zo) U5)) zo (Pz g hl)) (UY (Km (UY (UW zo) (UY (UW zo) U5)) zo hk) (UY (KN (Zz (Zv (UW zo) Z0) hc)) U5))) (Qa zo)) zo
end
theorem Op(a b):fnz (a++b)=if fnz a=0 then fnz b else fnz a:=by
 induction a with
 |nil=>rfl
 |cons x r ih=>
  show(if x=0 then fnz _ else x)=if(if x=0 then fnz r else x)=0 then fnz b else(if x=0 then fnz r else x)
  by_cases h:x=0
  .simp_all
  simp_all
theorem HY:∀{xs ys},xs.length=ys.length->HT.Xs ys xs=decide (0<fnz (KB xs ys))
 |[],[],_=>rfl
 |x::xs,y::ys,h=>by
  rw[HT.O3];show _=decide (0<if x-y=0 then fnz (KB xs ys)else x-y);by_cases e:y=x
  .rw[if_pos e,if_pos (by omega),HY (by simpa using h)]
  lia
theorem Py  (h:a.length=c.length):KB (a++b) (c++d)=KB a c++KB b d:=by unfold KB;rw[List.zip_append h,Qu]
theorem Px  (h:a.length=b.length):(KB a b).length=a.length:=by unfold KB;grind
theorem MJ  {i:Nat}{x y}(h1:a[i]?=O x)(h2:b[i]?=O y):(KB a b)[i]?=O (x-y):=by unfold KB;rw[Qd,JX.mpr (by exact(⟨h1,h2⟩:a[i]?=O (x,y).1/\b[i]?=O (x,y).2))];rfl
theorem Fc   (h:a.length=b.length):(Yl o a).length=(Yl o b).length:=by
 cases o with
 |firsts=>exact h
 |full=>show(_::a).length=(_::b).length;rw[Qz,Qz,h]
 |lasts=>show(a.reverse.map _).length=(b.reverse.map _).length;simp_all
theorem Ez{o:Ord}{a b:zu}(h:a.length=b.length)(hne:a≠[]):KB (Yl o a) (Yl o b)=V0 o a b:=by
 have hp:0<a.length:=Uo.mpr hne;cases o with
 |firsts=>rfl
 |full=>
  have aW:=Px h;have hx:a[a.length-1]?=O (YC a):=by unfold YC;rw[Qh,Qe (by omega)];rfl
  have hy:b[a.length-1]?=O (YC b):=by unfold YC;rw[←h,Qh,Qe (by omega)];rfl
  have hm:=MJ hx hy
  show(0-YC a-(0-YC b))::KB a b=((KB a b).map λx=>-x).drop ((KB a b).length-1)++KB a b
  have hd:((KB a b).map λx=>-x).drop ((KB a b).length-1)=[-(YC a-YC b)]:=by
   rw[aW];have hl:a.length-1<((KB a b).map λx=>-x).length:=by rw[Qb,aW];omega
   rw[Jl hl,List.drop_of_length_le (by rw[Qb,aW];omega)];have e:((KB a b).map λx=>-x)[a.length-1]?=O (-(YC a-YC b)):=by rw[Qd,hm];rfl
   rw[Qe hl]at e;rw[QO e]
  rw[hd]
  congr 1
  omega
 |lasts=>
  show KB (a.reverse.map λx=>0-x) (b.reverse.map λx=>0-x)=((KB a b).map λx=>-x).reverse;apply JC;intro i;have aW:=Px h;by_cases hi:i<a.length
  .obtain⟨x,hx⟩:∃x,a[a.length-1-i]?=O x:=⟨_,Qe (by omega)⟩
   obtain⟨y,hy⟩:∃y,b[a.length-1-i]?=O y:=⟨_,Qe (by omega)⟩
   have e1:(a.reverse.map λx=>0-x)[i]?=O (0-x):=by rw[Qd,Ue hi,hx];rfl
   have e2:(b.reverse.map λx=>0-x)[i]?=O (0-y):=by rw[Qd,Ue (by omega),←h,hy];rfl
   rw[MJ e1 e2,Ue (by rw[Qb,aW];exact hi),Qb,aW,Qd,MJ hx hy];show O (0-x-(0-y))=O (-(x-y))
   congr 1
   omega
  .rw[QW (by rw[Px (by rw[Qb,Qb,JG,JG,h]),Qb,JG];omega),QW (by rw[JG,Qb,aW];omega)]
noncomputable def tf(L:Nat)(r:Int):Int:=if r=0 then 0 else(L:Int)+1-r
theorem MI{L:Nat}:∀{xs ys:zu},(∀r∈xs,0<=r/\r<=L)->(∀r∈ys,0<=r/\r<=L)->decide (0<fnz (KB (xs.map (tf L)) (ys.map (tf L))))=btr (xs.zip ys)
 |[],ys,_,_=>by cases ys<;>rfl
 |_::_,[],_,_=>rfl
 |x::xs,y::ys,hx,hy=>by
  have bx:=hx x Ql;have by':=hy y Ql;rw[Q4,btr];show decide (0<if tf L x-tf L y=0 then fnz (KB _ _)else tf L x-tf L y)=_;by_cases e:x=y
  .rw[Qr e,Qr (by rw[e];omega),MI (λr h=>hx r (Qj _ h)) (λr h=>hy r (Qj _ h))]
  .have hne:tf L x-tf L y≠0:=by unfold tf;split<;>split<;>omega
   rw[QA e,QA hne];apply Jv.2;rw[QN,Bool.or_eq_true,Je,QN,QN,QN];unfold tf
   split<;>split<;>omega
section
variable{cs:zu}{ls:List (List zu)}{ws us:LO}{o:Ord}{old:zG}{ts:zu}
theorem Pm(g:Good cs ls)(dl:Deal cs ls ws)(ga:Yh cs.length ls.length old ts):ts.map (ZO ls ws)=(ts.map (rgA ls ws)).map (tf (lng ls)):=by
 rw[QQ];apply Jo;intro z hz;have h:=ga.there z hz;obtain⟨a,rfl⟩:∃a:Nat,z=a:=⟨z.toNat,by omega⟩
 have hal:a<ls.length:=by omega
 have bF:a<ws.length:=by have:=dl.len;omega
 have hls   :=Qe hal;have hwa   :=Qe bF;have hg:=FH hls hwa;show ZO ls ws a=tf (lng ls) (rgA ls ws a);unfold ZO rgA;rw[QS,Qh,Qh,Qh,hwa,hls,hg]
 show(match ws[a]with|none=>(0:Int)|some t=>(lng ls:Int)+1-(Zc t ls[a]:Nat))=tf (lng ls) _
 have hp:=λt (e:ws[a]=O t)=>M0 (dl.wish a t ls[a] (by rw[hwa,e]) hls)
 generalize ws[a]=w at hp;cases w with
 |none=>rfl
 |some t=>have:=hp t zo;show _=tf (lng ls) ((Zc t ls[a]:Nat):Int);unfold tf;rw[QA (by omega)]
theorem Pd  : 0<=rgA ls ws z/\rgA ls ws z<=lng ls:=by
 unfold rgA;rw[Qh];cases h:(U6 ls ws)[z.toNat]? with
 |none=>simp_all
 |some r=>exact Wi r (Qy h)
theorem ku(g:Good cs ls)(d1:Deal cs ls ws)(d2:Deal cs ls us)(ga:Yh cs.length ls.length old ts) :
  HT.Xs (Yl o (Kk (lng ls) (U6 ls us))++[(K7 old us:Int)]++ts.map (ZO ls us)) (Yl o (Kk (lng ls) (U6 ls ws))++[(K7 old ws:Int)]++ts.map (ZO ls ws)) =
   Vm o (Kk (lng ls) (U6 ls ws)) (Kk (lng ls) (U6 ls us)) (K7 old ws) (K7 old us) (ts.map (rgA ls ws)) (ts.map (rgA ls us)):=by
 have hl:(Kk (lng ls) (U6 ls ws)).length=(Kk (lng ls) (U6 ls us)).length:=by rw[Wr,Wr]
 have hne:Kk (lng ls) (U6 ls ws)≠[]:=λe=>by have:=Wr (lng ls) (U6 ls ws);rw[e]at this;cases this
 have hol:=Fc (o:=o) hl;rw[HY (by simp only[Qi,Qb,hol];rfl),Py (by rw[Qi,Qi,hol];rfl),Py hol,Ez hl hne,Op,Op,Pm g d1 ga,Pm g d2 ga];have ht:=MI  (xs:=ts.map (rgA ls ws)) (ys:=ts.map (rgA ls us)) (λr h=>by obtain⟨z,_,rfl⟩:=Qn.mp h;exact Pd) (λr h=>by obtain⟨z,_,rfl⟩:=Qn.mp h;exact Pd);unfold Vm;rw[←ht]
 have hk:fnz (KB [(K7 old ws:Int)] [(K7 old us:Int)])=(K7 old ws:Int)-K7 old us:=by
  show(if(K7 old ws:Int)-K7 old us=0 then(0:Int)else(K7 old ws:Int)-K7 old us)=_
  split<;>omega
 rw[hk];by_cases h1:fnz (V0 o (Kk (lng ls) (U6 ls ws)) (Kk (lng ls) (U6 ls us)))=0
 .rw[Qr h1,Qr h1]
  by_cases h2:(K7 old ws:Int)=K7 old us
  .rw[Qr h2,Qr (by omega)]
  .rw[QA h2,QA (by omega)]
   exact Jv.2 (by rw[QN,QN];omega)
 .rw[QA h1,QA h1,QA h1]
end
noncomputable def val(B:Int):zu->Int
 |[]=>0
 |d::r=>d*B ^ r.length+val B r
theorem Ml{B:Int}(h:0<B)(n:Nat):0<B ^ n:=Int.pow_pos h
theorem MH  (hB:0<B):∀{l},(∀d∈l, -(B-1)<=d/\d<=B-1) -> -(B ^ l.length-1)<=val B l/\val B l<=B ^ l.length-1
 |[],_=>by simp[val]
 |d::r,h=>by
  have h1:=h d Ql;have h2:=MH hB  λx hx=>h x (Qj _ hx);have hp:=Ml hB r.length;rw[val,Qz,Int.pow_succ];generalize B ^ r.length=P at h2 hp;generalize val B r=v at h2;have u1:d*P<=_*P:=QZ h1.2 (by omega)
  have u2 : -_*P<=d*P:=QZ h1.1 (by omega);have e1:(B-1)*P=P*B-P:=by rw[Int.sub_mul,Int.one_mul,Int.mul_comm]
  have e2 : -(B-1)*P = -(P*B-P):=by rw[Int.neg_mul,e1]
  omega
theorem MG{X Y P}(hP:0<P)(hY : -(P-1)<=Y/\Y<=P-1):(0<X*P+Y ↔ 0<X∨X=0/\0<Y)/\(X*P+Y=0 ↔ X=0/\Y=0):=by
 rcases Int.lt_trichotomy X 0 with h|h|h
 .have:X*P <= -1*P:=QZ (by omega) (by omega)
  lia
 .lia
 .have:1*P<=X*P:=QZ (by omega) (by omega)
  lia
theorem Oo  (hB:0<B):∀{l},(∀d∈l, -(B-1)<=d/\d<=B-1)->(0<val B l ↔ 0<fnz l)/\(val B l=0 ↔ fnz l=0)
 |[],_=>by simp[val,fnz]
 |d::r,h=>by
  have hr:=λx hx=>h x (Qj d hx);have ih:=Oo hB  hr;have tp:=MG (X:=d) (Ml hB r.length) (MH hB hr)
  show(0<d*B ^ r.length+val B r ↔ 0<if d=0 then fnz r else d)/\(d*B ^ r.length+val B r=0 ↔ (if d=0 then fnz r else d)=0)
  by_cases hd:d=0
  .rw[Qr hd]
   constructor
   .rw[tp.1,ih.1];omega
   .rw[tp.2,ih.2];omega
  .rw[QA hd]
   constructor
   .rw[tp.1];omega
   .rw[tp.2];omega
theorem OM  : ∀{xs ys},xs.length=ys.length->val B (KB xs ys)=val B xs-val B ys
 |[],[],_=>rfl
 |x::xs,y::ys,h=>by
  have hl   :=by simpa using h
  show(x-y)*B ^ (KB xs ys).length+val B (KB xs ys)=_
  rw[OM hl,Px hl,val,val,←hl,Int.sub_mul];omega
theorem BV  (l):val B (l.map λx=>-x) = -val B l:=by
 induction l with
 |nil=>rfl
 |cons d r ih=>rw[Qv,val,val,ih,Qb,Int.neg_mul];omega
theorem Ey  : ∀{xs}{p},p<xs.length->val B (VX xs p 1)=val B xs+B ^ (xs.length-1-p)
 |x::xs,0,_=>by
  show(x+1)*B ^ xs.length+val B xs=x*B ^ xs.length+val B xs+B ^ xs.length
  lia
 |x::xs,p+1,h=>by
  have hp   :=by simpa using h
  have ih:=Ey (B:=B) hp;have e:VX (x::xs) (p+1) 1=x::VX xs p 1:=by rfl
  rw[e,val,val,ih,Eg]
  grind
theorem xK  {qs}:VX (Kt n qs) p 1=Kt n (p::qs):=by
 apply JC;intro k;by_cases hk:k<n
 .rw[xO (Oy hk),Oy hk,JJ]
  congr 1
  by_cases e:k=p
  .simp_all
  .have:¬(p==k)=zq:=by rw[beq_iff_eq];exact λz=>e z.symm
   rw[QA e,QA this];omega
 .rw[QW (by rw[Eg,Xf];omega),QW (by rw[Xf];omega)]
theorem xJ  (n):val B (UG n 0)=0:=by
 induction n with
 |zero=>rfl
 |succ n ih=>rw[Ul,val,ih,Int.zero_mul];rfl
theorem Mk  {n}:∀{qs},(∀p∈qs,p<n)->val B (Kt n qs)=(qs.map λp=>B ^ (n-1-p)).sum
 |[],_=>by rw[kz,xJ];rfl
 |p::qs,h=>by rw[←xK,Ey (by rw[Xf];simp_all),Mk (λq hq=>h q (List.mem_cons_of_mem _ hq)),Xf,List.map_cons,List.sum_cons];omega
theorem AE  {n:Nat}:∀{qs},(∀p∈qs,p<n)->val B (Kt n qs).reverse=(qs.map λp=>B ^ p).sum:=λ{qs} h=>by
 have e:(Kt n qs).reverse=Kt n (qs.map λp=>n-1-p):=by
  apply JC;intro k;by_cases hk:k<n
  .rw[Ue (by rw[Xf];exact hk),Xf,Oy (by omega),Oy hk]
   congr 2
   rw[List.count,List.count,List.countP_map];apply List.countP_congr;intro p hp;have:=h p hp;simp only[Function.comp,beq_iff_eq];omega
  .rw[QW (by rw[JG,Xf];omega),QW (by rw[Xf];omega)]
 rw[e,Mk (λp hp=>by obtain⟨q,hq,rfl⟩:=Qn.mp hp;have:=h q hq;omega),QQ]
 congr 1
 apply Jo;intro p hp;have:=h p hp;show B ^ (n-1-(n-1-p))=B ^ p
 congr 1
 omega
noncomputable def KQ(o:Ord)(L:Nat)(qs:zI):zu:=match o with
 |.firsts=>Kt L qs
 |.full=>(qs.length:Int)::Kt L qs
 |.lasts=>(qs.length:Int)::(Kt L qs).reverse.map λx=>-x
theorem HX{α:Type}(f g:α->Int)(l:List α):(l.map λx=>f x+g x).sum=(l.map f).sum+(l.map g).sum:=by
 induction l with
 |nil=>rfl
 |cons a r ih=>rw[Qv,Jn,ih,Qv,Jn,Qv,Jn];omega
theorem AD{α:Type}(f g:α->Int)(l:List α):(l.map λx=>f x-g x).sum=(l.map f).sum-(l.map g).sum:=by
 induction l with
 |nil=>rfl
 |cons a r ih=>rw[Qv,Jn,ih,Qv,Jn,Qv,Jn];omega
theorem MF{α:Type}(c)(l:List α):(l.map λ_=>c).sum=(l.length:Int)*c:=by
 induction l with
 |nil=>simp
 |cons a r ih=>rw[Qv,Jn,ih,Qz,Int.natCast_add,Int.add_mul];omega
theorem Go(o:Ord){B:Int}{L:Nat}{sr:zu}(h:∀r∈sr,1<=r/\r<=L):(sr.map (Yy o B L)).sum=val B (KQ o L (sr.map λr=>(r-1).toNat)):=by
 have hq:∀p∈sr.map (λr=>(r-1).toNat),p<L:=λp hp=>by obtain⟨r,hr,rfl⟩:=Qn.mp hp;have:=h r hr;omega
 have e1:(sr.map λr=>B ^ ((L:Int)-r).toNat).sum=val B (Kt L (sr.map λr=>(r-1).toNat)):=by
  rw[Mk hq,QQ]
  congr 1
  apply Jo;intro r hr;have:=h r hr;show B ^ _=B ^ (L-1-(r-1).toNat)
  congr 1
  omega
 have e2:(sr.map λr=>B ^ (r-1).toNat).sum=val B (Kt L (sr.map λr=>(r-1).toNat)).reverse:=by rw[AE hq,QQ];rfl
 have e3:(sr.map λ_=>B ^ (L:Int).toNat).sum=((sr.map λr=>(r-1).toNat).length:Int)*B ^ L:=by rw[MF,Qb,QS]
 cases o with
 |firsts=>exact e1
 |full=>
  show(sr.map λr=>B ^ (L:Int).toNat+B ^ ((L:Int)-r).toNat).sum=((sr.map λr=>(r-1).toNat).length:Int)*B ^ (Kt L _).length+val B _
  rw[HX,e1,e3,Xf]
 |lasts=>
  show(sr.map λr=>B ^ (L:Int).toNat-B ^ (r-1).toNat).sum=((sr.map λr=>(r-1).toNat).length:Int)*B ^ ((Kt L (sr.map λr=>(r-1).toNat)).reverse.map λx=>-x).length+val B _
  rw[AD,e2,e3,BV,Qb,Qb,JG,Xf];omega
noncomputable def srv(got:zu):zu:=got.filter λr=>decide (r≠0)
noncomputable def plQ(got:zu):zI:=(srv got).map λr=>(r-1).toNat
theorem EI   (h:okR L got):Kk L got=Kt L (plQ got)++[(got.length:Int)-(plQ got).length]:=by
 unfold Kk
 congr 1
 .apply Jo
  intro p _
  congr 1
  unfold plQ srv;rw[List.count,List.count,List.countP_map,List.countP_filter];apply List.countP_congr;intro r hr;have:=h r hr;simp only[Function.comp,beq_iff_eq,Je,QN];omega
 .congr 1
  unfold plQ srv;rw[Qb,List.count]
  have e:got.length=got.countP (λr=>decide (r≠0))+got.countP (λr=>r==0):=by
   rw[List.length_eq_countP_add_countP]
   congr 1
   apply List.countP_congr;intro r _;simp
  rw[List.countP_eq_length_filter]at e;omega
theorem EM:∀{a b},a.length=b.length->fnz (KB a b)=0->a=b
 |[],[],_,_=>rfl
 |x::a,y::b,h,e=>by
  have e:(if x-y=0 then fnz (KB a b)else x-y)=0:=e;by_cases hxy:x-y=0
  .rw[Qr hxy]at e
   rw[EM (by simpa using h) e,show x=y by omega]
  simp_all
theorem Fb{n:Nat}{qs:zI}(h:∀p∈qs,p<n):(Kt n qs).sum=qs.length:=EK qs n h
theorem PX   (h:okR L got):∀p∈plQ got,p<L:=λp hp=>by
 obtain⟨r,hr,rfl⟩:=Qn.mp hp;obtain⟨hr,h0⟩:=Q8.mp hr;have:=h r hr
 lia
theorem kt{o:Ord}{L:Nat}{g1 g2:zu}(h1:okR L g1)(h2:okR L g2)(hl:g1.length=g2.length):fnz (V0 o (Kk L g1) (Kk L g2))=fnz (KB (KQ o L (plQ g1)) (KQ o L (plQ g2))):=by
 have hcl:(Kk L g1).length=(Kk L g2).length:=by rw[Wr,Wr]
 have hne:Kk L g1≠[]:=λe=>by have:=Wr L g1;rw[e]at this;cases this
 rw[←Ez hcl hne,EI h1,EI h2];have l1:=Xf L (plQ g1);have l2:=Xf L (plQ g2);have s1:=Fb (PX h1);have s2:=Fb (PX h2);generalize hc1:Kt L (plQ g1)=C1 at *;generalize hc2:Kt L (plQ g2)=C2 at *;have hC:C1.length=C2.length:=by rw[l1,l2]
 have last:∀(C:zu)(z:Int),YC (C++[z])=z:=λC z=>by
  unfold YC;rw[Qi,Qh,Qt (by show C.length<=C.length+1-1;omega)]
  show([z][C.length+1-1-C.length]?).getD 0=z
  rw[show C.length+1-1-C.length=0 by omega];rfl
 have tail:fnz (KB C1 C2++KB [(g1.length:Int)-(plQ g1).length] [(g2.length:Int)-(plQ g2).length])=fnz (KB C1 C2):=by
  rw[Op];by_cases e:fnz (KB C1 C2)=0
  .have:=EM hC e
   rw[Qr e,e]
   show(if(g1.length:Int)-(plQ g1).length-((g2.length:Int)-(plQ g2).length)=0 then(0:Int)else _)=0
   rw[Qr (by rw[this]at s1;omega)]
  .rw[QA e]
 cases o with
 |firsts=>show fnz (KB (C1++_) (C2++_))=fnz (KB (Kt L (plQ g1)) (Kt L (plQ g2)));rw[hc1,hc2,Py hC,tail]
 |full=>
  show fnz (KB ((0-YC (C1++_))::(C1++_)) ((0-YC (C2++_))::(C2++_)))=fnz (KB (((plQ g1).length:Int)::Kt L (plQ g1)) (((plQ g2).length:Int)::Kt L (plQ g2)));rw[hc1,hc2,last,last]
  show(if(0-((g1.length:Int)-(plQ g1).length))-(0-((g2.length:Int)-(plQ g2).length))=0 then fnz (KB (C1++_) (C2++_))else _)=_
  rw[Py hC,tail];have e:(0-((g1.length:Int)-(plQ g1).length))-(0-((g2.length:Int)-(plQ g2).length))=((plQ g1).length:Int)-(plQ g2).length:=by omega
  rw[e]
  congr 1
 |lasts=>
  show fnz (KB ((C1++[_]).reverse.map λx=>0-x) ((C2++[_]).reverse.map λx=>0-x))=fnz (KB (((plQ g1).length:Int)::(Kt L (plQ g1)).reverse.map λx=>-x) (((plQ g2).length:Int)::(Kt L (plQ g2)).reverse.map λx=>-x));rw[hc1,hc2,Up,Up];have e0:(λx:Int=>0-x)=λx=>-x:=by funext x;omega
  rw[e0]
  show(if -((g1.length:Int)-(plQ g1).length) - -((g2.length:Int)-(plQ g2).length)=0 then fnz (KB (C1.reverse.map λx=>-x) (C2.reverse.map λx=>-x))else _)=_
  have e : -((g1.length:Int)-(plQ g1).length) - -((g2.length:Int)-(plQ g2).length)=((plQ g1).length:Int)-(plQ g2).length:=by omega
  rw[e]
  congr 1
theorem Mj  {c}(h:∀i rs t,W i rs t=W1 i rs t*c+W2 i rs t):∀(ls)(ws)(k),KS (KG W k ls ws)=KS (KG W1 k ls ws)*c+KS (KG W2 k ls ws)
 |[],_,_=>by simp[KG,KS]
 |_::_,[],_=>by simp[KG,KS]
 |rs::ls,o::ws,k=>by
  rw[KG,KG,KG,Tz,Tz,Tz,Mj h ls ws _,Int.add_mul];cases o with
  |none=>simp_all
  |some t=>show W k rs t+_=W1 k rs t*c+_+(W2 k rs t+_);rw[h];omega
theorem Fa  : ∀(ls)(ws)(k:Nat),(∀(i:Nat) t rs,ws[i]?=O (O t)->ls[i]?=O rs->Zc t rs≠0)->KS (KG (λ_ rs t=>f (Zc t rs:Nat)) k ls ws)=((srv (U6 ls ws)).map f).sum
 |[],_,_,_=>by simp[KG,KS,U6,srv]
 |_::_,[],_,_=>by simp[KG,KS,U6,srv]
 |rs::ls,o::ws,k,h=>by
  have ih:=Fa (f:=f) ls ws (k+1) λi t r h1 h2=>h (i+1) t r (by simpa using h1) (by simpa using h2)
  have e:U6 (rs::ls) (o::ws)=rg rs o::U6 ls ws:=rfl;rw[KG,Tz,ih,e];cases o with
  |none=>
   have:srv (rg rs none::U6 ls ws)=srv (U6 ls ws):=rfl;rw[this]
   show(0:Int)+_=_
   omega
  |some t=>
   have h0:=h 0 t rs zo zo;have:srv (rg rs (O t)::U6 ls ws)=((Zc t rs:Nat):Int)::srv (U6 ls ws):=by unfold srv;rw[List.filter_cons_of_pos (by show decide (((Zc t rs:Nat):Int)≠0)=zq;simpa using h0)];rfl
   rw[this,Qv];rfl
theorem MX  {h:Nat->Int}:∀(ls)(ws)(k:Nat),ws.length=ls.length->(∀(i:Nat) rs o,ls[i]?=O rs->ws[i]?=O o->(o.map (W (k+i) rs)).getD 0=h (k+i))->KS (KG W k ls ws)=((UF ls.length).map λi=>h (k+i)).sum
 |[],[],_,_,_=>by simp[KG,KS]
 |rs::ls,o::ws,k,hl,hh=>by
  have ih:=MX (h:=h) ls ws (k+1) (by simpa using hl) λi rs' o' h1 h2=>by have:=hh (i+1) rs' o' (by simpa using h1) (by simpa using h2);rw[show k+1+i=k+(i+1)by omega];exact this
  have h0:=hh 0 rs o zo zo;rw[KG,Tz,ih,Qz,List.range_succ_eq_map,Qv,QQ]
  congr 2
  apply Jo;intro i _;show h (k+1+i)=h _;rw[show k+1+i=k+(i+1)by omega]
theorem Gn{c:Int}{a}:∀n:Nat,((UF n).map λi=>if i=a then c else 0).sum=if a<n then c else 0
 |0=>by simp
 |n+1=>by
  rw[JK,Qu,Ud,Gn n];show _+(_+0)=_;by_cases h:a<n
  .lia
  lia
theorem GZ{b:Int}{g:Int->Int}{n:Nat}:∀{ts:zu},ts.Nodup->(∀a∈ts,0<=a/\a<n)->((UF n).map λi:Nat=>if(i:Int)∈ts then g i*b ^ (ts.length-1-ts.idxOf (i:Int))else 0).sum=val b (ts.map g)
 |[],_,_=>by
  have:(λi:Nat=>if(i:Int)∈([]:zu)then g i*b ^ (([]:zu).length-1-([]:zu).idxOf (i:Int))else 0)=λ_=>(0:Int):=by funext i;rw[if_neg (by simp)]
  rw[this,MF];simp[val]
 |a::r,hn,hb=>by
  obtain⟨ha,hr⟩:=Uq.mp hn;have h0:=hb a Ql;have ih:=GZ (b:=b) (g:=g) (n:=n) hr λx hx=>hb x (Qj _ hx)
  have e:(λi:Nat=>if(i:Int)∈a::r then g i*b ^ ((a::r).length-1-(a::r).idxOf (i:Int))else 0) =
    λi:Nat=>(if i=a.toNat then g a*b ^ r.length else 0)+(if(i:Int)∈r then g i*b ^ (r.length-1-r.idxOf (i:Int))else 0):=by
   funext i;by_cases h:(i:Int)=a
   .have hi:i=a.toNat:=by omega
    rw[Qr (by rw[h];exact Ql),Qr hi,QA (by rw[h];exact ha),h,Qz];simp
   .have hi:¬i=a.toNat:=by omega
    rw[QA hi,JD];by_cases h2:(i:Int)∈r
    .have hb:(a==(i:Int))=zr:=by simpa using Ne.symm h
     rw[Qr (Qj _ h2),Qr h2,List.idxOf_cons,hb,Qz];show g i*b ^ (r.length+1-1-(r.idxOf (i:Int)+1))=_
     congr 2
     omega
    .rw[if_neg h2,if_neg (by simp[h,h2])]
  rw[e,HX,Gn,Qr (by omega),ih,Qv,val,Qb]
section
variable{cs:zu}{ls:List (List zu)}{ws us:LO}{o:Ord}{old:zG}{ts:zu}
theorem vb(hl:ws.length=ls.length)(ga:Yh cs.length ls.length old ts):KS (KG (λi rs t=>Tj ts (lng ls+1) i (Zc t rs:Nat)) 0 ls ws)=val ((lng ls:Int)+1) (ts.map (ZO ls ws)):=by
 rw[MX  ls ws 0 hl,←GZ ga.once ga.there]
 .congr 2
  funext i;rw[QK]
 .intro i rs o' h1 h2
  rw[QK];have e:ZO ls ws (i)=(o'.map λt=>(lng ls:Int)+1-(Zc t rs)).getD 0:=by unfold ZO;rw[QS,Qh,Qh,h1,h2];cases o'<;>rfl
  rw[e];cases o' with
  |none=>
   show(0)=if(i:Int)∈ts then 0*_ else 0
   split
   .rw[Int.zero_mul]
   .rfl
  |some t=>rfl
theorem Ex{os:LO}:∀(ls)(ws)(k:Nat),ws.length=ls.length->KS (KG (λi _ t=>if os[i]?=O (O t)then 1 else 0) k ls ws)=((((os.drop k).zip ws).filter λp=>decide (p.1=p.2)&&p.2.isSome).length:Nat)
 |[],[],k,_=>by simp[KG,KS]
 |rs::ls,o::ws,k,hl=>by
  have ih:=Ex (os:=os) ls ws (k+1) (by simpa using hl);rw[KG,Tz,ih];by_cases hk:k<os.length
  .rw[Jl hk,Q4,Qe hk]
   cases o with
   |none=>rw[List.filter_cons_of_neg (by simp)];show(0:Int)+_=_;omega
   |some t=>
    show(if O os[k]=O (O t)then(1:Int)else 0)+_=_
    by_cases e:os[k]=O t
    .rw[if_pos (by rw[e]),List.filter_cons_of_pos (by simp[e]),List.length_cons];omega
    .rw[if_neg (by simpa using e),List.filter_cons_of_neg (by simp[e])];omega
  .rw[Ub (by omega),Ub (by omega),List.zip_nil_left,List.zip_nil_left,QW (by omega)]
   cases o with
   |none=>rfl
   |some t=>rfl
theorem kr(hl:ws.length=ls.length):KS (KG (λi _ t=>WK old i t) 0 ls ws)=(K7 old ws:Int):=by
 cases old with
 |none=>
  rw[MX (h:=λ_=>0) ls ws 0 hl,MF]
  .simp[K7]
  .intro i rs o' _ _
   cases o'<;>rfl
 |some os=>exact Ex ls ws 0 hl
theorem ME(dl:Deal cs ls ws)(ga:Yh cs.length ls.length old ts):KS (KG (Zr ls o old ts) 0 ls ws) =
  (val ((ls.length:Int)+1) (KQ o (lng ls) (plQ (U6 ls ws)))*((ls.length:Int)+1)+K7 old ws)*((lng ls:Int)+1) ^ ts.length+val ((lng ls:Int)+1) (ts.map (ZO ls ws)):=by
 rw[Mj (W:=Zr ls o old ts)    (λ_ _ _=>rfl) ls ws 0,
  Mj    (λ_ _ _=>rfl) ls ws 0,vb dl.len ga,kr dl.len,
  Fa  ls ws 0 (λi t rs h1 h2=>M0 (dl.wish i t rs h1 h2)),Go o]
 .rfl
 .intro r hr
  obtain⟨hr,h0⟩:=Q8.mp hr;have:=Wi   r hr
  lia
end
theorem Mi{lo n}{a b}(ha:∀x∈a,lo<=x/\x<=lo+n)(hb:∀x∈b,lo<=x/\x<=lo+n):∀d∈KB a b, -n<=d/\d<=n:=λd hd=>by
 obtain⟨p,hp,rfl⟩:=Qn.mp hd;obtain⟨h1,h2⟩:=List.of_mem_zip   hp
 grind
theorem On   {m}(h:(qs.length:Int)<=m):∀x∈Kt n qs,0<=x/\x<=0+m:=λx hx=>by
 obtain⟨p,_,rfl⟩:=Qn.mp hx
 grind
theorem GY(o)(L)(p q):(KQ o L p).length=(KQ o L q).length:=by cases o<;>simp[KQ,Xf]
theorem Gm(o:Ord){L:Nat}{p q}{m:Int}(hp:(p.length:Int)<=m)(hq:(q.length:Int)<=m):∀d∈KB (KQ o L p) (KQ o L q), -m<=d/\d<=m:=by
 have hc:=Mi (On (n:=L) hp) (On (n:=L) hq);cases o with
 |firsts=>exact hc
 |full=>
  intro d hd;rcases QL.mp (show d∈((p.length:Int)-q.length)::KB _ _ from hd)with rfl|h
  .omega
  .exact hc d h
 |lasts=>
  intro d hd;rcases QL.mp (show d∈((p.length:Int)-q.length)::KB _ _ from hd)with rfl|h
  .omega
  .refine Mi (lo:=-m)  (λx hx=>?_) (λx hx=>?_) d h
   .obtain⟨y,hy,rfl⟩:=Qn.mp hx
    have:=On (n:=L) hp y (List.mem_reverse.mp hy);omega
   .obtain⟨y,hy,rfl⟩:=Qn.mp hx
    have:=On (n:=L) hq y (List.mem_reverse.mp hy);omega
theorem kq   (h:Yl o a=Yl o b):a=b:=by
 cases o with
 |firsts=>exact h
 |full=>exact(List.cons.inj h).2
 |lasts=>have:=(List.map_inj_right (λx y (e)=>by omega)).mp h;exact List.reverse_inj.mp this
theorem wa{a a' k k' t t' B P:Int}:((a*B+k)*P+t)-((a'*B+k')*P+t')=((a-a')*B+(k-k'))*P+(t-t'):=by
 lia
section
variable{cs:zu}{ls:List (List zu)}{ws us:LO}{o:Ord}{old:zG}{ts:zu}
theorem Gk:((plQ (U6 ls ws)).length:Int)<=ls.length:=by
 have h1:(plQ (U6 ls ws)).length<=(U6 ls ws).length:=by unfold plQ srv;rw[Qb];exact Js _ _
 have h2:(U6 ls ws).length<=ls.length:=by unfold U6;grind
 omega
theorem F5(hl:ws.length=ls.length):(K7 old ws:Int)<=ls.length:=by
 cases old with
 |none=>show((0))<=_;omega
 |some os=>
  have h:=Js (λp   =>decide (p.1=p.2)&&p.2.isSome) (os.zip ws);rw[JP]at h
  show((((os.zip ws).filter λp=>decide _&&p.2.isSome).length):Int)<=_
  omega
theorem GX(g:Good cs ls)(dl:Deal cs ls ws)(ga:Yh cs.length ls.length old ts):∀x∈ts.map (ZO ls ws),0<=x/\x<=0+(lng ls:Int):=λx hx=>by
 rw[Pm g dl ga]at hx;obtain⟨y,hy,rfl⟩:=Qn.mp hx;obtain⟨z,_,rfl⟩:=Qn.mp hy;have:=Pd (ls:=ls) (ws:=ws) (z:=z);unfold tf
 lia
theorem v8(g:Good cs ls)(d1:Deal cs ls ws)(d2:Deal cs ls us)(ga:Yh cs.length ls.length old ts){w1 w2:Int}(e1:w1=KS (KG (Zr ls o old ts) 0 ls ws))(e2:w2=KS (KG (Zr ls o old ts) 0 ls us)) :
  (w2<w1 ↔ 0<fnz (V0 o (Kk (lng ls) (U6 ls ws)) (Kk (lng ls) (U6 ls us)))∨fnz (V0 o (Kk (lng ls) (U6 ls ws)) (Kk (lng ls) (U6 ls us)))=0/\((K7 old us:Int)<K7 old ws∨(K7 old ws:Int)=K7 old us/\0<fnz (KB (ts.map (ZO ls ws)) (ts.map (ZO ls us))))) /\
  (w1=w2 ↔ fnz (V0 o (Kk (lng ls) (U6 ls ws)) (Kk (lng ls) (U6 ls us)))=0/\(K7 old ws:Int)=K7 old us/\fnz (KB (ts.map (ZO ls ws)) (ts.map (ZO ls us)))=0):=by
 have hgl:(U6 ls ws).length=(U6 ls us).length:=by rw[TC d1.len,TC d2.len]
 rw[kt (Wi (ls:=ls) (ws:=ws)) (Wi (ls:=ls) (ws:=us)) hgl];have hB:(0:Int)<(ls.length:Int)+1:=by omega
 have hM:(0:Int)<(lng ls:Int)+1:=by omega
 have bd1:=Gm o (L:=lng ls) (Gk (ls:=ls) (ws:=ws)) (Gk (ls:=ls) (ws:=us));have bd2:=Mi (GX g d1 ga) (GX g d2 ga);have k1:=F5 (old:=old) d1.len;have k2:=F5 (old:=old) d2.len;have hl1:=GY o (lng ls) (plQ (U6 ls ws)) (plQ (U6 ls us));have hl2:(ts.map (ZO ls ws)).length=(ts.map (ZO ls us)).length:=by rw[Qb,Qb]
 have v1:=OM (B:=(ls.length:Int)+1) hl1;have v2:=OM (B:=(lng ls:Int)+1) hl2;have ml:(KB (ts.map (ZO ls ws)) (ts.map (ZO ls us))).length=ts.length:=by rw[Px hl2,Qb]
 have f1:=Oo hB (l:=KB (KQ o (lng ls) (plQ (U6 ls ws))) (KQ o (lng ls) (plQ (U6 ls us)))) (λd hd=>by have:=bd1 d hd;omega);have f2:=Oo hM (l:=KB (ts.map (ZO ls ws)) (ts.map (ZO ls us))) (λd hd=>by have:=bd2 d hd;omega);have sm:=MH hM (l:=KB (ts.map (ZO ls ws)) (ts.map (ZO ls us))) (λd hd=>by have:=bd2 d hd;omega);rw[ml]at sm;have aG:=MG (X:=val ((ls.length:Int)+1) (KB (KQ o (lng ls) (plQ (U6 ls ws))) (KQ o (lng ls) (plQ (U6 ls us))))) (Y:=(K7 old ws:Int)-K7 old us) hB (by omega);have aQ:=MG (X:=val ((ls.length:Int)+1) (KB (KQ o (lng ls) (plQ (U6 ls ws))) (KQ o (lng ls) (plQ (U6 ls us))))*((ls.length:Int)+1)+((K7 old ws:Int)-K7 old us)) (Ml hM ts.length) sm;have df:w1-w2=(val ((ls.length:Int)+1) (KB (KQ o (lng ls) (plQ (U6 ls ws))) (KQ o (lng ls) (plQ (U6 ls us))))*((ls.length:Int)+1)+((K7 old ws:Int)-K7 old us))*((lng ls:Int)+1) ^ ts.length+val ((lng ls:Int)+1) (KB (ts.map (ZO ls ws)) (ts.map (ZO ls us))):=by rw[e1,e2,ME d1 ga,ME d2 ga,v1,v2];exact wa
 rw[←df]at aQ;generalize val ((ls.length:Int)+1) (KB (KQ o (lng ls) (plQ (U6 ls ws))) (KQ o (lng ls) (plQ (U6 ls us))))*((ls.length:Int)+1)+((K7 old ws:Int)-K7 old us)=X at aG aQ;generalize val ((lng ls:Int)+1) (KB (ts.map (ZO ls ws)) (ts.map (ZO ls us)))=Y at aQ f2;generalize fnz (KB (KQ o (lng ls) (plQ (U6 ls ws))) (KQ o (lng ls) (plQ (U6 ls us))))=A at f1⊢;generalize fnz (KB (ts.map (ZO ls ws)) (ts.map (ZO ls us)))=C at f2⊢;constructor
 .constructor
  .intro h
   rcases aQ.1.mp (by omega)with h1|⟨h1,h2⟩
   .rcases aG.1.mp h1 with h3|⟨h3,h4⟩
    .exact .inl (f1.1.mp h3)
    .exact .inr ⟨f1.2.mp h3,.inl (by omega)⟩
   .obtain⟨h3,h4⟩:=aG.2.mp h1
    exact .inr ⟨f1.2.mp h3,.inr ⟨by omega,f2.1.mp h2⟩⟩
  .intro h
   have:0<w1-w2:=aQ.1.mpr (by
    rcases h with h|⟨h,h2|⟨h2,h3⟩⟩
    .exact .inl (aG.1.mpr (.inl (f1.1.mpr h)))
    .exact .inl (aG.1.mpr (.inr ⟨f1.2.mpr h,by omega⟩))
    .exact .inr ⟨aG.2.mpr ⟨f1.2.mpr h,by omega⟩,f2.1.mpr h3⟩)
   omega
 .constructor
  .intro h
   obtain⟨h1,h2⟩:=aQ.2.mp (by omega);obtain⟨h3,h4⟩:=aG.2.mp h1;exact⟨f1.2.mp h3,by omega,f2.2.mp h2⟩
  .rintro⟨h1,h2,h3⟩
   have:=aQ.2.mpr ⟨aG.2.mpr ⟨f1.2.mpr h1,by omega⟩,f2.2.mpr h3⟩;omega
theorem MD(g:Good cs ls)(d1:Deal cs ls ws)(d2:Deal cs ls us)(ga:Yh cs.length ls.length old ts) :
  Vm o (Kk (lng ls) (U6 ls ws)) (Kk (lng ls) (U6 ls us)) (K7 old ws) (K7 old us) (ts.map (rgA ls ws)) (ts.map (rgA ls us))=decide (KS (KG (Zr ls o old ts) 0 ls us)<KS (KG (Zr ls o old ts) 0 ls ws)):=by
 have ht:=MI  (xs:=ts.map (rgA ls ws)) (ys:=ts.map (rgA ls us)) (λr h=>by obtain⟨z,_,rfl⟩:=Qn.mp h;exact Pd) (λr h=>by obtain⟨z,_,rfl⟩:=Qn.mp h;exact Pd);rw[←Pm g d1 ga,←Pm g d2 ga]at ht;have hs:=(v8 (o:=o) g d1 d2 ga zo zo).1;unfold Vm
 lia
end
theorem GW:∀(a b)(k),Kf k (a++b)=Kf k a++Kf (k+a.length) b
 |[],b,k=>rfl
 |rs::a,b,k=>by show _++Kf _ (a++b)=_;rw[GW a b _];show _=(_++Kf _ a)++Kf (k+(a.length+1)) b;rw[Q2,show k+1+a.length=k+(a.length+1)by lia]
theorem EH{α β:Type}{f:α->β}(hf:∀a b,f a=f b->a=b){l:List α}(h:l.Nodup):(l.map f).Nodup:=by unfold List.Nodup at h⊢;rw[Uf];exact h.imp λhne e=>hne (hf _ _ e)
theorem EG:∀(ls)(k),(∀rs∈ls,rs.flatten.Nodup)->(Kf k ls).Nodup
 |[],_,_=>List.nodup_nil
 |rs::ls,k,h=>by
  show((Y6 rs.flatten).map _++Kf _ ls).Nodup
  rw[List.nodup_append];refine⟨?_,EG ls _ λr hr=>h r (Qj _ hr),λa ha b hb e=>?_⟩
  .exact EH (λx y e=>(Ut e).2) ((W8 _).nodup_iff.mpr (h rs Ql))
  .subst e
   obtain⟨t,_,rfl⟩:=Qn.mp ha;have:=Mm ls _ _ hb;simp at this
   lia
section
variable{cs:zu}{ls:List (List zu)}{o:Ord}{old:zG}{ts:zu}
theorem NN(g:Good cs ls):(Kf 0 ls).length<=42:=by rw[(RB ls 0).length_eq];exact Pe g
end
theorem va(l:zu):(l.map int).all flat=zq:=by rw[Jf];intro x hx;obtain⟨y,_,rfl⟩:=Qn.mp hx;rfl
noncomputable def Xj(tm:Int)(as ps:zu):D:=.tuple [.int tm,.list (as.map int),.list (ps.map int)]
noncomputable def Na(ps cs:zu):zu:=(ps.zip cs).map λp=>p.1*p.2
noncomputable def Wp(cs as ps:zu):Int:=as.sum+(Na ps cs).sum
theorem AC   (g:Good cs ls):∀q∈Kf 0 ls,(0<=q.1/\q.1<ls.length)/\0<=q.2/\q.2<cs.length:=λq hq=>by
 obtain⟨i,rs,h1,h2,h3⟩:=V8 hq;have:=(g.rk rs (Qy h1)).flat q.2 h3;have:=(Qg.mp h1).1
 lia
theorem Gj{ns:zu}{k:Int}(h0:0<=k)(h1:k<ns.length):oIx (.list (ns.map int)) (.int k)=O (.int (ns.getD k.toNat 0)):=by
 obtain⟨j,rfl⟩:∃j:Nat,k=j:=⟨k.toNat,by lia⟩
 exact NQ (by lia)
section
variable{cs:zu}{ls:List (List zu)}{o:Ord}{old:zG}{ts:zu}
theorem GV(g:Good cs ls)(ga:Yh cs.length ls.length old ts){q:Int×Int}(hq:q∈Kf 0 ls):0<=KH ls o old ts q.1 q.2/\KH ls o old ts q.1 q.2<18446744073709551616:=by
 obtain⟨i,rs,h1,h2,h3⟩:=V8 hq;have l7:=g.l7;have l1:=g.l1;have hL:lng ls<=5:=Nq l1 λrs h=>(g.rk rs h).few;have zZ:=Rk (Qy h1);have hr1:1<=Zc q.2 rs:=by have:=M0 h3;lia
 have zT:Zc q.2 rs<=lng ls:=by have:=MK q.2 rs;lia
 have htl:=ga.few
 have e:KH ls o old ts q.1 q.2=Zr ls o old ts i rs q.2:=by
  unfold KH;rw[h2,QK,QS]
  congr 1
  simp[List.getD,h1]
 rw[e];unfold Zr;have pw:∀{b:Int}{n k:Nat},1<=b->b<=8->n<=k->1<=b ^ n/\b ^ n<=8 ^ k:=λ{b n k} h0 h8 hk=>⟨Int.pow_pos h0,EB (by lia) h8 hk⟩
 have hb1:(1:Int)<=(ls.length:Int)+1:=by lia
 have bT:(ls.length:Int)+1<=8:=by lia
 have hM1:(1:Int)<=(lng ls:Int)+1:=by lia
 have hM8:(lng ls:Int)+1<=8:=by lia
 have a1:=pw hb1 bT (n:=lng ls) (k:=5) hL;have a2:=pw hb1 bT (n:=((lng ls:Int)-(Zc q.2 rs:Nat)).toNat) (k:=5) (by lia);have a3:=pw hb1 bT (n:=((Zc q.2 rs:Nat)-1:Int).toNat) (k:=5) (by lia)
 have a4:((ls.length:Int)+1) ^ ((Zc q.2 rs:Nat)-1:Int).toNat<=((ls.length:Int)+1) ^ lng ls:=by
  have:((Zc q.2 rs:Nat)-1:Int).toNat<=lng ls:=by lia
  obtain⟨k,hk⟩:=Nat.exists_eq_add_of_le this;rw[hk,Int.pow_add];have:=(pw hb1 bT (n:=k) (k:=5) (by lia)).1;have hm:=Int.mul_le_mul_of_nonneg_left this (show 0<=((ls.length:Int)+1) ^ ((Zc q.2 rs:Nat)-1:Int).toNat by lia);rw[Int.mul_one]at hm;exact hm
 have b1:0<=Yy o (ls.length+1) (lng ls) (Zc q.2 rs)/\Yy o (ls.length+1) (lng ls) (Zc q.2 rs)<=65536:=by
  cases o with
  |firsts=>show 0<=_ ^ _/\_ ^ _<=65536;lia
  |full=>show 0<=_ ^ ((lng ls:Int)).toNat+_ ^ _/\_ ^ ((lng ls:Int)).toNat+_ ^ _<=65536;rw[QS];lia
  |lasts=>show 0<=_ ^ ((lng ls:Int)).toNat-_ ^ _/\_ ^ ((lng ls:Int)).toNat-_ ^ _<=65536;rw[QS];lia
 have b2:0<=WK old i q.2/\WK old i q.2<=1:=by
  unfold WK;split
  .lia
  .split<;>lia
 have b3:=pw hM1 hM8 (n:=ts.length) (k:=7) (by lia)
 have b4:0<=Tj ts ((lng ls:Int)+1) i (Zc q.2 rs)/\Tj ts ((lng ls:Int)+1) i (Zc q.2 rs)<=8*8 ^ 7:=by
  unfold Tj;split
  .have b5:=pw hM1 hM8 (n:=ts.length-1-ts.idxOf (i:Int)) (k:=7) (by lia)
   refine⟨Int.mul_nonneg (by lia) (by lia),?_⟩;exact Int.mul_le_mul (by lia) b5.2 (by lia) (by decide)
  .exact⟨by lia,by decide⟩
 have c1:0<=Yy o (ls.length+1) (lng ls) (Zc q.2 rs)*(ls.length+1)+WK old i q.2/\Yy o (ls.length+1) (lng ls) (Zc q.2 rs)*(ls.length+1)+WK old i q.2<=600000:=by
  have d1:0<=Yy o (ls.length+1) (lng ls) (Zc q.2 rs)*((ls.length:Int)+1):=Int.mul_nonneg b1.1 (by lia);have d2   :=Int.mul_le_mul b1.2 bT (by lia) (by decide)
  lia
 have d3:0<=(Yy o (ls.length+1) (lng ls) (Zc q.2 rs)*(ls.length+1)+WK old i q.2)*((lng ls:Int)+1) ^ ts.length:=Int.mul_nonneg c1.1 (by lia);have d4   :=Int.mul_le_mul c1.2 b3.2 (by lia) (by decide)
 lia
end
structure OkP(n m:Nat)(V:Int->Int->Int)(qs:LP)(tm:Int)(as ps:zu):Prop where
 t0:0<=tm
 la:as.length=m
 lp:ps.length=n
 aa:∀a∈as,0<=a
 pp:∀p∈ps,0<=p
 le:∀q∈qs,tm*V q.1 q.2<=as.getD q.1.toNat 0+ps.getD q.2.toNat 0
noncomputable def pz(ps:zu)(ws:LO):Int:=(ws.map λo=>match o with|some t=>ps.getD t.toNat 0|none=>0).sum
noncomputable def Zl(n:Nat)(f:Nat->Int):Int:=((UF n).map f).sum
theorem Vb   : Zl (n+1) f=Zl n f+f n:=by unfold Zl;rw[JK];simp
theorem GU  : ∀(n),Zl n (λk=>f k+h k)=Zl n f+Zl n h
 |0=>rfl
 |n+1=>by rw[Vb,Vb,Vb,GU n];lia
theorem Rn  : ∀(n),(∀k,k<n->f k<=h k)->Zl n f<=Zl n h
 |0,_=>Jd _
 |n+1,e=>by
  have h1:=Rn n λk hk=>e k (by lia)
  have h2:=e n (by lia);rw[Vb,Vb]
  lia
theorem MP:∀(n)(f),(∀k,k<n->f k=0)->Zl n f=0
 |0,_,_=>rfl
 |n+1,f,e=>by rw[Vb,MP n f λk hk=>e k (by lia),e n (by lia)];rfl
theorem GT{p:Nat->Int}{j}:∀(n),j<n->Zl n (λk=>if k=j then p k else 0)=p j
 |n+1,h=>by
  rw[Vb];by_cases e:n=j
  .subst e
   rw[Qr zo,MP n _ λk hk=>QA (by lia)]
   lia
  .rw[QA e,GT n (by lia)]
   lia
theorem MW  {n}(e:∀k,k<n->f k=h k):Zl n f=Zl n h:=Int.le_antisymm (Rn n λk hk=>by rw[e k hk];exact Int.le_refl _) (Rn n λk hk=>by simp_all)
theorem OS  {n:Nat}:∀(ws:LO),(∀t,O t∈ws->0<=t/\t<n)->pz ps ws=Zl n λk=>((ws.count (O (k:Int)):Nat):Int)*ps.getD k 0
 |[],_=>by rw[MP n _ λk _=>by simp];rfl
 |o::ws,h=>by
  have ih:=OS (ps:=ps) ws λt ht=>h t (Qj _ ht)
  cases o with
  |none=>
   show((0:Int)::_).sum=_
   rw[Jn];unfold pz at ih;rw[ih,JD];exact MW λk _=>by simp
  |some t=>
   have ht:=h t Ql
   show(ps.getD t.toNat 0::_).sum=_
   rw[Jn];unfold pz at ih;rw[ih,←GT (p:=λk=>ps.getD k 0) (j:=t.toNat) n (by lia),←GU];refine MW λk _=>?_;rw[JJ]
   by_cases e:k=t.toNat
   .subst e
    have:(O t==O ((t.toNat:Nat):Int))=zq:=by simp;lia
    rw[Qr zo,Qr this,Int.natCast_add,Int.add_mul]
    lia
   .have:¬(O t==O ((k:Nat):Int))=zq:=by simp;lia
    rw[QA e,QA this,JD,Nat.add_zero]
theorem MV:∀(ps cs),ps.length=cs.length->(Na ps cs).sum=Zl cs.length λk=>cs.getD k 0*ps.getD k 0
 |ps,cs,h=>by
  unfold Zl Na
  congr 1
  apply JC;intro i;rw[Qd,Qd];by_cases hi:i<cs.length
  .rw[QJ hi]
   have h1:ps[i]?=O ps[i]:=Qe (by lia);have h2   :=Qe hi;have hz:_[i]?=O (ps[i],cs[i]):=JX.mpr ⟨h1,h2⟩;rw[hz];simp only[Option.map_some,Qh,h1,h2,Option.getD_some,Int.mul_comm]
  .rw[QW  (by rw[JP];lia),QW  (by rw[Qo];lia)]
   rfl
theorem F4  : ∀{xs:zw},(∀x∈xs,x.depth<=k)->PyData.depthAll xs<=k
 |[],_=>by simp[PyData.depthAll]
 |x::r,h=>by
  have h1:=h x Ql;have h2:=F4  λy hy=>h y (Qj _ hy);simp only[PyData.depthAll]
  lia
structure Stp where
 a:Nat
 b:Nat
 g:Int
 w:Option Nat
abbrev Tab:=List (Int×List Stp)
noncomputable def ent(T:Tab)(p:Nat):Int×List Stp:=T.getD p (0,[])
noncomputable def YN(W T:Tab)(s:Stp):Tab:=if(ent T s.b).1<(ent W s.a).1+s.g then T.set s.b ((ent W s.a).1+s.g,(ent W s.a).2++[s])else T
noncomputable def PV(W:Tab)(S:List Stp):Tab:=S.foldl (YN W) W
noncomputable def K8(n:Nat)(S:List Stp):Nat->Tab
 |0=>UG n (0,[])
 |t+1=>PV (K8 n S t) S
theorem yq{T:Tab}{p}{x}(h:p<T.length):ent (T.set p x) p=x:=by unfold ent;rw[Qh,QI h];rfl
theorem MU  {p q}{x}(h:p≠q):ent (T.set p x) q=ent T q:=by unfold ent;simp_all
theorem xZ(W T)(s):(YN W T s).length=T.length:=by
 unfold YN;split
 .simp_all
 .rfl
structure Rf(W T:Tab)(S:List Stp):Prop where
 len:T.length=W.length
 up:∀p,(ent W p).1<=(ent T p).1
 how:∀p,ent T p=ent W p ∨ ∃s∈S,s.b=p/\ent T p=((ent W s.a).1+s.g,(ent W s.a).2++[s])/\(ent W p).1<(ent T p).1
theorem yp{W T:Tab}{S:List Stp}{s:Stp}(hs:s∈S)(hb:s.b<W.length)(k:Rf W T S):Rf W (YN W T s) S/\(∀p,(ent T p).1<=(ent (YN W T s) p).1)/\(ent W s.a).1+s.g<=(ent (YN W T s) s.b).1:=by
 have aB:s.b<T.length:=by rw[k.len];exact hb
 unfold YN;split
 .have self:=yq (x:=((ent W s.a).1+s.g,(ent W s.a).2++[s])) aB
  refine⟨⟨by rw[Jb];exact k.len,λp=>?_,λp=>?_⟩,λp=>?_,by rw[self];exact Jd _⟩
  .by_cases z:s.b=p
   .subst z;rw[self];have:=k.up s.b;show _<=(ent W s.a).1+s.g;lia
   .rw[MU z];exact k.up p
  .by_cases z:s.b=p
   .subst z;right;exact⟨s,hs,rfl,self,by rw[self];have:=k.up s.b;show _<(ent W s.a).1+s.g;lia⟩
   .rw[MU z];exact k.how p
  .by_cases z:s.b=p
   .subst z;rw[self];show _<=(ent W s.a).1+s.g;lia
   .rw[MU z];exact Jd _
 .exact⟨k,λp=>Jd _,by lia⟩
theorem E2  {S}(hS:∀s∈S,s.b<W.length):∀(R:List Stp)(T),(∀s∈R,s∈S)->Rf W T S->Rf W (R.foldl (YN W) T) S/\(∀p,(ent T p).1<=(ent (R.foldl (YN W) T) p).1)/\∀s∈R,(ent W s.a).1+s.g<=(ent (R.foldl (YN W) T) s.b).1
 |[],T,_,k=>⟨k,λ_=>Jd _,λs h=>by cases h⟩
 |s::R,T,hR,k=>by
  obtain⟨k1,u1,c1⟩:=yp (hR s Ql) (hS s (hR s Ql)) k;obtain⟨k2,u2,c2⟩:=E2 hS R _ (λx hx=>hR x (Qj _ hx)) k1;refine⟨k2,λp=>J0 (u1 p) (u2 p),λx hx=>?_⟩;rcases QL.mp hx with rfl|hx
  .exact J0 c1 (u2 x.b)
  .exact c2 x hx
theorem Dm  {S}(hS:∀s∈S,s.b<W.length):Rf W (PV W S) S/\∀s∈S,(ent W s.a).1+s.g<=(ent (PV W S) s.b).1:=by obtain⟨k,_,c⟩:=E2 hS S W (λ_ h=>h) ⟨rfl,λ_=>Jd _,λ_=>.inl zo⟩;exact⟨k,c⟩
section
variable{n:Nat}{S:List Stp}(hS:∀s∈S,s.a<n/\s.b<n)
include hS
theorem RK:∀t,(K8 n S t).length=n
 |0=>by unfold K8;rw[Q0]
 |t+1=>by unfold K8;rw[(Dm (λs h=>by rw[RK t];simp_all)).1.len,RK t]
theorem TF(t):Rf (K8 n S t) (K8 n S (t+1)) S/\∀s∈S,(ent (K8 n S t) s.a).1+s.g<=(ent (K8 n S (t+1)) s.b).1:=
 Dm (λs h=>by rw[RK hS t];simp_all)
theorem Pl(p):ent (K8 n S 0) p=(0,[]):=by
 unfold ent K8;rw[Qh,QC]
 split<;>rfl
theorem OQ:∀t,(∀p,(ent (K8 n S t) p).2.length<=t)/\(∀p,0<t->ent (K8 n S t) p≠ent (K8 n S (t-1)) p->(ent (K8 n S t) p).2.length=t)
 |0=>⟨λp=>by rw[Pl hS];exact Qx _,λp h=>absurd h (Jt _)⟩
 |t+1=>by
  obtain⟨h1,h2⟩:=OQ t;obtain⟨k,c⟩:=TF hS t
  have key:∀p,ent _ p≠ent (K8 n S t) p->(ent _ p).2.length=t+1:=λp hne=>by
   rcases k.how p with e|⟨s,hs,hb,e,lt⟩
   .exact absurd e hne
   .rw[e,Qi]
    congr 1
    cases t with
    |zero=>rw[Pl hS];rfl
    |succ t=>
     refine h2 s.a (JS t) λz=>?_
     obtain⟨k0,c0⟩:=TF hS t;have:=c0 s hs;rw[Nat.add_sub_cancel]at z;rw[e,z,←hb]at lt;exact absurd lt (by lia)
  refine⟨λp=>?_,λp _ hne=>key p (by exact hne)⟩;by_cases z:ent (K8 n S (t+1)) p=ent (K8 n S t) p
  .rw[z];exact Nat.le_succ_of_le (h1 p)
  .rw[key p z];exact Qx _
end
inductive Walk(S:List Stp):Nat->List Stp->Prop where
 |nil (p:Nat):Walk S p []
 |snoc {w:List Stp} {s:Stp} (hs:s∈S) (h:Walk S s.a w):Walk S s.b (w++[s])
noncomputable def KD(w:List Stp):Int:=(w.map Stp.g).sum
theorem Mh:KD []=0:=rfl
theorem W9(u v):KD (u++v)=KD u+KD v:=by unfold KD;simp_all
theorem Ru(s:Stp):KD [s]=s.g:=by unfold KD;simp
section
variable{n:Nat}{S:List Stp}(hS:∀s∈S,s.a<n/\s.b<n)
include hS
theorem Pw:∀t p,Walk S p (ent (K8 n S t) p).2/\KD (ent (K8 n S t) p).2=(ent (K8 n S t) p).1
 |0,p=>by rw[Pl hS];exact⟨.nil p,rfl⟩
 |t+1,p=>by
  rcases(TF hS t).1.how p with e|⟨s,hs,hb,e,_⟩
  .rw[e];exact Pw t p
  .obtain⟨h1,h2⟩:=Pw t s.a
   rw[e,←hb];exact⟨.snoc hs h1,by rw[W9,Ru,h2]⟩
theorem F3  (h:t<=u)(p):(ent (K8 n S t) p).1<=(ent (K8 n S u) p).1:=by
 induction h with
 |refl=>exact Jd _
 |step _ ih=>exact J0 ih ((TF hS _).1.up p)
theorem xY   (h:Walk S p w):∀(t),w.length<=t->KD w<=(ent (K8 n S t) p).1:=by
 induction h with
 |nil p=>intro t _;have:=F3 hS (Uh t) p;rw[Pl hS]at this;exact this
 |@snoc w s hs h ih=>
  intro t hl;rw[Qi,QX]at hl;obtain⟨u,rfl⟩:∃u,t=u+1:=⟨t-1,by lia⟩
  have:=ih u (by lia);have:=(TF hS u).2 s hs;rw[W9,Ru]
  lia
theorem v7  (h0:0<t)(h:∀p,p<n->(ent (K8 n S t) p).2.length≠t):∀s∈S,(ent (K8 n S t) s.a).1+s.g<=(ent (K8 n S t) s.b).1:=λs hs=>by
 obtain⟨u,rfl⟩:∃u,t=u+1:=⟨t-1,by lia⟩
 have e   :=Classical.byContradiction λz=>h s.a (hS s hs).1 ((OQ hS _).2 s.a h0 z);rw[e]
 exact(TF hS u).2 s hs
end
inductive Path(S:List Stp):Nat->List Stp->Nat->Prop where
 |nil (p:Nat):Path S p [] p
 |cons {s:Stp} {w:List Stp} {p:Nat} (hs:s∈S) (h:Path S s.b w p):Path S s.a (s::w) p
section
variable{S:List Stp}
theorem Path.append  {u v}(h1:Path S q u m)(h2:Path S m v p):Path S q (u++v) p:=by
 induction h1 with
 |nil p=>simp_all
 |cons hs h ih=>exact .cons hs (ih h2)
theorem Path.split  {v}:∀{u}{q},Path S q (u++v) p->∃m,Path S q u m/\Path S m v p
 |[],q,h=>⟨q,.nil q,h⟩
 |s::u,q,h=>by
  cases h with
  |cons hs h=>obtain⟨m,h1,h2⟩:=Path.split  h;exact⟨m,.cons hs h1,h2⟩
theorem Path.mem  {w}(h:Path S q w p):∀s∈w,s∈S:=by
 induction h with
 |nil p=>simp_all
 |cons hs h ih=>simp_all
theorem Walk.path   (h:Walk S p w):∃q,Path S q w p:=by
 induction h with
 |nil p=>exact⟨p,.nil p⟩
 |snoc hs h ih=>obtain⟨q,hq⟩:=ih;exact⟨q,hq.append (.cons hs (.nil _))⟩
theorem Path.walk  : ∀{w}{q},Path S q w p->∀{u},Walk S q u->Walk S p (u++w)
 |[],q,h,u,hu=>by cases h;simp_all
 |s::w,q,h,u,hu=>by
  cases h with
  |cons hs h=>have:=Path.walk h (Walk.snoc hs hu);simp_all
theorem Path.head{q p:Nat}{s:Stp}{w:List Stp}(h:Path S q (s::w) p):q=s.a:=by cases h;rfl
theorem Path.step  {s}{w}(h:Path S q (s::w) p):s∈S/\Path S s.b w p:=by cases h with|cons hs h=>exact⟨hs,h⟩
theorem Path.at  {w}(h:Path S q w p){i}{s}(hi:w[i]?=O s):Path S q (w.take i) s.a/\Path S q (w.take (i+1)) s.b/\Path S s.b (w.drop (i+1)) p:=by
 have hl   :=(Qg.mp hi).1
 have e:w.drop i=s::w.drop (i+1):=by
  rw[Jl hl]
  congr 1
  exact(Qg.mp hi).2
 have h':Path S q (w.take i++w.drop i) p:=by rw[JW];exact h
 obtain⟨m,h1,h2⟩:=h'.split;rw[e]at h2;have hm:=h2.head;subst hm;obtain⟨hs,h3⟩:=h2.step;refine⟨h1,?_,h3⟩;rw[J8,hi];exact h1.append (.cons hs (.nil _))
theorem Path.next  {w}(h:Path S q w p){i}{s t}(hi:w[i]?=O s)(hj:w[i+1]?=O t):t.a=s.b:=by obtain⟨_,_,h3⟩:=h.at hi;have hl   :=(Qg.mp hj).1;rw[Jl hl]at h3;rw[←(Qg.mp hj).2];exact h3.head.symm
structure NM(w:List Stp)(i j:Nat):Prop where
 ij:i<=j
 jl:j<w.length
 same:∀s t,w[i]?=O s->w[j]?=O t->s.a=t.b
 first:∀j'<j,∀i' ≤ j',∀s t,w[i']?=O s->w[j']?=O t->s.a≠t.b
def Gi(w:List Stp):Prop:=∀j<w.length,∀i ≤ j,∀s t,w[i]?=O s->w[j]?=O t->s.a≠t.b
theorem GS{n:Nat}(hS:∀s∈S,s.a<n/\s.b<n){q p:Nat}{w:List Stp}(h:Path S q w p)(hl:n<=w.length)(h0:0<n):¬Gi w:=λhn=>by
 obtain⟨s0,w0,rfl⟩:∃s0 w0,w=s0::w0:=by
  cases w with
  |nil=>rw[Qw]at hl;lia
  |cons a b=>exact⟨a,b,rfl⟩
 let P:zI:=s0.a::(s0::w0).map Stp.b
 have key:∀k l:Nat,k<l->∀x y:Nat,P[k]?=O x->P[l]?=O y->x≠y:=λk l aL x y hx hy=>by
  obtain⟨l,rfl⟩:∃m,l=m+1:=⟨l-1,by lia⟩
  have hy:((s0::w0).map Stp.b)[l]?=O y:=hy;rw[Qd]at hy;cases ht:(s0::w0)[l]? with
  |none=>rw[ht]at hy;cases hy
  |some t=>
  rw[ht]at hy;cases hy;have zQ   :=(Qg.mp ht).1;obtain⟨s,hs⟩:∃s,(s0::w0)[k]?=O s:=⟨_,Qe (by lia)⟩
  have hxs:x=s.a:=by
   cases k with
   |zero=>cases hs;cases hx;rfl
   |succ k=>
    have hx:((s0::w0).map Stp.b)[k]?=O x:=hx;rw[Qd]at hx;obtain⟨r,hr⟩:∃r,(s0::w0)[k]?=O r:=⟨_,Qe (by lia)⟩
    rw[hr]at hx;cases hx;exact(h.next hr hs).symm
  rw[hxs];exact hn l zQ k (by lia) s t hs ht
 have nd:P.Nodup:=by rw[List.nodup_iff_pairwise_ne,List.pairwise_iff_getElem];intro k l hk hl2 aL;exact key k l aL _ _ (Qe hk) (Qe hl2)
 have bound:∀x∈P,x<n:=λx hx=>by
  rcases QL.mp hx with rfl|hx
  .exact(hS s0 h.step.1).1
  .obtain⟨s,hs,rfl⟩:=Qn.mp hx
   exact(hS s (h.mem s hs)).2
 have le:P.length<=n:=by
  have:=List.Nodup.length_le_of_subset nd (l₂:=UF n) λx hx=>Q3.mpr (bound x hx)
  rwa[Qo]at this
 have:P.length=(s0::w0).length+1:=by show((s0::w0).map Stp.b).length+1=_;rw[Qb]
 lia
theorem v6{n:Nat}(hS:∀s∈S,s.a<n/\s.b<n)(h0:0<n){p:Nat}(hw:(ent (K8 n S n) p).2.length=n){i j:Nat}(r:NM (ent (K8 n S n) p).2 i j) :
  ∃x,Path S x (((ent (K8 n S n) p).2.take (j+1)).drop i) x/\0<KD (((ent (K8 n S n) p).2.take (j+1)).drop i):=by
 obtain⟨bG,hg⟩:=Pw hS n p;generalize hW:(ent (K8 n S n) p).2=w at hw r bG hg⊢;obtain⟨q,hp⟩:=bG.path;have hij:=r.ij;have az:=r.jl;obtain⟨s,hs⟩:∃s,w[i]?=O s:=⟨_,Qe (by lia)⟩
 obtain⟨t,ht⟩:∃t,w[j]?=O t:=⟨_,Qe az⟩
 have hst:=r.same s t hs ht;obtain⟨a1,a2,a3⟩:=hp.at hs;obtain⟨b1,b2,b3⟩:=hp.at ht;have e1   :=by have:=(JW i (w.take (j+1))).symm;rw[List.take_take,Nat.min_eq_left (by lia)]at this;exact this
 rw[e1]at b2;obtain⟨m,c1,c2⟩:=b2.split
 have hm:m=s.a:=by
  have e2:(w.take (j+1)).drop i=s::(w.take (j+1)).drop (i+1):=by
   rw[Jl (by rw[Ja];lia)]
   congr 1
   rw[List.getElem_take];exact(Qg.mp hs).2
  rw[e2]at c2;exact c2.head
 subst hm;rw[←hst]at c2 b3;refine⟨s.a,c2,?_⟩;have hsh   :=a1.append b3;have bH:=hsh.walk (u:=[]) (.nil q);rw[QR]at bH;have hlen:(w.take i++w.drop (j+1)).length<=n-1:=by rw[Qi,Ja,Jx];lia
 have most:=xY hS bH (n-1) hlen;have hgw:KD w=KD (w.take i)+KD ((w.take (j+1)).drop i)+KD (w.drop (j+1)):=by rw[←W9,←e1,←W9,JW]
 rw[W9]at most
 have lt:(ent (K8 n S (n-1)) p).1<(ent (K8 n S n) p).1:=by
  obtain⟨k,_⟩:=TF hS (n-1);rw[Nat.sub_add_cancel h0]at k;rcases k.how p with e|⟨_,_,_,_,lt⟩
  .have:=(OQ hS (n-1)).1 p
   rw[←e,hW,hw]at this
   lia
  .exact lt
 lia
theorem yd  {w}(h:Path S q w p){i j:Nat}(r:NM w i j):(((w.take (j+1)).drop i).map Stp.a).Nodup:=by
 rw[List.nodup_iff_pairwise_ne,List.pairwise_iff_getElem];intro k l hk hl aL;have az:=r.jl;simp only[Qb,Jx,Ja]at hk hl;simp only[J9,List.getElem_drop,List.getElem_take];obtain⟨m,rfl⟩:∃m,l=m+1:=⟨l-1,by lia⟩
 have e1:w[i+m]?=O w[i+m]:=Qe (by lia);have e2:w[i+m+1]?=O w[i+(m+1)]:=Qe (by lia);have e3:w[i+k]?=O w[i+k]:=Qe (by lia);rw[h.next e1 e2];exact r.first (i+m) (by lia) (i+k) (by lia) _ _ e3 e1
end
noncomputable def Ks(f:Int×Int->Int)(i:Nat):zC->Int
 |none=>0
 |some t=>f ((i:Int),t)
noncomputable def plF(n:Nat):zC->Nat
 |none=>n
 |some t=>t.toNat
noncomputable def ZJ(n b:Nat):zC:=if b=n then zp else O (b:Int)
noncomputable def Kj(f:Int×Int->Int)(k:Nat):LO->Int
 |[]=>0
 |o::r=>Ks f k o+Kj f (k+1) r
theorem GR(f){o'}:∀{d}{k i}{o},d[i]?=O o->Kj f k (d.set i o')=Kj f k d+Ks f (k+i) o'-Ks f (k+i) o
 |[],_,_,_,h=>by cases h
 |x::d,k,0,o,h=>by
  cases h;show Ks f k o'+Kj f _ d=Ks f k x+Kj f _ d+Ks f k o'-Ks f k x
  lia
 |x::d,k,i+1,o,h=>by
  rw[List.set_cons_succ];unfold Kj;rw[GR f     (by simpa using h)]
  lia
theorem F2  : ∀{d:LO}{i}{o},d[i]?=O o->(((d.set i o').count x:Nat):Int)=(d.count x:Nat)+(if o'=x then 1 else 0)-(if o=x then 1 else 0)
 |[],_,_,h=>by cases h
 |y::d,0,o,h=>by cases h;by_cases h1:o'=x<;>by_cases h2:y=x<;>simp[h1,h2]<;>lia
 |y::d,i+1,o,h=>by
  have ih:=F2 (o':=o') (x:=x)    (by simpa using h);rw[List.set_cons_succ,JJ,JJ]
  lia
structure Zm(cs:zu)(qs:LP)(m:Nat)(ws:LO):Prop where
 len:ws.length=m
 wish:∀(i:Nat) t,ws[i]?=O (O t)->((i:Int),t)∈qs
 cop:∀(k:Nat) c,cs[k]?=O c->((ws.count (O (k:Int)):Nat):Int)<=c
structure Zf(n m:Nat)(qs:LP):Prop where
 nd:qs.Nodup
 lo:∀q∈qs,0<=q.1/\q.1<m/\0<=q.2/\q.2<n
inductive IsSt(cs:zu)(f:Int×Int->Int)(qs:LP)(ws:LO):Stp->Prop where
 |mv {i:Nat} {o o':zC} (h:ws[i]?=O o) (hne:o'≠o) (hq:∀t,o'=O t->((i:Int),t)∈qs):IsSt cs f qs ws ⟨plF cs.length o,plF cs.length o',Ks f i o'-Ks f i o,O i⟩
 |left {t:Nat} {c:Int} (h:cs[t]?=O c) (hl:((ws.count (O (t:Int)):Nat):Int)<c):IsSt cs f qs ws ⟨t,cs.length,0,zp⟩
 |give {t:Nat} (h:t<cs.length):IsSt cs f qs ws ⟨cs.length,t,0,zp⟩
noncomputable def app(n:Nat)(d:LO)(s:Stp):LO:=match s.w with
 |some i=>d.set i (ZJ n s.b)
 |none=>d
noncomputable def nIn(t:Nat)(R:List Stp):Nat:=(R.filter λs=>s.w.isSome&&s.b==t).length
noncomputable def Xl(t:Nat)(R:List Stp):Nat:=(R.filter λs=>s.w.isSome&&s.a==t).length
section
variable{cs:zu}{f:Int×Int->Int}{qs:LP}{m:Nat}{ws:LO}
theorem DV(hp:Zf cs.length m qs){i:Nat}{o}(h:∀t,o=O t->((i:Int),t)∈qs):ZJ cs.length (plF cs.length o)=o:=by
 cases o with
 |none=>unfold ZJ plF;simp_all
 |some t=>
  have:=hp.lo _ (h t zo)
  show(if t.toNat=cs.length then zp else O ((t.toNat):Int))=O t
  grind
theorem PU(hp:Zf cs.length m qs){i:Nat}{o}{t}(ht:t<cs.length)(h:∀t,o=O t->((i:Int),t)∈qs):plF cs.length o=t ↔ o=O (t:Int):=by
 cases o with
 |none=>exact⟨λe=>by have e:cs.length=t:=e;lia,λe=>by cases e⟩
 |some u=>
  have:=hp.lo _ (h u zo);show u.toNat=t ↔ _;constructor
  .grind
  .lia
theorem Pk(hp:Zf cs.length m qs)(hd:Zm cs qs m ws):∀(R:List Stp)(d:LO),(∀s∈R,IsSt cs f qs ws s)->(R.map Stp.a).Nodup->(∀s∈R,∀i,s.w=O i->d[i]?=ws[i]?)->d.length=ws.length->(∀(i:Nat) t,d[i]?=O (O t)->((i:Int),t)∈qs) ->
  Kj f 0 (R.foldl (app cs.length) d)=Kj f 0 d+KD R/\(R.foldl (app cs.length) d).length=ws.length/\(∀(i:Nat) t,(R.foldl (app cs.length) d)[i]?=O (O t)->((i:Int),t)∈qs) /\
  ∀t,t<cs.length->(((R.foldl (app cs.length) d).count (O (t:Int)):Nat):Int)=(d.count (O (t:Int)):Nat)+(nIn t R:Nat)-(Xl t R:Nat)
 |[],d,_,_,_,hl,hq=>⟨by show _=_+KD [];rw[Mh];show Kj f 0 d=_;lia,hl,hq,λt _=>by show((d.count _:Nat):Int)=_+((0:Nat):Int)-((0:Nat):Int);lia⟩
 |s::R,d,hR,hn,ha,hl,hq=>by
  rw[Qv,Uq]at hn;have hgc:KD (s::R)=s.g+KD R:=by show KD ([s]++R)=_;rw[W9,Ru]
  rw[Ju,hgc];cases hR s Ql with
  |@mv i o o' h hne z8=>
   have hdi:d[i]?=O o:=(ha _ Ql i zo).trans h;have ho:∀t,o=O t->((i:Int),t)∈qs:=λt e=>hd.wish i t (by rw[h,e])
   have zO:i<d.length:=(Qg.mp hdi).1;have eapp:app cs.length d ⟨plF cs.length o,plF cs.length o',Ks f i o'-Ks f i o,O i⟩=d.set i o':=by show d.set i (ZJ cs.length (plF cs.length o'))=_;rw[DV hp z8]
   rw[eapp]
   obtain⟨k1,k2,k3,k4⟩:=Pk hp hd R (d.set i o') (λs hs=>hR s (Qj _ hs)) hn.2 (λs hs j hj=>by
    have hji:i≠j:=λz=>by
     subst z;cases hR s (Qj _ hs)with
     |@mv i2 o2 o2' h2 _ _=>cases hj;rw[h]at h2;cases h2;exact hn.1 (Qn.mpr ⟨_,hs,rfl⟩)
     |left _ _=>cases hj
     |give _=>cases hj
    rw[Qp hji];exact ha s (Qj _ hs) j hj) (by rw[Jb];exact hl) (λj t e=>by
    by_cases z:i=j
    .subst z
     rw[QI zO]at e;cases e;exact z8 t zo
    .rw[Qp z]at e;exact hq j t e)
   refine⟨?_,k2,k3,λt ht=>?_⟩
   .rw[k1,GR f hdi,QK]
    lia
   .rw[k4 t ht,F2 hdi]
    have e1:(if o'=O (t:Int)then(1:Int)else 0)=if plF cs.length o'=t then 1 else 0:=by
     by_cases z:o'=O (t:Int)
     .rw[Qr z,Qr ((PU hp ht z8).mpr z)]
     .rw[QA z,QA (λy=>z ((PU hp ht z8).mp y))]
    have e2:(if o=O (t:Int)then(1:Int)else 0)=if plF cs.length o=t then 1 else 0:=by
     by_cases z:o=O (t:Int)
     .rw[Qr z,Qr ((PU hp ht ho).mpr z)]
     .rw[QA z,QA (λy=>z ((PU hp ht ho).mp y))]
    have e3:∀(x:Nat),((nIn t (⟨plF cs.length o,plF cs.length o',Ks f i o'-Ks f i o,O i⟩::R):Nat):Int)=(if plF cs.length o'=t then 1 else 0)+(nIn t R:Nat):=λx=>by
     unfold nIn;rw[List.filter_cons];by_cases z:plF cs.length o'=t
     .rw[if_pos z,if_pos (by simp[z]),List.length_cons];lia
     .rw[if_neg z,if_neg (by simp[z])];lia
    have e4:∀(x:Nat),((Xl t (⟨plF cs.length o,plF cs.length o',Ks f i o'-Ks f i o,O i⟩::R):Nat):Int)=(if plF cs.length o=t then 1 else 0)+(Xl t R:Nat):=λx=>by
     unfold Xl;rw[List.filter_cons];by_cases z:plF cs.length o=t
     .rw[if_pos z,if_pos (by simp[z]),List.length_cons];lia
     .rw[if_neg z,if_neg (by simp[z])];lia
    rw[e1,e2,e3 0,e4 0]
    lia
  |left _ _=>obtain⟨k1,k2,k3,k4⟩:=Pk hp hd R d (λs hs=>hR s (Qj _ hs)) hn.2 (λs hs=>ha s (Qj _ hs)) hl hq;refine⟨?_,k2,k3,k4⟩;show Kj f 0 (R.foldl _ d)=Kj f 0 d+(0+KD R);rw[k1];lia
  |give _=>obtain⟨k1,k2,k3,k4⟩:=Pk hp hd R d (λs hs=>hR s (Qj _ hs)) hn.2 (λs hs=>ha s (Qj _ hs)) hl hq;refine⟨?_,k2,k3,k4⟩;show Kj f 0 (R.foldl _ d)=Kj f 0 d+(0+KD R);rw[k1];lia
theorem Nm(t):∀R:List Stp,nIn t R<=(R.map Stp.b).count t
 |[]=>Qx _
 |s::R=>by
  have ih:=Nm t R;unfold nIn at ih⊢
  grind
theorem GQ(hp:Zf cs.length m qs)(hd:Zm cs qs m ws){R:List Stp}(hR:∀s∈R,IsSt cs f qs ws s)(hn:(R.map Stp.a).Nodup)(hb:(R.map Stp.b).Perm (R.map Stp.a)):Zm cs qs m (R.foldl (app cs.length) ws)/\Kj f 0 (R.foldl (app cs.length) ws)=Kj f 0 ws+KD R:=by
 obtain⟨k1,k2,k3,k4⟩:=Pk hp hd R ws hR hn (λs hs i e=>rfl) zo hd.wish;refine⟨⟨by rw[k2];exact hd.len,k3,λt c hc=>?_⟩,k1⟩;have ht   :=(Qg.mp hc).1;rw[k4 t ht];have h0:=hd.cop t c hc;have h1   :=List.nodup_iff_count.mp hn t;have h2:=Nm t R;rw[hb.count_eq]at h2;by_cases z:nIn t R=0
 .lia
 .have hmem:t∈R.map Stp.a:=List.count_pos_iff.mp (by lia)
  obtain⟨s,hs,hst⟩:=Qn.mp hmem;cases hR s hs with
  |@mv i o o' h hne z8=>
   have:1<=Xl t R:=by exact List.length_pos_iff.mpr (List.ne_nil_of_mem (List.mem_filter.mpr ⟨hs,by simpa using hst⟩))
   lia
  |@left u c' h hl=>
   have hst:u=t:=hst;subst hst;rw[h]at hc;cases hc
   lia
  |@give u h=>
   lia
end
theorem Hv   {w}(h:Path S q w p):w.map Stp.a++[p]=q::w.map Stp.b:=by
 induction h with
 |nil p=>rfl
 |cons hs h ih=>simp_all
theorem MT    (h:Path S x w x):(w.map Stp.b).Perm (w.map Stp.a):=by have e:=Hv h;have p1:(w.map Stp.a++[x]).Perm _:=List.perm_append_comm;simp_all
noncomputable def ZN(f:Int×Int->Int)(V:Nat->Int)(qs:LP)(i:Int):Int:=qs.foldl (λa q=>if q.1=i then max a (f q-V q.2.toNat)else a) 0
theorem OP(f:Int×Int->Int)(V:Nat->Int)(i:Int):∀(qs:LP)(a),a<=qs.foldl (λa q=>if q.1=i then max a (f q-V q.2.toNat)else a) a /\
  (∀q∈qs,q.1=i->f q-V q.2.toNat<=qs.foldl (λa q=>if q.1=i then max a (f q-V q.2.toNat)else a) a) /\
  ∀B,a<=B->(∀q∈qs,q.1=i->f q-V q.2.toNat<=B)->qs.foldl (λa q=>if q.1=i then max a (f q-V q.2.toNat)else a) a<=B
 |[],a=>⟨Jd _,(λq h=>by cases h),λB h _=>h⟩
 |q::qs,a=>by
  rw[Ju];obtain⟨h1,h2,h3⟩:=OP f V i qs _;have hb:a<=(if q.1=i then max a (f q-V q.2.toNat)else a):=by split<;>lia
  refine⟨J0 hb h1,λp hp e=>?_,λB ha hB=>h3 B ?_ λp hp=>hB p (Qj _ hp)⟩
  .rcases QL.mp hp with rfl|hp
   .lia
   .exact h2 p hp e
  .have:=hB q Ql
   split
   .lia
   .exact ha
theorem F1   : ∀(ws)(k:Nat)(A),(∀(j:Nat) o,ws[j]?=O o->A (k+j)=Ks f (k+j) o-(match o with|some t=>ps.getD t.toNat 0|none=>0))->((List.range' k ws.length).map A).sum=Kj f k ws-pz ps ws
 |[],k,A,_=>by show(0:Int)=0-0;lia
 |o::ws,k,A,h=>by
  rw[Qz,List.range'_succ,Qv,Jn,F1 ws (k+1) A λj o' e=>by have:=h (j+1) o' (by simpa using e);rw[show k+1+j=k+(j+1)by lia];exact this];have h0:=h 0 o zo;rw[Nat.add_zero]at h0;rw[h0];cases o with
  |none=>show Ks f k zp-0+_=Ks f k zp+Kj f (k+1) ws-(0+pz ps ws);lia
  |some t=>show Ks f k _-ps.getD t.toNat 0+_=Ks f k (O t)+Kj f (k+1) ws-(ps.getD t.toNat 0+pz ps ws);lia
section
variable{cs:zu}{f:Int×Int->Int}{qs:LP}{m:Nat}{ws:LO}{S:List Stp}
theorem IsSt.lt(hp:Zf cs.length m qs)(hd:Zm cs qs m ws){s}(h:IsSt cs f qs ws s):s.a<cs.length+1/\s.b<cs.length+1:=by
 have key:∀{i:Nat}{o:zC},(∀t,o=O t->((i:Int),t)∈qs)->plF cs.length o<cs.length+1:=λ{i o} h=>by
  cases o with
  |none=>exact JT _
  |some t=>have:=hp.lo _ (h t zo);show t.toNat<_;lia
 cases h with
 |mv h hne hq=>exact⟨key λt e=>hd.wish _ t (by rw[h,e]),key hq⟩
 |left h hl=>have:=(Qg.mp h).1;exact⟨J4 this,JT _⟩
 |give h=>exact⟨JT _,J4 h⟩
theorem ko{V:Nat->Int}(still:∀s∈S,V s.a+s.g<=V s.b){q p}{w}(h:Path S q w p):V q+KD w<=V p:=by
 induction h with
 |nil p=>rw[Mh];lia
 |@cons s w p hs h ih=>
  have:=still s hs;have e:KD (s::w)=s.g+KD w:=by show KD ([s]++w)=_;rw[W9,Ru]
  lia
theorem F0(hp:Zf cs.length m qs)(hd:Zm cs qs m ws){V:Nat->Int}(st:∀s,IsSt cs f qs ws s->V s.a+s.g<=V s.b)(vn:V cs.length=0) :
  OkP cs.length m (λa b=>f (a,b)) qs 1 ((UF m).map λi:Nat=>ZN f V qs (i:Int)) ((UF cs.length).map V)/\Wp cs ((UF m).map λi:Nat=>ZN f V qs (i:Int)) ((UF cs.length).map V)=Kj f 0 ws:=by
 have v0:∀p,p<cs.length->0<=V p:=λp hp'=>by
  have h3:V cs.length+0<=V p:=st _ (.give hp')
  lia
 have psD:∀k,k<cs.length->((UF cs.length).map V).getD k 0=V k:=λk hk=>by rw[Qh,Qd,QJ hk];rfl
 have ask:∀(i:Nat) o,ws[i]?=O o->ZN f V qs (i:Int)=Ks f i o-(match o with|some t=>((UF cs.length).map V).getD t.toNat 0|none=>0):=λi o h=>by
  obtain⟨a1,a2,a3⟩:=OP f V (i:Int) qs 0;cases o with
  |none=>
   have:ZN f V qs (i:Int)<=0:=a3 0 (Jd _) λq hq e=>by
    have h1:=st _ ((.mv (f:=f) h (o':=O q.2) (by intro z;cases z) λt et=>by cases et;rw[←e];exact hq));have h1:V cs.length+(f ((i:Int),q.2)-0)<=V q.2.toNat:=h1;rw[←e]at h1;have:f (q.1,q.2)=f q:=rfl
    lia
   show ZN f V qs (i:Int)=0-0;have:0<=ZN f V qs (i:Int):=a1
   lia
  |some t=>
   have hq:=hd.wish i t h;have hb:=hp.lo _ hq;have hup:=st _ ((.mv (f:=f) h (o':=zp) (by intro z;cases z) λt et=>by cases et));have hup:V t.toNat+(0-f ((i:Int),t))<=V cs.length:=hup;show ZN f V qs (i:Int)=f ((i:Int),t)-((UF cs.length).map V).getD t.toNat 0;rw[psD t.toNat (by lia)];have lo:f ((i:Int),t)-V t.toNat<=ZN f V qs (i:Int):=a2 _ hq zo
   have hi:ZN f V qs (i:Int)<=f ((i:Int),t)-V t.toNat:=a3 _ (by lia) λq hq e=>by
    by_cases z:q.2=t
    .have:q=((i:Int),t):=by rw[←e,←z]
     rw[this];exact Jd _
    .have h1:=st _ ((.mv (f:=f) h (o':=O q.2) (by intro y;cases y;exact z zo) λt et=>by cases et;rw[←e];exact hq))
     have h1:V t.toNat+(f ((i:Int),q.2)-f ((i:Int),t))<=V q.2.toNat:=h1;have:f (((i:Int)),q.2)=f q:=by rw[←e]
     lia
   lia
 refine⟨⟨by decide,by rw[Qb,Qo],by rw[Qb,Qo],λa ha=>?_,λp hp'=>?_,λq hq=>?_⟩,?_⟩
 .obtain⟨i,_,rfl⟩:=Qn.mp ha
  exact(OP f V (i:Int) qs 0).1
 .obtain⟨i,_,rfl⟩:=Qn.mp hp'
  exact v0 i (Q3.mp (by assumption))
 .have hb:=hp.lo q hq
  rw[psD q.2.toNat (by lia),Qh,Qd,QJ (by lia)];have h2:=(OP f V q.1 qs 0).2.1 q hq zo;show 1*f q<=ZN f V qs ((q.1.toNat:Nat):Int)+V q.2.toNat;have e:((q.1.toNat:Nat):Int)=q.1:=by lia
  rw[e];have h2:f q-V q.2.toNat<=ZN f V qs q.1:=h2
  lia
 .unfold Wp
  rw[List.range_eq_range' (n:=m),←hd.len,F1 (f:=f) (ps:=(UF cs.length).map V) ws 0 (λi:Nat=>ZN f V qs (i:Int)) λj o e=>by rw[QK];exact ask j o e];have aH:∀t,O t∈ws->0<=t/\t<cs.length:=λt ht=>by obtain⟨i,hi⟩:=List.mem_iff_getElem?.mp ht;have:=hp.lo _ (hd.wish i t hi);exact⟨this.2.2.1,this.2.2.2⟩
  rw[OS ws aH,MV _ _ (by rw[Qb,Qo])]
  have e:Zl cs.length (λk=>cs.getD k 0*((UF cs.length).map V).getD k 0)=Zl cs.length λk=>((ws.count (O (k:Int)):Nat):Int)*((UF cs.length).map V).getD k 0:=MW λk hk=>by
   rw[psD k hk];have hc:cs[k]?=O (cs.getD k 0):=by rw[Qh,Qe hk];rfl
   have hle:=hd.cop k _ hc;by_cases z:((ws.count (O (k:Int)):Nat):Int)=cs.getD k 0
   .rw[z]
   .have h1:=st _ ((.left (f:=f) (qs:=qs) hc (by lia)))
    have h1:V k+0<=V cs.length:=h1;have:=v0 k hk;have hz:V k=0:=by lia
    rw[hz,Uk,Uk]
  rw[e]
  lia
theorem Pj(hp:Zf cs.length m qs)(hd:Zm cs qs m ws)(hin:∀s∈S,IsSt cs f qs ws s)(hall:∀s,IsSt cs f qs ws s->s∈S){V:Nat->Int}(hV:∀p,V p=(ent (K8 (cs.length+1) S (cs.length+1)) p).1)
  (still:∀p,p<cs.length+1->(ent (K8 (cs.length+1) S (cs.length+1)) p).2.length≠cs.length+1):(∀s∈S,V s.a+s.g<=V s.b)/\V cs.length=0:=by
 have hS   :=λs hs=>(hin s hs).lt hp hd;have st:∀s∈S,V s.a+s.g<=V s.b:=λs hs=>by rw[hV,hV];exact v7 hS (JS _) still s hs
 have v0:∀p,0<=V p:=λp=>by have:=F3 hS (Uh (cs.length+1)) p;rw[Pl hS]at this;rw[hV];exact this
 have vn:V cs.length=0:=by
  obtain⟨hw,hg⟩:=Pw hS _ cs.length;obtain⟨q,hq⟩:=hw.path;have h1:=ko st hq;rw[hg,←hV]at h1;have h2:=v0 q;by_cases z:q=cs.length
  .lia
  .have hql:q<cs.length:=by
    cases hw2:(ent _ cs.length).2 with
    |nil=>rw[hw2]at hq;cases hq;exact absurd zo z
    |cons s w=>
     rw[hw2]at hq;have:=(hS s hq.step.1).1;rw[←hq.head]at this
     lia
   have h3:=st _ (hall _ (.give hql));have:=v0 cs.length
   lia
 exact⟨st,vn⟩
theorem kn(hp:Zf cs.length m qs)(hd:Zm cs qs m ws)(hin:∀s∈S,IsSt cs f qs ws s)(hall:∀s,IsSt cs f qs ws s->s∈S){V}(hV:∀p,V p=(ent (K8 (cs.length+1) S (cs.length+1)) p).1)
  (still:∀p,p<cs.length+1->(ent (K8 (cs.length+1) S (cs.length+1)) p).2.length≠cs.length+1) :
  OkP cs.length m (λa b=>f (a,b)) qs 1 ((UF m).map λi:Nat=>ZN f V qs (i:Int)) ((UF cs.length).map V)/\Wp cs ((UF m).map λi:Nat=>ZN f V qs (i:Int)) ((UF cs.length).map V)=Kj f 0 ws:=by
 obtain⟨st,vn⟩:=Pj hp hd hin hall hV still;exact F0 hp hd (λs hs=>st s (hall s hs)) vn
end
noncomputable def YI:Option Nat->D
 |some i=>.int i
 |none=>.none
noncomputable def U9(s:Stp):D:=.tuple [.int s.a,.int s.b,.int s.g,YI s.w]
noncomputable def Yn(x:Int×List Stp):D:=.tuple [.int x.1,.list (x.2.map U9)]
noncomputable def U8(V:Int->Int->Int)(q:Int×Int):Int:=V q.1 q.2
noncomputable def ZG(n:Nat)(f:Int×Int->Int)(ws:LO):List Stp:=(UF ws.length).filterMap λi=>match ws.getD i zp with
 |none=>zp
 |some t=>O ⟨t.toNat,n, -(Ks f i (O t)),O i⟩
noncomputable def Zs(n:Nat)(f:Int×Int->Int)(qs:LP)(ws:LO):List Stp:=qs.filterMap λq=>if ws.getD q.1.toNat zp≠O q.2 then O ⟨plF n (ws.getD q.1.toNat zp),q.2.toNat,f q-Ks f q.1.toNat (ws.getD q.1.toNat zp),O q.1.toNat⟩else zp
noncomputable def Yj(cs:zu)(ws:LO):List Stp:=(UF cs.length).filterMap λt=>if 0<cs.getD t 0-((ws.count (O (t:Int)):Nat):Int)then O ⟨t,cs.length,0,zp⟩else zp
noncomputable def Z4(n:Nat):List Stp:=(UF n).map λt=>⟨n,t,0,zp⟩
noncomputable def ZY(cs:zu)(f:Int×Int->Int)(qs:LP)(ws:LO):List Stp:=ZG cs.length f ws++Zs cs.length f qs ws++(Yj cs ws++Z4 cs.length)
theorem kS{m j}{h h'}(hj:j<m)(e:∀i,i≠j->h' i=h i):(((UF m).map h).map int).set j (.int (h' j))=((UF m).map h').map int:=by
 apply JC;intro i;by_cases z:j=i
 .simp_all
 .rw[Qp z,Qd,Qd,Qd,Qd]
  by_cases hi:i<m
  .rw[QJ hi]
   show O _=O _;rw[e i λy=>z y.symm]
  .simp_all
theorem OL   {j}(hj:j<m):oIx (.list (((UF m).map h).map int)) (.int (j:Int))=O (.int (h j)):=ZP (by rw[Qd,Qd,QJ hj];rfl)
section
variable{cs:zu}{ls:List (List zu)}{ws:LO}{V:Int->Int->Int}{qs:LP}
theorem yc{n:Nat}{o}(h:∀t,o=O t->0<=t):WE [.int n,Ko o]=O (.int (plF n o)):=by
 refine K5  rfl ?_;cases o with
 |none=>exact KJ (Nv (KN  (x:=PyData.none) (UW zo)) (UW zo)) zo
 |some t=>
  refine KJ (P5 (KN  (x:=int t) (UW zo)) (UW zo)) ?_;have:=h t zo;show Out.rt (.int t)=Out.rt (.int ((t.toNat)))
  grind
noncomputable def Ym(V:Int->Int->Int)(ws:LO)(qs:LP)(i:Nat):Int:=match ws.getD i zp with
 |none=>0
 |some t=>if((i:Int),t)∈qs then V i t else 0
theorem NL{k:Int}(h0:0<=k)(h1:k<ws.length):oIx (Kl ws) (.int k)=O (Ko (ws.getD k.toNat zp)):=by
 obtain⟨j,rfl⟩:∃j:Nat,k=j:=⟨k.toNat,by lia⟩
 refine ZP ?_;simp_all
theorem MC   (h:ws[i]?=O o):ws.getD i zp=o:=by simp_all
theorem kQ(hp:Zf cs.length ws.length qs)(hd:Zm cs qs ws.length ws)(hm:ws.length<=1000)(hq1:qs.length<=1000):VD [.int (cs.length:Nat),.list (qs.map (ZB V)),Kl ws]=O (.list ((ZG cs.length (U8 V) ws++Zs cs.length (U8 V) qs ws).map U9)):=by
 refine K5 (ρ:=[pb (.int (cs.length:Nat)),pb (.list (qs.map (ZB V))),pb (Kl ws),zp,zp,zp,zp,zp]) zo ?_;unfold Sf;have hlen:Kp [Kl ws]=O (.int ws.length):=by show Kp [.list (ws.map Ko)]=_;rw[Zw,Qb]
 have pos:∀i t,ws.getD i zp=O t->i<ws.length/\((i:Int),t)∈qs:=λi t e=>by
  by_cases hi:i<ws.length
  .rw[Qh,Qe hi]at e
   exact⟨hi,hd.wish i t (by rw[Qe hi];exact Ug O e)⟩
  .rw[Qh,QW (by lia)]at e;cases e
 refine Kn (YQ (GA (n:=ws.length) (Yb (UY Kd U5) (Qa zo)) (ZI zo hlen) hm) (Qa zo) zo) ?_;apply Ze;apply Z9 (λk ρ=>∃x4 x5 x6,ρ=[pb (.int (cs.length:Nat)),pb (.list (qs.map (ZB V))),pb (Kl ws),O (.own (((UF ws.length).map (Ym V ws (qs.take k))).map int)),x4,x5,x6,zp])
 case h1=>exact Zv (UW zo) Z0
 case h0=>
  refine⟨zp,zp,zp,?_⟩
  have e:((UF ws.length).map (Ym V ws (qs.take 0))).map int=UG ws.length (.int 0):=by
   rw[List.eq_replicate_iff];refine⟨by rw[Qb,Qb,Qo],λb hb=>?_⟩;obtain⟨x,hx,rfl⟩:=Qn.mp hb;obtain⟨i,_,rfl⟩:=Qn.mp hx;unfold Ym;split
   .rfl
   .rw[if_neg (by rw[List.take_zero];simp)]
  rw[e];rfl
 case hst=>
  rintro k d ρ hk ⟨x4,x5,x6,rfl⟩;rw[Qd]at hk;cases hq:qs[k]? with
  |none=>rw[hq]at hk;cases hk
  |some q=>
  rw[hq]at hk;cases hk;have hb:=hp.lo q (Qy hq);refine⟨_,Kw zo (U7 (U3 (Qa zo) zo) (U7 (U3 (Qa zo) zo) (U7 (U3 (Qa zo) zo) Kx))),?_⟩;unfold HH;have ac:qs.take (k+1)=qs.take k++[q]:=by rw[J8,hq];rfl
  apply K9
  case h1=>exact Ki (K1 zo (UW zo) (NL hb.1 hb.2.1)) (UW zo) (Np (b:=O q.2))
  case h2=>
   intro hh;have hh:ws.getD q.1.toNat zp=O q.2:=Qa hh;refine YO (Oh (UW zo) zo (UW zo) zo ⟨hb.1,by rw[Qb,Qb,Qo];exact hb.2.1⟩ zo) (ZD ⟨O (.pub (.int q.1)),pb (.int q.2),pb (.int (V q.1 q.2)),?_⟩)
   have e:=kS (m:=ws.length) (j:=q.1.toNat) (h:=Ym V ws (qs.take k)) (h':=Ym V ws (qs.take (k+1))) (by lia) λi hne=>by
    unfold Ym;cases ws.getD i zp with
    |none=>rfl
    |some t=>
     dsimp only;rw[ac];by_cases z:((i:Int),t)∈qs.take k
     .rw[Qr z,Qr (QU _ z)]
     .rw[QA z,QA]
      intro y;rcases QH.mp y with y|y
      .exact z y
      .have:=QB.mp y
       rw[←this]at hne;exact hne (by show i=((i:Int)).toNat;rw[QS])
   have ev:Ym V ws (qs.take (k+1)) q.1.toNat=V q.1 q.2:=by
    unfold Ym;rw[hh];have ei:((q.1.toNat:Nat):Int)=q.1:=by lia
    dsimp only;rw[ei,if_pos (by rw[ac];exact List.mem_append_right _ (by simp))]
   rw[ev]at e;rw[←e];rfl
  case h3=>
   intro hh;have hh:¬ws.getD q.1.toNat zp=O q.2:=Jq hh;refine Zo (ZD ⟨O (.pub (.int q.1)),pb (.int q.2),pb (.int (V q.1 q.2)),?_⟩)
   have e:(UF ws.length).map (Ym V ws (qs.take (k+1)))=(UF ws.length).map (Ym V ws (qs.take k)):=Jo λi _=>by
    unfold Ym;cases hw:ws.getD i zp with
    |none=>rfl
    |some t=>
     dsimp only;rw[ac];by_cases z:((i:Int),t)∈qs.take k
     .rw[Qr z,Qr (QU _ z)]
     .rw[QA z,QA]
      intro y;rcases QH.mp y with y|y
      .exact z y
      .have y:=QB.mp y
       rw[←y]at hh;exact hh (by show ws.getD ((i:Int)).toNat zp=O t;rw[QS];exact hw)
   rw[e];rfl
 case hend=>
  rintro ρ ⟨x4,x5,x6,rfl⟩;refine Zj ?_;have aH:qs.take (qs.map (ZB V)).length=qs:=by rw[Qb,JM]
  rw[aH]
  have bU:∀i,Ym V ws qs i=Ks (U8 V) i (ws.getD i zp):=λi=>by
   unfold Ym;cases hw:ws.getD i zp with
   |none=>rfl
   |some t=>exact Qr (pos i t hw).2
  have hc:∀y4 y5 y6 y7:Option Sl,K4 (gT 2 (gNC (gN 8) (gNC (gN 9) (gN0)))) (Ka (λd=>!isNon d) (UU 9)) (KI (UX (UU 9) (UX (UU 0) (UX (Z7 (Kb 3 (UU 8))) (UX (UU 8) (UV)))))) (Z2 0 (ws.map Ko)) ([pb (.int (cs.length:Nat)),pb (.list (qs.map (ZB V))),pb (Kl ws),pb (.list (((UF ws.length).map (Ym V ws qs)).map int)),y4,y5,y6,y7]++UG 2 zp) []=O ((ZG cs.length (U8 V) ws).map U9):=by
   intro y4 y5 y6 y7
   have em:(ZG cs.length (U8 V) ws).map U9=((UF ws.length).map λi=>(match ws.getD i zp with|none=>zp|some t=>O (U9 ⟨t.toNat,cs.length, -(Ks (U8 V) i (O t)),O i⟩):zx)).filterMap id:=by
    unfold ZG;rw[List.map_filterMap,List.filterMap_map]
    congr 1
    funext i;dsimp only[Function.comp,id];cases ws.getD i zp<;>rfl
   rw[em];refine Pu (λρ=>∃z4 z5 z6 z7 x y,ρ=[pb (.int (cs.length:Nat)),pb (.list (qs.map (ZB V))),pb (Kl ws),pb (.list (((UF ws.length).map (Ym V ws qs)).map int)),z4,z5,z6,z7,x,y]) _ _ _ _ (by rw[Qb,Qo,Yv,Qb]) ?_ ⟨y4,y5,y6,y7,zp,zp,rfl⟩ (by rw[Yv,Qb,Qw];lia);rintro i d e hdd he ρ ⟨z4,z5,z6,z7,x,y,rfl⟩;obtain⟨z,hz,rfl⟩:=Xz hdd;rw[Qd]at hz;cases hw:ws[i]? with
   |none=>rw[hw]at hz;cases hz
   |some o=>
   rw[hw]at hz;cases hz;have zO:i<ws.length:=(Qg.mp hw).1;have hg:=MC hw;rw[Qd,QJ zO]at he;have he:O (match ws.getD i zp with|none=>zp|some t=>O (U9 ⟨t.toNat,cs.length, -(Ks (U8 V) i (O t)),O i⟩):zx)=O e:=he;rw[hg]at he;cases he;rw[QK];refine⟨_,Kw zo (U7 (U3 (Qa zo) zo) (U7 (U3 (Qa zo) zo) Kx)),?_,?_,_,_,_,_,_,_,rfl⟩
   .cases o with
    |none=>exact KN (k:=λd=>!isNon d) (x:=PyData.none) (UW zo)
    |some t=>exact KN (k:=λd=>!isNon d) (x:=int t) (UW zo)
   .intro v hv
    cases o with
    |none=>cases hv
    |some t=>
     cases hv;have hb:=hp.lo _ (pos i t hg).2;have et:((t.toNat:Nat):Int)=t:=by have:=hb.2.2.1;lia
     show _=Res.ok (PyData.tuple [.int ((t.toNat:Nat):Int),.int ((cs.length:Nat):Int),.int (-(Ks (U8 V) i (O t))),.int (i:Nat)]) _;rw[et,show Ks (U8 V) i (O t)=Ym V ws qs i by rw[bU,hg]];exact Yu (UY (UW zo) (UY (UW zo) (UY (Tr (K1 zo (UW zo) (OL zO))) (UY (UW zo) U5)))) (Qa zo)
  have nlS:∀S:List Stp,(S.map U9).all nl0=zq:=λS=>Jf.mpr λd hd=>by obtain⟨s,_,rfl⟩:=Qn.mp hd;obtain⟨a,b,g,w⟩:=s;cases w<;>rfl
  have hcl:∀x4 x5 x6:Option Sl,WN (Zd (Xc (UX (UU 2) (UV))) 2 (gT 2 (gNC (gN 8) (gNC (gN 9) (gN0)))) (Ka (λd=>!isNon d) (UU 9)) (KI (UX (UU 9) (UX (UU 0) (UX (Z7 (Kb 3 (UU 8))) (UX (UU 8) (UV))))))) [pb (.int (cs.length:Nat)),pb (.list (qs.map (ZB V))),pb (Kl ws),O (.own (((UF ws.length).map (Ym V ws qs)).map int)),x4,x5,x6,zp]=.ok ((ZG cs.length (U8 V) ws).map U9) [pb (.int (cs.length:Nat)),pb (.list (qs.map (ZB V))),pb (Kl ws),O (.own (((UF ws.length).map (Ym V ws qs)).map int)),x4,x5,x6,zp]:=λx4 x5 x6=>
   j9 (ρ':=Z3 [pb (.int (cs.length:Nat)),pb (.list (qs.map (ZB V))),pb (Kl ws),O (.own (((UF ws.length).map (Ym V ws qs)).map int)),x4,x5,x6,zp]) (Zz (Wk (UY (UW zo) U5) Wg) (hc _ _ _ _)) (nlS _)
  refine Kn (YQ (hcl _ _ _) (Qa zo) zo) ?_;apply Ze;apply Z9 (λk ρ=>∃x4 x5 x6,ρ=[pb (.int (cs.length:Nat)),pb (.list (qs.map (ZB V))),pb (Kl ws),O (.own (((UF ws.length).map (Ym V ws qs)).map int)),x4,x5,x6,O (.own ((ZG cs.length (U8 V) ws++Zs cs.length (U8 V) (qs.take k) ws).map U9))])
  case h1=>exact Zv (UW zo) Z0
  case h0=>exact⟨_,_,_,by rw[List.take_zero];show _=[_,_,_,_,_,_,_,O (Sl.own ((ZG cs.length (U8 V) ws++[]).map U9))];rw[Jm];rfl⟩
  case hst=>
   rintro k d ρ hk ⟨x4,x5,x6,rfl⟩;rw[Qd]at hk;cases hq:qs[k]? with
   |none=>rw[hq]at hk;cases hk
   |some q=>
   rw[hq]at hk;cases hk;have hb:=hp.lo q (Qy hq);have ac:qs.take (k+1)=qs.take k++[q]:=by rw[J8,hq];rfl
   have aL:k<qs.length:=(Qg.mp hq).1
   have hsz:((ZG cs.length (U8 V) ws++Zs cs.length (U8 V) (qs.take k) ws).map U9).length<1000000:=by
    rw[Qb,Qi];have h1:(ZG cs.length (U8 V) ws).length<=ws.length:=by unfold ZG;have:=Q9 (λi=>match ws.getD i zp with|none=>zp|some t=>O (⟨t.toNat,cs.length, -(Ks (U8 V) i (O t)),O i⟩:Stp)) (UF ws.length);rw[Qo]at this;exact this
    have h2:(Zs cs.length (U8 V) (qs.take k) ws).length<=qs.length:=by unfold Zs;refine QM (Q9 _ _) ?_;rw[Ja];lia
    lia
   refine⟨_,Kw zo (U7 (U3 (Qa zo) zo) (U7 (U3 (Qa zo) zo) (U7 (U3 (Qa zo) zo) Kx))),?_⟩;unfold HI;have e2:∀r:List Stp,Zs cs.length (U8 V) [q] ws=r->Zs cs.length (U8 V) (qs.take (k+1)) ws=Zs cs.length (U8 V) (qs.take k) ws++r:=λr hr=>by rw[ac];unfold Zs at hr⊢;rw[List.filterMap_append,hr]
   apply K9
   case h1=>exact Ki (K1 zo (UW zo) (NL hb.1 hb.2.1)) (UW zo) (Ca (b:=O q.2))
   case h2=>
    intro hh;have hh:¬ws.getD q.1.toNat zp=O q.2:=by simpa using hh
    have hpl:WE [.int (cs.length:Nat),Ko (ws.getD q.1.toNat zp)]=O (.int (plF cs.length (ws.getD q.1.toNat zp))):=yc λt e=>by have:=hp.lo _ (pos _ t e).2;exact this.2.2.1
    refine YO (V6 zo (Yu (UY (Km (UY (UW zo) (UY (K1 zo (UW zo) (NL hb.1 hb.2.1)) U5)) zo hpl) (UY (UW zo) (UY (Ki (UW zo) (We zo (UW zo) zo (show oIx _ (.int q.1)=O (.int (Ym V ws qs q.1.toNat))from by have:=OL (m:=ws.length) (h:=Ym V ws qs) (j:=q.1.toNat) (by lia);rw[show((q.1.toNat:Nat):Int)=q.1 by lia]at this;exact this)) Xh) (UY (UW zo) U5)))) (Qa zo)) zo hsz zo) (ZD ⟨O (.pub (.int q.1)),pb (.int q.2),pb (.int (V q.1 q.2)),?_⟩);have er:Zs cs.length (U8 V) [q] ws=[⟨plF cs.length (ws.getD q.1.toNat zp),q.2.toNat,U8 V q-Ks (U8 V) q.1.toNat (ws.getD q.1.toNat zp),O q.1.toNat⟩]:=by unfold Zs;rw[JF,Qr hh];rfl
    rw[e2 _ er,←Q2,Qu (l₂:=[_])];show _=[_,_,_,_,_,_,_,O (Sl.own (_++[PyData.tuple [_,.int ((q.2.toNat:Nat):Int),.int (U8 V q-Ks (U8 V) q.1.toNat (ws.getD q.1.toNat zp)),.int ((q.1.toNat:Nat):Int)]]))];rw[show((q.2.toNat:Nat):Int)=q.2 by lia,show((q.1.toNat:Nat):Int)=q.1 by lia,←bU];rfl
   case h3=>
    intro hh;have hh:ws.getD q.1.toNat zp=O q.2:=by simpa using hh
    refine Zo (ZD ⟨O (.pub (.int q.1)),pb (.int q.2),pb (.int (V q.1 q.2)),?_⟩);have er:Zs cs.length (U8 V) [q] ws=[]:=by unfold Zs;rw[List.filterMap_cons,if_neg (by rw[hh];simp)];rfl
    rw[e2 _ er,Jm];rfl
  case hend=>rintro ρ ⟨x4,x5,x6,rfl⟩;rw[aH];exact Zj (KJ (Xi rfl rfl) rfl)
end
section
variable{cs:zu}{ls:List (List zu)}{ws:LO}{V:Int->Int->Int}{qs:LP}
theorem kP(g:Good cs ls)(hm:ws.length=ls.length):VC [Kr cs ls,Kl ws]=O (.list ((Yj cs ws++Z4 cs.length).map U9)):=by
 refine K5  rfl ?_;unfold Se;have c6:=g.c6;have ay:Kp [.list (cs.map int)]=O (.int cs.length):=by rw[Zw,Qb]
 refine Kn (KM (Yd (UY (K1 zo Kd SO) U5) ay) (Qa zo) zo) ?_;refine Kn (KM (Km (UY (UW zo) (UY (UW zo) U5)) zo (yZ g)) (Qa zo) zo) ?_;have zQ:(Xu cs ws).length=cs.length:=by unfold Xu;rw[Qb,Qo]
 have hc:K4 (gT 2 (gNC (gN 5) (gNC (gN 6) (gN0)))) (ZF (oIB λi j=>decide (j<i)) 6 (U2 (.int 0))) (KI (UX (UU 5) (UX (UU 2) (UX (U2 (.int 0)) (UX (U2 .none) (UV)))))) (Z2 0 ((Xu cs ws).map int)) (KE [pb (Kr cs ls),pb (Kl ws),pb (.int cs.length),pb (.list ((Xu cs ws).map int)),zp]++UG 2 zp) []=O ((Yj cs ws).map U9):=by
  have em:(Yj cs ws).map U9=((UF cs.length).map λt=>(if 0<cs.getD t 0-((ws.count (O (t:Int)):Nat):Int)then O (U9 ⟨t,cs.length,0,zp⟩)else none:zx)).filterMap id:=by
   unfold Yj;rw[List.map_filterMap,List.filterMap_map]
   congr 1
   funext i;dsimp only[Function.comp,id]
   split<;>rfl
  rw[em];refine Pu (λρ=>∃x y,ρ=[pb (Kr cs ls),pb (Kl ws),pb (.int cs.length),pb (.list ((Xu cs ws).map int)),zp,x,y]) _ _ _ _ (by rw[Qb,Qo,Yv,Qb,zQ]) ?_ ⟨zp,zp,rfl⟩ (by rw[Yv,Qb,zQ,Qw];lia);rintro i d e hd he ρ ⟨x,y,rfl⟩;obtain⟨z,hz,rfl⟩:=Xz hd;rw[Qd]at hz
  have zO:i<cs.length:=by
   rw[←zQ];cases hw:(Xu cs ws)[i]? with
   |none=>rw[hw]at hz;cases hz
   |some v=>exact(Qg.mp hw).1
  have hlv:(Xu cs ws)[i]?=O (cs.getD i 0-((ws.count (O (i:Int)):Nat):Int)):=by unfold Xu;rw[Qd,QJ zO];rfl
  rw[hlv]at hz;cases hz;rw[Qd,QJ zO]at he;cases he;rw[QK];refine⟨_,Kw zo (U7 (U3 (Qa zo) zo) (U7 (U3 (Qa zo) zo) Kx)),?_,?_,_,_,rfl⟩
  .have e:(if 0<cs.getD i 0-((ws.count (O (i:Int)):Nat):Int)then O (U9 ⟨i,cs.length,0,zp⟩)else none:zx).isSome=decide (0<cs.getD i 0-((ws.count (O (i:Int)):Nat):Int)):=by
    by_cases h:0<cs.getD i 0-((ws.count (O (i:Int)):Nat):Int)
    .rw[Qr h,Jg h];rfl
    .rw[QA h,QT h];rfl
   rw[e];exact Yx zo Kd zo
  .intro v hv
   dsimp only at hv;split at hv
   .cases hv
    exact Yu (UY (UW zo) (UY (UW zo) (UY Kd (UY Kd U5)))) (Qa zo)
   .cases hv
 refine Kn (YQ (Zz (Wk (UY (UW zo) U5) Wg) hc) (Qa zo) zo) ?_;have zZ:(Yp 0 (cs.length:Int)).length=cs.length:=by rw[YV];lia
 have hc2:∀x4:Option Sl,K4 (gN 5) (U2 zq) (KI (UX (UU 2) (UX (UU 5) (UX (U2 (.int 0)) (UX (U2 .none) (UV)))))) (Yp 0 (cs.length:Int)) (KE [pb (Kr cs ls),pb (Kl ws),pb (.int cs.length),pb (.list ((Xu cs ws).map int)),x4]++UG 1 zp) []=O ((Z4 cs.length).map U9):=λx4=>by refine Xa (λρ=>∃z x,ρ=[pb (Kr cs ls),pb (Kl ws),pb (.int cs.length),pb (.list ((Xu cs ws).map int)),z,x]) _ _ _ _ (by unfold Z4;rw[Qb,Qb,Qo,zZ]) ?_ ⟨_,zp,rfl⟩ (by rw[zZ,Qw];lia);rintro i d e hd he ρ ⟨z,x,rfl⟩;obtain⟨rfl,hlt⟩:=WS hd;unfold Z4 at he;rw[Qd,Qd,QJ (by lia)]at he;cases he;rw[JD];exact⟨_,U3 (Qa zo) zo,rfl,Yu (UY (UW zo) (UY (UW zo) (UY Kd (UY Kd U5)))) (Qa zo),_,_,rfl⟩
 have h1:(Yj cs ws).length<=cs.length:=by unfold Yj;have:=Q9 (λt=>if 0<cs.getD t 0-((ws.count (O (t:Int)):Nat):Int)then O (⟨t,cs.length,0,zp⟩:Stp)else zp) (UF cs.length);rw[Qo]at this;exact this
 have h2:(Z4 cs.length).length=cs.length:=by unfold Z4;rw[Qb,Qo]
 refine KJ (Ki (Xi zo zo) (KN (Zz (Wn (UY (UW zo) U5) (Ws (by lia) (by lia))) (hc2 _))) (YW (by rw[Qb,Qb];lia))) ?_;rw[Qu]
theorem Li(g:Good cs ls)(hm:ws.length=ls.length)(hp:Zf cs.length ws.length qs)(hd:Zm cs qs ws.length ws)(hq1:qs.length<=1000):Yz [Kr cs ls,.list (qs.map (ZB V)),Kl ws]=O (.list ((ZY cs (U8 V) qs ws).map U9)):=by
 refine K5  rfl ?_;have c6:=g.c6;have l7:=g.l7;have ay:Kp [.list (cs.map int)]=O (.int (cs.length:Nat)):=by rw[Zw,Qb]
 have h1:(ZG cs.length (U8 V) ws).length<=ws.length:=by unfold ZG;have:=Q9 (λi=>match ws.getD i zp with|none=>zp|some t=>O (⟨t.toNat,cs.length, -(Ks (U8 V) i (O t)),O i⟩:Stp)) (UF ws.length);rw[Qo]at this;exact this
 have h2:(Zs cs.length (U8 V) qs ws).length<=qs.length:=by unfold Zs;exact Q9 _ _
 have h3:(Yj cs ws).length<=cs.length:=by have:=Q9 (λt=>if 0<cs.getD t 0-((ws.count (O (t:Int)):Nat):Int)then O (⟨t,cs.length,0,zp⟩:Stp)else zp) (UF cs.length);rw[Qo]at this;exact this
 have h4:(Z4 cs.length).length=cs.length:=by unfold Z4;rw[Qb,Qo]
 refine KJ (Ki (Km (UY (Yd (UY (K1 zo Kd SO) U5) ay) (UY (UW zo) (UY (UW zo) U5))) zo (kQ hp hd (by lia) hq1)) (Km (UY (UW zo) (UY (UW zo) U5)) zo (kP g hm)) (YW (by rw[Qb,Qb,Qi,Qi];lia))) ?_;unfold ZY;rw[Qu (l₁:=ZG cs.length (U8 V) ws++Zs cs.length (U8 V) qs ws)]
theorem kO  : (ZY cs f qs ws).length<=ws.length+qs.length+2*cs.length:=by
 have h1:(ZG cs.length f ws).length<=ws.length:=by have:=Q9 (λi=>match ws.getD i zp with|none=>zp|some t=>O (⟨t.toNat,cs.length, -(Ks f i (O t)),O i⟩:Stp)) (UF ws.length);rw[Qo]at this;exact this
 have h2:(Zs cs.length f qs ws).length<=qs.length:=by exact Q9 _ _
 have h3:(Yj cs ws).length<=cs.length:=by have:=Q9 (λt=>if 0<cs.getD t 0-((ws.count (O (t:Int))))then O (⟨t,cs.length,0,zp⟩:Stp)else zp) (UF cs.length);rw[Qo]at this;exact this
 have h4:(Z4 cs.length).length=cs.length:=by unfold Z4;rw[Qb,Qo]
 unfold ZY;rw[Qi,Qi,Qi]
 lia
theorem Xy{m:Nat}{f:Int×Int->Int}(hp:Zf cs.length m qs)(hd:Zm cs qs m ws):∀s∈ZY cs f qs ws,IsSt cs f qs ws s:=λs hs=>by
 have gt:∀{i:Nat}{o:zC},i<ws.length->ws.getD i zp=o->ws[i]?=O o:=λ{i o} hi e=>by rw[Qh,Qe hi]at e;rw[Qe hi];exact Ug O e
 unfold ZY at hs;rcases QH.mp hs with hs|hs
 .rcases QH.mp hs with hs|hs
  .unfold ZG at hs
   obtain⟨i,hi,e⟩:=Jp.mp hs;have hi:=Q3.mp hi;cases hw:ws.getD i zp with
   |none=>rw[hw]at e;cases e
   |some t=>
    rw[hw]at e;have e:=QO e;subst e;have:=IsSt.mv (cs:=cs) (f:=f) (qs:=qs) (gt hi hw) (o':=zp) (by intro z;cases z) (λt e=>by cases e);have e2:Ks f i zp-Ks f i (O t) = -(Ks f i (O t)):=by show 0-_=_;lia
    rw[e2]at this;exact this
  .unfold Zs at hs
   obtain⟨q,hq,e⟩:=Jp.mp hs;have hb:=hp.lo q hq;split at e
   .rename_i hne
    have e:=QO e;subst e;have hi:q.1.toNat<ws.length:=by rw[hd.len];lia
    have ei:((q.1.toNat:Nat):Int)=q.1:=by lia
    have:=IsSt.mv (cs:=cs) (f:=f) (qs:=qs) (gt hi zo) (o':=O q.2) (λz=>hne z.symm) (λt e=>by cases e;rw[ei];exact hq);have e2:Ks f q.1.toNat (O q.2)=f q:=by show f (((q.1.toNat:Nat):Int),q.2)=_;rw[ei]
    rw[e2]at this;exact this
   .cases e
 .rcases QH.mp hs with hs|hs
  .unfold Yj at hs
   obtain⟨t,ht,e⟩:=Jp.mp hs;have ht:=Q3.mp ht;split at e
   .rename_i hl
    have e:=QO e;subst e;exact .left (c:=cs.getD t 0) (by rw[Qh,Qe ht];rfl) (by lia)
   .cases e
  .obtain⟨t,ht,rfl⟩:=Qn.mp hs
   exact .give (Q3.mp ht)
theorem Tx{m:Nat}{f}(hp:Zf cs.length m qs)(hd:Zm cs qs m ws):∀s,IsSt cs f qs ws s->s∈ZY cs f qs ws:=λs hs=>by
 unfold ZY;cases hs with
 |@mv i o o' h hne hq=>
  have hi:i<ws.length:=(Qg.mp h).1;have hg:=MC h;refine QU _ ?_;cases o' with
  |none=>
   refine QU _ ?_;cases o with
   |none=>exact absurd zo hne
   |some t=>refine Jp.mpr ⟨i,Q3.mpr hi,?_⟩;rw[hg];show O (⟨t.toNat,cs.length, -_,O i⟩:Stp)=O ⟨t.toNat,cs.length,0-Ks f i (O t),O i⟩;rw[show(0:Int)-Ks f i (O t) = -(Ks f i (O t))by lia]
  |some t=>refine QD _ ?_;have hqt:=hq t zo;refine Jp.mpr ⟨((i:Int),t),hqt,?_⟩;dsimp only;rw[QS,hg,Qr (λz=>hne z.symm)];rfl
 |@left t c h hl=>
  refine QD _ (QU _ ?_);have ht:t<cs.length:=(Qg.mp h).1;unfold Yj;refine Jp.mpr ⟨t,Q3.mpr ht,?_⟩;have e:cs.getD t 0=c:=by rw[Qh,h];rfl
  rw[e,Qr (by lia)]
 |@give t h=>refine QD _ (QD _ ?_);unfold Z4;exact Qn.mpr ⟨t,Q3.mpr h,rfl⟩
end
theorem Hu  {p:Nat}(h:p<W.length):oIx (.list (W.map Yn)) (.int (p:Int))=O (Yn (ent W p)):=by refine ZP ?_;unfold ent;rw[Qd,Qh,Qe h];rfl
theorem kN{W:Tab}{S:List Stp}(hS:∀s∈S,s.a<W.length/\s.b<W.length)(hW:∀p,(ent W p).2.length<=1000)(hl:W.length<=1000):VA [.list (W.map Yn),.list (S.map U9)]=O (.list ((PV W S).map Yn)):=by
 refine K5  rfl ?_;unfold Sd;refine Kn (YQ (Po zo (show Tl [.list (W.map Yn)]=O (W.map Yn)from rfl)) (Qa zo) zo) ?_;apply Ze;apply Z9 (λk ρ=>∃x3 x4 x5 x6 x7 x8 x9,ρ=[pb (.list (W.map Yn)),pb (.list (S.map U9)),O (.own (((S.take k).foldl (YN W) W).map Yn)),x3,x4,x5,x6,x7,x8,x9])
 case h1=>exact Zv (UW zo) Z0
 case h0=>exact⟨_,_,_,_,_,_,_,rfl⟩
 case hst=>
  rintro k d ρ hk ⟨x3,x4,x5,x6,x7,x8,x9,rfl⟩;rw[Qd]at hk;cases hq:S[k]? with
  |none=>rw[hq]at hk;cases hk
  |some s=>
  rw[hq]at hk;cases hk;have hs:=hS s (Qy hq);have ac:S.take (k+1)=S.take k++[s]:=by rw[J8,hq];rfl
  have hfl:(S.take (k+1)).foldl (YN W) W=YN W ((S.take k).foldl (YN W) W) s:=by rw[ac,List.foldl_append];rfl
  have aO:∀(R:List Stp)(T:Tab),(R.foldl (YN W) T).length=T.length:=λR=>by
   induction R with
   |nil=>intro T;rfl
   |cons x R ih=>intro T;rw[Ju,ih,xZ]
  generalize hT:(S.take k).foldl (YN W) W=T at hfl⊢;have aN:T.length=W.length:=by rw[←hT,aO]
  refine⟨_,U3 (Qa zo) zo,?_⟩;unfold HG;refine Kn (Y9 (UW zo) (Kw zo (U7 (U3 (Qa zo) zo) (U7 (U3 (Qa zo) zo) (U7 (U3 (Qa zo) zo) (U7 (U3 (Qa zo) zo) Kx)))))) ?_;refine Kn (Y9 (K1 zo (UW zo) (Hu hs.1)) (Kw zo (U7 (U3 (Qa zo) zo) (U7 (U3 (Qa zo) zo) Kx)))) ?_;have i0:oIx (Yn (ent T s.b)) (.int 0)=O (.int (ent T s.b).1):=ZP (j:=0) zo;apply K9
  case h1=>exact Ki (Ki (UW zo) (UW zo) ZA) (Ki (We zo (UW zo) zo (Hu (by rw[aN];exact hs.2))) Kd i0) zo
  case h2=>
   intro hh;have hh:(ent T s.b).1<(ent W s.a).1+s.g:=Qa hh;have hadd:Ke (.list ((ent W s.a).2.map U9)) (.list [U9 s])=O (.list (((ent W s.a).2++[s]).map U9)):=by rw[YW (by rw[Qb];have:=hW s.a;show _+1<=_;lia),Qu];rfl
   refine YO (Oh (Yu (UY (Ki (UW zo) (UW zo) ZA) (UY (Ki (UW zo) (Yb (UY (UW zo) U5) (Qa zo)) hadd) U5)) (Qa zo)) zo (UW zo) zo ⟨Int.natCast_nonneg _,by rw[Qb,aN];have:=hs.2;lia⟩ zo) (ZD ⟨O (.pub (U9 s)),pb (.int s.a),pb (.int s.b),pb (.int s.g),pb (YI s.w),pb (.int (ent W s.a).1),pb (.list ((ent W s.a).2.map U9)),?_⟩);rw[hfl];unfold YN;rw[Qr hh,List.map_set];rw[QS];rfl
  case h3=>intro hh;have hh:¬(ent T s.b).1<(ent W s.a).1+s.g:=Jq hh;refine Zo (ZD ⟨O (.pub (U9 s)),pb (.int s.a),pb (.int s.b),pb (.int s.g),pb (YI s.w),pb (.int (ent W s.a).1),pb (.list ((ent W s.a).2.map U9)),?_⟩);rw[hfl];unfold YN;rw[QA hh];rfl
 case hend=>rintro ρ ⟨x3,x4,x5,x6,x7,x8,x9,rfl⟩;refine Zj (KJ (Xi rfl rfl) ?_);rw[Qb,JM];rfl
theorem FZ{n:Nat}{S:List Stp}(hS:∀s∈S,s.a<n/\s.b<n)(hn:n<=100):X2 [.int (n:Nat),.list (S.map U9)]=O (.list ((K8 n S n).map Yn)):=by
 refine K5  rfl ?_;unfold Sc;have hmul:KZ (.list [.tuple [.int 0,.list []]]) (.int (n:Nat))=O (.list ((K8 n S 0).map Yn)):=by rw[Oq (by lia)];unfold K8;rw[List.map_replicate];rfl
 refine Kn (KM (Ki (Yb (UY (Yu (UY Kd (UY (Yb U5 (Qa zo)) U5)) (Qa zo)) U5) (Qa zo)) (UW zo) hmul) (Qa zo) zo) ?_;apply Ze;apply Z9 (λk ρ=>k<=n/\∃x3,ρ=[pb (.int (n:Nat)),O _,pb (.list ((K8 n S k).map Yn)),x3])
 case h1=>exact Wn (UY (UW zo) U5) (Ws (by lia) (by lia))
 case h0=>exact⟨Uh _,_,rfl⟩
 case hst=>rintro k d ρ hk ⟨_,x3,rfl⟩;obtain⟨rfl,hlt⟩:=WS hk;refine⟨_,U3 (Qa zo) zo,?_⟩;have hl:=RK hS k;have hlo:=kN (W:=K8 n S k) (S:=S) (by rw[hl];exact hS) (λp=>QM ((OQ hS k).1 p) (by lia)) (by rw[hl];lia);exact YO (KM (Km (UY (UW zo) (UY (UW zo) U5)) zo hlo) (Qa zo) zo) (ZD ⟨by lia,_,rfl⟩)
 case hend=>rintro ρ ⟨_,x3,rfl⟩;refine Zj (KJ (UW rfl) ?_);rw[YV,show((n:Int)-0).toNat=n by lia]
theorem CV  {i j:Nat}(hij:i<=j)(hj:j<=xs.length):DL.cutD xs (O (i:Int)) (O (j:Int))=(xs.take j).drop i:=by unfold DL.cutD HT.sIx;dsimp only;rw[QA (by lia),QA (by lia),QS,QS,Nat.min_eq_left hj,Nat.min_eq_left (show i<=xs.length by lia),List.drop_take]
theorem zk{w:List Stp}(hl:w.length<=1000):∃d,Vz [.list (w.map U9)]=O d/\∃r,d=.list (r.map U9)/\((Gi w/\r=[]) ∨ ∃i j,NM w i j/\r=(w.take (j+1)).drop i):=by
 refine V5 (ρ:=[pb (.list (w.map U9)),zp,zp,zp]) zo ?_;unfold Sb;apply Ze;apply Z9 (λk ρ=>(∃x1 x2 x3,ρ=[pb (.list (w.map U9)),x1,x2,x3])/\∀j'<k,∀i' ≤ j',∀s t,w[i']?=O s->w[j']?=O t->s.a≠t.b)
 case h1=>exact Wk (UY (UW zo) U5) Wg
 case h0=>exact⟨⟨_,_,_,rfl⟩,λj' h=>absurd h (Uc _)⟩
 case hst=>
  rintro k d ρ hk ⟨⟨x1,x2,x3,rfl⟩,hb⟩;obtain⟨z,hz,rfl⟩:=Xz hk;rw[Qd]at hz;cases ht:w[k]? with
  |none=>rw[ht]at hz;cases hz
  |some t=>
  rw[ht]at hz;cases hz;have aL:k<w.length:=(Qg.mp ht).1;rw[QK];refine⟨_,Kw zo (U7 (U3 (Qa zo) zo) (U7 (U3 (Qa zo) zo) Kx)),?_⟩;unfold HE;apply Z9 (λl ρ=>(∃x3,ρ=[pb (.list (w.map U9)),pb (.int (k:Nat)),pb (U9 t),x3])/\∀i'<l,∀s,w[i']?=O s->s.a≠t.b)
  case h1=>exact Wn (UY (Ki (UW zo) Kd ZA) U5) (Ws (by lia) (by lia))
  case h0=>exact⟨⟨_,rfl⟩,λi' h=>absurd h (Uc _)⟩
  case hst=>
   rintro l d ρ hl2 ⟨⟨x3,rfl⟩,hc⟩;obtain⟨rfl,hlt⟩:=WS hl2;have hlk:l<=k:=by lia
   obtain⟨s,hs⟩:∃s,w[l]?=O s:=⟨_,Qe (by lia)⟩
   refine⟨_,U3 (Qa zo) zo,?_⟩;have zl:(0:Int)+(l:Int)=l:=by lia
   rw[zl];unfold HF;have il:oIx (.list (w.map U9)) (.int (l:Int))=O (U9 s):=ZP (by rw[Qd,hs];rfl);have i0:oIx (U9 s) (.int 0)=O (.int s.a):=ZP (j:=0) zo;have i1:oIx (U9 t) (.int 1)=O (.int t.b):=ZP (j:=1) zo;apply K9
   case h1=>exact Ki (Ki (K1 zo (UW zo) il) Kd i0) (K1 zo Kd i1) Wj
   case h2=>
    intro hh;have hh:(s.a:Int)=(t.b:Int):=Qa hh;have ao:YY (.list (w.map U9)) (O (l:Int)) (O ((k:Int)+1))=O (.list (((w.take (k+1)).drop l).map U9)):=by rw[Pp,show((k:Int)+1)=((k+1:Nat):Int)by lia,CV (by lia) (by rw[Qb];lia),List.map_drop,List.map_take]
    refine KJ (Pc (UW zo) (Te (UW zo)) (Te (Ki (UW zo) Kd ZA)) ao) (OA (OA (Tc ⟨_,rfl,_,rfl,.inr ⟨l,k,⟨hlk,aL,λs' t' e1 e2=>?_,hb⟩,rfl⟩⟩)));rw[hs]at e1;rw[ht]at e2;cases e1;cases e2
    lia
   case h3=>
    intro hh;refine Zo (ZD ⟨⟨_,rfl⟩,λi' hi' s' e=>?_⟩);rcases Nat.lt_succ_iff_lt_or_eq.mp hi' with hi'|rfl
    .exact hc i' hi' s' e
    .rw[hs]at e;cases e;lia
  case hend=>
   rintro ρ ⟨⟨x3,rfl⟩,hc⟩;refine ZD ⟨⟨_,_,_,rfl⟩,λj' hj' i' hi' s' t' e1 e2=>?_⟩;rcases Nat.lt_succ_iff_lt_or_eq.mp hj' with hj'|rfl
   .exact hb j' hj' i' hi' s' t' e1 e2
   .rw[ht]at e2
    cases e2;exact hc i' (by rw[YV];lia) s' e1
 case hend=>rintro ρ ⟨⟨x1,x2,x3,rfl⟩,hb⟩;refine Zj (KJ (Yb U5 (Qa rfl)) ⟨_,rfl,[],rfl,.inl ⟨λj hj=>hb j (by rw[Yv,Qb];exact hj),rfl⟩⟩)
noncomputable def XH(n:Nat)(s:Stp):Option (Nat×zC):=s.w.map λi=>(i,ZJ n s.b)
noncomputable def YE(p:Nat×zC):D:=.tuple [.int (p.1:Nat),Ko p.2]
noncomputable def rot(b:Nat)(r:List Stp):List Stp:=r.drop b++r.take b
theorem Rt(b)(r):(rot b r).Perm r:=by have:=List.perm_append_comm (l₁:=r.drop b) (l₂:=r.take b);rw[JW]at this;exact this
theorem De{n:Nat}{r:List Stp}(hl:r.length<=1000):∃b,b<=r.length/\((∃s,r[b]?=O s/\s.a=n)∨(b=0/\∀s∈r,s.a≠n))/\Xq [.int (n:Nat),.list (r.map U9)]=O (.list (((rot b r).filterMap (XH n)).map YE)):=by
 have key:∃d,Xq [.int (n:Nat),.list (r.map U9)]=O d/\∃b,b<=r.length/\((∃s,r[b]?=O s/\s.a=n)∨(b=0/\∀s∈r,s.a≠n))/\d=.list (((rot b r).filterMap (XH n)).map YE):=by
  refine V5  rfl ?_;unfold Sa;refine Kn (KM Kd (Qa zo) zo) ?_;apply Ze;apply Z9 (λk ρ=>∃(b:Nat)(x3 x4:Option Sl),ρ=[pb (.int (n:Nat)),pb (.list (r.map U9)),pb (.int (b:Nat)),x3,x4,zp,zp,zp,zp,zp]/\b<=r.length/\((∃s,r[b]?=O s/\s.a=n)∨(b=0/\∀s∈r.take k,s.a≠n)))
  case h1=>exact Wk (UY (UW zo) U5) Wg
  case h0=>exact⟨0,_,_,rfl,Uh _,.inr ⟨rfl,λs h=>by rw[List.take_zero]at h;cases h⟩⟩
  case hst=>
   rintro k d ρ hk ⟨b,x3,x4,rfl,aM,hb⟩;obtain⟨z,hz,rfl⟩:=Xz hk;rw[Qd]at hz;cases ht:r[k]? with
   |none=>rw[ht]at hz;cases hz
   |some t=>
   rw[ht]at hz;cases hz;have aL:k<r.length:=(Qg.mp ht).1;rw[QK];refine⟨_,Kw zo (U7 (U3 (Qa zo) zo) (U7 (U3 (Qa zo) zo) Kx)),?_⟩;unfold HP;have i0:oIx (U9 t) (.int 0)=O (.int t.a):=ZP (j:=0) zo;apply K9
   case h1=>exact Ki (K1 zo Kd i0) (UW zo) Wj
   case h2=>intro hh;have hh:(t.a:Int)=(n:Int):=Qa hh;exact YO (KM (UW zo) (Qa zo) zo) (ZD ⟨k,_,_,rfl,by lia,.inl ⟨t,ht,by lia⟩⟩)
   case h3=>
    intro hh;have hh:¬(t.a:Int)=(n:Int):=Jq hh;refine Zo (ZD ⟨b,_,_,rfl,aM,?_⟩);rcases hb with hb|⟨hb,hc⟩
    .exact .inl hb
    .refine .inr ⟨hb,λs hs=>?_⟩
     rw[J8,ht]at hs;rcases QH.mp hs with hs|hs
     .exact hc s hs
     .rw[QB.mp hs];lia
  case hend=>
   rintro ρ ⟨b,x3,x4,rfl,aM,hb⟩;refine Zj ?_;have hb':(∃s,r[b]?=O s/\s.a=n)∨(b=0/\∀s∈r,s.a≠n):=by rw[Yv,Qb,JM]at hb;exact hb
   refine Kn (YQ (Rs U5 (Qa zo)) (Qa zo) zo) ?_;have c1:YY (.list (r.map U9)) (O (b:Int)) zp=O (.list ((r.drop b).map U9)):=by rw[Pp,jU (by rw[Qb];exact aM),List.map_drop]
   have c2:YY (.list (r.map U9)) zp (O (b:Int))=O (.list ((r.take b).map U9)):=by rw[Pp,D9 (by rw[Qb];exact aM),List.map_take]
   have c3:Ke (.list ((r.drop b).map U9)) (.list ((r.take b).map U9))=O (.list ((rot b r).map U9)):=by rw[YW (by rw[Qb,Qb,Jx,Ja];lia)];unfold rot;rw[Qu]
   apply Ze;apply Z9 (λk ρ=>∃x6 x7 x8 x9,ρ=[pb (.int (n:Nat)),pb (.list (r.map U9)),pb (.int (b:Nat)),x3,x4,O (.own ((((rot b r).take k).filterMap (XH n)).map YE)),x6,x7,x8,x9])
   case h1=>exact Zv (Ki (Pc (UW zo) (Te (UW zo)) Kd c1) (Pc (UW zo) Kd (Te (UW zo)) c2) c3) Z0
   case h0=>exact⟨_,_,_,_,rfl⟩
   case hst=>
    rintro k d ρ hk ⟨x6,x7,x8,x9,rfl⟩;rw[Qd]at hk;cases hq:(rot b r)[k]? with
    |none=>rw[hq]at hk;cases hk
    |some s=>
    rw[hq]at hk;cases hk;have aL:k<(rot b r).length:=(Qg.mp hq).1;have zZ:(rot b r).length=r.length:=(Rt b r).length_eq;have ac:(rot b r).take (k+1)=(rot b r).take k++[s]:=by rw[J8,hq];rfl
    refine⟨_,Kw zo (U7 (U3 (Qa zo) zo) (U7 (U3 (Qa zo) zo) (U7 (U3 (Qa zo) zo) (U7 (U3 (Qa zo) zo) Kx)))),?_⟩;unfold HQ
    have hsz:((((rot b r).take k).filterMap (XH n)).map YE).length<1000000:=by
     rw[Qb];have:=Q9 (XH n) ((rot b r).take k);rw[Ja]at this
     lia
    cases hw:s.w with
    |none=>
     apply K9
     case h1=>exact KN (k:=λd=>!isNon d) (x:=YI zp) (UW zo)
     case h2=>intro hh;cases hh
     case h3=>
      intro _;refine Zo (ZD ⟨O (.pub (.int s.a)),pb (.int s.b),pb (.int s.g),pb (YI zp),?_⟩);rw[ac,List.filterMap_append];have:[s].filterMap (XH n)=[]:=by unfold XH;rw[JF,hw];rfl
      rw[this,Jm];rfl
    |some i=>
     apply K9
     case h1=>exact KN (k:=λd=>!isNon d) (x:=YI (O i)) (UW zo)
     case h3=>intro hh;cases hh
     case h2=>
      intro _
      have htest:∀ρ:UZ,ρ[7]?=O (O (.pub (.int (s.b:Int))))->ρ[0]?=O (O (.pub (.int (n:Int))))->mIf (ZF oEq 7 (UU 0)) (U2 .none) (UU 7) ρ=.ok (Ko (ZJ n s.b)) ρ:=λρ h7 h0=>by
       unfold ZJ;by_cases z:s.b=n
       .rw[Qr z]
        exact Nv (Yx h7 (UW h0) (by rw[Wj,Jg (by rw[z])])) Kd
       .rw[QA z]
        exact P5 (Yx h7 (UW h0) (by rw[Wj,QT (by lia)])) (UW h7)
      refine YO (V6 zo (Yu (UY (UW zo) (UY (htest _ zo zo) U5)) (Qa zo)) zo hsz zo) (ZD ⟨O (.pub (.int s.a)),pb (.int s.b),pb (.int s.g),pb (YI (O i)),?_⟩);rw[ac,List.filterMap_append];have:[s].filterMap (XH n)=[(i,ZJ n s.b)]:=by unfold XH;rw[JF,hw];rfl
      rw[this,Qu];rfl
   case hend=>rintro ρ ⟨x6,x7,x8,x9,rfl⟩;refine Zj (KJ (Xi rfl rfl) ⟨_,rfl,b,aM,hb',?_⟩);rw[Qb,JM]
 obtain⟨d,e,b,h1,h2,rfl⟩:=key;exact⟨b,h1,h2,e⟩
theorem OR(n):∀(R:List Stp)(d),(R.filterMap (XH n)).foldl (λd p=>d.set p.1 p.2) d=R.foldl (app n) d
 |[],d=>rfl
 |s::R,d=>by
  rw[Ju,JF];unfold XH app;cases s.w with
  |none=>exact OR n R d
  |some i=>exact OR n R _
theorem FY{ws:LO}{tk:List (Nat×zC)}(h:∀p∈tk,p.1<ws.length):X3 [Kl ws,.list (tk.map YE)]=O (Kl (tk.foldl (λd p=>d.set p.1 p.2) ws)):=by
 refine K5  rfl ?_;unfold Sg;refine Kn (YQ (Po zo (rfl)) (Qa zo) zo) ?_
 have hlen:∀(R:List (Nat×zC))(d:LO),(R.foldl (λd p=>d.set p.1 p.2) d).length=d.length:=λR=>by
  induction R with
  |nil=>intro d;rfl
  |cons p R ih=>intro d;rw[Ju,ih,Jb]
 apply Ze;apply Z9 (λk ρ=>∃x3 x4,ρ=[pb (Kl ws),O _,O (.own (((tk.take k).foldl (λd p=>d.set p.1 p.2) ws).map Ko)),x3,x4])
 case h1=>exact Zv (UW zo) Z0
 case h0=>exact⟨_,_,rfl⟩
 case hst=>
  rintro k d ρ hk ⟨x3,x4,rfl⟩;rw[Qd]at hk;cases hq:tk[k]? with
  |none=>rw[hq]at hk;cases hk
  |some p=>
  rw[hq]at hk;cases hk;have hpl:=h p (Qy hq);have ac:tk.take (k+1)=tk.take k++[p]:=by rw[J8,hq];rfl
  refine⟨_,Kw zo (U7 (U3 (Qa zo) zo) (U7 (U3 (Qa zo) zo) Kx)),?_⟩;unfold HN;refine YO (Oh (UW zo) zo (UW zo) zo ⟨Int.natCast_nonneg _,by rw[Qb,hlen];lia⟩ zo) (ZD ⟨O (.pub (.int (p.1:Nat))),pb (Ko p.2),?_⟩);rw[ac,List.foldl_append];show [_,_,O _,_,_]=[_,_,O (Sl.own ((((tk.take k).foldl (λd p=>d.set p.1 p.2) ws).set p.1 p.2).map Ko)),_,_];rw[QS,List.map_set]
 case hend=>rintro ρ ⟨x3,x4,rfl⟩;refine Zj (KJ (Xi rfl rfl) ?_);rw[Qb,JM];rfl
def V3(cs:zu)(f:Int×Int->Int)(qs:LP)(ws:LO):Prop:=∀p,p<cs.length+1->(ent (K8 (cs.length+1) (ZY cs f qs ws) (cs.length+1)) p).2.length≠cs.length+1
structure PP(cs:zu)(f:Int×Int->Int)(qs:LP)(ws:LO)(r:List Stp)(b:Nat):Prop where
 rnd:∃x,Path (ZY cs f qs ws) x r x
 nd:(r.map Stp.a).Nodup
 pos:0<KD r
 bl:b<=r.length
 bat:(∃s,r[b]?=O s/\s.a=cs.length)∨(b=0/\∀s∈r,s.a≠cs.length)
noncomputable def Yi(n b:Nat)(r:List Stp):List (Nat×zC):=(rot b r).filterMap (XH n)
theorem Tw(s)(R):KD (s::R)=s.g+KD R:=by show KD ([s]++R)=_;rw[W9,Ru]
theorem FX  (h:u.Perm v):KD u=KD v:=by
 induction h with
 |nil=>rfl
 |cons x _ ih=>rw[Tw,Tw,ih]
 |swap x y l=>rw[Tw,Tw,Tw,Tw];lia
 |trans _ _ ih1 bE=>simp_all
theorem kM  (h:∀s∈R,s.g=0):KD R=0:=by
 induction R with
 |nil=>rfl
 |cons s R ih=>
  have e:KD (s::R)=s.g+KD R:=by show KD ([s]++R)=_;rw[W9,Ru]
  rw[e,h s Ql,ih λx hx=>h x (Qj _ hx)];rfl
section
variable{cs:zu}{ls:List (List zu)}{ws:LO}{V:Int->Int->Int}{qs:LP}{f:Int×Int->Int}{m:Nat}
theorem PP.does(hp:Zf cs.length m qs)(hd:Zm cs qs m ws){r}{b:Nat}(h:PP cs f qs ws r b):Zm cs qs m ((Yi cs.length b r).foldl (λd p=>d.set p.1 p.2) ws)/\Kj f 0 ((Yi cs.length b r).foldl (λd p=>d.set p.1 p.2) ws)=Kj f 0 ws+KD r/\Yi cs.length b r≠[]/\∀p∈Yi cs.length b r,p.1<ws.length:=by
 obtain⟨x,hx⟩:=h.rnd;have hin   :=λs hs=>Xy hp hd s (hx.mem s hs);have pr:=Rt b r;have bO   :=λs hs=>hin s (pr.mem_iff.mp hs);have ndR   :=(pr.map Stp.a).nodup_iff.mpr h.nd;have pbR   :=((pr.map Stp.b).trans (MT hx)).trans (pr.map Stp.a).symm
 obtain⟨h1,h2⟩:=GQ hp hd bO ndR pbR;unfold Yi;rw[OR];refine⟨h1,by rw[h2,FX pr],λz=>?_,λp hpm=>?_⟩
 .have   :=kM λs hs=>by
   have hw   :=by have:=List.filterMap_eq_nil_iff.mp z s (pr.mem_iff.mpr hs);exact this
   cases hin s hs with
   |mv _ _ _=>cases hw
   |left _ _=>rfl
   |give _=>rfl
  have:=h.pos
  lia
 .obtain⟨s,hs,e⟩:=Jp.mp hpm
  cases bO s hs with
  |@mv i o o' hw _ _=>cases e;exact(Qg.mp hw).1
  |left _ _=>cases e
  |give _=>cases e
theorem EF(g:Good cs ls)(hm:ws.length=ls.length)(hp:Zf cs.length ws.length qs)(hd:Zm cs qs ws.length ws)(hq1:qs.length<=500):∃d,WD [Kr cs ls,.list (qs.map (ZB V)),Kl ws]=O d/\((d=.list []/\V3 cs (U8 V) qs ws) ∨ ∃r b,d=.list ((Yi cs.length b r).map YE)/\PP cs (U8 V) qs ws r b):=by
 refine V5  rfl ?_;unfold T9;have c6:=g.c6;have l7:=g.l7;have ay:Kp [.list (cs.map int)]=O (.int cs.length):=by rw[Zw,Qb]
 have hS:∀s∈ZY cs (U8 V) qs ws,s.a<cs.length+1/\s.b<cs.length+1:=λs hs=>(Xy hp hd s hs).lt hp hd;have hwd:=FZ hS (by lia)
 have aT:=Li (V:=V) g hm hp hd (by lia);refine Kn (KM (Yd (UY (K1 zo Kd SO) U5) ay) (Qa zo) zo) ?_;have hadd:Ke (.int (cs.length:Int)) (.int 1)=O (.int ((cs.length+1:Nat):Int)):=by rw[ZA];rfl
 apply Ze;apply Z9 (λk ρ=>(∃x4 x5,ρ=[pb (Kr cs ls),pb (.list (qs.map (ZB V))),pb (Kl ws),pb (.int cs.length),x4,x5])/\∀p<k,(ent (K8 (cs.length+1) (ZY cs (U8 V) qs ws) (cs.length+1)) p).2.length≠cs.length+1)
 case h1=>exact Zv (Km (UY (Ki (UW zo) Kd hadd) (UY (Km (UY (UW zo) (UY (UW zo) (UY (UW zo) U5))) zo aT) U5)) zo hwd) Z0
 case h0=>exact⟨⟨_,_,rfl⟩,λp h=>absurd h (Uc _)⟩
 case hst=>
  rintro k d ρ hk ⟨⟨x4,x5,rfl⟩,hb⟩;rw[Qd]at hk;cases hq:(K8 (cs.length+1) (ZY cs (U8 V) qs ws) (cs.length+1))[k]? with
  |none=>rw[hq]at hk;cases hk
  |some e=>
  rw[hq]at hk;cases hk;have he:ent (K8 (cs.length+1) (ZY cs (U8 V) qs ws) (cs.length+1)) k=e:=by unfold ent;rw[Qh,hq];rfl
  refine⟨_,Kw zo (U7 (U3 (Qa zo) zo) (U7 (U3 (Qa zo) zo) Kx)),?_⟩;unfold HD;have bL:Kp [.list (e.2.map U9)]=O (.int e.2.length):=by rw[Zw,Qb]
  apply K9
  case h1=>exact Ki (ZI zo bL) (Ki (UW zo) Kd hadd) Wj
  case h2=>
   intro hh;have hh:((e.2.length:Nat):Int)=((cs.length+1:Nat):Int):=Qa hh;have hlen:e.2.length=cs.length+1:=by lia
   obtain⟨d,hrw,r,rfl,hr⟩:=zk (w:=e.2) (by lia);have bG:=Pw hS (cs.length+1) k;rw[he]at bG;obtain⟨q,aJ⟩:=bG.1.path;rcases hr with ⟨hno,rfl⟩|⟨i,j,hra,rfl⟩
   .exact absurd hno (GS hS aJ (by lia) (JS _))
   .have hlr:((e.2.take (j+1)).drop i).length<=1000:=by rw[Jx,Ja];lia
    obtain⟨b,aM,bS,aS⟩:=De (n:=cs.length) hlr;have hrg:=v6 hS (JS _) (p:=k) (by rw[he];exact hlen) (by rw[he];exact hra);rw[he]at hrg;obtain⟨x,hx,hgp⟩:=hrg;exact KJ (Km (UY (UW zo) (UY (Km (UY (UW zo) U5) zo hrw) U5)) zo aS) (OA (Tc ⟨_,rfl,.inr ⟨_,b,rfl,⟨⟨x,hx⟩,yd aJ hra,hgp,aM,bS⟩⟩⟩))
  case h3=>
   intro hh;refine Zo (ZD ⟨⟨_,_,rfl⟩,λp bJ=>?_⟩);rcases Nat.lt_succ_iff_lt_or_eq.mp bJ with bJ|rfl
   .exact hb p bJ
   .rw[he];lia
 case hend=>rintro ρ ⟨⟨x4,x5,rfl⟩,hb⟩;refine Zj (KJ (Yb U5 (Qa rfl)) ⟨_,rfl,.inl ⟨rfl,λp hpn=>hb p ?_⟩⟩);rw[Qb,RK hS];exact hpn
theorem Ht{M:Int}(aC:0<=M)(hM:∀q∈qs,f q<=M):∀(ws)(k:Nat),(∀(i:Nat) t,ws[i]?=O (O t)->(((k+i:Nat):Int),t)∈qs)->Kj f k ws<=ws.length*M
 |[],k,_=>by show(0)<=((0:Nat))*M;rw[show(((0:Nat)):Int)=0 from rfl,Int.zero_mul];exact Jd _
 |o::ws,k,h=>by
  have ih:=Ht aC hM ws (k+1) λi t e=>by have:=h (i+1) t (by simpa using e);rw[show k+1+i=k+(i+1)by lia];exact this
  have h0:Ks f k o<=M:=by
   cases o with
   |none=>exact aC
   |some t=>exact hM _ (by have:=h 0 t zo;exact this)
  rw[Qz];show Ks f k o+Kj f (k+1) ws<=_
  lia
theorem FW(g:Good cs ls)(hm:m=ls.length)(hp:Zf cs.length m qs)(hq1:qs.length<=500){M:Int}(aC:0<=M)(hM:∀q∈qs,U8 V q<=M):∀(N:Nat)(ws:LO)(d:D),Zm cs qs m ws->((d=.list []/\V3 cs (U8 V) qs ws) ∨ ∃r b,d=.list ((Yi cs.length b r).map YE)/\PP cs (U8 V) qs ws r b) ->
  (m*M-Kj (U8 V) 0 ws<N)->∃av,Zm cs qs m av/\V3 cs (U8 V) qs av/\WW (Ou (UU 3)) Os N [pb (Kr cs ls),pb (.list (qs.map (ZB V))),pb (Kl ws),pb d]=.nx [pb (Kr cs ls),pb (.list (qs.map (ZB V))),pb (Kl av),pb (.list [])]
 |0,ws,d,hd,_,hN=>by have:=Ht aC hM ws 0 (λi t e=>by rw[QK];exact hd.wish i t e);rw[hd.len]at this;exact absurd hN (by lia)
 |N+1,ws,d,hd,hg,hN=>by
  rcases hg with ⟨rfl,hst⟩|⟨r,b,rfl,hgr⟩
  .refine⟨ws,hd,hst,?_⟩
   unfold WW;rfl
  .obtain⟨h1,h2,h3,h4⟩:=hgr.does hp hd
   generalize hws':(Yi cs.length b r).foldl (λd p=>d.set p.1 p.2) ws=av at h1 h2;have zU:=FY h4;rw[hws']at zU;obtain⟨d',hgw,hg'⟩:=EF (V:=V) (ws:=av) g (by rw[h1.len,hm]) (by rw[h1.len];exact hp) (by rw[h1.len];exact h1) hq1;obtain⟨bo,k1,k2,k3⟩:=FW g hm hp hq1 aC hM N av d' h1 hg' (by have:=hgr.pos;lia);refine⟨bo,k1,k2,?_⟩;unfold WW;rw[xF  (UW zo)]
   have hne:(!((Yi cs.length b r).map YE).isEmpty)=zq:=by
    cases hw:Yi cs.length b r with
    |nil=>exact absurd hw h3
    |cons _ _=>rfl
   dsimp only;rw[Qr hne];have hb:Ho Os [pb (Kr cs ls),pb (.list (qs.map (ZB V))),pb (Kl ws),pb (.list ((Yi cs.length b r).map YE))] (λo=>o=.nx [pb (Kr cs ls),pb (.list (qs.map (ZB V))),pb (Kl av),pb d']):=by unfold Os;refine Kn (KM (Km (UY (UW zo) (UY (UW zo) U5)) zo zU) (Qa zo) zo) ?_;exact YO (KM (Km (UY (UW zo) (UY (UW zo) (UY (UW zo) U5))) zo hgw) (Qa zo) zo) zo
   rw[hb.out];exact k3
theorem EE(g:Good cs ls)(hp:Zf cs.length ls.length qs)(hq1:qs.length<=500){M:Int}(aC:0<=M)(hM:∀q∈qs,U8 V q<=M)(hF:ls.length*M<10 ^ 60):∃d,X1 [Kr cs ls,.list (qs.map (ZB V))]=O d/\∃ws,d=Kl ws/\Zm cs qs ls.length ws/\V3 cs (U8 V) qs ws:=by
 refine V5  rfl ?_;unfold T8;have l7:=g.l7;have zQ:Kp [.list (ls.map KY)]=O (.int (ls.length:Nat)):=by rw[Zw,Qb]
 let ws0:LO:=UG ls.length zp
 have hmul:KZ (.list [.none]) (.int (ls.length:Nat))=O (Kl ws0):=by rw[Oq (by lia)];show _=O (UH _);rw[List.map_replicate];rfl
 have hd0:Zm cs qs ls.length ws0:=⟨by show(UG _ _).length=_;rw[Q0],(λi t h=>by
  rw[QC]at h;split at h
  .cases h
  .cases h),λk c e=>by
  have h0:ws0.count (O (k:Int))=0:=Us.mpr λh=>by cases (List.mem_replicate.mp h).2
  rw[h0];have:=g.c7 c (Qy e)
  show(0:Int)<=c
  lia⟩
 refine Kn (KM (Ki (Yb (UY Kd U5) (Qa zo)) (Yd (UY (K1 zo Kd Tk) U5) zQ) hmul) (Qa zo) zo) ?_;obtain⟨d',hgw,hg'⟩:=EF (V:=V) (ws:=ws0) g hd0.len (by rw[hd0.len];exact hp) (by rw[hd0.len];exact hd0) hq1;refine Kn (KM (Km (UY (UW zo) (UY (UW zo) (UY (UW zo) U5))) zo hgw) (Qa zo) zo) ?_
 have h0:∀(n k:Nat),Kj (U8 V) k (UG n zp)=0:=λn=>by
  induction n with
  |zero=>intro k;rfl
  |succ n ih=>intro k;rw[Ul];show 0+Kj (U8 V) (k+1) (UG n zp)=0;rw[ih];rfl
 have hfu:ls.length*M-Kj (U8 V) 0 ws0<(WJ:Nat):=by
  have e:Kj (U8 V) 0 ws0=0:=h0 _ _;have e2:((WJ:Nat):Int)=10 ^ 60:=by unfold WJ;rfl
  rw[e,e2]
  lia
 obtain⟨av,k1,k2,k3⟩:=FW g zo hp hq1 aC hM WJ ws0 d' hd0 hg' hfu;refine Kn k3 ?_;exact KJ (UW zo) ⟨_,rfl,av,rfl,k1,k2⟩
end
section
variable{cs:zu}{ls:List (List zu)}{as ps:zu}
theorem Hs(g:Good cs ls):(Kf 0 ls).length<=42:=by rw[(RB ls 0).length_eq];exact Pe g
end
theorem GP  {ps:zu}:∀(ws)(as:zu)(k:Nat),as.length=ws.length->(∀a∈as,0<=a)->(∀(i:Nat) t,ws[i]?=O (O t)->f (((k+i:Nat):Int),t)<=as.getD i 0+ps.getD t.toNat 0)->Kj f k ws<=as.sum+pz ps ws
 |[],[],k,_,_,_=>by show(0:Int)<=0+0;lia
 |o::ws,a::as,k,hl,ha,h=>by
  have ih:=GP (f:=f) (ps:=ps) ws as (k+1) (by simpa using hl) (λx hx=>ha x (List.mem_cons_of_mem _ hx)) λi t e=>by have:=h (i+1) t (by simpa using e);rw[show k+1+i=k+(i+1)by lia];simpa using this
  have h0:=ha a Ql;cases o with
  |none=>
   show 0+Kj f (k+1) ws<=a+as.sum+(0+pz ps ws)
   lia
  |some t=>
   have h1:=h 0 t zo;have h1:f ((k:Int),t)<=a+ps.getD t.toNat 0:=by simpa using h1
   show f ((k:Int),t)+Kj f (k+1) ws<=a+as.sum+(ps.getD t.toNat 0+pz ps ws)
   lia
 |[],_::_,_,hl,_,_=>by cases hl
 |_::_,[],_,hl,_,_=>by cases hl
section
variable{cs:zu}{ls:List (List zu)}{ws:LO}{qs:LP}{f:Int×Int->Int}{m:Nat}{as ps:zu}
theorem kL(hp:Zf cs.length m qs)(hd:Zm cs qs m ws)(ok:OkP cs.length m (λa b=>f (a,b)) qs 1 as ps):Kj f 0 ws<=Wp cs as ps:=by
 have h1:=GP (f:=f) (ps:=ps) ws as 0 (by rw[ok.la,hd.len]) ok.aa λi t e=>by have:=ok.le _ (hd.wish i t e);rw[QK];rw[Int.one_mul]at this;exact this
 have aH:∀t,O t∈ws->0<=t/\t<cs.length:=λt ht=>by obtain⟨i,hi⟩:=List.mem_iff_getElem?.mp ht;have:=hp.lo _ (hd.wish i t hi);exact⟨this.2.2.1,this.2.2.2⟩
 rw[OS ws aH]at h1;unfold Wp;rw[MV _ _ ok.lp]
 have h2   :=Rn _ λk hk=>by
  have hc:cs[k]?=O (cs.getD k 0):=by rw[Qh,Qe hk];rfl
  have hk2:0<=ps.getD k 0:=by rw[Qh,Qe (by rw[ok.lp];exact hk)];exact ok.pp _ (Jy _)
  exact QZ (hd.cop k _ hc) hk2
 lia
theorem ED(hp:Zf cs.length m qs)(hd:Zm cs qs m ws)(st:V3 cs f qs ws){us}(hu:Zm cs qs m us):Kj f 0 us<=Kj f 0 ws:=by obtain⟨ok,e⟩:=kn hp hd (Xy hp hd) (Tx hp hd)  (λ_=>rfl) st;have:=kL hp hu ok;simp_all
end
section
variable{cs:zu}{ls:List (List zu)}{ws:LO}{qs:LP}{V:Int->Int->Int}
noncomputable def prW(cs:zu)(f:Int×Int->Int)(qs:LP)(ws:LO)(p:Nat):Int:=(ent (K8 (cs.length+1) (ZY cs f qs ws) (cs.length+1)) p).1
theorem FV(g:Good cs ls)(hp:Zf cs.length ls.length qs)(hd:Zm cs qs ls.length ws)(hq1:qs.length<=500):X0 [Kr cs ls,.list (qs.map (ZB V)),Kl ws]=O (.list (((UF cs.length).map (prW cs (U8 V) qs ws)).map int)):=by
 refine K5  rfl ?_;unfold T7;have c6:=g.c6;have hS:∀s∈ZY cs (U8 V) qs ws,s.a<cs.length+1/\s.b<cs.length+1:=λs hs=>(Xy hp hd s hs).lt hp hd;have ay:Kp [.list (cs.map int)]=O (.int cs.length):=by rw[Zw,Qb]
 have has:Yz [Kr cs ls,.list (qs.map (ZB V)),Kl ws]=O (.list ((ZY cs (U8 V) qs ws).map U9)):=Li g hd.len (by rw[hd.len];exact hp) (by rw[hd.len];exact hd) (by lia);have hwd:=FZ hS (by lia);generalize hT:K8 (cs.length+1) (ZY cs (U8 V) qs ws) (cs.length+1)=T at hwd;have aO:T.length=cs.length+1:=by rw[←hT];exact RK hS _
 refine Kn (KM (Yd (UY (K1 zo Kd SO) U5) ay) (Qa zo) zo) ?_;refine Kn (KM (Km (UY (Ki (UW zo) Kd ZA) (UY (Km (UY (UW zo) (UY (UW zo) (UY (UW zo) U5))) zo has) U5)) zo hwd) (Qa zo) zo) ?_
 have hcd:DL.cutD (T.map Yn) zp (O (cs.length:Int))=(T.take cs.length).map Yn:=by
  have h2:HT.sIx (T.map Yn).length (T.map Yn).length (O (cs.length:Int))=cs.length:=by
   rw[Qb,aO];unfold HT.sIx;simp
   lia
  unfold DL.cutD;rw[h2,show HT.sIx (T.map Yn).length 0 zp=0 from rfl,List.drop_zero,Nat.sub_zero,List.map_take]
 have ao:YY (.list (T.map Yn)) zp (O (cs.length:Int))=O (.list ((T.take cs.length).map Yn)):=by rw[Pp,hcd]
 have hc:K4 (gT 2 (gNC (gN 5) (gNC (gN 6) (gN0)))) (U2 zq) (UU 5) ((T.take cs.length).map Yn) (KE [pb (Kr cs ls),pb (.list (qs.map (ZB V))),pb (Kl ws),pb (.int cs.length),pb (.list (T.map Yn))]++UG 2 zp) []=O ([]++((UF cs.length).map (prW cs (U8 V) qs ws)).map int):=by
  refine Xa (λρ=>∃x y,ρ=[pb (Kr cs ls),pb (.list (qs.map (ZB V))),pb (Kl ws),pb (.int cs.length),pb (.list (T.map Yn)),x,y]) _ _ _ _ ?_ ?_ ⟨zp,zp,rfl⟩ ?_
  .rw[Qb,Qb,Qb,Ja,Qo];lia
  .rintro i d e hd' he ρ ⟨x,y,rfl⟩
   rw[Qd,Qd]at he
   have zO:i<cs.length:=by
    have:=(Qg.mp hd').1;rw[Qb,Ja]at this
    lia
   rw[QJ zO]at he;cases he;rw[Qd,List.getElem?_take_of_lt zO,Qe (by lia)]at hd';cases hd';have hv:prW cs (U8 V) qs ws i=T[i].1:=by unfold prW ent;rw[hT,Qh,Qe (by lia)];rfl
   rw[hv];exact⟨_,Kw zo (U7 (U3 (Qa zo) zo) (U7 (U3 (Qa zo) zo) Kx)),rfl,UW zo,_,_,rfl⟩
  .rw[Qw,Qb,Ja];lia
 exact KJ (KN (Zz (Zv (Pc (UW zo) Kd (Te (UW zo)) ao) Z0) hc)) zo
theorem Hr{n m:Nat}(hp:Zf n m qs)(hm:m<=1000)(P:Nat->Int):XZ [.int (m:Nat),.list (qs.map (ZB V)),.list (((UF n).map P).map int)]=O (.list (((UF m).map λi:Nat=>ZN (U8 V) P qs (i:Int)).map int)):=by
 refine K5  rfl ?_;unfold T6;refine Kn (YQ (GA (n:=m) (Yb (UY Kd U5) (Qa zo)) (UW zo) hm) (Qa zo) zo) ?_;apply Ze;apply Z9 (λk ρ=>∃x4 x5 x6,ρ=[pb (.int (m:Nat)),pb (.list (qs.map (ZB V))),pb (.list (((UF n).map P).map int)),O (.own (((UF m).map λi:Nat=>ZN (U8 V) P (qs.take k) (i:Int)).map int)),x4,x5,x6])
 case h1=>exact Zv (UW zo) Z0
 case h0=>
  refine⟨zp,zp,zp,?_⟩
  have e:(UG m (int 0))=((UF m).map λi:Nat=>ZN (U8 V) P (qs.take 0) (i:Int)).map int:=by
   rw[QQ];apply List.ext_getElem
   .rw[Q0,Qb,Qo]
   .intro i h1 h2
    rw[List.getElem_replicate,J9];rfl
  rw[←e];rfl
 case hst=>
  rintro k d ρ hk ⟨x4,x5,x6,rfl⟩;rw[Qd]at hk;cases hq:qs[k]? with
  |none=>rw[hq]at hk;cases hk
  |some q=>
  rw[hq]at hk;cases hk;have hb:=hp.lo q (Qy hq);obtain⟨⟨a,ha⟩,⟨t,ht⟩⟩:(∃a:Nat,q.1=a)/\∃t:Nat,q.2=t:=⟨⟨q.1.toNat,by lia⟩,⟨q.2.toNat,by lia⟩⟩
  have ham:a<m:=by lia
  have htn:t<n:=by lia
  refine⟨_,Kw zo (U7 (U3 (Qa zo) zo) (U7 (U3 (Qa zo) zo) (U7 (U3 (Qa zo) zo) Kx))),?_⟩;unfold HL;have h1:oIx (.list (((UF m).map λi:Nat=>ZN (U8 V) P (qs.take k) (i:Int)).map int)) (.int q.1)=O (.int (ZN (U8 V) P (qs.take k) (a:Int))):=by rw[ha];exact ZP (by rw[Qd,Qd,QJ ham];rfl)
  have h2:oIx (.list (((UF n).map P).map int)) (.int q.2)=O (.int (P t)):=by rw[ht];exact ZP (by rw[Qd,Qd,QJ htn];rfl)
  refine YO (Oh (Yd (UY (We zo (UW zo) zo h1) (UY (Ki (UW zo) (K1 zo (UW zo) h2) Xh) U5)) N8) zo (UW zo) zo ⟨hb.1,by rw[Qb,Qb,Qo];exact hb.2.1⟩ zo) (ZD ⟨O (.pub (.int q.1)),pb (.int q.2),pb (.int (V q.1 q.2)),?_⟩);have e:∀i:Nat,ZN (U8 V) P (qs.take (k+1)) (i:Int)=if q.1=(i:Int)then max (ZN (U8 V) P (qs.take k) (i:Int)) (U8 V q-P q.2.toNat)else ZN (U8 V) P (qs.take k) (i:Int):=λi=>by unfold ZN;rw[List.take_add_one,hq,List.foldl_append];rfl
  have e2:((((UF m).map λi:Nat=>ZN (U8 V) P (qs.take k) (i:Int)).map int).set q.1.toNat (.int (if V q.1 q.2-P t > ZN (U8 V) P (qs.take k) (a:Int)then V q.1 q.2-P t else ZN (U8 V) P (qs.take k) (a:Int))))=((UF m).map λi:Nat=>ZN (U8 V) P (qs.take (k+1)) (i:Int)).map int:=by
   apply List.ext_getElem
   .rw[Jb,Qb,Qb,Qb,Qb]
   .intro i h1 h2
    rw[List.getElem_set,J9,J9,J9,J9,List.getElem_range,e];by_cases hia:a=i
    .subst hia
     rw[Qr (by lia),Qr ha,show q.2.toNat=t by lia]
     congr 1
     show _=max _ (V q.1 q.2-P t)
     split<;>lia
    .rw[QA (by lia),QA (by lia)]
  rw[←e2];rfl
 case hend=>rintro ρ ⟨x4,x5,x6,rfl⟩;refine Zj (KJ (Xi rfl rfl) ?_);rw[Qb,JM]
noncomputable abbrev Vn(m:Nat)(f:Int×Int->Int)(P:Nat->Int)(qs:LP):zu:=(UF m).map λi:Nat=>ZN f P qs (i:Int)
theorem yo(g:Good cs ls)(hp:Zf cs.length ls.length qs)(hd:Zm cs qs ls.length ws)(hq1:qs.length<=500):Vy [Kr cs ls,.list (qs.map (ZB V)),Kl ws]=O (Xj 1 (Vn ls.length (U8 V) (prW cs (U8 V) qs ws) qs) ((UF cs.length).map (prW cs (U8 V) qs ws))):=by
 refine K5  rfl ?_;have l7:=g.l7;have zQ:Kp [.list (ls.map KY)]=O (.int ls.length):=by rw[Zw,Qb]
 refine Kn (KM (Km (UY (UW zo) (UY (UW zo) (UY (UW zo) U5))) zo (FV g hp hd hq1)) (Qa zo) zo) ?_;exact KJ (Yu (UY Kd (UY (Km (UY (Yd (UY (K1 zo Kd Tk) U5) zQ) (UY (UW zo) (UY (UW zo) U5))) zo (Hr hp (by omega) _)) (UY (UW zo) U5))) (Qa zo)) zo
theorem Th(g:Good cs ls):Zf cs.length ls.length (Kf 0 ls) where
 nd:=EG ls 0 λrs hr=>(g.rk rs hr).once
 lo:=λq hq=>by have:=AC g q hq;simp_all
theorem zj{o:Ord}{old}{ts:zu}(g:Good cs ls)(ga:Yh cs.length ls.length old ts):∃ws,Xp [Kr cs ls,K6 o old ts]=O (.tuple [Kl ws,Xj 1 (Vn ls.length (U8 (KH ls o old ts)) (prW cs (U8 (KH ls o old ts)) (Kf 0 ls) ws) (Kf 0 ls)) ((UF cs.length).map (prW cs (U8 (KH ls o old ts)) (Kf 0 ls) ws))])/\Zm cs (Kf 0 ls) ls.length ws/\V3 cs (U8 (KH ls o old ts)) (Kf 0 ls) ws:=by have hq:=Hs g;have l7:=g.l7;obtain⟨d,hb,ws,rfl,hd,hst⟩:=EE (V:=KH ls o old ts) g (Th g) (by omega)  (by decide) (λq hq=>Int.le_of_lt (GV g ga hq).2) (by omega);refine⟨ws,?_,hd,hst⟩;refine K5  rfl ?_;refine Kn (KM (Km (UY (UW zo) (UY (UW zo) U5)) zo (Lg g ga)) (Qa zo) zo) ?_;refine Kn (KM (Km (UY (UW zo) (UY (UW zo) U5)) zo hb) (Qa zo) zo) ?_;exact KJ (Yu (UY (UW zo) (UY (Km (UY (UW zo) (UY (UW zo) (UY (UW zo) U5))) zo (yo g (Th g) hd (by omega))) U5)) (Qa zo)) zo
end
section
variable{cs:zu}{ls:List (List zu)}{ws:LO}{o:Ord}{old:zG}{ts:zu}
theorem Tv(h:Zm cs (Kf 0 ls) ls.length ws):Deal cs ls ws where
 len:=h.len
 wish:=λi t rs hw hrs=>by
  obtain⟨i',rs',h1,h2,h3⟩:=V8 (h.wish i t hw);have hii:i=i':=by lia
  subst hii;rw[hrs]at h1;cases h1;exact h3
 cop:=h.cop
theorem Tt(ls):∀(ws)(l2)(k:Nat),(∀(j:Nat) rs,l2[j]?=O rs->ls.getD (k+j) []=rs)->ws.length=l2.length->Kj (U8 (KH ls o old ts)) k ws=KS (KG (Zr ls o old ts) k l2 ws)
 |[],[],_,_,_=>rfl
 |[],_::_,_,_,h=>by cases h
 |_::_,[],_,_,h=>by cases h
 |x::ws,rs::l2,k,hj,hl=>by
  have ih:=Tt ls ws l2 _ (λj r h=>by rw[show k+1+j=k+(j+1)by lia];exact hj _ r h) (by simpa using hl);show Ks _ k x+Kj _ _ ws=KS (x.map _::KG _ _ l2 ws);rw[Tz,ih]
  congr 1
  cases x with
  |none=>rfl
  |some t=>show KH ls o old ts (k) t=Zr ls o old ts k rs t;unfold KH;rw[QS,show ls.getD k []=rs from hj 0 rs zo]
end
section
variable{cs:zu}{ls:List (List zu)}{o:Ord}{old:zG}{ts:zu}{ws:LO}
theorem MB(du:Deal cs ls ws):Zm cs (Kf 0 ls) ls.length ws:=⟨du.len,λi t h=>by
 have zO:i<ls.length:=by have:=(Qg.mp h).1;have:=du.len;lia
 have hrs   :=Qe zO;have:=FG (k:=0) hrs (du.wish i t _ h hrs);simp_all,du.cop⟩
end
theorem Hq  : ∀(n),(∀k,k<n->f k<=h k)->(Zl n f=Zl n h ↔ ∀k,k<n->f k=h k)
 |0,_=>⟨λ_ k hk=>absurd hk (Uc _),λ_=>rfl⟩
 |n+1,h0=>by
  have ih:=Hq n λk hk=>h0 k (by lia)
  have l:=Rn n λk hk=>h0 k (J4 hk);have ln:=h0 n (JT _);rw[Vb,Vb]
  refine⟨λe k hk=>?_,λe=>?_⟩
  .by_cases z:k=n
   .lia
   .exact ih.mp (by lia) k (by lia)
  .rw[ih.mpr λk hk=>e k (by lia),e n (JT _)]
theorem GO{f:Int×Int->Int}{ps:zu}{tm:Int}:∀(ws:LO)(as:zu)(k:Nat),as.length=ws.length->(∀a∈as,0<=a)->(∀(i:Nat) t,ws[i]?=O (O t)->tm*f (((k+i:Nat):Int),t)<=as.getD i 0+ps.getD t.toNat 0) ->
  tm*Kj f k ws<=as.sum+pz ps ws/\(tm*Kj f k ws=as.sum+pz ps ws ↔ (∀(i:Nat) t,ws[i]?=O (O t)->tm*f (((k+i:Nat):Int),t)=as.getD i 0+ps.getD t.toNat 0)/\∀i:Nat,ws[i]?=O zp->as.getD i 0=0)
 |[],[],k,_,_,_=>⟨by show tm*0<=0+0;lia,λ_=>⟨λi t h=>by simp at h,λi h=>by simp at h⟩,λ_=>by show tm*0=0+0;lia⟩
 |[],_::_,_,h,_,_=>by cases h
 |_::_,[],_,h,_,_=>by cases h
 |o::ws,a::as,k,hl,ha,h=>by
  obtain⟨ih1,bE⟩:=GO (f:=f) (ps:=ps) (tm:=tm) ws as (k+1) (by simpa using hl) (λx hx=>ha x (List.mem_cons_of_mem _ hx)) λi t e=>by have:=h (i+1) t (by simpa using e);rw[show k+(i+1)=k+1+i by lia]at this;simpa using this
  have e2:(a::as).sum=a+as.sum:=by simp
  have ga:∀i:Nat,(a::as).getD (i+1) 0=as.getD i 0:=λi=>by simp
  have a0:=ha a Ql;rw[e2];cases o with
  |none=>
   have e1:Kj f k (none::ws)=0+Kj f (k+1) ws:=rfl;have e3:pz ps (none::ws)=0+pz ps ws:=rfl;rw[e1,e3,JD,JD];refine⟨by lia,λe=>?_,λ⟨e4,e5⟩=>?_⟩
   .obtain⟨c1,c2⟩:=bE.mp (by lia)
    refine⟨λi t hi=>?_,λi hi=>?_⟩
    .cases i with
     |zero=>cases hi
     |succ i=>have:=c1 i t (by simpa using hi);rw[show k+(i+1)=k+1+i by lia,ga];exact this
    .cases i with
     |zero=>show a=0;lia
     |succ i=>rw[ga];exact c2 i (by simpa using hi)
   .have h0:a=0:=e5 0 zo
    have:=bE.mpr ⟨λi t hi=>by have:=e4 (i+1) t (by simpa using hi);rw[show k+(i+1)=k+1+i by lia,ga]at this;exact this,λi hi=>by have:=e5 (i+1) (by simpa using hi);rwa[ga]at this⟩
    lia
  |some t=>
   have e1:Kj f k (O t::ws)=f ((k:Int),t)+Kj f (k+1) ws:=rfl;have e3:pz ps (O t::ws)=ps.getD t.toNat 0+pz ps ws:=rfl;have h0:=h 0 t zo;have h0:tm*f ((k:Int),t)<=a+ps.getD t.toNat 0:=h0;rw[e1,e3,Int.mul_add];refine⟨by lia,λe=>?_,λ⟨e4,e5⟩=>?_⟩
   .obtain⟨c1,c2⟩:=bE.mp (by lia)
    refine⟨λi u hi=>?_,λi hi=>?_⟩
    .cases i with
     |zero=>cases hi;show tm*f ((k:Int),t)=a+ps.getD t.toNat 0;lia
     |succ i=>have:=c1 i u (by simpa using hi);rw[show k+(i+1)=k+1+i by lia,ga];exact this
    .cases i with
     |zero=>cases hi
     |succ i=>rw[ga];exact c2 i (by simpa using hi)
   .have h0:tm*f ((k:Int),t)=a+ps.getD t.toNat 0:=e4 0 t zo
    have:=bE.mpr ⟨λi t hi=>by have:=e4 (i+1) t (by simpa using hi);rw[show k+(i+1)=k+1+i by lia,ga]at this;exact this,λi hi=>by have:=e5 (i+1) (by simpa using hi);rwa[ga]at this⟩
    lia
structure Nl(cs:zu)(f:Int×Int->Int)(tm:Int)(as ps:zu)(ws:LO):Prop where
 got:∀(i:Nat) t,ws[i]?=O (O t)->tm*f ((i:Int),t)=as.getD i 0+ps.getD t.toNat 0
 non:∀i:Nat,ws[i]?=O zp->as.getD i 0=0
 all:∀k,k<cs.length->ps.getD k 0=0∨((ws.count (O (k:Int)):Nat):Int)=cs.getD k 0
section
variable{cs:zu}{f:Int×Int->Int}{qs:LP}{m:Nat}{ws:LO}{tm:Int}{as ps:zu}
theorem FT(hp:Zf cs.length m qs)(hd:Zm cs qs m ws)(ok:OkP cs.length m (λa b=>f (a,b)) qs tm as ps):tm*Kj f 0 ws<=Wp cs as ps/\(tm*Kj f 0 ws=Wp cs as ps ↔ Nl cs f tm as ps ws):=by
 obtain⟨h1,h2⟩:=GO (f:=f) (ps:=ps) (tm:=tm) ws as 0 (by rw[ok.la,hd.len]) ok.aa λi t e=>by rw[QK];exact ok.le _ (hd.wish i t e)
 simp only[QK]at h2;have aH:∀t,O t∈ws->0<=t/\t<cs.length:=λt ht=>by obtain⟨i,hi⟩:=List.mem_iff_getElem?.mp ht;have:=hp.lo _ (hd.wish i t hi);exact⟨this.2.2.1,this.2.2.2⟩
 have bJ:∀k,k<cs.length->0<=ps.getD k 0:=λk hk=>by rw[Qh,Qe (by rw[ok.lp];exact hk)];exact ok.pp _ (Jy _)
 have hcop:∀k,k<cs.length->((ws.count (O (k:Int)):Nat):Int)<=cs.getD k 0:=λk hk=>hd.cop k _ (by rw[Qh,Qe hk];rfl)
 have hle   :=λk hk=>QZ (hcop k hk) (bJ k hk);have s1:=Rn cs.length hle;have s2:=Hq cs.length hle;have ec:Wp cs as ps=as.sum+Zl cs.length λk=>cs.getD k 0*ps.getD k 0:=by unfold Wp;rw[MV _ _ ok.lp]
 rw[ec];rw[OS ws aH]at h1 h2;refine⟨by lia,λe=>?_,λh=>?_⟩
 .obtain⟨c1,c2⟩:=h2.mp (by lia)
  refine⟨c1,c2,λk hk=>?_⟩;have e3:=s2.mp (by lia) k hk;by_cases z:ps.getD k 0=0
  .exact .inl z
  .exact .inr (Int.eq_of_mul_eq_mul_right z e3)
 .have e1:=h2.mpr ⟨h.got,h.non⟩
  have e3:=s2.mpr λk hk=>by
   rcases h.all k hk with z|z
   .rw[z,Uk,Uk]
   .rw[z]
  lia
end
abbrev YJ:=List (Nat×List Stp)
noncomputable def Ky(R:YJ)(p:Nat):Bool:=R.any λx=>x.1==p
noncomputable def Wd(R:YJ)(p:Nat):List Stp:=((R.find? λx=>x.1==p).map (·.2)).getD []
noncomputable def Zu(R:YJ)(s:Stp):YJ:=if Ky R s.a && !Ky R s.b then R++[(s.b,Wd R s.a++[s])]else R
noncomputable def ZZ(T:List Stp)(q:Nat):Nat->YJ
 |0=>[(q,[])]
 |t+1=>T.foldl Zu (ZZ T q t)
theorem Ps   : Ky R p=zq ↔ ∃w,(p,w)∈R:=by
 unfold Ky;constructor
 .simp_all
 simp_all
theorem OO   (h:Ky R p=zq):(p,Wd R p)∈R:=by
 obtain⟨w,hw⟩:=Ps.mp h;unfold Wd;cases e:R.find? λx=>x.1==p with
 |none=>have:=List.find?_eq_none.mp e _ hw;simp at this
 |some x=>
  have h1:=List.mem_of_find?_eq_some e;have h2:=List.find?_some e;have h2   :=by simpa using h2
  subst h2;exact h1
structure RdOk(T:List Stp)(q:Nat)(R:YJ):Prop where
 pth:∀x∈R,Path T q x.2 x.1
 nd:∀x∈R,(q::x.2.map Stp.b).Nodup
 cl:∀x∈R,∀y∈q::x.2.map Stp.b,Ky R y=zq
theorem MA    : Ky (R++[x]) p=(Ky R p || x.1==p):=by unfold Ky;simp
theorem AB  {q:Nat}{R:YJ}{s:Stp}(hs:s∈T)(k:RdOk T q R):RdOk T q (Zu R s)/\(∀p,Ky R p=zq->Ky (Zu R s) p=zq)/\(Ky R s.a=zq->Ky (Zu R s) s.b=zq):=by
 unfold Zu;by_cases c:(Ky R s.a && !Ky R s.b)=zq
 .rw[Qr c]
  obtain⟨c1,c2⟩:=J5.mp c;have c2   :=by simpa using c2
  have hm:=OO c1;have k1:=k.pth _ hm;have k2:=k.nd _ hm;have k3:=k.cl _ hm;have up:∀p,Ky R p=zq->Ky (R++[(s.b,Wd R s.a++[s])]) p=zq:=λp h=>by rw[MA,h];rfl
  have e:q::((Wd R s.a++[s]).map Stp.b)=(q::(Wd R s.a).map Stp.b)++[s.b]:=by rw[Qu];rfl
  refine⟨⟨λx hx=>?_,λx hx=>?_,λx hx y hy=>?_⟩,up,λ_=>by rw[MA];simp⟩
  .rcases QH.mp hx with h|h
   .exact k.pth x h
   .cases QB.mp h
    exact k1.append (.cons hs (.nil _))
  .rcases QH.mp hx with h|h
   .exact k.nd x h
   .cases QB.mp h
    rw[e];refine List.nodup_append.mpr ⟨k2,by simp,λa ha b hb z=>?_⟩;rw[QB.mp hb]at z;rw[z]at ha;have:=k3 _ ha;rw[c2]at this;cases this
  .rcases QH.mp hx with h|h
   .exact up y (k.cl x h y hy)
   .cases QB.mp h
    rw[e]at hy;rcases QH.mp hy with hy|hy
    .exact up y (k3 y hy)
    .rw[MA,List.mem_singleton.mp hy];simp
 .rw[QA c]
  refine⟨k,λ_ h=>h,λh=>?_⟩;cases z:Ky R s.b with
  |true=>rfl
  |false=>rw[h,z]at c;exact absurd zo c
theorem NK   : ∀(X:List Stp)(R),(∀s∈X,s∈T)->RdOk T q R->RdOk T q (X.foldl Zu R)/\(∀p,Ky R p=zq->Ky (X.foldl Zu R) p=zq)/\∀s∈X,Ky R s.a=zq->Ky (X.foldl Zu R) s.b=zq
 |[],R,_,k=>⟨k,λ_ h=>h,λs hs=>by simp_all⟩
 |s::X,R,h,k=>by
  obtain⟨k1,k2,k3⟩:=AB (h s Ql) k;obtain⟨f1,f2,f3⟩:=NK X _ (λx hx=>h x (Qj _ hx)) k1;refine⟨f1,λp hp=>f2 p (k2 p hp),λx hx ha=>?_⟩;rcases QL.mp hx with rfl|hx
  .exact f2 _ (k3 ha)
  .exact f3 x hx (k2 _ ha)
theorem O1(T)(q:Nat):∀t,RdOk T q (ZZ T q t)/\∀w p,Path T q w p->w.length<=t->Ky (ZZ T q t) p=zq
 |0=>by
  refine⟨⟨λx hx=>?_,λx hx=>?_,λx hx y hy=>?_⟩,λw p h hl=>?_⟩
  .cases QB.mp hx;exact .nil q
  .cases List.mem_singleton.mp hx;simp
  .cases QB.mp hx
   cases QB.mp hy;exact Ps.mpr ⟨[],QB.mpr zo⟩
  .have:w=[]:=List.eq_nil_of_length_eq_zero (by lia)
   subst this;cases h;exact Ps.mpr ⟨[],QB.mpr zo⟩
 |t+1=>by
  obtain⟨k,ih⟩:=O1 T q t;obtain⟨f1,f2,f3⟩:=NK T _ (λ_ h=>h) k;refine⟨f1,λw p h hl=>?_⟩;by_cases c:w.length<=t
  .exact f2 p (ih w p h c)
  .obtain⟨u,s,rfl⟩:∃u s,w=u++[s]:=⟨w.dropLast,w.getLast (by intro z;rw[z]at c;simp at c),(List.dropLast_concat_getLast _).symm⟩
   obtain⟨mm,h1,h2⟩:=h.split;have hs:=h2.step.1;have ha:=h2.head;have hb   :=h2.step.2;have hp:p=s.b:=by generalize s.b=x at hb;cases hb;rfl
   subst ha;rw[hp];exact f3 s hs (ih u s.a h1 (by rw[Qi,QX]at hl;lia))
theorem E1   (hT:∀s∈T,s.a<n/\s.b<n)(h0:0<n){q p}:∀(N)(w),w.length<=N->Path T q w p->∃w',Path T q w' p/\w'.length<n
 |0,w,hl,h=>⟨w,h,by lia⟩
 |N+1,w,hl,h=>by
  by_cases c:w.length<n
  .exact⟨w,h,c⟩
  .have hr:=GS hT h (by lia) h0
   have:∃j,j<w.length/\∃i,i<=j/\∃s t,w[i]?=O s/\w[j]?=O t/\s.a=t.b:=by refine Classical.byContradiction λz=>hr λj hj i hi s t e1 e2 e3=>z ⟨j,hj,i,hi,s,t,e1,e2,e3⟩
   obtain⟨j,hj,i,hi,s,t,e1,e2,e3⟩:=this;have p1:=(h.at e1).1;have p2:=(h.at e2).2.2;rw[←e3]at p2;refine E1 hT h0 N _ ?_ (p1.append p2);rw[Qi,Ja,Jx]
   lia
def VT(T:List Stp)(q p:Nat):Prop:=∃w,Path T q w p
theorem Tu   (hT:∀s∈T,s.a<n/\s.b<n)(h0:0<n){q p}:Ky (ZZ T q n) p=zq ↔ VT T q p:=by
 obtain⟨k,c⟩:=O1 T q n;constructor
 .intro h
  exact⟨_,k.pth _ (OO h)⟩
 .rintro⟨w,h⟩
  obtain⟨w',h',hl⟩:=E1 hT h0 w.length w (Qx _) h;exact c w' p h' (by lia)
noncomputable def ZL(T:List Stp)(n p:Nat):Nat:=(UF n).countP λq=>Ky (ZZ T q n) p
theorem Hc(T)(n p):ZL T n p<=n:=by have:=List.countP_le_length (p:=λq=>Ky (ZZ T q n) p) (l:=UF n);rwa[Qo]at this
theorem q9   (hT:∀s∈T,s.a<n/\s.b<n){s}(hs:s∈T):ZL T n s.a<=ZL T n s.b:=by
 have h0:0<n:=by have:=(hT s hs).1;lia
 refine List.countP_mono_left λq _ h=>?_
 obtain⟨w,hw⟩:=(Tu hT h0).mp h;exact(Tu hT h0).mpr ⟨_,hw.append (.cons hs (.nil _))⟩
noncomputable def Yt(S:List Stp)(V:Nat->Int):List Stp:=S.filter λs=>decide (V s.a+s.g=V s.b)
noncomputable def KL(T:List Stp)(V:Nat->Int)(n:Nat)(p:Nat):Int:=((n+1:Nat):Int)*V p+(ZL T (n+1) p:Int)-(ZL T (n+1) n:Int)
theorem kJ  {V}{n:Nat}(hS:∀s∈S,s.a<n+1/\s.b<n+1)(st:∀s∈S,V s.a+s.g<=V s.b)(s:Stp)(hs:s∈S):KL (Yt S V) V n s.a+((n+1:Nat):Int)*s.g<=KL (Yt S V) V n s.b:=by
 have hT:∀s∈Yt S V,s.a<n+1/\s.b<n+1:=λs h=>hS s (Q8.mp h).1;have h1:=st s hs;unfold KL
 by_cases c:V s.a+s.g=V s.b
 .have:=q9 hT (Q8.mpr ⟨hs,Jg c⟩)
  rw[←c,Int.mul_add]
  lia
 .have l1:=Hc (Yt S V) (n+1) s.a
  have h2:_*(V s.a+s.g+1)<=((n+1:Nat):Int)*V s.b:=Int.mul_le_mul_of_nonneg_left (by lia) (by lia)
  lia
section
variable{cs:zu}{f:Int×Int->Int}{qs:LP}{m:Nat}{ws:LO}
theorem GN(c):∀(ws)(k),Kj (λq=>c*f q) k ws=c*Kj f k ws
 |[],k=>by show(0)=c*0;lia
 |o::ws,k=>by
  show Ks _ k o+Kj _ _ ws=c*(Ks f k o+Kj f _ ws);rw[GN c ws _,Int.mul_add];cases o with
  |none=>show 0+_=c*0+_;lia
  |some t=>rfl
theorem IsSt.mul   (h:IsSt cs (λq=>c*f q) qs ws s):∃s',IsSt cs f qs ws s'/\s.a=s'.a/\s.b=s'.b/\s.g=c*s'.g:=by
 cases h with
 |@mv i o o' h hne hq=>
  refine⟨_,.mv h hne hq,rfl,rfl,?_⟩
  have e:∀o , Ks (λq=>c*f q) i o=c*Ks f i o:=λo=>by
   cases o with
   |none=>show(0)=c*0;lia
   |some t=>rfl
  rw[e,e,Int.mul_sub]
 |left h hl=>exact⟨_,.left h hl,rfl,rfl,by simp_all⟩
 |give h=>exact⟨_,.give h,rfl,rfl,by simp_all⟩
theorem kI(hp:Zf cs.length m qs)(hd:Zm cs qs m ws)(sw:V3 cs f qs ws){T:List Stp}(hT:T=Yt (ZY cs f qs ws) (prW cs f qs ws)) :
  OkP cs.length m (λa b=>f (a,b)) qs ((cs.length+1:Nat):Int) ((UF m).map λi:Nat=>ZN (λq=>((cs.length+1:Nat):Int)*f q) (KL T (prW cs f qs ws) cs.length) qs (i:Int)) ((UF cs.length).map (KL T (prW cs f qs ws) cs.length)) /\
  Wp cs ((UF m).map λi:Nat=>ZN (λq=>((cs.length+1:Nat):Int)*f q) (KL T (prW cs f qs ws) cs.length) qs (i:Int)) ((UF cs.length).map (KL T (prW cs f qs ws) cs.length))=((cs.length+1:Nat):Int)*Kj f 0 ws:=by
 obtain⟨st,vn⟩:=Pj (V:=prW cs f qs ws) hp hd (Xy hp hd) (Tx hp hd) (λp=>rfl) sw;have hS:∀s∈ZY cs f qs ws,s.a<cs.length+1/\s.b<cs.length+1:=λs hs=>(Xy hp hd s hs).lt hp hd
 obtain⟨ok,cl⟩:=F0  (V:=KL T _ cs.length) hp hd (λs hs=>by obtain⟨s',h1,h2,h3,h4⟩:=hs.mul;rw[h2,h3,h4,hT];exact kJ hS st s' (Tx hp hd s' h1)) (by unfold KL;rw[vn,Uk];lia);refine⟨⟨by lia,ok.la,ok.lp,ok.aa,ok.pp,λq hq=>?_⟩,by rw[cl,GN]⟩;have:=ok.le q hq;rwa[Int.one_mul]at this
end
noncomputable def Xv(R:YJ):D:=.dict (R.map λx=>(.int (x.1:Nat),.list (x.2.map U9)))
theorem NJ{p:Nat}:Yc (.int (p:Nat))=O (.inl (p:Int)):=rfl
theorem NI(a p:Nat):decide (Yc (.int (a:Nat))=O (.inl (p:Int)))=(a==p):=by
 rw[NJ];by_cases h:a=p
 .subst h;simp
 lia
theorem WZ  {p}:ZT (.int (p:Nat)) (Xv R)=O (Ky R p):=by
 unfold ZT Xv;rw[NJ];dsimp only;rw[Qr (Jf.mpr λx hx=>by obtain⟨y,_,rfl⟩:=Qn.mp hx;rfl)]
 congr 1
 rw[List.any_map]
 congr 1
 funext x;exact NI x.1 p
theorem GM   (h:Ky R p=zq):VY (Xv R) (.int (p:Nat))=O (.list ((Wd R p).map U9)):=by
 unfold VY Xv;rw[NJ];dsimp only;rw[List.find?_map];have e:((λx:D×D=>decide (Yc x.1=O (.inl (p)))) ∘ λx:Nat×List Stp=>((.int (x.1),.list (x.2.map U9))))=λx=>x.1==p:=by funext x;exact NI x.1 p
 rw[e];unfold Wd;cases z:R.find? λx=>x.1==p with
 |none=>obtain⟨w,hw⟩:=Ps.mp h;have:=List.find?_eq_none.mp z _ hw;simp at this
 |some x=>rfl
theorem q8   {w:List Stp}(h:Ky R p=zr):XN (R.map λx=>((.int (x.1:Nat),.list (x.2.map U9)):D×D)) (.inl (p:Int)) (.list (w.map U9))=(R++[(p,w)]).map λx=>(.int (x.1:Nat),.list (x.2.map U9)):=by
 unfold XN
 have e:((R.map λx=>((.int (x.1:Nat),.list (x.2.map U9)):D×D)).any λx=>decide (Yc x.1=O (.inl (p:Int))))=zr:=by
  rw[List.any_map];have:((λx:D×D=>decide (Yc x.1=O (.inl (p)))) ∘ λx:Nat×List Stp=>((.int (x.1:Nat),.list (x.2.map U9))))=λx=>x.1==p:=by funext x;exact NI x.1 p
  rw[this];exact h
 rw[if_neg (by rw[e];simp),List.map_append];rfl
theorem FS  {l:zI}(h:l.Nodup)(hl:∀x∈l,x<n):l.length<=n:=by
 have:=Rv n (l.map λk:Nat=>(k)) (EH (λa b e=>by lia) h) λx hx=>by
  obtain⟨k,hk,rfl⟩:=Qn.mp hx;have:=hl k hk
  lia
 simp_all
structure RdK(n:Nat)(R:YJ):Prop where
 nd:(R.map Prod.fst).Nodup
 lt:∀x∈R,x.1<n
theorem CU    (hs:s.b<n)(k:RdK n R):RdK n (Zu R s):=by
 unfold Zu;by_cases c:(Ky R s.a && !Ky R s.b)=zq
 .rw[Qr c]
  refine⟨?_,λx hx=>?_⟩
  .rw[Qu]
   refine List.nodup_append.mpr ⟨k.nd,by simp,λa ha b hb z=>?_⟩;have hb   :=by simpa using hb
   obtain⟨x,hx,rfl⟩:=Qn.mp ha;have:Ky R s.b=zq:=Ps.mpr ⟨x.2,by rw[←hb,←z];exact hx⟩;simp_all
  .rcases QH.mp hx with h|h
   .exact k.lt x h
   simp_all
 .rw[QA c];exact k
theorem Nk  : ∀(X:List Stp)(R),(∀s∈X,s.b<n)->RdK n R->RdK n (X.foldl Zu R)
 |[],R,_,k=>k
 |s::X,R,h,k=>Nk X _ (λx hx=>h x (Qj _ hx)) (CU (h s Ql) k)
theorem GL   (hT:∀s∈T,s.a<n/\s.b<n)(hq:q<n):∀t,RdK n (ZZ T q t)
 |0=>⟨by show [q].Nodup;simp,λx hx=>by cases List.mem_singleton.mp hx;simp_all⟩
 |t+1=>Nk T _ (λs hs=>(hT s hs).2) (GL hT hq t)
theorem Fn    (hT:∀s∈T,s.a<n/\s.b<n)(hq:q<n)(k:RdOk T q R):∀x∈R,x.2.length<n:=λx hx=>by
 have h:=FS  (k.nd x hx) λy hy=>by
  rcases QL.mp hy with rfl|hy
  .exact hq
  .obtain⟨s,hs,rfl⟩:=Qn.mp hy
   exact(hT s ((k.pth x hx).mem s hs)).2
 rw[Qz,Qb]at h
 lia
theorem RM(s:Stp):oIx (U9 s) (.int 0)=O (.int (s.a:Nat)):=ZP (j:=0) zo
theorem PD(s:Stp):oIx (U9 s) (.int 1)=O (.int (s.b:Nat)):=ZP (j:=1) zo
theorem DT(s:Stp):oIx (U9 s) (.int 2)=O (.int s.g):=ZP (j:=2) zo
section
variable{n:Nat}{T:List Stp}{q:Nat}
theorem qZ(hT:∀s∈T,s.a<n/\s.b<n)(hn:n<=100)(hq:q<n):Vw [.int (q:Nat),.int (n:Nat),.list (T.map U9)]=O (Xv (ZZ T q n)):=by
 refine K5  rfl ?_;unfold T4
 let S0:Option Sl:=O (.pub (.int (q:Nat)))
 let S1:Option Sl:=O (.pub (.int (n:Nat)))
 let S2:Option Sl:=O (.pub (.list (T.map U9)))
 refine Kn  (Ae (d:=Xv (ZZ T q 0)) (Zb (x:=[(.int (q:Nat),.list [])]) zo (Yq zo)) (Qa zo) zo) ?_;apply Ze;apply Z9 (λt ρ=>∃x4 x5,ρ=[S0,S1,S2,O (.deep .dic (Xv (ZZ T q t))),x4,x5])
 case h1=>exact Wn (UY (UW zo) U5) (Ws (by lia) (by lia))
 case h0=>exact⟨_,_,rfl⟩
 case hst=>
  rintro t d ρ ht ⟨x4,x5,rfl⟩;refine⟨_,U3 (Qa zo) zo,?_⟩;unfold HJ;apply Z9 (λj ρ=>∃x4 x5,ρ=[S0,S1,S2,O (.deep .dic (Xv ((T.take j).foldl Zu (ZZ T q t)))),x4,x5])
  case h1=>exact Zv (UW zo) Z0
  case h0=>exact⟨_,_,rfl⟩
  case hst=>
   rintro j d ρ hj ⟨x4,x5,rfl⟩;rw[Qd]at hj;cases hs:T[j]? with
   |none=>rw[hs]at hj;cases hj
   |some s=>
   rw[hs]at hj;cases hj;have hsT:=Qy hs;have hsub:∀x∈T.take j,x∈T:=λx hx=>List.mem_of_mem_take hx;have kR:=(NK (T.take j) (ZZ T q t) hsub (O1 T q t).1).1;have kK:=Nk (n:=n) (T.take j) (ZZ T q t) (λx hx=>(hT x (hsub x hx)).2) (GL hT hq t)
   have eT:(T.take (j+1)).foldl Zu (ZZ T q t)=Zu ((T.take j).foldl Zu (ZZ T q t)) s:=by rw[List.take_add_one,hs,List.foldl_append];rfl
   generalize (T.take j).foldl Zu (ZZ T q t)=R at kR kK eT;refine⟨_,U3 (Qa zo) zo,?_⟩;unfold HK
   have hlen:R.length<=n:=by
    have:=FS (n:=n) kK.nd λx hx=>by obtain⟨y,hy,rfl⟩:=Qn.mp hx;exact kK.lt y hy
    rwa[Qb]at this
   by_cases ca:Ky R s.a=zq
   .by_cases cb:Ky R s.b=zq
    .refine K9 (b:=zr) (Rq (Pf (t:=zq) (K1 zo Kd (RM s)) zo (WZ.trans (Ug O ca))) (Pf (t:=zq) (K1 zo Kd (PD s)) zo (WZ.trans (Ug O cb)))) (λz=>by cases z) λ_=>Zo (ZD ⟨x4,pb (U9 s),?_⟩)
     rw[eT];unfold Zu;rw[if_neg (by rw[ca,cb];simp)];rfl
    .have cb:Ky R s.b=zr:=by simpa using cb
     refine K9 (b:=zq) (Rq (Pf (t:=zq) (K1 zo Kd (RM s)) zo (WZ.trans (Ug O ca))) (Pf (t:=zr) (K1 zo Kd (PD s)) zo (WZ.trans (Ug O cb)))) (λ_=>?_) λz=>by cases z
     have hl:=Fn hT hq kR _ (OO ca);have hl:(Wd R s.a).length<n:=hl;have hadd:Ke (.list ((Wd R s.a).map U9)) (.list [U9 s])=O (.list ((Wd R s.a++[s]).map U9)):=by rw[YW (by rw[Qb,QX];lia),Qu];rfl
     refine YO (Ci (k:=.inl ((s.b:Nat):Int)) (kvs:=R.map λx=>(.int (x.1:Nat),.list (x.2.map U9))) (Ki (B8 zo (K1 zo Kd (RM s)) zo (GM ca)) (Yb (UY (UW zo) U5) (Qa zo)) hadd) zo (K1 zo Kd (PD s)) zo zo (by rw[Qb];lia) zo) (ZD ⟨x4,pb (U9 s),?_⟩);rw[q8 cb,eT];unfold Zu;rw[Qr (by rw[ca,cb];rfl)];rfl
   .have ca:Ky R s.a=zr:=by simpa using ca
    refine K9 (b:=zr) (Oi (Pf (t:=zr) (K1 zo Kd (RM s)) zo (WZ.trans (Ug O ca)))) (λz=>by cases z) λ_=>Zo (ZD ⟨x4,pb (U9 s),?_⟩)
    rw[eT];unfold Zu;rw[if_neg (by rw[ca];simp)];rfl
  case hend=>rintro ρ ⟨x4,x5,rfl⟩;refine ZD ⟨x4,x5,?_⟩;rw[Qb,JM];rfl
 case hend=>rintro ρ ⟨x4,x5,rfl⟩;refine Zj (KJ (B6 rfl rfl) ?_);rw[YV];simp
noncomputable abbrev Xw(T:List Stp)(n:Nat):zw:=(UF n).map λq=>Xv (ZZ T q n)
theorem yn(hT:∀s∈T,s.a<n/\s.b<n)(hn:n<=100):Vv [.int (n:Nat),.list (T.map U9)]=O (.list (Xw T n)):=by
 refine K5  rfl ?_;refine KJ (KN (Zz (Wn (UY (UW zo) U5) (Ws (by lia) (by lia))) (Xa (λρ=>∃x,ρ=[O _,O _,x]) _ (Xw T n) _ [] ?_ ?_ ⟨zp,rfl⟩ ?_))) zo
 .rw[YV];simp
 .rintro i d e hd he ρ ⟨x,rfl⟩
  obtain⟨rfl,hi⟩:=WS hd;have hin:i<n:=by lia
  rw[Qd,QJ hin]at he;cases he;rw[JD];exact⟨_,U3 (Qa zo) zo,rfl,Km (UY (UW zo) (UY (UW zo) (UY (UW zo) U5))) zo (qZ hT hn hin),_,rfl⟩
 .rw[Qw,YV];lia
end
theorem Wq{α:Type}{s}{t:M Bool}{g:M D}(f)(p)(e)(I:UZ->Prop):∀(xs:List α)(ρ:UZ)(es:zw),(∀a∈xs,∀ρ,I ρ->∃ρ1,s (f a) ρ=O ρ1/\t ρ1=.ok (p a) ρ1/\(p a=zq->g ρ1=.ok (e a) ρ1)/\I (KE ρ1))->I ρ->es.length+xs.length<=1000000->K4 s t g (xs.map f) ρ es=O (es++(xs.filter p).map e)
 |[],ρ,es,_,_,_=>by rw[List.map_nil,K4];simp
 |a::xs,ρ,es,h,h0,hl=>by
  rw[Qz]at hl;obtain⟨ρ1,h1,h2,h3,h4⟩:=h a Ql ρ h0;have h':=λb hb=>h b (Qj _ hb);rw[Qv,K4,h1];dsimp only;rw[h2];dsimp only
  cases c:p a with
  |true=>rw[Qr zo,h3 c];dsimp only;rw[Qr (by lia),Wq f p e I xs _ _ h' h4 (by rw[Qi,QX];lia),List.filter_cons_of_pos c,Q2];rfl
  |false=>rw[if_neg (by decide),Wq f p e I xs _ _ h' h4 (by lia),List.filter_cons_of_neg (by rw[c];simp)]
theorem qY{S:List Stp}{n:Nat}{V:Nat->Int}(hS:∀s∈S,s.a<n+1/\s.b<n+1)(vn:V n=0)(hn:n<=100)(hl:S.length<=1000):Vx [.list (S.map U9),.list (((UF n).map V).map int)]=O (.list ((Yt S V).map U9)):=by
 refine K5  rfl ?_;unfold T5;have hadd:Ke (.list (((UF n).map V).map int)) (.list [.int 0])=O (.list (((UF (n+1)).map V).map int)):=by rw[YW (by rw[Qb,Qb,Qo,QX];lia),JK,Qu,Qu];show _=O (UH (_++[int (V n)]));rw[vn]
 refine Kn (KM (Ki (UW zo) (Yb (UY Kd U5) (Qa zo)) hadd) (Qa zo) zo) ?_;have hix:∀p,p<n+1->oIx _ (.int (p:Nat))=O (.int (V p)):=λp hp=>OL hp
 let R:UZ:=[pb (.list (S.map U9)),pb (.list (((UF n).map V).map int)),pb (.list (((UF (n+1)).map V).map int))]
 have hc:K4 (gN 3) (U1 oEq (U1 Ke (Kb 2 (Kb 3 (U2 (.int 0)))) (Kb 3 (U2 (.int 2)))) (Kb 2 (Kb 3 (U2 (.int 1))))) (UU 3) (S.map U9) (KE R++UG 1 zp) []=O ((Yt S V).map U9):=by refine(Wq U9 _ U9 (λρ=>∃x,ρ=R++[x]) S _ [] ?_ ⟨zp,rfl⟩ (by rw[Qw];lia)).trans (by rw[QR];rfl);rintro s hs ρ ⟨x,rfl⟩;have hs:=hS s hs;exact⟨R++[pb (U9 s)],U3 (Qa zo) zo,Ki (Ki (K1 zo (K1 zo Kd (RM s)) (hix _ hs.1)) (K1 zo Kd (DT s)) ZA) (K1 zo (K1 zo Kd (PD s)) (hix _ hs.2)) Wj,λ_=>UW zo,_,rfl⟩
 exact KJ (KN (Zz (Zv (UW zo) Z0) hc)) zo
section
variable{cs:zu}{ls:List (List zu)}{ws:LO}{qs:LP}{V:Int->Int->Int}{T:List Stp}{n m:Nat}{P:Nat->Int}
theorem zm(hn:n<=100):Vu [.list (((UF n).map P).map int),.list (Xw T (n+1))]=O (.list (((UF n).map (KL T P n)).map int)):=by
 refine K5  rfl ?_;unfold TZ
 let S0:Option Sl:=O (.pub (.list (((UF n).map P).map int)))
 let S1:Option Sl:=O (.pub (.list (Xw T (n+1))))
 let S2:Option Sl:=O (.pub (.int ((n+1:Nat):Int)))
 have hlen:Kp [.list (Xw T (n+1))]=O (.int ((n+1:Nat):Int)):=by rw[Zw,Qb,Qo]
 refine Kn (ρ1:=[S0,S1,S2,zp]) (KM (ZI zo hlen) (Qa zo) zo) ?_
 let L:zw:=((UF (n+1)).map λp=>((ZL T (n+1) p:Nat):Int)).map int
 have hc1:K4 (gN 4) (U2 zq) (ZW Kp (UX (Ka UH (Zd (K2 (UU 1)) 1 (gN 5) (ZF ZT 4 (UU 5)) (UU 5))) UV)) (Yp 0 ((n+1:Nat):Int)) (KE [S0,S1,S2,zp]++UG 1 zp) []=O L:=by
  refine(Xa (λρ=>∃x,ρ=[S0,S1,S2,zp,x]) _ L _ [] ?_ ?_ ⟨zp,rfl⟩ ?_).trans (by rw[QR])
  .rw[YV];show(List.map _ _).length=_;rw[List.length_map,List.length_map,List.length_range];simp
  .rintro i d e hd he ρ ⟨x,rfl⟩
   obtain⟨rfl,hi⟩:=WS hd;have hin:i<n+1:=by lia
   rw[Qd,Qd,QJ hin]at he;cases he;rw[JD];refine⟨_,U3 (Qa zo) zo,rfl,?_,_,rfl⟩;have hin2:K4 (gN 5) (ZF ZT 4 (UU 5)) (UU 5) (Xw T (n+1)) (KE [S0,S1,S2,zp,pb (.int (i:Nat))]++UG 1 zp) []=O (((UF (n+1)).filter λq=>Ky (ZZ T q (n+1)) i).map λq=>Xv (ZZ T q (n+1))):=by refine(Wq (λq=>Xv (ZZ T q (n+1))) (λq=>Ky (ZZ T q (n+1)) i) (λq=>Xv (ZZ T q (n+1))) (λρ=>∃x,ρ=[S0,S1,S2,zp,pb (.int (i:Nat)),x]) (UF (n+1)) _ [] ?_ ⟨zp,rfl⟩ (by rw[Qw,Qo];lia)).trans (by rw[QR]);rintro q hq ρ ⟨x,rfl⟩;exact⟨[S0,S1,S2,zp,pb (.int (i:Nat)),pb (Xv (ZZ T q (n+1)))],U3 (Qa zo) zo,Yx zo (UW zo) WZ,λ_=>UW zo,_,rfl⟩
   refine Yd (UY (KN (Zz (Zv (UW zo) Z0) hin2)) U5) ?_;rw[Zw,Qb];show _=O (int ((ZL T (n+1) i:Nat):Int));unfold ZL;rw[List.countP_eq_length_filter]
  .rw[Qw,YV];lia
 refine Kn (ρ1:=[S0,S1,S2,O (.own L)]) (YQ (Zz (Wn (UY (UW zo) U5) (Ws (by lia) (by lia))) hc1) (Qa zo) zo) ?_;have hixL:∀p,p<n+1->oIx (.list L) (.int (p:Nat))=O (.int (ZL T (n+1) p:Nat)):=λp hp=>OL (h:=λp=>((ZL T (n+1) p:Nat):Int)) hp
 have zR:oIx (.list L) (.int (-1))=O (.int (ZL T (n+1) n:Nat)):=by
  refine Ge ?_
  show(((UF (n+1)).map λp=>((ZL T (n+1) p:Nat):Int)).map int).getLast?=_
  rw[JK,Qu,Qu];simp
 let R:UZ:=[S0,S1,S2,pb (.list L)]
 have hc2:K4 (gT 2 (gNC (gN 4) (gNC (gN 5) gN0))) (U2 zq) (U1 Zi (U1 Ke (U1 KZ (UU 2) (UU 5)) (Kb 3 (UU 4))) (Kb 3 (Z7 (U2 (.int 1))))) (Z2 0 (((UF n).map P).map int)) (Z3 [S0,S1,S2,O (.own L)]++UG 2 zp) []=O (((UF n).map (KL T P n)).map int):=by
  refine(Xa (λρ=>∃x y,ρ=[S0,S1,S2,pb (.list L),x,y]) _ (((UF n).map (KL T P n)).map int) _ [] ?_ ?_ ⟨zp,zp,rfl⟩ ?_).trans (by rw[QR])
  .rw[Yv,Qb,Qb,Qb,Qb]
  .rintro i d e hd he ρ ⟨x,y,rfl⟩
   obtain⟨z,hz,rfl⟩:=Xz hd;have hin:i<n:=by have:=(Qg.mp hz).1;rwa[Qb,Qb,Qo]at this
   rw[Qd,Qd,QJ hin]at he hz;cases he;cases hz;rw[QK];exact⟨_,Kw zo (U7 (U3 (Qa zo) zo) (U7 (U3 (Qa zo) zo) Kx)),rfl,Ki (Ki (Ki (UW zo) (UW zo) (Td (by lia) (by lia))) (K1 zo (UW zo) (hixL i (by lia))) ZA) (K1 zo (Tr Kd) zR) Xh,_,_,rfl⟩
  .rw[Qw,Yv,Qb,Qb,Qo];lia
 exact KJ (KN (jW (Wk (UY (UW zo) U5) Wg) hc2 (va _))) zo
theorem zh(hp:Zf n m qs)(hn:n<=100)(hm:m<=1000)(hq1:qs.length<=500):Vt [.int (m:Nat),.list (qs.map (ZB V)),.list (((UF n).map P).map int),.list (Xw T (n+1))]=O (Xj ((n+1:Nat):Int) (Vn m (λq=>((n+1:Nat):Int)*U8 V q) (KL T P n) qs) ((UF n).map (KL T P n))):=by
 refine K5  rfl ?_;unfold TY
 let S0:Option Sl:=O (.pub (.int (m:Nat)))
 let S1:Option Sl:=O (.pub (.list (qs.map (ZB V))))
 let S2:Option Sl:=O (.pub (.list (((UF n).map P).map int)))
 let S3:Option Sl:=O (.pub (.list (Xw T (n+1))))
 let S4:Option Sl:=O (.pub (.int ((n+1:Nat):Int)))
 let S5:Option Sl:=O (.pub (.list (((UF n).map (KL T P n)).map int)))
 have hlen:Kp [.list (Xw T (n+1))]=O (.int ((n+1:Nat):Int)):=by rw[Zw,Qb,Qo]
 refine Kn  (KM (ZI zo hlen) (Qa zo) zo) ?_;refine Kn (ρ1:=[S0,S1,S2,S3,S4,S5,zp]) (KM (Km (UY (UW zo) (UY (UW zo) U5)) zo (zm hn)) (Qa zo) zo) ?_
 have hc:K4 (gT 3 (gNC (gN 7) (gNC (gN 8) (gNC (gN 9) gN0)))) (U2 zq) (KI (UX (UU 7) (UX (UU 8) (UX (U1 KZ (UU 4) (UU 9)) UV)))) (qs.map (ZB V)) (KE [S0,S1,S2,S3,S4,S5,zp]++UG 3 zp) []=O (qs.map (ZB λa b=>((n+1:Nat):Int)*V a b)):=by
  refine(Xa (λρ=>∃x y z,ρ=[S0,S1,S2,S3,S4,S5,zp,x,y,z]) _ _ _ [] ?_ ?_ ⟨zp,zp,zp,rfl⟩ ?_).trans (by rw[QR])
  .rw[Qb,Qb]
  .rintro i d e hd he ρ ⟨x,y,z,rfl⟩
   rw[Qd]at hd he;cases hq:qs[i]? with
   |none=>rw[hq]at hd;cases hd
   |some q=>
   rw[hq]at hd he;cases hd;cases he;exact⟨_,Kw zo (U7 (U3 (Qa zo) zo) (U7 (U3 (Qa zo) zo) (U7 (U3 (Qa zo) zo) Kx))),rfl,Yu (UY (UW zo) (UY (UW zo) (UY (Ki (UW zo) (UW zo) (Td (by lia) (by lia))) U5))) (Qa zo),_,_,_,rfl⟩
  .rw[Qw,Qb];lia
 refine Kn (KM (Km (UY (UW zo) (UY (KN (Zz (Zv (UW zo) Z0) hc)) (UY (UW zo) U5))) zo (Hr hp hm _)) (Qa zo) zo) ?_;exact KJ (Yu (UY (UW zo) (UY (UW zo) (UY (UW zo) U5))) (Qa zo)) zo
theorem Mz:∀(us vs:LO),PyData.eqvAll (us.map Ko) (vs.map Ko)=decide (us=vs)
 |[],[]=>rfl
 |[],_::_=>by simp[PyData.eqvAll]
 |_::_,[]=>by simp[PyData.eqvAll]
 |u::us,v::vs=>by
  show(UN _ _&&PyData.eqvAll _ _)=_
  have e:UN (Ko u) (Ko v)=decide (u=v):=by
   cases u with
   |none=>cases v<;>simp[Ko,UN]
   |some a=>
    cases v with
    |none=>simp[Ko,UN]
    |some b=>by_cases h:a=b<;>simp[Ko,UN,h]
  rw[Mz us vs,e];simp_all
theorem qX(us)(L:List LO):oIn (Kl us) (.list (L.map Kl))=O (decide (us∈L)):=by
 have hlay:UL (L.map Kl)=zq:=TB λx hx=>by obtain⟨y,_,rfl⟩:=Qn.mp hx;exact Mn y
 have hd:=jV us
 show(if(Kl us).canLay0=zq/\UL _=zq/\(Kl us).depth<=60 then O _ else zp)=_
 rw[Qr ⟨Mn us,hlay,by lia⟩]
 congr 1
 rw[Jv,List.any_eq_true,QN];constructor
 .rintro⟨y,hy,e⟩
  obtain⟨v,hv,rfl⟩:=Qn.mp hy;have e:PyData.eqvAll (v.map Ko) _=zq:=e;rw[Mz]at e;rw[←Qa e];exact hv
 .intro h
  refine⟨Kl us,Qn.mpr ⟨us,h,rfl⟩,?_⟩;show PyData.eqvAll _ _=zq;rw[Mz];simp
theorem kH(us)(L:List LO):∃b,Xk (Kl us) (.list (L.map Kl))=O b/\(b=zr->us∈L):=by refine⟨!decide _,?_,λh=>by simpa using h⟩;unfold Xk;rw[qX];rfl
def Wm(n:Nat)(ws:LO)(r:List Stp)(us:LO):Prop:=∃b,us=(rot b r).foldl (app n) ws
theorem kG(hp:Zf cs.length m qs){f}(hd:Zm cs qs m ws){U}(hT:T=Yt (ZY cs f qs ws) U){x:Nat}{r}(hr:Path T x r x)(hn:(r.map Stp.a).Nodup){us}(h:Wm cs.length ws r us):Zm cs qs m us/\Kj f 0 us=Kj f 0 ws:=by
 obtain⟨b,rfl⟩:=h;have hin   :=λs hs=>by have:=hr.mem s hs;rw[hT]at this;exact Xy hp hd s (Q8.mp this).1
 have pr:=Rt b r;obtain⟨h1,h2⟩:=GQ hp hd (λs hs=>hin s (pr.mem_iff.mp hs)) ((pr.map Stp.a).nodup_iff.mpr hn) (((pr.map Stp.b).trans (MT hr)).trans (pr.map Stp.a).symm);refine⟨h1,?_⟩
 have hg:∀{q p:Nat}{w:List Stp},Path T q w p->U q+KD w=U p:=λh=>by
  induction h with
  |nil p=>rw[Mh];lia
  |@cons s w p hs h ih=>
   rw[hT]at hs;have e1:=Qa (Q8.mp hs).2;rw[Tw]
   lia
 have:=hg hr;rw[h2,FX pr]
 lia
theorem Dd   (hs:s∈T)(h:Path T s.b w s.a)(hn:(s.b::w.map Stp.b).Nodup):Path T s.a (s::w) s.a/\((s::w).map Stp.a).Nodup:=by
 refine⟨.cons hs h,?_⟩;have e:=Hv h;have p:((s::w).map Stp.a).Perm (s.b::w.map Stp.b):=by rw[←e];exact(List.perm_append_comm (l₁:=[s.a]))
 exact p.nodup_iff.mpr hn
theorem qW(g:Good cs ls)(hp:Zf cs.length ls.length qs){f:Int×Int->Int}(hd:Zm cs qs ls.length ws){U:Nat->Int}(hT:T=Yt (ZY cs f qs ws) U)(hl:T.length<=1000):∃L:List LO,WC [Kl ws,.list (T.map U9),.list (Xw T (cs.length+1))]=O (.list (L.map Kl)) /\
  ws∈L/\L.length<=1+T.length/\(∀us∈L,Zm cs qs ls.length us/\Kj f 0 us=Kj f 0 ws)/\∀s∈T,VT T s.b s.a->¬(s.w=zp/\s.b=cs.length)->∃us∈L,∃w,Path T s.b w s.a/\(s.b::w.map Stp.b).Nodup/\Wm cs.length ws (s::w) us:=by
 have c6:=g.c6;have l7:=g.l7;have hTs:∀s∈T,IsSt cs f qs ws s:=λs hs=>by rw[hT]at hs;exact Xy hp hd s (Q8.mp hs).1
 have aO:∀s∈T,s.a<cs.length+1/\s.b<cs.length+1:=λs hs=>(hTs s hs).lt hp hd
 have main:∃d,WC [Kl ws,.list (T.map U9),.list (Xw T (cs.length+1))]=O d/\∃L:List LO,d=.list (L.map Kl)/\ws∈L/\L.length<=1+T.length/\(∀us∈L,Zm cs qs ls.length us/\Kj f 0 us=Kj f 0 ws)/\∀s∈T,VT T s.b s.a->¬(s.w=zp/\s.b=cs.length)->∃us∈L,∃w,Path T s.b w s.a/\(s.b::w.map Stp.b).Nodup/\Wm cs.length ws (s::w) us:=by
  refine V5  rfl ?_;unfold TX
  let S0:Option Sl:=O (.pub (Kl ws))
  let S1:Option Sl:=O (.pub (.list (T.map U9)))
  let S2:Option Sl:=O (.pub (.list (Xw T (cs.length+1))))
  let S3:Option Sl:=O (.pub (.int (cs.length:Nat)))
  have hlen:Kp [.list (Xw T (cs.length+1))]=O (.int ((cs.length+1:Nat):Int)):=by rw[Zw,Qb,Qo]
  have hsub:Zi (.int ((cs.length+1:Nat):Int)) (.int 1)=O (.int (cs.length:Nat)):=by rw[Xh];congr 2;lia
  refine Kn (ρ1:=[S0,S1,S2,S3,zp,zp,zp,zp,zp,zp,zp,zp]) (KM (Ki (ZI zo hlen) Kd hsub) (Qa zo) zo) ?_;have hls:Tl [Kl ws]=O (ws.map Ko):=rfl;refine Kn (ρ1:=[S0,S1,S2,S3,O (.own ([ws].map Kl)),zp,zp,zp,zp,zp,zp,zp]) (YQ (Rs (UY (KN (Po zo hls)) U5) (Qa zo)) (Qa zo) zo) ?_;apply Ze;apply Z9 (λj ρ=>∃(L:List LO)(x5 x6 x7 x8 x9 zP ap:Option Sl),ρ=[S0,S1,S2,S3,O (.own (L.map Kl)),x5,x6,x7,x8,x9,zP,ap]/\ws∈L/\L.length<=1+j/\(∀us∈L,Zm cs qs ls.length us/\Kj f 0 us=Kj f 0 ws)/\∀s∈T.take j,VT T s.b s.a->¬(s.w=zp/\s.b=cs.length)->∃us∈L,∃w,Path T s.b w s.a/\(s.b::w.map Stp.b).Nodup/\Wm cs.length ws (s::w) us)
  case h1=>exact Zv (UW zo) Z0
  case h0=>exact⟨[ws],_,_,_,_,_,_,_,rfl,QB.mpr zo,Qx _,λus hu=>by cases QB.mp hu;exact⟨hd,rfl⟩,λs hs=>by rw[List.take_zero]at hs;cases hs⟩
  case hst=>
   rintro j d ρ hj ⟨L,x5,x6,x7,x8,x9,zP,ap,rfl,hw,hL,hb,hsh⟩;have az:j<T.length:=by have:=(Qg.mp hj).1;rwa[Qb]at this
   rw[Qd]at hj;cases hs:T[j]? with
   |none=>rw[hs]at hj;cases hj
   |some s=>
   rw[hs]at hj;cases hj;have hsT:=Qy hs;have hab:=aO s hsT;refine⟨_,U3 (Qa zo) zo,?_⟩;unfold HM
   let S5:Option Sl:=O (.pub (U9 s))
   let S6:Option Sl:=O (.pub (.int (s.a:Nat)))
   let S7:Option Sl:=O (.pub (.int (s.b:Nat)))
   let S8:Option Sl:=O (.pub (.int s.g))
   let S9:Option Sl:=O (.pub (YI s.w))
   refine Kn (ρ1:=[S0,S1,S2,S3,O (.own (L.map Kl)),S5,S6,S7,S8,S9,zP,ap]) (Y9 (UW zo) (Kw zo (U7 (U3 (Qa zo) zo) (U7 (U3 (Qa zo) zo) (U7 (U3 (Qa zo) zo) (U7 (U3 (Qa zo) zo) Kx)))))) ?_;have hnon:isNon (YI s.w)=s.w.isNone:=by cases s.w<;>rfl
   let c10:Bool:=s.w.isNone&&decide ((s.b:Int)=(cs.length:Nat))
   refine Kn (ρ1:=[S0,S1,S2,S3,O (.own (L.map Kl)),S5,S6,S7,S8,S9,pb (.bool c10),ap]) (KM (Oj (t:=s.w.isNone) (u:=decide ((s.b:Int)=(cs.length:Nat))) (by rw[←hnon];exact KN (UW zo)) λ_=>KN (Yx zo (UW zo) Wj)) (Qa zo) zo) ?_;have hrd:oIx (.list (Xw T (cs.length+1))) (.int (s.b:Nat))=O (Xv (ZZ T s.b (cs.length+1))):=ZP (by rw[Qd,QJ hab.2];rfl)
   have hnext:∀(L':List LO),(∀us∈L,us∈L')->(VT T s.b s.a->¬(s.w=zp/\s.b=cs.length)->∃us∈L',∃w,Path T s.b w s.a/\(s.b::w.map Stp.b).Nodup/\Wm cs.length ws (s::w) us)->∀x∈T.take (j+1),VT T x.b x.a->¬(x.w=zp/\x.b=cs.length)->∃us∈L',∃w,Path T x.b w x.a/\(x.b::w.map Stp.b).Nodup/\Wm cs.length ws (x::w) us:=λL' hsub hn x hx=>by
    rw[List.take_add_one,hs]at hx;rcases QH.mp hx with hx|hx
    .intro h1 h2
     obtain⟨us,h3,h4⟩:=hsh x hx h1 h2;exact⟨us,hsub us h3,h4⟩
    .have:x=s:=by simpa using hx
     subst this;exact hn
   have hkey:=Tu (q:=s.b) (p:=s.a) aO (JS _);by_cases c:Ky (ZZ T s.b (cs.length+1)) s.a=zq/\c10=zr
   .obtain⟨c1,c2⟩:=c
    have kR:=(O1 T s.b (cs.length+1)).1;have hm:=OO c1;have bv:=kR.pth _ hm;have hnw:=kR.nd _ hm;have bL:=Fn aO hab.2 kR _ hm;generalize hw0:Wd (ZZ T s.b (cs.length+1)) s.a=w at hm bv hnw bL;have bv:Path T s.b w s.a:=bv;have hnw:(s.b::w.map Stp.b).Nodup:=hnw;have bL:w.length<cs.length+1:=bL;obtain⟨r1,r2⟩:=Dd hsT bv hnw;have hadd:Ke (.list [U9 s]) (.list (w.map U9))=O (.list ((s::w).map U9)):=by rw[YW (by rw[Qb,QX];lia)];rfl
    have hget:=GM c1;rw[hw0]at hget;obtain⟨b,aM,bS,aS⟩:=De (n:=cs.length) (r:=s::w) (by rw[Qz];lia)
    have hall:∀p∈(rot b (s::w)).filterMap (XH cs.length),p.1<ws.length:=λp hpm=>by
     obtain⟨x,hx,e⟩:=Jp.mp hpm;have hxr:x∈s::w:=(Rt b (s::w)).mem_iff.mp hx;cases hTs x (r1.mem x hxr)with
     |@mv i o o' hw' _ _=>cases e;exact(Qg.mp hw').1
     |left _ _=>cases e
     |give _=>cases e
    have a8:=FY hall;rw[OR]at a8;generalize hus:(rot b (s::w)).foldl (app cs.length) ws=us at a8;have al:Wm cs.length ws (s::w) us:=⟨b,hus.symm⟩;have bR:=kG hp hd hT r1 r2 al;refine K9 (b:=zq) (Rq (by rw[←c1];exact Yx zo (K1 zo (UW zo) hrd) WZ) ((XG (t:=c10) (Wt (UW zo))).trans (Ug (λb=>Res.ok b _) (by rw[c2];rfl)))) (λ_=>?_) λz=>by cases z
    refine Kn (ρ1:=[S0,S1,S2,S3,O (.own (L.map Kl)),S5,S6,S7,S8,S9,pb (.bool c10),pb (Kl us)]) (KM (Km (UY (UW zo) (UY (Km (UY (UW zo) (UY (Ki (Yb (UY (UW zo) U5) (Qa zo)) (Ki (K1 zo (UW zo) hrd) (UW zo) hget) hadd) U5)) zo aS) U5)) zo a8) (Qa zo) zo) ?_;obtain⟨bb,hnin,hnb⟩:=kH us L;refine K9 (b:=bb) (ki (UW zo) zo hnin) (λ_=>?_) λhb0=>?_
    .have e:(L++[us]).map Kl=L.map Kl++[Kl us]:=by rw[Qu];rfl
     refine YO (V6 zo (UW zo) zo (by rw[Qb];lia) zo) (ZD ⟨L++[us],S5,S6,S7,S8,S9,_,_,by rw[e];rfl,QU _ hw,by rw[Qi,QX];lia,λv hv=>?_,?_⟩)
     .rcases QH.mp hv with hv|hv
      .exact hb v hv
      .cases QB.mp hv;exact bR
     .exact hnext _ (λv hv=>QU _ hv) λ_ _=>⟨us,QD _ (QB.mpr zo),w,bv,hnw,al⟩
    .exact Zo (ZD ⟨L,S5,S6,S7,S8,S9,_,_,rfl,hw,by lia,hb,hnext _ (λv hv=>hv) λ_ _=>⟨us,hnb hb0,w,bv,hnw,al⟩⟩)
   .have hf:(ZU (ZF ZT 6 (Kb 2 (UU 7))) (Za (Ys (UU 10)))) [S0,S1,S2,S3,O (.own (L.map Kl)),S5,S6,S7,S8,S9,pb (.bool c10),ap]=.ok zr [S0,S1,S2,S3,O (.own (L.map Kl)),S5,S6,S7,S8,S9,pb (.bool c10),ap]:=by
     cases c1:Ky (ZZ T s.b (cs.length+1)) s.a with
     |false=>exact Oi (by rw[←c1];exact Yx zo (K1 zo (UW zo) hrd) WZ)
     |true=>
      have c2:c10=zq:=by
       cases c2:c10 with
       |true=>rfl
       |false=>exact absurd ⟨c1,c2⟩ c
      exact Rq (by rw[←c1];exact Yx zo (K1 zo (UW zo) hrd) WZ) ((XG (t:=c10) (Wt (UW zo))).trans (Ug (λb=>Res.ok b _) (by rw[c2];rfl)))
    refine K9 (b:=zr) hf (λz=>by cases z) λ_=>Zo (ZD ⟨L,S5,S6,S7,S8,S9,_,_,rfl,hw,by lia,hb,hnext _ (λv hv=>hv) λh1 h2=>?_⟩)
    refine absurd ⟨hkey.mpr h1,?_⟩ c;cases c2:c10 with
    |false=>rfl
    |true=>obtain⟨d1,d2⟩:=J5.mp c2;exact absurd ⟨by simpa using d1,by have:=of_decide_eq_true d2;lia⟩ h2
  case hend=>rintro ρ ⟨L,x5,x6,x7,x8,x9,zP,ap,rfl,hw,hL,hb,hsh⟩;rw[Qb]at hL hsh;rw[JM]at hsh;exact Zj (KJ (Xi rfl rfl) ⟨_,rfl,L,rfl,hw,hL,hb,hsh⟩)
 obtain⟨d,h1,L,rfl,h2,h3,h4,h5⟩:=main;exact⟨L,h1,h2,h3,h4,h5⟩
structure WebQ(cs:zu)(f:Int×Int->Int)(qs:LP)(m:Nat)(ws:LO)(T:List Stp)(as ps:zu)(L:List LO):Prop where
 dl:Zm cs qs m ws
 st:V3 cs f qs ws
 tt:T=Yt (ZY cs f qs ws) (prW cs f qs ws)
 ea:as=Vn m (λq=>((cs.length+1:Nat):Int)*f q) (KL T (prW cs f qs ws) cs.length) qs
 ep:ps=(UF cs.length).map (KL T (prW cs f qs ws) cs.length)
 ok:OkP cs.length m (λa b=>f (a,b)) qs ((cs.length+1:Nat):Int) as ps
 cl:Wp cs as ps=((cs.length+1:Nat):Int)*Kj f 0 ws
 len:L.length<=62
 fst:ws∈L
 best:∀us∈L,Zm cs qs m us/\Kj f 0 us=Kj f 0 ws
 shw:∀s∈T,VT T s.b s.a->¬(s.w=zp/\s.b=cs.length)->∃us∈L,∃w,Path T s.b w s.a/\(s.b::w.map Stp.b).Nodup/\Wm cs.length ws (s::w) us
theorem MN{o:Ord}{old:zG}{ts:zu}(g:Good cs ls)(ga:Yh cs.length ls.length old ts):∃ws T as ps L,XY [Kr cs ls,K6 o old ts]=O (.tuple [Xj ((cs.length+1:Nat):Int) as ps,.list (L.map Kl)])/\WebQ cs (U8 (KH ls o old ts)) (Kf 0 ls) ls.length ws T as ps L:=by
 have c6:=g.c6;have l7:=g.l7;have hp:=Th g;have hq:=Hs g;obtain⟨M,aC,hM,hF⟩:∃M:Int,0<=M/\(∀q∈Kf 0 ls,U8 (KH ls o old ts) q<=M)/\ls.length*M<10 ^ 60:=⟨18446744073709551616,by decide,λq hq=>by have:=GV (o:=o) g ga hq;show KH ls o old ts q.1 q.2<=_;lia,by lia⟩
 obtain⟨d,hbb,ws,rfl,hd,st⟩:=EE (V:=KH ls o old ts) g hp (by lia) aC hM hF;have hS:∀s∈ZY cs (U8 (KH ls o old ts)) (Kf 0 ls) ws,s.a<cs.length+1/\s.b<cs.length+1:=λs hs=>(Xy hp hd s hs).lt hp hd;have vn:=(Pj (V:=prW cs (U8 (KH ls o old ts)) (Kf 0 ls) ws) hp hd (Xy hp hd) (Tx hp hd) (λp=>rfl) st).2;have has:Yz [Kr cs ls,.list ((Kf 0 ls).map (ZB (KH ls o old ts))),Kl ws]=O (.list ((ZY cs (U8 (KH ls o old ts)) (Kf 0 ls) ws).map U9)):=Li g hd.len (by rw[hd.len];exact hp) (by rw[hd.len];exact hd) (by lia)
 have hdl:=hd.len;have hal:=kO (f:=U8 (KH ls o old ts)) (ws:=ws) (cs:=cs) (qs:=Kf 0 ls);have hti:=qY hS vn (by lia) (by lia);generalize hT:Yt (ZY cs (U8 (KH ls o old ts)) (Kf 0 ls) ws) (prW cs (U8 (KH ls o old ts)) (Kf 0 ls) ws)=T at hti;have aO:T.length<=61:=by rw[←hT];exact QM (Js _ _) (by lia)
 have hTs:∀s∈T,s.a<cs.length+1/\s.b<cs.length+1:=λs hs=>by rw[←hT]at hs;exact hS s (Q8.mp hs).1
 obtain⟨L,hsh,h1,h2,h3,h4⟩:=qW g hp hd hT.symm (by lia);obtain⟨ok,cl⟩:=kI hp hd st hT.symm;have aU:=yn (n:=cs.length+1) hTs (by lia);refine⟨ws,T,_,_,L,?_,hd,st,hT.symm,rfl,rfl,ok,cl,by lia,h1,h3,h4⟩;refine K5  rfl ?_;unfold TV;refine Kn (KM (Km (UY (UW zo) (UY (UW zo) U5)) zo (Lg g ga)) (Qa zo) zo) ?_;refine Kn (KM (Km (UY (UW zo) (UY (UW zo) U5)) zo hbb) (Qa zo) zo) ?_;refine Kn (KM (Km (UY (UW zo) (UY (UW zo) (UY (UW zo) U5))) zo (FV g hp hd (by lia))) (Qa zo) zo) ?_;refine Kn (KM (Km (UY (Km (UY (UW zo) (UY (UW zo) (UY (UW zo) U5))) zo has) (UY (UW zo) U5)) zo hti) (Qa zo) zo) ?_;have hlp:Kp [.list (((UF cs.length).map (prW cs (U8 (KH ls o old ts)) (Kf 0 ls) ws)).map int)]=O (.int (cs.length:Nat)):=by rw[Zw,Qb,Qb,Qo]
 have hld:Kp [Kl ws]=O (.int (ls.length:Nat)):=by unfold Kl;rw[Zw,Qb,hd.len]
 refine Kn (KM (Km (UY (Ki (ZI zo hlp) Kd ZA) (UY (UW zo) U5)) zo aU) (Qa zo) zo) ?_;exact KJ (Yu (UY (Km (UY (ZI zo hld) (UY (UW zo) (UY (UW zo) (UY (UW zo) U5)))) zo (zh hp (by lia) (by lia) (by lia))) (UY (Km (UY (UW zo) (UY (UW zo) (UY (UW zo) U5))) zo hsh) U5)) (Qa zo)) zo
end
noncomputable def Wc(f:Int×Int->Int)(qs:LP)(tm:Int)(as ps:zu):LP:=qs.filter λq=>decide (as.getD q.1.toNat 0+ps.getD q.2.toNat 0=tm*f q)
theorem Lc{α:Type}{p q}:∀{l:List α},(∀x∈l,p x=zq->q x=zq)->l.countP q=l.countP p->∀x∈l,q x=zq->p x=zq
 |[],_,_,x,hx,_=>by simp_all
 |a::l,h,e,x,hx,hq=>by
  have h':=λy hy=>h y (Qj _ hy);have le:=List.countP_mono_left h';rw[List.countP_cons,List.countP_cons]at e;have ha:=h a Ql
  cases cp:p a with
  |true=>
   rw[cp,ha cp]at e;rcases QL.mp hx with rfl|hx
   .exact cp
   .exact Lc h' (by lia) x hx hq
  |false=>
   rw[cp]at e;cases cq:q a with
   |true=>rw[cq]at e;simp at e;lia
   |false=>
    rw[cq]at e;rcases QL.mp hx with rfl|hx
    .lia
    .exact Lc h' (by simpa using e) x hx hq
theorem kF{S:List Stp}{V:Nat->Int}{n:Nat}(hS:∀s∈S,s.a<n+1/\s.b<n+1)(st:∀s∈S,V s.a+s.g<=V s.b){s:Stp}(hs:s∈S)(e:KL (Yt S V) V n s.a+((n+1:Nat):Int)*s.g=KL (Yt S V) V n s.b):s∈Yt S V/\VT (Yt S V) s.b s.a:=by
 have hT:∀s∈Yt S V,s.a<n+1/\s.b<n+1:=λs h=>hS s (Q8.mp h).1;have h1:=st s hs;have hab:=hS s hs;have self:Ky _ s.b=zq:=(Tu hT (JS _)).mpr ⟨[],.nil _⟩;have lb:0<ZL (Yt S V) (n+1) s.b:=List.countP_pos_iff.mpr ⟨s.b,Q3.mpr hab.2,self⟩;unfold KL at e
 by_cases c:V s.a+s.g=V s.b
 .have hm:s∈Yt S V:=Q8.mpr ⟨hs,Jg c⟩
  rw[←c,Int.mul_add]at e;have le:ZL (Yt S V) (n+1) s.b=ZL (Yt S V) (n+1) s.a:=by lia
  refine⟨hm,?_⟩;have:=Lc   (l:=UF (n+1)) (λq _ h=>by obtain⟨w,hw⟩:=(Tu hT (JS _)).mp h;exact(Tu hT (JS _)).mpr ⟨_,hw.append (.cons hm (.nil _))⟩) le s.b (Q3.mpr hab.2) self;exact(Tu hT (JS _)).mp this
 .have l1:=Hc (Yt S V) (n+1) s.a
  have h2:((n+1:Nat):Int)*(V s.a+s.g+1)<=((n+1:Nat):Int)*V s.b:=Int.mul_le_mul_of_nonneg_left (by lia) (by lia)
  lia
section
variable{cs:zu}{f:Int×Int->Int}{qs:LP}{m:Nat}{ws us:LO}{T:List Stp}{as ps:zu}{L:List LO}
theorem FR{α β:Type}{f:α->β}:∀{l:List α},(l.map f).Nodup->∀{x y},x∈l->y∈l->f x=f y->x=y
 |a::l,h,x,y,hx,hy,e=>by
  rw[Qv,Uq]at h;rcases QL.mp hx with h1|h1<;>rcases QL.mp hy with h2|h2
  .simp_all
  .exact absurd (Qn.mpr ⟨y,h2,by rw[←e,h1]⟩) h.1
  .exact absurd (Qn.mpr ⟨x,h1,by rw[e,h2]⟩) h.1
  .exact FR h.2 h1 h2 e
theorem FQ  {i}:∀(R:List Stp)(d),(∀s∈R,s.w≠O i)->(R.foldl (app n) d)[i]?=d[i]?
 |[],d,_=>rfl
 |s::R,d,h=>by
  rw[Ju,FQ R _ λx hx=>h x (Qj _ hx)];unfold app;cases hw:s.w with
  |none=>rfl
  |some j=>rw[Qp λz=>h s Ql (by rw[hw,z])]
theorem Hn  : ∀(R:List Stp)(d),(R.foldl (app n) d).length=d.length
 |[],d=>rfl
 |s::R,d=>by
  rw[Ju,Hn R];unfold app;cases s.w with
  |none=>rfl
  |some j=>exact Jb
theorem Hb  {i}:∀(R:List Stp)(d)(s),s∈R->s.w=O i->(∀x∈R,x.w=O i->x=s)->i<d.length->(R.foldl (app n) d)[i]?=O (ZJ n s.b)
 |x::R,d,s,hs,hw,hu,hi=>by
  rw[Ju];by_cases c:s∈R
  .exact Hb R _ s c hw (λy hy=>hu y (Qj _ hy)) (by have:=Hn (n:=n) [x] d;rw[Ju,List.foldl_nil]at this;lia)
  .have hx:x=s:=by
    rcases QL.mp hs with h|h
    .exact h.symm
    .exact absurd h c
   subst hx;rw[FQ R _ λy hy z=>c (by rw[←hu y (Qj _ hy) z];exact hy)];unfold app;rw[hw];exact QI hi
theorem Hm(hp:Zf cs.length m qs)(hd:Zm cs qs m ws){r}(hr:∀s∈r,IsSt cs f qs ws s)(hn:(r.map Stp.a).Nodup)(h:Wm cs.length ws r us){s}(hs:s∈r){i}(hw:s.w=O i):us[i]?=O (ZJ cs.length s.b):=by
 obtain⟨b,rfl⟩:=h;have pr:=Rt b r
 have ai:∀x∈r,∀j,x.w=O j->j<ws.length/\x.a=plF cs.length (ws.getD j zp):=λx hx j e=>by
  cases hr x hx with
  |@mv i o o' h1 _ _=>cases e;exact⟨(Qg.mp h1).1,by rw[MC h1]⟩
  |left _ _=>cases e
  |give _=>cases e
 refine Hb _ ws s (pr.mem_iff.mpr hs) hw (λx hx hxw=>?_) (ai s hs i hw).1;have hx:=pr.mem_iff.mp hx;have e   :=(ai x hx i hxw).2.trans (ai s hs i hw).2.symm;exact FR hn hx hs e
theorem Ha   (hw:s.w=zp)(hb:s.b=t):∀R:List Stp,s∈R->nIn t R<(R.map Stp.b).count t
 |x::R,hs=>by
  have le:=Nm t R;rw[Qv,JJ];by_cases c:s∈R
  .have ih:=Ha hw hb R c
   unfold nIn at ih⊢;rw[List.filter_cons];split
   .simp_all
   .lia
  .have hx:x=s:=by
    rcases QL.mp hs with h|h
    .exact h.symm
    .exact absurd h c
   subst hx;unfold nIn at le⊢;rw[List.filter_cons_of_neg (by rw[hw];simp),if_pos (by rw[hb];simp)]
   lia
theorem kE(hp:Zf cs.length m qs)(hd:Zm cs qs m ws){r:List Stp}(hr:∀s∈r,IsSt cs f qs ws s)(hn:(r.map Stp.a).Nodup)(hb:(r.map Stp.b).Perm (r.map Stp.a))(h:Wm cs.length ws r us){s:Stp}(hs:s∈r)(hw:s.w=zp){k:Nat}(hk:k<cs.length)(hsb:s.b=k):((us.count (O (k:Int)):Nat):Int)<cs.getD k 0:=by
 obtain⟨b,rfl⟩:=h;have pr:=Rt b r;have hR   :=λs hs=>hr s (pr.mem_iff.mp hs);have hnR   :=(pr.map Stp.a).nodup_iff.mpr hn;have hbR   :=((pr.map Stp.b).trans hb).trans (pr.map Stp.a).symm
 obtain⟨k1,k2,k3,k4⟩:=Pk hp hd (rot b r) ws hR hnR (λs hs i e=>rfl) zo hd.wish;rw[k4 k hk];have hc:cs[k]?=O (cs.getD k 0):=by rw[Qh,Qe hk];rfl
 have h0:=hd.cop k _ hc;have h1   :=List.nodup_iff_count.mp hnR k;have h2:=Ha hw hsb (rot b r) (pr.mem_iff.mpr hs);rw[hbR.count_eq]at h2;have hmem:k∈(rot b r).map Stp.a:=List.count_pos_iff.mp (by lia);obtain⟨x,hx,hxt⟩:=Qn.mp hmem;cases hR x hx with
 |@mv i o o' h hne z8=>
  have:1<=Xl k (rot b r):=by unfold Xl;exact List.length_pos_iff.mpr (List.ne_nil_of_mem (List.mem_filter.mpr ⟨hx,by simpa using hxt⟩))
  lia
 |@left u c' h hl=>
  have hxt:u=k:=hxt;subst hxt;rw[h]at hc;cases hc
  lia
 |@give u h=>
  lia
theorem P1(wq:WebQ cs f qs m ws T as ps L){k}(hk:k<cs.length):ps.getD k 0=KL T (prW cs f qs ws) cs.length k:=by rw[wq.ep,Qh,Qd,QJ hk];rfl
theorem Lb(hp:Zf cs.length m qs)(wq:WebQ cs f qs m ws T as ps L):KL T (prW cs f qs ws) cs.length cs.length=0:=by have vn:=(Pj (V:=prW cs f qs ws) hp wq.dl (Xy hp wq.dl) (Tx hp wq.dl) (λp=>rfl) wq.st).2;unfold KL;simp_all
theorem FP(hp:Zf cs.length m qs)(wq:WebQ cs f qs m ws T as ps L):Nl cs f ((cs.length+1:Nat):Int) as ps ws:=(FT hp wq.dl wq.ok).2.mp wq.cl.symm
theorem My(hp:Zf cs.length m qs)(wq:WebQ cs f qs m ws T as ps L){s:Stp}(hs:IsSt cs f qs ws s)(e:KL T (prW cs f qs ws) cs.length s.a+((cs.length+1:Nat):Int)*s.g=KL T (prW cs f qs ws) cs.length s.b)(hl:¬(s.w=zp/\s.b=cs.length)):∃us∈L,∃r,s∈r/\(∀x∈r,IsSt cs f qs ws x)/\(r.map Stp.a).Nodup/\(r.map Stp.b).Perm (r.map Stp.a)/\Wm cs.length ws r us:=by
 obtain⟨st,vn⟩:=Pj  hp wq.dl (Xy hp wq.dl) (Tx hp wq.dl) (λp=>rfl) wq.st;have hS:∀s∈ZY cs f qs ws,s.a<cs.length+1/\s.b<cs.length+1:=λs hs=>(Xy hp wq.dl s hs).lt hp wq.dl;rw[wq.tt]at e
 obtain⟨h1,h2⟩:=kF hS st (Tx hp wq.dl s hs) e;rw[←wq.tt]at h1 h2;obtain⟨us,hu,w,p1,p2,p3⟩:=wq.shw s h1 h2 hl;obtain⟨r1,r2⟩:=Dd h1 p1 p2;refine⟨us,hu,s::w,Ql,λx hx=>?_,r2,MT r1,p3⟩;have:=r1.mem x hx;rw[wq.tt]at this;exact Xy hp wq.dl x (Q8.mp this).1
theorem kC{n:Nat}{t:Int}(h0:0<=t)(h1:t<n):ZJ n t.toNat=O t:=by
 unfold ZJ
 grind
theorem xp(hp:Zf cs.length m qs)(wq:WebQ cs f qs m ws T as ps L){i:Nat}{t:Int}(hq:((i:Int),t)∈qs)(e:((cs.length+1:Nat):Int)*f ((i:Int),t)=as.getD i 0+ps.getD t.toNat 0):∃us∈L,us[i]?=O (O t):=by
 have hb:=hp.lo _ hq;have zO:i<ws.length:=by rw[wq.dl.len];have:=hb.2.1;omega
 have hw   :=Qe zO;generalize ws[i]=o at hw;have tw:=FP hp wq;by_cases c:o=O t
 .exact⟨ws,wq.fst,by rw[hw,c]⟩
 .have hs:IsSt cs f qs ws ⟨plF cs.length o,plF cs.length (O t),Ks f i (O t)-Ks f i o,O i⟩:=.mv hw (λz=>c z.symm) λu e=>by cases e;exact hq
  have hpt:=P1 wq (k:=t.toNat) (by have:=hb.2.2;omega)
  have he:KL T (prW cs f qs ws) cs.length (plF cs.length o)+((cs.length+1:Nat):Int)*(f ((i:Int),t)-Ks f i o)=KL T (prW cs f qs ws) cs.length t.toNat:=by
   rw[←hpt,Int.mul_sub];cases o with
   |none=>have h1:=tw.non i hw;have h2:=Lb hp wq;show KL T (prW cs f qs ws) cs.length cs.length+(_-((cs.length+1:Nat):Int)*0)=_;rw[h2,Uk];omega
   |some u=>have h1:=tw.got i u hw;have hu:=hp.lo _ (wq.dl.wish i u hw);have h2:=P1 wq (k:=u.toNat) (by have:=hu.2.2;omega);show KL T (prW cs f qs ws) cs.length u.toNat+(_-((cs.length+1:Nat):Int)*f ((i:Int),u))=_;omega
  obtain⟨us,hu,r,r1,r2,r3,_,r4⟩:=My hp wq hs he (λz=>by cases z.1);refine⟨us,hu,?_⟩;rw[Hm hp wq.dl r2 r3 r4 r1 zo];show O (ZJ cs.length t.toNat)=_;rw[kC hb.2.2.1 hb.2.2.2]
theorem v5(hp:Zf cs.length m qs)(wq:WebQ cs f qs m ws T as ps L){i:Nat}(hi:i<m)(e:as.getD i 0=0):∃us∈L,us[i]?=O zp:=by
 have zO:i<ws.length:=by rw[wq.dl.len];exact hi
 have hw   :=Qe zO;generalize ws[i]=o at hw;have tw:=FP hp wq;cases o with
 |none=>exact⟨ws,wq.fst,hw⟩
 |some u=>
  have hs:IsSt cs f qs ws ⟨plF cs.length (O u),plF cs.length zp,Ks f i zp-Ks f i (O u),O i⟩:=.mv hw (λz=>by cases z) λu e=>by cases e
  have h1:=tw.got i u hw;have hu:=hp.lo _ (wq.dl.wish i u hw);have h2:=P1 wq (k:=u.toNat) (by lia);have h3:=Lb hp wq;have he:KL T (prW cs f qs ws) cs.length u.toNat+((cs.length+1:Nat):Int)*(0-f ((i:Int),u))=KL T (prW cs f qs ws) cs.length cs.length:=by rw[h3,←h2,Int.mul_sub,Uk];omega
  obtain⟨us,hu,r,r1,r2,r3,_,r4⟩:=My hp wq hs he (λz=>by cases z.1);refine⟨us,hu,?_⟩;rw[Hm hp wq.dl r2 r3 r4 r1 zo];show O (ZJ cs.length cs.length)=_;unfold ZJ;rw[Qr zo]
theorem v4(hp:Zf cs.length m qs)(wq:WebQ cs f qs m ws T as ps L){k}(hk:k<cs.length)(e:ps.getD k 0=0):∃us∈L,((us.count (O (k:Int)):Nat):Int)<cs.getD k 0:=by
 have h2:=P1 wq hk;have h3:=Lb hp wq;have he:KL T (prW cs f qs ws) cs.length cs.length+((cs.length+1))*0=KL T (prW cs f qs ws) cs.length k:=by rw[h3,←h2,e];rfl
 obtain⟨us,hu,r,r1,r2,r3,r5,r4⟩:=My hp wq (.give hk) he (λz=>by lia);exact⟨us,hu,kE hp wq.dl r2 r3 r5 r4 r1 zo hk zo⟩
structure X8(cs:zu)(f:Int×Int->Int)(qs:LP)(m:Nat)(us:LO):Prop where
 dl:Zm cs qs m us
 mx:∀vs,Zm cs qs m vs->Kj f 0 vs<=Kj f 0 us
theorem OK(hp:Zf cs.length m qs)(wq:WebQ cs f qs m ws T as ps L):X8 cs f qs m ws:=⟨wq.dl,λvs hv=>ED hp wq.dl wq.st hv⟩
theorem MS(hp:Zf cs.length m qs)(wq:WebQ cs f qs m ws T as ps L)(h:X8 cs f qs m us):Nl cs f ((cs.length+1:Nat):Int) as ps us:=by refine(FT hp h.dl wq.ok).2.mp ?_;have h1:=h.mx ws wq.dl;have h2:=(OK hp wq).mx us h.dl;rw[wq.cl,JY h1 h2]
theorem MR(hp:Zf cs.length m qs)(wq:WebQ cs f qs m ws T as ps L)(h:us∈L):X8 cs f qs m us:=by obtain⟨h1,h2⟩:=wq.best us h;exact⟨h1,λvs hv=>by rw[h2];exact(OK hp wq).mx vs hv⟩
theorem AA(hp:Zf cs.length m qs)(wq:WebQ cs f qs m ws T as ps L){i:Nat}{t}(hq:((i:Int),t)∈qs):as.getD i 0+ps.getD t.toNat 0=((cs.length+1:Nat):Int)*f ((i:Int),t) ↔ ∃us,X8 cs f qs m us/\us[i]?=O (O t):=
 ⟨λe=>let ⟨us,h1,h2⟩:=xp hp wq hq e.symm;⟨us,MR hp wq h1,h2⟩,λ⟨us,h1,h2⟩=>((MS hp wq h1).got i t h2).symm⟩
theorem OJ(hp:Zf cs.length m qs)(wq:WebQ cs f qs m ws T as ps L){i}(hi:i<m):as.getD i 0=0 ↔ ∃us,X8 cs f qs m us/\us[i]?=O zp:=
 ⟨λe=>let ⟨us,h1,h2⟩:=v5 hp wq hi e;⟨us,MR hp wq h1,h2⟩,λ⟨us,h1,h2⟩=>(MS hp wq h1).non i h2⟩
theorem OI(hp:Zf cs.length m qs)(wq:WebQ cs f qs m ws T as ps L){k}(hk:k<cs.length):ps.getD k 0=0 ↔ ∃us,X8 cs f qs m us/\((us.count (O (k:Int)):Nat):Int)<cs.getD k 0:=
 ⟨λe=>let ⟨us,h1,h2⟩:=v4 hp wq hk e;⟨us,MR hp wq h1,h2⟩,λ⟨us,h1,h2⟩=>by
  rcases(MS hp wq h1).all k hk with z|z
  .exact z
  .lia⟩
end
noncomputable def ZE(xs:zu):zu:=((UF xs.length).filter λi=>decide (0<xs.getD i 0)).map λi:Nat=>(i:Int)
theorem xo{xs:zu}(hl:xs.length<=1000){ρ:UZ}(h:∃x,ρ=[x,zp,zp]):K4 (gT 2 (gNC (gN 1) (gNC (gN 2) gN0))) (ZF (oIB λi j=>decide (j<i)) 2 (U2 (.int 0))) (UU 1) (Z2 0 (xs.map int)) ρ []=O ((ZE xs).map int):=by
 have e:Z2 0 (xs.map int)=(UF xs.length).map λi=>PyData.tuple [.int (i:Nat),.int (xs.getD i 0)]:=by
  apply JC;intro i;rw[ON,Qd,Qd,QK];by_cases c:i<xs.length
  .rw[QJ c]
   show Option.map _ (Option.map _ xs[i]?)=O (PyData.tuple [.int (i:Nat),.int (xs.getD i 0)]);rw[Qh,Qe c];rfl
  .rw[QW (by lia),QW  (by rw[Qo];lia)]
   rfl
 rw[e];have h:∃x y z,ρ=[x,y,z]:=let ⟨x,e⟩:=h;⟨x,_,_,e⟩
 refine(Wq _ _ (λi:Nat=>int (i:Nat)) (λρ=>∃x y z,ρ=[x,y,z]) (UF xs.length) _ [] ?_ h (by rw[Qw,Qo];lia)).trans (by rw[QR];unfold ZE;rw[QQ];rfl);rintro i hi ρ ⟨x,y,z,rfl⟩;exact⟨[x,O _,O _],Kw zo (U7 (U3 (Qa zo) zo) (U7 (U3 (Qa zo) zo) Kx)),Yx zo Kd Hh,λ_=>UW zo,X9 x,_,_,rfl⟩
section
variable{cs:zu}{ls:List (List zu)}{o:Ord}{old:zG}{ts:zu}{ws:LO}{T:List Stp}{as ps:zu}{L:List LO}
noncomputable abbrev XI(n:Nat)(as ps:zu)(L:List LO):D:=.tuple [Xj ((n+1:Nat):Int) as ps,.list (L.map Kl)]
end
theorem Wy{α:Type}{s:D->UZ->zF}{f:M D}(e k:α->D)(I:UZ->Prop):∀(l:List α)(ρ:UZ)(es:zw),(∀x∈l,∀ρ,I ρ->∃ρ1,s (e x) ρ=O ρ1/\f ρ1=.ok (k x) ρ1/\I (KE ρ1))->I ρ->es.length+l.length<=1000000 ->
  K4 s (U2 zq) f (l.map e) ρ es=O (es++l.map k)
 |[],ρ,es,_,_,_=>by rw[List.map_nil,K4,List.map_nil,Jm]
 |x::l,ρ,es,st,h0,hz=>by rw[Qz]at hz;obtain⟨ρ1,e1,e2,e3⟩:=st x Ql ρ h0;rw[Qv,K4,e1];dsimp only[U2];rw[Qr zo,e2];dsimp only;rw[Qr (by omega),Qv];refine(Wy e k I l _ (es++[k x]) (λy hy=>st y (Qj _ hy)) e3 (by rw[Qi,QX];omega)).trans ?_;rw[Q2];rfl
section
variable{cs:zu}{ls:List (List zu)}{ts as:List Str}
theorem qV    (g:Tg n rs)(hr:r∈rs):r.length<=n:=QM (List.Sublist.length_le (List.sublist_flatten_of_mem hr)) (Mo g)
end
section
variable{cs:zu}{ls:List (List zu)}{o:Ord}{old:zG}{ts:zu}{tm:Int}{as ps:zu}{ws us:LO}{L:List LO}{T:List Stp}
theorem zd(g:Good cs ls)(ga:Yh cs.length ls.length old ts)(htm:0<=tm/\tm<=1000)(hla:as.length=ls.length)(hlp:ps.length=cs.length):Vs [Kr cs ls,K6 o old ts,Xj tm as ps]=O (.list ((Wc (U8 (KH ls o old ts)) (Kf 0 ls) tm as ps).map Kz)):=by
 have hp:=Th g;have h42:=NN g;refine K5  rfl ?_;unfold TW
 let S0:Option Sl:=O (.pub (Kr cs ls))
 let S1:Option Sl:=O (.pub (K6 o old ts))
 let S2:Option Sl:=O (.pub (Xj tm as ps))
 let S3:Option Sl:=O (.pub (.int tm))
 let S4:Option Sl:=O (.pub (.list (as.map int)))
 let S5:Option Sl:=O (.pub (.list (ps.map int)))
 let S6:Option Sl:=O (.pub (.list ((Kf 0 ls).map (ZB (KH ls o old ts)))))
 refine Kn  (Y9 (UW zo) (Kw zo (U7 (U3 (Qa zo) zo) (U7 (U3 (Qa zo) zo) (U7 (U3 (Qa zo) zo) Kx))))) ?_;refine Kn  (KM (Km (UY (UW zo) (UY (UW zo) U5)) zo (Lg g ga)) (Qa zo) zo) ?_;refine KJ (KN (Zz (Zv (UW zo) Z0) ((Wq (ZB (KH ls o old ts)) _ Kz (λρ=>∃x y z,ρ=[S0,S1,S2,S3,S4,S5,S6,x,y,z]) (Kf 0 ls) _ [] ?_ ⟨zp,zp,zp,rfl⟩ (by rw[Qw];lia)).trans (by rw[QR];rfl)))) zo;rintro q hqm ρ ⟨x,y,z,rfl⟩;obtain⟨a1,a2,a3,a4⟩:=hp.lo q hqm;exact⟨_,Kw zo (U7 (U3 (Qa zo) zo) (U7 (U3 (Qa zo) zo) (U7 (U3 (Qa zo) zo) Kx))),Ki (Ki (K1 zo (UW zo) (Gj a1 (by lia))) (K1 zo (UW zo) (Gj a3 (by lia))) ZA) (Ki (UW zo) (UW zo) (Td (by lia) (by lia))) Wj,λ_=>Yu (UY (UW zo) (UY (UW zo) U5)) (Qa zo),_,_,_,rfl⟩
theorem La(g:Good cs ls)(ga:Yh cs.length ls.length old ts)(hla:as.length=ls.length)(hlp:ps.length=cs.length):XX [Kr cs ls,K6 o old ts,XI cs.length as ps L]=O (.list ((Wc (U8 (KH ls o old ts)) (Kf 0 ls) ((cs.length+1:Nat):Int) as ps).map Kz)):=by have c6:=g.c6;refine K5  rfl ?_;refine Kn (Y7 (Km (UY (UW zo) (UY (UW zo) U5)) zo (PY g ga))) ?_;exact KJ (Km (UY (UW zo) (UY (UW zo) (UY (K1 zo Kd (ZP  rfl)) U5))) zo (zd g ga (by lia) hla hlp)) zo
theorem FO  (hl:xs.length<=1000):X6 [.list (xs.map int)]=O (.list ((ZE xs).map int)):=by refine K5  rfl ?_;exact KJ (KN (Zz (Wk (UY (UW zo) U5) Wg) (xo hl ⟨_,rfl⟩))) zo
theorem MQ(hl:as.length<=1000):XV [XI cs.length as ps L]=O (.list ((ZE as).map int)):=by refine K5  rfl ?_;refine Kn (Y9 (UW zo) (Kw zo (U7 (U3 (Qa zo) zo) (U7 (U3 (Qa zo) zo) Kx)))) ?_;refine Kn (Y9 (UW zo) (Kw zo (U7 (U3 (Qa zo) zo) (U7 (U3 (Qa zo) zo) (U7 (U3 (Qa zo) zo) Kx))))) ?_;exact KJ (Km (UY (UW zo) U5) zo (FO hl)) zo
theorem Mx(hl:ps.length<=1000):XU [XI cs.length as ps L]=O (.list ((ZE ps).map int)):=by refine K5  rfl ?_;refine Kn (Y9 (UW zo) (Kw zo (U7 (U3 (Qa zo) zo) (U7 (U3 (Qa zo) zo) Kx)))) ?_;refine Kn (Y9 (UW zo) (Kw zo (U7 (U3 (Qa zo) zo) (U7 (U3 (Qa zo) zo) (U7 (U3 (Qa zo) zo) Kx))))) ?_;exact KJ (Km (UY (UW zo) U5) zo (FO hl)) zo
end
section
variable{cs:zu}{ls:List (List zu)}{o:Ord}{old:zG}{ts:zu}{tm:Int}{as ps:zu}{ws us:LO}{L:List LO}{T:List Stp}{f:Int×Int->Int}{qs:LP}{m:Nat}
theorem qU(hp:Zf cs.length m qs){q}(h:q∈qs):((q.1.toNat:Int),q.2)=q:=by have:=(hp.lo _ h).1;rw[Int.toNat_of_nonneg this]
theorem MM(hp:Zf cs.length m qs)(wq:WebQ cs f qs m ws T as ps L){q}(h:q∈qs):q∈Wc f qs ((cs.length+1:Nat):Int) as ps ↔ ∃us,X8 cs f qs m us/\us[q.1.toNat]?=O (O q.2):=by have e:=qU hp h;have k:=AA hp wq   (by rw[e];exact h);rw[e]at k;rw[←k];unfold Wc;rw[Q8,QN];exact⟨λz=>z.2,λz=>⟨h,z⟩⟩
theorem Rm{xs:zu}(h:∀a∈xs,0<=a)(i):0<=xs.getD i 0:=by
 rw[Qh];cases hx:xs[i]? with
 |none=>exact Jd 0
 |some a=>exact h a (Qy hx)
end
theorem L9:∀(xs ys),xs.length=ys.length->HT.Xs xs ys=zr->HT.Xs ys xs=zr->xs=ys
 |[],[],_,_,_=>rfl
 |[],_::_,h,_,_=>by cases h
 |_::_,[],h,_,_=>by cases h
 |x::xs,y::ys,h,h1,h2=>by
  unfold HT.Xs at h1 h2
  have e:x=y:=by
   lia
  subst e;simp at h1 h2;rw[L9 xs ys (by simpa using h) h1 h2]
theorem NH:∀{xs ys r s},xs.length=ys.length->HT.Xs (xs++r) (ys++s)=zr->HT.Xs xs ys=zr/\(xs=ys->HT.Xs r s=zr)
 |[],[],r,s,_,h=>⟨rfl,λ_=>h⟩
 |[],_::_,_,_,h,_=>by cases h
 |_::_,[],_,_,h,_=>by cases h
 |x::xs,y::ys,r,s,hl,h=>by
  have h:HT.Xs (x::_) (y::_)=zr:=h;rw[HT.O3]at h;rw[HT.O3];by_cases e:x=y
  .rw[Qr e]at h
   rw[Qr e];obtain⟨h1,h2⟩:=NH   (by simpa using hl) h;exact⟨h1,λq=>h2 (List.cons.inj q).2⟩
  .rw[QA e]at h
   rw[QA e];exact⟨h,λq=>absurd (List.cons.inj q).1 e⟩
section
variable{cs:zu}{ls:List (List zu)}{ws us:LO}{o:Ord}{old:zG}{ts:zu}
theorem ga0  : Yh n m zp []:=⟨λws h=>(by cases h),λws t h=>(by cases h),List.nodup_nil,λa h=>(by cases h)⟩
noncomputable abbrev whW(ls:List (List zu))(o:Ord)(old:zG)(ts:zu)(ws:LO):Int:=KS (KG (Zr ls o old ts) 0 ls ws)
structure OptQ(cs:zu)(ls:List (List zu))(o:Ord)(old:zG)(ts:zu)(ws:LO):Prop where
 dl:Deal cs ls ws
 mx:∀us,Deal cs ls us->whW ls o old ts us<=whW ls o old ts ws
theorem Mw(g:Good cs ls)(ga:Yh cs.length ls.length old ts):∃ws d,Xp [Kr cs ls,K6 o old ts]=O (.tuple [Kl ws,d])/\OptQ cs ls o old ts ws:=by obtain⟨ws,hbd,hdq,hst⟩:=zj  g ga;have dl:=Tv hdq;refine⟨ws,_,hbd,dl,λus du=>?_⟩;have:=ED (Th g) hdq hst (MB du);rw[Tt ls us ls 0 (λj rs h=>by rw[QK,Qh,h];rfl) du.len,Tt ls ws ls 0 (λj rs h=>by rw[QK,Qh,h];rfl) dl.len]at this;simp_all
noncomputable def TL(ls:List (List zu))(o:Ord)(old:zG)(ts:zu)(ws:LO):zu:=Yl o (Kk (lng ls) (U6 ls ws))++[(K7 old ws:Int)]++ts.map (ZO ls ws)
theorem Fl(g:Good cs ls)(dw:Deal cs ls ws)(du:Deal cs ls us)(ga:Yh cs.length ls.length old ts)(h:whW ls o old ts us<=whW ls o old ts ws):HT.Xs (TL ls o old ts ws) (TL ls o old ts us)=zr:=by have hb:=MD (o:=o) g du dw ga;have h:KS _<=KS _:=h;rw[QT (by omega)]at hb;have hk:=ku (o:=o) g du dw ga;rw[hb]at hk;exact hk
theorem qT(g:Good cs ls)(ga:Yh cs.length ls.length old ts)(h1:OptQ cs ls o zp [] us)(h2:OptQ cs ls o old ts ws):Kk (lng ls) (U6 ls ws)=Kk (lng ls) (U6 ls us)/\K7 old us<=K7 old ws:=by
 have k1:=Fl g h1.dl h2.dl ga0 (h1.mx ws h2.dl);have k2:=Fl g h2.dl h1.dl ga (h2.mx us h1.dl);have hl:(Yl o (Kk (lng ls) (U6 ls us))).length=(Yl o (Kk (lng ls) (U6 ls ws))).length:=Fc (by rw[Wr,Wr]);unfold TL at k1 k2;rw[Q2,Q2]at k1 k2;have c1:=(NH hl k1).1;obtain⟨c2,c3⟩:=NH hl.symm k2;have e:=L9 _ _ hl.symm c2 c1;refine⟨kq e,?_⟩;have c4:=c3 e;have c4:HT.Xs ((K7 old ws:Int)::ts.map _) ((K7 old us:Int)::ts.map _)=zr:=c4;rw[HT.O3]at c4;by_cases z:(K7 old ws:Int)=K7 old us
 .omega
 .rw[QA z]at c4
  have:=Jq c4;omega
end
section
variable{cs:zu}{ls:List (List zu)}{ws us:LO}{o:Ord}{old:zG}{ts:zu}
theorem vZ(g:Good cs ls)(d1:Deal cs ls ws)(d2:Deal cs ls us)(e:Kk (lng ls) (U6 ls ws)=Kk (lng ls) (U6 ls us)):whW ls o zp [] ws=whW ls o zp [] us:=by
 have h1:=MD (o:=o) g d1 d2 ga0;have h2:=MD (o:=o) g d2 d1 ga0;rw[e]at h1 h2;have h   :=h1.symm.trans h2
 lia
theorem Mv(h:X8 cs (U8 (KH ls o old ts)) (Kf 0 ls) ls.length us):OptQ cs ls o old ts us:=by have du:=Tv h.dl;refine⟨du,λvs dv=>?_⟩;have:=h.mx vs (MB dv);rw[Tt ls us ls 0 (λj rs h=>by rw[QK,Qh,h];rfl) du.len,Tt ls vs ls 0 (λj rs h=>by rw[QK,Qh,h];rfl) dv.len]at this;simp_all
theorem Mu(h:OptQ cs ls o old ts us):X8 cs (U8 (KH ls o old ts)) (Kf 0 ls) ls.length us:=by refine⟨MB h.dl,λvs hv=>?_⟩;have dv:=Tv hv;rw[Tt ls us ls 0 (λj rs h=>by rw[QK,Qh,h];rfl) h.dl.len,Tt ls vs ls 0 (λj rs h=>by rw[QK,Qh,h];rfl) dv.len];exact h.mx vs dv
end
noncomputable def V(o:Ord)(B:Int)(L:Nat)(g:zu):Int:=val B (KQ o L (plQ g))
section
variable{o:Ord}{B B2:Int}{L L2 n:Nat}{g g1 g2 g':zu}{p q:zI}
theorem O9(h:okR L g):V o B L g=((srv g).map (Yy o B L)).sum:=
 (Go o λr hr=>by
  obtain⟨h1,h2⟩:=Q8.mp hr;have:=h r h1;have h2:=Qa h2
  lia).symm
theorem HB:∀a b:zu,(a++b).sum=a.sum+b.sum
 |[],b=>by rw[QR,List.sum_nil,JD]
 |x::a,b=>by rw[List.cons_append,Jn,Jn,HB a b,Int.add_assoc]
theorem DS(h1:okR L g1)(h2:okR L g2):V o B L (g1++g2)=V o B L g1+V o B L g2:=by rw[O9 (λr hr=>(QH.mp hr).elim (h1 r) (h2 r)),O9 h1,O9 h2];unfold srv;rw[List.filter_append,Qu,HB]
theorem L8(g:zu):(plQ g).length<=g.length:=by unfold plQ srv;rw[Qb];exact Js _ _
theorem L7(h1:(g.length:Int)<B)(h2:(g'.length:Int)<B):0<V o B L g-V o B L g' ↔ 0<fnz (KB (KQ o L (plQ g)) (KQ o L (plQ g'))):=by unfold V;rw[←OM (GY o L _ _)];have k1:=L8 g;have k2:=L8 g';exact(Oo (by lia) λd hd=>by have:=Gm o (L:=L) (p:=plQ g) (q:=plQ g') (m:=B-1) (by lia) (by lia) d hd;lia).1
theorem Ox(h:∀x∈p,x<n):Kt (n+1) p=Kt n p++[0]:=by
 unfold Kt;rw[JK,Qu]
 congr 1
 rw[List.map_singleton,Us.mpr λz=>by have:=h n z;lia];rfl
theorem Fk(x:Int)(r:zu):fnz (x::r)=if x=0 then fnz r else x:=rfl
theorem Ln(a:zu):fnz (a++[0])=fnz a:=by
 rw[Op];by_cases z:fnz a=0
 .rw[Qr z,z];rfl
 .rw[QA z]
theorem FN(x y:Int)(a b:zu):KB (x::a) (y::b)=(x-y)::KB a b:=rfl
theorem Az(hp:∀x∈p,x<n)(hq:∀x∈q,x<n):fnz (KB (KQ o (n+1) p) (KQ o (n+1) q))=fnz (KB (KQ o n p) (KQ o n q)):=by
 have e:KB (Kt (n+1) p) (Kt (n+1) q)=KB (Kt n p) (Kt n q)++[0]:=by rw[Ox hp,Ox hq,Py (by rw[Xf,Xf])];rfl
 cases o with
 |firsts=>show fnz (KB (Kt (n+1) p) (Kt (n+1) q))=fnz (KB (Kt n p) (Kt n q));rw[e,Ln]
 |full=>show fnz (KB (_::Kt (n+1) p) (_::Kt (n+1) q))=fnz (KB (_::Kt n p) (_::Kt n q));rw[FN,FN,e,Fk,Fk,Ln]
 |lasts=>show fnz (KB (_::(Kt (n+1) p).reverse.map _) (_::(Kt (n+1) q).reverse.map _))=fnz (KB (_::(Kt n p).reverse.map _) (_::(Kt n q).reverse.map _));rw[Ox hp,Ox hq,Up,Up];rfl
theorem L6(hp:∀x∈p,x<L)(hq:∀x∈q,x<L):∀k,fnz (KB (KQ o (L+k) p) (KQ o (L+k) q))=fnz (KB (KQ o L p) (KQ o L q))
 |0=>rfl
 |k+1=>(Az (n:=L+k) (λx hx=>QF (hp x hx) (Uj _ _)) λx hx=>QF (hq x hx) (Uj _ _)).trans (L6 hp hq k)
theorem V_le(hL:L<=L2)(o1:okR L g)(o2:okR L g')(h1:(g.length:Int)<B)(h2:(g'.length:Int)<B)(h3:(g.length:Int)<B2)(h4:(g'.length:Int)<B2):V o B2 L2 g'<=V o B2 L2 g ↔ V o B L g'<=V o B L g:=by
 have s1:=L7 (o:=o) (L:=L) h2 h1;have s2:=L7 (o:=o) (L:=L2) h4 h3;obtain⟨k,rfl⟩:=Nat.exists_eq_add_of_le hL;rw[L6 (PX o2) (PX o1),←s1]at s2
 lia
end
section
variable{cs zM:zu}{ls zL:List (List zu)}{us ws vs:LO}{o:Ord}
theorem RX(dl:Deal cs ls us):whW ls o zp [] us=V o ((ls.length:Int)+1) (lng ls) (U6 ls us)*((ls.length:Int)+1):=by
 have h:=ME (o:=o) (old:=zp) (ts:=[]) dl ga0;have h:whW ls o zp [] us=(V o ((ls.length:Int)+1) (lng ls) (U6 ls us)*((ls.length:Int)+1)+0)*1+0:=h;rw[h]
 lia
noncomputable def shR(n:Nat)(r:zu):zu:=r.map λt=>(n:Int)+t
noncomputable def shL(n:Nat)(rs:List zu):List zu:=rs.map (shR n)
noncomputable def shO(n:Nat):zC->zC
 |none=>zp
 |some t=>O ((n:Int)+t)
noncomputable def jnL(n:Nat)(ls zL:List (List zu)):List (List zu):=ls++zL.map (shL n)
theorem Ay{n:Nat}{t:Int}{rs:List zu}:Zc ((n:Int)+t) (shL n rs)=Zc t rs:=by
 unfold Zc shL;rw[List.findIdx_map,Qb];have:((λr:zu=>r.contains ((n:Int)+t)) ∘ shR n)=λr=>r.contains t:=by funext r;rw[Function.comp,Jv,List.contains_iff_mem,List.contains_iff_mem];unfold shR;rw[List.mem_map];exact⟨λ⟨a,ha,e⟩=>by rwa[show t=a by lia],λh=>⟨t,h,rfl⟩⟩
 rw[this]
theorem NG(n:Nat)(rs:List zu):(shL n rs).flatten=rs.flatten.map λt=>(n:Int)+t:=by unfold shL shR;rw[List.map_flatten]
theorem HA(n:Nat):∀(ls:List (List zu))(ws:LO),U6 (ls.map (shL n)) (ws.map (shO n))=U6 ls ws
 |[],_=>rfl
 |_::_,[]=>rfl
 |rs::ls,w::ws=>by
  have ih:=HA n ls ws;show rg (shL n rs) (shO n w)::U6 (ls.map (shL n)) (ws.map (shO n))=rg rs w::U6 ls ws;rw[ih];cases w with
  |none=>rfl
  |some t=>
   show((Zc ((n:Int)+t) (shL n rs):Nat):Int)::_=((Zc t rs:Nat):Int)::_
   rw[Ay]
theorem Hz{n:Nat}(h:us.length=ls.length):U6 (jnL n ls zL) (us++ws.map (shO n))=U6 ls us++U6 zL ws:=by unfold jnL;show List.zipWith rg (ls++zL.map (shL n)) (us++ws.map (shO n))=_;rw[List.zipWith_append h.symm];show U6 ls us++U6 (zL.map (shL n)) (ws.map (shO n))=_;rw[HA]
theorem RW(h:1<=ls.length):∃rs∈ls,lng ls=rs.length:=by
 have hm:=Pq (ns:=ls.map λrs=>(rs.length:Int)) (by rw[Qb];lia);obtain⟨rs,hr,e⟩:=Qn.mp hm;refine⟨rs,hr,?_⟩;unfold lng
 lia
theorem RY{n:Nat}(h1:1<=ls.length)(h2:1<=zL.length):lng (jnL n ls zL)=max (lng ls) (lng zL):=by
 have hl:1<=(jnL n ls zL).length:=by unfold jnL;rw[Qi];lia
 obtain⟨r,hr,e⟩:=RW hl;obtain⟨r1,hr1,e1⟩:=RW h1;obtain⟨r2,zT,e2⟩:=RW h2;have k1:=Rk (ls:=jnL n ls zL) (QU _ hr1);have k2:=Rk (ls:=jnL n ls zL) (QD _ (Qn.mpr ⟨r2,zT,rfl⟩));have z:(shL n r2).length=r2.length:=by unfold shL;rw[Qb]
 rw[z]at k2
 have k3:r.length<=max (lng ls) (lng zL):=by
  rcases QH.mp hr with h|h
  .have:=Rk h;lia
  .obtain⟨r0,h0,rfl⟩:=Qn.mp h
   have:=Rk h0;have:(shL n r0).length=r0.length:=by unfold shL;rw[Qb]
   lia
 lia
end
section
variable{cs zM:zu}{ls zL:List (List zu)}{us ws vs:LO}{o:Ord}
theorem Og(g:Good cs ls)(d:Deal cs ls us){i:Nat}{t:Int}(h:us[i]?=O (O t)):0<=t/\t<cs.length:=by
 have hi:i<ls.length:=by have:=(Qg.mp h).1;have:=d.len;lia
 have hm:=d.wish i t _ h (Qe hi);obtain⟨r,hr,ht⟩:=J7.mp hm;exact(g.rk _ (Jy hi)).there r hr t ht
theorem OH(n:Nat)(k:Int):∀ws:LO,(ws.map (shO n)).count (O ((n:Int)+k))=ws.count (O k)
 |[]=>rfl
 |w::ws=>by
  rw[Qv,JJ,JJ,OH n k ws]
  congr 1
  cases w with
  |none=>rfl
  |some t=>
   show(if(O ((n:Int)+t)==O ((n:Int)+k))=zq then 1 else 0)=if(O t==O k)=zq then 1 else 0
   by_cases e:t=k
   .subst e;simp
   .rw[if_neg (by simpa using e),if_neg (by simpa using e)]
theorem OG{x:zC}{l:LO}(h:∀y∈l,y≠x):l.count x=0:=Us.mpr λz=>h x z zo
theorem Of(g:Good cs ls)(g2:Good zM zL)(d:Deal cs ls us)(d2:Deal zM zL ws):Deal (cs++zM) (jnL cs.length ls zL) (us++ws.map (shO cs.length)) where
 len:=by unfold jnL;rw[Qi,Qi,Qb,Qb,d.len,d2.len]
 wish:=λi t rs h1 h2=>by
  unfold jnL at h2;by_cases hi:i<us.length
  .rw[Qq hi]at h1
   rw[Qq (by rw[←d.len];exact hi)]at h2;exact d.wish i t rs h1 h2
  .rw[Qt (by lia),Qd]at h1
   rw[Qt (by rw[←d.len];lia),Qd,←d.len]at h2;cases hw:ws[i-us.length]? with
   |none=>rw[hw]at h1;cases h1
   |some w=>
   rw[hw]at h1;cases hr:zL[i-us.length]? with
   |none=>rw[hr]at h2;cases h2
   |some r=>
   rw[hr]at h2;cases h2;cases w with
   |none=>cases h1
   |some s=>cases h1;rw[NG];exact Qn.mpr ⟨s,d2.wish _ s r hw hr,rfl⟩
 cop:=λk c h=>by
  rw[JN];by_cases hk:k<cs.length
  .rw[Qq hk]at h
   have h1:=d.cop k c h
   rw[OG (l:=ws.map (shO cs.length)) λy hy z=>by
    obtain⟨w,hw,rfl⟩:=Qn.mp hy;cases w with
    |none=>cases z
    |some s=>
     obtain⟨i,hi⟩:=Ui hw;have:=Og g2 d2 hi;have z:(cs.length:Int)+s=k:=QO z
     lia]
   exact h1
  .rw[Qt (by lia)]at h
   have h1:=d2.cop _ c h
   rw[OG (l:=us) λy hy z=>by
    subst z;obtain⟨i,hi⟩:=Ui hy;have:=Og g d hi
    lia]
   have e:(k:Int)=(cs.length:Int)+((k-cs.length:Nat):Int):=by lia
   rw[e,OH,QK];exact h1
noncomputable def unO(n:Nat):zC->zC
 |none=>zp
 |some t=>O (t-n)
theorem EC(g:Good cs ls)(g2:Good zM zL)(d:Deal (cs++zM) (jnL cs.length ls zL) vs):∃us ws,vs=us++ws.map (shO cs.length)/\Deal cs ls us/\Deal zM zL ws:=by
 have hl:=d.len;unfold jnL at hl;rw[Qi,Qb]at hl
 let us:=vs.take ls.length
 let ws:=(vs.drop ls.length).map (unO cs.length)
 have e:ws.map (shO cs.length)=vs.drop ls.length:=by
  show((vs.drop ls.length).map (unO cs.length)).map (shO cs.length)=_
  rw[QQ]
  have:shO cs.length ∘ unO cs.length=id:=by
   funext w;cases w with
   |none=>rfl
   |some t=>show O ((cs.length:Int)+(t-cs.length))=O t;congr 1;lia
  rw[this,List.map_id]
 have ev:vs=us++ws.map (shO cs.length):=by rw[e];exact(JW _ _).symm
 have lu:us.length=ls.length:=by show(vs.take ls.length).length=_;rw[Ja];lia
 have lw:ws.length=zL.length:=by show((vs.drop ls.length).map _).length=_;rw[Qb,Jx];lia
 have w1:∀(i:Nat) t rs,us[i]?=O (O t)->ls[i]?=O rs->t∈rs.flatten:=λi t rs h1 h2=>by
  refine d.wish i t rs ?_ ?_
  .rw[ev,Qq (Qg.mp h1).1];exact h1
  .unfold jnL;rw[Qq (Qg.mp h2).1];exact h2
 have w2:∀(i:Nat) t rs,ws[i]?=O (O t)->zL[i]?=O rs->t∈rs.flatten:=λi t rs h1 h2=>by have h:=d.wish (ls.length+i) ((cs.length:Int)+t) (shL cs.length rs) (by rw[ev,Qt (by lia),lu,JO,Qd,h1];rfl) (by unfold jnL;rw[Qt (by lia),JO,Qd,h2];rfl);rw[NG]at h;obtain⟨s,hs,z⟩:=Qn.mp h;rwa[show t=s by lia]
 have lo1:∀(i:Nat) t,us[i]?=O (O t)->0<=t/\t<cs.length:=λi t h=>by
  have hi:i<ls.length:=by have:=(Qg.mp h).1;lia
  obtain⟨r,hr,ht⟩:=J7.mp (w1 i t _ h (Qe hi));exact(g.rk _ (Jy hi)).there r hr t ht
 have lo2:∀(i:Nat) t,ws[i]?=O (O t)->0<=t/\t<zM.length:=λi t h=>by
  have hi:i<zL.length:=by have:=(Qg.mp h).1;lia
  obtain⟨r,hr,ht⟩:=J7.mp (w2 i t _ h (Qe hi));exact(g2.rk _ (Jy hi)).there r hr t ht
 refine⟨us,ws,ev,⟨lu,w1,λk c h=>?_⟩,⟨lw,w2,λk c h=>?_⟩⟩
 .have h1:=d.cop k c (by rw[Qq (Qg.mp h).1];exact h)
  rw[ev,JN]at h1
  lia
 .have h1:=d.cop (cs.length+k) c (by rw[Qt (by lia),JO];exact h)
  rw[ev,JN,show((cs.length+k:Nat):Int)=(cs.length:Int)+(k:Int)by lia,OH]at h1
  lia
theorem Hy(g:Good cs ls)(g2:Good zM zL)(d2:Deal zM zL ws){k:Nat}(hk:k<cs.length):(us++ws.map (shO cs.length)).count (O (k:Int))=us.count (O (k:Int)):=by
 rw[JN,OG (l:=ws.map (shO cs.length)) λy hy z=>by
  obtain⟨w,hw,rfl⟩:=Qn.mp hy;cases w with
  |none=>cases z
  |some s=>
   obtain⟨i,hi⟩:=Ui hw;have:=Og g2 d2 hi;have z:(cs.length:Int)+s=k:=QO z
   lia]
 rfl
theorem Hx(g:Good cs ls)(d:Deal cs ls us){k:Nat}:(us++ws.map (shO cs.length)).count (O ((cs.length+k:Nat):Int))=ws.count (O (k:Int)):=by
 rw[JN,OG (l:=us) λy hy z=>by
  subst z;obtain⟨i,hi⟩:=Ui hy;have:=Og g d hi
  lia,show((cs.length+k:Nat):Int)=(cs.length:Int)+(k:Int)by lia,OH,QK]
theorem SN(g:Good cs ls)(g2:Good zM zL)(d:Deal cs ls us)(d2:Deal zM zL ws):whW (jnL cs.length ls zL) o zp [] (us++ws.map (shO cs.length))=(V o (((jnL cs.length ls zL).length:Int)+1) (lng (jnL cs.length ls zL)) (U6 ls us)+V o (((jnL cs.length ls zL).length:Int)+1) (lng (jnL cs.length ls zL)) (U6 zL ws))*(((jnL cs.length ls zL).length:Int)+1):=by
 rw[RX (Of g g2 d d2),Hz d.len,DS]
 .intro r hr
  have:=Wi (ls:=ls) (ws:=us) r hr;have:=RY (n:=cs.length) g.l1 g2.l1
  lia
 .intro r hr
  have:=Wi (ls:=zL) (ws:=ws) r hr;have:=RY (n:=cs.length) g.l1 g2.l1
  lia
theorem Fj(g:Good cs ls)(g2:Good zM zL){u2:LO}(d:Deal cs ls us)(d':Deal cs ls u2):V o (((jnL cs.length ls zL).length:Int)+1) (lng (jnL cs.length ls zL)) (U6 ls u2)<=V o (((jnL cs.length ls zL).length:Int)+1) (lng (jnL cs.length ls zL)) (U6 ls us) ↔ whW ls o zp [] u2<=whW ls o zp [] us:=by
 have k:=RY (n:=cs.length) g.l1 g2.l1;have k2:(jnL cs.length ls zL).length=ls.length+zL.length:=by unfold jnL;rw[Qi,Qb]
 have r1:=TC (ls:=ls) d.len;have r2:=TC (ls:=ls) d'.len;rw[V_le (L:=lng ls) (B:=(ls.length:Int)+1) (by lia) Wi Wi (by lia) (by lia) (by lia) (by lia),RX d,RX d'];exact⟨λh=>QZ h (by lia),λh=>JV h (by lia)⟩
theorem Fi(g:Good cs ls)(g2:Good zM zL){u2:LO}(d:Deal zM zL us)(d':Deal zM zL u2):V o (((jnL cs.length ls zL).length:Int)+1) (lng (jnL cs.length ls zL)) (U6 zL u2)<=V o (((jnL cs.length ls zL).length:Int)+1) (lng (jnL cs.length ls zL)) (U6 zL us) ↔ whW zL o zp [] u2<=whW zL o zp [] us:=by
 have k:=RY (n:=cs.length) g.l1 g2.l1;have k2:(jnL cs.length ls zL).length=ls.length+zL.length:=by unfold jnL;rw[Qi,Qb]
 have r1:=TC (ls:=zL) d.len;have r2:=TC (ls:=zL) d'.len;rw[V_le (L:=lng zL) (B:=(zL.length:Int)+1) (by lia) Wi Wi (by lia) (by lia) (by lia) (by lia),RX d,RX d'];exact⟨λh=>QZ h (by lia),λh=>JV h (by lia)⟩
theorem Nn(g:Good cs ls)(g2:Good zM zL)(d:Deal cs ls us)(d2:Deal zM zL ws):OptQ (cs++zM) (jnL cs.length ls zL) o zp [] (us++ws.map (shO cs.length)) ↔ OptQ cs ls o zp [] us/\OptQ zM zL o zp [] ws:=by
 have pos:(0:Int)<((jnL cs.length ls zL).length:Int)+1:=by lia
 constructor
 .intro h
  refine⟨⟨d,λu2 d'=>?_⟩,⟨d2,λw2 d'=>?_⟩⟩
  .have k:=h.mx _ (Of g g2 d' d2)
   rw[SN g g2 d' d2,SN g g2 d d2]at k;have k:=JV k pos;exact(Fj g g2 d d').mp (by lia)
  .have k:=h.mx _ (Of g g2 d d')
   rw[SN g g2 d d',SN g g2 d d2]at k;have k:=JV k pos;exact(Fi g g2 d2 d').mp (by lia)
 .rintro⟨h1,h2⟩
  refine⟨Of g g2 d d2,λvs dv=>?_⟩;obtain⟨u2,w2,rfl,e1,e2⟩:=EC g g2 dv;rw[SN g g2 e1 e2,SN g g2 d d2];have k1:=(Fj g g2 (o:=o) d e1).mpr (h1.mx _ e1);have k2:=(Fi g g2 (o:=o) d2 e2).mpr (h2.mx _ e2);exact QZ (by lia) (by lia)
end
theorem M9{α:Type}{l A B:List α}{p q}(hA:A=l.filter p)(hB:B=l.filter q)(h:∀x∈l,x∈A ↔ x∈B):A=B:=by subst hA;subst hB;refine List.filter_congr λx hx=>?_;simp_all
noncomputable def shQ(m n:Nat)(q:Int×Int):Int×Int:=(q.1+m,q.2+n)
theorem xn  (hp:xs.Perm ys)(hy:ys.Pairwise (· <= ·)):Y6 xs=ys:=
 ((W8 xs).trans hp).eq_of_pairwise  (λa b _ _ h1 h2=>JY h1 h2) (OY xs) hy
theorem Hw(m n:Nat):∀(ls:List (List zu))(k:Nat),Kf (m+k) (ls.map (shL n))=(Kf k ls).map (shQ m n)
 |[],_=>rfl
 |rs::ls,k=>by
  have ih:=Hw m n ls (k+1);have es:Y6 (shL n rs).flatten=(Y6 rs.flatten).map λt=>(n:Int)+t:=by rw[NG];refine xn ((W8 _).map _).symm ?_;rw[Uf];exact(OY rs.flatten).imp λh=>by lia
  show(Y6 (shL n rs).flatten).map (λt=>(((m+k:Nat):Int),t))++Kf (m+k+1) (ls.map (shL n))=((Y6 rs.flatten).map (λt=>((k:Int),t))++Kf (k+1) ls).map (shQ m n)
  rw[es,Qu,QQ,QQ,show m+k+1=m+(k+1)by lia,ih]
  congr 1
  refine Jo λt _=>?_;exact Prod.ext (by show((m+k:Nat):Int)=(k:Int)+m;lia) (by show(n:Int)+t=t+n;lia)
theorem Fh{xs aP bB:zu}(hl:bB.length=xs.length+aP.length)(h1:∀i,i<xs.length->(0<bB.getD i 0 ↔ 0<xs.getD i 0))(h2:∀i,i<aP.length->(0<bB.getD (xs.length+i) 0 ↔ 0<aP.getD i 0)):ZE bB=ZE xs++(ZE aP).map λx:Int=>x+(xs.length:Int):=by
 unfold ZE;rw[hl,List.range_add,List.filter_append,Qu,List.filter_map,QQ,QQ]
 congr 1
 .congr 1
  refine List.filter_congr λi hi=>?_;rw[Jv,QN,QN];exact h1 i (Q3.mp hi)
 .have e:(UF aP.length).filter ((λi=>decide (0<bB.getD i 0)) ∘ λi=>xs.length+i)=(UF aP.length).filter λi=>decide (0<aP.getD i 0):=by
   refine List.filter_congr λi hi=>?_;rw[Function.comp,Jv,QN,QN];exact h2 i (Q3.mp hi)
  rw[e];refine Jo λi _=>?_
  show((xs.length+i:Nat):Int)=(i:Int)+xs.length
  lia
section
variable{cs zM:zu}{ls zL:List (List zu)}{us ws vs:LO}{o:Ord}
theorem Ph(n:Nat):Kf 0 (jnL n ls zL)=Kf 0 ls++(Kf 0 zL).map (shQ ls.length n):=by
 unfold jnL;rw[GW,QK]
 congr 1
 exact Hw ls.length n zL 0
noncomputable abbrev plain(ls:List (List zu))(o:Ord):Int×Int->Int:=U8 (KH ls o zp [])
theorem Wh(g:Good cs ls)(g2:Good zM zL):X8 (cs++zM) (plain (jnL cs.length ls zL) o) (Kf 0 (jnL cs.length ls zL)) (jnL cs.length ls zL).length vs ↔ ∃us ws,vs=us++ws.map (shO cs.length)/\X8 cs (plain ls o) (Kf 0 ls) ls.length us/\X8 zM (plain zL o) (Kf 0 zL) zL.length ws:=by
 constructor
 .intro h
  have h:=Mv h;obtain⟨us,ws,rfl,d1,d2⟩:=EC g g2 h.dl;obtain⟨h1,h2⟩:=(Nn g g2 d1 d2).mp h;exact⟨us,ws,rfl,Mu h1,Mu h2⟩
 .rintro⟨us,ws,rfl,h1,h2⟩
  have h1:=Mv h1;have h2:=Mv h2;exact Mu ((Nn g g2 h1.dl h2.dl).mpr ⟨h1,h2⟩)
theorem P0(h:us.length=ls.length){i:Nat}(hi:i<ls.length)(n:Nat):(us++ws.map (shO n))[i]?=us[i]?:=Qq (by lia)
theorem PZ(h:us.length=ls.length)(i n:Nat):(us++ws.map (shO n))[ls.length+i]?=ws[i]?.map (shO n):=by rw[Qt (by lia),h,JO,Qd]
variable{T T2 T3:List Stp}{as ps aF ax af z9:zu}{L L2 L3:List LO}{wz bo ws3:LO}
theorem CT(g:Good cs ls)(g2:Good zM zL)(g3:Good (cs++zM) (jnL cs.length ls zL))(wq:WebQ cs (plain ls o) (Kf 0 ls) ls.length wz T as ps L)(w2:WebQ zM (plain zL o) (Kf 0 zL) zL.length bo T2 aF ax L2)(w3:WebQ (cs++zM) (plain (jnL cs.length ls zL) o) (Kf 0 (jnL cs.length ls zL)) (jnL cs.length ls zL).length ws3 T3 af z9 L3) :
  Wc (plain (jnL cs.length ls zL) o) (Kf 0 (jnL cs.length ls zL)) (((cs++zM).length+1:Nat):Int) af z9=Wc (plain ls o) (Kf 0 ls) ((cs.length+1:Nat):Int) as ps++(Wc (plain zL o) (Kf 0 zL) ((zM.length+1:Nat):Int) aF ax).map (shQ ls.length cs.length) /\
  ZE af=ZE as++(ZE aF).map (λx:Int=>x+(ls.length:Int))/\ZE z9=ZE ps++(ZE ax).map (λx:Int=>x+(cs.length:Int)):=by
 have hp:=Th g;have aV:=Th g2;have bK:=Th g3;have m1:=OK hp wq;have m2:=OK aV w2;have hm:(jnL cs.length ls zL).length=ls.length+zL.length:=by unfold jnL;rw[Qi,Qb]
 have hn:(cs++zM).length=cs.length+zM.length:=Qi;have la:=wq.ok.la;have lp:=wq.ok.lp;have la2:=w2.ok.la;have lp2:=w2.ok.lp;have la3:=w3.ok.la;have lp3:=w3.ok.lp;refine⟨?_,?_,?_⟩
 .rw[show Wc (plain (jnL cs.length ls zL) o) (Kf 0 (jnL cs.length ls zL)) (((cs++zM).length+1:Nat):Int) af z9=(Kf 0 (jnL cs.length ls zL)).filter (λq=>decide (q∈Wc (plain (jnL cs.length ls zL) o) (Kf 0 (jnL cs.length ls zL)) (((cs++zM).length+1:Nat):Int) af z9))from M9 (l:=Kf 0 (jnL cs.length ls zL)) zo zo λq hq=>by rw[Q8,QN];exact⟨λz=>⟨hq,z⟩,λz=>z.2⟩]
  have key:=λq hq=>MM (q:=q) bK w3 hq;generalize Wc (plain (jnL cs.length ls zL) o) (Kf 0 (jnL cs.length ls zL)) (((cs++zM).length+1:Nat):Int) af z9=Z at key⊢;rw[Ph]at key⊢;rw[List.filter_append,List.filter_map]
  congr 1
  .refine M9 zo zo λq hq=>?_
   rw[Q8,QN,key q (QU _ hq),MM hp wq hq];obtain⟨l1,l2,_,_⟩:=hp.lo q hq;constructor
   .rintro⟨_,vs,hv,e⟩
    obtain⟨us,ws,rfl,h1,h2⟩:=(Wh g g2).mp (by rw[Ph];exact hv);rw[P0 h1.dl.len (by lia)]at e;exact⟨us,h1,e⟩
   .rintro⟨us,hu,e⟩
    have h:=(Wh g g2).mpr ⟨us,bo,rfl,hu,m2⟩;rw[Ph]at h;exact⟨hq,_,h,by rw[P0 hu.dl.len (by lia)];exact e⟩
  .congr 1
   refine M9 zo zo λq hq=>?_
   obtain⟨l1,l2,_,_⟩:=aV.lo q hq;have ei:(shQ ls.length cs.length q).1.toNat=ls.length+q.1.toNat:=by show(q.1+(ls.length:Int)).toNat=_;lia
   have e2:(shQ ls.length cs.length q).2=q.2+cs.length:=rfl;rw[Q8,Function.comp,QN,key _ (QD _ (Qn.mpr ⟨q,hq,rfl⟩)),MM aV w2 hq,ei,e2]
   have back:∀ws:LO,ws[q.1.toNat]?.map (shO cs.length)=O (O (q.2+cs.length)) ↔ ws[q.1.toNat]?=O (O q.2):=λws=>by
    cases ws[q.1.toNat]? with
    |none=>exact⟨λz=>(by cases z),λz=>(by cases z)⟩
    |some w=>
     cases w with
     |none=>exact⟨λz=>(by cases z),λz=>(by cases z)⟩
     |some t=>show O (O ((cs.length:Int)+t))=O (O (q.2+cs.length)) ↔ O (O t)=O (O q.2);exact⟨λz=>by have:=QO (QO z);rw[show t=q.2 by lia],λz=>by have:=QO (QO z);rw[show(cs.length:Int)+t=q.2+cs.length by lia]⟩
   constructor
   .rintro⟨_,vs,hv,e⟩
    obtain⟨us,ws,rfl,h1,h2⟩:=(Wh g g2).mp (by rw[Ph];exact hv);rw[PZ h1.dl.len]at e;exact⟨ws,h2,(back ws).mp e⟩
   .rintro⟨ws,hw,e⟩
    have h:=(Wh g g2).mpr ⟨wz,ws,rfl,m1,hw⟩;rw[Ph]at h;exact⟨hq,_,h,by rw[PZ m1.dl.len];exact(back ws).mpr e⟩
 .rw[←la]
  have z1:=Rm wq.ok.aa;have z2:=Rm w2.ok.aa;have z3:=Rm w3.ok.aa;refine Fh (by lia) (λi hi=>?_) λi hi=>?_
  .have k3:=OJ bK w3 (i:=i) (by lia)
   have k1:=OJ hp wq (i:=i) (by lia)
   have e:af.getD i 0=0 ↔ as.getD i 0=0:=by
    rw[k3,k1];constructor
    .rintro⟨vs,hv,e⟩
     obtain⟨us,ws,rfl,h1,h2⟩:=(Wh g g2).mp hv;rw[P0 h1.dl.len (by lia)]at e;exact⟨us,h1,e⟩
    .rintro⟨us,hu,e⟩
     exact⟨_,(Wh g g2).mpr ⟨us,bo,rfl,hu,m2⟩,by rw[P0 hu.dl.len (by lia)];exact e⟩
   have:=z1 i;have:=z3 i
   lia
  .have k3:=OJ bK w3 (i:=as.length+i) (by lia)
   have k1:=OJ aV w2 (i:=i) (by lia)
   have back:∀ws:LO,ws[i]?.map (shO cs.length)=O zp ↔ ws[i]?=O zp:=λws=>by
    cases ws[i]? with
    |none=>exact⟨λz=>(by cases z),λz=>(by cases z)⟩
    |some w=>
     cases w with
     |none=>exact⟨λ_=>rfl,λ_=>rfl⟩
     |some t=>exact⟨λz=>(by cases z),λz=>(by cases z)⟩
   have e:af.getD (as.length+i) 0=0 ↔ aF.getD i 0=0:=by
    rw[k3,k1];constructor
    .rintro⟨vs,hv,e⟩
     obtain⟨us,ws,rfl,h1,h2⟩:=(Wh g g2).mp hv;rw[la,PZ h1.dl.len]at e;exact⟨ws,h2,(back ws).mp e⟩
    .rintro⟨ws,hw,e⟩
     exact⟨_,(Wh g g2).mpr ⟨wz,ws,rfl,m1,hw⟩,by rw[la,PZ m1.dl.len];exact(back ws).mpr e⟩
   have:=z2 i;have:=z3 (as.length+i)
   lia
 .rw[←lp]
  have z1:=Rm wq.ok.pp;have z2:=Rm w2.ok.pp;have z3:=Rm w3.ok.pp;refine Fh (by lia) (λi hi=>?_) λi hi=>?_
  .have k3:=OI bK w3 (k:=i) (by lia)
   have k1:=OI hp wq (k:=i) (by lia);have ec:(cs++zM).getD i 0=cs.getD i 0:=by rw[Qh,Qh,Qq (by lia)]
   have e:z9.getD i 0=0 ↔ ps.getD i 0=0:=by
    rw[k3,k1,ec];constructor
    .rintro⟨vs,hv,e⟩
     obtain⟨us,ws,rfl,h1,h2⟩:=(Wh g g2).mp hv;rw[Hy g g2 (Tv h2.dl) (by lia)]at e;exact⟨us,h1,e⟩
    .rintro⟨us,hu,e⟩
     exact⟨_,(Wh g g2).mpr ⟨us,bo,rfl,hu,m2⟩,by rw[Hy g g2 (Tv m2.dl) (by lia)];exact e⟩
   have:=z1 i;have:=z3 i
   lia
  .have k3:=OI bK w3 (k:=ps.length+i) (by lia)
   have k1:=OI aV w2 (k:=i) (by lia);have ec:(cs++zM).getD (ps.length+i) 0=zM.getD i 0:=by rw[Qh,Qh,Qt (by lia),lp,JO]
   have e:z9.getD (ps.length+i) 0=0 ↔ ax.getD i 0=0:=by
    rw[k3,k1,ec];constructor
    .rintro⟨vs,hv,e⟩
     obtain⟨us,ws,rfl,h1,h2⟩:=(Wh g g2).mp hv;rw[lp,Hx g (Tv h1.dl)]at e;exact⟨ws,h2,e⟩
    .rintro⟨ws,hw,e⟩
     exact⟨_,(Wh g g2).mpr ⟨wz,ws,rfl,m1,hw⟩,by rw[lp,Hx g (Tv m1.dl)];exact e⟩
   have:=z2 i;have:=z3 (ps.length+i)
   lia
end
theorem Ax{cs zM:zu}{ls zL:List (List zu)}(g:Good cs ls)(g2:Good zM zL)(h1:cs.length+zM.length<=6)(h2:ls.length+zL.length<=7):Good (cs++zM) (ls++zL.map (shL cs.length)):=by
 have a1:=g.c1;have b1:=g.l1;refine⟨by rw[Qi];omega,by rw[Qi];exact h1,λc hc=>(QH.mp hc).elim (g.c7 c) (g2.c7 c),by rw[Qi];omega,by rw[Qi,Qb];exact h2,λrs hrs=>?_⟩;rw[Qi];rcases QH.mp hrs with hrs|hrs
 .have q:=g.rk rs hrs
  exact⟨q.few,q.some,λr hr t ht=>by have:=q.there r hr t ht;omega,q.once⟩
 .obtain⟨q0,hq0,rfl⟩:=Qn.mp hrs
  have q:=g2.rk q0 hq0;refine⟨by unfold shL;rw[Qb];exact q.few,λr hr=>?_,λr hr t ht=>?_,?_⟩
  .obtain⟨r0,hr0,rfl⟩:=Qn.mp hr
   unfold shR;intro e;exact q.some r0 hr0 (List.map_eq_nil_iff.mp e)
  .obtain⟨r0,hr0,rfl⟩:=Qn.mp hr
   obtain⟨t0,ht0,rfl⟩:=Qn.mp ht;have:=q.there r0 hr0 t0 ht0;omega
  .have e:(shL cs.length q0).flatten=q0.flatten.map λt=>(cs.length:Int)+t:=by
    unfold shL shR;rw[List.map_flatten]
   rw[e];exact List.pairwise_map.mpr (q.once.imp λh e=>h (by omega))
theorem Aw{cs zM:zu}{ls zL:List (List zu)}(g:Good cs ls)(g2:Good zM zL):Zd (K2 (UU 5)) 1 (gN 8) (U2 zq) (Ka UH (Zd (K2 (UU 8)) 1 (gN 9) (U2 zq) (Ka UH (Zd (K2 (UU 9)) 1 (gN 10) (U2 zq) (U1 Ke (Zp 2) (UU 10)))))) [pb (Kr cs ls),pb (Kr zM zL),pb (.list (cs.map int)),pb (.list (ls.map KY)),pb (.list (zM.map int)),pb (.list (zL.map KY)),zp,zp]=.ok ((zL.map (shL cs.length)).map KY) [pb (Kr cs ls),pb (Kr zM zL),pb (.list (cs.map int)),pb (.list (ls.map KY)),pb (.list (zM.map int)),pb (.list (zL.map KY)),zp,zp]:=by
 have c62:=g2.c6;have l72:=g2.l7;have ln:Kp [.list (cs.map int)]=O (.int cs.length):=by rw[Zw,Qb]
 let A:Option Sl:=O (.pub (Kr cs ls))
 let B:Option Sl:=O (.pub (Kr zM zL))
 let C:Option Sl:=O (.pub (.list (cs.map int)))
 let L:Option Sl:=O (.pub (.list (ls.map KY)))
 let C2:Option Sl:=O (.pub (.list (zM.map int)))
 let M2:Option Sl:=O (.pub (.list (zL.map KY)))
 refine Zz (ds:=zL.map KY) (Zv (UW zo) zo) ?_;rw[QQ];refine(Wy KY (λrs=>KY (shL cs.length rs)) (λρ=>∃x,ρ=[A,B,C,L,C2,M2,zp,zp,x]) zL _ [] ?_ ⟨zp,rfl⟩ (by rw[Qw];omega)).trans zo;rintro rs hrs ρ ⟨x,rfl⟩;have hf:=(g2.rk rs hrs).few;refine⟨_,U3 (Qa zo) zo,KN (x:=(shL cs.length rs).map Zn) (Zz (ds:=rs.map Zn) (Zv (UW zo) zo) ?_),_,rfl⟩;have e:(shL cs.length rs).map Zn=rs.map λr=>Zn (shR cs.length r):=by unfold shL;rw[QQ];rfl
 rw[e];refine(Wy Zn (λr=>Zn (shR cs.length r)) (λρ=>∃x,ρ=[A,B,C,L,C2,M2,zp,zp,pb (KY rs),x]) rs _ [] ?_ ⟨zp,rfl⟩ (by rw[Qw];omega)).trans zo;rintro r hr ρ ⟨x,rfl⟩;have zZ:=qV (g2.rk rs hrs) hr;refine⟨_,U3 (Qa zo) zo,KN (x:=(shR cs.length r).map int) (Zz (ds:=r.map int) (Zv (UW zo) zo) ?_),_,rfl⟩;have e2:(shR cs.length r).map int=r.map λt=>.int ((cs.length:Int)+t):=by unfold shR;rw[QQ];rfl
 rw[e2];refine(Wy int (λt=>.int ((cs.length:Int)+t)) (λρ=>∃x,ρ=[A,B,C,L,C2,M2,zp,zp,pb (KY rs),pb (Zn r),x]) r _ [] ?_ ⟨zp,rfl⟩ (by rw[Qw];omega)).trans zo;rintro t ht ρ ⟨x,rfl⟩;exact⟨_,U3 (Qa zo) zo,Ki (op:=Ke) (ZI zo ln) (UW zo) ZA,_,rfl⟩
section
variable{cs:zu}{ls:List (List zu)}{us ws:LO}
theorem qS(h:ws.length<=1000):Zd (K2 (UU 2)) 1 (gN 4) (U2 zq) (mIf (Ka isNon (UU 4)) (U2 .none) (U1 Ke (UU 3) (UU 4))) [pb (Kr cs ls),pb (Kl us),pb (Kl ws),pb (.int cs.length)]=.ok ((ws.map (shO cs.length)).map Ko) [pb (Kr cs ls),pb (Kl us),pb (Kl ws),pb (.int cs.length)]:=by
 refine Zz (ds:=ws.map Ko) (Zv (UW zo) zo) ?_;rw[QQ];refine(Wy Ko (λw=>Ko (shO cs.length w)) (λρ=>∃x,ρ=[pb (Kr cs ls),pb (Kl us),pb (Kl ws),pb (.int cs.length),x]) ws _ [] ?_ ⟨zp,rfl⟩ (by rw[Qw];omega)).trans zo;rintro w _ ρ ⟨x,rfl⟩;refine⟨_,U3 (Qa zo) zo,?_,_,rfl⟩;cases w with
 |none=>exact Nv (KN (x:=.none) (UW zo)) Kd
 |some t=>exact P5 (KN (x:=.int t) (UW zo)) (Ki (UW zo) (UW zo) ZA)
noncomputable def bsL(n:Nat)(us ws:LO):zw:=us.map Ko++(ws.map (shO n)).map Ko
theorem Av(g:Good cs ls)(h1:us.length<=1000)(h:ws.length<=1000):WH [Kr cs ls,Kl us,Kl ws]=O (.list (bsL cs.length us ws)):=by
 have ln:Kp [.list (cs.map int)]=O (.int cs.length):=by rw[Zw,Qb]
 have i0:oIx (Kr cs ls) (.int 0)=O (.list (cs.map int)):=ZP (j:=0) zo;refine K5 (ρ:=[pb (Kr cs ls),pb (Kl us),pb (Kl ws),zp]) zo ?_;unfold Sw;refine Kn (Y7 (Km (UY (UW zo) U5) zo (Vc g))) ?_;refine Kn (KM (Yd (UY (K1 zo Kd i0) U5) ln) (Qa zo) zo) ?_;exact KJ (Ki (UW zo) (KN (qS h)) (YW (by rw[Qb,Qb,Qb];omega))) zo
end
section
variable{ls:List (List zu)}{ws us:LO}{old:zG}{ts:zu}
theorem xm:(V4 ls old ts ws).canLay0=zq:=TB λx hx=>by
 have hx:x=.list ((Kk (lng ls) (U6 ls ws)).map int)∨x=.int (K7 old ws:Nat)∨x=.list ((ts.map (rgA ls ws)).map int):=by simpa using hx
 rcases hx with rfl|rfl|rfl
 .exact Rw _
 .rfl
 .exact Rw _
theorem xk:(V4 ls old ts ws).depth<=60:=by
 have h:PyData.depthAll [.list ((Kk (lng ls) (U6 ls ws)).map int),.int (K7 old ws:Nat),.list ((ts.map (rgA ls ws)).map int)]<=2:=RC λx hx=>by
  have hx:x=.list ((Kk (lng ls) (U6 ls ws)).map int)∨x=.int (K7 old ws:Nat)∨x=.list ((ts.map (rgA ls ws)).map int):=by simpa using hx
  have hi:∀l:zu,(UH (l.map int)).depth<=2:=λl=>by
   have h1:PyData.depthAll (l.map int)<=1:=RC λy hy=>by obtain⟨z,_,rfl⟩:=Qn.mp hy;simp[UM]
   have:=Ro h1;omega
  rcases hx with rfl|rfl|rfl
  .exact hi _
  .simp[UM]
  .exact hi _
 have:=Ro h;have e:(V4 ls old ts ws).depth=(UH [.list ((Kk (lng ls) (U6 ls ws)).map int),.int (K7 old ws:Nat),.list ((ts.map (rgA ls ws)).map int)]).depth:=by simp[V4,UM]
 omega
end
theorem NF{xs:zu}:oNe (.list (xs.map int)) (.list (xs.map int))=O zr:=by have lay:PyData.canLay0 (.list _)=zq:=Rw xs;have dep:=Mp xs;have dep:UM (.list _)<=2:=dep;unfold oNe;rw[Qr ⟨lay,lay,by lia⟩,Oz _ lay];rfl
theorem qR(A:LP):PyData.canLay0 (.list (A.map Kz))=zq:=TB λx hx=>by obtain⟨q,_,rfl⟩:=Qn.mp hx;rfl
theorem qQ(A:LP):(UH (A.map Kz)).depth<=3:=Ro (F4 λx hx=>by obtain⟨q,_,rfl⟩:=List.mem_map.mp hx;unfold Kz;simp[UM,PyData.depthAll])
theorem xj(L:Nat)(got:zu):YC (Kk L got)=((got.count 0:Nat):Int):=by unfold YC Kk;simp
theorem Au{xs:zu}:oEq (.list (xs.map int)) (.list (xs.map int))=O zq:=by have lay:PyData.canLay0 (.list (xs.map int))=zq:=Rw xs;have dep:UM (.list (xs.map int))<=2:=Mp xs;unfold oEq;rw[Qr ⟨lay,lay,by lia⟩,Oz _ lay]
theorem OF{L:Nat}{g:zu}(h:okR L g){k:Nat}(hk:L<=k):g.count (1+(k:Int))=0:=Us.mpr λz=>by
 have:=h _ z
 lia
theorem yb{L1 L2:Nat}{g1 g2:zu}(o1:okR L1 g1)(o2:okR L2 g2)(h1:L1<=100)(h2:L2<=100):Vr [.list ((Kk L1 g1).map int),.list ((Kk L2 g2).map int)]=O (.list ((Kk (max L1 L2) (g1++g2)).map int)):=by
 have n1:=Wr L1 g1;have n2:=Wr L2 g2;refine K5 (ρ:=[pb (.list ((Kk L1 g1).map int)),pb (.list ((Kk L2 g2).map int)),zp,zp,zp]) zo ?_;unfold TR
 let S0:Option Sl:=O (.pub (.list ((Kk L1 g1).map int)))
 let S1:Option Sl:=O (.pub (.list ((Kk L2 g2).map int)))
 let M:Nat:=max L1 L2
 let S2:Option Sl:=O (.pub (.int (M:Nat)))
 have e1:Kp [.list ((Kk L1 g1).map int)]=O (.int ((L1+1:Nat):Int)):=by rw[Zw,Qb,n1]
 have e2:Kp [.list ((Kk L2 g2).map int)]=O (.int ((L2+1:Nat):Int)):=by rw[Zw,Qb,n2]
 have em:((if((L2+1:Nat):Int) > ((L1+1:Nat):Int)then((L2+1:Nat):Int)else((L1+1:Nat):Int))-1)=(M:Nat):=by
  by_cases z:((L2+1:Nat):Int) > ((L1+1:Nat):Int)
  .rw[Qr z];lia
  .rw[QA z];lia
 refine Kn (ρ1:=[S0,S1,S2,zp,zp]) (KM (Ki (Yd (UY (ZI zo e1) (UY (ZI zo e2) U5)) N8) Kd Xh) (Qa zo) (by rw[em];rfl)) ?_;refine Kn (ρ1:=[S0,S1,S2,O (.own []),zp]) (YQ (Rs U5 (Qa zo)) (Qa zo) zo) ?_
 let R:Nat->zu:=λk=>(UF k).map λr:Nat=>(((g1++g2).count (1+(r:Int)):Nat):Int)
 apply Ze;apply Z9 (λk ρ=>∃x,ρ=[S0,S1,S2,O (.own ((R k).map int)),x])
 case h1=>exact Wn (UY (UW zo) U5) (Ws (by lia) (by lia))
 case h0=>exact⟨_,rfl⟩
 case hst=>
  rintro k d ρ hk ⟨x,rfl⟩;obtain⟨rfl,hlt⟩:=WS hk;refine⟨_,U3 (Qa zo) zo,?_⟩;rw[JD];unfold HC
  let S3:Option Sl:=O (.own ((R k).map int))
  let S4:Option Sl:=O (.pub (.int (k:Nat)))
  let P:List (Nat×zu):=[(L1,g1),(L2,g2)]
  have hc:K4 (gN 5) (ZF (oIB λi j=>decide (i<j)) 4 (U1 Zi (Zp 5) (U2 (.int 1)))) (Kb 5 (UU 4)) (P.map λp=>UH ((Kk p.1 p.2).map int)) (KE [S0,S1,S2,S3,S4]++UG 1 zp) []=O (((P.filter λp=>decide (k<p.1)).map λp=>((p.2.count (1+(k:Int)):Nat):Int)).map int):=by
   refine(Wq (λp:Nat×zu=>UH ((Kk p.1 p.2).map int)) (λp=>decide (k<p.1)) (λp=>int ((p.2.count (1+(k:Int)):Nat):Int)) (λρ=>∃x,ρ=[S0,S1,S2,zp,S4,x]) P _ [] ?_ ⟨zp,rfl⟩ (show 0+2<=1000000 by decide)).trans (by rw[QR,QQ];rfl);rintro p hp ρ ⟨x,rfl⟩;have hl:Kp [.list ((Kk p.1 p.2).map int)]=O (.int ((p.1+1:Nat):Int)):=by rw[Zw,Qb,Wr]
   refine⟨_,U3 (Qa zo) zo,Yx zo (Ki (ZI zo hl) Kd Xh) (by rw[Hh];congr 1;rw[Jv,QN,QN];lia),λz=>?_,_,rfl⟩;have z:=Qa z;refine K1 zo (UW zo) (ZP ?_);unfold Kk;rw[Qd,Qq (by rw[Qb,Qo];exact z),Qd,QJ z];rfl
  have hs:((P.filter λp=>decide (k<p.1)).map λp=>((p.2.count (1+(k:Int)):Nat):Int)).sum=(((g1++g2).count (1+(k:Int)):Nat):Int):=by
   rw[JN];by_cases z1:k<L1<;>by_cases z2:k<L2
   .simp[P,z1,z2]
   .simp[P,z1,z2,OF o2 (k:=k) (by lia)]
   .simp[P,z1,z2,OF o1 (k:=k) (by lia)]
   .simp[P,z1,z2,OF o1 (k:=k) (by lia),OF o2 (k:=k) (by lia)]
  have hv:VZ [.list (((P.filter λp=>decide (k<p.1)).map λp=>((p.2.count (1+(k:Int)):Nat):Int)).map int)]=O (.int (((g1++g2).count (1+(k:Int)):Nat):Int)):=by rw[Ft,hs]
  refine YO (V6 zo (Yd (UY (KN (Zz (Zv (Yb (UY (UW zo) (UY (UW zo) U5)) (Qa zo)) Z0) hc)) U5) hv) zo (by rw[Qb,Qb,Qo];lia) zo) (ZD ⟨O (.pub (.int (k:Nat))),?_⟩)
  have:R (k+1)=R k++[(((g1++g2).count (1+(k:Int)):Nat):Int)]:=by
   show(UF (k+1)).map _=_
   rw[JK,Qu];rfl
  rw[this,Qu];rfl
 case hend=>
 rintro ρ ⟨x,rfl⟩;rw[YV,show((M:Int)-0).toNat=M by lia];have c1:Kk L1 g1≠[]:=λz=>by rw[z]at n1;cases n1
 have c2:Kk L2 g2≠[]:=λz=>by rw[z]at n2;cases n2
 have i1:=Fe c1;have i2:=Fe c2;rw[xj]at i1 i2;refine Zj (KJ (Ki (Xi zo zo) (Yb (UY (Ki (K1 zo (Tr Kd) i1) (K1 zo (Tr Kd) i2) ZA) U5) (Qa zo)) (YW (by rw[Qb,Qb,Qo,QX];lia))) ?_);unfold Kk;rw[Qu,JN,Int.natCast_add];rfl
section
variable{cs zM:zu}{ls zL:List (List zu)}{us ws:LO}{o:Ord}
theorem xi(h1:ls.length<=1000)(h2:∀rs∈ls,rs.length<=1000):VO [Kr cs ls]=O (Kr cs ls):=by
 refine K5 (ρ:=[pb (Kr cs ls),zp,zp]) zo ?_;unfold Sz
 let S0:Option Sl:=O (.pub (Kr cs ls))
 let S1:Option Sl:=O (.pub (.list (cs.map int)))
 let S2:Option Sl:=O (.pub (.list (ls.map KY)))
 refine Kn (ρ1:=[S0,S1,S2]) (Y9 (UW zo) (Kw zo (U7 (U3 (Qa zo) zo) (U7 (U3 (Qa zo) zo) Kx)))) ?_;refine KJ (Yu (UY (KN (Po zo zo)) (UY (KN (Zz (Zv (UW zo) Z0) ((Wq KY (λ_=>zq) KY (λρ=>∃y,ρ=[S0,S1,S2,y]) ls _ [] ?_ ⟨zp,rfl⟩ (by rw[Qw];lia)).trans (by rw[QR,JH.mpr (λ_ _=>rfl)])))) U5)) (Qa zo)) zo;rintro rs hr ρ ⟨y,rfl⟩;refine⟨_,U3 (Qa zo) zo,rfl,λ_=>KN (Zz (Zv (UW zo) Z0) ((Wq Zn (λ_=>zq) Zn (λρ=>∃y,ρ=[S0,S1,S2,pb (KY rs),y]) rs _ [] ?_ ⟨zp,rfl⟩ (by have:=h2 rs hr;rw[Qw];lia)).trans (by rw[QR,JH.mpr (λ_ _=>rfl)]))),_,rfl⟩;rintro r _ ρ ⟨y,rfl⟩;exact⟨_,U3 (Qa zo) zo,rfl,λ_=>KN (Po zo zo),_,rfl⟩
theorem ym(g:Good cs ls)(g2:Good zM zL)(g3:Good (cs++zM) (jnL cs.length ls zL)):VM [Kr cs ls,Kr zM zL]=O (Kr (cs++zM) (jnL cs.length ls zL)):=by
 have a6:=g.c6;have b6:=g2.c6;have a7:=g.l7;have b7:=g2.l7;refine K5 (ρ:=[pb (Kr cs ls),pb (Kr zM zL),zp,zp,zp,zp,zp,zp]) zo ?_;unfold Sx
 let S0:Option Sl:=O (.pub (Kr cs ls))
 let S1:Option Sl:=O (.pub (Kr zM zL))
 let S2:Option Sl:=O (.pub (.list (cs.map int)))
 let S3:Option Sl:=O (.pub (.list (ls.map KY)))
 let S4:Option Sl:=O (.pub (.list (zM.map int)))
 let S5:Option Sl:=O (.pub (.list (zL.map KY)))
 refine Kn (Y7 (Km (UY (UW zo) U5) zo (Vc g))) ?_;refine Kn (Y7 (Km (UY (UW zo) U5) zo (Vc g2))) ?_;refine Kn (ρ1:=[S0,S1,S2,S3,zp,zp,zp,zp]) (Y9 (UW zo) (Kw zo (U7 (U3 (Qa zo) zo) (U7 (U3 (Qa zo) zo) Kx)))) ?_;refine Kn (ρ1:=[S0,S1,S2,S3,S4,S5,zp,zp]) (Y9 (UW zo) (Kw zo (U7 (U3 (Qa zo) zo) (U7 (U3 (Qa zo) zo) Kx)))) ?_;refine Kn (ρ1:=[S0,S1,S2,S3,S4,S5,O (.own ((zL.map (shL cs.length)).map KY)),zp]) (YQ (Aw g g2) (Qa zo) zo) ?_;have et:PyData.tuple [.list (cs.map int++zM.map int),.list (ls.map KY++(zL.map (shL cs.length)).map KY)]=Kr (cs++zM) (jnL cs.length ls zL):=by unfold Kr jnL;rw[Qu,Qu]
 let S6:Option Sl:=O (.pub (.list ((zL.map (shL cs.length)).map KY)))
 refine Kn (ρ1:=[S0,S1,S2,S3,S4,S5,S6,pb (Kr (cs++zM) (jnL cs.length ls zL))]) (KM (Yu (UY (Ki (UW zo) (UW zo) (YW (by rw[Qb,Qb];lia))) (UY (Ki (UW zo) (Xi zo zo) (YW (by rw[Qb,Qb,Qb];lia))) U5)) (Qa zo)) (Qa zo) (by rw[et];rfl)) ?_;refine Kn (kg (Y7 (Km (UY (UW zo) U5) zo (Vc g3)))) ?_;exact KJ (Km (UY (UW zo) U5) zo (xi (by have:=g3.l7;lia) λrs h=>by have:=(g3.rk rs h).few;lia)) zo
theorem xg(g:Good cs ls)(h1:us.length<=1000)(h:ws.length<=1000):WH [Kr cs ls,Kl us,Kl ws]=O (Kl (us++ws.map (shO cs.length))):=by rw[Av g h1 h];unfold bsL Kl;rw[Qu]
theorem At(g:Good cs ls)(g2:Good zM zL)(g3:Good (cs++zM) (jnL cs.length ls zL)):Vq [Kr cs ls,Kr zM zL,Kr (cs++zM) (jnL cs.length ls zL),K6 o zp []]=O (.bool zq):=by
 obtain⟨w1,T1,as1,ps1,L1,hw1,q1⟩:=MN (o:=o) g ga0;obtain⟨w2,T2,aF,ax,L2,hw2,q2⟩:=MN (o:=o) g2 ga0;obtain⟨w3,T3,af,z9,L3,hw3,q3⟩:=MN (o:=o) g3 ga0;obtain⟨et,ea,ep⟩:=CT g g2 g3 q1 q2 q3;have a6:=g.c6;have b6:=g2.c6;have a7:=g.l7;have b7:=g2.l7;have c6:=g3.c6;have c7:=g3.l7;have f42:=NN g;have f42':=NN g2
 let W1:=XI cs.length as1 ps1 L1
 let W2:=XI zM.length aF ax L2
 let W3:=XI (cs++zM).length af z9 L3
 refine K5 (ρ:=[pb (Kr cs ls),pb (Kr zM zL),pb (Kr (cs++zM) (jnL cs.length ls zL)),pb (K6 o zp []),zp,zp,zp,zp]) zo ?_;unfold TQ
 let S0:Option Sl:=O (.pub (Kr cs ls))
 let S1:Option Sl:=O (.pub (Kr zM zL))
 let S2:Option Sl:=O (.pub (Kr (cs++zM) (jnL cs.length ls zL)))
 let S3:Option Sl:=O (.pub (K6 o zp []))
 let S4:Option Sl:=O (.own [W1,W2,W3])
 have hc:K4 (gN 8) (U2 zq) (U4 2 XY (UX (UU 8) (UX (UU 3) (UV)))) [Kr cs ls,Kr zM zL,Kr (cs++zM) (jnL cs.length ls zL)] (KE [S0,S1,S2,S3,zp,zp,zp,zp]++UG 1 zp) []=O [W1,W2,W3]:=by
  refine(Xa (λρ=>∃x,ρ=[S0,S1,S2,S3,zp,zp,zp,zp,x]) [Kr cs ls,Kr zM zL,Kr (cs++zM) (jnL cs.length ls zL)] [W1,W2,W3] _ [] zo ?_ ⟨zp,rfl⟩ (show 0+3<=1000000 by decide)).trans zo;rintro i d e hd he ρ ⟨x,rfl⟩
  have hf:XY [d,K6 o zp []]=O e:=by
   match i,hd,he with
   |0,hd,he=>cases hd;cases he;exact hw1
   |1,hd,he=>cases hd;cases he;exact hw2
   |2,hd,he=>cases hd;cases he;exact hw3
   |i+3,hd,he=>cases hd
  exact⟨_,U3 (Qa zo) zo,rfl,Km (UY (UW zo) (UY (UW zo) U5)) zo hf,_,rfl⟩
 refine Kn (ρ1:=[S0,S1,S2,S3,S4,zp,zp,zp]) (YQ (Zz (Zv (Yb (UY (UW zo) (UY (UW zo) (UY (UW zo) U5))) (Qa zo)) Z0) hc) (Qa zo) zo) ?_;have i0:oIx (.list [W1,W2,W3]) (.int 0)=O W1:=ZP (j:=0) zo;have i1:oIx (.list [W1,W2,W3]) (.int 1)=O W2:=ZP (j:=1) zo;have i2:oIx (.list [W1,W2,W3]) (.int 2)=O W3:=ZP (j:=2) zo;have nl:Kp [.list (ls.map KY)]=O (.int (ls.length:Nat)):=by rw[Zw,Qb]
 have nc:Kp [.list (cs.map int)]=O (.int (cs.length:Nat)):=by rw[Zw,Qb]
 let S5:Option Sl:=O (.pub (.int (ls.length:Nat)))
 let S6:Option Sl:=O (.pub (.int (cs.length:Nat)))
 refine Kn (ρ1:=[S0,S1,S2,S3,S4,S5,zp,zp]) (KM (Yd (UY (K1 zo Kd Tk) U5) nl) (Qa zo) zo) ?_;refine Kn (ρ1:=[S0,S1,S2,S3,S4,S5,S6,zp]) (KM (Yd (UY (K1 zo Kd SO) U5) nc) (Qa zo) zo) ?_
 let A1:=Wc (plain ls o) (Kf 0 ls) ((cs.length+1:Nat):Int) as1 ps1
 let A2:=Wc (plain zL o) (Kf 0 zL) ((zM.length+1:Nat):Int) aF ax
 have p1:=La (L:=L1) g (ga0 (n:=cs.length)) (o:=o) q1.ok.la q1.ok.lp;have p2:=La (L:=L2) g2 (ga0 (n:=zM.length)) (o:=o) q2.ok.la q2.ok.lp;have p3:=La (L:=L3) g3 (ga0 (n:=(cs++zM).length)) (o:=o) q3.ok.la q3.ok.lp;have f1:A1.length<=42:=QM (Js _ _) f42;have f2:A2.length<=42:=QM (Js _ _) f42';rw[et]at p3
 let Z:=A1++A2.map (shQ ls.length cs.length)
 let S7:Option Sl:=O (.pub (.list (A1.map Kz)))
 let S8:Option Sl:=O (.pub (.list (Z.map Kz)))
 refine Kn (ρ1:=[S0,S1,S2,S3,S4,S5,S6,S7]) (KM (Km (UY (UW zo) (UY (UW zo) (UY (We zo Kd zo i0) U5))) zo p1) (Qa zo) zo) ?_;have hc2:K4 (gT 2 (gNC (gN 8) (gNC (gN 9) gN0))) (U2 zq) (KI (UX (U1 Ke (UU 8) (UU 5)) (UX (U1 Ke (UU 9) (UU 6)) (UV)))) (A2.map Kz) (KE [S0,S1,S2,S3,S4,S5,S6,S7]++UG 2 zp) []=O ((A2.map (shQ ls.length cs.length)).map Kz):=by refine(Wq Kz (λ_=>zq) (λq=>Kz (shQ ls.length cs.length q)) (λρ=>∃x y,ρ=[S0,S1,S2,S3,zp,S5,S6,S7,x,y]) A2 _ [] ?_ ⟨zp,zp,rfl⟩ (by rw[Qw];lia)).trans (by rw[QR,JH.mpr (λ_ _=>rfl),QQ];rfl);rintro q _ ρ ⟨x,y,rfl⟩;exact⟨_,Kw zo (U7 (U3 (Qa zo) zo) (U7 (U3 (Qa zo) zo) Kx)),rfl,λ_=>Yu (UY (Ki (UW zo) (UW zo) ZA) (UY (Ki (UW zo) (UW zo) ZA) U5)) (Qa zo),_,_,rfl⟩
 refine Kn (ρ1:=[S0,S1,S2,S3,S4,S5,S6,S8]) (KM (Ki (UW zo) (KN (Zz (Zv (Km (UY (UW zo) (UY (UW zo) (UY (We zo Kd zo i1) U5))) zo p2) Z0) hc2)) (YW (by rw[Qb,Qb,Qb];lia))) (Qa zo) (by show [S0,S1,S2,S3,S4,S5,S6,O (Sl.pub (.list (A1.map Kz++(A2.map (shQ ls.length cs.length)).map Kz)))]=_;rw[←Qu])) ?_;have hne:oNe (.list (Z.map Kz)) (.list (Z.map Kz))=O zr:=HZ (qR Z) (by have:=qQ Z;lia);apply Ze;refine K9 (b:=zr) (ρ1:=[S0,S1,S2,S3,S4,S5,S6,S8]) (Ki (Km (UY (UW zo) (UY (UW zo) (UY (We zo Kd zo i2) U5))) zo p3) (UW zo) hne) (λz=>by cases z) λ_=>Zo (Zj ?_)
 have posl:∀xs:zu,(ZE xs).length<=xs.length:=λxs=>by unfold ZE;rw[Qb];have:=Js (λi=>decide (0<xs.getD i 0)) (UF xs.length);rwa[Qo]at this
 have r1:=posl as1;have r2:=posl aF;have r3:=posl ps1;have r4:=posl ax;rw[q1.ok.la]at r1;rw[q2.ok.la]at r2;rw[q1.ok.lp]at r3;rw[q2.ok.lp]at r4
 have up:∀(xs:zu)(j:Nat)(n:Int),(j=5/\n=(ls.length:Int))∨(j=6/\n=(cs.length:Int))->xs.length<=100->K4 (gN 8) (U2 zq) (U1 Ke (UU 8) (UU j)) (xs.map int) (KE [S0,S1,S2,S3,S4,S5,S6,S8]++UG 1 zp) []=O ((xs.map λx=>x+n).map int):=λxs j n hj hx=>by
  refine(Wq int (λ_=>zq) (λx=>int (x+n)) (λρ=>∃x,ρ=[S0,S1,S2,S3,zp,S5,S6,S8,x]) xs _ [] ?_ ⟨zp,rfl⟩ (by rw[Qw];lia)).trans (by rw[QR,JH.mpr (λ_ _=>rfl),QQ];rfl);rintro t _ ρ ⟨x,rfl⟩;rcases hj with ⟨rfl,rfl⟩|⟨rfl,rfl⟩
  .exact⟨_,U3 (Qa zo) zo,rfl,λ_=>Ki (UW zo) (UW zo) ZA,_,rfl⟩
  .exact⟨_,U3 (Qa zo) zo,rfl,λ_=>Ki (UW zo) (UW zo) ZA,_,rfl⟩
 have sv3:=MQ (cs:=cs++zM) (ps:=z9) (L:=L3) (as:=af) (by rw[q3.ok.la];lia);rw[ea,Qu]at sv3;have fl3:=Mx (cs:=cs++zM) (ps:=z9) (L:=L3) (as:=af) (by rw[q3.ok.lp];lia);rw[ep,Qu]at fl3;have ni:∀{xs ys:zu},oNe (.list (xs.map int++ys.map int)) (.list (xs.map int++ys.map int))=O zr:=λ{xs ys}=>by rw[←Qu];exact NF
 have ei:∀{xs ys:zu},oEq (.list (xs.map int++ys.map int)) (.list (xs.map int++ys.map int))=O zq:=λ{xs ys}=>by rw[←Qu];exact Au
 apply Ze;refine K9 (b:=zr) (ρ1:=[S0,S1,S2,S3,S4,S5,S6,S8]) (Ki (Km (UY (We zo Kd zo i2) U5) zo sv3) (Ki (Km (UY (We zo Kd zo i0) U5) zo (MQ (ps:=ps1) (L:=L1) (by rw[q1.ok.la];lia))) (KN (Zz (Zv (Km (UY (We zo Kd zo i1) U5) zo (MQ (ps:=ax) (L:=L2) (by rw[q2.ok.la];lia))) Z0) (up _ 5 _ (.inl ⟨rfl,rfl⟩) (by lia)))) (YW (by rw[Qb,Qb,Qb];lia))) ni) (λz=>by cases z) λ_=>Zo (Zj ?_)
 exact KJ (KN (Ki (Km (UY (We zo Kd zo i2) U5) zo fl3) (Ki (Km (UY (We zo Kd zo i0) U5) zo (Mx (as:=as1) (L:=L1) (by rw[q1.ok.lp];lia))) (KN (Zz (Zv (Km (UY (We zo Kd zo i1) U5) zo (Mx (as:=aF) (L:=L2) (by rw[q2.ok.lp];lia))) Z0) (up _ 6 _ (.inr ⟨rfl,rfl⟩) (by lia)))) (YW (by rw[Qb,Qb,Qb];lia))) ei)) zo
end
theorem qP:∀ns:zu,ns.length<=63->Vp [.list (ns.map int)]=O (.bool zq):=by
 intro ns hns;refine K5 (ρ:=[pb (.list (ns.map int)),zp,zp,zp,zp,zp,zp,zp,zp,zp,zp]) zo ?_;unfold TN;obtain⟨r,hr,cs,ls,rfl,g,a1,a2,_⟩:=Dh 2 3 3 (ns:=ns) (by lia) 0;obtain⟨r,zT,zM,zL,rfl,g2,b1,b2,_⟩:=Dh 3 3 4 (ns:=ns) (by lia) 5;have g3:Good (cs++zM) (jnL cs.length ls zL):=Ax g g2 (by lia) (by lia)
 let S0:Option Sl:=O (.pub (.list (ns.map int)))
 let S1:Option Sl:=O (.pub (Kr cs ls))
 let S2:Option Sl:=O (.pub (Kr zM zL))
 let S3:Option Sl:=O (.pub (Kr (cs++zM) (jnL cs.length ls zL)))
 refine Kn (ρ1:=[S0,S1,zp,zp,zp,zp,zp,zp,zp,zp,zp]) (KM (Km (UY (UW zo) (UY Kd (UY Kd (UY Kd (UY Kd U5))))) zo hr) (Qa zo) zo) ?_;refine Kn (ρ1:=[S0,S1,S2,zp,zp,zp,zp,zp,zp,zp,zp]) (KM (Km (UY (UW zo) (UY Kd (UY Kd (UY Kd (UY Kd U5))))) zo zT) (Qa zo) zo) ?_;refine Kn (ρ1:=[S0,S1,S2,S3,zp,zp,zp,zp,zp,zp,zp]) (KM (Km (UY (UW zo) (UY (UW zo) U5)) zo (ym g g2 g3)) (Qa zo) zo) ?_;apply Ze;apply Z9 (λ_ ρ=>∃x4 x5 x6 x7 x8 x9 zP,ρ=[S0,S1,S2,S3,x4,x5,x6,x7,x8,x9,zP])
 case h1=>exact Zv (Yb (UY Kd (UY Kd (UY Kd U5))) (Qa zo)) Z0
 case h0=>exact⟨_,_,_,_,_,_,_,rfl⟩
 case hst=>
  rintro j d ρ hj ⟨x4,x5,x6,x7,x8,x9,zP,rfl⟩
  obtain⟨o,rfl⟩:∃o:Ord,d=.str o.tx:=by
   match j,hj with
   |0,hj=>cases hj;exact⟨.firsts,rfl⟩
   |1,hj=>cases hj;exact⟨.full,rfl⟩
   |2,hj=>cases hj;exact⟨.lasts,rfl⟩
   |j+3,hj=>simp at hj
  refine⟨_,U3 (Qa zo) zo,?_⟩;unfold Gh
  let S4:Option Sl:=O (.pub (.str o.tx))
  let S5:Option Sl:=O (.pub (K6 o zp []))
  obtain⟨u1,d1,hb1,o1⟩:=Mw (o:=o) g ga0;obtain⟨u2,d2,hb2,o2⟩:=Mw (o:=o) g2 ga0;obtain⟨u3,d3,hb3,o3⟩:=Mw (o:=o) g3 ga0;have l1:=o1.dl.len;have l2:=o2.dl.len;have a7:=g.l7;have b7:=g2.l7
  let B:=u1++u2.map (shO cs.length)
  have oB:OptQ (cs++zM) (jnL cs.length ls zL) o zp [] B:=(Nn g g2 o1.dl o2.dl).mpr ⟨o1,o2⟩;have ec:Kk (lng (jnL cs.length ls zL)) (U6 (jnL cs.length ls zL) u3)=Kk (lng (jnL cs.length ls zL)) (U6 (jnL cs.length ls zL) B):=(qT g3 ga0 oB o3).1;have eB:Kk (lng (jnL cs.length ls zL)) (U6 (jnL cs.length ls zL) B)=Kk (max (lng ls) (lng zL)) (U6 ls u1++U6 zL u2):=by rw[RY g.l1 g2.l1,Hz l1]
  have hix:∀(us:LO)(d:D),oIx (.tuple [Kl us,d]) (.int 0)=O (Kl us):=λus d=>ZP (j:=0) zo
  let S6:Option Sl:=O (.pub (Kl u1))
  let S7:Option Sl:=O (.pub (Kl u2))
  let S8:Option Sl:=O (.pub (Kl u3))
  let S9:Option Sl:=O (.pub (Kl B))
  let DU:=Kk (max (lng ls) (lng zL)) (U6 ls u1++U6 zL u2)
  let S10:Option Sl:=O (.pub (.list (DU.map int)))
  refine Kn (ρ1:=[S0,S1,S2,S3,S4,S5,x6,x7,x8,x9,zP]) (KM (Yu (UY (UW zo) (UY Kd (UY (Yb U5 (Qa zo)) U5))) (Qa zo)) (Qa zo) zo) ?_;refine Kn (ρ1:=[S0,S1,S2,S3,S4,S5,S6,x7,x8,x9,zP]) (KM (Ki (Km (UY (UW zo) (UY (UW zo) U5)) zo hb1) Kd (hix _ _)) (Qa zo) zo) ?_;refine Kn (ρ1:=[S0,S1,S2,S3,S4,S5,S6,S7,x8,x9,zP]) (KM (Ki (Km (UY (UW zo) (UY (UW zo) U5)) zo hb2) Kd (hix _ _)) (Qa zo) zo) ?_;refine Kn (ρ1:=[S0,S1,S2,S3,S4,S5,S6,S7,S8,x9,zP]) (KM (Ki (Km (UY (UW zo) (UY (UW zo) U5)) zo hb3) Kd (hix _ _)) (Qa zo) zo) ?_;refine Kn (ρ1:=[S0,S1,S2,S3,S4,S5,S6,S7,S8,S9,zP]) (KM (Km (UY (UW zo) (UY (UW zo) (UY (UW zo) U5))) zo (xg g (by lia) (by lia))) (Qa zo) zo) ?_;have hL1:lng ls<=100:=by obtain⟨r,hr,e⟩:=RW g.l1;have:=(g.rk r hr).few;lia
  have hL2:lng zL<=100:=by obtain⟨r,hr,e⟩:=RW g2.l1;have:=(g2.rk r hr).few;lia
  refine Kn (ρ1:=[S0,S1,S2,S3,S4,S5,S6,S7,S8,S9,S10]) (KM (Km (UY (Km (UY (UW zo) (UY (UW zo) U5)) zo (Pz g l1)) (UY (Km (UY (UW zo) (UY (UW zo) U5)) zo (Pz g2 l2)) U5)) zo (yb Wi Wi hL1 hL2)) (Qa zo) zo) ?_;have c3:=Pz g3 o3.dl.len;rw[ec,eB]at c3;have cB:=Pz g3 oB.dl.len;rw[eB]at cB;apply Ze;refine K9 (b:=zr) (ρ1:=[S0,S1,S2,S3,S4,S5,S6,S7,S8,S9,S10]) (WX (Ki (Km (UY (UW zo) (UY (UW zo) U5)) zo c3) (UW zo) NF) (Ki (Km (UY (UW zo) (UY (UW zo) U5)) zo cB) (UW zo) NF)) (λz=>by cases z) λ_=>Zo (Zj ?_)
  have s3:=Fd (ts:=[]) (o:=o) g3 o3.dl.len (ga0 (n:=(cs++zM).length));have sB:=Fd (ts:=[]) (o:=o) g3 oB.dl.len (ga0 (n:=(cs++zM).length));have es:V4 (jnL cs.length ls zL) zp [] u3=V4 (jnL cs.length ls zL) zp [] B:=by unfold V4;rw[ec];rfl
  rw[es]at s3;apply Ze;refine K9 (b:=zr) (ρ1:=[S0,S1,S2,S3,S4,S5,S6,S7,S8,S9,S10]) (Ki (Km (UY (UW zo) (UY (UW zo) (UY (UW zo) U5))) zo sB) (Km (UY (UW zo) (UY (UW zo) (UY (UW zo) U5))) zo s3) (HZ xm xk)) (λz=>by cases z) λ_=>Zo (Zj ?_)
  have v3:=EN (o:=o) (ts:=[]) g3 (ga0 (n:=(cs++zM).length)) o3.dl.len;have vB:=EN (o:=o) (ts:=[]) g3 (ga0 (n:=(cs++zM).length)) oB.dl.len;have ew:=vZ (o:=o) g3 o3.dl oB.dl ec;rw[show KS (KG (Zr (jnL cs.length ls zL) o zp []) 0 (jnL cs.length ls zL) u3)=KS (KG (Zr (jnL cs.length ls zL) o zp []) 0 (jnL cs.length ls zL) B)from ew]at v3;have nei:∀i:Int,oNe (.int i) (.int i)=O zr:=λi=>by rw[Ow,Jg zo];rfl
  apply Ze;refine K9 (b:=zr) (ρ1:=[S0,S1,S2,S3,S4,S5,S6,S7,S8,S9,S10]) (Ki (Km (UY (UW zo) (UY (UW zo) (UY (UW zo) U5))) zo vB) (Km (UY (UW zo) (UY (UW zo) (UY (UW zo) U5))) zo v3) (nei _)) (λz=>by cases z) λ_=>Zo (Zj ?_)
  exact K9 (b:=zr) (XG (t:=zq) (Wt (Km (UY (UW zo) (UY (UW zo) (UY (UW zo) (UY (UW zo) U5)))) zo (At g g2 g3)))) (λz=>by cases z) λ_=>Zo (ZD ⟨_,_,_,_,_,_,_,rfl⟩)
 case hend=>rintro ρ ⟨x4,x5,x6,x7,x8,x9,zP,rfl⟩;exact Zj (KJ Kd rfl)
end W
open PySem PySem.W PyProof.Rows
set_option maxRecDepth 100000 in
set_option maxHeartbeats 0 in
theorem PySem.Challenge.cw_wishdeal_k81_whole_best_counts_come_toge_holds : PySem.Challenge.rw_wishdeal_k81_whole_best_counts_come_toge.Holds := by
 w_on;o_law
 refine holds_open (q:=W.q0) (loose:=[]) (Xt:=λs=>xlAt W.q0 [] s&&recOk [] s) (XP:=XL W.q0 []) (Yf:=DL.xSeen W.clsL) (Ya:=λ_=>DL.xGood W.p0 W.clsL) (YP:=λ_ h=>DL.XYP W.p0 W.clsL h) (N:=6050) (d:=W.d_cj) (kwd:=[])
  W.CP (λ_ _ e=>DL.Co e) (λ_ _ _ y k=>y.keeps k) (λs e=>xl_of s (J5.mp e).1) XL.keeps (by rfl) (by rfl) (by rfl)
  (λs e=>recFacts_of (J5.mp e).2) (by rfl) (by assumption) (by decide +kernel) ⟨rfl,rfl,rfl,rfl,rfl,by decide +kernel⟩ ?hw (W.walk W.qP)
 case hw=>w_witness2

